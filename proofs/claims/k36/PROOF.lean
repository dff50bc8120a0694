import PyProof.Rows.All
import KE.KFromBytes
import KE.KSortTup
import KE.KIsAll
import PyProof.InstStoreFacts
import PyProof.InstSpecial
import PyProof.FString
import OpenK.KCls
import PyProof.TupleKey
import PyProof.Rows.TupTab
import PyProof.FactsAll.NoneType
import PyProof.DictRoadsH
import PyProof.Rows.TupDisplay
import KE.KDictList
import PySem.Challenge.RW_throwruns_k36_machines_put_together
set_option Elab.async false
set_option linter.all false
set_option genSizeOf false
set_option backward.eqns.nonrecursive false
set_option genSizeOfSpec false
set_option genInjectivity false
set_option maxRecDepth 100000
set_option maxHeartbeats 0
def DV.nf{P:Prop}(h:false=true):P:=absurd h Bool.false_ne_true
open List (take_append_drop mem_filter mem_range filterMap_cons mem_cons_self mem_cons_of_mem mem_cons mem_append mem_append_left getElem?_set_self getElem?_set_ne mem_filterMap mem_append_right append_nil nodup_cons of_mem_zip replicate length getElem?_append_left getElem?_map mem_of_getElem? length_append length_map size_toArray filterMap_map all_cons any_cons replicate_succ flatten_cons foldl append_assoc map_nil map_cons find?_cons map_append nodup_append mem_singleton mem_map map_map map_congr_left forIn_cons sublist_cons_self eraseIdx_sublist nil_append perm_append_comm sublist_append_right length_cons length_zip drop_eq_getElem_cons drop_length perm_middle zip_cons_cons eq_of_mem_replicate lookup_cons all_eq_true mem_nil_iff range_succ take_add_one getElem?_eq_getElem reverse_cons lookup zipWith take_of_length_le getElem_of_mem pairwise_cons contains_iff_mem filter_cons length_nil pairwise_map idxOf_lt_length_iff getElem_mem getD_eq_getElem?_getD isEmpty_iff prefix_rfl getD)
open Nat (lt_of_lt_of_le lt_irrefl ne_of_lt le_trans ne_of_gt le_refl zero_le mul_comm log2_lt lt_trans lt_succ_of_lt not_lt le_succ zero_add not_lt_zero lt_or_ge)
open PySem.W (nsOkIn nsIn clsIn typeIn findIn specialIn takesIn codeIn keepIn fnOf readsIn findCls methodObj hideAll hideAll_get of_hideAll cellsFrom_some callWith_K mroIn looks_findIn looks_mroIn kitOne kitCls isNs_of_in looks_clsIn kia_one excIn mg_of)
open PySem.Heap (lt_size get?_push_of_some get?_push_size get?_update_self get?_update_ne size_push)
noncomputable section
def qA:=@PySem.Heap.get?_push_of_some
def qB:=@PySem.wpAny_bind
def qC:=@PySem.wpAny_pure
def qD:=@List.mem_cons_of_mem
def qE:=@List.mem_cons_self
def qF:=@Bool.false_ne_true
def qG:=@List.getElem?_eq_some_iff
def qJ:=@Option.some.inj
def qK:=@List.mem_append_right
abbrev qH:=PySem.W.Frag
section
open PySem
abbrev Ls(α:Type):=List α
abbrev Lv:=Value
abbrev Lx(α:Type):=Option α
abbrev Ly:=Lv->Shared->Prop
abbrev Lz:=Addr
abbrev La:=Shared
abbrev Lb:=Expr
abbrev Lc:=Program
abbrev Ld:=Lz->Prop
abbrev Le:=World
abbrev Lf:=Array (Int×Lv)
abbrev Lg:=Around
abbrev Lh:=Stmt
abbrev Li:=Array Lv
abbrev Lj:=Int->Int->Bool
abbrev Lk:=Array (Lx Lv)
abbrev Ll:=List Str
abbrev Lm:=Nat->Heap->Prop
end
local macro_rules
 |`(tactic|exists $h:term)=>`(tactic|simpa using $h)
 |`(tactic|dsimp$[$l:location]?)=>`(tactic|dsimp only$[$l]?)
 |`(tactic|left)=>`(tactic|decide +kernel)
 |`(tactic|dsimp[$a,*]$[$l]?)=>`(tactic|simp only[$a,*]$[$l]?)
 |`(tactic|exists $e:ident,$m,$k:ident,$r:ident,$s:ident)=>`(tactic|(cases $e:ident:$m:term with|z=>rw[$e:ident]at $k:ident;exact $k|y _ _=>rw[$e:ident]at $k:ident;exact $k|ok p=>?_);(cases p with|mk $r:ident $s:ident=>?_);(rw[$e:ident]at $k:ident))
 |`(tactic|exists $e:ident,$m,$k:ident,$x:ident)=>`(tactic|(cases $e:ident:$m:term with|none=>rw[$e:ident]at $k:ident;cases $k:ident|some $x:ident=>?_);(rw[$e:ident]at $k:ident))
namespace L2
open PySem
def wK(s:Lh):Arguments:=match s with
 | .FunctionDef _ a _ _ _ _ _ _ _ _=>a|_=>{posonlyargs:=[],args:=[],vararg:=none,kwonlyargs:=[],kw_defaults:=[],kwarg:=none,defaults:=[]}
def yk(s:Lh):Ls Lh:=match s with
 | .FunctionDef _ _ b _ _ _ _ _ _ _=>b|_=>[]
def zY(s:Lh):Scope:=match s with
 | .FunctionDef _ _ _ _ _ _ a _ _ _=>a|_=>{kind:=.function,names:=[],isGenerator:=false,isCoroutine:=false}
end L2
namespace DV
open PySem L2
structure Ck(P:Prop) where
 yes:Bool
 why:yes=true->P
def Ck.d{P Q:Prop}(a:Ck P)(f:P->Ck Q):Ck Q:=⟨if h:a.yes=true then(f (a.why h)).yes else false,λh=>by
 split at h
 ·exact(f _).why h
 ·cases h⟩
abbrev bk{Q:Prop}(b:Bool)(f:b=true->Ck Q):Ck Q:=Ck.d ⟨b,id⟩ f
def bq{α:Type}[BEq α][LawfulBEq α]{Q:Prop}(a b:α)(f:a=b->Ck Q):Ck Q:=bk (a==b) λh=>f (beq_iff_eq.mp h)
def rt{P:Prop}(p:P):Ck P:=⟨true,λ_=>p⟩
instance {P:Prop}:Inhabited (Ck P):=⟨⟨false,λh=>nomatch h⟩⟩
@[elab_as_elim] def qCons{α:Type}{M:Ls α->Type}[∀e,Inhabited (M e)](e:Ls α)(f:∀a b,M (a::b)):M e:=match e with
 |a::b=>f a b| []=>default
@[elab_as_elim] def qNil{α:Type}{M:Ls α->Type}[∀e,Inhabited (M e)](e:Ls α)(f:M []):M e:=match e with
 | []=>f|_::_=>default
@[elab_as_elim] def qSome{α:Type}{M:Lx α->Type}[∀e,Inhabited (M e)](e:Lx α)(f:∀a,M (some a)):M e:=match e with
 |some a=>f a|none=>default
def y0(c:Str):Ls Str:=if c == "TooGreat" then ["many","most"]else if c == "NoText" then ["row"]else []
abbrev VB:Ls Lv:=[.type "ValueError",.type "Exception",.type "BaseException",.type "object"]
@[elab_as_elim] def qObj{M:Obj->Type}(e:Obj)(f:∀a b c d,M ⟨a,b,c,d⟩):M e:=match e with
 |⟨a,b,c,d⟩=>f a b c d
@[elab_as_elim] def qTy{M:Lv->Type}[∀e,Inhabited (M e)](e:Lv)(f:∀a,M (.type a)):M e:=match e with
 | .type a=>f a|_=>default
@[elab_as_elim] def qRef{M:Lv->Type}[∀e,Inhabited (M e)](e:Lv)(f:∀a,M (.ref a)):M e:=match e with
 | .ref a=>f a|_=>default
@[elab_as_elim] def qBui{M:Lv->Type}[∀e,Inhabited (M e)](e:Lv)(f:∀a,M (.builtin a)):M e:=match e with
 | .builtin a=>f a|_=>default
@[elab_as_elim] def qCls{M:Data->Type}[∀e,Inhabited (M e)](e:Data)(f:∀a b c d g h i j k l m,M (.cls ⟨a,b,c,d,g,h,i,j,k,l,m⟩)):M e:=match e with
 | .cls ⟨a,b,c,d,g,h,i,j,k,l,m⟩=>f a b c d g h i j k l m|_=>default
@[elab_as_elim] def qArr{M:Lk->Type}(e:Lk)(f:∀l,M ⟨l⟩):M e:=match e with
 |⟨l⟩=>f l
def clsC(K:qH)(C:Lz)(x:Lx (Lx Lv))(o:Lx Obj):Ck (K.lookup C=o->∀h,K.In h ->
  ∃e N nm q bs g n sub r a i y R L u M,h.get? C=some (excClassObj nm q C N bs e g n sub r a i y R L u M "ValueError.__new__")/\nsOkIn K N=true/\nsIn K N "__init__"=x/\OwnTail h VB e) :=
 qSome o λo=>qObj o λc i z t=>qTy c λT=>qCls z λnm bs mro p E Q n sub r a j=>qArr t λl=>qCons mro λv e=>qRef v λC'=>qCons l λw l=>qCons l λI l=>qCons l λS l=>qCons l λH l=>qCons l λk l=>qCons l λG l=>qNil l <| qSome k λk=>qBui k λid =>
  bq T "type" λB=>bq C' C λO=>bq id "ValueError.__new__" λh2=>bq j false λD=>bk (PySem.W.tailIn K VB e) λh4=>bk (nsOkIn K p) λh5=>bk (nsIn K p "__init__" == x) λJ=>rt λho h X=>by
   subst B O h2 D;exact⟨e,p,nm,E,bs,Q,n,sub,r,a,i,w,I,S,H,G,X _ _ ho,h5,beq_iff_eq.mp J,PySem.W.tail_of_in X h4⟩
def clsI(K:qH)(C:Lz)(x:Lx (Lx Lv)):Bool:=(clsC K C x (K.lookup C)).yes
abbrev excJ(K:qH)(C:Lz):Bool:=clsI K C (some none)
def zA4(K:qH)(C f:Lz):Bool:=clsI K C (some (some (.ref f)))
def initSt:Lh->Lh
 | .ClassDef _ _ _ (b::_) _ _ _ _ _ _ _=>b|s=>s
def xIn(K:qH)(c:Str)(C T:Lz):Bool:=(match clsIn K C with|some a=>a.name==c&&a.mro==[.ref C,.ref T,.type "ValueError",.type "Exception",.type "BaseException",.type "object"]|none=>false)
 && typeIn K (.ref C)==some (.type "type")&&findIn K (.ref C) "__getattribute__" == some (some (.builtin "BaseException.__getattribute__"))&&findIn K (.ref C) "__getattr__" == some none
 && findIn K (.ref C) "__class__" == some (some (.builtin "object.__class__"))&&specialIn K (.builtin "object.__class__") "__get__" == some (some (.builtin "getset_descriptor.__get__"))&&takesIn K (.builtin "object.__class__")==some true&&!(C==T)
def tIn(K:qH)(T:Lz):Bool:=(match clsIn K T with|some a=>a.mro==(.ref T::VB)|none=>false)&&typeIn K (.ref T)==some (.type "type")
def isFr:Obj->Bool
 |⟨_,_,.freed,_⟩=>true|_=>false
def uL:Ls Obj->Nat->Ls Lz->qH
 | [],_,_=>[]|_::_,_,[]=>[]
 |o::c,i,a::as=>match Nat.beq i a with
  |true=>(match isFr o with
   |true=>uL c (i+1) as|false=>(i,o)::uL c (i+1) as)
  |false=>uL c (i+1) (a::as)
def YE(h:Heap)(as:Ls Lz):qH:=uL h.objs.toList 0 as
def FvT:Type:=Bool×Str×Str×Arguments×FuncBody×Scope×Lz×Ls (Str×Lz)×Lv×Lz
def fvOf(b:Bool)(a:FuncData):FvT:=(b,a.name,a.qualname,a.params,a.body,a.scope,a.globals,a.closure,a.defaults,a.builtins)
def yg(K:qH)(n:Str):Lx FvT:=match nsIn K mainGlobals n with
 |some (some (.ref a))=>(match K.lookup a with
  |some ⟨_,_,.func c,_⟩=>some (fvOf (codeIn K c.code n&&keepIn K (.ref a)) c)|_=>none)
 |_=>none
def yl(n:Str)(st:Lh):Lx FvT:=some (fvOf true (fnOf n n (wK st) (yk st) (zY st) .none .none .none .none none .none .none))
def uM(K:qH)(n:Str):Lx Int:=match nsIn K mainGlobals n with
 |some (some (.int i _))=>some i|_=>none
def jJ(K:qH)(n:Str):Bool:=match nsIn K mainGlobals n with
 |some none=>true|_=>false
def wj(K:qH)(n:Str):Lx Lz:=match nsIn K mainGlobals n with
 |some (some (.ref a))=>some a|_=>none
def zBi(K:qH):Bool:=match K.lookup sysModules with
 |some o=>(match o.data with | .dict _ _=>true|_=>false)
 |none=>false
def zGZ(K:qH)(cl rs:Ls Str):Bool :=
 (cl.isEmpty||(match wj K "ThrowError" with
  |some T=>tIn K T&&cl.all λc=>(match wj K c with|some C=>xIn K c C T|none=>false)
  |none=>false)) &&
 (rs.all λc=>(match wj K c with|some C=>excJ K C|none=>false))&&zBi K
def iOk(K:qH)(c:Str)(C T f:Lz)(a:ClassData):Bool :=
 (keepIn K (.ref C)&&zA4 K C f&&typeIn K (.ref f)==some (.type "function")&&keepIn K (.ref f)) &&
 (readsIn K T (.type "type")&&specialIn K (.ref T) "__getattribute__" == some (some (.builtin "type.__getattribute__"))&&(match findCls K (.ref T) (.type "type") "__init__" with|some (.val (.builtin b))=>b == "ValueError.__init__" |_=>false)) &&
 (a.mro==.ref C::.ref T::VB&&a.hasDict&&findIn K (.ref C) "__setattr__" == some (some (.builtin "object.__setattr__"))&&(y0 c).all λn=>findIn K (.ref C) n==some none)
def iview(K:qH)(c q:Str):Lx FvT:=match wj K c,wj K "ThrowError" with
 |some C,some T=>(match clsIn K C with
  |some e=>(match nsIn K e.ns "__init__" with
   |some (some (.ref f))=>(match K.lookup f with
    |some ⟨_,_,.func a,_⟩=>some (fvOf (codeIn K a.code q&&iOk K c C T f e) a)|_=>none)
   |_=>none)
  |none=>none)
 |_,_=>none
def iwant(q:Str)(st:Lh):Lx FvT:=some (fvOf true (fnOf "__init__" q (wK st) (yk st) (zY st) .none .none .none .none none .none .none))
end DV
namespace My
open PySem L2 DV
def top(i:Nat):Lh:=PySem.Challenge.pw_throwruns_k36_machines_put_together.main.body.getD i (.Pass ⟨0,0,0,0⟩)
abbrev W2:Lh:=top 11
abbrev wC:Lh:=top 12
abbrev ZD:Lh:=top 17
abbrev ZE:Lh:=top 18
abbrev wq:Lh:=top 19
abbrev JZ:Lh:=top 20
abbrev Ja:Lh:=top 21
abbrev ZF:Lh:=top 22
abbrev ZG:Lh:=top 23
abbrev W3:Lh:=top 24
abbrev YF:Lh:=top 25
abbrev Zx:Lh:=top 26
abbrev Zy:Lh:=top 27
abbrev Qt:Lh:=top 28
abbrev zGa:Lh:=top 29
abbrev Qu:Lh:=top 30
abbrev Jb:Lh:=top 32
abbrev Zz:Lh:=top 33
abbrev YG:Lh:=top 34
abbrev Z0:Lh:=top 35
abbrev ZH:Lh:=top 36
abbrev Jd:Lh:=top 37
abbrev wD:Lh:=top 38
abbrev jh:Lh:=top 39
abbrev wE:Lh:=top 40
abbrev ZI:Lh:=top 41
abbrev W4:Lh:=top 42
abbrev Z3:Lh:=top 43
abbrev s_law:Lh:=top 44
def cl_:Ls Str:=["NoDie","NoRow","NoNumber","NoLine","NoMachine","NoPaper","NoText","TooGreat"]
def rs_:Ls Str:=["NoDie","NoRow","NoNumber","NoLine","NoMachine","NoPaper"]
abbrev W5:Lh:=initSt (top 9)
def lkT:Type:=Ls (Lx FvT)×Ls (Lx Int)×Ls Bool×Bool
def Z4(K:qH):lkT:=([yg K "is_whole",yg K "is_whole_within",yg K "all_within",yg K "steps_good",yg K "rising_stands",yg K "machine_good",yg K "need_machine",yg K "signs_read",yg K "need_alike",yg K "contrary",yg K "pair_behind",yg K "met_pairs",yg K "good_many",yg K "joined",yg K "both",yg K "either",yg K "_law_cell_at",yg K "_law_next",yg K "_law_pen_of",yg K "_law_draw",yg K "_law_whole",yg K "_law_kind_of",yg K "_law_machine_by",yg K "_law_machine_good",yg K "_law_no_machine",yg K "_law_pairs",yg K "_law_due",yg K "_law_told",yg K "law",iview K "TooGreat" "TooGreat.__init__"],[uM K "LEAST_SIGNS",uM K "MOST_SIGNS",uM K "MOST_STANDS"],[jJ K "ValueError",jJ K "all",jJ K "bool",jJ K "enumerate",jJ K "int",jJ K "isinstance",jJ K "len",jJ K "list",jJ K "max",jJ K "min",jJ K "range",jJ K "repr",jJ K "set",jJ K "sorted",jJ K "tuple",jJ K "zip"],zGZ K cl_ rs_)
def wants:lkT:=([yl "is_whole" W2,yl "is_whole_within" wC,yl "all_within" ZD,yl "steps_good" ZE,yl "rising_stands" wq,yl "machine_good" JZ,yl "need_machine" Ja,yl "signs_read" ZF,yl "need_alike" ZG,yl "contrary" W3,yl "pair_behind" YF,yl "met_pairs" Zx,yl "good_many" Zy,yl "joined" Qt,yl "both" zGa,yl "either" Qu,yl "_law_cell_at" Jb,yl "_law_next" Zz,yl "_law_pen_of" YG,yl "_law_draw" Z0,yl "_law_whole" ZH,yl "_law_kind_of" Jd,yl "_law_machine_by" wD,yl "_law_machine_good" jh,yl "_law_no_machine" wE,yl "_law_pairs" ZI,yl "_law_due" W4,yl "_law_told" Z3,yl "law" s_law,iwant "TooGreat.__init__" W5],[some 2,some 3,some 12],[true,true,true,true,true,true,true,true,true,true,true,true,true,true,true,true],true)
def q0:Lc:=PySem.Challenge.pw_throwruns_k36_machines_put_together
def isLaw:Lh->Bool
 | .FunctionDef f ..=>f == "law"|_=>false
def qP:Lc:={q0 with main:={q0.main with body:=q0.main.body.filter isLaw}}
def nameOf:Lh->Ls Str
 | .FunctionDef f ..=>[f]| .ClassDef f ..=>[f]| .Assign [.Name x _] _ _=>[x]|_=>[]
def ls:Ls Str:=(q0.main.body.flatMap nameOf).filter (· != "law")
def as:Ls Lz:=[1,2,3,15,22,23,24,25,28,35,36,37,40,47,48,49,52,59,60,61,64,71,72,73,76,83,84,85,88,95,96,97,100,107,109,110,112,113,114,115,116,119,126,128,129,131,132,133,134,135,138,140,141,143,144,145,147,148,150,151,152,155,156,157,160,161,162,165,166,167,169,170,172,173,174,176,177,179,180,181,183,184,186,187,188,190,191,193,194,195,198,199,200,202,203,205,206,207,209,210,212,213,214,217,218,219,222,223,224,226,227,229,230,231,233,234,236,237,238,240,241,243,244,245,247,248,250,251,252,254,255,257,258,259,261,262,264,265,266,268,269,271,272,273,275,276,278,279,280,283,284,285,288,289,290,292,293,295,296,297,299,300,302,303,304,307,308,309,311,312,314,315,316,319,320]
end My
section
open PySem PySem.W PyProof.Rows
theorem My.hz:OpenLaw.wellSaid PySem.Challenge.rw_throwruns_k36_machines_put_together=true:=by left
theorem My.h2{α β γ:Type}{o:Lx α}{f:α->β}{g:α->γ}{b:β}{c:γ}(a:o.map f=some b)(e:o.map g=some c):o.map (λs=>(f s,g s))=some (b,c):=by
 cases o with
 |none=>cases a|some s=>cases a;cases e;rfl
theorem My.hu:∀(w:Le) (a:OsState),(topFrom treeTable (OpenLaw.row PySem.Challenge.rw_throwruns_k36_machines_put_together).toRowW.prog w 5870 ⟨boot_heap w.params,#[],boot_drawn,boot_toks,a⟩).map (λs=>openSeen My.qP My.ls (importedModules (OpenLaw.row PySem.Challenge.rw_throwruns_k36_machines_put_together).toRowW.prog.main.body) (λs=>xlAt My.qP [] s&&recOk (RowW.records (OpenLaw.row PySem.Challenge.rw_throwruns_k36_machines_put_together).toRowW) s) true s)=some (openGood My.qP My.ls):=by
 intro w a
 kernel_rfl
theorem My.h4{α γ:Type}{o:Lx α}{g:α->Ls γ}{w:Ls γ}(n:Nat)(a:o.map (λs=>(g s).take n)=some (w.take n))(c:o.map (λs=>(g s).drop n)=some (w.drop n)):o.map g=some w:=by
 cases o with
 |none=>cases a|some s=>exact congrArg some ((take_append_drop n (g s)).symm.trans ((congr (congrArg HAppend.hAppend (qJ a)) (qJ c)).trans (take_append_drop n w)))
theorem My.h5{α γ δ:Type}{o:Lx α}{g:α->γ×δ}{w:γ×δ}(a:o.map (λs=>(g s).1)=some w.1)(c:o.map (λs=>(g s).2)=some w.2):o.map g=some w:=by
 cases o with
 |none=>cases a|some s=>exact congrArg some (Prod.ext (qJ a) (qJ c))
theorem My.hv0:∀(w:Le) (a:OsState),(topFrom treeTable (OpenLaw.row PySem.Challenge.rw_throwruns_k36_machines_put_together).toRowW.prog w 5870 ⟨boot_heap w.params,#[],boot_drawn,boot_toks,a⟩).map (λs=>((My.Z4 (DV.YE s.heap My.as)).1.take 20))=some (My.wants.1.take 20):=by
 intro w a
 kernel_rfl
theorem My.hv1:∀(w:Le) (a:OsState),(topFrom treeTable (OpenLaw.row PySem.Challenge.rw_throwruns_k36_machines_put_together).toRowW.prog w 5870 ⟨boot_heap w.params,#[],boot_drawn,boot_toks,a⟩).map (λs=>((My.Z4 (DV.YE s.heap My.as)).1.drop 20))=some (My.wants.1.drop 20):=by
 intro w a
 kernel_rfl
theorem My.hvc:∀(w:Le) (a:OsState),(topFrom treeTable (OpenLaw.row PySem.Challenge.rw_throwruns_k36_machines_put_together).toRowW.prog w 5870 ⟨boot_heap w.params,#[],boot_drawn,boot_toks,a⟩).map (λs=>(My.Z4 (DV.YE s.heap My.as)).2)=some My.wants.2:=by
 intro w a
 kernel_rfl
theorem My.hv(w:Le)(a:OsState):(topFrom treeTable (OpenLaw.row PySem.Challenge.rw_throwruns_k36_machines_put_together).toRowW.prog w 5870 ⟨boot_heap w.params,#[],boot_drawn,boot_toks,a⟩).map (λs=>My.Z4 (DV.YE s.heap My.as))=some My.wants:=My.h5 (My.h4 20 (My.hv0 w a) (My.hv1 w a)) (My.hvc w a)
theorem My.ht:∀(w:Le) (a:OsState),(topFrom treeTable (OpenLaw.row PySem.Challenge.rw_throwruns_k36_machines_put_together).toRowW.prog w 5870 ⟨boot_heap w.params,#[],boot_drawn,boot_toks,a⟩).map (λs=>(openSeen My.qP My.ls (importedModules (OpenLaw.row PySem.Challenge.rw_throwruns_k36_machines_put_together).toRowW.prog.main.body) (λs=>xlAt My.qP [] s&&recOk (RowW.records (OpenLaw.row PySem.Challenge.rw_throwruns_k36_machines_put_together).toRowW) s) true s,My.Z4 (DV.YE s.heap My.as)))=some (openGood My.qP My.ls,My.wants):=λw a=>My.h2 (My.hu w a) (My.hv w a)
theorem My.ho:opening (OpenLaw.row PySem.Challenge.rw_throwruns_k36_machines_put_together).toRowW.prog=plainProg (OpenLaw.row PySem.Challenge.rw_throwruns_k36_machines_put_together).toRowW.prog.main.scope.names:=by kernel_rfl
theorem My.hf:∀s,fenceModules? (OpenLaw.row PySem.Challenge.rw_throwruns_k36_machines_put_together).toRowW.prog s=some s:=by
 intro s
 kernel_rfl
theorem My.hl:LeftO (OpenLaw.row PySem.Challenge.rw_throwruns_k36_machines_put_together).toRowW.prog My.qP My.ls (λs=>xlAt My.qP [] s&&recOk (RowW.records (OpenLaw.row PySem.Challenge.rw_throwruns_k36_machines_put_together).toRowW) s) (λs=>My.Z4 (DV.YE s.heap My.as)) (λ_=>My.wants) 5870:=by
 intro w;obtain⟨s,e,hv⟩:=Option.map_eq_some_iff.mp (boot_open My.ho (N:=5870) rfl My.hf w);unfold openEnds;rw[e];obtain⟨h,g,d,t,i⟩:=s;have c:h=boot_heap w.params:=congrArg Prod.fst hv;have h2:g=#[]:=congrArg (λx=>x.2.1) hv;have a:d=boot_drawn:=congrArg (λx=>x.2.2.1) hv;have h4:t=boot_toks:=congrArg (λx=>x.2.2.2) hv;subst c;subst h2;subst a;subst h4;exact My.ht w i
end
namespace L2
open PySem PySem.Spec PyProof.Rows
abbrev Key:=Sum Int Str
def keyIs:Key->Lv->Bool
 | .inl k,v=>Value.isInt k v| .inr x,v=>Value.isStrOf x v
def keyH(w:Le):Key->Int
 | .inl k=>hashInt k| .inr x=>hashStr w x
def yK:∀{k:Key} {v:Lv},keyIs k v=true->(∃i t,k=Sum.inl i/\v=Value.int i t)\/(∃x t,k=Sum.inr x/\v=Value.str x t)
 | .inl i,v,h=>by
  obtain⟨t,e⟩:=Value.isInt_shape (k:=i) (v:=v) h;exact .inl ⟨i,t,rfl,e⟩
 | .inr x,v,h=>by
  obtain⟨t,e⟩:=Value.isStrOf_shape (x:=x) (v:=v) h;exact .inr ⟨x,t,rfl,e⟩
def key_ll(a b:Int):decide ((Sum.inl a:Key)=Sum.inl b)=(a==b):=by
 by_cases e:a=b
 ·subst e;simp
 ·have h:¬(Sum.inl a:Key)=Sum.inl b:=λq=>e (Sum.inl.inj q)
  rw[decide_eq_false h];exact(beq_eq_false_iff_ne.mpr e).symm
def key_rr(a b:Str):decide ((Sum.inr a:Key)=Sum.inr b)=decide (a=b):=by
 by_cases e:a=b
 ·subst e;simp
 ·have h:¬(Sum.inr a:Key)=Sum.inr b:=λq=>e (Sum.inr.inj q)
  rw[decide_eq_false h,decide_eq_false e]
def key_lr(a:Int)(b:Str):decide ((Sum.inl a:Key)=Sum.inr b)=false:=decide_eq_false (λq=>nomatch q)
def key_rl(a:Str)(b:Int):decide ((Sum.inr a:Key)=Sum.inl b)=false:=decide_eq_false (λq=>nomatch q)
def Gq(prog:Lc)(w:Le):PySem.KeyKind prog w Key where
 is:=keyIs
 hash:=keyH w
 inj:=λv a b g c=>by
  rcases yK g with⟨i,t,rfl,rfl⟩|⟨x,t,rfl,rfl⟩
  ·rcases yK c with⟨j,u,rfl,e⟩|⟨y,u,rfl,e⟩
   ·injection e with e1 _;rw[e1]
   ·exact nomatch e
  ·rcases yK c with⟨j,u,rfl,e⟩|⟨y,u,rfl,e⟩
   ·exact nomatch e
   ·injection e with e1 _;rw[e1]
 byValue:=λk v h=>by
  rcases yK h with⟨i,t,rfl,rfl⟩|⟨x,t,rfl,rfl⟩<;>rfl
 pyHash:=λhv h=>by
  rcases yK hv with⟨i,t,rfl,rfl⟩|⟨x,t,rfl,rfl⟩
  ·exact wpAny_pyHash_int h
  ·exact wpAny_pyHash_str h
 eqBool:=λhu hv h=>by
  rcases yK hu with⟨i,t,rfl,rfl⟩|⟨x,t,rfl,rfl⟩
  ·rcases yK hv with⟨j,u,rfl,rfl⟩|⟨y,u,rfl,rfl⟩
   ·rw[key_ll]at h;exact wpAny_eqBool_int h
   ·rw[key_lr]at h;exact SeqAt.EqAt.int_str i t y u _ _ _ _ h
  ·rcases yK hv with⟨j,u,rfl,rfl⟩|⟨y,u,rfl,rfl⟩
   ·rw[key_rl]at h;exact SeqAt.EqAt.str_int x t j u _ _ _ _ h
   ·rw[key_rr]at h;exact wpAny_eqBool_str h
 «strs»:=λk x t v h=>by
  rcases yK h with⟨i,u,rfl,e⟩|⟨y,u,rfl,e⟩
  ·exact nomatch e
  ·injection e with e1 _
   subst e1;cases v<;>rfl
set_option genInjectivity true in
inductive V where
 |non|bl (b:Bool)|int (i:Int)|str (x:Str)|byt (b:Array UInt8)|flt (b:UInt64)|ref (a:Lz)|ty (n:String)
 deriving DecidableEq
def ym:V->Lv->Prop
 | .non,u=>u=Value.none| .bl b,u=>u=Value.bool b| .int i,u=>∃t,u=Value.int i t| .str x,u=>∃t,u=Value.str x t| .byt b,u=>∃t,u=Value.bytes b t| .flt b,u=>∃t,u=Value.float b t| .ref a,u=>u=Value.ref a| .ty n,u=>u=Value.type n
abbrev yH:Ls V->Ls Lv->Prop:=Paired ym
theorem yH.length{xs:Ls V}{a:Ls Lv}(r:yH xs a):xs.length=a.length:=Paired.length r
theorem yH.get:∀{c:Ls V} {a:Ls Lv} {i:Nat} {x:V},yH c a->c[i]?=some x->∃u,a[i]?=some u/\ym x u
 |_,_,_,_,.nil,e=>by simp at e|_,_,0,_,.cons r _,e=>by simp at e;subst e;exact⟨_,rfl,r⟩
 |_,_,i+1,x,.cons _ t,e=>by
  obtain⟨u,g,h2⟩:=yH.get (i:=i) (x:=x) t (by exists e);exact⟨u,by simpa using g,h2⟩
theorem yH.set{x:V}{u:Lv}(r:ym x u):∀{c:Ls V} {a:Ls Lv} (i:Nat),yH c a->yH (c.set i x) (a.set i u)
 |_,_,_,.nil=>.nil|_,_,0,.cons _ t=>.cons r t|_,_,i+1,.cons q t=>.cons q (yH.set r i t)
theorem yH.append:∀{g c:Ls V} {a e:Ls Lv},yH g a->yH c e->yH (g++c) (a++e)
 |_,_,_,_,.nil,s=>s|_,_,_,_,.cons r t,s=>.cons r (yH.append t s)
theorem yH.take:∀{c:Ls V} {a:Ls Lv} (n:Nat),yH c a->yH (c.take n) (a.take n)
 |_,_,0,_=>.nil|_,_,_+1,.nil=>.nil|_,_,n+1,.cons r t=>.cons r (yH.take n t)
theorem yH.drop:∀{c:Ls V} {a:Ls Lv} (n:Nat),yH c a->yH (c.drop n) (a.drop n)
 |_,_,0,r=>r|_,_,_+1,.nil=>.nil|_,_,n+1,.cons _ t=>yH.drop n t
def RelO:Lx V->Lx Lv->Prop
 |some v,some u=>ym v u|none,none=>True|_,_=>False
def KV{κ:Type}:Ls (κ×V)->Ls (κ×Lv)->Prop:=Paired λ(p:κ×V) (q:κ×Lv)=>p.1=q.1/\ym p.2 q.2
def kV:Key->V
 | .inl i=>.int i| .inr x=>.str x
inductive HO where
 /-- a list -/
 |l (xs:List V)
 /-- a tuple (never changes) -/
 |t (xs:List V)
 /-- a dict whose keys are ints and texts; one whose keys are tuples of ints and texts (the empty one is both) -/
 |dK (kvs:List (Key×V))|dT (kvs:List (List Key×V))
 /-- a set of ints: its members,its size -/
 |set (S:Int->Bool) (n:Nat)
 /-- an instance of the class at C,its dict at dx,its attributes -/
 |ins (C dx:Lz) (fs:List (Str×V))
 /-- the dict of the instance at x -/
 |w (x:Lz)
 /-- the dict of an exception -/
 |xd (fs:List (Str×V))
 /-- a bound method,f of x -/
 |met (f x:Lz)
 /-- a range object lo,lo+1,.. below hi -/
 |rng (lo hi:Int)
 /-- a thing that is known to the object (the script; a dict while a loop walks it): read,never written while it is so -/
 |frz (o:Obj) (u:HO)
 /-- a code object's table -/
 |tbl (ps:Li)
 /-- any other thing,by what is true of its one object (a def of one's own: SetO a S n:=HO.ext fun h=>..) -/
 |ext (φ:Heap->Prop)
 |dN (φ:Heap->Prop)
abbrev Hp:=Lz->Lx HO
def upd(H:Hp)(a:Lz)(o:HO):Hp:=λb=>if b=a then some o else H b
def zU{H:Hp}{a:Lz}{o:HO}:upd H a o a=some o:=by unfold upd;rw[if_pos rfl]
def zG{H:Hp}{a b:Lz}{o:HO}(h:b≠a):upd H a o b=H b:=by unfold upd;rw[if_neg h]
def yY{H:Hp}{a b:Lz}{o:HO}(h:H a=some o)(h':H b=none):a≠b:=by
 intro e;subst e;rw[h]at h';cases h'
section
variable(P:Lc)(w:Le)
def zz(H:Hp)(h:Heap)(a:Lz):HO->Prop
 | .l g=>g.length<=sizeLine/\∃(e:Ls Lv) (n:Nat),yH g e/\h.get? a=some {cls:=.type "list",data:=.seq e.toArray n}| .t g=>g.length<=sizeLine/\∃e:Ls Lv,yH g e/\IsTup h a e.toArray| .dK c=>c.length<=sizeLine/\(a==sysModules)=false/\∃l,KV c l/\h.DictOf (Gq P w) a l
 | .dT c=>c.length<=sizeLine/\(a==sysModules)=false/\∃g:Ls (Ls Key×Lz×Lv),
   Paired (λ(p:Ls Key×V) (q:Ls Key×Lz×Lv)=>p.1=q.1/\H q.2.1=some (.t (p.1.map kV))/\ym p.2 q.2.2) c g /\
   ∃o r B,h.get? a=some o/\o.ExactDict/\o.data=.dict r B/\r.toList=g.map (entryOfKey (tupleKind (Gq P w)))/\(g.map (·.1)).Nodup
 | .set S n=>h.SetOf (intKind P w) a S n
 | .ins C k fs=>H k=some (.w a)/\fs.length<=1000/\k≠a/\h.get? a=some (PySem.W.instObj C k) /\
   ∃i,h.Ns1 k i/\(∀f,RelO (fs.lookup f) (i f))/\PySem.Within i (fs.map (·.1))
 | .w _=>∃o,h.get? a=some o| .xd fs=>∃i,h.Ns1 a i/\∀f,RelO (fs.lookup f) (i f)| .rng y D=>∃t u v,h.get? a=some {cls:=.type "range",data:=.fields #[.int y t,.int D u,.int 1 v]}| .frz o u=>h.get? a=some o/\zz H h a u| .tbl z=>h.get? a=some {cls:=.none,data:=.fields z}| .met f x=>h.get? a=some (methodObj (.ref f) (.ref x))| .ext φ=>φ h/\(∃o,h.get? a=some o)/\∀j h2:Heap,φ j->(∀o,j.get? a=some o->h2.get? a=some o)->φ h2| .dN φ=>φ h/\(∃o,h.get? a=some o)/\∀j h2:Heap,φ j->(∀o,j.get? a=some o->h2.get? a=some o)->φ h2
def HOk(H:Hp)(h:Heap):Prop:=∀a o,H a=some o->zz P w H h a o
end
section
variable{P:Lc}{w:Le}{H H':Hp}{h h':Heap}{a:Lz}{o:HO}
theorem zz.lt(x:zz P w H h a o):a<h.objs.size:=by
 cases o with
 |l g=>obtain⟨_,_,_,_,e⟩:=x;exact lt_size e|t g=>obtain⟨_,_,_,p⟩:=x;exact p.lt|dK c=>obtain⟨_,_,_,_,o,_,_,e,_⟩:=x;exact lt_size e|dT c=>obtain⟨_,_,_,_,o,_,_,e,_⟩:=x;exact lt_size e|set S n=>obtain⟨o,_,_,_,e,_⟩:=x;exact lt_size e|ins C q fs=>obtain⟨_,_,_,e,_⟩:=x;exact lt_size e|w y=>obtain⟨_,e⟩:=x;exact lt_size e|xd fs=>obtain⟨_,⟨_,_,_,e,_⟩,_⟩:=x;exact lt_size e|rng j r=>obtain⟨_,_,_,e⟩:=x;exact lt_size e|frz i u=>obtain⟨e,_⟩:=x;exact lt_size e|tbl k=>exact lt_size (show h.get? a=some _ from x)|met f y=>exact lt_size (show h.get? a=some _ from x)|ext φ=>obtain⟨_,⟨_,e⟩,_⟩:=x;exact lt_size e|dN φ=>obtain⟨_,⟨_,e⟩,_⟩:=x;exact lt_size e
theorem Paired.mapP{α β:Type}{F G:α->β->Prop}:∀{e:Ls α} {c:Ls β},Paired F e c->(∀a b,F a b->G a b)->Paired G e c
 |_,_,.nil,_=>.nil|_,_,.cons r t,f=>.cons (f _ _ r) (Paired.mapP t f)
def zz.stay(x:zz P w H h a o)(k:∀b u,(b=a\/H b=some (.w a))->h.get? b=some u->h'.get? b=some u)
  (O:∀b,H b=some (.w a)->H' b=some (.w a)) (R:∀b D,H b=some (.t D)->H' b=some (.t D)):zz P w H' h' a o:=by
 induction o with
 |l D=>obtain⟨z,B,n,r,e⟩:=x;exact⟨z,B,n,r,k _ _ (.inl rfl) e⟩|t D=>obtain⟨z,B,r,g,e,c⟩:=x;exact⟨z,B,r,g,k _ _ (.inl rfl) e,c⟩|dK E=>obtain⟨z,y,L,r,g,j,i,e,c⟩:=x;exact⟨z,y,L,r,g,j,i,k _ _ (.inl rfl) e,c⟩
 |dT E =>
  obtain⟨z,y,D,r,g,j,i,e,c⟩:=x;exact⟨z,y,D,Paired.mapP r λp q z=>⟨z.1,R _ _ z.2.1,z.2.2⟩,g,j,i,k _ _ (.inl rfl) e,c⟩
 |set S n=>obtain⟨g,j,i,t,e,c⟩:=x;exact⟨g,j,i,t,k _ _ (.inl rfl) e,c⟩
 |ins C W fs =>
  obtain⟨d,z,Q,e,G,⟨I,j,i,M,c⟩,r⟩:=x;exact⟨O _ d,z,Q,k _ _ (.inl rfl) e,G,⟨I,j,i,k _ _ (.inr d) M,c⟩,r⟩
 |w y=>obtain⟨g,e⟩:=x;exact⟨g,k _ _ (.inl rfl) e⟩|xd fs=>obtain⟨G,⟨I,j,i,e,c⟩,r⟩:=x;exact⟨G,⟨I,j,i,k _ _ (.inl rfl) e,c⟩,r⟩|rng V X=>obtain⟨t,u,v,e⟩:=x;exact⟨t,u,v,k _ _ (.inl rfl) e⟩|frz g u K=>obtain⟨e,q⟩:=x;exact⟨k _ _ (.inl rfl) e,K q⟩
 |tbl J =>
  have e:h.get? a=some {cls:=.none,data:=.fields J}:=x;show h'.get? a=some {cls:=.none,data:=.fields J};exact k a _ (.inl rfl) e
 |met f y =>
  have e:h.get? a=some (methodObj (.ref f) (.ref y)):=x;show h'.get? a=some (methodObj (.ref f) (.ref y));exact k a _ (.inl rfl) e
 |ext φ=>obtain⟨p,⟨o,e⟩,st⟩:=x;exact⟨st _ _ p λo q=>k _ _ (.inl rfl) q,⟨o,k _ _ (.inl rfl) e⟩,st⟩|dN φ=>obtain⟨p,⟨o,e⟩,st⟩:=x;exact⟨st _ _ p λo q=>k _ _ (.inl rfl) q,⟨o,k _ _ (.inl rfl) e⟩,st⟩
theorem HOk.lt(x:HOk P w H h)(e:H a=some o):a<h.objs.size:=(x a o e).lt
def HOk.fresh(x:HOk P w H h)(e:h.objs.size<=a):H a=none:=by
 cases q:H a with
 |none=>rfl|some u=>exact absurd (lt_of_lt_of_le (x.lt q) e) (lt_irrefl _)
def HOk.kept(x:HOk P w H h)(k:∀b u,h.get? b=some u->h'.get? b=some u):HOk P w H h':=λa o e =>
 (x a o e).stay (λb u _ q=>k b u q) (λ_ q=>q) λ_ _ q=>q
def HOk.laid(x:HOk P w H h)(k:∀b u,h.get? b=some u->h'.get? b=some u)(l:h.objs.size<=a)(g:zz P w (upd H a o) h' a o):HOk P w (upd H a o) h':=λb u e=>by
 have i:=x.fresh l;by_cases j:b=a
 ·subst j;rw[zU]at e;cases e;exact g
 ·rw[zG j]at e
  exact(x b u e).stay (λc v _ q=>k c v q) (λc q=>by rw[zG (yY q i)];exact q) λc n q=>by rw[zG (yY q i)];exact q
end
def Rd(H:Hp)(a:Lz)(u:HO):Prop:=H a=some u\/∃o,H a=some (.frz o u)
def Rd.ok{P:Lc}{w:Le}{H:Hp}{h:Heap}{a:Lz}{u:HO}(r:Rd H a u)(x:HOk P w H h):zz P w H h a u:=by
 rcases r with r|⟨o,r⟩
 ·exact x a u r
 ·obtain⟨_,q⟩:=x a _ r
  exact q
def Mut:Lx HO->Prop
 |some (.l _)=>True|some (.dK _)=>True|some (.dT _)=>True|some (.set _ _)=>True|some (.ins _ _ _)=>True|some (.ext _)=>True|some (.dN _)=>True|_=>False
section
variable{P:Lc}{w:Le}{H:Hp}{h h':Heap}{x e:Lz}{o':HO}
def HOk.write(ok:HOk P w H h)(j:Mut (H x))(B:e=x\/H e=some (.w x))(k:∀b u,b≠e->h.get? b=some u->h'.get? b=some u)(t:∃u,h'.get? e=some u)
  (p:zz P w (upd H x o') h' x o'):HOk P w (upd H x o') h':=λb u q=>by
 have g:∀c y,H c=some (.w y)->c≠x:=λc y r z=>by subst z;rw[r]at j;exact j
 have i:∀c l,H c=some (.t l)->c≠x:=λc l r z=>by subst z;rw[r]at j;exact j
 by_cases n:b=x
 ·subst n;rw[zU]at q;cases q;exact p
 ·rw[zG n]at q
  by_cases a:b=e
  ·have C:H b=some (.w x):=by
    rcases B with z|z
    ·exact absurd (a.trans z) n
    ·rw[a];exact z
   rw[q]at C;cases C;obtain⟨v,hv⟩:=t;exact⟨v,by rw[a];exact hv⟩
  ·refine(ok b u q).stay (λc v o r=>k c v ?_ r) (λc r=>by rw[zG (g c b r)];exact r) λc l r=>by rw[zG (i c l r)];exact r
   rcases o with rfl|o
   ·exact a
   ·rintro rfl
    rcases B with z|z
    ·exact g c b o z
    ·rw[o]at z;cases z;exact n rfl
end
structure Un(fs ex:List Lz)(H H':Hp)(h h':Heap):Prop where
 keep:∀b o,h.get? b=some o->H b=none->b∉fs->b∉ex->h'.get? b=some o
 slot:∀b o,h.get? b=some o->H b=none->b∈fs->b∉ex->∃sl,h'.get? b=some {o with slots:=sl}
 free:∀b o,h.get? b=some o->H b=none->b∉ex->H' b=none
 there:∀b o,h.get? b=some o->b∉ex->∃o',h'.get? b=some o'
 tups:∀b xs,H b=some (.t xs)->H' b=some (.t xs)
 frzs:∀b o u,H b=some (.frz o u)->H' b=some (.frz o u)
 tbls:∀b ps,H b=some (.tbl ps)->∃more,H' b=some (.tbl (ps++more))
section
variable{fs fs' ex ex':Ls Lz}{H H1 H2:Hp}{h h1 h2 h':Heap}{a x e:Lz}{o:HO}
def Un.any(u:Un fs ex H H1 h h1){b:Lz}{a:Obj}(q:h.get? b=some a)(n:H b=none)(c:b∉ex):∃g,h1.get? b=some {a with slots:=g}:=by
 by_cases e:b∈fs
 ·exact u.slot b a q n e c
 ·exact⟨a.slots,u.keep b a q n e c⟩
def Un.kept(k:∀b u,h.get? b=some u->h'.get? b=some u):Un fs ex H H h h' :=
 ⟨λb a q _ _ _=>k b a q,λb a q _ _ _=>⟨a.slots,k b a q⟩,λ_ _ _ n _=>n,λb a q _=>⟨a,k b a q⟩,λ_ _ q=>q,λ_ _ _ q=>q,λ_ c q=>⟨#[],by rw[q];simp⟩⟩
def Un.refl:Un fs ex H H h h:=Un.kept λ_ _ q=>q
def Un.laid(k:∀b u,h.get? b=some u->h'.get? b=some u)(e:h.objs.size<=a)(hn:H a=none):Un fs ex H (upd H a o) h h' where
 keep:=λb u q _ _ _=>k b u q
 slot:=λb u q _ _ _=>⟨u.slots,k b u q⟩
 free:=λb u q n _=>by rw[zG (ne_of_lt (lt_of_lt_of_le (lt_size q) e))];exact n
 there:=λb u q _=>⟨u,k b u q⟩
 tups:=λb c q=>by rw[zG (yY q hn)];exact q
 frzs:=λb u c q=>by rw[zG (yY q hn)];exact q
 tbls:=λb g q=>⟨#[],by rw[zG (yY q hn),q];simp⟩
def Un.write(c:Mut (H x))(p:e=x\/H e=some (.w x))(k:∀b u,b≠e->h.get? b=some u->h'.get? b=some u)(i:∃u,h'.get? e=some u):Un fs ex H (upd H x o) h h':=by
 have j:∀b,H b=none->b≠x:=λb n z=>by subst z;rw[n]at c;exact c
 have l:∀b,H b=none->b≠e:=λb n z=>by
  subst z;rcases p with r|r
  ·exact j b n r
  ·rw[n]at r;cases r
 have g:∀b u,H b=some u->¬Mut (some u)->b≠x:=λb u q nm z=>by subst z;rw[q]at c;exact nm c
 refine⟨λb u q n _ _=>k b u (l b n) q,λb u q n _ _=>⟨u.slots,k b u (l b n) q⟩,λb u q n _=>by rw[zG (j b n)];exact n,λb u q _=>?_,
  λb t q=>by rw[zG (g b _ q λz=>z)];exact q,λb u t q=>by rw[zG (g b _ q λz=>z)];exact q,λb v q=>⟨#[],by rw[zG (g b _ q λz=>z),q];simp⟩⟩
 by_cases a:b=e
 ·subst a;exact i
 ·exact⟨u,k b u a q⟩
end
def trk(h:Heap)(H:Hp):Ls Lz:=(List.range h.objs.size).filter λa=>(H a).isSome
def zER(h:Heap)(H:Hp):Heap:=hideAll h (trk h H)
def zBj(h:Heap)(H:Hp):(zER h H).objs.size=h.objs.size:=PySem.W.hideAll_size _ _
def zES{h:Heap}{H:Hp}{b:Lz}{o:Obj}(e:h.get? b=some o)(n:H b=none):(zER h H).get? b=some o :=
 hideAll_get _ e λa=>by
  have q:(H b).isSome=true:=(mem_filter.mp a).2;rw[n]at q;simp at q
def of_hidT{h:Heap}{H:Hp}{b:Lz}{o:Obj}(e:(zER h H).get? b=some o):h.get? b=some o/\H b=none:=by
 have a:h.get? b=some o:=of_hideAll (trk h H) e;refine⟨a,?_⟩;cases q:H b with
 |none=>rfl
 |some x =>
  have c:b∈trk h H:=mem_filter.mpr ⟨mem_range.mpr (lt_size a),by simp[q]⟩;have z:(zER h H).get? b=none:=PySem.W.hideAll_none (trk h H) c;rw[z]at e;cases e
def allNews(g h:Heap)(L:Lz):Ls (Lz×Obj):=(List.range h.objs.size).filterMap λa=>if a=L\/(g.get? a).isSome=true then none else(h.get? a).map λo=>(a,o)
def jQ(g h:Heap)(L d:Lz):Ls (Lz×Obj):=(allNews g h L).filter λp=>decide (p.1≠d)
structure Mod(K:qH)(mg:Str->Option Lv)(base:Heap):Prop where
 kin:K.In base
 glob:base.Ns mainGlobals mg
 blt:∃mb,base.Ns builtinsNs mb/\∀x:Str,x≠"__name__"->mb x=bootBuiltins x
 nolimit:base.NoLimit
structure Cx where
 prog:Lc
 w:Le
 K:qH
 mg:Str->Option Lv
 base:Heap
 A:Lg
 N:Ll
 s₀:La
 H₀:Hp
 env:Env
 outer:List Env
 stack:List Env
 ex:List Lz
 fn:Str->Bool
 calm:Bool
 pn:List (Lz×Obj)
 xe:Ly
def frs(l:Ls Env):Ls Lz:=l.filterMap (·.frame)
abbrev Cx.fs(X:Cx):Ls Lz:=frs X.outer
def Vis(sc:Scope)(x:Str):Prop:=sc.names.lookup x=some .local\/sc.names.lookup x=some .cell\/sc.names.lookup x=some .free
def Loc(sc:Scope)(x:Str):Prop:=sc.names.lookup x=some .local\/sc.names.lookup x=some .cell
def Look(env:Env)(h:Heap)(m:Str->Lx Lv)(x:Str)(u:Lv):Prop :=
 (env.kindOf x=some .local/\m x=some u)\/((env.kindOf x=some .cell\/env.kindOf x=some .free)/\∃c,env.cells.lookup x=some c/\h.IsCell c (some u))
structure Cx.Ok(X:Cx):Prop where
 mod:Mod X.K X.mg X.base
 kind:X.env.scope.kind=.function
 glob:X.env.globals=mainGlobals
 blt:X.env.builtins=builtinsNs
 above:X.s₀.heap.objs.size<=X.env.locals
 inj:∀x y c,X.env.cells.lookup x=some c->X.env.cells.lookup y=some c->x=y
 has:∀x,(X.env.kindOf x=some .cell\/X.env.kindOf x=some .free)->∃c,X.env.cells.lookup x=some c
 cab:∀x c,X.fn x=true->X.env.cells.lookup x=some c->X.s₀.heap.objs.size<=c
 hd:X.calm=true->X.A.handled=none
 frames:X.A.frames=some X.stack
 stk:X.stack=X.outer\/(X.stack=X.env::X.outer/\X.env.frame=some X.env.locals)
 exf:∀b∈X.ex,b≠X.env.locals/\∀x c,X.env.cells.lookup x=some c->c≠b
 bs:∀b o,X.base.get? b=some o->X.s₀.heap.get? b=some o/\X.H₀ b=none
 bsz:X.base.objs.size<=X.s₀.heap.objs.size
 noex:∀b o,X.base.get? b=some o->b∉X.ex
 exfs:∀b∈X.ex,b∉X.fs
 funs:X.s₀.heap.FunFrames X.base X.outer
 frf:∀b∈X.fs,X.H₀ b=none
structure Inv(X:Cx)(pins:List (Lz×Obj))(O:List (Option V))(H:Hp)(s:La):Prop where
 ok:X.Ok
 os:s.os=X.s₀.os
 bare:AllBare s.gens
 base:Un X.fs X.ex X.H₀ H X.s₀.heap s.heap
 loc:∃m,s.heap.Ns X.env.locals m/\∀(i:Nat) (x:Str) (v:V),X.N[i]?=some x->O[i]?=some (some v)->Vis X.env.scope x->∃u,ym v u/\Look X.env s.heap m x u
 cell:∀x c,X.env.cells.lookup x=some c->∃v,s.heap.IsCell c v
 free:H X.env.locals=none
 freeC:∀x c,X.env.cells.lookup x=some c->H c=none
 pin:∀p∈X.pn++pins,s.heap.get? p.1=some p.2/\H p.1=none/\p.1≠X.env.locals/\p.1∉X.fs/\∀v,p.2.data≠.cell v
 hok:HOk X.prog X.w H s.heap
 len:O.length=X.N.length
section
variable{X:Cx}{pins:Ls (Lz×Obj)}{O:Ls (Lx V)}{H H':Hp}{s:La}{h':Heap}
def Cx.Ok.nofr(ok:X.Ok){b:Lz}{o:Obj}(e:X.base.get? b=some o):b∉X.fs:=λa=>by
 have:=(ok.funs.mem a).1;rw[e]at this;cases this
theorem Inv.bs(I:Inv X pins O H s):∀b o,X.base.get? b=some o->s.heap.get? b=some o/\H b=none:=λb o e =>
 ⟨I.base.keep b o (I.ok.bs b o e).1 (I.ok.bs b o e).2 (I.ok.nofr e) (I.ok.noex b o e),I.base.free b o (I.ok.bs b o e).1 (I.ok.bs b o e).2 (I.ok.noex b o e)⟩
def Inv.bk(I:Inv X pins O H s):∀b o,X.base.get? b=some o->s.heap.get? b=some o:=λb o e=>(I.bs b o e).1
theorem Inv.mod(I:Inv X pins O H s):Mod X.K X.mg X.base:=I.ok.mod
def Inv.kIn(I:Inv X pins O H s):X.K.In s.heap:=I.ok.mod.kin.keeps I.bk
theorem Inv.lt(I:Inv X pins O H s):X.env.locals<s.heap.objs.size:=let ⟨_,hn,_⟩:=I.loc;hn.lt
def Inv.sz(I:Inv X pins O H s):X.s₀.heap.objs.size<=s.heap.objs.size:=le_trans I.ok.above (Nat.le_of_lt I.lt)
def Inv.nofs(I:Inv X pins O H s){a:Lz}(h:s.heap.objs.size<=a):a∉X.fs:=λc=>by
 obtain⟨_,o,ho,_⟩:=I.ok.funs.mem c;exact absurd (lt_of_lt_of_le (lt_size ho) (le_trans I.sz h)) (lt_irrefl _)
def Inv.cne(I:Inv X pins O H s):∀x c,X.env.cells.lookup x=some c->c≠X.env.locals:=λx c e z=>by
 obtain⟨v,o,ho,h⟩:=I.cell x c e;obtain⟨m,⟨j,k,i,g,a,_⟩,_⟩:=I.loc;rw[z,g]at ho;cases ho;rw[a]at h;cases h
theorem Inv.funs(I:Inv X pins O H s):s.heap.FunFrames X.base X.outer:=by
 have all:∀(l:Ls Env),(∀b∈frs l,b∈X.fs)->X.s₀.heap.FunFrames X.base l->s.heap.FunFrames X.base l:=by
  intro l
  induction l with
  |nil=>intro _ _;trivial
  |cons k r h =>
   intro g hl;obtain⟨n,⟨L,o,hf,j,ho,p⟩,i⟩:=hl;have a:L∈X.fs:=g L (by unfold frs;rw[filterMap_cons,hf];exact qE);obtain⟨q,e⟩:=I.base.slot L o ho (I.ok.frf L a) a λz=>I.ok.exfs L z a
   exact⟨n,⟨L,_,hf,j,e,p⟩,h (λb c=>g b (by unfold frs;rw[filterMap_cons,hf];exact qD _ c)) i⟩
 exact all X.outer (λ_ c=>c) I.ok.funs
theorem Inv.stack(I:Inv X pins O H s):s.heap.FunFrames X.base X.stack:=by
 rcases I.ok.stk with e|⟨e,hf⟩
 ·rw[e];exact I.funs
 ·rw[e]
  obtain⟨m,a,_⟩:=I.loc;refine .cons (by rw[I.ok.kind];decide) hf a ?_ I.funs;exact Heap.get?_none_of_le (le_trans I.ok.bsz I.ok.above)
def Inv.stkSub(I:Inv X pins O H s):∀b∈frs X.stack,b∈X.env.locals::X.fs:=λb a=>by
 rcases I.ok.stk with e|⟨e,hf⟩
 ·rw[e]at a;exact qD _ a
 ·rw[e]at a
  unfold frs at a;rw[filterMap_cons,hf]at a;exact a
def Inv.stkFree(I:Inv X pins O H s):∀b∈frs X.stack,H b=none:=λb a=>by
 rcases mem_cons.mp (I.stkSub b a)with e|a
 ·rw[e];exact I.free
 ·obtain⟨_,o,ho,_⟩:=I.ok.funs.mem a
  exact I.base.free b o ho (I.ok.frf b a) λz=>I.ok.exfs b z a
def Inv.step{g':Array GenState}{t':Nat}{d':Drawn}{ch:Ls Lz}(I:Inv X pins O H s)
  (t:∀b∈ch,(b∈X.ex\/X.s₀.heap.objs.size<=b)/\b≠X.env.locals/\(∀x c,X.env.cells.lookup x=some c->c≠b)/\∀p∈X.pn++pins,p.1≠b)
  (w:∀b o,b≠X.env.locals->b∉X.fs->b∉ch->s.heap.get? b=some o->H b=none->h'.get? b=some o)
  (D:∀b o,b≠X.env.locals->b∈X.fs->b∉ch->s.heap.get? b=some o->H b=none->∃V,h'.get? b=some {o with slots:=V}) (g:∀b o,b∉ch->s.heap.get? b=some o->H b=none->H' b=none)
  (E:∀b o,b∉ch->s.heap.get? b=some o->∃K,h'.get? b=some K)
  (M:∀b C,H b=some (.t C)->H' b=some (.t C)) (L:∀b o u,H b=some (.frz o u)->H' b=some (.frz o u)) (Q:∀b S,H b=some (.tbl S)->∃more,H' b=some (.tbl (S++more)))
  (ns:∀m,s.heap.Ns X.env.locals m->h'.Ns X.env.locals m) (Z:HOk X.prog X.w H' h') (hg:AllBare g') :
  Inv X pins O H' {s with heap:=h',gens:=g',drawn:=d',toks:=t'}:=by
 have R:∀b o,X.s₀.heap.get? b=some o->b≠X.env.locals:=λb o e=>ne_of_lt (lt_of_lt_of_le (lt_size e) I.ok.above)
 have B:∀b o,X.s₀.heap.get? b=some o->b∉X.ex->b∉ch:=λb o e a G=>by
  rcases(t b G).1 with z|z
  ·exact a z
  ·exact absurd (lt_of_lt_of_le (lt_size e) z) (lt_irrefl _)
 have h:∀x c,X.env.cells.lookup x=some c->∀v,s.heap.IsCell c v->h'.IsCell c v:=λx c e v ⟨o,ho,Y⟩=>by
  have j:c∉ch:=λz=>(t c z).2.2.1 x c e rfl
  by_cases hc:c∈X.fs
  ·obtain⟨V,q⟩:=D c o (I.cne x c e) hc j ho (I.freeC x c e)
   exact⟨_,q,Y⟩
  ·exact⟨o,w c o (I.cne x c e) hc j ho (I.freeC x c e),Y⟩
 refine⟨I.ok,I.os,hg,⟨λb o e n G a=>?_,λb o e n G a=>?_,λb o e n a=>?_,λb o e a=>?_,λb C e=>M b C (I.base.tups b C e),λb o C e=>L b o C (I.base.frzs b o C e),λb S e=>?_⟩,?_,λx c e=>?_,?_,λx c e=>?_,λp hp=>?_,Z,I.len⟩
 ·exact w b o (R b o e) G (B b o e a) (I.base.keep b o e n G a) (I.base.free b o e n a)
 ·obtain⟨V,y⟩:=I.base.slot b o e n G a
  obtain⟨W,J⟩:=D b _ (R b o e) G (B b o e a) y (I.base.free b o e n a);exact⟨W,J⟩
 ·obtain⟨K,y⟩:=I.base.there b o e a
  exact g b K (B b o e a) y (I.base.free b o e n a)
 ·obtain⟨K,y⟩:=I.base.there b o e a
  exact E b K (B b o e a) y
 ·obtain⟨m1,y⟩:=I.base.tbls b S e
  obtain⟨m2,J⟩:=Q b _ y;exact⟨m1++m2,by rw[J,Array.append_assoc]⟩
 ·obtain⟨m,hn,hl⟩:=I.loc
  refine⟨m,ns m hn,λi x v y J e3=>?_⟩;obtain⟨u,r,l⟩:=hl i x v y J e3;refine⟨u,r,?_⟩;rcases l with l|⟨k,c,e,z⟩
  ·exact .inl l
  ·exact .inr ⟨k,c,e,h x c e _ z⟩
 ·obtain⟨v,z⟩:=I.cell x c e
  exact⟨v,h x c e v z⟩
 ·obtain⟨m,⟨o,_,_,ho,_⟩,_⟩:=I.loc
  exact g _ o (λz=>(t _ z).2.1 rfl) ho I.free
 ·obtain⟨v,o,ho,Y⟩:=I.cell x c e
  exact g c o (λz=>(t c z).2.2.1 x c e rfl) ho (I.freeC x c e)
 ·obtain⟨e,n,ne,nf,d⟩:=I.pin p hp
  have j:p.1∉ch:=λz=>(t p.1 z).2.2.2 p hp rfl
  exact⟨w p.1 p.2 ne nf j e n,g p.1 p.2 j e n,ne,nf,d⟩
def Inv.un{t':Nat}(I:Inv X pins O H s)(u:Un X.fs [] H H' s.heap h')(g:HOk X.prog X.w H' h'):Inv X pins O H' {s with heap:=h',toks:=t'}:=by
 obtain⟨m,⟨o,w,q,ho,r⟩,_⟩:=id I.loc;obtain⟨p,j⟩:=u.any ho I.free (by simp);exact I.step (g':=s.gens) (d':=s.drawn) (ch:=[]) (λ_ z=>nomatch z) (λb o _ i _ e n=>u.keep b o e n i (by simp)) (λb o _ i _ e n=>u.slot b o e n i (by simp)) (λb o _ e n=>u.free b o e n (by simp)) (λb o _ e=>u.there b o e (by simp)) u.tups u.frzs u.tbls (λt k=>by
  obtain⟨v,c,h,a,l⟩:=k;rw[ho]at a;cases a;exact⟨_,c,h,j,l⟩) g I.bare
def Inv.call{g':Array GenState}{t':Nat}{d':Drawn}{ch:Ls Lz}(I:Inv X pins O H s)(u:Un (frs X.stack) ch H H' s.heap h')(k:HOk X.prog X.w H' h')(v:AllBare g')
  (g:∀b∈ch,(b∈X.ex\/X.s₀.heap.objs.size<=b)/\b≠X.env.locals/\(∀x c,X.env.cells.lookup x=some c->c≠b)/\∀p∈X.pn++pins,p.1≠b) :
  Inv X pins O H' {s with heap:=h',gens:=g',drawn:=d',toks:=t'}:=by
 obtain⟨m,⟨o,E,B,ho,r⟩,_⟩:=id I.loc;obtain⟨y,i⟩:=u.any ho I.free λz=>(g _ z).2.1 rfl
 exact I.step (ch:=ch) g (λb o i w a e n=>u.keep b o e n (λz=>(mem_cons.mp (I.stkSub b z)).elim i w) a) (λb o _ _ a e n=>u.any e n a) (λb o a e n=>u.free b o e n a) (λb o a e=>u.there b o e a) u.tups u.frzs u.tbls (λC q=>by
  obtain⟨D,j,l,h,t⟩:=q;rw[ho]at h;cases h;exact⟨_,j,l,i,t⟩) k v
def Inv.turned{t':Nat}{it:Lz}(I:Inv X pins O H s)(k:∀b o,b≠it->s.heap.get? b=some o->h'.get? b=some o)(hn:H it=none)(h:it≠X.env.locals)
  (y:it∈X.ex\/X.s₀.heap.objs.size<=it) (j:∀x c,X.env.cells.lookup x=some c->c≠it) (t:∀p∈X.pn++pins,p.1≠it):Inv X pins O H {s with heap:=h',toks:=t'}:=by
 have g:∀b u,H b=some u->b≠it:=λb u e z=>by rw[z,hn]at e;cases e
 refine I.step (g':=s.gens) (d':=s.drawn) (ch:=[it]) (λb B=>?_) (λb o _ _ a e _=>k b o (λz=>a (by simp[z])) e) (λb o _ _ a e _=>⟨o.slots,k b o (λz=>a (by simp[z])) e⟩) (λ_ _ _ _ n=>n)
  (λb o a e=>⟨o,k b o (λz=>a (by simp[z])) e⟩) (λ_ _ e=>e) (λ_ _ _ e=>e) (λb C e=>⟨#[],by rw[e];simp⟩) (λm i=>?_) (λb u e=>?_) I.bare
 ·have e:b=it:=by exists B
  subst e;exact⟨y,h,j,t⟩
 ·obtain⟨o,w,l,ho,r⟩:=i
  exact⟨o,w,l,k _ o (Ne.symm h) ho,r⟩
 ·refine(I.hok b u e).stay (λc v a q=>k c v ?_ q) (λ_ q=>q) λ_ _ q=>q
  rcases a with z|z
  ·rw[z];exact g b u e
  ·exact g c _ z
def Inv.tok(I:Inv X pins O H s)(t:Nat):Inv X pins O H {s with toks:=t}:=I.un (h':=s.heap) (t':=t) Un.refl I.hok
theorem Inv.kept{t':Nat}(I:Inv X pins O H s)(k:∀b u,s.heap.get? b=some u->h'.get? b=some u):Inv X pins O H {s with heap:=h',toks:=t'}:=I.un (Un.kept k) (I.hok.kept k)
theorem Inv.laid{a:Lz}{o:HO}{t':Nat}(I:Inv X pins O H s)(k:∀b u,s.heap.get? b=some u->h'.get? b=some u)(e:s.heap.objs.size<=a)(c:zz X.prog X.w (upd H a o) h' a o) :
  Inv X pins O (upd H a o) {s with heap:=h',toks:=t'}:=I.un (Un.laid k e (I.hok.fresh e)) (I.hok.laid k e c)
theorem Inv.write{x e:Lz}{o:HO}{t':Nat}(I:Inv X pins O H s)(g:Mut (H x))(h:e=x\/H e=some (.w x))(k:∀b u,b≠e->s.heap.get? b=some u->h'.get? b=some u)(a:∃u,h'.get? e=some u)
  (c:zz X.prog X.w (upd H x o) h' x o):Inv X pins O (upd H x o) {s with heap:=h',toks:=t'}:=I.un (Un.write g h k a) (I.hok.write g h k a c)
def Inv.pins_of{a:Ls (Lz×Obj)}(I:Inv X pins O H s)(h:∀p∈a,s.heap.get? p.1=some p.2/\H p.1=none/\p.1≠X.env.locals/\p.1∉X.fs/\∀v,p.2.data≠.cell v):Inv X a O H s :=
 ⟨I.ok,I.os,I.bare,I.base,I.loc,I.cell,I.free,I.freeC,λp c=>(mem_append.mp c).elim (λz=>I.pin p (mem_append_left _ z)) (h p),I.hok,I.len⟩
def vP{N:Ls Str}(e:N.Nodup){i j:Nat}{x:Str}(a:N[i]?=some x)(b:N[j]?=some x):i=j:=by
 obtain⟨h,c⟩:=qG.mp a;obtain⟨h2,g⟩:=qG.mp b;exact(List.getElem_inj e).mp (c.trans g.symm)
def uN{M:Model}{A:Lg}{E:Ly}{i:Nat}{x:Str}{v:V}{u:Lv}{Q:Unit->La->Prop}(I:Inv X pins O H s)(hN:X.N.Nodup)(hi:X.N[i]?=some x)(B:Loc X.env.scope x)(r:ym v u)
  (h:∀s',Inv X pins (O.set i (some v)) H s'->(∃a,Heap.SameBut a s.heap s'.heap/\(a=X.env.locals\/X.env.cells.lookup x=some a))->Q () s') (hf:X.fn x=true\/X.env.scope.names.lookup x=some .local:=by first|exact .inl rfl|exact .inr rfl|assumption):wpAny M A (storeName X.env x u) Q E s:=by
 obtain⟨m,hn,hl⟩:=id I.loc;have Y:(X.env.scope.kind==.class||(X.env.scope.kind==.module&&X.env.locals != X.env.globals))=false:=by rw[I.ok.kind];rfl
 have R:i<O.length:=by rw[I.len];exact(qG.mp hi).1
 have cne:=I.cne;have t:∀{a:Lz} {h':Heap},(∃o,s.heap.get? a=some o/\H a=none)->Heap.SameBut a s.heap h'->HOk X.prog X.w H h':=λ{a h'} ha g b ob e=>by
  obtain⟨_,_,C⟩:=ha;refine(I.hok b ob e).stay (λc w' w q=>(g.2 c ?_).trans q) (λ_ q=>q) λ_ _ q=>q
  rintro rfl
  rcases w with rfl|w
  ·rw[C]at e;cases e
  ·rw[C]at w;cases w
 rcases B with G|G
 ·refine wpAny_storeName_local G hn (λh' ab g=>?_) Y
  obtain⟨oL,_,_,ac,_⟩:=id hn;refine h _ ⟨I.ok,I.os,I.bare,⟨λb o e n L B=>?_,λb o e n L B=>?_,I.base.free,λb o e B=>?_,I.base.tups,I.base.frzs,I.base.tbls⟩,⟨_,ab,λj y v' l D e3=>?_⟩,λy c e=>?_,I.free,I.freeC,λp hp=>?_,t ⟨oL,ac,I.free⟩ g,by exists I.len⟩ ⟨_,g,.inl rfl⟩
  ·exact(g.2 b (ne_of_lt (lt_of_lt_of_le (lt_size e) I.ok.above))).trans (I.base.keep b o e n L B)
  ·obtain⟨sl,l⟩:=I.base.slot b o e n L B
   exact⟨sl,(g.2 b (ne_of_lt (lt_of_lt_of_le (lt_size e) I.ok.above))).trans l⟩
  ·obtain⟨o',l⟩:=I.base.there b o e B
   exact⟨o',(g.2 b (ne_of_lt (lt_of_lt_of_le (lt_size e) I.ok.above))).trans l⟩
  ·by_cases K:j=i
   ·subst K
    rw[hi]at l;cases l;rw[getElem?_set_self R]at D;cases D;exact⟨u,r,.inl ⟨G,by simp⟩⟩
   ·rw[getElem?_set_ne (Ne.symm K)]at D
    obtain⟨u',r',q⟩:=hl j y v' l D e3;refine⟨u',r',?_⟩;rcases q with⟨k,e⟩|⟨k,c,e,z⟩
    ·refine .inl ⟨k,?_⟩
     have:y≠x:=λe=>K (vP hN l (e▸hi))
     simp[this,e]
    ·exact .inr ⟨k,c,e,z.sameBut g (cne y c e)⟩
  ·obtain⟨w',z⟩:=I.cell y c e
   exact⟨w',z.sameBut g (cne y c e)⟩
  ·obtain⟨e,n,ne,nf,d⟩:=I.pin p hp
   exact⟨(g.2 p.1 ne).trans e,n,ne,nf,d⟩
 ·have J:X.fn x=true:=by
   rcases hf with z|z
   ·exact z
   ·rw[z]at G;cases G
  obtain⟨c,w⟩:=I.ok.has x (.inl G);obtain⟨w',z⟩:=I.cell x c w;refine wpAny_storeName_cell I.ok.kind G w z (λh' aa g=>?_);obtain⟨oc,S,Z⟩:=id z;refine h {s with heap:=h'} ⟨I.ok,I.os,I.bare,⟨λb o e n L B=>?_,λb o e n L B=>?_,I.base.free,λb o e B=>?_,I.base.tups,I.base.frzs,I.base.tbls⟩,⟨m,hn.sameBut g (Ne.symm (cne x c w)),λj y v' l D e3=>?_⟩,λy c' e=>?_,I.free,I.freeC,λp hp=>?_,t ⟨oc,S,I.freeC x c w⟩ g,by exists I.len⟩ ⟨c,g,.inr w⟩
  ·exact(g.2 b (ne_of_lt (lt_of_lt_of_le (lt_size e) (I.ok.cab x c J w)))).trans (I.base.keep b o e n L B)
  ·obtain⟨sl,l⟩:=I.base.slot b o e n L B
   exact⟨sl,(g.2 b (ne_of_lt (lt_of_lt_of_le (lt_size e) (I.ok.cab x c J w)))).trans l⟩
  ·obtain⟨o',l⟩:=I.base.there b o e B
   exact⟨o',(g.2 b (ne_of_lt (lt_of_lt_of_le (lt_size e) (I.ok.cab x c J w)))).trans l⟩
  ·by_cases K:j=i
   ·subst K
    rw[hi]at l;cases l;rw[getElem?_set_self R]at D;cases D;exact⟨u,r,.inr ⟨.inl G,c,w,aa⟩⟩
   ·rw[getElem?_set_ne (Ne.symm K)]at D
    obtain⟨u',r',q⟩:=hl j y v' l D e3;refine⟨u',r',?_⟩;rcases q with q|⟨k,c',e,z'⟩
    ·exact .inl q
    ·refine .inr ⟨k,c',e,z'.sameBut g ?_⟩
     rintro rfl
     exact K (vP hN l (I.ok.inj _ _ _ e w▸hi))
  ·by_cases W:c'=c
   ·subst W;exact⟨_,aa⟩
   ·obtain⟨w2,z2⟩:=I.cell y c' e
    exact⟨w2,z2.sameBut g W⟩
  ·obtain⟨e,n,ne,nf,d⟩:=I.pin p hp
   refine⟨(g.2 p.1 ?_).trans e,n,ne,nf,d⟩;intro q;rw[q,S]at e;have q':oc=p.2:=qJ e;exact d w' (by rw[<- q'];exact Z)
def YH{M:Model}{A:Lg}{E:Ly}{i:Nat}{x:Str}{v:V}{u:Lv}{Q:Unit->La->Prop}(I:Inv X pins O H s)(j:X.N.Nodup)(g:X.N[i]?=some x)(c:Loc X.env.scope x)(r:ym v u)
  (h:∀a,Inv X pins (O.set i (some v)) H a->Q () a) (e:X.fn x=true\/X.env.scope.names.lookup x=some .local:=by first|exact .inl rfl|exact .inr rfl|assumption):wpAny M A (storeName X.env x u) Q E s :=
 uN I j g c r (λa I' _=>h a I') e
def Inv.call'{s':La}{ch:Ls Lz}(I:Inv X pins O H s)(h:s'.os=s.os)(u:Un (frs X.stack) ch H H' s.heap s'.heap)(g:HOk X.prog X.w H' s'.heap)(j:AllBare s'.gens)
  (a:∀b∈ch,(b∈X.ex\/X.s₀.heap.objs.size<=b)/\b≠X.env.locals/\(∀x c,X.env.cells.lookup x=some c->c≠b)/\∀p∈X.pn++pins,p.1≠b):Inv X pins O H' s':=by
 obtain⟨k,g',d',t',i⟩:=s';have e:i=s.os:=h;subst e;exact I.call (g':=g') (t':=t') (d':=d') u g j a
end
abbrev XK:=Lv->Lx Lz->Hp->Prop
abbrev St:=Ls (Lx V)
abbrev VK:=V->Hp->Prop
abbrev TE:=St->Hp->VK->Prop
abbrev TT:=St->Hp->(Bool->Hp->Prop)->Prop
abbrev TA:=St->Hp->(Ls V->Hp->Prop)->Prop
structure Ends where
 nx:St->Hp->Prop
 rt:VK
 bk:St->Hp->Prop:=λ_ _=>False
 ct:St->Hp->Prop:=λ_ _=>False
abbrev TS:=Ends->St->Hp->Prop
def EP(X:Cx)(a:Ls (Lz×Obj))(O:St)(Q:VK)(u:Lv)(s':La):Prop:=∃v H',Inv X a O H' s'/\ym v u/\Q v H'
def TP(X:Cx)(a:Ls (Lz×Obj))(O:St)(Q:Bool->Hp->Prop)(b:Bool)(s':La):Prop:=∃H',Inv X a O H' s'/\Q b H'
def AP(X:Cx)(a:Ls (Lz×Obj))(O:St)(Q:Ls V->Hp->Prop)(e:Ls Lv)(s':La):Prop:=∃c H',Inv X a O H' s'/\yH c e/\Q c H'
def SP(X:Cx)(a:Ls (Lz×Obj))(D:Ends)(f:Flow)(s':La):Prop :=
 match f with
 | .next=>∃O' H',Inv X a O' H' s'/\D.nx O' H'| .brk=>∃O' H',Inv X a O' H' s'/\D.bk O' H'| .cont=>∃O' H',Inv X a O' H' s'/\D.ct O' H'| .ret u=>∃v O' H',Inv X a O' H' s'/\ym v u/\D.rt v H'
def PE(X:Cx)(e:Lb)(t:TE):Prop :=
 ∀(a:Ls (Lz×Obj)) (s:La) (O:St) (H:Hp) (Q:VK),Inv X a O H s->t O H Q->wpAny (model X.prog X.w) X.A (eval e X.env) (EP X a O Q) X.xe s
def PT(X:Cx)(e:Lb)(t:TT):Prop :=
 ∀(a:Ls (Lz×Obj)) (s:La) (O:St) (H:Hp) (Q:Bool->Hp->Prop),Inv X a O H s->t O H Q->wpAny (model X.prog X.w) X.A (isTrue e X.env (eval e X.env)) (TP X a O Q) X.xe s
def PW(X:Cx)(e:Lb)(t:TT):Prop :=
 ∀(c:Sem Lv) (a:Ls (Lz×Obj)) (s:La) (O:St) (H:Hp) (Q:Bool->Hp->Prop),Inv X a O H s->t O H Q->wpAny (model X.prog X.w) X.A (isTrue e X.env c) (TP X a O Q) X.xe s
def PW.pt{X:Cx}{e:Lb}{t:TT}(h:PW X e t):PT X e t:=h _
def PA(X:Cx)(es:Ls Lb)(t:TA):Prop :=
 ∀(c:Pos) (a:Ls (Lz×Obj)) (s:La) (O:St) (H:Hp) (Q:Ls V->Hp->Prop),Inv X a O H s->t O H Q->wpAny (model X.prog X.w) X.A (spliced (backTo c (starEach es X.env))) (AP X a O Q) X.xe s
def PS(X:Cx)(st:Lh)(t:TS):Prop :=
 ∀(a:Ls (Lz×Obj)) (s:La) (O:St) (H:Hp) (D:Ends),Inv X a O H s->t D O H->wpAny (model X.prog X.w) X.A (exec st X.env) (SP X a D) X.xe s
def PSs(X:Cx)(st:Ls Lh)(t:TS):Prop :=
 ∀(a:Ls (Lz×Obj)) (s:La) (O:St) (H:Hp) (D:Ends),Inv X a O H s->t D O H->wpAny (model X.prog X.w) X.A (execs st X.env) (SP X a D) X.xe s
def thn{α:Type}{t:Sem α}{Q c:α->La->Prop}{M:Model}{A:Lg}{E:Ly}{s:La}(h:wpAny M A t Q E s)(e:∀a s,Q a s->c a s):wpAny M A t c E s:=wpAny_mono h e λ_ _ x=>x
section
variable{X:Cx}
def bin{a b:Lb}{k j:TE}(t:PE X a k)(r:PE X b j){c:Ls (Lz×Obj)}{s:La}{O:St}{H:Hp}{R:V->V->Hp->Prop}(I:Inv X c O H s)(h:k O H λx H1=>j O H1 λy H2=>R x y H2)
  {α:Type} {Q:α->La->Prop} {f:Lv->Lv->Sem α}
  (p:∀v u i x y H2,Inv X c O H2 i->ym x v->ym y u->R x y H2->wpAny (model X.prog X.w) X.A (f v u) Q X.xe i) :
  wpAny (model X.prog X.w) X.A (eval a X.env) (λv g=>wpAny (model X.prog X.w) X.A (eval b X.env) (λu e=>wpAny (model X.prog X.w) X.A (f v u) Q X.xe e) X.xe g) X.xe s:=by
 refine thn (t c s O H _ I h) λv o ⟨x,H1,I1,q,w⟩=>?_
 refine thn (r c o O H1 _ I1 w) λu i ⟨y,H2,I2,n,l⟩=>?_
 exact p v u i x y H2 I2 q n l
def YC(i:Nat):TE:=λO H Q=>∃v,O[i]?=some (some v)/\Q v H
def tC(v:V):TE:=λ_ H Q=>Q v H
def zGb{i:Nat}{x:Str}{pos:Pos}(t:X.N[i]?=some x)(q:Vis X.env.scope x)(hd:(x==("__debug__":Str))=false:=by decide)(k:(x==("__classdict__":Str))=false:=by decide):PE X (.Name x pos) (YC i):=by
 intro j s O H Q I h;obtain⟨v,e,h⟩:=h;obtain⟨m,p,hl⟩:=I.loc;obtain⟨u,r,l⟩:=hl i x v t e q;have fin:EP X j O Q u s:=⟨v,H,I,r,h⟩;rcases l with⟨g,o⟩|⟨g,c,n,a⟩
 ·exact wpAny_Name (wpAny_loadName_local I.ok.kind g p o fin) hd
 ·rcases g with g|g
  ·exact wpAny_Name (wpAny_loadName_cell I.ok.kind g n a fin) hd
  ·exact wpAny_Name (wpAny_loadName_free I.ok.kind g n a fin k) hd
def zBk{i j pos}:PE X (.Constant (.int i) j pos) (tC (.int i)):=λ_ _ _ H _ I h=>wpAny_Constant_int ⟨.int i,H,I.tok _,⟨_,rfl⟩,h⟩
def pe_bl{b j pos}:PE X (.Constant (.bool b) j pos) (tC (.bl b)):=λ_ _ _ H _ I h=>Constant_bool ⟨.bl b,H,I,rfl,h⟩
def pe_non{j pos}:PE X (.Constant .none j pos) (tC .non):=λ_ _ _ H _ I h=>Constant_none ⟨.non,H,I,rfl,h⟩
def zGc{x j pos}:PE X (.Constant (.str x) j pos) (tC (.str x)):=λ_ _ _ H _ I h=>Calls.Constant_str ⟨.str x,H,I.tok _,⟨_,rfl⟩,h⟩
def Gl(X:Cx)(x:Str):Prop:=X.env.kindOf x=some .globalImplicit
def Ys{E:Ly}{a:Ls (Lz×Obj)}{s:La}{O:St}{H:Hp}{x:Str}{u:Lv}{pos:Pos}{Q:Ly}(I:Inv X a O H s)(e:Gl X x)(c:X.mg x=some u)(h:Q u s)
  (hd:(x==("__debug__":Str))=false:=by decide):wpAny (model X.prog X.w) X.A (eval (.Name x pos) X.env) Q E s :=
 Calls.Name_function_global I.ok.kind e (Calls.loadGlobal_global (by rw[I.ok.glob];exact I.mod.glob.keeps I.bk) c h) hd
def ZJ{E:Ly}{a:Ls (Lz×Obj)}{s:La}{O:St}{H:Hp}{x:Str}{u:Lv}{pos:Pos}{Q:Ly}(I:Inv X a O H s)(i:Gl X x)(c:X.mg x=none)(e:bootBuiltins x=some u)(h:Q u s)
  (hn:x≠"__name__":=by decide) (hd:(x==("__debug__":Str))=false:=by decide):wpAny (model X.prog X.w) X.A (eval (.Name x pos) X.env) Q E s:=by
 obtain⟨j,g,h2⟩:=I.mod.blt;exact Calls.Name_function_global I.ok.kind i (Calls.loadGlobal_builtin (by rw[I.ok.glob];exact I.mod.glob.keeps I.bk) c (by rw[I.ok.blt];exact g.keeps I.bk) ((h2 x hn).trans e) h) hd
def Gr{x:Str}{v:V}{u:Lv}{pos:Pos}(c:Gl X x)(a:X.mg x=some u)(r:ym v u)(hd:(x==("__debug__":Str))=false:=by decide):PE X (.Name x pos) (tC v) :=
 λ_ _ _ H _ I h=>Ys I c a ⟨v,H,I,r,h⟩ hd
def zBl{x:Str}{v:V}{u:Lv}{pos:Pos}(e:Gl X x)(c:X.mg x=none)(a:bootBuiltins x=some u)(r:ym v u)(hn:x≠"__name__":=by decide)(hd:(x==("__debug__":Str))=false:=by decide):PE X (.Name x pos) (tC v) :=
 λ_ _ _ H _ I h=>ZJ I e c a ⟨v,H,I,r,h⟩ hn hd
variable{a b:Lb}{ta tb:TE}{pos:Pos}
def tB(t:TE):TT:=λO H Q=>t O H λx H1=>∃c,x=.bl c/\Q c H1
def pt_val{e:Lb}{t:TE}(h:PE X e t)(i:∀a,isTrue e X.env a=(do let v <- a;standAt e.pos;holding [v] (truthy v)):=by intro _;rfl):PT X e (tB t):=by
 intro c s O H Q I g;refine isTrue_plain (thn (h c s O H _ I g) λv l ⟨x,H1,I1,j,k⟩=>?_) (i _);obtain⟨d,rfl,q⟩:=k;cases j;exact wpAny_truthy_bool ⟨H1,I1,q⟩
variable{tA tB':TT}{jQ:Ls Lb}
def tOr(t u:TT):TT:=λO H Q=>t O H λc H1=>if c=true then Q true H1 else u O H1 Q
def tNot(t:TT):TT:=λO H Q=>t O H λc H1=>Q (!c) H1
def pw_or1(i:PT X a tA):PW X (.BoolOp .Or [a] pos) tA:=by
 intro k g s O H Q I h;refine isTrue_or (thn (i g s O H Q I h) λc j e=>?_);cases c with
 |false=>exact isTrue_or_nil e|true=>exact e
def pw_or(k:PT X a tA)(j:PW X (.BoolOp .Or (b::jQ) pos) tB'):PW X (.BoolOp .Or (a::b::jQ) pos) (tOr tA tB'):=by
 intro l e s O H Q I h;refine isTrue_or (thn (k e s O H _ I h) λc i ⟨H1,I1,g⟩=>?_);cases c with
 |true=>exact⟨H1,I1,g⟩|false=>exact j l e i O H1 Q I1 g
def pt_not(g:PT X a tA):PT X (.UnaryOp .Not a pos) (tNot tA):=by
 intro e s O H Q I h;exact isTrue_not (g e s O H (λc H1=>Q (!c) H1) I h)
def tAndV(a e:TE):TE:=λO H Q=>a O H λx H1=>∃c,x=.bl c/\if c=true then e O H1 Q else Q (.bl false) H1
def tNotV(a:TE):TE:=λO H Q=>a O H λx H1=>∃c,x=.bl c/\Q (.bl (!c)) H1
def pe_one{op}{t:TE}(h:PE X a t):PE X (.BoolOp op [a] pos) t:=λc s O H Q I e=>BoolOp_one (h c s O H Q I e)
def pe_and(k:PE X a ta)(j:PE X (.BoolOp .And (b::jQ) pos) tb):PE X (.BoolOp .And (a::b::jQ) pos) (tAndV ta tb):=by
 intro e s O H Q I h;refine BoolOp_and (thn (k e s O H _ I h) λv l ⟨x,H1,I1,i,g⟩=>?_);obtain⟨c,rfl,g⟩:=g;cases i;refine wpAny_truthy_bool ?_;cases c with
 |true=>exact j e l O H1 Q I1 g|false=>exact⟨.bl false,H1,I1,rfl,g⟩
def pe_not(j:PE X a ta):PE X (.UnaryOp .Not a pos) (tNotV ta):=by
 intro e s O H Q I h;refine UnaryOp_ (thn (j e s O H _ I h) λv k ⟨x,H1,I1,i,g⟩=>?_);obtain⟨c,rfl,g⟩:=g;cases i;exact not_of (wpAny_truthy_bool ⟨.bl (!c),H1,I1,rfl,g⟩)
def tIf(t:TT)(a e:TE):TE:=λO H Q=>t O H λc H1=>if c=true then a O H1 Q else e O H1 Q
def zET{c:Lb}(k:PT X c tA)(l:PE X a ta)(j:PE X b tb):PE X (.IfExp c a b pos) (tIf tA ta tb):=by
 intro e s O H Q I h;refine wpAny_IfExp (thn (k e s O H _ I h) λd i ⟨H1,I1,g⟩=>?_);cases d with
 |true=>exact l e i O H1 Q I1 g|false=>exact j e i O H1 Q I1 g
end
def SqL(K:qH)(H:Hp)(a:Lz)(xs:Ls V):Prop :=
 Rd H a (.l xs) \/
  ∃(o:Obj) (c:Li) (n:Nat),K.lookup a=some o/\o.cls=.type "list"/\o.dict=none/\o.data=.seq c n/\c.size<=sizeLine/\yH xs c.toList
def SqT(K:qH)(H:Hp)(a:Lz)(xs:Ls V):Prop :=
 Rd H a (.t xs) \/
  ∃(o:Obj) (c:Li) (n:Nat),K.lookup a=some o/\o.cls=.type "tuple"/\o.data=.seq c n/\c.size<=sizeLine/\yH xs c.toList
def absV:Lv->Lx V
 | .none=>some .non| .bool b=>some (.bl b)| .int i _=>some (.int i)| .str x _=>some (.str x)| .bytes b _=>some (.byt b)| .float b _=>some (.flt b)| .ref a=>some (.ref a)| .type n=>some (.ty n)|_=>none
def ym.abs{x:V}{u:Lv}(r:ym x u):absV u=some x:=by
 cases x with
 |non=>cases r;rfl|bl _=>cases r;rfl|int _=>obtain⟨t,rfl⟩:=r;rfl|str _=>obtain⟨t,rfl⟩:=r;rfl|byt _=>obtain⟨t,rfl⟩:=r;rfl|flt _=>obtain⟨t,rfl⟩:=r;rfl|ref _=>cases r;rfl|ty _=>cases r;rfl
theorem ym.inj{x y:V}{u:Lv}(r:ym x u)(q:ym y u):x=y:=qJ (r.abs.symm.trans q.abs)
theorem yH.inj:∀{e c:Ls V} {a:Ls Lv},yH e a->yH c a->e=c
 |_,_,_,.nil,.nil=>rfl|_,_,_,.cons r t,.cons r' t'=>by rw[r.inj r',yH.inj t t']
section
variable{X:Cx}{pins:Ls (Lz×Obj)}{O:St}{H:Hp}{s:La}{a:Lz}{xs ys:Ls V}
def SqL.of{K:qH}(h:H a=some (.l xs)):SqL K H a xs:=.inl (.inl h)
def SqT.of{K:qH}(h:H a=some (.t xs)):SqT K H a xs:=.inl (.inl h)
def Inv.list(I:Inv X pins O H s)(h:SqL X.K H a xs):∃c:Ls Lv,yH xs c/\PlainL s.heap a c.toArray/\xs.length<=sizeLine:=by
 rcases h with h|⟨o,c,n,i,j,k,g,hz,r⟩
 ·obtain⟨z,c,n,r,e⟩:=h.ok I.hok
  exact⟨c,r,⟨_,n,e,rfl,rfl,rfl⟩,z⟩
 ·refine⟨c.toList,r,⟨o,n,I.kIn a o i,j,k,by exists g⟩,?_⟩
  have e:=r.length;dsimp[Array.length_toList]at e;omega
def Inv.tuple(I:Inv X pins O H s)(h:SqT X.K H a xs):∃c:Ls Lv,yH xs c/\IsTup s.heap a c.toArray/\xs.length<=sizeLine:=by
 rcases h with h|⟨o,c,n,g,j,i,hz,r⟩
 ·obtain⟨z,c,r,p⟩:=h.ok I.hok
  exact⟨c,r,p,z⟩
 ·refine⟨c.toList,r,⟨o,I.kIn a o g,j,n,by exists i⟩,?_⟩
  have e:=r.length;dsimp[Array.length_toList]at e;omega
def Inv.list_inj(I:Inv X pins O H s)(h:SqL X.K H a xs)(h':SqL X.K H a ys):xs=ys:=by
 obtain⟨c,r,⟨o,n,e,_,_,d⟩,_⟩:=I.list h;obtain⟨its',j,⟨k,l,i,_,_,g⟩,_⟩:=I.list h';rw[e]at i;cases i;rw[d]at g;injection g with d1 _
 have:c=its':=by exists congrArg Array.toList d1
 subst this;exact r.inj j
def Inv.tuple_inj(I:Inv X pins O H s)(h:SqT X.K H a xs)(h':SqT X.K H a ys):xs=ys:=by
 obtain⟨c,r,⟨o,e,_,n,d⟩,_⟩:=I.tuple h;obtain⟨its',j,⟨k,i,_,l,g⟩,_⟩:=I.tuple h';rw[e]at i;cases i;rw[d]at g;injection g with d1 _
 have:c=its':=by exists congrArg Array.toList d1
 subst this;exact r.inj j
end
abbrev Cx.wish(X:Cx)(E:Ly):Cx:={X with xe:=E}
abbrev Cx.nox(X:Cx):Cx:=X.wish λ_ _=>False
theorem Cx.Ok.wish{X:Cx}(ok:X.Ok)(E:Ly):(X.wish E).Ok :=
 ⟨ok.mod,ok.kind,ok.glob,ok.blt,ok.above,ok.inj,ok.has,ok.cab,ok.hd,ok.frames,ok.stk,ok.exf,ok.bs,ok.bsz,ok.noex,ok.exfs,ok.funs,ok.frf⟩
def Cx.Ok.unwish{X:Cx}{E:Ly}(ok:(X.wish E).Ok):X.Ok :=
 ⟨ok.mod,ok.kind,ok.glob,ok.blt,ok.above,ok.inj,ok.has,ok.cab,ok.hd,ok.frames,ok.stk,ok.exf,ok.bs,ok.bsz,ok.noex,ok.exfs,ok.funs,ok.frf⟩
section
variable{X:Cx}{pins:Ls (Lz×Obj)}{O:St}{H:Hp}{s:La}{E:Ly}
theorem Inv.wish(I:Inv X pins O H s)(E:Ly):Inv (X.wish E) pins O H s:=⟨I.ok.wish E,I.os,I.bare,I.base,I.loc,I.cell,I.free,I.freeC,I.pin,I.hok,I.len⟩
theorem Inv.unwish(I:Inv (X.wish E) pins O H s):Inv X pins O H s:=⟨I.ok.unwish,I.os,I.bare,I.base,I.loc,I.cell,I.free,I.freeC,I.pin,I.hok,I.len⟩
theorem SP.unwish{D:Ends}{f:Flow}{s':La}(h:SP (X.wish E) pins D f s'):SP X pins D f s':=by
 cases f with
 |next=>obtain⟨O',H',I,q⟩:=h;exact⟨O',H',I.unwish,q⟩|brk=>obtain⟨O',H',I,q⟩:=h;exact⟨O',H',I.unwish,q⟩|cont=>obtain⟨O',H',I,q⟩:=h;exact⟨O',H',I.unwish,q⟩|ret u=>obtain⟨v,O',H',I,r,q⟩:=h;exact⟨v,O',H',I.unwish,r,q⟩
theorem PE.nox{e:Lb}{t:TE}(h:PE X.nox e t):PE X e t:=λa s O H Q I c =>
 wpAny_mono (h a s O H Q (I.wish _) c) (λ_ _ ⟨v,H',I',r,q⟩=>⟨v,H',I'.unwish,r,q⟩) λ_ _ z=>False.elim z
end
section
variable{X:Cx}{st:Lh}{jQ:Ls Lh}{t u:TS}{e:Lb}{te:TE}{pos:Pos}
def tNext:TS:=λD O H=>D.nx O H
def tSeq(t u:TS):TS:=λD O H=>t {D with nx:=u D} O H
def pss_nil:PSs X [] tNext:=λ_ _ O H _ I h=>wpAny_execs_nil ⟨O,H,I,h⟩
def Zm(e:PS X st t)(c:PSs X jQ u):PSs X (st::jQ) (tSeq t u):=by
 intro a s O H D I h;refine wpAny_execs_cons (thn (e a s O H {D with nx:=u D} I h) λf g q=>?_)
 cases f with
 |next =>
  obtain⟨O',H',I',q⟩:=q;exact c a g O' H' D I' q
 |ret v=>exact q|brk=>exact q|cont=>exact q
def Gs(c:PS X st t):PSs X [st] t:=by
 intro a s O H D I h;refine wpAny_execs_cons (thn (c a s O H D I h) λf e q=>?_);cases f with
 |next=>exact wpAny_execs_nil q|ret v=>exact q|brk=>exact q|cont=>exact q
def Inv.quiet{a:Ls (Lz×Obj)}{O:St}{H:Hp}{s:La}(I:Inv X a O H s):interactive X.env=false:=by simp[interactive,I.ok.kind]
def tDrop(a:TE):TS:=λD O H=>a O H λ_ H1=>D.nx O H1
def Gu(g:PE X e te)(c:swapsWith e none pos.line X.env=pure false:=by rfl):PS X (.Expr e pos) (tDrop te):=by
 intro a s O H D I h;exact wpAny_Expr_any (thn (g a s O H _ I h) λv k ⟨x,H1,I1,j,i⟩=>⟨O,H1,I1,i⟩) I.quiet c
def tRet(a:TE):TS:=λD O H=>a O H D.rt
def ps_ret(c:PE X e te):PS X (.Return (some e) pos) (tRet te):=by
 intro a s O H D I h;exact wpAny_Return_some (thn (c a s O H _ I h) λv j ⟨x,H1,I1,g,i⟩=>⟨x,O,H1,I1,g,i⟩)
def tIfS(c:TT)(t u:TS):TS:=λD O H=>c O H λb H1=>if b=true then t D O H1 else u D O H1
def ps_if{c:Lb}{a b:Ls Lh}{g:TT}(l:PT X c g)(n:PSs X a t)(k:PSs X b u):PS X (.If c a b pos) (tIfS g t u):=by
 intro e s O H D I h;refine wpAny_If (thn (l e s O H _ I h) λd j ⟨H1,I1,i⟩=>?_);cases d with
 |true=>exact n e j O H1 D I1 i|false=>exact k e j O H1 D I1 i
def tNever:TS:=λ_ _ _=>False
def zEU:PS X st tNever:=λ_ _ _ _ _ _ h=>h.elim
end
abbrev TG:=V->St->Hp->(St->Hp->Prop)->Prop
abbrev TGs:=Ls V->St->Hp->(St->Hp->Prop)->Prop
def PG(X:Cx)(a:Lb)(t:TG):Prop :=
 ∀(c:Ls (Lz×Obj)) (s:La) (O:St) (H:Hp) (v:V) (u:Lv) (Q:St->Hp->Prop),Inv X c O H s->ym v u->t v O H Q ->
  wpAny (model X.prog X.w) X.A (assign a X.env u) (λ_ e=>∃O' H',Inv X c O' H' e/\Q O' H') X.xe s
def PGs(X:Cx)(ts:Ls Lb)(t:TGs):Prop :=
 ∀(a:Ls (Lz×Obj)) (s:La) (O:St) (H:Hp) (e:Ls V) (c:Ls Lv) (Q:St->Hp->Prop),Inv X a O H s->yH e c->t e O H Q ->
  wpAny (model X.prog X.w) X.A (assignInOrder ((assignEach ts X.env).map (·.2)) c) (λ_ g=>∃O' H',Inv X a O' H' g/\Q O' H') X.xe s
abbrev TSet:=V->V->V->Hp->(Hp->Prop)->Prop
def PSet(X:Cx)(t:TSet):Prop :=
 ∀(a:Ls (Lz×Obj)) (s:La) (O:St) (H:Hp) (o i v:V) (c e u:Lv) (Q:Hp->Prop),Inv X a O H s->ym o c->ym i e->ym v u->t o i v H Q ->
  wpAny (model X.prog X.w) X.A (setItem c e u) (λ_ g=>∃H',Inv X a O H' g/\Q H') X.xe s
abbrev TIp:=V->V->Hp->VK->Prop
def PIp(X:Cx)(c:Operator)(t:TIp):Prop :=
 ∀(a:Ls (Lz×Obj)) (s:La) (O:St) (H:Hp) (x y:V) (v u:Lv) (Q:VK),Inv X a O H s->ym x v->ym y u->t x y H Q ->
  wpAny (model X.prog X.w) X.A (inplaceOp c v u) (EP X a O Q) X.xe s
section
variable{X:Cx}{pos:Pos}
def Gv(i:Nat):TG:=λv O H Q=>Q (O.set i (some v)) H
def zBm{i:Nat}{x:Str}(j:X.N.Nodup)(g:X.N[i]?=some x)(c:Loc X.env.scope x)(e:X.fn x=true\/X.env.scope.names.lookup x=some .local:=by first|exact .inl rfl|exact .inr rfl|assumption):PG X (.Name x pos) (Gv i):=by
 intro a s O H v u Q I r h;exact wpAny_assign_Name (YH I j g c r (λk I'=>⟨_,H,I',h⟩) e)
def gNil:TGs:=λa O H Q=>a=[]/\Q O H
def gCons(t:TG)(u:TGs):TGs:=λa O H Q=>∃v r,a=v::r/\t v O H λO' H'=>u r O' H' Q
def pgs_nil:PGs X [] gNil:=by
 intro a s O H g c Q I r h;obtain⟨e,h⟩:=h;subst e;cases r;exact assignInOrder_nil ⟨O,H,I,h⟩
def zEV{e:Lb}{es:Ls Lb}{t:TG}{u:TGs}(k:PG X e t)(g:PGs X es u)
  (c:(assignEach (e::es) X.env).map (·.2)=assign e X.env::(assignEach es X.env).map (·.2):=by rfl):PGs X (e::es) (gCons t u):=by
 intro a s O H p q Q I r h;obtain⟨v,o,i,h⟩:=h;subst i;cases r with
 |cons r j =>
  rw[c];refine assignInOrder_cons (thn (k a s O H _ _ _ I r h) λ_ n ⟨O1,H1,I1,l⟩=>?_);exact g a n O1 H1 _ _ Q I1 j l
def gTup(K:qH)(n:Nat)(t:TGs):TG:=λv O H Q=>∃a c,v=.ref a/\SqT K H a c/\c.length=n/\t c O H Q
def zGd{es:Ls Lb}{k:Nat}{t:TGs}{n:Nat}(y:X.calm=true)(h:PGs X es t)
  (hn:(assignEach es X.env).length=n:=by rfl) (i:(assignEach es X.env).findIdx? (·.1)=none:=by rfl):PG X (.Tuple es k pos) (gTup X.K n t):=by
 intro c s O H v u Q I r g;obtain⟨a,q,w,z,hl,g⟩:=g;subst w;cases r;obtain⟨x,j,ht,hz⟩:=I.tuple z;refine assign_Tuple_tuple (I.ok.hd y) ht (by simp[hn,<- hl,j.length]) i λl p=>?_
 have I1:Inv X c O H {s with heap:=l}:=I.kept (t':=s.toks) λb o e=>p b o (ne_of_lt (lt_size e)) e
 exact h c _ O H q _ Q I1 (by exists j) g
def gSub(a c:TE)(t:TSet):TG:=λv O H Q=>a O H λo H1=>c O H1 λi H2=>t o i v H2 λH3=>Q O H3
def zGe{o i:Lb}{c e:TE}{t:TSet}(p:PE X o c)(q:PE X i e)(j:PSet X t)
  (z:∀v,assign (.Subscript o i pos) X.env v=(do
   let ov <- holding [v] (eval o X.env)
   let iv <- holding [v,ov] (eval i X.env)
   standAt pos
   holding [v,ov,iv] (setItem ov iv v)
   release [v,ov,iv] []):=by intro _;rfl):PG X (.Subscript o i pos) (gSub c e t):=by
 intro a s O H v u Q I r h;rw[z];refine qB (wpAny_holding (thn (p a s O H _ I h) λov l ⟨x,H1,I1,w,B⟩=>?_));refine qB (wpAny_holding (thn (q a l O H1 _ I1 B) λiv C ⟨y,H2,I2,k,g⟩=>?_));refine qB (wpAny_standAt (qB (wpAny_holding (thn (j a C O H2 x y v ov iv u _ I2 w k r g) λ_ D ⟨H3,I3,n⟩=>?_))));exact wpAny_release ⟨O,H3,I3,n⟩
def tAsg(a:TE)(g:TG):TS:=λD O H=>a O H λx H1=>g x O H1 D.nx
def zBn{tg e:Lb}{c:TE}{g:TG}(k:PE X e c)(o:PG X tg g)(j:swapsWithSole [tg] e pos.line X.env=pure false:=by rfl)(i:swappedStores [tg] e X.env=pure none:=by rfl)
  (n:(assignEach [tg] X.env).map (·.2)=[assign tg X.env]:=by rfl):PS X (.Assign [tg] e pos) (tAsg c g):=by
 intro a s O H D I h;refine wpAny_Assign_stores (thn (k a s O H _ I h) λv r ⟨x,H1,I1,l,p⟩=>?_) j i;rw[n];exact thn (o a r O H1 x v _ I1 l p) λ_ t q=>q
def ps_set{i:Nat}{x:Str}{e:Lb}{g:TE}{a:Pos}(q:X.N.Nodup)(o:X.N[i]?=some x)(l:Loc X.env.scope x)(k:PE X e g)(j:swapsWith e (some (.Name x a)) pos.line X.env=pure false:=by rfl)(n:X.fn x=true\/X.env.scope.names.lookup x=some .local:=by first|exact .inl rfl|exact .inr rfl|assumption) :
  PS X (.Assign [.Name x a] e pos) (tAsg g (Gv i)):=by
 intro c s O H D I h;refine wpAny_Assign_Name (thn (k c s O H _ I h) λv u ⟨y,H1,I1,p,r⟩=>?_) j;exact YH I1 q o l p (λt I2=>⟨_,H1,I2,r⟩) n
def tAug(i:Nat)(a:TE)(c:TIp):TS:=λD O H=>∃x,O[i]?=some (some x)/\a O H λy H1=>c x y H1 λz H2=>D.nx (O.set i (some z)) H2
def zBo{i:Nat}{x:Str}{e:Lb}{B:TE}{t:Operator}{C:TIp}{p:Pos}(K:X.N.Nodup)(G:X.N[i]?=some x)(q:Loc X.env.scope x)(M:PE X e B)(R:PIp X t C)(Y:X.fn x=true\/X.env.scope.names.lookup x=some .local:=by first|exact .inl rfl|exact .inr rfl|assumption) :
  PS X (.AugAssign (.Name x p) t e pos) (tAug i B C):=by
 intro a s O H D I h;obtain⟨v,S,h⟩:=h;obtain⟨m,J,hl⟩:=I.loc;have vis:Vis X.env.scope x:=by rcases q with k|k;exact .inl k;exact .inr (.inl k)
 obtain⟨u,r,l⟩:=hl i x v G S vis;refine wpAny_AugAssign_Name ?_;have E:wpAny (model X.prog X.w) X.A (eval e X.env) (λw n=>wpAny (model X.prog X.w) X.A (inplaceOp t u w) (λr o=>wpAny (model X.prog X.w) X.A (storeName X.env x r) (λ_=>SP X a D .next) X.xe o) X.xe n) X.xe s:=by
  refine thn (M a s O H _ I h) λw s1 ⟨y,H1,I1,r1,Z⟩=>?_
  refine thn (R a s1 O H1 v y u w _ I1 r r1 Z) λz s2 ⟨zv,H2,I2,Q,W⟩=>?_
  exact YH I2 K G q Q (λs3 I3=>⟨_,H2,I3,W⟩) Y
 rcases l with⟨g,L⟩|⟨g,c,V,j⟩
 ·exact wpAny_loadName_local I.ok.kind g J L E
 ·rcases g with g|g
  ·exact wpAny_loadName_cell I.ok.kind g V j E
  ·rcases q with k|k
   ·have:X.env.scope.names.lookup x=some .free:=g
    rw[k]at this;cases this
   ·have:X.env.scope.names.lookup x=some .free:=g
    rw[k]at this;cases this
def ipI(f:Int->Int->Int):TIp:=λx y H Q=>∃i j,x=.int i/\y=.int j/\Q (.int (f i j)) H
def ip_add:PIp X .Add (ipI λi j=>i+j):=by
 intro a s O H x y v u Q I k c h;obtain⟨i,j,g,e,q⟩:=h;subst g;subst e;obtain⟨t,rfl⟩:=k;obtain⟨l,rfl⟩:=c;exact iadd_int ⟨.int _,H,I.tok _,⟨_,rfl⟩,q⟩
def ip_sub:PIp X .Sub (ipI λi j=>i-j):=by
 intro a s O H x y v u Q I k c h;obtain⟨i,j,g,e,q⟩:=h;subst g;subst e;obtain⟨t,rfl⟩:=k;obtain⟨l,rfl⟩:=c;exact isub_int ⟨.int _,H,I.tok _,⟨_,rfl⟩,q⟩
end
section
variable{X:Cx}{pos:Pos}
def zGf(c:TT)(e:TS):TS:=λD O H=>∃W:Nat->St->Hp->Prop,(∃m,W m O H)/\∀m O H,W m O H ->
 c O H λb H1=>if b=true then ∃N:St->Hp->Prop,(∀O' H',N O' H'->∃a,a<m/\W a O' H')/\e {D with nx:=N,ct:=N,bk:=D.nx} O H1 else D.nx O H1
def zEW{c:Lb}{body:Ls Lh}{q:TT}{p:TS}(r:PassesOwn (model X.prog X.w) X.A X.env X.xe)(u:PT X c q)(z:PSs X body p):PS X (.While c body [] pos) (zGf q p):=by
 intro a s O H D I h;obtain⟨W,⟨B,x⟩,e⟩:=h;refine wpAny_While (codeAny_whileLoop (λn y=>∃O' H',Inv X a O' H' y/\W n O' H') ?_ B ⟨O,H,I,x⟩)
 rintro n C ⟨O1,H1,I1,t⟩
 refine wpAny_passesOwn r (thn (u a C O1 H1 _ I1 (e n O1 H1 t)) λb w ⟨H2,I2,i⟩=>?_);cases b with
 |true =>
  obtain⟨N,hN,i⟩:=i;rw[if_pos rfl];refine wpAny_passesOwn r (thn (z a w O1 H2 _ I2 i) λf E g=>?_);cases f with
  |next =>
   obtain⟨O3,H3,I3,j⟩:=g;obtain⟨l,k,o⟩:=hN O3 H3 j;exact⟨l,k,O3,H3,I3,o⟩
  |cont =>
   obtain⟨O3,H3,I3,j⟩:=g;obtain⟨l,k,o⟩:=hN O3 H3 j;exact⟨l,k,O3,H3,I3,o⟩
  |brk=>exact g|ret v=>exact g
 |false =>
  rw[if_neg qF];exact wpAny_execs_nil ⟨O1,H2,I2,i⟩
end
structure It where
 go:Nat->Hp->Prop
 yld:Nat->Hp->V->Hp->Prop
 stop:Nat->Hp->Prop
def Qv(X:Cx)(a:Ls (Lz×Obj))(H:Hp)(b:Lz):Prop :=
 H b=none/\b≠X.env.locals/\b∉X.fs/\(b∈X.ex\/X.s₀.heap.objs.size<=b)/\(∀x c,X.env.cells.lookup x=some c->c≠b)/\∀p∈X.pn++a,p.1≠b
def Inv.fpOk{X:Cx}{a:Ls (Lz×Obj)}{O:St}{H h:Hp}{s:La}{b:Lz}(I:Inv X a O H s)(g:s.heap.objs.size<=b)(hn:h b=none):Qv X a h b:=by
 refine⟨hn,ne_of_gt (lt_of_lt_of_le I.lt g),I.nofs g,.inr (le_trans I.sz g),λx c e z=>?_,λp i z=>?_⟩
 ·obtain⟨v,q⟩:=I.cell x c e
  exact absurd (lt_of_lt_of_le q.lt (by rw[z];exact g)) (lt_irrefl _)
 ·exact absurd (lt_of_lt_of_le (lt_size (I.pin p i).1) (by rw[z];exact g)) (lt_irrefl _)
structure Turn(P:Lc)(w:Le)(K:qH)(tg:Lb)(J:It)(fp:List Lz)(it:Lz)(tn:Lm):Prop where
 mem:it∈fp
 obj:∀i h,tn i h->∀b∈fp,∃o,h.get? b=some o/\∀v,o.data≠.cell v
 keep:∀i h h',tn i h->(∀b∈fp,∀o,h.get? b=some o->h'.get? b=some o)->tn i h'
 item:∀(X:Cx),X.prog=P->X.w=w->X.K=K->X.calm=true->∀(i:Nat) (pins:List (Lz×Obj)) (s:La) (O:St) (H:Hp) (E:Ly),Inv X pins O H s->(∀b∈fp,Qv X pins H b)->tn i s.heap->J.go i H ->
  wpAny (model P w) X.A (pyNext (.ref it)) (λr s1=>∃u,r=some u /\
   wpAny (model P w) X.A (letOwnedTupleGo tg (.ref it) u) (λ_ s2=>∃x H',Inv X pins O H' s2/\ym x u/\J.yld i H x H'/\tn (i+1) s2.heap/\∀b∈fp,H' b=none) E s1) E s
 done:∀(X:Cx),X.prog=P->X.w=w->X.K=K->X.calm=true->∀(i:Nat) (pins:List (Lz×Obj)) (s:La) (O:St) (H:Hp) (E:Ly),Inv X pins O H s->(∀b∈fp,Qv X pins H b)->tn i s.heap->J.stop i H ->
  wpAny (model P w) X.A (pyNext (.ref it)) (λr s1=>r=none/\Inv X pins O H s1) E s
 self:∀(A:Lg) (i:Nat) (s:La) (Q:Ly) (E:Ly),tn i s.heap->Q (.ref it) s->wpAny (model P w) A (pyIter (.ref it)) Q E s
abbrev TI:=St->Hp->(It->Hp->Prop)->Prop
def PIE(X:Cx)(a:Ls (Lz×Obj))(O:St)(tg:Lb)(R:It->Hp->Prop)(c:Lv)(i:La):Prop :=
 ∃(h:Lz) (e:Ls Lz) (g:Lm) (J:It) (H':Hp),c=.ref h/\Inv X a O H' i/\Turn X.prog X.w X.K tg J e h g/\g 0 i.heap/\(∀b∈e,Qv X a H' b)/\R J H'
def PI(X:Cx)(tg c:Lb)(e:TI):Prop :=
 ∀(a:Ls (Lz×Obj)) (s:La) (O:St) (H:Hp) (R:It->Hp->Prop),Inv X a O H s->e O H R ->
  wpAny (model X.prog X.w) X.A (eval c X.env) (λv g=>wpAny (model X.prog X.w) X.A (pyIter v) (PIE X a O tg R) X.xe g) X.xe s
def Z5{M:Model}{A:Lg}{E:Ly}{s:La}{tg:Lb}{it:Lz}{u:Lv}{o:Obj}{n:String}{vs:Li}{Q:Unit->La->Prop}(c:s.heap.get? it=some o)(e:o.cls=.type n)(hd:o.data=.fields vs)
  (hn:["enumerate","zip","dict_itemiterator","dict_reverseitemiterator","odict_iterator","itertools.zip_longest","itertools.pairwise"].contains n=false) (a:Q () s):wpAny M A (letOwnedTupleGo tg (.ref it) u) Q E s:=by
 unfold letOwnedTupleGo
 cases tg<;>first
  |exact qC a
  | (cases u<;>first
    |exact qC a
    | (refine qB (wpAny_load c ?_)
       rw[e,hd];show wpAny M A (if(["enumerate","zip","dict_itemiterator","dict_reverseitemiterator","odict_iterator","itertools.zip_longest","itertools.pairwise"].contains n&&vs[0]?==some (rawInt _))=true then _ else _) Q E s;rw[if_neg (by intro h;rw[hn,Bool.false_and]at h;cases h)];exact qC a))
def Itl(K:qH)(a:Lz):It :=
 ⟨λi H=>∃c x,SqL K H a c/\c[i]?=some x,λi H x H'=>H'=H/\∀c,SqL K H a c->c[i]?=some x,λi H=>∃c,SqL K H a c/\c.length<=i⟩
def Itt(K:qH)(a:Lz):It :=
 ⟨λi H=>∃c x,SqT K H a c/\c[i]?=some x,λi H x H'=>H'=H/\∀c,SqT K H a c->c[i]?=some x,λi H=>∃c,SqT K H a c/\c.length<=i⟩
def Itr(a:Int)(n:Nat):It:=⟨λi _=>i<n,λi H x H'=>H'=H/\x=.int (a+i),λi _=>n<=i⟩
def zBp{P:Lc}{w:Le}{K:qH}{tg:Lb}(a it:Lz):Turn P w K tg (Itl K a) [it] it (λi h=>h.IsListIter it a i) where
 mem:=by simp
 obj:=λi h st b j=>by
  have e:b=it:=by exists j
  subst e;obtain⟨o,e,c,d⟩:=st;exact⟨o,e,λv z=>by rw[d]at z;cases z⟩
 keep:=λi h n st k=>st.at λo e=>k it (by simp) o e
 item:=by
  intro X y M L S i g s O H E I hf st G;subst y M L;obtain⟨Z,x,q,C⟩:=G;obtain⟨D,t,p,hz⟩:=I.list q;obtain⟨u,hu,ru⟩:=t.get C;obtain⟨r,B,W,J,R,Q⟩:=hf it (by simp);refine wpAny_pyNext_list_item st p.isList (x:=u) (by exists hu) λn l Y=>?_
  have I1:Inv X g O H {s with heap:=n}:=I.turned (t':=s.toks) (λb o j e=>(Y.2 b j).trans e) r B J R Q
  obtain⟨o,e,c,d⟩:=id l;exact⟨u,rfl,Z5 (s:={s with heap:=n}) e c d (by decide) ⟨x,H,I1,ru,⟨rfl,λys hy=>by rw[I.list_inj hy q];exact C⟩,l,λb j=>(hf b j).1⟩⟩
 done:=by
  intro X y M L S i g s O H E I hf st G;subst y M L;obtain⟨Z,q,C⟩:=G;obtain⟨D,t,p,hz⟩:=I.list q;obtain⟨r,B,W,J,R,Q⟩:=hf it (by simp);have hl:=t.length;exact wpAny_pyNext_list_end (I.ok.hd S) st p.isList (by simp;omega) λn V=>⟨rfl,I.turned (t':=s.toks) (λb o j e=>V b o j e) r B J R Q⟩
 self:=λ_ _ _ _ _ st h=>wpAny_pyIter_listiter st h
def zA5{P:Lc}{w:Le}{K:qH}{tg:Lb}(a it:Lz):Turn P w K tg (Itt K a) [it] it (λi h=>h.IsTupleIter it a i) where
 mem:=by simp
 obj:=λi h st b l=>by
  have e:b=it:=by exists l
  subst e;obtain⟨o,e,c,d⟩:=st;exact⟨o,e,λv z=>by rw[d]at z;cases z⟩
 keep:=λi h q st k=>st.at λo e=>k it (by simp) o e
 item:=by
  intro X B M L S i g s O H E I hf st G;subst B M L;obtain⟨Z,x,r,D⟩:=G;obtain⟨j,y,p,hz⟩:=I.tuple r;obtain⟨u,hu,ru⟩:=y.get D;obtain⟨t,C,W,J,R,Q⟩:=hf it (by simp);refine wpAny_pyNext_tuple_item st (show s.heap.IsTuple a j.toArray from p) (x:=u) (by exists hu) λq n Y=>?_
  have I1:Inv X g O H {s with heap:=q}:=I.turned (t':=s.toks) (λb o l e=>(Y.2 b l).trans e) t C J R Q
  obtain⟨o,e,c,d⟩:=id n;exact⟨u,rfl,Z5 (s:={s with heap:=q}) e c d (by decide) ⟨x,H,I1,ru,⟨rfl,λys hy=>by rw[I.tuple_inj hy r];exact D⟩,n,λb l=>(hf b l).1⟩⟩
 done:=by
  intro X B M L S i g s O H E I hf st G;subst B M L;obtain⟨Z,r,D⟩:=G;obtain⟨j,y,p,hz⟩:=I.tuple r;obtain⟨t,C,W,J,R,Q⟩:=hf it (by simp);have hl:=y.length;exact wpAny_pyNext_tuple_end (I.ok.hd S) st (show s.heap.IsTuple a j.toArray from p) (by simp;omega) λq V=>⟨rfl,I.turned (t':=s.toks) (λb o l e=>V b o l e) t C J R Q⟩
 self:=λ_ _ _ _ _ st h=>wpAny_pyIter_tupleiter st h
def zA6{P:Lc}{w:Le}{K:qH}{tg:Lb}(it:Lz)(l:Int)(n:Nat):Turn P w K tg (Itr l n) [it] it (λi h=>IsRangeIter h it (l+(i:Nat)*1) ((n:Int)-(i:Nat)) 1) where
 mem:=by simp
 obj:=λi h st b c=>by
  have e:b=it:=by exists c
  subst e;exact⟨_,st,λv z=>by
   have M:Data.fields _=Data.cell v:=z;cases M⟩
 keep:=λi h j st k=>k it (by simp) _ st
 item:=by
  intro X q C B u i a s O H E I hf st x;subst q C B;obtain⟨p,r,Q,y,G,D⟩:=hf it (by simp);have W:=Walks.range (prog:=X.prog) (w:=X.w) (I.ok.hd u) it l 1 n;refine W.item i s _ _ x st λv j J hv g R=>?_
  obtain⟨t,rfl⟩:=hv;have I1:Inv X a O H {s with heap:=j,toks:=J}:=I.turned (λb o c e=>R b o (by exists c) e) p r y G D
  refine⟨_,rfl,Z5 (s:={s with heap:=j,toks:=J}) (n:="range_iterator") g rfl rfl (by decide) ⟨.int (l+i),H,I1,⟨t,?_⟩,⟨rfl,rfl⟩,g,λb c=>(hf b c).1⟩⟩
  rw[Int.mul_one]
 done:=by
  intro X q C B u i a s O H E I hf st x;subst q C B;obtain⟨p,r,Q,y,G,D⟩:=hf it (by simp);exact wpAny_pyNext_range_end (I.ok.hd u) st (by have:n<=i:=x;omega) λj L=>⟨rfl,I.turned (t':=s.toks) (λb o c e=>L b o c e) p r y G D⟩
 self:=λ_ _ _ _ _ st h=>wpAny_pyIter_rangeiter st h
section
variable{X:Cx}{tg:Lb}
def iList(K:qH)(e:TE):TI:=λO H R=>e O H λx H1=>∃a,x=.ref a/\(∃c,SqL K H1 a c)/\R (Itl K a) H1
def iTup(K:qH)(e:TE):TI:=λO H R=>e O H λx H1=>∃a,x=.ref a/\(∃c,SqT K H1 a c)/\R (Itt K a) H1
def zBq{l:Lb}{i:TE}(j:PE X l i):PI X tg l (iList X.K i):=by
 intro c s O H R I h;refine thn (j c s O H _ I h) λv g ⟨x,H1,I1,n,u⟩=>?_
 obtain⟨a,e,⟨y,t⟩,q⟩:=u;subst e;cases n;obtain⟨k,w,p,hz⟩:=I1.list t;refine wpAny_pyIter_list p.isList ?_;refine⟨g.heap.objs.size,[g.heap.objs.size],_,_,H1,rfl,I1.kept (t':=g.toks) λb o e=>qA _ e,zBp a _,⟨_,get?_push_size _ rfl,rfl,rfl⟩,λb r=>?_,q⟩;have e:b=g.heap.objs.size:=by exists r
 subst e;exact I1.fpOk (le_refl _) (I1.hok.fresh (le_refl _))
def zGg{l:Lb}{j:TE}(k:PE X l j):PI X tg l (iTup X.K j):=by
 intro c s O H R I h;refine thn (k c s O H _ I h) λv g ⟨x,H1,I1,n,u⟩=>?_
 obtain⟨a,e,⟨y,t⟩,q⟩:=u;subst e;cases n;obtain⟨i,w,p,hz⟩:=I1.tuple t;refine wpAny_pyIter_tuple (show g.heap.IsTuple a i.toArray from p) ?_;refine⟨g.heap.objs.size,[g.heap.objs.size],_,_,H1,rfl,I1.kept (t':=g.toks) λb o e=>qA _ e,zA5 a _,⟨_,get?_push_size _ rfl,rfl,rfl⟩,λb r=>?_,q⟩;have e:b=g.heap.objs.size:=by exists r
 subst e;exact I1.fpOk (le_refl _) (I1.hok.fresh (le_refl _))
def zEX{c:Ls (Lz×Obj)}{O:St}{H:Hp}{s:La}{R:It->Hp->Prop}{E:Ly}{lo a:Int}{t u v:Tok}{g:Nat}(I:Inv X c O H s)(n:-(2^62)<=lo)(h:lo<2^62)(i:-(2^62)<=a)(j:a<2^62)
  (q:R (Itr lo (a-lo).toNat) H):wpAny (model X.prog X.w) X.A (pyIter (.ref s.heap.objs.size)) (PIE X c O tg R) E {s with heap:=s.heap.push {cls:=.type "range",data:=.fields #[.int lo t,.int a u,.int 1 v]},toks:=g}:=by
 refine wpAny_pyIter_range (IsRange.new ..) (small_one n h i j) ?_;have I1:Inv X c O H {s with heap:=s.heap.push {cls:=.type "range",data:=.fields #[.int lo t,.int a u,.int 1 v]},toks:=g}:=I.kept λb o e=>qA _ e
 refine⟨(s.heap.push {cls:=.type "range",data:=.fields #[.int lo t,.int a u,.int 1 v]}).objs.size,[(s.heap.push {cls:=.type "range",data:=.fields #[.int lo t,.int a u,.int 1 v]}).objs.size],_,_,H,rfl,
  I1.kept (t':=g) λb o e=>qA _ e,zA6 _ lo (a-lo).toNat,?_,λb p=>?_,q⟩
 ·have l:lo+((0:Nat):Int)*1=lo:=by simp
  have k:(((a-lo).toNat:Nat):Int)-((0:Nat):Int)=Builtin.Range.rangeSize lo a 1:=by rw[rangeSize_one];split<;>omega
  show IsRangeIter _ _ (lo+((0:Nat):Int)*1) ((((a-lo).toNat:Nat):Int)-((0:Nat):Int)) 1
  rw[l,k];exact get?_push_size _ rfl
 ·have e:b=(s.heap.push {cls:=.type "range",data:=.fields #[.int lo t,.int a u,.int 1 v]}).objs.size:=by exists p
  subst e;exact I1.fpOk (le_refl _) (I1.hok.fresh (le_refl _))
def iRng1(c:TA):TI:=λO H R=>c O H λa H1=>∃j:Int,a=[.int j]/\-(2^62)<=j/\j<2^62/\R (Itr 0 j.toNat) H1
def uO{a:Lb}{i:TA}{p pos:Pos}(v:Gl X "range")(k:X.mg "range"=none)(w:PA X [a] i)(n:starEach [a] X.env=[(false,eval a X.env)]:=by rfl):PI X tg (.Call (.Name "range" p) [a] [] pos) (iRng1 i):=by
 intro c s O H R I h;refine Call_ (ZJ I v k boot_range (PyProof.Rows.callWith_type1 (thn (w pos c s O H _ I h) λy z ⟨x,H1,I1,u,g⟩=>?_) n rfl));obtain⟨j,e,g,l,q⟩:=g;subst e;cases u with
 |cons r o =>
  cases o;obtain⟨t,rfl⟩:=r;exact call_range_1 (zEX I1 (by omega) (by omega) g l (by exists q))
def tFor(e:TI)(g:TG)(c:TS):TS:=λD O H=>e O H λJ H1=>∃W:Nat->Nat->St->Hp->Prop,(∃m,W 0 m O H1)/\∀i m O H,W i m O H ->
 (J.stop i H/\D.nx O H)\/(J.go i H/\∃N:St->Hp->Prop,(∀O' H',N O' H'->∃a,a<m/\W (i+1) a O' H')/\∀x H',J.yld i H x H'->g x O H' λO2 H2=>c {D with nx:=N,ct:=N,bk:=D.nx} O2 H2)
def uP(a:Ls Lz)(h:Heap):Ls (Lz×Obj):=a.filterMap λb=>(h.get? b).map λo=>(b,o)
def JM{a:Ls Lz}{h:Heap}{b:Lz}{o:Obj}(c:b∈a)(e:h.get? b=some o):(b,o)∈uP a h:=mem_filterMap.mpr ⟨b,c,by rw[e];rfl⟩
def zBr{a:Ls Lz}{h:Heap}{p:Lz×Obj}(i:p∈uP a h):p.1∈a/\h.get? p.1=some p.2:=by
 obtain⟨b,g,e⟩:=mem_filterMap.mp i;exists q,h.get? b,e,o;have c:(b,o)=p:=qJ e;subst c;exact⟨g,q⟩
def Inv.pinned{a:Ls (Lz×Obj)}{O:St}{H:Hp}{s:La}{c:Ls Lz}(I:Inv X a O H s)(l:∀b∈c,Qv X a H b)(k:∀b∈c,∃o,s.heap.get? b=some o/\∀v,o.data≠.cell v):Inv X (a++uP c s.heap) O H s :=
 I.pins_of λp n=>(mem_append.mp n).elim (λz=>I.pin p (qK _ z)) λz=>by
  obtain⟨h,e⟩:=zBr z;obtain⟨j,i,q,_⟩:=l p.1 h;obtain⟨o,g,d⟩:=k p.1 h;rw[e]at g;cases g;exact⟨e,j,i,q,d⟩
def Inv.unpinned{a e:Ls (Lz×Obj)}{O:St}{H:Hp}{s:La}(I:Inv X (a++e) O H s):Inv X a O H s:=I.pins_of λp c=>I.pin p (qK _ (mem_append_left _ c))
def Qw{c:Lb}{body:Ls Lh}{wi:TI}{g:TG}{S:TS}{pos:Pos}(E:PassesOwn (model X.prog X.w) X.A X.env X.xe)(Z:X.calm=true)(hi:PI X tg c wi)(hg:PG X tg g)(l:PSs X body S)
  (hs:∀x,foldedSetIterable c X.env x=pure x:=by intro _;rfl):PS X (.For tg c body [] pos) (tFor wi g S):=by
 intro a s O H D I h;refine wpAny_For (thn (hi a s O H _ I h) λv s1 h1=>thn h1 λaa s2 h2=>?_) hs;obtain⟨it,C,Y,J,H2,e,I2,T,K,R,W,⟨m0,w0⟩,z⟩:=h2;subst e
 -- what stays true of the iterator's objects through the loop
 have j:∀{H':Hp},(∀b∈C,H' b=none)->∀b∈C,Qv X a H' b:=λhn b l=>⟨hn b l,(R b l).2⟩
 refine codeAny_forLoop_any (λn s'=>∃i O' H',Inv X a O' H' s'/\Y i s'.heap/\(∀b∈C,H' b=none)/\W i n O' H') ?_ m0 ⟨0,O,H2,I2,K,λb l=>(R b l).1,w0⟩
 rintro n Q ⟨i,O3,H3,I3,B,t,w3⟩
 rcases z i n O3 H3 w3 with⟨w,qn⟩|⟨go,N,hN,step⟩
 ·refine wpAny_passesOwn E (thn (T.done X rfl rfl rfl Z i a Q O3 H3 X.xe I3 (j t) B w) λr s4 ⟨G,I4⟩=>?_)
  subst G;exact wpAny_execs_nil ⟨O3,H3,I4,qn⟩
 ·refine wpAny_passesOwn E (thn (T.item X rfl rfl rfl Z i a Q O3 H3 X.xe I3 (j t) B go) λr s4 ⟨u,G,h4⟩=>?_)
  subst G;refine wpAny_passesOwn E (thn h4 λ_ V ⟨x,H5,I5,r5,y5,q,M⟩=>?_);have I5':=I5.pinned (j M) (T.obj _ _ q);refine wpAny_passesOwn E (thn (hg _ V O3 H5 x u _ I5' r5 (step x H5 y5)) λ_ s6 ⟨O6,H6,I6,q6⟩=>?_);refine wpAny_passesOwn E (thn (l _ s6 O6 H6 _ I6 q6) λf L p=>?_);have k:∀{O7:St} {H7:Hp},Inv X (a++uP C V.heap) O7 H7 L->N O7 H7->∃m,m<n/\∃i O' H',Inv X a O' H' L/\Y i L.heap/\(∀b∈C,H' b=none)/\W i m O' H':=λ{O7 H7} I7 y=>by
   obtain⟨m',hm,w7⟩:=hN O7 H7 y;refine⟨m',hm,i+1,O7,H7,I7.unpinned,T.keep _ _ _ q λb l o e=>(I7.pin (b,o) (qK _ (qK _ (JM l e)))).1,λb l=>?_,w7⟩;obtain⟨o,e,d⟩:=T.obj _ _ q b l;exact(I7.pin (b,o) (qK _ (qK _ (JM l e)))).2.1
  cases f with
  |next=>obtain⟨O7,H7,I7,y⟩:=p;exact k I7 y|cont=>obtain⟨O7,H7,I7,y⟩:=p;exact k I7 y|brk=>obtain⟨O7,H7,I7,p⟩:=p;exact⟨O7,H7,I7.unpinned,p⟩|ret v=>obtain⟨x7,O7,H7,I7,r7,p⟩:=p;exact⟨x7,O7,H7,I7.unpinned,r7,p⟩
end
def zEY{K:qH}{a:Lz}{xs:Ls V}{g:TG}{j:TS}{D:Ends}{O:St}{H:Hp}(c:Nat->St->Hp->Prop)(o:c 0 O H)(n:∀i O H,i<=xs.length->c i O H->SqL K H a xs)
  (l:∀i x O H,xs[i]?=some x->c i O H->g x O H λO2 H2=>j {D with nx:=c (i+1),ct:=c (i+1),bk:=D.nx} O2 H2) (hd:∀O H,c xs.length O H->D.nx O H) :
  ∃W:Nat->Nat->St->Hp->Prop,(∃m,W 0 m O H)/\∀i m O H,W i m O H ->
   ((Itl K a).stop i H/\D.nx O H)\/((Itl K a).go i H/\∃N:St->Hp->Prop,(∀O' H',N O' H'->∃k,k<m/\W (i+1) k O' H')/\∀x H',(Itl K a).yld i H x H'->g x O H' λO2 H2=>j {D with nx:=N,ct:=N,bk:=D.nx} O2 H2):=by
 refine⟨λi m O H=>m=xs.length-i/\i<=xs.length/\c i O H,⟨xs.length,by simp,zero_le _,o⟩,?_⟩
 rintro i m O H ⟨rfl,r,p⟩
 have q:=n i O H r p;by_cases h:i<xs.length
 ·refine .inr ⟨⟨xs,xs[i],q,by simp[h]⟩,c (i+1),λO' H' t=>⟨xs.length-(i+1),by omega,rfl,h,t⟩,λx H' y=>?_⟩
  obtain⟨e,y⟩:=y;subst e;exact l i x O _ (y xs q) p
 ·have e:i=xs.length:=by omega
  subst e;exact .inl ⟨⟨xs,q,le_refl _⟩,hd O H p⟩
def for_tup{K:qH}{a:Lz}{xs:Ls V}{g:TG}{j:TS}{D:Ends}{O:St}{H:Hp}(c:Nat->St->Hp->Prop)(o:c 0 O H)(n:∀i O H,i<=xs.length->c i O H->SqT K H a xs)
  (l:∀i x O H,xs[i]?=some x->c i O H->g x O H λO2 H2=>j {D with nx:=c (i+1),ct:=c (i+1),bk:=D.nx} O2 H2) (hd:∀O H,c xs.length O H->D.nx O H) :
  ∃W:Nat->Nat->St->Hp->Prop,(∃m,W 0 m O H)/\∀i m O H,W i m O H ->
   ((Itt K a).stop i H/\D.nx O H)\/((Itt K a).go i H/\∃N:St->Hp->Prop,(∀O' H',N O' H'->∃k,k<m/\W (i+1) k O' H')/\∀x H',(Itt K a).yld i H x H'->g x O H' λO2 H2=>j {D with nx:=N,ct:=N,bk:=D.nx} O2 H2):=by
 refine⟨λi m O H=>m=xs.length-i/\i<=xs.length/\c i O H,⟨xs.length,by simp,zero_le _,o⟩,?_⟩
 rintro i m O H ⟨rfl,r,p⟩
 have q:=n i O H r p;by_cases h:i<xs.length
 ·refine .inr ⟨⟨xs,xs[i],q,by simp[h]⟩,c (i+1),λO' H' t=>⟨xs.length-(i+1),by omega,rfl,h,t⟩,λx H' y=>?_⟩
  obtain⟨e,y⟩:=y;subst e;exact l i x O _ (y xs q) p
 ·have e:i=xs.length:=by omega
  subst e;exact .inl ⟨⟨xs,q,le_refl _⟩,hd O H p⟩
def zBs{h:Int}{n:Nat}{g:TG}{j:TS}{D:Ends}{O:St}{H:Hp}(a:Nat->St->Hp->Prop)(o:a 0 O H)
  (l:∀i O H,i<n->a i O H->g (.int (h+i)) O H λO2 H2=>j {D with nx:=a (i+1),ct:=a (i+1),bk:=D.nx} O2 H2) (hd:∀O H,a n O H->D.nx O H) :
  ∃W:Nat->Nat->St->Hp->Prop,(∃m,W 0 m O H)/\∀i m O H,W i m O H ->
   ((Itr h n).stop i H/\D.nx O H)\/((Itr h n).go i H/\∃N:St->Hp->Prop,(∀O' H',N O' H'->∃k,k<m/\W (i+1) k O' H')/\∀x H',(Itr h n).yld i H x H'->g x O H' λO2 H2=>j {D with nx:=N,ct:=N,bk:=D.nx} O2 H2):=by
 refine⟨λi m O H=>m=n-i/\i<=n/\a i O H,⟨n,by simp,zero_le _,o⟩,?_⟩
 rintro i m O H ⟨rfl,r,p⟩
 by_cases c:i<n
 ·refine .inr ⟨c,a (i+1),λO' H' q=>⟨n-(i+1),by omega,rfl,c,q⟩,λx H' y=>?_⟩
  obtain⟨e,y⟩:=y;subst e y;exact l i O _ c p
 ·have e:i=n:=by omega
  subst e;exact .inl ⟨le_refl _,hd O H p⟩
abbrev R2:=V->V->Hp->VK->Prop
def OpR(X:Cx)(f:Lv->Lv->Sem Lv)(r:R2):Prop :=
 ∀(a:Ls (Lz×Obj)) (s:La) (O:St) (H:Hp) (x y:V) (v u:Lv) (Q:VK),Inv X a O H s->ym x v->ym y u->r x y H Q ->
  wpAny (model X.prog X.w) X.A (f v u) (EP X a O Q) X.xe s
def UnR(X:Cx)(f:Lv->Sem Lv)(r:V->Hp->VK->Prop):Prop :=
 ∀(a:Ls (Lz×Obj)) (s:La) (O:St) (H:Hp) (x:V) (v:Lv) (Q:VK),Inv X a O H s->ym x v->r x H Q ->
  wpAny (model X.prog X.w) X.A (f v) (EP X a O Q) X.xe s
def Jq(X:Cx)(f:Lv)(r:Ls V->Hp->VK->Prop):Prop :=
 ∀(a:Ls (Lz×Obj)) (s:La) (O:St) (H:Hp) (e:Ls V) (c:Ls Lv) (Q:VK),Inv X a O H s->yH e c->r e H Q ->
  wpAny (model X.prog X.w) X.A (call f c) (EP X a O Q) X.xe s
def tOp(r:R2)(a c:TE):TE:=λO H Q=>a O H λx H1=>c O H1 λy H2=>r x y H2 Q
def tUn(r:V->Hp->VK->Prop)(a:TE):TE:=λO H Q=>a O H λx H1=>r x H1 Q
def rI(C:Int->Int->Prop)(g:Int->Int->V):R2:=λx y H Q=>∃i j,x=.int i/\y=.int j/\C i j/\Q (g i j) H
def rI0(g:Int->Int->V):R2:=λx y H Q=>∃i j,x=.int i/\y=.int j/\Q (g i j) H
def rU(g:Int->V):V->Hp->VK->Prop:=λx H Q=>∃i,x=.int i/\Q (g i) H
section
variable{X:Cx}{a b c:Lb}{ta tb tc:TE}{pos:Pos}
def binT(q:PE X a ta)(p:PE X b tb){c:Ls (Lz×Obj)}{s:La}{O:St}{H:Hp}{R:V->V->Hp->Prop}(I:Inv X c O H s)
  (h:ta O H λx H1=>tb O H1 λy H2=>R x y H2) {Q:Ly} {f:Lv->Lv->Sem Lv}
  (n:∀v u i x y H2,Inv X c O H2 i->ym x v->ym y u->R x y H2->wpAny (model X.prog X.w) X.A (f v u) Q X.xe i) :
  wpAny (model X.prog X.w) X.A (eval a X.env) (λv g=>wpAny (model X.prog X.w) X.A (eval b X.env) (λu e=>wpAny (model X.prog X.w) X.A (f v u) Q X.xe e) X.xe g) X.xe s:=by
 refine thn (q c s O H _ I h) λv l ⟨x,H1,I1,o,r⟩=>?_
 refine thn (p c l O H1 _ I1 r) λu i ⟨y,H2,I2,k,j⟩=>?_
 exact n v u i x y H2 I2 o k j
def pe_op{e:Operator}{r:R2}(i:OpR X (binaryOp e) r)(k:PE X a ta)(j:PE X b tb):PE X (.BinOp a e b pos) (tOp r ta tb):=by
 intro c s O H Q I h;exact wpAny_BinOp (binT k j I h λv u n x y H2 I2 g l q=>i c n O H2 x y v u Q I2 g l q)
def pe_un{e:UnaryOp}{r:V->Hp->VK->Prop}(g:UnR X (unaryOp e) r)(j:PE X a ta):PE X (.UnaryOp e a pos) (tUn r ta):=by
 intro c s O H Q I h;exact UnaryOp_ (thn (j c s O H _ I h) λv l ⟨x,H1,I1,i,k⟩=>g c l O H1 x v Q I1 i k)
def opI{f:Lv->Lv->Sem Lv}{C:Int->Int->Prop}{g:Int->Int->Int}
  (a:∀(i j:Int) (t u:Tok) (s:La) (Q:Ly) (E:Ly),C i j->Q (.int (g i j) s.toks) {s with toks:=s.toks+1}->wpAny (model X.prog X.w) X.A (f (.int i t) (.int j u)) Q E s) :
  OpR X f (rI C λi j=>.int (g i j)):=by
 intro c s O H x y v u Q I e n h;obtain⟨i,j,rfl,rfl,k,q⟩:=h;obtain⟨t,rfl⟩:=e;obtain⟨l,rfl⟩:=n;exact a i j t l s _ _ k ⟨.int (g i j),H,I.tok _,⟨_,rfl⟩,q⟩
def opI0{f:Lv->Lv->Sem Lv}{g:Int->Int->Int}
  (a:∀(i j:Int) (t u:Tok) (s:La) (Q:Ly) (E:Ly),Q (.int (g i j) s.toks) {s with toks:=s.toks+1}->wpAny (model X.prog X.w) X.A (f (.int i t) (.int j u)) Q E s) :
  OpR X f (rI0 λi j=>.int (g i j)):=by
 intro c s O H x y v u Q I e l h;obtain⟨i,j,rfl,rfl,q⟩:=h;obtain⟨t,rfl⟩:=e;obtain⟨k,rfl⟩:=l;exact a i j t k s _ _ ⟨.int (g i j),H,I.tok _,⟨_,rfl⟩,q⟩
def opB0{f:Lv->Lv->Sem Lv}{g:Lj}
  (a:∀(i j:Int) (t u:Tok) (s:La) (Q:Ly) (E:Ly),Q (.bool (g i j)) s->wpAny (model X.prog X.w) X.A (f (.int i t) (.int j u)) Q E s) :
  OpR X f (rI0 λi j=>.bl (g i j)):=by
 intro c s O H x y v u Q I e l h;obtain⟨i,j,rfl,rfl,q⟩:=h;obtain⟨t,rfl⟩:=e;obtain⟨k,rfl⟩:=l;exact a i j t k s _ _ ⟨.bl (g i j),H,I,rfl,q⟩
def CPow(i j:Int):Prop:=0<=j/\j<=1000000/\i.natAbs<2^64
def CMul(i j:Int):Prop:=(-(2^64)<i/\i<2^64)\/(-(2^64)<j/\j<2^64)
def CMul.ok{i j:Int}(h:CMul i j):IntMulOk i j:=by
 rcases h with⟨a,h2⟩|⟨a,h2⟩
 ·exact .of_left (intBits_le_64 a h2)
 ·exact .of_right (intBits_le_64 a h2)
def op_add:OpR X (binaryOp .Add) (rI0 λi j=>.int (i+j)):=opI0 λ_ _ _ _ _ _ _ q=>add_int q
def op_sub:OpR X (binaryOp .Sub) (rI0 λi j=>.int (i-j)):=opI0 λ_ _ _ _ _ _ _ q=>sub_int q
def op_mod:OpR X (binaryOp .Mod) (rI (λ_ j=>0<j) λi j=>.int (i%j)):=opI λi j _ _ _ _ _ a q=>by
 have c:(0:Int)<j:=a;exact mod_int' (by omega) (by rw[Int.fmod_eq_emod_of_nonneg i (by omega)];exact q)
def op_pow:OpR X (binaryOp .Pow) (rI CPow λi j=>.int (i^j.toNat)):=opI λ_ _ _ _ _ _ _ a q=>pow_int_small a.1 a.2.1 a.2.2 q
def unI{f:Lv->Sem Lv}{g:Int->Int}
  (a:∀(i:Int) (t:Tok) (s:La) (Q:Ly) (E:Ly),Q (.int (g i) s.toks) {s with toks:=s.toks+1}->wpAny (model X.prog X.w) X.A (f (.int i t)) Q E s) :
  UnR X f (rU λi=>.int (g i)):=by
 intro c s O H x v Q I e h;obtain⟨i,rfl,q⟩:=h;obtain⟨t,rfl⟩:=e;exact a i t s _ _ ⟨.int (g i),H,I.tok _,⟨_,rfl⟩,q⟩
def zGh:UnR X (unaryOp .USub) (rU λi=>.int (-i)):=unI λ_ _ _ _ _ q=>neg_int q
end
def scal:V->V->Bool
 | .non,.non=>true | .non,.int _=>true | .int _,.non=>true | .non,.bl _=>true | .bl _,.non=>true | .non,.str _=>true | .str _,.non=>true
 | .int _,.int _=>true | .bl _,.bl _=>true | .str _,.str _=>true | .byt _,.byt _=>true
 | .int _,.str _=>true | .str _,.int _=>true | .bl _,.str _=>true | .str _,.bl _=>true
 |_,_=>false
def rEq:R2:=λx y H Q=>scal x y=true/\Q (.bl (decide (x=y))) H
def rNe:R2:=λx y H Q=>scal x y=true/\Q (.bl (!decide (x=y))) H
def zBt{i j:Int}:decide (V.int i=V.int j)=(i==j):=by
 rw[Bool.eq_iff_iff];simp
def zGi{i j:Bool}:decide (V.bl i=V.bl j)=(i==j):=by
 rw[Bool.eq_iff_iff];simp
def zBu{i j:Str}:decide (V.str i=V.str j)=(i==j):=by
 rw[Bool.eq_iff_iff];simp
def zBv{i j:Array UInt8}:decide (V.byt i=V.byt j)=(i.toList==j.toList):=by
 rw[Bool.eq_iff_iff];cases i;cases j;simp
section
variable{X:Cx}{a b c:Lb}{ta tb tc:TE}{pos:Pos}
def zy{a:Ls (Lz×Obj)}{O:St}{H:Hp}{s:La}{Q:VK}{k c:Bool}(I:Inv X a O H s)(q:Q (.bl k) H)(e:k=c):EP X a O Q (.bool c) s:=by
 subst e;exact⟨.bl k,H,I,rfl,q⟩
def op_eq:OpR X (compareOp .Eq) rEq:=by
 intro k s O H x y v u Q I g a h;obtain⟨e,q⟩:=h;cases x with
 |non =>
  cases g;cases y with
  |non=>cases a;exact PySem.EqNone.eq_none_none (zy I q (by simp))|bl j=>cases a;exact PySem.EqNone.eq_none_bool (zy I q (by simp))|int j=>obtain⟨c,rfl⟩:=a;exact PySem.EqNone.eq_none_int (zy I q (by simp))|str j=>obtain⟨c,rfl⟩:=a;exact PySem.EqNone.eq_none_str (zy I q (by simp))|_=>exact absurd (show false=true from e) qF
 |bl i =>
  cases g;cases y with
  |non=>cases a;exact PySem.EqNone.eq_bool_none (zy I q (by simp))|bl j=>cases a;exact eq_bool (zy I q zGi)|str j=>obtain⟨c,rfl⟩:=a;exact PySem.EqMixed.eq_bool_str (zy I q (by simp))|_=>exact absurd (show false=true from e) qF
 |int i =>
  obtain⟨t,rfl⟩:=g;cases y with
  |non=>cases a;exact PySem.EqNone.eq_int_none (zy I q (by simp))|int j=>obtain⟨c,rfl⟩:=a;exact eq_int (zy I q zBt)|str j=>obtain⟨c,rfl⟩:=a;exact PySem.EqMixed.eq_int_str (zy I q (by simp))|_=>exact absurd (show false=true from e) qF
 |str i =>
  obtain⟨t,rfl⟩:=g;cases y with
  |non=>cases a;exact PySem.EqNone.eq_str_none (zy I q (by simp))|bl j=>cases a;exact PySem.EqMixed.eq_str_bool (zy I q (by simp))|int j=>obtain⟨c,rfl⟩:=a;exact PySem.EqMixed.eq_str_int (zy I q (by simp))|str j=>obtain⟨c,rfl⟩:=a;exact eq_str (zy I q zBu)|_=>exact absurd (show false=true from e) qF
 |byt i =>
  obtain⟨t,rfl⟩:=g;cases y with
  |byt j=>obtain⟨c,rfl⟩:=a;exact PySem.W.eq_bytes (zy I q zBv)|_=>exact absurd (show false=true from e) qF
 |_=>cases y<;>exact absurd (show false=true from e) qF
def op_ne:OpR X (compareOp .NotEq) rNe:=by
 intro k s O H x y v u Q I g a h;obtain⟨e,q⟩:=h;cases x with
 |non =>
  cases g;cases y with
  |non=>cases a;exact PySem.EqNone.ne_none_none (zy I q (by simp))|bl j=>cases a;exact PySem.EqNone.ne_none_bool (zy I q (by simp))|int j=>obtain⟨c,rfl⟩:=a;exact PySem.EqNone.ne_none_int (zy I q (by simp))|str j=>obtain⟨c,rfl⟩:=a;exact PySem.EqNone.ne_none_str (zy I q (by simp))|_=>exact absurd (show false=true from e) qF
 |bl i =>
  cases g;cases y with
  |non=>cases a;exact PySem.EqNone.ne_bool_none (zy I q (by simp))|bl j=>cases a;exact ne_bool (zy I q (congrArg not zGi))|str j=>obtain⟨c,rfl⟩:=a;exact PySem.EqMixed.ne_bool_str (zy I q (by simp))|_=>exact absurd (show false=true from e) qF
 |int i =>
  obtain⟨t,rfl⟩:=g;cases y with
  |non=>cases a;exact PySem.EqNone.ne_int_none (zy I q (by simp))|int j=>obtain⟨c,rfl⟩:=a;exact ne_int (zy I q (congrArg not zBt))|str j=>obtain⟨c,rfl⟩:=a;exact PySem.EqMixed.ne_int_str (zy I q (by simp))|_=>exact absurd (show false=true from e) qF
 |str i =>
  obtain⟨t,rfl⟩:=g;cases y with
  |non=>cases a;exact PySem.EqNone.ne_str_none (zy I q (by simp))|bl j=>cases a;exact PySem.EqMixed.ne_str_bool (zy I q (by simp))|int j=>obtain⟨c,rfl⟩:=a;exact PySem.EqMixed.ne_str_int (zy I q (by simp))|str j=>obtain⟨c,rfl⟩:=a;exact ne_str (zy I q (congrArg not zBu))|_=>exact absurd (show false=true from e) qF
 |byt i =>
  obtain⟨t,rfl⟩:=g;cases y with
  |byt j=>obtain⟨c,rfl⟩:=a;exact PySem.W.ne_bytes (zy I q (congrArg not zBv))|_=>exact absurd (show false=true from e) qF
 |_=>cases y<;>exact absurd (show false=true from e) qF
def op_lt:OpR X (compareOp .Lt) (rI0 λi j=>.bl (decide (i<j))):=opB0 λ_ _ _ _ _ _ _ q=>lt_int q
def op_le:OpR X (compareOp .LtE) (rI0 λi j=>.bl (decide (i<=j))):=opB0 λ_ _ _ _ _ _ _ q=>le_int q
def op_gt:OpR X (compareOp .Gt) (rI0 λi j=>.bl (decide (j<i))):=opB0 λ_ _ _ _ _ _ _ q=>gt_int q
def op_ge:OpR X (compareOp .GtE) (rI0 λi j=>.bl (decide (j<=i))):=opB0 λ_ _ _ _ _ _ _ q=>ge_int q
def OpR.or{f:Lv->Lv->Sem Lv}{r r':R2}(h:OpR X f r)(h':OpR X f r'):OpR X f (λx y H Q=>r x y H Q\/r' x y H Q):=by
 intro a s O H x y v u Q I c e q;rcases q with q|q
 ·exact h a s O H x y v u Q I c e q
 ·exact h' a s O H x y v u Q I c e q
def zBw{e:CmpOp}{r:R2}(j:OpR X (compareOp e) r)(l:PE X a ta)(k:PE X b tb)(g:behindInMarks e b=false):PE X (.Compare a [e] [b] pos) (tOp r ta tb):=by
 intro c s O H Q I h;exact wpAny_Compare1 (binT l k I h λv u o x y H2 I2 i n q=>j c o O H2 x y v u Q I2 i n q) g
def tTest(t:TE):TT:=λO H Q=>t O H λx H'=>∃k,x=.bl k/\Q k H'
def zBx{i:CmpOp}{r:R2}(q:OpR X (compareOp i) r)(B:PE X a ta)(w:PE X b tb)(j:behindInMarks i b=false):PT X (.Compare a [i] [b] pos) (tTest (tOp r ta tb)):=by
 intro g s O H Q I h;refine wpAny_isTrue_Compare1 (thn (B g s O H _ I h) λv o ⟨x,H1,I1,t,D⟩=>thn (w g o O H1 _ I1 D) λu E ⟨y,H2,I2,n,l⟩ =>
  thn (q g E O H2 x y v u _ I2 t n l) λc G ⟨z,H3,I3,C,k,e,p⟩=>?_) j
 subst e;cases C;exact wpAny_truthy_bool ⟨H3,I3,p⟩
def zBy(r r':R2)(a g e:TE):TE:=λO H Q=>a O H λx H1=>g O H1 λy H2=>r x y H2 λz H3=>∃k,z=.bl k /\
 (if k=true then e O H3 λc H4=>r' y c H4 Q else Q (.bl false) H3)
def zEZ{j i:CmpOp}{r r':R2}(C:OpR X (compareOp j) r)(l:OpR X (compareOp i) r')(J:PE X a ta)(S:PE X b tb)(D:PE X c tc)
  (B:lastMarks [j,i] [b,c]=false:=by with_unfolding_all rfl):PE X (.Compare a [j,i] [b,c] pos) (zBy r r' ta tb tc):=by
 intro g s O H Q I h;refine Compare_chain (thn (J g s O H _ I h) λv W ⟨x,H1,I1,R,K⟩=>chain_link (thn (S g W O H1 _ I1 K) λu E ⟨y,H2,I2,o,G⟩ =>
  thn (C g E O H2 x y v u _ I2 R o G) λd p ⟨z,H3,I3,V,k,e,n⟩=>?_)) B
 subst e;cases V;refine wpAny_truthy_bool ?_;cases k with
 |false=>exact ite_ff ⟨.bl false,H3,I3,rfl,n⟩|true=>exact ite_tt (chain_last (thn (D g p O H3 _ I3 n) λq M ⟨t,H4,I4,L,w⟩=>l g M O H4 y t u q Q I4 o L w))
def zEa{j i:CmpOp}{r r':R2}(G:OpR X (compareOp j) r)(l:OpR X (compareOp i) r')(S:PE X a ta)(hb:PE X b tb)(J:PE X c tc)
  (E:lastMarks [j,i] [b,c]=false:=by with_unfolding_all rfl):PT X (.Compare a [j,i] [b,c] pos) (tTest (zBy r r' ta tb tc)):=by
 intro g s O H Q I h;refine isTrue_chain (thn (S g s O H _ I h) λv s1 ⟨x,H1,I1,Z,V⟩=>test_link (thn (hb g s1 O H1 _ I1 V) λu K ⟨y,H2,I2,o,L⟩ =>
  thn (G g K O H2 x y v u _ I2 Z o L) λd p ⟨z,H3,I3,r3,k,e,n⟩=>?_)) E
 subst e;cases r3;refine wpAny_truthy_bool ?_;cases k with
 |false =>
  obtain⟨k',M,B⟩:=n;cases M;exact ite_ff ⟨H3,I3,B⟩
 |true =>
  refine ite_tt (test_last (thn (J g p O H3 _ I3 n) λq Y ⟨C,H4,I4,W,D⟩=>thn (l g Y O H4 y C u q _ I4 o W D) λd' s5 ⟨z2,H5,I5,t,k2,w,R⟩=>?_));subst w;cases t;exact wpAny_truthy_bool ⟨H5,I5,R⟩
def Qx:(sizeLine:Nat)<2^63:=by rw[sizeLine_eq];decide
def Gw{x:V}{a:Ls Lv}(r:yH [x] a):∃u,a=[u]/\ym x u:=by
 cases r with
 |cons c e=>cases e;exact⟨_,rfl,c⟩
def zEb{x y:V}{a:Ls Lv}(r:yH [x,y] a):∃u w',a=[u,w']/\ym x u/\ym y w':=by
 cases r with
 |cons g e =>
  cases e with
  |cons h c=>cases c;exact⟨_,_,rfl,g,h⟩
def zBz(g:X.calm=true):Jq X (.builtin "max") (λe H Q=>∃i j,e=[.int i,.int j]/\Q (.int (if j > i then j else i)) H):=by
 intro c s O H e v Q I r h;obtain⟨i,j,rfl,q⟩:=h;obtain⟨u,l,rfl,⟨t,rfl⟩,⟨o,rfl⟩⟩:=zEb r;refine max_two_ints (I.ok.hd g) λn p k=>⟨_,H,I.kept k,?_,q⟩
 by_cases a:j > i
 ·rw[if_pos a,if_pos a];exact⟨_,rfl⟩
 ·rw[if_neg a,if_neg a];exact⟨_,rfl⟩
def zB0(g:X.calm=true):Jq X (.builtin "min") (λe H Q=>∃i j,e=[.int i,.int j]/\Q (.int (if j<i then j else i)) H):=by
 intro c s O H e v Q I r h;obtain⟨i,j,rfl,q⟩:=h;obtain⟨u,l,rfl,⟨t,rfl⟩,⟨o,rfl⟩⟩:=zEb r;refine min_two_ints (I.ok.hd g) λn p k=>⟨_,H,I.kept k,?_,q⟩
 by_cases a:j<i
 ·rw[if_pos a,if_pos a];exact⟨_,rfl⟩
 ·rw[if_neg a,if_neg a];exact⟨_,rfl⟩
def zB1:Jq X (.type "int") (λa H Q=>(∃i,a=[.int i]/\Q (.int i) H)\/∃k,a=[.bl k]/\Q (.int (if k then 1 else 0)) H):=by
 intro c s O H a g Q I r h;rcases h with⟨i,rfl,q⟩|⟨k,rfl,q⟩
 ·obtain⟨u,rfl,t,rfl⟩:=Gw r
  exact call_int_int ⟨.int i,H,I,⟨_,rfl⟩,q⟩
 ·obtain⟨u,rfl,e⟩:=Gw r
  cases e;exact call_int_bool ⟨.int (if k then 1 else 0),H,I.tok _,⟨_,rfl⟩,q⟩
end
section
variable{X:Cx}{pins:Ls (Lz×Obj)}{O:St}{H:Hp}{s:La}{a C dx:Lz}{fs:Ls (Str×V)}{f:Str}{v:V}{A:Lg}{E:Ly}
def attr_of{prog:Lc}{w:Le}{env:Env}{e:Lb}{f:Str}{pos:Pos}{s:La}{Q:Ly}(c:attributeBase e f env (eval e env)=eval e env)
  (h:wpAny (model prog w) A (eval e env) (λo a=>wpAny (model prog w) A (getAttr o f true) Q E a) E s):wpAny (model prog w) A (eval (.Attribute e f pos) env) Q E s :=
 Attribute_any_ h (by rw[arm_eval_Attribute,c])
end
structure Room(k:Nat)(A:Lg):Prop where
 hd:A.handled=none
 gd:A.guards=some []
 dp:A.depth+3*k+5<recursionLimit
 un:A.units+16*k+200<cLine
def Room.mono{j k:Nat}{A:Lg}(r:Room k A)(h:j<=k):Room j A:=⟨r.hd,r.gd,by have:=r.dp;omega,by have:=r.un;omega⟩
def zA7{A:Lg}{C:Lz}{a:Ls Lv}{c:Ls (Str×Lv)}:(A.under (.builtin "type.__call__" ⟨.ref C::a,c⟩)).depth=A.depth+1:=by
 first|rfl|simp[Around.under,Code.weight,Code.isCreation,Code.isGuard,Code.isCaller,Code.frames,Code.isFrame,guardIds]
def zA8{A:Lg}{C:Lz}{a:Ls Lv}{c:Ls (Str×Lv)}:(A.under (.builtin "type.__call__" ⟨.ref C::a,c⟩)).units=A.units+1:=by
 first|rfl|simp[Around.under,Code.cUnits,Code.frames,Code.isFrame]
def Room.make{k:Nat}{A:Lg}(r:Room (k+1) A)(C:Lz)(a:Ls Lv)(c:Ls (Str×Lv)):Room k (A.under (.builtin "type.__call__" ⟨.ref C::a,c⟩)) :=
 ⟨r.hd,(by first|exact r.gd|simpa[Around.under,Code.guards,pushGuards]using r.gd),by have:=r.dp;rw[zA7];omega,by have:=r.un;rw[zA8];omega⟩
def tNil:TA:=λ_ H Q=>Q [] H
def zA9(c:TE)(a:TA):TA:=λO H Q=>c O H λx H1=>a O H1 λe H2=>Q (x::e) H2
section
variable{X:Cx}{e:Lb}{es:Ls Lb}{te:TE}{t:TA}{pos:Pos}
def YI:PA X [] tNil:=λ_ _ _ _ H Q I h=>Calls.spliced_nil ⟨[],H,I,.nil,h⟩
def jL(o:PE X e te)(g:PA X es t)(j:starEach (e::es) X.env=(false,eval e X.env)::starEach es X.env:=by rfl):PA X (e::es) (zA9 te t):=by
 intro c a s O H Q I h;rw[j];show wpAny _ _ (spliced ((false,eval e X.env)::backTo c (starEach es X.env))) _ _ s;refine Calls.spliced_cons (thn (o a s O H _ I h) λu q ⟨x,H1,I1,n,p⟩=>?_);exact thn (g c a q O H1 _ I1 p) λv r ⟨l,H2,I2,k,i⟩=>⟨x::l,H2,I2,.cons n k,i⟩
def tTup(t:TA):TE:=λO H Q=>t O H λa H1=>a.length<=sizeLine/\∀p,H1 p=none->Q (.ref p) (upd H1 p (.t a))
def tLst(t:TA):TE:=λO H Q=>t O H λa H1=>a.length<=sizeLine/\∀p,H1 p=none->Q (.ref p) (upd H1 p (.l a))
def pe_tup{x1}(h:PA X es t):PE X (.Tuple es x1 pos) (tTup t):=by
 intro a s O H Q I j;refine wpAny_Tuple_spliced (thn (h pos a s O H _ I j) λi c ⟨g,H1,I1,r,z,q⟩=>⟨by rw[<- r.length];exact z,?_⟩);have hf:H1 c.heap.objs.size=none:=I1.hok.fresh (le_refl _);refine⟨.ref c.heap.objs.size,upd H1 c.heap.objs.size (.t g),I1.laid (t':=c.toks) (λb u e=>qA _ e) (le_refl _) ?_,rfl,q _ hf⟩;exact⟨z,i,r,⟨_,get?_push_size _ rfl,rfl,_,rfl⟩⟩
def pe_lst(h:PA X es t):PE X (.List es pos) (tLst t):=by
 intro a s O H Q I j;refine wpAny_List_spliced (thn (h pos a s O H _ I j) λi c ⟨g,H1,I1,r,z,q⟩=>⟨by rw[<- r.length];exact z,?_⟩);have hf:H1 c.heap.objs.size=none:=I1.hok.fresh (le_refl _);refine⟨.ref c.heap.objs.size,upd H1 c.heap.objs.size (.l g),I1.laid (t':=c.toks) (λb u e=>qA _ e) (le_refl _) ?_,rfl,q _ hf⟩;exact⟨z,i,0,r,get?_push_size _ rfl⟩
end
abbrev Sp:=Ls V->Hp->VK->XK->Prop
abbrev CXT:=Ls Env->Hp->La->XK->Ly
structure Env0(P:Lc)(w:Le)(K:qH)(mg:Str->Option Lv)(base:Heap)(A:Lg)(outer:List Env)(s:La)(H:Hp):Prop where
 frames:A.frames=some outer
 mod:Mod K mg base
 bs:∀b o,base.get? b=some o->s.heap.get? b=some o/\H b=none
 bsz:base.objs.size<=s.heap.objs.size
 funs:s.heap.FunFrames base outer
 frf:∀b∈frs outer,H b=none
 hok:HOk P w H s.heap
 bare:AllBare s.gens
def CE(outer:Ls Env)(P:Lc)(w:Le)(H:Hp)(s:La)(Q:VK)(u:Lv)(s':La):Prop :=
 ∃v H',s'.os=s.os/\AllBare s'.gens/\Un (frs outer) [] H H' s.heap s'.heap/\HOk P w H' s'.heap/\ym v u/\Q v H'
def CR(a:CXT)(outer:Ls Env)(P:Lc)(w:Le)(H:Hp)(s:La)(Q:VK)(E:XK)(r:Result)(s':La):Prop :=
 match r with
 | .ok (.ret u)=>CE outer P w H s Q u s'| .ok _=>False| .error e=>a outer H s E e s'
structure FnOk(P:Lc)(w:Le)(K:qH)(mg:Str->Option Lv)(base:Heap)(CX:CXT)(k:Nat)(f:Lz)(fd:FuncData)(ps:Ll)(sp:Sp):Prop where
 len:∀vs H Q E,sp vs H Q E->vs.length=ps.length
 run:∀(A:Lg) (outer:List Env) (s:La) (H:Hp) (args:Args) (us:List Lv) (vs:List V) (Q:VK) (E:XK),Room k A->Env0 P w K mg base A outer s H->BindsTo s fd args (ps.zip us)->yH vs us->sp vs H Q E ->
  codeAny (model P w) A (.call (.ref f) args) (CR CX outer P w H s Q E) s
theorem FnOk.mono{P:Lc}{w:Le}{K:qH}{g:Str->Lx Lv}{base:Heap}{e:CXT}{j k:Nat}{f:Lz}{i:FuncData}{c:Ls Str}{sp:Sp}(F:FnOk P w K g base e j f i c sp)(h:j<=k) :
  FnOk P w K g base e k f i c sp:=⟨F.len,λA outer s H a o n Q E l=>F.run A outer s H a o n Q E (l.mono h)⟩
def FnOk.imp{P:Lc}{w:Le}{K:qH}{i:Str->Lx Lv}{base:Heap}{g:CXT}{k:Nat}{f:Lz}{j:FuncData}{e:Ls Str}{sp sp':Sp}(F:FnOk P w K i base g k f j e sp)
  (h:∀a H Q E,sp' a H Q E->sp a H Q E):FnOk P w K i base g k f j e sp' :=
 ⟨λa H Q E q=>F.len a H Q E (h _ _ _ _ q),λA outer s H c r a Q E l o p hv n=>F.run A outer s H c r a Q E l o p hv (h _ _ _ _ n)⟩
def Env0.make{P:Lc}{w:Le}{K:qH}{a:Str->Lx Lv}{base:Heap}{A:Lg}{outer:Ls Env}{s:La}{H:Hp}(e:Env0 P w K a base A outer s H)(C:Lz)(c:Ls Lv)(g:Ls (Str×Lv)) :
  Env0 P w K a base (A.under (.builtin "type.__call__" ⟨.ref C::c,g⟩)) outer s H:=⟨by first|exact e.frames|(simpa[Around.under,Code.envs,Code.isFrame,pushEnvs]using e.frames),e.mod,e.bs,e.bsz,e.funs,e.frf,e.hok,e.bare⟩
section
variable{X:Cx}{pins:Ls (Lz×Obj)}{O:St}{H:Hp}{s s':La}
def Inv.env0(I:Inv X pins O H s):Env0 X.prog X.w X.K X.mg X.base X.A X.stack s H :=
 ⟨I.ok.frames,I.ok.mod,I.bs,le_trans I.ok.bsz I.sz,I.stack,I.stkFree,I.hok,I.bare⟩
def Inv.after{Q:VK}{u:Lv}(I:Inv X pins O H s)(h:CE X.stack X.prog X.w H s Q u s'):EP X pins O Q u s':=by
 obtain⟨v,H',os,a,un,c,r,q⟩:=h;obtain⟨i,g,d,t,e⟩:=s';obtain rfl:e=s.os:=os;exact⟨v,H',I.call (h':=i) (g':=g) (d':=d) (t':=t) (ch:=[]) un c a (λb z=>absurd z (by simp)),r,q⟩
end
def wt(K:qH)(e:FuncData)(c:Ls Str)(ds:Ls Lv):Prop :=
 ∀(s:La) (a:Ls Lv),K.In s.heap->(a++ds).length=c.length->BindsTo s e ⟨a,[]⟩ (c.zip (a++ds))
def wt.all{K:qH}{e:FuncData}{c:Ls Str}(h:∀a:Ls Lv,a.length=c.length->bindArgs e ⟨a,[]⟩=pure (c.zip a)):wt K e c []:=λs a _ hl=>by
 rw[append_nil]at hl ⊢;exact .of_eq (h a hl)
structure FnScope(N P:Ll)(sc:Scope):Prop where
 kind:sc.kind=.function
 co:sc.isCoroutine=false
 gen:sc.isGenerator=false
 nd:N.Nodup
 pre:N.take P.length=P
 par:∀x∈P,sc.names.lookup x=some .local\/sc.names.lookup x=some .cell
 nofree:∀y∈sc.names,y.2≠.free
theorem uQ{a:Str->Lx NameKind}{x:Str}:∀{binds:Ls (Str×Lv)} {m:Str->Lx Lv},(∀v,(x,v)∉binds)->bindL a binds m x=m x
 | [],_,_=>rfl
 | (n,v)::r,m,h=>by
  unfold bindL;rw[uQ λw c=>h w (qD _ c)];split
  ·have:x≠n:=by rintro rfl;exact h v qE
   simp[this]
  ·rfl
theorem uR{a:Str->Lx NameKind}{x:Str}:∀{binds:Ls (Str×Lv)} {m:Str->Lx Lv},(∀v,(x,v)∉binds)->bindC a binds m x=m x
 | [],_,_=>rfl
 | (n,v)::r,m,h=>by
  unfold bindC;rw[uR λw c=>h w (qD _ c)];split
  ·rfl
  ·have:x≠n:=by rintro rfl;exact h v qE
   simp[this]
theorem uS{a:Str->Lx NameKind}{x:Str}{v:Lv}:∀{P:Ls Str} {c:Ls Lv} {i:Nat} {m:Str->Lx Lv},P.Nodup->P[i]?=some x->c[i]?=some v->a x=some .local ->
  bindL a (P.zip c) m x=some v
 | [],_,_,_,_,h,_,_=>by simp at h|_::_,[],_,_,_,_,h,_=>by simp at h
 |p::P,w::c,0,m,j,e,h2,g=>by
  simp at e h2;subst e;subst h2
  show bindL a ((p,w)::P.zip c) m p=_
  unfold bindL;rw[uQ λv hv=>(nodup_cons.mp j).1 (of_mem_zip hv).1,if_pos g];simp
 |p::P,w::c,i+1,m,j,e,h2,g=>by
  show bindL a ((p,w)::P.zip c) m x=_
  unfold bindL;exact uS (i:=i) (nodup_cons.mp j).2 (by exists e) (by exists h2) g
theorem uT{a:Str->Lx NameKind}{x:Str}{v:Lv}:∀{P:Ls Str} {c:Ls Lv} {i:Nat} {m:Str->Lx Lv},P.Nodup->P[i]?=some x->c[i]?=some v->a x≠some .local ->
  bindC a (P.zip c) m x=some v
 | [],_,_,_,_,h,_,_=>by simp at h|_::_,[],_,_,_,_,h,_=>by simp at h
 |p::P,w::c,0,m,j,e,h2,g=>by
  simp at e h2;subst e;subst h2
  show bindC a ((p,w)::P.zip c) m p=_
  unfold bindC;rw[uR λv hv=>(nodup_cons.mp j).1 (of_mem_zip hv).1,if_neg g];simp
 |p::P,w::c,i+1,m,j,e,h2,g=>by
  show bindC a ((p,w)::P.zip c) m x=_
  unfold bindC;exact uT (i:=i) (nodup_cons.mp j).2 (by exists e) (by exists h2) g
def wu(N:Ls Str)(vs:Ls V):St:=vs.map some++replicate (N.length-vs.length) none
def cxOf(i:CXT)(P:Lc)(w:Le)(K:qH)(mg:Str->Lx Lv)(base:Heap)(N:Ls Str)(c:Str)(a:Scope)(f:Lz)(h:Lv)(A:Lg)(outer:Ls Env)(s:La)(H:Hp)(E:XK):Cx where
 prog:=P
 w:=w
 K:=K
 mg:=mg
 base:=base
 A:=A.deeper (envOfC c a s.heap.objs.size f h)
 N:=N
 s₀:=s
 H₀:=H
 env:=envOfC c a s.heap.objs.size f h
 outer:=outer
 stack:=envOfC c a s.heap.objs.size f h::outer
 ex:=[]
 calm:=true
 fn:=λ_=>true
 pn:=[]
 xe:=λe k=>wpAny (model P w) (A.deeper (envOfC c a s.heap.objs.size f h)) (leaving (envOfC c a s.heap.objs.size f h) e) (λ_ g=>i outer H s E e g) (λj g=>i outer H s E j g) k
def Qy{sc:Scope}{n:Nat}{x:Str}(h:sc.names.lookup x=some .cell):∃c,(cellsFrom n sc.names []).lookup x=some c:=by
 have q:=cellsFrom_some sc.names n [] (.inl h);exact Option.isSome_iff_exists.mp q
def zB2{Q:CXT}{P:Lc}{w:Le}{K:qH}{M:Str->Lx Lv}{base:Heap}{N t:Ls Str}{j:Str}{g:Scope}{f:Lz}{I:Lv}{A:Lg}{outer:Ls Env}{s s1:La}{H:Hp}{E:XK}{L:Ls Lv}{vs:Ls V}
  (S:FnScope N t g) (hd:A.handled=none) (l:Env0 P w K M base A outer s H) (Y:vs.length=t.length) (r:yH vs L)
  (x:InCallC s s.heap.objs.size (bindL (envOfC j g s.heap.objs.size f I).kindOf (t.zip L) λ_=>none) (cellsFrom (s.heap.objs.size+1) g.names []) (bindC (envOfC j g s.heap.objs.size f I).kindOf (t.zip L) λ_=>none) s1) :
  Inv (cxOf Q P w K M base N j g f I A outer s H E) [] (wu N vs) H s1:=by
 have W:t.length<=N.length:=by have:=congrArg length S.pre;rw[List.length_take]at this;omega
 obtain⟨G,tk,rfl,O⟩:=x.done;have o:∀b:Lz,b∉(cxOf Q P w K M base N j g f I A outer s H E).ex:=λb z=>absurd (show b∈([]:Ls Lz)from z) (by simp)
 refine⟨⟨l.mod,S.kind,rfl,rfl,le_refl _,λy z c G h2=>?_,λy B=>?_,λy c _ h=>?_,λ_=>hd,Around.frames_deeper l.frames,.inr ⟨rfl,rfl⟩,λb z=>absurd z (o b),l.bs,l.bsz,λb _ _=>o b,λb z=>absurd z (o b),l.funs,l.frf⟩,
  rfl,l.bare,Un.kept O,⟨_,x.toInCall.ns,λi y v G h2 Z=>?_⟩,λy c h=>⟨_,x.cell y c h⟩,l.hok.fresh (le_refl _),λy c h=>?_,λp D=>absurd (show p∈([]:Ls (Lz×Obj))from D) (by simp),l.hok.kept O,?_⟩
 ·exact name_of_addr x.apart (PySem.mem_of_lookup G) (PySem.mem_of_lookup h2)
 ·have B:g.names.lookup y=some .cell\/g.names.lookup y=some .free:=B
  rcases B with B|B
  ·exact Qy B
  ·exact absurd rfl (S.nofree _ (PySem.mem_of_lookup B))
 ·exact Nat.le_of_lt (x.above y c (PySem.mem_of_lookup h))
 ·have J:i<vs.length:=by
   unfold wu at h2;by_cases J:i<vs.length
   ·exact J
   ·rw[List.getElem?_append_right (by exists J)]at h2
    rw[List.getElem?_replicate]at h2;split at h2<;>cases h2
  have X:vs[i]?=some v:=by
   unfold wu at h2;rw[getElem?_append_left (by exists J),getElem?_map]at h2;cases e:vs[i]? with
   |none=>rw[e]at h2;cases h2|some a=>rw[e]at h2;cases h2;rfl
  obtain⟨u,hu,R⟩:=r.get X;have D:t[i]?=some y:=by
   rw[<- S.pre,List.getElem?_take_of_lt (by omega)];exact G
  have C:t.Nodup:=by rw[<- S.pre];exact S.nd.sublist (List.take_sublist _ _)
  refine⟨u,R,?_⟩;rcases S.par y (mem_of_getElem? D)with k|k
  ·exact .inl ⟨k,uS C D hu k⟩
  ·obtain⟨c,e⟩:=Qy (n:=s.heap.objs.size+1) k
   refine .inr ⟨.inl k,c,e,?_⟩;have q:=x.cell y c e;rw[uT C D hu (by show g.names.lookup y≠_;rw[k];decide)]at q;exact q
 ·exact l.hok.fresh (Nat.le_of_lt (x.above y c (PySem.mem_of_lookup h)))
 ·unfold wu
  show _=N.length
  rw[length_append,length_map,List.length_replicate];omega
section
variable{X:Cx}{x:Str}{p pos:Pos}{e:Lb}{es:Ls Lb}{t:TA}{id T:String}{r:Ls V->Hp->VK->Prop}
def tCB(r:Ls V->Hp->VK->Prop)(t:TA):TE:=λO H Q=>t O H λa H1=>r a H1 Q
def YJ(q:Jq X (.builtin id) r)(l:Gl X x)(i:X.mg x=none)(n:bootBuiltins x=some (.builtin id))(v:PA X (e::es) t)(hn:x≠"__name__":=by decide)(g:(x==("__debug__":Str))=false:=by decide)
  (j:starEach (e::es) X.env=(false,eval e X.env)::starEach es X.env:=by rfl) (c:(backTo pos (starEach es X.env)).any (·.1)=false:=by rfl):PE X (.Call (.Name x p) (e::es) [] pos) (tCB r t):=by
 intro a s O H Q I h;refine wpAny_Call_Name_kw (ZJ I l i n ?_ hn g);exact PyProof.Rows.callWith_builtin1 (thn (v pos a s O H _ I h) λu y ⟨k,H1,I1,o,w⟩=>q a y O H1 k u Q I1 o w) j c
def zB3(q:Jq X (.type T) r)(l:Gl X x)(i:X.mg x=none)(n:bootBuiltins x=some (.type T))(v:PA X (e::es) t)(hn:x≠"__name__":=by decide)(g:(x==("__debug__":Str))=false:=by decide)
  (j:starEach (e::es) X.env=(false,eval e X.env)::starEach es X.env:=by rfl) (c:(backTo pos (starEach es X.env)).any (·.1)=false:=by rfl):PE X (.Call (.Name x p) (e::es) [] pos) (tCB r t):=by
 intro a s O H Q I h;refine wpAny_Call_Name_kw (ZJ I l i n ?_ hn g);exact PyProof.Rows.callWith_type1 (thn (v pos a s O H _ I h) λu y ⟨k,H1,I1,o,w⟩=>q a y O H1 k u Q I1 o w) j c
end
end L2
namespace HT
open PySem PyProof.Rows
section
variable{prog:Lc}{w:Le}{A:Lg}{E:Ly}{s:La}
def cat_tup{t b:Lz}{vs a:Ls Lv}{Q:Ly}(y:IsTup s.heap t vs.toArray)(C:IsTup s.heap b a.toArray)(x:vs≠[])
  (z:a=[]->Q (.ref t) s) (B:a≠[]->Q (.ref s.heap.objs.size) {s with heap:=s.heap.push {cls:=.type "tuple",data:=.seq (vs++a).toArray}})
  (hsz:vs.length+a.length<=sizeLine):wpAny (model prog w) A (binaryOp .Add (.ref t) (.ref b)) Q E s:=by
 obtain⟨⟨cls,q,data,o⟩,ho,u,n,v⟩:=id y;obtain⟨⟨p,g,l,j⟩,c,h,r,i⟩:=id C;simp only at u v h i;subst u v h i;have e:vs.toArray++a.toArray=(vs++a).toArray:=by simp
 by_cases k:a=[]
 ·exact concat_meets ⟨_,ho,rfl⟩ ⟨_,c,rfl⟩ noFill_tuple_add seq_tuple_add PySem.F.slot_tuple_add PySem.F.entry_tuple_add (PySem.F.args_tuple_add_2 _ _)
   (tuple_addW1 t b vs.toArray a.toArray n r q g o j (by exists x) (by simp[k])) ⟨ho,c,z k⟩
 ·refine concat_meets ⟨_,ho,rfl⟩ ⟨_,c,rfl⟩ noFill_tuple_add seq_tuple_add PySem.F.slot_tuple_add PySem.F.entry_tuple_add (PySem.F.args_tuple_add_2 _ _)
   (tuple_addW2 t b vs.toArray a.toArray n r q g o j (by exists x) (by exists k) (by rw[size_toArray,size_toArray];exact hsz)) ⟨ho,c,?_⟩
  rw[e];exact B k
def sIx(n d:Nat):Lx Int->Nat
 |none=>d|some v=>if v<0 then(v+(n:Int)).toNat else min v.toNat n
def sIx_nat(n d k:Nat):sIx n d (some (k:Int))=min k n:=by
 show(if(k:Int)<0 then((k:Int)+(n:Int)).toNat else min (k:Int).toNat n)=min k n
 rw[if_neg (by omega),Int.toNat_natCast]
def sIx_le(n d:Nat)(hd:d<=n)(o:Lx Int):sIx n d o<=n:=by
 cases o with
 |none=>exact hd
 |some v =>
  show(if v<0 then(v+(n:Int)).toNat else min v.toNat n)<=n
  by_cases hv:v<0
  ·rw[if_pos hv];omega
  ·rw[if_neg hv];exact Nat.min_le_right _ _
def zB4(v:Int)(n d:Nat):(if v<0 then max (v+(n:Int)) 0 else min v (n:Int))=((sIx n d (some v):Nat):Int):=by
 show(if v<0 then max (v+(n:Int)) 0 else min v (n:Int))=(((if v<0 then(v+(n:Int)).toNat else min v.toNat n):Nat):Int)
 by_cases hv:v<0
 ·dsimp[if_pos hv];omega
 ·dsimp[if_neg hv];omega
def zBA(a c:Lx Int)(n:Nat):Builtin.Slice.sliceAdjust a c 1 (n:Int)=(((sIx n 0 a:Nat):Int),((sIx n n c:Nat):Int)):=by
 have e:¬((1:Int)<0):=by omega
 unfold Builtin.Slice.sliceAdjust;dsimp[e,if_false];refine Prod.ext ?_ ?_
 ·cases a with
  |none=>rfl|some v=>exact zB4 v n 0
 ·cases c with
  |none=>rfl|some v=>exact zB4 v n n
def zBB(i j:Nat):Builtin.Slice.slicePlaces (i:Int) (j:Int) 1=j-i:=by
 unfold Builtin.Slice.slicePlaces;have a:(1:Int) > 0:=by omega
 dsimp[a,if_true,Int.ediv_one];split<;>omega
def slicePart_{v:Lv}{o:Lx Int}{Q:Lx Int->La->Prop}(p:IsPart v o)(h:Q o s):wpAny (model prog w) A (Builtin.Slice.slicePartIndex v) Q E s:=by
 cases p with
 |none=>exact slicePart_none h|int i t=>exact slicePart_int h
def sliceApplied_gen{k:Lz}{j i:Lv}{a e:Lx Int}{n:Nat}{Q:Int×Int×Nat->La->Prop}(o:s.heap.IsSliceOf k j i .none)(p:IsPart j a)(l:IsPart i e)
  (h:Q (((sIx n 0 a:Nat):Int),1,sIx n n e-sIx n 0 a) s):wpAny (model prog w) A (Builtin.Slice.sliceApplied (.ref k) (pure (n:Int))) Q E s:=by
 obtain⟨r,c,q,g⟩:=id o;unfold Builtin.Slice.sliceApplied Builtin.Slice.sliceFields;refine qB (qB (wpAny_field c g (x:=j) rfl (qB (wpAny_field c g (x:=i) rfl (qB (wpAny_field c g (x:=.none) rfl (qC ?_)))))));refine qB (slicePart_none ?_);show wpAny _ _ (if((1:Int)==0)=true then _ else _) _ _ s;rw[if_neg (by decide)];refine qB (slicePart_ p (qB (slicePart_ l (qB (qC ?_)))));show wpAny _ _ (match Builtin.Slice.sliceAdjust a e 1 (n:Int)with|(a,e)=>pure (a,(1:Int),Builtin.Slice.slicePlaces a e 1)) _ _ s
 rw[zBA a e n];show wpAny _ _ (pure (((sIx n 0 a:Nat):Int),(1:Int),Builtin.Slice.slicePlaces ((sIx n 0 a:Nat):Int) ((sIx n n e:Nat):Int) 1)) _ _ s;rw[zBB];exact qC h
def zEc(xs:Li)(i k:Nat):((List.range k).filterMap λ(m:Nat)=>xs[((i:Int)+(m:Int)*1).toNat]?).toArray=((xs.toList.drop i).take k).toArray:=by
 have e:(λ(m:Nat)=>xs[((i:Int)+(m:Int)*1).toNat]?)=λm=>xs[i+m]?:=by
  funext m
  have:((i:Int)+(m:Int)*1).toNat=i+m:=by omega
  rw[this]
 rw[e];have:=pick_run xs i k;rw[filterMap_map]at this;have a:((λx=>xs[x]?) ∘ λx=>i+x)=λm=>xs[i+m]?:=rfl
 rw[a]at this;rw[this]
def getItem_tuple_cut{t j:Lz}{a:Li}{r u:Lv}{e g:Lx Int}{Q:Ly}(i:IsTup s.heap t a)(p:s.heap.IsSliceOf j r u .none)(y:IsPart r e)(B:IsPart u g)
  (z:¬(sIx a.size 0 e=0/\sIx a.size a.size g=a.size))
  (h:Q (.ref s.heap.objs.size) {s with heap:=s.heap.push {cls:=.type "tuple",data:=.seq ((a.toList.drop (sIx a.size 0 e)).take (sIx a.size a.size g-sIx a.size 0 e)).toArray}})
  (hsz:a.size<=sizeLine):wpAny (model prog w) A (getItem (.ref t) (.ref j)) Q E s:=by
 have c:sizeOk (.seq ((a.toList.drop (sIx a.size 0 e)).take (sIx a.size a.size g-sIx a.size 0 e)).toArray):=by
  show((a.toList.drop (sIx a.size 0 e)).take (sIx a.size a.size g-sIx a.size 0 e)).toArray.size<=sizeLine
  rw[size_toArray,List.length_take,List.length_drop,Array.length_toList];omega
 have D:sIx a.size a.size g<=a.size:=sIx_le _ _ (le_refl _) g;obtain⟨v,o,l,x⟩:=id p;have k:s.TypeIs (.ref j) "slice":=⟨v,o,l⟩;unfold getItem
 try with_reducible refine wpAny_holding ?_
 first|refine qB (qC ?_)|skip
 refine qB (wpAny_sequenceKey i.typeIs (by decide) ?_);refine qB (wpAny_callSpecial?_slot (name:=Str.ofString "__getitem__") i.typeIs PyProof.Rows.slot_tuple_getitem
  (wpAny_call_entry PyProof.Rows.slot_tuple_getitem i.typeIs entry_tuple_getitem ?_ (args_tuple_getitem _ _)))
 show wpAny _ _ (Builtin.Tuple.tupleItemsOf (.ref t) >>= _) _ _ s
 refine qB (tupleItemsOf_ i ?_);refine qB (wpAny_typeOf k ?_);rw[if_pos (by decide)];refine qB (sliceApplied_gen p y B ?_);have n:¬((((sIx a.size 0 e:Nat):Int)==0&&(1:Int)==1&&(sIx a.size a.size g-sIx a.size 0 e)==a.size)=true):=by
  intro q;rw[Bool.and_eq_true,Bool.and_eq_true]at q;have G:((sIx a.size 0 e:Nat):Int)=0:=eq_of_beq q.1.1;have C:sIx a.size a.size g-sIx a.size 0 e=a.size:=eq_of_beq q.2;exact z ⟨by omega,by omega⟩
 show wpAny _ _ (if(((sIx a.size 0 e:Nat):Int)==0&&(1:Int)==1&&(sIx a.size a.size g-sIx a.size 0 e)==a.size)=true then _ else _) _ _ s
 rw[if_neg n,zEc]
 first
  |exact qB (m:=Builtin.Tuple.tupleExact _) (wpAny_newObj_type (qC ⟨_,rfl,qC h⟩) c)
  |exact qB (m:=Builtin.Tuple.tupleExact _) (wpAny_newObj_type (qB (qC (qC ⟨_,rfl,qC h⟩))) c)
  |exact qB (qB (m:=Builtin.Tuple.tupleExact _) (wpAny_newObj_type (qC (qC ⟨_,rfl,qC h⟩)) c))
  |exact qB (qB (m:=Builtin.Tuple.tupleExact _) (wpAny_newObj_type (qC ⟨_,rfl,qC h⟩) c))
end
end HT
namespace L2
open PySem PySem.Spec PyProof.Rows
abbrev TO:=St->Hp->(Lx Int->Hp->Prop)->Prop
def PO(X:Cx)(e:Lx Lb)(t:TO):Prop :=
 ∀(a:Ls (Lz×Obj)) (s:La) (O:St) (H:Hp) (Q:Lx Int->Hp->Prop),Inv X a O H s->t O H Q ->
  wpAny (model X.prog X.w) X.A (evalPart e X.env) (λu c=>∃o H',Inv X a O H' c/\IsPart u o/\Q o H') X.xe s
def tNoPart:TO:=λ_ H Q=>Q none H
def tPart(t:TE):TO:=λO H Q=>t O H λx H1=>∃i,x=.int i/\Q (some i) H1
section
variable{X:Cx}{e:Lb}{te:TE}{lo hi:Lx Lb}{tl th:TO}{pos p2:Pos}
def po_none:PO X none tNoPart:=by
 intro a s O H Q I h;rw[evalPart_none];exact qC ⟨none,H,I,.none,h⟩
def po_some(h:PE X e te):PO X (some e) (tPart te):=by
 intro a s O H Q I c;rw[evalPart_some];refine thn (h a s O H _ I c) λu k ⟨x,H1,I1,g,j⟩=>?_
 obtain⟨i,rfl,q⟩:=j;obtain⟨t,rfl⟩:=g;exact⟨some i,H1,I1,.int i t,q⟩
def SlR(X:Cx)(r:V->Lx Int->Lx Int->Hp->VK->Prop):Prop :=
 ∀(a:Ls (Lz×Obj)) (s:La) (O:St) (H:Hp) (x:V) (v i g:Lv) (c h:Lx Int) (e:Lz) (Q:VK),Inv X a O H s->ym x v->s.heap.IsSliceOf e i g .none->IsPart i c->IsPart g h->r x c h H Q ->
  ∃T id,typeLookup (.type T) "__getitem__"=pure (some (.builtin id))/\s.TypeIs v T/\wpAny (model X.prog X.w) X.A (getItem v (.ref e)) (EP X a O Q) X.xe s
def SlR.or{r r':V->Lx Int->Lx Int->Hp->VK->Prop}(h:SlR X r)(h':SlR X r'):SlR X (λx c e H Q=>r x c e H Q\/r' x c e H Q):=by
 intro a s O H x v o l c e g Q I n j k i q;rcases q with q|q
 ·exact h a s O H x v o l c e g Q I n j k i q
 ·exact h' a s O H x v o l c e g Q I n j k i q
def tSl(r:V->Lx Int->Lx Int->Hp->VK->Prop)(a:TE)(e c:TO):TE:=λO H Q=>a O H λx H1=>e O H1 λl H2=>c O H2 λu H3=>r x l u H3 Q
def zEd{r:V->Lx Int->Lx Int->Hp->VK->Prop}(k:SlR X r)(o:PE X e te)(p:PO X lo tl)(w:PO X hi th):PE X (.Subscript e (.Slice lo hi none p2) pos) (tSl r te tl th):=by
 intro a s O H Q I h;refine Subscript_ (thn (o a s O H _ I h) λv z ⟨x,H1,I1,B,D⟩=>?_);refine wpAny_Slice (thn (p a z O H1 _ I1 D) λi E ⟨l,H2,I2,t,n⟩=>thn (w a E O H2 _ I2 n) λg c ⟨u,H3,I3,j,y⟩=>?_);rw[evalPart_none];refine qC ?_;have I4:Inv X a O H3 {c with heap:=c.heap.push {cls:=.type "slice",data:=.fields #[i,g,.none]}}:=I3.kept (t':=c.toks) λb G q=>qA _ q
 obtain⟨T,id,hT,ht,C⟩:=k a {c with heap:=c.heap.push {cls:=.type "slice",data:=.fields #[i,g,.none]}} O H3 x v i g l u c.heap.objs.size Q I4 B (Heap.IsSliceOf.new ..) t j y
 show wpAny (model X.prog X.w) X.A (subscriptTail e (.Slice lo hi none p2) v (.ref c.heap.objs.size)) (EP X a O Q) X.xe {c with heap:=c.heap.push {cls:=.type "slice",data:=.fields #[i,g,.none]}}
 exact tail_any (ops:=[.ref c.heap.objs.size,v]) ht hT C (by with_unfolding_all rfl)
def zEe(xs:Ls V)(a c:Lx Int):Ls V:=(xs.drop (HT.sIx xs.length 0 a)).take (HT.sIx xs.length xs.length c-HT.sIx xs.length 0 a)
def Z6(xs:Ls V)(a c:Lx Int):(zEe xs a c).length<=xs.length:=by
 unfold zEe;rw[List.length_take,List.length_drop];omega
def rSlT(K:qH):V->Lx Int->Lx Int->Hp->VK->Prop:=λx e g H Q=>∃a c,x=.ref a/\SqT K H a c /\
 ¬(HT.sIx c.length 0 e=0/\HT.sIx c.length c.length g=c.length)/\∀p,H p=none->Q (.ref p) (upd H p (.t (zEe c e g)))
def sl_tup:SlR X (rSlT X.K):=by
 intro k s O H x v C B g j z Q I w p t n h;obtain⟨a,e,rfl,u,l,q⟩:=h;cases w;obtain⟨i,r,ht,hz⟩:=I.tuple u;have c:i.toArray.size=e.length:=by rw[size_toArray];exact r.length.symm
 refine⟨"tuple",_,PyProof.Rows.slot_tuple_getitem.lookup,ht.typeIs,?_⟩;refine HT.getItem_tuple_cut ht p t n (by rw[c];exact l) ?_ (by rw[c];exact hz);rw[c];refine⟨.ref s.heap.objs.size,_,I.laid (t':=s.toks) (o:=.t (zEe e g j)) (λb y q=>qA _ q) (le_refl _) ?_,rfl,q _ (I.hok.fresh (le_refl _))⟩;exact⟨le_trans (Z6 e g j) hz,_,(r.drop (HT.sIx e.length 0 g)).take (HT.sIx e.length e.length j-HT.sIx e.length 0 g),IsTup.new _ _⟩
def rCatT(K:qH):R2:=λx y H Q=>∃a b e c,x=.ref a/\y=.ref b/\SqT K H a e/\SqT K H b c/\e≠[]/\e.length+c.length<=sizeLine /\
 (c=[]->Q (.ref a) H)/\(c≠[]->∀p,H p=none->Q (.ref p) (upd H p (.t (e++c))))
def yH.nil_iff{xs:Ls V}{a:Ls Lv}(r:yH xs a):a=[]↔xs=[]:=by
 cases r with
 |nil=>simp|cons _ _=>simp
def op_catT:OpR X (binaryOp .Add) (rCatT X.K):=by
 intro i s O H x y v u Q I r E h;obtain⟨a,b,p,k,rfl,rfl,D,B,l,hz,G,j⟩:=h;cases r;cases E;obtain⟨t,e,n,_⟩:=I.tuple D;obtain⟨g,c,C,_⟩:=I.tuple B;refine HT.cat_tup n C (λz=>l (e.nil_iff.mp z)) (λz=>⟨.ref a,H,I,rfl,G (c.nil_iff.mp z)⟩) (λz=>?_) (by rw[<- e.length,<- c.length];exact hz);refine⟨.ref s.heap.objs.size,_,I.laid (t':=s.toks) (o:=.t (p++k)) (λb J q=>qA _ q) (le_refl _) ?_,rfl,j (λw=>z (c.nil_iff.mpr w)) _ (I.hok.fresh (le_refl _))⟩;exact⟨by rw[length_append];exact hz,_,e.append c,IsTup.new _ _⟩
end
def ixN(n:Nat)(i:Int):Lx Nat:=if 0<=i then(if i<n then some i.toNat else none)else if -(n:Int)<=i then some (i+n).toNat else none
def atI{α:Type}(xs:Ls α)(i:Int):Lx α:=(ixN xs.length i).bind λj=>xs[j]?
def zB5{n:Nat}{i:Int}{j:Nat}(h:ixN n i=some j):seqIndex? i n=some j/\j<n/\-(n:Int)<=i/\i<n:=by
 unfold ixN at h;by_cases c:0<=i
 ·rw[if_pos c]at h
  by_cases a:i<n
  ·rw[if_pos a]at h
   have e:i.toNat=j:=qJ h;exact⟨by rw[seqIndex_of c a,e],by omega,by omega,a⟩
  ·rw[if_neg a]at h;cases h
 ·rw[if_neg c]at h
  by_cases a:-(n:Int)<=i
  ·rw[if_pos a]at h
   have e:(i+n).toNat=j:=qJ h;exact⟨by rw[seqIndex_neg (by omega) a,e],by omega,a,by omega⟩
  ·rw[if_neg a]at h;cases h
def zB6{α:Type}{xs:Ls α}{i:Int}{v:α}(h:atI xs i=some v):∃j,seqIndex? i xs.length=some j/\xs[j]?=some v/\j<xs.length/\-(xs.length:Int)<=i/\i<xs.length:=by
 unfold atI at h;exists e,ixN xs.length i,h,j;obtain⟨c,h2,a,h4⟩:=zB5 e;exact⟨j,c,h,h2,a,h4⟩
def Yt(b:Lb):Prop:=∀o i,subscripted b false o i=operate [o,i] (getItem o i)
def IxR(X:Cx)(r:R2):Prop :=
 ∀(e a:Lb) (c:Ls (Lz×Obj)) (s:La) (O:St) (H:Hp) (x y:V) (v u:Lv) (Q:VK),Inv X c O H s->ym x v->ym y u->r x y H Q ->
  subscripted a false v u=operate [v,u] (getItem v u)->wpAny (model X.prog X.w) X.A (subscriptTail e a v u) (EP X c O Q) X.xe s
def MtR(X:Cx)(id:String)(r:V->Ls V->Hp->VK->Prop):Prop :=
 ∀(a:Ls (Lz×Obj)) (s:La) (O:St) (H:Hp) (x:V) (e:Ls V) (v:Lv) (c:Ls Lv) (Q:VK),Inv X a O H s->ym x v->yH e c->r x e H Q ->
  wpAny (model X.prog X.w) X.A (call (.builtin id) (v::c)) (EP X a O Q) X.xe s
section
variable{X:Cx}{a b:Lb}{ta tb:TE}{pos:Pos}
def IxR.or{r r':R2}(h:IxR X r)(h':IxR X r'):IxR X (λx y H Q=>r x y H Q\/r' x y H Q):=by
 intro c a e s O H x y v u Q I i j q g;rcases q with q|q
 ·exact h c a e s O H x y v u Q I i j q g
 ·exact h' c a e s O H x y v u Q I i j q g
def pe_ix{r:R2}(e:IxR X r)(k:PE X a ta)(j:PE X b tb)(g:Yt b):PE X (.Subscript a b pos) (tOp r ta tb):=by
 intro c s O H Q I h;exact Subscript_ (binT k j I h λv u n x y H2 I2 i l q=>e a b c n O H2 x y v u Q I2 i l q (g _ _))
def rIxL(K:qH):R2:=λx y H Q=>∃p a i v,x=.ref p/\y=.int i/\SqL K H p a/\atI a i=some v/\Q v H
def rIxT(K:qH):R2:=λx y H Q=>∃p a i v,x=.ref p/\y=.int i/\SqT K H p a/\atI a i=some v/\Q v H
def zB7:IxR X (rIxL X.K):=by
 intro o g a s O H x y v u Q I E K h C;obtain⟨p,S,i,z,rfl,rfl,J,G,q⟩:=h;cases E;obtain⟨t,rfl⟩:=K;obtain⟨k,r,l,hz⟩:=I.list J;obtain⟨j,c,h2,R,h4,h5⟩:=zB6 G;obtain⟨w,B,e⟩:=r.get h2;have hl:=r.length;have M:=Qx;have fin:EP X a O Q w s:=⟨z,H,I,e,q⟩;by_cases D:0<=i
 ·have n:i.toNat=j:=by
   rw[seqIndex_of D h5]at c;exact qJ c
  exact item_listR l.isList D (by omega) (by rw[n];exists B) fin C
 ·have n:(i+(k.toArray.size:Int)).toNat=j:=by
   rw[seqIndex_neg (by omega) h4]at c;rw[size_toArray,<- hl];exact qJ c
  exact subscriptTail_builtinR (x:=w) l.isList.typeIs slot_list_getitem.lookup
   (wpAny_getItem_list_neg (Q:=λr L=>r=w/\EP X a O Q r L) l.isList (by omega) (by rw[size_toArray]<;>omega) (by omega) (by rw[n];exists B) ⟨rfl,fin⟩) C
def ix_tup:IxR X (rIxT X.K):=by
 intro g e a s O H x y v u Q I o G h l;obtain⟨p,M,i,z,rfl,rfl,E,n,q⟩:=h;cases o;obtain⟨t,rfl⟩:=G;obtain⟨B,r,k,hz⟩:=I.tuple E;obtain⟨j,D,h2,K,h4,h5⟩:=zB6 n;obtain⟨w,C,c⟩:=r.get h2;have hl:=r.length;have L:=Qx;have fin:EP X a O Q w s:=⟨z,H,I,c,q⟩;exact subscriptTail_builtinR (x:=w) k.typeIs slot_tuple_getitem.lookup
  (getItem_tuple (j:=j) (Q:=λr J=>r=w/\EP X a O Q r J) k (by omega) (by omega) (by rw[size_toArray,<- hl];exact D) (by exists C) ⟨rfl,fin⟩) l
def zBC(a:Ls Lv)(n j:Nat)(u:Lv):Obj.mapSeq (·.setIfInBounds j u) {cls:=.type "list",data:=.seq a.toArray n}={cls:=.type "list",data:=.seq (a.set j u).toArray n}:=by
 simp[Obj.mapSeq]
theorem Inv.lst{c:Ls (Lz×Obj)}{O:St}{H:Hp}{s:La}{p:Lz}{xs:Ls V}(I:Inv X c O H s)(h:H p=some (.l xs)) :
  ∃(a:Ls Lv) (n:Nat),yH xs a/\s.heap.get? p=some {cls:=.type "list",data:=.seq a.toArray n}/\xs.length<=sizeLine:=by
 obtain⟨z,a,n,r,e⟩:=I.hok p _ h;exact⟨a,n,r,e,z⟩
def Inv.lstUpd{a:Ls (Lz×Obj)}{O:St}{H:Hp}{s:La}{p:Lz}{xs ys:Ls V}{c its':Ls Lv}{n g:Nat}{f:Obj->Obj}(I:Inv X a O H s)(h:H p=some (.l xs))
  (k:s.heap.get? p=some {cls:=.type "list",data:=.seq c.toArray n}) (i:f {cls:=.type "list",data:=.seq c.toArray n}={cls:=.type "list",data:=.seq its'.toArray g}) (r:yH ys its') (j:ys.length<=sizeLine) (t:Nat) :
  Inv X a O (upd H p (.l ys)) {s with heap:=s.heap.update p f,toks:=t}:=by
 have e:(s.heap.update p f).get? p=some {cls:=.type "list",data:=.seq its'.toArray g}:=by
  rw[get?_update_self f k (by rw[i]<;>rfl),i]
 refine I.write (x:=p) (e:=p) (by rw[h];trivial) (.inl rfl) (λb u l q=>(Heap.get?_update_other _ _ (Ne.symm l)).trans q) ⟨_,e⟩ ?_;exact⟨j,its',g,r,e⟩
def rSetL:V->V->V->Hp->(Hp->Prop)->Prop:=λo i v H Q=>∃p a k j,o=.ref p/\i=.int k/\H p=some (.l a)/\ixN a.length k=some j/\Q (upd H p (.l (a.set j v)))
def zEf:PSet X rSetL:=by
 intro a s O H o i v E G u Q I D y z h;obtain⟨p,C,k,j,rfl,rfl,x,B,q⟩:=h;cases D;obtain⟨t,rfl⟩:=y;obtain⟨c,n,r,ho,hz⟩:=I.lst x;obtain⟨e,h2,l,h4⟩:=zB5 B;have hl:=r.length;have J:=Qx;have I':Inv X a O (upd H p (.l (C.set j v))) {s with heap:=s.heap.update p (Obj.mapSeq (·.setIfInBounds j u))} :=
  I.lstUpd x ho (zBC c n j u) (r.set z j) (by rw[List.length_set];exact hz) s.toks
 by_cases w:0<=k
 ·have g:k.toNat=j:=by
   rw[seqIndex_of w h4]at e;exact qJ e
  exact PySem.W.ki_setAt ho w (by omega) (by rw[size_toArray,<- hl];exact h4) (by rw[g];exact⟨_,I',q⟩)
 ·have g:(k+(c.toArray.size:Int)).toNat=j:=by
   rw[seqIndex_neg (by omega) l]at e;rw[size_toArray,<- hl];exact qJ e
  exact PySem.W.ki_setBack ho (by omega) (by rw[size_toArray,<- hl];exact l) (by omega) (by rw[g];exact⟨_,I',q⟩)
def uU(a c:Lx Int)(n:Nat):(sliceBounds a c none n).1=((HT.sIx n 0 a:Nat):Int)/\(sliceBounds a c none n).2.1=((HT.sIx n n c:Nat):Int)/\(sliceBounds a c none n).2.2=1:=by
 refine⟨?_,?_,rfl⟩
 ·cases a with
  |none=>simp[sliceBounds,HT.sIx]
  |some i =>
   dsimp[sliceBounds,HT.sIx,Option.getD_none,show(1:Int) > 0 by decide,if_true];by_cases h:i<0
   ·dsimp[h,if_true]<;>omega
   ·dsimp[h,if_false]<;>omega
 ·cases c with
  |none=>simp[sliceBounds,HT.sIx]
  |some i =>
   dsimp[sliceBounds,HT.sIx,Option.getD_none,show(1:Int) > 0 by decide,if_true];by_cases h:i<0
   ·dsimp[h,if_true]<;>omega
   ·dsimp[h,if_false]<;>omega
def vQ(a:Ls Lv)(c e:Lx Int):slicePick a.toArray c e none=((a.drop (HT.sIx a.length 0 c)).take (HT.sIx a.length a.length e-HT.sIx a.length 0 c)).toArray:=by
 obtain⟨h,h2,g⟩:=uU c e a.toArray.size;unfold slicePick;rw[h,h2,g];dsimp[sliceRange_one,pick_run,size_toArray]<;>rfl
def rSlL(K:qH):V->Lx Int->Lx Int->Hp->VK->Prop:=λx e g H Q=>∃a c,x=.ref a/\SqL K H a c/\∀p,H p=none->Q (.ref p) (upd H p (.l (zEe c e g)))
def sl_list:SlR X (rSlL X.K):=by
 intro j s O H x v B z g i y Q I t l n k h;obtain⟨a,c,rfl,p,q⟩:=h;cases t;obtain⟨u,r,ht,hz⟩:=I.list p;have e:=r.length;refine⟨"list",_,slot_list_getitem.lookup,ht.isList.typeIs,?_⟩;refine wpAny_getItem_list_slice ht.isList l n k .none (by simp) ?_ (by rw[size_toArray]<;>omega);rw[vQ,<- e];refine⟨.ref s.heap.objs.size,_,I.laid (t':=s.toks) (o:=.l (zEe c g i)) (λb w q=>qA _ q) (le_refl _) ?_,rfl,q _ (I.hok.fresh (le_refl _))⟩;exact⟨le_trans (Z6 c g i) hz,_,0,(r.drop (HT.sIx c.length 0 g)).take (HT.sIx c.length c.length i-HT.sIx c.length 0 g),get?_push_size _ rfl⟩
def Wq:V->Bool
 | .non=>true| .bl _=>true| .int _=>true| .str _=>true|_=>false
def eqV:V->V->Bool
 | .non,.non=>true| .bl a,.bl b=>a==b| .bl a,.int b=>(if a then 1 else 0)==b| .int a,.bl b=>a==(if b then 1 else 0)| .int a,.int b=>a==b| .str a,.str b=>a==b|_,_=>false
def Qz{A:Lg}{s:La}{y x:V}{u v:Lv}(h:ym y u)(c:ym x v)(i:Wq y=true)(g:Wq x=true):SeqAt.EqAt A s u v (eqV y x):=by
 cases y with
 |non =>
  cases h;cases x with
  |non=>cases c;exact SeqAt.EqAt.same _|bl b=>cases c;exact SeqAt.EqAt.none_bool b|int b=>obtain⟨t,rfl⟩:=c;exact SeqAt.EqAt.none_int b t|str b=>obtain⟨t,rfl⟩:=c;exact SeqAt.EqAt.none_str b t|_=>exact absurd (show false=true from g) qF
 |bl a =>
  cases h;cases x with
  |non=>cases c;exact SeqAt.EqAt.bool_none a|bl b=>cases c;exact SeqAt.EqAt.bool_bool a b|int b=>obtain⟨t,rfl⟩:=c;exact SeqAt.EqAt.bool_int a b t|str b=>obtain⟨t,rfl⟩:=c;exact SeqAt.EqAt.bool_str a b t|_=>exact absurd (show false=true from g) qF
 |int a =>
  obtain⟨e,rfl⟩:=h;cases x with
  |non=>cases c;exact SeqAt.EqAt.int_none a e|bl b=>cases c;exact SeqAt.EqAt.int_bool a e b|int b=>obtain⟨t,rfl⟩:=c;exact SeqAt.EqAt.int_int a e b t|str b=>obtain⟨t,rfl⟩:=c;exact SeqAt.EqAt.int_str a e b t|_=>exact absurd (show false=true from g) qF
 |str a =>
  obtain⟨e,rfl⟩:=h;cases x with
  |non=>cases c;exact SeqAt.EqAt.str_none a e|bl b=>cases c;exact SeqAt.EqAt.str_bool a e b|int b=>obtain⟨t,rfl⟩:=c;exact SeqAt.EqAt.str_int a e b t|str b=>obtain⟨t,rfl⟩:=c;exact SeqAt.EqAt.str_str a e b t|_=>exact absurd (show false=true from g) qF
 |_=>exact absurd (show false=true from i) qF
def eqU(x:V)(u:Lv):Bool:=match u with
 | .none=>eqV .non x| .bool b=>eqV (.bl b) x| .int i _=>eqV (.int i) x| .str z _=>eqV (.str z) x|_=>false
def zGj{x y:V}{u:Lv}(r:ym y u)(f:Wq y=true):eqU x u=eqV y x:=by
 cases y with
 |non=>cases r;rfl|bl b=>cases r;rfl|int i=>obtain⟨t,rfl⟩:=r;rfl|str z=>obtain⟨t,rfl⟩:=r;rfl|_=>exact absurd (show false=true from f) qF
theorem Z7{x:V}:∀{a:Ls V} {c:Ls Lv},yH a c->a.all Wq=true->c.any (eqU x)=a.any λy=>eqV y x
 |_,_,.nil,_=>rfl
 |y::a,u::c,.cons r t,f=>by
  rw[all_cons,Bool.and_eq_true]at f;rw[any_cons,any_cons,zGj r f.1,Z7 t f.2]
theorem YK{A:Lg}{s:La}{x:V}{v:Lv}(e:ym x v)(g:Wq x=true):∀{a:Ls V} {c:Ls Lv},yH a c->a.all Wq=true->∀u∈c,SeqAt.EqAt A s u v (eqU x u)
 |_,_,.nil,_=>λu hu=>by cases hu
 |y::a,u::c,.cons r t,f=>λh hu=>by
  rw[all_cons,Bool.and_eq_true]at f;rcases mem_cons.mp hu with rfl|hu
  ·rw[zGj r f.1];exact Qz r e f.1 g
  ·exact YK e g t f.2 h hu
def inV(x:V)(xs:Ls V):Bool:=xs.any λy=>eqV y x
def rIn(K:qH)(neg:Bool):R2:=λx y H Q=>∃p a,y=.ref p/\(SqL K H p a\/SqT K H p a)/\Wq x=true/\a.all Wq=true/\Q (.bl (if neg then !inV x a else inV x a)) H
def uV:OpR X (compareOp .In) (rIn X.K false):=by
 intro i s O H x y v u Q I j l h;obtain⟨p,n,rfl,c,k,fs,q⟩:=h;cases l;rcases c with c|c
 ·obtain⟨a,r,g,hz⟩:=I.list c
  refine SeqAt.in_listAt (eqU x) g.isList (λw e=>YK j k r fs w (by exists e)) ⟨.bl _,H,I,rfl,?_⟩;rw[show a.toArray.any (eqU x)=a.any (eqU x)by simp,Z7 r fs];exact q
 ·obtain⟨a,r,g,hz⟩:=I.tuple c
  refine SeqAt.in_tupleAt (eqU x) g (λw e=>YK j k r fs w (by exists e)) ⟨.bl _,H,I,rfl,?_⟩;rw[show a.toArray.any (eqU x)=a.any (eqU x)by simp,Z7 r fs];exact q
def ZK:OpR X (compareOp .NotIn) (rIn X.K true):=by
 intro i s O H x y v u Q I j l h;obtain⟨p,n,rfl,c,k,fs,q⟩:=h;cases l;rcases c with c|c
 ·obtain⟨a,r,g,hz⟩:=I.list c
  refine SeqAt.notIn_listAt (eqU x) g.isList (λw e=>YK j k r fs w (by exists e)) ⟨.bl _,H,I,rfl,?_⟩;rw[show a.toArray.any (eqU x)=a.any (eqU x)by simp,Z7 r fs];exact q
 ·obtain⟨a,r,g,hz⟩:=I.tuple c
  refine SeqAt.notIn_tupleAt (eqU x) g (λw e=>YK j k r fs w (by exists e)) ⟨.bl _,H,I,rfl,?_⟩;rw[show a.toArray.any (eqU x)=a.any (eqU x)by simp,Z7 r fs];exact q
def ZL:Jq X (.builtin "len") (λl H Q=>∃p c,l=[.ref p]/\(SqL X.K H p c\/SqT X.K H p c)/\Q (.int c.length) H):=by
 intro k s O H l t Q I r h;obtain⟨p,c,rfl,e,q⟩:=h;obtain⟨u,rfl,n⟩:=Gw r;cases n;have o:=Qx;rcases e with e|e
 ·obtain⟨j,i,g,hz⟩:=I.list e
  have a:=i.length;exact Calls.call_len_list g.isList (by dsimp[size_toArray]<;>omega) ⟨.int c.length,H,I.tok _,⟨s.toks+1,by rw[size_toArray,a]⟩,q⟩
 ·obtain⟨j,i,g,hz⟩:=I.tuple e
  have a:=i.length;exact len_tuple g (by dsimp[size_toArray]<;>omega) ⟨.int c.length,H,I.tok _,⟨s.toks+1,by rw[size_toArray,a]⟩,q⟩
def uW:Jq X (.type "list") (λz H Q=>∃p g,z=[.ref p]/\(SqL X.K H p g\/SqT X.K H p g)/\∀l,H l=none->Q (.ref l) (upd H l (.l g))):=by
 intro k s O H z D Q I r h;obtain⟨p,g,rfl,v,q⟩:=h;obtain⟨u,rfl,C⟩:=Gw r;cases C;have fin:∀(a:Ls Lv),yH g a->g.length<=sizeLine->∀(c:Heap) (j:Nat),(∀b B,s.heap.get? b=some B->c.get? b=some B) ->
   c.get? s.heap.objs.size=some {cls:=.type "list",dict:=none,data:=.seq a.toArray j,slots:=#[]}->EP X k O Q (.ref s.heap.objs.size) {s with heap:=c}:=λa i hz c j kp e =>
  ⟨.ref s.heap.objs.size,_,I.laid (t':=s.toks) kp (le_refl _) (show zz X.prog X.w _ c _ (.l g)from⟨hz,a,j,i,e⟩),rfl,q _ (I.hok.fresh (le_refl _))⟩
 rcases v with v|v
 ·obtain⟨a,i,x,hz⟩:=I.list v
  have t:=i.length;obtain⟨o,ho,w,n,y⟩:=x.isList;exact call_list_seq p (.inl rfl) ho w y (λc j kp e=>fin a i hz c j kp e) (by dsimp[size_toArray]<;>omega)
 ·obtain⟨a,i,x,hz⟩:=I.tuple v
  have t:=i.length;obtain⟨o,ho,w,n,y⟩:=x;exact call_list_seq p (.inr rfl) ho w y (λc j kp e=>fin a i hz c j kp e) (by dsimp[size_toArray]<;>omega)
def vR:Jq X (.type "tuple") (λt H Q=>∃p g,t=[.ref p]/\((SqL X.K H p g/\∀l,H l=none->Q (.ref l) (upd H l (.t g)))\/(SqT X.K H p g/\Q (.ref p) H))):=by
 intro a s O H t x Q I r h;obtain⟨p,g,rfl,h⟩:=h;obtain⟨u,rfl,w⟩:=Gw r;cases w;rcases h with⟨n,q⟩|⟨n,q⟩
 ·obtain⟨c,k,j,hz⟩:=I.list n
  have v:=k.length;refine call_tuple_list j.isList (λi kp=>?_) (by dsimp[size_toArray]<;>omega);have I1:Inv X a O H {s with heap:=i}:=I.kept (t':=s.toks) kp
  have I2:Inv X a O (upd H i.objs.size (.t g)) {s with heap:=i.push {cls:=.type "tuple",data:=.seq c.toArray}} :=
   I1.laid (t':=s.toks) (λb o e=>qA _ e) (le_refl _) (show zz X.prog X.w _ _ _ (.t g)from⟨hz,c,k,IsTup.new _ _⟩)
  exact⟨.ref i.objs.size,_,I2,rfl,q _ (I1.hok.fresh (le_refl _))⟩
 ·obtain⟨c,k,j,hz⟩:=I.tuple n
  exact call_tuple_same j ⟨.ref p,H,I,rfl,q⟩
def tyV(K:qH)(T:String)(x:V)(H:Hp):Prop:=match x with
 | .str _=>T="str"| .int _=>T="int"
 | .ref p=>(T="list"/\∃c,SqL K H p c)\/(T="tuple"/\∃o,K.lookup p=some o/\o.cls=.type "tuple"/\o.dict=none) \/
   (T="dict"/\((∃a,H p=some (.dK a))\/∃a,H p=some (.dT a)))\/(T="set"/\∃S n,H p=some (.set S n))
 |_=>False
def tyV_is{j:Ls (Lz×Obj)}{O:St}{H:Hp}{s:La}{T:String}{x:V}{v:Lv}(I:Inv X j O H s)(r:ym x v)(k:tyV X.K T x H) :
  s.TypeIs v T/\∀a,v=.ref a->∃w,s.heap.get? a=some w/\w.dict=none:=by
 cases x with
 |str z =>
  obtain⟨t,rfl⟩:=r;cases (show T="str" from k);exact⟨typeIs_str s z t,λ_ e=>nomatch e⟩
 |int i =>
  obtain⟨t,rfl⟩:=r;cases (show T="int" from k);exact⟨typeIs_int s i t,λ_ e=>nomatch e⟩
 |ref p =>
  cases r;rcases k with⟨rfl,E,D⟩|⟨rfl,o,g,C,u⟩|⟨rfl,g⟩|⟨rfl,S,n,g⟩
  ·obtain⟨B,_,y,_⟩:=I.list D
   refine⟨y.isList.typeIs,λa e=>?_⟩;cases e;obtain⟨o,n,e,c,u,_⟩:=y;exact⟨o,e,u⟩
  ·refine⟨⟨o,I.kIn p o g,C⟩,λa e=>?_⟩
   cases e;exact⟨o,I.kIn _ o g,u⟩
  ·have z:∃o,s.heap.get? p=some o/\o.ExactDict:=by
    rcases g with⟨l,g⟩|⟨l,g⟩
    ·obtain⟨_,_,_,_,o,_,_,e,h,_⟩:=I.hok p _ g
     exact⟨o,e,h⟩
    ·obtain⟨_,_,_,_,o,_,_,e,h,_⟩:=I.hok p _ g
     exact⟨o,e,h⟩
   obtain⟨o,e,h⟩:=z;refine⟨⟨o,e,h.1⟩,λa q=>?_⟩;cases q;exact⟨o,e,h.2.1⟩
  ·obtain⟨o,_,_,_,e,h,_⟩:=I.hok p _ g
   refine⟨⟨o,e,h.1⟩,λa q=>?_⟩;cases q;exact⟨o,e,h.2.1⟩
 |_=>exact False.elim k
def tBM(K:qH)(T:String)(r:V->Ls V->Hp->VK->Prop)(a:TE)(t:TA):TE:=λO H Q=>a O H λx H1=>tyV K T x H1/\t O H1 λc H2=>r x c H2 Q
variable{o e:Lb}{es:Ls Lb}{to:TE}{t:TA}{name:Str}{apos cpos:Pos}{T id:String}{r:V->Ls V->Hp->VK->Prop}
def pe_bm(q:PlainAttrs T)(j:Slot T name id)(l:typeOf (.builtin id)=pure (.type "method_descriptor"))(u:MtR X id r)(z:PE X o to)(J:PA X (e::es) t)
  (i:attributeBase o name X.env (eval o X.env)=eval o X.env:=by rfl)
  (k:((backTo cpos (starEach (e::es) X.env)).all (λx=>!x.1)&&(backToKw cpos (keywordEach [] X.env)).all (λx=>x.1.isSome)
   && decide ((e::es).length+([]:Ls Keyword).length+(if([]:Ls Keyword).isEmpty then 0 else 1)<30))=true:=by rfl)
  (g:(apos.endLine==cpos.line)=true:=by rfl) (w:starEach (e::es) X.env=(false,eval e X.env)::starEach es X.env:=by rfl) (c:(backTo cpos (starEach es X.env)).any (·.1)=false:=by rfl) :
  PE X (.Call (.Attribute o name apos) (e::es) [] cpos) (tBM X.K T r to t):=by
 intro a s O H Q I h;refine wpAny_Call_method_late i k g rfl (thn (z a s O H _ I h) λv L ⟨x,H1,I1,p,ty,K⟩=>?_);obtain⟨G,h2⟩:=tyV_is I1 p ty;refine⟨T,id,q,j,l,G,h2,?_⟩;have n:=J cpos a L O H1 _ I1 K;rw[w]at n ⊢;refine Calls.callWith_builtin (by show(false||(backTo cpos (starEach es X.env)).any (·.1))=false;rw[c]<;>rfl) (Calls.evalArgs_plain ?_);exact thn n λB C ⟨E,H2,I2,y,D⟩=>u a C O H2 x E v B Q I2 p y D
end
def MtM(X:Cx)(id:String)(r:V->Ls V->Hp->VK->Prop):Prop :=
 ∀(a:Ls (Lz×Obj)) (s:La) (O:St) (H:Hp) (x:V) (e:Ls V) (v:Lv) (c:Ls Lv) (Q:VK),Inv X a O H s->ym x v->yH e c->r x e H Q ->
  wpAny (model X.prog X.w) X.A (call (.builtin id) (v::c)) (EP X a O Q) X.xe s
def yH.one:∀{x:V} {a:Ls Lv},yH [x] a->∃u,a=[u]/\ym x u
 |_,_,.cons r .nil=>⟨_,rfl,r⟩
theorem yH.rep{xs:Ls V}{a:Ls Lv}(h:yH xs a):∀k:Nat,yH (replicate k xs).flatten (replicate k a).flatten
 |0=>.nil
 |k+1=>by
  rw[replicate_succ,replicate_succ,flatten_cons,flatten_cons];exact yH.append h (yH.rep h k)
theorem Z8(c:Ls Lv):∀(k:Nat) (a:Ls Lv),
  foldl (λi h=>i++h) a.toArray (replicate k c.toArray)=(a++(replicate k c).flatten).toArray
 |0,a=>by simp
 |k+1,a=>by
  have e:a.toArray++c.toArray=(a++c).toArray:=by simp
  have g:(a++c)++(replicate k c).flatten=a++(replicate (k+1) c).flatten:=by
   rw[replicate_succ,flatten_cons,append_assoc]
  rw[<- g,<- Z8 c k (a++c),<- e,replicate_succ,List.foldl_cons]
section
variable{X:Cx}{pins:Ls (Lz×Obj)}{O:St}{H:Hp}{s:La}{l b:Lz}{xs ys zs:Ls V}
def Inv.lset{a its':Ls Lv}{n:Nat}{f:Li->Li}{t':Nat}(I:Inv X pins O H s)(i:H l=some (.l xs))
  (e:s.heap.get? l=some {cls:=.type "list",data:=.seq a.toArray n}) (h:f a.toArray=its'.toArray) (g:yH ys its') (c:ys.length<=sizeLine) :
  Inv X pins O (upd H l (.l ys)) {s with heap:=s.heap.update l (Obj.mapSeq f),toks:=t'}:=by
 have q:=PySem.IsL.update e f;rw[h]at q;refine I.write (x:=l) (e:=l) (by rw[i];exact trivial) (.inl rfl) (λk u j hu=>(Heap.get?_update_other s.heap (Obj.mapSeq f) (Ne.symm j)).trans hu) ⟨_,q⟩ ?_;exact⟨c,its',_,g,q⟩
def Inv.lnew{a:Ls Lv}{t':Nat}(I:Inv X pins O H s)(e:yH ys a)(c:ys.length<=sizeLine) :
  Inv X pins O (upd H s.heap.objs.size (.l ys)) {s with heap:=s.heap.push {cls:=.type "list",data:=.seq a.toArray},toks:=t'} :=
 I.laid (λ_ _ q=>qA _ q) (le_refl _) ⟨c,a,0,e,get?_push_size _ rfl⟩
theorem Inv.fresh(I:Inv X pins O H s):H s.heap.objs.size=none:=I.hok.fresh (le_refl _)
def Inv.lstM(I:Inv X pins O H s)(c:H l=some (.l xs)):xs.length<=sizeLine/\∃(a:Ls Lv) (n:Nat),yH xs a/\xs.length=a.length/\s.heap.get? l=some {cls:=.type "list",data:=.seq a.toArray n}:=by
 obtain⟨z,a,n,r,e⟩:=I.hok l _ c;exact⟨z,a,n,r,r.length,e⟩
def zEg{n:Nat}(h:n<=sizeLine):Builtin.List.listTooLong n=false:=by
 unfold Builtin.List.listTooLong;exact decide_eq_false (by omega)
end
section
variable{X:Cx}
def zB8:V->Ls V->Hp->VK->Prop:=λx c H Q=>∃l a y,x=.ref l/\c=[y]/\H l=some (.l a)/\a.length<sizeLine/\Q .non (upd H l (.l (a++[y])))
def uX:MtM X "list.append" zB8:=by
 intro c s O H x o v t Q I k j h;obtain⟨l,p,y,rfl,rfl,g,hz,q⟩:=h;cases k;obtain⟨u,rfl,i⟩:=j.one;obtain⟨z,a,n,r,hl,e⟩:=I.lstM g;refine call_meets F.slot_list_append ⟨_,e,rfl⟩ F.entry_list_append (F.args_list_append_2 _ _) (PySem.list_append l a.toArray n u (by rw[size_toArray];omega)) ⟨e,?_⟩;refine⟨.non,_,I.lset (its':=a++[u]) g e (by simp) (r.append (.cons i .nil)) ?_,rfl,q⟩;rw[length_append,List.length_singleton];omega
def Gy{α:Type}(xs:Ls α)(k:Nat):(replicate k xs).flatten.length=k*xs.length:=by
 induction k with
 |zero=>simp|succ k a=>rw[replicate_succ,flatten_cons,length_append,a,Nat.succ_mul,Nat.add_comm]
end
end L2
namespace Att
open PySem PySem.W PySem.Calls PyProof.Rows
def Z9{P:Params}{h:Heap}:∀(ns:Ls Int) (c:Ls Lv),WellAll P h c (ns.map WData.int)->IntsAre c ns:=by
 intro ns
 induction ns with
 |nil =>
  intro c w;rw[map_nil]at w;cases w;exact .nil
 |cons n ns e =>
  intro c w;rw[map_cons]at w;cases w with
  |cons a b =>
   cases a;exact .cons _ _ (e _ b)
def zB9{l:OpenLaw}{n:Nat}(hn:l.most=some n){P:Params}{h:Heap}{args:Ls WData}{e:Ls Lv}
  (g:l.row.toRowW.claim.pre args=true) (o:WellAll P h e args) :
  ∃a p c,e=[Value.ref a]/\args=[WData.list (c.map WData.int)]/\h.get? a=some {cls:=.type "list",data:=.seq p.toArray}/\IntsAre p c/\c.length<=n:=by
 have k:WShape.hasAll [] args [.list .int]=true:=(pre_splitW g).1;have t:l.pre.holds [] {args:=args}=true:=(pre_splitW g).2;obtain⟨d,r,rfl,x,h2⟩:=hasAllW_cons k;obtain rfl:=hasAllW_nil h2;obtain⟨z,rfl,v⟩:=hasW_list x;obtain⟨c,rfl⟩:=items_int v;have j:c.length<=n:=by
  unfold OpenLaw.pre at t;have h4:(WTm.not (.lt (.lit (.int (n:Int))) (.len (.arg 0)))).holds [] {args:=[.list (c.map .int)]}=true:=by
   have h4:=(holds_andW t).1;rw[hn]at h4;exact h4
  have h5:=condW_of h4 (w_not (w_lt w_lit (w_len_list (w_arg rfl))));rw[length_map]at h5;refine Nat.le_of_not_lt λq=>?_
  have w:(n:Int)<((c.length:Nat):Int):=by omega
  first
   | (rw[decide_eq_true w]at h5;exact absurd h5 (by decide))
   | (simp at h5;omega)
 cases o with
 |cons u y =>
  cases y;cases u with
  |list ho i=>exact⟨_,_,c,rfl,rfl,ho,Z9 c _ i,j⟩
def zCA(l:OpenLaw)(args:Ls WData):l.row.toRowW.claim.post args (.bool true) args=true :=
 postW_of (r:=l.row.toRowW) (X:=(true==true))
  (show WShape.has [] (.bool true) .bool=true by first|rfl|decide|simp[WShape.has,WShape.arms,WShape.armsAll])
  (show(WTm.eq .res (.lit (.bool true))).value [] {args:=args,res:=some (.bool true),after:=args}=some (.bool (true==true))from w_eq_bool (w_res rfl) w_lit) rfl
def attach_call{l:OpenLaw}{n:Nat}{q:Lc}{loose:Ls Str}{XP:(Str->Lx Lv)->Heap->Prop}{YP:Le->Heap->Prop}{d:DefRec}
  (hn:l.most=some n) (B:d.params.defaults=[])
  (p:∀(w:Le) (e c:La) (v I:Str->Lx Lv) (u:Lz) (o:Obj) (D x h:Lv) (a:Lz) (i:Ls Lv) (y:Ls Int),
   Ground q loose [] XP w e v I c.heap->YP w c.heap ->
   c.heap.get? u=some o->o.data=.func (docDef d.name d.params d.body d.scope D x h)->c.heap.CodeRec x d.name->v d.name=some (.ref u) ->
   c.heap.get? a=some {cls:=.type "list",data:=.seq i.toArray}->IntsAre i y->y.length<=n->c.gens=#[] ->
   codeAny (model l.prog w) callerA (.call (.ref u) ⟨[.ref a],[]⟩) (λr z=>r=.ok (.ret (.bool true))/\OldK c.heap z.heap/\z.os=c.os/\AllBare z.gens) c) :
  WalkO q loose XP YP l.row.toRowW d [] (λf i=>PySem.call f i):=by
 intro w e c v I G Y u o D x h X kV ho W H M E R J L as k K Z C V;obtain rfl:X=.none:=Dflts.none M B;obtain rfl:kV=.none:=Dflts.noKw M;obtain⟨a,i,y,rfl,rfl,t,g,j⟩:=zB9 hn k C;refine enter_call (codeAny_mono (p w e c v I u o D x h a i y G Y ho (fd_plain W) H E t g j R) λr z S=>?_);obtain⟨rfl,h2,Q,h4⟩:=S;exact⟨.inl ⟨.bool true,.bool true,[],rfl,λ_=>rfl,.bool true,zCA l _,λ_=>⟨List.Pairwise.nil,λ_ O=>(nomatch O)⟩⟩,h2,Q,h4⟩
end Att
namespace L2
open PySem PySem.Spec PyProof.Rows
theorem uY:∀{c:Ls Lv} {a:Ls Int},IntsAre c a->yH (a.map V.int) c
 |_,_,.nil=>.nil|_,_,.cons n t h=>.cons ⟨t,rfl⟩ (uY h)
def Only(H:Hp):Prop:=∀b,H b=none\/∃o a,H b=some (.frz o (.l a))
def zEh{P:Lc}{w:Le}{K:qH}{I mb:Str->Lx Lv}{CX:CXT}{k:Nat}{fa a:Lz}{fd:FuncData}{x:Str}{sp:Sp}{c:La}{vs:Ls Lv}{J:Ls Int}
  (KX:K.In c.heap) (D:c.heap.Ns mainGlobals I) (i:c.heap.Ns builtinsNs mb) (X:∀x:Str,x≠"__name__"->mb x=bootBuiltins x) (E:c.heap.NoLimit) (hg:c.gens=#[])
  (R:c.heap.get? a=some {cls:=.type "list",data:=.seq vs.toArray}) (hi:IntsAre vs J) (hl:J.length<=sizeLine) (hr:Room k callerA)
  (F:∀l:Heap,K.In l->l.Ns mainGlobals I->FnOk P w K I l CX k fa fd [x] sp) (y:∀(s:La) (u:Lv),BindsTo s fd ⟨[u],[]⟩ [(x,u)])
  (Y:∀H:Hp,Only H->SqL K H a (J.map V.int)->sp [.ref a] H (λv _=>v=.bl true) λ_ _ _=>False)
  (aa:∀H e j,CX [] H c (λ_ _ _=>False) e j->False) :
  codeAny (model P w) callerA (.call (.ref fa) ⟨[.ref a],[]⟩) (λr j=>r=.ok (.ret (.bool true))/\OldK c.heap j.heap/\j.os=c.os/\AllBare j.gens) c:=by
 have rv:=uY hi;have B:=hi.length
 -- from an abstract heap in which nothing but the script may be tracked
 have t:∀H:Hp,Only H->SqL K H a (J.map V.int)->HOk P w H c.heap->(∀b,H b≠none->b=a)->(H a≠none->K.lookup a=none) ->
   codeAny (model P w) callerA (.call (.ref fa) ⟨[.ref a],[]⟩) (λr j=>r=.ok (.ret (.bool true))/\OldK c.heap j.heap/\j.os=c.os/\AllBare j.gens) c:=by
  intro H hO hS M hA hK;have g:∀{b:Lz} {o:Obj},c.heap.get? b=some o->H b=none->(zER c.heap H).get? b=some o:=λe n=>zES e n
  have S:∀{b:Lz} {o:Obj} {O:Array DictEntry} {ep:Nat},c.heap.get? b=some o->o.data=.dict O ep->H b=none:=λ{b o O ep} e d=>by
   cases q:H b with
   |none=>rfl
   |some u =>
    have Z:b=a:=hA b (by rw[q];simp);subst Z;rw[R]at e;cases e;have d':Data.seq vs.toArray _=Data.dict O ep:=d;cases d'
  have p:∀{b:Lz} {m:Str->Lx Lv},c.heap.Ns b m->(zER c.heap H).Ns b m:=λ{b m} ⟨o,O,ep,e,d,r⟩=>⟨o,O,ep,g e (S e d),d,r⟩
  have Q:K.In (zER c.heap H):=λb o e=>g (KX b o e) (by
   cases q:H b with
   |none=>rfl
   |some u =>
    have Z:b=a:=hA b (by rw[q];simp);subst Z;rw[hK (by rw[q];simp)]at e;cases e)
  have hM:Mod K I (zER c.heap H):=⟨Q,p D,⟨mb,p i,X⟩,let ⟨mc,h1,h2⟩:=E;⟨mc,p h1,h2⟩⟩;have e0:Env0 P w K I (zER c.heap H) callerA [] c H:=⟨rfl,hM,λb o e=>of_hidT e,Nat.le_of_eq (zBj _ _),trivial,λb i=>absurd (show b∈([]:Ls Lz)from i) (by simp),M,.of_eq hg⟩;refine codeAny_mono ((F _ Q (p D)).run callerA [] c H ⟨[.ref a],[]⟩ [.ref a] [.ref a] _ _ hr e0 (y c (.ref a)) (.cons rfl .nil) (Y H hO hS)) λr j h=>?_
  cases r with
  |error e=>exact(aa H e j h).elim
  |ok fl =>
   cases fl with
   |next=>exact False.elim h|brk=>exact False.elim h|cont=>exact False.elim h
   |ret u =>
    obtain⟨v,H',os,L,un,G,r',q⟩:=h;have q':v=.bl true:=q;subst q';obtain rfl:u=Value.bool true:=r';refine⟨rfl,OldK.of_keep λb o e=>?_,os,L⟩;cases q:H b with
    |none=>exact un.keep b o e q (by intro z;exact absurd (show b∈([]:Ls Lz)from z) (by simp)) (by simp)
    |some u =>
     rcases hO b with z|⟨ob,xs,z⟩
     ·rw[q]at z;cases z
     ·have z2:=un.frzs b ob _ z
      obtain⟨e1,_⟩:=M b _ z;obtain⟨e2,_⟩:=G b _ z2;rw[e]at e1;cases e1;exact e2
 cases W:K.lookup a with
 |some o =>
  -- the script is one of the module's own objects
  have e:=KX a o W;rw[R]at e;cases e;refine t (λ_=>none) (λ_=>.inl rfl) (.inr ⟨_,vs.toArray,_,W,rfl,rfl,rfl,by rw[size_toArray,B];exact hl,by exists rv⟩) (λb u z=>by have C:(none:Lx HO)=some u:=z;cases C) (λb z=>absurd rfl z) λz=>absurd rfl z
 |none =>
  refine t (λb=>if b=a then some (.frz {cls:=.type "list",data:=.seq vs.toArray} (.l (J.map V.int)))else none) (λb=>?_) (.inl (.inr ⟨{cls:=.type "list",data:=.seq vs.toArray},if_pos rfl⟩)) (λb u z=>?_) (λb z=>?_) λ_=>W
  ·by_cases i:b=a
   ·exact .inr ⟨_,_,if_pos i⟩
   ·exact .inl (if_neg i)
  ·by_cases i:b=a
   ·have C:=(if_pos i).symm.trans z
    cases C;subst i;exact⟨R,by rw[length_map];exact hl,vs,_,rv,R⟩
   ·have C:=(if_neg i).symm.trans z
    cases C
  ·by_cases i:b=a
   ·exact i
   ·exact absurd (if_neg i) z
abbrev E0:XK:=λ_ _ _=>False
structure Fun(K:qH)(x qual:Str)(st:Lh)(f:Lz)(fd:FuncData):Prop where
 ex:∃(oc:Lv) (od:Option Lz) (kV doc pm:Lv) (an:Option Lz) (cdv ct:Lv) (osl:Array (Option Lv)),
  fd=fnOf x qual (wK st) (yk st) (zY st) .none kV doc pm an cdv ct/\K.lookup f=some ⟨oc,od,.func fd,osl⟩/\codeIn K cdv qual=true
 kp:keepIn K (.ref f)=true
section
variable{P:Lc}{w:Le}{K:qH}{mg:Str->Lx Lv}{base:Heap}
def Fun.binds{x a:Str}{st:Lh}{f:Lz}{n:FuncData}{i:Ls Str}(F:Fun K x a st f n)
  (h:∀(kV c g:Lv) (l:Lx Lz) (e j:Lv) (k:Ls Lv),k.length=i.length->bindArgs (fnOf x a (wK st) (yk st) (zY st) .none kV c g l e j) ⟨k,[]⟩=pure (i.zip k)):wt K n i []:=by
 obtain⟨t,r,kV,c,g,l,e,j,p,rfl,q,o⟩:=F.ex;exact .all (h kV c g l e j)
def Q0{x a:Str}{st:Lh}{f:Lz}{oc:Lv}{o n:Lx Lz}{h:Lk}{j g i e ct:Lv}(l:K.lookup f=some ⟨oc,o,.func (fnOf x a (wK st) (yk st) (zY st) .none j g i n e ct),h⟩)
  (c:codeIn K e a=true) (k:keepIn K (.ref f)=true):Fun K x a st f (fnOf x a (wK st) (yk st) (zY st) .none j g i n e ct):=⟨⟨oc,o,j,g,i,n,e,ct,h,rfl,l,c⟩,k⟩
end
def iteF{A B:Prop}(h:B):if false=true then A else B:=by
 rw[if_neg qF];exact h
def iteT{A B:Prop}(h:A):if true=true then A else B:=by
 rw[if_pos rfl];exact h
def YL(H a:Hp):Prop:=∀b o,H b=some o->a b=some o
def YL.refl(H:Hp):YL H H:=λ_ _ h=>h
def YL.trans{H H1 H2:Hp}(a:YL H H1)(b:YL H1 H2):YL H H2:=λc o h=>b c o (a c o h)
def YL.seq{K:qH}{H c:Hp}{a:Lz}{xs:Ls V}(e:YL H c)(h:SqL K H a xs):SqL K c a xs:=by
 rcases h with(h|⟨o,h⟩)|h
 ·exact .inl (.inl (e _ _ h))
 ·exact .inl (.inr ⟨o,e _ _ h⟩)
 ·exact .inr h
end L2
namespace DV
open PySem
@[elab_as_elim] def qAnd{M:BoolOp->Type}[∀e,Inhabited (M e)](e:BoolOp)(f:M .And):M e:=match e with
 | .And=>f|_=>default
@[elab_as_elim] def qAssign{M:Lh->Type}[∀e,Inhabited (M e)](e:Lh)(f:∀a b c,M (.Assign a b c)):M e:=match e with
 | .Assign a b c=>f a b c|_=>default
@[elab_as_elim] def qAttribute{M:Lb->Type}[∀e,Inhabited (M e)](e:Lb)(f:∀a b c,M (.Attribute a b c)):M e:=match e with
 | .Attribute a b c=>f a b c|_=>default
@[elab_as_elim] def qAugAssign{M:Lh->Type}[∀e,Inhabited (M e)](e:Lh)(f:∀a b c d,M (.AugAssign a b c d)):M e:=match e with
 | .AugAssign a b c d=>f a b c d|_=>default
@[elab_as_elim] def qBinOp{M:Lb->Type}[∀e,Inhabited (M e)](e:Lb)(f:∀a b c d,M (.BinOp a b c d)):M e:=match e with
 | .BinOp a b c d=>f a b c d|_=>default
@[elab_as_elim] def qBoolOp{M:Lb->Type}[∀e,Inhabited (M e)](e:Lb)(f:∀a b c,M (.BoolOp a b c)):M e:=match e with
 | .BoolOp a b c=>f a b c|_=>default
@[elab_as_elim] def qCall{M:Lb->Type}[∀e,Inhabited (M e)](e:Lb)(f:∀a b c d,M (.Call a b c d)):M e:=match e with
 | .Call a b c d=>f a b c d|_=>default
@[elab_as_elim] def qCompare{M:Lb->Type}[∀e,Inhabited (M e)](e:Lb)(f:∀a b c d,M (.Compare a b c d)):M e:=match e with
 | .Compare a b c d=>f a b c d|_=>default
@[elab_as_elim] def qConstant{M:Lb->Type}[∀e,Inhabited (M e)](e:Lb)(f:∀a b c,M (.Constant a b c)):M e:=match e with
 | .Constant a b c=>f a b c|_=>default
@[elab_as_elim] def qDict{M:Lb->Type}[∀e,Inhabited (M e)](e:Lb)(f:∀a b c,M (.Dict a b c)):M e:=match e with
 | .Dict a b c=>f a b c|_=>default
@[elab_as_elim] def qDictComp{M:Lb->Type}[∀e,Inhabited (M e)](e:Lb)(f:∀a b c d e,M (.DictComp a b c d e)):M e:=match e with
 | .DictComp a b c d e=>f a b c d e|_=>default
@[elab_as_elim] def qExceptHandler{M:ExceptHandler->Type}[∀e,Inhabited (M e)](e:ExceptHandler)(f:∀a b c d,M (.ExceptHandler a b c d)):M e:=match e with
 | .ExceptHandler a b c d=>f a b c d
@[elab_as_elim] def qExpr{M:Lh->Type}[∀e,Inhabited (M e)](e:Lh)(f:∀a b,M (.Expr a b)):M e:=match e with
 | .Expr a b=>f a b|_=>default
@[elab_as_elim] def qFor{M:Lh->Type}[∀e,Inhabited (M e)](e:Lh)(f:∀a b c d e,M (.For a b c d e)):M e:=match e with
 | .For a b c d e=>f a b c d e|_=>default
@[elab_as_elim] def qIf{M:Lh->Type}[∀e,Inhabited (M e)](e:Lh)(f:∀a b c d,M (.If a b c d)):M e:=match e with
 | .If a b c d=>f a b c d|_=>default
@[elab_as_elim] def qIfExp{M:Lb->Type}[∀e,Inhabited (M e)](e:Lb)(f:∀a b c d,M (.IfExp a b c d)):M e:=match e with
 | .IfExp a b c d=>f a b c d|_=>default
@[elab_as_elim] def qList{M:Lb->Type}[∀e,Inhabited (M e)](e:Lb)(f:∀a b,M (.List a b)):M e:=match e with
 | .List a b=>f a b|_=>default
@[elab_as_elim] def qListComp{M:Lb->Type}[∀e,Inhabited (M e)](e:Lb)(f:∀a b c d,M (.ListComp a b c d)):M e:=match e with
 | .ListComp a b c d=>f a b c d|_=>default
@[elab_as_elim] def qName{M:Lb->Type}[∀e,Inhabited (M e)](e:Lb)(f:∀a b,M (.Name a b)):M e:=match e with
 | .Name a b=>f a b|_=>default
@[elab_as_elim] def qNot{M:UnaryOp->Type}[∀e,Inhabited (M e)](e:UnaryOp)(f:M .Not):M e:=match e with
 | .Not=>f|_=>default
@[elab_as_elim] def qOr{M:BoolOp->Type}[∀e,Inhabited (M e)](e:BoolOp)(f:M .Or):M e:=match e with
 | .Or=>f|_=>default
@[elab_as_elim] def qRaise{M:Lh->Type}[∀e,Inhabited (M e)](e:Lh)(f:∀a b c,M (.Raise a b c)):M e:=match e with
 | .Raise a b c=>f a b c|_=>default
@[elab_as_elim] def qReturn{M:Lh->Type}[∀e,Inhabited (M e)](e:Lh)(f:∀a b,M (.Return a b)):M e:=match e with
 | .Return a b=>f a b|_=>default
@[elab_as_elim] def qSlice{M:Lb->Type}[∀e,Inhabited (M e)](e:Lb)(f:∀a b c d,M (.Slice a b c d)):M e:=match e with
 | .Slice a b c d=>f a b c d|_=>default
@[elab_as_elim] def qStarred{M:Lb->Type}[∀e,Inhabited (M e)](e:Lb)(f:∀a b,M (.Starred a b)):M e:=match e with
 | .Starred a b=>f a b|_=>default
@[elab_as_elim] def qSubscript{M:Lb->Type}[∀e,Inhabited (M e)](e:Lb)(f:∀a b c,M (.Subscript a b c)):M e:=match e with
 | .Subscript a b c=>f a b c|_=>default
@[elab_as_elim] def qTry{M:Lh->Type}[∀e,Inhabited (M e)](e:Lh)(f:∀a b c d e,M (.Try a b c d e)):M e:=match e with
 | .Try a b c d e=>f a b c d e|_=>default
@[elab_as_elim] def qTuple{M:Lb->Type}[∀e,Inhabited (M e)](e:Lb)(f:∀a b c,M (.Tuple a b c)):M e:=match e with
 | .Tuple a b c=>f a b c|_=>default
@[elab_as_elim] def qUSub{M:UnaryOp->Type}[∀e,Inhabited (M e)](e:UnaryOp)(f:M .USub):M e:=match e with
 | .USub=>f|_=>default
@[elab_as_elim] def qUnaryOp{M:Lb->Type}[∀e,Inhabited (M e)](e:Lb)(f:∀a b c,M (.UnaryOp a b c)):M e:=match e with
 | .UnaryOp a b c=>f a b c|_=>default
@[elab_as_elim] def qWhile{M:Lh->Type}[∀e,Inhabited (M e)](e:Lh)(f:∀a b c d,M (.While a b c d)):M e:=match e with
 | .While a b c d=>f a b c d|_=>default
@[elab_as_elim] def qint{M:Const->Type}[∀e,Inhabited (M e)](e:Const)(f:∀a,M (.int a)):M e:=match e with
 | .int a=>f a|_=>default
@[elab_as_elim] def qstr{M:Const->Type}[∀e,Inhabited (M e)](e:Const)(f:∀a,M (.str a)):M e:=match e with
 | .str a=>f a|_=>default
@[elab_as_elim] def qNone{α:Type}{M:Lx α->Type}[∀e,Inhabited (M e)](e:Lx α)(f:M none):M e:=match e with
 |none=>f|some _=>default
@[elab_as_elim] def qCm{M:Comprehension->Type}[∀e,Inhabited (M e)](e:Comprehension)(f:∀a b c,M ⟨a,b,c,0⟩):M e:=match e with
 |⟨a,b,c,0⟩=>f a b c|_=>default
@[elab_as_elim] def qKw{M:Keyword->Type}[∀e,Inhabited (M e)]:(e:Keyword)->(f:∀a b c,M ⟨a,b,c⟩)->M e
 |⟨a,b,c⟩,f=>f a b c
@[elab_as_elim] def qJoinedStr{M:Lb->Type}[∀e,Inhabited (M e)](e:Lb)(f:∀a b,M (.JoinedStr a b)):M e:=match e with
 | .JoinedStr a b=>f a b|_=>default
end DV
namespace DV
open PySem L2
abbrev KN:=Lx Int
def oV:KN->V
 |none=>.non|some i=>.int i
def knIs:KN->Lv->Bool
 |none,.none=>true|some i,v=>Value.isInt i v|_,_=>false
def jb(h:knIs k v=true):(k=none/\v=.none)\/∃i t,k=some i/\v=.int i t:=by
 cases k with
 |none=>cases v<;>first|exact .inl ⟨rfl,rfl⟩|(cases h)
 |some i=>obtain⟨t,e⟩:=Value.isInt_shape (k:=i) (v:=v) h;exact .inr ⟨i,t,rfl,e⟩
def kn_of(r:ym (oV k) u):knIs k u=true:=by
 cases k with
 |none=>cases r;rfl|some i=>obtain⟨t,rfl⟩:=r;simp[knIs,Value.isInt]
def hN:KN->Int
 |none=>0xFCA86420|some i=>hashInt i
section
variable{prog:Lc}{w:Le}{A:Lg}{E:Ly}{s:La}
def Yu{Q:Int->La->Prop}(h:Q 0xFCA86420 {s with toks:=s.toks+1}):wpAny (model prog w) A (pyHash .none) Q E s:=by
 have hT:s.TypeIs .none "NoneType":=rfl;unfold pyHash
 first|unfold pyHashByItsType|skip
 have hv:[Value.none].any Value.onHeap=false:=rfl;refine qB ?_;rw[cRoomFor,if_neg (by rw[hv];exact qF)];refine qC ?_;refine qB (wpAny_specialOf hT F.slot_NoneType_hash.lookup ?_);show wpAny _ _ (if(some (Value.builtin "NoneType.__hash__")==some Value.none)=true then _ else _) Q E s;rw[if_neg (by rw[beq_builtin_none];exact qF)];refine qB (wpAny_specialOf hT F.slot_NoneType_hash.lookup ?_);show wpAny _ _ (callSpecialIfBoundUnlessNone? .none "__hash__" _ >>= _) Q E s;refine qB (wpAny_callSpecialIfBoundUnlessNone?_slot hT F.slot_NoneType_hash
  (wpAny_call_entry F.slot_NoneType_hash hT F.entry_NoneType_hash
   (show wpAny _ _ (do ret (<- mkInt 0xFCA86420)) _ _ s from wpAny_ret_mkInt ?_) (F.args_NoneType_hash_1 _)))
 exact qC h
end
def zBD(prog:Lc)(w:Le):KeyKind prog w KN where
 is:=knIs
 hash:=hN
 inj:=λv a b g c=>by
  rcases jb g with⟨rfl,rfl⟩|⟨i,t,rfl,rfl⟩
  ·rcases jb c with⟨rfl,e⟩|⟨j,u,rfl,e⟩
   ·rfl
   ·cases e
  ·rcases jb c with⟨rfl,e⟩|⟨j,u,rfl,e⟩
   ·cases e
   ·injection e with e1 _;rw[e1]
 byValue:=λk v h=>by
  rcases jb h with⟨rfl,rfl⟩|⟨i,t,rfl,rfl⟩<;>rfl
 pyHash:=λhv h=>by
  rcases jb hv with⟨rfl,rfl⟩|⟨i,t,rfl,rfl⟩
  ·exact Yu h
  ·exact wpAny_pyHash_int h
 eqBool:=λ{A E s a b u v Q} hu hv h=>by
  have e:(if eqV (oV a) (oV b)=true then True else True):=by split<;>trivial
  rcases jb hu with⟨rfl,rfl⟩|⟨i,t,rfl,rfl⟩
  ·rcases jb hv with⟨rfl,rfl⟩|⟨j,u,rfl,rfl⟩
   ·exact Qz (y:=.non) (x:=.non) rfl rfl rfl rfl _ _ _ _ h
   ·exact Qz (y:=.non) (x:=.int j) rfl ⟨u,rfl⟩ rfl rfl _ _ _ _ h
  ·rcases jb hv with⟨rfl,rfl⟩|⟨j,u,rfl,rfl⟩
   ·exact Qz (y:=.int i) (x:=.non) ⟨t,rfl⟩ rfl rfl rfl _ _ _ _ h
   ·refine wpAny_eqBool_int ?_
    have:(i==j)=decide (some i=some j):=by
     by_cases q:i=j
     ·subst q;simp
     ·simp[q]
    rw[this];exact h
 «strs»:=λk x t v h=>by
  rcases jb h with⟨_,e⟩|⟨_,_,_,e⟩<;>cases e
def hT(ks:Ls KN):Int:=reduceHash (Builtin.Tuple.tupleHashOf (ks.map hN))
abbrev DE:=Ls KN×Lz×V
abbrev DX:=Ls KN×Lz×Lv
def entN(x:DX):DictEntry:=⟨hT x.1,.ref x.2.1,x.2.2⟩
abbrev wF:Ls DE->Ls DX->Prop:=Paired λe x=>x.1=e.1/\x.2.1=e.2.1/\ym e.2.2 x.2.2
def zGk(a:Lz)(es:Ls DE)(h:Heap):Prop:=(a==sysModules)=false/\es.length<=sizeLine/\(es.map (·.1)).Nodup/\∃(o:Obj) (c:Array DictEntry) (g:Nat) (e:Ls DX),h.get? a=some o/\o.ExactDict/\o.data=.dict c g/\wF es e/\c.toList=e.map entN
def vS(a:Lz)(es:Ls DE):HO:=.dN (zGk a es)
def OwnK(o:HO):Prop:=(∃a,o=.l a)\/∃φ,o=.dN φ
def zCB(x:zGk a es h1)(k:∀o,h1.get? a=some o->h2.get? a=some o):zGk a es h2:=by
 obtain⟨l,j,h,o,c,g,i,e,r⟩:=x;exact⟨l,j,h,o,c,g,i,k o e,r⟩
def Q1(x:zGk a es h):zz P w H h a (vS a es):=by
 obtain⟨_,_,_,o,_,_,_,e,_⟩:=id x;exact⟨x,⟨o,e⟩,λc h2 y k=>zCB y k⟩
section
variable{P:Lc}{w:Le}{h:Heap}{a:Lz}{es:Ls DE}{xs:Ls DX}
theorem wF.keys:∀{a:Ls DE} {c:Ls DX},wF a c->c.map (·.1)=a.map (·.1)
 |_,_,.nil=>rfl|_,_,.cons r t=>by dsimp[map_cons];rw[r.1,wF.keys t]
theorem wF.mem:∀{a:Ls DE} {c:Ls DX} {x:DX},wF a c->x∈c->∃e∈a,x.1=e.1/\x.2.1=e.2.1/\ym e.2.2 x.2.2
 |_,_,_,.nil,h=>by cases h
 |_,_,_,.cons r t,h=>by
  rcases mem_cons.mp h with rfl|h
  ·exact⟨_,qE,r⟩
  ·obtain⟨e,g,q⟩:=wF.mem t h
   exact⟨e,qD _ g,q⟩
def atE(es:Ls DE)(k:Ls KN):Lx V:=(es.find? λe=>decide (e.1=k)).map (·.2.2)
theorem wF.at:∀{a:Ls DE} {c:Ls DX} {k:Ls KN} {v:V},wF a c->atE a k=some v->∃p,atKey c k=some p/\ym v p.2
 |_,_,_,_,.nil,h=>by cases h
 |e::a,x::c,k,v,.cons r t,h=>by
  unfold atE atKey at *;rw[find?_cons]at h ⊢;by_cases q:e.1=k
  ·rw[decide_eq_true q]at h
   rw[decide_eq_true (r.1.trans q)];dsimp[Option.map_some,Option.some.injEq]at h;subst h;exact⟨x.2,rfl,r.2.2⟩
  ·rw[decide_eq_false q]at h
   rw[decide_eq_false (λz=>q (r.1.symm.trans z))];exact wF.at t h
theorem wF.none:∀{a:Ls DE} {c:Ls DX} {k:Ls KN},wF a c->atE a k=none->atKey c k=none
 |_,_,_,.nil,_=>rfl
 |e::a,x::c,k,.cons r t,h=>by
  unfold atE atKey at *;rw[find?_cons]at h ⊢;by_cases q:e.1=k
  ·rw[decide_eq_true q]at h;cases h
  ·rw[decide_eq_false q]at h
   rw[decide_eq_false (λz=>q (r.1.symm.trans z))];exact wF.none t h
def Gz(es:Ls DE)(k:Ls KN)(ka:Lz)(v:V):Ls DE:=if(atE es k).isSome then es.map (λe=>if e.1=k then(e.1,e.2.1,v)else e)else es++[(k,ka,v)]
theorem wF.mapP:∀{a:Ls DE} {c:Ls DX} {k:Ls KN} {v:V} {u:Lv},wF a c->ym v u->wF (a.map λe=>if e.1=k then(e.1,e.2.1,v)else e) (c.map (putAt k u))
 |_,_,_,_,_,.nil,_=>.nil
 |e::a,x::c,k,v,u,.cons r t,g=>by
  dsimp[map_cons];refine .cons ?_ (wF.mapP t g);unfold putAt;by_cases q:e.1=k
  ·rw[if_pos q,if_pos (r.1.trans q)];exact⟨r.1,r.2.1,g⟩
  ·rw[if_neg q,if_neg (λz=>q (r.1.symm.trans z))];exact r
theorem wF.app:∀{c fs:Ls DE} {e a:Ls DX},wF c e->wF fs a->wF (c++fs) (e++a)
 |_,_,_,_,.nil,g=>g|_,_,_,_,.cons r t,g=>.cons r (wF.app t g)
def wF.put(h:wF es xs)(a:ym v u):wF (Gz es k ka v) (storedH xs k ka u):=by
 unfold Gz storedH;cases q:atE es k with
 |none=>rw[wF.none h q];exact h.app (.cons ⟨rfl,rfl,a⟩ .nil)
 |some y =>
  obtain⟨p,e,_⟩:=wF.at h q;rw[e];exact h.mapP a
def WA(hn:(es.map (·.1)).Nodup):((Gz es k ka v).map (·.1)).Nodup/\(Gz es k ka v).length<=es.length+1:=by
 unfold Gz;cases q:atE es k with
 |none =>
  dsimp[Option.isSome_none,Bool.false_eq_true,if_false];refine⟨?_,by simp⟩;rw[map_append];refine nodup_append.mpr ⟨hn,by simp,λa g b c=>?_⟩;dsimp[map_cons,map_nil,mem_singleton]at c;subst c;intro z;subst z;obtain⟨e,h,rfl⟩:=mem_map.mp g;unfold atE at q;dsimp[Option.map_eq_none_iff,List.find?_eq_none]at q;exact q e h (decide_eq_true rfl)
 |some y =>
  dsimp[Option.isSome_some,if_true];refine⟨?_,by simp⟩;have:(es.map λe=>if e.1=k then(e.1,e.2.1,v)else e).map (·.1)=es.map (·.1):=by
   rw[map_map];refine map_congr_left λe _=>?_
   dsimp[Function.comp];split<;>rfl
  rw[this];exact hn
end
section
variable{X:Cx}{pins:Ls (Lz×Obj)}{O:L2.St}{H:Hp}{s:La}{a:Lz}{es:Ls DE}
def W6(I:Inv X pins O H s)(h:SqT X.K H ka (ks.map oV)):IsTupleKey (zBD X.prog X.w) s.heap ks ka:=by
 obtain⟨c,r,p,_⟩:=I.tuple h;obtain⟨o,ho,g,n,i⟩:=p;refine⟨o,c.toArray,n,ho,g,i,?_⟩;have a:∀{ks:Ls KN} {us:Ls Lv},yH (ks.map oV) us->ItemsAre (zBD X.prog X.w) ks us:=λ{ks}=>by
  induction ks with
  |nil=>intro us h;cases h;exact .nil
  |cons k ks e=>intro us h;cases h with|cons r t=>exact .cons (kn_of r) (e t)
 exact a r
def uZ(I:Inv X pins O H s)(e:H a=some (vS a es))(t:∀x∈es,SqT X.K H x.2.1 (x.1.map oV)):∃c:Ls DX,wF es c/\s.heap.DictOfH (tupleKind (zBD X.prog X.w)) a c/\(a==sysModules)=false/\es.length<=sizeLine/\(es.map (·.1)).Nodup:=by
 obtain⟨⟨q,p,h,o,g,k,c,r,h2,l,h4,h5⟩,_⟩:=(show zz X.prog X.w H s.heap a (vS a es)from I.hok a _ e);refine⟨c,h4,⟨o,g,k,r,h2,l,h5,λx n=>?_,by rw[wF.keys h4];exact h⟩,q,p,h⟩;obtain⟨y,i,u,j,_⟩:=wF.mem h4 n;rw[u,j];exact W6 I (t y i)
end
def wL(h h':Heap):Prop:=∀b o,h.get? b=some o->∃a,h'.get? b=some a/\a.dict=o.dict
def wL.refl(h:Heap):wL h h:=λ_ o e=>⟨o,e,rfl⟩
theorem wL.trans(a:wL h1 h2)(b:wL h2 h3):wL h1 h3:=λc o e=>by
 obtain⟨k,l,j⟩:=a c o e;obtain⟨g,i,h⟩:=b c k l;exact⟨g,i,h.trans j⟩
def wL.of_keeps(k:∀b o,h.get? b=some o->h'.get? b=some o):wL h h':=λb o e=>⟨o,k b o e,rfl⟩
def wL.upd{f:Obj->Obj}(c:∀o,(f o).dict=o.dict/\(o.isFreed=false->(f o).isFreed=false)):wL h (h.update a f):=λb o e=>by
 by_cases g:a=b
 ·subst g
  exact⟨f o,get?_update_self _ e ((c o).2 (Heap.get?_some_iff.mp e).2),(c o).1⟩
 ·exact⟨o,(Heap.get?_update_other _ _ g).trans e,rfl⟩
def jc{α:Type}:Sem α->Prop
 | .pure _=>True| .raise _=>True| .unsupported _=>True| .finish _=>True| .rule _ k=>jc (k ())| .at _ k=>jc (k ())| .load _ _ k=>∀o,jc (k o)| .update _ _ f k=>(∀o,(f o).dict=o.dict/\(o.isFreed=false->(f o).isFreed=false))/\jc (k ())| .alloc _ k=>∀a,jc (k a)| .stack k=>∀l,jc (k l)|_=>False
theorem jc.bind{α β:Type}{f:α->Sem β}(g:∀a,jc (f a)){t:Sem α}(e:jc t):jc (t >>= f):=by
 show jc (t.bind f)
 induction t with
 |pure a=>exact g a|raise _=>trivial|unsupported _=>trivial|finish _=>trivial|rule _ k c=>exact c () e| «at» _ k c=>exact c () e|load _ _ k c=>exact λo=>c o (e o)|update _ _ _ k c=>exact⟨e.1,c () e.2⟩|alloc _ k c=>exact λa=>c a (e a)|stack k c=>exact λl=>c l (e l)|_=>exact False.elim e
def tame_wp{α:Type}(M:Model)(Γ:Ctx)(j:Heap)(Q:α->Pos->La->Prop)(E:Lv->Pos->La->Prop)(t:Sem α):∀(p:Pos) (s:La),jc t->wL j s.heap->Sem.wp M Γ t Q E p s ->
  Sem.wp M Γ t (λa l i=>Q a l i/\wL j i.heap) (λe l i=>E e l i/\wL j i.heap) p s:=by
 induction t with
 |pure a=>intro p s _ k h;rw[Sem.wp]at h ⊢;exact⟨h,k⟩|raise a=>intro p s _ k h;rw[Sem.wp]at h ⊢;exact⟨h,k⟩|unsupported _=>intro p s _ k h;rw[Sem.wp]at h;exact h.elim|finish _=>intro p s _ k h;rw[Sem.wp]at h;exact h.elim|rule _ f c=>intro p s t k h;rw[Sem.wp]at h ⊢;exact c () p s t k h| «at» _ f c=>intro p s t k h;rw[Sem.wp]at h ⊢;exact c () _ s t k h
 |load a _ f c =>
  intro p s t k h;rw[Sem.wp]at h ⊢;obtain⟨o,e,h⟩:=h;exact⟨o,e,c o p s (t o) k h⟩
 |update a _ g f c =>
  intro p s t k h;rw[Sem.wp]at h ⊢;exact⟨h.1,c () p _ t.2 (k.trans (wL.upd t.1)) h.2⟩
 |alloc o f c =>
  intro p s t k h;rw[Sem.wp]at h ⊢;exact c _ p _ (t _) (k.trans (wL.of_keeps λb o e=>qA _ e)) h
 |stack f c=>intro p s t k h;rw[Sem.wp]at h ⊢;exact c _ p s (t _) k h|_=>intro p s t;exact False.elim t
def wG{α:Type}{t:Sem α}{Q:α->La->Prop}{E:Ly}(g:jc t)(h:wpAny M A t Q E s) :
  wpAny M A t (λa c=>Q a c/\wL s.heap c.heap) (λe c=>E e c/\wL s.heap c.heap) s:=λΓ p hΓ =>
 tame_wp M Γ s.heap _ _ t p s g (wL.refl _) (h Γ p hΓ)
def jd{α:Type}{c:Prop}[Decidable c]{a b:Sem α}(ha:jc a)(hb:jc b):jc (if c then a else b):=by split<;>assumption
def mapF_ok(f:Li->Li)(o:Obj):(Obj.mapFields f o).dict=o.dict/\(o.isFreed=false->(Obj.mapFields f o).isFreed=false):=by
 obtain⟨c,d,a,e⟩:=o;cases a<;>exact⟨rfl,λh=>h⟩
def WB(a:Lz):jc (load a):=λ_=>trivial
def Q2{f:Obj->Obj}(h:∀o,(f o).dict=o.dict/\(o.isFreed=false->(f o).isFreed=false)):jc (update a f):=⟨h,trivial⟩
def JN(v:Lv)(i:Nat):jc (field v i):=by
 unfold field fieldsOf;refine jc.bind (λa=>?_) ?_
 ·cases a[i]?<;>trivial
 ·cases v<;>first|trivial|skip
  refine jc.bind (λo=>?_) (WB _);cases o.data<;>trivial
def wM(v:Lv)(i:Nat)(x:Lv):jc (setField v i x):=by
 unfold setField updateField;cases v with
 |ref a =>
  refine jc.bind (λo=>?_) (WB _);cases o.data<;>first|trivial|skip;exact jd (Q2 (mapF_ok _)) trivial
 |_=>trivial
def Yv:jc stack:=λ_=>trivial
def jz(v:Lv)(f:Lx Lz):jc (setFlight v f):=by
 unfold setFlight;refine jc.bind (λtb=>jd (wM _ _ _) ?_) (JN v 1);exact trivial
theorem W7:∀l:Ls Env,jc (readyFrames l)
 | []=>trivial
 |a::outer=>by
  unfold readyFrames;cases a.frame with
  |none=>trivial
  |some f =>
   refine jc.bind (λo=>jd ?_ ?_) (WB f)
   ·exact trivial
   refine jc.bind (λi=>?_) ?_
   ·refine jc.bind (λbk=>?_) ?_
    ·refine jc.bind (λ_=>W7 outer) (Q2 λo=>⟨rfl,?_⟩)
     obtain⟨c,d,e,g⟩:=o;cases e<;>exact λh=>h
    ·cases outer with
     |nil =>
      refine jd ?_ (jc.bind (λb=>?_) (jc.bind (λ_=>?_) Yv))
      all_goals exact trivial
     |cons c r=>exact trivial
   ·unfold behindIsImport
    refine jd ?_ (jd ?_ (jc.bind (λ_=>?_) (JN _ _)))
    all_goals exact trivial
def ua(v:Lv)(env:Env):jc (noteFrame v env):=by
 unfold noteFrame;cases env.frame with
 |none=>trivial
 |some f =>
  have hN:∀c:Lv,jc (do setField v 1 (<- EntryCells.newEntry c (<- frameOf env) .none (rawInt f) .none (<- entryPlaceOf f (c != .none)))):=λc=>by
   refine jc.bind (λh=>?_) ?_
   ·refine jc.bind (λi=>?_) ?_
    ·refine jc.bind (λx=>wM _ _ _) ?_
     unfold EntryCells.newEntry newFields newObj;refine jd ?_ ?_
     ·exact trivial
     ·exact λa=>trivial
    ·unfold entryPlaceOf
     refine jc.bind (λg=>?_) Yv;split<;>exact trivial
   ·unfold frameOf frameObject
    refine jc.bind (λe=>?_) (jc.bind (λ_=>?_) Yv)
    ·refine jc.bind (λo=>?_) ?_
     ·cases o<;>exact trivial
     ·split
      ·exact trivial
      ·refine jc.bind (λ_=>?_) (W7 _)
       exact trivial
    ·exact trivial
  refine jc.bind (λc=>jd ?_ (hN c)) (JN v 1);refine jc.bind (λx=>jd ?_ ?_) (JN _ _)
  ·exact trivial
  ·exact jc.bind (λ_=>hN c) (wM _ _ _)
def ZM(env:Env)(v:Lv):jc (leaving env v):=jc.bind (λ_=>jz v none) (ua v env)
end DV
namespace DV
open PySem L2 PyProof.Rows
def ExO(C a:Lz):HO:=.ext λh=>∃o,h.get? a=some o/\o.cls=.ref C
def zCC(e:h.get? a=some o)(c:o.cls=.ref C):zz P w H h a (ExO C a) :=
 ⟨⟨o,e,c⟩,⟨o,e⟩,λl h2 ⟨g,i,j⟩ k=>⟨g,k g i,j⟩⟩
def ExA(C d a:Lz):HO:=.ext λh=>∃o,h.get? a=some o/\o.cls=.ref C/\o.dict=some d/\∃c,o.data=.fields c
def zCD(e:h.get? a=some o)(c:o.cls=.ref C)(k:o.dict=some d)(n:o.data=.fields vs):zz P w H h a (ExA C d a) :=
 ⟨⟨o,e,c,k,vs,n⟩,⟨o,e⟩,λp h2 ⟨g,l,i,j⟩ k=>⟨g,k g l,i,j⟩⟩
def XD(d:Lz)(fs:Ls (Str×V)):HO:=.ext λh=>∃a,h.Ns1 d a/\∀f,RelO (fs.lookup f) (a f)
def XD_ne{H:Hp}{d:Lz}{fs:Ls (Str×V)}{xs:Ls V}(h:H d=some (XD d fs))(q:H d=some (.l xs)):False:=by
 rw[h]at q;unfold XD at q;cases q
def ub(a:Lz)(c:Lx Lz)(h:Heap):Prop:=∀d,c=some d->∃o,h.get? a=some o/\o.dict=some d
def ub.on(l:ub a od h)(k:wL h h'):ub a od h':=λd e=>by
 obtain⟨o,j,i⟩:=l d e;obtain⟨n,g,c⟩:=k a o j;exact⟨n,g,c.trans i⟩
structure MadeD(h h':Heap)(a:Lz)(C:Lv)(od:Option Lz):Prop where
 keeps:∀b o,h.get? b=some o->h'.get? b=some o
 new:h.get? a=none
 there:∃oe vs t,h'.get? a=some oe/\oe.cls=C/\(∀d,od=some d->oe.dict=some d)/\oe.data=.fields vs/\vs[1]?=some .none/\vs[0]?=some (.ref t)
def MadeD.of(x:Heap.MadeExcOf h h' a C args):MadeD h h' a C none :=
 ⟨x.keeps,x.new,let ⟨t,e,_⟩:=x.there;⟨_,_,t,e,rfl,λ_ z=>(by cases z),rfl,rfl,rfl⟩⟩
def MadeD.link(x:MadeD h h' a C od):ub a od h':=λd e=>by
 obtain⟨g,_,_,c,_,h2,_⟩:=x.there;exact⟨g,c,h2 d e⟩
def Q3(x:zz P w H h a o):∃u,h.get? a=some u:=by
 cases o with
 |l g=>obtain⟨_,_,_,_,e⟩:=x;exact⟨_,e⟩|t g=>obtain⟨_,_,_,o,e,_⟩:=x;exact⟨_,e⟩|dK c=>obtain⟨_,_,_,_,o,_,_,e,_⟩:=x;exact⟨_,e⟩|dT c=>obtain⟨_,_,_,_,o,_,_,e,_⟩:=x;exact⟨_,e⟩|set S n=>obtain⟨o,_,_,_,e,_⟩:=x;exact⟨_,e⟩|ins C p fs=>obtain⟨_,_,_,e,_⟩:=x;exact⟨_,e⟩|w y=>exact x|xd fs=>obtain⟨_,⟨_,_,_,e,_⟩,_⟩:=x;exact⟨_,e⟩|rng j q=>obtain⟨_,_,_,e⟩:=x;exact⟨_,e⟩|frz i u=>obtain⟨e,_⟩:=x;exact⟨_,e⟩|tbl k=>exact⟨_,(show h.get? a=some _ from x)⟩|met f y=>exact⟨_,(show h.get? a=some _ from x)⟩|ext φ=>obtain⟨_,e,_⟩:=x;exact e|dN φ=>obtain⟨_,e,_⟩:=x;exact e
def zEN(B:Heap)(H:Hp)(g:Heap)(fs:Ls Lz)(h:Heap):Prop:=∀b o,h.get? b=some o->((∃a,g.get? b=some a)\/H b≠none)->b∉fs->B.get? b=some o
def Flies(l:Ls Env)(H:Hp)(g:Heap)(a C:Lz)(h:Heap):Prop:=∃B t,Heap.FlyingW B l a (.ref C) (.ref t) h/\zEN B H g (frs l) h
def CXx(P:Lc)(w:Le):CXT:=λouter H s E e c=>∃a C g H',e=.ref a/\c.os=s.os/\AllBare c.gens/\Un (frs outer) [] H H' s.heap c.heap/\HOk P w H' c.heap/\H' a=none/\Flies outer H' s.heap a C c.heap/\ub a g c.heap/\E (.ref C) g H'
section
variable{P:Lc}{w:Le}{fs:Ls Lz}{H H':Hp}{g h h' B:Heap}{L:Lz}
def un_on(u:Un fs [] H H' g h)(ok:HOk P w H' h)(kb:zEN B H' g (L::fs) h)(st:B.StaysIn h')(p:g.get? L=none)(r:∀b∈fs,∀o,h.get? b=some o->∃i,h'.get? b=some {o with slots:=i}):Un fs [] H H' g h' where
 keep:=λb o e n a c=>st b o (kb b o (u.keep b o e n a c) (.inl ⟨o,e⟩) λz=>by
  rcases mem_cons.mp z with rfl|z
  ·rw[p]at e;cases e
  ·exact a z)
 slot:=λb o e n a c=>by
  obtain⟨i,q⟩:=u.slot b o e n a c;obtain⟨j,k⟩:=r b a _ q;exact⟨j,k⟩
 free:=u.free
 there:=λb o e c=>by
  obtain⟨l,q⟩:=u.there b o e c;by_cases a:b∈fs
  ·obtain⟨i,k⟩:=r b a _ q;exact⟨_,k⟩
  ·exact⟨l,st b l (kb b l q (.inl ⟨o,e⟩) λz=>by
    rcases mem_cons.mp z with rfl|z
    ·rw[p]at e;cases e
    ·exact a z)⟩
 tups:=u.tups
 frzs:=u.frzs
 tbls:=u.tbls
def zCE(ok:HOk P w H' h)(kb:zEN B H' g (L::fs) h)(st:B.StaysIn h')(hn:∀b∈L::fs,H' b=none):HOk P w H' h':=λa o e=>by
 refine(ok a o e).stay (λb u c q=>?_) (λ_ q=>q) λ_ _ q=>q
 have ht:H' b≠none:=by
  rcases c with rfl|c
  ·rw[e];exact λz=>by cases z
  ·rw[c];exact λz=>by cases z
 exact st b u (kb b u q (.inr ht) λz=>ht (hn b z))
def zCF(u:Un fs [] H H' g h)(ok:HOk P w H' h)(kb:zEN B H' g (L::fs) h)(st:B.StaysIn h')(k:g.get? L=none)(hn:∀b∈L::fs,H' b=none):zEN B H' g fs h':=λb o e a nf=>by
 have n:b∉L::fs:=λz=>by
  rcases mem_cons.mp z with rfl|z
  ·rcases a with⟨j,q⟩|q
   ·rw[k]at q;cases q
   ·exact q (hn _ (qE))
  ·exact nf z
 have:∃o1,h.get? b=some o1:=by
  rcases a with⟨j,q⟩|q
  ·exact u.there b j q (by simp)
  ·obtain⟨x,l⟩:=Option.ne_none_iff_exists'.mp q
   exact Q3 (ok b x l)
 obtain⟨o1,p⟩:=this;have c:=kb b o1 p a n;have i:=st b o1 c;rw[e]at i;cases i;exact c
end
section
variable{P:Lc}{w:Le}{K:qH}{mg:Str->Lx Lv}{base:Heap}{N:Ls Str}{qual:Str}{scope:Scope}{f:Lz}{cd:Lv}{A:Lg}{outer:Ls Env}{s:La}{H:Hp}{E:XK}
abbrev cxC(c:Bool)(P:Lc)(w:Le)(K:qH)(g:Str->Lx Lv)(base:Heap)(N:Ls Str)(e:Str)(a:Scope)(f:Lz)(h:Lv)(A:Lg)(outer:Ls Env)(s:La)(H:Hp)(E:XK):Cx :=
 {cxOf (CXx P w) P w K g base N e a f h A outer s H E with calm:=c}
variable{c:Bool}
variable{pins:Ls (Lz×Obj)}{O:L2.St}{H':Hp}{s' s1:La}{a C:Lz}
def zCG:frs (envOfC qual scope s.heap.objs.size f cd::outer)=s.heap.objs.size::frs outer:=rfl
def zBE(I:Inv (cxC c P w K mg base N qual scope f cd A outer s H E) pins O H' s')(u:Un (frs outer) [] H H' s.heap s'.heap)(hn:H' a=none)
  (v:∃B t,Heap.FlyingW B (cxC c P w K mg base N qual scope f cd A outer s H E).stack a (.ref C) (.ref t) s'.heap/\zEN B H' s.heap (frs (cxC c P w K mg base N qual scope f cd A outer s H E).stack) s'.heap) (r:ub a od s'.heap) (y:E (.ref C) od H') :
  (cxC c P w K mg base N qual scope f cd A outer s H E).xe (.ref a) s':=by
 obtain⟨B,t,D,x⟩:=v;have l:s.heap.get? s.heap.objs.size=none:=Heap.get?_none_of_le (le_refl _);have hN:∀b∈s.heap.objs.size::frs outer,H' b=none:=λb k=>I.stkFree b (by show b∈frs (envOfC qual scope s.heap.objs.size f cd::outer);rw[zCG];exact k)
 have h:zEN B H' s.heap (s.heap.objs.size::frs outer) s'.heap:=x;refine wpAny_mono (wG (ZM _ _) (wpAny_leaves_onW (base:=B) (E:=λ_ _=>False) (Q:=λ_ z=>∃h',z={s' with heap:=h'}/\Heap.FlyingW B outer a (.ref C) (.ref t) h'/\s'.heap.UpToSlots h') I.ok.frames rfl D λh' g i=>⟨h',rfl,g,i⟩)) (λ_ z ⟨⟨h',n,g,i⟩,p⟩=>?_) λ_ _ z=>z.1.elim
 subst n;have st:B.StaysIn h':=g.1;have j:∀b∈frs outer,∀o,s'.heap.get? b=some o->∃i,h'.get? b=some {o with slots:=i}:=λb k o e=>by
  obtain⟨_,J,q,G⟩:=I.funs.mem k;rw[e]at q;cases q;exact i b o e G
 exact⟨a,C,od,H',rfl,I.os,I.bare,un_on u I.hok h st l j,zCE I.hok h st hN,hn,⟨B,t,g,zCF u I.hok h st l hN⟩,r.on p,y⟩
def G0(I:Inv (cxC c P w K mg base N qual scope f cd A outer s H E) pins O H' s1)(i:MadeD s1.heap s'.heap a (.ref C) od)(x:s'={s1 with heap:=s'.heap})(hn:H' a=none)(W:E (.ref C) od H') :
  (cxC c P w K mg base N qual scope f cd A outer s H E).xe (.ref a) s':=by
 have u:Un (frs outer) [] H H' s.heap s1.heap:=I.base;have l:s.heap.get? s.heap.objs.size=none:=Heap.get?_none_of_le (le_refl _);have hN:∀b∈s.heap.objs.size::frs outer,H' b=none:=λb h=>I.stkFree b (by show b∈frs (envOfC qual scope s.heap.objs.size f cd::outer);rw[zCG];exact h)
 have n:zEN (hideAll s1.heap (s.heap.objs.size::frs outer)) H' s.heap (s.heap.objs.size::frs outer) s1.heap:=λb o e _ nf=>hideAll_get _ e nf
 have r:∀g∈(envOfC qual scope s.heap.objs.size f cd::outer),∀b,g.frame=some b->b∈s.heap.objs.size::frs outer:=λg R b h=>by
  exact mem_filterMap.mpr ⟨g,R,h⟩
 have k:s1.heap.FunFrames base (envOfC qual scope s.heap.objs.size f cd::outer):=I.stack;obtain⟨L,vs,t,V,D,e3,S,e5,Y⟩:=i.there;have fresh:(hideAll s1.heap (s.heap.objs.size::frs outer)).get? a=none:=by
  cases q:(hideAll s1.heap (s.heap.objs.size::frs outer)).get? a with
  |none=>rfl|some J=>have:=of_hideAll _ q;rw[i.new]at this;cases this
 have j:s'.heap.FunFrames (hideAll s1.heap (s.heap.objs.size::frs outer)) (envOfC qual scope s.heap.objs.size f cd::outer):=(PySem.W.funFrames_hide k r).of_keeps λb o h _=>⟨o,i.keeps b o h,rfl⟩
 refine wpAny_mono (wG (ZM _ _) (wpAny_leaving_firstW (base:=hideAll s1.heap (s.heap.objs.size::frs outer)) (a0:=.ref t) (E:=λ_ _=>False) (Q:=λ_ z=>∃h',z={s' with heap:=h'}/\Heap.LeftW (hideAll s1.heap (s.heap.objs.size::frs outer)) (envOfC qual scope s.heap.objs.size f cd::outer) a L.cls (.ref t) s'.heap h') I.ok.frames j rfl V (λb o q=>i.keeps b o (of_hideAll _ q)) fresh S e5 Y λh' l=>⟨h',rfl,l⟩)) (λ_ z z9=>?_) λ_ _ z=>z.1.elim;obtain⟨⟨h',Z,k1,⟨_,_,k2⟩,v,X⟩,G⟩:=z9
 subst Z;rw[D]at v;have y:Heap.FlyingW (hideAll s1.heap (s.heap.objs.size::frs outer)) outer a (.ref C) (.ref t) h':=⟨k1,fresh,k2,v⟩;have st:=y.1;have p:∀b∈frs outer,∀o,s1.heap.get? b=some o->∃B,h'.get? b=some {o with slots:=B}:=λb h o e=>by
  obtain⟨_,J,q,M⟩:=I.funs.mem h;rw[e]at q;cases q;exact X b o (i.keeps b o e) M
 have os:s'.os=s1.os:=by rw[x]
 have ge:s'.gens=s1.gens:=by rw[x]
 refine⟨a,C,od,H',rfl,os.trans I.os,?_,un_on u I.hok n st l p,zCE I.hok n st hN,hn,⟨_,t,y,zCF u I.hok n st l hN⟩,i.link.on G,W⟩;rw[ge];exact I.bare
end
structure RoomN(k:Nat)(A:Lg):Prop where
 gd:A.guards=some []
 dp:A.depth+3*k+5<recursionLimit
 un:A.units+16*k+200<cLine
def RoomN.mono(r:RoomN k A)(h:j<=k):RoomN j A:=⟨r.gd,by have:=r.dp;omega,by have:=r.un;omega⟩
theorem RoomN.deeper(r:RoomN (k+1) A)(env:Env):RoomN k (A.deeper env) :=
 ⟨r.gd,by have:=r.dp;show A.depth+1+3*k+5<_;omega,by have:=r.un;show A.units+3+16*k+200<_;omega⟩
theorem RoomN.depth(r:RoomN k A):A.depth<recursionLimit:=by have:=r.dp;omega
def RoomN.room(r:RoomN k A)(h:A.handled=none):Room k A:=⟨h,r.gd,r.dp,r.un⟩
def Q4(r:Room k A):RoomN k A:=⟨r.gd,r.dp,r.un⟩
section
variable{X:Cx}{pins:Ls (Lz×Obj)}{O:L2.St}{H:Hp}{s:La}
def W8(I:Inv X pins O H s)(a:Lg)(c:Bool)(E:Ly)(hd:c=true->a.handled=none)(fr:a.frames=some X.stack):Inv {X with A:=a,calm:=c,xe:=E} pins O H s :=
 ⟨⟨I.ok.mod,I.ok.kind,I.ok.glob,I.ok.blt,I.ok.above,I.ok.inj,I.ok.has,I.ok.cab,hd,fr,I.ok.stk,I.ok.exf,I.ok.bs,I.ok.bsz,I.ok.noex,I.ok.exfs,I.ok.funs,I.ok.frf⟩,I.os,I.bare,I.base,I.loc,I.cell,I.free,I.freeC,I.pin,I.hok,I.len⟩
end
abbrev cxN(c:Bool)(P:Lc)(w:Le)(K:qH)(g:Str->Lx Lv)(base:Heap)(N:Ls Str)(e:Str)(a:Scope)(f:Lz)(h:Lv)(A:Lg)(outer:Ls Env)(s:La)(H:Hp)(E:XK):Cx :=
 cxC c P w K g base N e a f h A outer s H E
structure FnOkN(c:Bool)(P:Lc)(w:Le)(K:qH)(mg:Str->Option Lv)(base:Heap)(k:Nat)(f:Lz)(fd:FuncData)(ps:Ll)(sp:Sp):Prop where
 len:∀vs H Q E,sp vs H Q E->vs.length=ps.length
 run:∀(A:Lg) (outer:List Env) (s:La) (H:Hp) (args:Args) (us:List Lv) (vs:List V) (Q:VK) (E:XK),(c=true->A.handled=none)->RoomN k A->Env0 P w K mg base A outer s H->BindsTo s fd args (ps.zip us)->yH vs us->sp vs H Q E ->
  codeAny (model P w) A (.call (.ref f) args) (CR (CXx P w) outer P w H s Q E) s
section
variable{c:Bool}{P:Lc}{w:Le}{K:qH}{mg:Str->Lx Lv}{base:Heap}
def FnOkN.fn(F:FnOkN c P w K mg base k f fd ps sp):FnOk P w K mg base (CXx P w) k f fd ps sp :=
 ⟨F.len,λA outer s H a g h Q E e=>F.run A outer s H a g h Q E (λ_=>e.hd) (Q4 e)⟩
def zGl{k:Nat}{f:Lz}{name g:Str}{i:Arguments}{body:Ls Lh}{a:Scope}{dV X G Y h ct oc:Lv}{an od:Lx Lz}
  {W:Lk} {N L:Ls Str} {sp:Sp} (lk:K.lookup f=some ⟨oc,od,.func (fnOf name g i body a dV X G Y an h ct),W⟩) (O:codeIn K h g=true) (S:FnScope N L a)
  (D:∀l H Q E,sp l H Q E->l.length=L.length)
  (p:∀(A:Lg) (outer:Ls Env) (s:La) (H:Hp) (l:Ls V) (Q:VK) (E:XK),(c=true->A.handled=none)->RoomN k (A.deeper (envOfC g a s.heap.objs.size f h))->sp l H Q E ->
   ∃t,PSs (cxN c P w K mg base N g a f h A outer s H E) body t/\t {nx:=λ_ H'=>Q .non H',rt:=Q} (wu N l) H) :
  FnOkN c P w K mg base (k+1) f (fnOf name g i body a dV X G Y an h ct) L sp:=by
 refine⟨D,λA outer s H Z us l Q E hd hr j hb r C=>?_⟩;have hl:=D _ _ _ _ C;have KX:K.In s.heap:=j.mod.kin.keeps λb o e=>(j.bs b o e).1
 have R:s.heap.NoLimit:=j.mod.nolimit.keeps λb o e=>(j.bs b o e).1
 have z:∀y∈L.zip us,a.names.lookup y.1=some .local\/(a.names.lookup y.1=some .cell/\((cellsFrom (s.heap.objs.size+1) a.names []).lookup y.1).isSome=true):=λ⟨n,v⟩ hy=>by
  rcases S.par n (of_mem_zip hy).1 with q|q
  ·exact .inl q
  ·exact .inr ⟨q,cellsFrom_some _ _ _ (.inl q)⟩
 refine codeAny_call_function hr.depth (KX _ _ lk) rfl S.co S.gen rfl (PySem.W.codeRec_of KX O) (hb _ _ _ _ ?_);refine wpAny_newFunctionEnv_cells S.kind z λaa he s1 x=>?_
 subst he;refine⟨R.keeps x.toInCall.keep,codeAny_func ?_⟩;obtain⟨t,ht,hq⟩:=p A outer s H l Q E hd (hr.deeper _) C;have e1:Env0 P w K mg base {A with handled:=none} outer s H:=⟨j.frames,j.mod,j.bs,j.bsz,j.funs,j.frf,j.hok,j.bare⟩
 have I0:Inv (cxOf (CXx P w) P w K mg base N g a f h {A with handled:=none} outer s H E) [] (wu N l) H s1:=zB2 S rfl e1 hl r x
 have I:Inv (cxN c P w K mg base N g a f h A outer s H E) [] (wu N l) H s1:=W8 I0 (A.deeper (envOfC g a s.heap.objs.size f h)) c _ hd (Around.frames_deeper j.frames);refine wpAny_mono (ht [] s1 (wu N l) H _ I hq) (λfl s' B=>?_) λe s' B=>B
 have fin:∀{O':L2.St} {H':Hp} {v:V} {u:Lv},Inv (cxN c P w K mg base N g a f h A outer s H E) [] O' H' s'->ym v u->Q v H'->CE outer P w H s Q u s' :=
  λ{O' H' v u} J M q=>⟨v,H',J.os,J.bare,J.base,J.hok,M,q⟩
 cases fl with
 |ret u =>
  obtain⟨v,O',H',J,M,q⟩:=B;exact fin J M q
 |next =>
  obtain⟨O',H',J,q⟩:=B;exact fin (v:=V.non) (u:=Value.none) J rfl q
 |brk =>
  obtain⟨_,_,_,q⟩:=B;exact False.elim q
 |cont =>
  obtain⟨_,_,_,q⟩:=B;exact False.elim q
end
structure Exn where
 cls:Str
 made:Bool
 vs:List Int
 deriving Inhabited
def fsV(c:Str)(vs:Ls Int):Ls (Str×V):=(y0 c).zip (vs.map V.int)
def Fs(a:Lx Lz)(H:Hp)(c:Str)(vs:Ls Int):Prop:=vs=[]\/∃d,a=some d/\H d=some (XD d (fsV c vs))
def RelX(X:Cx)(c:Ls (Lz×Obj))(O:L2.St)(x:Exn)(H:Hp)(e:Lv)(s:La):Prop:=∃a C h,e=.ref a/\X.mg x.cls=some (.ref C)/\H a=none/\Fs h H x.cls x.vs /\
 ((x.made=true/\∃i,Inv X c O H i/\s={i with heap:=s.heap}/\MadeD i.heap s.heap a (.ref C) h) \/
  (x.made=false/\∃g Hc,Inv X c O Hc g/\Un (frs X.stack) [] Hc H g.heap s.heap/\Flies X.stack H g.heap a C s.heap/\ub a h s.heap))
def XE(X:Cx)(O:L2.St)(H:Hp)(x:Exn):Prop:=∀(a:Ls (Lz×Obj)) (s:La) (e:Lv),Inv X a O H s->RelX X a O x H e s->X.xe e s
def EX(X:Cx)(O:L2.St):XK:=λc a H'=>∃x C,c=.ref C/\X.mg x.cls=some (.ref C)/\x.made=false/\Fs a H' x.cls x.vs/\XE X O H' x
section
variable{X:Cx}{pins:Ls (Lz×Obj)}{O:L2.St}{H:Hp}{s s':La}{e:Lv}
def pass_x(I:Inv X pins O H s)(h:CXx X.prog X.w X.stack H s (EX X O) e s'):X.xe e s':=by
 obtain⟨a,C,q,H',rfl,n,c,un,g,o,r,p,x,C',j,l,i,hf,k⟩:=h;cases j;have I':Inv X pins O H' s':=I.call' (ch:=[]) n un g c (λb z=>absurd z (by simp));exact k pins s' _ I' ⟨a,C,q,rfl,l,o,hf,.inr ⟨i,s,H,I,un,r,p⟩⟩
def zCH(F:FnOkN c X.prog X.w X.K X.mg X.base k f fd ps sp)(hd:c=true->X.A.handled=none)(i:RoomN k X.A)(j:wt X.K fd ps [])
  (I:Inv X pins O H s) (r:yH vs us) (h:sp vs H Q (EX X O)):wpAny (model X.prog X.w) X.A (call (.ref f) us) (EP X pins O Q) X.xe s:=by
 have hl:us.length=ps.length:=by rw[<- r.length];exact F.len _ _ _ _ h
 have a:=j s us I.kIn (by rw[append_nil];exact hl);rw[append_nil]at a;refine wpAny_call (codeAny_mono (F.run X.A X.stack s H ⟨us,[]⟩ us vs Q (EX X O) hd i I.env0 a r h) λr n g=>?_);cases r with
 |error e=>exact pass_x I g
 |ok l =>
  cases l with
  |ret u=>exact I.after g|next=>exact False.elim g|brk=>exact False.elim g|cont=>exact False.elim g
end
section
variable{X:Cx}{c:Bool}{k:Nat}{f:Lz}{fd:FuncData}{ps:Ls Str}{sp:Sp}{x:Str}{p pos:Pos}{e:Lb}{es:Ls Lb}{t:TA}
def zEi(F:FnOkN c X.prog X.w X.K X.mg X.base k f fd ps sp)(i:c=true->X.A.handled=none)(n:RoomN k X.A)(y:Gl X x)(o:X.mg x=some (.ref f))(v:keepIn X.K (.ref f)=true)(w:wt X.K fd ps [])
  (z:PA X (e::es) t) (j:(x==("__debug__":Str))=false:=by decide) (u:starEach (e::es) X.env=(false,eval e X.env)::starEach es X.env:=by rfl) (g:(backTo pos (starEach es X.env)).any (·.1)=false:=by rfl) :
  PE X (.Call (.Name x p) (e::es) [] pos) (λO H Q=>t O H λl H1=>sp l H1 Q (EX X O)):=by
 intro a s O H Q I h;refine wpAny_Call_Name_kw (Ys I y o ?_ j);refine callWith_K (h₀:=X.base) I.ok.mod.kin v (thn (z pos a s O H _ I h) λB C ⟨l,H1,I1,r,q⟩=>⟨I1.kIn,?_⟩) u g;exact zCH F i n w I1 r q
end
def zEj{c:Bool}{P:Lc}{w:Le}{K:qH}{p:Str->Lx Lv}{base:Heap}{N:Ls Str}{i:Str}{g:Scope}{f:Lz}{G:Lv}{A:Lg}{outer:Ls Env}{s:La}{H k:Hp}{E:XK}{O:L2.St}{x:Exn}
  (n:∀C j,p x.cls=some (.ref C)->Fs j k x.cls x.vs->E (.ref C) j k):XE (cxN c P w K p base N i g f G A outer s H E) O k x:=by
 intro l Q e I z9;obtain⟨a,C,j,he,hm,hn,hf,h⟩:=z9;subst he;rcases h with⟨_,R,I1,r,v⟩|⟨_,M,Hc,Ic,un,J,y⟩
 ·exact G0 I1 v r hn (n C j hm hf)
 ·obtain⟨B,t,u,L⟩:=J
  refine zBE I I.base hn ⟨B,t,u,λb o q z nf=>L b o q ?_ nf⟩ y (n C j hm hf);rcases z with⟨D,z⟩|z
  ·exact .inl (Ic.base.there b D z (by show b∉([]:Ls Lz);simp))
  ·exact .inr z
end DV
namespace DV
open PySem L2 PyProof.Rows PySem.Spec
open PySem.W (Frag Looks)
structure XCls(K:Frag)(c:Str)(C T:Lz):Prop where
 cd:∃cd,clsIn K C=some cd/\cd.name=c/\cd.mro=[.ref C,.ref T,.type "ValueError",.type "Exception",.type "BaseException",.type "object"]
 ty:typeIn K (.ref C)=some (.type "type")
 ga:findIn K (.ref C) "__getattribute__"=some (some (.builtin "BaseException.__getattribute__"))
 gn:findIn K (.ref C) "__getattr__"=some none
 gc:findIn K (.ref C) "__class__"=some (some (.builtin "object.__class__"))
 sp:specialIn K (.builtin "object.__class__") "__get__"=some (some (.builtin "getset_descriptor.__get__"))
 tk:takesIn K (.builtin "object.__class__")=some true
section
open Builtin Builtin.ObjectAttr Builtin.Getset_descriptor
variable{K:Frag}{c:Str}{C T x:Lz}{h:Heap}{ox:Obj}{M:Model}
def XCls.mro(F:XCls K c C T)(b:Lv):mroIn K C b=some ([Value.ref C,.ref T,.type "ValueError",.type "Exception",.type "BaseException",.type "object"].contains b):=by
 obtain⟨g,e,_,a⟩:=F.cd;unfold mroIn;rw[e,Option.bind_some,a];rfl
def typ(e:h.get? x=some ox)(a:ox.cls=.ref C):Looks M h (typeOf (.ref x)) (.ref C):=a▸(Looks.ld e).andThen .now
def zEk(F:XCls K c C T)(X:K.In h):Looks M h (find (.ref x) (.ref C) "__class__") (.bind (.builtin "getset_descriptor.__get__") (.builtin "object.__class__")):=by
 have e:Looks M h (takesStores (.builtin "object.__class__")) true:=PySem.W.looks_takesIn X F.tk;have a:Looks M h (dataDescriptor? (some (.builtin "object.__class__")) (some (.builtin "getset_descriptor.__get__"))) (some (.builtin "getset_descriptor.__get__",.builtin "object.__class__")):=e.andThen .now;exact(looks_findIn X F.gc).andThen ((PySem.W.looks_specialIn X F.sp).andThen (a.andThen (Looks.tag .now)))
end
section
open Builtin Builtin.ObjectAttr Builtin.Getset_descriptor
variable{K:Frag}{c:Str}{C T x:Lz}{ox:Obj}{prog:Lc}{w:Le}{A:Lg}{E:Ly}{s:La}
def cls_get{R:Result->La->Prop}(F:XCls K c C T)(X:K.In s.heap)(e:s.heap.get? x=some ox)(g:ox.cls=.ref C)(h:R (.ok (.ret (.ref C))) s) :
  codeAny (model prog w) A (.call (.builtin "getset_descriptor.__get__") ⟨[.builtin "object.__class__",.ref x,.ref C],[]⟩) R s:=by
 obtain⟨a,k,l,n,j⟩:=s;have ty:Looks (model prog w) a (typeOf (.ref x)) (.ref C):=typ e g;have i:Looks (model prog w) a (isSubtype (.ref C) (.type "object")) true:=looks_mroIn X (by rw[F.mro];rfl);refine codeAny_call_builtin PySem.W.KF.slot_gs.plain PySem.W.KF.entry_gs (PySem.W.KF.slot_gs.check _ _ _ _ _ _ _ _ PySem.W.KF.type_class (PySem.W.KF.args_gs _ _ _) ?_);unfold Builtin.«getset_descriptor.__get__»;unfold descrGet;rw[PySem.W.dga_obj];refine qB (qC ?_);unfold descrGetter descrCheckInstance descrNameAndClass isInstance;dsimp[PySem.W.KF.owner_class]
 repeat lk
 refine⟨Code.quiet_builtin _ (by left),?_⟩;refine codeAny_builtin PySem.W.KF.entry_class ?_;unfold Builtin.«object.__class__»;unfold shownTypeOf
 repeat lk
 exact h
def zCI{Q:Fin->La->Prop}(F:XCls K c C T)(X:K.In s.heap)(e:s.heap.get? x=some ox)(h:ox.cls=.ref C)(n:Q (.done (.ret (.ref C))) s) :
  wpAny (model prog w) A (Builtin.«object.__getattribute__» ⟨[.ref x,.str "__class__" tk],[]⟩) Q E s:=by
 obtain⟨a,j,k,g,i⟩:=s;have ty:Looks (model prog w) a (typeOf (.ref x)) (.ref C):=typ e h;have l:Looks (model prog w) a (find (.ref x) (.ref C) "__class__") _:=zEk F X;have o:∀Q',Q' (.done (.ret (.ref C))) (⟨a,j,k,g,i⟩:La)->wpAny (model prog w) A (bindTo (.builtin "getset_descriptor.__get__") (.builtin "object.__class__") (.ref x) (.ref C)) Q' E ⟨a,j,k,g,i⟩:=λQ' q=>by
  unfold bindTo;refine qB (wpAny_call (cls_get F X e h ?_));exact qC q
 refine qB (qC ?_);refine qB (qC ?_);refine qB (ty.at ?_);refine qB (l.at ?_);exact o _ n
def uc{Q:Unit->La->Prop}(F:XCls K c C T)(X:K.In s.heap)(e:s.heap.get? x=some ox)(i:ox.cls=.ref C)(p:Q () s) :
  wpAny M A (checkBuiltinCall "BaseException.__getattribute__" ⟨[.ref x,nameV],[]⟩) Q E s:=by
 obtain⟨g,o,q,r,l⟩:=s;have ty:Looks M g (typeOf (.ref x)) (.ref C):=typ e i;have h:Looks M g (isSubtype (.ref C) (.type "BaseException")) true:=looks_mroIn X (by rw[F.mro];rfl);have a:Looks M g (isInstance (.ref x) (.type "BaseException")) true:=ty.andThen h;have j:builtinKind "BaseException.__getattribute__"=some .slot:=by left
 have k:splitId "BaseException.__getattribute__"=some ("BaseException","__getattribute__"):=by left
 have n:=PySem.F.args_bexc_ga (.ref x) nameV;dsimp[checkBuiltinCall,j,k];refine qB (a.at ?_)
 repeat (any_goals (first|assumption|wp_step))
def zEl{R:Result->La->Prop}(F:XCls K c C T)(X:K.In s.heap)(e:s.heap.get? x=some ox)(a:ox.cls=.ref C)(g:R (.ok (.ret (.ref C))) s) :
  codeAny (model prog w) A (.call (.builtin "BaseException.__getattribute__") ⟨[.ref x,.str "__class__" tk],[]⟩) R s :=
 codeAny_call_builtin PySem.F.attr_ValueError.ga.plain PySem.F.entry_bexc_ga (uc F X e a (zCI F X e a g))
def zEm{Q:Lx Lv->La->Prop}(F:XCls K c C T)(X:K.In s.heap)(e:s.heap.get? x=some ox)(g:ox.cls=.ref C)(k:Q (some (.ref C)) {s with toks:=s.toks+1}) :
  wpAny (model prog w) A (getAttr? (.ref x) "__class__") Q E s:=by
 obtain⟨a,o,p,q,n⟩:=s;have ty:Looks (model prog w) a (typeOf (.ref x)) (.ref C):=typ e g;have l:Looks (model prog w) a (typeLookup (.ref C) "__getattribute__") _:=looks_findIn X F.ga;have h:Looks (model prog w) a (typeLookup (.ref C) "__getattr__") _:=looks_findIn X F.gn;have j:=PySem.F.attr_ValueError.ga.bind (.ref x);unfold getAttr? getAttrBy?;refine qB (wpAny_mkText (qB (wpAny_attempt ?_)));unfold getAttrBy;refine wpAny_holding (qB (ty.at (qB (l.at ?_))));have i:(Value.builtin "BaseException.__getattribute__" == Value.builtin "object.__getattribute__")=false:=by left
 dsimp;rw[i,Bool.and_false,if_neg (by decide)];unfold getAttrByItsOwn hookBefore;refine qB (h.at ?_);refine qB (wpAny_attempt (wpAny_holding ?_));unfold callGetattribute;rw[if_neg (by left)];unfold boundAndCalled;rw[j];refine qB (qC (wpAny_call (zEl F X e g ?_)));exact qC (qC k)
end
structure TCls(K:Frag)(T:Lz):Prop where
 cd:∃cd,clsIn K T=some cd/\cd.mro=.ref T::VB
 ty:typeIn K (.ref T)=some (.type "type")
section
variable{K:Frag}{c y:Str}{C Y T x:Lz}{h:Heap}{ox:Obj}{M:Model}
def TCls.mro(F:TCls K T)(b:Lv):mroIn K T b=some ((Value.ref T::VB).contains b):=by
 obtain⟨e,c,a⟩:=F.cd;unfold mroIn;rw[c,Option.bind_some,a];rfl
def zCJ(X:K.In h)(e:clsIn K C=some cd):Looks M h (isType (.ref C)) true:=by
 unfold clsIn at e;split at e
 ·rename_i ho
  intro A Q E s k q;unfold isType loadHead;exact qB (wpAny_loadPart (k _ _ (X _ _ ho)) (qC q))
 ·cases e
def not_tup{i:ClassData}{tp:Lz}{dd:Lx Lz}{a:Ls Lv}{n:Nat}{c:Lk}(X:K.In h)(e:clsIn K C=some i)(g:h.get? tp=some ⟨.type "tuple",dd,.seq a.toArray n,c⟩):(Value.ref C==.ref tp)=false:=by
 refine Bool.eq_false_iff.mpr λq=>?_
 obtain rfl:C=tp:=Value.ref.inj (beq_iff_eq.mp q);unfold clsIn at e;split at e
 ·rename_i ho;have z:=(X _ _ ho).symm.trans g;cases z
 ·cases e
def kit_exc(F:XCls K c C T):PySem.W.KitX K (.ref x) (.ref C) (λh=>∃o,h.get? x=some o/\o.cls=.ref C) where
 ty:=λM h X ⟨o,e,a⟩=>typ e a
 it:=λM h X _=>let ⟨_,e,_⟩:=F.cd;zCJ X e
 ne:=λh k j g n i X ht=>let ⟨_,e,_⟩:=F.cd;not_tup X e ht
 ca:=λX ⟨o,e,a⟩ q=>zEm F X e a q
def kit_own(F:XCls K c C T)(G:XCls K y Y T)(g:Y≠T)(h:c=y->C=Y):kitOne K (.ref C) (.ref Y)=some (c==y):=by
 obtain⟨t,n,h2,o⟩:=F.cd;obtain⟨r,a,j,p⟩:=G.cd;unfold kitOne;by_cases e:C=Y
 ·subst e
  rw[n]at a;cases a;rw[if_pos (by simp),<- h2,<- j];simp
 ·have l:(c==y)=false:=by
   cases q:c==y with
   |false=>rfl|true=>exact absurd (h (by exists q)) e
  rw[if_neg (by exists e),l];unfold kitCls;dsimp;rw[if_pos (by rw[a,G.ty];rfl)];show mroIn K C (.ref Y)=_;rw[F.mro];have k:(Value.ref Y==Value.ref C)=false:=by exists λz:Y=C=>e z.symm
  have i:(Value.ref Y==Value.ref T)=false:=by exists g
  dsimp[List.contains_cons,k,i];rfl
def kit_val(F:XCls K c C T):kitOne K (.ref C) (.type "ValueError")=some true:=by
 unfold kitOne;rw[if_neg (by simp)];unfold kitCls;dsimp;rw[if_pos (by left)];show mroIn K C _=_;rw[F.mro];rfl
def G4{E:Ly}{Q:Bool->La->Prop}(F:XCls K c C T)(G:TCls K T)(X:K.In s.heap)(e:s.heap.get? x=some ox)(h:ox.cls=.ref C)(l:Q true s):wpAny M A (excMatches (.ref x) (.ref T)) Q E s:=by
 obtain⟨a,q,r,t,n⟩:=s;obtain⟨p,k,o⟩:=G.cd;have ty:Looks M a (typeOf (.ref x)) (.ref C):=typ e h;have tT:Looks M a (typeOf (.ref T)) (.type "type"):=PySem.W.looks_typeIn X G.ty;have i:Looks M a (isInstance (.ref T) (.type "tuple")) false:=tT.andThen (Looks.of_pure tc_notTuple);have iT:Looks M a (isType (.ref T)) true:=zCJ X k;have j:Looks M a (isSubtype (.ref T) (.type "BaseException")) true:=looks_mroIn X (by rw[G.mro];rfl);have g:Looks M a (isSubtype (.ref C) (.ref T)) true:=looks_mroIn X (by rw[F.mro];simp);unfold excMatches isExcClass;refine qB (i.at ?_);refine qB (qC ?_);refine qB ?_;rw[forIn_cons];refine qB (qB (qB (iT.at ?_)));refine j.at ?_;refine qC ?_;refine qC ?_;refine qB (ty.at ?_);refine qB ?_;rw[forIn_cons];refine qB (qB (g.at ?_));refine qC (qC ?_);exact qC l
def own_at(X:K.In h)(q:excJ K C=true) :
  ∃bm N nm q bs a g sub e c l o i k j n r,h.get? C=some (excClassObj nm q C N bs bm a g sub e c l o i k j n "ValueError.__new__")/\h.Ns N r/\r "__init__"=none/\OwnTail h VB bm:=by
 obtain⟨bm,N,nm,q,bs,a,g,sub,e,c,l,o,i,k,j,n,u,p,v,t⟩:=(clsC K C _ _).why q rfl h X;exact⟨bm,N,nm,q,bs,a,g,sub,e,c,l,o,i,k,j,n,_,u,.of_isNs (isNs_of_in X p),PySem.W.nsMap_none_of_in X p v,t⟩
end
end DV
namespace DV
open PySem L2 PyProof.Rows PySem.Spec
open PySem.W (Looks)
structure XSet(K:qH)(C T:Lz):Prop where
 cd:∃cd,clsIn K C=some cd/\cd.mro=.ref C::.ref T::VB/\cd.hasDict=true
 sa:findIn K (.ref C) "__setattr__"=some (some (.builtin "object.__setattr__"))
section
open Builtin Builtin.ObjectAttr
variable{K:qH}{C T x:Lz}{ox:Obj}{prog:Lc}{w:Le}{A:Lg}{E:Ly}{h:Heap}{g:Array GenState}{d:Drawn}{t:Nat}{os:OsState}{name:Str}{v:Lv}
def zCK(X:K.In h)(e:clsIn K C=some cd):Looks M h (mroOf (.ref C)) cd.mro:=(looks_clsIn X e).andThen .now
def zEn{Q:Unit->La->Prop}(F:XSet K C T)(X:K.In h)(e:h.get? x=some ox)(j:ox.cls=.ref C)(r:Q () ⟨h,g,d,t,os⟩) :
  wpAny M A (checkBuiltinCall "object.__setattr__" ⟨[.ref x,nameV,v],[]⟩) Q E ⟨h,g,d,t,os⟩:=by
 obtain⟨q,i,n,p⟩:=F.cd;have ty:Looks M h (typeOf (.ref x)) (.ref C):=typ e j;have c:Looks M h (isSubtype (.ref C) (.type "object")) true:=looks_mroIn X (by unfold mroIn;rw[i,Option.bind_some,n];rfl);have a:Looks M h (isInstance (.ref x) (.type "object")) true:=ty.andThen c;have k:=PySem.F.store_ValueError.kind;have l:=PySem.F.store_ValueError.split;have o:=PySem.F.store_ValueError.args (.ref x) nameV v;dsimp[checkBuiltinCall,k,l];refine qB (a.at ?_)
 repeat (any_goals (first|assumption|wp_step))
def zEo{Q:Fin->La->Prop}(F:XSet K C T)(H:findIn K (.ref C) name=some none)(X:K.In h)(e:h.get? x=some ox)(V:ox.cls=.ref C)(L:ox.data=.fields vs)
  (B:(ox.dict=none->∀a p,(∀b o,b≠x->h.get? b=some o->a.get? b=some o)->a.Ns1 h.objs.size (λy=>if y=name then some v else none)->a.get? x=some {ox with dict:=some h.objs.size}->Q (.done (.ret .none)) ⟨a,g,d,p,os⟩) /\
   (∀r,ox.dict=some r->∃G D,h.Ns1 r G/\Within G D/\D.length<=100/\∀a p,(∀b o,b≠r->h.get? b=some o->a.get? b=some o)->a.Ns1 r (λy=>if y=name then some v else G y)->Q (.done (.ret .none)) ⟨a,g,d,p,os⟩)) :
  wpAny (model prog w) A (Builtin.«object.__setattr__» ⟨[.ref x,.str name tk,v],[]⟩) Q E ⟨h,g,d,t,os⟩:=by
 obtain⟨cd,Y,c2,c3⟩:=F.cd;have ty:Looks (model prog w) h (typeOf (.ref x)) (.ref C):=typ e V;have mr:Looks (model prog w) h (mroOf (.ref C)) cd.mro:=zCK X Y;have fd:Looks (model prog w) h (typeLookup (.ref C) name) none:=looks_findIn X H;have l:=PySem.F.store_ValueError.passes (.ref x);unfold Builtin.«object.__setattr__»;refine qB ?_;rw[refuse_eq];refine qB (ty.at (qB (mr.at ?_)));rw[c2,refuseLoop_ref,refuseLoop_ref,l];refine qC ?_;refine qB (m:=attrName (.str name tk)) (qC ?_);refine qB (ty.at (qB (fd.at ?_)));refine qB (qC ?_);have cl:Looks (model prog w) h (classData C) cd:=looks_clsIn X Y;refine qB (m:=ownStreamTells (.ref x) (.ref C)) (qC ?_);have u:x≠h.objs.size:=ne_of_lt (lt_size e);have sz:∀n:Nat,n<=101->n<=sizeLine:=λn Z=>le_trans Z (by left)
 refine qB (m:=instanceDict x true) ?_;unfold instanceDict;refine qB (wpAny_loadPart e ?_);rw[V];refine qB (cl.at ?_);rw[c3,L];cases W:ox.dict with
 |none =>
  have S:(h.push {cls:=.type "dict",data:=.dict #[]}).get? x=some ox:=qA _ e;refine qB (wpAny_alloc' ?_);refine qB (wpAny_update' S ?_);refine qC ?_;have gd:((h.push {cls:=.type "dict",data:=.dict #[]}).update x λo=>{cls:=o.cls,dict:=some h.objs.size,data:=o.data,slots:=o.slots}).get? h.objs.size=some {cls:=.type "dict",data:=.dict #[]} :=
   (get?_update_ne _ _ _ _ u.symm).trans (Heap.get?_push_at rfl rfl)
  have nd:((h.push {cls:=.type "dict",data:=.dict #[]}).update x λo=>{cls:=o.cls,dict:=some h.objs.size,data:=o.data,slots:=o.slots}).Ns h.objs.size (λ_=>none) :=
   ⟨_,#[],_,gd,rfl,λq he=>absurd he (by simp),λ_=>rfl⟩
  show wpAny _ _ (storeInDict h.objs.size (.str name tk) name v) _ _ _
  unfold storeInDict newKeyGuard;refine qB (qC (qB (wpAny_nsSet1 (Heap.Ns1.of_empty nd) λa c z=>?_)));obtain⟨oD,M,I,j,k,i⟩:=c.count (Within.cons name v Within.nil);refine qB (wpAny_lookBehind j (by rw[k];exact pastItsLine_dict (le_trans i (Nat.le_succ_of_le (sz _ (by show 0+1<=101;omega))))) (qC ?_));refine B.1 W a _ (λb ob R q=>(z.2 b (ne_of_lt (lt_size q))).trans ((get?_update_ne _ _ _ _ R).trans (qA _ q))) c ((z.2 x u).trans ?_);refine get?_update_self _ S ?_;have J:=(Heap.get?_some_iff.mp e).2;obtain⟨oc,od,O,aa⟩:=ox;cases O<;>first|rfl|exact J
 |some r =>
  obtain⟨G,D,n1,hw,hl,B⟩:=B.2 r W;refine qC ?_;show wpAny _ _ (storeInDict r (.str name tk) name v) _ _ _;unfold storeInDict newKeyGuard;refine qB (qC (qB (wpAny_nsSet1 n1 λa c z=>?_)));obtain⟨oD,M,I,j,k,i⟩:=c.count (Within.cons name v hw);refine qB (wpAny_lookBehind j (by rw[k];exact pastItsLine_dict (le_trans i (Nat.le_succ_of_le (sz _ (by show D.length+1<=101;omega))))) (qC ?_));exact B a _ (λb ob R q=>(z.2 b R).trans q) c
def zCL{Q:Unit->La->Prop}(F:XSet K C T)(r:findIn K (.ref C) name=some none)(X:K.In h)(e:h.get? x=some ox)(p:ox.cls=.ref C)(u:ox.data=.fields vs)
  (B:(ox.dict=none->∀j i,(∀b o,b≠x->h.get? b=some o->j.get? b=some o)->j.Ns1 h.objs.size (λy=>if y=name then some v else none)->j.get? x=some {ox with dict:=some h.objs.size}->Q () ⟨j,g,d,i,os⟩) /\
   (∀k,ox.dict=some k->∃l n,h.Ns1 k l/\Within l n/\n.length<=100/\∀j i,(∀b o,b≠k->h.get? b=some o->j.get? b=some o)->j.Ns1 k (λy=>if y=name then some v else l y)->Q () ⟨j,g,d,i,os⟩)) :
  wpAny (model prog w) A (setAttr (.ref x) name v) Q E ⟨h,g,d,t,os⟩:=by
 have ty:Looks (model prog w) h (typeOf (.ref x)) (.ref C):=typ e p;have D:Looks (model prog w) h (specialOf (.ref x) "__setattr__") (some (.builtin "object.__setattr__")):=ty.andThen (looks_findIn X F.sa);unfold setAttr;refine qB (wpAny_mkText (qB ?_));unfold callSpecial?;refine qB (D.at (wpAny_holding ?_));rw[PySem.F.store_ValueError.slot.bind];refine qB (qC (qB (wpAny_call (codeAny_call_builtin PySem.F.store_ValueError.slot.plain PySem.F.store_ValueError.entry (zEn F X e p (zEo F r X e p u ?_))))));exact⟨λz j i a b c=>qC (qC (B.1 z j i a b c)),λk z=>let ⟨l,n,n1,hw,hl,q⟩:=B.2 k z;⟨l,n,n1,hw,hl,λj i a b=>qC (qC (q j i a b))⟩⟩
end
section
open Builtin Builtin.ObjectAttr
variable{K:qH}{c:Str}{C T x dx:Lz}{ox:Obj}{prog:Lc}{w:Le}{A:Lg}{E:Ly}{s:La}{name:Str}{v:Lv}{mA:Str->Lx Lv}
def zEp{Q:Fin->La->Prop}(F:XCls K c C T)(S:XSet K C T)(g:findIn K (.ref C) name=some none)(X:K.In s.heap)(e:s.heap.get? x=some ox)(i:ox.cls=.ref C)(h:ox.data=.fields vs)(p:ox.dict=some dx)(hn:s.heap.Ns1 dx mA)(l:mA name=some v)(q:Q (.done (.ret v)) s) :
  wpAny (model prog w) A (Builtin.«object.__getattribute__» ⟨[.ref x,.str name tk],[]⟩) Q E s:=by
 obtain⟨a,u,y,z,r⟩:=s;obtain⟨cd,j,t,n⟩:=S.cd;have ty:Looks (model prog w) a (typeOf (.ref x)) (.ref C):=typ e i;have o:Looks (model prog w) a (typeLookup (.ref C) name) none:=looks_findIn X g;have k:Looks (model prog w) a (classData C) cd:=looks_clsIn X j;refine qB (qC ?_);refine qB (qC ?_);refine qB (ty.at ?_);refine qB ?_;unfold find;refine qB (o.at ?_);refine qB (m:=getOf none) (qC ?_);refine qB (m:=dataDescriptor? none none) (qC ?_);unfold ownThenClass;refine qB (m:=inOwnDict name (.ref x)) ?_;unfold inOwnDict;refine qB (m:=ownDict x) ?_;unfold ownDict loadHead;refine qB (wpAny_loadPart e ?_);rw[h];dsimp;unfold instanceDict;refine qB (wpAny_loadPart e ?_);rw[i];refine qB (k.at ?_);rw[n,p];refine qC ?_;refine wpAny_nsGet hn.ns ?_;rw[l];exact qB (wpAny_rule (qC (qC q)))
def ga_call{R:Result->La->Prop}(F:XCls K c C T)(S:XSet K C T)(a:findIn K (.ref C) name=some none)(X:K.In s.heap)(e:s.heap.get? x=some ox)(h:ox.cls=.ref C)(g:ox.data=.fields vs)(j:ox.dict=some dx)(hn:s.heap.Ns1 dx mA)(i:mA name=some v)(k:R (.ok (.ret v)) s) :
  codeAny (model prog w) A (.call (.builtin "BaseException.__getattribute__") ⟨[.ref x,.str name tk],[]⟩) R s :=
 codeAny_call_builtin PySem.F.attr_ValueError.ga.plain PySem.F.entry_bexc_ga (uc F X e h (zEp F S a X e h g j hn i k))
def ga_attr{Q:Ly}(F:XCls K c C T)(S:XSet K C T)(g:findIn K (.ref C) name=some none)(X:K.In s.heap)(e:s.heap.get? x=some ox)(i:ox.cls=.ref C)(h:ox.data=.fields vs)(o:ox.dict=some dx)(hn:s.heap.Ns1 dx mA)(l:mA name=some v)(j:PySem.W.handedIn v=true)(r:Q v {s with toks:=s.toks+1}) :
  wpAny (model prog w) A (getAttr (.ref x) name expr) Q E s:=by
 obtain⟨a,y,z,B,u⟩:=s;have ty:Looks (model prog w) a (typeOf (.ref x)) (.ref C):=typ e i;have t:Looks (model prog w) a (typeLookup (.ref C) "__getattribute__") _:=looks_findIn X F.ga;have k:Looks (model prog w) a (typeLookup (.ref C) "__getattr__") _:=looks_findIn X F.gn;have q:=PySem.F.attr_ValueError.ga.bind (.ref x);unfold getAttr;refine qB (wpAny_mkText ?_);unfold getAttrBy;refine wpAny_holding (qB (ty.at (qB (t.at ?_))));have n:(Value.builtin "BaseException.__getattribute__" == Value.builtin "object.__getattribute__")=false:=by left
 dsimp;rw[n,Bool.and_false,if_neg (by decide)];unfold getAttrByItsOwn hookBefore;refine qB (k.at ?_);refine qB (wpAny_attempt (wpAny_holding ?_));unfold callGetattribute;have p:onTheHeap (Value.builtin "BaseException.__getattribute__")=false:=rfl;rw[p,Bool.and_false,if_neg (by decide)];unfold boundAndCalled;rw[q];refine qB (qC (wpAny_call (ga_call F S g X e i h o hn l ?_)));show wpAny _ _ (handedOut v) _ _ _;rw[PySem.W.handedOut_of j];exact qC r
end
section
variable{prog:Lc}{w:Le}{A:Lg}{E:Ly}{h:Heap}{g:Array GenState}{d:Drawn}{t:Nat}{os:OsState}
variable{nm q:Str}{C N f:Lz}{bs bm:Ls Lv}{hdct:Bool}{sn:Ls Str}{sub:Ls Lv}{ab:Bool}{col:Lx Bool}{dd:Lx Lz}{k0 k1 k2 k3 k5:Lx Lv}{mN:Str->Lx Lv}{jQ:Ls Lv}{of:Obj}
abbrev zCM(h:Heap)(C:Lz)(a:Ls Lv):Heap:=(h.push {cls:=.type "tuple",data:=.seq a.toArray}).push {cls:=.ref C,data:=.fields #[.ref h.objs.size,.none,.none,.none,.bool false,.none]}
def InitR(Q:Ly)(E:Ly)(a:Lz):Result->La->Prop
 | .ok (.ret v),s=>v=.none/\Q (.ref a) s| .error e,s=>E e s|_,_=>False
def make_x{Q:Ly}(T:OwnTail h VB bm)(c:h.get? C=some (excClassObj nm q C N bs bm hdct sn sub ab col dd k0 k1 k2 k3 k5 "ValueError.__new__"))(hn:h.Ns N mN)(z:mN "__init__"=some (.ref f))(y:h.get? f=some of)(n:of.cls=.type "function")(k:jQ.length<=sizeLine)
  (j:codeAny (model prog w) (A.under (.builtin "type.__call__" ⟨.ref C::jQ,[]⟩)) (.call (.ref f) ⟨.ref (h.objs.size+1)::jQ,[]⟩) (InitR Q E (h.objs.size+1)) ⟨zCM h C jQ,g,d,t,os⟩) :
  wpAny (model prog w) A (call (.ref C) jQ) Q E ⟨h,g,d,t,os⟩:=by
 have F:=PySem.F.excBase_ValueError;have D:=tc_lookup;have H:=tc_bind (.ref C);have hT:(⟨h,g,d,t,os⟩:La).TypeIs (.ref C) "type":=⟨_,c,rfl⟩;refine wpAny_call (codeAny_of_tree ?_);show wpAny _ _ (callAny (.ref C) _) _ _ _
 repeat (any_goals (first|assumption|with_reducible refine wpAny_loadPart_at c ?_|wp_step))
 refine⟨rfl,?_⟩;refine codeAny_call_builtin_at (Code.quiet_builtin _ (by left)) entry_typeCall (wpAny_check_type_call_sub c ?_);have a:(zCM h C jQ).get? (h.objs.size+1)=some {cls:=.ref C,data:=.fields #[.ref h.objs.size,.none,.none,.none,.bool false,.none]}:=by heap_get
 have kp:∀b o,h.get? b=some o->(zCM h C jQ).get? b=some o:=λb o e=>qA _ (qA _ e)
 have l:=kp _ _ c;have x:=hn.keeps kp;have T1:=T.keeps kp;have u:=kp _ _ y;have p:(Value.ref C::bm).contains (.ref C)=true:=by simp
 repeat (first|with_reducible refine wpAny_loadPart_at c ?_|with_reducible refine wpAny_madeBy_exc c ?_|wp_step)
 refine codeAny_call_builtin_code (Code.quiet_builtin _ F.quiet) (wpAny_check_new_subT F T c ?_);refine codeAny_exc_new_subT F T c ?_ k;show wpAny _ _ (isInstance (.ref (h.objs.size+1)) (.ref C) >>= _) _ _ ⟨zCM h C jQ,g,d,t,os⟩;refine qB ?_;unfold isInstance;refine qB ((typ (M:=model prog w) a rfl).at ?_);refine wpAny_isSubtype_exc l ?_;rw[p];show wpAny _ _ (holding _ (callSpecial? (.ref (h.objs.size+1)) (Str.ofString "__init__") jQ []) >>= _) _ _ _;refine qB (wpAny_holding ?_);unfold callSpecial? specialOf;refine qB (qB ((typ (M:=model prog w) a rfl).at ?_));refine wpAny_typeLookup_tail l x T1 F.mroIs F.init.lookup ?_;rw[z];refine wpAny_holding (qB (wpAny_bindSpecial_def (s:=⟨zCM h C jQ,g,d,t,os⟩) u n ?_));refine qB (wpAny_call (codeAny_mono j λr G i=>?_));cases r with
 |error e=>exact i
 |ok B =>
  cases B with
  |ret v =>
   obtain⟨rfl,i⟩:=i;exact qC (qC i)
  |next=>exact i.elim|brk=>exact i.elim|cont=>exact i.elim
end
end DV
namespace DV
open PySem L2
set_option genInjectivity true in
inductive D where
 |non
 |bl (b:Bool)
 |int (i:Int)
 |str (x:Str)
 |t (ds:List D)
 |l (ds:List D)
 |fn (x:Str)
 |dic
 |exn (c:Str) (vs:List Int)
 |m (ks:List (List KN)) (vs:List D)
 deriving Inhabited
def oD:KN->D
 |none=>.non|some i=>.int i
def kD(ks:Ls KN):D:=.t (ks.map oD)
mutual
def Rep(K:qH)(h:Str->Lx Lv)(H:Hp):D->V->Prop
 | .non,v=>v=.non| .bl b,v=>v=.bl b| .int i,v=>v=.int i| .str x,v=>v=.str x| .t ds,v=>∃a g,v=.ref a/\SqT K H a g/\Reps K h H ds g| .l ds,v=>∃a g,v=.ref a/\SqL K H a g/\Reps K h H ds g| .fn x,v=>∃f,v=.ref f/\h x=some (.ref f)| .dic,v=>∃a,v=.ref a/\H a=some (.dK [])| .exn c vs,v=>∃a C,v=.ref a/\h c=some (.ref C)/\((vs=[]/\H a=some (ExO C a))\/∃d,H a=some (ExA C d a)/\H d=some (XD d (fsV c vs)))| .m ks vs,v=>∃a j,v=.ref a/\H a=some (vS a j)/\ks=j.map (·.1)/\(∀e∈j,SqT K H e.2.1 (e.1.map oV))/\Reps K h H vs (j.map (·.2.2))
def Reps(K:qH)(c:Str->Lx Lv)(H:Hp):Ls D->Ls V->Prop
 | [],a=>a=[]|d::ds,a=>∃v r,a=v::r/\Rep K c H d v/\Reps K c H ds r
end
section
variable{K:qH}{mg:Str->Lx Lv}{H H':Hp}
def zI(e:YL H H')(h:SqT K H a xs):SqT K H' a xs:=by
 rcases h with(h|⟨o,h⟩)|h
 ·exact .inl (.inl (e _ _ h))
 ·exact .inl (.inr ⟨o,e _ _ h⟩)
 ·exact .inr h
mutual
theorem Rep.mono(e:YL H H'):∀{d:D} {v:V},Rep K mg H d v->Rep K mg H' d v
 | .non,_,h=>by simpa only[Rep]using h| .bl _,_,h=>by simpa only[Rep]using h| .int _,_,h=>by simpa only[Rep]using h| .str _,_,h=>by simpa only[Rep]using h
 | .t k,_,h=>by
  obtain⟨a,i,g,h2,c⟩:=h;exact⟨a,i,g,zI e h2,Reps.mono e c⟩
 | .l k,_,h=>by
  obtain⟨a,i,g,h2,c⟩:=h;exact⟨a,i,g,e.seq h2,Reps.mono e c⟩
 | .fn _,_,h=>by simpa only[Rep]using h
 | .dic,_,h=>by
  obtain⟨a,g,h2⟩:=h;exact⟨a,g,e _ _ h2⟩
 | .exn _ _,_,h=>by
  obtain⟨a,C,g,h2,c⟩:=h;refine⟨a,C,g,h2,?_⟩;rcases c with⟨hv,c⟩|⟨d,c,h4⟩
  ·exact .inl ⟨hv,e _ _ c⟩
  ·exact .inr ⟨d,e _ _ c,e _ _ h4⟩
 | .m o n,_,h=>by
  obtain⟨a,l,g,h2,c,h4,h5⟩:=h;exact⟨a,l,g,e _ _ h2,c,λx j=>zI e (h4 x j),Reps.mono e h5⟩
theorem Reps.mono(e:YL H H'):∀{a:Ls D} {c:Ls V},Reps K mg H a c->Reps K mg H' a c
 | [],_,h=>by simpa only[Reps]using h
 |d::a,_,h=>by
  obtain⟨v,r,i,h2,g⟩:=h;exact⟨v,r,i,Rep.mono e h2,Reps.mono e g⟩
end
theorem Reps.length:∀{a:Ls D} {c:Ls V},Reps K mg H a c->c.length=a.length
 | [],_,h=>by dsimp[Reps]at h;subst h;rfl
 |d::a,_,h=>by
  obtain⟨v,r,rfl,h2,e⟩:=h;simp[Reps.length e]
def Reps.nil:Reps K mg H [] []:=by dsimp[Reps]
def Reps.cons(h:Rep K mg H d v)(t:Reps K mg H ds vs):Reps K mg H (d::ds) (v::vs):=by
 dsimp[Reps];exact⟨v,vs,rfl,h,t⟩
theorem Reps.get:∀{a:Ls D} {c:Ls V} {i:Nat} {v:V},Reps K mg H a c->c[i]?=some v->∃d,a[i]?=some d/\Rep K mg H d v
 | [],_,_,_,h,e=>by dsimp[Reps]at h;subst h;simp at e
 |d::a,_,i,v,h,e=>by
  obtain⟨n,r,rfl,h2,k⟩:=h;cases i with
  |zero=>simp at e;subst e;exact⟨d,rfl,h2⟩|succ i=>simp at e;obtain⟨j,l,g⟩:=Reps.get k e;exact⟨j,by simpa using l,g⟩
theorem Reps.get':∀{a:Ls D} {c:Ls V} {i:Nat} {d:D},Reps K mg H a c->a[i]?=some d->∃v,c[i]?=some v/\Rep K mg H d v
 | [],_,_,_,h,e=>by simp at e
 |d::a,_,i,n,h,e=>by
  obtain⟨k,r,rfl,h2,j⟩:=h;cases i with
  |zero=>simp at e;subst e;exact⟨k,rfl,h2⟩|succ i=>simp at e;obtain⟨v,l,g⟩:=Reps.get' j e;exact⟨v,by simpa using l,g⟩
theorem Reps.append:∀{a e:Ls D} {c i:Ls V},Reps K mg H a c->Reps K mg H e i->Reps K mg H (a++e) (c++i)
 | [],_,_,_,h,g=>by dsimp[Reps]at h;subst h;exact g
 |d::a,_,_,_,h,g=>by
  obtain⟨k,r,rfl,h2,j⟩:=h;exact Reps.cons h2 (Reps.append j g)
theorem Reps.set:∀{a:Ls D} {e:Ls V} (i:Nat) {d:D} {v:V},Reps K mg H a e->Rep K mg H d v->Reps K mg H (a.set i d) (e.set i v)
 | [],_,_,_,_,h,g=>by dsimp[Reps]at h;subst h;exact Reps.nil
 |d::a,_,i,_,_,h,g=>by
  obtain⟨j,r,rfl,h2,c⟩:=h;cases i with
  |zero=>exact Reps.cons g c|succ i=>exact Reps.cons h2 (Reps.set i c g)
theorem Reps.take:∀{a:Ls D} {c:Ls V} (n:Nat),Reps K mg H a c->Reps K mg H (a.take n) (c.take n)
 | [],_,_,h=>by dsimp[Reps]at h;subst h;simp[Reps.nil]
 |d::a,_,n,h=>by
  obtain⟨g,r,rfl,h2,e⟩:=h;cases n with
  |zero=>exact Reps.nil|succ n=>exact Reps.cons h2 (Reps.take n e)
theorem Reps.drop:∀{a:Ls D} {e:Ls V} (n:Nat),Reps K mg H a e->Reps K mg H (a.drop n) (e.drop n)
 | [],_,_,h=>by dsimp[Reps]at h;subst h;simp[Reps.nil]
 |d::a,_,n,h=>by
  obtain⟨g,r,rfl,h2,c⟩:=h;cases n with
  |zero=>exact Reps.cons h2 c|succ n=>exact Reps.drop n c
theorem Reps.flatten(h:Reps K mg H ds vs):∀n:Nat,Reps K mg H (replicate n ds).flatten (replicate n vs).flatten
 |0=>Reps.nil|n+1=>by dsimp[replicate_succ,flatten_cons];exact h.append (Reps.flatten h n)
end
open Classical in
def Hm(M:Ld)(H:Hp):Hp:=λb=>if M b then none else H b
section
variable{M M':Ld}{H H':Hp}{b:Lz}{o:HO}
def zR:Hm M H b=some o↔¬M b/\H b=some o:=by
 unfold Hm;by_cases h:M b
 ·simp[h]
 ·simp[h]
def zF:YL (Hm M H) H:=λb o h=>(zR.mp h).2
def ji(h:∀b,M' b->M b):YL (Hm M H) (Hm M' H):=λb o e=>zR.mpr ⟨λx=>(zR.mp e).1 (h b x),(zR.mp e).2⟩
end
inductive Slot where
 |e
 |v (d:D)
 |w (ds:List D)
 |p (ds:List D)
 |m (ks:List (List KN)) (vs:List D)
 deriving Inhabited
abbrev za:=Ls Slot
set_option genInjectivity true in
inductive R where
 |v (d:D)
 |w (ds:List D)
 |m (ks:List (List KN)) (vs:List D)
 deriving Inhabited
def R.slot:R->Slot
 | .v d=>.v d| .w ds=>.w ds| .m ks vs=>.m ks vs
def R.d:R->D
 | .v d=>d| .w ds=>.l ds| .m ks vs=>.m ks vs
inductive Ct where
 |l (ds:List D)
 |d (ks:List (List KN)) (vs:List D)
def Slot.ct?:Slot->Lx Ct
 | .w ds=>some (.l ds)| .p ds=>some (.l ds)| .m ks vs=>some (.d ks vs)|_=>none
def CRep(K:qH)(h:Str->Lx Lv)(H:Hp)(a:Lz):Ct->HO->Prop
 | .l i,o=>∃g,o=.l g/\Reps K h H i g| .d ks vs,o=>∃c,o=vS a c/\ks=c.map (·.1)/\(∀e∈c,SqT K H e.2.1 (e.1.map oV))/\Reps K h H vs (c.map (·.2.2))
theorem CRep.mono{h:Str->Lx Lv}(e:YL H H'):∀{c:Ct},CRep K h H a c o->CRep K h H' a c o
 | .l k,⟨j,g,h2⟩=>⟨j,g,h2.mono e⟩| .d ks vs,⟨es,g,h2,h3,h4⟩=>⟨es,g,h2,λx i=>zI e (h3 x i),h4.mono e⟩
def Slot.list?:Slot->Lx (Ls D)
 | .w ds=>some ds| .p ds=>some ds|_=>none
abbrev Fz:=Ls (Lx V×Slot)
def W9:Lx V×Slot->Lx Lz
 | (some (.ref a),.w _)=>some a| (some (.ref a),.p _)=>some a| (some (.ref a),.m _ _)=>some a|_=>none
def yE(Z:Fz):Ls Lz:=Z.filterMap W9
def Mo(M:Ld)(Z:Fz):Ld:=λb=>M b\/b∈yE Z
def zc(Z T:Fz):yE (Z++T)=yE Z++yE T:=List.filterMap_append
def zZ(o:Lx V)(d:D)(Z:Fz):yE ((o,.v d)::Z)=yE Z:=by
 unfold yE;cases o with
 |none=>rfl
 |some v=>cases v<;>rfl
def vT(a:Lz)(ds:Ls D)(Z:Fz):yE ((some (.ref a),.w ds)::Z)=a::yE Z:=rfl
def vU(a:Lz)(ks:Ls (Ls KN))(vs:Ls D)(Z:Fz):yE ((some (.ref a),.m ks vs)::Z)=a::yE Z:=rfl
def yZ(o:Lx V)(Z:Fz):yE ((o,.e)::Z)=yE Z:=by
 unfold yE;cases o with
 |none=>rfl
 |some v=>cases v<;>rfl
def jS(M:Ld)(T Z:Fz):Mo M (T++Z)=Mo (Mo M T) Z:=by
 funext b
 apply propext;dsimp[Mo,zc,mem_append];constructor
 ·rintro (h|h|h)
  ·exact .inl (.inl h)
  ·exact .inl (.inr h)
  ·exact .inr h
 ·rintro ((h|h)|h)
  ·exact .inl h
  ·exact .inr (.inl h)
  ·exact .inr (.inr h)
def vV{M:Ld}(p:T.Perm Z):Mo M T=Mo M Z:=by
 funext b
 apply propext;dsimp[Mo,yE];rw[(p.filterMap W9).mem_iff]
def YM(M:Ld)(o:Lx V)(d:D)(Z:Fz):Mo M ((o,.v d)::Z)=Mo M Z:=by unfold Mo;rw[zZ]
def Mo_emp(M:Ld)(o:Lx V)(Z:Fz):Mo M ((o,.e)::Z)=Mo M Z:=by unfold Mo;rw[yZ]
structure FR(K:qH)(mg:Str->Option Lv)(M:Ld)(H:Hp)(Z:Fz):Prop where
 val:∀o d,(o,Slot.v d)∈Z->∃v,o=some v/\Rep K mg (Hm (Mo M Z) H) d v
 own:∀o s c,(o,s)∈Z->s.ct?=some c->∃a ho,o=some (.ref a)/\H a=some ho/\¬M a/\CRep K mg (Hm (Mo M Z) H) a c ho
 nd:(yE Z).Nodup
 mal:∀b,M b->∃o,H b=some o/\OwnK o
structure Step(M:Ld)(H:Hp)(Z:Fz)(H':Hp)(Z':Fz):Prop where
 same:YL (Hm (Mo M Z) H) (Hm (Mo M Z') H')
 keep:∀b o,M b->H b=some o->H' b=some o
section
variable{K:qH}{mg:Str->Lx Lv}{M:Ld}{H H' H1 H2:Hp}{Z Z' T Z1 Z2:Fz}
theorem Step.refl:Step M H Z H Z:=⟨YL.refl _,λ_ _ _ h=>h⟩
theorem Step.trans(a:Step M H Z H1 Z1)(b:Step M H1 Z1 H2 Z2):Step M H Z H2 Z2 :=
 ⟨a.same.trans b.same,λx o m h=>b.keep x o m (a.keep x o m h)⟩
def Je(h:∀b,b∈yE Z->b∈yE Z'):∀b,Mo M Z b->Mo M Z' b:=λb q=>q.elim .inl λq=>.inr (h b q)
def Step.weak(a:Step M H Z H' Z')(h:∀b,b∈yE T->b∈yE Z'):Step M H Z H' T :=
 ⟨a.same.trans (ji (Je h)),a.keep⟩
def Step.left(a:Step M H Z H' Z')(h:∀b,b∈yE Z->b∈yE T):Step M H T H' Z' :=
 ⟨(ji (Je h)).trans a.same,a.keep⟩
def zE(h:T.Sublist Z):∀b,b∈yE T->b∈yE Z:=λb q=>(h.filterMap W9).subset q
def zD(h:T.Perm Z):∀b,b∈yE T->b∈yE Z:=λb q=>(h.filterMap W9).subset q
def FR.perm(h:FR K mg M H Z)(p:Z.Perm T):FR K mg M H T where
 val:=λo d q=>by rw[<- vV p];exact h.val o d (p.mem_iff.mpr q)
 own:=λo s a q e=>by rw[<- vV p];exact h.own o s a (p.mem_iff.mpr q) e
 nd:=(p.filterMap W9).nodup_iff.mp h.nd
 mal:=h.mal
def FR.sub(h:FR K mg M H Z)(p:T.Sublist Z):FR K mg M H T where
 val:=λo d q=>by
  obtain⟨v,e,r⟩:=h.val o d (p.subset q);exact⟨v,e,r.mono (ji (Je (zE p)))⟩
 own:=λo s i q e=>by
  obtain⟨a,g,j,c,k,r⟩:=h.own o s i (p.subset q) e;exact⟨a,g,j,c,k,r.mono (ji (Je (zE p)))⟩
 nd:=h.nd.sublist (p.filterMap W9)
 mal:=h.mal
def FR.tail(h:FR K mg M H (x::Z)):FR K mg M H Z:=h.sub (sublist_cons_self _ _)
def zCN{s:Slot}{ds:Ls D}(e:s.list?=some ds):s.ct?=some (.l ds):=by
 cases s<;>first|(cases e;rfl)|(cases e)
def FR.ownL(h:FR K mg M H Z)(o:Lx V)(s:Slot)(ds:Ls D)(m:(o,s)∈Z)(e:s.list?=some ds):∃a xs,o=some (.ref a)/\H a=some (.l xs)/\¬M a/\Reps K mg (Hm (Mo M Z) H) ds xs:=by
 obtain⟨a,ho,c,i,g,xs,rfl,r⟩:=h.own o s _ m (zCN e);exact⟨a,xs,c,i,g,r⟩
def jM(h:(o,s)∈Z)(e:s.ct?=some c)(g:o=some (.ref a)):a∈yE Z:=by
 subst g;refine mem_filterMap.mpr ⟨_,h,?_⟩;cases s<;>simp[Slot.ct?]at e<;>rfl
def WC{o:Lx V}{s:Slot}{ds:Ls D}{a:Lz}(h:(o,s)∈Z)(e:s.list?=some ds)(c:o=some (.ref a)):a∈yE Z:=jM h (zCN e) c
def G5(h:a∈yE Z):∃s c,(some (V.ref a),s)∈Z/\Slot.ct? s=some c:=by
 obtain⟨⟨o,s⟩,g,h2⟩:=mem_filterMap.mp h;unfold W9 at h2;split at h2
 ·rename_i e;cases e;cases h2;exact⟨_,_,g,rfl⟩
 ·rename_i e;cases e;cases h2;exact⟨_,_,g,rfl⟩
 ·rename_i e;cases e;cases h2;exact⟨_,_,g,rfl⟩
 ·cases h2
def CRep.own{g:Str->Lx Lv}:∀{c:Ct},CRep K g H a c o->OwnK o
 | .l _,⟨e,h,_⟩=>.inl ⟨e,h⟩| .d _ _,⟨es,h,_⟩=>.inr ⟨_,h⟩
def FR.ownAt(h:FR K mg M H Z)(e:a∈yE Z):∃o,H a=some o/\¬M a/\OwnK o:=by
 obtain⟨s,c,j,h2⟩:=G5 e;obtain⟨l,o,i,g,k,r⟩:=h.own _ s c j h2;cases i;exact⟨o,g,k,r.own⟩
def FR.moAl(h:FR K mg M H Z)(b:Lz)(e:Mo M Z b):∃o,H b=some o/\OwnK o:=by
 rcases e with e|e
 ·exact h.mal b e
 ·obtain⟨a,q,_,z⟩:=h.ownAt e
  exact⟨_,q,z⟩
def FR.inner(h:FR K mg M H (T++Z)):FR K mg (Mo M T) H Z where
 val:=λo d q=>by rw[<- jS];exact h.val o d (qK _ q)
 own:=λo s j q e=>by
  obtain⟨a,c,g,i,k,r⟩:=h.own o s j (qK _ q) e;refine⟨a,c,g,i,λm=>?_,by rw[<- jS];exact r⟩;rcases m with m|m
  ·exact k m
  ·have nd:=h.nd
   rw[zc]at nd;exact(nodup_append.mp nd).2.2 a m a (jM q e g) rfl
 nd:=by
  have nd:=h.nd;rw[zc]at nd;exact(nodup_append.mp nd).2.1
 mal:=λb q=>by
  rcases q with q|q
  ·exact h.mal b q
  ·obtain⟨c,q,_,z⟩:=h.ownAt (a:=b) (by rw[zc];exact mem_append_left _ q)
   exact⟨_,q,z⟩
def FR.outer(h:FR K mg M H (T++Z))(g:FR K mg (Mo M T) H' Z')(st:Step (Mo M T) H Z H' Z'):FR K mg M H' (T++Z') where
 val:=λo d q=>by
  rw[jS];rcases mem_append.mp q with q|q
  ·obtain⟨v,e,r⟩:=h.val o d (mem_append_left _ q)
   rw[jS]at r;exact⟨v,e,r.mono st.same⟩
  ·exact g.val o d q
 own:=λo s l q e=>by
  rw[jS];rcases mem_append.mp q with q|q
  ·obtain⟨a,c,i,j,k,r⟩:=h.own o s l (mem_append_left _ q) e
   rw[jS]at r;exact⟨a,c,i,st.keep a _ (.inr (jM q e i)) j,k,r.mono st.same⟩
  ·obtain⟨a,c,i,j,k,r⟩:=g.own o s l q e
   exact⟨a,c,i,j,λm=>k (.inl m),r⟩
 nd:=by
  rw[zc];have nd:=h.nd;rw[zc]at nd;refine nodup_append.mpr ⟨(nodup_append.mp nd).1,g.nd,λa p b n e=>?_⟩;subst e;obtain⟨c,_,q,_⟩:=g.ownAt n;exact q (.inr p)
 mal:=λb q=>g.mal b (.inl q)
def Step.outer(st:Step (Mo M T) H Z H' Z'):Step M H (T++Z) H' (T++Z') :=
 ⟨by rw[jS,jS];exact st.same,λb o m h=>st.keep b o (.inl m) h⟩
def yL(a:H p=none):YL H (upd H p o):=λb u e=>by
 rw[zG (λq=>by subst q;rw[a]at e;cases e)];exact e
def FR.grow(h:FR K mg M H Z)(c:H p=none):FR K mg M (upd H p o) Z where
 val:=λg d q=>by
  obtain⟨v,e,r⟩:=h.val g d q;exact⟨v,e,r.mono λb u x=>zR.mpr ⟨(zR.mp x).1,yL c b u (zR.mp x).2⟩⟩
 own:=λg s k q e=>by
  obtain⟨a,j,l,i,n,r⟩:=h.own g s k q e;exact⟨a,j,l,yL c _ _ i,n,r.mono λb u x=>zR.mpr ⟨(zR.mp x).1,yL c b u (zR.mp x).2⟩⟩
 nd:=h.nd
 mal:=λb q=>by obtain⟨u,e,z⟩:=h.mal b q;exact⟨u,yL c _ _ e,z⟩
def Step.grow(a:H p=none):Step M H Z (upd H p o) Z :=
 ⟨λb u x=>zR.mpr ⟨(zR.mp x).1,yL a b u (zR.mp x).2⟩,λb u _ e=>yL a b u e⟩
def FR.add(h:FR K mg M H Z)(r:Rep K mg (Hm (Mo M Z) H) d v):FR K mg M H ((some v,.v d)::Z) where
 val:=λo c q=>by
  rw[YM];rcases mem_cons.mp q with q|q
  ·cases q;exact⟨v,rfl,r⟩
  ·exact h.val o c q
 own:=λo s a q e=>by
  rw[YM];rcases mem_cons.mp q with q|q
  ·cases q;cases e
  ·exact h.own o s a q e
 nd:=by rw[zZ];exact h.nd
 mal:=h.mal
def Step.add(st:Step M H Z H' Z'):Step M H Z H' ((v,.v d)::Z'):=by
 refine⟨?_,st.keep⟩;rw[YM];exact st.same
def JO(h:FR K mg M H Z)(a:H p=none):¬Mo M Z p:=λq=>by
 obtain⟨o,e,_⟩:=h.moAl p q;rw[a]at e;cases e
def wN(h:FR K mg M H Z)(c:H p=none):YL (Hm (Mo M Z) H) (Hm (Mo M ((some (.ref p),.w ds)::Z)) (upd H p (.l xs))):=λb u x=>by
 obtain⟨a,h2⟩:=zR.mp x;refine zR.mpr ⟨λq=>?_,yL c _ _ h2⟩;rcases q with q|q
 ·exact a (.inl q)
 ·rw[vT]at q
  rcases mem_cons.mp q with q|q
  ·subst q;rw[c]at h2;cases h2
  ·exact a (.inr q)
def FR.newOwn(h:FR K mg M H Z)(c:H p=none)(r:Reps K mg (Hm (Mo M Z) H) ds xs):FR K mg M (upd H p (.l xs)) ((some (.ref p),.w ds)::Z) where
 val:=λo d q=>by
  rcases mem_cons.mp q with q|q
  ·cases q
  ·obtain⟨v,e,r⟩:=h.val o d q
   exact⟨v,e,r.mono (wN h c)⟩
 own:=λo s g q e=>by
  rcases mem_cons.mp q with q|q
  ·cases q;cases e
   exact⟨p,_,rfl,zU,λm=>JO h c (.inl m),xs,rfl,r.mono (wN h c)⟩
  ·obtain⟨a,i,k,j,l,r⟩:=h.own o s g q e
   exact⟨a,i,k,yL c _ _ j,l,r.mono (wN h c)⟩
 nd:=by
  exact nodup_cons.mpr ⟨λq=>JO h c (.inr q),h.nd⟩
 mal:=λb q=>by obtain⟨u,e,z⟩:=h.mal b q;exact⟨u,yL c _ _ e,z⟩
def Step.newOwn(h:FR K mg M H Z)(a:H p=none):Step M H Z (upd H p (.l xs)) ((some (.ref p),.w ds)::Z) :=
 ⟨wN h a,λb u _ e=>yL a b u e⟩
def jj(h:FR K mg M H Z)(c:H p=none):YL (Hm (Mo M Z) H) (Hm (Mo M ((some (.ref p),.m ks vs)::Z)) (upd H p o)):=λb u x=>by
 obtain⟨a,h2⟩:=zR.mp x;refine zR.mpr ⟨λq=>?_,yL c _ _ h2⟩;rcases q with q|q
 ·exact a (.inl q)
 ·rw[vU]at q
  rcases mem_cons.mp q with q|q
  ·subst q;rw[c]at h2;cases h2
  ·exact a (.inr q)
def FR.newDct(h:FR K mg M H Z)(g:H p=none)(n:∀e∈es,SqT K (Hm (Mo M Z) H) e.2.1 (e.1.map oV))(r:Reps K mg (Hm (Mo M Z) H) vs (es.map (·.2.2))):FR K mg M (upd H p (vS p es)) ((some (.ref p),.m (es.map (·.1)) vs)::Z) where
 val:=λo d q=>by
  rcases mem_cons.mp q with q|q
  ·cases q
  ·obtain⟨v,e,r⟩:=h.val o d q
   exact⟨v,e,r.mono (jj h g)⟩
 own:=λo s c q e=>by
  rcases mem_cons.mp q with q|q
  ·cases q;cases e
   exact⟨p,_,rfl,zU,λm=>JO h g (.inl m),es,rfl,rfl,λx j=>zI (jj h g) (n x j),r.mono (jj h g)⟩
  ·obtain⟨a,i,l,k,t,r⟩:=h.own o s c q e
   exact⟨a,i,l,yL g _ _ k,t,r.mono (jj h g)⟩
 nd:=by
  exact nodup_cons.mpr ⟨λq=>JO h g (.inr q),h.nd⟩
 mal:=λb q=>by obtain⟨u,e,z⟩:=h.mal b q;exact⟨u,yL g _ _ e,z⟩
def Step.newDct(h:FR K mg M H Z)(a:H p=none):Step M H Z (upd H p o) ((some (.ref p),.m ks vs)::Z) :=
 ⟨jj h a,λb u _ e=>yL a b u e⟩
def FR.newTup(h:FR K mg M H Z)(a:H p=none)(r:Reps K mg (Hm (Mo M Z) H) ds xs):FR K mg M (upd H p (.t xs)) ((some (.ref p),.v (.t ds))::Z):=by
 refine(h.grow a).add ?_;refine⟨p,xs,rfl,SqT.of (zR.mpr ⟨JO h a,zU⟩),r.mono λb u x=>zR.mpr ⟨(zR.mp x).1,yL a b u (zR.mp x).2⟩⟩
def Step.newVal(a:H p=none):Step M H Z (upd H p o) ((v,.v d)::Z):=(Step.grow a).add
def FR.frz{o:Lx V}{r:R}(h:FR K mg M H ((o,r.slot)::Z)):FR K mg M H ((o,.v r.d)::Z):=by
 cases r with
 |v d=>exact h
 |w l =>
  obtain⟨a,t,j,e,k,y⟩:=h.ownL o (.w l) l qE rfl;subst j;have c:¬Mo M Z a:=λq=>by
   rcases q with q|q
   ·exact k q
   ·exact(nodup_cons.mp h.nd).1 q
  refine h.tail.add ?_;exact⟨a,t,rfl,SqL.of (zR.mpr ⟨c,e⟩),y.mono (ji (Je (zE (sublist_cons_self _ _))))⟩
 |m i g =>
  obtain⟨a,ho,j,e,k,z,rfl,B,p,C⟩:=h.own o (.m i g) (.d i g) qE rfl;subst j;have c:¬Mo M Z a:=λq=>by
   rcases q with q|q
   ·exact k q
   ·exact(nodup_cons.mp h.nd).1 q
  refine h.tail.add ?_;have n:=ji (H:=H) (Je (M:=M) (zE (sublist_cons_self ((some (V.ref a),Slot.m i g)) Z)));exact⟨a,z,rfl,zR.mpr ⟨c,e⟩,B,λx u=>zI n (p x u),C.mono n⟩
def Step.frz{o:Lx V}{r:R}(h:Step M H Z H' ((o,r.slot)::Z')):Step M H Z H' ((o,.v r.d)::Z'):=by
 cases r with
 |v d=>exact h
 |w c =>
  refine h.weak λb q=>?_
  rw[zZ]at q;exact(zE (sublist_cons_self _ _)) b q
 |m e a =>
  refine h.weak λb q=>?_
  rw[zZ]at q;exact(zE (sublist_cons_self _ _)) b q
theorem vW:∀(O:St) (E:za) (i:Nat) (o:Lx V) (s:Slot),(O.set i o).zip (E.set i s)=(O.zip E).set i (o,s)
 | [],_,_,_,_=>by simp|_::_,[],_,_,_=>by simp|x::O,y::E,0,o,s=>by simp|x::O,y::E,i+1,o,s=>by simp[vW O E i o s]
theorem zT{α:Type}(x:α):∀(l:Ls α) (i:Nat),i<l.length->(l.set i x).Perm (x::l.eraseIdx i)
 | [],_,h=>by simp at h|y::l,0,_=>List.Perm.refl _
 |y::l,i+1,h=>by
  have a:=zT x l i (by exists h);exact(a.cons y).trans (List.Perm.swap x y _)
def FR.put(h:FR K mg M H (((o:Lx V),s)::Z))(a:i<Z.length):FR K mg M H (Z.set i (o,s)) :=
 (h.sub ((eraseIdx_sublist Z i).cons_cons (o,s))).perm (zT _ _ _ a).symm
def Step.put(h:Step M H Z H' ((o,s)::Z'))(a:i<Z'.length):Step M H Z H' (Z'.set i (o,s)):=by
 refine h.weak λb q=>?_
 exact zE ((eraseIdx_sublist Z' i).cons_cons (o,s)) b (zD (zT _ _ _ a) b q)
end
inductive Out(α:Type) where
 |z
 |ok (a:α)
 |y (x:Exn) (E:za)
 deriving Inhabited
abbrev ME:=za->Out (R×za)
abbrev MA:=za->Out (Ls R×za)
abbrev MT:=za->Out (Bool×za)
def PKp(O:St)(E:za)(c:St)(E':za):Prop:=∀(i:Nat) e,E[i]?=some (.p e)->(∃a,E'[i]?=some (.p a))/\c[i]?=O[i]?
def PKp.refl{O:St}{E:za}:PKp O E O E:=λi a h=>⟨⟨a,h⟩,rfl⟩
theorem PKp.trans{O O1 e:St}{E E1 E2:za}(a:PKp O E O1 E1)(b:PKp O1 E1 e E2):PKp O E e E2:=λi j h=>by
 obtain⟨⟨c,l⟩,k⟩:=a i j h;obtain⟨h2,g⟩:=b i c l;exact⟨h2,g.trans k⟩
structure Got(K:qH)(mg:Str->Option Lv)(M:Ld)(O:St)(E:za)(H:Hp)(T0:Fz)(O':St)(E':za)(H':Hp)(T:Fz):Prop where
 len:E'.length=O'.length
 fr:FR K mg M H' (T++(T0++O'.zip E'))
 st:Step M H (T0++O.zip E) H' (T++(T0++O'.zip E'))
 pk:PKp O E O' E'
def zCO(vs:Ls V)(rs:Ls R):Fz:=(vs.zip rs).map λp=>(some p.1,p.2.slot)
def KM(X:Cx)(M:Ld)(O:St)(E:za)(H:Hp)(T0:Fz)(Q:VK):Out (R×za)->Prop
 | .z=>False| .ok (r,E')=>∀v H',Got X.K X.mg M O E H T0 O E' H' [(some v,r.slot)]->Q v H'| .y x E'=>∀H',Got X.K X.mg M O E H T0 O E' H' []->XE X O H' x
def KT(X:Cx)(M:Ld)(O:St)(E:za)(H:Hp)(T0:Fz)(Q:Bool->Hp->Prop):Out (Bool×za)->Prop
 | .z=>False| .ok (b,E')=>∀H',Got X.K X.mg M O E H T0 O E' H' []->Q b H'| .y x E'=>∀H',Got X.K X.mg M O E H T0 O E' H' []->XE X O H' x
def KA(X:Cx)(M:Ld)(O:St)(E:za)(H:Hp)(T0:Fz)(Q:Ls V->Hp->Prop):Out (Ls R×za)->Prop
 | .z=>False| .ok (rs,E')=>∀a H',a.length=rs.length->Got X.K X.mg M O E H T0 O E' H' (zCO a rs)->Q a H'| .y x E'=>∀H',Got X.K X.mg M O E H T0 O E' H' []->XE X O H' x
def tM(X:Cx)(m:ME):TE:=λO H Q=>∃M E,E.length=O.length/\FR X.K X.mg M H (O.zip E)/\KM X M O E H [] Q (m E)
def tMT(X:Cx)(m:MT):TT:=λO H Q=>∃M E,E.length=O.length/\FR X.K X.mg M H (O.zip E)/\KT X M O E H [] Q (m E)
def tMA(X:Cx)(m:MA):TA:=λO H Q=>∃M E,E.length=O.length/\FR X.K X.mg M H (O.zip E)/\KA X M O E H [] Q (m E)
abbrev EOk(X:Cx)(e:Lb)(m:ME):Prop:=PE X e (tM X m)
abbrev TOk(X:Cx)(e:Lb)(m:MT):Prop:=PT X e (tMT X m)
abbrev AOk(X:Cx)(es:Ls Lb)(m:MA):Prop:=PA X es (tMA X m)
def zb{X:Cx}{e:Lb}{t t':TE}(h:PE X e t)(i:∀O H Q,t' O H Q->t O H Q):PE X e t':=λa s O H Q I q=>h a s O H Q I (i O H Q q)
def vA{X:Cx}{e:Lb}{t t':TT}(h:PT X e t)(i:∀O H Q,t' O H Q->t O H Q):PT X e t':=λa s O H Q I q=>h a s O H Q I (i O H Q q)
def pw_imp{X:Cx}{e:Lb}{t t':TT}(h:PW X e t)(i:∀O H Q,t' O H Q->t O H Q):PW X e t':=λc a s O H Q I q=>h c a s O H Q I (i O H Q q)
def ud{X:Cx}{e:Ls Lb}{t t':TA}(h:PA X e t)(i:∀O H Q,t' O H Q->t O H Q):PA X e t':=λp a s O H Q I q=>h p a s O H Q I (i O H Q q)
def yt{X:Cx}{e:Lh}{t t':TS}(h:PS X e t)(i:∀D O H,t' D O H->t D O H):PS X e t':=λa s O H D I q=>h a s O H D I (i D O H q)
def zCP{X:Cx}{e:Ls Lh}{t t':TS}(h:PSs X e t)(i:∀D O H,t' D O H->t D O H):PSs X e t':=λa s O H D I q=>h a s O H D I (i D O H q)
section
variable{X:Cx}{K:qH}{mg:Str->Lx Lv}{M:Ld}{O O' O1 O2:St}{E E' E1 E2:za}{H H' H1 H2:Hp}{T0 T T1 T2:Fz}{Q:VK}
def swapP{α:Type}(A B C:Ls α):(A++(B++([]++C))).Perm (B++(A++C)):=by
 rw[nil_append,<- append_assoc,<- append_assoc];exact(perm_append_comm).append_right _
def ju{α:Type}{l:Ls α}{i:Nat}{x:α}(h:l[i]?=some x):l.set i x=l:=by
 obtain⟨a,rfl⟩:=qG.mp h;exact List.set_getElem_self a
theorem Got.outer(h:FR K mg M H (T0++O.zip E))(g:Got K mg (Mo M T0) O E H [] O' E' H' T):Got K mg M O E H T0 O' E' H' T where
 len:=g.len
 fr:=by
  have q:=FR.outer h g.fr g.st;exact q.perm (swapP _ _ _)
 st:=by
  have q:=Step.outer g.st;refine q.weak λb a=>?_
  exact zD (swapP _ _ _).symm b a
 pk:=g.pk
theorem Got.trans(a:Got K mg M O E H T0 O1 E1 H1 T1)(b:Got K mg M O1 E1 H1 (T1++T0) O2 E2 H2 T2):Got K mg M O E H T0 O2 E2 H2 (T2++T1) where
 len:=b.len
 fr:=by
  have q:=b.fr;rw[append_assoc]at q;rw[append_assoc];exact q
 st:=by
  have q:=b.st;rw[append_assoc,append_assoc]at q;rw[append_assoc];exact a.st.trans q
 pk:=a.pk.trans b.pk
def Got.dropAll(a:Got K mg M O E H T0 O1 E1 H1 T1):Got K mg M O E H T0 O1 E1 H1 [] where
 len:=a.len
 fr:=a.fr.sub (sublist_append_right _ _)
 st:=a.st.weak (zE (sublist_append_right _ _))
 pk:=a.pk
def Got.trans'(a:Got K mg M O E H [] O1 E1 H1 T1)(b:Got K mg M O1 E1 H1 T1 O2 E2 H2 T2):Got K mg M O E H [] O2 E2 H2 (T2++T1):=a.trans (by rw[append_nil];exact b)
theorem Got.refl(a:E.length=O.length)(h:FR K mg M H (T0++O.zip E)):Got K mg M O E H T0 O E H []:=⟨a,h,Step.refl,PKp.refl⟩
def Got.more(a:Got K mg M O E H [] O1 E1 H1 T1)(f:FR K mg M H2 (T++O1.zip E1))(s:Step M H1 (O1.zip E1) H2 (T++O1.zip E1)):Got K mg M O E H [] O1 E1 H2 T where
 len:=a.len
 fr:=f
 st:=(a.st.weak (zE (sublist_append_right _ _))).trans s
 pk:=a.pk
def Got.frame(a:Got K mg M O E H [] O1 E1 H1 T1):FR K mg M H1 (O1.zip E1):=a.fr.sub (sublist_append_right _ _)
def zBF(v:V)(r:R)(vs:Ls V)(rs:Ls R):zCO (v::vs) (r::rs)=(some v,r.slot)::zCO vs rs:=rfl
theorem zCQ:∀{c:Ls V} {a:Ls R} {Z:Fz},c.length=a.length->FR K mg M H (zCO c a++Z)->Reps K mg (Hm (Mo M Z) H) (a.map R.d) c
 | [],[],Z,_,h=>Reps.nil
 |v::c,r::a,Z,hl,h=>by
  rw[zBF,List.cons_append]at h;refine Reps.cons ?_ (zCQ (by exists hl) h.tail);obtain⟨i,e,q⟩:=h.frz.val (some v) r.d qE;cases e;refine q.mono (ji (Je λb g=>?_));rw[zZ,zc];exact qK _ g
def Got.reps{vs:Ls V}{rs:Ls R}(c:vs.length=rs.length)(a:Got K mg M O E H [] O1 E1 H1 (zCO vs rs)):Reps K mg (Hm (Mo M (O1.zip E1)) H1) (rs.map R.d) vs:=zCQ c a.fr
def Got.rep{v:V}{r:R}(a:Got K mg M O E H [] O1 E1 H1 [(some v,r.slot)]):Rep K mg (Hm (Mo M (O1.zip E1)) H1) r.d v:=by
 have q:=Got.reps (vs:=[v]) (rs:=[r]) rfl a;obtain⟨c,g,e,h,_⟩:=q;cases e;exact h
def ze{m:ME}(c:E.length=O.length)(h:FR X.K X.mg M H (T0++O.zip E))
  (k:KM X M O E H T0 Q (m E)):tM X m O H Q:=by
 refine⟨Mo M T0,E,c,h.inner,?_⟩;cases e:m E with
 |z=>rw[e]at k;exact k|ok a=>rw[e]at k;exact λv H' g=>k v H' (g.outer h)|y x E'=>rw[e]at k;exact λH' g=>k H' (g.outer h)
def Yw{m:MT}{Q:Bool->Hp->Prop}(c:E.length=O.length)(h:FR X.K X.mg M H (T0++O.zip E))
  (k:KT X M O E H T0 Q (m E)):tMT X m O H Q:=by
 refine⟨Mo M T0,E,c,h.inner,?_⟩;cases e:m E with
 |z=>rw[e]at k;exact k|ok a=>rw[e]at k;exact λH' g=>k H' (g.outer h)|y x E'=>rw[e]at k;exact λH' g=>k H' (g.outer h)
def Jr{m:MA}{Q:Ls V->Hp->Prop}(c:E.length=O.length)(h:FR X.K X.mg M H (T0++O.zip E))
  (k:KA X M O E H T0 Q (m E)):tMA X m O H Q:=by
 refine⟨Mo M T0,E,c,h.inner,?_⟩;cases e:m E with
 |z=>rw[e]at k;exact k|ok a=>rw[e]at k;exact λi H' hv g=>k i H' hv (g.outer h)|y x E'=>rw[e]at k;exact λH' g=>k H' (g.outer h)
def eC(d:D):ME:=λE=>.ok (.v d,E)
def flat:D->Bool
 | .non | .bl _ | .int _ | .str _=>true
 |_=>false
def flV:D->V
 | .bl b=>.bl b| .int i=>.int i| .str x=>.str x|_=>.non
def Q5{d:D}(h:flat d=true):Rep K mg H d (flV d):=by
 cases d<;>simp[flat]at h<;>simp[Rep,flV]
theorem Got.flat(a:Got K mg M O E H [] O1 E1 H1 T1){d:D}(h:flat d=true):Got K mg M O E H [] O1 E1 H1 [(some (flV d),.v d)] :=
 a.more (a.frame.add (Q5 h)) Step.refl.add
def ok_c{e:Lb}{d:D}(h:PE X e (tC (flV d)))(a:flat d=true:=by rfl):EOk X e (eC d):=zb h λO H Q ⟨M,E,hl,f,k⟩ =>
 k (flV d) H ((Got.refl (T0:=[]) hl f).flat a)
def ok_int{i j pos}:EOk X (.Constant (.int i) j pos) (eC (.int i)):=ok_c zBk
def ok_bl{b j pos}:EOk X (.Constant (.bool b) j pos) (eC (.bl b)):=ok_c pe_bl
def ok_non{j pos}:EOk X (.Constant .none j pos) (eC .non):=ok_c pe_non
def ok_str{x j pos}:EOk X (.Constant (.str x) j pos) (eC (.str x)):=ok_c zGc
def ok_fn{x:Str}{f:Lz}{pos:Pos}(e:Gl X x)(c:X.mg x=some (.ref f))(hd:(x==("__debug__":Str))=false:=by decide):EOk X (.Name x pos) (eC (.fn x)) :=
 zb (Gr (v:=.ref f) e c rfl hd) λO H Q ⟨M,E,hl,a,k⟩=>k _ H ((Got.refl (T0:=[]) hl a).more (T:=[(some (.ref f),.v (.fn x))]) (FR.add a (by dsimp[Rep];exact⟨f,rfl,c⟩)) Step.refl.add)
def zBG(i:Nat):ME:=λE=>match E[i]? with
 |some (.v d)=>.ok (.v d,E)|some (.w ds)=>.ok (.v (.l ds),E.set i (.v (.l ds)))|some (.m ks vs)=>.ok (.v (.m ks vs),E.set i (.v (.m ks vs)))|_=>.z
def j0{i:Nat}{s:Slot}(a:E.length=O.length)(h:E[i]?=some s):∃o,O[i]?=some o/\(O.zip E)[i]?=some (o,s):=by
 have c:i<E.length:=(qG.mp h).1;have:i<O.length:=a▸c;refine⟨O[i],by simp[this],?_⟩;rw[List.getElem?_zip_eq_some];exact⟨by simp[this],h⟩
def jk{i:Nat}{s:Slot}(a:E.length=O.length)(h:E[i]?=some s):∃o,O[i]?=some o/\(o,s)∈O.zip E:=by
 obtain⟨o,c,h2⟩:=j0 a h;exact⟨o,c,mem_of_getElem? h2⟩
def zd{i:Nat}{o:Lx V}(s:Slot)(h:O[i]?=some o):O.zip (E.set i s)=(O.zip E).set i (o,s):=by
 rw[<- vW];congr 1;have a:i<O.length:=(qG.mp h).1;apply List.ext_getElem?;intro j;by_cases e:i=j
 ·subst e;rw[getElem?_set_self a,h]
 ·rw[getElem?_set_ne e]
def ue{i:Nat}{s:Slot}{ds0:Ls D}(h:E[i]?=some s)(g:∀a,s≠.p a)(o:Slot):PKp O E O (E.set i o):=λj a e=>by
 have c:i≠j:=λq=>by subst q;rw[h]at e;exact g a (qJ e)
 exact⟨⟨a,by rw[getElem?_set_ne c];exact e⟩,rfl⟩
def ok_var(i:Nat){x:Str}{pos:Pos}(h:PE X (.Name x pos) (YC i)):EOk X (.Name x pos) (zBG i):=zb h λO H Q ⟨M,E,hl,f,k⟩=>by
 unfold zBG at k;cases e:E[i]? with
 |none=>rw[e]at k;exact k.elim
 |some G =>
 rw[e]at k;cases G with
 |e=>exact k.elim|p g=>exact k.elim
 |v d =>
  obtain⟨o,j,h2⟩:=jk hl e;obtain⟨v,rfl,r⟩:=f.val o d h2;exact⟨v,j,k v H ⟨hl,f.add r,Step.refl.add,PKp.refl⟩⟩
 |w g =>
  obtain⟨o,j,h2⟩:=j0 hl e;obtain⟨a,L,rfl,K,I,J⟩:=f.ownL o (.w g) g (mem_of_getElem? h2) rfl;refine⟨.ref a,j,k _ H ?_⟩;have c:i<(O.zip E).length:=(qG.mp h2).1;have p:(O.zip E).Perm ((some (.ref a),R.slot (.w g))::(O.zip E).eraseIdx i):=by
   have:=zT (some (V.ref a),Slot.w g) (O.zip E) i c;rw[ju h2]at this;exact this
  have u:=(f.perm p).frz;have B:FR X.K X.mg M H ((O.zip E).set i (some (.ref a),.v (.l g))):=u.perm (zT _ _ _ c).symm;rw[<- zd (.v (.l g)) j]at B;have r:=u.val _ _ qE;obtain⟨v,ev,y⟩:=r;cases ev;have D:Mo M ((some (V.ref a),Slot.v (R.w g).d)::(O.zip E).eraseIdx i)=Mo M (O.zip (E.set i (.v (.l g)))):=by
   rw[zd (.v (.l g)) j];exact(vV (zT _ _ _ c)).symm
  rw[D]at y;refine⟨by simp[hl],B.add y,?_,?_⟩
  ·refine Step.add ?_
   refine Step.weak Step.refl λb z=>?_
   refine zD p.symm b ?_;rw[nil_append,zd (.v (.l g)) j]at z;have t:=zD (zT _ _ _ c) b z;exact zE (sublist_cons_self _ _) b t
  ·exact ue (ds0:=[]) e (λC q=>by cases q) _
 |m n l =>
  obtain⟨o,j,h2⟩:=j0 hl e;obtain⟨a,ho,rfl,K,I,J⟩:=f.own o (.m n l) (.d n l) (mem_of_getElem? h2) rfl;refine⟨.ref a,j,k _ H ?_⟩;have c:i<(O.zip E).length:=(qG.mp h2).1;have p:(O.zip E).Perm ((some (.ref a),R.slot (.m n l))::(O.zip E).eraseIdx i):=by
   have:=zT (some (V.ref a),Slot.m n l) (O.zip E) i c;rw[ju h2]at this;exact this
  have u:=(f.perm p).frz;have B:FR X.K X.mg M H ((O.zip E).set i (some (.ref a),.v (.m n l))):=u.perm (zT _ _ _ c).symm;rw[<- zd (.v (.m n l)) j]at B;have r:=u.val _ _ qE;obtain⟨v,ev,y⟩:=r;cases ev;have D:Mo M ((some (V.ref a),Slot.v (R.m n l).d)::(O.zip E).eraseIdx i)=Mo M (O.zip (E.set i (.v (.m n l)))):=by
   rw[zd (.v (.m n l)) j];exact(vV (zT _ _ _ c)).symm
  rw[D]at y;refine⟨by simp[hl],B.add y,?_,?_⟩
  ·refine Step.add ?_
   refine Step.weak Step.refl λb z=>?_
   refine zD p.symm b ?_;rw[nil_append,zd (.v (.m n l)) j]at z;have t:=zD (zT _ _ _ c) b z;exact zE (sublist_cons_self _ _) b t
  ·exact ue (ds0:=[]) e (λC q=>by cases q) _
end
def zW:Lb->Bool
 | .Starred _ _=>true|_=>false
def yO:Ls Lb->Bool
 | []=>true|e::es=>!zW e&&yO es
def zM{e:Lb}{es:Ls Lb}{env:Env}(h:zW e=false):starEach (e::es) env=(false,eval e env)::starEach es env:=by
 cases e<;>first|rfl|(cases h)
def star2{a b:Lb}{env:Env}(c:zW a=false)(e:zW b=false):starEach [a,b] env=[(false,eval a env),(false,eval b env)]:=by
 rw[zM c,zM e];rfl
def zCR{a:Lb}{env:Env}(c:zW a=false):starEach [a] env=[(false,eval a env)]:=by
 rw[zM c];rfl
def jl:Lb->Bool
 | .Set _ _ _=>false|_=>true
def jT{e:Lb}{env:Env}(h:jl e=true):∀x,foldedSetIterable e env x=pure x:=by
 intro x;cases e<;>first|rfl|(cases h)
def Yx:Lb->Bool
 | .ListComp _ _ _ _=>false| .SetComp _ _ _ _=>false| .DictComp _ _ _ _ _=>false|_=>true
def vX{e:Lb}{t:Lx Lb}{l:Nat}{env:Env}(h:Yx e=true):swapsWith e t l env=pure false:=by
 cases e<;>first|rfl|(cases h)
def zGm:Lb->Bool
 | .UnaryOp .Not _ _=>false| .BoolOp _ _ _=>false| .IfExp _ _ _ _=>false| .Compare _ _ _ _=>false|_=>true
def test_of{e:Lb}{env:Env}(h:zGm e=true):∀a,isTrue e env a=(do let v <- a;standAt e.pos;holding [v] (truthy v)):=by
 intro x;cases e<;>first|rfl|(cases h)|skip;rename_i op _ _;cases op<;>first|rfl|(cases h)
def uf:Lb->Bool
 | .Slice _ _ _ _=>false|_=>true
def zCS:Lb->Bool
 | .Attribute _ _ _=>false|_=>true
def call_of{a:Lb}{args:Ls Lb}{pos:Pos}{env:Env}(h:zCS a=true):eval (.Call a args [] pos) env=(do callWith pos (<- eval a env) [] (backTo pos (starEach args env)) (backToKw pos (keywordEach [] env))):=by
 cases a<;>first|rfl|(cases h)
theorem ug{env:Env}:∀{a:Ls Lb},yO a=true->(starEach a env).any (·.1)=false
 | [],_=>rfl
 |e::a,h=>by
  dsimp[yO,Bool.and_eq_true,Bool.not_eq_true']at h;rw[zM h.1];simp[ug h.2]
def zEq(pos:Pos)(l:Ls (Bool×Sem Lv)):(backTo pos l).any (·.1)=l.any (·.1):=by
 unfold backTo;rw[List.any_map];rfl
def y4{env:Env}{es:Ls Lb}{pos:Pos}(h:yO es=true):(backTo pos (starEach es env)).any (·.1)=false:=by
 rw[zEq,ug h]
end DV
namespace L2
open PySem PySem.Spec PyProof.Rows
section
variable{X:Cx}
def zGn(K:qH):R2:=λx y H Q=>∃a b c e,x=.ref a/\y=.ref b/\SqT K H a c/\SqT K H b e/\c.length+e.length<=sizeLine /\
 (c=[]->Q (.ref b) H)/\(c≠[]->e=[]->Q (.ref a) H)/\(c≠[]->e≠[]->∀p,H p=none->Q (.ref p) (upd H p (.t (c++e))))
def zEr:OpR X (binaryOp .Add) (zGn X.K):=by
 intro c s O H x y v u Q I E M h;obtain⟨a,b,w,J,rfl,rfl,z,B,hz,q0,V,R⟩:=h;cases E;cases M;obtain⟨j,r1,Y,_⟩:=I.tuple z;obtain⟨e,r2,G,_⟩:=I.tuple B;by_cases i:w=[]
 ·have Z:j=[]:=r1.nil_iff.mpr i
  obtain⟨⟨S,D,r,C⟩,ho,L,n,W⟩:=id Y;obtain⟨⟨t,k,q,p⟩,g,l,K,o⟩:=id G;subst L W l o;exact concat_meets ⟨_,ho,rfl⟩ ⟨_,g,rfl⟩ noFill_tuple_add seq_tuple_add PySem.F.slot_tuple_add PySem.F.entry_tuple_add (PySem.F.args_tuple_add_2 _ _)
   (tuple_addW0 a b j.toArray e.toArray n K D k C p (by simp[Z])) ⟨ho,g,⟨.ref b,H,I,rfl,q0 i⟩⟩
 ·exact op_catT c s O H (.ref a) (.ref b) (.ref a) (.ref b) Q I rfl rfl ⟨a,b,w,J,rfl,rfl,z,B,i,hz,V i,R i⟩
def rCatL(K:qH):R2:=λx y H Q=>∃l b c a,x=.ref l/\y=.ref b/\SqL K H l c/\SqL K H b a/\c.length+a.length<=sizeLine/\∀p,H p=none->Q (.ref p) (upd H p (.l (c++a)))
def op_catL:OpR X (binaryOp .Add) (rCatL X.K):=by
 intro t s O H x y v u Q I J S h;obtain⟨l,b,xs,zs,rfl,rfl,L,hB,hz,q⟩:=h;cases J;cases S;obtain⟨c,r,W,_⟩:=I.list L;obtain⟨a,B,p,_⟩:=I.list hB;have hl:=r.length;have V:=B.length;obtain⟨⟨Y,G,w,D⟩,n,ho,M,R,Z⟩:=W;obtain⟨⟨z,g,o,k⟩,K,e,i,C,j⟩:=p;subst M Z i j;refine concat_meets ⟨_,ho,rfl⟩ ⟨_,e,rfl⟩ noFill_list_add seq_list_add PySem.F.slot_list_add PySem.F.entry_list_add (PySem.F.args_list_add_2 _ _) (list_addW l b c.toArray a.toArray n K G g D k (by rw[size_toArray,size_toArray];omega)) ⟨ho,e,?_⟩;have E:c.toArray++a.toArray=(c++a).toArray:=by simp
 rw[E];exact⟨.ref _,_,I.lnew (t':=s.toks) (r.append B) (by rw[length_append];omega),rfl,q _ I.fresh⟩
def Js{prog:Lc}{w:Le}{A:Lg}{E:Ly}{s:La}{t j:Lz}{a:Li}{q p:Lv}{c i:Lx Int}{Q:Ly}(g:IsTup s.heap t a)(o:s.heap.IsSliceOf j q p .none)(v:IsPart q c)(r:IsPart p i)
  (y:HT.sIx a.size 0 c=0) (x:HT.sIx a.size a.size i=a.size)
  (h:Q (.ref t) s):wpAny (model prog w) A (getItem (.ref t) (.ref j)) Q E s:=by
 obtain⟨u,k,n,z⟩:=id o;have l:s.TypeIs (.ref j) "slice":=⟨u,k,n⟩;unfold getItem
 try with_reducible refine wpAny_holding ?_
 first|refine qB (qC ?_)|skip
 refine qB (wpAny_sequenceKey g.typeIs (by decide) ?_);refine qB (wpAny_callSpecial?_slot (name:=Str.ofString "__getitem__") g.typeIs PyProof.Rows.slot_tuple_getitem
  (wpAny_call_entry PyProof.Rows.slot_tuple_getitem g.typeIs entry_tuple_getitem ?_ (args_tuple_getitem _ _)))
 show wpAny _ _ (Builtin.Tuple.tupleItemsOf (.ref t) >>= _) _ _ s
 refine qB (tupleItemsOf_ g ?_);refine qB (wpAny_typeOf l ?_);refine qB (HT.sliceApplied_gen o v r ?_);have e:(((HT.sIx a.size 0 c:Nat):Int)==0&&(1:Int)==1&&(HT.sIx a.size a.size i-HT.sIx a.size 0 c)==a.size)=true:=by
  rw[y,x];simp
 show wpAny _ _ (if(((HT.sIx a.size 0 c:Nat):Int)==0&&(1:Int)==1&&(HT.sIx a.size a.size i-HT.sIx a.size 0 c)==a.size)=true then _ else _) _ _ s
 rw[if_pos e];refine qB (qB (wpAny_typeOf g.typeIs (qC ?_)));exact qB (wpAny_rule (qC ⟨_,rfl,qC h⟩))
def rSlTT(K:qH):V->Lx Int->Lx Int->Hp->VK->Prop:=λx e g H Q=>∃a c,x=.ref a/\SqT K H a c /\
 ((HT.sIx c.length 0 e=0/\HT.sIx c.length c.length g=c.length)->Q (.ref a) H) /\
 (¬(HT.sIx c.length 0 e=0/\HT.sIx c.length c.length g=c.length)->∀p,H p=none->Q (.ref p) (upd H p (.t (zEe c e g))))
def sl_tupT:SlR X (rSlTT X.K):=by
 intro i s O H x v z y k t u Q I q n o l h;obtain⟨a,e,rfl,p,B,w⟩:=h;by_cases g:HT.sIx e.length 0 k=0/\HT.sIx e.length e.length t=e.length
 ·cases q
  obtain⟨j,r,ht,hz⟩:=I.tuple p;have c:j.toArray.size=e.length:=by rw[size_toArray];exact r.length.symm
  refine⟨"tuple",_,PyProof.Rows.slot_tuple_getitem.lookup,ht.typeIs,?_⟩;exact Js ht n o l (by rw[c];exact g.1) (by rw[c];exact g.2) ⟨.ref a,H,I,rfl,B g⟩
 ·exact sl_tup i s O H (.ref a) v z y k t u Q I q n o l ⟨a,e,rfl,p,g,w g⟩
theorem uh:∀bs:Ls Bool,(List.range bs.length).all (λi=>bs.getD i false)=bs.all id
 | []=>rfl
 |b::bs=>by
  rw[length_cons,List.range_succ_eq_map,all_cons,all_cons,List.all_map,<- uh bs];rfl
def zEs(K:X.calm=true):Jq X (.builtin "all") (λE H Q=>∃(p:Lz) (bs:Ls Bool),E=[.ref p]/\SqL X.K H p (bs.map V.bl)/\Q (.bl (bs.all id)) H):=by
 intro w s O H E Y Q I r h;obtain⟨p,bs,rfl,L,q⟩:=h;obtain⟨u,rfl,G⟩:=Gw r;cases G;obtain⟨a,y,l,hz⟩:=I.list L;have g:=y.length;refine call_all_walk (wpAny_pyIter_list l.isList ?_);have S:p<s.heap.objs.size:=by obtain⟨o,n,e,_⟩:=l;exact lt_size e
 have D:∀b o,s.heap.get? b=some o->(s.heap.push {cls:=.type "list_iterator",data:=.fields #[.ref p,.int 0 0]}).get? b=some o:=λb o e=>qA _ e
 have t:∀(i:Nat) (v:Lv),a.toArray[i]?=some v->v=Value.bool (bs.getD i false):=λi v hv=>by
  have j:a[i]?=some v:=by exists hv
  have R:i<a.length:=(qG.mp j).1;have k:i<(bs.map V.bl).length:=by rw[g];exact R
  obtain⟨u',C,z⟩:=y.get (i:=i) (x:=(bs.map V.bl)[i]) (by simp[k]);rw[j]at C;cases C;rw[length_map]at k;rw[List.getElem_map]at z;have:v=.bool (bs[i]):=z;rw[this];simp[k]
 refine⟨s.heap.objs.size,[s.heap.objs.size,p],[s.heap.objs.size],a.toArray.size,_,_,λi=>bs.getD i false,rfl,
  Walks.list (by show X.A.handled=none;exact I.ok.hd K) _ p (ne_of_lt S) a.toArray,⟨⟨_,get?_push_size _ rfl,rfl,rfl⟩,?_⟩,?_,?_⟩
 ·obtain⟨o,e,c⟩:=l.isList
  exact⟨o,D _ _ e,c⟩
 ·intro i v Z Q' E' hv M
  rw[t i v hv];exact wpAny_truthy_bool M
 ·intro W J kp
  have e:(List.range a.toArray.size).all (λi=>bs.getD i false)=bs.all id:=by
   rw[size_toArray,<- g,length_map,uh]
  rw[e];exact⟨.bl (bs.all id),H,I.kept (t':=J) λb o B=>kp b o (λm=>by
   have:b=s.heap.objs.size:=by exists m
   subst this;exact absurd (lt_size B) (lt_irrefl _)) (D b o B),rfl,q⟩
def Zh:fillsNumberSlot (.type "tuple") "mul"=pure false :=
 PySem.fillsNumberSlot_seq (id:="tuple.__mul__") (r:=some (.builtin "tuple.__rmul__")) F.slot_tuple_mul.lookup (by left) F.slot_tuple_rmul.lookup (by left)
def ui:seqRepeat? (.type "tuple")=pure (some (.builtin "tuple.__mul__")):=by
 unfold seqRepeat?;rfl
def Wr(a:Int)(t:Tok)(l:Lz)(c:Li)(n:Nat)(dd:Lx Lz)(i:Lk) :
  Meets (Builtin.«int.__rmul__» ⟨[.int a t,.ref l],[]⟩) (λ_ R s=>s.heap.get? l=some {cls:=.type "tuple",dict:=dd,data:=.seq c n,slots:=i}/\R (.ok (.ret Value.notImplemented)) s) :=
 .of_wp λe w A R s h=>by obtain⟨o,g,d,k,j⟩:=s;obtain⟨hl,h⟩:=h;wp_walk;exact⟨_,rfl,h⟩
def Ws{E:Ly}{Q:Ly}(h:IsTup s.heap l items)(u:-(2^63)<=k)(r:k<2^63)
  (n:(items.size:Int)*k<=sizeLine) (o:items.isEmpty=true\/k=1->Q (.ref l) s)
  (q:k<=0->Q (.ref s.heap.objs.size) {s with heap:=s.heap.push {cls:=.type "tuple",data:=.seq #[]}})
  (j:Q (.ref s.heap.objs.size) {s with heap:=s.heap.push {cls:=.type "tuple",data:=.seq ((replicate k.toNat items).foldl (·++·) #[])}})
  (g:sizeOk (.seq ((replicate k.toNat items).foldl (·++·) #[]))) :
  wpAny (model prog w) A (call (.builtin "tuple.__mul__") [.ref l,.int k t]) Q E s:=by
 refine wpAny_call_entry F.slot_tuple_mul h.typeIs F.entry_tuple_mul ?_ (F.args_tuple_mul_2 _ _);show wpAny _ _ (asIndex (.int k t) >>= _) _ _ s;refine qB (wpAny_of_eq (a:=k) rfl ?_);dsimp;rw[if_neg (by dsimp[Bool.or_eq_true,decide_eq_true_eq];omega)];refine qB (tupleItemsOf_ h ?_);by_cases e:(items.isEmpty||k==1)=true
 ·rw[if_pos e]
  unfold Builtin.Tuple.tupleIsExact;refine qB (qB (wpAny_typeOf h.typeIs (qC ?_)));rw[if_pos (by decide)];refine qB (wpAny_rule (qC ⟨_,rfl,o ?_⟩));rw[Bool.or_eq_true,beq_iff_eq]at e;exact e
 ·rw[if_neg e]
  by_cases c:(decide (k<=0)||items.isEmpty)=true
  ·rw[if_pos c]
   have p:k<=0:=by
    dsimp[Bool.or_eq_true,decide_eq_true_eq,beq_iff_eq,not_or]at e c;rcases c with c|c
    ·exact c
    ·exact absurd c e.1
   exact qB (m:=Builtin.Tuple.tupleExact _) (wpAny_newObj_type (qC ⟨_,rfl,q p⟩) (by show(#[]:Li).size<=sizeLine;simp))
  ·rw[if_neg c]
   have i:sizeLine=16777216:=sizeLine_eq;rw[if_neg (by rw[i]at n;omega),if_neg (by unfold Builtin.Tuple.tupleTooMany;dsimp[decide_eq_true_eq];omega)];exact qB (m:=Builtin.Tuple.tupleExact _) (wpAny_newObj_type (qC ⟨_,rfl,j⟩) g)
def rRepT(K:qH):R2:=λx y H Q=>∃l k a,x=.ref l/\y=.int k/\SqT K H l a/\-(2^63)<=k/\k<2^63/\a.length*k.toNat<=sizeLine /\
 (a=[]\/k=1->Q (.ref l) H)/\(∀p,H p=none->Q (.ref p) (upd H p (.t (replicate k.toNat a).flatten)))
def op_repT:OpR X (binaryOp .Mult) (rRepT X.K):=by
 intro p s O H x y v u Q I D R h;obtain⟨l,k,i,rfl,rfl,L,S,h2,hz,q0,q⟩:=h;cases D;obtain⟨t,rfl⟩:=R;obtain⟨a,r,pt,_⟩:=I.tuple L;have hl:=r.length;obtain⟨⟨V,C,w,B⟩,ho,M,n,Y⟩:=id pt;subst M Y;have c:foldl (λZ G=>Z++G) #[] (replicate k.toNat a.toArray)=(replicate k.toNat a).flatten.toArray:=by
  have:=Z8 a k.toNat [];exact this
 have g:(replicate k.toNat a).flatten.length<=sizeLine:=by rw[Gy,mul_comm,<- hl];exact hz
 have j:((a.toArray.size:Nat):Int)*k<=(sizeLine:Nat):=by
  rw[size_toArray,<- hl];by_cases K:0<=k
  ·obtain⟨m,rfl⟩:=Int.eq_ofNat_of_zero_le K
   have:i.length*m<=sizeLine:=by exists hz
   exact_mod_cast this
  ·have:(i.length:Int)*k<=0:=Int.mul_nonpos_of_nonneg_of_nonpos (Int.natCast_nonneg _) (by omega)
   omega
 refine wpAny_binaryOp_repeat_ref (T:="tuple") (U:="int") (by decide) ⟨_,ho,rfl⟩ (λW=>typeIs_int W k t) Zh F.fills_int_mul F.slot_int_rmul ui F.slot_int_index.lookup
  (call_meets F.slot_int_rmul (typeIs_int s k t) F.entry_int_rmul (F.args_int_rmul_2 _ _) (Wr k t l a.toArray n C B) ⟨ho,rfl,⟨_,ho,rfl⟩,?_⟩)
 refine Ws pt S h2 j (λe=>⟨.ref l,H,I,rfl,q0 ?_⟩) (λe=>?_) ?_ ?_
 ·rcases e with e|e
  ·apply Or.inl
   have:a=[]:=by exists e
   exact r.nil_iff.mp this
  ·right;exact e
 ·have J:k.toNat=0:=by omega
  have z:=q s.heap.objs.size I.fresh;rw[J]at z;exact⟨.ref s.heap.objs.size,_,I.laid (t':=s.toks) (o:=.t []) (λb E q=>qA _ q) (le_refl _) ⟨zero_le _,[],.nil,IsTup.new _ _⟩,rfl,z⟩
 ·rw[c]
  exact⟨.ref s.heap.objs.size,_,I.laid (t':=s.toks) (o:=.t (replicate k.toNat i).flatten) (λb E q=>qA _ q) (le_refl _) ⟨by rw[Gy,mul_comm];exact hz,_,r.rep k.toNat,IsTup.new _ _⟩,rfl,q _ I.fresh⟩
 ·rw[c]
  show(replicate k.toNat a).flatten.toArray.size<=sizeLine
  rw[size_toArray];exact g
end
end L2
namespace DV
open PySem L2
def cap:Nat:=1000000
def wk(h:n<=cap):n<=sizeLine:=le_trans h (by rw[sizeLine_eq];decide)
abbrev Kt(K:qH)(a:Str->Lx Lv)(M:Ld)(H:Hp)(Z:Fz)(res:R)(Q:VK):Prop :=
 ∀v H',FR K a M H' ((some v,res.slot)::Z)->Step M H Z H' ((some v,res.slot)::Z)->Q v H'
def ROk(K:qH)(c:Str->Lx Lv)(rel:R2)(f:D->D->Lx R):Prop :=
 ∀(M:Ld) (H:Hp) (Z:Fz) (x y:V) (g e:D) (a:R) (Q:VK),FR K c M H Z->Rep K c (Hm (Mo M Z) H) g x->Rep K c (Hm (Mo M Z) H) e y->f g e=some a->Kt K c M H Z a Q->rel x y H Q
def COk(K:qH)(c:Str->Lx Lv)(rel:Ls V->Hp->VK->Prop)(f:Ls D->Lx R):Prop :=
 ∀(M:Ld) (H:Hp) (Z:Fz) (e:Ls V) (g:Ls D) (a:R) (Q:VK),FR K c M H Z->Reps K c (Hm (Mo M Z) H) g e->f g=some a->Kt K c M H Z a Q->rel e H Q
section
variable{X:Cx}{K:qH}{mg:Str->Lx Lv}{M:Ld}{H H':Hp}{Z:Fz}{Q:VK}{O:St}
theorem Kt.flat(k:Kt K mg M H Z (.v d) Q)(f:FR K mg M H Z)(h:flat d=true):Q (flV d) H:=k _ _ (f.add (Q5 h)) Step.refl.add
def Kt.rep(k:Kt K mg M H Z (.v d) Q)(f:FR K mg M H Z)(h:Rep K mg (Hm (Mo M Z) H) d v):Q v H:=k _ _ (f.add h) Step.refl.add
theorem Kt.tup{ds:Ls D}{xs:Ls V}{p:Lz}(k:Kt K mg M H Z (.v (.t ds)) Q)(f:FR K mg M H Z)(a:H p=none)(h:Reps K mg (Hm (Mo M Z) H) ds xs):Q (.ref p) (upd H p (.t xs)):=k _ _ (f.newTup a h) (Step.newVal a)
theorem Kt.own(k:Kt K mg M H Z (.w ds) Q)(f:FR K mg M H Z)(a:H p=none)(h:Reps K mg (Hm (Mo M Z) H) ds xs):Q (.ref p) (upd H p (.l xs)):=k _ _ (f.newOwn a h) (Step.newOwn f a)
def YN(f:D->D->Lx R)(a b:ME):ME:=λE=>match a E with
 | .z=>.z| .y x E1=>.y x E1
 | .ok (c,E1)=>match b E1 with
  | .z=>.z| .y x E2=>.y x E2
  | .ok (e,E2)=>match f c.d e.d with
   |some r=>.ok (r,E2)|none=>.z
def vY{f:D->D->Lx R}(n:ROk X.K X.mg rel f)(h:tM X (YN f a b) O H Q):tOp rel (tM X a) (tM X b) O H Q:=by
 obtain⟨M,E,hl,w,k⟩:=h;unfold YN at k;refine ze (T0:=[]) hl w ?_;cases i:a E with
 |z=>rw[i]at k;exact k|y x E1=>rw[i]at k;exact λH' g=>k H' g
 |ok p =>
  obtain⟨c,E1⟩:=p;rw[i]at k;intro x H1 e;refine ze (T0:=[(some x,c.slot)]) e.len e.fr ?_;dsimp at k;cases l:b E1 with
  |z=>rw[l]at k;exact k|y x E2=>rw[l]at k;exact λH' g=>k H' (e.trans' g).dropAll
  |ok p =>
   obtain⟨j,E2⟩:=p;rw[l]at k;intro y H2 t;have g:=e.trans' t;have o:=Got.reps (vs:=[y,x]) (rs:=[j,c]) rfl g;obtain⟨J,_,B,G,K,_,q,u,_⟩:=o;cases B;cases q;dsimp at k;exists ef,f c.d j.d,k,r;exact n M H2 _ x y c.d j.d r Q g.frame u G ef λv H' I C=>k v H' (g.more (T:=[(some v,r.slot)]) I C)
def zBH{f:D->D->Lx R}(c:OpR X (binaryOp op) rel)(g:ROk X.K X.mg rel f)(e:EOk X a ma)(i:EOk X b mb):EOk X (.BinOp a op b pos) (YN f ma mb) :=
 zb (pe_op c e i) λO H Q h=>vY g h
def ZN{f:D->D->Lx R}(g:OpR X (compareOp op) rel)(c:ROk X.K X.mg rel f)(e:behindInMarks op b=false)(j:EOk X a ma)(i:EOk X b mb):EOk X (.Compare a [op] [b] pos) (YN f ma mb) :=
 zb (zBw g j i e) λO H Q h=>vY c h
def ok_ix{f:D->D->Lx R}(g:IxR X rel)(c:ROk X.K X.mg rel f)(e:Yt b)(j:EOk X a ma)(i:EOk X b mb):EOk X (.Subscript a b pos) (YN f ma mb) :=
 zb (pe_ix g j i e) λO H Q h=>vY c h
def tT(m:ME):MT:=λE=>match m E with
 | .z=>.z| .y x E1=>.y x E1| .ok (.v (.bl b),E1)=>.ok (b,E1)|_=>.z
def Q6{Q:Bool->Hp->Prop}(h:tMT X (tT m) O H Q):tM X m O H λx H'=>∃k,x=.bl k/\Q k H':=by
 obtain⟨M,E,hl,a,k⟩:=h;refine⟨M,E,hl,a,?_⟩;unfold tT at k;exists e,m E,k,r,E1;cases r with
 |w i=>exact k.elim|m _ _=>exact k.elim
 |v d =>
  cases d with
  |bl b =>
   intro v H' g;have c:=g.rep;exact⟨b,c,k H' g.dropAll⟩
  |_=>exact k.elim
def ok_test(h:EOk X e m)(c:∀a,isTrue e X.env a=(do let v <- a;standAt e.pos;holding [v] (truthy v)):=by intro _;rfl):TOk X e (tT m) :=
 vA (pt_val h c) λO H Q q=>Q6 q
def wv{f:D->D->Lx R}(g:OpR X (compareOp op) rel)(c:ROk X.K X.mg rel f)(e:behindInMarks op b=false)(j:EOk X a ma)(i:EOk X b mb):TOk X (.Compare a [op] [b] pos) (tT (YN f ma mb)) :=
 vA (zBx g j i e) λO H Q h=>vY c (Q6 h)
def G6(a b:MT):MT:=λE=>match a E with
 | .ok (true,E1)=>b E1|o=>o
def Q7(a b:MT):MT:=λE=>match a E with
 | .ok (false,E1)=>b E1|o=>o
def Yy(a:MT):MT:=λE=>match a E with
 | .z=>.z| .y x E1=>.y x E1| .ok (b,E1)=>.ok (!b,E1)
def or_run{Q:Bool->Hp->Prop}(h:tMT X (Q7 a b) O H Q):tOr (tMT X a) (tMT X b) O H Q:=by
 obtain⟨M,E,hl,j,k⟩:=h;unfold Q7 at k;refine Yw (T0:=[]) hl j ?_;exists ea,a E,k,c,E1;intro H1 e;cases c with
 |true=>exact iteT (k H1 e)
 |false =>
  refine iteF ?_;refine Yw (T0:=[]) e.len e.fr ?_;dsimp at k;cases i:b E1 with
  |z=>rw[i]at k;exact k|y x E2=>rw[i]at k;exact λH' g=>k H' (e.trans' g)|ok p=>rw[i]at k;exact λH' g=>k H' (e.trans' g)
def not_run{Q:Bool->Hp->Prop}(h:tMT X (Yy a) O H Q):tNot (tMT X a) O H Q:=by
 obtain⟨M,E,hl,e,k⟩:=h;unfold Yy at k;refine Yw (T0:=[]) hl e ?_;cases c:a E with
 |z=>rw[c]at k;exact k|y x E1=>rw[c]at k;exact k|ok p=>rw[c]at k;exact k
abbrev WOk(X:Cx)(e:Lb)(m:MT):Prop:=PW X e (tMT X m)
def wk_or1(h:TOk X a m):WOk X (.BoolOp .Or [a] pos) m:=pw_or1 h
def wk_or{a b:Lb}{c:Ls Lb}{ma e:MT}{pos:Pos}(g:TOk X a ma)(h:WOk X (.BoolOp .Or (b::c) pos) e):WOk X (.BoolOp .Or (a::b::c) pos) (Q7 ma e):=pw_imp (pw_or g h) λO H Q=>or_run
def tk_w(h:WOk X e m):TOk X e m:=h.pt
def tk_not(h:TOk X a m):TOk X (.UnaryOp .Not a pos) (Yy m):=vA (pt_not h) λO H Q=>not_run
def zCT(a:ME):ME:=λE=>match a E with
 | .ok (.v (.bl b),E1)=>.ok (.v (.bl (!b)),E1)| .y x E1=>.y x E1|_=>.z
def Q8(a b:ME):ME:=λE=>match a E with
 | .ok (.v (.bl true),E1)=>b E1| .ok (.v (.bl false),E1)=>.ok (.v (.bl false),E1)| .y x E1=>.y x E1|_=>.z
def eOr(a b:ME):ME:=λE=>match a E with
 | .ok (.v (.bl false),E1)=>b E1| .ok (.v (.bl true),E1)=>.ok (.v (.bl true),E1)| .y x E1=>.y x E1|_=>.z
def zEt(h:tM X (zCT a) O H Q):tNotV (tM X a) O H Q:=by
 obtain⟨M,E,hl,c,k⟩:=h;unfold zCT at k;refine ze (T0:=[]) hl c ?_;exists ea,a E,k,r,E1;cases r with
 |w i=>exact k.elim|m _ _=>exact k.elim
 |v d =>
  cases d with
  |bl b =>
   intro v H' g;have e:=g.rep;exact⟨b,e,k _ H' (g.flat (d:=.bl (!b)) rfl)⟩
  |_=>exact k.elim
def zEu(h:tM X (Q8 a b) O H Q):tAndV (tM X a) (tM X b) O H Q:=by
 obtain⟨M,E,hl,n,k⟩:=h;unfold Q8 at k;refine ze (T0:=[]) hl n ?_;exists ea,a E,k,r,E1;cases r with
 |w o=>exact k.elim|m _ _=>exact k.elim
 |v d =>
  cases d with
  |bl c =>
   intro v H' g;have l:=g.rep;refine⟨c,l,?_⟩;cases c with
   |false=>exact iteF (k _ H' (g.flat (d:=.bl false) rfl))
   |true =>
    refine iteT (ze (T0:=[]) g.len g.frame ?_);dsimp at k;cases i:b E1 with
    |z=>rw[i]at k;exact k|y x E2=>rw[i]at k;exact λH'' j=>k H'' (g.dropAll.trans' j)|ok p=>rw[i]at k;exact λe H'' j=>k e H'' (g.dropAll.trans' j)
  |_=>exact k.elim
def ok_not(h:EOk X a m):EOk X (.UnaryOp .Not a pos) (zCT m):=zb (pe_not h) λO H Q=>zEt
def zGo{a b:Lb}{c:Ls Lb}{ma e:ME}{pos:Pos}(g:EOk X a ma)(h:EOk X (.BoolOp .And (b::c) pos) e):EOk X (.BoolOp .And (a::b::c) pos) (Q8 ma e):=zb (pe_and g h) λO H Q=>zEu
def ok_one(h:EOk X a m):EOk X (.BoolOp op [a] pos) m:=pe_one h
def eIf(c:MT)(a b:ME):ME:=λE=>match c E with
 | .ok (true,E1)=>a E1| .ok (false,E1)=>b E1| .y x E1=>.y x E1| .z=>.z
def if_run(h:tM X (eIf c a b) O H Q):tIf (tMT X c) (tM X a) (tM X b) O H Q:=by
 obtain⟨M,E,hl,j,k⟩:=h;unfold eIf at k;refine Yw (T0:=[]) hl j ?_;exists ea,c E,k,t,E1;intro H1 e;cases t with
 |true =>
  refine iteT (ze (T0:=[]) e.len e.fr ?_);dsimp at k;cases i:a E1 with
  |z=>rw[i]at k;exact k|y x E2=>rw[i]at k;exact λH' g=>k H' (e.trans' g)|ok p=>rw[i]at k;exact λv H' g=>k v H' (e.trans' g)
 |false =>
  refine iteF (ze (T0:=[]) e.len e.fr ?_);dsimp at k;cases i:b E1 with
  |z=>rw[i]at k;exact k|y x E2=>rw[i]at k;exact λH' g=>k H' (e.trans' g)|ok p=>rw[i]at k;exact λv H' g=>k v H' (e.trans' g)
def ok_if(h:TOk X c mc)(e:EOk X a ma)(g:EOk X b mb):EOk X (.IfExp c a b pos) (eIf mc ma mb):=zb (zET h e g) λO H Q=>if_run
def zCU:MA:=λE=>.ok ([],E)
def Yz(a:ME)(m:MA):MA:=λE=>match a E with
 | .z=>.z| .y x E1=>.y x E1
 | .ok (r,E1)=>match m E1 with
  | .z=>.z| .y x E2=>.y x E2| .ok (rs,E2)=>.ok (r::rs,E2)
def ak_nil:AOk X [] zCU:=ud YI λO H Q ⟨M,E,hl,a,k⟩=>k [] H rfl (Got.refl (T0:=[]) hl a)
theorem Got.perm{c:Str->Lx Lv}{M:Ld}(a:Got K c M O E H T0 O1 E1 H1 T)(p:T.Perm T'):Got K c M O E H T0 O1 E1 H1 T' where
 len:=a.len
 fr:=a.fr.perm (p.append_right _)
 st:=a.st.weak (zD (p.append_right _).symm)
 pk:=a.pk
def zEv{Q:Ls V->Hp->Prop}(h:tMA X (Yz a m) O H Q):zA9 (tM X a) (tMA X m) O H Q:=by
 obtain⟨M,E,hl,l,k⟩:=h;unfold Yz at k;refine ze (T0:=[]) hl l ?_;exists ea,a E,k,r1,E1;intro x H1 c;refine Jr (T0:=[(some x,r1.slot)]) c.len c.fr ?_;dsimp at k;cases e:m E1 with
 |z=>rw[e]at k;exact k|y x E2=>rw[e]at k;exact λH' g=>k H' (c.trans' g).dropAll
 |ok p =>
  rw[e]at k;intro i H2 hv j;refine k (x::i) H2 (by simp[hv]) ?_;exact(c.trans' j).perm (perm_append_comm)
def ak_cons(c:EOk X e a)(g:AOk X es m)(h:zW e=false:=by rfl):AOk X (e::es) (Yz a m):=ud (jL c g (zM h)) λO H Q=>zEv
def eCB(f:Ls D->Lx R)(m:MA):ME:=λE=>match m E with
 | .z=>.z| .y x E1=>.y x E1
 | .ok (a,E1)=>match f (a.map R.d)with
  |some r=>.ok (r,E1)|none=>.z
def uj{rel:Ls V->Hp->VK->Prop}{f:Ls D->Lx R}(e:COk X.K X.mg rel f)(h:tM X (eCB f m) O H Q):tCB rel (tMA X m) O H Q:=by
 obtain⟨M,E,hl,j,k⟩:=h;unfold eCB at k;refine Jr (T0:=[]) hl j ?_;exists ea,m E,k,rs,E1;intro i H1 hv g;have c:=Got.reps hv g;dsimp at k;cases a:f (rs.map R.d)with
 |none=>rw[a]at k;exact k.elim
 |some r =>
  rw[a]at k;exact e M H1 _ i _ r Q g.frame c a λv H' l n=>k v H' (g.more (T:=[(some v,r.slot)]) l n)
def zCV(m:MA):ME:=eCB (λa=>if a.length<=cap then some (.v (.t a))else none) m
def zCW(m:MA):ME:=eCB (λa=>if a.length<=cap then some (.w a)else none) m
def ok_tup(h:AOk X es m):EOk X (.Tuple es x1 pos) (zCV m) :=
 zb (pe_tup h) λO H Q q=>uj (rel:=λa H1 Q=>a.length<=sizeLine/\∀p,H1 p=none->Q (.ref p) (upd H1 p (.t a))) (λM H Z a j c Q f r e k=>by
  split at e
  ·rename_i i
   cases e;exact⟨by rw[r.length];exact wk i,λp g=>k.tup f g r⟩
  ·cases e) q
def ok_lst(h:AOk X es m):EOk X (.List es pos) (zCW m) :=
 zb (pe_lst h) λO H Q q=>uj (rel:=λa H1 Q=>a.length<=sizeLine/\∀p,H1 p=none->Q (.ref p) (upd H1 p (.l a))) (λM H Z a j c Q f r e k=>by
  split at e
  ·rename_i i
   cases e;exact⟨by rw[r.length];exact wk i,λp g=>k.own f g r⟩
  ·cases e) q
def YO{f:Ls D->Lx R}{m:MA}{rel:Ls V->Hp->VK->Prop}{id:String}{x:Str}{p pos:Pos}{e:Lb}{es:Ls Lb}(j:Jq X (.builtin id) rel)(g:COk X.K X.mg rel f)(l:Gl X x)(h:X.mg x=none)(k:bootBuiltins x=some (.builtin id))(n:AOk X (e::es) m)(hn:x≠"__name__":=by decide)(c:(x==("__debug__":Str))=false:=by decide)
  (i:zW e=false:=by rfl) (a:yO es=true:=by rfl):EOk X (.Call (.Name x p) (e::es) [] pos) (eCB f m) :=
 zb (YJ j l h k n hn c (zM i) (y4 a)) λO H Q q=>uj g q
def YQ{f:Ls D->Lx R}{rel:Ls V->Hp->VK->Prop}(j:Jq X (.type T) rel)(g:COk X.K X.mg rel f)(l:Gl X x)(h:X.mg x=none)(k:bootBuiltins x=some (.type T))(n:AOk X (e::es) m)(hn:x≠"__name__":=by decide)(c:(x==("__debug__":Str))=false:=by decide)
  (i:zW e=false:=by rfl) (a:yO es=true:=by rfl):EOk X (.Call (.Name x p) (e::es) [] pos) (eCB f m) :=
 zb (zB3 j l h k n hn c (zM i) (y4 a)) λO H Q q=>uj g q
end
section
variable{X:Cx}{K:qH}{mg:Str->Lx Lv}
def zS(h:Rep K mg H (.int i) v):v=.int i:=by simpa only[Rep]using h
def Jf(h:Rep K mg H (.bl i) v):v=.bl i:=by simpa only[Rep]using h
def Y0(h:Rep K mg H (.str i) v):v=.str i:=by simpa only[Rep]using h
def G7(h:Rep K mg H .non v):v=.non:=by simpa only[Rep]using h
def yS(h:Rep K mg H (.t ds) v):∃a xs,v=.ref a/\SqT K H a xs/\Reps K mg H ds xs:=by simpa only[Rep]using h
def zu(h:Rep K mg H (.l ds) v):∃a xs,v=.ref a/\SqL K H a xs/\Reps K mg H ds xs:=by simpa only[Rep]using h
def G8(a:flat d=true)(h:Rep K mg H d v):v=flV d:=by
 cases d<;>simp[flat]at a<;>simpa only[Rep,flV]using h
def Jt:D->D->Lx R
 | .int i,.int j=>some (.v (.int (i+j)))| .t a,.t b=>if a.length+b.length<=cap then some (.v (.t (a++b)))else none| .l a,.l b=>if a.length+b.length<=cap then some (.w (a++b))else none|_,_=>none
def rAddD(K:qH):R2:=λx y H Q=>rI0 (λi j=>.int (i+j)) x y H Q\/(zGn K x y H Q\/rCatL K x y H Q)
def op_addD:OpR X (binaryOp .Add) (rAddD X.K):=op_add.or (zEr.or op_catL)
def ro_add:ROk K mg (rAddD K) Jt:=by
 intro M H Z x y D o C Q f h c e k;cases D with
 |int i =>
  cases o with
  |int j =>
   cases e;exact .inl ⟨i,j,zS h,zS c,k.flat f rfl⟩
  |_=>cases e
 |t a =>
  cases o with
  |t b =>
   dsimp[Jt]at e;split at e
   ·rename_i B
    cases e;obtain⟨p,v,rfl,w,h2⟩:=yS h;obtain⟨q,u,rfl,r,h4⟩:=yS c;have n:=h2.length;have g:=h4.length;refine .inr (.inl ⟨p,q,v,u,rfl,rfl,zI zF w,zI zF r,by rw[n,g];exact wk B,λe=>?_,λ_ e=>?_,λ_ _ E z=>k.tup f z (h2.append h4)⟩)
    ·subst e
     have:a=[]:=by exists n.symm
     subst this;exact k.rep f (by exists c)
    ·subst e
     have:b=[]:=by exists g.symm
     subst this;exact k.rep f (by exists h)
   ·cases e
  |_=>cases e
 |l a =>
  cases o with
  |l b =>
   dsimp[Jt]at e;split at e
   ·rename_i B
    cases e;obtain⟨p,v,rfl,w,h2⟩:=zu h;obtain⟨q,u,rfl,r,h4⟩:=zu c;have n:=h2.length;have g:=h4.length;exact .inr (.inr ⟨p,q,v,u,rfl,rfl,zF.seq w,zF.seq r,by rw[n,g];exact wk B,λE z=>k.own f z (h2.append h4)⟩)
   ·cases e
  |_=>cases e
 |_=>cases e
def zCX(C:Lj)(g:Int->Int->D):D->D->Lx R
 | .int i,.int j=>if C i j=true then some (.v (g i j))else none|_,_=>none
def zCY{C:Lj}{P:Int->Int->Prop}{g:Int->Int->D}{a:Int->Int->V}(r:∀i j,C i j=true->P i j)(c:∀i j,flat (g i j)=true/\flV (g i j)=a i j):ROk K mg (rI P a) (zCX C g):=by
 intro M H Z x y o h l Q f p n e k;cases o with
 |int i =>
  cases h with
  |int j =>
   dsimp[zCX]at e;split at e
   ·rename_i q
    cases e;refine⟨i,j,zS p,zS n,r i j q,?_⟩;have:=k.flat f (c i j).1;rw[(c i j).2]at this;exact this
   ·cases e
  |_=>cases e
 |_=>cases e
def zGp(g:Int->Int->D):D->D->Lx R
 | .int i,.int j=>some (.v (g i j))|_,_=>none
def WD{g:Int->Int->D}{a:Int->Int->V}(c:∀i j,flat (g i j)=true/\flV (g i j)=a i j):ROk K mg (rI0 a) (zGp g):=by
 intro M H Z x y o h l Q f p n e k;cases o with
 |int i =>
  cases h with
  |int j =>
   cases e;refine⟨i,j,zS p,zS n,?_⟩;have:=k.flat f (c i j).1;rw[(c i j).2]at this;exact this
  |_=>cases e
 |_=>cases e
abbrev subD:=zGp λi j=>.int (i-j)
def ro_sub:ROk K mg (rI0 λi j=>.int (i-j)) subD:=WD λ_ _=>⟨rfl,rfl⟩
def Big:Nat:=2^4000
def zCZ(h:n<Big):n.log2<4000:=by
 by_cases a:n=0
 ·subst a;left
 ·exact(log2_lt a).mpr h
def Q9(h:i.natAbs<Big):Builtin.Int.intBits i<=4000:=by
 unfold Builtin.Int.intBits;split
 ·exact zero_le _
 ·exact zCZ h
def zCa(c:i.natAbs<Big)(a:j.natAbs<Big):IntMulOk i j:=by
 have g:=Q9 c;have e:=Q9 a;unfold IntMulOk;have:Builtin.Int.intTooBig (((Builtin.Int.intBits i:Nat):Int)+(Builtin.Int.intBits j:Nat))=false:=by
  unfold Builtin.Int.intTooBig bitsLine;dsimp[decide_eq_false_iff_not];omega
 rw[this,Bool.and_false];decide
def CDivB(i j:Int):Prop:=0<j/\(j<1073741824\/j.natAbs<Big)
def zEw:OpR X (binaryOp .FloorDiv) (rI CDivB λi j=>.int (i/j)):=opI λi j _ _ _ _ _ a q=>by
 have c:(0:Int)<j:=a.1;refine PyProof.Rows.floordiv_int (by omega) (by rw[Int.fdiv_eq_ediv_of_nonneg i (by omega)];exact q) (.inl ?_);rcases a.2 with h|h
 ·exact PyProof.noPylong_small (by omega)
 ·exact PyProof.noPylong_of_log2 (lt_of_lt_of_le (zCZ h) (by decide))
def CMulB(i j:Int):Prop:=CMul i j\/(i.natAbs<Big/\j.natAbs<Big)
def op_mulB:OpR X (binaryOp .Mult) (rI CMulB λi j=>.int (i*j)):=opI λ_ _ _ _ _ _ _ a q=>PyProof.Rows.mul_int q (by
 rcases a with h|h
 ·exact h.ok
 ·exact zCa h.1 h.2)
abbrev zEx:=zCX (λ_ j=>decide (0<j/\(j<1073741824\/j.natAbs<Big))) λi j=>.int (i/j)
def ro_fdiv:ROk K mg (rI CDivB λi j=>.int (i/j)) zEx:=zCY (λi j h=>(of_decide_eq_true h:0<j/\(j<1073741824\/j.natAbs<Big))) λ_ _=>⟨rfl,rfl⟩
abbrev zGq:=zCX (λ_ j=>decide (0<j)) λi j=>.int (i%j)
def ro_mod:ROk K mg (rI (λ_ j=>0<j) λi j=>.int (i%j)) zGq:=zCY (λi j h=>of_decide_eq_true h) λ_ _=>⟨rfl,rfl⟩
abbrev powD:=zCX (λi j=>decide (0<=j/\j<=1000000/\i.natAbs<2^64)) λi j=>.int (i^j.toNat)
def ro_pow:ROk K mg (rI CPow λi j=>.int (i^j.toNat)) powD:=zCY (λi j h=>(of_decide_eq_true h:0<=j/\j<=1000000/\i.natAbs<2^64)) λ_ _=>⟨rfl,rfl⟩
def uI:D->D->Lx R
 | .int i,.int j=>if((-(2^64)<i/\i<2^64)\/(-(2^64)<j/\j<2^64))\/(i.natAbs<Big/\j.natAbs<Big)then some (.v (.int (i*j)))else none| .t a,.int k=>if -(2^63)<=k/\k<2^63/\a.length*k.toNat<=cap then some (.v (.t (replicate k.toNat a).flatten))else none|_,_=>none
def rMulD(K:qH):R2:=λx y H Q=>rI CMulB (λi j=>.int (i*j)) x y H Q\/rRepT K x y H Q
def op_mulD:OpR X (binaryOp .Mult) (rMulD X.K):=op_mulB.or op_repT
def ro_mul:ROk K mg (rMulD K) uI:=by
 intro M H Z x y r h q Q f g l e k;cases r with
 |int i =>
  cases h with
  |int j =>
   dsimp[uI]at e;split at e
   ·rename_i c
    cases e;exact .inl ⟨i,j,zS g,zS l,c,k.flat f rfl⟩
   ·cases e
  |_=>cases e
 |t a =>
  cases h with
  |int n =>
   dsimp[uI]at e;split at e
   ·rename_i c
    cases e;obtain⟨p,u,rfl,v,h2⟩:=yS g;have o:=h2.length;refine .inr ⟨p,n,u,rfl,zS l,zI zF v,c.1,c.2.1,by rw[o];exact wk c.2.2,λe=>?_,λz w=>k.tup f w (h2.flatten _)⟩;refine k.rep f ?_;rcases e with e|e
    ·subst e
     have:a=[]:=by exists o.symm
     subst this;exists g
    ·subst e
     exists g
   ·cases e
  |_=>cases e
 |_=>cases e
abbrev ltD:=zGp λi j=>.bl (decide (i<j))
def ro_lt:ROk K mg (rI0 λi j=>.bl (decide (i<j))) ltD:=WD λ_ _=>⟨rfl,rfl⟩
abbrev leD:=zGp λi j=>.bl (decide (i<=j))
def ro_le:ROk K mg (rI0 λi j=>.bl (decide (i<=j))) leD:=WD λ_ _=>⟨rfl,rfl⟩
abbrev gtD:=zGp λi j=>.bl (decide (j<i))
def ro_gt:ROk K mg (rI0 λi j=>.bl (decide (j<i))) gtD:=WD λ_ _=>⟨rfl,rfl⟩
abbrev geD:=zGp λi j=>.bl (decide (j<=i))
def ro_ge:ROk K mg (rI0 λi j=>.bl (decide (j<=i))) geD:=WD λ_ _=>⟨rfl,rfl⟩
def eqF:D->D->Lx R
 | .int i,.int j=>some (.v (.bl (decide (i=j))))| .bl i,.bl j=>some (.v (.bl (decide (i=j))))| .str i,.str j=>some (.v (.bl (decide (i=j))))|_,_=>none
def neF:D->D->Lx R
 | .int i,.int j=>some (.v (.bl (!decide (i=j))))| .bl i,.bl j=>some (.v (.bl (!decide (i=j))))| .str i,.str j=>some (.v (.bl (!decide (i=j))))|_,_=>none
def vint:decide (V.int i=V.int j)=decide (i=j):=by simp
def vbl:decide (V.bl i=V.bl j)=decide (i=j):=by simp
def vstr:decide (V.str i=V.str j)=decide (i=j):=by simp
def ro_eq:ROk K mg rEq eqF:=by
 intro M H Z x y i g h Q f c a e k;cases i<;>cases g<;>cases e
 ·rw[Jf c,Jf a];refine⟨rfl,?_⟩;rw[vbl];exact k.flat f rfl
 ·rw[zS c,zS a];refine⟨rfl,?_⟩;rw[vint];exact k.flat f rfl
 ·rw[Y0 c,Y0 a];refine⟨rfl,?_⟩;rw[vstr];exact k.flat f rfl
def ro_ne:ROk K mg rNe neF:=by
 intro M H Z x y i g h Q f c a e k;cases i<;>cases g<;>cases e
 ·rw[Jf c,Jf a];refine⟨rfl,?_⟩;rw[vbl];exact k.flat f rfl
 ·rw[zS c,zS a];refine⟨rfl,?_⟩;rw[vint];exact k.flat f rfl
 ·rw[Y0 c,Y0 a];refine⟨rfl,?_⟩;rw[vstr];exact k.flat f rfl
def inF(neg:Bool)(d:D):D->Lx R
 | .t a=>if flat d=true/\a.all flat=true then some (.v (.bl (if neg then !inV (flV d) (a.map flV)else inV (flV d) (a.map flV))))else none| .l a=>if flat d=true/\a.all flat=true then some (.v (.bl (if neg then !inV (flV d) (a.map flV)else inV (flV d) (a.map flV))))else none|_=>none
theorem WE:∀{a:Ls D} {c:Ls V},a.all flat=true->Reps K mg H a c->c=a.map flV
 | [],_,_,h=>by dsimp[Reps]at h;subst h;rfl
 |d::a,_,hf,h=>by
  obtain⟨v,r,rfl,e,h2⟩:=h;dsimp[all_cons,Bool.and_eq_true]at hf;rw[G8 hf.1 e,WE hf.2 h2];rfl
def WF(h:flat d=true):Wq (flV d)=true:=by cases d<;>simp[flat]at h<;>rfl
theorem WG:∀{a:Ls D},a.all flat=true->(a.map flV).all Wq=true
 | [],_=>rfl
 |d::a,h=>by
  dsimp[all_cons,Bool.and_eq_true]at h;dsimp[map_cons,all_cons,Bool.and_eq_true];exact⟨WF h.1,WG h.2⟩
def ro_in:ROk K mg (rIn K neg) (inF neg):=by
 intro M H Z x y q i j Q f h g e k;cases i with
 |t n =>
  dsimp[inF]at e;split at e
  ·rename_i a
   cases e;obtain⟨p,o,rfl,c,h2⟩:=yS g;rw[G8 a.1 h];have:=WE a.2 h2;subst this;exact⟨p,_,rfl,.inr (zI zF c),WF a.1,WG a.2,k.flat f rfl⟩
  ·cases e
 |l n =>
  dsimp[inF]at e;split at e
  ·rename_i a
   cases e;obtain⟨p,o,rfl,c,h2⟩:=zu g;rw[G8 a.1 h];have:=WE a.2 h2;subst this;exact⟨p,_,rfl,.inl (zF.seq c),WF a.1,WG a.2,k.flat f rfl⟩
  ·cases e
 |_=>cases e
def ixD:D->D->Lx R
 | .t a,.int i=>(atI a i).map .v| .l a,.int i=>(atI a i).map .v|_,_=>none
def Zn(h:Reps K mg H ds xs)(e:atI ds i=some d):∃v,atI xs i=some v/\Rep K mg H d v:=by
 unfold atI at e ⊢;have hl:=h.length;rw[hl];exists hj,ixN ds.length i,e,j;exact h.get' e
def ro_ix:ROk K mg (λx y H Q=>rIxL K x y H Q\/rIxT K x y H Q) ixD:=by
 intro M H Z x y u n r Q f q o e k;cases u with
 |t c =>
  cases n with
  |int i =>
   dsimp[ixD]at e;exists ea,atI c i,e,d;cases e;obtain⟨p,g,rfl,j,h2⟩:=yS q;obtain⟨v,h,a⟩:=Zn h2 ea;exact .inr ⟨p,g,i,v,rfl,zS o,zI zF j,h,k.rep f a⟩
  |_=>cases e
 |l c =>
  cases n with
  |int i =>
   dsimp[ixD]at e;exists ea,atI c i,e,d;cases e;obtain⟨p,g,rfl,j,h2⟩:=zu q;obtain⟨v,h,a⟩:=Zn h2 ea;exact .inl ⟨p,g,i,v,rfl,zS o,zF.seq j,h,k.rep f a⟩
  |_=>cases e
 |_=>cases e
def ix_both:IxR X (λx y H Q=>rIxL X.K x y H Q\/rIxT X.K x y H Q):=zB7.or ix_tup
def zEO:Ls D->Lx R
 | [.t a]=>some (.v (.int a.length))| [.l a]=>some (.v (.int a.length))|_=>none
def Ju(h:Reps K mg H [d] xs):∃v,xs=[v]/\Rep K mg H d v:=by
 dsimp[Reps]at h;obtain⟨v,r,rfl,a,rfl⟩:=h;exact⟨v,rfl,a⟩
def reps2(h:Reps K mg H [d,e] xs):∃v w,xs=[v,w]/\Rep K mg H d v/\Rep K mg H e w:=by
 dsimp[Reps]at h;obtain⟨v,r,rfl,a,w,c,rfl,h2,rfl⟩:=h;exact⟨v,w,rfl,a,h2⟩
def co_len:COk K mg (λi H Q=>∃p a,i=[.ref p]/\(SqL K H p a\/SqT K H p a)/\Q (.int a.length) H) zEO:=by
 intro M H Z i c j Q f r e k
 match c,e with
 | [.t c],e =>
  cases e;obtain⟨v,rfl,h⟩:=Ju r;obtain⟨p,a,rfl,g,h2⟩:=yS h;refine⟨p,a,rfl,.inr (zI zF g),?_⟩;rw[h2.length];exact k.flat f rfl
 | [.l c],e =>
  cases e;obtain⟨v,rfl,h⟩:=Ju r;obtain⟨p,a,rfl,g,h2⟩:=zu h;refine⟨p,a,rfl,.inl (zF.seq g),?_⟩;rw[h2.length];exact k.flat f rfl
def zCb:Ls D->Lx R
 | [.int i,.int j]=>some (.v (.int (if j > i then j else i)))|_=>none
def co_max:COk K mg (λa H Q=>∃i j,a=[.int i,.int j]/\Q (.int (if j > i then j else i)) H) zCb:=by
 intro M H Z a h c Q f r e k
 match h,e with
 | [.int i,.int j],e =>
  cases e;obtain⟨v,w,rfl,g,h2⟩:=reps2 r;exact⟨i,j,by rw[zS g,zS h2],k.flat f rfl⟩
def intF:Ls D->Lx R
 | [.int i]=>some (.v (.int i))| [.bl b]=>some (.v (.int (if b then 1 else 0)))|_=>none
def co_int:COk K mg (λa H Q=>(∃i,a=[.int i]/\Q (.int i) H)\/∃k,a=[.bl k]/\Q (.int (if k then 1 else 0)) H) intF:=by
 intro M H Z a g h Q f r e k
 match g,e with
 | [.int i],e =>
  cases e;obtain⟨v,rfl,c⟩:=Ju r;exact .inl ⟨i,by rw[zS c],k.flat f rfl⟩
 | [.bl b],e =>
  cases e;obtain⟨v,rfl,c⟩:=Ju r;exact .inr ⟨b,by rw[Jf c],k.flat f rfl⟩
def zGr:Ls D->Lx R
 | [.l a]=>some (.v (.t a))| [.t a]=>some (.v (.t a))|_=>none
def zEy:COk K mg (λi H Q=>∃p a,i=[.ref p]/\((SqL K H p a/\∀l,H l=none->Q (.ref l) (upd H l (.t a)))\/(SqT K H p a/\Q (.ref p) H))) zGr:=by
 intro M H Z i c n Q f r e k
 match c,e with
 | [.l c],e =>
  cases e;obtain⟨v,rfl,h⟩:=Ju r;obtain⟨p,a,rfl,g,h2⟩:=zu h;exact⟨p,a,rfl,.inl ⟨zF.seq g,λl hl=>k.tup f hl h2⟩⟩
 | [.t c],e =>
  cases e;obtain⟨v,rfl,h⟩:=Ju r;have j:=h;obtain⟨p,a,rfl,g,h2⟩:=yS h;exact⟨p,a,rfl,.inr ⟨zI zF g,k.rep f j⟩⟩
def listD:Ls D->Lx R
 | [.l a]=>some (.w a)| [.t a]=>some (.w a)|_=>none
def co_list:COk K mg (λi H Q=>∃p a,i=[.ref p]/\(SqL K H p a\/SqT K H p a)/\∀l,H l=none->Q (.ref l) (upd H l (.l a))) listD:=by
 intro M H Z i c j Q f r e k
 match c,e with
 | [.l c],e =>
  cases e;obtain⟨v,rfl,h⟩:=Ju r;obtain⟨p,a,rfl,g,h2⟩:=zu h;exact⟨p,a,rfl,.inl (zF.seq g),λl hl=>k.own f hl h2⟩
 | [.t c],e =>
  cases e;obtain⟨v,rfl,h⟩:=Ju r;obtain⟨p,a,rfl,g,h2⟩:=yS h;exact⟨p,a,rfl,.inr (zI zF g),λl hl=>k.own f hl h2⟩
def jZ:Ls D->Lx (Ls Bool)
 | []=>some []| .bl b::ds=>(jZ ds).map (b::·)|_=>none
theorem JP:∀{a:Ls D} {c:Ls V} {bs:Ls Bool},jZ a=some bs->Reps K mg H a c->c=bs.map V.bl
 | [],_,_,e,h=>by cases e;dsimp[Reps]at h;subst h;rfl
 |d::a,_,bs,e,h=>by
  obtain⟨v,r,rfl,g,h2⟩:=h;cases d with
  |bl b =>
   dsimp[jZ]at e;exists eb,jZ a,e,cs;cases e;rw[Jf g,JP eb h2];rfl
  |_=>cases e
def allD:Ls D->Lx R
 | [.l a]=>(jZ a).map λbs=>.v (.bl (bs.all id))|_=>none
def co_all:COk K mg (λc H Q=>∃(p:Lz) (bs:Ls Bool),c=[.ref p]/\SqL K H p (bs.map V.bl)/\Q (.bl (bs.all id)) H) allD:=by
 intro M H Z c a g Q f r e k
 match a,e with
 | [.l a],e =>
  dsimp[allD]at e;exists eb,jZ a,e,bs;cases e;obtain⟨v,rfl,h⟩:=Ju r;obtain⟨p,j,rfl,i,h2⟩:=zu h;have:=JP eb h2;subst this;exact⟨p,bs,rfl,zF.seq i,k.flat f rfl⟩
end
abbrev MO:=za->Out (Lx Int×za)
def tMO(X:Cx)(m:MO):TO:=λO H Q=>∃M E,E.length=O.length/\FR X.K X.mg M H (O.zip E)/\match m E with
 | .z=>False| .ok (b,E')=>∀H',Got X.K X.mg M O E H [] O E' H' []->Q b H'| .y x E'=>∀H',Got X.K X.mg M O E H [] O E' H' []->XE X O H' x
section
variable{X:Cx}{K:qH}{mg:Str->Lx Lv}{O:St}{M:Ld}{E:za}{H:Hp}{T0:Fz}
def zCc{Q:Lx Int->Hp->Prop}(c:E.length=O.length)(h:FR X.K X.mg M H (T0++O.zip E))
  (k:match m E with | .z=>False | .ok (b,E')=>∀H',Got X.K X.mg M O E H T0 O E' H' []->Q b H' | .y x E'=>∀H',Got X.K X.mg M O E H T0 O E' H' []->XE X O H' x):tMO X m O H Q:=by
 refine⟨Mo M T0,E,c,h.inner,?_⟩;cases e:m E with
 |z=>rw[e]at k;exact k|ok a=>rw[e]at k;exact λH' g=>k H' (g.outer h)|y x E'=>rw[e]at k;exact λH' g=>k H' (g.outer h)
abbrev OOk(X:Cx)(e:Lx Lb)(m:MO):Prop:=PO X e (tMO X m)
def zGs(h:PO X e t)(i:∀O H Q,t' O H Q->t O H Q):PO X e t':=λa s O H Q I q=>h a s O H Q I (i O H Q q)
def zEz:MO:=λE=>.ok (none,E)
def zCd(m:ME):MO:=λE=>match m E with
 | .ok (.v (.int i),E1)=>.ok (some i,E1)| .y x E1=>.y x E1|_=>.z
def oo_none:OOk X none zEz:=zGs po_none λO H Q ⟨M,E,hl,a,k⟩=>k H (Got.refl (T0:=[]) hl a)
def oo_some(h:EOk X e m):OOk X (some e) (zCd m):=zGs (po_some h) λO H Q ⟨M,E,hl,a,k⟩=>by
 unfold zCd at k;refine ze (T0:=[]) hl a ?_;exists ea,m E,k,r,E1;cases r with
 |w c=>exact k.elim|m _ _=>exact k.elim
 |v d =>
  cases d with
  |int i =>
   intro v H' g;exact⟨i,zS g.rep,k H' g.dropAll⟩
  |_=>exact k.elim
def eSl(f:D->Lx Int->Lx Int->Lx R)(a:ME)(c e:MO):ME:=λE=>match a E with
 | .z=>.z| .y x E1=>.y x E1
 | .ok (r,E1)=>match c E1 with
  | .z=>.z| .y x E2=>.y x E2
  | .ok (l,E2)=>match e E2 with
   | .z=>.z| .y x E3=>.y x E3
   | .ok (u,E3)=>match f r.d l u with
    |some r=>.ok (r,E3)|none=>.z
def j1(ds:Ls D)(a c:Lx Int):Ls D:=(ds.drop (HT.sIx ds.length 0 a)).take (HT.sIx ds.length ds.length c-HT.sIx ds.length 0 a)
def slD:D->Lx Int->Lx Int->Lx R
 | .t e,a,c=>some (.v (.t (j1 e a c)))| .l e,a,c=>some (.w (j1 e a c))|_,_,_=>none
def zAA(h:Reps K mg H ds xs)(a c:Lx Int):Reps K mg H (j1 ds a c) (zEe xs a c):=by
 unfold j1 zEe;rw[h.length];exact(h.drop _).take _
def sl_run(h:tM X (eSl slD a lo hi) O H Q):tSl (λx l u H Q=>rSlTT X.K x l u H Q\/rSlL X.K x l u H Q) (tM X a) (tMO X lo) (tMO X hi) O H Q:=by
 obtain⟨M,E,hl,S,k⟩:=h;unfold eSl at k;refine ze (T0:=[]) hl S ?_;cases n:a E with
 |z=>rw[n]at k;exact k|y x E1=>rw[n]at k;exact λH' g=>k H' g
 |ok p =>
  obtain⟨I,E1⟩:=p;rw[n]at k;intro x H1 i;refine zCc (T0:=[(some x,I.slot)]) i.len i.fr ?_;dsimp at k;cases o:lo E1 with
  |z=>rw[o]at k;exact k|y x E2=>rw[o]at k;exact λH' g=>k H' (i.trans' g).dropAll
  |ok p =>
   obtain⟨l,E2⟩:=p;rw[o]at k;intro H2 R;have c:=i.trans' R;refine zCc (T0:=[(some x,I.slot)]) c.len c.fr ?_;dsimp at k;cases w:hi E2 with
   |z=>rw[w]at k;exact k|y x E3=>rw[w]at k;exact λH' g=>k H' (c.trans' g).dropAll
   |ok p =>
    obtain⟨u,E3⟩:=p;rw[w]at k;intro H3 L;have g:=c.trans' L;have e:=g.rep;have f:=g.frame;cases q:I.d with
    |t ds =>
     rw[q]at k e;have j:Kt X.K X.mg M H3 (O.zip E3) (.v (.t (j1 ds l u))) Q:=λv H' r D=>k v H' (g.more (T:=[(some v,_)]) r D)
     obtain⟨p,B,rfl,C,h2⟩:=yS e;refine .inl ⟨p,B,rfl,zI zF C,λG=>j.rep f ?_,λ_ K J=>j.tup f J (zAA h2 l u)⟩;have:j1 ds l u=ds:=by
      have hl:=h2.length;rw[hl]at G;unfold j1;rw[G.1,G.2];simp
     rw[this];exact e
    |l ds =>
     rw[q]at k e;have j:Kt X.K X.mg M H3 (O.zip E3) (.w (j1 ds l u)) Q:=λv H' r D=>k v H' (g.more (T:=[(some v,_)]) r D)
     obtain⟨p,B,rfl,C,h2⟩:=zu e;exact .inr ⟨p,B,rfl,zF.seq C,λK J=>j.own f J (zAA h2 l u)⟩
    |_=>rw[q]at k;exact k.elim
def ok_sl(g:EOk X a ma)(c:OOk X lo ml)(e:OOk X hi mh):EOk X (.Subscript a (.Slice lo hi none p2) pos) (eSl slD ma ml mh) :=
 zb (zEd (sl_tupT.or sl_list) g c e) λO H Q=>sl_run
def tyD:D->Lx String
 | .non=>some "NoneType"| .bl _=>some "bool"| .int _=>some "int"| .str _=>some "str"| .t _=>some "tuple"| .l _=>some "list"| .dic=>some "dict"| .fn _=>none| .exn _ _=>none| .m _ _=>none
def uk(t T:String):Bool:=t==T||(t == "bool"&&T == "int")
def zE0(k:∀t∈["NoneType","bool","int","str","tuple","list","dict"],kitOne X.K (.type t) (.type T)=some (uk t T)) :
  Jq X (.builtin "isinstance") (λB H Q=>∃x d t,B=[x,.ty T]/\Rep X.K X.mg H d x/\tyD d=some t/\Q (.bl (uk t T)) H):=by
 intro v s O H B S Q I r h;obtain⟨x,d,t,rfl,j,g,q⟩:=h;obtain⟨u,J,rfl,c,L⟩:=zEb r;cases (show J=Value.type T from L);have fin:∀E,EP X v O Q (.bool (uk t T)) {s with toks:=E}:=λE=>⟨.bl _,H,I.tok E,rfl,q⟩
 cases d with
 |non=>cases g;rw[G7 j]at c;cases (show u=Value.none from c);exact kia_one PySem.W.kitx_none I.kIn True.intro (k _ (by simp)) (λz=>nomatch z) fin|bl b=>cases g;rw[Jf j]at c;cases (show u=Value.bool b from c);exact kia_one PySem.W.kitx_bool I.kIn True.intro (k _ (by simp)) (λz=>nomatch z) fin|int i=>cases g;rw[zS j]at c;obtain⟨t,q⟩:=(show ∃t,u=Value.int i t from c);cases q;exact kia_one PySem.W.kitx_int I.kIn True.intro (k _ (by simp)) (λz=>nomatch z) fin|str y=>cases g;rw[Y0 j]at c;obtain⟨t,q⟩:=(show ∃t,u=Value.str y t from c);cases q;exact kia_one PySem.W.kitx_str I.kIn True.intro (k _ (by simp)) (λz=>nomatch z) fin
 |t K =>
  cases g;obtain⟨a,B,rfl,w,_⟩:=yS j;cases (show u=Value.ref a from c);obtain⟨G,_,p,_⟩:=I.tuple w;obtain⟨o,D,C,_⟩:=p;exact kia_one PySem.W.kitx_tuple I.kIn ⟨o,D,C⟩ (k _ (by simp)) (λz=>nomatch z) fin
 |l K =>
  cases g;obtain⟨a,B,rfl,w,_⟩:=zu j;cases (show u=Value.ref a from c);obtain⟨G,_,p,_⟩:=I.list w;obtain⟨o,n,D,C,_⟩:=p;exact kia_one PySem.W.kitx_list I.kIn ⟨o,D,C⟩ (k _ (by simp)) (λz=>nomatch z) fin
 |dic =>
  cases g;obtain⟨a,rfl,e⟩:=j;cases (show u=Value.ref a from c);obtain⟨_,_,R,_,p⟩:=(show zz X.prog X.w H s.heap a (.dK [])from I.hok a _ e);obtain⟨o,V,M,w,h2,_⟩:=p;exact kia_one PySem.W.kitx_dict I.kIn ⟨o,w,h2.1⟩ (k _ (by simp)) (λz=>nomatch z) fin
 |fn x=>cases g|exn x y=>cases g|m _ _=>cases g
def eIs(T:String)(m:ME):ME:=λE=>match m E with
 | .z=>.z| .y x E1=>.y x E1
 | .ok (r,E1)=>match tyD r.d with
  |some t=>.ok (.v (.bl (uk t T)),E1)|none=>.z
def ok_is(o:∀t∈["NoneType","bool","int","str","tuple","list","dict"],kitOne X.K (.type t) (.type T)=some (uk t T))(q:Gl X "isinstance")(j:X.mg "isinstance"=none)
  (e:Gl X x) (c:X.mg x=none) (h:bootBuiltins x=some (.type T)) (u:EOk X a m) (l:bootBuiltins "isinstance"=some (.builtin "isinstance")) (hn:x≠"__name__":=by decide) (hd:(x==("__debug__":Str))=false:=by decide)
  (i:zW a=false:=by rfl) :
  EOk X (.Call (.Name "isinstance" p) [a,.Name x p1] [] pos) (eIs T m):=by
 refine zb (YJ (zE0 o) q j l (jL u (jL (zBl (v:=.ty T) e c h rfl hn hd) YI (zM rfl)) (zM i)) (by decide) (by decide) (zM i) (y4 rfl)) λO H Q ⟨M,E,hl,n,k⟩=>?_
 unfold eIs at k;refine ze (T0:=[]) hl n ?_;exists ea,m E,k,r,E1;intro v H' g;dsimp at k;exists et,tyD r.d,k,t;exact⟨v,r.d,t,rfl,g.rep.mono zF,et,k _ H' (g.flat (d:=.bl (uk t T)) rfl)⟩
inductive Fl where
 |nx
 |ret (r:R)
 |bk
 |ct
 deriving Inhabited
abbrev MS:=za->Out (Fl×za)
def KS(X:Cx)(M:Ld)(O:St)(E:za)(H:Hp)(T0:Fz)(D:Ends):Out (Fl×za)->Prop
 | .z=>False| .ok (.nx,E')=>∀O' H',Got X.K X.mg M O E H T0 O' E' H' []->D.nx O' H'| .ok (.bk,E')=>∀O' H',Got X.K X.mg M O E H T0 O' E' H' []->D.bk O' H'| .ok (.ct,E')=>∀O' H',Got X.K X.mg M O E H T0 O' E' H' []->D.ct O' H'| .ok (.ret r,E')=>∀v O' H',Got X.K X.mg M O E H T0 O' E' H' [(some v,r.slot)]->D.rt v H'| .y x E'=>∀O' H',Got X.K X.mg M O E H T0 O' E' H' []->XE X O' H' x
def tS(X:Cx)(m:MS):TS:=λD O H=>∃M E,E.length=O.length/\FR X.K X.mg M H (O.zip E)/\KS X M O E H [] D (m E)
abbrev SOk(X:Cx)(st:Lh)(m:MS):Prop:=PS X st (tS X m)
abbrev uJ(X:Cx)(st:Ls Lh)(m:MS):Prop:=PSs X st (tS X m)
def WH{m:MS}{D:Ends}(c:E.length=O.length)(h:FR X.K X.mg M H (T0++O.zip E))
  (k:KS X M O E H T0 D (m E)):tS X m D O H:=by
 refine⟨Mo M T0,E,c,h.inner,?_⟩;cases e:m E with
 |z=>rw[e]at k;exact k
 |ok a =>
  obtain⟨i,E'⟩:=a;rw[e]at k;cases i with
  |nx=>exact λO' H' g=>k O' H' (g.outer h)|bk=>exact λO' H' g=>k O' H' (g.outer h)|ct=>exact λO' H' g=>k O' H' (g.outer h)|ret r=>exact λv O' H' g=>k v O' H' (g.outer h)
 |y x E'=>rw[e]at k;exact λO' H' g=>k O' H' (g.outer h)
def zCe:MS:=λE=>.ok (.nx,E)
def G9(a b:MS):MS:=λE=>match a E with
 | .ok (.nx,E1)=>b E1|o=>o
def sk_nil:uJ X [] zCe:=zCP pss_nil λD O H ⟨M,E,hl,a,k⟩=>k O H (Got.refl (T0:=[]) hl a)
def sk_one(h:SOk X st m):uJ X [st] m:=Gs h
def seq_run{a b:MS}{D:Ends}(h:tS X (G9 a b) D O H):tSeq (tS X a) (tS X b) D O H:=by
 obtain⟨M,E,hl,j,k⟩:=h;unfold G9 at k;refine WH (T0:=[]) hl j ?_;exists ea,a E,k,fl,E1;cases fl with
 |bk=>exact k|ct=>exact k|ret r=>exact k
 |nx =>
  intro O1 H1 c;refine WH (T0:=[]) c.len c.fr ?_;dsimp at k;cases i:b E1 with
  |z=>rw[i]at k;exact k|y x E2=>rw[i]at k;exact λO' H' g=>k O' H' (c.trans' g)
  |ok p =>
   obtain⟨e,E2⟩:=p;rw[i]at k;cases e with
   |nx=>exact λO' H' g=>k O' H' (c.trans' g)|bk=>exact λO' H' g=>k O' H' (c.trans' g)|ct=>exact λO' H' g=>k O' H' (c.trans' g)|ret r=>exact λv O' H' g=>k v O' H' (c.trans' g)
def sk_cons{st:Lh}{c:Ls Lh}{a b:MS}(g:SOk X st a)(e:uJ X c b):uJ X (st::c) (G9 a b):=zCP (Zm g e) λD O H=>seq_run
def sIf(c:MT)(a b:MS):MS:=λE=>match c E with
 | .ok (true,E1)=>a E1| .ok (false,E1)=>b E1| .y x E1=>.y x E1| .z=>.z
def tS_go{m:MS}{D:Ends}{O1:St}{E1:za}{H1:Hp}(a:Got X.K X.mg M O E H [] O1 E1 H1 [])
  (k:match m E1 with
   | .z=>False| .ok (.nx,E')=>∀O' H',Got X.K X.mg M O E H [] O' E' H' []->D.nx O' H'| .ok (.bk,E')=>∀O' H',Got X.K X.mg M O E H [] O' E' H' []->D.bk O' H'| .ok (.ct,E')=>∀O' H',Got X.K X.mg M O E H [] O' E' H' []->D.ct O' H'| .ok (.ret r,E')=>∀v O' H',Got X.K X.mg M O E H [] O' E' H' [(some v,r.slot)]->D.rt v H'
   | .y x E'=>∀O' H',Got X.K X.mg M O E H [] O' E' H' []->XE X O' H' x):tS X m D O1 H1:=by
 refine WH (T0:=[]) a.len a.fr ?_;cases e:m E1 with
 |z=>rw[e]at k;exact k|y x E2=>rw[e]at k;exact λO' H' g=>k O' H' (a.trans' g)
 |ok p =>
  obtain⟨c,E2⟩:=p;rw[e]at k;cases c with
  |nx=>exact λO' H' g=>k O' H' (a.trans' g)|bk=>exact λO' H' g=>k O' H' (a.trans' g)|ct=>exact λO' H' g=>k O' H' (a.trans' g)|ret r=>exact λv O' H' g=>k v O' H' (a.trans' g)
def sif_run{c:MT}{a b:MS}{D:Ends}(h:tS X (sIf c a b) D O H):tIfS (tMT X c) (tS X a) (tS X b) D O H:=by
 obtain⟨M,E,hl,j,k⟩:=h;unfold sIf at k;refine Yw (T0:=[]) hl j ?_;cases e:c E with
 |z=>rw[e]at k;exact k|y x E1=>rw[e]at k;exact λH' g=>k O H' g
 |ok p =>
  obtain⟨t,E1⟩:=p;rw[e]at k;intro H1 i;cases t with
  |true=>exact iteT (tS_go i k)|false=>exact iteF (tS_go i k)
def sk_if(h:TOk X c mc)(e:uJ X a ma)(g:uJ X b mb):SOk X (.If c a b pos) (sIf mc ma mb):=yt (ps_if h e g) λD O H=>sif_run
def Zi(i:Nat)(r:R)(E:za):Out za:=match E[i]? with
 |none=>.z|some (.p _)=>.z|some _=>.ok (E.set i r.slot)
def sSet(i:Nat)(m:ME):MS:=λE=>match m E with
 | .z=>.z| .y x E1=>.y x E1
 | .ok (r,E1)=>match Zi i r E1 with
  | .ok E2=>.ok (.nx,E2)|_=>.z
def WI(g:Got K mg M O E H T0 O1 E1 H1 [(some v,r.slot)])(e:Zi i r E1=.ok E2):Got K mg M O E H T0 (O1.set i (some v)) E2 H1 []:=by
 unfold Zi at e;exists e1,E1[i]?,e,sl;have c:∀ds,sl≠.p ds:=λds q=>by subst q;cases e
 have k:E2=E1.set i r.slot:=by
  cases sl with
  |p ds=>exact absurd rfl (c ds)|_=>cases e;rfl
 subst k;have l:i<E1.length:=(qG.mp e1).1;have hl:=g.len;have hz:i<(O1.zip E1).length:=by rw[length_zip];omega
 have hT:T0++((O1.set i (some v)).zip (E1.set i r.slot))=(T0++O1.zip E1).set (T0.length+i) (some v,r.slot):=by
  rw[vW,List.set_append_right _ _ (by omega)];congr 2;omega
 have a:T0.length+i<(T0++O1.zip E1).length:=by rw[length_append];omega
 refine⟨by simp[hl],?_,?_,?_⟩
 ·show FR K mg M H1 (T0++((O1.set i (some v)).zip (E1.set i r.slot)))
  rw[hT];exact FR.put g.fr a
 ·show Step M H _ H1 (T0++((O1.set i (some v)).zip (E1.set i r.slot)))
  rw[hT];exact Step.put g.st a
 ·refine g.pk.trans λj ds q=>?_
  have h:i≠j:=λz=>by subst z;rw[e1]at q;exact c ds (qJ q)
  exact⟨⟨ds,by rw[getElem?_set_ne h];exact q⟩,by rw[getElem?_set_ne h]⟩
def zCf{i:Nat}{m:ME}{D:Ends}(h:tS X (sSet i m) D O H):tAsg (tM X m) (Gv i) D O H:=by
 obtain⟨M,E,hl,e,k⟩:=h;unfold sSet at k;refine ze (T0:=[]) hl e ?_;cases c:m E with
 |z=>rw[c]at k;exact k|y x E1=>rw[c]at k;exact λH' g=>k O H' g
 |ok p =>
  obtain⟨r,E1⟩:=p;rw[c]at k;intro v H' g;dsimp at k;cases a:Zi i r E1 with
  |z=>rw[a]at k;exact k.elim|y _ _=>rw[a]at k;exact k.elim
  |ok E2 =>
   rw[a]at k;exact k _ H' (WI g a)
def zCg(k:X.N.Nodup)(j:X.N[i]?=some x)(g:Loc X.env.scope x)(c:EOk X e m)(a:swapsWith e (some (.Name x pos')) pos.line X.env=pure false:=by rfl)
  (h:X.fn x=true\/X.env.scope.names.lookup x=some .local:=by first|exact .inl rfl|exact .inr rfl|assumption):SOk X (.Assign [.Name x pos'] e pos) (sSet i m) :=
 yt (ps_set k j g c a h) λD O H=>zCf
def sRet(m:ME):MS:=λE=>match m E with
 | .z=>.z| .y x E1=>.y x E1| .ok (r,E1)=>.ok (.ret r,E1)
def ret_run{m:ME}{D:Ends}(h:tS X (sRet m) D O H):tRet (tM X m) D O H:=by
 obtain⟨M,E,hl,c,k⟩:=h;unfold sRet at k;refine ze (T0:=[]) hl c ?_;cases a:m E with
 |z=>rw[a]at k;exact k|y x E1=>rw[a]at k;exact λH' g=>k O H' g|ok p=>rw[a]at k;exact λv H' g=>k v O H' g
def sk_ret(a:EOk X e m):SOk X (.Return (some e) pos) (sRet m):=yt (ps_ret a) λD O H=>ret_run
def zBI(i:Nat):ME:=λE=>match E[i]? with
 |some (.w a)=>.ok (.w a,E.set i .e)|some (.m ks vs)=>.ok (.m ks vs,E.set i .e)|some (.v d)=>.ok (.v d,E)|_=>.z
def ok_move(i:Nat)(h:PE X (.Name x pos) (YC i)):EOk X (.Name x pos) (zBI i):=zb h λO H Q ⟨M,E,hl,f,k⟩=>by
 unfold zBI at k;cases e:E[i]? with
 |none=>rw[e]at k;exact k.elim
 |some I =>
 rw[e]at k;cases I with
 |e=>exact k.elim|p l=>exact k.elim
 |v d =>
  obtain⟨o,u,h2⟩:=jk hl e;obtain⟨v,rfl,r⟩:=f.val o d h2;exact⟨v,u,k v H ⟨hl,f.add r,Step.refl.add,PKp.refl⟩⟩
 |w l =>
  obtain⟨o,u,h2⟩:=j0 hl e;obtain⟨a,S,rfl,L,J,K⟩:=f.ownL o (.w l) l (mem_of_getElem? h2) rfl;refine⟨.ref a,u,k _ H ?_⟩;have g:i<(O.zip E).length:=(qG.mp h2).1;have p:(O.zip E).Perm ((some (.ref a),R.slot (.w l))::(O.zip E).eraseIdx i):=by
   have:=zT (some (V.ref a),Slot.w l) (O.zip E) i g;rw[ju h2]at this;exact this
  have C:O.zip (E.set i .e)=(O.zip E).set i (some (.ref a),.e):=zd .e u;have B:((some (V.ref a),R.slot (.w l))::O.zip (E.set i .e)).Perm ((some (V.ref a),Slot.e)::((some (V.ref a),R.slot (.w l))::(O.zip E).eraseIdx i)):=by
   rw[C];exact((zT _ _ _ g).cons _).trans (List.Perm.swap _ _ _)
  have j:=f.perm p;have G:FR X.K X.mg M H ((some (V.ref a),Slot.e)::((some (V.ref a),R.slot (.w l))::(O.zip E).eraseIdx i)):={
   val:=λo d q=>by
    rcases mem_cons.mp q with q|q
    ·cases q
    ·exact j.val o d q
   own:=λo s c q z=>by
    rcases mem_cons.mp q with q|q
    ·cases q;cases z
    ·exact j.own o s c q z
   nd:=by rw[yZ];exact j.nd
   mal:=j.mal}
  refine⟨by simp[hl],G.perm B.symm,?_,ue (ds0:=[]) e (λc q=>by cases q) _⟩;refine Step.weak Step.refl λb D=>?_
  have y:=zD B b D;exact zD p.symm b y
 |m n t =>
  obtain⟨o,u,h2⟩:=j0 hl e;obtain⟨a,ho,rfl,L,J,K⟩:=f.own o (.m n t) (.d n t) (mem_of_getElem? h2) rfl;refine⟨.ref a,u,k _ H ?_⟩;have g:i<(O.zip E).length:=(qG.mp h2).1;have p:(O.zip E).Perm ((some (.ref a),R.slot (.m n t))::(O.zip E).eraseIdx i):=by
   have:=zT (some (V.ref a),Slot.m n t) (O.zip E) i g;rw[ju h2]at this;exact this
  have C:O.zip (E.set i .e)=(O.zip E).set i (some (.ref a),.e):=zd .e u;have B:((some (V.ref a),R.slot (.m n t))::O.zip (E.set i .e)).Perm ((some (V.ref a),Slot.e)::((some (V.ref a),R.slot (.m n t))::(O.zip E).eraseIdx i)):=by
   rw[C];exact((zT _ _ _ g).cons _).trans (List.Perm.swap _ _ _)
  have j:=f.perm p;have G:FR X.K X.mg M H ((some (V.ref a),Slot.e)::((some (V.ref a),R.slot (.m n t))::(O.zip E).eraseIdx i)):={
   val:=λo d q=>by
    rcases mem_cons.mp q with q|q
    ·cases q
    ·exact j.val o d q
   own:=λo s c q z=>by
    rcases mem_cons.mp q with q|q
    ·cases q;cases z
    ·exact j.own o s c q z
   nd:=by rw[yZ];exact j.nd
   mal:=j.mal}
  refine⟨by simp[hl],G.perm B.symm,?_,ue (ds0:=[]) e (λc q=>by cases q) _⟩;refine Step.weak Step.refl λb D=>?_
  have y:=zD B b D;exact zD p.symm b y
def sDrop(m:ME):MS:=λE=>match m E with
 | .z=>.z| .y x E1=>.y x E1| .ok (_,E1)=>.ok (.nx,E1)
def zE1{m:ME}{D:Ends}(h:tS X (sDrop m) D O H):tDrop (tM X m) D O H:=by
 obtain⟨M,E,hl,c,k⟩:=h;unfold sDrop at k;refine ze (T0:=[]) hl c ?_;cases a:m E with
 |z=>rw[a]at k;exact k|y x E1=>rw[a]at k;exact λH' g=>k O H' g|ok p=>rw[a]at k;exact λv H' g=>k O H' g.dropAll
def sk_drop(c:EOk X e m)(a:swapsWith e none pos.line X.env=pure false:=by rfl):SOk X (.Expr e pos) (sDrop m):=yt (Gu c a) λD O H=>zE1
end
theorem y6{α β:Type}{f:α->Lx β}{x y:α}(h:f y=f x):∀{l:Ls α} {i:Nat},l[i]?=some x->(l.set i y).filterMap f=l.filterMap f
 | [],_,e=>by simp at e
 |a::l,0,e=>by
  simp at e;subst e
  dsimp[List.set_cons_zero,filterMap_cons,h]
 |a::l,i+1,e=>by
  simp at e
  dsimp[List.set_cons_succ,filterMap_cons,y6 h e]
section
variable{X:Cx}{K:qH}{mg:Str->Lx Lv}{O:St}{M:Ld}{E:za}{H:Hp}{T0 Z:Fz}
def Slot.put:Slot->Ls D->Slot
 | .w _,es=>.w es| .p _,es=>.p es|s,_=>s
def vZ(a:s.list?=some ds):W9 (some (.ref p),s.put es)=W9 (some (.ref p),s)/\(s.put es).list?=some es:=by
 cases s<;>simp[Slot.list?]at a<;>exact⟨rfl,rfl⟩
def FR.mut(h:FR K mg M H Z)(l:Z[i]?=some (some (.ref p),s))(g:s.list?=some ds)(r:Reps K mg (Hm (Mo M Z) H) es ys) :
  FR K mg M (upd H p (.l ys)) (Z.set i (some (.ref p),s.put es))/\Step M H Z (upd H p (.l ys)) (Z.set i (some (.ref p),s.put es)):=by
 have G:yE (Z.set i (some (.ref p),s.put es))=yE Z:=y6 (vZ g).1 l;have v:Mo M (Z.set i (some (.ref p),s.put es))=Mo M Z:=by unfold Mo;rw[G]
 have I:p∈yE Z:=WC (mem_of_getElem? l) g rfl;obtain⟨W,Y,C,_⟩:=h.ownAt I;have c:Hm (Mo M Z) (upd H p (.l ys))=Hm (Mo M Z) H:=by
  funext b
  unfold Hm;by_cases B:Mo M Z b
  ·simp[B]
  ·have:b≠p:=λe=>B (by subst e;exact .inr I)
   simp[B,zG this]
 have mem:∀{q:Lx V×Slot},q∈Z.set i (some (.ref p),s.put es)->q=(some (.ref p),s.put es)\/q∈Z:=λ{q} O=>(List.mem_or_eq_of_mem_set O).symm
 have j:i<Z.length:=(qG.mp l).1;have n:(yE (Z.eraseIdx i)).Nodup/\p∉yE (Z.eraseIdx i):=by
  have R:Z.Perm ((some (.ref p),s)::Z.eraseIdx i):=by
   have:=zT (some (V.ref p),s) Z i j;rw[ju l]at this;exact this
  have t:=(R.filterMap W9).nodup_iff.mp h.nd;have e:List.filterMap W9 ((some (V.ref p),s)::Z.eraseIdx i)=p::yE (Z.eraseIdx i):=by
   cases s<;>simp[Slot.list?]at g<;>rfl
  rw[e]at t;exact⟨(nodup_cons.mp t).2,(nodup_cons.mp t).1⟩
 have y:(Z.set i (some (.ref p),s.put es)).Perm ((some (.ref p),s.put es)::Z.eraseIdx i):=zT _ _ _ j;refine⟨⟨λo d q=>?_,λo E u q e=>?_,by rw[G];exact h.nd,λb q=>?_⟩,⟨by rw[v,c];exact YL.refl _,λb o m e=>?_⟩⟩
 ·rw[v,c]
  rcases mem q with q|q
  ·exfalso
   cases s<;>simp[Slot.list?]at g<;>cases q
  ·exact h.val o d q
 ·rw[v,c]
  rcases mem_cons.mp (y.mem_iff.mp q)with k|k
  ·cases k
   rw[zCN (vZ (p:=p) g).2]at e;cases e;exact⟨p,_,rfl,zU,C,ys,rfl,r⟩
  ·have w:(o,E)∈Z:=(eraseIdx_sublist Z i).subset k
   obtain⟨a,S,D,J,Q,L⟩:=h.own o E u w e;have x:a≠p:=λz=>by
    subst z;exact n.2 (jM k e D)
   exact⟨a,S,D,by rw[zG x];exact J,Q,L⟩
 ·obtain⟨o,e,X⟩:=h.mal b q
  by_cases z:b=p
  ·subst z;exact⟨_,zU,.inl ⟨_,rfl⟩⟩
  ·exact⟨o,by rw[zG z];exact e,X⟩
 ·have x:b≠p:=λz=>C (by subst z;exact m)
  rw[zG x];exact e
theorem Got.mut(g:Got K mg M O E H [] O1 E1 H1 T)(c:E1[i]?=some s)(k:s.list?=some ds)(r:Reps K mg (Hm (Mo M (O1.zip E1)) H1) es ys) :
  ∃p,O1[i]?=some (some (.ref p))/\Got K mg M O E H [] O1 (E1.set i (s.put es)) (upd H1 p (.l ys)) []:=by
 obtain⟨o,l,h2⟩:=j0 g.len c;obtain⟨p,t,rfl,_⟩:=g.frame.ownL o s ds (mem_of_getElem? h2) k;refine⟨p,l,?_⟩;obtain⟨f,st⟩:=FR.mut g.frame h2 k r;have e:=zd (E:=E1) (s.put es) l;rw[<- e]at f st;refine⟨by simp[g.len],f,(g.st.weak (zE (sublist_append_right _ _))).trans st,g.pk.trans λj a q=>?_⟩;by_cases n:i=j
 ·subst n
  rw[c]at q;cases q;have h:i<E1.length:=(qG.mp c).1;exact⟨⟨es,by rw[getElem?_set_self h];rfl⟩,rfl⟩
 ·exact⟨⟨a,by rw[getElem?_set_ne n];exact q⟩,rfl⟩
def ul{i:Nat}{s:Slot}(j:E.length=O.length)(f:FR K mg M H (O.zip E))(h:E[i]?=some s)(g:s≠.e):∃v,O[i]?=some (some v):=by
 obtain⟨o,c,h2⟩:=jk j h;cases s with
 |e=>exact absurd rfl g|v d=>obtain⟨v,rfl,_⟩:=f.val o d h2;exact⟨v,c⟩|w k=>obtain⟨a,_,rfl,_⟩:=f.own o _ _ h2 rfl;exact⟨_,c⟩|p k=>obtain⟨a,_,rfl,_⟩:=f.own o _ _ h2 rfl;exact⟨_,c⟩|m n l=>obtain⟨a,_,rfl,_⟩:=f.own o _ _ h2 rfl;exact⟨_,c⟩
def wO:Lx Slot->Bool
 |none=>true|some .e=>true|_=>false
def WJ(h:wO o=false):∃s,o=some s/\s≠.e:=by
 cases o with
 |none=>cases h
 |some s=>cases s<;>simp[wO]at h<;>exact⟨_,rfl,by intro q;cases q⟩
def ixS:Slot->Int->Lx D
 | .w a,i=>atI a i| .p a,i=>atI a i| .v (.l a),i=>atI a i|_,_=>none
def zGt(i:Nat)(m:ME):ME:=λE=>if wO E[i]?=true then .z else match m E with
 | .z=>.z| .y x E1=>.y x E1
 | .ok (.v (.int k),E1)=>match E1[i]? with
  |some s=>match ixS s k with
   |some d=>.ok (.v d,E1)|none=>.z
  |none=>.z
 |_=>.z
def ixO_run{i:Nat}{m:ME}{Q:VK}(h:tM X (zGt i m) O H Q):tOp (rIxL X.K) (YC i) (tM X m) O H Q:=by
 obtain⟨M,E,hl,K,k⟩:=h;unfold zGt at k;cases t:wO E[i]? with
 |true=>rw[t]at k;exact k.elim
 |false =>
  rw[t]at k;obtain⟨s,I,B⟩:=WJ t;obtain⟨v,hv⟩:=ul hl K I B;refine⟨v,hv,?_⟩;refine ze (T0:=[]) hl K ?_;exists ea,m E,k,r,E1;cases r with
  |w c=>exact k.elim|m _ _=>exact k.elim
  |v d =>
   cases d with
   |int n =>
    intro y H' g;dsimp at k;exists e1,E1[i]?,k,s1;dsimp at k;exists e2,ixS s1 n,k,d;have f:=g.frame;have fin:∀{w:V},Rep X.K X.mg (Hm (Mo M (O.zip E1)) H') d w->Q w H':=λ{w} q=>k w H' (g.more (T:=[(some w,.v d)]) (f.add q) Step.refl.add)
    obtain⟨o,J,h2⟩:=jk g.len e1;have ho:o=some v:=by rw[hv]at J;exact(qJ J).symm
    subst ho;have j:∀{c:Ls D},s1.list?=some c->atI c n=some d->rIxL X.K v y H' Q:=λ{c} G Y=>by
     obtain⟨a,x,ev,z,_,L⟩:=f.ownL _ s1 c h2 G;cases ev;obtain⟨w,u,C⟩:=Zn L Y;exact⟨a,x,n,w,rfl,zS g.rep,SqL.of z,u,fin C⟩
    cases s1 with
    |e=>cases e2|w c=>exact j rfl e2|p c=>exact j rfl e2|m _ _=>cases e2
    |v R =>
     cases R with
     |l c =>
      obtain⟨Z,ev,S⟩:=f.val _ _ h2;cases ev;obtain⟨a,x,rfl,z,W⟩:=zu S;obtain⟨w,u,C⟩:=Zn W e2;exact⟨a,x,n,w,rfl,zS g.rep,zF.seq z,u,fin C⟩
     |_=>cases e2
   |_=>exact k.elim
def ok_ixO(i:Nat)(e:PE X (.Name x p) (YC i))(c:EOk X b m)(a:Yt b):EOk X (.Subscript (.Name x p) b pos) (zGt i m) :=
 zb (pe_ix zB7 e c a) λO H Q=>ixO_run
def zBJ(i:Nat):ME:=λE=>match E[i]? with
 |some (.w a)=>.ok (.v (.int a.length),E)|some (.p a)=>.ok (.v (.int a.length),E)|some (.v (.l a))=>.ok (.v (.int a.length),E)|_=>.z
def zE2(h:tM X (zBJ i) O H Q):tCB (λj H Q=>∃p g,j=[.ref p]/\(SqL X.K H p g\/SqT X.K H p g)/\Q (.int g.length) H) (zA9 (YC i) tNil) O H Q:=by
 obtain⟨M,E,hl,f,k⟩:=h;unfold zBJ at k;exists e1,E[i]?,k,s;obtain⟨o,t,h2⟩:=jk hl e1;have n:∀{c:Ls D},s.list?=some c->(∀(v:V) (H':Hp),Got X.K X.mg M O E H [] O E H' [(some v,.v (.int c.length))]->Q v H')->tCB (λj H Q=>∃p g,j=[.ref p]/\(SqL X.K H p g\/SqT X.K H p g)/\Q (.int g.length) H) (zA9 (YC i) tNil) O H Q:=λ{c} q z=>by
  obtain⟨a,j,ev,r,_,x⟩:=f.ownL _ s c h2 q;subst ev;refine⟨.ref a,t,a,j,rfl,.inl (SqL.of r),?_⟩;rw[x.length];exact z _ H ((Got.refl (T0:=[]) hl f).flat (d:=.int c.length) rfl)
 cases s with
 |e=>exact k.elim|w c=>exact n rfl k|p c=>exact n rfl k|m _ _=>exact k.elim
 |v d =>
  cases d with
  |l c =>
   obtain⟨B,ev,y⟩:=f.val _ _ h2;subst ev;obtain⟨a,j,rfl,r,u⟩:=zu y;refine⟨.ref a,t,a,j,rfl,.inl (zF.seq r),?_⟩;rw[u.length];exact k _ H ((Got.refl (T0:=[]) hl f).flat (d:=.int c.length) rfl)
  |_=>exact k.elim
def ok_lenO(i:Nat)(a:PE X (.Name x p1) (YC i))(e:Gl X "len")(c:X.mg "len"=none) :
  EOk X (.Call (.Name "len" p) [.Name x p1] [] pos) (zBJ i) :=
 zb (YJ ZL e c PySem.boot_len (jL a YI (zM rfl)) (by decide) (by decide) (zM rfl) (y4 rfl)) λO H Q=>zE2
def WK(i:Nat)(c e:ME):MS:=λE=>if wO E[i]?=true then .z else match e E with
 | .z=>.z| .y x E1=>.y x E1
 | .ok (r,E1)=>match c E1 with
  | .z=>.z| .y x E2=>.y x E2
  | .ok (.v (.int k),E2)=>match E2[i]? with
   |none=>.z
   |some s=>match s.list? with
    |none=>.z
    |some a=>match ixN a.length k with
     |none=>.z|some j=>.ok (.nx,E2.set i (s.put (a.set j r.d)))
  |_=>.z
def zCh{i:Nat}{I B:ME}{D:Ends}(h:tS X (WK i I B) D O H):tAsg (tM X B) (gSub (YC i) (tM X I) rSetL) D O H:=by
 obtain⟨M,E,hl,K,k⟩:=h;unfold WK at k;cases q:wO E[i]? with
 |true=>rw[q]at k;exact k.elim
 |false =>
  rw[q]at k;obtain⟨s,G,C⟩:=WJ q;obtain⟨v,hv⟩:=ul hl K G C;refine ze (T0:=[]) hl K ?_;cases e:B E with
  |z=>rw[e]at k;exact k|y x E1=>rw[e]at k;exact λH' g=>k O H' g
  |ok p =>
   obtain⟨r,E1⟩:=p;rw[e]at k;intro y H1 c;refine⟨v,hv,?_⟩;refine ze (T0:=[(some y,r.slot)]) c.len c.fr ?_;dsimp at k;cases l:I E1 with
   |z=>rw[l]at k;exact k|y x E2=>rw[l]at k;exact λH' g=>k O H' (c.trans' g).dropAll
   |ok p =>
    obtain⟨V,E2⟩:=p;rw[l]at k;cases V with
    |w t=>exact k.elim|m _ _=>exact k.elim
    |v d =>
     cases d with
     |int n =>
      intro z H2 g2;have g:=c.trans' g2;dsimp at k;exists e1,E2[i]?,k,s1;dsimp at k;exists e2,s1.list?,k,t;dsimp at k;exists e3,ixN t.length n,k,j;have S:=Got.reps (vs:=[z,y]) (rs:=[.v (.int n),r]) rfl g;obtain⟨z',_,q1,rz,y',_,Y,W,_⟩:=S;cases q1;cases Y;obtain⟨o,u,h2⟩:=jk g.len e1;obtain⟨a,Z,ev,Q,_,J⟩:=g.frame.ownL _ s1 t h2 e2;subst ev;have ev:v=.ref a:=by rw[hv]at u;exact qJ (qJ u)
      subst ev;obtain⟨p,L,R⟩:=g.mut e1 e2 (J.set j W);have ep:p=a:=by rw[u]at L;cases L;rfl
      subst ep;exact⟨p,Z,n,j,rfl,zS rz,Q,by rw[J.length];exact e3,k O _ R⟩
     |_=>exact k.elim
def zE3(i:Nat)(g:PE X (.Name x p) (YC i))(h:EOk X b mi)(c:EOk X e mv)
  (j:∀v,assign (.Subscript (.Name x p) b p1) X.env v=(do
   let ov <- holding [v] (eval (.Name x p) X.env)
   let iv <- holding [v,ov] (eval b X.env)
   standAt p1
   holding [v,ov,iv] (setItem ov iv v)
   release [v,ov,iv] []):=by intro _;rfl) (a:swapsWithSole [.Subscript (.Name x p) b p1] e pos.line X.env=pure false:=by rfl):SOk X (.Assign [.Subscript (.Name x p) b p1] e pos) (WK i mi mv) :=
 yt (zBn c (zGe g h zEf j) a) λD O H=>zCh
def sApp(i:Nat)(m:ME):MS:=λE=>match E[i]? with
 |none=>.z
 |some c=>match c.list? with
  |none=>.z
  |some _=>match m E with
   | .z=>.z| .y x E1=>.y x E1
   | .ok (r,E1)=>match E1[i]? with
    |none=>.z
    |some s=>match s.list? with
     |none=>.z|some a=>if a.length<cap then .ok (.nx,E1.set i (s.put (a++[r.d])))else .z
def app_run{i:Nat}{m:ME}{D:Ends}(h:tS X (sApp i m) D O H):tDrop (tBM X.K "list" zB8 (YC i) (zA9 (tM X m) tNil)) D O H:=by
 obtain⟨M,E,hl,u,k⟩:=h;unfold sApp at k;exists e0,E[i]?,k,s0;dsimp at k;exists e00,s0.list?,k,ds0;obtain⟨o,n,h2⟩:=jk hl e0;obtain⟨a,C,ev,w,_,K⟩:=u.ownL _ s0 ds0 h2 e00;subst ev;refine⟨.ref a,n,.inl ⟨rfl,C,SqL.of w⟩,?_⟩;refine ze (T0:=[]) hl u ?_;cases j:m E with
 |z=>rw[j]at k;exact k|y x E1=>rw[j]at k;exact λH' g=>k O H' g
 |ok p =>
  obtain⟨r,E1⟩:=p;rw[j]at k;intro y H1 g;dsimp at k;exists e1,E1[i]?,k,s;dsimp at k;exists e2,s.list?,k,ds;dsimp at k;by_cases q:ds.length<cap
  ·rw[if_pos q]at k
   obtain⟨o,c,l⟩:=jk g.len e1;obtain⟨a',B,ev,J,_,t⟩:=g.frame.ownL _ s ds l e2;subst ev;have e:a'=a:=by rw[n]at c;cases c;rfl
   subst e;obtain⟨p,v,I⟩:=g.mut e1 e2 (t.append (Reps.cons g.rep Reps.nil));have G:p=a':=by rw[n]at v;cases v;rfl
   subst G;exact⟨p,B,y,rfl,rfl,J,by rw[t.length];exact lt_of_lt_of_le q (wk (le_refl _)),k O _ I⟩
  ·rw[if_neg q]at k;exact k.elim
def sk_app(i:Nat)(n:PE X (.Name x p) (YC i))(l:EOk X e m)
  (g:attributeBase (.Name x p) "append" X.env (eval (.Name x p) X.env)=eval (.Name x p) X.env:=by rfl)
  (h:((backTo cpos (starEach (e::[]) X.env)).all (λx=>!x.1)&&(backToKw cpos (keywordEach [] X.env)).all (λx=>x.1.isSome)
   && decide ((e::([]:Ls Lb)).length+([]:Ls Keyword).length+(if([]:Ls Keyword).isEmpty then 0 else 1)<30))=true:=by rfl)
  (c:(apos.endLine==cpos.line)=true:=by rfl) (k:starEach (e::[]) X.env=(false,eval e X.env)::starEach [] X.env:=by rfl) (a:(backTo cpos (starEach [] X.env)).any (·.1)=false:=by rfl)
  (j:swapsWith (.Call (.Attribute (.Name x p) "append" apos) [e] [] cpos) none pos.line X.env=pure false:=by rfl):SOk X (.Expr (.Call (.Attribute (.Name x p) "append" apos) [e] [] cpos) pos) (sApp i m) :=
 yt (Gu (pe_bm PySem.F.plainAttrs_list PySem.F.slot_list_append PySem.F.type_list_append uX n (jL l YI k) g h c k a) j) λD O H=>app_run
end
section
variable{X:Cx}{K:qH}{mg:Str->Lx Lv}{O:St}{M:Ld}{E:za}{H:Hp}{T0 Z:Fz}
abbrev MG:=D->za->Out za
def GOk(X:Cx)(g:TG)(tg:MG):Prop:=∀(M:Ld) (O:St) (E:za) (H:Hp) (T0:Fz) (x:V) (d:D) (E':za) (Q:St->Hp->Prop),E.length=O.length->FR X.K X.mg M H ((some x,.v d)::(T0++O.zip E))->tg d E=.ok E' ->
 (∀O',Got X.K X.mg M O E H T0 O' E' H []->Q O' H)->g x O H Q
def gN(i:Nat):MG:=λd E=>Zi i (.v d) E
def go_name(i:Nat):GOk X (Gv i) (gN i):=λM O E H T0 x d E' Q hl f e k =>
 k _ (WI (O1:=O) (E1:=E) (H1:=H) (r:=.v d) (v:=x) ⟨hl,f,Step.refl.add,PKp.refl⟩ e)
def gNs:Ls Nat->Ls D->za->Out za
 | [],[],E=>.ok E
 |i::c,d::a,E=>match Zi i (.v d) E with
  | .ok E1=>gNs c a E1|_=>.z
 |_,_,_=>.z
def gT(c:Ls Nat):MG:=λd E=>match d with
 | .t a=>gNs c a E|_=>.z
def Jv:Ls Nat->TGs
 | []=>gNil|i::is=>gCons (Gv i) (Jv is)
theorem um:∀(l:Ls Nat) (n:Ls D) (j:Ls V) {M:Ld} {O0 O:St} {E0 E E':za} {H:Hp} {T0:Fz} {a:Lz} {ts:Ls D} {Q:St->Hp->Prop},
  Got X.K X.mg M O0 E0 H T0 O E H []->Reps X.K X.mg (Hm (Mo M (T0++O.zip E)) H) n j->gNs l n E=.ok E'->(∀O',Got X.K X.mg M O0 E0 H T0 O' E' H []->Q O' H)->Jv l j O H Q
 | [],[],j,M,O0,O,E0,E,E',H,T0,a,ts,Q,g,r,e,k=>by
  cases e;exact⟨r,k O g⟩
 | [],d::n,j,M,O0,O,E0,E,E',H,T0,a,ts,Q,g,r,e,k=>by cases e|i::l,[],j,M,O0,O,E0,E,E',H,T0,a,ts,Q,g,r,e,k=>by cases e
 |i::l,d::n,j,M,O0,O,E0,E,E',H,T0,a,ts,Q,g,r,e,k=>by
  obtain⟨x,jQ,rfl,p,q⟩:=r;dsimp[gNs]at e;cases c:Zi i (.v d) E with
  |z=>rw[c]at e;cases e|y _ _=>rw[c]at e;cases e
  |ok E1 =>
   rw[c]at e;refine⟨x,jQ,rfl,?_⟩;have t:Got X.K X.mg M O0 E0 H T0 O E H [(some x,R.slot (.v d))]:=⟨g.len,g.fr.add p,g.st.add,g.pk⟩;have o:=WI t c;refine um l n jQ (a:=a) (ts:=ts) o (q.mono ?_) e k;refine ji (Je λb h=>?_)
   -- the stored slot l a value: it yE nothing
   unfold Zi at c;exists e2,E[i]?,c,sl;have u:E1=E.set i (.v d):=by cases sl<;>cases c<;>rfl
   subst u;have v:i<E.length:=(qG.mp e2).1;have hz:i<(O.zip E).length:=by rw[length_zip];have:=g.len;omega
   rw[vW]at h;rw[zc]at h ⊢;rcases mem_append.mp h with h|h
   ·exact mem_append_left _ h
   ·refine qK _ ?_
    have:=zD (zT _ _ _ hz) b h;rw[zZ]at this;exact zE (eraseIdx_sublist _ _) b this
def zGu(g:Ls Nat)(hn:g.length=n):GOk X (gTup X.K n (Jv g)) (gT g):=λM O E H T0 x d E' Q hl f e k=>by
 cases d with
 |t c =>
  obtain⟨v,ev,r⟩:=f.val _ _ qE;cases ev;obtain⟨a,o,rfl,q,h2⟩:=yS r;have j:c.length=g.length:=by
   have:∀(g:Ls Nat) (c:Ls D) (E E':za),gNs g c E=.ok E'->c.length=g.length:=by
    intro g
    induction g with
    |nil=>intro c E E' h;cases c with|nil=>rfl|cons d c=>cases h
    |cons i g p =>
     intro c E E' h;cases c with
     |nil=>cases h
     |cons d c =>
      dsimp[gNs]at h;cases l:Zi i (.v d) E with
      |ok E1=>rw[l]at h;simp[p c E1 E' h]|z=>rw[l]at h;cases h|y _ _=>rw[l]at h;cases h
   exact this g c E E' e
  refine⟨a,o,rfl,zI zF q,by rw[h2.length,j,hn],?_⟩;exact um g c o (a:=a) (ts:=[]) (Got.refl hl f.tail) h2 e k
 |_=>cases e
def ZO(tg:MG)(body:MS):Ls D->za->Out (Fl×za)
 | [],E=>.ok (.nx,E)
 |d::a,E=>match tg d E with
  | .ok E1=>match body E1 with
   | .ok (.nx,E2)=>ZO tg body a E2| .ok (.ct,E2)=>ZO tg body a E2| .ok (.bk,E2)=>.ok (.nx,E2)| .ok (.ret r,E2)=>.ok (.ret r,E2)| .y x E2=>.y x E2| .z=>.z
  |_=>.z
def Fin(X:Cx)(M:Ld)(O:St)(E:za)(H:Hp)(D:Ends)(o:Out (Fl×za)):Prop:=match o with
 | .z=>False| .ok (.nx,E')=>∀O' H',Got X.K X.mg M O E H [] O' E' H' []->D.nx O' H'| .ok (.bk,E')=>∀O' H',Got X.K X.mg M O E H [] O' E' H' []->D.bk O' H'| .ok (.ct,E')=>∀O' H',Got X.K X.mg M O E H [] O' E' H' []->D.ct O' H'| .ok (.ret r,E')=>∀v O' H',Got X.K X.mg M O E H [] O' E' H' [(some v,r.slot)]->D.rt v H'| .y x E'=>∀O' H',Got X.K X.mg M O E H [] O' E' H' []->XE X O' H' x
def Got.dropT{c:Str->Lx Lv}{M:Ld}(a:Got K c M O E H [] O1 E1 H1 (T++T')):Got K c M O E H [] O1 E1 H1 T where
 len:=a.len
 fr:=a.fr.sub (by rw[append_assoc];exact(sublist_append_right _ _).append_left _)
 st:=a.st.weak (zE (by rw[append_assoc];exact(sublist_append_right _ _).append_left _))
 pk:=a.pk
def Zo{tg:MG}{body:MS}{g:TG}{D:Ends}{d:DV.D}{ds:Ls DV.D}{O1:St}{E1:za}{H1:Hp}{T:Fz}{x:V}{P:St->Hp->Prop}(n:GOk X g tg)
  (k:Got X.K X.mg M O E H [] O1 E1 H1 T) (l:Rep X.K X.mg (Hm (Mo M (T++O1.zip E1)) H1) d x) (a:Fin X M O E H D (ZO tg body (d::ds) E1))
  (next:∀O2 E2 H2,Got X.K X.mg M O E H [] O2 E2 H2 T->Step M H1 (T++O1.zip E1) H2 (T++O2.zip E2)->Fin X M O E H D (ZO tg body ds E2)->P O2 H2) :
  g x O1 H1 λO2 H2=>tS X body {D with nx:=P,ct:=P,bk:=D.nx} O2 H2:=by
 dsimp[ZO]at a;cases i:tg d E1 with
 |z=>rw[i]at a;exact a.elim|y _ _=>rw[i]at a;exact a.elim
 |ok E2 =>
  rw[i]at a;dsimp at a;refine n M O1 E1 H1 T x d E2 _ k.len (k.fr.add l) i λO2 h=>?_
  have c:=k.trans' h;refine WH (T0:=T) h.len h.fr ?_;cases j:body E2 with
  |z=>rw[j]at a;exact a|y y E3=>rw[j]at a;exact λO' H' e=>a O' H' (c.trans' e).dropAll
  |ok p =>
   obtain⟨o,E3⟩:=p;rw[j]at a;cases o with
   |nx=>exact λO' H' e=>next O' E3 H' (c.trans' e) (h.st.trans e.st) a|ct=>exact λO' H' e=>next O' E3 H' (c.trans' e) (h.st.trans e.st) a|bk=>exact λO' H' e=>a O' H' (c.trans' e).dropAll|ret r=>exact λv O' H' e=>a v O' H' (c.trans' e).dropT
def sForL(m:ME)(tg:MG)(body:MS):MS:=λE=>match m E with
 | .z=>.z| .y x E1=>.y x E1
 | .ok (r,E1)=>match r.d with
  | .l a=>ZO tg body a E1|_=>.z
def sForT(m:ME)(tg:MG)(body:MS):MS:=λE=>match m E with
 | .z=>.z| .y x E1=>.y x E1
 | .ok (r,E1)=>match r.d with
  | .t a=>ZO tg body a E1|_=>.z
def zAB{m:MS}{D:Ends}(h:tS X m D O H):∃M E,E.length=O.length/\FR X.K X.mg M H (O.zip E)/\Fin X M O E H D (m E):=h
def zE4{m:ME}{tg:MG}{g:TG}{body:MS}{D:Ends}(R:GOk X g tg)(h:tS X (sForL m tg body) D O H):tFor (iList X.K (tM X m)) g (tS X body) D O H:=by
 obtain⟨M,E,hl,Z,k⟩:=zAB h;unfold sForL at k;refine ze (T0:=[]) hl Z ?_;cases t:m E with
 |z=>rw[t]at k;exact k|y x E1=>rw[t]at k;exact λH' g=>k O H' g
 |ok p =>
  obtain⟨r,E1⟩:=p;rw[t]at k;intro v H1 j;have w:Got X.K X.mg M O E H [] O E1 H1 [(some v,.v r.d)]:=⟨j.len,j.fr.frz,j.st.frz,j.pk⟩;dsimp at k;cases e:r.d with
  |l c =>
   rw[e]at k w;have I:=j.rep;rw[e]at I;obtain⟨a,xs,rfl,C,S⟩:=zu I;refine⟨a,rfl,⟨xs,zF.seq C⟩,?_⟩;have Q:∀(O':St) (E':za),Mo M ([(some (V.ref a),Slot.v (.l c))]++O'.zip E')=Mo M (O'.zip E'):=λO' E'=>YM _ _ _ _
   refine zEY (K:=X.K) (a:=a) (xs:=xs) (λi O1 H2=>∃E2,Got X.K X.mg M O E H [] O1 E2 H2 [(some (.ref a),.v (.l c))]/\SqL X.K (Hm (Mo M (O1.zip E2)) H2) a xs/\Reps X.K X.mg (Hm (Mo M (O1.zip E2)) H2) c xs/\Fin X M O E H D (ZO tg body (c.drop i) E2))
    ⟨E1,w,C,S,k⟩ (λi O' H' _ ⟨E2,_,q,_⟩=>zF.seq q) ?_ ?_
   ·rintro i x O1 H2 L ⟨E2,u,B,o,fin⟩
    obtain⟨d,Y,J⟩:=o.get L;have e:c.drop i=d::c.drop (i+1):=by
     obtain⟨hi,rfl⟩:=qG.mp Y;exact drop_eq_getElem_cons hi
    rw[e]at fin;refine Zo R u (by rw[Q];exact J) fin λO3 E3 H3 W st n=>?_
    have G:=st.same;exact⟨E3,W,G.seq B,o.mono G,n⟩
   ·rintro O1 H2 ⟨E2,u,B,o,fin⟩
    rw[o.length,drop_length]at fin;exact fin O1 H2 u.dropAll
  |_=>rw[e]at k;exact k.elim
def zE5{m:ME}{tg:MG}{g:TG}{body:MS}{D:Ends}(R:GOk X g tg)(h:tS X (sForT m tg body) D O H):tFor (iTup X.K (tM X m)) g (tS X body) D O H:=by
 obtain⟨M,E,hl,Z,k⟩:=zAB h;unfold sForT at k;refine ze (T0:=[]) hl Z ?_;cases o:m E with
 |z=>rw[o]at k;exact k|y x E1=>rw[o]at k;exact λH' g=>k O H' g
 |ok p =>
  obtain⟨r,E1⟩:=p;rw[o]at k;intro v H1 j;have w:Got X.K X.mg M O E H [] O E1 H1 [(some v,.v r.d)]:=⟨j.len,j.fr.frz,j.st.frz,j.pk⟩;dsimp at k;cases e:r.d with
  |t c =>
   rw[e]at k w;have I:=j.rep;rw[e]at I;obtain⟨a,xs,rfl,C,S⟩:=yS I;refine⟨a,rfl,⟨xs,zI zF C⟩,?_⟩;have Q:∀(O':St) (E':za),Mo M ([(some (V.ref a),Slot.v (.t c))]++O'.zip E')=Mo M (O'.zip E'):=λO' E'=>YM _ _ _ _
   refine for_tup (K:=X.K) (a:=a) (xs:=xs) (λi O1 H2=>∃E2,Got X.K X.mg M O E H [] O1 E2 H2 [(some (.ref a),.v (.t c))]/\SqT X.K (Hm (Mo M (O1.zip E2)) H2) a xs/\Reps X.K X.mg (Hm (Mo M (O1.zip E2)) H2) c xs/\Fin X M O E H D (ZO tg body (c.drop i) E2))
    ⟨E1,w,C,S,k⟩ (λi O' H' _ ⟨E2,_,q,_⟩=>zI zF q) ?_ ?_
   ·rintro i x O1 H2 L ⟨E2,u,B,n,fin⟩
    obtain⟨d,Y,J⟩:=n.get L;have e:c.drop i=d::c.drop (i+1):=by
     obtain⟨hi,rfl⟩:=qG.mp Y;exact drop_eq_getElem_cons hi
    rw[e]at fin;refine Zo R u (by rw[Q];exact J) fin λO3 E3 H3 W st l=>?_
    have G:=st.same;exact⟨E3,W,zI G B,n.mono G,l⟩
   ·rintro O1 H2 ⟨E2,u,B,n,fin⟩
    rw[n.length,drop_length]at fin;exact fin O1 H2 u.dropAll
  |_=>rw[e]at k;exact k.elim
def zP(a:Int):Nat->Ls D
 |0=>[]|n+1=>.int a::zP (a+1) n
theorem yW(a:Int):∀n,(zP a n).length=n
 |0=>rfl|n+1=>by simp[zP,yW (a+1) n]
theorem wP:∀(n i:Nat) (a:Int),i<n->(zP a n).drop i=.int (a+i)::(zP a n).drop (i+1)
 |0,_,_,h=>by omega|n+1,0,a,_=>by simp[zP]
 |n+1,i+1,a,h=>by
  have:=wP n i (a+1) (by omega);dsimp[zP,List.drop_succ_cons];rw[this];congr 2;omega
def sForR1(m:MA)(tg:MG)(body:MS):MS:=λE=>match m E with
 | .z=>.z| .y x E1=>.y x E1
 | .ok ([r],E1)=>match r.d with
  | .int j=>if -(2^62)<=j/\j<2^62 then ZO tg body (zP 0 j.toNat) E1 else .z|_=>.z
 |_=>.z
def QA{tg:MG}{g:TG}{body:MS}{D:Ends}(p:GOk X g tg){c:Int}{n:Nat}{E1:za}{H1:Hp}(o:Got X.K X.mg M O E H [] O E1 H1 [])(a:Fin X M O E H D (ZO tg body (zP c n) E1)) :
  ∃W:Nat->Nat->St->Hp->Prop,(∃m,W 0 m O H1)/\∀i m O H,W i m O H ->
   ((Itr c n).stop i H/\D.nx O H)\/((Itr c n).go i H/\∃N:St->Hp->Prop,(∀O' H',N O' H'->∃j,j<m/\W (i+1) j O' H')/\∀x H',(Itr c n).yld i H x H'->g x O H' λO2 H2=>tS X body {D with nx:=N,ct:=N,bk:=D.nx} O2 H2):=by
 refine zBs (λi O1 H2=>∃E2,Got X.K X.mg M O E H [] O1 E2 H2 []/\Fin X M O E H D (ZO tg body ((zP c n).drop i) E2)) ⟨E1,o,a⟩ ?_ ?_
 ·rintro i O1 H2 l ⟨E2,h,a⟩
  rw[wP n i c l]at a;exact Zo p h (by dsimp[Rep]) a λO3 E3 H3 k st e=>⟨E3,k,e⟩
 ·rintro O1 H2 ⟨E2,h,a⟩
  rw[List.drop_of_length_le (by rw[yW];exact le_refl _)]at a;exact a O1 H2 h
def zCi{m:MA}{tg:MG}{g:TG}{body:MS}{D:Ends}(n:GOk X g tg)(h:tS X (sForR1 m tg body) D O H):tFor (iRng1 (tMA X m)) g (tS X body) D O H:=by
 obtain⟨M,E,hl,o,k⟩:=zAB h;unfold sForR1 at k;refine Jr (T0:=[]) hl o ?_;cases c:m E with
 |z=>rw[c]at k;exact k|y x E1=>rw[c]at k;exact λH' g=>k O H' g
 |ok p =>
  obtain⟨q,E1⟩:=p;rw[c]at k
  match q,k with
  | [r],k =>
   intro u H1 hv l;have i:=Got.reps hv l;dsimp at k;cases e:r.d with
   |int j =>
    rw[e]at k;dsimp[List.map,e]at i;obtain⟨v,rfl,t⟩:=Ju i;dsimp at k;by_cases a:-(2^62)<=j/\j<2^62
    ·rw[if_pos a]at k
     exact⟨j,by rw[zS t],a.1,a.2,QA n l.dropAll k⟩
    ·rw[if_neg a]at k;exact k.elim
   |_=>rw[e]at k;exact k.elim
  | [],k=>exact k.elim|_::_::_,k=>exact k.elim
def sk_forL(i:PassesOwn (model X.prog X.w) X.A X.env X.xe)(j:X.calm=true)(h:EOk X iter m)(c:PG X tgt g)(e:GOk X g tg)(k:uJ X body mb)
  (a:∀x,foldedSetIterable iter X.env x=pure x:=by intro _;rfl):SOk X (.For tgt iter body [] pos) (sForL m tg mb):=yt (Qw i j (zBq h) c k a) λD O H=>zE4 e
def sk_forT(i:PassesOwn (model X.prog X.w) X.A X.env X.xe)(j:X.calm=true)(h:EOk X iter m)(c:PG X tgt g)(e:GOk X g tg)(k:uJ X body mb)
  (a:∀x,foldedSetIterable iter X.env x=pure x:=by intro _;rfl):SOk X (.For tgt iter body [] pos) (sForT m tg mb):=yt (Qw i j (zGg h) c k a) λD O H=>zE5 e
def zE6(l:PassesOwn (model X.prog X.w) X.A X.env X.xe)(n:X.calm=true)(c:Gl X "range")(h:X.mg "range"=none)(q:AOk X [a] m)(j:PG X tgt g)(k:GOk X g tg)(o:uJ X body mb)
  (e:zW a=false:=by rfl) (i:∀x,foldedSetIterable (.Call (.Name "range" p) [a] [] cpos) X.env x=pure x:=by intro _;rfl):SOk X (.For tgt (.Call (.Name "range" p) [a] [] cpos) body [] pos) (sForR1 m tg mb) :=
 yt (Qw l n (uO c h q (zCR e)) j o i) λD O H=>zCi k
end
section
variable{X:Cx}{K:qH}{mg:Str->Lx Lv}{O:St}{M:Ld}{E:za}{H H':Hp}{T0 Z T:Fz}
def zE7(h:s.list?=some ds)(h':s'.list?=some ds):W9 (o,s')=W9 (o,s):=by
 cases s<;>simp[Slot.list?]at h<;>cases s'<;>simp[Slot.list?]at h'<;>(cases o with|none=>rfl|some v=>cases v<;>rfl)
def Zq(h:s.list?=some ds)(h':s'.list?=some ds):yE ((o,s')::Z)=yE ((o,s)::Z):=by
 unfold yE;rw[filterMap_cons,filterMap_cons,zE7 h h']
def FR.lab(f:FR K mg M H ((o,s)::Z))(h:s.list?=some ds)(h':s'.list?=some ds):FR K mg M H ((o,s')::Z):=by
 have c:Mo M ((o,s')::Z)=Mo M ((o,s)::Z):=by unfold Mo;rw[Zq h h']
 refine⟨λa d q=>?_,λa t g q e=>?_,by rw[Zq h h'];exact f.nd,f.mal⟩
 ·rw[c]
  rcases mem_cons.mp q with q|q
  ·cases q;cases h'
  ·exact f.val a d (qD _ q)
 ·rw[c]
  rcases mem_cons.mp q with q|q
  ·cases q
   rw[zCN h']at e;cases e;exact f.own o s _ qE (zCN h)
  ·exact f.own a t g (qD _ q) e
def uo(e:Z[i]?=some (o,s2)):((o,s1)::(T++Z)).Perm ((o,s2)::(T++Z.set i (o,s1))):=by
 have c:i<Z.length:=(qG.mp e).1;have g:Z.Perm ((o,s2)::Z.eraseIdx i):=by
  have:=zT (o,s2) Z i c;rw[ju e]at this;exact this
 have h:(Z.set i (o,s1)).Perm ((o,s1)::Z.eraseIdx i):=zT _ _ _ c;refine((g.append_left T).cons _).trans ?_;refine List.Perm.trans ?_ ((h.append_left T).cons _).symm;have a:(T++(o,s2)::Z.eraseIdx i).Perm ((o,s2)::(T++Z.eraseIdx i)):=perm_middle;have b:(T++(o,s1)::Z.eraseIdx i).Perm ((o,s1)::(T++Z.eraseIdx i)):=perm_middle;exact((a.cons _).trans (List.Perm.swap _ _ _)).trans (b.cons _).symm
inductive AR where
 |tmp (d:D)
 |ln (i:Nat)
 deriving Inhabited
def AR.slot:AR->Slot
 | .tmp d=>.v d| .ln _=>.e
def zw(vs:Ls V)(as:Ls AR):Fz:=(vs.map some).zip (as.map AR.slot)
def AV(O:St):Ls AR->Ls V->Prop
 | [],a=>a=[]| .tmp _::as,a=>∃v r,a=v::r/\AV O as r| .ln i::as,a=>∃v r,a=v::r/\O[i]?=some (some v)/\AV O as r
theorem AV.length:∀{as:Ls AR} {a:Ls V},AV O as a->a.length=as.length
 | [],_,h=>by dsimp[AV]at h;subst h;rfl| .tmp _::as,_,h=>by dsimp[AV]at h;obtain⟨v,r,rfl,h⟩:=h;simp[AV.length h]| .ln i::as,_,h=>by dsimp[AV]at h;obtain⟨v,r,rfl,_,h⟩:=h;simp[AV.length h]
def zJ:Ls AR->za->Out (Ls Slot×za)
 | [],E=>.ok ([],E)
 | .tmp d::as,E=>match zJ as E with
  | .ok (a,E')=>.ok (.v d::a,E')|_=>.z
 | .ln i::as,E=>match E[i]? with
  |none=>.z
  |some s=>match s.list? with
   |none=>.z
   |some c=>match zJ as (E.set i .e)with
    | .ok (a,E')=>.ok (.p c::a,E')|_=>.z
def zN:Ls AR->Ls Slot->za->za->Out za
 | [],[],_,E=>.ok E| .tmp _::as,_::a,E0,E=>zN as a E0 E
 | .ln i::as,e::a,E0,E=>match E0[i]? with
  |none=>.z
  |some s=>match s.list?,e.list?,E[i]? with
   |some _,some c,some .e=>zN as a E0 (E.set i (s.put c))|_,_,_=>.z
 |_,_,_,_=>.z
theorem WL:∀(as:Ls AR) {j:Ls V} {E E':za} {k:Ls Slot} {T:Fz},E.length=O.length->AV O as j->zJ as E=.ok (k,E')->FR K mg M H (T++(zw j as++O.zip E)) ->
  FR K mg M H (T++((j.map some).zip k++O.zip E'))/\(∀b,b∈yE (T++(zw j as++O.zip E))↔b∈yE (T++((j.map some).zip k++O.zip E')))/\k.length=as.length/\E'.length=O.length
 | [],j,E,E',k,T,hl,c,e,f=>by
  cases e;dsimp[AV]at c;subst c;exact⟨f,λb=>Iff.rfl,rfl,hl⟩
 | .tmp d::as,j,E,E',k,T,hl,c,e,f=>by
  dsimp[AV]at c;obtain⟨v,r,rfl,c⟩:=c;dsimp[zJ]at e;cases h:zJ as E with
  |z=>rw[h]at e;cases e|y _ _=>rw[h]at e;cases e
  |ok p =>
   obtain⟨g,E1⟩:=p;rw[h]at e;cases e;have n:FR K mg M H ((T++[(some v,.v d)])++(zw r as++O.zip E)):=by
    rw[append_assoc];exact f
   obtain⟨l,t,q,u⟩:=WL as hl c h n;refine⟨by rw[append_assoc]at l;exact l,λb=>?_,by simp[q],u⟩;have:=t b;rw[append_assoc,append_assoc]at this;exact this
 | .ln i::as,j,E,E',k,T,hl,c,e,f=>by
  dsimp[AV]at c;obtain⟨v,r,rfl,hv,c⟩:=c;dsimp[zJ]at e;exists e0,E[i]?,e,s;dsimp at e;exists e2,s.list?,e,ds;dsimp at e;cases h:zJ as (E.set i .e)with
  |z=>rw[h]at e;cases e|y _ _=>rw[h]at e;cases e
  |ok p =>
   obtain⟨g,E1⟩:=p;rw[h]at e;cases e;obtain⟨o,B,h2⟩:=j0 hl e0;have ho:o=some v:=by rw[hv]at B;exact(qJ B).symm
   subst ho;have J:O.zip (E.set i .e)=(O.zip E).set i (some v,.e):=zd .e hv;have x:(T++(((some v,Slot.e)::zw r as)++O.zip E)).Perm ((some v,s)::(T++(zw r as++O.zip (E.set i .e)))):=by
    rw[J];have a:(T++(((some v,Slot.e)::zw r as)++O.zip E)).Perm ((some v,Slot.e)::((T++zw r as)++O.zip E)):=by
     rw[append_assoc];exact perm_middle
    refine a.trans ((uo h2).trans ?_);rw[append_assoc]
   have n:=(f.perm x).lab e2 (s':=.p ds) rfl;have D:FR K mg M H ((((some v,Slot.p ds))::T)++(zw r as++O.zip (E.set i .e))):=n;obtain⟨l,t,q,u⟩:=WL as (by simp[hl]) c h D;have w:(((some v,Slot.p ds)::T)++((r.map some).zip g++O.zip E')).Perm (T++(((some v,Slot.p ds)::(r.map some).zip g)++O.zip E')):=perm_middle.symm;refine⟨l.perm w,λb=>?_,by simp[q],u⟩;have L:b∈yE (T++(((some v,Slot.e)::zw r as)++O.zip E))↔b∈yE ((some v,s)::(T++(zw r as++O.zip (E.set i .e)))):=(x.filterMap W9).mem_iff;have G:yE ((some v,Slot.p ds)::(T++(zw r as++O.zip (E.set i .e))))=yE ((some v,s)::(T++(zw r as++O.zip (E.set i .e)))):=Zq e2 rfl;have C:=t b;have I:b∈yE (((some v,Slot.p ds)::T)++((r.map some).zip g++O.zip E'))↔b∈yE (T++(((some v,Slot.p ds)::(r.map some).zip g)++O.zip E')):=(w.filterMap W9).mem_iff;refine L.trans ?_;rw[<- G];exact C.trans I
theorem vb:∀(as:Ls AR) {g:Ls V} {E0 E E':za} {a:Ls Slot} {T:Fz},E.length=O.length->AV O as g->zN as a E0 E=.ok E'->FR K mg M H (T++((g.map some).zip a++O.zip E)) ->
  FR K mg M H (T++O.zip E')/\(∀b,b∈yE (T++O.zip E')->b∈yE (T++((g.map some).zip a++O.zip E)))/\E'.length=O.length
 | [],g,E0,E,E',a,T,hl,c,e,f=>by
  cases a with
  |cons _ _=>cases e
  |nil =>
   cases e;dsimp[AV]at c;subst c;exact⟨f,λb q=>q,hl⟩
 | .tmp d::as,g,E0,E,E',a,T,hl,c,e,f=>by
  dsimp[AV]at c;obtain⟨v,r,rfl,c⟩:=c;cases a with
  |nil=>cases e
  |cons s a =>
   dsimp[zN]at e;have sub:(T++((r.map some).zip a++O.zip E)).Sublist (T++(((some v,s)::(r.map some).zip a)++O.zip E)):=(sublist_cons_self _ _).append_left _;obtain⟨k,t,n⟩:=vb as hl c e (f.sub sub);exact⟨k,λb q=>zE sub b (t b q),n⟩
 | .ln i::as,g,E0,E,E',a,T,hl,c,e,f=>by
  dsimp[AV]at c;obtain⟨v,r,rfl,hv,c⟩:=c;cases a with
  |nil=>cases e
  |cons u a =>
   dsimp[zN]at e;exists e0,E0[i]?,e,s;dsimp at e;cases j:s.list? with
   |none=>rw[j]at e;cases e
   |some G =>
    cases h:u.list? with
    |none=>rw[j,h]at e;cases e
    |some ds =>
     cases l:E[i]? with
     |none=>rw[j,h,l]at e;cases e
     |some I =>
      rw[j,h,l]at e;cases I with
      |e =>
       dsimp at e;obtain⟨o,B,h2⟩:=j0 hl l;have ho:o=some v:=by rw[hv]at B;exact(qJ B).symm
       subst ho;have Q:O.zip (E.set i (s.put ds))=(O.zip E).set i (some v,s.put ds):=zd _ hv;have D:(s.put ds).list?=some ds:=(vZ (p:=0) j).2;have y:(T++(((some v,u)::(r.map some).zip a)++O.zip E)).Perm ((some v,u)::((T++(r.map some).zip a)++O.zip E)):=by
        rw[append_assoc];exact perm_middle
       have J:=(f.perm y).lab h D;have w:((some v,s.put ds)::((T++(r.map some).zip a)++O.zip E)).Perm ((some v,Slot.e)::((T++(r.map some).zip a)++O.zip (E.set i (s.put ds)))):=by
        rw[Q];exact uo h2
       have z:=(J.perm w).tail;rw[append_assoc]at z;obtain⟨k,t,n⟩:=vb as (by simp[hl]) c e z;refine⟨k,λb q=>?_,n⟩;have C:=t b q;rw[<- append_assoc]at C;have L:b∈yE ((some v,Slot.e)::((T++(r.map some).zip a)++O.zip (E.set i (s.put ds)))):=zE (sublist_cons_self _ _) b C;have x:=zD w.symm b L;rw[Zq h D]at x;exact zD y.symm b x
      |_=>cases e
def QB:Ls AR->Ls Nat
 | []=>[]| .tmp _::as=>QB as| .ln i::as=>i::QB as
theorem vc:∀(as:Ls AR) {E E':za} {c:Ls Slot},zJ as E=.ok (c,E')->∀(k:Nat),k∉QB as->E'[k]?=E[k]?
 | [],E,E',c,e,k,h=>by cases e;rfl
 | .tmp d::as,E,E',c,e,k,h=>by
  dsimp[zJ]at e;cases a:zJ as E with
  |z=>rw[a]at e;cases e|y _ _=>rw[a]at e;cases e
  |ok p =>
   rw[a]at e;cases e;exact vc as a k h
 | .ln i::as,E,E',c,e,k,h=>by
  dsimp[zJ]at e;exists e0,E[i]?,e,s;dsimp at e;exists e2,s.list?,e,ds;cases a:zJ as (E.set i .e)with
  |z=>rw[a]at e;cases e|y _ _=>rw[a]at e;cases e
  |ok p =>
   rw[a]at e;cases e;dsimp[QB,mem_cons,not_or]at h;rw[vc as a k h.2,getElem?_set_ne (λq=>h.1 q.symm)]
theorem Zr:∀(as:Ls AR) {E0 E E':za} {a:Ls Slot},zN as a E0 E=.ok E'->∀(k:Nat),E'[k]?=E[k]?\/∃(s:Slot) (h:Ls D),E0[k]?=some s/\E'[k]?=some (s.put h)
 | [],E0,E,E',a,e,k=>by
  cases a with
  |cons _ _=>cases e|nil=>cases e;exact .inl rfl
 | .tmp d::as,E0,E,E',a,e,k=>by
  cases a with
  |nil=>cases e|cons s a=>exact Zr as e k
 | .ln i::as,E0,E,E',a,e,k=>by
  cases a with
  |nil=>cases e
  |cons r a =>
   dsimp[zN]at e;exists e0,E0[i]?,e,s;dsimp at e;cases c:s.list? with
   |none=>rw[c]at e;cases e
   |some o =>
    cases g:r.list? with
    |none=>rw[c,g]at e;cases e
    |some h =>
     cases j:E[i]? with
     |none=>rw[c,g,j]at e;cases e
     |some p =>
      rw[c,g,j]at e;cases p with
      |e =>
       rcases Zr as e k with q|q
       ·by_cases n:i=k
        ·subst n
         have l:i<E.length:=(qG.mp j).1;rw[getElem?_set_self l]at q;exact .inr ⟨s,h,e0,q⟩
        ·rw[getElem?_set_ne n]at q
         exact .inl q
       ·exact .inr q
      |_=>cases e
theorem WM:∀(as:Ls AR) {E0 E E':za} {a:Ls Slot},zN as a E0 E=.ok E'->∀(k:Nat),k∈QB as->∃(s:Slot) (j:Ls D),E0[k]?=some s/\E'[k]?=some (s.put j)
 | [],E0,E,E',a,e,k,h=>by cases h
 | .tmp d::as,E0,E,E',a,e,k,h=>by
  cases a with
  |nil=>cases e|cons s a=>exact WM as e k h
 | .ln i::as,E0,E,E',a,e,k,h=>by
  cases a with
  |nil=>cases e
  |cons t a =>
   dsimp[zN]at e;exists e0,E0[i]?,e,s;dsimp at e;cases c:s.list? with
   |none=>rw[c]at e;cases e
   |some p =>
    cases g:t.list? with
    |none=>rw[c,g]at e;cases e
    |some j =>
     cases l:E[i]? with
     |none=>rw[c,g,l]at e;cases e
     |some r =>
      rw[c,g,l]at e;cases r with
      |e =>
       by_cases o:i=k
       ·subst o
        rcases Zr as e i with q|q
        ·have n:i<E.length:=(qG.mp l).1
         rw[getElem?_set_self n]at q;exact⟨s,j,e0,q⟩
        ·exact q
       ·dsimp[QB,mem_cons]at h
        rcases h with h|h
        ·exact absurd h.symm o
        ·exact WM as e k h
      |_=>cases e
def zCj{as:Ls AR}(l:zJ as E1=.ok (ss,E2))(h:zN as outs E1 E2=.ok E3):PKp O E1 O E3:=λk j e=>by
 refine⟨?_,rfl⟩;by_cases i:k∈QB as
 ·obtain⟨s,g,a,c⟩:=WM as h k i
  rw[e]at a;cases a;exact⟨g,c⟩
 ·rcases Zr as h k with q|⟨s,g,a,c⟩
  ·rw[q,vc as l k i];exact⟨j,e⟩
  ·rw[e]at a;cases a
   exact⟨g,c⟩
abbrev MF:=Ls Slot->Out (R×Ls Slot)
def spM(K:qH)(e:Str->Lx Lv)(n:Nat)(F:MF):Sp:=λa H Q XQ=>a.length=n/\∃(M:Ld) (c:Ls Slot),c.length=a.length/\FR K e M H ((a.map some).zip c)/\match F c with
 | .z=>False| .ok (r,outs)=>∀v H',outs.length=a.length->FR K e M H' ((some v,r.slot)::(a.map some).zip outs)->Step M H ((a.map some).zip c) H' ((some v,r.slot)::(a.map some).zip outs)->Q v H'| .y x _=>∀C g H',e x.cls=some (.ref C)->Fs g H' x.cls x.vs->FR K e M H' []->Step M H ((a.map some).zip c) H' []->XQ (.ref C) g H'
inductive Arg where
 |ev (m:ME)
 |lend (i:Nat)
def zn:Ls Arg->za->Out (Ls AR×za)
 | [],E=>.ok ([],E)
 | .ev m::as,E=>match m E with
  | .z=>.z| .y x E1=>.y x E1
  | .ok (r,E1)=>match zn as E1 with
   | .ok (a,E2)=>.ok (.tmp r.d::a,E2)| .y x E2=>.y x E2| .z=>.z
 | .lend i::as,E=>if wO E[i]?=true then .z else match zn as E with
  | .ok (a,E2)=>.ok (.ln i::a,E2)| .y x E2=>.y x E2| .z=>.z
def zE8(X:Cx)(as:Ls Arg):TA:=λO H Q=>∃M E,E.length=O.length/\FR X.K X.mg M H (O.zip E)/\match zn as E with
 | .z=>False| .ok (ars,E')=>∀a H',AV O ars a->Got X.K X.mg M O E H [] O E' H' (zw a ars)->Q a H'| .y x E'=>∀H',Got X.K X.mg M O E H [] O E' H' []->XE X O H' x
abbrev zE9(X:Cx)(es:Ls Lb)(as:Ls Arg):Prop:=PA X es (zE8 X as)
def WN{as:Ls Arg}{Q:Ls V->Hp->Prop}(i:E.length=O.length)(h:FR X.K X.mg M H (T0++O.zip E))
  (k:match zn as E with | .z=>False | .ok (ars,E')=>∀c H',AV O ars c->Got X.K X.mg M O E H T0 O E' H' (zw c ars)->Q c H' | .y x E'=>∀H',Got X.K X.mg M O E H T0 O E' H' []->XE X O H' x):zE8 X as O H Q:=by
 refine⟨Mo M T0,E,i,h.inner,?_⟩;cases e:zn as E with
 |z=>rw[e]at k;exact k|ok a=>rw[e]at k;exact λc H' j g=>k c H' j (g.outer h)|y x E'=>rw[e]at k;exact λH' g=>k H' (g.outer h)
def ga_nil:zE9 X [] []:=ud YI λO H Q ⟨M,E,hl,a,k⟩=>k [] H (by dsimp[AV]) (Got.refl (T0:=[]) hl a)
def ga_ev{as:Ls Arg}(n:EOk X e m)(j:zE9 X es as)(l:zW e=false:=by rfl):zE9 X (e::es) (.ev m::as):=ud (jL n j (zM l)) λO H Q ⟨M,E,hl,r,k⟩=>by
 dsimp[zn]at k;refine ze (T0:=[]) hl r ?_;exists ea,m E,k,r1,E1;intro x H1 c;have a:Got X.K X.mg M O E H [] O E1 H1 [(some x,.v r1.d)]:=⟨c.len,c.fr.frz,c.st.frz,c.pk⟩;refine WN (T0:=[(some x,.v r1.d)]) a.len a.fr ?_;dsimp at k;cases h:zn as E1 with
 |z=>rw[h]at k;exact k|y x E2=>rw[h]at k;exact λH' g=>k H' (a.trans' g).dropAll
 |ok p =>
  rw[h]at k;intro i H2 o q;refine k (x::i) H2 (by dsimp[AV];exact⟨x,i,rfl,o⟩) ?_;exact(a.trans' q).perm (perm_append_comm)
def ga_lend{as:Ls Arg}(j:PE X (.Name x p) (YC i))(y:zE9 X es as)  : zE9 X (.Name x p::es) (.lend i::as):=ud (jL j y (zM rfl)) λO H Q ⟨M,E,hl,w,k⟩=>by
 dsimp[zn]at k;cases n:wO E[i]? with
 |true=>rw[n]at k;exact k.elim
 |false =>
  rw[n]at k;obtain⟨s,r,l⟩:=WJ n;obtain⟨v,j⟩:=ul hl w r l;refine⟨v,j,?_⟩;refine WN (T0:=[]) hl w ?_;exists eb,zn as E,k,ars,E2;intro c H2 z g;refine k (v::c) H2 (by dsimp[AV];exact⟨v,c,rfl,j,z⟩) ?_;have h:Mo M ((some v,Slot.e)::(zw c ars++([]++O.zip E2)))=Mo M (zw c ars++([]++O.zip E2)):=Mo_emp _ _ _;refine⟨g.len,⟨λo d q=>?_,λo t u q e=>?_,?_,g.fr.mal⟩,⟨?_,g.st.keep⟩,g.pk⟩
  ·show ∃B,_/\Rep X.K X.mg (Hm (Mo M ((some v,Slot.e)::(zw c ars++([]++O.zip E2)))) H2) d B
   rw[h];rcases mem_cons.mp q with q|q
   ·cases q
   ·exact g.fr.val o d q
  ·show ∃a ho,_/\_/\_/\CRep X.K X.mg (Hm (Mo M ((some v,Slot.e)::(zw c ars++([]++O.zip E2)))) H2) a u ho
   rw[h];rcases mem_cons.mp q with q|q
   ·cases q;cases e
   ·exact g.fr.own o t u q e
  ·show(yE ((some v,Slot.e)::(zw c ars++([]++O.zip E2)))).Nodup
   rw[yZ];exact g.fr.nd
  ·show YL _ (Hm (Mo M ((some v,Slot.e)::(zw c ars++([]++O.zip E2)))) H2)
   rw[h];exact g.st.same
def YR:Ls AR->Bool
 | []=>true| .tmp _::as=>YR as| .ln _::_=>false
theorem vB:∀{as:Ls AR} {E E':za} {a:Ls Slot},YR as=true->zJ as E=.ok (a,E')->E'=E
 | [],E,E',a,_,e=>by cases e;rfl
 | .tmp d::as,E,E',a,h,e=>by
  dsimp[zJ]at e;cases q:zJ as E with
  |z=>rw[q]at e;cases e|y _ _=>rw[q]at e;cases e|ok p=>obtain⟨c,E1⟩:=p;rw[q]at e;cases e;exact vB (as:=as) h q
 | .ln i::as,E,E',a,h,e=>by cases h
def jN(F:MF)(as:Ls Arg):ME:=λE=>match zn as E with
 | .z=>.z| .y x E1=>.y x E1
 | .ok (a,E1)=>match zJ a E1 with
  | .ok (e,E2)=>match F e with
   | .ok (r,c)=>match zN a c E1 E2 with
    | .ok E3=>.ok (r,E3)|_=>.z
   | .y x _=>if YR a=true then .y ⟨x.cls,false,x.vs⟩ E1 else .z| .z=>.z
  |_=>.z
def zFA(hn:ars.length=n)(l:zJ ars E1=.ok (ss,E2))(w:F ss=.ok (r,outs))(o:zN ars outs E1 E2=.ok E3)
  (h:AV O ars vs) (g:Got K mg M O E H [] O E1 H1 (zw vs ars)) (k:∀v H',Got K mg M O E H [] O E3 H' [(some v,r.slot)]->Q v H'):spM K mg n F vs H1 Q XQ:=by
 obtain⟨y,z,I,u⟩:=WL (T:=[]) ars g.len h l g.fr;have c:FR K mg M H1 (O.zip E2++(vs.map some).zip ss):=FR.perm (T:=O.zip E2++(vs.map some).zip ss) (Z:=(vs.map some).zip ss++O.zip E2) y perm_append_comm;have a:=h.length;refine⟨a.trans hn,Mo M (O.zip E2),ss,I.trans a.symm,c.inner,?_⟩;rw[w];intro v H' J x q;have B:=FR.outer c x q;have t:=Step.outer q;have p:(O.zip E2++((some v,r.slot)::(vs.map some).zip outs)).Perm ([(some v,r.slot)]++((vs.map some).zip outs++O.zip E2)):=by
  refine perm_append_comm.trans ?_;exact List.Perm.refl _
 obtain⟨G,D,C⟩:=vb ars u h o (B.perm p);refine k v H' ⟨C,G,?_,g.pk.trans (zCj l o)⟩;have e:Step M H (O.zip E) H1 (O.zip E2++(vs.map some).zip ss):=g.st.weak λb j=>(z b).mpr (zD (T:=O.zip E2++(vs.map some).zip ss) (Z:=(vs.map some).zip ss++O.zip E2) perm_append_comm b j)
 have i:=e.trans t;exact i.weak λb j=>zD p.symm b (D b j)
def zFB(hn:ars.length=n)(u:YR ars=true)(o:zJ ars E1=.ok (ss,E2))(v:F ss=.y x outs)
  (l:AV O ars vs) (g:Got K mg M O E H [] O E1 H1 (zw vs ars)) (k:∀C e H',mg x.cls=some (.ref C)->Fs e H' x.cls x.vs->Got K mg M O E H [] O E1 H' []->XQ (.ref C) e H'):spM K mg n F vs H1 Q XQ:=by
 obtain⟨r,w,t,B⟩:=WL (T:=[]) ars g.len l o g.fr;have c:FR K mg M H1 (O.zip E2++(vs.map some).zip ss):=FR.perm (T:=O.zip E2++(vs.map some).zip ss) (Z:=(vs.map some).zip ss++O.zip E2) r perm_append_comm;have a:=l.length;refine⟨a.trans hn,Mo M (O.zip E2),ss,t.trans a.symm,c.inner,?_⟩;rw[v];intro C e H' q hf z p;have j:=FR.outer c z p;have i:=Step.outer p;rw[append_nil]at j i;have h:Step M H (O.zip E) H1 (O.zip E2++(vs.map some).zip ss):=g.st.weak λb y=>(w b).mpr (zD (T:=O.zip E2++(vs.map some).zip ss) (Z:=(vs.map some).zip ss++O.zip E2) perm_append_comm b y)
 obtain rfl:=vB u o;exact k C e H' q hf ⟨g.len,j,h.trans i,g.pk⟩
theorem je:∀(as:Ls Arg) {E E':za} {c:Ls AR},zn as E=.ok (c,E')->c.length=as.length
 | [],E,E',c,e=>by cases e;rfl
 | .ev m::as,E,E',c,e=>by
  dsimp[zn]at e;cases h:m E with
  |z=>rw[h]at e;cases e|y _ _=>rw[h]at e;cases e
  |ok p =>
   obtain⟨r,E1⟩:=p;rw[h]at e;dsimp at e;cases g:zn as E1 with
   |z=>rw[g]at e;cases e|y _ _=>rw[g]at e;cases e|ok p=>obtain⟨a,b⟩:=p;rw[g]at e;cases e;simp[je as g]
 | .lend i::as,E,E',c,e=>by
  dsimp[zn]at e;split at e
  ·cases e
  ·cases g:zn as E with
   |z=>rw[g]at e;cases e|y _ _=>rw[g]at e;cases e|ok p=>obtain⟨a,b⟩:=p;rw[g]at e;cases e;simp[je as g]
def zAC{as:Ls Arg}(hn:as.length=n)(h:tM X (jN F as) O H Q):zE8 X as O H λl H1=>spM X.K X.mg n F l H1 Q (EX X O):=by
 obtain⟨M,E,hl,t,k⟩:=h;unfold jN at k;refine WN (T0:=[]) hl t ?_;exists ea,zn as E,k,ars,E1;intro l H1 j g;dsimp at k;cases c:zJ ars E1 with
 |z=>rw[c]at k;exact k.elim|y _ _=>rw[c]at k;exact k.elim
 |ok p =>
  obtain⟨v,E2⟩:=p;rw[c]at k;dsimp at k;cases a:F v with
  |z=>rw[a]at k;exact k.elim
  |y x o =>
   rw[a]at k;cases hl:YR ars with
   |false=>rw[hl]at k;exact k.elim
   |true =>
    rw[hl]at k;exact zFB ((je as ea).trans hn) hl c a j g λC w H' q hf u=>⟨⟨x.cls,false,x.vs⟩,C,rfl,q,rfl,hf,k H' u⟩
  |ok p =>
   obtain⟨r,e⟩:=p;rw[a]at k;dsimp at k;cases i:zN ars e E1 E2 with
   |z=>rw[i]at k;exact k.elim|y _ _=>rw[i]at k;exact k.elim
   |ok E3 =>
    rw[i]at k;exact zFA ((je as ea).trans hn) c a i j g k
inductive Mask:Fz->Fz->Prop
 |nil (Z:Fz):Mask Z []
 |keep {z:Option V×Slot} {Z W:Fz}:Mask Z W->Mask (z::Z) (z::W)
 |skip {z:Option V×Slot} {Z W:Fz}:Mask Z W->Mask (z::Z) W
 |extra {o:Option V} {Z W:Fz}:Mask Z W->Mask Z ((o,.e)::W)
def Mask.emq(h:Mask Z W):Mask (z::Z) ((o,.e)::W):=.skip (.extra h)
theorem Mask.sub:∀{Z W:Fz},Mask Z W->(yE W).Sublist (yE Z)
 |_,_,.nil Z=>by simp[yE]
 |_,_,.keep (z:=z) (Z:=Z) (W:=W) h=>by
  have e:∀W:Fz,yE (z::W)=yE [z]++yE W:=λW=>zc [z] W
  rw[e Z,e W];exact h.sub.append_left _
 |_,_,.skip (z:=z) (Z:=Z) (W:=W) h=>by
  have e:∀W:Fz,yE (z::W)=yE [z]++yE W:=λW=>zc [z] W
  rw[e Z];exact h.sub.trans (sublist_append_right _ _)
 |_,_,.extra (Z:=Z) (W:=W) h=>by
  rw[yZ];exact h.sub
theorem Mask.mem:∀{Z W:Fz},Mask Z W->∀o s,s≠Slot.e->(o,s)∈W->(o,s)∈Z
 |_,_,.nil Z,o,s,a,h=>by cases h
 |_,_,.keep h,o,s,a,q=>by
  rcases mem_cons.mp q with q|q
  ·subst q;exact qE
  ·exact qD _ (h.mem o s a q)
 |_,_,.skip h,o,s,a,q=>qD _ (h.mem o s a q)
 |_,_,.extra h,o,s,a,q=>by
  rcases mem_cons.mp q with q|q
  ·cases q;exact absurd rfl a
  ·exact h.mem o s a q
def FR.mask(f:FR K mg M H Z)(h:Mask Z W):FR K mg M H W where
 val:=λo d q=>by
  obtain⟨v,e,r⟩:=f.val o d (h.mem o _ (by intro z;cases z) q);exact⟨v,e,r.mono (ji (Je λb c=>h.sub.subset c))⟩
 own:=λo s j q e=>by
  obtain⟨a,i,k,g,l,r⟩:=f.own o s j (h.mem o s (by intro z;subst z;cases e) q) e;exact⟨a,i,k,g,l,r.mono (ji (Je λb c=>h.sub.subset c))⟩
 nd:=f.nd.sublist h.sub
 mal:=f.mal
def zo:Ls Slot->za->Ls Slot
 | [],_=>[]| .p _::ss,s::E=>s::zo ss E|_::ss,_::E=>.e::zo ss E|_::ss,[]=>.e::zo ss []
def fnM(N:Nat)(body:MS):MF:=λa=>match body (a++replicate (N-a.length) .e)with
 | .ok (.ret r,E')=>.ok (r,zo a E')| .ok (.nx,E')=>.ok (.v .non,zo a E')| .y x E'=>.y x (zo a E')|_=>.z
theorem zg:∀(a:Ls Slot) (E:za),(zo a E).length=a.length
 | [],_=>rfl| .p _::a,s::E=>by simp[zo,zg a E]| .e::a,s::E=>by simp[zo,zg a E]| .v _::a,s::E=>by simp[zo,zg a E]| .w _::a,s::E=>by simp[zo,zg a E]| .m _ _::a,s::E=>by simp[zo,zg a E]| .p _::a,[]=>by simp[zo,zg a []]| .e::a,[]=>by simp[zo,zg a []]| .v _::a,[]=>by simp[zo,zg a []]| .w _::a,[]=>by simp[zo,zg a []]| .m _ _::a,[]=>by simp[zo,zg a []]
theorem Zs:∀(c:Ls Slot) (a:Ls (Lx V)) (O:St) (E:za),E.length=O.length->a.length=c.length->(∀(i:Nat) g,c[i]?=some (.p g)->O[i]?=a[i]?)->Mask (O.zip E) (a.zip (zo c E))
 | [],a,O,E,_,_,_=>by
  dsimp[zo,List.zip_nil_right];exact .nil _
 |s::c,[],O,E,_,h,_=>by simp at h|s::c,v::a,[],y::E,h,_,_=>by simp at h|s::c,v::a,x::O,[],h,_,_=>by simp at h
 |s::c,v::a,[],[],k,h2,h4=>by
  have j:=Zs c a [] [] rfl (by exists h2) λi g e=>by
   have:=h4 (i+1) g (by exists e);exists this
  cases s<;>exact .extra j
 |s::c,v::a,x::O,y::E,k,h2,h4=>by
  have j:=Zs c a O E (by exists k) (by exists h2) λi g e=>by
   have:=h4 (i+1) g (by exists e);exists this
  cases s with
  |p g =>
   have e:=h4 0 g rfl;simp at e;subst e;exact .keep j
  |e=>dsimp[zo,zip_cons_cons];exact .emq j|v d=>dsimp[zo,zip_cons_cons];exact .emq j|w g=>dsimp[zo,zip_cons_cons];exact .emq j|m l a=>dsimp[zo,zip_cons_cons];exact .emq j
theorem QC:∀n:Nat,(replicate n (none:Lx V)).zip (replicate n Slot.e)=replicate n (none,Slot.e)
 |0=>rfl|n+1=>by simp[replicate_succ,QC n]
def vd(n:Nat):yE (replicate n ((none:Lx V),Slot.e))=[]:=by
 induction n with
 |zero=>rfl|succ n a=>rw[replicate_succ,yZ,a]
def FR.emps(f:FR K mg M H Z)(n:Nat):FR K mg M H (Z++replicate n (none,.e)):=by
 have c:yE (Z++replicate n (none,Slot.e))=yE Z:=by rw[zc,vd,append_nil]
 have a:Mo M (Z++replicate n (none,Slot.e))=Mo M Z:=by unfold Mo;rw[c]
 refine⟨λo d q=>?_,λo s g q e=>?_,by rw[c];exact f.nd,f.mal⟩
 ·rw[a]
  rcases mem_append.mp q with q|q
  ·exact f.val o d q
  ·have:=eq_of_mem_replicate q;cases this
 ·rw[a]
  rcases mem_append.mp q with q|q
  ·exact f.own o s g q e
  ·have:=eq_of_mem_replicate q;cases this;cases e
def body_ok(B:∀x O' H',(∀C j,X.mg x.cls=some (.ref C)->Fs j H' x.cls x.vs->XQ (.ref C) j H')->XE X O' H' x)(h:spM X.K X.mg n (fnM N.length body) vs H Q XQ):tS X body {nx:=λ_ H'=>Q .non H',rt:=Q} (L2.wu N vs) H:=by
 obtain⟨hv,M,a,hl,f,k⟩:=h;have o:(L2.wu N vs).zip (a++replicate (N.length-a.length) Slot.e)=(vs.map some).zip a++replicate (N.length-a.length) (none,.e):=by
  unfold L2.wu;rw[List.zip_append (by simp[hl]),hl,QC]
 have G:(a++replicate (N.length-a.length) Slot.e).length=(L2.wu N vs).length:=by
  unfold L2.wu;simp[hl]
 have w:FR X.K X.mg M H ((L2.wu N vs).zip (a++replicate (N.length-a.length) Slot.e)):=by rw[o];exact f.emps _
 have q:∀b,b∈yE ((L2.wu N vs).zip (a++replicate (N.length-a.length) Slot.e))->b∈yE ((vs.map some).zip a):=λb c=>by
  rw[o,zc,vd,append_nil]at c;exact c
 refine⟨M,a++replicate (N.length-a.length) Slot.e,G,w,?_⟩;unfold fnM at k;have fin:∀{O':St} {E':za} {H':Hp} {v:V} {r:R},Got X.K X.mg M (L2.wu N vs) (a++replicate (N.length-a.length) Slot.e) H [] O' E' H' [(some v,r.slot)] ->
   (∀v H',(zo a E').length=vs.length->FR X.K X.mg M H' ((some v,r.slot)::(vs.map some).zip (zo a E'))->Step M H ((vs.map some).zip a) H' ((some v,r.slot)::(vs.map some).zip (zo a E'))->Q v H')->Q v H':=λ{O' E' H' v r} g J=>by
  have mk:Mask (O'.zip E') ((vs.map some).zip (zo a E')):=Zs a _ O' E' g.len (by simp[hl]) λi t e=>by
   have E:i<a.length:=(qG.mp e).1;have D:(a++replicate (N.length-a.length) Slot.e)[i]?=some (.p t):=by rw[getElem?_append_left E];exact e
   have:=(g.pk i t D).2;rw[this];unfold L2.wu;rw[getElem?_append_left (by simp;omega)]
  refine J v H' (by rw[zg,hl]) (g.fr.mask (.keep mk)) ?_;exact(g.st.weak λb c=>(Mask.keep mk).sub.subset c).left q
 cases l:body (a++replicate (N.length-a.length) Slot.e)with
 |z=>rw[l]at k;exact k
 |y x E' =>
  rw[l]at k;intro O' H' g;refine B x O' H' λC j u hf=>k C j H' u hf (g.fr.sub (List.nil_sublist _)) ?_
  exact(g.st.weak λb c=>by cases c).left q
 |ok p =>
  obtain⟨I,E'⟩:=p;rw[l]at k;cases I with
  |bk=>exact k.elim|ct=>exact k.elim|ret r=>exact λv O' H' g=>fin g k|nx=>exact λO' H' g=>fin (r:=.v .non) (g.flat (d:=.non) rfl) k
end
section
variable{P:Lc}{w:Le}{K:qH}{mg:Str->Lx Lv}{base:Heap}
def fn_ok(F:Fun K x qual st f fd)(S:FnScope N ps (zY st))
  (p:∀(a:Lv) (A:Lg) (outer:Ls Env) (s:La) (H:Hp) (E:XK),(c=true->A.handled=none)->RoomN k (A.deeper (PyProof.Rows.envOfC qual (zY st) s.heap.objs.size f a)) ->
   uJ (cxN c P w K mg base N qual (zY st) f a A outer s H E) (yk st) body):FnOkN c P w K mg base (k+1) f fd ps (spM K mg ps.length (fnM N.length body)):=by
 obtain⟨v,t,kV,l,r,y,a,u,g,rfl,n,e⟩:=F.ex;exact zGl n e S (λj H Q E h=>h.1) λA outer s H j Q E q i h=>⟨_,p a A outer s H E q i,body_ok (X:=cxN c P w K mg base N qual (zY st) f a A outer s H E) (λx O' H' o=>zEj o) h⟩
end
section
variable{X:Cx}{k:Nat}{f:Lz}{fd:FuncData}{ps:Ls Str}{F:MF}{x:Str}{p pos:Pos}{e:Lb}{es:Ls Lb}{as:Ls Arg}
def ok_call(G:FnOkN c X.prog X.w X.K X.mg X.base k f fd ps (spM X.K X.mg ps.length F))(hd:c=true->X.A.handled=none)(h:RoomN k X.A)(o:Gl X x)(j:X.mg x=some (.ref f))(l:keepIn X.K (.ref f)=true)(n:wt X.K fd ps [])(q:zE9 X (e::es) as)(hn:as.length=ps.length:=by rfl)
  (g:(x==("__debug__":Str))=false:=by decide) (i:zW e=false:=by rfl) (a:yO es=true:=by rfl):EOk X (.Call (.Name x p) (e::es) [] pos) (jN F as) :=
 zb (zEi G hd h o j l n q g (zM i) (y4 a)) λO H Q=>zAC hn
end
section
variable{X:Cx}{O:St}{H:Hp}
def zFC(y:PE X fe tf)(z:PA X (e::es) ta)
  (u:eval (.Call fe (e::es) [] pos) X.env=(do callWith pos (<- eval fe X.env) [] (backTo pos (starEach (e::es) X.env)) (backToKw pos (keywordEach [] X.env))):=by rfl)
  (p:zW e=false:=by rfl) (g:yO es=true:=by rfl) :
  PE X (.Call fe (e::es) [] pos) (λO H Q=>tf O H λv H1=>∃f l i k j,v=.ref f/\keepIn X.K (.ref f)=true/\(∃c,FnOkN c X.prog X.w X.K X.mg X.base k f l i j/\(c=true->X.A.handled=none))/\RoomN k X.A/\wt X.K l i []/\ta O H1 λn H2=>j n H2 Q (EX X O)):=by
 intro a s O H Q I h;refine PyProof.Rows.Call_ (thn (y a s O H _ I h) λv E z9=>?_) u;obtain⟨x,H1,I1,C,f,l,i,k,j,o,t,⟨c,G,B⟩,w,D,q⟩:=z9;subst o;cases C;refine callWith_K (h₀:=X.base) I1.ok.mod.kin t (thn (z pos a E O H1 _ I1 q) λJ K ⟨n,H2,I2,r,q⟩=>⟨I2.kIn,?_⟩) (zM p) (y4 g);exact zCH G B w D I2 r q
def zBK(X:Cx)(n:Nat)(a:Str->Lx MF):Prop:=∀x F,a x=some F->∃f g e k,X.mg x=some (.ref f)/\keepIn X.K (.ref f)=true/\(∃c,FnOkN c X.prog X.w X.K X.mg X.base k f g e (spM X.K X.mg n F)/\(c=true->X.A.handled=none))/\RoomN k X.A/\wt X.K g e []
def WO(a:Str->Lx MF)(c:ME)(as:Ls Arg):ME:=λE=>match c E with
 | .z=>.z| .y x E1=>.y x E1
 | .ok (.v (.fn x),E1)=>match a x with
  |some F=>jN F as E1|none=>.z
 |_=>.z
def zCk{a:Str->Lx MF}{as:Ls Arg}(D:zBK X n a)(hn:as.length=n)(h:tM X (WO a mf as) O H Q) :
  tM X mf O H λv H1=>∃f l j k C,v=.ref f/\keepIn X.K (.ref f)=true/\(∃c,FnOkN c X.prog X.w X.K X.mg X.base k f l j C/\(c=true->X.A.handled=none))/\RoomN k X.A/\wt X.K l j []/\zE8 X as O H1 λS H2=>C S H2 Q (EX X O):=by
 obtain⟨M,E,hl,V,k⟩:=h;unfold WO at k;refine ze (T0:=[]) hl V ?_;exists ea,mf E,k,r,E1;cases r with
 |w Z=>exact k.elim|m _ _=>exact k.elim
 |v d =>
  cases d with
  |fn x =>
   intro v H1 g;dsimp at k;exists et,a x,k,F;have B:=g.rep;dsimp[R.d,Rep]at B;obtain⟨f,rfl,I⟩:=B;obtain⟨Y,l,j,K,e,J,G,L,W⟩:=D x F et;rw[I]at e;cases e;refine⟨f,l,j,K,_,rfl,J,G,L,W,?_⟩;have i:=g.dropAll;have q:tM X (jN F as) O H1 Q:=by
    refine ze (T0:=[]) i.len i.fr ?_;dsimp at k;cases o:jN F as E1 with
    |z=>rw[o]at k;exact k|y x E2=>rw[o]at k;exact λH'' t=>k H'' (i.trans' t)|ok p=>rw[o]at k;exact λu H'' t=>k u H'' (i.trans' t)
   exact zAC hn q
  |_=>exact k.elim
def zFD{as:Ls Arg}{a:Str->Lx MF}(k:zBK X n a)(h:EOk X fe mf)(j:zE9 X (e::es) as)(hn:as.length=n:=by rfl)
  (i:eval (.Call fe (e::es) [] pos) X.env=(do callWith pos (<- eval fe X.env) [] (backTo pos (starEach (e::es) X.env)) (backToKw pos (keywordEach [] X.env))):=by rfl)
  (g:zW e=false:=by rfl) (c:yO es=true:=by rfl):EOk X (.Call fe (e::es) [] pos) (WO a mf as) :=
 zb (zFC h j i g c) λO H Q=>zCk k hn
end
end DV
namespace L2
open PySem PySem.Spec PyProof.Rows
def Inv.big(I:Inv X pins O H s):sysModules<s.heap.objs.size:=by
 have h:mainGlobals<s.heap.objs.size:=(I.mod.glob.keeps I.bk).lt;exact lt_trans (by decide) h
def cxB(X:Cx)(N:Ls Str)(a:Scope)(cl:Ls (Str×Lz))(C:Lz)(ex:Ls Lz)(s:La)(H:Hp):Cx :=
 {X with N:=N,s₀:=s,H₀:=H,env:=compEnvC a cl C X.env,outer:=X.stack,ex:=ex,fn:=λy=>a.names.lookup y==some NameKind.cell,pn:=[]}
def zFE(X:Cx)(e:Ls Lb)(t:TT):Prop:=∀(a:Ls (Lz×Obj)) (s:La) (O:St) (H:Hp) (Q:Bool->Hp->Prop),Inv X a O H s->t O H Q ->
 wpAny (model X.prog X.w) X.A (forIn e true λc r=>if r=true then do let ok <- isTrue c X.env (eval c X.env);pure (ForInStep.yield ok)else pure (ForInStep.yield r)) (TP X a O Q) X.xe s
def pif_nil:zFE X [] (λO H Q=>Q true H):=λa s O H Q I h=>wpAny_tests_nil ⟨H,I,h⟩
def pif_one(h:PT X c t):zFE X [c] t:=λa s O H Q I q=>wpAny_tests_one (h a s O H Q I q)
def yu(nl:Nat)(caps:Ls Nat)(O:St):St:=replicate nl none++caps.map λj=>(O[j]?).getD none
def zGv(p:Pos)(t:Lb)(fs:Ls Lb)(it:Lv)(env:Env)(a:Sem PySem.Fin->Sem PySem.Fin)(k:Sem PySem.Fin):Sem PySem.Fin:=do
 standAt p
 let r <- pyNext it
 match r with
 |none=>pure (.done .next)
 |some v=>do
  letOwnedTupleGo t it v
  assign t env v
  let ok <- forIn fs true λc r=>if r=true then do let ok <- isTrue c env (eval c env);pure (ForInStep.yield ok)else pure (ForInStep.yield r)
  if ok=true then a k else k
abbrev TAc:=Lz->St->Hp->(St->Hp->Prop)->Prop
def PAc(Y:Cx)(c:Lv->Env->Sem PySem.Fin->Sem PySem.Fin)(g:TAc):Prop:=∀(D:Lz) (a:Ls (Lz×Obj)) (s:La) (O:St) (H:Hp) (Nx:St->Hp->Prop) (k:Sem PySem.Fin) (Q:PySem.Fin->La->Prop) (E:Ly),Inv Y a O H s->g D O H Nx ->
 (∀O' H' e,Inv Y a O' H' e->Nx O' H'->wpAny (model Y.prog Y.w) Y.A k Q E e)->wpAny (model Y.prog Y.w) Y.A (c (.ref D) Y.env k) Q E s
def Trn(J:It)(g:TG)(tt:TT)(e:TAc)(D:Lz)(c:St->Hp->Prop)(O:St)(H:Hp):Prop:=∃W:Nat->Nat->St->Hp->Prop,(∃m,W 0 m O H)/\∀i m O' H',W i m O' H' ->
 (J.stop i H'/\c O' H')\/(J.go i H'/\∃N2:St->Hp->Prop,(∀O'' H'',N2 O'' H''->∃a,a<m/\W (i+1) a O'' H'')/\∀x H'',J.yld i H' x H''->g x O' H'' λO2 H2 =>
  tt O2 H2 λb H3=>if b=true then e D O2 H3 N2 else N2 O2 H3)
def zFF(e:Lz->HO)(nl:Nat)(caps:Ls Nat)(c:TI)(g:TG)(tt:TT)(a:TAc):TE:=λO H Q=>c O H λJ H1=>∀D,H1 D=none->Trn J g tt a D (λ_ H'=>Q (.ref D) H') (yu nl caps O) (upd H1 D (e D))
def LoopN(P:Lc)(w:Le)(g:Lb):Prop:=∀d e c a,(Code.compLoop g d e c a).quiet=true/\(∀A:Lg,A.under (.compLoop g d e c a)=A)/\(model P w).den (.compLoop g d e c a)=(compTurn g d e c a).onRaise (λx=>do noteFrame x a;theTreesLotGoes x)
def QD{C:Lm}{k:Lv->Env->Sem PySem.Fin->Sem PySem.Fin}{R:Result->La->Prop}{Z:St->Hp->Prop} 
  (hL:LoopN Y.prog Y.w ce) (M:∀e s,¬Y.xe e s) (S:Y.calm=true) (hg:PG Y t g) (ht:zFE Y fs tt) (he:PAc Y k ta)
  (hT:compTurn ce d (.ref it) (.ref D) Y.env=zGv p t fs (.ref it) Y.env (k (.ref D) Y.env) (again (.compLoop ce d (.ref it) (.ref D) Y.env)))
  (T:Turn Y.prog Y.w Y.K t J fp it C) (c:∀{H':Hp},(∀b∈fp,H' b=none)->∀b∈fp,Qv Y pins H' b) (I:Inv Y pins O H s) (st:C 0 s.heap) (fr:∀b∈fp,H b=none) (h:Trn J g tt ta D Z O H)
  (hR:∀O' H' a,Inv Y pins O' H' a->Z O' H'->R (.ok .next) a):codeAny (model Y.prog Y.w) Y.A (.compLoop ce d (.ref it) (.ref D) Y.env) R s:=by
 obtain⟨W,⟨m0,w0⟩,step⟩:=h;obtain⟨l1,l2,l3⟩:=hL d (.ref it) (.ref D) Y.env;refine codeAny_loop l1 (λn a=>∃i O' H',Inv Y pins O' H' a/\C i a.heap/\(∀b∈fp,H' b=none)/\W i n O' H') (λn L h5=>?_) m0 ⟨0,O,H,I,st,fr,w0⟩;obtain⟨i,O5,H5,I5,l,B,w5⟩:=h5;rw[l2,l3];refine wpAny_noted ?_;rw[hT];refine qB (wpAny_standAt (qB ?_));rcases step i n O5 H5 w5 with⟨v,q⟩|⟨go,N2,hN,w⟩
 ·refine wpAny_mono (T.done Y rfl rfl rfl S i pins L O5 H5 (λ_ _=>False) I5 (c B) l v) (λr Q y=>?_) (λ_ _ z=>z.elim)
  obtain⟨K,I6⟩:=y;subst K;exact qC (hR O5 H5 Q I6 q)
 ·refine wpAny_mono (T.item Y rfl rfl rfl S i pins L O5 H5 (λ_ _=>False) I5 (c B) l go) (λr Q y=>?_) (λ_ _ z=>z.elim)
  obtain⟨u,K,y⟩:=y;subst K;refine qB (wpAny_mono y (λ_ X h7=>?_) (λ_ _ z=>z.elim));obtain⟨x,H7,I7,r7,y7,j,G⟩:=h7;have I7':=I7.pinned (c G) (T.obj _ _ j);refine qB (wpAny_mono (hg _ X O5 H7 x u _ I7' r7 (w x H7 y7)) (λ_ s8 h8=>?_) (λ_ _ z=>absurd z (M _ _)));obtain⟨O8,H8,I8,q8⟩:=h8;refine qB (wpAny_mono (ht _ s8 O8 H8 _ I8 q8) (λb s9 h9=>?_) (λ_ _ z=>absurd z (M _ _)));obtain⟨H9,I9,V⟩:=h9;have again:∀{O7:St} {H':Hp} {a:La},Inv Y (pins++uP fp X.heap) O7 H' a->N2 O7 H'->∃m,m<n/\∃i O' H',Inv Y pins O' H' a/\C i a.heap/\(∀b∈fp,H' b=none)/\W i m O' H':=λ{O7 H' a} I' n7=>by
   obtain⟨m',hm,w7⟩:=hN O7 H' n7;refine⟨m',hm,i+1,O7,H',I'.unpinned,T.keep _ _ _ j λb E o e=>(I'.pin (b,o) (qK _ (qK _ (JM E e)))).1,λb E=>?_,w7⟩;obtain⟨o,e,d⟩:=T.obj _ _ j b E;exact(I'.pin (b,o) (qK _ (qK _ (JM E e)))).2.1
  cases b with
  |false =>
   exact qC ⟨rfl,again I9 V⟩
  |true =>
   exact he D _ s9 O8 H9 N2 _ _ _ I9 V λO' H' a I' n'=>qC ⟨rfl,again I' n'⟩
theorem Jg{env:Env}:∀{a:Ls (Str×NameKind)} {x:Str} {k:NameKind},(a.map λ(n,k)=>if(k==NameKind.free&&env.scope.kind==.function&&env.kindOf n==some .cell)then(n,NameKind.cell)else(n,k)).lookup x=some k ->
  ∃i,a.lookup x=some i/\(k=i\/(i=.free/\k=.cell))
 | [],_,_,h=>by simp at h
 | (n,e)::r,x,k,h=>by
  have l:=@Jg env r x k;rw[map_cons]at h;by_cases g:(e==NameKind.free&&env.scope.kind==.function&&env.kindOf n==some .cell)=true
  ·dsimp[g,if_true]at h
   cases c:x==n with
   |true =>
    dsimp[lookup_cons,c]at h ⊢;cases h;refine⟨e,rfl,.inr ⟨?_,rfl⟩⟩;dsimp[Bool.and_eq_true,beq_iff_eq]at g;exact g.1.1
   |false=>dsimp[lookup_cons,c]at h ⊢;exact l h
  ·have j:(e==NameKind.free&&env.scope.kind==.function&&env.kindOf n==some .cell)=false:=by exists g
   dsimp[j,Bool.false_eq_true,if_false]at h;cases c:x==n with
   |true=>dsimp[lookup_cons,c]at h ⊢;cases h;exact⟨e,rfl,.inl rfl⟩|false=>dsimp[lookup_cons,c]at h ⊢;exact l h
theorem ZP{env:Env}:∀{a:Ls (Str×NameKind)} {x:Str},a.lookup x=some .free->env.scope.kind=.function->env.kindOf x=some .cell ->
  (a.map λ(n,k)=>if(k==NameKind.free&&env.scope.kind==.function&&env.kindOf n==some .cell)then(n,NameKind.cell)else(n,k)).lookup x=some .cell
 | [],_,h,_,_=>by simp at h
 | (n,o)::r,x,h,i,j=>by
  have l:=@ZP env r x;rw[map_cons];cases c:x==n with
  |true =>
   have:x=n:=by exists c
   subst this;dsimp[lookup_cons,c]at h;cases h;have:(NameKind.free==NameKind.free&&env.scope.kind==.function&&env.kindOf x==some .cell)=true:=by simp[i,j]
   dsimp[this,if_true,lookup_cons,c]
  |false =>
   dsimp[lookup_cons,c]at h;by_cases g:(o==NameKind.free&&env.scope.kind==.function&&env.kindOf n==some .cell)=true
   ·dsimp[g,if_true,lookup_cons,c];exact l h i j
   ·have e:(o==NameKind.free&&env.scope.kind==.function&&env.kindOf n==some .cell)=false:=by exists g
    dsimp[e,Bool.false_eq_true,if_false,lookup_cons,c];exact l h i j
def zBe(env:Env):Ls (Str×NameKind)->Ls (Str×Lz)->Ls (Str×Lz)
 | [],a=>a| (n,k)::r,a=>if k==.free then zBe env r ((n,(env.cells.lookup n).getD 0)::a)else zBe env r a
theorem Y1:∀(a:Ls (Str×NameKind)) (e:Ls (Str×Lz)),(∀y∈a,y.2=.free->∃c,env.cells.lookup y.1=some c) ->
  (forIn a e (λx r=>if(x.snd==NameKind.free)=true then do
    let c <- cellOf env x.fst
    pure (ForInStep.yield ((x.fst,c)::r))
   else pure (ForInStep.yield r)):Sem (Ls (Str×Lz)))=pure (zBe env a e)
 | [],e,_=>by rfl
 | (n,k)::r,e,h=>by
  rw[forIn_cons];by_cases g:(k==NameKind.free)=true
  ·obtain⟨c,j⟩:=h (n,k) qE (by exists g)
   have l:cellOf env n=pure c:=by unfold cellOf;rw[j]
   rw[if_pos g,l];show(forIn r ((n,c)::e) _:Sem (Ls (Str×Lz)))=_;rw[Y1 r _ λy i=>h y (qD _ i)]
   conv=>rhs;unfold zBe
   rw[if_pos g,j];rfl
  ·rw[if_neg g]
   show(forIn r e _:Sem (Ls (Str×Lz)))=_
   rw[Y1 r _ λy i=>h y (qD _ i)]
   conv=>rhs;unfold zBe
   rw[if_neg g]
theorem wQ:∀(a:Ls (Str×NameKind)) (j:Ls (Str×Lz)) (x:Str),(∀y∈a,y.2=.free->∃c,env.cells.lookup y.1=some c)->(∀c,j.lookup x=some c->env.cells.lookup x=some c) ->
  (∀c,(zBe env a j).lookup x=some c->env.cells.lookup x=some c)/\(((∃c,j.lookup x=some c)\/∃y∈a,y.1=x/\y.2=.free)->∃c,(zBe env a j).lookup x=some c)
 | [],j,x,_,i=>⟨i,λh=>h.elim id λ⟨y,g,_⟩=>by cases g⟩
 | (n,k)::r,j,x,h,i=>by
  unfold zBe;by_cases t:(k==NameKind.free)=true
  ·rw[if_pos t]
   obtain⟨c,w⟩:=h (n,k) qE (by exists t);have l:=wQ r ((n,(env.cells.lookup n).getD 0)::j) x (λy g=>h y (qD _ g)) (λv e=>by
    rw[lookup_cons]at e;cases p:x==n with
    |true =>
     have:x=n:=by exists p
     subst this;rw[p]at e;dsimp[w,Option.getD_some]at e;rw[w];exact e
    |false=>rw[p]at e;exact i v e)
   refine⟨l.1,λq=>l.2 ?_⟩;rcases q with⟨v,q⟩|⟨y,g,u,o⟩
   ·apply Or.inl
    rw[lookup_cons];cases p:x==n with
    |true=>exact⟨_,rfl⟩|false=>exact⟨v,q⟩
   ·rcases mem_cons.mp g with g|g
    ·subst g
     apply Or.inl
     subst u;exact⟨(env.cells.lookup n).getD 0,by rw[lookup_cons,beq_self_eq_true]⟩
    ·right;exact⟨y,g,u,o⟩
  ·rw[if_neg t]
   have l:=wQ r j x (λy g=>h y (qD _ g)) i;refine⟨l.1,λq=>l.2 ?_⟩;rcases q with q|⟨y,g,u,o⟩
   ·exact .inl q
   ·rcases mem_cons.mp g with g|g
    ·subst g
     exact absurd (by exists o) t
    ·exact .inr ⟨y,g,u,o⟩
theorem WP:∀(a:Ls (Str×NameKind)) (h:Heap) (g:Ls (Str×Lz)) (x:Str) (c:Lz),(cellsFrom h.objs.size a g).lookup x=some c ->
  g.lookup x=some c\/((x,NameKind.cell)∈a/\h.objs.size<=c/\(pushCells h a).IsCell c none)
 | [],h,g,x,c,e=>.inl e
 | (n,k)::r,h,g,x,c,e=>by
  unfold cellsFrom at e;unfold pushCells;split at e
  ·rename_i i
   rw[if_pos i];have sz:(h.push {cls:=.type "cell",data:=.cell none}).objs.size=h.objs.size+1:=size_push ..;rw[<- sz]at e;rcases WP r (h.push {cls:=.type "cell",data:=.cell none}) _ x c e with q|⟨l,o,t⟩
   ·rw[lookup_cons]at q
    cases p:x==n with
    |true =>
     rw[p]at q;cases q;have j:x=n:=by exists p
     have u:k=.cell:=by exists i
     subst j;subst u;exact .inr ⟨qE,le_refl _,⟨_,pushCells_keeps _ _ _ _ (get?_push_size _ rfl),rfl⟩⟩
    |false=>rw[p]at q;exact .inl q
   ·exact .inr ⟨qD _ l,by rw[sz]at o;omega,t⟩
  ·rename_i i
   rw[if_neg i];rcases WP r h g x c e with q|⟨l,o,t⟩
   ·exact .inl q
   ·exact .inr ⟨qD _ l,o,t⟩
theorem vf:∀(a:Ls (Str×NameKind)) (n:Nat) (c:Ls (Str×Lz)) (x:Str),(x,NameKind.cell)∉a->(cellsFrom n a c).lookup x=c.lookup x
 | [],n,c,x,_=>rfl
 | (y,k)::r,n,c,x,h=>by
  dsimp[mem_cons,not_or]at h;unfold cellsFrom;split
  ·rename_i j
   rw[vf r _ _ x h.2,lookup_cons];cases i:x==y with
   |true =>
    have e:x=y:=by exists i
    have g:k=.cell:=by exists j
    subst e;subst g;exact absurd rfl h.1
   |false=>rfl
  ·exact vf r _ _ x h.2
theorem zCl:∀(a:Ls (Str×NameKind)) (n:Nat) (g:Ls (Str×Lz)) (x:Str) (c:Lz),(x,NameKind.cell)∈a->(cellsFrom n a g).lookup x=some c->n<=c
 | [],_,_,_,_,h,_=>by cases h
 | (y,k)::r,n,g,x,c,h,e=>by
  unfold cellsFrom at e;by_cases i:(x,NameKind.cell)∈r
  ·split at e
   ·exact Nat.le_of_succ_le (zCl r _ _ x c i e)
   ·exact zCl r _ _ x c i e
  ·rcases mem_cons.mp h with q|q
   ·cases q
    rw[if_pos (by rfl),vf r _ _ _ i,lookup_cons,beq_self_eq_true]at e;cases e;exact le_refl _
   ·exact absurd q i
theorem zCm:∀(i:Ls (Str×NameKind)) (n:Nat) (a:Ls (Str×Lz)),(∀x y c,a.lookup x=some c->a.lookup y=some c->x=y)->(∀x c,a.lookup x=some c->c<n) ->
  ∀x y c,(cellsFrom n i a).lookup x=some c->(cellsFrom n i a).lookup y=some c->x=y
 | [],n,a,o,_,x,y,c,h,g=>o x y c h g
 | (z,k)::r,n,a,o,p,x,y,c,h,g=>by
  unfold cellsFrom at h g;split at h
  ·refine zCm r (n+1) ((z,n)::a) (λx y c h g=>?_) (λx c e=>?_) x y c h (by rename_i u;rwa [if_pos u]at g)
   ·rw[lookup_cons]at h g
    cases j:x==z with
    |true =>
     rw[j]at h;cases h;have t:x=z:=by exists j
     cases l:y==z with
     |true =>
      have q:y=z:=by exists l
      rw[t,q]
     |false=>rw[l]at g;exact absurd (p y _ g) (lt_irrefl _)
    |false =>
     rw[j]at h;cases l:y==z with
     |true=>rw[l]at g;cases g;exact absurd (p x _ h) (lt_irrefl _)|false=>rw[l]at g;exact o x y c h g
   ·rw[lookup_cons]at e
    cases j:x==z with
    |true=>rw[j]at e;cases e;exact Nat.lt_succ_self _|false=>rw[j]at e;exact lt_succ_of_lt (p x c e)
  ·exact zCm r n a o p x y c h (by rename_i u;rwa [if_neg u]at g)
def Zj{E:Ly}{Q:Env->La->Prop}
  (h:Q (newEnv scope s.heap.objs.size globals (cellsFrom (s.heap.objs.size+1) scope.names cl) qual none .none (some env) builtinsNs) {s with heap:=pushCells (s.heap.push {cls:=.type "dict",data:=.dict #[]}) scope.names}) :
  wpAny M A (newFunctionEnv scope globals cl [] qual none .none (some env)) Q E s:=by
 dsimp[newFunctionEnv,Option.isSome_some,if_true];refine qB (wpAny_alloc ?_);refine qB (wpAny_layCells _ (λg a e=>by cases c:a==NameKind.cell<;>simp[c]) _ _ _ _ ?_);rw[show({s with heap:=s.heap.push {cls:=.type "dict",data:=.dict #[]}}:La).heap.objs.size=s.heap.objs.size+1 from size_push ..]
 exact qB (qC (qC h))
structure CNd(P:Lc)(w:Le)(ce target iter:Lb)(ifs:List Lb)(ma:Sem Lv)(ob:Obj)(o0:Lz->HO)(act:Lv->Env->Sem PySem.Fin->Sem PySem.Fin)(gs:List Comprehension)(p:Pos):Prop where
 cl:clausesOf ce=⟨target,iter,ifs,0⟩::gs
 lp:LoopN P w ce
 new:∀{A:Lg} {E:Ly} {s:La} {Q:Ly},Q (.ref s.heap.objs.size) {s with heap:=s.heap.push ob}->wpAny (model P w) A ma Q E s
 lay:∀(h:Heap) (H:Hp),sysModules<h.objs.size->zz P w H (h.push ob) h.objs.size (o0 h.objs.size)
 st:∀{A:Lg} {it acc:Lv} {env:Env} {R:Result->La->Prop} {s:La},codeAny (model P w) A (.compLoop ce 0 it acc env) R s->wpAny (model P w) A (pyIter it) (λit' s'=>codeAny (model P w) A (.compLoop ce 0 it' acc env) R s') (notedBy (model P w) A env λx s'=>R (.error x) s') s ->
  codeAny (model P w) A (.compStart ce 0 it acc env) R s
 tn:∀it acc env,compTurn ce 0 it acc env=zGv p target ifs it env (act acc env) (again (.compLoop ce 0 it acc env))
structure CSc(X:Cx)(scope:Scope)(nl:Nat)(caps:List Nat)(N':Ll):Prop where
 hx:∀e s,¬X.xe e s
 hc:X.calm=true
 kind:scope.kind=.function
 nm:∀y∈scope.names,y.2=.local->scope.names.lookup y.1=some .local
 ce:∀y∈scope.names,y.2=.cell->scope.names.lookup y.1=some .cell
 fr:(scope.names.all λy=>y.2 != .free||X.env.kindOf y.1==some .cell)=true
 ln:N'.length=nl+caps.length
 cp:∀(i j:Nat),caps[i]?=some j->∃x,N'[nl+i]?=some x/\X.N[j]?=some x/\scope.names.lookup x=some .free
section
variable{X:Cx}{ce target iter:Lb}{ifs:Ls Lb}{scope:Scope}{nl:Nat}{caps:Ls Nat}{N':Ls Str}{mk:Sem Lv}{ob:Obj}{o0:Lz->HO}{act:Lv->Env->Sem PySem.Fin->Sem PySem.Fin}{gs:Ls Comprehension}{p p0:Pos}{wi:TI}{g:TG}{tt:TT}{ta:TAc}
def uq{use:Lx (Lv->Sem Unit)}{QQ:Ly}(C:CSc X scope nl caps N')(N:CNd X.prog X.w ce target iter ifs mk ob o0 act gs p)
  (hi:PI X target iter wi) (hg:∀t C ex s H,PG (cxB X N' scope t C ex s H) target g) (ht:∀t C ex s H,zFE (cxB X N' scope t C ex s H) ifs tt) (he:∀t C ex s H,PAc (cxB X N' scope t C ex s H) act ta)
  (hs:∀x,foldedSetIterable iter X.env x=pure x) (I:Inv X pins O H s) (h:zFF o0 nl caps wi g tt ta O H Q)
  (aj:∀(D C:Lz) (H5:Hp) (s6:La) (m6:Str->Lx Lv),Inv X pins O H5 s6->Qv X pins H5 C->s6.heap.Ns C m6->Q (.ref D) H5->compPost (model X.prog X.w) X.A X.xe use QQ (.ref D) C (.ok .next) s6) :
  wpAny (model X.prog X.w) X.A (comprehension ce scope X.env p0 mk false (eval iter X.env) use) QQ X.xe s:=by
 have ag:∀y∈scope.names,y.2=.free->X.env.kindOf y.1=some .cell:=λy hy e=>by
  have:=all_eq_true.mp C.fr y hy;rw[e]at this;exists this
 have aa:∀y∈scope.names,y.2=.free->∃c,X.env.cells.lookup y.1=some c:=λy hy e=>I.ok.has y.1 (.inl (ag y hy e))
 have G:closureFor scope X.env=pure (zBe X.env scope.names []):=by
  dsimp[closureFor];rw[Y1 scope.names [] aa];rfl
 have n:∀x c,(zBe X.env scope.names []).lookup x=some c->X.env.cells.lookup x=some c:=λx c e=>(wQ scope.names [] x aa (λ_ z=>by cases z)).1 c e
 have ae:∀x,(∃y∈scope.names,y.1=x/\y.2=.free)->∃c,(zBe X.env scope.names []).lookup x=some c:=λx q=>(wQ scope.names [] x aa (λ_ z=>by cases z)).2 (.inr q)
 generalize zBe X.env scope.names []=t at G n ae;refine wpAny_comprehension_free (use:=use) N.cl hs G C.kind C.nm (thn (hi pins s O H _ I h) λxv s1 h1=>thn h1 λa0 a h2=>?_);obtain⟨it,L,tn,J,H2,e,I2,T,R,f2,ah⟩:=h2;subst e;refine N.new (Zj ?_);dsimp;generalize ab:a.heap.push ob=h3;have hC:h3.objs.size=a.heap.objs.size+1:=by rw[<- ab,size_push]
 have hD:H2 a.heap.objs.size=none:=I2.hok.fresh (le_refl _);have av:=ah a.heap.objs.size hD
 -- the state at the block's entry
 have I3:Inv X pins O (upd H2 a.heap.objs.size (o0 a.heap.objs.size)) {a with heap:=h3}:=by
  rw[<- ab];exact I2.laid (t':=a.toks) (λb o q=>qA _ q) (le_refl _) (N.lay _ _ (Inv.big I2))
 have an:∀x,scope.names.lookup x=some .free->(x,NameKind.cell)∉scope.names:=λx e z=>by
  have:=C.ce _ z rfl;rw[e]at this;cases this
 have ao:(h3.push {cls:=.type "dict",data:=.dict #[]}).objs.size=h3.objs.size+1:=size_push ..;have cw:∀x c,(cellsFrom (h3.objs.size+1) scope.names t).lookup x=some c->t.lookup x=some c\/((x,NameKind.cell)∈scope.names/\h3.objs.size+1<=c/\(pushCells (h3.push {cls:=.type "dict",data:=.dict #[]}) scope.names).IsCell c none):=λx c e=>by
  rw[<- ao]at e ⊢;exact WP _ _ _ x c e
 have ac:∀x,scope.names.lookup x=some .free->(cellsFrom (h3.objs.size+1) scope.names t).lookup x=t.lookup x:=λx e=>vf _ _ _ x (an x e)
 have S:∀x,scope.names.lookup x=some .cell->∃c,(cellsFrom (h3.objs.size+1) scope.names t).lookup x=some c:=λx e=>by
  have:=cellsFrom_some scope.names (h3.objs.size+1) t (x:=x) (.inl e);exact Option.isSome_iff_exists.mp this
 have aw:∀x c,t.lookup x=some c->c<h3.objs.size:=λx c e=>by
  obtain⟨v,q⟩:=I3.cell x c (n x c e);exact q.lt
 have W:=zCm scope.names (h3.objs.size+1) t (λx y c e1 r=>I.ok.inj x y c (n x c e1) (n y c r)) λx c e=>lt_succ_of_lt (aw x c e)
 have B:(pushCells (h3.push {cls:=.type "dict",data:=.dict #[]}) scope.names).Ns h3.objs.size λ_=>none:=(Heap.Ns.new h3 (.type "dict")).keeps (pushCells_keeps _ _)
 have E:∀b o,h3.get? b=some o->(pushCells (h3.push {cls:=.type "dict",data:=.dict #[]}) scope.names).get? b=some o:=λb o e=>pushCells_keeps _ _ b o (qA _ e)
 generalize az:pushCells (h3.push {cls:=.type "dict",data:=.dict #[]}) scope.names=h₁ at B E cw ⊢;generalize aq:cellsFrom (h3.objs.size+1) scope.names t=cs at cw ac S W ⊢;have ap:∀b∈L,b≠a.heap.objs.size:=λb l z=>by
  obtain⟨o,e,_⟩:=T.obj 0 a.heap R b l;subst z;exact absurd (lt_size e) (lt_irrefl _)
 have ay:∀b∈L,upd H2 a.heap.objs.size (o0 a.heap.objs.size) b=none:=λb l=>by rw[zG (ap b l)];exact(f2 b l).1
 have ai:∀b∈L,b≠h3.objs.size:=λb l z=>by
  obtain⟨o,e,_⟩:=T.obj 0 a.heap R b l;have q:b<a.heap.objs.size:=lt_size e;rw[z,hC]at q;exact absurd q (not_lt.mpr (le_succ _))
 have ax:upd H2 a.heap.objs.size (o0 a.heap.objs.size) h3.objs.size=none:=I3.hok.fresh (le_refl _);have w:∀b∈L,(b∈X.ex\/X.s₀.heap.objs.size<=b)/\b≠X.env.locals/\(∀x c,X.env.cells.lookup x=some c->c≠b)/\∀p∈X.pn++pins,p.1≠b:=λb l=>by
  obtain⟨_,q2,_,q4,q5,q6⟩:=f2 b l;exact⟨q4,q2,q5,q6⟩
 have au:∀b∈L,b<h3.objs.size:=λb l=>by
  obtain⟨o,e,_⟩:=T.obj 0 a.heap R b l;have q:b<a.heap.objs.size:=lt_size e;rw[hC];exact lt_succ_of_lt q
 have Z:∀b∈L,∀x c,cs.lookup x=some c->c≠b:=λb l x c e=>by
  rcases cw x c e with q|⟨_,q,_⟩
  ·exact(w b l).2.2.1 x c (n x c q)
  ·intro z;subst z
   exact absurd (lt_of_lt_of_le (au _ l) (Nat.le_of_succ_le q)) (lt_irrefl _)
 let Y:Cx:=cxB X N' scope cs h3.objs.size L {a with heap:=h3} (upd H2 a.heap.objs.size (o0 a.heap.objs.size))
 have K:∀x k,Y.env.kindOf x=some k->∃k0,scope.names.lookup x=some k0/\(k=k0\/(k0=.free/\k=.cell)):=λx k e=>Jg e
 have am:Y.Ok:={
  mod:=I.ok.mod
  kind:=C.kind
  glob:=I.ok.glob
  blt:=I.ok.blt
  above:=le_refl _
  inj:=W
  has:=λx q=>by
   have:scope.names.lookup x=some .cell\/scope.names.lookup x=some .free:=by
    rcases q with q|q
    ·obtain⟨k0,e,z⟩:=K x _ q
     rcases z with z|z
     ·subst z;exact .inl e
     ·rw[z.1]at e;exact .inr e
    ·obtain⟨k0,e,z⟩:=K x _ q
     rcases z with z|z
     ·subst z;exact .inr e
     ·rw[z.1]at e;exact .inr e
   rcases this with q|q
   ·exact S x q
   ·obtain⟨c,e⟩:=ae x ⟨(x,.free),PySem.mem_of_lookup q,rfl,rfl⟩
    exact⟨c,by show cs.lookup x=_;rw[ac x q];exact e⟩
  cab:=λx c z e=>by
   have z:scope.names.lookup x=some .cell:=by
    have z:(scope.names.lookup x==some NameKind.cell)=true:=z;exists z
   have e:cs.lookup x=some c:=e;rw[<- aq]at e;exact le_trans (le_succ _) (zCl _ _ _ x c (PySem.mem_of_lookup z) e)
  hd:=I.ok.hd
  frames:=I.ok.frames
  stk:=.inl rfl
  exf:=λb l=>⟨ai b l,Z b l⟩
  bs:=λb o e=>I3.bs b o e
  bsz:=le_trans I.ok.bsz I3.sz
  noex:=λb o e l=>by
   obtain⟨q,_⟩:=w b l;rcases q with q|q
   ·exact I.ok.noex b o e q
   ·exact absurd (lt_of_lt_of_le (lt_size e) I.ok.bsz) (not_lt.mpr q)
  exfs:=λb l z=>by
   have:=I2.stkSub b z;rcases mem_cons.mp this with q|q
   ·exact(w b l).2.1 q
   ·exact(f2 b l).2.2.1 q
  funs:=I3.stack
  frf:=I3.stkFree}
 have ad:∀b o,h3.get? b=some o->h₁.get? b=some o:=E;have ak:(yu nl caps O).length=N'.length:=by unfold yu;simp[C.ln]
 have IY:Inv Y [] (yu nl caps O) (upd H2 a.heap.objs.size (o0 a.heap.objs.size)) {a with heap:=h₁}:={
  ok:=am
  os:=rfl
  bare:=I3.bare
  base:=Un.kept ad
  loc:=by
   refine⟨_,B,λi x v e1 r e3=>?_⟩;have e1:N'[i]?=some x:=e1;have hi:nl<=i:=by
    by_cases z:nl<=i
    ·exact z
    ·unfold yu at r
     rw[getElem?_append_left (by simp;omega),List.getElem?_replicate]at r;split at r<;>cases r
   unfold yu at r;rw[List.getElem?_append_right (by exists hi),List.length_replicate,getElem?_map]at r;exists ej,caps[i-nl]?,r,j;dsimp[Option.map_some,Option.some.injEq]at r;obtain⟨V,c1,c2,c3⟩:=C.cp (i-nl) j ej;have ex:V=x:=by
    rw[show nl+(i-nl)=i by omega,e1]at c1;exact(qJ c1).symm
   subst ex;have e4:O[j]?=some (some v):=by
    cases z:O[j]? with
    |none=>rw[z]at r;cases r|some o=>rw[z]at r;simp at r;rw[r]
   have kx:X.env.kindOf V=some .cell:=ag (V,.free) (PySem.mem_of_lookup c3) rfl;obtain⟨mm,_,lk⟩:=I3.loc;obtain⟨u,ru,lu⟩:=lk j V v c2 e4 (.inr (.inl kx));refine⟨u,ru,?_⟩;rcases lu with⟨z,_⟩|⟨_,c,d1,d2⟩
   ·rw[kx]at z;cases z
   ·obtain⟨c',d3⟩:=ae V ⟨(V,.free),PySem.mem_of_lookup c3,rfl,rfl⟩
    have:c'=c:=by have:=n V c' d3;rw[d1]at this;exact(qJ this).symm
    subst this;exact .inr ⟨.inl (ZP c3 I.ok.kind kx),c',by show cs.lookup _=_;rw[ac V c3];exact d3,d2.keeps E⟩
  cell:=λx c e=>by
   rcases cw x c e with e|⟨_,_,q⟩
   ·obtain⟨v,q⟩:=I3.cell x c (n x c e)
    exact⟨v,q.keeps E⟩
   ·exact⟨_,q⟩
  free:=ax
  freeC:=λx c e=>by
   rcases cw x c e with e|⟨_,q,_⟩
   ·exact I3.freeC x c (n x c e)
   ·exact I3.hok.fresh (le_trans (le_succ _) q)
  pin:=λp hp=>absurd (show p∈([]:Ls (Lz×Obj))from hp) (by simp)
  hok:=I3.hok.kept E
  len:=ak}
 have af:tn 0 h₁:=T.keep 0 a.heap h₁ R λb l o e=>E b o (by rw[<- ab];exact qA _ e)
 have ar:∀{H':Hp},(∀b∈L,H' b=none)->∀b∈L,Qv Y [] H' b:=λhn b l =>
  ⟨hn b l,ai b l,am.exfs b l,.inl l,Z b l,λp hp=>absurd (show p∈([]:Ls (Lz×Obj))from hp) (by simp)⟩
 have fin:∀M:La,M={a with heap:=h₁}->codeAny (model X.prog X.w) X.A (.compLoop ce 0 (.ref it) (.ref a.heap.objs.size) Y.env) (compPost (model X.prog X.w) X.A X.xe use QQ (.ref a.heap.objs.size) h3.objs.size) M:=by
  rintro M rfl
  refine QD (Y:=Y) N.lp C.hx C.hc (hg _ _ _ _ _) (ht _ _ _ _ _) (he _ _ _ _ _) (N.tn _ _ _) T ar IY af ay av λO5 H5 s6 I6 q=>?_
  obtain⟨m6,n6,_⟩:=I6.loc;have u:Un (frs X.stack) L (upd H2 a.heap.objs.size (o0 a.heap.objs.size)) H5 h3 s6.heap:=I6.base;have I7:Inv X pins O H5 s6:=I3.call' (s':=s6) (ch:=L) I6.os u I6.hok I6.bare w;exact aj _ _ H5 s6 m6 I7 (I3.fpOk (le_refl _) I6.free) n6 q
 exact N.st (fin _ rfl) (T.self X.A 0 _ _ _ af (fin _ rfl))
def pe_comp(C:CSc X scope nl caps N')(N:CNd X.prog X.w ce target iter ifs mk ob o0 act gs p)(G:PI X target iter wi)(w:∀c C a s H,PG (cxB X N' scope c C a s H) target g)(n:∀c C a s H,zFE (cxB X N' scope c C a s H) ifs tt)(u:∀c C a s H,PAc (cxB X N' scope c C a s H) act ta)
  (r:∀x,foldedSetIterable iter X.env x=pure x) (E:eval ce X.env=comprehension ce scope X.env p0 mk false (eval iter X.env)):PE X ce (zFF o0 nl caps wi g tt ta):=by
 intro j s O H Q I h;rw[E];refine uq (use:=none) C N G w n u r I h λD C H5 v y I7 f B q=>?_
 refine⟨y,B,λM i=>?_⟩;obtain⟨t,l,R,L,J,k⟩:=f;exact⟨.ref D,H5,I7.turned (it:=C) (t':=v.toks) (λb o K e=>i.extBut b o K e) t (λz=>l z) L J k,rfl,q⟩
def ps_setC(K:X.N.Nodup)(n:X.N[i]?=some y)(hy:Loc X.env.scope y)(Z:X.fn y=true\/X.env.scope.names.lookup y=some .local)(C:CSc X scope nl caps N')(N:CNd X.prog X.w ce target iter ifs mk ob o0 act gs p)
  (hi:PI X target iter wi) (V:∀k C j s H,PG (cxB X N' scope k C j s H) target g) (L:∀k C j s H,zFE (cxB X N' scope k C j s H) ifs tt) (R:∀k C j s H,PAc (cxB X N' scope k C j s H) act ta)
  (M:∀x,foldedSetIterable iter X.env x=pure x) (w:swapsWith ce (some (.Name y py)) spos.line X.env=pure true)
  (hv:∀u,evalThenUse ce X.env u=(do let _ <- comprehension ce scope X.env p0 mk false (eval iter X.env) (some u))) :
  PS X (.Assign [.Name y py] ce spos) (tAsg (zFF o0 nl caps wi g tt ta) (Gv i)):=by
 intro c s O H D I h;rw[exec_Assign_Name_used _ _ _ _ w];refine qB (wpAny_standAt (qB ?_));rw[hv];refine qB (wpAny_mono (uq (use:=some (assign (.Name y py) X.env)) (QQ:=λ_ E=>SP X c D .next E) C N hi V L R M I h λDa C H5 S m6 I7 f n6 q=>?_) (λ_ E W=>qC (qC W)) λ_ _ e=>e);obtain⟨Q,B,f3,f4,G,J⟩:=f;show wpAny _ X.A (assign (.Name y py) X.env (.ref Da)) _ _ S;refine wpAny_assign_Name (uN I7 K n hy (v:=.ref Da) rfl (λs7 I8 ⟨a,Y,l⟩=>?_) Z);have r:C≠a:=by
  rcases l with l|l
  ·rw[l];exact B
  ·exact λz=>G y a l z.symm
 refine⟨m6,n6.sameBut Y r,λh' t=>?_⟩;exact⟨_,H5,I8.turned (it:=C) (t':=s7.toks) (λb o hb e=>t.extBut b o hb e) Q (λz=>B z) f4 G J,q⟩
end
def act1(a:Lb):Lv->Env->Sem PySem.Fin->Sem PySem.Fin:=λe c k=>do
 (do let x <- eval a c;let _ <- call (.builtin "list.append") [e,x];pure ())
 k
def ta1(c:TE):TAc:=λD O H Nx=>c O H λy H4=>∃a,H4 D=some (.l a)/\a.length<sizeLine/\Nx O (upd H4 D (.l (a++[y])))
def pa_elt(p:∀e s,¬Y.xe e s)(w:PE Y elt te):PAc Y (act1 elt) (ta1 te):=λD a s O H Nx k Q E I h B=>by
 unfold act1;refine qB (qB (wpAny_mono (w a s O H _ I h) (λy n o=>?_) λ_ _ z=>absurd z (p _ _)));obtain⟨q,H10,I10,j,x,r,hz,c⟩:=o;have t:=uX (X:=Y) _ n O H10 (.ref D) [q] (.ref D) [y] (λv H'=>Nx O H') I10 rfl (.cons j .nil) ⟨_,x,q,rfl,rfl,r,hz,c⟩;refine qB (wpAny_mono t (λ_ g i=>?_) λ_ _ z=>absurd z (p _ _));obtain⟨u,H11,I11,_,l⟩:=i;exact qC (B O H11 g I11 l)
abbrev lstO:Obj:={cls:=.type "list",data:=.seq #[]}
def zFG(h:Heap)(H:Hp)(_:sysModules<h.objs.size):zz P w H (h.push lstO) h.objs.size (.l []):=⟨zero_le _,[],0,.nil,get?_push_size _ rfl⟩
def mk_list{E:Ly}{Q:Ly}(h:Q (.ref s.heap.objs.size) {s with heap:=s.heap.push lstO}):wpAny (model P w) A (newList []) Q E s :=
 wpAny_newObj_type h (by show(#[]:Li).size<=sizeLine;simp)
def zCn:CNd P w (.ListComp elt [⟨target,iter,ifs,0⟩] scope pos) target iter ifs (newList []) lstO (λ_=>.l []) (act1 elt) [] iter.pos :=
 ⟨rfl,λ_ _ _ _=>⟨rfl,λ_=>rfl,rfl⟩,mk_list,zFG,λa h=>codeAny_compStart_list a h,λ_ _ _=>rfl⟩
end L2
namespace DV
open PySem L2
section
variable{X:Cx}{K:qH}{mg:Str->Lx Lv}{O:St}{M:Ld}{E:za}{H:Hp}{T0 Z T:Fz}
structure ItOk(K:qH)(mg:Str->Option Lv)(J:It)(ds:List D)(Iv:Hp->Prop):Prop where
 mono:∀H H',YL H H'->Iv H->Iv H'
 go:∀i Hh H,YL Hh H->Iv Hh->i<ds.length->J.go i H
 yld:∀i Hh H x H',YL Hh H->Iv Hh->i<ds.length->J.yld i H x H'->∃d,ds[i]?=some d/\((H'=H/\Rep K mg Hh d x)\/∃q xs es,H q=none/\H'=upd H q (.t xs)/\x=.ref q/\d=.t es/\Reps K mg Hh es xs)
 stop:∀i Hh H,YL Hh H->Iv Hh->ds.length<=i->J.stop i H
abbrev MI:=za->Out (Ls D×za)
def tMI(X:Cx)(m:MI):TI:=λO H R=>∃M E,E.length=O.length/\FR X.K X.mg M H (O.zip E)/\match m E with
 | .z=>False| .ok (ds,E')=>∀J Iv H',ItOk X.K X.mg J ds Iv->Iv (Hm (Mo M (O.zip E')) H')->Got X.K X.mg M O E H [] O E' H' []->R J H'| .y x E'=>∀H',Got X.K X.mg M O E H [] O E' H' []->XE X O H' x
abbrev IOk(X:Cx)(tg e:Lb)(m:MI):Prop:=PI X tg e (tMI X m)
def ur(h:PI X tg e t)(i:∀O H R,t' O H R->t O H R):PI X tg e t':=λa s O H R I q=>h a s O H R I (i O H R q)
def iL(m:ME):MI:=λE=>match m E with
 | .z=>.z| .y x E1=>.y x E1
 | .ok (r,E1)=>match r.d with
  | .l a=>.ok (a,E1)|_=>.z
def iT(m:ME):MI:=λE=>match m E with
 | .z=>.z| .y x E1=>.y x E1
 | .ok (r,E1)=>match r.d with
  | .t a=>.ok (a,E1)|_=>.z
def it_list:ItOk K mg (Itl K a) ds (λH=>SqL K H a xs/\Reps K mg H ds xs) where
 mono:=λH H' s h=>⟨s.seq h.1,h.2.mono s⟩
 go:=λi Hh H s h c=>⟨xs,xs[i]'(by rw[h.2.length];exact c),s.seq h.1,by simp⟩
 yld:=λi Hh H x H' s h c y=>by
  obtain⟨e,y⟩:=y;obtain⟨d,g,h2⟩:=h.2.get (y xs (s.seq h.1));exact⟨d,g,.inl ⟨e,h2⟩⟩
 stop:=λi Hh H s h c=>⟨xs,s.seq h.1,by rw[h.2.length];exact c⟩
def it_tup:ItOk K mg (Itt K a) ds (λH=>SqT K H a xs/\Reps K mg H ds xs) where
 mono:=λH H' s h=>⟨zI s h.1,h.2.mono s⟩
 go:=λi Hh H s h c=>⟨xs,xs[i]'(by rw[h.2.length];exact c),zI s h.1,by simp⟩
 yld:=λi Hh H x H' s h c y=>by
  obtain⟨e,y⟩:=y;obtain⟨d,g,h2⟩:=h.2.get (y xs (zI s h.1));exact⟨d,g,.inl ⟨e,h2⟩⟩
 stop:=λi Hh H s h c=>⟨xs,zI s h.1,by rw[h.2.length];exact c⟩
def ut:∀(n i:Nat) (a:Int),i<n->(zP a n)[i]?=some (.int (a+i)):=λn i a h=>by
 have:=wP n i a h;have e:((zP a n).drop i)[0]?=some (.int (a+i)):=by rw[this];rfl
 exists e
def it_rng:ItOk K mg (Itr lo n) (zP lo n) (λ_=>True) where
 mono:=λ_ _ _ h=>h
 go:=λi Hh H s h a=>by rw[yW]at a;exact a
 yld:=λi Hh H x H' s h a y=>by
  obtain⟨e,y⟩:=y;rw[yW]at a;exact⟨_,ut n i lo a,.inl ⟨e,by rw[y];dsimp[Rep]⟩⟩
 stop:=λi Hh H s h a=>by rw[yW]at a;exact a
def io_list(h:EOk X e m):IOk X tg e (iL m):=ur (zBq h) λO H R ⟨M,E,hl,p,k⟩=>by
 unfold iL at k;refine ze (T0:=[]) hl p ?_;exists ea,m E,k,r,E1;intro v H1 g;dsimp at k;cases c:r.d with
 |l q =>
  rw[c]at k;have i:=g.rep;rw[c]at i;obtain⟨a,o,rfl,j,n⟩:=zu i;exact⟨a,rfl,⟨o,zF.seq j⟩,k _ _ H1 it_list ⟨j,n⟩ g.dropAll⟩
 |_=>rw[c]at k;exact k.elim
def io_tup(h:EOk X e m):IOk X tg e (iT m):=ur (zGg h) λO H R ⟨M,E,hl,o,k⟩=>by
 unfold iT at k;refine ze (T0:=[]) hl o ?_;exists ea,m E,k,r,E1;intro v H1 g;dsimp at k;cases c:r.d with
 |t p =>
  rw[c]at k;have i:=g.rep;rw[c]at i;obtain⟨a,n,rfl,j,l⟩:=yS i;exact⟨a,rfl,⟨n,zI zF j⟩,k _ _ H1 it_tup ⟨j,l⟩ g.dropAll⟩
 |_=>rw[c]at k;exact k.elim
def iR1(m:MA):MI:=λE=>match m E with
 | .z=>.z| .y x E1=>.y x E1
 | .ok ([r],E1)=>match r.d with
  | .int j=>if -(2^62)<=j/\j<2^62 then .ok (zP 0 j.toNat,E1)else .z|_=>.z
 |_=>.z
def io_r1(e:Gl X "range")(n:X.mg "range"=none)(t:AOk X [a] m)(g:zW a=false:=by rfl):IOk X tg (.Call (.Name "range" p) [a] [] cpos) (iR1 m):=ur (uO e n t (zCR g)) λO H R ⟨M,E,hl,o,k⟩=>by
 unfold iR1 at k;refine Jr (T0:=[]) hl o ?_;exists ea,m E,k,rs,E1
 match rs,k with
 | [r],k =>
  intro u H1 hv l;have i:=Got.reps hv l;dsimp at k;cases h:r.d with
  |int j =>
   rw[h]at k;dsimp[List.map,h]at i;obtain⟨v,rfl,q⟩:=Ju i;dsimp at k;by_cases c:-(2^62)<=j/\j<2^62
   ·rw[if_pos c]at k
    exact⟨j,by rw[zS q],c.1,c.2,k _ _ H1 it_rng trivial l.dropAll⟩
   ·rw[if_neg c]at k;exact k.elim
  |_=>rw[h]at k;exact k.elim
 | [],k=>exact k.elim|_::_::_,k=>exact k.elim
structure Ak(α:Type) where
 r:α->R
 z:α
 o:Lz->HO
abbrev Ak.s{α:Type}(k:Ak α)(a:α):Slot:=(k.r a).slot
abbrev MC(α:Type):=za->α->Out (α×za)
def JV{α:Type}(tg:MG)(tt:MT)(ma:MC α):Ls D->za->α->Out (α×za)
 | [],E,a=>.ok (a,E)
 |d::e,E,a=>match tg d E with
  | .ok E1=>match tt E1 with
   | .ok (true,E2)=>match ma E2 a with
    | .ok (c,E3)=>JV tg tt ma e E3 c|_=>.z
   | .ok (false,E2)=>JV tg tt ma e E2 a|_=>.z
  |_=>.z
def ma1(el:ME):MC (Ls D):=λE a=>match el E with
 | .ok (r,E3)=>if a.length<cap then .ok (a++[r.d],E3)else .z|_=>.z
def JW(E:za):Ls Nat->Out (Ls AR)
 | []=>.ok []
 |j::a=>match E[j]? with
  |some (.v d)=>match JW E a with
   | .ok as=>.ok (.tmp d::as)|_=>.z
  |some s=>match s.list? with
   |some _=>match JW E a with
    | .ok as=>.ok (.ln j::as)|_=>.z
   |none=>.z
  |none=>.z
def YS{α:Type}(k:Ak α)(nl:Nat)(caps:Ls Nat)(h:MI)(tg:MG)(tt:MT)(ma:MC α):ME:=λE=>match h E with
 | .z=>.z| .y x E1=>.y x E1
 | .ok (g,E1)=>match JW E1 caps with
  | .ok a=>match zJ a E1 with
   | .ok (e,E2)=>match JV tg tt ma g (replicate nl .e++e) k.z with
    | .ok (c,Eb)=>match zN a ((zo (replicate nl .e++e) Eb).drop nl) E1 E2 with
     | .ok E3=>.ok (k.r c,E3)|_=>.z
    |_=>.z
   |_=>.z
  |_=>.z
abbrev akL:Ak (Ls D):=⟨.w,[],λ_=>.l []⟩
abbrev vg(tg:MG)(tt:MT)(el:ME):=JV tg tt (ma1 el)
abbrev QE(nl:Nat)(caps:Ls Nat)(a:MI)(tg:MG)(tt:MT)(el:ME):ME:=YS akL nl caps a tg tt (ma1 el)
def QF:MT:=λE=>.ok (true,E)
abbrev zGw(X:Cx)(a:Ls Lb)(m:MT):Prop:=zFE X a (tMT X m)
def vh(h:zFE X ifs t)(i:∀O H Q,t' O H Q->t O H Q):zFE X ifs t':=λa s O H Q I q=>h a s O H Q I (i O H Q q)
def ifk_nil:zGw X [] QF:=vh pif_nil λO H Q ⟨M,E,hl,a,k⟩=>k H (Got.refl (T0:=[]) hl a)
def QG(h:TOk X c m):zGw X [c] m:=pif_one h
theorem zCo:∀(h:Ls Nat) {as:Ls AR} {T:Fz},E.length=O.length->JW E h=.ok as->FR K mg M H (T++O.zip E) ->
  ∃c,AV O as c/\c.map some=h.map (λj=>(O[j]?).getD none)/\FR K mg M H (T++(zw c as++O.zip E))/\∀b,b∈yE (T++(zw c as++O.zip E))->b∈yE (T++O.zip E)
 | [],as,T,hl,e,f=>by
  cases e;exact⟨[],by dsimp[AV],rfl,f,λb q=>q⟩
 |j::h,as,T,hl,e,f=>by
  dsimp[JW]at e;exists ej,E[j]?,e,s;obtain⟨o,C,h2⟩:=jk hl ej;have l:∀{k:Ls D},s.list?=some k->(match JW E h with | .ok as=>Out.ok (AR.ln j::as)|_=>.z)=.ok as->∃c,AV O as c/\c.map some=(j::h).map (λj=>(O[j]?).getD none)/\FR K mg M H (T++(zw c as++O.zip E))/\∀b,b∈yE (T++(zw c as++O.zip E))->b∈yE (T++O.zip E):=λ{k} Q e=>by
   cases i:JW E h with
   |z=>rw[i]at e;cases e|y _ _=>rw[i]at e;cases e
   |ok g =>
    rw[i]at e;cases e;obtain⟨a,X,ev,_⟩:=f.ownL o s k (qK _ h2) Q;subst ev;obtain⟨c,G,B,n,t⟩:=zCo h hl i f;have p:(T++(((some (V.ref a),Slot.e)::zw c g)++O.zip E)).Perm ((some (V.ref a),Slot.e)::(T++(zw c g++O.zip E))):=perm_middle;have J:FR K mg M H ((some (V.ref a),Slot.e)::(T++(zw c g++O.zip E))):=n.mask (.extra (by
     have:∀W:Fz,Mask W W:=by
      intro W
      induction W with
      |nil=>exact .nil _|cons x W L=>exact .keep L
     exact this _))
    refine⟨.ref a::c,by dsimp[AV];exact⟨_,c,rfl,C,G⟩,by simp[C,B],J.perm p.symm,λb I=>?_⟩;have:=zD p b I;exact t b this
  cases s with
  |e=>cases e|w k=>exact l rfl e|p k=>exact l rfl e|m _ _=>cases e
  |v d =>
   cases i:JW E h with
   |z=>rw[i]at e;cases e|y _ _=>rw[i]at e;cases e
   |ok g =>
    rw[i]at e;cases e;obtain⟨v,ev,r⟩:=f.val o d (qK _ h2);subst ev;obtain⟨c,G,B,n,t⟩:=zCo h hl i f;obtain⟨S,u,R⟩:=n.val (some v) d (qK _ (qK _ h2));cases u;have p:(T++(((some v,Slot.v d)::zw c g)++O.zip E)).Perm ((some v,Slot.v d)::(T++(zw c g++O.zip E))):=perm_middle;refine⟨v::c,by dsimp[AV];exact⟨v,c,rfl,G⟩,by simp[C,B],(n.add R).perm p.symm,λb I=>?_⟩;have:=zD p b I;rw[zZ]at this;exact t b this
def zCp(n:Nat)(Z:Fz):yE (replicate n ((none:Lx V),Slot.e)++Z)=yE Z:=by rw[zc,vd,nil_append]
def FR.emps0(f:FR K mg M H Z)(n:Nat):FR K mg M H (replicate n (none,.e)++Z):=(f.emps n).perm perm_append_comm
end
def tN(K:qH)(a:Str->Lx Lv)(m:ME):TE:=λO H Q=>∃M E,E.length=O.length/\FR K a M H (O.zip E)/\match m E with
 | .ok (r,E')=>∀v H',Got K a M O E H [] O E' H' [(some v,r.slot)]->Q v H'|_=>False
def tNT(K:qH)(a:Str->Lx Lv)(m:MT):TT:=λO H Q=>∃M E,E.length=O.length/\FR K a M H (O.zip E)/\match m E with
 | .ok (b,E')=>∀H',Got K a M O E H [] O E' H' []->Q b H'|_=>False
section
variable{X:Cx}{K:qH}{mg:Str->Lx Lv}{O:St}{M:Ld}{E:za}{H:Hp}{T0 Z T:Fz}
def tN_M(h:tN X.K X.mg m O H Q):tM X m O H Q:=by
 obtain⟨M,E,hl,a,k⟩:=h;refine⟨M,E,hl,a,?_⟩;cases e:m E with
 |z=>rw[e]at k;exact k|y x E1=>rw[e]at k;exact k.elim|ok p=>rw[e]at k;exact k
def tNT_M{Q:Bool->Hp->Prop}(h:tNT X.K X.mg m O H Q):tMT X m O H Q:=by
 obtain⟨M,E,hl,a,k⟩:=h;refine⟨M,E,hl,a,?_⟩;cases e:m E with
 |z=>rw[e]at k;exact k|y x E1=>rw[e]at k;exact k.elim|ok p=>rw[e]at k;exact k
def zCq(a:E.length=O.length)(h:FR K mg M H (T0++O.zip E))(e:m E=.ok (r,E'))(k:∀v H',Got K mg M O E H T0 O E' H' [(some v,r.slot)]->Q v H'):tN K mg m O H Q:=by
 refine⟨Mo M T0,E,a,h.inner,?_⟩;rw[e];exact λv H' g=>k v H' (g.outer h)
def tNT_run{Q:Bool->Hp->Prop}(a:E.length=O.length)(h:FR K mg M H (T0++O.zip E))(e:m E=.ok (b,E'))(k:∀H',Got K mg M O E H T0 O E' H' []->Q b H'):tNT K mg m O H Q:=by
 refine⟨Mo M T0,E,a,h.inner,?_⟩;rw[e];exact λH' g=>k H' (g.outer h)
def zCr{c:Ls AR}{E1 E2 n:za}{e a:Ls Slot}{r:R}{vs:Ls V}{v:V}{H1 h:Hp}(x:zJ c E1=.ok (e,E2))(k:zN c a E1 E2=.ok n)
  (w:AV O c vs) (j:FR K mg M H1 (O.zip E2++(vs.map some).zip e)) (g:Step M H (O.zip E) H1 (O.zip E2++(vs.map some).zip e)) (q:E2.length=O.length) (t:PKp O E O E1)
  (u:FR K mg (Mo M (O.zip E2)) h ((some v,r.slot)::(vs.map some).zip a)) (l:Step (Mo M (O.zip E2)) H1 ((vs.map some).zip e) h ((some v,r.slot)::(vs.map some).zip a)):Got K mg M O E H [] O n h [(some v,r.slot)]:=by
 have y:=FR.outer j u l;have o:=Step.outer l;have p:(O.zip E2++((some v,r.slot)::(vs.map some).zip a)).Perm ([(some v,r.slot)]++((vs.map some).zip a++O.zip E2)):=by
  refine perm_append_comm.trans ?_;exact List.Perm.refl _
 obtain⟨C,D,z⟩:=vb c q w k (y.perm p);refine⟨z,C,?_,t.trans (zCj x k)⟩;have i:=g.trans o;exact i.weak λb B=>zD p.symm b (D b B)
theorem YT:∀(n:Nat) {Z W:Fz},Mask Z W->Mask Z (W.drop n)
 |0,_,_,h=>h|n+1,_,_,.nil Z=>by dsimp[List.drop_nil];exact .nil _|n+1,_,_,.keep h=>.skip (YT n h)|n+1,_,_,.skip h=>.skip (YT (n+1) h)|n+1,_,_,.extra h=>YT n h
theorem uu{α β:Type}:∀(n:Nat) (l:Ls α) (m:Ls β),(l.zip m).drop n=(l.drop n).zip (m.drop n)
 |0,_,_=>rfl|n+1,[],_=>by simp|n+1,_::_,[]=>by simp|n+1,_::l,_::m=>by simp[uu n l m]
structure GA(K:qH)(mg:Str->Option Lv)(M:Ld)(D:Lz)(O:St)(E:za)(H:Hp)(a:Slot)(O':St)(E':za)(H':Hp)(a':Slot):Prop where
 len:E'.length=O'.length
 fr:FR K mg M H' ((some (.ref D),a')::O'.zip E')
 st:Step M H ((some (.ref D),a)::O.zip E) H' ((some (.ref D),a')::O'.zip E')
 pk:PKp O E O' E'
def GA.of{D:Lz}{a:Slot}{c:St}{E':za}{e:Hp}(g:Got K mg M O E H [(some (.ref D),a)] c E' e []):GA K mg M D O E H a c E' e a:=⟨g.len,g.fr,g.st,g.pk⟩
theorem GA.trans{D:Lz}{a0 c a2:Slot}{O1 g:St}{E1 E2:za}{H1 e:Hp}(a:GA K mg M D O E H a0 O1 E1 H1 c)(b:GA K mg M D O1 E1 H1 c g E2 e a2):GA K mg M D O E H a0 g E2 e a2:=⟨b.len,b.fr,a.st.trans b.st,a.pk.trans b.pk⟩
def zBL{α:Type}(k:Ak α)(K:qH)(e:Str->Lx Lv)(ma:MC α)(g:TAc):Prop:=∀(M:Ld) (D:Lz) (O:St) (E:za) (H:Hp) (c a:α) (E':za) (Nx:St->Hp->Prop),E.length=O.length->FR K e M H ((some (.ref D),k.s c)::O.zip E)->ma E c=.ok (a,E')->(∀O' H',GA K e M D O E H (k.s c) O' E' H' (k.s a)->Nx O' H')->g D O H Nx
def AkOk{α:Type}(k:Ak α):Prop:=∀{K:qH} {a:Str->Lx Lv} {M:Ld} {H:Hp} {Z:Fz} {D:Lz},FR K a M H Z->H D=none->FR K a M (upd H D (k.o D)) ((some (.ref D),k.s k.z)::Z)/\Step M H Z (upd H D (k.o D)) ((some (.ref D),k.s k.z)::Z)
def zCs:AkOk akL:=λf h=>⟨f.newOwn (ds:=[]) (xs:=[]) h Reps.nil,Step.newOwn (ds:=[]) (xs:=[]) f h⟩
def yld_ga{J:It}{ds:Ls D}{o:Hp->Prop}{p g:St}{w E':za}{H1 k a:Hp}{j:Lz}{c acc:Slot}{i:Nat}{x:V}(it:ItOk K mg J ds o)(n:i<ds.length)(l:GA K mg M j p w H1 c g E' k acc)(e:o (Hm (Mo M ((some (.ref j),acc)::g.zip E')) k))(y:J.yld i k x a) :
  ∃d,ds[i]?=some d/\GA K mg M j p w H1 c g E' a acc/\o (Hm (Mo M ((some (.ref j),acc)::g.zip E')) a)/\Rep K mg (Hm (Mo M ((some (.ref j),acc)::g.zip E')) a) d x:=by
 obtain⟨d,u,h⟩:=it.yld i _ _ x _ zF e n y;rcases h with⟨rfl,E⟩|⟨q,G,I,t,rfl,rfl,rfl,H⟩
 ·exact⟨d,u,l,e,E⟩
 ·have r:=l.fr.newTup t H
  have B:Step M k ((some (.ref j),acc)::g.zip E') (upd k q (.t G)) ((some (.ref q),.v (.t I))::((some (.ref j),acc)::g.zip E')):=Step.newVal t;obtain⟨v,ev,C⟩:=r.val _ _ qE;cases ev;have z:=B.same;exact⟨_,u,⟨l.len,r.tail,l.st.trans ⟨z,B.keep⟩,l.pk⟩,it.mono _ _ z e,C⟩
def zCt:zBL akL K mg (ma1 el) (ta1 (tN K mg el)):=λM D O E H c q E' Nx hl G g hN=>by
 unfold ma1 at g;cases j:el E with
 |z=>rw[j]at g;cases g|y _ _=>rw[j]at g;cases g
 |ok p =>
  obtain⟨r,Ec⟩:=p;rw[j]at g;dsimp at g;by_cases e:c.length<cap
  ·rw[if_pos e]at g
   cases g;refine zCq (T0:=[(some (.ref D),.w c)]) hl G j λu H4 k=>?_
   have l:FR K mg M H4 ((some u,.v r.d)::((some (.ref D),Slot.w c)::O.zip E')):=FR.frz (r:=r) k.fr;obtain⟨w,C,o⟩:=l.val _ _ qE;cases C;rw[YM]at o;have n:=l.tail;obtain⟨a,v,t,x,_,h⟩:=n.ownL _ _ c qE rfl;cases t;refine⟨v,x,by rw[h.length];exact lt_of_lt_of_le e (wk (le_refl _)),hN O _ ?_⟩;obtain⟨B,I⟩:=FR.mut (i:=0) (s:=.w c) n rfl rfl (h.append (Reps.cons o Reps.nil));have sz:Step M H ((some (.ref D),Slot.w c)::O.zip E) H4 ((some (.ref D),Slot.w c)::O.zip E'):=k.st.weak (zE (sublist_cons_self _ _));exact⟨k.len,B,sz.trans I,k.pk⟩
  ·rw[if_neg e]at g;cases g
def turns{α:Type}{k:Ak α}{ma:MC α}(W:GOk X g tg)(ha:zBL k X.K X.mg ma ta){C:Hp->Prop}(it:ItOk X.K X.mg J ds C){acc e:α}{K:St->Hp->Prop}(V:E.length=O.length)(fr:FR X.K X.mg M H ((some (.ref Da),k.s acc)::O.zip E))(Z:C (Hm (Mo M ((some (.ref Da),k.s acc)::O.zip E)) H))(Y:JV tg tt ma ds E acc=.ok (e,EF))
  (S:∀O' H',GA X.K X.mg M Da O E H (k.s acc) O' EF H' (k.s e)->K O' H'):Trn J g (tNT X.K X.mg tt) ta Da K O H:=by
 refine⟨λi m O' H'=>m=ds.length-i/\i<=ds.length/\∃E' a,GA X.K X.mg M Da O E H (k.s acc) O' E' H' (k.s a)/\C (Hm (Mo M ((some (.ref Da),k.s a)::O'.zip E')) H')/\JV tg tt ma (ds.drop i) E' a=.ok (e,EF),
  ⟨ds.length,by simp,zero_le _,E,acc,⟨V,fr,Step.refl,PKp.refl⟩,Z,Y⟩,?_⟩
 rintro i m O' H' ⟨rfl,hi,E',a,n,h,c⟩
 by_cases j:i<ds.length
 ·refine .inr ⟨it.go i _ H' zF h j,λO'' H''=>(i+1<=ds.length/\∃E' a,GA X.K X.mg M Da O E H (k.s acc) O'' E' H'' (k.s a)/\C (Hm (Mo M ((some (.ref Da),k.s a)::O''.zip E')) H'')/\JV tg tt ma (ds.drop (i+1)) E' a=.ok (e,EF)),
   λO'' H'' q=>⟨ds.length-(i+1),by omega,rfl,q⟩,λx H'' y=>?_⟩
  obtain⟨d,hd,n,h,Q⟩:=yld_ga it j n h y;have R:ds.drop i=d::ds.drop (i+1):=by
   obtain⟨D,rfl⟩:=qG.mp hd;exact drop_eq_getElem_cons D
  rw[R]at c;dsimp[JV]at c;cases v:tg d E' with
  |z=>rw[v]at c;cases c|y _ _=>rw[v]at c;cases c
  |ok Ea =>
   rw[v]at c;dsimp at c;refine W _ O' E' _ [(some (.ref Da),k.s a)] x d Ea _ n.len (n.fr.add Q) v λO2 u=>?_
   have g2:=n.trans (GA.of u);cases t:tt Ea with
   |z=>rw[t]at c;cases c|y _ _=>rw[t]at c;cases c
   |ok p =>
    obtain⟨b,Eb2⟩:=p;rw[t]at c;refine tNT_run u.len u.fr t λH3 r=>?_
    have I:GA X.K X.mg M Da O2 Ea H'' (k.s a) O2 Eb2 H3 (k.s a):=⟨r.len,r.fr,r.st,r.pk⟩;have B:=g2.trans I;have o:=it.mono _ _ (u.st.same.trans r.st.same) h;cases b with
    |false=>exact iteF ⟨j,Eb2,a,B,o,c⟩
    |true =>
     refine iteT ?_;dsimp at c;cases w:ma Eb2 a with
     |z=>rw[w]at c;cases c|y _ _=>rw[w]at c;cases c
     |ok p =>
      obtain⟨l,Ec⟩:=p;rw[w]at c;exact ha M Da O2 Eb2 H3 a l Ec _ B.len B.fr w λO4 H4 L=>⟨j,Ec,l,B.trans L,it.mono _ _ L.st.same o,c⟩
 ·have G:i=ds.length:=by omega
  subst G;rw[drop_length]at c;cases c;exact .inl ⟨it.stop _ _ H' zF h (le_refl _),S O' H' n⟩
def zAD{α:Type}{k:Ak α}(hk:AkOk k){nl:Nat}{caps:Ls Nat}{mi:MI}{tg:MG}{tt:MT}{ma:MC α}{ta:TAc}{g:TG}{Q:VK}(ho:GOk X g tg)(ha:zBL k X.K X.mg ma ta)(h:tM X (YS k nl caps mi tg tt ma) O H Q):zFF k.o nl caps (tMI X mi) g (tNT X.K X.mg tt) ta O H Q:=by
 obtain⟨M,E,hl,fr,a⟩:=h;unfold YS at a;refine⟨M,E,hl,fr,?_⟩;exists ei,mi E,a,ds,E1;intro J Iv H1 S iv t D hD;dsimp at a;cases I:JW E1 caps with
 |z=>rw[I]at a;exact a.elim|y _ _=>rw[I]at a;exact a.elim
 |ok o =>
  rw[I]at a;dsimp at a;cases n:zJ o E1 with
  |z=>rw[n]at a;exact a.elim|y _ _=>rw[n]at a;exact a.elim
  |ok p =>
   obtain⟨ss,E2⟩:=p;rw[n]at a;dsimp at a;cases w:JV tg tt ma ds (replicate nl .e++ss) k.z with
   |z=>rw[w]at a;exact a.elim|y _ _=>rw[w]at a;exact a.elim
   |ok p =>
    obtain⟨B,Eb⟩:=p;rw[w]at a;dsimp at a;cases q:zN o ((zo (replicate nl .e++ss) Eb).drop nl) E1 E2 with
    |z=>rw[q]at a;exact a.elim|y _ _=>rw[q]at a;exact a.elim
    |ok E3 =>
     rw[q]at a;obtain⟨i,Y,ac,f1,o1⟩:=zCo (T:=[]) caps t.len I t.fr;obtain⟨f2,o2,l2,l3⟩:=WL (T:=[]) o t.len Y n f1;have hv:=Y.length;have x:FR X.K X.mg M H1 (O.zip E2++(i.map some).zip ss):=FR.perm (T:=O.zip E2++(i.map some).zip ss) (Z:=(i.map some).zip ss++O.zip E2) f2 perm_append_comm;have l:∀b,b∈yE (O.zip E2++(i.map some).zip ss)->b∈yE (O.zip E1):=λb c =>
      o1 b ((o2 b).mpr (zD (T:=O.zip E2++(i.map some).zip ss) (Z:=(i.map some).zip ss++O.zip E2) perm_append_comm b c))
     have R:Step M H (O.zip E) H1 (O.zip E2++(i.map some).zip ss):=t.st.weak l;have eO:yu nl caps O=replicate nl none++i.map some:=by unfold L2.yu;rw[ac]
     rw[eO];have ez:(replicate nl (none:Lx V)++i.map some).zip (replicate nl Slot.e++ss)=replicate nl (none,.e)++(i.map some).zip ss:=by
      rw[List.zip_append (by simp),QC]
     have f4:FR X.K X.mg (Mo M (O.zip E2)) H1 ((replicate nl (none:Lx V)++i.map some).zip (replicate nl Slot.e++ss)):=by
      rw[ez];exact(FR.inner x).emps0 nl
     have G:yE ((replicate nl (none:Lx V)++i.map some).zip (replicate nl Slot.e++ss))=yE ((i.map some).zip ss):=by rw[ez,zCp]
     generalize v:replicate nl (none:Lx V)++i.map some=O0 at f4 G ⊢;generalize aa:replicate nl Slot.e++ss=E0 at f4 G w q ⊢;have u:E0.length=O0.length:=by rw[<- v,<- aa];simp[l2,hv]
     obtain⟨f5,s5⟩:=hk f4 hD;have L:Iv (Hm (Mo (Mo M (O.zip E2)) ((some (.ref D),k.s k.z)::O0.zip E0)) (upd H1 D (k.o D))):=by
      refine S.mono _ _ s5.same (S.mono _ _ (ji λb c=>?_) iv);rcases c with c|c
      ·rcases c with c|c
       ·exact .inl c
       ·exact .inr (l b (by rw[zc];exact mem_append_left _ c))
      ·rw[G]at c
       exact .inr (l b (by rw[zc];exact qK _ c))
     refine turns ho ha S u f5 L w λO' H' C=>a _ H' ?_
     have K:Got X.K X.mg (Mo M (O.zip E2)) O0 E0 H1 [] O' Eb H' [(some (.ref D),k.s B)]:=⟨C.len,C.fr,s5.trans C.st,C.pk⟩;have ab:Mask (O'.zip Eb) (O0.zip (zo E0 Eb)):=Zs E0 O0 O' Eb K.len (u.symm) λj W e=>(K.pk j W e).2
     have mk:Mask (O'.zip Eb) ((i.map some).zip ((zo E0 Eb).drop nl)):=by
      have:=YT nl ab;have e:(O0.zip (zo E0 Eb)).drop nl=(i.map some).zip ((zo E0 Eb).drop nl):=by
       rw[uu,<- v];congr 1;rw[List.drop_left' (by simp)]
      rw[e]at this;exact this
     refine zCr (r:=k.r B) n q Y x R l3 t.pk (K.fr.mask (.keep mk)) ?_;refine(K.st.weak λb c=>(Mask.keep mk).sub.subset c).left λb c=>?_
     rw[nil_append,G]at c;exact c
end
section
variable{X:Cx}{ce target iter:Lb}{ifs:Ls Lb}{scope:Scope}{nl:Nat}{caps:Ls Nat}{N':Ls Str}{mk:Sem Lv}{ob:Obj}{act:Lv->Env->Sem PySem.Fin->Sem PySem.Fin}{gs:Ls Comprehension}{p p0:Pos}{α:Type}{k:Ak α}{ma:MC α}{mi:MI}{tg:MG}{tt:MT}{ta:TAc}{g:TG}
def zCu(C:CSc X scope nl caps N')(n:AkOk k)(r:zBL k X.K X.mg ma ta)(N:CNd X.prog X.w ce target iter ifs mk ob k.o act gs p)(h:∀a C c s H,PAc (cxB X N' scope a C c s H) act ta)(i:eval ce X.env=comprehension ce scope X.env p0 mk false (eval iter X.env))
  (l:IOk X target iter mi) (o:∀a C c s H,PG (cxB X N' scope a C c s H) target g) (j:GOk X g tg) (t:∀a C c s H,zGw (cxB X N' scope a C c s H) ifs tt) (e:∀x,foldedSetIterable iter X.env x=pure x):EOk X ce (YS k nl caps mi tg tt ma) :=
 zb (pe_comp C N l o (λa C c s H=>vh (t a C c s H) λO H Q q=>tNT_M (X:=cxB X N' scope a C c s _) q) h e i) λO H Q=>zAD n j r
def sk_comp(E:X.N.Nodup)(e:X.N[i]?=some y)(l:Loc X.env.scope y)(t:X.fn y=true\/X.env.scope.names.lookup y=some .local)(C:CSc X scope nl caps N')(z:AkOk k)(G:zBL k X.K X.mg ma ta)(N:CNd X.prog X.w ce target iter ifs mk ob k.o act gs p)(o:∀a C c s H,PAc (cxB X N' scope a C c s H) act ta)
  (r:∀u,evalThenUse ce X.env u=(do let _ <- comprehension ce scope X.env p0 mk false (eval iter X.env) (some u)))
  (w:IOk X target iter mi) (B:∀a C c s H,PG (cxB X N' scope a C c s H) target g) (v:GOk X g tg) (I:∀a C c s H,zGw (cxB X N' scope a C c s H) ifs tt)
  (n:∀x,foldedSetIterable iter X.env x=pure x) (j:swapsWith ce (some (.Name y py)) spos.line X.env=pure true):SOk X (.Assign [.Name y py] ce spos) (sSet i (YS k nl caps mi tg tt ma)) :=
 yt (ps_setC E e l t C N w B (λa C c s H=>vh (I a C c s H) λO H Q q=>tNT_M (X:=cxB X N' scope a C c s _) q) o n j r) λD O H h=>zAD z v G (zCf h)
end
def mem7{P:String->Prop}(j:P "NoneType")(c:P "bool")(h:P "int")(e:P "str")(i:P "tuple")(g:P "list")(a:P "dict"):∀t∈["NoneType","bool","int","str","tuple","list","dict"],P t:=by
 intro t ht;dsimp[mem_cons,mem_nil_iff,or_false]at ht;rcases ht with rfl|rfl|rfl|rfl|rfl|rfl|rfl<;>assumption
abbrev Kit(K:qH)(T:String):Prop:=∀t∈["NoneType","bool","int","str","tuple","list","dict"],kitOne K (.type t) (.type T)=some (uk t T)
def kit_int(K:qH):Kit K "int":=mem7 rfl rfl rfl rfl rfl rfl rfl
def zFH(K:qH):Kit K "bool":=mem7 rfl rfl rfl rfl rfl rfl rfl
def zCv(K:qH):Kit K "tuple":=mem7 rfl rfl rfl rfl rfl rfl rfl
def zFI(K:qH):Kit K "list":=mem7 rfl rfl rfl rfl rfl rfl rfl
def kit_str(K:qH):Kit K "str":=mem7 rfl rfl rfl rfl rfl rfl rfl
def zFJ(K:qH):Kit K "dict":=mem7 rfl rfl rfl rfl rfl rfl rfl
def wR:bootBuiltins "isinstance"=some (.builtin "isinstance"):=by left
def bt_len:bootBuiltins "len"=some (.builtin "len"):=by left
def bt_max:bootBuiltins "max"=some (.builtin "max"):=by left
def bt_min:bootBuiltins "min"=some (.builtin "min"):=by left
def bt_all:bootBuiltins "all"=some (.builtin "all"):=by left
def zGx:bootBuiltins "int"=some (.type "int"):=by left
def bt_bool:bootBuiltins "bool"=some (.type "bool"):=by left
def zAE:bootBuiltins "tuple"=some (.type "tuple"):=by left
def QH:bootBuiltins "list"=some (.type "list"):=by left
def bt_str:bootBuiltins "str"=some (.type "str"):=by left
def bt_dict:bootBuiltins "dict"=some (.type "dict"):=by left
section
variable{X:Cx}{K:qH}{mg:Str->Lx Lv}{O:St}{H:Hp}
def eNeg(a:ME):ME:=λE=>match a E with
 | .ok (.v (.int i),E1)=>.ok (.v (.int (-i)),E1)| .y x E1=>.y x E1|_=>.z
def ok_neg(h:EOk X a m):EOk X (.UnaryOp .USub a pos) (eNeg m):=zb (pe_un zGh h) λO H Q ⟨M,E,hl,c,k⟩=>by
 unfold eNeg at k;refine ze (T0:=[]) hl c ?_;exists ea,m E,k,r,E1;cases r with
 |w e=>exact k.elim|m _ _=>exact k.elim
 |v d =>
  cases d with
  |int i =>
   intro v H' g;exact⟨i,zS g.rep,k _ H' (g.flat (d:=.int (-i)) rfl)⟩
  |_=>exact k.elim
def jm(p e:Lj)(a b c:ME):ME:=λE=>match a E with
 | .z=>.z| .y x E1=>.y x E1
 | .ok (.v (.int i),E1)=>match b E1 with
  | .z=>.z| .y x E2=>.y x E2
  | .ok (.v (.int j),E2)=>if p i j=true then match c E2 with
    | .z=>.z| .y x E3=>.y x E3| .ok (.v (.int k),E3)=>.ok (.v (.bl (e j k)),E3)|_=>.z
   else .ok (.v (.bl false),E2)
  |_=>.z
 |_=>.z
def uv{p B:Lj}(h:tM X (jm p B a b c) O H Q):zBy (rI0 λi j=>.bl (p i j)) (rI0 λi j=>.bl (B i j)) (tM X a) (tM X b) (tM X c) O H Q:=by
 obtain⟨M,E,hl,R,k⟩:=h;unfold jm at k;refine ze (T0:=[]) hl R ?_;exists ea,a E,k,r,E1;cases r with
 |w G=>exact k.elim|m _ _=>exact k.elim
 |v d =>
  cases d with
  |int i =>
   intro x H1 I;have l:=I.dropAll;refine ze (T0:=[]) l.len l.fr ?_;dsimp at k;cases t:b E1 with
   |z=>rw[t]at k;exact k|y x E2=>rw[t]at k;exact λH' g=>k H' (l.trans' g)
   |ok q =>
    obtain⟨K,E2⟩:=q;rw[t]at k;cases K with
    |w G=>exact k.elim|m _ _=>exact k.elim
    |v J =>
     cases J with
     |int j =>
      intro y H2 u;have e:=(l.trans' u).dropAll;refine⟨i,j,zS I.rep,zS u.rep,p i j,rfl,?_⟩;dsimp at k;cases C:p i j with
      |false =>
       rw[C]at k;exact iteF (k _ H2 (e.flat (d:=.bl false) rfl))
      |true =>
       rw[C]at k;dsimp[if_true]at k;refine iteT (ze (T0:=[]) e.len e.fr ?_);cases o:c E2 with
       |z=>rw[o]at k;exact k|y x E3=>rw[o]at k;exact λH' g=>k H' (e.trans' g)
       |ok q =>
        obtain⟨S,E3⟩:=q;rw[o]at k;cases S with
        |w G=>exact k.elim|m _ _=>exact k.elim
        |v L =>
         cases L with
         |int n =>
          intro w H3 D;exact⟨j,n,zS u.rep,zS D.rep,k _ H3 ((e.trans' D).flat (d:=.bl (B j n)) rfl)⟩
         |_=>exact k.elim
     |_=>exact k.elim
  |_=>exact k.elim
def zFK{p g:Lj}(k:OpR X (compareOp op) (rI0 λi j=>.bl (p i j)))(e:OpR X (compareOp op') (rI0 λi j=>.bl (g i j)))(o:EOk X a ma)(l:EOk X b mb)(n:EOk X c mc)
  (h:lastMarks [op,op'] [b,c]=false:=by with_unfolding_all rfl):EOk X (.Compare a [op,op'] [b,c] pos) (jm p g ma mb mc):=zb (zEZ k e o l n h) λO H Q=>uv
def zCw{p g:Lj}(k:OpR X (compareOp op) (rI0 λi j=>.bl (p i j)))(e:OpR X (compareOp op') (rI0 λi j=>.bl (g i j)))(o:EOk X a ma)(l:EOk X b mb)(n:EOk X c mc)
  (h:lastMarks [op,op'] [b,c]=false:=by with_unfolding_all rfl):TOk X (.Compare a [op,op'] [b,c] pos) (tT (jm p g ma mb mc)):=vA (zEa k e o l n h) λO H Q q=>uv (Q6 q)
abbrev ltB:Lj:=λi j=>decide (i<j)
abbrev leB:Lj:=λi j=>decide (i<=j)
abbrev gtB:Lj:=λi j=>decide (j<i)
abbrev geB:Lj:=λi j=>decide (j<=i)
def zFL(X:Cx)(a:Scope):Ls Nat->Ls Str->Prop
 | [],[]=>True|j::js,x::xs=>X.N[j]?=some x/\a.names.lookup x=some .free/\zFL X a js xs|_,_=>False
theorem zGy{a:Scope}{loc:Ls Str}:∀{g:Ls Nat} {c:Ls Str},zFL X a g c->c.length=g.length/\∀(i j:Nat),g[i]?=some j->∃x,c[i]?=some x/\X.N[j]?=some x/\a.names.lookup x=some .free
 | [],[],h=>⟨rfl,λi j e=>by simp at e⟩| [],_::_,h=>h.elim|_::_,[],h=>h.elim
 |j::r,x::t,h=>by
  obtain⟨n,h2,l⟩:=h;obtain⟨o,p⟩:=zGy (loc:=loc) l;refine⟨by simp[o],λi k e=>?_⟩;cases i with
  |zero=>simp at e;subst e;exact⟨x,rfl,n,h2⟩|succ i=>simp at e;obtain⟨y,q⟩:=p i k e;exact⟨y,by exists q⟩
def csc_of{a:Scope}{nl:Nat}{caps:Ls Nat}(loc g:Ls Str)(o:loc.length=nl)(r:∀e s,¬X.xe e s)(v:X.calm=true)(k:a.kind=.function)(c:∀y∈a.names,y.2=.local->a.names.lookup y.1=some .local)(h:∀y∈a.names,y.2=.cell->a.names.lookup y.1=some .cell)
  (l:(a.names.all λy=>y.2 != .free||X.env.kindOf y.1==some .cell)=true) (n:zFL X a caps g):CSc X a nl caps (loc++g):=by
 obtain⟨p,u⟩:=zGy (loc:=loc) n;refine⟨r,v,k,c,h,l,by simp[o,p],λi j e=>?_⟩;obtain⟨x,w,q,t⟩:=u i j e;refine⟨x,?_,q,t⟩;rw[List.getElem?_append_right (by omega),o,Nat.add_sub_cancel_left];exact w
section
variable{elt target iter:Lb}{ifs:Ls Lb}{scope:Scope}{pos:Pos}{mi:MI}{tg:MG}{tt:MT}{el:ME}{g:TG}{nl:Nat}{caps:Ls Nat}{N':Ls Str}
def zCx(C:CSc X scope nl caps N')(e:∀a C c s H,EOk (cxB X N' scope a C c s H) elt el)(a Ca c s H):PAc (cxB X N' scope a Ca c s H) (act1 elt) (ta1 (tN X.K X.mg el)):=pa_elt C.hx (zb (e a _ c s H) λO H Q q=>tN_M q)
def ok_lc(C:CSc X scope nl caps N')(k:IOk X target iter mi)(l:∀a C c s H,PG (cxB X N' scope a C c s H) target g)(i:GOk X g tg)(j:∀a C c s H,zGw (cxB X N' scope a C c s H) ifs tt)(h:∀a C c s H,EOk (cxB X N' scope a C c s H) elt el)
  (e:∀x,foldedSetIterable iter X.env x=pure x):EOk X (.ListComp elt [⟨target,iter,ifs,0⟩] scope pos) (QE nl caps mi tg tt el) :=
 zCu C zCs zCt zCn (zCx C h) rfl k l i j e
def sk_lc(t:X.N.Nodup)(e:X.N[i]?=some y)(j:Loc X.env.scope y)(n:X.fn y=true\/X.env.scope.names.lookup y=some .local)(C:CSc X scope nl caps N')(p:IOk X target iter mi)(r:∀a C c s H,PG (cxB X N' scope a C c s H) target g)(o:GOk X g tg)(q:∀a C c s H,zGw (cxB X N' scope a C c s H) ifs tt)
  (l:∀a C c s H,EOk (cxB X N' scope a C c s H) elt el) (k:∀x,foldedSetIterable iter X.env x=pure x) (h:swapsWith (.ListComp elt [⟨target,iter,ifs,0⟩] scope pos) (some (.Name y py)) spos.line X.env=pure true) :
  SOk X (.Assign [.Name y py] (.ListComp elt [⟨target,iter,ifs,0⟩] scope pos) spos) (sSet i (QE nl caps mi tg tt el)) :=
 sk_comp t e j n C zCs zCt zCn (zCx C l) (λ_=>rfl) p r o q k h
end
end
section
variable(P:Lc)(w:Le)(K:qH)(mg:Str->Lx Lv)(base:Heap)
def Jh(x:Str)(st:Lh)(e:Ls Str):Prop:=∃(a:Lz) (c:FuncData),mg x=some (.ref a)/\Fun K x x st a c/\wt K c e []
def FOk(c:Bool)(x:Str)(k:Nat)(e:Ls Str)(F:MF):Prop:=∃(a:Lz) (g:FuncData),mg x=some (.ref a)/\keepIn K (.ref a)=true/\wt K g e []/\FnOkN c P w K mg base k a g e (spM K mg e.length F)
end
def vi(l:Ls (Str×MF)):Str->Lx MF:=λx=>l.lookup x
section
variable{X:Cx}{n:Nat}
def tab_nil:zBK X n (vi []):=λx F e=>by cases e
def zFM(i:X.mg x=some (.ref f))(j:keepIn X.K (.ref f)=true)(G:FnOkN c X.prog X.w X.K X.mg X.base k f fd ps (spM X.K X.mg n F))(hd:c=true->X.A.handled=none)(g:RoomN k X.A)(o:wt X.K fd ps [])
  (h:zBK X n (vi l)):zBK X n (vi ((x,F)::l)):=λy F' e=>by
 unfold vi at e;rw[lookup_cons]at e;cases a:y==x with
 |true =>
  rw[a]at e;cases e;have:y=x:=by exists a
  subst this;exact⟨f,fd,ps,k,i,j,⟨c,G,hd⟩,g,o⟩
 |false=>rw[a]at e;exact h y F' e
end
mutual
def deq:D->D->Bool
 | .t a,d=>match d with
  | .t b=>deqs a b|_=>false
 | .l a,d=>match d with
  | .l b=>deqs a b|_=>false
 |a,d=>match d with
  | .t _=>false| .l _=>false|b=>eqV (flV a) (flV b)
def deqs:Ls D->Ls D->Bool
 | [],[]=>true|a::as,b::bs=>deq a b&&deqs as bs| [],_::_=>false|_::_,[]=>false
end
def eqb:Nat->D->Bool
 |_,.non=>true|_,.bl _=>true|_,.int _=>true|_,.str x=>PyData.canLay0 (.str x)|n+1,.t ds=>ds.all (eqb n)|n+1,.l ds=>ds.all (eqb n)|_,_=>false
section
variable{X:Cx}{K:qH}{mg:Str->Lx Lv}
def rEqD(K:qH)(a:Str->Lx Lv)(neg:Bool):R2:=λx y H Q=>∃d e,eqb 20 d=true/\eqb 20 e=true/\Rep K a H d x/\Rep K a H e y/\Q (.bl (if neg then !deq d e else deq d e)) H
def eqDD(neg:Bool)(d e:D):Lx R:=if eqb 20 d=true/\eqb 20 e=true then some (.v (.bl (if neg then !deq d e else deq d e)))else none
def zGz:ROk K mg (rEqD K mg neg) (eqDD neg):=by
 intro M H Z x y i c g Q f j h e k;unfold eqDD at e;split at e
 ·rename_i a
  cases e;exact⟨i,c,a.1,a.2,j.mono zF,h.mono zF,k.flat f rfl⟩
 ·cases e
end
end DV
namespace L2
open PySem PySem.Spec PyProof.Rows
section
variable{X:Cx}
def maxAt(a:Ls Int):Int:=a.getD (argBest (λi j=>decide (a.getD i 0 > a.getD j 0)) (a.length-1)) 0
def zBM(a:Int)(t:Tok)(l:Lz)(c:Li)(n:Nat)(dd:Lx Lz)(g:Lk) :
  Meets (Builtin.«int.__rmul__» ⟨[.int a t,.ref l],[]⟩) (λ_ R s=>s.heap.get? l=some {cls:=.type "list",dict:=dd,data:=.seq c n,slots:=g}/\R (.ok (.ret Value.notImplemented)) s) :=
 .of_wp λe w A R s h=>by
  obtain⟨hl,h⟩:=h
  wp_walk
  exact⟨_,rfl,h⟩
def zCy(l:Lz)(c:Li)(n:Nat)(dd:Lx Lz)(g:Lk)(k:Int)(u:Tok)(j:¬(!Builtin.List.listFitsIndex k)=true)(o:¬c.size*k.toNat > (2^63-1)/8)(i:¬Builtin.List.listTooLong (c.size*k.toNat)=true) :
  Meets (Builtin.«list.__mul__» ⟨[.ref l,.int k u],[]⟩) (λ_ R s=>s.heap.get? l=some {cls:=.type "list",dict:=dd,data:=.seq c n,slots:=g} /\
   R (.ok (.ret (Value.ref s.heap.objs.size))) {s with heap:=s.heap.push {cls:=Value.type "list",data:=Data.seq (foldl (λa b=>a++b) #[] (replicate (if c.isEmpty=true then 0 else k.toNat) c))},toks:=s.toks}) :=
 .of_wp λe w A R s h=>by
  obtain⟨hl,h⟩:=h;have fits:=AutoListH.joined_fits i
  wp_walk
  refine wpAny_ite_false (decide_eq_false (not_lt.mpr fits)) ?_
  wp_walk
  exact⟨_,rfl,h⟩
def rRepL(K:qH):R2:=λx y H Q=>∃l k a,x=.ref l/\y=.int k/\SqL K H l a/\-(2^63)<=k/\k<2^63/\a.length*k.toNat<=sizeLine /\
 ∀p,H p=none->Q (.ref p) (upd H p (.l (replicate k.toNat a).flatten))
def op_repL:OpR X (binaryOp .Mult) (rRepL X.K):=by
 intro j s O H x y v u Q I z E h;obtain⟨l,k,W,rfl,rfl,B,L,h2,hz,q⟩:=h;cases z;obtain⟨t,rfl⟩:=E;obtain⟨c,r,J,_⟩:=I.list B;have hl:=r.length;obtain⟨⟨M,p,o,i⟩,n,ho,C,G,S⟩:=J;subst C S;have e:c.toArray.size*k.toNat<=sizeLine:=by rw[size_toArray,<- hl];exact hz
 have V:¬c.toArray.size*k.toNat > (2^63-1)/8:=by
  have:(sizeLine:Nat)<=(2^63-1)/8:=by decide
  omega
 have D:¬(!Builtin.List.listFitsIndex k)=true:=by rw[fitsIndex_both L h2];exact qF
 have K:¬Builtin.List.listTooLong (c.toArray.size*k.toNat)=true:=by rw[zEg e];exact qF
 have g:foldl (λa b=>a++b) #[] (replicate (if c.toArray.isEmpty=true then 0 else k.toNat) c.toArray)=(replicate k.toNat c).flatten.toArray:=by
  have w:∀m:Nat,foldl (λa b=>a++b) #[] (replicate m c.toArray)=(replicate m c).flatten.toArray:=λm=>by
   have:=Z8 c m [];exact this
  rw[w];cases c with
  |nil=>simp|cons a Y=>rw[if_neg (by simp)]
 refine wpAny_binaryOp_repeat_ref (T:="list") (U:="int") (by decide) ⟨_,ho,rfl⟩ (λR=>typeIs_int R k t) noFill_list_mul F.fills_int_mul F.slot_int_rmul repeat_list F.slot_int_index.lookup
  (call_meets F.slot_int_rmul (typeIs_int s k t) F.entry_int_rmul (F.args_int_rmul_2 _ _) (zBM k t l c.toArray n p i) ⟨ho,rfl,⟨_,ho,rfl⟩,?_⟩)
 refine call_meets F.slot_list_mul ⟨_,ho,rfl⟩ F.entry_list_mul (F.args_list_mul_2 _ _) (zCy l c.toArray n p i k t D V K) ⟨ho,?_⟩;rw[g];exact⟨.ref _,_,I.lnew (t':=s.toks) (r.rep k.toNat) (by rw[Gy,mul_comm];exact hz),rfl,q _ I.fresh⟩
def isV:V->V->Lx Bool
 | .non,.non=>some true| .non,.bl _=>some false| .bl _,.non=>some false| .bl a,.bl b=>some (a==b)| .non,.int _=>some false| .int _,.non=>some false| .non,.str _=>some false| .str _,.non=>some false| .ref _,.non=>some false| .non,.ref _=>some false| .ref _,.bl _=>some false| .bl _,.ref _=>some false| .int _,.bl _=>some false| .bl _,.int _=>some false| .str _,.bl _=>some false| .bl _,.str _=>some false|_,_=>none
end
def evens{α:Type}:Ls α->Ls α
 | []=>[]| [a]=>[a]|a::_::r=>a::evens r
theorem ZQ{α:Type}:∀c:Ls α,(evens c).length=(c.length+1)/2
 | []=>by simp[evens]| [a]=>by simp[evens]
 |a::_::r=>by
  dsimp[evens,length_cons,ZQ r];omega
theorem Y2{α:Type}:∀(c:Ls α),(List.range ((c.length+1)/2)).filterMap (λk=>c[2*k]?)=evens c
 | []=>by simp[evens]| [a]=>by simp[evens,range_succ]
 |a::b::r=>by
  have e:((a::b::r).length+1)/2=(r.length+1)/2+1:=by dsimp[length_cons];omega
  rw[e,List.range_succ_eq_map,filterMap_cons];dsimp[Nat.mul_zero,List.getElem?_cons_zero,filterMap_map,evens];congr 1;rw[<- Y2 r];congr 1
def zAF{α:Type}(xs:Ls α):(List.range xs.length).filterMap (λk=>xs[xs.length-1-k]?)=xs.reverse:=by
 have a:∀m,m<=xs.length->(List.range m).filterMap (λk=>xs[xs.length-1-k]?)=xs.reverse.take m:=by
  intro m
  induction m with
  |zero=>intro _;simp
  |succ m c =>
   intro e;rw[range_succ,List.filterMap_append,c (by omega),take_add_one];congr 1;rw[List.getElem?_reverse (by omega)];have h:xs.length-1-m<xs.length:=by omega
   simp[getElem?_eq_getElem h]
 rw[a _ (le_refl _)];rw[show xs.length=xs.reverse.length by simp,List.take_length]
theorem YU{α β:Type}{f g:α->Lx β}:∀{l:Ls α},(∀x∈l,f x=g x)->l.filterMap f=l.filterMap g
 | [],_=>rfl
 |a::l,h=>by
  rw[filterMap_cons,filterMap_cons,h a qE,YU λx c=>h x (qD _ c)]
def neg1:(- -1:Int)=1:=rfl
def jU{α:Type}(k:Bool)(xs:Ls α):Ls α:=if k then evens xs else xs.reverse
def yy(k:Bool):Int:=if k then 2 else -1
def ww{α:Type}(k:Bool)(xs:Ls α):(jU k xs).length<=xs.length:=by
 cases k
 ·simp[jU]
 ·simp[jU,ZQ];omega
theorem yH.evens:∀{e:Ls V} {c:Ls Lv},yH e c->yH (evens e) (L2.evens c)
 | [],_,h=>by cases h;exact .nil
 | [_],_,h=>by cases h with|cons a t=>cases t;exact .cons a .nil
 |_::_::_,_,h=>by cases h with|cons a t=>cases t with|cons _ r=>exact .cons a (yH.evens r)
def yH.rev(r:yH xs us):yH xs.reverse us.reverse:=by
 induction r with
 |nil=>exact .nil|cons a r c=>rw[reverse_cons,reverse_cons];exact c.append (.cons a .nil)
def yH.step(k:Bool)(r:yH xs us):yH (jU k xs) (jU k us):=by
 cases k
 ·dsimp[jU,Bool.false_eq_true,if_false];exact r.rev
 ·dsimp[jU,if_true];exact r.evens
def QI(k:Bool)(xs:Li):((List.range (Builtin.Slice.slicePlaces (if k then(0:Int)else(xs.size:Int)-1) (if k then(xs.size:Int)else -1) (yy k))).filterMap λ(m:Nat)=>xs[((if k then(0:Int)else(xs.size:Int)-1)+(m:Int)*yy k).toNat]?)=jU k xs.toList:=by
 cases k
 ·have e:Builtin.Slice.slicePlaces ((xs.size:Int)-1) (-1) (-1)=xs.size:=by
   dsimp[Builtin.Slice.slicePlaces];by_cases h:(xs.size:Int)-1 > -1
   ·rw[if_pos h,neg1,Int.ediv_one];omega
   ·rw[if_neg h];omega
  dsimp[yy,jU,Bool.false_eq_true,if_false,e];rw[<- zAF xs.toList];refine YU λm a=>?_
  rw[show(((xs.size:Int)-1)+(m:Int) * -1).toNat=xs.size-1-m by omega];simp
 ·have e:Builtin.Slice.slicePlaces (0:Int) (xs.size:Int) 2=(xs.size+1)/2:=by
   dsimp[Builtin.Slice.slicePlaces];by_cases h:(0:Int)<(xs.size:Int)
   ·rw[if_pos h];omega
   ·rw[if_neg h];omega
  dsimp[yy,jU,if_true,e];rw[<- Y2 xs.toList];refine YU λm a=>?_
  rw[show((0:Int)+(m:Int)*2).toNat=2*m by omega];simp
section
variable{prog:Lc}{w:Le}{A:Lg}{E:Ly}{s:La}
def uw(k:Bool){e:Lz}{t:Tok}{n:Nat}{Q:Int×Int×Nat->La->Prop}(g:s.heap.IsSliceOf e .none .none (.int (yy k) t))
  (h:Q ((if k then(0:Int)else(n:Int)-1),yy k,Builtin.Slice.slicePlaces (if k then(0:Int)else(n:Int)-1) (if k then(n:Int)else -1) (yy k)) s):wpAny (model prog w) A (Builtin.Slice.sliceApplied (.ref e) (pure (n:Int))) Q E s:=by
 obtain⟨j,c,i,a⟩:=id g;unfold Builtin.Slice.sliceApplied;refine qB (qB (wpAny_field c a (x:=.none) rfl ?_));refine qB (wpAny_field c a (x:=.none) rfl ?_);refine qB (wpAny_field c a (x:=.int (yy k) t) rfl (qC ?_));refine qB (HT.slicePart_ (.int (yy k) t) ?_);rw[if_neg (by cases k<;>decide)];refine qB (HT.slicePart_ .none ?_);refine qB (HT.slicePart_ .none ?_);refine qB (qC ?_);show wpAny _ _ (match Builtin.Slice.sliceAdjust none none (yy k) (n:Int)with|(lo,hi)=>pure (lo,yy k,Builtin.Slice.slicePlaces lo hi (yy k))) _ _ s
 cases k<;>exact qC h
def YV(k:Bool){Q:Ly}(e:IsTup s.heap a its)(i:s.heap.IsSliceOf sl .none .none (.int (yy k) t))(r:its.size<=sizeLine)
  (h:Q (.ref s.heap.objs.size) {s with heap:=s.heap.push {cls:=.type "tuple",data:=.seq (jU k its.toList).toArray}}):wpAny (model prog w) A (getItem (.ref a) (.ref sl)) Q E s:=by
 obtain⟨n,p,j,u⟩:=id i;have o:s.TypeIs (.ref sl) "slice":=⟨n,p,j⟩;have c:sizeOk (.seq (jU k its.toList).toArray):=by
  show(jU k its.toList).toArray.size<=sizeLine
  have v:=ww k its.toList;have h2:its.toList.length=its.size:=Array.length_toList;rw[size_toArray];omega
 unfold getItem
 try with_reducible refine wpAny_holding ?_
 first|refine qB (qC ?_)|skip
 refine qB (wpAny_sequenceKey e.typeIs (by decide) ?_);refine qB (wpAny_callSpecial?_slot (name:=Str.ofString "__getitem__") e.typeIs PyProof.Rows.slot_tuple_getitem
  (wpAny_call_entry PyProof.Rows.slot_tuple_getitem e.typeIs entry_tuple_getitem ?_ (args_tuple_getitem _ _)))
 show wpAny _ _ (Builtin.Tuple.tupleItemsOf (.ref a) >>= _) _ _ s
 refine qB (tupleItemsOf_ e ?_);refine qB (wpAny_typeOf o ?_);refine qB (uw k i ?_);have g:¬(((if k then(0:Int)else(its.size:Int)-1)==0&&yy k==1&&(Builtin.Slice.slicePlaces (if k then(0:Int)else(its.size:Int)-1) (if k then(its.size:Int)else -1) (yy k))==its.size)=true):=by
  intro q;rw[Bool.and_eq_true,Bool.and_eq_true]at q;have l:=q.1.2;cases k<;>simp[yy]at l
 show wpAny _ _ (if((if k then(0:Int)else(its.size:Int)-1)==0&&yy k==1&&(Builtin.Slice.slicePlaces (if k then(0:Int)else(its.size:Int)-1) (if k then(its.size:Int)else -1) (yy k))==its.size)=true then _ else _) _ _ s
 rw[if_neg g,QI]
 first
  |exact qB (m:=Builtin.Tuple.tupleExact _) (wpAny_newObj_type (qC ⟨_,rfl,qC h⟩) c)
  |exact qB (qB (m:=Builtin.Tuple.tupleExact _) (wpAny_newObj_type (qC ⟨_,rfl,qC h⟩) c))
end
def Wu(k:Bool)(a:Li):slicePick a none none (some (yy k))=(jU k a.toList).toArray:=by
 unfold slicePick;congr 1;cases k
 ·dsimp[yy,sliceBounds,Option.getD_some,Bool.false_eq_true,if_false,jU,sliceRange]
  dsimp[show ¬((-1:Int) > 0)by decide,if_false];have e:(if(a.size:Int)-1 > -1 then((a.size:Int)-1 - -1 - -1-1)/(- -1)else 0).toNat=a.size:=by
   by_cases h:(a.size:Int)-1 > -1
   ·rw[if_pos h,neg1,Int.ediv_one];omega
   ·rw[if_neg h];omega
  rw[e,filterMap_map,<- zAF a.toList,Array.length_toList];refine YU λm c=>?_
  have c:m<a.size:=by exists c
  show a[(((a.size:Int)-1)+-1*(m:Int)).toNat]?=_
  rw[show(((a.size:Int)-1)+-1*(m:Int)).toNat=a.size-1-m by omega];simp
 ·dsimp[yy,sliceBounds,Option.getD_some,if_true,jU,sliceRange]
  dsimp[show((2:Int) > 0)by decide,if_true];have e:(if(0:Int)<(a.size:Int)then((a.size:Int)-0+2-1)/2 else 0).toNat=(a.size+1)/2:=by
   by_cases h:(0:Int)<(a.size:Int)
   ·rw[if_pos h];omega
   ·rw[if_neg h];omega
  rw[e,filterMap_map,<- Y2 a.toList,Array.length_toList];refine YU λm c=>?_
  show a[((0:Int)+2*(m:Int)).toNat]?=_
  rw[show((0:Int)+2*(m:Int)).toNat=2*m by omega];simp
section
variable{X:Cx}{e st:Lb}{te:TE}{pos p2:Pos}
def rStep(K:qH)(k:Bool):V->Hp->VK->Prop:=λx H Q=>∃a c,x=.ref a/\((SqT K H a c/\∀p,H p=none->Q (.ref p) (upd H p (.t (jU k c))))\/(SqL K H a c/\∀p,H p=none->Q (.ref p) (upd H p (.l (jU k c)))))
def pe_step(k:Bool)(B:PE X e te)(u:PE X st (tC (.int (yy k)))):PE X (.Subscript e (.Slice none none (some st) p2) pos) (λO H Q=>te O H λx H1=>rStep X.K k x H1 Q):=by
 intro c s O H Q I h;refine Subscript_ (thn (B c s O H _ I h) λv C ⟨x,H1,I1,J,K⟩=>?_);refine wpAny_Slice ?_;refine qC ?_;refine qC ?_;refine thn (u c C O H1 (λz H'=>z=.int (yy k)/\rStep X.K k x H' Q) I1 ⟨rfl,K⟩) λL g ⟨z,H2,I2,G,E,y⟩=>?_
 subst E;obtain⟨t,rfl⟩:=G;have I3:Inv X c O H2 {g with heap:=g.heap.push {cls:=.type "slice",data:=.fields #[.none,.none,.int (yy k) t]}}:=I2.kept (t':=g.toks) λb w q=>qA _ q
 have j:(g.heap.push {cls:=.type "slice",data:=.fields #[.none,.none,.int (yy k) t]}).IsSliceOf g.heap.objs.size .none .none (.int (yy k) t):=Heap.IsSliceOf.new ..;obtain⟨a,l,rfl,D⟩:=y;cases J;rcases D with⟨n,q⟩|⟨n,q⟩
 ·obtain⟨p,r,ht,hz⟩:=I3.tuple n
  have i:=r.length;refine tail_any (ops:=[.ref a,.ref g.heap.objs.size]) ht.typeIs PyProof.Rows.slot_tuple_getitem.lookup (YV k ht j (by rw[size_toArray];omega) ?_) (by with_unfolding_all rfl)
  exact⟨.ref _,_,I3.laid (t':=g.toks) (o:=.t (jU k l)) (λb w q=>qA _ q) (le_refl _) ⟨le_trans (ww k l) hz,_,r.step k,IsTup.new _ _⟩,rfl,q _ (I3.hok.fresh (le_refl _))⟩
 ·obtain⟨p,r,ht,hz⟩:=I3.list n
  have i:=r.length;refine tail_any (ops:=[.ref a,.ref g.heap.objs.size]) ht.isList.typeIs slot_list_getitem.lookup (wpAny_getItem_list_slice ht.isList j .none .none (.int (yy k) t) (by cases k<;>simp[yy]) ?_ (by rw[size_toArray];omega)) (by with_unfolding_all rfl)
  rw[Wu];exact⟨.ref _,_,I3.laid (t':=g.toks) (o:=.l (jU k l)) (λb w q=>qA _ q) (le_refl _) ⟨le_trans (ww k l) hz,_,0,r.step k,get?_push_size _ rfl⟩,rfl,q _ (I3.hok.fresh (le_refl _))⟩
end
end L2
namespace DV
open PySem PySem.W PyProof.Rows
variable{κ:Nat->Int}
def ev(κ:Nat->Int){α:Type}:KasT α->α
 | .ret a=>a| .ask i j k=>ev κ (k (decide (κ i<κ j)))
def getD_q(p:Array Nat)(t:Nat):p.getD t 0=(p[t]?).getD 0:=by simp
end DV
namespace L2
open PySem PySem.Spec PyProof.Rows PySem.W
end L2
namespace DV
open PySem L2 PyProof.Rows PySem.W
end DV
namespace L2
open PySem PySem.Spec PyProof.Rows
end L2
namespace DV
open PySem L2
section
variable{X:Cx}{K:qH}{mg:Str->Lx Lv}
def eqG(d e:D):Lx R:=match eqF d e with
 |some r=>some r|none=>eqDD false d e
def neG(d e:D):Lx R:=match neF d e with
 |some r=>some r|none=>eqDD true d e
def zG0:ROk K mg (λx y H Q=>rEq x y H Q\/rEqD K mg false x y H Q) eqG:=by
 intro M H Z x y g c a Q f j i e k;unfold eqG at e;cases h:eqF g c with
 |some r=>rw[h]at e;cases e;exact .inl (ro_eq M H Z x y g c a Q f j i h k)|none=>rw[h]at e;exact .inr (zGz M H Z x y g c a Q f j i e k)
def zG1:ROk K mg (λx y H Q=>rNe x y H Q\/rEqD K mg true x y H Q) neG:=by
 intro M H Z x y g c a Q f j i e k;unfold neG at e;cases h:neF g c with
 |some r=>rw[h]at e;cases e;exact .inl (ro_ne M H Z x y g c a Q f j i h k)|none=>rw[h]at e;exact .inr (zGz M H Z x y g c a Q f j i e k)
def vj(d e:D):Lx R:=match uI d e with
 |some r=>some r
 |none=>match d,e with
  | .l a,.int k=>if -(2^63)<=k/\k<2^63/\a.length*k.toNat<=cap then some (.w (replicate k.toNat a).flatten)else none|_,_=>none
def ro_mulG:ROk K mg (λx y H Q=>rMulD K x y H Q\/rRepL K x y H Q) vj:=by
 intro M H Z x y i c g Q f t o e k;unfold vj at e;cases h:uI i c with
 |some r=>rw[h]at e;cases e;exact .inl (ro_mul M H Z x y i c g Q f t o h k)
 |none =>
  rw[h]at e;cases i with
  |l a =>
   cases c with
   |int n =>
    dsimp at e;split at e
    ·rename_i j
     cases e;obtain⟨p,u,rfl,v,h2⟩:=zu t;rw[zS o];exact .inr ⟨p,n,u,rfl,rfl,zF.seq v,j.1,j.2.1,by rw[h2.length];exact wk j.2.2,λq w=>k.own f w (h2.flatten _)⟩
    ·cases e
   |_=>cases e
  |_=>cases e
def Jw:Ls D->Lx (Ls Int)
 | []=>some []| .int i::ds=>(Jw ds).map (i::·)|_::_=>none
theorem Y3:∀{a:Ls D} {g:Ls V} {c:Ls Int},Jw a=some c->Reps K mg H a g->g=c.map V.int
 | [],_,_,e,h=>by cases e;dsimp[Reps]at h;subst h;rfl
 |d::a,_,c,e,h=>by
  dsimp[Reps]at h;obtain⟨v,r,rfl,j,h2⟩:=h;cases d with
  |int i =>
   dsimp[Jw]at e;exists eb,Jw a,e,cs;cases e;rw[zS j,Y3 eb h2];rfl
  |_=>cases e
def maxG:Ls D->Lx R
 | [.int i,.int j]=>zCb [.int i,.int j]
 | [.l c]=>match Jw c with
  |some a=>if 0<a.length then some (.v (.int (maxAt a)))else none|none=>none
 |_=>none
end
section
variable{X:Cx}{O:St}{H:Hp}
def eUn(f:D->Lx R)(m:ME):ME:=λE=>match m E with
 | .z=>.z| .y x E1=>.y x E1
 | .ok (r,E1)=>match f r.d with
  |some a=>.ok (a,E1)|none=>.z
def eUn_run{rel:V->Hp->VK->Prop}{f:D->Lx R}(e:∀(M:Ld) (H:Hp) (Z:Fz) (x:V) (d:D) (a:R) (Q:VK),FR X.K X.mg M H Z->Rep X.K X.mg (Hm (Mo M Z) H) d x->f d=some a->Kt X.K X.mg M H Z a Q->rel x H Q)
  (h:tM X (eUn f m) O H Q):tM X m O H λx H1=>rel x H1 Q:=by
 obtain⟨M,E,hl,i,k⟩:=h;unfold eUn at k;refine ze (T0:=[]) hl i ?_;exists ea,m E,k,r,E1;intro v H1 g;dsimp at k;exists ef,f r.d,k,a;exact e M H1 _ v r.d a Q g.frame g.rep ef λc H' j l=>k c H' (g.more (T:=[(some c,a.slot)]) j l)
def zFN(k:Bool):D->Lx R
 | .t a=>some (.v (.t (jU k a)))| .l a=>some (.w (jU k a))|_=>none
theorem Reps.evens{i:Str->Lx Lv}:∀{a:Ls D} {g:Ls V},Reps K i H a g->Reps K i H (L2.evens a) (L2.evens g)
 | [],_,h=>by dsimp[Reps]at h;subst h;dsimp[L2.evens];exact Reps.nil
 | [d],_,h=>by
  dsimp[Reps]at h;obtain⟨v,r,rfl,c,rfl⟩:=h;dsimp[L2.evens];exact Reps.cons c Reps.nil
 |d::e::a,_,h=>by
  dsimp[Reps]at h;obtain⟨v,r,rfl,c,l,k,rfl,h2,j⟩:=h;dsimp[L2.evens];exact Reps.cons c (Reps.evens j)
theorem Reps.rev{e:Str->Lx Lv}:∀{a:Ls D} {c:Ls V},Reps K e H a c->Reps K e H a.reverse c.reverse
 | [],_,h=>by dsimp[Reps]at h;subst h;exact Reps.nil
 |d::a,_,h=>by
  dsimp[Reps]at h;obtain⟨v,r,rfl,g,h2⟩:=h;rw[reverse_cons,reverse_cons];exact(Reps.rev h2).append (Reps.cons g Reps.nil)
def Reps.step{a:Str->Lx Lv}(k:Bool)(h:Reps K a H ds xs):Reps K a H (jU k ds) (jU k xs):=by
 cases k
 ·dsimp[jU,Bool.false_eq_true,if_false];exact h.rev
 ·dsimp[jU,if_true];exact h.evens
def ok_step(k:Bool)(o:EOk X e m)(g:PE X st (tC (.int (yy k)))):EOk X (.Subscript e (.Slice none none (some st) p2) pos) (eUn (zFN k) m) :=
 zb (pe_step k o g) λO H Q=>eUn_run λM H Z x d n Q f r e j=>by
  cases d with
  |t q =>
   cases e;obtain⟨a,c,rfl,h,h2⟩:=yS r;exact⟨a,c,rfl,.inl ⟨zI zF h,λp i=>j.tup f i (h2.step k)⟩⟩
  |l q =>
   cases e;obtain⟨a,c,rfl,h,h2⟩:=zu r;exact⟨a,c,rfl,.inr ⟨zF.seq h,λp i=>j.own f i (h2.step k)⟩⟩
  |_=>cases e
def sTup(a:Ls Nat)(m:ME):MS:=λE=>match m E with
 | .z=>.z| .y x E1=>.y x E1
 | .ok (r,E1)=>match gT a r.d E1 with
  | .ok E2=>.ok (.nx,E2)|_=>.z
def zFO{a:Ls Nat}{m:ME}{D:Ends}(h:tS X (sTup a m) D O H):tAsg (tM X m) (gTup X.K a.length (Jv a)) D O H:=by
 obtain⟨M,E,hl,j,k⟩:=h;unfold sTup at k;refine ze (T0:=[]) hl j ?_;cases e:m E with
 |z=>rw[e]at k;exact k|y x E1=>rw[e]at k;exact λH' g=>k O H' g
 |ok p =>
  obtain⟨r,E1⟩:=p;rw[e]at k;intro v H1 g;dsimp at k;cases c:gT a r.d E1 with
  |z=>rw[c]at k;exact k.elim|y _ _=>rw[c]at k;exact k.elim
  |ok E2 =>
   rw[c]at k;have i:=g.dropAll;exact zGu (X:=X) a rfl M O E1 H1 [] v r.d E2 _ i.len (FR.add i.frame g.rep) c λO' l=>k O' H1 (i.trans' l)
def sk_tup(h:PG X (.Tuple es k p) (gTup X.K is.length (Jv is)))(c:EOk X e m)(g:swapsWithSole [.Tuple es k p] e pos.line X.env=pure false)(a:swappedStores [.Tuple es k p] e X.env=pure none):SOk X (.Assign [.Tuple es k p] e pos) (sTup is m) :=
 yt (zBn c h g a) λD O H=>zFO
def sk_any:SOk X st (λ_=>.z):=yt zEU λD O H ⟨M,E,hl,a,k⟩=>k
end
section
variable{X:Cx}{pins:Ls (Lz×Obj)}{O:L2.St}{H:Hp}{s:La}
def zCz(I:Inv X pins O H s)(h:s.heap.get? a=none):H a=none:=by
 cases q:H a with
 |none=>rfl|some o=>obtain⟨u,e⟩:=Q3 (I.hok a o q);rw[h]at e;cases e
def sRaise(c:Str):MS:=λE=>.y ⟨c,true,[]⟩ E
def zFP(j:X.calm=true)(o:Gl X c)(i:X.mg c=some (.ref C))(q:excJ X.K C=true)(hd:(c==("__debug__":Str))=false):SOk X (.Raise (some (.Call (.Name c np) [] [] cpos)) none pos) (sRaise c):=by
 intro a s O H D I ⟨M,E,hl,fr,k⟩;have n:XE X O H ⟨c,true,[]⟩:=k O H (Got.refl (T0:=[]) hl fr);obtain⟨bm,N,nm,l,bs,hdct,sn,sub,ab,col,dd,k0,k1,k2,k3,k5,t,p,hN,g,T⟩:=own_at I.kIn q;refine wpAny_Raise_call_subT (nm:=nm) (q:=l) (C:=C) (N:=N) (bs:=bs) (bm:=bm) (hdct:=hdct) (sn:=sn) (sub:=sub) (ab:=ab) (col:=col) (dd:=dd) (k0:=k0) (k1:=k1) (k2:=k2) (k3:=k3) (k5:=k5) PySem.F.excBase_ValueError (T.hasType (by left)) (I.ok.hd j) rfl g (Ys I o i ⟨rfl,?_⟩ hd);refine qC ⟨rfl,zero_le _,p,hN,T,λr e h=>?_⟩;refine n a _ _ (I.kept h.keeps) ⟨e,C,none,rfl,i,zCz I h.new,.inl rfl,.inl ⟨rfl,s,I,rfl,MadeD.of h⟩⟩
def zC0{E:Ly}{Q:Unit->La->Prop}(I:Inv X pins O H s)(hN:X.N.Nodup)(Z:X.N[i]?=some x)(g:X.env.scope.names.lookup x=some .local)(Y:O[i]?=some (some v))
  (h:∀W,Inv X pins (O.set i none) H W->Q () W):wpAny M A (unbindName X.env x) Q E s:=by
 obtain⟨m,L,hl⟩:=id I.loc;have t:(X.env.scope.kind==.class||(X.env.scope.kind==.module&&X.env.locals != X.env.globals))=false:=by rw[I.ok.kind];rfl
 obtain⟨u,_,lk⟩:=hl i x v Z Y (.inl g);have hm:m x=some u:=by
  rcases lk with⟨_,e⟩|⟨z,_⟩
  ·exact e
  ·have r:X.env.scope.names.lookup x=some .cell\/X.env.scope.names.lookup x=some .free:=z
   rcases r with r|r<;>(rw[g]at r;cases r)
 refine wpAny_unbindName_local g L hm t λh' u' J G=>?_
 obtain⟨oL,_,_,aa,_⟩:=id L;have a:∀b,b≠X.env.locals->h'.get? b=s.heap.get? b:=λb w=>G.2 b w
 have l:∀b o,X.s₀.heap.get? b=some o->b≠X.env.locals:=λb o e=>ne_of_lt (lt_of_lt_of_le (lt_size e) I.ok.above)
 refine h _ ⟨I.ok,I.os,I.bare,⟨λb o e n w g=>(a b (l b o e)).trans (I.base.keep b o e n w g),λb o e n w g=>?_,I.base.free,λb o e g=>?_,I.base.tups,I.base.frzs,I.base.tbls⟩,⟨_,J,λj y v' R B e3=>?_⟩,λy c e=>?_,I.free,I.freeC,λp hp=>?_,λb o e=>?_,by exists I.len⟩
 ·obtain⟨sl,q⟩:=I.base.slot b o e n w g
  exact⟨sl,(a b (l b o e)).trans q⟩
 ·obtain⟨o',q⟩:=I.base.there b o e g
  exact⟨o',(a b (l b o e)).trans q⟩
 ·have D:i<O.length:=(qG.mp Y).1
  have S:j≠i:=λz=>by
   subst z;rw[getElem?_set_self D]at B;cases B
  rw[getElem?_set_ne (Ne.symm S)]at B;obtain⟨u2,r2,q⟩:=hl j y v' R B e3;refine⟨u2,r2,?_⟩;rcases q with⟨k,e⟩|⟨k,c,e,z⟩
  ·have ny:y≠x:=λe=>S (vP hN R (e▸Z))
   exact .inl ⟨k,by simp[ny,e]⟩
  ·exact .inr ⟨k,c,e,z.sameBut G (I.cne y c e)⟩
 ·obtain⟨K,z⟩:=I.cell y c e
  exact⟨K,z.sameBut G (I.cne y c e)⟩
 ·obtain⟨e,n,V,nf,d⟩:=I.pin p hp
  exact⟨(a p.1 V).trans e,n,V,nf,d⟩
 ·refine(I.hok b o e).stay (λc K C q=>(a c λz=>?_).trans q) (λ_ q=>q) λ_ _ q=>q
  subst z;rcases C with rfl|C
  ·rw[I.free]at e;cases e
  ·rw[I.free]at C;cases C
def zC1(I:Inv X pins O H s)(G:Inv X pins O Hc sc)(M:Un (frs X.stack) [] Hc H sc.heap s.heap)(D:Heap.FlyingW B X.stack a (.ref C) t s.heap)(kb:zEN B H sc.heap (frs X.stack) s.heap)(hn:H a=none)
  (j:Heap.FlyingW B X.stack a (.ref C) t h6) (p:s.heap.UpToSlots h6) (S:zz X.prog X.w (upd H a oX) h6 a oX):Inv X pins O (upd H a oX) {s with heap:=h6}:=by
 obtain⟨K,R,E,V,x,_⟩:=D.first;have y:a∉frs X.stack:=λz=>by
  obtain⟨_,o,q,v⟩:=I.stack.mem z;rw[E]at q;cases q;exact v R x
 have i:sc.heap.get? a=none:=by
  cases q:sc.heap.get? a with
  |none=>rfl
  |some o =>
   have:=kb a K E (.inl ⟨o,q⟩) y;rw[D.2.1]at this;cases this
 have k:zEN B H sc.heap (a::frs X.stack) s.heap:=λb o e z nf=>kb b o e z λq=>nf (qD _ q)
 have hN:∀b∈a::frs X.stack,H b=none:=λb g=>by
  rcases mem_cons.mp g with rfl|g
  ·exact hn
  ·exact I.stkFree b g
 have w:∀b∈frs X.stack,∀o,s.heap.get? b=some o->∃p,h6.get? b=some {o with slots:=p}:=λb g o e=>by
  obtain⟨_,Y,q,v⟩:=I.stack.mem g;rw[e]at q;cases q;exact p b o e v
 have h:=un_on M I.hok k j.1 i w;have r:HOk X.prog X.w H h6:=zCE I.hok k j.1 hN;have l:∀{b:Lz} {o:HO},H b=some o->b≠a:=λ{b o} e z=>by subst z;rw[hn]at e;cases e
 refine G.call' (s':={s with heap:=h6}) (ch:=[]) (I.os.trans G.os.symm) ?_ (λb o e=>?_) I.bare (λb z=>absurd z (by simp))
 ·exact⟨h.keep,h.slot,λb o e n L=>by
   have:b≠a:=λz=>by subst z;rw[i]at e;cases e
   rw[zG this];exact h.free b o e n L,h.there,λb J e=>by have q:=h.tups b J e;rw[zG (l q)];exact q,λb o u e=>by have q:=h.frzs b o u e;rw[zG (l q)];exact q,λb Q e=>by obtain⟨m,q⟩:=h.tbls b Q e;exact⟨m,by rw[zG (l q)];exact q⟩⟩
 ·by_cases g:b=a
  ·subst g
   rw[zU]at e;cases e;exact S
  ·rw[zG g]at e
   exact(r b o e).stay (λc W _ q=>q) (λc q=>by rw[zG (l q)];exact q) λc J q=>by rw[zG (l q)];exact q
abbrev trX(X:Cx)(pn:Ls (Lz×Obj))(E:Ly):Cx:={X with pn:=pn,xe:=E}
abbrev hdX(X:Cx)(a:Lz):Cx:={X with A:=X.A.mark (some (.ref a)),calm:=false,xe:=λ_ _=>False}
def inv_tr(I:Inv X pins O H s)(E:Ly):Inv (trX X (X.pn++pins) E) [] O H s :=
 ⟨⟨I.ok.mod,I.ok.kind,I.ok.glob,I.ok.blt,I.ok.above,I.ok.inj,I.ok.has,I.ok.cab,I.ok.hd,I.ok.frames,I.ok.stk,I.ok.exf,I.ok.bs,I.ok.bsz,I.ok.noex,I.ok.exfs,I.ok.funs,I.ok.frf⟩,I.os,I.bare,I.base,I.loc,I.cell,I.free,I.freeC,λp a=>I.pin p (by exists a),I.hok,I.len⟩
def JQ{E:Ly}(I:Inv (trX X (X.pn++pins) E) pins' O H s):Inv X pins O H s :=
 ⟨⟨I.ok.mod,I.ok.kind,I.ok.glob,I.ok.blt,I.ok.above,I.ok.inj,I.ok.has,I.ok.cab,I.ok.hd,I.ok.frames,I.ok.stk,I.ok.exf,I.ok.bs,I.ok.bsz,I.ok.noex,I.ok.exfs,I.ok.funs,I.ok.frf⟩,I.os,I.bare,I.base,I.loc,I.cell,I.free,I.freeC,λp a=>I.pin p (mem_append_left _ a),I.hok,I.len⟩
def vk{a:Ls (Lz×Obj)}{E:Ly}{D:Ends}{f:Flow}{s':La}(h:SP (trX X (X.pn++pins) E) a D f s'):SP X pins D f s':=by
 cases f with
 |next=>obtain⟨O',H',I,q⟩:=h;exact⟨O',H',JQ I,q⟩|brk=>obtain⟨O',H',I,q⟩:=h;exact⟨O',H',JQ I,q⟩|cont=>obtain⟨O',H',I,q⟩:=h;exact⟨O',H',JQ I,q⟩|ret u=>obtain⟨v,O',H',I,r,q⟩:=h;exact⟨v,O',H',JQ I,r,q⟩
def zG2(I:Inv X pins O H s)(a:Lz):Inv (hdX X a) pins O H s:=W8 I _ false _ (λz=>by cases z) I.ok.frames
def zFQ(I:Inv (hdX X a) pins O H s)(hd:X.calm=true->X.A.handled=none):Inv X pins O H s :=
 ⟨⟨I.ok.mod,I.ok.kind,I.ok.glob,I.ok.blt,I.ok.above,I.ok.inj,I.ok.has,I.ok.cab,hd,I.ok.frames,I.ok.stk,I.ok.exf,I.ok.bs,I.ok.bsz,I.ok.noex,I.ok.exfs,I.ok.funs,I.ok.frf⟩,I.os,I.bare,I.base,I.loc,I.cell,I.free,I.freeC,I.pin,I.hok,I.len⟩
def sTry(cl:Ls Str)(i:Nat)(b h:MS):MS:=λE=>match b E with
 | .y x E1=>if(!x.made&&cl.contains x.cls)=true then(match Zi i (.v (.exn x.cls x.vs)) E1 with
   | .ok E2=>(match h E2 with
    | .ok (.ret r,E3)=>.ok (.ret r,E3)|_=>.z)
   |_=>.z)else .z
 |o=>o
def sk_try(w:X.stack=X.env::X.outer/\X.env.frame=some X.env.locals)(hN:X.N.Nodup)(hi:X.N[i]?=some n)(hx:X.env.scope.names.lookup n=some .local)
  (hg:Gl X t) (Z:(t==("__debug__":Str))=false) (hm:X.mg t=some (.ref T)) (hT:TCls X.K T) (ad:∀c∈cl,∃C,X.mg c=some (.ref C)/\XCls X.K c C T)
  (hb:∀pn E,uJ (trX X pn E) body mb) (hh:∀a,uJ (hdX X a) (b0::suite) mh) :
  SOk X (.Try body [.ExceptHandler (some (.Name t np)) (some n) (b0::suite) hp] [] [] pos) (sTry cl i mb mh):=by
 intro j s O H D I z9;obtain⟨M,E,hl,fr,k⟩:=z9;rw[arm_exec_Try];refine qB (wpAny_standAt (wpAny_tryStmt_except ?_));unfold sTry at k;refine wpAny_mono (hb (X.pn++j) _ [] s O H D (inv_tr I _) ⟨M,E,hl,fr,?_⟩) (λf s1 q=>?_) λ_ _ z=>z
 ·cases eb:mb E with
  |z=>rw[eb]at k;exact k
  |ok p =>
   rw[eb]at k;obtain⟨V,E1⟩:=p;cases V<;>exact k
  |y x E1 =>
   rw[eb]at k;dsimp at k;intro O1 H1 g;intro ai s1 e I1 z9;obtain⟨a,C,od,he,hmx,hn,hf,rel⟩:=z9;subst he;cases hq:(!x.made&&cl.contains x.cls)with
   |false=>rw[hq]at k;exact k.elim
   |true =>
   rw[hq]at k;dsimp[Bool.and_eq_true,Bool.not_eq_true']at hq;obtain⟨ao,ak⟩:=hq;rcases rel with⟨z,_⟩|⟨_,sc,Hc,Ic,un,⟨B,Y,V,kb⟩,dl⟩
   ·rw[ao]at z;cases z
   obtain⟨C',aj,FC⟩:=ad x.cls (by exists ak);have ec:C=C':=by
    have z:X.mg x.cls=some (.ref C):=hmx;rw[aj]at z;cases z;rfl
   subst ec;have J1:Inv X j O1 H1 s1:=JQ I1;have Jc:Inv X j O1 Hc sc:=JQ Ic;have ae:X.A.frames=some (X.env::X.outer):=by rw[<- w.1];exact J1.ok.frames
   have ah:Heap.FlyingW B (X.env::X.outer) a (.ref C) (.ref Y) s1.heap:=by rw[<- w.1];exact V
   obtain⟨oX,hX,hR⟩:∃oX:HO,(∀(h:Heap) (o:Obj) (vs:Li),h.get? a=some o->o.cls=.ref C->o.data=.fields vs->ub a od h->zz X.prog X.w (upd H1 a oX) h a oX) /\
     ((x.vs=[]/\oX=ExO C a)\/∃d,oX=ExA C d a/\H1 d=some (XD d (fsV x.cls x.vs))):=by
    rcases hf with hv|⟨d,e1,e2⟩
    ·exact⟨ExO C a,λh o _ q c _ _=>zCC q c,.inl ⟨hv,rfl⟩⟩
    ·refine⟨ExA C d a,λh o _ q c dt l=>?_,.inr ⟨d,rfl,e2⟩⟩
     obtain⟨o',q',k'⟩:=l d e1;rw[q]at q';cases q';exact zCD q c k' dt
   refine wpAny_mono (wG (ua _ _) (wpAny_looks_onW (E:=λ_ _=>False) (Q:=λ_ z=>∃h,z={s1 with heap:=h}/\Heap.HeldW B (X.env::X.outer) a (.ref C) (.ref Y) X.env.locals h/\s1.heap.UpToSlots h) ae w.2 ah λh4 G K=>⟨h4,rfl,G,K⟩)) (λ_ z4 z9=>?_) λ_ _ z=>z.1.elim;obtain⟨⟨h4,aq,G,K⟩,ap⟩:=z9
   subst aq;refine wpAny_mono (wG (jz _ _) (wpAny_landsW (E:=λ_ _=>False) (Q:=λ_ z=>∃h,z={s1 with heap:=h}/\Heap.FlyingW B (X.env::X.outer) a (.ref C) (.ref Y) h/\h4.UpToSlots h) G λh5 J S=>⟨h5,rfl,J,S⟩)) (λ_ z5 z9=>?_) λ_ _ z=>z.1.elim;obtain⟨⟨h5,ag,J,S⟩,an⟩:=z9
   subst ag;have aa:=(dl.on ap).on an;have ac:Heap.FlyingW B X.stack a (.ref C) (.ref Y) h5:=by rw[w.1];exact J
   obtain⟨o5,v5,e5,c5,d5,_⟩:=J.first;have J5:=zC1 J1 Jc un V kb hn ac (K.trans S) (hX h5 o5 v5 e5 c5 d5 aa);refine wpAny_handleBy_cons (codeAny_handlers_test ?_) (by intro z;cases z);refine Ys (X:=hdX X a) (zG2 J5 a) hg hm ?_ Z;refine G4 FC hT J5.kIn e5 c5 ?_;refine codeAny_handlers_suite_as ?_;refine wpAny_mono (wG (jz _ _) (PyProof.Rows.lands_againW (E:=λ_ _=>False) (Q:=λ_ z=>∃h,z={s1 with heap:=h}/\Heap.FlyingW B (X.env::X.outer) a (.ref C) (.ref Y) h/\h5.UpToSlots h) J λh6 L W=>⟨h6,rfl,L,W⟩)) (λ_ z6 z9=>?_) λ_ _ z=>z.1.elim;obtain⟨⟨h6,am,L,W⟩,af⟩:=z9
   subst am;have ab:Heap.FlyingW B X.stack a (.ref C) (.ref Y) h6:=by rw[w.1];exact L
   obtain⟨o6,v6,e6,c6,d6,_⟩:=L.first;have J6:=zC1 J1 Jc un V kb hn ab ((K.trans S).trans W) (hX h6 o6 v6 e6 c6 d6 (aa.on af));have g2:Got X.K X.mg M O E H [] O1 E1 (upd H1 a oX) [(some (.ref a),R.slot (.v (.exn x.cls x.vs)))]:=by
    refine g.more (T:=[(some (.ref a),.v (.exn x.cls x.vs))]) ((g.frame.grow hn).add ?_) (Step.newVal hn);dsimp[Rep];have ha:Hm (Mo M (O1.zip E1)) (upd H1 a oX) a=some oX:=zR.mpr ⟨JO g.frame hn,zU⟩;refine⟨a,C,rfl,hmx,?_⟩;rcases hR with⟨hv,rfl⟩|⟨d,rfl,Z⟩
    ·exact .inl ⟨hv,ha⟩
    ·refine .inr ⟨d,ha,zR.mpr ⟨λq=>?_,?_⟩⟩
     ·obtain⟨o,q,ok⟩:=g.frame.moAl d q
      rcases ok with⟨xs,rfl⟩|⟨φ,rfl⟩
      ·exact XD_ne Z q
      ·rw[Z]at q;unfold XD at q;cases q
     ·rw[zG (yY Z hn)];exact Z
   cases ep:Zi i (.v (.exn x.cls x.vs)) E1 with
   |z=>rw[ep]at k;exact k.elim|y _ _=>rw[ep]at k;exact k.elim
   |ok E2 =>
   rw[ep]at k;dsimp at k;have g3:=WI g2 ep;refine YH (i:=i) (v:=.ref a) J6 hN hi (.inl hx) rfl (λs7 J7=>?_) (.inr hx);refine wpAny_mono (hh a j s7 (O1.set i (some (.ref a))) (upd H1 a oX) {D with nx:=λ_ _=>False,bk:=λ_ _=>False,ct:=λ_ _=>False} (zG2 J7 a) (WH (T0:=[]) g3.len g3.fr ?_)) (λf s8 q=>?_) λ_ _ z=>z.elim
   ·cases eh:mh E2 with
    |z=>rw[eh]at k;exact k.elim|y _ _=>rw[eh]at k;exact k.elim
    |ok p =>
     obtain⟨V,E3⟩:=p;rw[eh]at k;cases V with
     |nx=>exact k.elim|bk=>exact k.elim|ct=>exact k.elim|ret r=>exact λv O' H' g4=>k v O' H' (g3.trans' g4)
   ·cases f with
    |next=>obtain⟨_,_,_,z⟩:=q;exact z.elim|brk=>obtain⟨_,_,_,z⟩:=q;exact z.elim|cont=>obtain⟨_,_,_,z⟩:=q;exact z.elim
    |ret u =>
     obtain⟨v,O3,H3,J8,ru,dr⟩:=q;have J8':=zFQ J8 I.ok.hd;refine qB (wpAny_bindName (YH (i:=i) (v:=.non) J8' hN hi (.inl hx) rfl (λs9 J9=>?_) (.inr hx)));unfold unbindBehindTheSuite;refine wpAny_onRaise ?_;refine zC0 (v:=.non) J9 hN hi hx ?_ λar J10=>⟨v,_,H3,J10,ru,dr⟩
     have:i<O3.length:=by rw[J8.len];exact(qG.mp hi).1
     rw[getElem?_set_self this]
 ·cases f with
  |next=>exact wpAny_execs_nil (vk q)|brk=>exact vk q|cont=>exact vk q|ret u=>exact vk q
end
section
variable{X:Cx}{O:L2.St}{H:Hp}
def zAG{cl:Ls Str}{v:V}{cv:Lv}{b:Str->Bool}(w:∀u,ym v u->u=cv)(D:∀c∈cl,∃C T,X.mg c=some (.ref C)/\XCls X.K c C T/\kitOne X.K (.ref C) cv=some (b c)) :
  Jq X (.builtin "isinstance") (λk H Q=>∃x c j,k=[x,v]/\Rep X.K X.mg H (.exn c j) x/\c∈cl/\Q (.bl (b c)) H):=by
 intro i s O H k K Q I r h;obtain⟨x,c,j,rfl,n,G,q⟩:=h;obtain⟨u,l,rfl,y,J⟩:=zEb r;obtain rfl:=w l J;obtain⟨a,C,rfl,p,g⟩:=n;obtain⟨C',T,e,F,t⟩:=D c G;rw[p]at e;cases e;cases (show u=Value.ref a from y);have φ:∃o,s.heap.get? a=some o/\o.cls=.ref C:=by
  rcases g with⟨_,g⟩|⟨d,g,_⟩
  ·exact(show zz X.prog X.w H s.heap a (ExO C a)from I.hok a _ g).1
  ·obtain⟨⟨o,E,h2,_⟩,_⟩:=(show zz X.prog X.w H s.heap a (ExA C d a)from I.hok a _ g)
   exact⟨o,E,h2⟩
 exact kia_one (kit_exc F) I.kIn φ t (λz=>nomatch z) λB=>⟨.bl _,H,I.tok B,rfl,q⟩
def zG3(cl:Ls Str)(b:Str->Bool)(m:ME):ME:=λE=>match m E with
 | .z=>.z| .y x E1=>.y x E1| .ok (.v (.exn c _),E1)=>if cl.contains c=true then .ok (.v (.bl (b c)),E1)else .z|_=>.z
def zC2{b:Str->Bool}(h:tM X (zG3 cl b m) O H Q):tM X m O H λx H1=>∃y c a,[x,v]=[y,v]/\Rep X.K X.mg H1 (.exn c a) y/\c∈cl/\Q (.bl (b c)) H1:=by
 obtain⟨M,E,hl,i,k⟩:=h;unfold zG3 at k;refine ze (T0:=[]) hl i ?_;exists ea,m E,k,r,E1;cases r with
 |w j=>exact k.elim|m _ _=>exact k.elim
 |v d =>
  cases d with
  |exn c a =>
   dsimp at k;intro v H' g;cases e:cl.contains c with
   |false=>rw[e]at k;exact k.elim
   |true =>
    rw[e]at k;exact⟨v,c,a,rfl,g.rep.mono zF,by simpa using e,k _ H' (g.flat (d:=.bl (b c)) rfl)⟩
  |_=>exact k.elim
def ok_isC{cl:Ls Str}{y:Str}{Y T:Lz}{a:Lb}{m:ME}{p r pos:Pos}(i:∀c∈cl,∃C,X.mg c=some (.ref C)/\XCls X.K c C T)(g:X.mg y=some (.ref Y))(w:XCls X.K y Y T)(j:Y≠T)(x:Gl X "isinstance")(o:X.mg "isinstance"=none)
  (k:Gl X y) (z:EOk X a m) (t:bootBuiltins "isinstance"=some (.builtin "isinstance")) (hd:(y==("__debug__":Str))=false) (l:zW a=false) :
  EOk X (.Call (.Name "isinstance" p) [a,.Name y r] [] pos) (zG3 cl (·==y) m) :=
 zb (YJ (zAG (cl:=cl) (v:=.ref Y) (cv:=.ref Y) (b:=(·==y)) (λu h=>h) λc q=>by
  obtain⟨C,n,h2⟩:=i c q;exact⟨C,T,n,h2,kit_own h2 w j λe=>by subst e;rw[n]at g;cases g;rfl⟩) x o t (jL z (jL (Gr (v:=.ref Y) k g rfl hd) YI (zM rfl)) (zM l)) (by decide) (by decide) (zM l) (y4 rfl)) λO H Q h=>zC2 h
def ok_isV{cl:Ls Str}{T:Lz}{a:Lb}{m:ME}{p o pos:Pos}(g:∀c∈cl,∃C,X.mg c=some (.ref C)/\XCls X.K c C T)(t:Gl X "isinstance")(l:X.mg "isinstance"=none)
  (e:Gl X "ValueError") (j:X.mg "ValueError"=none) (i:bootBuiltins "ValueError"=some (.type "ValueError")) (w:EOk X a m) (q:bootBuiltins "isinstance"=some (.builtin "isinstance")) (k:zW a=false) :
  EOk X (.Call (.Name "isinstance" p) [a,.Name "ValueError" o] [] pos) (zG3 cl (λ_=>true) m) :=
 zb (YJ (zAG (cl:=cl) (v:=.ty "ValueError") (cv:=.type "ValueError") (b:=λ_=>true) (λu h=>h) λc n=>by
  obtain⟨C,r,h2⟩:=g c n;exact⟨C,T,r,h2,kit_val h2⟩) t l q (jL w (jL (zBl (v:=.ty "ValueError") e j i rfl (by decide) (by decide)) YI (zM rfl)) (zM k)) (by decide) (by decide) (zM k) (y4 rfl)) λO H Q h=>zC2 h
end
section
variable{X:Cx}{O:L2.St}{H:Hp}
def ux(k:Bool):Lv->Bool
 | .bool b=>b==k|_=>false
def zG4(k:Int):Lv->Bool
 | .int b _=>b==k|_=>false
theorem Y4:∀{bs:Ls Bool} {a:Ls Lv},yH (bs.map V.bl) a->a=bs.map Value.bool
 | [],_,.nil=>rfl
 |b::bs,_,.cons r t=>by
  cases (show _=Value.bool b from r);rw[Y4 t];rfl
theorem YW:∀{c:Ls Int} {a:Ls Lv},yH (c.map V.int) a->∀u∈a,∃i t,u=.int i t
 | [],_,.nil,_,h=>by cases h
 |n::c,_,.cons r t,u,h=>by
  rcases mem_cons.mp h with rfl|h
  ·obtain⟨g,e⟩:=r;exact⟨n,g,e⟩
  ·exact YW t u h
theorem wx(k:Int):∀{a:Ls Int} {c:Ls Lv},yH (a.map V.int) c->c.countP (zG4 k)=a.count k
 | [],_,.nil=>rfl
 |n::a,_,.cons r t=>by
  obtain⟨g,e⟩:=r;subst e;rw[List.countP_cons,List.count_cons,wx k t];rfl
def zFR:MtM X "list.count" (λx w H Q=>∃l,x=.ref l/\((∃(bs:Ls Bool) (k:Bool),w=[.bl k]/\SqL X.K H l (bs.map V.bl)/\Q (.int (bs.count k:Nat)) H)\/(∃(z:Ls Int) (k:Int),w=[.int k]/\SqL X.K H l (z.map V.int)/\Q (.int (z.count k:Nat)) H))):=by
 intro G s O H x w v Z Q I M J h;obtain⟨l,rfl,h⟩:=h;cases M;rcases h with⟨bs,k,rfl,j,q⟩|⟨z,k,rfl,j,q⟩
 ·obtain⟨u,rfl,D⟩:=J.one
  cases (show u=Value.bool k from D);obtain⟨a,r,p,_⟩:=I.list j;obtain⟨⟨W,L,S,c⟩,n,e,o,g,E⟩:=p;subst o g E;have Y:=Y4 r;subst Y;refine call_meets PySem.F.slot_list_count ⟨_,e,rfl⟩ PySem.F.entry_list_count (PySem.F.args_list_count_2 _ _) (SeqAt.list_countAt l _ n none c (.bool k) (ux k)) ⟨e,λy C=>?_,?_⟩
  ·have B:y∈bs.map Value.bool:=by exists C
   obtain⟨b,_,rfl⟩:=mem_map.mp B;exact SeqAt.EqAt.bool_bool b k
  ·have:(bs.map Value.bool).countP (ux k)=bs.count k:=by rw[List.countP_map,List.count];rfl
   rw[show(bs.map Value.bool).toArray.toList=bs.map Value.bool from rfl,this];exact⟨.int _,H,I.tok _,⟨_,rfl⟩,q⟩
 ·obtain⟨u,rfl,D⟩:=J.one
  obtain⟨K,R⟩:=(show ∃t,u=Value.int k t from D);subst R;obtain⟨a,r,p,_⟩:=I.list j;obtain⟨⟨W,L,S,c⟩,n,e,o,g,E⟩:=p;subst o g E;refine call_meets PySem.F.slot_list_count ⟨_,e,rfl⟩ PySem.F.entry_list_count (PySem.F.args_list_count_2 _ _) (SeqAt.list_countAt l _ n none c (.int k K) (zG4 k)) ⟨e,λy C=>?_,?_⟩
  ·obtain⟨i,t,rfl⟩:=YW r y (by exists C)
   exact SeqAt.EqAt.int_int i t k K
  ·rw[show a.toArray.toList=a from rfl,wx k r]
   exact⟨.int _,H,I.tok _,⟨_,rfl⟩,q⟩
def zFS:MtM X "list.index" (λx i H Q=>∃l,x=.ref l/\∃(bs:Ls Bool) (k:Bool) (j:Nat),i=[.bl k]/\SqL X.K H l (bs.map V.bl)/\bs.findIdx? (·==k)=some j/\j<1000000/\Q (.int (j:Nat)) H):=by
 intro g s O H x i v Z Q I w t h;obtain⟨l,rfl,bs,k,j,rfl,B,J,E,q⟩:=h;cases w;obtain⟨u,rfl,M⟩:=t.one;cases (show u=Value.bool k from M);obtain⟨D,r,p,_⟩:=I.list B;obtain⟨⟨c0,W,dt,o⟩,n,e,G,z,R⟩:=p;subst G z R;have S:=Y4 r;subst S;obtain⟨K,h2,C⟩:=List.findIdx?_eq_some_iff_getElem.mp J;refine call_meets PySem.F.slot_list_index ⟨_,e,rfl⟩ PySem.F.entry_list_index (PySem.F.args_list_index_2 _ _) (SeqAt.list_indexAt l _ n none o (.bool k) (ux k) j (by exists K) (by omega) ?_ ?_) ⟨e,λy L=>?_,⟨.int _,H,I.tok _,⟨_,rfl⟩,q⟩⟩
 ·simpa[ux]using h2
 ·intro m Y a
  have:=C m a;simpa[ux]using this
 ·have c:y∈bs.map Value.bool:=by exists L
  obtain⟨b,_,rfl⟩:=mem_map.mp c;exact SeqAt.EqAt.bool_bool b k
def zC3(f:D->D->Lx R)(a b:ME):ME:=λE=>match a E with
 | .z=>.z| .y x E1=>.y x E1
 | .ok (c,E1)=>match c.d with
  | .l _=>(match b E1 with
   | .z=>.z| .y x E2=>.y x E2
   | .ok (e,E2)=>match f c.d e.d with
    |some r=>.ok (r,E2)|none=>.z)
  |_=>.z
def zFT:D->D->Lx R
 | .l a,.bl k=>(jZ a).map λbs=>.v (.int (bs.count k:Nat))| .l a,.int k=>(Jw a).map λc=>.v (.int (c.count k:Nat))|_,_=>none
def idxD:D->D->Lx R
 | .l a,.bl k=>(jZ a).bind λbs=>match bs.findIdx? (·==k)with
  |some j=>if j<1000000 then some (.v (.int (j:Nat)))else none|none=>none
 |_,_=>none
def zC4{f:D->D->Lx R}{rel:V->Ls V->Hp->VK->Prop}(I:ROk X.K X.mg (λx y H Q=>rel x [y] H Q) f)(h:tM X (zC3 f a b) O H Q):tBM X.K "list" rel (tM X a) (zA9 (tM X b) tNil) O H Q:=by
 obtain⟨M,E,hl,S,k⟩:=h;unfold zC3 at k;refine ze (T0:=[]) hl S ?_;exists ea,a E,k,r1,E1;intro x H1 e;dsimp at k;cases i:r1.d with
 |l o =>
  rw[i]at k;have c:=e.rep;rw[i]at c;obtain⟨l,J,t,w,_⟩:=zu c;subst t;refine⟨(show tyV X.K "list" (.ref l) H1 from .inl ⟨rfl,J,zF.seq w⟩),?_⟩;refine ze (T0:=[(some (.ref l),r1.slot)]) e.len e.fr ?_;cases j:b E1 with
  |z=>rw[j]at k;exact k|y x E2=>rw[j]at k;exact λH' g=>k H' (e.trans' g).dropAll
  |ok p =>
   obtain⟨n,E2⟩:=p;rw[j]at k;intro y H2 K;have g:=e.trans' K;have u:=Got.reps (vs:=[y,.ref l]) (rs:=[n,r1]) rfl g;obtain⟨W,_,B,C,Y,_,q,c,_⟩:=u;cases B;cases q;dsimp at k;exists ef,f (.l o) n.d,k,r;rw[i]at c;exact I M H2 _ (.ref l) y (.l o) n.d r Q g.frame c C ef λv H' G L=>k v H' (g.more (T:=[(some v,r.slot)]) G L)
 |_=>rw[i]at k;exact k.elim
def ro_cnt{q:Str->Lx Lv}:ROk K q (λx y H Q=>∃l,x=.ref l/\((∃(bs:Ls Bool) (k:Bool),[y]=[.bl k]/\SqL K H l (bs.map V.bl)/\Q (.int (bs.count k:Nat)) H)\/(∃(c:Ls Int) (k:Int),[y]=[.int k]/\SqL K H l (c.map V.int)/\Q (.int (c.count k:Nat)) H))) zFT:=by
 intro M H Z x y p n o Q f r g e k;cases p with
 |l h =>
  obtain⟨l,t,rfl,a,j⟩:=zu r;refine⟨l,rfl,?_⟩;cases n with
  |bl b =>
   dsimp[zFT]at e;exists eb,jZ h,e,bs;cases e;rw[JP eb j]at a;exact .inl ⟨bs,b,by rw[Jf g],zF.seq a,k.flat f rfl⟩
  |int i =>
   dsimp[zFT]at e;exists eb,Jw h,e,c;cases e;rw[Y3 eb j]at a;exact .inr ⟨c,i,by rw[zS g],zF.seq a,k.flat f rfl⟩
  |_=>cases e
 |_=>cases e
def ro_idx{q:Str->Lx Lv}:ROk K q (λx y H Q=>∃l,x=.ref l/\∃(bs:Ls Bool) (k:Bool) (j:Nat),[y]=[.bl k]/\SqL K H l (bs.map V.bl)/\bs.findIdx? (·==k)=some j/\j<1000000/\Q (.int (j:Nat)) H) idxD:=by
 intro M H Z x y p h i Q f u n e k;cases p with
 |l r =>
  obtain⟨l,v,rfl,g,t⟩:=zu u;refine⟨l,rfl,?_⟩;cases h with
  |bl b =>
   dsimp[idxD]at e;cases a:jZ r with
   |none=>rw[a]at e;cases e
   |some bs =>
    rw[a,Option.bind_some]at e;cases c:bs.findIdx? (·==b)with
    |none=>rw[c]at e;cases e
    |some j =>
     rw[c]at e;dsimp at e;split at e
     ·rename_i o
      cases e;rw[JP a t]at g;exact⟨bs,b,j,by rw[Jf n],zF.seq g,c,o,k.flat f rfl⟩
     ·cases e
  |_=>cases e
 |_=>cases e
def zG5(l:EOk X o a)(k:EOk X e b)(g:attributeBase o "count" X.env (eval o X.env)=eval o X.env)(j:zW e=false)(c:(apos.endLine==cpos.line)=true)
  (i:((backTo cpos (starEach (e::[]) X.env)).all (λx=>!x.1)&&(backToKw cpos (keywordEach [] X.env)).all (λx=>x.1.isSome)&&decide ((e::([]:Ls Lb)).length+([]:Ls Keyword).length+(if([]:Ls Keyword).isEmpty then 0 else 1)<30))=true) :
  EOk X (.Call (.Attribute o "count" apos) [e] [] cpos) (zC3 zFT a b) :=
 zb (pe_bm PySem.F.plainAttrs_list PySem.F.slot_list_count PySem.F.type_list_count zFR l (jL k YI (zM j)) g i c (zM j) rfl) λO H Q h=>zC4 ro_cnt h
end
end DV
namespace DV
open PySem L2 PyProof.Rows
def ns_is{K:qH}{h:Heap}{N:Lz}{a:Str->Lx Lv}{n:Str}{v:Lv}(X:K.In h)(G:h.Ns N a)(e:nsIn K N n=some (some v)):a n=some v:=by
 obtain⟨o,j,i,ho,g,_,hf⟩:=G;unfold nsIn at e;split at e
 ·rename_i q
  have z:=X _ _ q;rw[ho]at z;cases z;cases g;split at e
  ·rename_i c
   cases e;rw[<- hf];unfold nsFind findBy;rw[<- Array.find?_toList,c];rfl
  ·split at e<;>cases e
 ·cases e
def zG6{K:qH}{C f:Lz}{h:Heap}(X:K.In h)(q:zA4 K C f=true) :
  ∃bm N nm q bs a g sub e c l o i k j n r,h.get? C=some (excClassObj nm q C N bs bm a g sub e c l o i k j n "ValueError.__new__")/\h.Ns N r/\r "__init__"=some (.ref f)/\OwnTail h VB bm:=by
 obtain⟨bm,N,nm,q,bs,a,g,sub,e,c,l,o,i,k,j,n,u,p,v,t⟩:=(clsC K C _ _).why q rfl h X;exact⟨bm,N,nm,q,bs,a,g,sub,e,c,l,o,i,k,j,n,_,u,.of_isNs (isNs_of_in X p),ns_is X (.of_isNs (isNs_of_in X p)) v,t⟩
def XO(C a:Lz)(c:Lx Lz):HO:=.ext λh=>∃o t,h.get? a=some o/\o.cls=.ref C/\o.dict=c/\o.data=.fields #[.ref t,.none,.none,.none,.bool false,.none]
def vm(e:h.get? a=some o)(c:o.cls=.ref C)(k:o.dict=od)(j:o.data=.fields #[.ref t,.none,.none,.none,.bool false,.none]):zz P w H h a (XO C a od) :=
 ⟨⟨o,t,e,c,k,j⟩,⟨o,e⟩,λn h2 ⟨g,l,i,r⟩ k=>⟨g,l,k g i,r⟩⟩
def spI(c:Str)(C:Lz):Sp:=λg H Q _=>∃(a:Lz) (e:Ls Int),g=.ref a::e.map V.int/\e.length=(y0 c).length/\(∀n∈e,n.natAbs.log2<1920)/\H a=some (XO C a none)/\∀d,H d=none->Q .non (upd (upd H d (XD d (fsV c e))) a (XO C a (some d)))
section
variable{X:Cx}{pins:Ls (Lz×Obj)}{O:L2.St}{H:Hp}{s:La}
def raise_x{E:Ly}{Q:Flow->La->Prop}(c:bm.contains (.type "BaseException")=true)(o:A.handled=none)
  (h:wpAny M A x (λv a=>∃e t l k,v=.ref e/\a.heap.get? C=some (excClassObj nm q C N bs bm hdct sn sub ab col dd k0 k1 k2 k3 k5 newId) /\
   a.heap.get? e=some ⟨.ref C,l,.fields #[.ref t,.none,.none,.none,.bool false,.none],k⟩/\E (.ref e) a) E s) :
  wpAny M A (raiseStmt env (some x) none) Q E s:=by
 have j:(Value.ref C::bm).contains (.type "BaseException")=true:=by rw[List.contains_cons,c,Bool.or_true]
 unfold raiseStmt;refine qB (wpAny_mono h (λv a i=>?_) λ_ _ x=>x);obtain⟨e,t,l,k,rfl,n,p,r⟩:=i;obtain⟨y,g,d,w,u⟩:=a
 repeat (first|with_reducible refine wpAny_loadPart_at p ?_|with_reducible refine wpAny_loadPart_at n ?_|(with_reducible refine wpAny_isSubtype_exc n ?_;rw[j])|wp_step)
 exact wpAny_raiseNew_none o r
def hide_x{g:La}{k:Hp}{a d:Lz}{C:Lz}{fs:Ls (Str×V)}{W:Ls Lv}(I:Inv X pins O H s)(Y:a=s.heap.objs.size+1)(os:g.os=s.os)(E:AllBare g.gens)
  (K:Un (frs X.stack) [] (upd H a (XO C a none)) k (zCM s.heap C W) g.heap) (x:HOk X.prog X.w k g.heap) (hd:H d=none) (M:k=upd (upd (upd H a (XO C a none)) d (XD d fs)) a (XO C a (some d))) (r:d≠a) :
  Inv X pins O (upd H d (XD d fs)) {g with heap:=hideAll g.heap [a]}/\MadeD (hideAll g.heap [a]) g.heap a (.ref C) (some d):=by
 have kp:∀b o,s.heap.get? b=some o->(zCM s.heap C W).get? b=some o:=λb o e=>qA _ (qA _ e)
 have i:∀b o,s.heap.get? b=some o->b≠a:=λb o e z=>by have:=lt_size e;rw[z,Y]at this;exact absurd this (not_lt.mpr (le_succ _))
 have R:H a=none:=I.hok.fresh (by rw[Y];exact le_succ _);have l:k d=some (XD d fs):=by rw[M,zG r,zU]
 have p:k a=some (XO C a (some d)):=by rw[M,zU]
 have S:∀b,b≠a->b≠d->k b=H b:=λb G J=>by rw[M,zG G,zG J,zG G]
 have Q:∀b o,s.heap.get? b=some o->H b=none->b≠d:=λb o e n z=>by
  subst z;have:=K.free b o (kp b o e) (by rw[zG r];exact n) (by simp);rw[l]at this;cases this
 have h:∀{b o},g.heap.get? b=some o->b≠a->(hideAll g.heap [a]).get? b=some o:=λe n=>hideAll_get _ e (by exists n)
 have j:∀{b:Lz} {o:HO},H b=some o->b≠d:=λe z=>by subst z;rw[hd]at e;cases e
 have w:∀{b:Lz} {o:HO},H b=some o->b≠a:=λe z=>by subst z;rw[R]at e;cases e
 have u1:Un (frs X.stack) [] H (upd H d (XD d fs)) s.heap (hideAll g.heap [a]):=by
  refine⟨λb o e n y B=>?_,λb o e n y B=>?_,λb o e n B=>?_,λb o e B=>?_,λb xs e=>?_,λb o u e=>?_,λb ps e=>?_⟩
  ·exact h (K.keep b o (kp b o e) (by rw[zG (i b o e)];exact n) y B) (i b o e)
  ·obtain⟨Z,q⟩:=K.slot b o (kp b o e) (by rw[zG (i b o e)];exact n) y B
   exact⟨Z,h q (i b o e)⟩
  ·rw[zG (Q b o e n)];exact n
  ·obtain⟨L,q⟩:=K.there b o (kp b o e) B
   exact⟨L,h q (i b o e)⟩
  ·rw[zG (j e)];exact e
  ·rw[zG (j e)];exact e
  ·exact⟨#[],by rw[zG (j e)];exists e⟩
 have h1:HOk X.prog X.w (upd H d (XD d fs)) (hideAll g.heap [a]):=λb o e=>by
  by_cases y:b=d
  ·subst y
   rw[zU]at e;cases e;obtain⟨φ,⟨L,q⟩,mono⟩:=(show zz X.prog X.w k g.heap b (XD b fs)from x b _ l);exact⟨mono _ _ φ λo q=>h q r,⟨L,h q r⟩,mono⟩
  ·rw[zG y]at e
   have e':k b=some o:=by rw[S b (w e) y];exact e
   have v:∀{c:Lz} {u:HO},k c=some u->c≠a->c≠d->upd H d (XD d fs) c=some u:=λ{c u} q G J=>by rw[zG J,<- S c G J];exact q
   refine(x b o e').stay (λc u D q=>h q ?_) (λc q=>v q ?_ ?_) λc xs q=>v q ?_ ?_
   ·rcases D with rfl|D
    ·exact w e
    ·intro z;subst z;rw[p]at D;unfold XO at D;cases D
   ·intro z;subst z;rw[p]at q;unfold XO at q;cases q
   ·intro z;subst z;rw[l]at q;unfold XD at q;cases q
   ·intro z;subst z;rw[p]at q;unfold XO at q;cases q
   ·intro z;subst z;rw[l]at q;unfold XD at q;cases q
 refine⟨I.call' (ch:=[]) os u1 h1 E (λb z=>absurd z (by simp)),λb o e=>of_hideAll _ e,PySem.W.hideAll_none _ (by simp),?_⟩;obtain⟨⟨o,t,q1,q2,q3,q4⟩,_⟩:=(show zz X.prog X.w k g.heap a (XO C a (some d))from x a _ p);exact⟨o,_,t,q1,q2,λd' z=>by cases z;exact q3,q4,rfl,rfl⟩
end
def RIok(P:Lc)(w:Le)(K:qH)(e:Str->Lx Lv)(base:Heap)(c:Str):Prop:=∃C f a,e c=some (.ref C)/\keepIn K (.ref C)=true/\zA4 K C f=true/\typeIn K (.ref f)=some (.type "function") /\
 wt K a ("self"::y0 c) []/\FnOkN true P w K e base 2 f a ("self"::y0 c) (spI c C)
def sRaiseA(c:Str)(m:MA):MS:=λE=>match m E with
 | .z=>.z| .y x E1=>.y x E1
 | .ok (e,E1)=>match Jw (e.map R.d)with
  |some a=>if(a.length==(y0 c).length&&a.all λn=>decide (n.natAbs.log2<1920))=true then .y ⟨c,true,a⟩ E1 else .z|none=>.z
section
variable{X:Cx}{O:L2.St}{H:Hp}
def zC5(X:Cx)(c:Str)(g:TA):TS:=λ_ O H=>g O H λe H1=>∃a:Ls Int,e=a.map V.int/\a.length=(y0 c).length/\(∀n∈a,n.natAbs.log2<1920)/\∀d,H1 d=none->XE X O (upd H1 d (XD d (fsV c a))) ⟨c,true,a⟩
def zBN{c:Str}{m:MA}{D:Ends}(h:tS X (sRaiseA c m) D O H):zC5 X c (tMA X m) D O H:=by
 obtain⟨M,E,hl,o,k⟩:=h;unfold sRaiseA at k;refine Jr (T0:=[]) hl o ?_;cases a:m E with
 |z=>rw[a]at k;exact k|y x E1=>rw[a]at k;exact λH' g=>k O H' g
 |ok p =>
  obtain⟨q,E1⟩:=p;rw[a]at k;intro t H1 hv g;have n:=Got.reps hv g;dsimp at k;cases e:Jw (q.map R.d)with
  |none=>rw[e]at k;exact k.elim
  |some r =>
   rw[e]at k;dsimp at k;split at k
   ·rename_i i
    dsimp[Bool.and_eq_true,beq_iff_eq,all_eq_true,decide_eq_true_eq]at i;refine⟨r,Y3 e n,i.1,i.2,λd l=>k O _ ?_⟩;have j:=g.dropAll;exact j.more (T:=[]) (j.frame.grow l) (Step.grow l)
   ·exact k.elim
def zC6(c:Str):(y0 c).length<=2:=by
 unfold y0;split
 ·exact le_refl 2
 ·split
  ·exact le_succ 1
  ·exact zero_le 2
def zAH(r:yH vs us):us.length=vs.length:=r.length.symm
def zC7(hc:X.calm=true)(hr:RoomN 3 X.A)(hg:Gl X c)(R:RIok X.prog X.w X.K X.mg X.base c)(n:(c==("__debug__":Str))=false)(ha:PA X (e::es) ta)(he:zW e=false)(ad:yO es=true) :
  PS X (.Raise (some (.Call (.Name c np) (e::es) [] cpos)) none pos) (zC5 X c ta):=by
 intro j s O H D I h;obtain⟨C,f,fd,hm,hk,hx,B,hb,F⟩:=R;have hh:=I.ok.hd hc;obtain⟨bm,N,nm,qn,bs,hdct,sn,sub,ab,col,dd,k0,k1,k2,k3,k5,mN,hC,hN,hi,T⟩:=zG6 I.ok.mod.kin hx;have ak:∃of,X.K.lookup f=some of/\of.cls=.type "function":=by
  unfold typeIn at B;cases q:X.K.lookup f with
  |none=>simp[q]at B|some o=>exact⟨o,rfl,by simpa[q]using B⟩
 obtain⟨of,Y,ai⟩:=ak;rw[arm_exec_Raise];refine qB (wpAny_standAt (raise_x (C:=C) (nm:=nm) (q:=qn) (N:=N) (bs:=bs) (bm:=bm) (hdct:=hdct) (sn:=sn) (sub:=sub) (ab:=ab) (col:=col) (dd:=dd) (k0:=k0) (k1:=k1) (k2:=k2) (k3:=k3) (k5:=k5) (newId:="ValueError.__new__") (T.hasType (by left)) hh ?_));refine qB (wpAny_mono (Q:=λv l=>∃e t od sl,v=.ref e/\l.heap.get? C=some (excClassObj nm qn C N bs bm hdct sn sub ab col dd k0 k1 k2 k3 k5 "ValueError.__new__") /\
   l.heap.get? e=some ⟨.ref C,od,.fields #[.ref t,.none,.none,.none,.bool false,.none],sl⟩/\X.xe (.ref e) l) ?_ (λv s3 h3=>qB (wpAny_standAt (qC h3))) λ_ _ z=>z)
 refine wpAny_Call_Name_kw (Ys I hg hm ?_ n);refine callWith_K (h₀:=X.base) I.ok.mod.kin hk (thn (ha cpos j s O H _ I h) λk s1 ⟨vs,H1,I1,r,S,ev,E,aa,q⟩=>⟨I1.kIn,?_⟩) (zM he) (y4 ad);subst ev;have ae:k.length<=sizeLine:=by
  rw[zAH r,length_map,E];exact le_trans (zC6 c) (by left)
 obtain⟨i,g,dr,Z,os⟩:=s1;have kp:∀b o,i.get? b=some o->(zCM i C k).get? b=some o:=λb o e=>qA _ (qA _ e)
 have M:(zCM i C k).get? (i.objs.size+1)=some {cls:=.ref C,data:=.fields #[.ref i.objs.size,.none,.none,.none,.bool false,.none]}:=by heap_get
 have I2:Inv X j O (upd H1 (i.objs.size+1) (XO C (i.objs.size+1) none)) ⟨zCM i C k,g,dr,Z,os⟩ :=
  I1.laid (t':=Z) kp (le_succ _) (vm (P:=X.prog) (w:=X.w) M rfl rfl rfl)
 have bk:=λ(b:Lz) (o:Obj) (z:X.base.get? b=some o)=>I1.bk b o z
 refine make_x (A:=X.A) (T.keeps bk) (bk _ _ hC) (hN.keeps bk) hi (I1.kIn _ _ Y) ai ae ?_;have r2:yH (V.ref (i.objs.size+1)::S.map V.int) (Value.ref (i.objs.size+1)::k):=.cons rfl r;have ac:(Value.ref (i.objs.size+1)::k++[]).length=(("self":Str)::y0 c).length:=by
  rw[append_nil,length_cons,length_cons,zAH r,length_map,E]
 have K:=hb ⟨zCM i C k,g,dr,Z,os⟩ (Value.ref (i.objs.size+1)::k) I2.kIn ac;rw[append_nil]at K;have G:Room 2 (X.A.under (.builtin "type.__call__" ⟨.ref C::k,[]⟩)):=(hr.room hh).make C k [];refine codeAny_mono (F.run _ X.stack _ _ ⟨Value.ref (i.objs.size+1)::k,[]⟩ (Value.ref (i.objs.size+1)::k) _ (λv H3=>v=.non/\∃d,upd H1 (i.objs.size+1) (XO C (i.objs.size+1) none) d=none/\H3=upd (upd (upd H1 (i.objs.size+1) (XO C (i.objs.size+1) none)) d (XD d (fsV c S))) (i.objs.size+1) (XO C (i.objs.size+1) (some d))) (λ_ _ _=>False) (λ_=>G.hd) (Q4 G) (I2.env0.make C k []) K r2 ⟨_,S,rfl,E,aa,zU,λd n=>⟨rfl,d,n,rfl⟩⟩) λah s3 L=>?_
 cases ah with
 |error e=>obtain⟨_,_,_,_,_,_,_,_,_,_,_,_,z⟩:=L;exact z.elim
 |ok fl =>
  cases fl with
  |ret u =>
   obtain⟨v,H3,aj,x,ag,p,rv,rfl,d,n,e3⟩:=L;have y:d≠i.objs.size+1:=λz=>by rw[z,zU]at n;cases n
   rw[zG y]at n;obtain⟨J,md⟩:=hide_x (a:=i.objs.size+1) I1 rfl aj x ag p n e3 y;have W:∀b o,(hideAll s3.heap [i.objs.size+1]).get? b=some o->s3.heap.get? b=some o:=λb o z=>of_hideAll _ z
   have J3:Inv X j O (upd H1 d (XD d (fsV c S))) s3:=J.kept (h':=s3.heap) (t':=s3.toks) W;obtain⟨⟨o,t,q1,q2,q3,q4⟩,_⟩:=(show zz X.prog X.w H3 s3.heap (i.objs.size+1) (XO C (i.objs.size+1) (some d))from p _ _ (by rw[e3,zU]));obtain⟨oc,od,am,af⟩:=o;cases q2;cases q4;refine⟨rv,_,t,od,af,rfl,J3.bk _ _ hC,q1,q d n j s3 _ J3 ⟨_,C,some d,rfl,hm,?_,.inr ⟨d,rfl,zU⟩,.inl ⟨rfl,_,J,rfl,md⟩⟩⟩;rw[zG (Ne.symm y)];exact I1.hok.fresh (le_succ _)
  |next=>exact False.elim L|brk=>exact False.elim L|cont=>exact False.elim L
def zC8(j:X.calm=true)(g:RoomN 3 X.A)(i:Gl X c)(R:RIok X.prog X.w X.K X.mg X.base c)(hd:(c==("__debug__":Str))=false)(k:AOk X (e::es) m)(h:zW e=false)(a:yO es=true) :
  SOk X (.Raise (some (.Call (.Name c np) (e::es) [] cpos)) none pos) (sRaiseA c m):=yt (zC7 j g i R hd k h a) λD O H=>zBN
end
end DV
namespace DV
open PySem L2 PyProof.Rows
open PySem.W (Looks)
section
variable{prog:Lc}{w:Le}{A:Lg}{E:Ly}{h:Heap}{g:Array GenState}{d:Drawn}{tk:Nat}{os:OsState}
variable{nm q:Str}{C N a t:Lz}{bs bm:Ls Lv}{hdct:Bool}{sn:Ls Str}{sub:Ls Lv}{ab:Bool}{col:Lx Bool}{dd:Lx Lz}{k0 k1 k2 k3 k5:Lx Lv}{oe:Obj}{v:Lv}
def bx_init{Q:Ly}(T:OwnTail h VB bm)(y:h.get? C=some (excClassObj nm q C N bs bm hdct sn sub ab col dd k0 k1 k2 k3 k5 "ValueError.__new__"))(n:h.get? a=some oe)(k:oe.cls=.ref C)(i:oe.data=.fields #[.ref t,.none,.none,.none,.bool false,.none])
  (u:∀l r,(∀b o,b≠a->h.get? b=some o->l.get? b=some o)->l.get? a=some {oe with data:=.fields #[.ref r,.none,.none,.none,.bool false,.none]}->Q .none ⟨l,g,d,tk,os⟩) :
  wpAny (model prog w) A (call (.builtin "ValueError.__init__") [.ref a,v]) Q E ⟨h,g,d,tk,os⟩:=by
 have F:=PySem.F.excBase_ValueError;refine wpAny_call (codeAny_call_builtin F.init.plain F.initEntry (wpAny_check_init_subT F T y n k ?_));have j:(h.push {cls:=.type "tuple",data:=.seq [v].toArray}).get? a=some oe:=qA _ n;unfold Builtin.«BaseException.__init__»;refine qB (m:=newTuple [v]) (wpAny_newTuple ?_);refine qB ?_;unfold Builtin.BaseException.bexcPut;refine qB (wpAny_field j i (x:=.ref t) rfl ?_);refine qB (wpAny_setField j i (show 0<6 by decide) ?_);have hf:(Obj.mapFields (·.setIfInBounds 0 (.ref h.objs.size)) oe)={oe with data:=.fields #[.ref h.objs.size,.none,.none,.none,.bool false,.none]}:=by
  obtain⟨c,dd,B,z⟩:=oe;cases i;rfl
 have fin:Q .none ⟨(h.push {cls:=.type "tuple",data:=.seq [v].toArray}).update a (Obj.mapFields (·.setIfInBounds 0 (.ref h.objs.size))),g,d,tk,os⟩:=by
  refine u _ h.objs.size (λb o p e=>(Heap.get?_update_other _ _ (Ne.symm p)).trans (qA _ e)) ?_;rw[<- hf];exact get?_update_self _ j (Obj.isFreed_of_fields (Obj.data_mapFields i _))
 show wpAny _ _ (letGo [.ref t]) _ _ _
 unfold letGo
 refine qB (wpAny_holding (wpAny_point ?_));exact qC (qC fin)
def meth_x{Q:Ly}(i:attributeBase o name env (eval o env)=eval o env)
  (k:((backTo pos (starEach args env)).all (λx=>!x.1)&&(backToKw pos (keywordEach [] env)).all (λx=>x.1.isSome)&&decide (args.length+([]:Ls Keyword).length+(if([]:Ls Keyword).isEmpty then 0 else 1)<30))=true) (g:(apos.endLine==pos.line)=true)
  (h:wpAny (model prog w) A (eval o env) (λr c=>∀t,wpAny (model prog w) A (getMethod r name t) (λq a=>wpAny (model prog w) A (callWith pos q.1 q.2 (backTo pos (starEach args env)) []) Q E a) E c) E s) :
  wpAny (model prog w) A (eval (.Call (.Attribute o name apos) args [] pos) env) Q E s:=by
 rw[arm_eval_Call,i];refine qB (wpAny_mono h (λr c n=>?_) λ_ _ e=>e);refine qB (wpAny_standAt ?_);have j:methodCallForm (args.length+([]:Ls Keyword).length) (backTo pos (starEach args env)) (backToKw pos (keywordEach [] env))=true:=k;have p:methodCallPos true o env apos pos=pure pos:=by unfold methodCallPos;simp[g]
 unfold methodCall;rw[j];refine qB (wpAny_holding (wpAny_mono (n _) (λq a l=>?_) λ_ _ e=>e));exact qB (wpAny_of_eq p l)
end
structure TGet(K:qH)(T:Lz):Prop where
 rd:readsIn K T (.type "type")=true
 sp:specialIn K (.ref T) "__getattribute__"=some (some (.builtin "type.__getattribute__"))
 fc:findCls K (.ref T) (.type "type") "__init__"=some (.val (.builtin "ValueError.__init__"))
section
variable{X:Cx}{O:L2.St}{H:Hp}
def zC9(N:Ls Str):Lb->Bool
 | .FormattedValue (.Name x _) c none _=>c == -1&&N.contains x| .Constant (.str y) _ _=>decide (y.length<=1000)|_=>false
theorem zAI(G:∀x∈N,∃i,∀p,PE X (.Name x p) (YC i)/\∃n:Int,O[i]?=some (some (.int n))/\n.natAbs.log2<1920):∀(j:Ls Lb) (g:Str) (k:Nat) (a:Ls (Lz×Obj)) (s:La) (Q:Str->La->Prop),j.all (zC9 N)=true->Inv X a O H s->g.length<=2000*k->k+j.length<=100 ->
  (∀l E,Inv X a O H E->l.length<=200000->Q l E)->Joins (model X.prog X.w) X.A X.xe (evalEach j X.env) g Q s
 | [],g,k,a,s,Q,_,I,hl,w,B=>B g s I (by simp at w;omega)
 |v::j,g,k,a,s,Q,J,I,hl,w,B=>by
  dsimp[all_cons,Bool.and_eq_true]at J;obtain⟨h,h2⟩:=J;dsimp[length_cons]at w;have sz:(200000:Nat)<=sizeLine:=by left
  have D:∀(y:Str) (t:Tok) (s1:La),Inv X a O H s1->y.length<=2000->∃o W,Value.str y t=.str o W/\(g++o).length<=sizeLine/\Joins (model X.prog X.w) X.A X.xe (evalEach j X.env) (g++o) Q s1:=λy t s1 I1 hy=>by
   have e:(g++y).length=g.length+y.length:=strLen_append g y;refine⟨y,t,rfl,by rw[e];omega,zAI G j (g++y) (k+1) a s1 Q h2 I1 (by rw[e];omega) (by omega) B⟩
  show wpAny _ _ (eval v X.env) _ _ s
  cases v with
  |FormattedValue e c S Y=>cases e with
   |Name x p=>cases S with
    |none =>
     have h:(c == -1&&N.contains x)=true:=h;dsimp[Bool.and_eq_true,beq_iff_eq]at h;obtain⟨rfl,L⟩:=h;obtain⟨i,V⟩:=G x (by exists L);obtain⟨R,n,K,hz⟩:=V p;refine wpAny_FormattedValue_plain (thn (R a s O H (λz H1=>z=.int n/\H1=H) I ⟨_,K,rfl,rfl⟩) λu s1 ⟨z,H1,I1,C,r,q⟩=>?_);subst r q;obtain⟨M,rfl⟩:=C;refine wpAny_formatField_int hz (D _ _ _ (I1.tok _) ?_);have:=int_text_length_le (k:=1920) (by decide) hz;have e:(Str.ofString (toString n)).length=(toString n).length:=PySem.ofString_length _;rw[e];omega
    |some _=>exact absurd h qF
   |_=>exact absurd h qF
  |Constant k Z p=>cases k with
   |str y =>
    exact thn (zGc (X:=X) (x:=y) a s O H (λz H1=>z=.str y/\H1=H) I ⟨rfl,rfl⟩) λu s1 ⟨z,H1,I1,C,r,q⟩=>by
     subst r q;obtain⟨M,rfl⟩:=C;exact D _ _ _ I1 (by have:=of_decide_eq_true h;omega)
   |_=>exact absurd h qF
  |_=>exact absurd h qF
end
section
variable{X:Cx}{C T:Lz}
def upd_id(h:H a=some o):upd H a o=H:=by
 funext b;unfold upd;split
 ·rename_i e;rw[e,h]
 ·rfl
def Nums(X:Cx)(O:L2.St)(a:Ls Str):Prop:=∀x∈a,∃i,∀p,PE X (.Name x p) (YC i)/\∃n:Int,O[i]?=some (some (.int n))/\n.natAbs.log2<1920
def pe_init{f:Lz}{S:Ls Str}{n l:Lb}{r:Ls Lb}{p1 G R L K:Pos}(hx:zA4 X.K C f=true)(hg:Gl X "ThrowError")(Y:X.mg "ThrowError"=some (.ref T))(v:TGet X.K T)(k:∀p,PE X (.Name "self" p) (YC 0))(hp:(n::l::r).all (zC9 S)=true)(E:(n::l::r).length<=50)(i:(L.endLine==K.line)=true) :
  PE X (.Call (.Attribute (.Name "ThrowError" p1) "__init__" L) [.Name "self" G,.JoinedStr (n::l::r) R] [] K) (λO H Q=>∃a,O[0]?=some (some (.ref a))/\H a=some (XO C a none)/\Nums X O S/\Q .non H):=by
 intro c s O H Q I ⟨a,h0,ha,hv,q⟩;obtain⟨bm,N,nm,qn,bs,M,sn,sub,ab,aa,dd,k0,k1,k2,k3,k5,mN,hC,hN,hi,TT⟩:=zG6 I.ok.mod.kin hx;refine meth_x rfl rfl i ?_;refine Ys I hg Y (λpl=>?_) (by decide);refine PySem.W.method_cls I.kIn v.sp (PySem.W.cls_value I.kIn v.rd v.fc rfl ?_);refine Calls.callWith_builtin rfl ?_;have I0:Inv X c O H {s with toks:=s.toks+1}:=I.tok _
 refine Calls.evalArgs_plain (Calls.spliced_cons (thn (k G c _ O H (λz H1=>z=.ref a/\H1=H) I0 ⟨_,h0,rfl,rfl⟩) λu s1 ⟨z,H1,I1,rz,e1,V⟩=>?_));subst e1 V;obtain rfl:u=Value.ref a:=rz;refine Calls.spliced_cons (wpAny_JoinedStr (pos:=R) (zAI hv (n::l::r) Str.empty 0 c s1 _ hp I1 (zero_le _) (by omega) λW s2 I2 ho=>?_));refine⟨le_trans ho (by left),?_⟩;refine Calls.spliced_nil ?_;obtain⟨B,g,d,tk,os⟩:=s2;obtain⟨⟨oe,t,Z,h,j,y⟩,_⟩:=(show zz X.prog X.w H1 B a (XO C a none)from I2.hok a _ ha);have bk:=λ(b:Lz) (o:Obj) (z:X.base.get? b=some o)=>I2.bk b o z
 refine bx_init (TT.keeps bk) (bk _ _ hC) Z h y λh' t' hk D=>?_
 have J:=I2.write (t':=tk+1) (x:=a) (e:=a) (o:=XO C a none) (h':=h') (by rw[ha];trivial) (.inl rfl) (λb u hb e=>hk b u hb e) ⟨_,D⟩ (vm (P:=X.prog) (w:=X.w) D h j rfl);rw[upd_id ha]at J;exact⟨.non,H1,J,rfl,q⟩
def xd_one(hn:h.Ns1 d (λy=>if y=nm then some u else none))(r:ym v u):zz P w H h d (XD d [(nm,v)]):=by
 obtain⟨o,x,p,e,t⟩:=id hn;refine⟨⟨_,hn,λf=>?_⟩,⟨o,e⟩,λq h2 ⟨j,⟨i,a,c,l,n⟩,hf⟩ k=>⟨j,⟨i,a,c,k _ l,n⟩,hf⟩⟩;by_cases g:f=nm
 ·subst g;simp[lookup,RelO,r]
 ·have:(f==nm)=false:=by exists g
  simp[lookup,this,g,RelO]
def zBO{fs:Ls (Str×V)}{nm f:Str}{v:V}(h:fs.lookup nm=none):(fs++[(nm,v)]).lookup f=if f=nm then some v else fs.lookup f:=by
 induction fs with
 |nil =>
  by_cases c:f=nm
  ·simp[lookup,c]
  ·have:(f==nm)=false:=by exists c
   simp[lookup,c,this]
 |cons p fs e =>
  obtain⟨k,x⟩:=p;dsimp[lookup]at h;split at h
  ·cases h
  ·rename_i g
   dsimp[List.cons_append,lookup];by_cases hf:f==k
   ·have a:f=k:=by exists hf
    subst a;have:f≠nm:=λz=>by subst z;simp at g
    simp[this]
   ·have a:(f==k)=false:=by exists hf
    dsimp[a];exact e h
def xd_more{P:Lc}{w:Le}{H:Hp}{h:Heap}{d:Lz}{nm:Str}{v:V}{u:Lv}{fs:Ls (Str×V)}{a:Str->Lx Lv}(j:∀f,RelO (fs.lookup f) (a f))(l:fs.lookup nm=none)(hn:h.Ns1 d (λy=>if y=nm then some u else a y))(r:ym v u):zz P w H h d (XD d (fs++[(nm,v)])):=by
 obtain⟨o,B,t,e,z⟩:=id hn;refine⟨⟨_,hn,λf=>?_⟩,⟨o,e⟩,λx h2 ⟨a,⟨n,c,g,p,q⟩,hf⟩ k=>⟨a,⟨n,c,g,k _ p,q⟩,hf⟩⟩;rw[zBO l];by_cases i:f=nm
 ·dsimp[i,if_true];exact r
 ·dsimp[i,if_false];exact j f
theorem vC:∀{fs:Ls (Str×V)} {f:Str},fs.lookup f≠none->f∈fs.map (·.1)
 | [],f,h=>absurd rfl h
 | (k,x)::fs,f,h=>by
  by_cases a:f=k
  ·simp[a]
  ·have:(f==k)=false:=by exists a
   dsimp[lookup,this]at h;exact qD _ (vC h)
def ps_attr(S:XSet X.K C T)(V:findIn X.K (.ref C) nm=some none)(M:∀p,PE X (.Name "self" p) (YC 0))(hv:∀p,PE X (.Name nm p) (YC i)) :
  PS X (.Assign [.Attribute (.Name "self" q1) nm q2] (.Name nm q3) q4) (λD O H=>∃a n,O[0]?=some (some (.ref a))/\O[i]?=some (some (.int n)) /\
   ((H a=some (XO C a none)/\∀d,H d=none->D.nx O (upd (upd H d (XD d [(nm,.int n)])) a (XO C a (some d)))) \/
    ∃d fs,H a=some (XO C a (some d))/\H d=some (XD d fs)/\fs.length<=50/\fs.lookup nm=none/\D.nx O (upd H d (XD d (fs++[(nm,.int n)]))))):=by
 intro B s O H D I z9;obtain⟨a,n,h0,h1,h⟩:=z9;refine plainObj_wpAny_Assign_Attribute (thn (hv q3 B s O H (λz H1=>z=.int n/\H1=H) I ⟨_,h1,rfl,rfl⟩) λu s1 z9=>?_) rfl;obtain⟨z,H1,I1,rz,e1,e2⟩:=z9;subst e1 e2;refine thn (M q1 B s1 O H1 (λz H2=>z=.ref a/\H2=H1) I1 ⟨_,h0,rfl,rfl⟩) λov s2 z9=>?_;obtain⟨z,H2,I2,ro,e1,e2⟩:=z9
 subst e1 e2;obtain rfl:ov=Value.ref a:=ro;obtain⟨j,g,dr,tk,os⟩:=s2;rcases h with⟨Q,q⟩|⟨d,fs,Q,hd,hl,hk,q⟩
 ·obtain⟨⟨oe,t,Z,l,k,v⟩,_⟩:=(show zz X.prog X.w H2 j a (XO C a none)from I2.hok a _ Q)
  refine zCL S V I2.kIn Z l v ⟨λ_ h' G R k2 k3=>?_,λdx z=>by rw[k]at z;cases z⟩;have Y:j.objs.size≠a:=ne_of_gt (lt_size Z);have K:H2 j.objs.size=none:=I2.hok.fresh (le_refl _);have w1:HOk X.prog X.w (upd H2 a (XO C a (some j.objs.size))) h':=I2.hok.write (e:=a) (by rw[Q];trivial) (.inl rfl) (λb u r e=>R b u r e) ⟨_,k3⟩ (vm (P:=X.prog) (w:=X.w) k3 l rfl v);have e0:upd (upd H2 j.objs.size (XD j.objs.size [(nm,.int n)])) a (XO C a (some j.objs.size))=upd (upd H2 a (XO C a (some j.objs.size))) j.objs.size (XD j.objs.size [(nm,.int n)]):=by
   funext b
   by_cases r:b=a
   ·subst r;rw[zU,zG (Ne.symm Y),zU]
   ·rw[zG r]
    by_cases E:b=j.objs.size
    ·subst E;rw[zU,zU]
    ·rw[zG E,zG E,zG r]
  have W:upd H2 a (XO C a (some j.objs.size)) j.objs.size=none:=by rw[zG Y];exact K
  have w2:HOk X.prog X.w (upd (upd H2 a (XO C a (some j.objs.size))) j.objs.size (XD j.objs.size [(nm,.int n)])) h':=λb o e=>by
   by_cases r:b=j.objs.size
   ·subst r;rw[zU]at e;cases e
    exact xd_one k2 rz
   ·rw[zG r]at e
    refine(w1 b o e).stay (λ_ _ _ z=>z) (λc z=>?_) λc xs z=>?_
    ·rw[zG (yY z W)];exact z
    ·rw[zG (yY z W)];exact z
  have aa:∀b o,j.get? b=some o->b≠j.objs.size:=λb o e=>ne_of_lt (lt_size e)
  have L:∀b,H2 b=none->b≠a:=λb n z=>by subst z;rw[Q]at n;cases n
  have nt:∀{b:Lz} {o:HO},H2 b=some o->¬Mut (some o)->upd (upd H2 a (XO C a (some j.objs.size))) j.objs.size (XD j.objs.size [(nm,.int n)]) b=some o:=λ{b o} e nm=>by
   rw[zG (yY e K),zG (λz=>nm (by subst z;rw[Q]at e;cases e;trivial))];exact e
  have un:Un X.fs [] H2 (upd (upd H2 a (XO C a (some j.objs.size))) j.objs.size (XD j.objs.size [(nm,.int n)])) j h':=by
   refine⟨λb o e n _ _=>R b o (L b n) e,λb o e n _ _=>⟨o.slots,R b o (L b n) e⟩,λb o e n _=>by rw[zG (aa b o e),zG (L b n)];exact n,λb o e _=>?_,λb xs e=>nt e λz=>z,λb o u e=>nt e λz=>z,λb ps e=>⟨#[],by rw[nt e λz=>z];simp⟩⟩;by_cases r:b=a
   ·subst r;exact⟨_,k3⟩
   ·exact⟨o,R b o r e⟩
  have J:=I2.un (t':=G) un w2;rw[<- e0]at J;exact⟨O,_,J,q _ K⟩
 ·obtain⟨⟨oe,t,Z,l,k,v⟩,_⟩:=(show zz X.prog X.w H2 j a (XO C a (some d))from I2.hok a _ Q)
  obtain⟨⟨mA,hn,hm⟩,_⟩:=(show zz X.prog X.w H2 j d (XD d fs)from I2.hok d _ hd);refine zCL S V I2.kIn Z l v ⟨λz=>(by rw[k]at z;cases z),λdx z=>?_⟩;rw[k]at z;cases z;refine⟨mA,fs.map (·.1),hn,λy hy=>vC λz=>?_,by rw[length_map];omega,λh' G R k2=>?_⟩
  ·have:=hm y
   rw[z]at this;cases e:mA y with
   |none=>exact hy e|some u=>rw[e]at this;exact this
  ·obtain⟨o,es,ep,e,_⟩:=id k2
   exact⟨O,_,I2.write (t':=G) (x:=d) (e:=d) (by rw[hd];trivial) (.inl rfl) (λb u r e=>R b u r e) ⟨_,e⟩ (xd_more hm hk k2 rz),q⟩
end
structure RiAt(K:qH)(mg:Str->Option Lv)(c:Str)(st:Lh):Prop where
 ex:∃C T f fd qual,mg c=some (.ref C)/\mg "ThrowError"=some (.ref T)/\keepIn K (.ref C)=true/\zA4 K C f=true/\typeIn K (.ref f)=some (.type "function")/\Fun K "__init__" qual st f fd/\wt K fd ("self"::y0 c) []/\TGet K T/\XSet K C T/\∀n∈y0 c,findIn K (.ref C) n=some none
def zFU(as:Ls Str)(st:Lh):Ck (∀(X:Cx) (C T f:Lz),zA4 X.K C f=true->Gl X "ThrowError"->X.mg "ThrowError"=some (.ref T)->TGet X.K T->(∀p,PE X (.Name "self" p) (YC 0))->PS X st (λD O H=>∃a,O[0]?=some (some (.ref a))/\H a=some (XO C a none)/\Nums X O as/\D.nx O H)) :=
 qExpr st λe _=>qCall e λg z y G=>qAttribute g λt i l=>qName t λt _=>qCons z λv r=>qName v λs _=>qCons r λj r=>qJoinedStr j λw _=>qNil r <| qNil y <| qCons w λk r=>qCons r λh jQ =>
  bq t "ThrowError" λB=>bq i "__init__" λh2=>bq s "self" λo=>bk (l.endLine==G.line) λh4=>bk ((k::h::jQ).all (zC9 as)) λh5=>bk (decide ((k::h::jQ).length<=50)) λx=>rt λX C T f u E n hT c=>by
   subst B h2 o;exact yt (Gu (pe_init u E n hT c h5 (of_decide_eq_true x) (by exists h4))) λD O H q=>q
def zBP(n:Str)(st:Lh):Ck (∀(X:Cx) (C T:Lz) (i:Nat),XSet X.K C T->findIn X.K (.ref C) n=some none->(∀p,PE X (.Name "self" p) (YC 0))->(∀p,PE X (.Name n p) (YC i)) ->
  PS X st (λD O H=>∃a k,O[0]?=some (some (.ref a))/\O[i]?=some (some (.int k)) /\
   ((H a=some (XO C a none)/\∀d,H d=none->D.nx O (upd (upd H d (XD d [(n,.int k)])) a (XO C a (some d)))) \/
    ∃d fs,H a=some (XO C a (some d))/\H d=some (XD d fs)/\fs.length<=50/\fs.lookup n=none/\D.nx O (upd H d (XD d (fs++[(n,.int k)])))))) :=
 qAssign st λj v _=>qCons j λt r=>qNil r <| qAttribute t λs a _=>qName s λs _=>qName v λb _=>bq s "self" λh=>bq a n λh2=>bq b n λg=>rt λX C T i S e c hv=>by
  subst h h2 g;exact ps_attr S e c hv
def bodyI:Ls Str->Ls Lh->Bool
 | [n],[a,c]=>(zFU [n] a).yes&&(zBP n c).yes| [n,m],[a,c,s2]=>(zFU [n,m] a).yes&&(zBP n c).yes&&(zBP m s2).yes&&n != m|_,_=>false
def zG7(as:Ls Str)(sc:Scope)(body:Ls Lh):Bool:=bodyI as body&&sc.names.lookup ("ThrowError":Str)==some NameKind.globalImplicit&&(("self":Str)::as).all λx=>sc.names.lookup x==some NameKind.local&&!(x==("__debug__":Str))&&!(x==("__classdict__":Str))
def ris_nil{R:Str->Prop}:∀c∈([]:Ls Str),R c:=λ_ h=>by cases h
def zFV{R:Str->Prop}(h:R c)(t:∀c∈cs,R c):∀d∈c::cs,R d:=λd a=>by
 rcases mem_cons.mp a with rfl|a
 ·exact h
 ·exact t d a
def ri_of{P:Lc}{w:Le}{K:qH}{mg:Str->Lx Lv}{base:Heap}{c:Str}{st:Lh}(R:RiAt K mg c st)(S:FnScope ("self"::y0 c) ("self"::y0 c) (zY st))(h:zG7 (y0 c) (zY st) (yk st)=true):RIok P w K mg base c:=by
 obtain⟨C,T,f,fd,L,hm,hT,hk,X,aa,F,M,tg,Z,v⟩:=R.ex;refine⟨C,f,fd,hm,hk,X,aa,M,?_⟩;obtain⟨oc,od,kV,ad,pm,an,ab,ct,ac,rfl,lk,Y⟩:=F.ex;dsimp[zG7,Bool.and_eq_true,beq_iff_eq,all_eq_true,Bool.not_eq_true']at h;obtain⟨⟨g,I⟩,O⟩:=h;refine zGl lk Y S (λvs H Q E z9=>by obtain⟨a,J,e,hl,_⟩:=z9;rw[e];simp[hl]) λA outer s H vs Q E u hr z9=>?_;obtain⟨a,J,ev,hl,y,B,q⟩:=z9
 subst ev;have vis:∀(i:Nat) (x:Str),(("self":Str)::y0 c)[i]?=some x->∀p,PE (cxN true P w K mg base ("self"::y0 c) L (zY st) f ab A outer s H E) (.Name x p) (YC i):=λi x hi p=>by
  obtain⟨⟨h1,h2⟩,h3⟩:=O x (mem_of_getElem? hi);exact zGb hi (.inl h1) h2 h3
 have G:=vis 0 "self" rfl;generalize eA:y0 c=as at *;unfold bodyI at g;split at g
 ·rename_i n s0 s1 j
  dsimp[Bool.and_eq_true]at g;obtain⟨b0,W⟩:=g;obtain⟨k,rfl⟩:∃k,J=[k]:=by
   match J,hl with
   | [k],_=>exact⟨k,rfl⟩
  rw[j];have hv1:=vis 1 n rfl;refine⟨_,Zm ((zFU _ _).why b0 _ C T f X I hT tg G) (Gs ((zBP _ _).why W _ C T 1 Z (v n (by simp)) G hv1)),?_⟩;refine⟨a,rfl,B,λx o=>?_,a,k,rfl,rfl,.inl ⟨B,λd u=>?_⟩⟩
  ·rw[mem_singleton.mp o];exact⟨1,λp=>⟨hv1 p,k,rfl,y k (by simp)⟩⟩
  ·have:=q d u
   unfold fsV at this;rw[eA]at this;exact this
 ·rename_i n m s0 s1 s2 j
  dsimp[Bool.and_eq_true,bne_iff_ne,ne_eq]at g;obtain⟨⟨⟨b0,W⟩,b2⟩,b3⟩:=g;obtain⟨k,l,rfl⟩:∃k l,J=[k,l]:=by
   match J,hl with
   | [k,l],_=>exact⟨k,l,rfl⟩
  rw[j];have hv1:=vis 1 n rfl;have D:=vis 2 m rfl;refine⟨_,Zm ((zFU _ _).why b0 _ C T f X I hT tg G) (Zm ((zBP _ _).why W _ C T 1 Z (v n (by simp)) G hv1) (Gs ((zBP _ _).why b2 _ C T 2 Z (v m (by simp)) G D))),?_⟩;refine⟨a,rfl,B,λx o=>?_,a,k,rfl,rfl,.inl ⟨B,λd u=>⟨a,l,rfl,rfl,.inr ⟨d,[(n,.int k)],zU,?_,by simp,?_,?_⟩⟩⟩⟩
  ·rcases mem_cons.mp o with rfl|o
   ·exact⟨1,λp=>⟨hv1 p,k,rfl,y k (by simp)⟩⟩
   ·rw[mem_singleton.mp o];exact⟨2,λp=>⟨D p,l,rfl,y l (by simp)⟩⟩
  ·have t:d≠a:=λz=>by subst z;rw[B]at u;cases u
   rw[zG t,zU]
  ·have:(m==n)=false:=by exists λz:m=n=>b3 z.symm
   simp[lookup,this]
  ·have:=q d u
   unfold fsV at this;rw[eA]at this;have t:d≠a:=λz=>by subst z;rw[B]at u;cases u
   have e:upd (upd (upd H d (XD d [(n,.int k)])) a (XO C a (some d))) d (XD d ([(n,V.int k)]++[(m,V.int l)]))=upd (upd H d (XD d ([n,m].zip ([k,l].map V.int)))) a (XO C a (some d)):=by
    funext b
    by_cases M:b=a
    ·subst M;rw[zG (Ne.symm t),zU,zU]
    ·by_cases r:b=d
     ·subst r;rw[zU,zG t,zU];rfl
     ·rw[zG r,zG M,zG r,zG M,zG r]
   rw[e];exact this
 ·cases g
def RAok(K:qH)(a:Str->Lx Lv)(c:Str):Prop:=∃C T,a c=some (.ref C)/\a "ThrowError"=some (.ref T)/\XSet K C T/\∀n∈y0 c,findIn K (.ref C) n=some none
def ra_of{K:qH}{g:Str->Lx Lv}{c:Str}{st:Lh}(R:RiAt K g c st):RAok K g c:=by
 obtain⟨C,T,f,l,e,h,hT,n,k,j,F,o,p,i,a⟩:=R.ex;exact⟨C,T,h,hT,i,a⟩
def eAtr(a:Ls Str)(f:Str)(m:ME):ME:=λE=>match m E with
 | .z=>.z| .y x E1=>.y x E1
 | .ok (.v (.exn c e),E1)=>if a.contains c=true then(match((y0 c).zip e).lookup f with
  |some n=>.ok (.v (.int n),E1)|none=>.z)else .z
 |_=>.z
theorem vD:∀(as:Ls Str) (c:Ls Int) (f:Str),(as.zip (c.map V.int)).lookup f=((as.zip c).lookup f).map V.int
 | [],_,_=>rfl|a::as,[],_=>rfl
 |a::as,v::c,f=>by
  dsimp[map_cons,zip_cons_cons,lookup];cases f==a with
  |true=>rfl|false=>exact vD as c f
theorem uy:∀{as:Ls Str} {c:Ls Int} {f:Str} {n:Int},(as.zip c).lookup f=some n->f∈as
 | [],_,_,_,e=>by cases e|a::as,[],_,_,e=>by cases e
 |a::as,v::c,f,n,e=>by
  dsimp[zip_cons_cons,lookup]at e;cases h:f==a with
  |true=>simp[beq_iff_eq.mp h]|false=>rw[h]at e;exact qD _ (uy e)
section
variable{X:Cx}{O:L2.St}{H:Hp}
def pe_atr{z:Ls Str}{e:Lb}{f:Str}{pos:Pos}{D:TE}{T:Lz}(L:X.mg "ThrowError"=some (.ref T))(w:∀c∈z,RAok X.K X.mg c/\∃C,X.mg c=some (.ref C)/\XCls X.K c C T)(M:PE X e D)(hb:attributeBase e f X.env (eval e X.env)=eval e X.env) :
  PE X (.Attribute e f pos) (λO H Q=>D O H λx H1=>∃c l n,Rep X.K X.mg H1 (.exn c l) x/\c∈z/\((y0 c).zip l).lookup f=some n/\Q (.int n) H1):=by
 intro g s O H Q I h;refine attr_of hb (thn (M g s O H _ I h) λu E z9=>?_);obtain⟨x,H1,I1,K,c,l,n,B,V,hl,q⟩:=z9;dsimp[Rep]at B;obtain⟨a,C,rfl,r,y⟩:=B;obtain⟨⟨C1,T1,i,k,Z,p⟩,C2,j,Y⟩:=w c V;rw[r]at i j;cases i;cases j;rw[L]at k;cases k;obtain rfl:u=Value.ref a:=K;rcases y with⟨rfl,_⟩|⟨d,ha,y⟩
 ·dsimp[List.zip_nil_right,lookup]at hl;cases hl
 ·obtain⟨⟨o,S,J,W,ws,R⟩,_⟩:=(show zz X.prog X.w H1 E.heap a (ExA C d a)from I1.hok a _ ha)
  obtain⟨⟨mA,G,r⟩,_⟩:=(show zz X.prog X.w H1 E.heap d (XD d (fsV c l))from I1.hok d _ y);have hf:=r f;unfold fsV at hf;rw[vD,hl]at hf;exists ev,mA f,hf,v;obtain⟨tk,rfl⟩:=(show ∃t,v=Value.int n t from hf);exact ga_attr Y Z (p f (uy hl)) I1.kIn S J R W G ev rfl ⟨.int n,H1,I1.tok _,⟨_,rfl⟩,q⟩
def atr_run(h:tM X (eAtr ri f m) O H Q):tM X m O H λx H1=>∃c a n,Rep X.K X.mg H1 (.exn c a) x/\c∈ri/\((y0 c).zip a).lookup f=some n/\Q (.int n) H1:=by
 obtain⟨M,E,hl,i,k⟩:=h;unfold eAtr at k;refine ze (T0:=[]) hl i ?_;exists ea,m E,k,r,E1;cases r with
 |w j=>exact k.elim|m _ _=>exact k.elim
 |v d =>
  cases d with
  |exn c a =>
   dsimp at k;intro v H' g;cases e:ri.contains c with
   |false=>rw[e]at k;exact k.elim
   |true =>
    rw[e]at k;exists hn,((y0 c).zip a).lookup f,k,n;exact⟨c,a,n,g.rep.mono zF,by simpa using e,hn,k _ H' (g.flat (d:=.int n) rfl)⟩
  |_=>exact k.elim
def ok_atr{g:Ls Str}{e:Lb}{f:Str}{m:ME}{pos:Pos}{T:Lz}(h:X.mg "ThrowError"=some (.ref T))(a:∀c∈g,RAok X.K X.mg c/\∃C,X.mg c=some (.ref C)/\XCls X.K c C T)(i:EOk X e m)(j:attributeBase e f X.env (eval e X.env)=eval e X.env) :
  EOk X (.Attribute e f pos) (eAtr g f m):=zb (pe_atr h a i j) λO H Q=>atr_run
end
end DV
namespace DV
open PySem L2
section
variable{X:Cx}{O:L2.St}{H:Hp}{K:qH}{mg:Str->Lx Lv}{M:Ld}{E E1:za}{T0:Fz}
def whN(c:MT)(b:MS):Nat->MS
 |0=>λ_=>.z
 |n+1=>λE=>match c E with
  | .z=>.z| .y x E1=>.y x E1| .ok (false,E1)=>.ok (.nx,E1)
  | .ok (true,E1)=>match b E1 with
   | .ok (.nx,E2)=>whN c b n E2| .ok (.ct,E2)=>whN c b n E2| .ok (.bk,E2)=>.ok (.nx,E2)|o=>o
def whN_run{c:MT}{b:MS}{D:Ends}{n:Nat}(h:tS X (whN c b n) D O H):zGf (tMT X c) (tS X b) D O H:=by
 refine⟨λm O H=>tS X (whN c b m) D O H,⟨n,h⟩,λm O H h=>?_⟩;cases m with
 |zero=>obtain⟨M,E,hl,w,k⟩:=h;exact k.elim
 |succ m =>
  obtain⟨M,E,hl,w,k⟩:=h;unfold whN at k;refine Yw (T0:=[]) hl w ?_;cases l:c E with
  |z=>rw[l]at k;exact k|y x E1=>rw[l]at k;exact λH' g=>k O H' g
  |ok p =>
   obtain⟨t,E1⟩:=p;rw[l]at k;intro H1 a;cases t with
   |false=>exact iteF (k O H1 a)
   |true =>
    refine iteT ⟨λO' H'=>tS X (whN c b m) D O' H',λO' H' q=>⟨m,Nat.lt_succ_self m,q⟩,?_⟩;refine WH (T0:=[]) a.len a.fr ?_;dsimp at k;cases o:b E1 with
    |z=>rw[o]at k;exact k|y x E2=>rw[o]at k;exact λO' H' g=>k O' H' (a.trans' g)
    |ok p =>
     obtain⟨u,E2⟩:=p;rw[o]at k;cases u with
     |ret r=>exact λv O' H' g=>k v O' H' (a.trans' g)|bk=>exact λO' H' g=>k O' H' (a.trans' g)|nx=>exact λO' H' g=>go a g k|ct=>exact λO' H' g=>go a g k
where
 go {c:MT} {b:MS} {D:Ends} {n:Nat} {M:Ld} {O O1 O':L2.St} {E E1 E2:za} {H H1 H':Hp} (a:Got X.K X.mg M O E H [] O1 E1 H1 []) (g:Got X.K X.mg M O1 E1 H1 [] O' E2 H' [])
  (k:match whN c b n E2 with
   | .z=>False| .ok (.nx,E')=>∀O' H',Got X.K X.mg M O E H [] O' E' H' []->D.nx O' H'| .ok (.bk,E')=>∀O' H',Got X.K X.mg M O E H [] O' E' H' []->D.bk O' H'| .ok (.ct,E')=>∀O' H',Got X.K X.mg M O E H [] O' E' H' []->D.ct O' H'| .ok (.ret r,E')=>∀v O' H',Got X.K X.mg M O E H [] O' E' H' [(some v,r.slot)]->D.rt v H'
   | .y x E'=>∀O' H',Got X.K X.mg M O E H [] O' E' H' []->XE X O' H' x):tS X (whN c b n) D O' H':=by
  have j:=a.trans' g;refine WH (T0:=[]) j.len j.fr ?_;cases e:whN c b n E2 with
  |z=>rw[e]at k;exact k|y x E3=>rw[e]at k;exact λO3 H3 i=>k O3 H3 (j.trans' i)
  |ok p =>
   obtain⟨u,E3⟩:=p;rw[e]at k;cases u with
   |nx=>exact λO3 H3 i=>k O3 H3 (j.trans' i)|bk=>exact λO3 H3 i=>k O3 H3 (j.trans' i)|ct=>exact λO3 H3 i=>k O3 H3 (j.trans' i)|ret r=>exact λv O3 H3 i=>k v O3 H3 (j.trans' i)
def sWhile(c:MT)(b:MS):MS:=whN c b 1000000
def zFW(e:PassesOwn (model X.prog X.w) X.A X.env X.xe)(g:TOk X c mc)(a:uJ X body mb):SOk X (.While c body [] pos) (sWhile mc mb) :=
 yt (zEW e g a) λD O H h=>whN_run h
def sAug(i:Nat)(f:Int->Int->Lx Int)(m:ME):MS:=λE=>match E[i]? with
 |some (.v (.int a))=>(match m E with
  | .z=>.z| .y x E1=>.y x E1
  | .ok (r,E1)=>match r.d with
   | .int b=>(match E1[i]?,f a b with
    |some (.v (.int c)),some z=>if c=a then .ok (.nx,E1.set i (.v (.int z)))else .z|_,_=>.z)
   |_=>.z)
 |_=>.z
def QJ{i:Nat}{f:Int->Int->Lx Int}{q:TIp}{m:ME}{D:Ends}(J:∀a b z H Q,f a b=some z->Q (.int z) H->q (.int a) (.int b) H Q)(h:tS X (sAug i f m) D O H):tAug i (tM X m) q D O H:=by
 obtain⟨M,E,hl,n,k⟩:=h;unfold sAug at k;exists e0,E[i]?,k,s0;cases s0 with
 |v d =>
  cases d with
  |int a =>
   dsimp at k;obtain⟨o,K,h2⟩:=jk hl e0;obtain⟨v,rfl,C⟩:=n.val o (.int a) h2;have ev:=zS C;subst ev;refine⟨.int a,K,?_⟩;refine ze (T0:=[]) hl n ?_;cases j:m E with
   |z=>rw[j]at k;exact k|y x E1=>rw[j]at k;exact λH' g=>k O H' g
   |ok p =>
    obtain⟨r,E1⟩:=p;rw[j]at k;intro y H1 g;dsimp at k;cases l:r.d with
    |int b =>
     rw[l]at k;dsimp at k;have u:=g.rep;rw[l]at u;have I:=zS u;subst I;cases c:E1[i]? with
     |none=>rw[c]at k;exact k.elim
     |some w =>
      cases e:f a b with
      |none=>rw[c,e]at k;cases w<;>first|exact k.elim|(rename_i d;cases d<;>exact k.elim)
      |some z =>
       rw[c,e]at k;cases w with
       |v G =>
        cases G with
        |int L =>
         dsimp at k;by_cases t:L=a
         ·rw[if_pos t]at k
          refine J a b z _ _ e (k _ H1 ?_);have B:=g.dropAll.flat (d:=.int z) rfl;exact WI (r:=.v (.int z)) B (by dsimp[Zi,c];rfl)
         ·rw[if_neg t]at k;exact k.elim
        |_=>exact k.elim
       |_=>exact k.elim
    |_=>rw[l]at k;exact k.elim
  |_=>exact k.elim
 |_=>exact k.elim
def ip_mulB:PIp X .Mult (λx y H Q=>∃i j,x=.int i/\y=.int j/\CMulB i j/\Q (.int (i*j)) H):=by
 intro a s O H x y v u Q I k c h;obtain⟨i,j,g,e,l,q⟩:=h;subst g;subst e;obtain⟨t,rfl⟩:=k;obtain⟨n,rfl⟩:=c;refine PyProof.Rows.imul_int ⟨.int _,H,I.tok _,⟨_,rfl⟩,q⟩ ?_;rcases l with h|h
 ·exact h.ok
 ·exact zCa h.1 h.2
def zDA:Int->Int->Lx Int:=λa b=>if((-(2^64)<a/\a<2^64)\/(-(2^64)<b/\b<2^64))\/(a.natAbs<Big/\b.natAbs<Big)then some (a*b)else none
def zDB{i:Nat}{x:Str}{e:Lb}{m:ME}{pos c:Pos}(o:X.N.Nodup)(n:X.N[i]?=some x)(k:Loc X.env.scope x)(l:X.fn x=true\/X.env.scope.names.lookup x=some .local)(g:EOk X e m):SOk X (.AugAssign (.Name x c) .Add e pos) (sAug i (λa b=>some (a+b)) m) :=
 yt (zBo o n k g ip_add l) λD O H h=>QJ (λa b z H Q j q=>by cases j;exact⟨a,b,rfl,rfl,q⟩) h
def zDC{i:Nat}{x:Str}{e:Lb}{m:ME}{pos c:Pos}(o:X.N.Nodup)(n:X.N[i]?=some x)(k:Loc X.env.scope x)(l:X.fn x=true\/X.env.scope.names.lookup x=some .local)(g:EOk X e m):SOk X (.AugAssign (.Name x c) .Sub e pos) (sAug i (λa b=>some (a-b)) m) :=
 yt (zBo o n k g ip_sub l) λD O H h=>QJ (λa b z H Q j q=>by cases j;exact⟨a,b,rfl,rfl,q⟩) h
def zDD{i:Nat}{x:Str}{e:Lb}{m:ME}{pos c:Pos}(p:X.N.Nodup)(n:X.N[i]?=some x)(k:Loc X.env.scope x)(l:X.fn x=true\/X.env.scope.names.lookup x=some .local)(j:EOk X e m):SOk X (.AugAssign (.Name x c) .Mult e pos) (sAug i zDA m) :=
 yt (zBo p n k j ip_mulB l) λD O H h=>QJ (λa b z H Q g q=>by
  unfold zDA at g;split at g
  ·rename_i o
   cases g;exact⟨a,b,rfl,rfl,o,q⟩
  ·cases g) h
end
mutual
def pyD:D->Lx PyData
 | .non=>some .none| .bl b=>some (.bool b)| .int i=>some (.int i)| .str x=>some (.str x)| .t a=>(pyDs a).map .tuple| .l a=>(pyDs a).map .list| .dic=>some (.dict [])|_=>none
def pyDs:Ls D->Lx (Ls PyData)
 | []=>some []
 |d::a=>match pyD d,pyDs a with
  |some x,some c=>some (x::c)|_,_=>none
end
section
variable{X:Cx}{O:L2.St}{pins:Ls (Lz×Obj)}{H:Hp}{s:La}
def zBQ(K:qH):Prop:=∃o a n,K.lookup sysModules=some o/\o.data=.dict a n
def sm_ne(I:Inv X pins O H s)(S:zBQ X.K)(h:s.heap.get? a=some o)(c:o.data=.seq vs n):sysModules≠a:=by
 obtain⟨p,j,m,i,g⟩:=S;intro e;have:=I.kIn _ _ i;rw[e,h]at this;cases this;rw[g]at c;cases c
mutual
theorem y8(I:Inv X pins O H s)(S:zBQ X.K):∀{d:D} {v:V} {u:Lv} {x:PyData},Rep X.K X.mg H d v->ym v u->pyD d=some x->∃as,Reads s.heap u x as/\sysModules∉as
 | .non,v,u,x=>λr c e=>by cases e;rw[G7 r]at c;cases (show u=Value.none from c);exact⟨_,.none,by simp⟩| .bl b,v,u,x=>λr c e=>by cases e;rw[Jf r]at c;cases (show u=Value.bool b from c);exact⟨_,.bool b,by simp⟩| .int i,v,u,x=>λr c e=>by cases e;rw[zS r]at c;obtain⟨t,q⟩:=(show ∃t,u=Value.int i t from c);subst q;exact⟨_,.int i t,by simp⟩| .str y,v,u,x=>λr c e=>by cases e;rw[Y0 r]at c;obtain⟨t,q⟩:=(show ∃t,u=Value.str y t from c);subst q;exact⟨_,.str y t,by simp⟩
 | .t C,v,u,x=>λr c e=>by
  obtain⟨a,R,rfl,j,h2⟩:=yS r;cases (show u=Value.ref a from c);obtain⟨B,E,p,_⟩:=I.tuple j;obtain⟨o,k,w,n,l⟩:=p;dsimp[pyD]at e;exists eq,pyDs C,e,J;cases e;obtain⟨as,q,z⟩:=readss_of I S h2 E eq;exact⟨_,.tuple k w l (by exists q),z⟩
 | .l C,v,u,x=>λr c e=>by
  obtain⟨a,R,rfl,j,h2⟩:=zu r;cases (show u=Value.ref a from c);obtain⟨B,E,p,_⟩:=I.list j;obtain⟨o,n,k,w,_,l⟩:=p;dsimp[pyD]at e;exists eq,pyDs C,e,J;cases e;obtain⟨as,q,z⟩:=readss_of I S h2 E eq;exact⟨_,.list k w l (by exists q),λg=>(mem_cons.mp g).elim (sm_ne I S k l) z⟩
 | .fn y,v,u,x=>λr c e=>by cases e
 | .dic,v,u,x=>λr c e=>by
  cases e;dsimp[Rep]at r;obtain⟨a,rfl,j⟩:=r;cases (show u=Value.ref a from c);obtain⟨_,Q,vs,Z,o,L,ep,M,Y,W,_,K,_⟩:(([]:Ls (Key×V)).length<=sizeLine)/\(a==sysModules)=false/\∃vs,KV [] vs/\s.heap.DictOf (Gq X.prog X.w) a vs:=I.hok a _ j;cases Z;have G:L.toList=[]:=by cases h:L.toList with|nil=>rfl|cons y J=>rw[h]at K;cases K
  refine⟨_,.dict M Y.1 W (kvs:=[]) (by rw[G];exact .nil) (by rw[G];exact .nil),λg=>?_⟩;rcases mem_cons.mp g with g|g
  ·exact beq_eq_false_iff_ne.mp Q g.symm
  ·cases g
 | .exn _ _,_,_,_=>λ_ _ e=>by cases e| .m _ _,_,_,_=>λ_ _ e=>by cases e
theorem readss_of(I:Inv X pins O H s)(S:zBQ X.K):∀{a:Ls D} {c:Ls V} {i:Ls Lv} {g:Ls PyData},Reps X.K X.mg H a c->yH c i->pyDs a=some g->∃as,ReadsAll s.heap i g as/\sysModules∉as
 | [],c,i,g=>λr j e=>by
  cases e;dsimp[Reps]at r;subst r;cases j;exact⟨_,.nil,by simp⟩
 |d::a,c,i,g=>λr j e=>by
  dsimp[Reps]at r;obtain⟨v,w,rfl,y,n⟩:=r;cases j with
  |cons p q =>
   dsimp[pyDs]at e;cases h:pyD d with
   |none=>rw[h]at e;cases e
   |some x =>
    cases k:pyDs a with
    |none=>rw[h,k]at e;cases e
    |some B =>
     rw[h,k]at e;cases e;obtain⟨as,t,o⟩:=y8 I S y p h;obtain⟨bs,u,z⟩:=readss_of I S n q k;exact⟨_,.cons t u,λl=>(mem_append.mp l).elim o z⟩
end
def uz(d:D):Lx R:=match pyD d with
 |some x=>if x.showable=true/\x.depth<=60/\x.shown.length<=cap then some (.v (.str x.shown))else none|none=>none
def zBR(S:zBQ X.K)(C:X.A.guards=some [])(R:X.A.units+64<cLine):Jq X (.builtin "repr") (λD H Q=>∃x d r,D=[x]/\Rep X.K X.mg H d x/\uz d=some r/\∃t,r=.v (.str t)/\Q (.str t) H):=by
 intro j s O H D M Q I E h;obtain⟨x,d,r,rfl,G,v,t,rfl,q⟩:=h;obtain⟨u,rfl,K⟩:=E.one;unfold uz at v;exists ep,pyD d,v,p;dsimp at v;split at v
 ·rename_i c
  cases v;obtain⟨as,J,z⟩:=y8 I S G K ep;have fin:∀g k l,(∀b o,s.heap.get? b=some o->g.get? b=some o)->EP X j O Q (.str p.shown k) {s with heap:=g,toks:=l}:=λg k l n=>⟨.str _,H,I.kept (t':=l) n,⟨_,rfl⟩,q⟩
  have a:EP X j O Q (.str p.shown s.toks) {s with toks:=s.toks+1}:=⟨.str _,H,I.tok _,⟨_,rfl⟩,q⟩
  cases J with
  |none=>exact PySem.P.repr_of_none a|bool b=>exact PySem.P.repr_of_bool a
  |int i t =>
   have L:(decide (i.natAbs.log2<1920))=true:=c.1;exact PySem.P.repr_of_int (of_decide_eq_true L) a
  |str y t=>exact PySem.P.repr_of_str a (wk c.2.2)|list B h2 w h4=>exact repr_of_reads' (.list B h2 w h4) c.1 (λ_=>z) C (by have:=c.2.1;omega) (λ_ _ e=>e) (λg u k n=>fin g u k n) (wk c.2.2)|tuple B h2 w h4=>exact repr_of_reads' (.tuple B h2 w h4) c.1 (λ_=>z) C (by have:=c.2.1;omega) (λ_ _ e=>e) (λg u k n=>fin g u k n) (wk c.2.2)|dict B h2 w h4 h5=>exact repr_of_reads' (.dict B h2 w h4 h5) c.1 (λ_=>z) C (by have:=c.2.1;omega) (λ_ _ e=>e) (λg u k n=>fin g u k n) (wk c.2.2)
 ·cases v
def zFX:Ls D->Lx R
 | [d]=>uz d|_=>none
def co_repr{h:Str->Lx Lv}:COk K h (λg H Q=>∃x d r,g=[x]/\Rep K h H d x/\uz d=some r/\∃t,r=.v (.str t)/\Q (.str t) H) zFX:=by
 intro M H Z g i res Q f r e k
 match i,e with
 | [d],e =>
  dsimp[Reps]at r;obtain⟨v,l,rfl,j,rfl⟩:=r;have a:=e;replace a:uz d=some res:=a;unfold uz at a;cases c:pyD d with
  |none=>rw[c]at a;cases a
  |some p =>
   rw[c]at a;dsimp at a;split at a
   ·cases a
    exact⟨v,d,_,rfl,j.mono zF,e,_,rfl,k.flat f rfl⟩
   ·cases a
end
end DV
namespace L2
open PySem PySem.Spec PyProof.Rows
section
variable{X:Cx}{pins:Ls (Lz×Obj)}{O:Ls (Lx V)}{H:Hp}{s:La}{h':Heap}
def Inv.turnLay{t':Nat}{fp:Ls Lz}{q:Lz}{xs:Ls V}(I:Inv X pins O H s)(l:∀b∈fp,Qv X pins H b)(k:∀b o,b∉fp->s.heap.get? b=some o->h'.get? b=some o)(p:s.heap.objs.size<=q)(j:zz X.prog X.w (upd H q (.t xs)) h' q (.t xs)):Inv X pins O (upd H q (.t xs)) {s with heap:=h',toks:=t'}:=by
 have C:H q=none:=I.hok.fresh p;have h:∀b u,H b=some u->b≠q:=λb u e z=>by rw[z,C]at e;cases e
 have nf:∀b u,H b=some u->b∉fp:=λb u e z=>by rw[(l b z).1]at e;cases e
 refine I.step (g':=s.gens) (d':=s.drawn) (ch:=fp) (λb i=>?_) (λb o _ _ g e _=>k b o g e) (λb o _ _ g e _=>⟨o.slots,k b o g e⟩) (λb o _ e n=>?_) (λb o g e=>⟨o,k b o g e⟩)
  (λb B e=>?_) (λb o u e=>?_) (λb J e=>⟨#[],?_⟩) (λm w=>?_) (λb u e=>?_) I.bare
 ·obtain⟨_,x,_,t,G,D⟩:=l b i
  exact⟨t,x,G,D⟩
 ·have:b≠q:=λz=>by subst z;exact absurd (lt_of_lt_of_le (lt_size e) p) (lt_irrefl _)
  rw[zG this];exact n
 ·rw[zG (h b _ e)];exact e
 ·rw[zG (h b _ e)];exact e
 ·rw[zG (h b _ e),e];simp
 ·obtain⟨o,E,y,ho,r⟩:=w
  exact⟨o,E,y,k _ o (λz=>(l _ z).2.1 rfl) ho,r⟩
 ·by_cases i:b=q
  ·subst i;rw[zU]at e;cases e;exact j
  ·rw[zG i]at e
   refine(I.hok b u e).stay (λc v g a=>k c v ?_ a) (λc a=>?_) λc B a=>?_
   ·rcases g with z|z
    ·rw[z];exact nf b u e
    ·exact nf c _ z
   ·rw[zG (h c _ a)];exact a
   ·rw[zG (h c _ a)];exact a
def Inv.turnL{t':Nat}{fp:Ls Lz}(I:Inv X pins O H s)(g:∀b∈fp,Qv X pins H b)(k:∀b o,b∉fp->s.heap.get? b=some o->h'.get? b=some o):Inv X pins O H {s with heap:=h',toks:=t'}:=by
 have nf:∀b u,H b=some u->b∉fp:=λb u e z=>by rw[(g b z).1]at e;cases e
 refine I.step (g':=s.gens) (d':=s.drawn) (ch:=fp) (λb x=>?_) (λb o _ _ a e _=>k b o a e) (λb o _ _ a e _=>⟨o.slots,k b o a e⟩) (λ_ _ _ _ n=>n) (λb o a e=>⟨o,k b o a e⟩)
  (λ_ _ e=>e) (λ_ _ _ e=>e) (λb B e=>⟨#[],by rw[e];simp⟩) (λm i=>?_) (λb u e=>?_) I.bare
 ·obtain⟨_,j,_,h,y,t⟩:=g b x
  exact⟨h,j,y,t⟩
 ·obtain⟨o,w,l,ho,r⟩:=i
  exact⟨o,w,l,k _ o (λz=>(g _ z).2.1 rfl) ho,r⟩
 ·refine(I.hok b u e).stay (λc v a p=>k c v ?_ p) (λ_ q=>q) λ_ _ q=>q
  rcases a with z|z
  ·rw[z];exact nf b u e
  ·exact nf c _ z
end
end L2
namespace DV
open PySem
abbrev IsZ(h:Heap)(z a e:Lz)(c:Lv)(b:Bool):Prop:=h.get? z=some {cls:=.type "zip",dict:=none,data:=.fields #[c,.bool b,.bool false,.ref a,.ref e],slots:=#[]}
def Wt(c:Lv):Prop:=c=.none\/∃a:Nat,c=rawInt a
section
variable{prog:Lc}{w:Le}{A:Lg}{E:Ly}{s:La}
def st_iter{α:Type}{Q:α->La->Prop}(h:A.handled=none)(j:∀c e,(∀b o,s.heap.get? b=some o->c.get? b=some o)->(∃o,c.get? e=some o/\o.cls=.type "StopIteration")->E (.ref e) {s with heap:=c}):wpAny (model prog w) A.in1 (Builtin.SmallTypes.stopIteration:Sem α) Q E s:=by
 refine qB ?_;refine qB (wpAny_newObj_type ?_ (by size_fits));refine qB (m:=firstArgMember _ _) (wpAny_of_eq (a:=Value.none) rfl ?_);refine wpAny_newObj_type ?_ (by size_fits);have g:A.in1.handled=none:=h;refine qB (wpAny_handled ?_);rw[g];refine qB (qC (wpAny_throw ?_));exact j _ _ (λb o i=>qA _ (qA _ i)) ⟨_,get?_push_size _ rfl,rfl⟩
def sp_tup{Q:Lx Lv->La->Prop}(j:A.handled=none)(c:s.heap.IsTupleIter it t i)(B:s.heap.IsTuple t items)
  (y:∀x,items[i]?=some x->∀a,a.IsTupleIter it t (i+1)->Heap.SameBut it s.heap a->Q (some x) {s with heap:=a})
  (l:items[i]?=none->∀a e,Heap.ExtBut it s.heap a->(∃o,a.get? e=some o/\o.cls=.type "StopIteration")->E (.ref e) {s with heap:=a}) :
  wpAny (model prog w) A (callSpecial? (.ref it) (Str.ofString "__next__")) Q E s:=by
 have⟨o,ho,z,g⟩:=id c;obtain⟨u,hu,_,n,p⟩:=B;refine wpAny_callSpecial?_slot c.typeIs F.slot_tuple_iterator_next (wpAny_call_entry F.slot_tuple_iterator_next c.typeIs F.entry_tuple_iterator_next ?_ (F.args_tuple_iterator_next_1 _));refine qB (m:=field (.ref it) 0) (wpAny_field ho g (x:=.ref t) rfl ?_);have C:¬(Value.ref t==Value.none)=true:=qF;refine qB (m:=field (.ref it) 1) (wpAny_field ho g (x:=.int i 0) rfl ?_);refine qB (m:=seqItems? (.ref t)) (wpAny_seqItems hu p ?_);cases h:items[i]? with
 |some x =>
  dsimp[Int.toNat_natCast,h];refine qB (wpAny_setField ho g (by simp) (qC ⟨x,rfl,y x h _ ?_ (Heap.SameBut.update ..)⟩));exact⟨_,get?_update_self _ ho (Obj.isFreed_of_fields (Obj.data_mapFields g _)),(Obj.cls_mapFields ..).trans z,by rw[Obj.data_mapFields g];simp[rawInt]⟩
 |none =>
  dsimp[Int.toNat_natCast,h];refine qB (wpAny_rule (qB (wpAny_setField ho g (by simp) ?_)));refine st_iter j λa e k q=>l h a e (λb o r v=>k b o ?_) q
  exact(Heap.SameBut.update ..).extBut b o r v
structure Src(prog:Lc)(w:Le)(A:Lg)(it l:Lz)(items:Li)(st:Lm):Prop where
 keep:∀{i:Nat} {h h':Heap},st i h->(∀b,b=it\/b=l->∀o,h.get? b=some o->h'.get? b=some o)->st i h'
 lt:∀{i:Nat} {h:Heap},st i h->it<h.objs.size
 next:∀{i:Nat} {s:La} {Q:Ly} {E:Ly},st i s.heap->(∀x,items[i]?=some x->∀h',st (i+1) h'->Heap.SameBut it s.heap h'->Q x {s with heap:=h'}) ->
  (items[i]?=none->∀h' e,Heap.ExtBut it s.heap h'->(∃o,h'.get? e=some o/\o.cls=.type "StopIteration")->E (.ref e) {s with heap:=h'})->wpAny (model prog w) A (Builtin.SmallTypes.nextOf (.ref it)) Q E s
def src_tup(g:A.handled=none)(n:t≠it)(c:Li):Src prog w A it t c (λi h=>h.IsTupleIter it t i/\h.IsTuple t c) where
 keep:=λst k=>⟨st.1.at λo e=>k it (.inl rfl) o e,st.2.at λo e=>k t (.inr rfl) o e⟩
 lt:=λst=>by obtain⟨⟨o,e,_⟩,_⟩:=st;exact lt_size e
 next:=λ{i s Q E} st p h2=>by
  exact qB (sp_tup g st.1 st.2 (λx l j a b=>qC (p x l j ⟨a,st.2.extBut b.extBut n⟩ b)) h2)
def zFY(j:A.handled=none)(n:t≠it)(c:Li):Src prog w A it t c (λi h=>h.IsListIter it t i/\h.IsList t c) where
 keep:=λst k=>⟨st.1.at λo e=>k it (.inl rfl) o e,st.2.at λo e=>k t (.inr rfl) o e⟩
 lt:=λst=>by obtain⟨⟨o,e,_⟩,_⟩:=st;exact lt_size e
 next:=λ{i s Q E} st p h2=>by
  cases g:c[i]? with
  |some x=>exact wpAny_nextOf_list_item st.1 st.2 g λl a b=>p x g l ⟨a,st.2.extBut b.extBut n⟩ b|none=>exact wpAny_nextOf_list_end j st.1 st.2 g (h2 g)
def zFZ{Q:Bool->La->Prop}(i:IsZ s.heap z TI TO f0 b)(n:Wt f0)(k:Q true s)(hn:∀g j,IsZ g z TI TO f0 j->(∀c o,c≠z->s.heap.get? c=some o->g.get? c=some o)->g.objs.size=s.heap.objs.size->Q false {s with heap:=g}) :
  wpAny (model prog w) A (Builtin.SmallTypes.ownedTupleIsFree (.ref z)) Q E s:=by
 rcases n with rfl|⟨a,rfl⟩
 ·exact qB (wpAny_field i rfl (x:=.none) rfl (qC k))
 ·refine qB (wpAny_field i rfl (x:=rawInt a) rfl ?_)
  refine qB ?_;have al:∀(Q':Lx Obj->La->Prop),Q' (s.heap.get? (a:Int).toNat) s->wpAny (model prog w) A (loadIfAlive (a:Int).toNat) Q' E s:=λQ' h=>λ_ _ _=>h
  refine al _ ?_;cases s.heap.get? (a:Int).toNat with
  |none=>exact qC k
  |some o =>
   refine qB (wpAny_field i rfl (x:=.bool b) rfl ?_);cases b with
   |true=>exact qC (hn s.heap true i (λ_ _ _ e=>e) rfl)|false=>exact qB (wpAny_setField_rec i (by simp) λg p j=>qC (hn g true p (λc o l e=>j.extBut _ _ l e) j.1))
def zq_next{j p:Lm}{Q:Ly}(C:Src prog w A i1 l1 xs j)(I:Src prog w A i2 l2 ys p)(D:ZipApart z TI TO i1 i2 l1 l2)
  (R:IsZ s.heap z TI TO f0 bb) (hf:Wt f0) (aa:IsPair s.heap TI (.ref i1) (.ref i2)) (O:IsPair s.heap TO a b) (h1:j k s.heap) (h2:p k s.heap)
  (hQ:∀x y,xs[k]?=some x->ys[k]?=some y->∀B f1 b1,Wt f1->IsZ B z TI TO f1 b1->(∃u v,IsPair B TO u v)->j (k+1) B->p (k+1) B->IsPair B s.heap.objs.size x y ->
   (∀c o,c≠z->c≠TO->c≠i1->c≠i2->s.heap.get? c=some o->B.get? c=some o)->Q (.ref s.heap.objs.size) {s with heap:=B})
  (V:xs[k]?=none\/ys[k]?=none->∀B e,(∀c o,c≠z->c≠TO->c≠i1->c≠i2->s.heap.get? c=some o->B.get? c=some o)->(∃o,B.get? e=some o/\o.cls=.type "StopIteration")->E (.ref e) {s with heap:=B}) :
  wpAny (model prog w) A (Builtin.«zip.__next__» ⟨[.ref z],[]⟩) (λfin s'=>∃v,fin=.done (.ret v)/\Q v s') E s:=by
 refine qB (m:=field (.ref z) 2) (wpAny_field R rfl (x:=.bool false) rfl ?_);refine qB (m:=field (.ref z) 3) (wpAny_field R rfl (x:=.ref TI) rfl ?_);refine qB (wpAny_seqItems aa rfl ?_);refine qB (m:=Builtin.SmallTypes.ownedTupleIsFree (.ref z)) (zFZ R hf ?_ λg1 b1 X k1 e1=>?_)
 ·dsimp[if_true]
  refine qB (wpAny_rule (qB (wpAny_field R rfl (x:=.ref TO) rfl (qB (wpAny_setField_rec R (by simp) λg1 X b1=>?_)))));refine qB ?_;have s1:j k g1:=C.keep h1 λc g o e=>b1.extBut c o (by rcases g with rfl|rfl;exact D.i1z;exact D.l1z) e
  refine qB (qB (wpAny_onRaise (qB (m:=Builtin.SmallTypes.nextOf (.ref i1)) (C.next s1 (λx K g2 s2 r=>qC ?_) λK g2 e r J=>?_))))
  ·have t2:IsPair g2 TO a b:=r.extBut _ _ D.TOi1 (b1.extBut _ _ D.TOz O)
   refine qB (wpAny_seqItems t2 rfl (qB (wpAny_updateSeq_pair t2 λg3 t3 l=>qB (wpAny_letGo (qC ?_)))));have M:∀c o,c≠z->c≠TO->c≠i1->s.heap.get? c=some o->g3.get? c=some o:=λc o h t i e=>l.extBut _ _ t (r.extBut _ _ i (b1.extBut _ _ h e))
   have Y:j (k+1) g3:=C.keep s2 λc g o e=>l.extBut c o (by rcases g with rfl|rfl;exact D.TOi1.symm;exact D.l1TO) e
   have r3:p k g3:=I.keep h2 λc g o e=>M c o (by rcases g with rfl|rfl;exact D.i2z;exact D.l2z) (by rcases g with rfl|rfl;exact D.TOi2.symm;exact D.l2TO) (by rcases g with rfl|rfl;exact D.i12.symm;exact D.l2i1) e
   have S:IsZ g3 z TI TO .ellipsis bb:=l.extBut _ _ D.TOz.symm (r.extBut _ _ D.i1z.symm X);refine qB (qB (wpAny_onRaise (qB (m:=Builtin.SmallTypes.nextOf (.ref i2)) (I.next r3 (λy L g4 r4 G=>qC ?_) λL g4 e G J=>?_))))
   ·have t4:IsPair g4 TO x b:=G.extBut _ _ D.TOi2 t3
    refine qB (wpAny_seqItems t4 rfl (qB (wpAny_updateSeq_pair t4 λg5 W H=>qB (wpAny_letGo (qC (qC ?_))))));have W:IsPair g5 TO x y:=W;have k5:∀c o,c≠z->c≠TO->c≠i1->c≠i2->s.heap.get? c=some o->g5.get? c=some o:=λc o h t i n e=>H.extBut _ _ t (G.extBut _ _ n (M c o h t i e))
    have s5:j (k+1) g5:=C.keep Y λc g o e=>H.extBut c o (by rcases g with rfl|rfl;exact D.TOi1.symm;exact D.l1TO) (G.extBut c o (by rcases g with rfl|rfl;exact D.i12;exact D.l1i2) e)
    have r5:p (k+1) g5:=I.keep r4 λc g o e=>H.extBut c o (by rcases g with rfl|rfl;exact D.TOi2.symm;exact D.l2TO) e
    have z5:IsZ g5 z TI TO .ellipsis bb:=H.extBut _ _ D.TOz.symm (G.extBut _ _ D.i2z.symm S);have sz:g5.objs.size=s.heap.objs.size:=by rw[H.1,G.1,l.1,r.1,b1.1]
    refine qB (wpAny_seqItems W rfl (qB (wpAny_newTuple ?_)));refine qB (m:=Builtin.SmallTypes.ownedTupleHandOut (.ref z) (.ref g5.objs.size)) ?_;have z6:IsZ (g5.push {cls:=.type "tuple",data:=.seq #[x,y]}) z TI TO .ellipsis bb:=qA _ z5;refine qB (wpAny_setField_rec z6 (by simp) λg7 z7 b7=>?_);refine wpAny_setField_rec z7 (by simp) λg8 z8 b8=>?_
    have up:∀c o,c≠z->g5.get? c=some o->g8.get? c=some o:=λc o h e=>b8.extBut _ _ h (b7.extBut _ _ h (qA _ e))
    have zl:z<g5.objs.size:=lt_size z5;have p8:IsPair g8 g5.objs.size x y:=b8.extBut _ _ (ne_of_gt zl) (b7.extBut _ _ (ne_of_gt zl) (get?_push_size _ rfl));rw[sz]at p8;refine qC ⟨_,rfl,?_⟩;have fin:=hQ x y K L g8 _ _ (.inr ⟨_,rfl⟩) z8 ⟨_,_,up _ _ D.TOz W⟩ (C.keep s5 λc g o e=>up c o (by rcases g with rfl|rfl;exact D.i1z;exact D.l1z) e) (I.keep r5 λc g o e=>up c o (by rcases g with rfl|rfl;exact D.i2z;exact D.l2z) e) p8 λc o h t i n e=>up c o h (k5 c o h t i n e)
    rw[sz];exact fin
   ·have z4:IsZ g4 z TI TO .ellipsis bb:=G _ _ D.i2z.symm S
    obtain⟨Z,ho,g⟩:=J;have ez:e≠z:=λq=>by subst q;rw[z4]at ho;cases ho;simp at g
    exact wpAny_setField_rec z4 (by simp) λg5 _ H=>V (.inr L) g5 e (λc o h t i n x=>H.extBut _ _ h (G _ _ n (M c o h t i x))) ⟨Z,H.extBut _ _ ez ho,g⟩
  ·have z2:IsZ g2 z TI TO .ellipsis bb:=r _ _ D.i1z.symm X
   obtain⟨Z,ho,g⟩:=J;have ez:e≠z:=λq=>by subst q;rw[z2]at ho;cases ho;simp at g
   exact wpAny_setField_rec z2 (by simp) λg3 _ l=>V (.inl K) g3 e (λc o h t i n x=>l.extBut _ _ h (r _ _ i (b1.extBut _ _ h x))) ⟨Z,l.extBut _ _ ez ho,g⟩
 ·dsimp[Bool.false_eq_true,if_false]
  refine qB ?_;rw[<- Array.forIn_toList];have s1:j k g1:=C.keep h1 λc g o e=>k1 c o (by rcases g with rfl|rfl;exact D.i1z;exact D.l1z) e
  refine qB (qB (wpAny_holding (qB (m:=Builtin.SmallTypes.nextOf (.ref i1)) (C.next s1 (λx K g2 s2 r=>qC ?_) λK g2 e r J=>?_))))
  ·refine qC ?_
   have k2:∀c o,c≠z->c≠i1->s.heap.get? c=some o->g2.get? c=some o:=λc o h i e=>r.extBut _ _ i (k1 _ _ h e)
   have r2:p k g2:=I.keep h2 λc g o e=>k2 c o (by rcases g with rfl|rfl;exact D.i2z;exact D.l2z) (by rcases g with rfl|rfl;exact D.i12.symm;exact D.l2i1) e
   refine qB (qB (wpAny_holding (qB (m:=Builtin.SmallTypes.nextOf (.ref i2)) (I.next r2 (λy L g3 r3 l=>qC ?_) λL g3 e l J=>?_))))
   ·refine qC ?_
    refine qC ?_;refine qB (wpAny_newTuple (hsz:=by simp[sizeLine_eq]) (qC ⟨_,rfl,?_⟩));have sz:g3.objs.size=s.heap.objs.size:=by rw[l.1,r.1,e1]
    have M:∀c o,c≠z->c≠i1->c≠i2->s.heap.get? c=some o->g3.get? c=some o:=λc o h i n e=>l.extBut _ _ n (k2 c o h i e)
    have Y:j (k+1) g3:=C.keep s2 λc g o e=>l.extBut c o (by rcases g with rfl|rfl;exact D.i12;exact D.l1i2) e
    have S:IsZ g3 z TI TO f0 b1:=l.extBut _ _ D.i2z.symm (r.extBut _ _ D.i1z.symm X);have fin:=hQ x y K L (g3.push {cls:=.type "tuple",data:=.seq #[x,y]}) _ _ hf (qA _ S) ⟨_,_,qA _ (M _ _ D.TOz D.TOi1 D.TOi2 O)⟩ (C.keep Y λc g o e=>qA _ e) (I.keep r3 λc g o e=>qA _ e) (sz▸get?_push_size _ rfl) λc o h t i n e=>qA _ (M c o h i n e)
    rw[sz];exact fin
   ·exact V (.inr L) g3 e (λc o h t i n x=>l _ _ n (k2 c o h i x)) J
  ·exact V (.inl K) g2 e (λc o h t i n x=>r _ _ i (k1 _ _ h x)) J
def GB{h i:Lm}{Q:Lx Lv->La->Prop}(S1:Src prog w A.in1 i1 l1 xs h)(B:Src prog w A.in1 i2 l2 ys i)(D:ZipApart z TI TO i1 i2 l1 l2)
  (r:IsZ s.heap z TI TO f0 bb) (S:Wt f0) (q:IsPair s.heap TI (.ref i1) (.ref i2)) (n:IsPair s.heap TO a b) (V:h k s.heap) (Y:i k s.heap)
  (W:∀x y,xs[k]?=some x->ys[k]?=some y->∀g l p,Wt l->IsZ g z TI TO l p->(∃u v,IsPair g TO u v)->h (k+1) g->i (k+1) g->IsPair g s.heap.objs.size x y ->
   (∀c o,c≠z->c≠TO->c≠i1->c≠i2->s.heap.get? c=some o->g.get? c=some o)->Q (some (.ref s.heap.objs.size)) {s with heap:=g})
  (L:xs[k]?=none\/ys[k]?=none->∀g,(∀c o,c≠z->c≠TO->c≠i1->c≠i2->s.heap.get? c=some o->g.get? c=some o)->Q none {s with heap:=g}):wpAny (model prog w) A (pyNext (.ref z)) Q E s:=by
 have hT:s.TypeIs (.ref z) "zip":=⟨_,r,rfl⟩;refine qB (wpAny_attempt (wpAny_callSpecial?_slot hT F.slot_zip_next (wpAny_call_entry F.slot_zip_next hT F.entry_zip_next (zq_next S1 B D r S q n V Y (λx y I X g l p C R Z O G M t=>?_) λj g e J H=>?_) (F.args_zip_next_1 _))))
 ·exact qC (W x y I X g l p C R Z O G M t)
 ·obtain⟨o,ho,K⟩:=H
  exact qB (wpAny_isInstance (T:="StopIteration") (b:=true) ⟨o,ho,K⟩ isSubtype_stop (qC (L j g J)))
def it_zipN{Q:Ly}(a:IsZ s.heap z TI TO f0 b)(h:Q (.ref z) s):wpAny (model prog w) A (pyIter (.ref z)) Q E s:=by
 have hT:s.TypeIs (.ref z) "zip":=⟨_,a,rfl⟩;refine wpAny_pyIter_slot hT F.slot_zip_iter (wpAny_call_entry F.slot_zip_iter hT F.entry_zip_iter ?_ (F.args_zip_iter_1 _));exact qC ⟨_,rfl,"zip",_,hT,F.slot_zip_next.lookup,h⟩
def TgZ(tg:Lb):Prop:=(∃a x p,tg=.Tuple a x p)\/∃y p,tg=.Name y p
def lo_zip{Q:Unit->La->Prop}(q:TgZ tg)(l:Wt f0)(g:IsZ s.heap z TI TO f0 b)(j:∀a k,Wt k->IsZ a z TI TO k b->(∀c o,c≠z->s.heap.get? c=some o->a.get? c=some o)->Q () {s with heap:=a}):wpAny (model prog w) A (letOwnedTupleGo tg (.ref z) (.ref T)) Q E s:=by
 rcases q with⟨r,x,p,rfl⟩|⟨y,p,rfl⟩
 ·unfold letOwnedTupleGo
  refine qB (wpAny_load g ?_);refine wpAny_ite_split (λ_=>qB (wpAny_rule ?_)) (λ_=>qC (j s.heap f0 l g λ_ _ _ e=>e));exact wpAny_setField_rec g (by simp) λa i h=>j a .none (.inl rfl) i λc o n e=>h.extBut _ _ n e
 ·exact qC (j s.heap f0 l g λ_ _ _ e=>e)
end
abbrev itO(c:String)(l:Lz):Obj:={cls:=.type c,data:=.fields #[.ref l,.int 0 0]}
abbrev zpA(h:Heap)(c e:String)(g a:Lz):Heap:=(h.push (itO c g)).push (itO e a)
abbrev zpB(h:Heap)(a g:String)(c e:Lz):Heap:=(zpA h a g c e).push {cls:=.type "tuple",data:=.seq #[.ref h.objs.size,.ref (h.push (itO a c)).objs.size]}
abbrev zpC(h:Heap)(c e:String)(g a:Lz):Heap:=(zpB h c e g a).push {cls:=.type "tuple",data:=.seq #[.none,.none]}
abbrev zpD(h:Heap)(c e:String)(g a:Lz):Heap:=(zpC h c e g a).push {cls:=.type "zip",data:=.fields #[.none,.bool false,.bool false,.ref (zpA h c e g a).objs.size,.ref (zpB h c e g a).objs.size]}
def zFa(a c:Lz)(xs ys:Li):Meets (Builtin.«zip.__new__» ⟨[.type "zip",.ref a,.ref c],[]⟩) (λ_ R s=>s.heap.IsTuple a xs/\s.heap.IsTuple c ys/\R (.ok (.ret (.ref (zpC s.heap "tuple_iterator" "tuple_iterator" a c).objs.size))) {s with heap:=zpD s.heap "tuple_iterator" "tuple_iterator" a c}) :=
 .of_wp λj w A R s h=>by
  obtain⟨l,g,d,k,i⟩:=s;obtain⟨q,h2,h⟩:=h;have r:=sub_zip;have n:Heap.IsTuple (Shared.heap ⟨l,g,d,k,i⟩) a xs:=q;have p:Heap.IsTuple (Shared.heap ⟨l.push (itO "tuple_iterator" a),g,d,k,i⟩) c ys:=h2.at λo e=>qA _ e
  wp_walk using wpAny_pyIter_tuple n,wpAny_pyIter_tuple p
  exact⟨_,rfl,h⟩
def zFb(a c:Lz)(xs ys:Li):Meets (Builtin.«zip.__new__» ⟨[.type "zip",.ref a,.ref c],[]⟩) (λ_ R s=>s.heap.IsTuple a xs/\s.heap.IsList c ys/\R (.ok (.ret (.ref (zpC s.heap "tuple_iterator" "list_iterator" a c).objs.size))) {s with heap:=zpD s.heap "tuple_iterator" "list_iterator" a c}) :=
 .of_wp λj w A R s h=>by
  obtain⟨l,g,d,k,i⟩:=s;obtain⟨q,h2,h⟩:=h;have r:=sub_zip;have n:Heap.IsTuple (Shared.heap ⟨l,g,d,k,i⟩) a xs:=q;have p:Heap.IsList (Shared.heap ⟨l.push (itO "tuple_iterator" a),g,d,k,i⟩) c ys:=h2.at λo e=>qA _ e
  wp_walk using wpAny_pyIter_tuple n,wpAny_pyIter_list p
  exact⟨_,rfl,h⟩
def zFc(a c:Lz)(xs ys:Li):Meets (Builtin.«zip.__new__» ⟨[.type "zip",.ref a,.ref c],[]⟩) (λ_ R s=>s.heap.IsList a xs/\s.heap.IsTuple c ys/\R (.ok (.ret (.ref (zpC s.heap "list_iterator" "tuple_iterator" a c).objs.size))) {s with heap:=zpD s.heap "list_iterator" "tuple_iterator" a c}) :=
 .of_wp λj w A R s h=>by
  obtain⟨l,g,d,k,i⟩:=s;obtain⟨q,h2,h⟩:=h;have r:=sub_zip;have n:Heap.IsList (Shared.heap ⟨l,g,d,k,i⟩) a xs:=q;have p:Heap.IsTuple (Shared.heap ⟨l.push (itO "list_iterator" a),g,d,k,i⟩) c ys:=h2.at λo e=>qA _ e
  wp_walk using wpAny_pyIter_list n,wpAny_pyIter_tuple p
  exact⟨_,rfl,h⟩
def zFd(c a:Lz)(xs ys:Li):Meets (Builtin.«zip.__new__» ⟨[.type "zip",.ref c,.ref a],[]⟩) (λ_ R s=>s.heap.IsList c xs/\s.heap.IsList a ys/\R (.ok (.ret (.ref (zpC s.heap "list_iterator" "list_iterator" c a).objs.size))) {s with heap:=zpD s.heap "list_iterator" "list_iterator" c a}):=meets_zip_new c a xs ys
structure Zp(h h':Heap)(c1 c2:String)(l1 l2:Lz):Prop where
 z:IsZip h' (h.objs.size+4) (h.objs.size+2) (h.objs.size+3) .none
 a:IsPair h' (h.objs.size+2) (.ref h.objs.size) (.ref (h.objs.size+1))
 b:IsPair h' (h.objs.size+3) .none .none
 i1:h'.get? h.objs.size=some (itO c1 l1)
 i2:h'.get? (h.objs.size+1)=some (itO c2 l2)
 kp:∀c o,h.get? c=some o->h'.get? c=some o
def zp_of(h:Heap)(a j:String)(g i:Lz):Zp h (zpD h a j g i) a j g i/\(zpC h a j g i).objs.size=h.objs.size+4:=by
 have l:(h.push (itO a g)).objs.size=h.objs.size+1:=size_push ..;have n:(zpA h a j g i).objs.size=h.objs.size+2:=by rw[size_push,l]
 have k:(zpB h a j g i).objs.size=h.objs.size+3:=by rw[size_push,n]
 have r:(zpC h a j g i).objs.size=h.objs.size+4:=by rw[size_push,k]
 have u:=λ(h:Heap) (o:Obj) {b:Lz} {q:Obj} (e:h.get? b=some q)=>qA (h:=h) o e
 have t:(zpD h a j g i).get? (zpC h a j g i).objs.size=some _:=get?_push_size _ rfl;have p:(zpD h a j g i).get? (zpB h a j g i).objs.size=some _:=qA _ (get?_push_size _ rfl);have v:(zpD h a j g i).get? (zpA h a j g i).objs.size=some _:=qA _ (qA _ (get?_push_size _ rfl));have w:(zpD h a j g i).get? (h.push (itO a g)).objs.size=some (itO j i):=qA _ (qA _ (qA _ (get?_push_size _ rfl)));have x:(zpD h a j g i).get? h.objs.size=some (itO a g):=qA _ (qA _ (qA _ (qA _ (get?_push_size _ rfl))));rw[n,k,r]at t;rw[l,n]at v;rw[k]at p;rw[l]at w;exact⟨⟨t,v,p,x,w,λc o e=>qA _ (qA _ (qA _ (qA _ (qA _ e))))⟩,r⟩
section
variable{prog:Lc}{w:Le}{A:Lg}{E:Ly}{s:La}
def SqO(h:Heap)(t:Bool)(l:Lz)(xs:Li):Prop:=if t then h.IsTuple l xs else h.IsList l xs
def itC(t:Bool):String:=if t then "tuple_iterator" else "list_iterator"
def zp_call{Q:Ly}(c:SqO s.heap t1 l1 xs)(a:SqO s.heap t2 l2 ys)(h:∀g,Zp s.heap g (itC t1) (itC t2) l1 l2->Q (.ref (s.heap.objs.size+4)) {s with heap:=g}):wpAny (model prog w) A (call (.type "zip") [.ref l1,.ref l2]) Q E s:=by
 obtain⟨z,n⟩:=zp_of s.heap (itC t1) (itC t2) l1 l2;have hz:=h _ z;have fin:∀{P:Heap->Prop},P s.heap->Meets (Builtin.«zip.__new__» ⟨[.type "zip",.ref l1,.ref l2],[]⟩) (λ_ R s=>P s.heap/\R (.ok (.ret (.ref (zpC s.heap (itC t1) (itC t2) l1 l2).objs.size))) {s with heap:=zpD s.heap (itC t1) (itC t2) l1 l2})->wpAny (model prog w) A (call (.type "zip") [.ref l1,.ref l2]) Q E s:=λ{P} i m=>by
  refine callType_new F.called_zip (by decide) (F.typeCall_zip_2 _ _) (F.newCall_zip_2 _ _) (λe=>F.args_object_init_3 e _ _) F.entry_zip_new m ⟨i,?_⟩;show _/\_;rw[n];exact⟨⟨_,z.z,rfl⟩,hz⟩
 cases t1<;>cases t2
 ·exact fin (P:=λh=>h.IsList l1 xs/\h.IsList l2 ys) ⟨c,a⟩ (Meets.of_imp (zFd l1 l2 xs ys) λA R s q=>⟨q.1.1,q.1.2,q.2⟩)
 ·exact fin (P:=λh=>h.IsList l1 xs/\h.IsTuple l2 ys) ⟨c,a⟩ (Meets.of_imp (zFc l1 l2 xs ys) λA R s q=>⟨q.1.1,q.1.2,q.2⟩)
 ·exact fin (P:=λh=>h.IsTuple l1 xs/\h.IsList l2 ys) ⟨c,a⟩ (Meets.of_imp (zFb l1 l2 xs ys) λA R s q=>⟨q.1.1,q.1.2,q.2⟩)
 ·exact fin (P:=λh=>h.IsTuple l1 xs/\h.IsTuple l2 ys) ⟨c,a⟩ (Meets.of_imp (zFa l1 l2 xs ys) λA R s q=>⟨q.1.1,q.1.2,q.2⟩)
end
end DV
namespace DV
open PySem L2 PySem.Spec PyProof.Rows
def SqH(K:qH)(H:Hp)(t:Bool)(a:Lz)(xs:Ls V):Prop:=if t then SqT K H a xs else SqL K H a xs
section
variable{X:Cx}{pins:Ls (Lz×Obj)}{O:L2.St}{H:Hp}{s:La}{a b:Lz}{xs ys:Ls V}
def wS(I:Inv X pins O H s)(h:SqH X.K H t a xs):∃c:Ls Lv,yH xs c/\SqO s.heap t a c.toArray:=by
 cases t with
 |true =>
  obtain⟨c,r,p,_⟩:=I.tuple h;exact⟨c,r,p⟩
 |false =>
  obtain⟨c,r,p,_⟩:=I.list h;exact⟨c,r,p.isList⟩
def QK(I:Inv X pins O H s)(h:SqH X.K H t a xs)(h':SqH X.K H t a ys):xs=ys:=by
 cases t with
 |true=>exact I.tuple_inj h h'|false=>exact I.list_inj h h'
def vE(I:Inv X pins O H s)(h:SqH X.K H t a xs)(f:Qv X pins H b):a≠b:=by
 intro z;subst z;have g:∀o,X.K.lookup a=some o->False:=λo i=>by
  have k:=I.ok.mod.kin a o i;have e:=I.ok.bs a o k;rcases f.2.2.2.1 with q|q
  ·exact I.ok.noex a o k q
  ·exact absurd (lt_of_lt_of_le (lt_size e.1) q) (lt_irrefl _)
 have c:∀u,Rd H a u->False:=λu r=>by
  rcases r with r|⟨o,r⟩<;>rw[f.1]at r<;>cases r
 cases t with
 |true =>
  rcases h with h|⟨o,j,n,i,_⟩
  ·exact c _ h
  ·exact g o i
 |false =>
  rcases h with h|⟨o,j,n,i,_⟩
  ·exact c _ h
  ·exact g o i
end
def Itz(K:qH)(t1 t2:Bool)(a b:Lz):It :=
 ⟨λi H=>∃e c,SqH K H t1 a e/\SqH K H t2 b c/\i<e.length/\i<c.length,
  λi H x H'=>∃q u v,(∀e,SqH K H t1 a e->e[i]?=some u)/\(∀c,SqH K H t2 b c->c[i]?=some v)/\H q=none/\H'=upd H q (.t [u,v])/\x=.ref q,
  λi H=>∃e c,SqH K H t1 a e/\SqH K H t2 b c/\(e.length<=i\/c.length<=i)⟩
def ItA(t:Bool)(h:Heap)(it l:Lz)(i:Nat):Prop:=if t then h.IsTupleIter it l i else h.IsListIter it l i
def vF(x:ItA t h it l i)(k:∀o,h.get? it=some o->h'.get? it=some o):ItA t h' it l i:=by
 cases t with
 |true=>exact Heap.IsTupleIter.at x k|false=>exact Heap.IsListIter.at x k
def Y5(x:ItA t h it l i):∃o,h.get? it=some o/\∀v,o.data≠.cell v:=by
 cases t with
 |true=>obtain⟨o,e,c,d⟩:=x;exact⟨o,e,λv z=>by rw[d]at z;cases z⟩|false=>obtain⟨o,e,c,d⟩:=x;exact⟨o,e,λv z=>by rw[d]at z;cases z⟩
def srcA(c:A.handled=none)(t:Bool)(e:l≠it)(a:Li):Src prog w A it l a (λi h=>ItA t h it l i/\SqO h t l a):=by
 cases t with
 |true=>exact src_tup c e a|false=>exact zFY c e a
structure Five(z TI TO i1 i2:Lz):Prop where
 a1:TI≠z
 a2:TO≠z
 a3:i1≠z
 a4:i2≠z
 a5:TI≠TO
 a6:TI≠i1
 a7:TI≠i2
 a8:TO≠i1
 a9:TO≠i2
 a10:i1≠i2
def ZSn(z g j e k:Lz)(t1 t2:Bool)(a b:Lz)(i:Nat)(h:Heap):Prop:=(∃c b,Wt c/\IsZ h z g j c b)/\IsPair h g (.ref e) (.ref k)/\(∃u v,IsPair h j u v)/\ItA t1 h e a i/\ItA t2 h k b i
def zFe{P:Lc}{w:Le}{K:qH}{tg:Lb}{z r p j l:Lz}(ht:TgZ tg)(F:Five z r p j l)(t1 t2:Bool)(a b:Lz):Turn P w K tg (Itz K t1 t2 a b) [z,r,p,j,l] z (ZSn z r p j l t1 t2 a b) where
 mem:=by simp
 obj:=λi h st c g=>by
  obtain⟨⟨V,Z,n,hz⟩,C,⟨u,v,G⟩,J,h2⟩:=st;dsimp[mem_cons,mem_nil_iff,or_false]at g;rcases g with rfl|rfl|rfl|rfl|rfl
  ·exact⟨_,hz,λv z=>by cases z⟩
  ·exact⟨_,C,λv z=>by cases z⟩
  ·exact⟨_,G,λv z=>by cases z⟩
  ·exact Y5 J
  ·exact Y5 h2
 keep:=λi h h' st k=>by
  obtain⟨⟨V,Z,n,hz⟩,C,⟨u,v,G⟩,J,h2⟩:=st;exact⟨⟨V,Z,n,k z (by simp) _ hz⟩,k r (by simp) _ C,⟨u,v,k p (by simp) _ G⟩,vF J λo e=>k j (by simp) o e,vF h2 λo e=>k l (by simp) o e⟩
 item:=by
  intro X hP hw hK g i S s O H E I hf st hg;subst hP hw hK;obtain⟨⟨V,Z,n,hz⟩,C,⟨u0,v0,G⟩,J,h2⟩:=st;obtain⟨xs,ys,Q,M,l1,l2⟩:=hg;obtain⟨us,r1,p1⟩:=wS I Q;obtain⟨vs,r2,p2⟩:=wS I M;have t:∀c∈[z,r,p,j,l],a≠c:=λc g=>vE I Q (hf c g)
  have B:∀c∈[z,r,p,j,l],b≠c:=λc g=>vE I M (hf c g)
  have D:ZipApart z r p j l a b:=⟨F.a1,F.a2,F.a3,F.a4,F.a5,F.a6,F.a7,F.a8,F.a9,F.a10,t z (by simp),t p (by simp),t j (by simp),t l (by simp),B z (by simp),B p (by simp),B j (by simp),B l (by simp)⟩;have Y:X.A.in1.handled=none:=I.ok.hd g;obtain⟨u,eu⟩:∃u,xs[i]?=some u:=⟨_,getElem?_eq_getElem l1⟩;obtain⟨v,ev⟩:∃v,ys[i]?=some v:=⟨_,getElem?_eq_getElem l2⟩;obtain⟨u',W,ru⟩:=r1.get eu;obtain⟨v',aa,rv⟩:=r2.get ev;refine GB (srcA Y t1 (t j (by simp)) us.toArray) (srcA Y t2 (B l (by simp)) vs.toArray) D hz n C G ⟨J,p1⟩ ⟨h2,p2⟩ (λx y hx hy h' f1 b1 w1 z1 o1 s1 s2 pq kk=>?_) (λL=>?_)
  ·have ex:x=u':=by simp[W]at hx;exact hx.symm
   have ey:y=v':=by simp[aa]at hy;exact hy.symm
   subst ex ey;refine⟨_,rfl,lo_zip (s:={s with heap:=h'}) ht w1 z1 λh2 f2 w2 z2 R=>?_⟩
   have lt:∀{c o},s.heap.get? c=some o->s.heap.objs.size≠c:=λe=>ne_of_gt (lt_size e)
   have ab:IsPair h2 s.heap.objs.size x y:=R _ _ (lt hz) pq;have k2:∀c o,c∉[z,r,p,j,l]->s.heap.get? c=some o->h2.get? c=some o:=λc o g e=>R _ _ (λq=>g (by simp[q])) (kk c o (λq=>g (by simp[q])) (λq=>g (by simp[q])) (λq=>g (by simp[q])) (λq=>g (by simp[q])) e)
   obtain⟨ou,ov,o1⟩:=o1;have ac:zz X.prog X.w (upd H s.heap.objs.size (.t [u,v])) h2 s.heap.objs.size (.t [u,v]):=⟨by simp[sizeLine_eq],[x,y],.cons ru (.cons rv .nil),⟨_,ab,rfl,_,rfl⟩⟩;have I2:=I.turnLay (t':=s.toks) hf k2 (le_refl _) ac;have fresh:H s.heap.objs.size=none:=I.hok.fresh (le_refl _);refine⟨.ref s.heap.objs.size,_,I2,rfl,⟨_,u,v,λzs hz=>by rw[QK I hz Q];exact eu,λzs hz=>by rw[QK I hz M];exact ev,fresh,rfl,rfl⟩,⟨⟨f2,b1,w2,z2⟩,R _ _ F.a1 (kk r _ F.a1 F.a5 F.a6 F.a7 C),⟨_,_,R _ _ F.a2 o1⟩,vF s1.1 λo e=>R _ _ F.a3 e,vF s2.1 λo e=>R _ _ F.a4 e⟩,λc g=>?_⟩;have:c≠s.heap.objs.size:=λq=>by
    obtain⟨o,e⟩:∃o,s.heap.get? c=some o:=by
     dsimp[mem_cons,mem_nil_iff,or_false]at g;rcases g with rfl|rfl|rfl|rfl|rfl
     ·exact⟨_,hz⟩
     ·exact⟨_,C⟩
     ·exact⟨_,G⟩
     ·obtain⟨o,e,_⟩:=Y5 J;exact⟨o,e⟩
     ·obtain⟨o,e,_⟩:=Y5 h2;exact⟨o,e⟩
    exact lt e q.symm
   rw[zG this];exact(hf c g).1
  ·exfalso
   rcases L with L|L
   ·simp[W]at L
   ·simp[aa]at L
 done:=by
  intro X hP hw hK g i S s O H E I hf st hg;subst hP hw hK;obtain⟨⟨V,Z,n,hz⟩,C,⟨u0,v0,G⟩,J,h2⟩:=st;obtain⟨xs,ys,Q,M,ad⟩:=hg;obtain⟨us,r1,p1⟩:=wS I Q;obtain⟨vs,r2,p2⟩:=wS I M;have t:∀c∈[z,r,p,j,l],a≠c:=λc g=>vE I Q (hf c g)
  have B:∀c∈[z,r,p,j,l],b≠c:=λc g=>vE I M (hf c g)
  have D:ZipApart z r p j l a b:=⟨F.a1,F.a2,F.a3,F.a4,F.a5,F.a6,F.a7,F.a8,F.a9,F.a10,t z (by simp),t p (by simp),t j (by simp),t l (by simp),B z (by simp),B p (by simp),B j (by simp),B l (by simp)⟩;have Y:X.A.in1.handled=none:=I.ok.hd g;have e1:=r1.length;have e2:=r2.length;refine GB (srcA Y t1 (t j (by simp)) us.toArray) (srcA Y t2 (B l (by simp)) vs.toArray) D hz n C G ⟨J,p1⟩ ⟨h2,p2⟩ (λx y hx hy=>?_) (λL h' kk=>⟨rfl,?_⟩)
  ·exfalso
   simp at hx hy
   have a1:=(qG.mp hx).1;have a2:=(qG.mp hy).1;omega
  ·exact I.turnL (t':=s.toks) hf λc o g e=>kk c o (λq=>g (by simp[q])) (λq=>g (by simp[q])) (λq=>g (by simp[q])) (λq=>g (by simp[q])) e
 self:=λ_ _ _ _ _ st h=>by
  obtain⟨⟨V,Z,n,hz⟩,_⟩:=st;exact it_zipN hz h
section
variable{X:Cx}{K:qH}{mg:Str->Lx Lv}{O:L2.St}{H:Hp}
def iZip(K:qH)(t1 t2:Bool)(g:TA):TI:=λO H R=>g O H λe H1=>∃a b h c,e=[.ref a,.ref b]/\SqH K H1 t1 a h/\SqH K H1 t2 b c/\R (Itz K t1 t2 a b) H1
def bt_zip:bootBuiltins "zip"=some (.type "zip"):=by left
def zDE(e:h.get? it=some (itO (itC t) l)):ItA t h it l 0:=by
 cases t with
 |true=>exact⟨_,e,rfl,rfl⟩|false=>exact⟨_,e,rfl,rfl⟩
def five(n:Lz):Five (n+4) (n+2) (n+3) n (n+1) :=
 have e:∀i j:Nat,i≠j->n+i≠n+j:=λi j h q=>h (Nat.add_left_cancel q)
 ⟨e 2 4 (by decide),e 3 4 (by decide),e 0 4 (by decide),e 1 4 (by decide),e 2 3 (by decide),e 2 0 (by decide),e 2 1 (by decide),e 3 0 (by decide),e 3 1 (by decide),e 0 1 (by decide)⟩
def pi_zip(w:TgZ tg)(C:Gl X "zip")(x:X.mg "zip"=none)(G:PA X [e,f] ta)(y:starEach [e,f] X.env=[(false,eval e X.env),(false,eval f X.env)]:=by rfl)(l:starEach [f] X.env=[(false,eval f X.env)]:=by rfl) :
  PI X tg (.Call (.Name "zip" p) [e,f] [] pos) (iZip X.K t1 t2 ta):=by
 intro i s O H R I h;refine Call_ (ZJ I C x bt_zip (PyProof.Rows.callWith_type1 (thn (G pos i s O H _ I h) λV g ⟨Y,H1,I1,L,J⟩=>?_) (by rw[y,l]) (by rw[l];rfl)));obtain⟨a,b,Z,S,ev,B,E,q⟩:=J;subst ev;cases L with
 |cons r t =>
  cases t with
  |cons D t =>
   cases t;cases r;cases D;obtain⟨u1,W,K⟩:=wS I1 B;obtain⟨Q,M,v⟩:=wS I1 E;refine zp_call K v λu z=>?_
   refine wpAny_pyIter_zip (s:={g with heap:=u}) z.z ?_
   have n:∀j,g.heap.objs.size<=g.heap.objs.size+j:=λj=>Nat.le_add_right _ _
   have o:∀c,g.heap.objs.size<=c->Qv X i H1 c:=λc k=>I1.fpOk k (I1.hok.fresh k)
   refine⟨_,[g.heap.objs.size+4,g.heap.objs.size+2,g.heap.objs.size+3,g.heap.objs.size,g.heap.objs.size+1],_,_,H1,rfl,I1.kept (t':=g.toks) z.kp,zFe w (five _) t1 t2 a b,⟨⟨.none,false,.inl rfl,z.z⟩,z.a,⟨_,_,z.b⟩,zDE z.i1,zDE z.i2⟩,λc k=>?_,q⟩;dsimp[mem_cons,mem_nil_iff,or_false]at k;rcases k with rfl|rfl|rfl|rfl|rfl
   ·exact o _ (n 4)
   ·exact o _ (n 2)
   ·exact o _ (n 3)
   ·exact o _ (n 0)
   ·exact o _ (n 1)
def Wv(d e:D):D:=.t [d,e]
def yM(e:YL H H')(h:SqH K H t a xs):SqH K H' t a xs:=by
 cases t with
 |true=>exact zI e h|false=>exact e.seq h
def it_zip:ItOk K mg (Itz K t1 t2 a b) (zipWith Wv ds es) (λH=>SqH K H t1 a xs/\Reps K mg H ds xs/\SqH K H t2 b ys/\Reps K mg H es ys) where
 mono:=λH H' s h=>⟨yM s h.1,h.2.1.mono s,yM s h.2.2.1,h.2.2.2.mono s⟩
 go:=λi Hh H s h c=>by
  rw[List.length_zipWith]at c;exact⟨xs,ys,yM s h.1,yM s h.2.2.1,by rw[h.2.1.length];omega,by rw[h.2.2.2.length];omega⟩
 yld:=λi Hh H x H' s h c y=>by
  obtain⟨q,u,v,o,h2,r,rfl,rfl⟩:=y;have l:=o xs (yM s h.1);have j:=h2 ys (yM s h.2.2.1);obtain⟨d,p,n⟩:=h.2.1.get l;obtain⟨e,k,g⟩:=h.2.2.2.get j;refine⟨Wv d e,by rw[List.getElem?_zipWith,p,k],.inr ⟨q,[u,v],[d,e],r,rfl,rfl,rfl,Reps.cons n (Reps.cons g Reps.nil)⟩⟩
 stop:=λi Hh H s h c=>by
  rw[List.length_zipWith]at c;refine⟨xs,ys,yM s h.1,yM s h.2.2.1,?_⟩;rw[h.2.1.length,h.2.2.2.length];omega
end
end DV
namespace DV
open PySem L2
section
variable{X:Cx}
def zBf:Bool->D->Lx (Ls D)
 |true,.t a=>some a|false,.l a=>some a|_,_=>none
def iZ(t1 t2:Bool)(m:MA):MI:=λE=>match m E with
 | .z=>.z| .y x E1=>.y x E1
 | .ok ([r,e],E1)=>match zBf t1 r.d,zBf t2 e.d with
  |some c,some a=>.ok (zipWith Wv c a,E1)|_,_=>.z
 |_=>.z
def QL{c:Str->Lx Lv}(e:zBf t d=some ds)(r:Rep K c H d v):∃a xs,v=.ref a/\SqH K H t a xs/\Reps K c H ds xs:=by
 cases t with
 |true =>
  cases d with
  |t g=>cases e;exact yS r|_=>cases e
 |false =>
  cases d with
  |l g=>cases e;exact zu r|_=>cases e
def zG8(t:TgZ tg)(j:Gl X "zip")(x:X.mg "zip"=none)(G:AOk X [a,b] m)(i:zW a=false:=by rfl)(e:zW b=false:=by rfl) :
  IOk X tg (.Call (.Name "zip" p) [a,b] [] cpos) (iZ t1 t2 m):=ur (pi_zip t j x G (star2 i e) (zCR e)) λO H R ⟨M,E,hl,I,k⟩=>by
 unfold iZ at k;refine Jr (T0:=[]) hl I ?_;exists ea,m E,k,rs,E1
 match rs,k with
 | [r,C],k =>
  intro J H1 hv l;have n:=Got.reps hv l;dsimp at k;cases h:zBf t1 r.d with
  |none=>rw[h]at k;exact k.elim
  |some K =>
   cases g:zBf t2 C.d with
   |none=>rw[h,g]at k;exact k.elim
   |some L =>
    rw[h,g]at k;dsimp[List.map]at n;obtain⟨v,w,rfl,D,h2⟩:=reps2 n;obtain⟨c,B,rfl,q,z⟩:=QL h D;obtain⟨d,y,rfl,o,u⟩:=QL g h2;exact⟨c,d,B,y,rfl,yM zF q,yM zF o,k _ _ H1 it_zip ⟨q,z,o,u⟩ l.dropAll⟩
 | [],k=>exact k.elim| [_],k=>exact k.elim|_::_::_::_,k=>exact k.elim
end
section
variable{X:Cx}{K:qH}{mg:Str->Lx Lv}{O:L2.St}{M:Ld}{E:za}{H:Hp}
def zFf{J:It}{ds:Ls D}{l:Hp->Prop}{p a:L2.St}{z E':za}{H1 e c:Hp}{i:Nat}{x:V}(it:ItOk K mg J ds l)(k:i<ds.length)(j:Got K mg M p z H1 [] a E' e [])(g:l (Hm (Mo M (a.zip E')) e))(y:J.yld i e x c) :
  ∃d,ds[i]?=some d/\Got K mg M p z H1 [] a E' c []/\l (Hm (Mo M (a.zip E')) c)/\Rep K mg (Hm (Mo M (a.zip E')) c) d x:=by
 obtain⟨d,w,h⟩:=it.yld i _ _ x _ zF g k y;rcases h with⟨rfl,C⟩|⟨q,u,H,t,rfl,rfl,rfl,G⟩
 ·exact⟨d,w,j,g,C⟩
 ·have f:FR K mg M e (a.zip E'):=j.fr
  have r:=f.newTup t G;have B:Step M e (a.zip E') (upd e q (.t u)) ((some (.ref q),.v (.t H))::a.zip E'):=Step.newVal t;obtain⟨v,ev,o⟩:=r.val _ _ qE;cases ev;have n:=B.same;rw[YM]at o n;have E:Step M e (a.zip E') (upd e q (.t u)) (a.zip E'):=⟨n,B.keep⟩;exact⟨_,w,⟨j.len,r.tail,j.st.trans E,j.pk⟩,it.mono _ _ n g,o⟩
def sForI(a:MI)(tg:MG)(body:MS):MS:=λE=>match a E with
 | .z=>.z| .y x E1=>.y x E1| .ok (ds,E1)=>ZO tg body ds E1
def zFg{u:MI}{tg:MG}{g:TG}{body:MS}{D:Ends}(G:GOk X g tg)(h:tS X (sForI u tg body) D O H):tFor (tMI X u) g (tS X body) D O H:=by
 obtain⟨M,E,hl,Q,k⟩:=zAB h;unfold sForI at k;refine⟨M,E,hl,Q,?_⟩;cases o:u E with
 |z=>rw[o]at k;exact k|y x E1=>rw[o]at k;exact λH' g=>k O H' g
 |ok p =>
  obtain⟨a,E1⟩:=p;rw[o]at k;intro J Iv H1 n I C;refine⟨λi m O1 H2=>m=a.length-i/\i<=a.length/\∃E2,Got X.K X.mg M O E H [] O1 E2 H2 []/\Iv (Hm (Mo M (O1.zip E2)) H2)/\Fin X M O E H D (ZO tg body (a.drop i) E2),⟨a.length,by simp,zero_le _,E1,C,I,k⟩,?_⟩
  rintro i m O1 H2 ⟨rfl,S,E2,v,c,fin⟩
  by_cases j:i<a.length
  ·refine .inr ⟨n.go i _ H2 zF c j,λO3 H3=>i+1<=a.length/\∃E3,Got X.K X.mg M O E H [] O3 E3 H3 []/\Iv (Hm (Mo M (O3.zip E3)) H3)/\Fin X M O E H D (ZO tg body (a.drop (i+1)) E3),λO3 H3 q=>⟨a.length-(i+1),by omega,rfl,q⟩,λx H3 y=>?_⟩
   obtain⟨d,L,K,t,w⟩:=zFf n j v c y;have B:a.drop i=d::a.drop (i+1):=by
    obtain⟨r,rfl⟩:=qG.mp L;exact drop_eq_getElem_cons r
   rw[B]at fin;exact Zo G K w fin λO4 E4 H4 R st l=>⟨j,E4,R,n.mono _ _ st.same t,l⟩
  ·have e:i=a.length:=by omega
   subst e;rw[drop_length]at fin;exact .inl ⟨n.stop _ _ H2 zF c (le_refl _),fin O1 H2 v⟩
def sk_forI(i:PassesOwn (model X.prog X.w) X.A X.env X.xe)(j:X.calm=true)(h:IOk X tgt iter mi)(c:PG X tgt g)(e:GOk X g tg)(k:uJ X body mb)
  (a:∀x,foldedSetIterable iter X.env x=pure x:=by intro _;rfl):SOk X (.For tgt iter body [] pos) (sForI mi tg mb):=yt (Qw i j h c k a) λD O H=>zFg e
end
end DV
namespace DV
open PySem L2 PySem.Spec PyProof.Rows
section
variable{prog:Lc}{w:Le}{A:Lg}{E:Ly}{s:La}
def en_next{e it l:Lz}{k:Nat}{a:Li}{st:Lm}{old:Lv}{Q:Ly}(S:Src prog w A it l a st)(M:e≠it)(nl:l≠e)(B:IsEnum s.heap e it k old)(X:st k s.heap)
  (Y:∀x,a[k]?=some x->∀h,IsEnumOut h e it ((k:Int)+1) x s.heap.objs.size->st (k+1) h->IsPair h s.heap.objs.size (.int k s.toks) x->(∀b o,b≠e->b≠it->s.heap.get? b=some o->h.get? b=some o)->Q (.ref s.heap.objs.size) {s with heap:=h,toks:=s.toks+1})
  (R:a[k]?=none->∀h x,Heap.ExtBut it s.heap h->(∃o,h.get? x=some o/\o.cls=.type "StopIteration")->E (.ref x) {s with heap:=h}) :
  wpAny (model prog w) A (Builtin.«enumerate.__next__» ⟨[.ref e],[]⟩) (λfin Z=>∃v,fin=.done (.ret v)/\Q v Z) E s:=by
 obtain⟨i,g,d,j,os⟩:=s;refine qB (m:=field (.ref e) 2) (wpAny_field B rfl (x:=.ref it) rfl (qB (S.next X (λx O g1 s1 n=>?_) R)));have n:Heap.SameBut it i g1:=n;have C:IsEnum g1 e it k old:=(n.2 e M).trans B;refine qB (m:=field (.ref e) 3) (wpAny_field C rfl (x:=rawInt k) rfl ?_);refine qB (m:=field (.ref e) 4) (wpAny_field C rfl (x:=.none) rfl ?_);refine qB (m:=mkInt k) (wpAny_mkInt ?_);refine qB (m:=setField (.ref e) 3 (rawInt ((k:Int)+1))) (wpAny_setField_rec C (by simp) λg2 y r=>?_);have r:Heap.SameBut e g1 g2:=r;have y:IsEnum g2 e it ((k:Int)+1) old:=y;refine qB (m:=setField (.ref e) 4 .none) (wpAny_setField_rec y (by simp) λg3 G t=>?_);have t:Heap.SameBut e g2 g3:=t;have G:IsEnum g3 e it ((k:Int)+1) old:=G;refine qB (m:=newTuple [.int k j,x]) (wpAny_newTuple ?_);have sz:g3.objs.size=i.objs.size:=by rw[t.1,r.1,n.1]
 have V:e<i.objs.size:=lt_size B;have p:IsEnum (g3.push {cls:=.type "tuple",data:=.seq #[.int k j,x]}) e it ((k:Int)+1) old:=qA _ G;have L:IsPair (g3.push {cls:=.type "tuple",data:=.seq #[.int k j,x]}) i.objs.size (.int k j) x:=by rw[<- sz];exact get?_push_size _ rfl
 have I:∀b o,b≠e->g1.get? b=some o->(g3.push {cls:=.type "tuple",data:=.seq #[.int k j,x]}).get? b=some o:=λb o c q=>qA _ (t.extBut b o c (r.extBut b o c q))
 generalize g3.push {cls:=.type "tuple",data:=.seq #[.int k j,x]}=g4 at p L I;refine qB (m:=Builtin.SmallTypes.ownedTupleIsFree (.ref e)) ?_;rw[sz];unfold Builtin.SmallTypes.ownedTupleIsFree;refine qB (wpAny_field p rfl (x:=.none) rfl (qC ?_));dsimp[if_true];refine qB (wpAny_rule (qB (wpAny_field p rfl (x:=old) rfl (qB (wpAny_setField_rec p (by simp) λg5 K J=>?_)))));have J:Heap.SameBut e g4 g5:=J;have K:IsEnum g5 e it ((k:Int)+1) x:=K;refine qB (m:=Builtin.SmallTypes.ownedTupleHandOut (.ref e) (.ref i.objs.size)) ?_;unfold Builtin.SmallTypes.ownedTupleHandOut;refine qB (wpAny_setField_rec K (by simp) λg6 H z=>?_);have z:Heap.SameBut e g5 g6:=z;have H:IsEnumOut g6 e it ((k:Int)+1) x i.objs.size:=H;refine wpAny_setField_rec H (by simp) λg7 u D=>?_
 have D:Heap.SameBut e g6 g7:=D;have u:IsEnumOut g7 e it ((k:Int)+1) x i.objs.size:=u;have up:∀b o,b≠e->g4.get? b=some o->g7.get? b=some o:=λb o c q=>D.extBut b o c (z.extBut b o c (J.extBut b o c q))
 refine qB (wpAny_letGo (qC ⟨_,rfl,Y x O g7 u (S.keep s1 λb hb o q=>?_) (up _ _ (ne_of_gt V) L) λb o c W q=>up b o c (I b o c (n.extBut b o W q))⟩));have c:b≠e:=by rcases hb with rfl|rfl;exact M.symm;exact nl
 exact up b o c (I b o c q)
def GC{e it l:Lz}{k:Nat}{a:Li}{st:Lm}{g:Lv}{Q:Lx Lv->La->Prop}(S:Src prog w A.in1 it l a st)(u:e≠it)(nl:l≠e)(i:IsEnum s.heap e it k g)(v:st k s.heap)
  (D:∀x,a[k]?=some x->∀c,IsEnumOut c e it ((k:Int)+1) x s.heap.objs.size->st (k+1) c->IsPair c s.heap.objs.size (.int k s.toks) x->(∀b o,b≠e->b≠it->s.heap.get? b=some o->c.get? b=some o)->Q (some (.ref s.heap.objs.size)) {s with heap:=c,toks:=s.toks+1})
  (t:a[k]?=none->∀c,(∀b o,b≠it->s.heap.get? b=some o->c.get? b=some o)->Q none {s with heap:=c}):wpAny (model prog w) A (pyNext (.ref e)) Q E s:=by
 have hT:s.TypeIs (.ref e) "enumerate":=⟨_,i,rfl⟩;unfold pyNext;refine qB (wpAny_attempt (wpAny_callSpecial?_slot hT F.slot_enumerate_next (wpAny_call_entry F.slot_enumerate_next hT F.entry_enumerate_next (en_next S u nl i v (λx h c n r j C=>?_) λh c y z q=>?_) (F.args_enumerate_next_1 _))))
 ·exact qC (D x h c n r j C)
 ·obtain⟨o,ho,B⟩:=q
  exact qB (wpAny_isInstance (T:="StopIteration") (b:=true) ⟨o,ho,B⟩ isSubtype_stop (qC (t h c λb o p e=>z b o p e)))
end
def Ite(K:qH)(t:Bool)(a:Lz):It :=
 ⟨λi H=>∃c,SqH K H t a c/\i<c.length,
  λi H x H'=>∃q u,(∀c,SqH K H t a c->c[i]?=some u)/\H q=none/\H'=upd H q (.t [.int i,u])/\x=.ref q,
  λi H=>∃c,SqH K H t a c/\c.length<=i⟩
def ESt(e it:Lz)(t:Bool)(a:Lz)(i:Nat)(h:Heap):Prop:=(∃c,IsEnum h e it i c)/\ItA t h it a i
def zDF{P:Lc}{w:Le}{K:qH}{D:Ls Lb}{x1}{pos:Pos}{e it:Lz}(V:e≠it)(t:Bool)(a:Lz):Turn P w K (.Tuple D x1 pos) (Ite K t a) [e,it] e (ESt e it t a) where
 mem:=by simp
 obj:=λi h st c g=>by
  obtain⟨⟨l,j⟩,p⟩:=st;dsimp[mem_cons,mem_nil_iff,or_false]at g;rcases g with rfl|rfl
  ·exact⟨_,j,λv z=>by cases z⟩
  ·exact Y5 p
 keep:=λi h h' st k=>by
  obtain⟨⟨l,j⟩,p⟩:=st;exact⟨⟨l,k e (by simp) _ j⟩,vF p λo q=>k it (by simp) o q⟩
 item:=by
  intro X G W R g i y s O H E I hf st L;subst G W R;obtain⟨⟨l,j⟩,p⟩:=st;obtain⟨xs,r,l1⟩:=L;obtain⟨M,r1,Z⟩:=wS I r;have C:∀c∈[e,it],a≠c:=λc g=>vE I r (hf c g)
  have J:X.A.in1.handled=none:=I.ok.hd g;obtain⟨u,eu⟩:∃u,xs[i]?=some u:=⟨_,getElem?_eq_getElem l1⟩;obtain⟨u',B,ru⟩:=r1.get eu;refine GC (srcA J t (C it (by simp)) M.toArray) V (C e (by simp)) j ⟨p,Z⟩ (λx n h' o1 s1 pq Q=>?_) (λn=>?_)
  ·have ex:x=u':=by simp[B]at n;exact n.symm
   subst ex;refine⟨_,rfl,wpAny_letOwnedTupleGo_enum o1 λh2 z2 b2=>?_⟩;have lt:∀{c o},s.heap.get? c=some o->s.heap.objs.size≠c:=λq=>ne_of_gt (lt_size q)
   have S:IsPair h2 s.heap.objs.size (.int i s.toks) x:=b2.extBut _ _ (lt j) pq;have k2:∀c o,c∉[e,it]->s.heap.get? c=some o->h2.get? c=some o:=λc o g q=>b2.extBut _ _ (λz=>g (by simp[z])) (Q c o (λz=>g (by simp[z])) (λz=>g (by simp[z])) q)
   have Y:zz X.prog X.w (upd H s.heap.objs.size (.t [.int i,u])) h2 s.heap.objs.size (.t [.int i,u]):=⟨by simp[sizeLine_eq],[.int i s.toks,x],.cons ⟨_,rfl⟩ (.cons ru .nil),⟨_,S,rfl,_,rfl⟩⟩;have I2:=I.turnLay (t':=s.toks+1) hf k2 (le_refl _) Y;have fresh:H s.heap.objs.size=none:=I.hok.fresh (le_refl _);refine⟨.ref s.heap.objs.size,_,I2,rfl,⟨_,u,λzs hz=>by rw[QK I hz r];exact eu,fresh,rfl,rfl⟩,⟨⟨_,by have:=z2;exists this⟩,vF s1.1 λo q=>b2.extBut _ _ V.symm q⟩,λc g=>?_⟩;have:c≠s.heap.objs.size:=λq=>by
    obtain⟨o,e⟩:∃o,s.heap.get? c=some o:=by
     dsimp[mem_cons,mem_nil_iff,or_false]at g;rcases g with rfl|rfl
     ·exact⟨_,j⟩
     ·obtain⟨o,e,_⟩:=Y5 p;exact⟨o,e⟩
    exact lt e q.symm
   rw[zG this];exact(hf c g).1
  ·exfalso
   simp[B]at n
 done:=by
  intro X G W R g i y s O H E I hf st L;subst G W R;obtain⟨⟨l,j⟩,p⟩:=st;obtain⟨xs,r,l1⟩:=L;obtain⟨M,r1,Z⟩:=wS I r;have C:∀c∈[e,it],a≠c:=λc g=>vE I r (hf c g)
  have J:X.A.in1.handled=none:=I.ok.hd g;have e1:=r1.length;refine GC (srcA J t (C it (by simp)) M.toArray) V (C e (by simp)) j ⟨p,Z⟩ (λx n=>?_) (λn h' Q=>⟨rfl,?_⟩)
  ·exfalso
   simp at n
   have a1:=(qG.mp n).1;omega
  ·exact I.turnL (t':=s.toks) hf λc o g q=>Q c o (λz=>g (by simp[z])) q
 self:=λ_ _ _ _ _ st h=>by
  obtain⟨⟨l,j⟩,_⟩:=st;exact wpAny_pyIter_enum j h
end DV
namespace DV
open PySem L2 PySem.Spec PyProof.Rows
open AutoSeq1 (wpAny_loadPart')
abbrev enH(h:Heap)(c:String)(l:Lz):Heap:=(h.push (itO c l)).push {cls:=.type "enumerate",data:=.fields #[.none,.bool false,.ref h.objs.size,rawInt 0,.none,.none]}
def en_newT(l:Lz)(items:Li)(n:Nat)(dd:Lx Lz)(i:Lk) :
  Meets (Builtin.«enumerate.__new__» ⟨[.type "enumerate",.ref l],[]⟩) (λ_ R s=>s.heap.get? l=some {cls:=.type "tuple",dict:=dd,data:=.seq items n,slots:=i}/\R (.ok (.ret (.ref (s.heap.push (itO "tuple_iterator" l)).objs.size))) {s with heap:=enH s.heap "tuple_iterator" l}) :=
 .of_wp λe w A R s h=>by
  obtain⟨o,g,d,k,j⟩:=s;obtain⟨hl,h⟩:=h;have p:=sub_enumerate;have a:Heap.IsTuple (Shared.heap ⟨o,g,d,k,j⟩) l items:=⟨_,hl,rfl,n,rfl⟩
  wp_walk using wpAny_loadPart' hl
  refine wpAny_stack_any λst=>qC ?_
  split
  ·rename_i c _ _ _ _ _
   cases (c==Value.type "enumerate")<;>(wp_walk using wpAny_loadPart' hl,wpAny_pyIter_tuple a;exact⟨_,rfl,h⟩)
  ·wp_walk using wpAny_loadPart' hl,wpAny_pyIter_tuple a;exact⟨_,rfl,h⟩
section
variable{prog:Lc}{w:Le}{A:Lg}{E:Ly}{s:La}
def en_call{Q:Ly}(p:SqO s.heap t l xs)(h:∀g,(IsEnum g (s.heap.objs.size+1) s.heap.objs.size 0 .none)->ItA t g s.heap.objs.size l 0->(∀b o,s.heap.get? b=some o->g.get? b=some o)->Q (.ref (s.heap.objs.size+1)) {s with heap:=g}):wpAny (model prog w) A (call (.type "enumerate") [.ref l]) Q E s:=by
 cases t with
 |false =>
  exact call_enumerate_list p λg a b c k=>h g a b k
 |true =>
  obtain⟨⟨v,r,u,q⟩,e,c,n,d⟩:=(p:s.heap.IsTuple l xs);simp only at c d;subst c d;refine callType_new F.called_enumerate (by decide) (F.typeCall_enumerate_1 _) (F.newCall_enumerate_1 _) (λj=>F.args_object_init_2 j _) F.entry_enumerate_new (en_newT l xs n r q) ⟨e,?_⟩;have hz:(s.heap.push (itO "tuple_iterator" l)).objs.size=s.heap.objs.size+1:=size_push ..;have i:(enH s.heap "tuple_iterator" l).get? (s.heap.push (itO "tuple_iterator" l)).objs.size=some _:=get?_push_size _ rfl;rw[hz]at i;show _/\_;rw[hz];exact⟨⟨_,i,rfl⟩,h _ i ⟨_,qA _ (get?_push_size _ rfl),rfl,rfl⟩ λb o x=>qA _ (qA _ x)⟩
end
section
variable{X:Cx}{K:qH}{mg:Str->Lx Lv}{O:L2.St}{H:Hp}
def iEnum(K:qH)(t:Bool)(e:TA):TI:=λO H R=>e O H λc H1=>∃a g,c=[.ref a]/\SqH K H1 t a g/\R (Ite K t a) H1
def bt_enum:bootBuiltins "enumerate"=some (.type "enumerate"):=by left
def pi_enum{x1}(y:Gl X "enumerate")(u:X.mg "enumerate"=none)(B:PA X [e] ta)(o:starEach [e] X.env=[(false,eval e X.env)]:=by rfl) :
  PI X (.Tuple elts x1 tp) (.Call (.Name "enumerate" p) [e] [] pos) (iEnum X.K t ta):=by
 intro g s O H R I h;refine Call_ (ZJ I y u bt_enum (PyProof.Rows.callWith_type1 (thn (B pos g s O H _ I h) λJ i ⟨L,H1,I1,G,C⟩=>?_) o rfl));obtain⟨a,M,ev,v,q⟩:=C;subst ev;cases G with
 |cons r w =>
  cases w;cases r;obtain⟨Q,K,E⟩:=wS I1 v;refine en_call E λn k D kp=>?_
  refine wpAny_pyIter_enum (s:={i with heap:=n}) k ?_
  have l:∀c,i.heap.objs.size<=c->Qv X g H1 c:=λc j=>I1.fpOk j (I1.hok.fresh j)
  have x:i.heap.objs.size+1≠i.heap.objs.size:=λz=>by have:=Nat.succ_ne_self i.heap.objs.size;exact this z
  refine⟨_,[i.heap.objs.size+1,i.heap.objs.size],_,_,H1,rfl,I1.kept (t':=i.toks) kp,zDF x t a,⟨⟨_,k⟩,D⟩,λc j=>?_,q⟩;dsimp[mem_cons,mem_nil_iff,or_false]at j;rcases j with rfl|rfl
  ·exact l _ (le_succ _)
  ·exact l _ (le_refl _)
def QM:Nat->Ls D->Ls D
 |_,[]=>[]|n,d::ds=>.t [.int (n:Int),d]::QM (n+1) ds
theorem YX:∀(a:Ls D) (n:Nat),(QM n a).length=a.length
 | [],_=>rfl|d::a,n=>by simp[QM,YX a]
theorem zAJ:∀(a:Ls D) (n i:Nat) (d:D),a[i]?=some d->(QM n a)[i]?=some (.t [.int ((n+i:Nat):Int),d])
 | [],_,_,_,h=>by simp at h|e::a,n,0,d,h=>by simp at h;subst h;simp[QM]
 |e::a,n,i+1,d,h=>by
  dsimp[List.getElem?_cons_succ]at h;have:=zAJ a (n+1) i d h;dsimp[QM,List.getElem?_cons_succ];rw[this,show n+1+i=n+(i+1)by omega]
def it_enum:ItOk K mg (Ite K t a) (QM 0 ds) (λH=>SqH K H t a xs/\Reps K mg H ds xs) where
 mono:=λH H' s h=>⟨yM s h.1,h.2.mono s⟩
 go:=λi Hh H s h c=>by
  rw[YX]at c;exact⟨xs,yM s h.1,by rw[h.2.length];omega⟩
 yld:=λi Hh H x H' s h c y=>by
  obtain⟨q,u,j,l,rfl,rfl⟩:=y;have e:=j xs (yM s h.1);obtain⟨d,k,g⟩:=h.2.get e;refine⟨_,zAJ ds 0 i d k,.inr ⟨q,[.int (i:Int),u],[.int ((0+i:Nat):Int),d],l,rfl,rfl,rfl,Reps.cons (by rw[zero_add];dsimp[Rep]) (Reps.cons g Reps.nil)⟩⟩
 stop:=λi Hh H s h c=>by
  rw[YX]at c;exact⟨xs,yM s h.1,by rw[h.2.length];omega⟩
def iE(t:Bool)(m:MA):MI:=λE=>match m E with
 | .z=>.z| .y x E1=>.y x E1
 | .ok ([r],E1)=>match zBf t r.d with
  |some a=>.ok (QM 0 a,E1)|none=>.z
 |_=>.z
def io_enum{x1}(e:Gl X "enumerate")(l:X.mg "enumerate"=none)(w:AOk X [a] m)(g:zW a=false:=by rfl) :
  IOk X (.Tuple elts x1 tp) (.Call (.Name "enumerate" p) [a] [] cpos) (iE t m):=ur (pi_enum e l w (zCR g)) λO H R ⟨M,E,hl,o,k⟩=>by
 unfold iE at k;refine Jr (T0:=[]) hl o ?_;exists ea,m E,k,rs,E1
 match rs,k with
 | [r],k =>
  intro x H1 hv j;have i:=Got.reps hv j;dsimp at k;exists ed,zBf t r.d,k,ds;dsimp[List.map]at i;obtain⟨v,rfl,q⟩:=Ju i;obtain⟨c,n,rfl,h,u⟩:=QL ed q;exact⟨c,n,rfl,yM zF h,k _ _ H1 it_enum ⟨h,u⟩ j.dropAll⟩
 | [],k=>exact k.elim|_::_::_,k=>exact k.elim
end
end DV
namespace PySem
open Sem (wp)
open AutoSeq1 (wpAny_loadPart')
end PySem
namespace L2
open PySem PySem.Spec PyProof.Rows
end L2
namespace DV
open PySem L2
mutual
/-- no list within -/
def nol:D->Bool
 | .non=>true| .bl _=>true| .int _=>true| .str _=>true| .fn _=>true| .t a=>nols a|_=>false
def nols:Ls D->Bool
 | []=>true|d::ds=>nol d&&nols ds
end
def borS:Slot->Bool
 | .w a=>nols a| .p a=>nols a| .m _ _=>false|_=>true
open Classical in
def zDG(i:Nat)(t:MT):MT:=λE=>match E[i]? with
 |some (.w a)=>if(E.set i .e).all borS=true then(match t (E.set i (.v (.l a)))with
  | .ok (b,E1)=>if E1=E.set i (.v (.l a))then .ok (b,E)else .z|_=>.z)else .z
 |some (.v _)=>t E|_=>.z
section
variable{X:Cx}{K:qH}{mg:Str->Lx Lv}{P P':Ld}{H:Hp}{a:Lz}{xs:Ls V}
mutual
theorem rep_nol(k:H a=some (.l xs))(j:∀b,P' b->P b\/b=a):∀(d:D) (v:V),nol d=true->Rep K mg (Hm P H) d v->Rep K mg (Hm P' H) d v
 | .non,v,_,h=>h| .bl _,v,_,h=>h| .int _,v,_,h=>h| .str _,v,_,h=>h| .fn _,v,_,h=>h
 | .t p,v,n,h=>by
  obtain⟨c,l,e,s,r⟩:=h;refine⟨c,l,e,?_,reps_nol k j p l n r⟩;rcases s with(s|⟨o,s⟩)|s
  ·obtain⟨i,g⟩:=zR.mp s
   refine .inl (.inl (zR.mpr ⟨λq=>?_,g⟩));rcases j c q with q|q
   ·exact i q
   ·subst q;rw[k]at g;cases g
  ·obtain⟨i,g⟩:=zR.mp s
   refine .inl (.inr ⟨o,zR.mpr ⟨λq=>?_,g⟩⟩);rcases j c q with q|q
   ·exact i q
   ·subst q;rw[k]at g;cases g
  ·exact .inr s
 | .l _,v,n,h=>by cases n| .dic,v,n,h=>by cases n| .exn _ _,v,n,h=>by cases n
theorem reps_nol(j:H a=some (.l xs))(i:∀b,P' b->P b\/b=a):∀(c:Ls D) (g:Ls V),nols c=true->Reps K mg (Hm P H) c g->Reps K mg (Hm P' H) c g
 | [],g,_,h=>h
 |d::c,g,n,h=>by
  obtain⟨v,r,e,o,h2⟩:=h;obtain⟨k,l⟩:=Bool.and_eq_true_iff.mp n;exact⟨v,r,e,rep_nol j i d v k o,reps_nol j i c r l h2⟩
end
def eFrz(m:ME):ME:=λE=>match m E with
 | .ok (r,E1)=>.ok (.v r.d,E1)| .y x E1=>.y x E1| .z=>.z
def ok_frz(h:EOk X e m):EOk X e (eFrz m):=zb h λO H Q ⟨M,E,hl,f,k⟩=>by
 refine⟨M,E,hl,f,?_⟩;unfold eFrz at k;cases a:m E with
 |z=>rw[a]at k;exact k.elim|y x E1=>rw[a]at k;exact k
 |ok p =>
  rw[a]at k;intro v H' g;exact k v H' ⟨g.len,FR.frz g.fr,Step.frz g.st,g.pk⟩
def ok_bor(i:Nat)(h:TOk X e t):TOk X e (zDG i t):=vA h λO H Q ⟨M,E,hl,f,k⟩=>by
 unfold zDG at k;cases S:E[i]? with
 |none=>rw[S]at k;exact k.elim
 |some sl =>
 rw[S]at k;cases sl with
 |e=>exact k.elim|p l=>exact k.elim|m _ _=>exact k.elim|v d=>exact⟨M,E,hl,f,k⟩
 |w l =>
  dsimp at k;by_cases hb:(E.set i .e).all borS=true
  ·rw[if_pos hb]at k
   obtain⟨o,h1,h2⟩:=j0 hl S;obtain⟨a,xs,rfl,q1,q2,q3⟩:=f.ownL o (.w l) l (mem_of_getElem? h2) rfl;have B:i<(O.zip E).length:=(qG.mp h2).1;have p:(O.zip E).Perm ((some (.ref a),R.slot (.w l))::(O.zip E).eraseIdx i):=by
    have:=zT (some (V.ref a),Slot.w l) (O.zip E) i B;rw[ju h2]at this;exact this
   have f1:=(f.perm p).frz;have f2:FR X.K X.mg M H ((O.zip E).set i (some (.ref a),.v (.l l))):=f1.perm (zT _ _ _ B).symm;have ez:O.zip (E.set i (.v (.l l)))=(O.zip E).set i (some (.ref a),.v (.l l)):=zd (.v (.l l)) h1;rw[<- ez]at f2;have pz:(O.zip (E.set i (.v (.l l)))).Perm ((some (.ref a),Slot.v (.l l))::(O.zip E).eraseIdx i):=by rw[ez];exact zT _ _ _ B
   -- what the one yE and the other
   have oz:∀b,b∈yE (O.zip E)↔b=a\/b∈yE (O.zip (E.set i (.v (.l l)))):=λb=>by
    constructor
    ·intro q
     have q:=zD p b q;rcases mem_cons.mp (show b∈a::yE ((O.zip E).eraseIdx i)from q)with q|q
     ·exact .inl q
     ·exact .inr (zD pz.symm b (by rw[zZ];exact q))
    ·intro q
     rcases q with q|q
     ·subst q;exact WC (mem_of_getElem? h2) rfl rfl
     ·have q:=zD pz b q
      rw[zZ]at q;exact zD p.symm b (qD a q)
   have na:¬Mo M (O.zip (E.set i (.v (.l l)))) a:=λq=>by
    rcases q with q|q
    ·exact q2 q
    ·have q:=zD pz a q
     rw[zZ]at q;have nd:(yE ((some (V.ref a),Slot.w l)::(O.zip E).eraseIdx i)).Nodup:=(p.filterMap W9).nodup_iff.mp f.nd;exact(nodup_cons.mp nd).1 q
   have mo:∀b,Mo M (O.zip E) b->Mo M (O.zip (E.set i (.v (.l l)))) b\/b=a:=λb q=>by
    rcases q with q|q
    ·exact .inl (.inl q)
    ·rcases(oz b).mp q with q|q
     ·exact .inr q
     ·exact .inl (.inr q)
   have G:∀b,Mo M (O.zip (E.set i (.v (.l l)))) b->Mo M (O.zip E) b:=λb q=>by
    rcases q with q|q
    ·exact .inl q
    ·exact .inr ((oz b).mpr (.inr q))
   refine⟨M,E.set i (.v (.l l)),by simp[hl],f2,?_⟩;cases et:t (E.set i (.v (.l l)))with
   |z=>rw[et]at k;exact k.elim|y x E1=>rw[et]at k;exact k.elim
   |ok pr =>
    obtain⟨b,E1⟩:=pr;rw[et]at k;dsimp at k;by_cases hE:E1=E.set i (.v (.l l))
    ·rw[if_pos hE]at k
     subst hE;intro H' g;refine k H' ⟨hl,?_,?_,PKp.refl⟩
     ·have ha:H' a=some (.l xs):=(zR.mp (g.st.same a _ (zR.mpr ⟨na,q1⟩))).2
      have sm:YL (Hm (Mo M (O.zip E)) H) (Hm (Mo M (O.zip E)) H'):=λc u x=>by
       obtain⟨J,x2⟩:=zR.mp x;exact zR.mpr ⟨J,(zR.mp (g.st.same c u (zR.mpr ⟨λq=>J (G c q),x2⟩))).2⟩
      refine⟨λo d q=>?_,λo s es q n=>?_,f.nd,g.fr.mal⟩
      ·obtain⟨v,K,r⟩:=f.val o d q
       exact⟨v,K,r.mono sm⟩
      ·obtain⟨c,ys,K,e2,e3,r⟩:=f.own o s es q n
       by_cases hc:c=a
       ·subst hc
        rw[e2]at q1;cases q1;exact⟨c,_,K,ha,e3,r.mono sm⟩
       ·-- another one's list
        subst K;obtain⟨j,I⟩:=List.getElem?_of_mem q;replace I:(O.zip E)[j]?=some (some (.ref c),s):=I;have D:j≠i:=λq=>by
         subst q;rw[I]at h2;cases h2;exact hc rfl
        have aa:(O.zip (E.set i (.v (.l l))))[j]?=some (some (.ref c),s):=by
         rw[ez,getElem?_set_ne (Ne.symm D)];exact I
        have nb:∃ls,es=.l ls/\nols ls=true:=by
         have ab:(E.set i .e)[j]?=some s:=by
          rw[getElem?_set_ne (Ne.symm D)];exact(List.getElem?_zip_eq_some.mp I).2
         have:=all_eq_true.mp hb s (mem_of_getElem? ab);cases s with
         |e=>cases n|v d=>cases n|w Z=>cases n;exact⟨_,rfl,this⟩|p Z=>cases n;exact⟨_,rfl,this⟩|m _ _=>cases this
        obtain⟨ls,rfl,nb⟩:=nb;obtain⟨c',_,Y,W,L,C,rfl,r'⟩:=g.fr.own _ s _ (mem_of_getElem? aa) n;cases Y;exact⟨c,_,rfl,W,L,C,rfl,reps_nol ha mo ls C nb r'⟩
     ·refine⟨λc u x=>?_,g.st.keep⟩
      obtain⟨J,x2⟩:=zR.mp x;exact zR.mpr ⟨J,(zR.mp (g.st.same c u (zR.mpr ⟨λq=>J (G c q),x2⟩))).2⟩
    ·rw[if_neg hE]at k;exact k.elim
  ·rw[if_neg hb]at k;exact k.elim
def zDH(a:MI)(tg:MG)(body:MS):MS:=λE=>match a E with
 | .y x E1=>.y x E1
 |_=>(match sForI a tg body E with
  | .y _ _=>.z|o=>o)
def ps_forX(j:PI X tg iter wi)(c:∀x,foldedSetIterable iter X.env x=pure x):PS X (.For tg iter body [] pos) (λD O H=>wi O H λ_ _=>False):=by
 intro a s O H D I h;refine wpAny_For (thn (j a s O H _ I h) λv r k=>thn k λi n h2=>?_) c;obtain⟨q,l,o,J,H2,e,I2,T,g,p,f⟩:=h2;exact f.elim
end
def zBg:D->Lx (Ls Int)
 | .t a=>Jw a|_=>none
def YY:Ls D->Lx (Ls (Ls Int))
 | []=>some []
 |d::c=>match zBg d,YY c with
  |some a,some as=>some (a::as)|_,_=>none
def pyI(a:Ls Int):PyData:=.tuple (a.map PyData.int)
theorem GD:∀{c:Ls D} {a:Ls Int},Jw c=some a->pyDs c=some (a.map PyData.int)
 | [],a,e=>by cases e;rfl
 |d::c,a,e=>by
  cases d with
  |int i =>
   dsimp[Jw]at e;cases h:Jw c with
   |none=>rw[h]at e;cases e|some b=>rw[h]at e;cases e;dsimp[pyDs,pyD,GD h];rfl
  |_=>cases e
def Zt(e:zBg d=some a):pyD d=some (pyI a):=by
 cases d with
 |t c=>dsimp[pyD,GD (show Jw c=some a from e)];rfl|_=>cases e
theorem JR:∀{c:Ls D} {as:Ls (Ls Int)},YY c=some as->pyDs c=some (as.map pyI)
 | [],as,e=>by cases e;rfl
 |d::c,as,e=>by
  dsimp[YY]at e;cases h:zBg d with
  |none=>rw[h]at e;cases e
  |some a =>
   cases h2:YY c with
   |none=>rw[h,h2]at e;cases e|some bs=>rw[h,h2]at e;cases e;dsimp[pyDs,Zt h,JR h2];rfl
theorem YZ:∀a:Ls Int,PyData.canLayAll0 (a.map PyData.int)=true
 | []=>rfl|i::a=>by dsimp[map_cons,PyData.canLayAll0,PyData.canLay0,YZ a];rfl
theorem Yb:∀as:Ls (Ls Int),PyData.canLayAll0 (as.map pyI)=true
 | []=>rfl|a::as=>by dsimp[map_cons,PyData.canLayAll0,Yb as,pyI,PyData.canLay0,YZ a];rfl
theorem zAK:∀a:Ls Int,PyData.depthAll (a.map PyData.int)<=1
 | []=>by simp[PyData.depthAll]|i::a=>by have:=zAK a;dsimp[map_cons,PyData.depthAll,PyData.depth];omega
def QN(a:Ls Int):(pyI a).depth<=2:=by
 have:=zAK a;dsimp[pyI,PyData.depth];omega
theorem zAL:∀a b:Ls Int,PyData.eqvAll (a.map PyData.int) (b.map PyData.int)=decide (a=b)
 | [],[]=>rfl| [],_::_=>rfl|_::_,[]=>rfl
 |i::a,j::b=>by
  dsimp[map_cons,PyData.eqvAll,PyData.eqv,zAL a b,List.cons.injEq,Bool.decide_and];rfl
def QO(a b:Ls Int):PyData.eqv (pyI a) (pyI b)=decide (a=b):=by
 dsimp[pyI,PyData.eqv,zAL]
theorem QP(a:Ls Int):∀as:Ls (Ls Int),(as.map pyI).any (λy=>PyData.eqv y (pyI a))=as.contains a
 | []=>rfl
 |b::as=>by
  rw[map_cons,any_cons,QP a as,QO,List.contains_cons];congr 1;by_cases h:b=a
  ·subst h;simp
  ·have:¬a=b:=λe=>h e.symm
   simp[h,this]
def inT(neg:Bool)(d:D):D->Lx R
 | .l c=>match zBg d,YY c with
  |some a,some as=>some (.v (.bl (if neg then !as.contains a else as.contains a)))|_,_=>none
 |_=>none
def inG(neg:Bool)(d e:D):Lx R:=match inF neg d e with
 |some r=>some r|none=>inT neg d e
def rInT(K:qH)(e:Str->Lx Lv)(neg:Bool):R2:=λx y H Q=>∃d c a as,Rep K e H d x/\Rep K e H (.l c) y/\zBg d=some a/\YY c=some as/\Q (.bl (if neg then !as.contains a else as.contains a)) H
section
variable{X:Cx}{O:L2.St}{pins:Ls (Lz×Obj)}{H:Hp}{s:La}{K:qH}{mg:Str->Lx Lv}
def zG9(S:zBQ X.K)(p:X.A.units+20<cLine):OpR X (compareOp .In) (rInT X.K X.mg false):=by
 intro c s O H x y v u Q I j n h;obtain⟨d,r,a,as,l,g,k,i,q⟩:=h;obtain⟨bs,e,_⟩:=y8 I S l j (Zt k);obtain⟨t,o,_⟩:=y8 I S g n (x:=.list (as.map pyI)) (by dsimp[pyD,JR i];rfl);refine SeqAt.in_list_reads o e (Yb as) (by dsimp[pyI,PyData.canLay0,YZ]) (by have:=QN a;have:=Nat.min_le_right (PyData.depthAll (as.map pyI)) (pyI a).depth;omega) ⟨.bl _,H,I,rfl,?_⟩;rw[QP];exact q
def zDI(S:zBQ X.K)(p:X.A.units+20<cLine):OpR X (compareOp .NotIn) (rInT X.K X.mg true):=by
 intro c s O H x y v u Q I j n h;obtain⟨d,r,a,as,l,g,k,i,q⟩:=h;obtain⟨bs,e,_⟩:=y8 I S l j (Zt k);obtain⟨t,o,_⟩:=y8 I S g n (x:=.list (as.map pyI)) (by dsimp[pyD,JR i];rfl);refine SeqAt.notIn_list_reads o e (Yb as) (by dsimp[pyI,PyData.canLay0,YZ]) (by have:=QN a;have:=Nat.min_le_right (PyData.depthAll (as.map pyI)) (pyI a).depth;omega) ⟨.bl _,H,I,rfl,?_⟩;rw[QP];exact q
def zAM:ROk K mg (λx y H Q=>rIn K neg x y H Q\/rInT K mg neg x y H Q) (inG neg):=by
 intro M H Z x y c i res Q f p o e k;unfold inG at e;cases h:inF neg c i with
 |some r=>rw[h]at e;cases e;exact .inl (ro_in M H Z x y c i res Q f p o h k)
 |none =>
  rw[h]at e;cases i with
  |l n =>
   replace e:(match zBg c,YY n with
    |some a,some as=>some (R.v (.bl (if neg then !as.contains a else as.contains a)))|_,_=>none)=some res:=e
   cases g:zBg c with
   |none=>rw[g]at e;cases e
   |some a =>
    cases j:YY n with
    |none=>rw[g,j]at e;cases e
    |some as =>
     rw[g,j]at e;cases e;exact .inr ⟨c,n,a,as,p.mono zF,o.mono zF,g,j,k.flat f rfl⟩
  |_=>cases e
def idxT:D->D->Lx R
 | .l c,d=>match zBg d,YY c with
  |some a,some as=>(match as.findIdx? (·==a)with
   |some j=>if j<1000000 then some (.v (.int (j:Nat)))else none|none=>none)
  |_,_=>none
 |_,_=>none
def zHA(d e:D):Lx R:=match idxD d e with
 |some r=>some r|none=>idxT d e
def rIdxT(K:qH)(e:Str->Lx Lv)(x:V)(vs:Ls V)(H:Hp)(Q:VK):Prop:=∃y d c a as j,vs=[y]/\Rep K e H d y/\Rep K e H (.l c) x/\zBg d=some a/\YY c=some as/\as.findIdx? (·==a)=some j/\j<1000000/\Q (.int (j:Nat)) H
def zDJ(S:zBQ X.K)(hu:X.A.units+20<cLine):MtM X "list.index" (rIdxT X.K X.mg):=by
 intro B s O H x vs v us Q I R L h;obtain⟨y,d,ds,a,as,j,rfl,r1,Y,e1,M,hj,aa,q⟩:=h;obtain⟨u,rfl,ru⟩:=L.one;obtain⟨bs,V,_⟩:=y8 I S r1 ru (Zt e1);obtain⟨l,xs,rfl,W,rs⟩:=zu Y;cases R;obtain⟨c,r,p,_⟩:=I.list W;obtain⟨⟨c0,dd,dt,K⟩,n,e,E,C,G⟩:=p;dsimp at E C G;subst E C G;obtain⟨cs,J,_⟩:=readss_of I S rs r (JR M);have D:=SeqAt.readsAll_map _ _ _ (Yb as) J;have g:c.length=as.length:=by have:=congrArg length D;exists this
 have i:∀m (h:m<c.length) (z:m<as.length),SeqAt.readOf s.heap c[m]=pyI as[m]:=λm h z=>by
  have k:(c.map (SeqAt.readOf s.heap))[m]'(by exists h)=(as.map pyI)[m]'(by exists z):=by dsimp[D]
  exists k
 obtain⟨k,h2,Z⟩:=List.findIdx?_eq_some_iff_getElem.mp hj;refine call_meets PySem.F.slot_list_index ⟨_,e,rfl⟩ PySem.F.entry_list_index (PySem.F.args_list_index_2 _ _) (SeqAt.list_indexAt l _ n none K u (λy=>PyData.eqv (SeqAt.readOf s.heap y) (pyI a)) j (by simpa[g]using k) (by omega) ?_ ?_) ⟨e,SeqAt.items_eqAt (by exists J) V (Yb as) (by dsimp[pyI,PyData.canLay0,YZ]) (by have:=QN a;have:=Nat.min_le_right (PyData.depthAll (as.map pyI)) (pyI a).depth;omega),⟨.int _,H,I.tok _,⟨_,rfl⟩,q⟩⟩
 ·have:=i j (by omega) k
  show PyData.eqv (SeqAt.readOf s.heap c[j]) (pyI a)=true
  rw[this,QO];exists h2
 ·intro m t w
  have o:m<c.length:=by exists t
  have:=i m o (by omega);show PyData.eqv (SeqAt.readOf s.heap c[m]) (pyI a)=false;rw[this,QO];have:=Z m w;exists this
def MtM.or{id:String}{r r':V->Ls V->Hp->VK->Prop}(h:MtM X id r)(h':MtM X id r'):MtM X id (λx c H Q=>r x c H Q\/r' x c H Q):=by
 intro a s O H x c v i Q I g e q;rcases q with q|q
 ·exact h a s O H x c v i Q I g e q
 ·exact h' a s O H x c v i Q I g e q
def ro_idxG:ROk K mg (λx y H Q=>(∃l,x=.ref l/\∃(bs:Ls Bool) (k:Bool) (j:Nat),[y]=[.bl k]/\SqL K H l (bs.map V.bl)/\bs.findIdx? (·==k)=some j/\j<1000000/\Q (.int (j:Nat)) H)\/rIdxT K mg x [y] H Q) zHA:=by
 intro M H Z x y p c res Q f t q e k;unfold zHA at e;cases h:idxD p c with
 |some r=>rw[h]at e;cases e;exact .inl (ro_idx M H Z x y p c res Q f t q h k)
 |none =>
  rw[h]at e;cases p with
  |l o =>
   replace e:(match zBg c,YY o with
    |some a,some as=>(match as.findIdx? (·==a)with
     |some j=>if j<1000000 then some (R.v (.int (j:Nat)))else none|none=>none)
    |_,_=>none)=some res:=e
   cases g:zBg c with
   |none=>rw[g]at e;cases e
   |some a =>
    cases i:YY o with
    |none=>rw[g,i]at e;cases e
    |some as =>
     rw[g,i]at e;dsimp at e;cases n:as.findIdx? (·==a)with
     |none=>rw[n]at e;cases e
     |some j =>
      rw[n]at e;dsimp at e;split at e
      ·rename_i hl
       cases e;exact .inr ⟨y,c,o,a,as,j,rfl,q.mono zF,t.mono zF,g,i,n,hl,k.flat f rfl⟩
      ·cases e
  |_=>cases e
def ok_idxG{o e:Lb}{a b:ME}{g c:Pos}(S:zBQ X.K)(n:X.A.units+20<cLine)(q:EOk X o a)(p:EOk X e b)(j:attributeBase o "index" X.env (eval o X.env)=eval o X.env)(l:zW e=false)(i:(g.endLine==c.line)=true)
  (k:((backTo c (starEach (e::[]) X.env)).all (λx=>!x.1)&&(backToKw c (keywordEach [] X.env)).all (λx=>x.1.isSome)&&decide ((e::([]:Ls Lb)).length+([]:Ls Keyword).length+(if([]:Ls Keyword).isEmpty then 0 else 1)<30))=true) :
  EOk X (.Call (.Attribute o "index" g) [e] [] c) (zC3 zHA a b) :=
 zb (pe_bm PySem.F.plainAttrs_list PySem.F.slot_list_index PySem.F.type_list_index (MtM.or zFS (zDJ S n)) q (jL p YI (zM l)) j k i (zM l) rfl) λO H Q h=>zC4 ro_idxG h
end
end DV
namespace DV
open PySem L2 PyProof.Rows PySem.Calls
end DV
namespace DV
open PySem L2
end DV
namespace DV
open PySem PyProof.Rows
end DV
namespace DV
open PySem L2
end DV
namespace DV
open PySem PySem.SetTable
def zAN(l:Ls Nat):Prop:=l.Pairwise (·<·)
theorem vn(xs:Array Nat)(j:Nat)(o:zAN xs.toList):∀(c g hi:Nat),hi-g<=c->g<=hi->hi<=xs.size->(∀k (h:k<xs.size),k<g->xs[k]<j)->(∀k (h:k<xs.size),hi<=k->j<=xs[k]) ->
  below.go xs j c g hi<=xs.size/\(∀k (h:k<xs.size),k<below.go xs j c g hi->xs[k]<j)/\∀k (h:k<xs.size),below.go xs j c g hi<=k->j<=xs[k]
 |0,g,hi,y,h2,i,h4,h5=>by
  have e:g=hi:=by omega
  subst e;exact⟨i,h4,h5⟩
 |c+1,g,hi,y,h2,i,h4,h5=>by
  unfold below.go;have u:∀a b (v:a<xs.size) (t:b<xs.size),a<=b->xs[a]<=xs[b]:=λa b v t r=>by
   rcases Nat.lt_or_eq_of_le r with hl|w
   ·have:=List.pairwise_iff_getElem.mp o a b (by exists v) (by exists t) hl
    simp at this;omega
   ·subst w;exact le_refl _
  by_cases hl:g<hi
  ·rw[if_pos hl]
   have p:(g+hi)/2<xs.size:=by omega
   have x:xs.getD ((g+hi)/2) j=xs[(g+hi)/2]:=by simp[Array.getD,p]
   dsimp;rw[x];by_cases l:xs[(g+hi)/2]<j
   ·rw[if_pos l]
    exact vn xs j o c _ _ (by omega) (by omega) i (λk q z=>Nat.lt_of_le_of_lt (u k _ q p (by omega)) l) h5
   ·rw[if_neg l]
    exact vn xs j o c _ _ (by omega) (by omega) (by omega) h4 (λk q n=>le_trans (not_lt.mp l) (u _ k p q n))
  ·rw[if_neg hl]
   have e:g=hi:=by omega
   subst e;exact⟨i,h4,h5⟩
def zAO(xs:Array Nat)(j:Nat)(a:zAN xs.toList):below xs j<=xs.size/\(∀k (h:k<xs.size),k<below xs j->xs[k]<j)/\∀k (h:k<xs.size),below xs j<=k->j<=xs[k] :=
 vn xs j a xs.size 0 xs.size (by omega) (by omega) (le_refl _) (λk _ h=>by omega) (λk h c=>by omega)
def Yc{α:Type}(xs:Array α)(p:Nat)(x:α):(insertAt xs p x).toList=xs.toList.take p++x::xs.toList.drop p:=by
 unfold insertAt;simp[Array.toList_append,Array.toList_extract,List.extract_eq_drop_take,take_of_length_le]
def zAP(xs:Array Nat)(j:Nat)(l:zAN xs.toList)(q:j∉xs.toList):zAN (insertAt xs (below xs j) j).toList:=by
 obtain⟨t,h2,r⟩:=zAO xs j l;rw[Yc];unfold zAN at *;have k:∀a∈xs.toList.take (below xs j),a<j:=λa c=>by
  obtain⟨i,n,e⟩:=getElem_of_mem c;simp at n e;rw[<- e];exact h2 i (by omega) (by omega)
 have g:∀a∈xs.toList.drop (below xs j),j<a:=λa c=>by
  have p:a∈xs.toList:=List.mem_of_mem_drop c;obtain⟨i,n,e⟩:=getElem_of_mem c;simp at n e;have:=r (below xs j+i) (by omega) (by omega);rw[e]at this;rcases Nat.lt_or_eq_of_le this with h|h
  ·exact h
  ·exact absurd (h▸p) q
 rw[List.pairwise_append];refine⟨l.sublist (List.take_sublist _ _),?_,?_⟩
 ·rw[pairwise_cons]
  exact⟨g,l.sublist (List.drop_sublist _ _)⟩
 ·intro a c b o
  rcases mem_cons.mp o with rfl|o
  ·exact k a c
  ·exact lt_trans (k a c) (g b o)
def mem_ins{α:Type}(xs:Array α)(p:Nat)(x y:α):y∈(insertAt xs p x).toList↔y=x\/y∈xs.toList:=by
 rw[Yc]
 conv=>rhs;rw[<- take_append_drop p xs.toList]
 dsimp[mem_append,mem_cons];constructor
 ·rintro (h|h|h)
  ·exact .inr (.inl h)
  ·exact .inl h
  ·exact .inr (.inr h)
 ·rintro (h|h|h)
  ·exact .inr (.inl h)
  ·exact .inl h
  ·exact .inr (.inr h)
def zBS{t:SetTable}{j:Nat}(a:j∉t.place.toList)(hd:t.dummies=#[]):t.slot j=.empty:=by
 have c:(t.place[below t.place j]?==some j)=false:=by
  rw[Bool.eq_false_iff];intro h;exact a (by exists Array.mem_of_getElem? (eq_of_beq h))
 unfold slot;dsimp;rw[c,hd];rfl
def chk7(led:Bool)(bs:Ls Bool)(h:Nat):Bool :=
 let a:=(List.range 8).filter λi=>bs.getD i false
 decide (4<a.length)||match(⟨7,a.toArray,#[],0,led,0,true⟩:SetTable).freeSlot (h:Int)with
  |some (j,false)=>decide (j<=7)&&!a.contains j|_=>false
def all7:∀l e g j n a i k c:Bool,((List.range 16).all λh=>chk7 l [e,g,j,n,a,i,k,c] h)=true:=by left
def WQ(l:Ls Nat)(c:zAN l)(n:Nat)(g:∀j∈l,j<n):l=(List.range n).filter λi=>l.contains i:=by
 refine List.Perm.eq_of_pairwise (le:=(·<·)) (λa b _ _ e h2=>absurd (lt_trans e h2) (lt_irrefl _)) c (List.pairwise_lt_range.filter _) ?_;rw[List.perm_ext_iff_of_nodup (c.imp λh=>ne_of_lt h) (List.nodup_range.filter _)];intro a;dsimp[mem_filter,mem_range,contains_iff_mem];exact⟨λh=>⟨g a h,h⟩,λh=>h.2⟩
def free7{led:Bool}{a:Array Nat}(g:zAN a.toList)(l:∀j∈a.toList,j<8)(n:a.size<=4){h:Nat}(c:h<16) :
  ∃j,(⟨7,a,#[],0,led,0,true⟩:SetTable).freeSlot (h:Int)=some (j,false)/\j<8/\j∉a.toList:=by
 have e:=WQ a.toList g 8 l;have k:((List.range 8).filter λi=>[a.toList.contains 0,a.toList.contains 1,a.toList.contains 2,a.toList.contains 3,a.toList.contains 4,a.toList.contains 5,a.toList.contains 6,a.toList.contains 7].getD i false)=a.toList:=by
  conv=>rhs;rw[e]
  rfl
 have:=all7 led (a.toList.contains 0) (a.toList.contains 1) (a.toList.contains 2) (a.toList.contains 3) (a.toList.contains 4) (a.toList.contains 5) (a.toList.contains 6) (a.toList.contains 7);have:=all_eq_true.mp this h (by exists c);unfold chk7 at this;rw[k]at this;dsimp[Array.toArray_toList,Bool.or_eq_true,decide_eq_true_eq]at this;rcases this with h|h
 ·simp at h;omega
 ·split at h
  ·rename_i j hf
   simp at h
   exact⟨j,hf,by omega,by exists h.2⟩
  ·cases h
def own(a:Ls Nat)(j:Nat):Lx Nat:=if j∈a then some (a.idxOf j)else none
def zAQ{n:Nat}(h:n<32):bits (n:Int)=n:=by
 unfold bits;omega
def free31(a:Nat)(p:Nat)(hn:owner[n]?=some none):layClean.free 31 owner (a+1) n p=some n:=by
 have c:(List.range (runEnd 31 n+1-n)).find? (λk=>(owner.getD (n+k) (some 0)).isNone)=some 0:=by
  have e:∃m,runEnd 31 n+1-n=m+1:=⟨runEnd 31 n-n,by unfold runEnd;split<;>omega⟩;obtain⟨m,e⟩:=e;rw[e,List.range_succ_eq_map,find?_cons];have:(owner.getD (n+0) (some 0)).isNone=true:=by
   rw[Nat.add_zero,Array.getD_eq_getD_getElem?,hn];rfl
  rw[this]
 unfold layClean.free;rw[c];rfl
def zFh(g:Ls Nat):∀(done:Ls Nat) (a:Array (Lx Nat)),(done++g).Nodup->(∀n∈done++g,n<32)->a.size=32->(∀j,j<32->a[j]?=some (own done j)) ->
  ∃l,(g.map λn:Nat=>(n:Int)).foldl (init:=some (a,done.length)) (λq h=>do
   let (a,k) <- q
   let j <- layClean.free 31 a (SetTable.turns 31) (bits h%(31+1)) (bits h)
   pure (a.setIfInBounds j (some k),k+1))=some (l,(done++g).length)/\l.size=32/\∀j,j<32->l[j]?=some (own (done++g) j):=by
 induction g with
 |nil=>intro done a _ _ t h2;exact⟨a,by simp,t,by exists h2⟩
 |cons n g x =>
  intro done a w v t h2;have u:n<32:=v n (by simp);have o:n∉done:=λh=>(nodup_append.mp w).2.2 n h n (by simp) rfl
  have i:layClean.free 31 a (SetTable.turns 31) (bits (n:Int)%(31+1)) (bits (n:Int))=some n:=by
   rw[zAQ u,Nat.mod_eq_of_lt (by omega)];exact free31 45 n (by rw[h2 n u];unfold own;rw[if_neg o])
  have r:=x (done++[n]) (a.setIfInBounds n (some done.length)) (by exists w) (by exists v) (by exists t) (λj c=>by
   rw[Array.getElem?_setIfInBounds];by_cases e:n=j
   ·subst e
    rw[if_pos rfl,if_pos (by omega)];unfold own;rw[if_pos (by simp),List.idxOf_append,if_neg o];simp
   ·rw[if_neg e,h2 j c]
    unfold own;by_cases c:j∈done
    ·rw[if_pos c,if_pos (by simp[c]),List.idxOf_append,if_pos c]
    ·rw[if_neg c,if_neg (by simp[c];exact λh=>e h.symm)])
  obtain⟨l,p,z,y⟩:=r;refine⟨l,?_,z,?_⟩
  ·rw[map_cons,List.foldl_cons]
   show foldl _ (do let j <- layClean.free 31 a (SetTable.turns 31) (bits (n:Int)%(31+1)) (bits (n:Int));pure (a.setIfInBounds j (some done.length),done.length+1)) _=_
   rw[i];have e:(done++[n]).length=done.length+1:=by simp
   rw[e]at p;have B:(done++[n]++g).length=(done++n::g).length:=by simp
   rw[B]at p;exact p
  ·intro j c;have:=y j c;rw[append_assoc]at this;exact this
def fm_eq(p:Nat->Bool)(g:Nat->Nat)(f:Nat->Lx Nat)(l:Ls Nat):(∀j∈l,f j=if p j=true then some (g j)else none)->l.filterMap (λj=>(f j).map (j,·))=(l.filter p).map λj=>(j,g j):=by
 induction l with
 |nil=>exact λ_=>rfl
 |cons a l k =>
  intro h;have i:=k λj e=>h j (qD _ e)
  have c:=h a qE;rw[filterMap_cons,filter_cons,c];cases n:p a
  ·exists i
  ·dsimp[if_true,Option.map_some,map_cons];rw[i]
def laid31(a:Ls Nat)(p:a.Nodup)(l:∀n∈a,n<32)(f m:Nat)(led pn:Bool) :
  laid 31 f m led pn (a.map λn:Nat=>(n:Int)).toArray=some (⟨31,((List.range 32).filter λj=>a.contains j).toArray,#[],f,led,m,pn⟩,(((List.range 32).filter λj=>a.contains j).map λj=>a.idxOf j).toArray):=by
 obtain⟨o,g,q,h⟩:=zFh a [] (Array.replicate 32 none) (by exists p) (by exists l) (by simp) (λj e=>by simp[own,e]);have k:layClean 31 (a.map λn:Nat=>(n:Int)).toArray=some o:=by
  unfold layClean;rw[List.foldl_toArray];have:(31:Nat)+1=32:=rfl;have c:=g;dsimp[length_nil]at c;rw[c];rfl
 have i:((List.range (31+1)).filterMap λj=>(o.getD j none).map (j,·))=((List.range 32).filter λj=>a.contains j).map λj=>(j,a.idxOf j):=by
  refine fm_eq _ _ _ _ λj e=>?_
  rw[Array.getD_eq_getD_getElem?,h j (by exists e)];dsimp[nil_append,own,Option.getD_some,contains_iff_mem]
 unfold laid;rw[k];show some _=_;rw[i,map_map,map_map];congr 1;simp[Function.comp_def]
structure SetG(led:Bool)(es:Lf)(t:SetTable):Prop where
 ent:∀e∈es.toList,∃(n:Nat) (k:Tok),n<16/\e=((n:Int),.int (n:Int) k)
 nd:(es.toList.map (·.1)).Nodup
 sz:t.place.size=es.size
 rise:zAN t.place.toList
 tab:(t=⟨7,t.place,#[],0,led,0,true⟩/\es.size<=4/\∀j∈t.place.toList,j<8)\/(t=⟨31,t.place,#[],t.finger,led,t.moves,true⟩/\t.place.toList=es.toList.map λe=>e.1.toNat)
def zAR(l:Ls Nat):∀(a b:Nat),zAN l->(∀j∈l,a<=j/\j<b)->l.length<=b-a:=by
 induction l with
 |nil=>intro a b _ _;exact zero_le _
 |cons x l h =>
  intro a b c g;have i:=g x qE;have:=h (x+1) b c.tail λj e=>⟨(pairwise_cons.mp c).1 j e,(g j (qD _ e)).2⟩
  dsimp[length_cons];omega
def SetG.few{led:Bool}{es:Lf}{t:SetTable}(g:SetG led es t):es.size<=16:=by
 rcases g.tab with h|h
 ·omega
 ·have:t.place.toList.length<=16-0:=zAR _ _ _ g.rise λj a=>by
   rw[h.2]at a;obtain⟨e,c,rfl⟩:=mem_map.mp a;obtain⟨n,k,i,rfl⟩:=g.ent e c;simp;omega
  rw[Array.length_toList,g.sz]at this;omega
theorem SetG.fits{led:Bool}{es:Lf}{t:SetTable}(g:SetG led es t):t.fits es.size=true:=by
 have e:=g.few;have c:=g.sz;have a:t.fill<=t.mask:=by
  rcases g.tab with h|h
  ·rw[h.1];show t.place.size+0<=7;omega
  ·rw[h.1];show t.place.size+0<=31;omega
 simp[SetTable.fits,c,a]
def jf{α:Type}(xs:Array α)(p:Nat)(x:α):(insertAt xs p x).size=xs.size+1:=by
 rw[<- Array.length_toList,Yc];have:=congrArg length (take_append_drop p xs.toList);dsimp[length_append,length_cons,Array.length_toList]at this ⊢;omega
def zDK(a:Ls Nat)(e:a.Nodup):a.map (λj=>a.idxOf j)=List.range a.length:=by
 apply List.ext_getElem
 ·simp
 ·intro i c h2
  dsimp[List.getElem_map,List.getElem_range];exact e.idxOf_getElem i (by exists c)
def zFi(es:Lf)(c:Nat->Nat)(l:Ls Nat):(∀j∈l,∃e,es[c j]?=some e/\e.1.toNat=j)->((l.map c).filterMap (es[·]?)).map (λe=>e.1.toNat)=l:=by
 induction l with
 |nil=>exact λ_=>rfl
 |cons a l g =>
  intro h;obtain⟨e,n,k⟩:=h a qE;rw[map_cons,filterMap_cons,n];dsimp[map_cons];rw[g λj i=>h j (qD _ i),k]
def SetG.of_perm_ent{es a:Lf}(p:a.toList.Perm es.toList)(h:∀e∈es.toList,∃(n:Nat) (k:Tok),n<16/\e=((n:Int),.int (n:Int) k)):∀e∈a.toList,∃(n:Nat) (k:Tok),n<16/\e=((n:Int),.int (n:Int) k):=λe c=>h e (p.mem_iff.mp c)
def relay7{led:Bool}{es:Lf}{z:Array Nat}(Q:es.size=5)(c:∀e∈es.toList,∃(n:Nat) (k:Tok),n<16/\e=((n:Int),.int (n:Int) k))(q:(es.toList.map (·.1)).Nodup) :
  ∃r I,relayAll ⟨7,z,#[],0,led,0,true⟩ es (grown es.size)=(r,I,false)/\SetG led r I/\r.toList.Perm es.toList:=by
 have B:=relayAll_perm ⟨7,z,#[],0,led,0,true⟩ es (grown es.size);generalize i:es.toList.map (λe=>e.1.toNat)=hs;have hl:hs.length=es.size:=by rw[<- i];simp
 have g:es.map (·.1)=(hs.map λn:Nat=>(n:Int)).toArray:=by
  apply Array.toList_inj.mp;rw[Array.toList_map,<- i,map_map];refine map_congr_left λe E=>?_
  obtain⟨n,k,u,rfl⟩:=c e E;simp
 have D:hs.Nodup:=by
  have:(es.toList.map (·.1))=hs.map λn:Nat=>(n:Int):=by rw[<- Array.toList_map,g]
  rw[this]at q;exact List.Pairwise.imp (λh=>λe=>h (by rw[e])) (pairwise_map.mp q)
 have J:∀n∈hs,n<16:=λn u=>by
  rw[<- i]at u;obtain⟨e,E,rfl⟩:=mem_map.mp u;obtain⟨m,k,K,rfl⟩:=c e E;exists K
 generalize H:((List.range 32).filter λj=>hs.contains j)=p;have o:p.Perm hs:=by
  rw[<- H,List.perm_ext_iff_of_nodup (List.nodup_range.filter _) D];intro a;dsimp[mem_filter,mem_range,contains_iff_mem];exact⟨λh=>h.2,λh=>⟨by have:=J a h;omega,h⟩⟩
 have M:zAN p:=by rw[<- H];exact List.pairwise_lt_range.filter _
 have l:((p.map λj=>hs.idxOf j).filterMap (es[·]?)).map (λe=>e.1.toNat)=p:=zFi es _ p λj O=>by
  have G:j∈hs:=o.mem_iff.mp O;have x:hs.idxOf j<hs.length:=idxOf_lt_length_iff.mpr G;refine⟨es[hs.idxOf j]'(by omega),by rw[Array.getElem?_eq_getElem (by omega)],?_⟩;have L:hs[hs.idxOf j]=j:=List.getElem_idxOf x;have C:hs[hs.idxOf j]'x=(es.toList.map (λe=>e.1.toNat))[hs.idxOf j]'(by exists(by omega:hs.idxOf j<es.size)):=by dsimp[i]
  rw[L]at C;rw[List.getElem_map,Array.getElem_toList]at C;exact C.symm
 have t:(⟨7,z,#[],0,led,0,true⟩:SetTable).relaid (es.map (·.1)) (grown es.size)=some (⟨31,p.toArray,#[],0,led,1,true⟩,(p.map λj=>hs.idxOf j).toArray):=by
  unfold relaid;rw[Q,g];have:=laid31 hs D (λn u=>by have:=J n u;omega) 0 1 led true;rw[H]at this;exact this
 have w:coversAll (p.map λj=>hs.idxOf j).toArray es.size=true:=by
  unfold coversAll;rw[List.isPerm_iff];have:=o.map λj=>hs.idxOf j
  rw[zDK hs D,hl]at this;exact this
 have y:((p.map λj=>hs.idxOf j).toArray.filterMap (es[·]?)).size=p.length:=by
  rw[<- Array.length_toList,Array.toList_filterMap];have:=congrArg length l;exists this
 have v:(⟨31,p.toArray,#[],0,led,1,true⟩:SetTable).fits ((p.map λj=>hs.idxOf j).toArray.filterMap (es[·]?)).size=true:=by
  rw[y];have:p.length=5:=by rw[o.length_eq];omega
  simp[SetTable.fits,SetTable.fill,this]
 have e:relayAll ⟨7,z,#[],0,led,0,true⟩ es (grown es.size)=((p.map λj=>hs.idxOf j).toArray.filterMap (es[·]?),⟨31,p.toArray,#[],0,led,1,true⟩,false):=by
  unfold relayAll;rw[t];dsimp;rw[if_pos (by rw[w,v];rfl)]
 rw[e]at B;refine⟨_,_,e,⟨SetG.of_perm_ent B c,((B.map _).nodup_iff).mpr q,y.symm▸by simp,M,.inr ⟨rfl,?_⟩⟩,B⟩;rw[Array.toList_filterMap];exact l.symm
def SetG.add{led:Bool}{es:Lf}{t:SetTable}(g:SetG led es t){n:Nat}(hn:n<16)(k:Tok)(v:∀e∈es.toList,e.1≠(n:Int)) :
  ∃l y,layNew t es (n:Int) (.int (n:Int) k)=(l,y,false,false)/\y.plain=true/\y.fits l.size=true/\l.toList.Perm (es.toList++[((n:Int),.int (n:Int) k)]) /\
   ((y.tooFull=false/\SetG led l y)\/(y.tooFull=true/\∃z W,relayAll y l (grown l.size)=(z,W,false)/\SetG led z W/\z.toList.Perm l.toList)):=by
 have c:=layNew_perm t es (n:Int) (.int (n:Int) k);rw[Array.toList_push]at c;have w:∀e∈es.toList++[((n:Int),Value.int (n:Int) k)],∃(n:Nat) (k:Tok),n<16/\e=((n:Int),.int (n:Int) k):=λe r=>by
  rcases mem_append.mp r with r|r
  ·exact g.ent e r
  ·rw[mem_singleton]at r;exact⟨n,k,hn,r⟩
 have D:((es.toList++[((n:Int),Value.int (n:Int) k)]).map (·.1)).Nodup:=by
  rw[map_append,nodup_append];refine⟨g.nd,by simp,λa ha b L=>?_⟩;simp at L;subst L;obtain⟨e,r,rfl⟩:=mem_map.mp ha;exact v e r
 have o:∀j,t.freeSlot (n:Int)=some (j,false)->t.dummies=#[]->t.fill<t.mask->layNew t es (n:Int) (.int (n:Int) k)=(insertAt es (below t.place j) ((n:Int),.int (n:Int) k),{t with place:=insertAt t.place (below t.place j) j},false,false)/\({t with place:=insertAt t.place (below t.place j) j}:SetTable).fits (insertAt es (below t.place j) ((n:Int),Value.int (n:Int) k)).size=true:=by
  intro j hf G R;have H:t.put j=({t with place:=insertAt t.place (below t.place j) j},below t.place j):=by
   unfold put;have:has t.dummies j=false:=by rw[G];rfl
   rw[this];rfl
  have q:({t with place:=insertAt t.place (below t.place j) j}:SetTable).fits (insertAt es (below t.place j) ((n:Int),Value.int (n:Int) k)).size=true:=by
   dsimp[SetTable.fits,Bool.and_eq_true,beq_iff_eq,decide_eq_true_eq];rw[jf,jf];refine⟨by rw[g.sz],?_⟩;show(insertAt t.place (below t.place j) j).size+t.dummies.size<=t.mask;rw[jf];unfold fill at R;omega
  refine⟨?_,q⟩;unfold layNew;rw[hf];dsimp;rw[H];dsimp;unfold SetTable.orStandIn;rw[if_pos q,q];rfl
 rcases g.tab with⟨ht,h4,S⟩|⟨ht,C⟩
 ·obtain⟨j,hf,O,K⟩:=free7 (led:=led) g.rise S (by rw[g.sz];exact h4) hn
  rw[<- ht]at hf;have B:=g.sz;obtain⟨x,M⟩:=o j hf (by rw[ht]) (by rw[ht];show t.place.size+0<7;omega);rw[x]at c;have V:({t with place:=insertAt t.place (below t.place j) j}:SetTable)=⟨7,insertAt t.place (below t.place j) j,#[],0,led,0,true⟩:=by rw[ht]
  have p:=SetG.of_perm_ent (es:=(es.toList++[((n:Int),Value.int (n:Int) k)]).toArray) (by exists c) (by exists w);have u:=((c.map (·.1)).nodup_iff).mpr D;refine⟨_,_,x,by rw[V],M,c,?_⟩;rw[V];have aa:(insertAt es (below t.place j) ((n:Int),Value.int (n:Int) k)).size=es.size+1:=jf ..;have I:(insertAt t.place (below t.place j) j).size=es.size+1:=by rw[jf,B]
  by_cases Y:es.size=4
  ·refine .inr ⟨?_,relay7 (by omega) p u⟩
   simp[tooFull,fill,I,Y]
  ·refine .inl ⟨?_,p,u,by show(insertAt t.place (below t.place j) j).size=_;omega,zAP _ _ g.rise K,.inl ⟨rfl,by omega,λi Q=>?_⟩⟩
   ·simp[tooFull,fill,I];omega
   ·rcases(mem_ins _ _ _ _).mp Q with rfl|Q
    ·exact O
    ·exact S i Q
 ·have K:n∉t.place.toList:=λh=>by
   rw[C]at h;obtain⟨e,r,x⟩:=mem_map.mp h;obtain⟨m,k',J,rfl⟩:=g.ent e r;refine v _ r ?_;simp at x;simp[x]
  have L:bits (n:Int)=n:=zAQ (by omega);have J:t.mask=31:=by rw[ht]
  have G:t.dummies=#[]:=by rw[ht]
  have hf:t.freeSlot (n:Int)=some (n,false):=by
   unfold freeSlot probe;have Z:(t.probeStart (n:Int)).j=n:=by unfold probeStart;rw[L,J];show n%32=n;omega
   have h2:(t.probeStart (n:Int)).dummy=none:=rfl;have e:10*SetTable.turns t.mask=459+1:=by rw[J];rfl
   rw[e];unfold probe.go;rw[Z,zBS K G,h2];rfl
  have B:=g.sz;have X:=g.few;obtain⟨x,M⟩:=o n hf G (by rw[ht];show t.place.size+0<31;omega);rw[x]at c;have p:=SetG.of_perm_ent (es:=(es.toList++[((n:Int),Value.int (n:Int) k)]).toArray) (by exists c) (by exists w);have u:=((c.map (·.1)).nodup_iff).mpr D;have G1:SetG led (insertAt es (below t.place n) ((n:Int),Value.int (n:Int) k)) {t with place:=insertAt t.place (below t.place n) n}:=by
   refine⟨p,u,by show(insertAt t.place (below t.place n) n).size=_;rw[jf,jf,B],zAP _ _ g.rise K,.inr ⟨by rw[ht],?_⟩⟩;show(insertAt t.place (below t.place n) n).toList=_;rw[Yc,Yc,C,map_append,map_cons,List.map_take,List.map_drop];simp
  refine⟨_,_,x,by rw[ht],M,c,.inl ⟨?_,G1⟩⟩;have E:=G1.few;rw[jf]at E;dsimp[tooFull,fill,J,G];rw[jf];simp;omega
end DV
namespace PySem
open Sem (wp)
open DV
def yT(w:Le):Bool:=w.params.followText "set-order"
def wy(es:Lf)(ep:Nat)(t:SetTable):Obj:={cls:=.type "set",dict:=none,data:=.set es ep t,slots:=#[]}
section
variable{prog:Lc}{w:Le}{A:Lg}{E:Ly}{s:La}
def Yd:∀n:Nat,n<16->hashInt (n:Int)=(n:Int):=by left
def SetG.elems(g:SetG led es t):ElemsOf (intKind prog w) es.toList:=λe c=>by
 obtain⟨n,k,a,rfl⟩:=g.ent e c;exact⟨⟨(n:Int),intKind_is _ _ _ _,(Yd n a).symm⟩,rfl⟩
def zDL{a:Lz}{es:Lf}{ep:Nat}{t:SetTable}{led:Bool}{n:Nat}{k:Tok}{Q:Bool->La->Prop}(H:s.heap.get? a=some (wy es ep t))(g:SetG led es t)(hn:n<16)
  (h:∀(b:Bool) J y R t',Heap.SameBut a s.heap J->J.get? a=some (wy y R t')->SetG led y t'->(∀m:Int,(∃e∈y.toList,e.1=m)↔(∃e∈es.toList,e.1=m)\/m=n)->Q b {s with heap:=J}) :
  wpAny (model prog w) A (setAddHashed a (.int (n:Int) k) (hashInt (n:Int))) Q E s:=by
 have I:(wy es ep t).data=.set es ep t:=rfl;have hf:=g.fits;have aa:=g.few;have hb:es.size<scanBound:=by unfold scanBound;omega
 have D:ElemsOf (intKind prog w) es.toList:=SetG.elems g;unfold setAddHashed setAddHashedIn;refine wpAny_holding (qB (wpAny_setState_of H I hf ?_));dsimp;rw[byScan_of (knd:=intKind prog w) rfl hb D];dsimp[↓reduceIte];unfold setAddByScan;refine qB ?_;refine qB (wpAny_rule ?_);refine qB (wpAny_setScan_of (knd:=intKind prog w) (k:=(n:Int)) (intKind_is _ _ _ _) H I hf D ?_);cases V:List.findIdx? (λe:Int×Lv=>(intKind prog w).is (n:Int) e.2) es.toList with
 |some j =>
  dsimp;obtain⟨W,G,_⟩:=List.findIdx?_eq_some_iff_getElem.mp V;refine qC (qC ?_);have e:s={s with heap:=s.heap}:=by cases s;rfl
  have:=h false s.heap es ep t (Heap.SameBut.refl a s.heap) H g λm=>⟨.inl,λx=>x.elim id λe=>by
   obtain⟨S,k',O,e'⟩:=g.ent _ (getElem_mem W);refine⟨es.toList[j],getElem_mem W,?_⟩;rw[e']at G ⊢;have:(S:Int)=(n:Int):=by simpa[intKind,Value.isInt]using G
   rw[e,this]⟩
  rw[e];exact this
 |none =>
  dsimp;have C:∀e∈es.toList,e.1≠(n:Int):=λe p Z=>by
   have:=List.findIdx?_eq_none_iff.mp V e p;obtain⟨S,k',O,rfl⟩:=g.ent e p;simp only at Z;rw[Z,intKind_is]at this;cases this
  obtain⟨c,u,e1,L,ab,i,cs⟩:=g.add hn k C;rw[Yd n hn,e1];dsimp;have X:c.size=es.size+1:=by rw[<- Array.length_toList,i.length_eq,length_append,Array.length_toList];rfl
  have o:∀m:Int,(∃e∈c.toList,e.1=m)↔(∃e∈es.toList,e.1=m)\/m=n:=λm=>by
   constructor
   ·rintro ⟨e,p,rfl⟩
    rcases mem_append.mp (i.mem_iff.mp p)with h|h
    ·exact .inl ⟨e,h,rfl⟩
    ·rw[mem_singleton]at h;subst h;exact .inr rfl
   ·rintro (⟨e,p,rfl⟩|rfl)
    ·exact⟨e,i.mem_iff.mpr (mem_append_left _ p),rfl⟩
    ·exact⟨_,i.mem_iff.mpr (qK _ (mem_singleton.mpr rfl)),rfl⟩
  refine qB (qC ?_);rw[L];dsimp[if_true];refine qB (m:=hashByValue 8 (.int (n:Int) k)) ?_;rw[hashByValue_scannable 8 rfl];refine qC ?_;dsimp[plainKind,if_true];refine qB (wpAny_storeSet_of H I ?_ (by rw[sizeLine_eq];omega));have v:(s.heap.update a (Obj.putSet c u)).get? a=some (wy c (ep+1) u):=by
   have:=get?_update_self (Obj.putSet c u) H (by rw[putSet_of c u I];rfl);rw[putSet_of c u I]at this;exact this
  have r:=Heap.SameBut.update s.heap a (Obj.putSet c u);rcases cs with⟨z,G1⟩|⟨z,l,B,e2,G2,K⟩
  ·rw[z]
   dsimp[Bool.and_false,Bool.false_eq_true,if_false];exact qC (qC (h true _ c (ep+1) u r v G1 o))
  ·rw[z]
   dsimp[Bool.not_false,Bool.and_self,if_true];rw[e2];dsimp;have Y:l.size=c.size:=by rw[<- Array.length_toList,K.length_eq,Array.length_toList]
   refine qB (qC (qB (wpAny_storeSet_of v rfl ?_ (by rw[sizeLine_eq];omega))));have M:((s.heap.update a (Obj.putSet c u)).update a (Obj.putSet l B)).get? a=some (wy l (ep+1+1) B):=by
    have:=get?_update_self (Obj.putSet l B) v (by rw[putSet_of l B rfl];rfl);rw[putSet_of l B rfl]at this;exact this
   refine qC (qC (h true _ l (ep+1+1) B (r.trans (Heap.SameBut.update _ a _)) M G2 λm=>?_));rw[<- o m];exact⟨λ⟨e,p,q⟩=>⟨e,K.mem_iff.mp p,q⟩,λ⟨e,p,q⟩=>⟨e,K.mem_iff.mpr p,q⟩⟩
def zAS(led:Bool):SetG led #[] (.fresh 0 0 led):=⟨λe h=>by simp at h,by simp,rfl,.nil,.inl ⟨rfl,by simp,λj h=>by simp[SetTable.fresh]at h⟩⟩
end
end PySem
namespace PySem
open Sem (wp)
open DV PyProof.Rows
section
variable{prog:Lc}{w:Le}{A:Lg}{R:Result->La->Prop}{I:Lz}{fp wr:Ls Lz}{G:Array GenState->Array GenState->Prop}{n:Nat}{P:Nat->Lv->Prop}{St:Nat->La->Prop}
def Ji(W:WalksS prog w A.in1 I fp wr G n P St)(S:Lz)(H:S∉fp)(led:Bool)
  (val:Nat->Nat) (M:∀i v,P i v->i<n->val i<16/\∃t,v=.int (val i:Int) t) :
  ∀(k i:Nat) (s:La) (x:Lf) (Q:Nat) (t:SetTable),n-i=k->i<=n->St i s ->
   s.heap.get? S=some (wy x Q t)->SetG led x t->(∀m:Int,(∃e∈x.toList,e.1=m)↔∃j,j<i/\m=val j) ->
   (∀l c u O,Moved (S::wr) G s l->l.heap.get? S=some (wy c u O)->SetG led c O->(∀m:Int,(∃e∈c.toList,e.1=m)↔∃j,j<n/\m=val j)->R (.ok (.ret .none)) l) ->
   codeAny (model prog w) A (.builtin "set.update.loop" ⟨[.ref S,.ref I],[]⟩) R s:=by
 have B:S∉wr:=λh=>H (W.sub _ h)
 have p:∀b∈wr,b∈S::wr:=λb L=>qD _ L
 intro k
 induction k with
 |zero =>
  intro i s x Q t hk hi q hS g hm Y;have ae:i=n:=by omega
  subst ae;refine codeAny_builtin PyProof.Rows.F.entry_set_update_loop ?_;rw[Around.under_plainId PyProof.Rows.F.plain_set_update_loop _];show wpAny _ A.in1 (pyNext (.ref I) >>= _) _ _ s;refine qB (W.done s _ _ q λl a=>?_);show wpAny _ A.in1 (ret Value.none) _ _ l;exact qC (Y l x Q t (a.mono p) (a.heap S _ B hS) g hm)
 |succ k ih =>
  intro i s x Q tb hk hi q hS g hm Y;have r:i<n:=by omega
  refine codeAny_builtin PyProof.Rows.F.entry_set_update_loop ?_;rw[Around.under_plainId PyProof.Rows.F.plain_set_update_loop _];show wpAny _ A.in1 (pyNext (.ref I) >>= _) _ _ s;refine qB (W.item i s _ _ r q λv l hP J a=>?_);obtain⟨ab,t,rfl⟩:=M i v hP r;have aa:=a.heap S _ B hS;show wpAny _ A.in1 (holding [Value.int (val i:Int) t] (setAdd S (.int (val i:Int) t)) >>= _) _ _ l;refine qB (wpAny_holding ?_);unfold setAdd;refine wpAny_holding ?_;refine qB ((intKind prog w).pyHash (k:=(val i:Int)) (intKind_is _ _ _ _) ?_);refine zDL (s:={l with toks:=l.toks+1}) aa g ab λb h' c u O D X g2 ad=>?_
  refine qC ⟨plainId_quiet PyProof.Rows.F.plain_set_update_loop _,ih (i+1) _ c u O (by omega) r (W.frame _ l _ _ J (le_succ _) λb L o e=>?_) X g2 (λm=>?_) λac z E af C y Z K=>?_⟩
  ·rw[D.2 b (λh:b=S=>H (by rw[<- h];exact L))];exact e
  ·rw[ad m,hm m]
   constructor
   ·rintro (⟨j,hj,e⟩|e)
    ·exact⟨j,by omega,e⟩
    ·exact⟨i,by omega,e⟩
   ·rintro ⟨j,hj,e⟩
    by_cases V:j=i
    ·subst V;exact .inr e
    ·exact .inl ⟨j,by omega,e⟩
  ·refine Y ac z E af (Moved.trans W.gtrans ((a.mono p).then_heap (le_succ _) λb o L e=>?_) C) y Z K
   rw[D.2 b (λh:b=S=>L (by rw[h];exact qE))];exact e
end
section
variable{prog:Lc}{w:Le}{A:Lg}{E:Ly}{s:La}
def zBT(a:Lv){Q₁:Ly}
  (h:Q₁ (.ref s.heap.objs.size) {s with heap:=s.heap.push (wy #[] 0 (.fresh 0 0 (!yT w)))}) :
  codeAny (model prog w) A (.call (.builtin "set.__new__") ⟨[.type "set",a],[]⟩) (wants Q₁ E) s:=by
 refine codeAny_of_tree ?_;show wpAny _ A.in1 (do checkBuiltinCall "set.__new__" ⟨[.type "set",a],[]⟩;again (.builtin "set.__new__" ⟨[.type "set",a],[]⟩)) _ _ s;refine qB (wpAny_of_eq (F.newCall_set_1 a) (qC ⟨plainId_quiet F.plain_set_new _,codeAny_builtin F.entry_set_new ?_⟩));rw[Around.under_plainId F.plain_set_new _];unfold Builtin.«set.__new__» Builtin.Frozenset.newClass;have c:=sub_set_self;obtain⟨i,g,d,e,j⟩:=s;dsimp
 wp_walk
 refine wpAny_askSetting (qC ?_);dsimp;dsimp[newObj];refine qB (wpAny_alloc (qC ?_));exact qC h
def QR{val:Nat->Nat}{Q:Ly} 
  (hh:A.handled=none) (hT:T="list"\/T="tuple") (Z:s.heap.get? l=some {cls:=.type T,dict:=od,data:=.seq items nl,slots:=osl})
  (L:∀i v,items[i]?=some v->val i<16/\∃t,v=.int (val i:Int) t)
  (h:∀(u:Heap) (S:Nat) x O t,u.get? s.heap.objs.size=some (wy x O t)->SetG (!yT w) x t->(∀m:Int,(∃e∈x.toList,e.1=m)↔∃j,j<items.size/\m=val j) ->
   (∀b o,b<s.heap.objs.size->s.heap.get? b=some o->u.get? b=some o)->Q (.ref s.heap.objs.size) {s with heap:=u,toks:=S}) :
  wpAny (model prog w) A (call (.type "set") [.ref l]) Q E s:=by
 obtain⟨c,tl,ak⟩:=F.called_set.mro;have aj:=F.called_set.made;have am:=F.called_set.sub;refine wpAny_call (codeAny_of_tree ?_);show wpAny _ _ (callAny (.type "set") _) _ _ _;refine qC ⟨Code.quiet_builtin _ (by left),codeAny_builtin F.entry_type_call ?_⟩;rw[Around.under_plain (weight_type_call_type "set" [.ref l] []) rfl];have h1:=F.called_set.notType;have h2:=F.called_set.canCreate;have au:=F.typeCall_set_1 (.ref l)
 repeat (any_goals (first|assumption|wp_step))
 refine codeAny_mono (zBT (.ref l) (E:=E) (Q₁:=λaa K=>aa=.ref s.heap.objs.size/\K={s with heap:=s.heap.push (wy #[] 0 (.fresh 0 0 (!yT w)))}) ⟨rfl,rfl⟩) λr K hr=>?_
 cases r with
 |error e=>exact hr
 |ok fl =>
  cases fl with
  |ret aa =>
   obtain⟨rfl,rfl⟩:=hr;have hS:(s.heap.push (wy #[] 0 (.fresh 0 0 (!yT w)))).get? s.heap.objs.size=some (wy #[] 0 (.fresh 0 0 (!yT w))):=get?_push_size _ rfl;have V:Shared.TypeIs {s with heap:=s.heap.push (wy #[] 0 (.fresh 0 0 (!yT w)))} (.ref s.heap.objs.size) "set":=⟨_,hS,rfl⟩
   have ar:=F.called_set.init.lookup;have aq:=F.called_set.init.bind (.ref s.heap.objs.size)
   repeat (any_goals (first|assumption|wp_step))
   refine codeAny_mono (codeAny_call_builtin (R:=wants (λr G=>r=.none/\∃u S x O t,G={s with heap:=u,toks:=S} /\
     u.get? s.heap.objs.size=some (wy x O t)/\SetG (!yT w) x t/\(∀m:Int,(∃e∈x.toList,e.1=m)↔∃j,j<items.size/\m=val j) /\
     (∀b o,b<s.heap.objs.size->s.heap.get? b=some o->u.get? b=some o)) E) F.called_set.init.plain F.entry_set_init (check_set_init_1 V ?_)) λr₂ G p=>?_
   ·have B:(s.heap.push (wy #[] 0 (.fresh 0 0 (!yT w)))).get? l=some {cls:=.type T,dict:=od,data:=.seq items nl,slots:=osl}:=qA _ Z
    have an:isSubtype (.type T) (.type "set")=pure false:=by rcases hT with rfl|rfl;exact F.sub_list_set;exact F.sub_tuple_set
    have ao:isSubtype (.type T) (.type "frozenset")=pure false:=by rcases hT with rfl|rfl;exact F.sub_list_frozenset;exact F.sub_tuple_frozenset
    have ap:(Value.type T==Value.type "dict")=false:=by rcases hT with rfl|rfl<;>decide
    have W:(s.heap.push {cls:=.type "set",dict:=none,data:=.set #[] 0 (.fresh 0 0 (!yT w)),slots:=#[]}).get? s.heap.objs.size=some {cls:=.type "set",dict:=none,data:=.set #[] 0 (.fresh 0 0 (!yT w)),slots:=#[]}:=hS;unfold wy at B V ⊢;unfold Builtin.«set.__init__» noKeywords Builtin.Frozenset.updateFrom;generalize ae:pyIter=PI
    wp_walk
    subst ae;have Y:l<s.heap.objs.size:=lt_size Z;have X:A.in1.in1.in1.handled=none:=by simp[hh]
    have J:l≠(s.heap.push (wy #[] 0 (.fresh 0 0 (!yT w)))).objs.size:=by
     rw[size_push];exact ne_of_lt (lt_succ_of_lt Y)
    have ab:s.heap.objs.size∉[(s.heap.push (wy #[] 0 (.fresh 0 0 (!yT w)))).objs.size,l]:=by
     rw[size_push];dsimp[mem_cons,mem_singleton,List.not_mem_nil,or_false,not_or];exact⟨ne_of_lt (Nat.lt_succ_self _),ne_of_gt Y⟩
    have fin:∀(D:La) g q I (ci:Obj),Moved (s.heap.objs.size::[(s.heap.push (wy #[] 0 (.fresh 0 0 (!yT w)))).objs.size]) (λa b=>b=a) {s with heap:=(s.heap.push (wy #[] 0 (.fresh 0 0 (!yT w)))).push ci} D->D.heap.get? s.heap.objs.size=some (wy g q I)->SetG (!yT w) g I->(∀m:Int,(∃e∈g.toList,e.1=m)↔∃j,j<items.size/\m=val j) ->
      ∃u S x O t,D={s with heap:=u,toks:=S}/\u.get? s.heap.objs.size=some (wy x O t)/\SetG (!yT w) x t/\(∀m:Int,(∃e∈x.toList,e.1=m)↔∃j,j<items.size/\m=val j)/\(∀b o,b<s.heap.objs.size->s.heap.get? b=some o->u.get? b=some o):=by
     intro D g q I ci H k y n;obtain⟨u,g',d',ad,ai⟩:=D;have eg:g'=s.gens:=H.gens;have ed:d'=s.drawn:=H.drawn;have eo:ai=s.os:=H.os;subst eg;subst ed;subst eo;refine⟨u,ad,g,q,I,rfl,k,y,n,λb o hb e=>?_⟩;have af:b≠s.heap.objs.size:=ne_of_lt hb;have ac:b≠(s.heap.push (wy #[] 0 (.fresh 0 0 (!yT w)))).objs.size:=by
      rw[size_push];exact ne_of_lt (lt_succ_of_lt hb)
     exact H.heap b o (by dsimp[mem_cons,mem_singleton,List.not_mem_nil,or_false,not_or];exact⟨af,ac⟩) (qA _ (qA _ e))
    have z:∀m:Int,(∃e∈(#[]:Lf).toList,e.1=m)↔∃j,j<0/\m=val j:=λm=>⟨λ⟨e,he,_⟩=>by simp at he,λ⟨j,hj,_⟩=>by omega⟩
    rcases hT with rfl|rfl
    ·have C:(s.heap.push (wy #[] 0 (.fresh 0 0 (!yT w)))).IsList l items:=⟨_,B,rfl,nl,rfl⟩
     refine wpAny_pyIter_list C ?_;refine qB (wpAny_runValue ?_);refine Ji ((Walks.list X _ l J items).toS) s.heap.objs.size ab (!yT w) val (λi v hv _=>L i v hv) (items.size-0) 0 _ #[] 0 _ (by omega) (zero_le _)
      ⟨⟨_,get?_push_size _ rfl,rfl,rfl⟩,(C.push _)⟩ (qA _ hS) (zAS _) z λD g q I H k y n=>?_
     show wpAny _ _ _ _ _ _
     refine qC ?_;show wpAny _ _ (ret Value.none) _ _ _;exact qC ⟨rfl,fin D g q I _ H k y n⟩
    ·have C:(s.heap.push (wy #[] 0 (.fresh 0 0 (!yT w)))).IsTuple l items:=⟨_,B,rfl,nl,rfl⟩
     refine wpAny_pyIter_tuple C ?_;refine qB (wpAny_runValue ?_);refine Ji ((Walks.tuple X _ l J items).toS) s.heap.objs.size ab (!yT w) val (λi v hv _=>L i v hv) (items.size-0) 0 _ #[] 0 _ (by omega) (zero_le _)
      ⟨⟨_,get?_push_size _ rfl,rfl,rfl⟩,(C.push _)⟩ (qA _ hS) (zAS _) z λD g q I H k y n=>?_
     show wpAny _ _ _ _ _ _
     refine qC ?_;show wpAny _ _ (ret Value.none) _ _ _;exact qC ⟨rfl,fin D g q I _ H k y n⟩
   ·cases r₂ with
    |error e=>exact p
    |ok M =>
     cases M with
     |ret r =>
      obtain⟨rfl,u,S,x,O,t,rfl,W,g',ah,ag⟩:=p
      repeat (any_goals (first|assumption|wp_step))
      exact h _ _ x O t W g' ah ag
     |_=>exact p.elim
  |_=>exact hr.elim
end
end PySem
namespace PySem
namespace F
def Jj:Manifest.owners.lookup (String.ofList ['r','o','t','a','r','e','t','i','_','t','e','s'].reverse)=some Manifest.sig_set_iterator:=by kernel_rfl
def dv_entry_set_iter:entryFor table "set.__iter__"=some Builtin.«frozenset.__iter__»:=entryFor_alias (id':="frozenset.__iter__") (by kernel_rfl) rfl (by left) (by kernel_rfl)
def dv_slot_setit_next:Slot "set_iterator" "__next__" "set_iterator.__next__" :=
 .of (owner:="set_iterator") (n:="__next__") (by rw[typeLookup_type,builtinLookup_eq_fast];kernel_rfl) (by left) (by left) (by left)
  (by first|exact .inl (by left)|exact .inr (by left)) (by rw[isSubtype_type];kernel_rfl)
def dv_entry_setit_next:entryFor table "set_iterator.__next__"=some Builtin.«set_iterator.__next__»:=entryFor_of_tree (by kernel_rfl)
def dv_args_setit_next(a:Lv):argsOk "set_iterator.__next__" ⟨[a],[]⟩:=by
 unfold argsOk;rw[signature?_of (id:="set_iterator.__next__") (n:=['_','_','t','x','e','n','_','_']) (o:=['r','o','t','a','r','e','t','i','_','t','e','s']) (by kernel_rfl) Jj];kernel_rfl
def dv_slot_setit_iter:Slot "set_iterator" "__iter__" "set_iterator.__iter__" :=
 .of (owner:="set_iterator") (n:="__iter__") (by rw[typeLookup_type,builtinLookup_eq_fast];kernel_rfl) (by left) (by left) (by left)
  (by first|exact .inl (by left)|exact .inr (by left)) (by rw[isSubtype_type];kernel_rfl)
def dv_entry_setit_iter:entryFor table "set_iterator.__iter__"=some Builtin.«dict_keyiterator.__iter__» :=
 entryFor_alias (id':="dict_keyiterator.__iter__") (by kernel_rfl) (by first|rfl|left|(unfold String.splitOn;simp +decide [String.splitOnAux])) (by left) (by kernel_rfl)
def dv_args_setit_iter(a:Lv):argsOk "set_iterator.__iter__" ⟨[a],[]⟩:=by
 unfold argsOk;rw[signature?_of (id:="set_iterator.__iter__") (n:=['_','_','r','e','t','i','_','_']) (o:=['r','o','t','a','r','e','t','i','_','t','e','s']) (by kernel_rfl) Jj];kernel_rfl
end F
open Sem (wp)
open DV PyProof.Rows
theorem zDM{α:Type}(next:Nat->Nat):∀(a k:Nat) (left:Ls α) (c:Array α),left.length=a->(pickOrder.go next a k left c).toList.Perm (c.toList++left)
 |0,k,left,c,h=>by
  cases left with
  |nil=>unfold pickOrder.go;simp|cons _ _=>cases h
 |a+1,k,left,c,h=>by
  unfold pickOrder.go;have e:next k%left.length<left.length:=Nat.mod_lt _ (by omega);rw[getElem?_eq_getElem e];dsimp;refine(zDM next a (k+1) _ _ (by rw[List.length_eraseIdx_of_lt e];omega)).trans ?_;rw[Array.toList_push,append_assoc];have:left.Perm (left[next k%left.length]::left.eraseIdx (next k%left.length)):=by
   rw[List.eraseIdx_eq_take_drop_succ]
   conv=>lhs;rw[<- take_append_drop (next k%left.length) left,drop_eq_getElem_cons e]
   exact perm_middle
  exact(this.symm).append_left _
def zDN{α:Type}(next:Nat->Nat)(xs:Array α):(pickOrder next xs).toList.Perm xs.toList:=by
 have:=zDM next xs.size 0 xs.toList #[] (by simp);simpa[pickOrder]using this
def wm(w:Le)(S:Lz)(ep:Nat)(es:Lf):Lf:=if yT w=true then pickOrder (w.params.setOrder S ep) es else es
def jn(w:Le)(S:Lz)(ep:Nat)(es:Lf):(wm w S ep es).toList.Perm es.toList:=by
 unfold wm;split
 ·exact zDN _ _
 ·exact .rfl
def wT(w:Le)(t:SetTable)(i:Nat):Nat:=if yT w=true then 0 else if i=0 then 0 else t.place.getD (i-1) 0+1
def zFj(k:zAN t.place.toList)(e:yT w=false)(u:i<=t.place.size):SetTable.below t.place (wT w t i)=i:=by
 obtain⟨o,h2,n⟩:=zAO t.place (wT w t i) k;have q:∀a b (p:a<t.place.size) (e:b<t.place.size),a<b->t.place[a]<t.place[b]:=λa b p e j=>by
  have:=List.pairwise_iff_getElem.mp k a b (by exists p) (by exists e) j;exists this
 by_cases l:i=0
 ·have h:wT w t i=0:=by unfold wT;rw[e,l];rfl
  rw[h]at o h2 ⊢;apply Nat.le_antisymm _ (by omega);apply Nat.le_of_not_lt;intro r;have:=h2 0 (by omega) (by omega);omega
 ·have c:i-1<t.place.size:=by omega
  have h:wT w t i=t.place[i-1]+1:=by
   unfold wT;rw[e,if_neg (by simp),if_neg l];simp[Array.getD,c]
  rw[h]at o h2 n ⊢;rcases Nat.lt_trichotomy (SetTable.below t.place (t.place[i-1]+1)) i with g|g|g
  ·have:=n (i-1) c (by omega)
   omega
  ·exact g
  ·have:=h2 i (by omega) g
   have:=q (i-1) i c (by omega) (by omega);omega
def jo(w:Le)(S:Lz)(n ep:Nat)(t:SetTable)(i:Nat):Obj:={cls:=.type "set_iterator",data:=.fields #[.int (wT w t i:Nat) 0,.int (i:Nat) 0,.ref S,.int (n:Nat) 0,.int (ep:Nat) 0]}
section
variable{prog:Lc}{w:Le}{A:Lg}{E:Ly}{s:La}{S:Lz}{es:Lf}{ep:Nat}{t:SetTable}
def wU{Q:Bool->La->Prop}(h:Q (yT w) s):wpAny (model prog w) A setsByText Q E s:=by
 unfold setsByText;exact qB (wpAny_askSetting (qC h))
def vG{Q:Lx (Lv×Nat)->La->Prop}(p:s.heap.get? S=some (wy es ep t))(g:SetG (!yT w) es t)(u:i<=es.size)
  (h:Q (((wm w S ep es)[i]?).map λe=>(e.2,wT w t (i+1))) s):wpAny (model prog w) A (setNext S (wT w t i) i ep) Q E s:=by
 have hf:=g.fits;have r:=g.sz;have k:t.plain=true:=by rcases g.tab with x|x<;>rw[x.1]
 have a:t.led=!yT w:=by rcases g.tab with x|x<;>rw[x.1]
 unfold setNext;refine qB (wpAny_setState_of p rfl hf ?_);dsimp;refine qB (wU ?_);cases c:yT w with
 |true =>
  dsimp[if_true];rw[if_neg (by simp)];refine qB (m:=setWalk S) ?_;unfold setWalk;refine qB (wpAny_setState_of p rfl hf ?_);dsimp;refine qB (wU ?_);rw[c];dsimp[if_true];refine qB (wpAny_askSetting (qC (qC ?_)));unfold wm at h;rw[c]at h;have n:wT w t (i+1)=wT w t i:=by unfold wT;rw[c];rfl
  rw[n]at h;dsimp[Option.map_map]at h ⊢;exact h
 |false =>
  rw[c]at a;dsimp[Bool.false_eq_true,if_false];have l:(!t.plain&&decide (es.size > 1))=false:=by rw[k];rfl
  show wpAny _ _ (if(!t.plain&&decide (es.size > 1))=true then _ else _) _ _ _
  rw[if_neg (by rw[l];simp)];show wpAny _ _ ((if(!t.led&&!es.isEmpty)=true then _ else _) >>= _) _ _ _;rw[if_neg (by rw[a];simp)];refine qB (qC (qC ?_));rw[zFj g.rise c (by omega)];have q:wm w S ep es=es:=by unfold wm;rw[c];rfl
  rw[q]at h;by_cases o:i<es.size
  ·have j:i<t.place.size:=by omega
   rw[Array.getElem?_eq_getElem o]at h ⊢;rw[Array.getElem?_eq_getElem j];have n:wT w t (i+1)=t.place[i]+1:=by unfold wT;rw[c];simp[Array.getD,j]
   rw[n]at h;exact h
  ·rw[Array.getElem?_eq_none (by omega)]at h ⊢
   exact h
end
end PySem
namespace PySem
open Sem (wp)
open DV PyProof.Rows
section
variable{prog:Lc}{w:Le}{A:Lg}{E:Ly}{s:La}{S I:Lz}{es:Lf}{ep:Nat}{t:SetTable}
def QS{Q:Ly}(a:s.heap.get? S=some (wy es ep t))(g:SetG (!yT w) es t)
  (h:Q (.ref s.heap.objs.size) {s with heap:=s.heap.push (jo w S es.size ep t 0)}):wpAny (model prog w) A (pyIter (.ref S)) Q E s:=by
 have hT:s.TypeIs (.ref S) "set":=⟨_,a,rfl⟩;have hf:=g.fits;have c:t.plain=true:=by rcases g.tab with x|x<;>rw[x.1]
 refine wpAny_pyIter_slot hT F.slot_set_iter (wpAny_call_entry F.slot_set_iter hT F.dv_entry_set_iter ?_ (F.args_set_iter_1 _));show wpAny _ _ (Builtin.Frozenset.sizeOf S >>= _) _ _ s;unfold Builtin.Frozenset.sizeOf setEntries;refine qB (qB (qB (wpAny_setState_of a rfl hf (qC (qC ?_)))));refine qB (m:=setDrawn S) ?_;unfold setDrawn;refine qB (wpAny_setState_of a rfl hf ?_);dsimp;refine qB (wU (qC ?_));have e:(!yT w&&(!t.plain&&decide (es.size > 1)))=false:=by rw[c];simp
 show wpAny _ _ (if(!yT w&&(!t.plain&&decide (es.size > 1)))=true then _ else _) _ _ _
 rw[if_neg (by rw[e];simp)];refine qB (m:=pure (rawInt 0)) (qC ?_);refine qB (wpAny_setEpoch_of a rfl hf ?_);have i:jo w S es.size ep t 0={cls:=.type "set_iterator",data:=.fields #[rawInt 0,rawInt 0,.ref S,rawInt es.size,rawInt ep]}:=by
  unfold jo wT rawInt;simp
 rw[i]at h;exact qB (wpAny_newObj_type (qC ⟨_,rfl,"set_iterator",_,⟨_,get?_push_size _ rfl,rfl⟩,F.dv_slot_setit_next.lookup,h⟩))
def GE{Q:Lx Lv->La->Prop}(c:s.heap.get? I=some (jo w S es.size ep t i))(l:s.heap.get? S=some (wy es ep t))(g:SetG (!yT w) es t)(k:(wm w S ep es)[i]?=some x)
  (q:∀e,e.get? I=some (jo w S es.size ep t (i+1))->Heap.SameBut I s.heap e->Q (some x.2) {s with heap:=e}):wpAny (model prog w) A (pyNext (.ref I)) Q E s:=by
 have hT:s.TypeIs (.ref I) "set_iterator":=⟨_,c,rfl⟩;have hf:=g.fits;have p:i<=es.size:=by
  have:=(jn w S ep es).length_eq;obtain⟨r,_⟩:=Array.getElem?_eq_some_iff.mp k;dsimp[Array.length_toList]at this;omega
 unfold pyNext;refine qB (wpAny_attempt (wpAny_callSpecial?_slot (name:=Str.ofString "__next__") hT F.dv_slot_setit_next
  (wpAny_call_entry F.dv_slot_setit_next hT F.dv_entry_setit_next ?_ (F.dv_args_setit_next _))))
 show wpAny _ _ (fieldsOf (.ref I) >>= _) _ _ s
 refine qB (wpAny_fieldsOf c rfl ?_);dsimp;unfold setEntries;refine qB (qB (wpAny_setState_of l rfl hf (qC ?_)));rw[if_neg (by simp)];refine qB (m:=setNext S _ _ _) ?_;dsimp[Int.toNat_natCast];refine vG l g p ?_;rw[k];dsimp only[Option.map];have h:(jo w S es.size ep t i).data=.fields #[.int (wT w t i:Nat) 0,.int (i:Nat) 0,.ref S,.int (es.size:Nat) 0,.int (ep:Nat) 0]:=rfl;refine qB (wpAny_setField c h (by simp) ?_);have n:=get?_update_self (Obj.mapFields λa=>a.setIfInBounds 0 (rawInt (wT w t (i+1)))) c (Obj.isFreed_of_fields (Obj.data_mapFields h _));have j:=Obj.data_mapFields h λa=>a.setIfInBounds 0 (rawInt (wT w t (i+1)))
 refine qB (wpAny_setField n j (by simp) (qC ⟨x.2,rfl,qC (q _ ?_ ((Heap.SameBut.update ..).trans (Heap.SameBut.update ..)))⟩));have o:=get?_update_self (Obj.mapFields λa=>a.setIfInBounds 1 (rawInt ((i:Int)+1))) n (Obj.isFreed_of_fields (Obj.data_mapFields j _));rw[o];unfold jo;simp[Obj.mapFields,rawInt]
def QT{Q:Lx Lv->La->Prop}(e:A.handled=none)(c:s.heap.get? I=some (jo w S es.size ep t i))(j:s.heap.get? S=some (wy es ep t))(g:SetG (!yT w) es t)(n:i<=es.size)(k:(wm w S ep es)[i]?=none)
  (o:∀h,Heap.ExtBut I s.heap h->Q none {s with heap:=h}):wpAny (model prog w) A (pyNext (.ref I)) Q E s:=by
 have hT:s.TypeIs (.ref I) "set_iterator":=⟨_,c,rfl⟩;have hf:=g.fits;unfold pyNext;refine qB (wpAny_attempt (wpAny_callSpecial?_slot (name:=Str.ofString "__next__") hT F.dv_slot_setit_next
  (wpAny_call_entry F.dv_slot_setit_next hT F.dv_entry_setit_next ?_ (F.dv_args_setit_next _))))
 show wpAny _ _ (fieldsOf (.ref I) >>= _) _ _ s
 refine qB (wpAny_fieldsOf c rfl ?_);dsimp;unfold setEntries;refine qB (qB (wpAny_setState_of j rfl hf (qC ?_)));rw[if_neg (by simp)];refine qB (m:=setNext S _ _ _) ?_;dsimp[Int.toNat_natCast];refine vG j g n ?_;rw[k];dsimp only[Option.map];have l:(jo w S es.size ep t i).data=.fields #[.int (wT w t i:Nat) 0,.int (i:Nat) 0,.ref S,.int (es.size:Nat) 0,.int (ep:Nat) 0]:=rfl;refine qB (wpAny_setField c l (by simp) ?_);show wpAny _ _ (newExc (.type "StopIteration") [] >>= _) _ _ _;refine qB ?_;dsimp[newExc,newTuple];refine qB (wpAny_newObj_type ?_ (by size_fits));refine qB (m:=firstArgMember _ _) (wpAny_of_eq (a:=Value.none) (by first|rfl|(dsimp[firstArgMember];rfl)) ?_);refine wpAny_newObj_type ?_ (by size_fits);dsimp[raiseNew];refine qB (wpAny_handled ?_)
 first|rw[show A.in1.handled=none from e]|rw[e]
 refine qB (qC (wpAny_throw ?_));refine qB (wpAny_isInstance (T:="StopIteration") (b:=true) ⟨_,get?_push_size _ rfl,rfl⟩ isSubtype_stop ?_);exact qC (o _ (((Heap.SameBut.update ..).extBut.push _).push _))
def GF(u:A.handled=none)(q:S≠I)(g:SetG (!yT w) es t) :
  Walks prog w A I [I,S] [I] es.size (λi v=>∃x,(wm w S ep es)[i]?=some x/\v=x.2) (λi h=>h.get? I=some (jo w S es.size ep t i)/\h.get? S=some (wy es ep t)) where
 sub:=λb a=>by simp at a;simp[a]
 frame:=λ_ _ _ st r=>⟨r I (by simp) _ st.1,r S (by simp) _ st.2⟩
 item:=λi s Q E y st l=>by
  have k:i<(wm w S ep es).size:=by
   have:=(jn w S ep es).length_eq;dsimp[Array.length_toList]at this;omega
  refine GE st.1 st.2 g (Array.getElem?_eq_getElem k) λn c j=>?_
  exact l _ n s.toks ⟨_,Array.getElem?_eq_getElem k,rfl⟩ ⟨c,j.extBut _ _ q st.2⟩ λb o a e=>j.extBut b o (λh=>a (by simp[h])) e
 done:=λs Q E st l=>QT u st.1 st.2 g (le_refl _) (Array.getElem?_eq_none (by
   have:=(jn w S ep es).length_eq;dsimp[Array.length_toList]at this;omega)) λn p=>l n s.toks λb o a e=>p b o (λh=>a (by simp[h])) e
 self:=λi s Q E st l=>by
  have hT:s.TypeIs (.ref I) "set_iterator":=⟨_,st.1,rfl⟩;refine wpAny_pyIter_slot hT F.dv_slot_setit_iter (wpAny_call_entry F.dv_slot_setit_iter hT F.dv_entry_setit_iter ?_ (F.dv_args_setit_iter _));show wpAny _ _ (ret (.ref I)) _ _ s;exact qC ⟨_,rfl,"set_iterator",_,hT,F.dv_slot_setit_next.lookup,l⟩
end
section
variable{prog:Lc}{w:Le}{A:Lg}{E:Ly}{s:La}{S:Lz}{es:Lf}{ep:Nat}{t:SetTable}
def zFk{α:Type}{f:α->Lv}{xs:Array α}(hn:n=xs.size)(h:ItemsOf (λi v=>∃x,xs[i]?=some x/\v=f x) acc n):acc.toList=xs.toList.map f:=by
 obtain⟨j,h2⟩:=h;subst hn;apply List.ext_getElem
 ·simp[j]
 ·intro i a c
  obtain⟨x,e,g⟩:=h2 i acc[i] (by simp at a;simp[a]);simp at a c;rw[Array.getElem?_eq_getElem c]at e;cases e;exists g
def Ww{Q:Ls Lv->La->Prop}(hh:A.handled=none)(V:s.heap.get? S=some (wy es ep t))(g:SetG (!yT w) es t)
  (hQ:∀D tk,(∀b o,s.heap.get? b=some o->D.get? b=some o)->Q ((wm w S ep es).toList.map (·.2)) {s with heap:=D,toks:=tk}):wpAny (model prog w) A (collect (.ref S)) Q E s:=by
 have aa:=g.few;have B:S<s.heap.objs.size:=lt_size V;unfold collect;refine qB (wpAny_runValue (codeAny_builtin F.entry_proto_collect ?_));rw[Around.under_plainId F.plain_proto_collect _];show wpAny _ A.in1 (newList [] >>= λl=>again (.builtin "list.__iadd__" ⟨[l,.ref S],[]⟩)) _ _ s;refine qB (wpAny_newObj_type ?_);refine qC ⟨plainId_quiet F.plain_list_iadd _,codeAny_builtin F.entry_list_iadd ?_⟩;rw[Around.under_plainId F.plain_list_iadd _];have p:(s.heap.push {cls:=.type "list",data:=.seq ([]:Ls Lv).toArray}).get? S=some (wy es ep t):=qA _ V;have q:(s.heap.push {cls:=.type "list",data:=.seq ([]:Ls Lv).toArray}).get? s.heap.objs.size=some {cls:=.type "list",data:=.seq ([]:Ls Lv).toArray}:=get?_push_size _ rfl;have n:s.heap.objs.size≠S:=ne_of_gt B;have hT:Shared.TypeIs {s with heap:=s.heap.push {cls:=.type "list",data:=.seq ([]:Ls Lv).toArray}} (.ref S) "set":=⟨_,p,rfl⟩
 have h1:Builtin.List.listSameRef (.ref s.heap.objs.size) (.ref S)=false:=by simp[Builtin.List.listSameRef,n]
 show wpAny _ A.in1 (Builtin.List.listExtendWith (.ref s.heap.objs.size) (.ref S) (.ref s.heap.objs.size)) _ _ _
 unfold Builtin.List.listExtendWith;refine qB (wpAny_typeOf hT ?_);rw[if_neg (by rw[h1];decide)];refine qB (QS p g ?_);have r:((s.heap.push {cls:=.type "list",data:=.seq ([]:Ls Lv).toArray}).push (jo w S es.size ep t 0)).get? S=some (wy es ep t):=qA _ p;have k:Shared.TypeIs {s with heap:=(s.heap.push {cls:=.type "list",data:=.seq ([]:Ls Lv).toArray}).push (jo w S es.size ep t 0)} (.ref S) "set":=⟨_,r,rfl⟩
 have c:((s.heap.push {cls:=.type "list",data:=.seq ([]:Ls Lv).toArray}).push (jo w S es.size ep t 0)).get? s.heap.objs.size=some {cls:=.type "list",data:=.seq ([]:Ls Lv).toArray}:=qA _ q;refine qB (wpAny_holding ?_);unfold Builtin.List.listLengthHint;refine qB (wpAny_specialOf k F.slot_set_len.lookup ?_)
 (generalize u:("set.__len__":String)=id0;(fail_if_success (clear u id0));wp_delta;rw[show splitId id0=some ("set","__len__")from by subst u;left];subst u)
 refine qB (wpAny_isInstance (b:=true) k sub_set_self ?_);refine qB (wpAny_typeOf k (qC ?_));rw[if_pos (by decide)];refine qB (wpAny_rule ?_);generalize H:((s.heap.push {cls:=.type "list",data:=.seq ([]:Ls Lv).toArray}).push (jo w S es.size ep t 0))=g2 at r c k ⊢;have z1:(s.heap.push {cls:=.type "list",data:=.seq ([]:Ls Lv).toArray}).objs.size=s.heap.objs.size+1:=size_push ..;have v:g2.get? (s.heap.objs.size+1)=some (jo w S es.size ep t 0):=by rw[<- H,<- z1];exact get?_push_size _ rfl
 have C:∀b o,s.heap.get? b=some o->g2.get? b=some o:=λb o e=>by rw[<- H];exact qA _ (qA _ e)
 unfold Builtin.List.listTouch;have a:g2.get? s.heap.objs.size=some (seqObj "list" #[] 0):=c;obtain⟨X,i⟩:∃X,(g2.update s.heap.objs.size (Obj.mapSeq (·.push .none))).get? s.heap.objs.size=some (seqObj "list" #[Value.none] X):=⟨_,get?_update_seq a (·.push .none)⟩;obtain⟨R,j⟩:∃R,((g2.update s.heap.objs.size (Obj.mapSeq (·.push .none))).update s.heap.objs.size (Obj.mapSeq (·.pop))).get? s.heap.objs.size=some (seqObj "list" #[] R):=⟨_,get?_update_seq i (·.pop)⟩;refine qB (qB (listUpdate_at a rfl ?_ (by size_fits) (by size_fits)));refine listUpdate_at i rfl ?_ (by size_fits) (by size_fits);rw[z1];generalize M:((g2.update s.heap.objs.size (Obj.mapSeq (·.push .none))).update s.heap.objs.size (Obj.mapSeq (·.pop)))=g4 at j ⊢;have h:∀b o,b≠s.heap.objs.size->g2.get? b=some o->g4.get? b=some o:=λb o x e=>by
  rw[<- M,get?_update_ne _ _ _ _ x,get?_update_ne _ _ _ _ x];exact e
 have z:S≠s.heap.objs.size+1:=ne_of_lt (lt_succ_of_lt B);have W:=(GF (prog:=prog) (w:=w) (A:=A.in1) (I:=s.heap.objs.size+1) (ep:=ep) hh z g).toS;have O:s.heap.objs.size∉[s.heap.objs.size+1,S]:=by simp[n]
 refine qC ⟨plainId_quiet F.plain_extend_loop _,codeAny_extend_loopS W (by rw[sizeLine_eq];omega) _ O _ es.size 0 _ _ _ rfl (zero_le _) ⟨h _ _ (Nat.succ_ne_self _) v,h _ _ (λe=>n e.symm) r⟩ j (ItemsOf.nil _) λY Z c' G K y=>?_⟩;show wpAny _ A (load s.heap.objs.size >>= _) _ _ Y;refine qB (wpAny_load K ?_);have hl:=(jn w S ep es).length_eq;dsimp[Array.length_toList]at hl;have ea:=zFk hl.symm y;obtain⟨D,g',d',J,L⟩:=Y;have H:g'=s.gens:=G.gens;have ed:d'=s.drawn:=G.drawn;have eo:L=s.os:=G.os;subst H;subst ed;subst eo;refine qC ?_;rw[ea];refine hQ D J λb o e=>?_
 have x:=lt_size e;exact G.heap b o (by dsimp[mem_cons,mem_singleton,List.not_mem_nil,or_false,not_or];exact⟨ne_of_lt x,ne_of_lt (lt_succ_of_lt x)⟩) (h b o (ne_of_lt x) (C b o e))
def vo{Q:Ly}{c:Ls Nat}(hh:A.handled=none)(ho:s.heap.get? S=some (wy es ep t))(g:SetG (!yT w) es t)(I:∀m:Int,(∃e∈es.toList,e.1=m)↔∃n,n∈c/\m=(n:Int))
  (h:∀(y L:Heap) (tk:Nat) (a:Lz) (e:Nat) (out:Ls Lv),(∀b o,s.heap.get? b=some o->y.get? b=some o)->(∀b o,y.get? b=some o->L.get? b=some o)->y.objs.size<=a->L.get? a=some (seqObj "list" out.toArray e) ->
   L2.yH (((List.range 16).filter λi=>c.contains i).map λn:Nat=>L2.V.int (n:Int)) out->Q (.ref a) {s with heap:=L,toks:=tk}) :
  wpAny (model prog w) A (call (.builtin "sorted") [.ref S]) Q E s:=by
 have V:=g.few;refine Calls.call_function_entry kind_sorted plain_sorted entry_sorted (args_sorted1 _) ?_;unfold Builtin.«sorted»;refine qB (m:=checkCount "sorted" 1 1 _) (qC (qB (Ww hh ho g λy G H=>?_)));have D:=jn w S ep es;generalize eo:wm w S ep es=ord at D ⊢;have j:∀e∈ord.toList,∃(n:Nat) (k:Tok),n<16/\e=((n:Int),.int (n:Int) k):=λe r=>g.ent e (D.mem_iff.mp r)
 have B:(ord.toList.map (·.1)).Nodup:=((D.map _).nodup_iff).mpr g.nd;have C:∀m:Int,(∃e∈ord.toList,e.1=m)↔∃n,n∈c/\m=(n:Int):=λm=>by
  rw[<- I m];exact⟨λ⟨e,r,q⟩=>⟨e,D.mem_iff.mp r,q⟩,λ⟨e,r,q⟩=>⟨e,D.mem_iff.mpr r,q⟩⟩
 have p:ord.toList.length<=16:=by rw[D.length_eq];exists V
 generalize ord.toList=ol at j B C p ⊢;have x:IntsAre (ol.map (·.2)) (ol.map (·.1)):=by
  clear B C p
  induction ol with
  |nil=>exact .nil
  |cons a l R =>
   obtain⟨n,k,M,e⟩:=j a qE;rw[map_cons,map_cons,e];exact .cons _ _ (R λz hz=>j z (qD _ hz))
 generalize O:ol.map (·.2)=vs at x ⊢;have Z:vs.length<=16:=by rw[<- O,length_map];exact p
 refine qB (wpAny_newList ?_ (by rw[sizeLine_eq];omega));have v:(y.push (seqObj "list" vs.toArray 0)).get? y.objs.size=some (seqObj "list" vs.toArray 0):=get?_push_size _ rfl;show wpAny _ _ _ _ _ {s with heap:=y.push (seqObj "list" vs.toArray 0),toks:=G}
 refine qB (wpAny_holding (wpAny_call_entry slot_list_sort ⟨_,v,rfl⟩ entry_list_sort (list_sort_tree (s:={s with heap:=y.push (seqObj "list" vs.toArray 0),toks:=G}) v x (by omega) λout ns' u K J=>⟨_,rfl,?_⟩) (args_list_sort _)))
 refine qC ⟨_,rfl,?_⟩;obtain⟨e,r⟩:=sortedHeap_at (out:=out) v;refine h y _ _ _ e out.toList H (λb o X=>?_) (le_refl _) (by exists r) ?_
 ·have hl:=lt_size X
  rw[sortedHeap_old (ne_of_lt hl) (by rw[size_push];exact lt_succ_of_lt hl)];exact qA _ X
 ·have W:(((List.range 16).filter λi=>c.contains i).map λn:Nat=>(n:Int))=ns':=by
   refine List.Perm.eq_of_pairwise (le:=(·<=·)) (λa b _ _ y h2=>Int.le_antisymm y h2) ?_ J ?_
   ·refine pairwise_map.mpr ((List.pairwise_lt_range.filter _).imp λh=>by omega)
   ·refine List.Perm.trans ?_ K.symm
    rw[List.perm_ext_iff_of_nodup ?_ B]
    ·intro m
     dsimp[mem_map,mem_filter,mem_range,contains_iff_mem];have:=C m;constructor
     ·rintro ⟨n,⟨M,hv⟩,rfl⟩
      exact this.mpr ⟨n,hv,rfl⟩
     ·rintro ⟨e,r,rfl⟩
      obtain⟨n,k,M,e'⟩:=j e r;obtain⟨n',hv,Y⟩:=this.mp ⟨e,r,rfl⟩;rw[e']at Y ⊢;have:n=n':=Int.ofNat.inj Y;exact⟨n,⟨M,this▸hv⟩,rfl⟩
    ·exact pairwise_map.mpr ((List.pairwise_lt_range.filter _).imp λh=>by omega)
  subst W;generalize (List.range 16).filter (λi=>c.contains i)=l at u;generalize out.toList=o at u
  clear r K J
  induction l generalizing o with
  |nil=>cases u;exact .nil
  |cons n l R =>
   rw[map_cons]at u ⊢;cases u with
   |cons _ t hr=>exact .cons ⟨t,rfl⟩ (R _ hr)
end
end PySem
namespace L2
open PySem PySem.Spec PyProof.Rows DV
def srtV(a:Ls Nat):Ls V:=((List.range 16).filter λi=>a.contains i).map λn:Nat=>V.int (n:Int)
abbrev RSet:=Ls Nat->Hp->VK->Prop
def zHB(K:qH)(r:RSet):Ls V->Hp->VK->Prop:=λc H Q=>∃(p:Lz) (a:Ls Nat),c=[.ref p]/\(SqL K H p (a.map λn:Nat=>V.int (n:Int))\/SqT K H p (a.map λn:Nat=>V.int (n:Int)))/\(∀n∈a,n<16)/\r a H Q
def rSrt:RSet:=λa H Q=>∀l,H l=none->Q (.ref l) (upd H l (.l (srtV a)))
def zHC(X:Cx)(id:String)(r:RSet):Prop:=∀(a:Ls (Lz×Obj)) (s:La) (O:St) (H:Hp) (Q:VK) (S:Lz) (c:Lf) (h:Nat) (t:SetTable) (g:Ls Nat),Inv X a O H s->s.heap.get? S=some (wy c h t)->SetG (!yT X.w) c t->(∀m:Int,(∃e∈c.toList,e.1=m)↔∃n,n∈g/\m=(n:Int))->r g H Q ->
 wpAny (model X.prog X.w) X.A (call (.builtin id) [.ref S]) (EP X a O Q) X.xe s
def zFl(a:Ls Nat):(srtV a).length<=16:=by
 unfold srtV;rw[length_map];exact le_trans (List.length_filter_le _ _) (by simp)
def WR{c:Ls Nat}{a:Ls Lv}(h:yH (c.map λn:Nat=>V.int (n:Int)) a)(o:∀n∈c,n<16):c.length=a.length/\∀(i:Nat) (v:Lv),a.toArray[i]?=some v->c.getD i 0<16/\∃t,v=.int ((c.getD i 0:Nat):Int) t:=by
 have hl:=h.length;dsimp[length_map]at hl;refine⟨hl,λi v e=>?_⟩;have j:a[i]?=some v:=by exists e
 have g:i<c.length:=by
  obtain⟨p,_⟩:=qG.mp j;omega
 obtain⟨u,k,l⟩:=h.get (i:=i) (x:=V.int (c[i]:Int)) (by simp[g]);rw[j]at k;cases k;obtain⟨t,rfl⟩:=l;rw[getD_eq_getElem?_getD,getElem?_eq_getElem g];exact⟨o _ (getElem_mem g),t,rfl⟩
section
variable{X:Cx}
def zFm{f:Str}{id:String}{r:RSet}{a:Lb}{ta:TA}{p p0 pos y:Pos}(hR:zHC X id r)(hc:X.calm=true)(W:Gl X f)(L:X.mg f=none)(V:bootBuiltins f=some (.builtin id))(Y:f≠Str.ofString "__name__")(R:(f==Str.ofString "__debug__")=false)(hg:Gl X "set")(hm:X.mg "set"=none)(M:bootBuiltins "set"=some (.type "set"))(ha:PA X [a] ta)(hs:starEach [a] X.env=[(false,eval a X.env)]:=by rfl) :
  PE X (.Call (.Name f p0) [.Call (.Name "set" p) [a] [] pos] [] y) (tCB (zHB X.K r) ta):=by
 intro l s O H Q I h;refine wpAny_Call_Name_kw (ZJ (hn:=Y) (hd:=R) I W L V (PyProof.Rows.callWith_builtin1 (Calls.spliced_cons ?_) rfl rfl));refine Call_ (ZJ I hg hm M (PyProof.Rows.callWith_type1 (thn (ha pos l s O H _ I h) λus s1 ⟨vs,H1,I1,r1,q1⟩=>?_) hs rfl));obtain⟨p,w,e,G,hb,q⟩:=q1;subst e;cases r1 with
 |cons r rr =>
  cases rr;cases r;have hh:X.A.handled=none:=I1.ok.hd hc;obtain⟨T,c,nl,x,C,hT,D,Z,E⟩:∃(T:String) (c:Ls Lv) (nl:Nat) (x:Lx Lz) (C:Lk),(T="list"\/T="tuple")/\s1.heap.get? p=some {cls:=.type T,dict:=x,data:=.seq c.toArray nl,slots:=C}/\w.length=c.length/\∀(i:Nat) (v:Lv),c.toArray[i]?=some v->w.getD i 0<16/\∃t,v=.int ((w.getD i 0:Nat):Int) t:=by
   rcases G with G|G
   ·obtain⟨c,K,pl,_⟩:=I1.list G
    obtain⟨⟨cl,x,dt,J⟩,ho,k,n,hd⟩:=pl.isList;simp only at k hd;subst k;subst hd;exact⟨"list",c,n,x,J,.inl rfl,ho,WR K hb⟩
   ·obtain⟨c,K,⟨⟨cl,x,dt,J⟩,ho,k,n,hd⟩,_⟩:=I1.tuple G
    simp only at k hd;subst k;subst hd;exact⟨"tuple",c,n,x,J,.inr rfl,ho,WR K hb⟩
  refine QR hh hT D E λh' tk es ep t ho g B ext=>Calls.spliced_nil ?_
  have u:∀m:Int,(∃e∈es.toList,e.1=m)↔∃n,n∈w/\m=(n:Int):=λm=>by
   rw[B m];constructor
   ·rintro ⟨j,S,e⟩
    have z:j<w.length:=by simp at S;omega
    refine⟨w[j],getElem_mem z,?_⟩;rw[e,getD_eq_getElem?_getD,getElem?_eq_getElem z];rfl
   ·rintro ⟨n,hn,e⟩
    obtain⟨j,S,rfl⟩:=getElem_of_mem hn;refine⟨j,by simp;omega,?_⟩;rw[e,getD_eq_getElem?_getD,getElem?_eq_getElem S];rfl
  exact hR l {s1 with heap:=h',toks:=tk} O H1 Q _ es ep t w (I1.kept (t':=tk) λb o eb=>ext b o (lt_size eb) eb) ho g u q
def rs_srt(w:X.calm=true):zHC X "sorted" rSrt:=λh s O H Q S z y t k I ho g r q=>by
 refine vo (I.ok.hd w) ho g r λv h2 c a e x n p j l i=>?_
 have I2:Inv X h O H {s with heap:=v,toks:=c}:=I.kept (t':=c) λb o u=>n b o u
 have hz:(srtV k).length<=sizeLine:=by have:=zFl k;rw[sizeLine_eq];omega
 have I3:Inv X h O (upd H a (.l (srtV k))) {s with heap:=h2,toks:=c} :=
  I2.laid (t':=c) p j (show zz X.prog X.w _ _ _ (.l (srtV k))from⟨hz,_,e,i,l⟩)
 exact⟨.ref a,_,I3,rfl,q _ (I2.hok.fresh j)⟩
end
end L2
namespace DV
open PySem L2
def jp:Ls D->Lx (Ls Nat)
 | []=>some []| .int j::ds=>if 0<=j/\j<16 then(jp ds).map (j.toNat::·)else none|_=>none
def srtD(a:Ls Nat):Ls D:=((List.range 16).filter λi=>a.contains i).map λn:Nat=>D.int (n:Int)
def zFn:Ls D->Lx R
 | [.l c]=>(jp c).map λa=>.w (srtD a)| [.t c]=>(jp c).map λa=>.w (srtD a)|_=>none
theorem WS{K:qH}{k:Str->Lx Lv}{H:Hp}:∀(a:Ls D) (c:Ls Nat) (e:Ls V),jp a=some c->Reps K k H a e->e=(c.map λn:Nat=>V.int (n:Int))/\∀n∈c,n<16
 | [],c,e,h,r=>by
  cases h;dsimp[Reps]at r;exact⟨r,λn h=>by cases h⟩
 |d::a,c,e,h,r=>by
  cases d with
  |int j =>
   dsimp[jp]at h;split at h
   ·rename_i q
    exists hs,jp a,h,ms;cases h;dsimp[Reps]at r;obtain⟨x,l,rfl,o,i⟩:=r;obtain⟨rfl,p⟩:=WS a ms l hs i;rw[zS o];refine⟨?_,λn g=>?_⟩
    ·rw[map_cons];congr 2;omega
    ·rcases mem_cons.mp g with rfl|g
     ·omega
     ·exact p n g
   ·cases h
  |_=>cases h
def zFo{K:qH}{e:Str->Lx Lv}{a:Hp}(l:Ls Nat):Reps K e a (l.map λn:Nat=>D.int (n:Int)) (l.map λn:Nat=>V.int (n:Int)):=by
 induction l with
 |nil=>exact Reps.nil|cons n l c=>exact Reps.cons (by dsimp[Rep]) c
section
variable{X:Cx}
def bt_set:bootBuiltins "set"=some (.type "set"):=by left
def zBU:bootBuiltins "sorted"=some (.builtin "sorted"):=by left
def zFp{K:qH}{l:Str->Lx Lv}{F:Ls D->Lx R}{r:RSet}{fr:Ls Nat->R}(u:∀i a,F i=some a->∃g c,(i=[.l g]\/i=[.t g])/\jp g=some c/\a=fr c)
  (w:∀(c:Ls Nat) (M:Ld) (H:Hp) (Z:Fz) (Q:VK),FR K l M H Z->Kt K l M H Z (fr c) Q->r c H Q):COk K l (zHB K r) F:=λM H Z t i a Q f o e k=>by
 obtain⟨g,c,y,q,rfl⟩:=u i a e;have n:∃p ys,t=[.ref p]/\(SqL K H p ys\/SqT K H p ys)/\Reps K l (Hm (Mo M Z) H) g ys:=by
  rcases y with rfl|rfl
  ·obtain⟨v,rfl,h⟩:=Ju o
   obtain⟨p,ys,rfl,j,h2⟩:=zu h;exact⟨p,ys,rfl,.inl (zF.seq j),h2⟩
  ·obtain⟨v,rfl,h⟩:=Ju o
   obtain⟨p,ys,rfl,j,h2⟩:=yS h;exact⟨p,ys,rfl,.inr (zI zF j),h2⟩
 obtain⟨p,ys,rfl,j,h2⟩:=n;obtain⟨rfl,x⟩:=WS g c ys q h2;exact⟨p,c,rfl,j,x,w c M H Z Q f k⟩
def of_inv{fr:Ls Nat->R}{F:Ls D->Lx R}(k:∀a,F [.l a]=(jp a).map fr)(i:∀a,F [.t a]=(jp a).map fr)(j:∀c res,F c=some res->∃a,c=[.l a]\/c=[.t a])(c:Ls D)(res:R)(e:F c=some res):∃a ns,(c=[.l a]\/c=[.t a])/\jp a=some ns/\res=fr ns:=by
 obtain⟨a,h⟩:=j c res e;have:(jp a).map fr=some res:=by
  rcases h with rfl|rfl
  ·rw[<- k];exact e
  ·rw[<- i];exact e
 cases g:jp a with
 |none=>rw[g]at this;cases this|some ns=>rw[g]at this;cases this;exact⟨a,ns,h,g,rfl⟩
def ok_sset{a:Lb}{m:MA}{p w pos c:Pos}(n:X.calm=true)(i:Gl X "sorted")(g:X.mg "sorted"=none)(v:Gl X "set")(r:X.mg "set"=none)(x:AOk X [a] m)(h:zW a=false:=by rfl) :
  EOk X (.Call (.Name "sorted" w) [.Call (.Name "set" p) [a] [] pos] [] c) (eCB zFn m) :=
 zb (zFm (rs_srt n) n i g zBU (by decide) (by decide) v r bt_set x (zCR h)) λO H Q q=>uj (zFp (fr:=λo=>.w (srtD o)) (of_inv (λ_=>rfl) (λ_=>rfl) λu t e=>by
  match u,e with
  | [.l j],_=>exact⟨j,.inl rfl⟩| [.t j],_=>exact⟨j,.inr rfl⟩) λo M H Z Q f k l hl=>k.own f hl (zFo _)) q
end
end DV
namespace DV
open PySem PyProof.Rows
end DV
namespace DV
open PySem L2
def zDO(K:qH)(H:Hp)(a:Lz)(es:Ls DE):Prop:=H a=some (vS a es)/\∀e∈es,SqT K H e.2.1 (e.1.map oV)
section
variable{X:Cx}{pins:Ls (Lz×Obj)}{O:L2.St}{H:Hp}{s:La}{a:Lz}{es:Ls DE}
def rDIx(K:qH):R2:=λx y H Q=>∃a e c g v,x=.ref a/\zDO K H a e/\y=.ref c/\SqT K H c (g.map oV)/\atE e g=some v/\Q v H
def zHD(n:X.A.units+1<cLine):IxR X (rDIx X.K):=by
 intro i j l s O H x y v u Q I t D h o;obtain⟨a,K,J,G,w,rfl,⟨e,z⟩,rfl,B,g,q⟩:=h;cases t;cases D;obtain⟨E,r,k,L,_⟩:=uZ I e z;obtain⟨p,C,c⟩:=wF.at r g
 exact PyProof.Rows.tail_any k.typeIs slot_dict_getitem.lookup (wpAny_getItem_heap (tupleKind_room_in1 n) (W6 I B) k C ⟨w,H,I.tok _,c,q⟩) o
def rDIn(K:qH)(neg:Bool):R2:=λx y H Q=>∃a c g e,y=.ref a/\zDO K H a c/\x=.ref g/\SqT K H g (e.map oV)/\Q (.bl (if neg then !(atE c e).isSome else(atE c e).isSome)) H
def at_some(r:wF es xs)(ks:Ls KN):(atKey xs ks).isSome=(atE es ks).isSome:=by
 cases h:atE es ks with
 |none=>rw[wF.none r h];rfl|some v=>obtain⟨p,e,_⟩:=wF.at r h;rw[e];rfl
def zDP(i:X.A.units+1<cLine):OpR X (compareOp .NotIn) (rDIn X.K true):=by
 intro c s O H x y v u Q I j n h;obtain⟨a,z,w,t,rfl,⟨e,k⟩,rfl,l,q⟩:=h;cases j;cases n;obtain⟨p,r,g,o,_⟩:=uZ I e k;refine PyProof.Rows.wpAny_notIn_heap (tupleKind_room_in1 i) (W6 I l) o g ⟨.bl _,H,I.tok _,rfl,?_⟩;rw[at_some r];exact q
def QU(e:h.DictOfH (tupleKind (zBD X.prog X.w)) a xs)(hd:(a==sysModules)=false)(g:es.length<=sizeLine)(r:wF es xs):zGk a es h:=by
 obtain⟨o,c,i,k,h2,j,h4,_,h5⟩:=e;exact⟨hd,g,by rw[<- wF.keys r];exact h5,o,c,i,xs,k,h2,j,r,h4⟩
def rSetD(K:qH):V->V->V->Hp->(Hp->Prop)->Prop:=λo i v H Q=>∃a e c g,o=.ref a/\zDO K H a e/\i=.ref c/\SqT K H c (g.map oV)/\e.length<1000000/\Q (upd H a (vS a (Gz e g c v)))
def set_dic(W:X.A.units+1<cLine):PSet X (rSetD X.K):=by
 intro j s O H o i v Z iv u Q I E G B h;obtain⟨a,t,n,p,rfl,⟨e,K⟩,rfl,Y,hl,q⟩:=h;cases E;cases G;obtain⟨M,r,J,V,hz,z⟩:=uZ I e K;have S:(1000000:Nat)<=sizeLine:=by left
 have l:M.length=t.length:=by have:=congrArg length (wF.keys r);exists this
 refine wpAny_setItem_heap (tupleKind_room_in1 W) (W6 I Y) J (λh' g L=>?_) (by omega);have y:zGk a (Gz t p n v) h':=QU g V (by have:=(WA (k:=p) (ka:=n) (v:=v) z).2;omega) (r.put B);obtain⟨_,_,_,D,_,_,_,R,_⟩:=id y;refine⟨_,I.write (x:=a) (e:=a) (by rw[e];trivial) (.inl rfl) (λb w c C=>(L.2 b c).trans C) ⟨D,R⟩ (Q1 y),q⟩
end
def GG:Ls D->Lx (Ls KN)
 | []=>some []| .int i::ds=>(GG ds).map (some i::·)| .non::ds=>(GG ds).map (none::·)|_::_=>none
def GH:D->Lx (Ls KN)
 | .t a=>GG a|_=>none
def YD:Ls (Ls KN)->Ls D->Ls KN->Lx D
 |k::c,v::a,q=>if k=q then some v else YD c a q|_,_,_=>none
def setV:Ls (Ls KN)->Ls D->Ls KN->D->Ls D
 |k::c,v::a,q,d=>(if k=q then d else v)::setV c a q d|_,a,_,_=>a
def zEP(ks:Ls (Ls KN))(vs:Ls D)(q:Ls KN)(d:D):Ls (Ls KN)×Ls D:=match YD ks vs q with
 |some _=>(ks,setV ks vs q d)|none=>(ks++[q],vs++[d])
section
variable{K:qH}{mg:Str->Lx Lv}{X:Cx}{O:L2.St}{H:Hp}{M:Ld}
theorem QV:∀{a:Ls D} {g:Ls KN} {c:Ls V},GG a=some g->Reps K mg H a c->c=g.map oV
 | [],_,_,e,r=>by cases e;dsimp[Reps]at r;subst r;rfl
 |d::a,g,c,e,r=>by
  obtain⟨v,t,rfl,k,j⟩:=r;cases d with
  |int i =>
   dsimp[GG]at e;cases h:GG a with
   |none=>rw[h]at e;cases e|some q=>rw[h]at e;cases e;rw[zS k,QV h j];rfl
  |non =>
   dsimp[GG]at e;cases h:GG a with
   |none=>rw[h]at e;cases e|some q=>rw[h]at e;cases e;rw[G7 k,QV h j];rfl
  |_=>cases e
def WT(e:GH d=some ks)(r:Rep K mg H d v):∃c,v=.ref c/\SqT K H c (ks.map oV):=by
 cases d with
 |t i =>
  obtain⟨a,h,rfl,g,h2⟩:=yS r;rw[QV e h2]at g;exact⟨a,rfl,g⟩
 |_=>cases e
theorem Ye:∀{c:Ls DE} {a:Ls D} {q:Ls KN} {d:D},Reps K mg H a (c.map (·.2.2))->YD (c.map (·.1)) a q=some d->∃v,atE c q=some v/\Rep K mg H d v
 | [],_,_,_,_,e=>by simp[YD]at e
 |x::c,a,q,d,r,e=>by
  cases a with
  |nil=>simp[YD]at e
  |cons y a =>
   obtain⟨v,t,i,j,g⟩:=r;cases i;dsimp[map_cons,YD]at e;unfold atE;rw[find?_cons];by_cases h:x.1=q
   ·rw[if_pos h]at e;cases e
    rw[decide_eq_true h];exact⟨_,rfl,j⟩
   ·rw[if_neg h]at e
    rw[decide_eq_false h];exact Ye g e
theorem GI:∀{c:Ls DE} {a:Ls D} {q:Ls KN},Reps K mg H a (c.map (·.2.2))->YD (c.map (·.1)) a q=none->atE c q=none
 | [],_,_,_,_=>rfl
 |x::c,a,q,r,e=>by
  cases a with
  |nil=>dsimp[map_cons,Reps]at r;cases r
  |cons y a =>
   obtain⟨v,t,i,j,g⟩:=r;cases i;dsimp[map_cons,YD]at e;unfold atE;rw[find?_cons];by_cases h:x.1=q
   ·rw[if_pos h]at e;cases e
   ·rw[if_neg h]at e
    rw[decide_eq_false h];exact GI g e
def WU(r:Reps K mg H vs (es.map (·.2.2))):(atE es q).isSome=(YD (es.map (·.1)) vs q).isSome:=by
 cases h:YD (es.map (·.1)) vs q with
 |none=>rw[GI r h];rfl|some d=>obtain⟨v,e,_⟩:=Ye r h;rw[e];rfl
theorem zAT:∀{c:Ls DE} {a:Ls D} {q:Ls KN} {d:D} {v:V},Reps K mg H a (c.map (·.2.2))->Rep K mg H d v->Reps K mg H (setV (c.map (·.1)) a q d) ((c.map λe=>if e.1=q then(e.1,e.2.1,v)else e).map (·.2.2))
 | [],a,_,_,_,r,_=>by
  cases a with
  |nil=>exact r|cons _ _=>dsimp[map_nil,Reps]at r;obtain⟨_,_,z,_⟩:=r;cases z
 |x::c,a,q,d,v,r,g=>by
  cases a with
  |nil=>dsimp[map_cons,Reps]at r;cases r
  |cons y a =>
   obtain⟨w,t,j,k,i⟩:=r;cases j;dsimp[map_cons,setV];refine Reps.cons ?_ (zAT i g);by_cases h:x.1=q
   ·rw[if_pos h,if_pos h];exact g
   ·rw[if_neg h,if_neg h];exact k
def zDQ(r:Reps K mg H vs (es.map (·.2.2)))(a:Rep K mg H d v) :
  (Gz es q kb v).map (·.1)=(zEP (es.map (·.1)) vs q d).1/\Reps K mg H (zEP (es.map (·.1)) vs q d).2 ((Gz es q kb v).map (·.2.2)):=by
 unfold Gz zEP;rw[WU r];cases h:YD (es.map (·.1)) vs q with
 |none =>
  dsimp[Option.isSome_none,Bool.false_eq_true,if_false,map_append,map_cons,map_nil];exact⟨trivial,r.append (Reps.cons a Reps.nil)⟩
 |some y =>
  dsimp[Option.isSome_some,if_true];refine⟨?_,zAT r a⟩;rw[map_map];refine map_congr_left λe _=>?_
  dsimp[Function.comp];split<;>rfl
def zAU(h:∀e∈es,SqT K H e.2.1 (e.1.map oV))(g:SqT K H kb (q.map oV)):∀e∈Gz es q kb v,SqT K H e.2.1 (e.1.map oV):=λe a=>by
 unfold Gz at a;split at a
 ·obtain⟨x,c,rfl⟩:=mem_map.mp a
  have:=h x c;split
  ·exact this
  ·exact this
 ·rcases mem_append.mp a with a|a
  ·exact h e a
  ·rw[mem_singleton.mp a];exact g
def dgD:D->D->Lx R
 | .m c a,k=>(GH k).bind λq=>(YD c a q).map .v|_,_=>none
def ro_dg:ROk K mg (rDIx K) dgD:=by
 intro M H Z x y p h i Q f w j e k;cases p with
 |m B n =>
  obtain⟨a,g,rfl,u,rfl,l,h4⟩:=w;dsimp[dgD]at e;exists eq,GH h,e,q;dsimp[Option.bind_some]at e;cases c:YD (g.map (·.1)) n q with
  |none=>rw[c]at e;cases e
  |some d =>
   rw[c]at e;cases e;obtain⟨t,rfl,z⟩:=WT eq j;obtain⟨v,hv,o⟩:=Ye h4 c;exact⟨a,g,t,q,v,rfl,⟨zF _ _ u,λx r=>zI zF (l x r)⟩,rfl,zI zF z,hv,k.rep f o⟩
 |_=>cases e
def ctD:Slot->Lx (Ls (Ls KN)×Ls D)
 | .m c a=>some (c,a)| .v (.m c a)=>some (c,a)|_=>none
def zDR{E:za}{i:Nat}{s:Slot}{ks:Ls (Ls KN)}{vs:Ls D}(u:E.length=O.length)(f:FR K mg M H (O.zip E))(h:E[i]?=some s)(g:ctD s=some (ks,vs)):∃a c,O[i]?=some (some (.ref a))/\H a=some (vS a c)/\ks=c.map (·.1)/\(∀e∈c,SqT K (Hm (Mo M (O.zip E)) H) e.2.1 (e.1.map oV))/\Reps K mg (Hm (Mo M (O.zip E)) H) vs (c.map (·.2.2)):=by
 obtain⟨o,t,h2⟩:=jk u h;cases s with
 |m p l =>
  cases g;obtain⟨a,ho,rfl,k,_,c,rfl,n,j,q⟩:=f.own o _ _ h2 rfl;exact⟨a,c,t,k,n,j,q⟩
 |v d =>
  cases d with
  |m p l =>
   cases g;obtain⟨v,rfl,r⟩:=f.val o _ h2;obtain⟨a,c,rfl,k,n,j,q⟩:=r;exact⟨a,c,t,zF _ _ k,n,j,q⟩
  |_=>cases g
 |_=>cases g
def eDgO(i:Nat)(m:ME):ME:=λE=>if wO E[i]?=true then .z else match m E with
 | .z=>.z| .y x E1=>.y x E1
 | .ok (r,E1)=>match E1[i]? with
  |some s=>match ctD s with
   |some (c,a)=>match GH r.d with
    |some q=>match YD c a q with
     |some d=>.ok (.v d,E1)|none=>.z
    |none=>.z
   |none=>.z
  |none=>.z
def dgO_run{i:Nat}{m:ME}{Q:VK}(h:tM X (eDgO i m) O H Q):tOp (rDIx X.K) (YC i) (tM X m) O H Q:=by
 obtain⟨M,E,hl,o,k⟩:=h;unfold eDgO at k;cases l:wO E[i]? with
 |true=>rw[l]at k;exact k.elim
 |false =>
  rw[l]at k;obtain⟨s,n,e⟩:=WJ l;obtain⟨v,hv⟩:=ul hl o n e;refine⟨v,hv,?_⟩;refine ze (T0:=[]) hl o ?_;exists ea,m E,k,r,E1;intro y H1 g;dsimp at k;exists e1,E1[i]?,k,s1;dsimp at k;cases j:ctD s1 with
  |none=>rw[j]at k;exact k.elim
  |some I =>
   obtain⟨B,z⟩:=I;rw[j]at k;exists e3,GH r.d,k,q;dsimp at k;exists e4,YD B z q,k,d;obtain⟨a,D,p,h2,rfl,h4,h5⟩:=zDR g.len g.frame e1 j;have ev:v=.ref a:=by rw[hv]at p;exact qJ (qJ p)
   subst ev;obtain⟨C,rfl,G⟩:=WT e3 g.rep;obtain⟨w,t,c⟩:=Ye h5 e4;exact⟨a,D,C,q,w,rfl,⟨h2,λx u=>zI zF (h4 x u)⟩,rfl,zI zF G,t,k w H1 (g.more (T:=[(some w,.v d)]) (g.frame.add c) Step.refl.add)⟩
def eInO(neg:Bool)(i:Nat)(m:ME):ME:=λE=>match m E with
 | .z=>.z| .y x E1=>.y x E1
 | .ok (r,E1)=>match E1[i]? with
  |some s=>match ctD s with
   |some (c,a)=>match GH r.d with
    |some q=>.ok (.v (.bl (if neg then !(YD c a q).isSome else(YD c a q).isSome)),E1)|none=>.z
   |none=>.z
  |none=>.z
def zDS{neg:Bool}{i:Nat}{m:ME}{Q:VK}(h:tM X (eInO neg i m) O H Q):tOp (rDIn X.K neg) (tM X m) (YC i) O H Q:=by
 obtain⟨M,E,hl,j,k⟩:=h;unfold eInO at k;refine ze (T0:=[]) hl j ?_;exists ea,m E,k,r,E1;intro y H1 g;dsimp at k;exists e1,E1[i]?,k,s1;dsimp at k;cases c:ctD s1 with
 |none=>rw[c]at k;exact k.elim
 |some t =>
  obtain⟨v,u⟩:=t;rw[c]at k;exists e3,GH r.d,k,q;obtain⟨a,n,o,h2,rfl,h4,h5⟩:=zDR g.len g.frame e1 c;obtain⟨l,rfl,p⟩:=WT e3 g.rep;refine⟨.ref a,o,a,n,l,q,rfl,⟨h2,λx e=>zI zF (h4 x e)⟩,rfl,zI zF p,?_⟩;rw[WU h5];refine k (.bl _) H1 ?_;exact g.flat (d:=.bl _) rfl
def ok_dgO(i:Nat)(e:X.A.units+1<cLine)(g:PE X (.Name x p) (YC i))(c:Yt b)(a:EOk X b m):EOk X (.Subscript (.Name x p) b pos) (eDgO i m) :=
 zb (pe_ix (zHD e) g a c) λO H Q h=>dgO_run h
def ok_dg(g:X.A.units+1<cLine)(e:Yt b)(c:EOk X a ma)(h:EOk X b mb):EOk X (.Subscript a b pos) (YN dgD ma mb):=ok_ix (zHD g) ro_dg e c h
def ok_ninO(i:Nat)(e:X.A.units+1<cLine)(g:PE X (.Name x p) (YC i))(c:EOk X a m):EOk X (.Compare a [.NotIn] [.Name x p] pos) (eInO true i m) :=
 zb (zBw (zDP e) c g rfl) λO H Q h=>zDS h
def zFq(i:Nat)(e:X.A.units+1<cLine)(g:PE X (.Name x p) (YC i))(c:EOk X a m):TOk X (.Compare a [.NotIn] [.Name x p] pos) (tT (eInO true i m)) :=
 vA (zBx (zDP e) c g rfl) λO H Q h=>zDS (Q6 h)
def FR.mutD(h:FR K mg M H Z)(l:Z[i]?=some (some (.ref p),.m ks vs))(L:∀e∈es,SqT K (Hm (Mo M Z) H) e.2.1 (e.1.map oV))(r:Reps K mg (Hm (Mo M Z) H) vs' (es.map (·.2.2))) :
  FR K mg M (upd H p (vS p es)) (Z.set i (some (.ref p),.m (es.map (·.1)) vs'))/\Step M H Z (upd H p (vS p es)) (Z.set i (some (.ref p),.m (es.map (·.1)) vs')):=by
 have C:yE (Z.set i (some (.ref p),.m (es.map (·.1)) vs'))=yE Z:=y6 (show W9 (some (.ref p),Slot.m (es.map (·.1)) vs')=W9 (some (.ref p),Slot.m ks vs)from rfl) l;have t:Mo M (Z.set i (some (.ref p),.m (es.map (·.1)) vs'))=Mo M Z:=by unfold Mo;rw[C]
 have E:p∈yE Z:=jM (c:=.d ks vs) (mem_of_getElem? l) rfl rfl;obtain⟨W,S,y,_⟩:=h.ownAt E;have g:Hm (Mo M Z) (upd H p (vS p es))=Hm (Mo M Z) H:=by
  funext b
  unfold Hm;by_cases x:Mo M Z b
  ·simp[x]
  ·have:b≠p:=λe=>x (by subst e;exact .inr E)
   simp[x,zG this]
 have j:i<Z.length:=(qG.mp l).1;have n:p∉yE (Z.eraseIdx i):=by
  have Q:Z.Perm ((some (.ref p),.m ks vs)::Z.eraseIdx i):=by
   have:=zT (some (V.ref p),Slot.m ks vs) Z i j;rw[ju l]at this;exact this
  have I:=(Q.filterMap W9).nodup_iff.mp h.nd;have e:List.filterMap W9 ((some (V.ref p),Slot.m ks vs)::Z.eraseIdx i)=p::yE (Z.eraseIdx i):=rfl;exact(nodup_cons.mp I).1
 have w:(Z.set i (some (.ref p),.m (es.map (·.1)) vs')).Perm ((some (.ref p),.m (es.map (·.1)) vs')::Z.eraseIdx i):=zT _ _ _ j;refine⟨⟨λo d q=>?_,λo D c q e=>?_,by rw[C];exact h.nd,λb q=>?_⟩,⟨by rw[t,g];exact YL.refl _,λb o m e=>?_⟩⟩
 ·rw[t,g]
  rcases(List.mem_or_eq_of_mem_set q).symm with q|q
  ·cases q
  ·exact h.val o d q
 ·rw[t,g]
  rcases mem_cons.mp (w.mem_iff.mp q)with k|k
  ·cases k;cases e
   exact⟨p,_,rfl,zU,y,es,rfl,rfl,L,r⟩
  ·have u:(o,D)∈Z:=(eraseIdx_sublist Z i).subset k
   obtain⟨a,ho,B,G,O,J⟩:=h.own o D c u e;have v:a≠p:=λz=>by subst z;exact n (jM k e B)
   exact⟨a,ho,B,by rw[zG v];exact G,O,J⟩
 ·obtain⟨o,e,R⟩:=h.mal b q
  by_cases z:b=p
  ·subst z;exact⟨_,zU,.inr ⟨_,rfl⟩⟩
  ·exact⟨o,by rw[zG z];exact e,R⟩
 ·have v:b≠p:=λz=>y (by subst z;exact m)
  rw[zG v];exact e
def sDput(i:Nat)(mk e:ME):MS:=λE=>if wO E[i]?=true then .z else match e E with
 | .z=>.z| .y x E1=>.y x E1
 | .ok (r,E1)=>match mk E1 with
  | .z=>.z| .y x E2=>.y x E2
  | .ok (g,E2)=>match E2[i]? with
   |some (.m a c)=>match GH g.d with
    |some q=>if a.length<1000000 then .ok (.nx,E2.set i (.m (zEP a c q r.d).1 (zEP a c q r.d).2))else .z|none=>.z
   |_=>.z
def zFr{i:Nat}{mk G:ME}{D:Ends}(h:tS X (sDput i mk G) D O H):tAsg (tM X G) (gSub (YC i) (tM X mk) (rSetD X.K)) D O H:=by
 obtain⟨M,E,hl,R,k⟩:=h;unfold sDput at k;cases u:wO E[i]? with
 |true=>rw[u]at k;exact k.elim
 |false =>
  rw[u]at k;obtain⟨s,L,J⟩:=WJ u;obtain⟨v,hv⟩:=ul hl R L J;refine ze (T0:=[]) hl R ?_;cases n:G E with
  |z=>rw[n]at k;exact k|y x E1=>rw[n]at k;exact λH' g=>k O H' g
  |ok p =>
   obtain⟨r,E1⟩:=p;rw[n]at k;intro y H1 j;refine⟨v,hv,?_⟩;refine ze (T0:=[(some y,r.slot)]) j.len j.fr ?_;dsimp at k;cases t:mk E1 with
   |z=>rw[t]at k;exact k|y x E2=>rw[t]at k;exact λH' g=>k O H' (j.trans' g).dropAll
   |ok p =>
    obtain⟨Q,E2⟩:=p;rw[t]at k;intro z H2 g2;have g:=j.trans' g2;dsimp at k;exists e1,E2[i]?,k,s1;cases s1 with
    |m Z vs =>
     exists e3,GH Q.d,k,q;dsimp at k;by_cases w:Z.length<1000000
     ·rw[if_pos w]at k
      have W:=Got.reps (vs:=[z,y]) (rs:=[Q,r]) rfl g;obtain⟨z',_,q1,rz,y',_,q2,ry,_⟩:=W;cases q1;cases q2;obtain⟨a,K,l,h2,rfl,h4,h5⟩:=zDR g.len g.frame e1 rfl;have ev:v=.ref a:=by rw[hv]at l;exact qJ (qJ l)
      subst ev;obtain⟨kb,rfl,S⟩:=WT e3 rz;obtain⟨o,c,C⟩:=j0 g.len e1;have eo:o=some (.ref a):=by rw[l]at c;exact(qJ c).symm
      subst eo;obtain⟨I,B⟩:=zDQ (q:=q) (kb:=kb) h5 ry;obtain⟨f,st⟩:=FR.mutD g.frame C (zAU h4 S) B;rw[I]at f st;have e:=zd (E:=E2) (.m (zEP (K.map (·.1)) vs q r.d).1 (zEP (K.map (·.1)) vs q r.d).2) l;rw[<- e]at f st;refine⟨a,K,kb,q,rfl,⟨h2,λx Y=>zI zF (h4 x Y)⟩,rfl,zI zF S,by simpa using w,k O _ ?_⟩;exact⟨by simp[g.len],f,(g.st.weak (zE (sublist_append_right _ _))).trans st,g.pk.trans (ue (ds0:=[]) e1 (λV q=>by cases q) _)⟩
     ·rw[if_neg w]at k;exact k.elim
    |_=>exact k.elim
def sk_dput(i:Nat)(c:X.A.units+1<cLine)(h:PE X (.Name x p) (YC i))(j:EOk X b mk)(g:EOk X e mv)
  (k:∀v,assign (.Subscript (.Name x p) b p1) X.env v=(do
   let ov <- holding [v] (eval (.Name x p) X.env)
   let iv <- holding [v,ov] (eval b X.env)
   standAt p1
   holding [v,ov,iv] (setItem ov iv v)
   release [v,ov,iv] []):=by intro _;rfl) (a:swapsWithSole [.Subscript (.Name x p) b p1] e pos.line X.env=pure false:=by rfl):SOk X (.Assign [.Subscript (.Name x p) b p1] e pos) (sDput i mk mv) :=
 yt (zBn g (zGe h j (set_dic c) k) a) λD O H=>zFr
end
abbrev dctO:Obj:={cls:=.type "dict",data:=.dict #[]}
def zDT(h:Heap)(H:Hp)(a:sysModules<h.objs.size):zz P w H (h.push dctO) h.objs.size (vS h.objs.size []) :=
 Q1 ⟨beq_eq_false_iff_ne.mpr (Ne.symm (ne_of_lt a)),zero_le _,List.nodup_nil,_,#[],0,[],get?_push_size _ rfl,⟨rfl,rfl,rfl⟩,rfl,.nil,rfl⟩
def actD(i e:Lb):Lv->Env->Sem PySem.Fin->Sem PySem.Fin:=λc a k=>do
 (do
  let g <- eval i a
  let h <- holding [g] (eval e a)
  match c with
  | .ref d=>do
   standAt {i.pos with endLine:=e.pos.endLine,endCol:=e.pos.endCol}
   holding [g,h] (dictSet d g h)
  |_=>unsupported "internal:dictcomp")
 k
section
variable{prog:Lc}{w:Le}{A:Lg}{R:Result->La->Prop}{s:La}{ke ve t0 i0 t1 i1:Lb}{f0 f1:Ls Lb}{scope:Scope}{pos:Pos}{it acc:Lv}{env:Env}
def zBV(j:codeAny (model prog w) A (.compLoop (.DictComp ke ve [⟨target,iter,ifs,0⟩] scope pos) 0 it acc env) R s)
  (h:wpAny (model prog w) A (pyIter it) (λa c=>codeAny (model prog w) A (.compLoop (.DictComp ke ve [⟨target,iter,ifs,0⟩] scope pos) 0 a acc env) R c) (notedBy (model prog w) A env λx c=>R (.error x) c) s) :
  codeAny (model prog w) A (.compStart (.DictComp ke ve [⟨target,iter,ifs,0⟩] scope pos) 0 it acc env) R s:=by
 refine codeAny_of_tree (wpAny_notedAt ?_);refine qB (wpAny_askSetting (wpAny_ite ?_));split
 ·exact qB (qC (qC ⟨rfl,j⟩))
 ·exact qB (wpAny_rule (qB (wpAny_standAt (qB (wpAny_mono h (λa c g=>qC ⟨rfl,g⟩) λx i e=>e)))))
def cn_dict:CNd prog w (.DictComp ke ve [⟨t0,i0,f0,0⟩] scope pos) t0 i0 f0 newDict dctO (λD=>vS D []) (actD ke ve) [] i0.pos :=
 ⟨rfl,λ_ _ _ _=>⟨rfl,λ_=>rfl,rfl⟩,λh=>wpAny_newObj_type h (by first|trivial|decide|simp[sizeOk]),zDT,λa h=>zBV a h,λ_ _ _=>rfl⟩
end
def taD(K:qH)(h g:TE):TAc:=λD O H Nx=>h O H λy H1=>g O H1 λz H2=>∃c a e,y=.ref a/\zDO K H2 D c/\SqT K H2 a (e.map oV)/\c.length<1000000/\Nx O (upd H2 D (vS D (Gz c e a z)))
def pa_dct(hu:Y.A.units<cLine)(o:∀e s,¬Y.xe e s)(L:PE Y ke tk)(hv:PE Y ve tv):PAc Y (actD ke ve) (taD Y.K tk tv):=λD a s O H Nx k Q E I h u=>by
 unfold actD;refine qB (qB (wpAny_mono (L a s O H _ I h) (λkv s1 W=>?_) λ_ _ z=>absurd z (o _ _)));obtain⟨y,H1,I1,r1,Z⟩:=W;refine qB (wpAny_holding (wpAny_mono (hv a s1 O H1 _ I1 Z) (λvv s2 h2=>?_) λ_ _ z=>absurd z (o _ _)));obtain⟨z,H2,I2,J,q,n,p,rfl,⟨e,j⟩,hb,hl,K⟩:=h2;cases r1;dsimp;refine qB (wpAny_standAt (wpAny_holding ?_));obtain⟨R,r,G,hd,hz,i⟩:=uZ I2 e j;have V:(1000000:Nat)<=sizeLine:=by left
 have l:R.length=q.length:=by have:=congrArg length (wF.keys r);exists this
 refine wpAny_dictSet_heap (knd:=tupleKind (zBD Y.prog Y.w)) hu (W6 I2 hb) G (λh' g M=>?_) (by omega);have t:zGk D (Gz q p n z) h':=QU (X:=Y) g hd (by have:=(WA (k:=p) (ka:=n) (v:=z) i).2;omega) (r.put J);obtain⟨_,_,_,C,_,_,_,S,_⟩:=id t;exact u O _ _ (I2.write (x:=D) (e:=D) (by rw[e];trivial) (.inl rfl) (λb w c B=>(M.2 b c).trans B) ⟨C,S⟩ (Q1 t)) K
abbrev Acc:=Ls (Ls KN)×Ls D
abbrev akD:Ak Acc:=⟨λp=>.m p.1 p.2,([],[]),λD=>vS D []⟩
section
variable{X:Cx}{K:qH}{mg:Str->Lx Lv}{O:St}{M:Ld}{E:za}{H:Hp}{T0 Z T:Fz}
def ak_dct:AkOk akD:=λf h=>⟨f.newDct (es:=[]) (vs:=[]) h (λe a=>by cases a) Reps.nil,Step.newDct (ks:=[]) (vs:=[]) f h⟩
def maD(mk e:ME):MC Acc:=λE a=>match mk E with
 | .ok (c,E1)=>match e E1 with
  | .ok (g,E2)=>match GH c.d with
   |some q=>if a.1.length<1000000 then .ok (zEP a.1 a.2 q g.d,E2)else .z|none=>.z
  |_=>.z
 |_=>.z
def zDU:zBL akD K mg (maD mk mv) (taD K (tN K mg mk) (tN K mg mv)):=λM D O E H c I E' Nx hl fr e hN=>by
 unfold maD at e;cases j:mk E with
 |z=>rw[j]at e;cases e|y _ _=>rw[j]at e;cases e
 |ok p =>
  obtain⟨l,Ea⟩:=p;rw[j]at e;dsimp at e;cases h:mv Ea with
  |z=>rw[h]at e;cases e|y _ _=>rw[h]at e;cases e
  |ok p =>
   obtain⟨v,Eb⟩:=p;rw[h]at e;dsimp at e;exists e3,GH l.d,e,q;dsimp at e;by_cases k:c.1.length<1000000
   ·rw[if_pos k]at e
    cases e;refine zCq (T0:=[(some (.ref D),.m c.1 c.2)]) hl fr j λy H1 n=>?_
    refine zCq (T0:=[(some y,l.slot)]++[(some (.ref D),.m c.1 c.2)]) n.len n.fr h λz H2 X=>?_
    have g:=n.trans X
    -- the key and the value are given up
    have Y:FR K mg M H2 ((some z,v.slot)::(some y,l.slot)::((some (.ref D),Slot.m c.1 c.2)::O.zip E')):=g.fr;have fb:=Y.frz;have fc:FR K mg M H2 ((some y,l.slot)::(some z,.v v.d)::((some (.ref D),Slot.m c.1 c.2)::O.zip E')):=fb.perm (List.Perm.swap _ _ _);have t:=fc.frz;obtain⟨y',ey,w⟩:=t.val _ _ qE;cases ey;obtain⟨z',W,C⟩:=t.val _ _ (qD _ qE);cases W;rw[YM,YM]at w C;have u:=t.tail.tail;obtain⟨a,ho,R,Z,_,es,rfl,J,B,S⟩:=u.own _ _ _ qE rfl;cases R;obtain⟨kb,rfl,L⟩:=WT e3 w;rw[J]at k;obtain⟨r,o⟩:=zDQ (q:=q) (kb:=kb) S C;obtain⟨G,Q⟩:=FR.mutD (i:=0) u rfl (zAU B L) o;rw[r,<- J]at G Q;refine⟨es,kb,q,rfl,⟨Z,λx V=>zI zF (B x V)⟩,zI zF L,by simpa using k,hN O _ ?_⟩;have sz:Step M H ((some (.ref D),Slot.m c.1 c.2)::O.zip E) H2 ((some (.ref D),Slot.m c.1 c.2)::O.zip E'):=g.st.weak (zE (.cons _ (.cons _ (List.Sublist.refl _))));exact⟨g.len,G,sz.trans Q,g.pk⟩
   ·rw[if_neg k]at e;cases e
abbrev zFs(tg:MG)(tt:MT)(ma:MC Acc):=JV tg tt ma
abbrev zAV(nl:Nat)(caps:Ls Nat)(a:MI)(tg:MG)(tt:MT)(ma:MC Acc):ME:=YS akD nl caps a tg tt ma
end
section
variable{X:Cx}{ke ve target iter:Lb}{ifs:Ls Lb}{scope:Scope}{pos:Pos}{mi:MI}{tg:MG}{tt:MT}{mk mv:ME}{g:TG}{nl:Nat}{caps:Ls Nat}{N':Ls Str}
def pa_dct2(C:CSc X scope nl caps N')(e:X.A.units<cLine)(h:∀a C c s H,EOk (cxB X N' scope a C c s H) ke mk)(g:∀a C c s H,EOk (cxB X N' scope a C c s H) ve mv)(a Ca c s H):PAc (cxB X N' scope a Ca c s H) (actD ke ve) (taD X.K (tN X.K X.mg mk) (tN X.K X.mg mv)) :=
 pa_dct (Y:=cxB X N' scope a Ca c s H) e C.hx (zb (h a Ca c s H) λO H Q q=>tN_M q) (zb (g a Ca c s H) λO H Q q=>tN_M q)
def ok_dc(C:CSc X scope nl caps N')(h:X.A.units<cLine)(l:IOk X target iter mi)(o:∀a C c s H,PG (cxB X N' scope a C c s H) target g)(j:GOk X g tg)(k:∀a C c s H,zGw (cxB X N' scope a C c s H) ifs tt)
  (n:∀a C c s H,EOk (cxB X N' scope a C c s H) ke mk) (i:∀a C c s H,EOk (cxB X N' scope a C c s H) ve mv) (e:∀x,foldedSetIterable iter X.env x=pure x):EOk X (.DictComp ke ve [⟨target,iter,ifs,0⟩] scope pos) (zAV nl caps mi tg tt (maD mk mv)) :=
 zCu C ak_dct zDU cn_dict (pa_dct2 C h n i) rfl l o j k e
end
def tDisp1(K:qH)(a c:TE):TE:=λO H Q=>∀D,H D=none->taD K a c D O (upd H D (vS D [])) λO' H'=>O'=O->Q (.ref D) H'
def zFt(Y:X.A.units<cLine)(J:PE X ke tk)(Z:PE X ve tv):PE X (.Dict [some ke] [ve] pos) (tDisp1 X.K tk tv):=λa s O H Q I h=>by
 have u:=I.hok.fresh (le_refl s.heap.objs.size);have I1:=I.laid (h':=s.heap.push {cls:=.type "dict",dict:=none,data:=.dict #[]}) (t':=s.toks) (λ_ _ q=>qA _ q) (le_refl _) (zDT s.heap _ (Inv.big I));refine wpAny_Dict_any rfl rfl (by simp) (by simp) (pairTrees_cons_walk (thn (J a _ O _ _ I1 (h _ u)) λkv s1 S=>?_));obtain⟨y,H1,I1',r1,V⟩:=S;refine thn (Z a s1 O H1 _ I1' V) λvv s2 h2=>pairTrees_nil_walk ?_
 obtain⟨z,H2,I2,E,p,n,o,rfl,⟨e,j⟩,hb,hl,G⟩:=h2;cases r1;unfold storeAll;rw[forIn_cons];refine qB (qB ?_);obtain⟨L,r,D,W,hz,i⟩:=uZ I2 e j;have R:(1000000:Nat)<=sizeLine:=by left
 have l:L.length=p.length:=by have:=congrArg length (wF.keys r);exists this
 refine wpAny_dictSet_heap (knd:=tupleKind (zBD X.prog X.w)) Y (W6 I2 hb) D (λh' g K=>?_) (by omega);have t:zGk s.heap.objs.size (Gz p o n z) h':=QU (X:=X) g W (by have:=(WA (k:=o) (ka:=n) (v:=z) i).2;omega) (r.put E);obtain⟨_,_,_,C,_,_,_,M,_⟩:=id t;refine qC ?_;dsimp;rw[List.forIn_nil];exact qC ⟨.ref _,_,I2.write (x:=s.heap.objs.size) (e:=s.heap.objs.size) (by rw[e];trivial) (.inl rfl) (λb w c B=>(K.2 b c).trans B) ⟨C,M⟩ (Q1 t),rfl,G rfl⟩
def zDV(mk c:ME):ME:=λE=>match maD mk c E ([],[])with
 | .ok (a,E')=>.ok (.m a.1 a.2,E')|_=>.z
section
variable{X:Cx}{ke ve:Lb}{pos:Pos}{mk mv:ME}
def ok_disp(l:X.A.units<cLine)(u:EOk X ke mk)(r:EOk X ve mv):EOk X (.Dict [some ke] [ve] pos) (zDV mk mv) :=
 zb (zFt l (zb u λO H Q q=>tN_M q) (zb r λO H Q q=>tN_M q)) λO H Q ⟨M,E,hl,i,k⟩=>by
  unfold zDV at k;intro D h;cases c:maD mk mv E ([],[])with
  |z=>rw[c]at k;exact k.elim|y _ _=>rw[c]at k;exact k.elim
  |ok p =>
   obtain⟨g,E'⟩:=p;rw[c]at k;have t:=i.newDct (es:=[]) (vs:=[]) h (λe n=>by cases n) Reps.nil;have j:=Step.newDct (ks:=[]) (vs:=[]) (o:=vS D []) i h;refine zDU M D O E _ ([],[]) g E' _ hl t c λO' H' a es=>?_
   subst es;exact k _ H' ⟨a.len,a.fr,j.trans a.st,a.pk⟩
end
end DV
namespace DV
open PySem PySem.W L2
def EA(h:Heap)(d:Lz)(es:Array DictEntry)(ep:Nat):Prop:=∃o,h.get? d=some o/\o.ExactDict/\o.data=.dict es ep
section
variable{prog:Lc}{w:Le}{A:Lg}{E:Ly}{s:La}{d it:Lz}{es:Array DictEntry}{ep i:Nat}
def EA.ty(m:EA s.heap d es ep):s.TypeIs (.ref d) "dict":=let ⟨o,h,c,_⟩:=m;⟨o,h,c.1⟩
def EA.lt(m:EA h d es ep):d<h.objs.size:=let ⟨_,h,_⟩:=m;lt_size h
def EA.kp(m:EA h d es ep)(k:∀o,h.get? d=some o->h'.get? d=some o):EA h' d es ep:=let ⟨o,h,r⟩:=m;⟨o,k o h,r⟩
def it_dct{Q:Ly}(hd:(d==sysModules)=false)(m:EA s.heap d es ep)(c:Q (.ref s.heap.objs.size) {s with heap:=s.heap.push {cls:=.type "dict_keyiterator",data:=.fields #[.ref d,.int 0 0,.int es.size 0,.int ep 0]}}):wpAny (model prog w) A (pyIter (.ref d)) Q E s:=by
 obtain⟨o,ho,e,a⟩:=id m;refine wpAny_pyIter_slot m.ty PySem.F.slot_dict_iter (wpAny_call_entry PySem.F.slot_dict_iter m.ty PySem.F.entry_dict_iter ?_ (PySem.F.args_dict_iter_1 _));unfold Builtin.«dict.__iter__» Builtin.Dict.dictSlotNone Builtin.Dict.showsAll;refine qB (qB (wpAny_notOrdered_dict m.ty (qC ?_)));refine qB (qC ?_);rw[if_neg (by rw[hd];exact qF)];refine qB (qC (qB (wpAny_dictEntries ho a (qB (wpAny_dictEpoch ho a ?_)))));exact qB (wpAny_newObj_type (qC ⟨_,rfl,"dict_keyiterator",_,⟨_,get?_push_size _ rfl,rfl⟩,PySem.F.slot_dict_keyiterator_next.lookup,by simpa[rawInt]using c⟩))
def zHE{Q:Lx Lv->La->Prop}(p:A.handled=none)(c:s.heap.IsKeyIter it d i es.size ep)(m:EA s.heap d es ep)
  (r:∀e h,es[i]?=some e->h.IsKeyIter it d (i+1) es.size ep->Heap.SameBut it s.heap h->Q (some e.key) {s with heap:=h})
  (q:∀h,es[i]?=none->Heap.ExtBut it s.heap h->Q none {s with heap:=h}):wpAny (model prog w) A (pyNext (.ref it)) Q E s:=by
 obtain⟨o,ho,t,l⟩:=id c;obtain⟨u,j,_,k⟩:=id m;refine qB (wpAny_attempt (wpAny_callSpecial?_slot (name:=Str.ofString "__next__") c.typeIs PySem.F.slot_dict_keyiterator_next (wpAny_call_entry PySem.F.slot_dict_keyiterator_next c.typeIs PySem.F.entry_dict_keyiterator_next (qB (qC (qB (qB (qB (wpAny_typeNameOfWhole_keyiter c.typeIs (qC (qB (wpAny_fieldsOf ho l ?_)))))))))  (PySem.F.args_dict_keyiterator_next_1 _))));dsimp[show Builtin.Dict_items.ownsTuple "dict_keyiterator"=false by decide,Bool.false_eq_true,if_false];show wpAny _ _ (if(Value.ref d==Value.none)=true then _ else _) _ _ s;rw[if_neg (show ¬((Value.ref d==Value.none)=true)from qF)];refine qB (qC (qB (wpAny_dictEntries j k ?_)));rw[if_neg (by simp)];refine qB (qC (qB (wpAny_dictEpoch j k ?_)));rw[if_neg (by simp)];refine qC ?_;dsimp[show ¬((i:Int)<0)from by omega,if_false,Int.toNat_natCast];cases n:es[i]? with
 |some e =>
  refine qB (qB (wpAny_typeNameOfWhole_keyiter c.typeIs (qC (qB (wpAny_isOneOf_keyiter c.typeIs ?_)))));show wpAny _ _ (setField (.ref it) 1 (rawInt ((i:Int)+1)) >>= _) _ _ s;refine qB (wpAny_setField ho l (by simp) ?_);have g:(s.heap.update it (Obj.mapFields (·.setIfInBounds 1 (rawInt ((i:Int)+1))))).IsKeyIter it d (i+1) es.size ep :=
   ⟨_,get?_update_self _ ho (Obj.isFreed_of_fields (Obj.data_mapFields l _)),(Obj.cls_mapFields ..).trans t,by rw[Obj.data_mapFields l];simp[rawInt]⟩
  refine qB (wpAny_holding (qB (wpAny_isOneOf_keyiter (s:={s with heap:=_}) g.typeIs ?_)))
  show wpAny _ _ (pure e.key) _ _ _
  exact qC (qC ⟨_,rfl,qC (r e _ n g (Heap.SameBut.update ..))⟩)
 |none =>
  refine qB (qB (wpAny_typeNameOfWhole_keyiter c.typeIs (qC ?_)));show wpAny _ _ (setField (.ref it) 0 .none >>= _) _ _ s;refine qB (wpAny_setField ho l (by simp) ?_);show wpAny _ _ (newExc (.type "StopIteration") [] >>= _) _ _ _;dsimp[newExc,newTuple];refine qB (qB (wpAny_newObj_type (qB (m:=firstArgMember _ _) (wpAny_of_eq (a:=Value.none) (by first|rfl|(dsimp[firstArgMember];rfl)) (wpAny_newObj_type ?_ (by size_fits)))) (by size_fits)));dsimp[raiseNew];refine qB (wpAny_handled ?_);rw[show A.in1.handled=none from p];refine qB (qC (wpAny_throw ?_));refine qB (wpAny_isInstance (T:="StopIteration") (b:=true) ⟨_,get?_push_size _ rfl,rfl⟩ isSubtype_stop ?_);exact qC (q _ n (((Heap.SameBut.update ..).extBut.push _).push _))
def zDW(r:A.handled=none)(I:Lz)(p:d≠I):Walks prog w A I [I,d] [I] es.size (λi v=>∃e,es[i]?=some e/\v=e.key) (λi h=>h.IsKeyIter I d i es.size ep/\EA h d es ep) where
 sub:=λb c=>by simp at c;simp[c]
 frame:=λ_ _ _ st t=>⟨st.1.at λo e=>t I (by simp) o e,st.2.kp λo e=>t d (by simp) o e⟩
 item:=λi s Q E u st l=>zHE r st.1 st.2 (λe g a j k=>l e.key g s.toks ⟨e,a,rfl⟩ ⟨j,st.2.kp λo q=>k.extBut d o p q⟩ λb o c q=>k.extBut b o (λh=>c (by simp[h])) q) λg a _=>by
  rw[Array.getElem?_eq_getElem u]at a;cases a
 done:=λs Q E st l=>zHE r st.1 st.2 (λe g a _ _=>by rw[Array.getElem?_eq_none (le_refl _)]at a;cases a) λg _ n=>l g s.toks λb o c e=>n b o (λh=>c (by simp[h])) e
 self:=λ_ _ _ _ st l=>wpAny_pyIter_keyiter st.1 l
def src_dct(g:(d==sysModules)=false):KdlSrc prog w "dict" d d es.size (λi v=>∃e,es[i]?=some e/\v=e.key) (λh=>EA h d es ep) where
 type:=λ_ m=>m.ty
 there:=λ_ m=>⟨m.lt,m.lt⟩
 keep:=λ_ _ m j=>m.kp λo e=>j d (.inl rfl) o e
 notList:=by decide
 notTuple:=by decide
 hint:=λ_ _ _ _ m a=>kdl_hint_dict m.ty a
 iter:=λ_ _ c m=>⟨_,_,(λ_ _ a=>it_dct g m a),zDW c _ (ne_of_lt m.lt),⟨⟨_,get?_push_size _ rfl,rfl,rfl⟩,m.kp λo e=>qA _ e⟩⟩
end
section
variable{X:Cx}{K:qH}{mg:Str->Lx Lv}
def rDLs(K:qH):Ls V->Hp->VK->Prop:=λg H Q=>∃a c,g=[.ref a]/\zDO K H a c/\∀l,H l=none->Q (.ref l) (upd H l (.l (c.map λe=>.ref e.2.1)))
theorem GJ:∀{g:Ls DE} {c:Ls DX} {a:Ls Lv},wF g c->a.length=c.length->(∀(j:Nat) v,a[j]?=some v->∃x,c[j]?=some x/\v=(.ref x.2.1:Lv))->yH (g.map λe=>.ref e.2.1) a
 |_,_,a,.nil,hl,h=>by
  cases a with
  |nil=>exact .nil|cons _ _=>cases hl
 |_,_,a,.cons (b:=x) r t,hl,h=>by
  cases a with
  |nil=>cases hl
  |cons v a =>
   obtain⟨o,l,k⟩:=h 0 v rfl;cases qJ l;subst k;refine .cons (by show Value.ref _=_;rw[r.2.1]) (GJ t (by exists hl) λj v hv=>?_);obtain⟨y,n,i⟩:=h (j+1) v (by exists hv);exact⟨y,by simpa using n,i⟩
def zBW(t:X.calm=true):Jq X (.type "list") (rDLs X.K):=by
 intro w s O H l M Q I r h;obtain⟨a,n,rfl,⟨e,L⟩,q⟩:=h;obtain⟨u,rfl,hu⟩:=Gw r;cases hu;obtain⟨⟨J,z,K,o,p,S,l,G,h2,C,h4,h5⟩,_⟩:=(show zz X.prog X.w H s.heap a (vS a n)from I.hok a _ e);have hl:n.length=l.length:=by have:=congrArg length (wF.keys h4);exists this.symm
 have hz:p.size=l.length:=by rw[<- Array.length_toList,h5,length_map]
 refine kdl_call (src_dct J) (I.ok.hd t) ⟨o,G,h2,C⟩ (by rw[hz,<- hl];exact z) λB D i c kp E g=>?_
 have hv:yH (n.map λe=>V.ref e.2.1) i.toList:=GJ h4 (by rw[Array.length_toList,g.1,hz]) λj v hv=>by
  obtain⟨R,k,rfl⟩:=g.2 j v (by exists hv);rw[<- Array.getElem?_toList,h5,getElem?_map]at k;cases y:l[j]? with
  |none=>rw[y]at k;cases k|some x=>rw[y]at k;cases k;exact⟨x,rfl,rfl⟩
 refine⟨.ref s.heap.objs.size,_,I.laid (t':=D) kp (le_refl _) (show zz X.prog X.w _ B _ (.l (n.map λe=>V.ref e.2.1))from⟨by simpa using z,i.toList,c,hv,by exists E⟩),rfl,q _ (I.hok.fresh (le_refl _))⟩
def listK:Ls D->Lx R
 | [.m a _]=>some (.w (a.map kD))|_=>none
theorem QW:∀a:Ls KN,Reps K mg H (a.map oD) (a.map oV)
 | []=>Reps.nil|none::a=>Reps.cons (by dsimp[oD,oV,Rep]) (QW a)|some _::a=>Reps.cons (by dsimp[oD,oV,Rep]) (QW a)
def rep_kD(h:SqT K H a (ks.map oV)):Rep K mg H (kD ks) (.ref a):=by
 dsimp[kD,Rep];exact⟨a,_,rfl,h,QW ks⟩
theorem GK:∀{a:Ls DE},(∀e∈a,SqT K H e.2.1 (e.1.map oV))->Reps K mg H ((a.map (·.1)).map kD) (a.map λe=>.ref e.2.1)
 | [],_=>Reps.nil|e::a,h=>Reps.cons (rep_kD (h e qE)) (GK λx c=>h x (qD _ c))
def zFu:COk K mg (rDLs K) listK:=by
 intro M H Z q i c Q f r e k
 match i,e with
 | [.m t p],e =>
  cases e;obtain⟨v,rfl,h⟩:=Ju r;obtain⟨a,j,rfl,n,rfl,h2,o⟩:=h;exact⟨a,j,rfl,⟨zF _ _ n,λx g=>zI zF (h2 x g)⟩,λl hl=>k.own f hl (GK h2)⟩
end
end DV
namespace DV
open PySem L2
theorem QX(e:∀d,eqb n d=true->∃x,pyD d=some x/\x.canLay0=true/\x.depth<=n+1):∀c:Ls D,c.all (eqb n)=true->∃a,pyDs c=some a/\PyData.canLayAll0 a=true/\PyData.depthAll a<=n+1
 | [],_=>⟨[],rfl,rfl,by simp[PyData.depthAll]⟩
 |d::c,h=>by
  rw[all_cons,Bool.and_eq_true]at h;obtain⟨x,j,g,l⟩:=e d h.1;obtain⟨a,i,k,o⟩:=QX e c h.2;refine⟨x::a,by dsimp[pyDs,j,i],?_,by dsimp[PyData.depthAll];omega⟩;dsimp[PyData.canLayAll0,g,k];rfl
def zAW:∀(n:Nat) (d:D),eqb n d=true->∃x,pyD d=some x/\x.canLay0=true/\x.depth<=n+1:=by
 intro n
 induction n with
 |zero =>
  intro d h;cases d with
  |non=>exact⟨_,rfl,rfl,by simp[PyData.depth]⟩|bl b=>exact⟨_,rfl,rfl,by simp[PyData.depth]⟩|int i=>exact⟨_,rfl,rfl,by simp[PyData.depth]⟩|str i=>exact⟨_,rfl,h,by simp[PyData.depth]⟩|_=>cases h
 |succ n j =>
  intro d h;cases d with
  |non=>exact⟨_,rfl,rfl,by simp[PyData.depth]⟩|bl b=>exact⟨_,rfl,rfl,by simp[PyData.depth]⟩|int i=>exact⟨_,rfl,rfl,by simp[PyData.depth]⟩|str i=>exact⟨_,rfl,h,by simp[PyData.depth]⟩
  |t a =>
   obtain⟨g,e,c,p⟩:=QX j a h;exact⟨.tuple g,by dsimp[pyD,e];rfl,by dsimp[PyData.canLay0];exact c,by dsimp[PyData.depth];omega⟩
  |l a =>
   obtain⟨g,e,c,p⟩:=QX j a h;exact⟨.list g,by dsimp[pyD,e];rfl,by dsimp[PyData.canLay0];exact c,by dsimp[PyData.depth];omega⟩
  |_=>cases h
def WV(h:pyDs (d::ds)=some xs):∃y ys,xs=y::ys/\pyD d=some y/\pyDs ds=some ys:=by
 dsimp[pyDs]at h;cases a:pyD d with
 |none=>rw[a]at h;cases h
 |some y =>
  cases h2:pyDs ds with
  |none=>rw[a,h2]at h;cases h|some ys=>rw[a,h2]at h;cases h;exact⟨y,ys,rfl,rfl,rfl⟩
def zAX(h:pyDs (d::ds)=some xs):∃y ys,xs=y::ys:=by
 obtain⟨y,ys,e,_⟩:=WV h;exact⟨y,ys,e⟩
mutual
theorem QY:∀{d e:D} {x y:PyData},pyD d=some x->pyD e=some y->x.canLay0=true->y.canLay0=true->PyData.eqv x y=deq d e
 | .t j,e,x,y,a,h2,i,c=>by
  dsimp[pyD,Option.map_eq_some_iff]at a;obtain⟨k,a,rfl⟩:=a;cases e with
  |t h =>
   dsimp[pyD,Option.map_eq_some_iff]at h2;obtain⟨g,h2,rfl⟩:=h2;dsimp[PyData.eqv,deq];exact eqvs_deq a h2 (by simpa[PyData.canLay0]using i) (by simpa[PyData.canLay0]using c)
  |l h=>dsimp[pyD,Option.map_eq_some_iff]at h2;obtain⟨g,_,rfl⟩:=h2;rfl|non=>cases h2;rfl|bl _=>cases h2;rfl|int _=>cases h2;rfl|str _=>cases h2;rfl|dic=>cases h2;cases c|_=>cases h2
 | .l j,e,x,y,a,h2,i,c=>by
  dsimp[pyD,Option.map_eq_some_iff]at a;obtain⟨k,a,rfl⟩:=a;cases e with
  |l h =>
   dsimp[pyD,Option.map_eq_some_iff]at h2;obtain⟨g,h2,rfl⟩:=h2;dsimp[PyData.eqv,deq];exact eqvs_deq a h2 (by simpa[PyData.canLay0]using i) (by simpa[PyData.canLay0]using c)
  |t h=>dsimp[pyD,Option.map_eq_some_iff]at h2;obtain⟨g,_,rfl⟩:=h2;rfl|non=>cases h2;rfl|bl _=>cases h2;rfl|int _=>cases h2;rfl|str _=>cases h2;rfl|dic=>cases h2;cases c|_=>cases h2
 | .non,e,x,y,a,h2,i,c=>by
  cases a;cases e with
  |t h=>dsimp[pyD,Option.map_eq_some_iff]at h2;obtain⟨g,_,rfl⟩:=h2;rfl|l h=>dsimp[pyD,Option.map_eq_some_iff]at h2;obtain⟨g,_,rfl⟩:=h2;rfl|dic=>cases h2;cases c
  |_=>first|(cases h2;rfl)|(cases h2)
 | .bl _,e,x,y,a,h2,i,c=>by
  cases a;cases e with
  |t h=>dsimp[pyD,Option.map_eq_some_iff]at h2;obtain⟨g,_,rfl⟩:=h2;rfl|l h=>dsimp[pyD,Option.map_eq_some_iff]at h2;obtain⟨g,_,rfl⟩:=h2;rfl|dic=>cases h2;cases c
  |_=>first|(cases h2;rfl)|(cases h2)
 | .int _,e,x,y,a,h2,i,c=>by
  cases a;cases e with
  |t h=>dsimp[pyD,Option.map_eq_some_iff]at h2;obtain⟨g,_,rfl⟩:=h2;rfl|l h=>dsimp[pyD,Option.map_eq_some_iff]at h2;obtain⟨g,_,rfl⟩:=h2;rfl|dic=>cases h2;cases c
  |_=>first|(cases h2;rfl)|(cases h2)
 | .str _,e,x,y,a,h2,i,c=>by
  cases a;cases e with
  |t h=>dsimp[pyD,Option.map_eq_some_iff]at h2;obtain⟨g,_,rfl⟩:=h2;rfl|l h=>dsimp[pyD,Option.map_eq_some_iff]at h2;obtain⟨g,_,rfl⟩:=h2;rfl|dic=>cases h2;cases c
  |_=>first|(cases h2;rfl)|(cases h2)
 | .dic,_,_,_,a,_,i,_=>by cases a;cases i| .fn _,_,_,_,a,_,_,_=>by cases a| .exn _ _,_,_,_,a,_,_,_=>by cases a| .m _ _,_,_,_,a,_,_,_=>by cases a
theorem eqvs_deq:∀{h i:Ls D} {c a:Ls PyData},pyDs h=some c->pyDs i=some a->PyData.canLayAll0 c=true->PyData.canLayAll0 a=true->PyData.eqvAll c a=deqs h i
 | [],[],c,a,g,h2,_,_=>by cases g;cases h2;rfl
 | [],e::i,c,a,g,h2,_,_=>by
  cases g;obtain⟨y,a,rfl⟩:=zAX h2;rfl
 |d::h,[],c,a,g,h2,_,_=>by
  cases h2;obtain⟨y,a,rfl⟩:=zAX g;rfl
 |d::h,e::i,c,a,g,h2,j,k=>by
  obtain⟨x,c,rfl,n,o⟩:=WV g;obtain⟨y,a,rfl,p,l⟩:=WV h2;dsimp[PyData.canLayAll0,Bool.and_eq_true]at j k;dsimp[PyData.eqvAll,deqs];rw[QY n p j.1 k.1,eqvs_deq o l j.2 k.2]
end
section
variable{X:Cx}
def zHF(S:zBQ X.K)(B:X.A.units+21<cLine):OpR X (compareOp .Eq) (rEqD X.K X.mg false):=by
 intro g s O H x y v u Q I r z h;obtain⟨d,e,w,h2,t,o,q⟩:=h;obtain⟨a,i,c,D⟩:=zAW 20 d w;obtain⟨b,l,j,C⟩:=zAW 20 e h2;obtain⟨_,p,_⟩:=y8 I S t r i;obtain⟨_,n,_⟩:=y8 I S o z l;have k:=SeqAt.rcAt_reads (A:=X.A) p n c j (by omega);rw[QY i l c j]at k;exact k X.prog X.w _ _ ⟨.bl (deq d e),H,I,rfl,q⟩
def zHG(S:zBQ X.K)(B:X.A.units+21<cLine):OpR X (compareOp .NotEq) (rEqD X.K X.mg true):=by
 intro g s O H x y v u Q I r z h;obtain⟨d,e,w,h2,t,o,q⟩:=h;obtain⟨a,i,c,D⟩:=zAW 20 d w;obtain⟨b,l,j,C⟩:=zAW 20 e h2;obtain⟨_,p,_⟩:=y8 I S t r i;obtain⟨_,n,_⟩:=y8 I S o z l;have k:=SeqAt.rcNeAt_reads (A:=X.A) p n c j (by omega);rw[QY i l c j]at k;exact k X.prog X.w _ _ ⟨.bl (!deq d e),H,I,rfl,q⟩
end
inductive Op2 where
 |add|sub|mul|fdiv|mod|pow
def Op2.op:Op2->Operator
 | .add=>.Add | .sub=>.Sub | .mul=>.Mult | .fdiv=>.FloorDiv | .mod=>.Mod | .pow=>.Pow
def Op2.f:Op2->D->D->Lx R
 | .add=>Jt | .sub=>subD | .mul=>vj | .fdiv=>zEx | .mod=>zGq | .pow=>powD
inductive Cp where
 |lt|le|gt|ge|eq|ne|inn|nin
def Cp.op:Cp->CmpOp
 | .lt=>.Lt | .le=>.LtE | .gt=>.Gt | .ge=>.GtE | .eq=>.Eq | .ne=>.NotEq | .inn=>.In | .nin=>.NotIn
def Cp.f:Cp->D->D->Lx R
 | .lt=>ltD | .le=>leD | .gt=>gtD | .ge=>geD | .eq=>eqG | .ne=>neG | .inn=>inG false | .nin=>inG true
def Cp.isI:Cp->Bool
 | .lt | .le | .gt | .ge=>true
 |_=>false
def Cp.b:Cp->Lj
 | .lt=>ltB | .le=>leB | .gt=>gtB|_=>geB
def minI:Ls D->Lx R
 | [.int i,.int j]=>some (.v (.int (if j<i then j else i)))|_=>none
def co_minI{K:qH}{h:Str->Lx Lv}:COk K h (λa H Q=>∃i j,a=[.int i,.int j]/\Q (.int (if j<i then j else i)) H) minI:=by
 intro M H Z a g c Q f r e k
 match g,e with
 | [.int i,.int j],e =>
  cases e;obtain⟨v,n,rfl,l,h2⟩:=reps2 r;exact⟨i,j,by rw[zS l,zS h2],k.flat f rfl⟩
inductive Bi where
 |len|max|all|int|tuple|list|min|repr|lisK
def Bi.nm:Bi->Str
 | .len=>"len" | .max=>"max" | .all=>"all" | .int=>"int" | .tuple=>"tuple" | .list=>"list" | .min=>"min" | .repr=>"repr" | .lisK=>"list"
def Bi.f:Bi->Ls D->Lx R
 | .len=>zEO | .max=>zCb | .all=>allD | .int=>intF | .tuple=>zGr | .list=>listD | .min=>minI | .repr=>zFX | .lisK=>DV.listK
inductive Ty where
 |int|bool|tuple|list|str|dict
def Ty.s:Ty->String
 | .int=>"int" | .bool=>"bool" | .tuple=>"tuple" | .list=>"list" | .str=>"str" | .dict=>"dict"
def Ty.nm:Ty->Str
 | .int=>"int" | .bool=>"bool" | .tuple=>"tuple" | .list=>"list" | .str=>"str" | .dict=>"dict"
inductive Tg where
 |n (i:Nat)
 |t (is:List Nat)
def Tg.m:Tg->MG
 | .n i=>gN i| .t a=>gT a
mutual
inductive Ex where
 |c (d:D)|gl (d:D)|fn (k:Nat)|x (i:Nat)|mov (i:Nat)
 |bin (o:Op2) (a b:Ex)|cmp (o:Cp) (a b:Ex)|chain (o o':Cp) (a b c:Ex)
 |neg (a:Ex)|not (a:Ex)|and (a b:Ex)
 |ifx (t:Tx) (a b:Ex)|t (as:Ax)|l (as:Ax)
 |ix (a b:Ex)|ixO (i:Nat) (b:Ex)|lenO (i:Nat)|sl (a:Ex) (l h:Ox)
 |comp (nl:Nat) (loc capn:Ll) (caps:List Nat) (it:Ix) (tg:Tg) (tt:Tx) (el:Ex)
 |is (T:Ty) (a:Ex)|cB (b:Bi) (as:Ax)|call (k:Nat) (as:Gx)|callV (ks:List Nat) (f:Ex) (as:Gx)
 |stp (k:Bool) (a:Ex)|sset (as:Ax)
 |frz (a:Ex)|isC (cl:Ll) (y:Str) (a:Ex)|isV (cl:Ll) (a:Ex)|cnt (a b:Ex)|idx (a b:Ex)
 |atr (ri:Ll) (f:Str) (a:Ex)
 |dgO (i:Nat) (b:Ex)|dg (a b:Ex)|ninO (i:Nat) (a:Ex)|disp (a b:Ex)|cntL (a b:Ex)
 |dcomp (nl:Nat) (loc capn:Ll) (caps:List Nat) (it:Ix) (tg:Tg) (tt:Tx) (ka va:Ex)
inductive Tx where
 |tOr (a b:Tx)|tNot (a:Tx)|tE (a:Ex)|tBor (i:Nat) (a:Tx)|tTr
inductive Ax where
 |nil|cons (a:Ex) (as:Ax)
inductive Gx where
 |nil|ev (a:Ex) (as:Gx)|lend (i:Nat) (as:Gx)
inductive Ox where
 |oN|oS (a:Ex)
inductive Ix where
 |iL (a:Ex)|iT (a:Ex)|iR1 (as:Ax)|iZ (t1 t2:Bool) (as:Ax)|iZN (t1 t2:Bool) (as:Ax)|iE (t1:Bool) (as:Ax)
end
mutual
inductive Sx where
 |sIf (t:Tx) (a b:Bx)|sSet (i:Nat) (a:Ex)|sRet (a:Ex)|sDrop (a:Ex)|sIx (i:Nat) (b a:Ex)|sApp (i:Nat) (a:Ex)
 |sForL (a:Ex) (tg:Tg) (b:Bx)|sForT (a:Ex) (tg:Tg) (b:Bx)|sForR1 (as:Ax) (tg:Tg) (b:Bx)|sForI (it:Ix) (tg:Tg) (b:Bx)
 |sDput (i:Nat) (b a:Ex)
 |sAny|sTup (is:List Nat) (a:Ex)|sRaiseA (c:Str) (as:Ax)
 |sRaise (c:Str)|sTry (cl:Ll) (b:Bx) (i:Nat) (h:Bx)
 |sWhile (t:Tx) (b:Bx)|sAug (i:Nat) (o:Op2) (a:Ex)
inductive Bx where
 |bNil|o (s:Sx)|s (s:Sx) (b:Bx)
end
structure FI where
 x:Str
 n:Nat
 lv:Nat
 wild:Bool
 F:MF
def fiF(fs:Ls FI)(k:Nat):MF:=match fs[k]? with
 |some i=>i.F|none=>λ_=>.z
def fiX(fs:Ls FI)(k:Nat):Str:=match fs[k]? with
 |some i=>i.x|none=>""
def Op2.aug:Op2->Int->Int->Lx Int
 | .add=>λa b=>some (a+b)| .sub=>λa b=>some (a-b)| .mul=>zDA|_=>λ_ _=>none
def Op2.isAug:Op2->Bool
 | .add | .sub | .mul=>true
 |_=>false
def GL(m:ME):ME:=λE=>match m E with
 | .y _ _=>.z|o=>o
def Wo(m:MS):MS:=λE=>match m E with
 | .y _ _=>.z|o=>o
def QZ{m:ME}{E:za}{p:R×za}(h:m E=.ok p):GL m E=.ok p:=by dsimp[GL,h]
def vq{m:MS}{E:za}{p:Fl×za}(h:m E=.ok p):Wo m E=.ok p:=by dsimp[Wo,h]
def no_E{X:Cx}{e:Lb}{m:ME}(h:EOk X.nox e m):EOk X e (GL m):=zb h.nox λO H Q ⟨M,E,hl,a,k⟩=>by
 unfold GL at k;refine⟨M,E,hl,a,?_⟩;cases e:m E with
 |z=>rw[e]at k;exact k|y x E1=>rw[e]at k;exact k.elim|ok p=>rw[e]at k;exact k
def no_S{X:Cx}{st:Lh}{m:MS}(h:SOk X.nox st m):SOk X st (Wo m):=λa s O H D I ⟨M,E,hl,c,k⟩=>by
 refine wpAny_mono (h a s O H D (I.wish _) ⟨M,E,hl,c,?_⟩) (λ_ _ q=>q.unwish) λ_ _ z=>False.elim z
 unfold Wo at k;cases e:m E with
 |z=>rw[e]at k;exact k|y x E1=>rw[e]at k;exact k.elim
 |ok p =>
  rw[e]at k;obtain⟨g,E1⟩:=p;cases g<;>exact k
def sk_forN{X:Cx}{st:Lh}{c:MI}{tg:MG}{body:MS}(j:PS X st (λD O H=>tMI X c O H λ_ _=>False))(i:SOk X st (Wo (sForI c tg body))):SOk X st (zDH c tg body):=λa s O H D I ⟨M,E,hl,h,k⟩=>by
 unfold zDH at k;cases e:c E with
 |y x E1=>rw[e]at k;exact j a s O H D I ⟨M,E,hl,h,by rw[e];exact λH' g=>k O H' g⟩|z=>rw[e]at k;exact i a s O H D I ⟨M,E,hl,h,k⟩|ok p=>rw[e]at k;exact i a s O H D I ⟨M,E,hl,h,k⟩
def no_set{i:Nat}{m:ME}:Wo (sSet i m)=sSet i (GL m):=by
 funext E
 dsimp[Wo,sSet,GL];cases m E with
 |z=>rfl|y x E1=>rfl
 |ok p =>
  obtain⟨r,E1⟩:=p;dsimp;cases Zi i r E1<;>rfl
mutual
def dE(fs:Ls FI):Ex->ME
 | .c d=>eC d| .gl d=>eC d| .fn k=>eC (.fn (fiX fs k))| .x i=>zBG i| .mov i=>zBI i| .bin o a b=>YN o.f (dE fs a) (dE fs b)| .cmp o a b=>YN o.f (dE fs a) (dE fs b)| .chain o x a b c=>jm o.b x.b (dE fs a) (dE fs b) (dE fs c)| .neg a=>eNeg (dE fs a)| .not a=>zCT (dE fs a)| .and a b=>Q8 (dE fs a) (dE fs b)| .ifx t a b=>eIf (dT fs t) (dE fs a) (dE fs b)| .t as=>zCV (dA fs as)| .l as=>zCW (dA fs as)| .ix a b=>YN ixD (dE fs a) (dE fs b)| .ixO i b=>zGt i (dE fs b)| .lenO i=>zBJ i| .sl a l h=>eSl slD (dE fs a) (dO fs l) (dO fs h)| .comp g _ _ e p n q v=>GL (QE g e (dI fs p) n.m (dT fs q) (dE fs v))| .is T a=>eIs T.s (dE fs a)| .cB b as=>eCB b.f (dA fs as)| .call k as=>jN (fiF fs k) (dG fs as)| .stp k a=>eUn (zFN k) (dE fs a)| .sset as=>eCB zFn (dA fs as)| .isC j y a=>zG3 j (·==y) (dE fs a)| .isV j a=>zG3 j (λ_=>true) (dE fs a)| .frz a=>eFrz (dE fs a)| .cnt a b=>zC3 zFT (dE fs a) (dE fs b)| .cntL a b=>zC3 zFT (dE fs a) (dE fs b)| .idx a b=>zC3 zHA (dE fs a) (dE fs b)| .atr r f a=>eAtr r f (dE fs a)| .dgO i b=>eDgO i (dE fs b)| .dg a b=>YN dgD (dE fs a) (dE fs b)| .ninO i a=>eInO true i (dE fs a)| .disp a b=>zDV (dE fs a) (dE fs b)| .dcomp g _ _ e p n q z u=>GL (zAV g e (dI fs p) n.m (dT fs q) (maD (dE fs z) (dE fs u)))| .callV w f as=>WO (vi (w.map λk=>(fiX fs k,fiF fs k))) (dE fs f) (dG fs as)
def dT(fs:Ls FI):Tx->MT
 | .tOr a b=>Q7 (dT fs a) (dT fs b)| .tNot a=>Yy (dT fs a)| .tE a=>tT (dE fs a)| .tBor i a=>zDG i (dT fs a)| .tTr=>QF
def dA(fs:Ls FI):Ax->MA
 | .nil=>zCU| .cons a as=>Yz (dE fs a) (dA fs as)
def dG(fs:Ls FI):Gx->Ls Arg
 | .ev a as=>.ev (dE fs a)::dG fs as| .lend i as=>.lend i::dG fs as| .nil=>[]
def dO(fs:Ls FI):Ox->MO
 | .oN=>zEz| .oS a=>zCd (dE fs a)
def dI(fs:Ls FI):Ix->MI
 | .iL a=>iL (dE fs a)| .iT a=>iT (dE fs a)| .iR1 as=>iR1 (dA fs as)| .iZ c e as=>iZ c e (dA fs as)| .iZN c e as=>iZ c e (dA fs as)| .iE c as=>iE c (dA fs as)
end
mutual
def dS(fs:Ls FI):Sx->MS
 | .sIf t a b=>sIf (dT fs t) (dB fs a) (dB fs b)| .sSet i a=>sSet i (dE fs a)| .sRet a=>sRet (dE fs a)| .sDrop a=>sDrop (dE fs a)| .sIx i b a=>WK i (dE fs b) (dE fs a)| .sDput i b a=>DV.sDput i (dE fs b) (dE fs a)| .sApp i a=>sApp i (dE fs a)| .sTup k a=>sTup k (dE fs a)| .sRaiseA c as=>DV.sRaiseA c (dA fs as)| .sForL a e b=>Wo (sForL (dE fs a) e.m (dB fs b))| .sForI j e b=>zDH (dI fs j) e.m (dB fs b)| .sForT a e b=>Wo (sForT (dE fs a) e.m (dB fs b))| .sForR1 a e b=>Wo (sForR1 (dA fs a) e.m (dB fs b))| .sAny=>λ_=>.z| .sRaise c=>DV.sRaise c| .sTry g b i h=>DV.sTry g i (dB fs b) (dB fs h)| .sWhile t b=>Wo (DV.sWhile (dT fs t) (dB fs b))| .sAug i o a=>DV.sAug i o.aug (dE fs a)
def dB(fs:Ls FI):Bx->MS
 | .bNil=>zCe| .o s=>dS fs s| .s s b=>G9 (dS fs s) (dB fs b)
end
def rE_c{fs d}:dE fs (.c d)=eC d:=rfl
def rE_gl{fs d}:dE fs (.gl d)=eC d:=rfl
def rE_fn{fs k}:dE fs (.fn k)=eC (.fn (fiX fs k)):=rfl
def Yg{fs i}:dE fs (.x i)=zBG i:=rfl
def zHH{fs i}:dE fs (.mov i)=zBI i:=rfl
def GM{fs o a b}:dE fs (.bin o a b)=YN o.f (dE fs a) (dE fs b):=rfl
def GN{fs o a b}:dE fs (.cmp o a b)=YN o.f (dE fs a) (dE fs b):=rfl
def Zu{fs o o' a b c}:dE fs (.chain o o' a b c)=jm o.b o'.b (dE fs a) (dE fs b) (dE fs c):=rfl
def rE_neg{fs a}:dE fs (.neg a)=eNeg (dE fs a):=rfl
def zAY{fs a b}:dE fs (.and a b)=Q8 (dE fs a) (dE fs b):=rfl
def zHI{fs t a b}:dE fs (.ifx t a b)=eIf (dT fs t) (dE fs a) (dE fs b):=rfl
def rE_tup{fs as}:dE fs (.t as)=zCV (dA fs as):=rfl
def vH{fs as}:dE fs (.l as)=zCW (dA fs as):=rfl
def rE_ix{fs a b}:dE fs (.ix a b)=YN ixD (dE fs a) (dE fs b):=rfl
def zDX{fs i b}:dE fs (.ixO i b)=zGt i (dE fs b):=rfl
def rE_lenO{fs i}:dE fs (.lenO i)=zBJ i:=rfl
def rE_sl{fs a l h}:dE fs (.sl a l h)=eSl slD (dE fs a) (dO fs l) (dO fs h):=rfl
def rE_comp{fs nl u1 u2 caps it tg tt el}:dE fs (.comp nl u1 u2 caps it tg tt el)=GL (QE nl caps (dI fs it) tg.m (dT fs tt) (dE fs el)):=rfl
def rE_is{fs T a}:dE fs (.is T a)=eIs T.s (dE fs a):=rfl
def rE_cB{fs b as}:dE fs (.cB b as)=eCB b.f (dA fs as):=rfl
def jO{fs k as}:dE fs (.call k as)=jN (fiF fs k) (dG fs as):=rfl
def rE_stp{fs k a}:dE fs (.stp k a)=eUn (zFN k) (dE fs a):=rfl
def rE_sset{fs as}:dE fs (.sset as)=eCB zFn (dA fs as):=rfl
def rE_isC{fs cl y a}:dE fs (.isC cl y a)=zG3 cl (·==y) (dE fs a):=rfl
def rE_frz{fs a}:dE fs (.frz a)=eFrz (dE fs a):=rfl
def rE_cntL{fs a b}:dE fs (.cntL a b)=zC3 zFT (dE fs a) (dE fs b):=rfl
def rE_idx{fs a b}:dE fs (.idx a b)=zC3 zHA (dE fs a) (dE fs b):=rfl
def rE_atr{fs ri f a}:dE fs (.atr ri f a)=eAtr ri f (dE fs a):=rfl
def rE_dgO{fs i b}:dE fs (.dgO i b)=eDgO i (dE fs b):=rfl
def rE_dg{fs a b}:dE fs (.dg a b)=YN dgD (dE fs a) (dE fs b):=rfl
def rE_ninO{fs i a}:dE fs (.ninO i a)=eInO true i (dE fs a):=rfl
def rE_disp{fs a b}:dE fs (.disp a b)=zDV (dE fs a) (dE fs b):=rfl
def zFv{fs nl u1 u2 caps it tg tt ka va}:dE fs (.dcomp nl u1 u2 caps it tg tt ka va)=GL (zAV nl caps (dI fs it) tg.m (dT fs tt) (maD (dE fs ka) (dE fs va))):=rfl
def zAZ{fs ks f as}:dE fs (.callV ks f as)=WO (vi (ks.map λk=>(fiX fs k,fiF fs k))) (dE fs f) (dG fs as):=rfl
def zHJ{fs a b}:dT fs (.tOr a b)=Q7 (dT fs a) (dT fs b):=rfl
def zDY{fs a}:dT fs (.tNot a)=Yy (dT fs a):=rfl
def zBX{fs a}:dT fs (.tE a)=tT (dE fs a):=rfl
def rT_tBor{fs i a}:dT fs (.tBor i a)=zDG i (dT fs a):=rfl
def zAa{fs}:dT fs (.tTr)=QF:=rfl
def WW{fs}:dA fs (.nil)=zCU:=rfl
def Qa{fs a as}:dA fs (.cons a as)=Yz (dE fs a) (dA fs as):=rfl
def Jx{fs a as}:dG fs (.ev a as)=.ev (dE fs a)::dG fs as:=rfl
def zDZ{fs i as}:dG fs (.lend i as)=.lend i::dG fs as:=rfl
def jV{fs}:dG fs (.nil)=[]:=rfl
def rO_oN{fs}:dO fs (.oN)=zEz:=rfl
def rO_oS{fs a}:dO fs (.oS a)=zCd (dE fs a):=rfl
def rI_iL{fs a}:dI fs (.iL a)=iL (dE fs a):=rfl
def rI_iT{fs a}:dI fs (.iT a)=iT (dE fs a):=rfl
def rI_iR1{fs as}:dI fs (.iR1 as)=iR1 (dA fs as):=rfl
def rI_iZ{fs t1 t2 as}:dI fs (.iZ t1 t2 as)=iZ t1 t2 (dA fs as):=rfl
def rI_iZN{fs t1 t2 as}:dI fs (.iZN t1 t2 as)=iZ t1 t2 (dA fs as):=rfl
def rI_iE{fs t1 as}:dI fs (.iE t1 as)=iE t1 (dA fs as):=rfl
def GO{fs t a b}:dS fs (.sIf t a b)=sIf (dT fs t) (dB fs a) (dB fs b):=rfl
def WX{fs i a}:dS fs (.sSet i a)=sSet i (dE fs a):=rfl
def wV{fs a}:dS fs (.sRet a)=sRet (dE fs a):=rfl
def zAb{fs a}:dS fs (.sDrop a)=sDrop (dE fs a):=rfl
def zHK{fs i b a}:dS fs (.sIx i b a)=WK i (dE fs b) (dE fs a):=rfl
def zFw{fs i b a}:dS fs (.sDput i b a)=DV.sDput i (dE fs b) (dE fs a):=rfl
def rS_sApp{fs i a}:dS fs (.sApp i a)=sApp i (dE fs a):=rfl
def rS_sTup{fs is a}:dS fs (.sTup is a)=sTup is (dE fs a):=rfl
def zBY{fs c as}:dS fs (.sRaiseA c as)=DV.sRaiseA c (dA fs as):=rfl
def zFx{fs a tg b}:dS fs (.sForL a tg b)=Wo (sForL (dE fs a) tg.m (dB fs b)):=rfl
def zFy{fs it tg b}:dS fs (.sForI it tg b)=zDH (dI fs it) tg.m (dB fs b):=rfl
def zFz{fs a tg b}:dS fs (.sForT a tg b)=Wo (sForT (dE fs a) tg.m (dB fs b)):=rfl
def zDa{fs a tg b}:dS fs (.sForR1 a tg b)=Wo (sForR1 (dA fs a) tg.m (dB fs b)):=rfl
def zDb{fs c}:dS fs (.sRaise c)=DV.sRaise c:=rfl
def zDc{fs cl b i h}:dS fs (.sTry cl b i h)=DV.sTry cl i (dB fs b) (dB fs h):=rfl
def zDd{fs t b}:dS fs (.sWhile t b)=Wo (DV.sWhile (dT fs t) (dB fs b)):=rfl
def rS_sAug{fs i o a}:dS fs (.sAug i o a)=DV.sAug i o.aug (dE fs a):=rfl
def vt{fs}:dB fs (.bNil)=zCe:=rfl
def wz{fs s}:dB fs (.o s)=dS fs s:=rfl
def JA{fs s b}:dB fs (.s s b)=G9 (dS fs s) (dB fs b):=rfl
structure Sg where
 N:Ll
 sc:Scope
 top:Bool
 cs:List (Str×D)
 fs:List FI
 bs:Ll
 lv:Nat
 calm:Bool
 cl:Ll
 rs:Ll
 oc:Ll
 ri:Ll
def kIs(sg:Sg)(x:Str)(k:NameKind):Bool:=sg.sc.names.lookup x==some k
def vis(sg:Sg)(i:Nat)(x:Str):Bool:=sg.N[i]?==some x&&(kIs sg x .local||(kIs sg x .cell||kIs sg x .free))&&(!(x==("__debug__":Str))&&!(x==("__classdict__":Str)))
def glb(sg:Sg)(x:Str):Bool:=kIs sg x .globalImplicit&&!(x==("__debug__":Str))
def locd(sg:Sg)(i:Nat)(x:Str):Bool:=sg.N[i]?==some x&&(kIs sg x .local||(kIs sg x .cell&&(sg.top||sg.oc.contains x)))
def cIs:D->Const->Bool
 | .non,.none=>true| .bl b,.bool c=>b==c| .int i,.int j=>i==j| .str x,.str y=>x==y|_,_=>false
def feq:D->D->Bool
 | .non,.non=>true| .bl b,.bl c=>b==c| .int i,.int j=>i==j| .str x,.str y=>x==y|_,_=>false
abbrev geq(d e:D):Bool:=feq d e
def gIs(sg:Sg)(x:Str)(d:D):Bool:=match sg.cs.lookup x with
 |some a=>geq d a|none=>false
def fIs(sg:Sg)(k:Nat)(x:Str):Bool:=match sg.fs[k]? with
 |some i=>i.x==x|none=>false
def fArg(sg:Sg)(n:Nat)(k:Nat):Bool:=match sg.fs[k]? with
 |some i=>i.n==n&&decide (i.lv<=sg.lv)&&(sg.calm||i.wild)
 |none=>false
def bIn(sg:Sg)(x:Str):Bool:=sg.bs.contains x
def gLen:Gx->Nat
 | .ev _ as=>gLen as+1| .lend _ as=>gLen as+1| .nil=>0
def zBZ:Tg->Sg->Lb->Bool
 | .n i,a,e=>match e with
  | .Name x _=>locd a i x|_=>false
 | .t g,a,e=>match e with
  | .Tuple c _ _=>all2 a g c|_=>false
where all2 (a:Sg):Ls Nat->Ls Lb->Bool
 | [],[]=>true
 |i::g,e::c=>(match e with | .Name x _=>locd a i x|_=>false)&&all2 a g c
 |_,_=>false
def relab(a:Scope)(sc:Scope):Scope:={a with names:=a.names.map λ(n,k)=>if(k==NameKind.free&&sc.kind==.function&&sc.names.lookup n==some .cell)then(n,NameKind.cell)else(n,k)}
def capB(sg:Sg)(a:Scope):Ls Nat->Ls Str->Bool
 | [],[]=>true|j::js,x::xs=>sg.N[j]?==some x&&a.names.lookup x==some .free&&capB sg a js xs|_,_=>false
def uK(sg:Sg)(N:Ls Str)(a:Scope):Sg:={sg with N:=N,sc:=relab a sg.sc,top:=false,oc:=(a.names.filter λy=>y.2==.cell).map Prod.fst}
def zDe(sg:Sg)(nl:Nat)(loc c:Ls Str)(caps:Ls Nat)(a:Scope):Bool :=
 loc.length==nl&&a.kind==.function&&decide (loc++c).Nodup&&a.names.all (λy=>y.2 != .local||a.names.lookup y.1==some .local)&&a.names.all (λy=>y.2 != .cell||a.names.lookup y.1==some .cell)
  && a.names.all (λy=>y.2 != .free||sg.sc.names.lookup y.1==some .cell)&&capB sg a caps c
def stIs:Bool->Lb->Bool
 |true,e=>match e with
  | .Constant (.int i) _ _=>i==2|_=>false
 |false,e=>match e with
  | .UnaryOp .USub (.Constant (.int i) _ _) _=>i==1|_=>false
def swOk(sg:Sg)(es:Ls Lb)(v:Lb):Bool:=match v with
 | .Tuple a _ _=>es.any (λe=>match e with | .Name x _=>!(kIs sg x .local)|_=>true)||a.all (foldedForSure 8)
 |_=>true
def swB(sg:Sg)(x:Str)(c:Pos)(a:Scope)(e:Pos):Bool:=kIs sg x .local&&c.line==e.line&&!(a.names.any λy=>y.1==x&&(y.2==.local||y.2==.cell))
def isCo:Ex->Bool
 | .comp _ _ _ _ _ _ _ _=>true|_=>false
def setOk(sg:Sg)(x:Str)(g:Pos)(a:Ex)(v:Lb):Bool:=match v with
 | .ListComp _ _ c e=>sg.sc.kind==.function&&(!swB sg x g c e||isCo a)
 | .DictComp _ _ _ c e=>sg.sc.kind==.function&&!swB sg x g c e|v=>Yx v
def isTr:Tx->Bool
 | .tTr=>true|_=>false
def chkZ:Ix->Lb->Bool
 | .iZ _ _ _,e=>match e with
  | .Tuple _ _ _=>true|_=>false
 | .iZN _ _ _,e=>match e with
  | .Name _ _=>true|_=>false
 | .iE _ _,e=>match e with
  | .Tuple _ _ _=>true|_=>false
 |_,_=>true
structure SgOk(X:Cx)(sg:Sg):Prop where
 N:X.N=sg.N
 sc:X.env.scope=sg.sc
 fn:sg.top=true->∀x,X.fn x=true
 oc:∀x∈sg.oc,X.env.scope.names.lookup x=some .cell->X.fn x=true
 calm:sg.calm=true->X.calm=true
 hd:sg.calm=true->X.A.handled=none
 stk:sg.top=true->X.stack=X.env::X.outer/\X.env.frame=some X.env.locals
 nd:X.N.Nodup
 cs:∀x d,sg.cs.lookup x=some d->∃u v,X.mg x=some u/\ym v u/\∀H,Rep X.K X.mg H d v
 fs:∀i∈sg.fs,∃f fd ps,X.mg i.x=some (.ref f)/\keepIn X.K (.ref f)=true/\wt X.K fd ps []/\ps.length=i.n/\FnOkN (!i.wild) X.prog X.w X.K X.mg X.base i.lv f fd ps (spM X.K X.mg i.n i.F)
 bs:∀x∈sg.bs,X.mg x=none
 room:RoomN sg.lv X.A
 cl:sg.cl≠[]->∃T,X.mg "ThrowError"=some (.ref T)/\TCls X.K T/\∀c∈sg.cl,∃C,X.mg c=some (.ref C)/\XCls X.K c C T/\C≠T
 rs:∀c∈sg.rs,∃C,X.mg c=some (.ref C)/\excJ X.K C=true
 sm:zBQ X.K
 ri:∀c∈sg.ri,RIok X.prog X.w X.K X.mg X.base c/\RAok X.K X.mg c
section
variable{X:Cx}{sg:Sg}
def Yh(G:SgOk X sg){x:Str}{k:NameKind}(h:kIs sg x k=true):X.env.scope.names.lookup x=some k:=by
 rw[G.sc];simpa[kIs]using h
def yJ(G:SgOk X sg){x:Str}(h:glb sg x=true):Gl X x/\(x==("__debug__":Str))=false:=by
 dsimp[glb,Bool.and_eq_true,Bool.not_eq_true']at h;exact⟨Yh G h.1,h.2⟩
def JB(G:SgOk X sg){x:Str}{i:Nat}{pos:Pos}(h:vis sg i x=true):PE X (.Name x pos) (YC i):=by
 dsimp[vis,Bool.and_eq_true,Bool.or_eq_true,Bool.not_eq_true']at h;refine zGb (by rw[G.N];exists h.1.1) ?_ h.2.1 h.2.2;rcases h.1.2 with q|q|q
 ·exact .inl (Yh G q)
 ·exact .inr (.inl (Yh G q))
 ·exact .inr (.inr (Yh G q))
def vw(G:SgOk X sg){x:Str}{i:Nat}(h:locd sg i x=true):X.N[i]?=some x/\Loc X.env.scope x/\(X.fn x=true\/X.env.scope.names.lookup x=some .local):=by
 dsimp[locd,Bool.and_eq_true,Bool.or_eq_true]at h;refine⟨by rw[G.N];simpa using h.1,?_⟩;rcases h.2 with q|q
 ·exact⟨.inl (Yh G q),.inr (Yh G q)⟩
 ·refine⟨.inr (Yh G q.1),.inl ?_⟩
  rcases q.2 with a|a
  ·exact G.fn a x
  ·exact G.oc x (by exists a) (Yh G q.1)
def jv(G:SgOk X sg){x:Str}(h:bIn sg x=true):X.mg x=none:=G.bs x (by simpa[bIn]using h)
def feq_of{d d':D}(h:feq d d'=true):d=d':=by
 cases d<;>cases d'<;>simp[feq]at h<;>first|rfl|(subst h;rfl)
def geq_of{d d':D}(h:geq d d'=true):d=d':=feq_of h
def ok_glR{x:Str}{d:D}{u:Lv}{v:V}{pos:Pos}(c:Gl X x)(g:X.mg x=some u)(r:ym v u)(e:∀H,Rep X.K X.mg H d v)(hd:(x==("__debug__":Str))=false):EOk X (.Name x pos) (eC d) :=
 zb (Gr c g r hd) λO H Q ⟨M,E,hl,a,k⟩=>k _ H ((Got.refl (T0:=[]) hl a).more (T:=[(some v,.v d)]) (FR.add a (e _)) Step.refl.add)
def zHL{k:Nat}{x:Str}(h:fIs sg k x=true):∃i,sg.fs[k]?=some i/\i.x=x:=by
 unfold fIs at h;split at h
 ·rename_i i e;exact⟨i,e,by exists h⟩
 ·cases h
def zDf{k n:Nat}(h:fArg sg n k=true):∃i,sg.fs[k]?=some i/\i.n=n/\i.lv<=sg.lv/\(sg.calm||i.wild)=true:=by
 unfold fArg at h;split at h
 ·rename_i i e
  dsimp[Bool.and_eq_true,decide_eq_true_eq,beq_iff_eq]at h;exact⟨i,e,h.1.1,h.1.2,by exists h.2⟩
 ·cases h
def hd_of(G:SgOk X sg){b:Bool}(h:(sg.calm||b)=true):(!b)=true->X.A.handled=none:=λa=>G.hd (by
 cases b with
 |true=>cases a|false=>exists h)
def zAc{fs:Ls FI}{k:Nat}{i:FI}(h:fs[k]?=some i):fiF fs k=i.F/\fiX fs k=i.x:=by
 unfold fiF fiX;rw[h];exact⟨rfl,rfl⟩
def JS{b:Lb}(h:uf b=true):Yt b:=by
 intro o i;cases b<;>first|rfl|(cases h)
def ZR(c:Ls Lb)(a:Ls Nat)(G:SgOk X sg)(h:zBZ.all2 sg a c=true):PGs X c (Jv a)/\(assignEach c X.env).length=a.length/\(assignEach c X.env).findIdx? (·.1)=none:=by
 induction c generalizing a with
 |nil =>
  cases a with
  |nil=>exact⟨pgs_nil,rfl,rfl⟩|cons i a=>cases h
 |cons e c j =>
  cases a with
  |nil=>cases h
  |cons i a =>
   dsimp[zBZ.all2,Bool.and_eq_true]at h;obtain⟨g,h2⟩:=h;cases e with
   |Name x k =>
    obtain⟨q,l,o⟩:=vw G g;obtain⟨p,r,n⟩:=j a h2;refine⟨zEV (zBm G.nd q l o) p rfl,?_,?_⟩
    ·show(assignEach c X.env).length+1=_
     rw[r];rfl
    ·show List.findIdx? _ ((false,_)::assignEach c X.env)=none
     dsimp[List.findIdx?_cons,n];rfl
   |_=>cases g
def gOf(K:qH):Tg->TG
 | .n i=>Gv i| .t a=>gTup K a.length (Jv a)
def Z5(tg:Tg):GOk X (gOf X.K tg) tg.m:=by
 cases tg with
 |n i=>exact go_name i|t a=>exact zGu a rfl
def Qb{tg:Tg}{t:Lb}(g:sg.calm=true)(G:SgOk X sg)(h:zBZ tg sg t=true):PG X t (gOf X.K tg):=by
 cases tg with
 |n i =>
  dsimp[zBZ]at h;cases t with
  |Name x a =>
   obtain⟨j,c,e⟩:=vw G h;exact zBm G.nd j c e
  |_=>cases h
 |t l =>
  dsimp[zBZ]at h;cases t with
  |Tuple o k a =>
   obtain⟨j,c,e⟩:=ZR o l G h;exact zGd (G.calm g) j c e
  |_=>cases h
def zF0(G:SgOk X sg){N:Ls Str}{a:Scope}(hn:N.Nodup)(c:∀y∈a.names,y.2=.cell->a.names.lookup y.1=some .cell){cl C ex s H}:SgOk (cxB X N a cl C ex s H) (uK sg N a) where
 N:=rfl
 sc:=by
  show relabel a X.env=relab a sg.sc
  rw[<- G.sc];rfl
 fn:=λh=>by cases h
 oc:=λx h _=>by
  obtain⟨y,e,rfl⟩:=mem_map.mp (show x∈(a.names.filter λy=>y.2==.cell).map Prod.fst from h);obtain⟨i,g⟩:=mem_filter.mp e;show(a.names.lookup y.1==some NameKind.cell)=true;rw[c y i (by exists g)];rfl
 calm:=G.calm
 hd:=G.hd
 stk:=λh=>by cases h
 nd:=hn
 cs:=G.cs
 fs:=G.fs
 bs:=G.bs
 room:=G.room
 cl:=G.cl
 rs:=G.rs
 sm:=G.sm
 ri:=G.ri
def yh(G:SgOk X sg):SgOk X.nox sg:=⟨G.N,G.sc,G.fn,G.oc,G.calm,G.hd,G.stk,G.nd,G.cs,G.fs,G.bs,G.room,G.cl,G.rs,G.sm,G.ri⟩
def tr_ok(G:SgOk X sg)(pn:Ls (Lz×Obj))(E:Ly):SgOk (trX X pn E) sg:=⟨G.N,G.sc,G.fn,G.oc,G.calm,G.hd,G.stk,G.nd,G.cs,G.fs,G.bs,G.room,G.cl,G.rs,G.sm,G.ri⟩
def hd_ok(G:SgOk X sg)(a:Lz):SgOk (hdX X a) {sg with calm:=false}:=⟨G.N,G.sc,G.fn,G.oc,λh=>by(cases h),λh=>by(cases h),G.stk,G.nd,G.cs,G.fs,G.bs,⟨G.room.gd,G.room.dp,G.room.un⟩,G.cl,G.rs,G.sm,G.ri⟩
end
section
open Bool
def kit_of(K:qH)(T:Ty):Kit K T.s:=by
 cases T
 ·exact kit_int K
 ·exact zFH K
 ·exact zCv K
 ·exact zFI K
 ·exact kit_str K
 ·exact zFJ K
def bt_of(T:Ty):bootBuiltins T.nm=some (.type T.s):=by
 cases T
 ·exact zGx
 ·exact bt_bool
 ·exact zAE
 ·exact QH
 ·exact bt_str
 ·exact bt_dict
def nm_of(T:Ty):T.nm≠"__name__":=by cases T<;>left
def bin_of{X:Cx}{o:Op2}{a b:Lb}{ma g:ME}{pos:Pos}(c:EOk X a ma)(e:EOk X b g):EOk X (.BinOp a o.op b pos) (YN o.f ma g):=by
 cases o
 ·exact zBH op_addD ro_add c e
 ·exact zBH op_sub ro_sub c e
 ·exact zBH (op_mulD.or op_repL) ro_mulG c e
 ·exact zBH zEw ro_fdiv c e
 ·exact zBH op_mod ro_mod c e
 ·exact zBH op_pow ro_pow c e
def zAd{X:Cx}{sg:Sg}(G:SgOk X sg):X.A.units+21<cLine:=by have:=G.room.un;omega
def wn{X:Cx}{sg:Sg}(G:SgOk X sg):X.A.units+20<cLine:=by have:=G.room.un;omega
def bt_repr:bootBuiltins "repr"=some (.builtin "repr"):=by left
def room64{X:Cx}{sg:Sg}(G:SgOk X sg):X.A.units+64<cLine:=by have:=G.room.un;omega
def yA{a:CmpOp}{b:Lb}(h:jl b=true):behindInMarks a b=false:=by
 cases b<;>first|rfl|(cases h)
def cmp_of{X:Cx}{sg:Sg}(G:SgOk X sg){o:Cp}{a b:Lb}{ma g:ME}{pos:Pos}(hn:jl b=true)(c:EOk X a ma)(e:EOk X b g):EOk X (.Compare a [o.op] [b] pos) (YN o.f ma g):=by
 cases o
 ·exact ZN op_lt ro_lt (yA hn) c e
 ·exact ZN op_le ro_le (yA hn) c e
 ·exact ZN op_gt ro_gt (yA hn) c e
 ·exact ZN op_ge ro_ge (yA hn) c e
 ·exact ZN (op_eq.or (zHF G.sm (zAd G))) zG0 (yA hn) c e
 ·exact ZN (op_ne.or (zHG G.sm (zAd G))) zG1 (yA hn) c e
 ·exact ZN (uV.or (zG9 G.sm (wn G))) (zAM (neg:=false)) (yA hn) c e
 ·exact ZN (ZK.or (zDI G.sm (wn G))) (zAM (neg:=true)) (yA hn) c e
def cmpT_of{X:Cx}{sg:Sg}(G:SgOk X sg){o:Cp}{a b:Lb}{ma g:ME}{pos:Pos}(hn:jl b=true)(c:EOk X a ma)(e:EOk X b g):TOk X (.Compare a [o.op] [b] pos) (tT (YN o.f ma g)):=by
 cases o
 ·exact wv op_lt ro_lt (yA hn) c e
 ·exact wv op_le ro_le (yA hn) c e
 ·exact wv op_gt ro_gt (yA hn) c e
 ·exact wv op_ge ro_ge (yA hn) c e
 ·exact wv (op_eq.or (zHF G.sm (zAd G))) zG0 (yA hn) c e
 ·exact wv (op_ne.or (zHG G.sm (zAd G))) zG1 (yA hn) c e
 ·exact wv (uV.or (zG9 G.sm (wn G))) (zAM (neg:=false)) (yA hn) c e
 ·exact wv (ZK.or (zDI G.sm (wn G))) (zAM (neg:=true)) (yA hn) c e
def zDg{o a:CmpOp}{b c:Lb}(h:jl c=true):lastMarks [o,a] [b,c]=false:=yA h
def zAe{X:Cx}{o:Cp}(h:o.isI=true):OpR X (compareOp o.op) (rI0 λi j=>.bl (o.b i j)):=by
 cases o<;>first|exact op_lt|exact op_le|exact op_gt|exact op_ge|(cases h)
def bi_of{X:Cx}{sg:Sg}(c:sg.calm=true)(G:SgOk X sg)(b:Bi){x:Lb}{es:Ls Lb}{m:MA}{p pos:Pos}(g:Gl X b.nm)(a:X.mg b.nm=none)(i:yO (x::es)=true)(h:AOk X (x::es) m):EOk X (.Call (.Name b.nm p) (x::es) [] pos) (eCB b.f m):=by
 have e:zW x=false:=by dsimp[yO,Bool.and_eq_true,Bool.not_eq_true']at i;exact i.1
 have h2:yO es=true:=by dsimp[yO,Bool.and_eq_true,Bool.not_eq_true']at i;exact i.2
 cases b with
 |len=>exact YO ZL co_len g a bt_len h (by left) (by left) e h2|max=>exact YO (zBz (G.calm c)) co_max g a bt_max h (by left) (by left) e h2|all=>exact YO (zEs (G.calm c)) co_all g a bt_all h (by left) (by left) e h2|int=>exact YQ zB1 co_int g a zGx h (by left) (by left) e h2|tuple=>exact YQ vR zEy g a zAE h (by left) (by left) e h2|list=>exact YQ uW co_list g a QH h (by left) (by left) e h2|min=>exact YO (zB0 (G.calm c)) co_minI g a bt_min h (by left) (by left) e h2|repr=>exact YO (zBR G.sm G.room.gd (room64 G)) co_repr g a bt_repr h (by left) (by left) e h2|lisK=>exact YQ (zBW (G.calm c)) zFu g a QH h (by left) (by left) e h2
theorem zAf(fs:Ls FI):∀as:Gx,(dG fs as).length=gLen as
 | .nil=>rfl| .ev a as=>congrArg (·+1) (zAf fs as)| .lend i as=>congrArg (·+1) (zAf fs as)
def call_ok{X:Cx}{sg:Sg}(G:SgOk X sg){k:Nat}{as:Gx}{f:Str}{x:Lb}{es:Ls Lb}{p pos:Pos}(w:glb sg f=true)(B:fIs sg k f=true)(q:fArg sg (gLen as) k=true)(e:yO (x::es)=true)(y:zE9 X (x::es) (dG sg.fs as)):EOk X (.Call (.Name f p) (x::es) [] pos) (jN (fiF sg.fs k) (dG sg.fs as)):=by
 obtain⟨n,v⟩:=yJ G w;obtain⟨i,g,l⟩:=zHL B;obtain⟨D,c,u,t,z⟩:=zDf q;rw[g]at c;cases c;obtain⟨a,H,E,r,o,C,h,j⟩:=G.fs i (mem_of_getElem? g);rw[(zAc g).1];subst l;dsimp[yO,Bool.and_eq_true,Bool.not_eq_true']at e;rw[<- h]at j;exact ok_call j (hd_of G z) (G.room.mono t) n r o C y (by rw[zAf,h,u]) v e.1 e.2
theorem zHM{X:Cx}{sg:Sg}(G:SgOk X sg){n:Nat}:∀{c:Ls Nat},c.all (fArg sg n)=true->zBK X n (vi (c.map λk=>(fiX sg.fs k,fiF sg.fs k)))
 | [],_=>tab_nil
 |k::c,h=>by
  dsimp[all_cons,Bool.and_eq_true]at h;obtain⟨i,e,q,p,r⟩:=zDf h.1;obtain⟨a,v,u,l,j,o,t,g⟩:=G.fs i (mem_of_getElem? e);dsimp[map_cons];rw[(zAc e).1,(zAc e).2];rw[q]at g;exact zFM l j g (hd_of G r) (G.room.mono p) o (zHM G h.2)
theorem zHN{X:Cx}{sg:Sg}(G:SgOk X sg){a:Scope}:∀{e:Ls Nat} {c:Ls Str},capB sg a e c=true->zFL X a e c
 | [],[],_=>trivial| [],_::_,h=>by cases h|_::_,[],h=>by cases h
 |j::g,x::i,h=>by
  dsimp[capB,Bool.and_eq_true]at h;exact⟨by rw[G.N];simpa using h.1.1,by simpa using h.1.2,zHN G h.2⟩
end
section
def zHO{x:Str}{p a:Pos}{b:Lb}{env:Env}(h:uf b=true):∀v,assign (.Subscript (.Name x p) b a) env v=(do
   let ov <- holding [v] (eval (.Name x p) env)
   let iv <- holding [v,ov] (eval b env)
   standAt a
   holding [v,ov,iv] (setItem ov iv v)
   release [v,ov,iv] []):=by
 intro v;cases b<;>first|rfl|(cases h)
def zDh{t e:Lb}{l:Nat}{env:Env}(h:Yx e=true):swapsWithSole [t] e l env=pure false:=by
 show swapsWith e (some t) l env=pure false
 exact vX h
def zF1{a b e:Lb}{p:Pos}{l:Nat}{env:Env}:swapsWithSole [.Subscript a b p] e l env=pure false:=by cases e<;>rfl
def st_of{X:Cx}{k:Bool}{st:Lb}(h:stIs k st=true):PE X st (tC (.int (yy k))):=by
 cases k with
 |true =>
  dsimp[stIs]at h;split at h
  ·have:=beq_iff_eq.mp h;subst this
   exact zBk
  ·cases h
 |false =>
  dsimp[stIs]at h;split at h
  ·have:=beq_iff_eq.mp h;subst this
   exact zb (pe_un zGh zBk) λO H Q q=>⟨1,rfl,q⟩
  ·cases h
def zDi{X:Cx}{sg:Sg}(G:SgOk X sg)(h:(sg.sc.kind==ScopeKind.function)=true):X.env.blockKind=.function:=by
 have:X.env.scope.kind=.function:=by rw[G.sc];exact beq_iff_eq.mp h
 unfold Env.blockKind;rw[this];rfl
def sw_valD{X:Cx}{sg:Sg}(G:SgOk X sg)(i:(sg.sc.kind==ScopeKind.function)=true){g h:Lb}{j:Ls Comprehension}{a:Scope}{c e:Pos}{x:Str}{l:Nat}:swapsWith (.DictComp g h j a c) (some (.Name x e)) l X.env=pure (swB sg x e a c):=by
 show(pure (X.env.blockKind==.function&&X.env.kindOf x==some .local&&e.line==c.line&&!(a.names.any λ(n,k)=>n==x&&(k==.local||k==.cell))):Sem Bool)=_
 rw[zDi G i];unfold swB kIs Env.kindOf;rw[G.sc];simp
def zHP{X:Cx}{sg:Sg}(G:SgOk X sg)(g:(sg.sc.kind==ScopeKind.function)=true){el:Lb}{h:Ls Comprehension}{a:Scope}{c e:Pos}{x:Str}{l:Nat}:swapsWith (.ListComp el h a c) (some (.Name x e)) l X.env=pure (swB sg x e a c):=by
 show(pure (X.env.blockKind==.function&&X.env.kindOf x==some .local&&e.line==c.line&&!(a.names.any λ(n,k)=>n==x&&(k==.local||k==.cell))):Sem Bool)=_
 rw[zDi G g];unfold swB kIs Env.kindOf;rw[G.sc];simp
theorem zHQ{α β:Type}(f:α->Lx β):∀l:Ls α,(l.filterMap f).length<=l.length
 | []=>le_refl _
 |a::l=>by
  have:=zHQ f l;rw[filterMap_cons];split
  ·dsimp[length_cons];omega
  ·dsimp[length_cons];omega
theorem fm_lt{α β:Type}(f:α->Lx β):∀l:Ls α,(∃a∈l,f a=none)->(l.filterMap f).length<l.length
 | [],h=>by obtain⟨a,h,_⟩:=h;cases h
 |b::l,h=>by
  obtain⟨a,c,hf⟩:=h;rw[filterMap_cons];rcases mem_cons.mp c with rfl|c
  ·rw[hf]
   have:=zHQ f l;dsimp[length_cons];omega
  ·have:=fm_lt f l ⟨a,c,hf⟩
   split
   ·dsimp[length_cons];omega
   ·dsimp[length_cons];omega
def sw_ok{X:Cx}{sg:Sg}(G:SgOk X sg){es:Ls Lb}{k:Nat}{p:Pos}{v:Lb}(h:swOk sg es v=true):swappedStores [.Tuple es k p] v X.env=pure none:=by
 cases v with
 |Tuple l n o =>
  unfold swappedStores;dsimp;split
  ·rfl
  split
  ·rfl
  split
  ·rfl
  rename_i c;split
  ·rfl
  rename_i hf
  exfalso
  rcases Bool.or_eq_true _ _ |>.mp h with h|h
  ·obtain⟨e,a,j⟩:=List.any_eq_true.mp h
   refine c (Bool.or_eq_true _ _ |>.mpr (.inl ?_));refine bne_iff_ne.mpr (ne_of_lt (fm_lt _ es ⟨e,a,?_⟩));cases e with
   |Name x q =>
    have:X.env.kindOf x≠some .local:=λz=>by
     have i:sg.sc.names.lookup x=some .local:=by rw[<- G.sc];exact z
     simp[kIs,i]at j
    have g:(X.env.kindOf x==some NameKind.local)=false:=by exists this
    simp[g]
   |_=>rfl
  ·exact hf h
 |_=>rfl
def w_of_t{X:Cx}{a:BoolOp}{vs:Ls Lb}{p:Pos}{m:MT}(h:TOk X (.BoolOp a vs p) m):WOk X (.BoolOp a vs p) m:=λc=>h
def zAg{e:Lb}{env:Env}{a:Pos}(h:zW e=false):((backTo a (starEach (e::[]) env)).all (λx=>!x.1)&&(backToKw a (keywordEach [] env)).all (λx=>x.1.isSome)
   && decide ((e::([]:Ls Lb)).length+([]:Ls Keyword).length+(if([]:Ls Keyword).isEmpty then 0 else 1)<30))=true:=by
 rw[zM h];rfl
def GP{a b:Bool}(h:(a&&b)=true):a=true/\b=true:=by exists h
def nst{a:Bool}(h:(!a)=true):a=false:=by exists h
def vx:bootBuiltins "ValueError"=some (.type "ValueError"):=by left
def zDj{X:Cx}{sg:Sg}(G:SgOk X sg)(i:sg.calm=true){nl:Nat}{loc c:Ls Str}{caps:Ls Nat}{a:Scope}(g:zDe sg nl loc c caps a=true):CSc X.nox a nl caps (loc++c)/\∀l C w s H,SgOk (cxB X.nox (loc++c) a l C w s H) (uK sg (loc++c) a):=by
 unfold zDe at g;obtain⟨g,v⟩:=GP g;obtain⟨g,o⟩:=GP g;obtain⟨g,t⟩:=GP g;obtain⟨g,r⟩:=GP g;obtain⟨g,p⟩:=GP g;obtain⟨k,q⟩:=GP g;have j:∀y∈a.names,y.2=.cell->a.names.lookup y.1=some .cell:=λy h u=>by
  have:=all_eq_true.mp t y h;rw[u]at this;exists this
 refine⟨csc_of loc c (beq_iff_eq.mp k) (λe s z=>z) (G.calm i) (beq_iff_eq.mp q) (λy h hl=>?_) j (by rw[show X.nox.env.kindOf=λn=>X.env.scope.names.lookup n from rfl,G.sc];exact o) (zHN (yh G) v),λ_ _ _ _ _=>zF0 (yh G) (of_decide_eq_true p) j⟩;have:=all_eq_true.mp r y h;rw[hl]at this;exists this
def zDk{X:Cx}{fs:Ls FI}{tt:Tx}(h:isTr tt=true):zGw X [] (dT fs tt):=by
 cases tt<;>first|(cases h;done)|exact ifk_nil
def gkE{t:Ex}{sg:Sg}{e:Lb}{X:Cx}{c:Ck (∀X,SgOk X sg->EOk X e (dE sg.fs t))}(h:c.yes=true)(G:SgOk X sg):EOk X e (dE sg.fs t):=c.why h X G
def gkT{t:Tx}{sg:Sg}{e:Lb}{X:Cx}{c:Ck (∀X,SgOk X sg->TOk X e (dT sg.fs t))}(h:c.yes=true)(G:SgOk X sg):TOk X e (dT sg.fs t):=c.why h X G
def gkB{t:Bx}{sg:Sg}{e:Ls Lh}{X:Cx}{c:Ck (∀X,SgOk X sg->uJ X e (dB sg.fs t))}(h:c.yes=true)(G:SgOk X sg):uJ X e (dB sg.fs t):=c.why h X G
mutual
noncomputable def cE:(t:Ex)->(sg:Sg)->(e:Lb)->Ck (∀X,SgOk X sg->EOk X e (dE sg.fs t))
 | .c d,sg,e=>qConstant e λk _ _=>bk (cIs d k) λh=>rt λX G=>by
   unfold cIs at h;split at h
   ·exact ok_non
   ·have:=(beq_iff_eq.mp h);subst this;exact ok_bl
   ·have:=(beq_iff_eq.mp h);subst this;exact ok_int
   ·have:=(beq_iff_eq.mp h);subst this;exact ok_str
   ·cases h
 | .gl d,sg,e=>qName e λx _=>bk (glb sg x) λE=>bk (gIs sg x d) λh2=>rt λX G=>by
   obtain⟨g1,g2⟩:=yJ G E;unfold gIs at h2;split at h2
   ·rename_i d' e
    have:=geq_of h2;subst this;obtain⟨u,v,q1,q2,q3⟩:=G.cs x d e;exact ok_glR g1 q1 q2 q3 g2
   ·cases h2
 | .fn k,sg,e=>qName e λx _=>bk (glb sg x) λE=>bk (fIs sg k x) λh2=>rt λX G=>by
   obtain⟨g1,g2⟩:=yJ G E;obtain⟨i,e1,e2⟩:=zHL h2;obtain⟨a,fd,ps,m1,m2,m3,m4,m5⟩:=G.fs i (mem_of_getElem? e1);show EOk X _ (eC (.fn (fiX sg.fs k)));rw[(zAc e1).2];subst e2;exact ok_fn g1 m1 g2
 | .x i,sg,e=>qName e λx _=>bk (vis sg i x) λh=>rt λX G=>ok_var i (JB G h)| .mov i,sg,e=>qName e λx _=>bk (vis sg i x) λh=>rt λX G=>ok_move i (JB G h)| .bin o a b,sg,e=>qBinOp e λx op y _=>bq op o.op λE=>(cE a sg x).d λh2=>(cE b sg y).d λM=>rt λX G=>by subst E;exact bin_of (h2 _ G) (M _ G)
 | .cmp o a b,sg,e=>qCompare e λx n B _=>qCons n λop Q=>qNil Q <| qCons B λy D=>qNil D <| bq op o.op λE=>bk (jl y) λh0=>(cE a sg x).d λh2=>(cE b sg y).d λM=>rt λX G=>by subst E;exact cmp_of G h0 (h2 _ G) (M _ G)
 | .chain o o' a b c,sg,e=>qCompare e λx n B _=>qCons n λop S=>qCons S λae w6=>qNil w6 <| qCons B λy D=>qCons D λz Q=>qNil Q <| bq op o.op λO=>bq (ae) (o'.op) λR=>bk (o.isI) λL=>bk (o'.isI) λZ=>bk (jl z) λk5=>(cE a sg x).d λh2=>(cE b sg y).d λM=>(cE c sg z).d λh4=>rt λX G=>by subst O R;exact zFK (zAe L) (zAe Z) (h2 _ G) (M _ G) (h4 _ G) (zDg k5)
 | .neg a,sg,e=>qUnaryOp e λn x _=>qUSub n <| (cE a sg x).d λh=>rt λX G=>ok_neg (h _ G)
 | .not a,sg,e=>qUnaryOp e λn x _=>qNot n <| (cE a sg x).d λh=>rt λX G=>ok_not (h _ G)
 | .and a b,sg,e=>qBoolOp e λn B p=>qAnd n <| qCons B λx D=>qCons D λy r=>(cE a sg x).d λE=>bk (match r with | []=>(cE b sg y).yes|z::r'=>(cE b sg (.BoolOp .And (y::z::r') p)).yes) λh2=>rt λX G=>by
   cases r with
   |nil=>exact zGo (E _ G) (ok_one (gkE h2 G))|cons z r'=>exact zGo (E _ G) (gkE h2 G)
 | .ifx t a b,sg,e=>qIfExp e λc x y _=>(cT t sg c).d λE=>(cE a sg x).d λh2=>(cE b sg y).d λM=>rt λX G=>ok_if (E _ G) (h2 _ G) (M _ G)| .t as,sg,e=>qTuple e λes _ _=>(cA as sg es).d λh=>rt λX G=>ok_tup (h _ G)| .l as,sg,e=>qList e λes _=>(cA as sg es).d λh=>rt λX G=>ok_lst (h _ G)| .ix a b,sg,e=>qSubscript e λx y _=>bk (uf y) λE=>(cE a sg x).d λh2=>(cE b sg y).d λM=>rt λX G=>ok_ix ix_both ro_ix (JS E) (h2 _ G) (M _ G)| .ixO i b,sg,e=>qSubscript e λn y _=>qName n λx _=>bk (vis sg i x) λE=>bk (uf y) λM=>(cE b sg y).d λh2=>rt λX G=>ok_ixO i (JB G E) (h2 _ G) (JS M)
 | .lenO i,sg,e=>qCall e λn B D _=>qName n λf _=>qCons B λQ S=>qName Q λx _=>qNil S <| qNil D <| bq f "len" λE=>bk (glb sg "len") λh4=>bk (bIn sg "len") λM=>bk (vis sg i x) λh2=>rt λX G=>by subst E;exact ok_lenO i (JB G h2) (yJ G h4).1 (jv G M)
 | .sl a l hh,sg,e=>qSubscript e λx n _=>qSlice n λlo hi B _=>qNone B <| (cE a sg x).d λE=>(cO l sg lo).d λh2=>(cO hh sg hi).d λM=>rt λX G=>ok_sl (E _ G) (h2 _ G) (M _ G)
 | .comp nl J w aa it tg tt el,sg,e=>qListComp e λaf n j _=>qCons n λB D=>qCm B λK W ab=>qNil D <| bk (sg.calm) λV=>bk (zDe sg nl J w aa j) λE=>bk (jl W) λk9=>bk (chkZ it K) λq0=>(cI it sg W).d λq1=>bk (zBZ tg (uK sg (J++w) j) K) λq2=>bk (match ab with | []=>isTr tt|c::cs=>cs.isEmpty&&(cT tt (uK sg (J++w) j) c).yes) λq3=>(cE el (uK sg (J++w) j) af).d λq4=>rt λX G=>by
   have⟨C,I⟩:=zDj G V E;refine no_E (ok_lc C (q1 _ _ (yh G) q0) (g:=gOf X.K tg) (λcl C ex s H=>Qb (sg:=uK sg (J++w) j) V (I cl C ex s H) q2) (Z5 tg) (λcl C ex s H=>?_) (λcl C ex s H=>q4 _ (I cl C ex s H)) (jT k9));cases ab with
   |nil=>exact zDk q3
   |cons c cs =>
    obtain⟨q3,q5⟩:=GP q3;have:=isEmpty_iff.mp q3;subst this;exact QG (gkT (sg:=uK sg (J++w) j) q5 (I cl C ex s H))
 | .dcomp nl J w aa it tg tt ka va,sg,e=>qDictComp e λke ve n j _=>qCons n λB D=>qCm B λK W ab=>qNil D <| bk (sg.calm) λV=>bk (zDe sg nl J w aa j) λE=>bk (jl W) λk9=>bk (chkZ it K) λq0=>(cI it sg W).d λq1=>bk (zBZ tg (uK sg (J++w) j) K) λq2=>bk (match ab with | []=>isTr tt|c::cs=>cs.isEmpty&&(cT tt (uK sg (J++w) j) c).yes) λq3=>(cE ka (uK sg (J++w) j) ke).d λq4=>(cE va (uK sg (J++w) j) ve).d λq6=>rt λX G=>by
   have⟨C,I⟩:=zDj G V E;refine no_E (ok_dc C (by have:=wn G;show X.A.units<_;omega) (q1 _ _ (yh G) q0) (g:=gOf X.K tg) (λcl C ex s H=>Qb (sg:=uK sg (J++w) j) V (I cl C ex s H) q2) (Z5 tg) (λcl C ex s H=>?_) (λcl C ex s H=>q4 _ (I cl C ex s H)) (λcl C ex s H=>q6 _ (I cl C ex s H)) (jT k9));cases ab with
   |nil=>exact zDk q3
   |cons c cs =>
    obtain⟨q3,q5⟩:=GP q3;have:=isEmpty_iff.mp q3;subst this;exact QG (gkT (sg:=uK sg (J++w) j) q5 (I cl C ex s H))
 | .dgO i b,sg,e=>qSubscript e λn y _=>qName n λx _=>bk (vis sg i x) λE=>bk (uf y) λM=>(cE b sg y).d λh2=>rt λX G=>ok_dgO i (by have:=wn G;omega) (JB G E) (JS M) (h2 _ G)| .dg a b,sg,e=>qSubscript e λx y _=>bk (uf y) λE=>(cE a sg x).d λh2=>(cE b sg y).d λM=>rt λX G=>ok_dg (by have:=wn G;omega) (JS E) (h2 _ G) (M _ G)
 | .ninO i a,sg,e=>qCompare e λx n B _=>qCons n λop S=>qNil S <| qCons B λD Q=>qName D λy _=>qNil Q <| bq op .NotIn λk0=>bk (vis sg i y) λO=>(cE a sg x).d λR=>rt λX G=>by subst k0;exact ok_ninO i (by have:=wn G;omega) (JB G O) (R _ G)
 | .disp a b,sg,e=>qDict e λn B _=>qCons n λQ S=>qSome Q λx=>qNil S <| qCons B λy D=>qNil D <| (cE a sg x).d λE=>(cE b sg y).d λh2=>rt λX G=>ok_disp (by have:=wn G;omega) (E _ G) (h2 _ G)
 | .is T a,sg,e=>qCall e λn B D _=>qName n λf _=>qCons B λx Q=>qCons Q λS w6=>qName S λy _=>qNil w6 <| qNil D <| bq f "isinstance" λO=>bq y T.nm λR=>bk (glb sg "isinstance") λL=>bk (bIn sg "isinstance") λZ=>bk (glb sg T.nm) λk5=>bk (bIn sg T.nm) λk6=>bk (!zW x) λk7=>(cE a sg x).d λh2=>rt λX G=>by subst O R;exact ok_is (kit_of _ T) (yJ G L).1 (jv G Z) (yJ G k5).1 (jv G k6) (bt_of T) (h2 _ G) wR (nm_of T) (yJ G k5).2 (nst k7)
 | .cB b as,sg,e=>qCall e λn B D _=>qName n λf _=>qCons B λx es=>qNil D <| bk (sg.calm) λV=>bq f b.nm λO=>bk (glb sg b.nm) λR=>bk (bIn sg b.nm) λL=>bk (yO (x::es)) λZ=>(cA as sg (x::es)).d λh2=>rt λX G=>by subst O;exact bi_of V G b (yJ G R).1 (jv G L) Z (h2 _ G)
 | .call k as,sg,e=>qCall e λn B D _=>qName n λf _=>qCons B λx es=>qNil D <| bk (glb sg f) λO=>bk (fIs sg k f) λR=>bk (fArg sg (gLen as) k) λL=>bk (yO (x::es)) λZ=>(cG as sg (x::es)).d λh2=>rt λX G=>call_ok G O R L Z (h2 _ G)
 | .stp k a,sg,e=>qSubscript e λx n _=>qSlice n λB D Q _=>qNone B <| qNone D <| qSome Q λst=>bk (stIs k st) λE=>(cE a sg x).d λh2=>rt λX G=>ok_step k (h2 _ G) (st_of E)
 | .sset as,sg,e=>qCall e λn B D _=>qName n λt _=>qCons B λQ S=>qCall Q λw6 w7 w8 _=>qName w6 λf _=>qCons w7 λx w9=>qNil w9 <| qNil w8 <| qNil S <| qNil D <| bk (sg.calm) λV=>bq t "sorted" λO=>bq f "set" λR=>bk (glb sg "sorted") λL=>bk (bIn sg "sorted") λZ=>bk (glb sg "set") λk5=>bk (bIn sg "set") λk6=>bk (!zW x) λk7=>(cA as sg [x]).d λh2=>rt λX G=>by subst O R;exact ok_sset (G.calm V) (yJ G L).1 (jv G Z) (yJ G k5).1 (jv G k6) (h2 _ G) (nst k7)
 | .callV ks g as,sg,e=>qCall e λfe n B _=>qCons n λx es=>qNil B <| bk (zCS fe) λO=>bk (ks.all (fArg sg (gLen as))) λR=>bk (yO (x::es)) λL=>(cE g sg fe).d λh2=>(cG as sg (x::es)).d λM=>rt λX G=>by
   dsimp[yO,Bool.and_eq_true,Bool.not_eq_true']at L;exact zFD (zHM G R) (h2 _ G) (M _ G) (zAf _ _) (call_of O) L.1 L.2
 | .isC cl y a,sg,e=>qCall e λn B D _=>qName n λf _=>qCons B λx Q=>qCons Q λS w6=>qName S λz _=>qNil w6 <| qNil D <| bq f "isinstance" λO=>bq z y λR=>bk (glb sg "isinstance") λL=>bk (bIn sg "isinstance") λZ=>bk (glb sg y) λk5=>bk (cl==sg.cl) λad=>bk (sg.cl.contains y) λk8=>bk (!zW x) λk7=>(cE a sg x).d λh2=>rt λX G=>by
   subst O R;have ac:cl=sg.cl:=by exists ad
   subst ac;have hy:z∈sg.cl:=by exists k8
   obtain⟨T,t1,t2,t3⟩:=G.cl (List.ne_nil_of_mem hy);obtain⟨Y,y1,y2,y3⟩:=t3 z hy;exact ok_isC (λc hc=>let ⟨C,c1,c2,_⟩:=t3 c hc;⟨C,c1,c2⟩) y1 y2 y3 (yJ G L).1 (jv G Z) (yJ G k5).1 (h2 _ G) wR (yJ G k5).2 (nst k7)
 | .isV cl a,sg,e=>qCall e λn B D _=>qName n λf _=>qCons B λx Q=>qCons Q λS w6=>qName S λz _=>qNil w6 <| qNil D <| bq f "isinstance" λO=>bq z "ValueError" λR=>bk (glb sg "isinstance") λL=>bk (bIn sg "isinstance") λZ=>bk (glb sg "ValueError") λk5=>bk (bIn sg "ValueError") λk9=>bk (cl==sg.cl) λad=>bk (!sg.cl.isEmpty) λk8=>bk (!zW x) λk7=>(cE a sg x).d λh2=>rt λX G=>by
   subst O R;have ac:cl=sg.cl:=by exists ad
   subst ac;obtain⟨T,t1,t2,t3⟩:=G.cl (λz=>by rw[z]at k8;cases k8);exact ok_isV (T:=T) (λc hc=>let ⟨C,c1,c2,_⟩:=t3 c hc;⟨C,c1,c2⟩) (yJ G L).1 (jv G Z) (yJ G k5).1 (jv G k9) vx (h2 _ G) wR (nst k7)
 | .frz a,sg,e=>(cE a sg e).d λh=>rt λX G=>ok_frz (h _ G)
 | .cnt a b,sg,e=>qCall e λn B D cp=>qAttribute n λS m ap=>qName S λx p=>qCons B λv Q=>qNil Q <| qNil D <| bq m "count" λO=>bk (ap.endLine==cp.line) λR=>bk (!zW v) λL=>(cE a sg (.Name x p)).d λh2=>(cE b sg v).d λM=>rt λX G=>by subst O;exact zG5 (h2 _ G) (M _ G) rfl (nst L) R (zAg (nst L))
 | .cntL a b,sg,e=>qCall e λn B D cp=>qAttribute n λS m ap=>qList S λx p=>qCons B λv Q=>qNil Q <| qNil D <| bq m "count" λO=>bk (ap.endLine==cp.line) λR=>bk (!zW v) λL=>(cE a sg (.List x p)).d λh2=>(cE b sg v).d λM=>rt λX G=>by subst O;exact zG5 (h2 _ G) (M _ G) rfl (nst L) R (zAg (nst L))
 | .atr ri f a,sg,e=>qAttribute e λn g _=>qName n λx p=>bk (g==f) λO=>bk (ri==sg.ri) λR=>bk (!sg.cl.isEmpty) λZ=>bk (sg.ri.all (λc=>sg.cl.contains c)) λL=>(cE a sg (.Name x p)).d λh2=>rt λX G=>by
   have e1:=beq_iff_eq.mp O;subst e1;have e2:=beq_iff_eq.mp R;obtain⟨T,t1,t2,t3⟩:=G.cl (λz=>by rw[z]at Z;cases Z);refine ok_atr (T:=T) t1 (λc hc=>?_) (h2 _ G) rfl;rw[e2]at hc;have q:=all_eq_true.mp L c hc;obtain⟨C,c1,c2,_⟩:=t3 c (by exists q);exact⟨(G.ri c hc).2,C,c1,c2⟩
 | .idx a b,sg,e=>qCall e λn B D cp=>qAttribute n λS m ap=>qName S λx p=>qCons B λv Q=>qNil Q <| qNil D <| bq m "index" λO=>bk (ap.endLine==cp.line) λR=>bk (!zW v) λL=>(cE a sg (.Name x p)).d λh2=>(cE b sg v).d λM=>rt λX G=>by subst O;exact ok_idxG G.sm (wn G) (h2 _ G) (M _ G) rfl (nst L) R (zAg (nst L))
noncomputable def cT:(t:Tx)->(sg:Sg)->(e:Lb)->Ck (∀X,SgOk X sg->TOk X e (dT sg.fs t))
 | .tOr a b,sg,e=>qBoolOp e λg k p=>qOr g <| qCons k λx j=>qCons j λy r=>(cT a sg x).d λl=>bk (match r with | []=>(cT b sg y).yes|z::D=>(cT b sg (.BoolOp .Or (y::z::D) p)).yes) λh2=>rt λX G=>by
   cases r with
   |nil=>exact tk_w (wk_or (l _ G) (wk_or1 (gkT h2 G)))|cons z D=>exact tk_w (wk_or (l _ G) (w_of_t (gkT h2 G)))
 | .tNot a,sg,e=>qUnaryOp e λg x _=>qNot g <| (cT a sg x).d λh=>rt λX G=>tk_not (h _ G)
 | .tE (.cmp o a b),sg,e=>qCompare e λx g k _=>qCons g λop n=>qNil n <| qCons k λy j=>qNil j <| bq op o.op λl=>bk (jl y) λI=>(cE a sg x).d λq=>(cE b sg y).d λu=>rt λX G=>by subst l;exact cmpT_of G I (q _ G) (u _ G)
 | .tE (.chain o C a b c),sg,e=>qCompare e λx g k _=>qCons g λop w=>qCons w λv O=>qNil O <| qCons k λy j=>qCons j λz n=>qNil n <| bq op o.op λB=>bq (v) (C.op) λq=>bk (o.isI) λu=>bk (C.isI) λJ=>bk (jl z) λL=>(cE a sg x).d λM=>(cE b sg y).d λK=>(cE c sg z).d λE=>rt λX G=>by subst B q;exact zCw (zAe u) (zAe J) (M _ G) (K _ G) (E _ G) (zDg L)
 | .tE (.ninO i a),sg,e=>qCompare e λx g k _=>qCons g λop w=>qNil w <| qCons k λj n=>qName j λy _=>qNil n <| bq op .NotIn λH=>bk (vis sg i y) λB=>(cE a sg x).d λq=>rt λX G=>by subst H;exact zFq i (by have:=wn G;omega) (JB G B) (q _ G)
 | .tE a,sg,e=>bk (zGm e&&(cE a sg e).yes) λh=>rt λX G=>by
  obtain⟨l,h2⟩:=GP h;exact ok_test (gkE h2 G) (test_of l)
 | .tBor i a,sg,e=>(cT a sg e).d λh=>rt λX G=>ok_bor i (h _ G)| .tTr,sg,e=>bk (false) λh=>rt λX G=>absurd h qF
noncomputable def cA:(t:Ax)->(sg:Sg)->(e:Ls Lb)->Ck (∀X,SgOk X sg->AOk X e (dA sg.fs t))
 | .nil,sg,e=>bk (e.isEmpty) λh=>rt λX G=>by
  have:=isEmpty_iff.mp h;subst this;exact ak_nil
 | .cons a as,sg,e=>qCons e λx r=>bk (!zW x) λg=>(cE a sg x).d λh2=>(cA as sg r).d λc=>rt λX G=>ak_cons (h2 _ G) (c _ G) (nst g)
noncomputable def cG:(t:Gx)->(sg:Sg)->(e:Ls Lb)->Ck (∀X,SgOk X sg->zE9 X e (dG sg.fs t))
 | .nil,sg,e=>bk (e.isEmpty) λh=>rt λX G=>by
  have:=isEmpty_iff.mp h;subst this;exact ga_nil
 | .ev a as,sg,e=>qCons e λx r=>bk (!zW x) λc=>(cE a sg x).d λh2=>(cG as sg r).d λj=>rt λX G=>ga_ev (h2 _ G) (j _ G) (nst c)| .lend i as,sg,e=>qCons e λg r=>qName g λx _=>bk (vis sg i x) λc=>(cG as sg r).d λh2=>rt λX G=>ga_lend (JB G c) (h2 _ G)
noncomputable def cO:(t:Ox)->(sg:Sg)->(e:Lx Lb)->Ck (∀X,SgOk X sg->OOk X e (dO sg.fs t))
 | .oN,sg,e=>bk (e.isNone) λh=>rt λX G=>by
  cases e with
  |none=>exact oo_none|some e=>cases h
 | .oS a,sg,e=>qSome e λe=>(cE a sg e).d λh=>rt λX G=>oo_some (h _ G)
noncomputable def cI:(t:Ix)->(sg:Sg)->(e:Lb)->Ck (∀X c,SgOk X sg->chkZ t c=true->IOk X c e (dI sg.fs t))
 | .iL a,sg,e=>(cE a sg e).d λh=>rt λX c G hz=>io_list (h _ G)| .iT a,sg,e=>(cE a sg e).d λh=>rt λX c G hz=>io_tup (h _ G)
 | .iR1 as,sg,e=>qCall e λj p g _=>qName j λf _=>qCons p λx o=>qNil o <| qNil g <| bq f "range" λi=>bk (glb sg "range") λl=>bk (bIn sg "range") λk=>bk (!zW x) λn=>(cA as sg [x]).d λh2=>rt λX c G hz=>by subst i;exact io_r1 (yJ G l).1 (jv G k) (h2 _ G) (nst n)
 | .iE w as,sg,e=>qCall e λj p g _=>qName j λf _=>qCons p λx o=>qNil o <| qNil g <| bq f "enumerate" λi=>bk (glb sg "enumerate") λl=>bk (bIn sg "enumerate") λk=>bk (!zW x) λn=>(cA as sg [x]).d λh2=>rt λX c G hz=>by
   subst i;cases c with
   |Tuple u z v=>exact io_enum (yJ G l).1 (jv G k) (h2 _ G) (nst n)|_=>exact absurd hz qF
 | .iZ w B as,sg,e=>qCall e λj p g _=>qName j λf _=>qCons p λx o=>qCons o λy q=>qNil q <| qNil g <| bq f "zip" λi=>bk (glb sg "zip") λl=>bk (bIn sg "zip") λk=>bk (!zW x) λn=>bk (!zW y) λr=>(cA as sg [x,y]).d λh2=>rt λX c G hz=>by
   subst i;cases c with
   |Tuple u z v=>exact zG8 (.inl ⟨_,_,_,rfl⟩) (yJ G l).1 (jv G k) (h2 _ G) (nst n) (nst r)|_=>exact absurd hz qF
 | .iZN w B as,sg,e=>qCall e λj p g _=>qName j λf _=>qCons p λx o=>qCons o λy q=>qNil q <| qNil g <| bq f "zip" λi=>bk (glb sg "zip") λl=>bk (bIn sg "zip") λk=>bk (!zW x) λn=>bk (!zW y) λr=>(cA as sg [x,y]).d λh2=>rt λX c G hz=>by
   subst i;cases c with
   |Name u v=>exact zG8 (.inr ⟨_,_,rfl⟩) (yJ G l).1 (jv G k) (h2 _ G) (nst n) (nst r)|_=>exact absurd hz qF
end
def SwOk(X:Cx)(e:Lb)(m:ME):Prop:=∀i x c a,X.N[i]?=some x->Loc X.env.scope x->(X.fn x=true\/X.env.scope.names.lookup x=some .local)->swapsWith e (some (.Name x c)) a.line X.env=pure true->SOk X (.Assign [.Name x c] e a) (sSet i m)
def cW:(t:Ex)->(sg:Sg)->(e:Lb)->Ck (∀X,SgOk X sg->SwOk X e (dE sg.fs t))
 | .comp M k h n B y E Q,sg,e=>qListComp e λv J a _=>qCons J λw2 W=>qCm w2 λj l r=>qNil W <| bk (sg.calm) λq=>bk (zDe sg M k h n a) λR=>bk (jl l) λY=>bk (chkZ B j) λq0=>(cI B sg l).d λV=>bk (zBZ y (uK sg (k++h) a) j) λO=>bk (match r with | []=>isTr E|c::z=>z.isEmpty&&(cT E (uK sg (k++h) a) c).yes) λu=>(cE Q (uK sg (k++h) a) v).d λK=>rt λX G i x px D Z L hf w=>by
   have⟨C,I⟩:=zDj G q R;refine no_set▸no_S (sk_lc G.nd Z L hf C (V _ _ (yh G) q0) (g:=gOf X.K y) (λp C o s H=>Qb (sg:=uK sg (k++h) a) q (I p C o s H) O) (Z5 y) (λp C o s H=>?_) (λp C o s H=>K _ (I p C o s H)) (jT Y) w);cases r with
   |nil=>exact zDk u
   |cons c z =>
    obtain⟨u,S⟩:=GP u;have:=isEmpty_iff.mp u;subst this;exact QG (gkT (sg:=uK sg (k++h) a) S (I p C o s H))
 |_,_,_=>default
mutual
noncomputable def cS:(t:Sx)->(sg:Sg)->(e:Lh)->Ck (∀X,SgOk X sg->SOk X e (dS sg.fs t))
 | .sIf t a b,sg,e=>qIf e λc x y _=>(cT t sg c).d λu=>(cB a sg x).d λh2=>(cB b sg y).d λr=>rt λX G=>sk_if (u _ G) (h2 _ G) (r _ G)
 | .sSet i a,sg,e=>qAssign e λl v p=>qCons l λD B=>qNil B <| qName D λx px=>bk (locd sg i x) λu=>bk (setOk sg x px a v) λr=>(cE a sg v).d λh2=>bk (!isCo a||(cW a sg v).yes) λhw=>rt λX G=>by
   obtain⟨O,M,L⟩:=vw G u;unfold setOk at r;split at r
   ·obtain⟨w,q⟩:=GP r
    rename_i el gs H vp;cases Y:swB sg _ _ H vp with
    |false=>exact zCg G.nd O M (h2 _ G) (by rw[zHP G w,Y]) L
    |true =>
     rw[Y]at q;have I:isCo a=true:=by exists q
     rw[I]at hw;exact(cW a sg _).why (by exists hw) X G _ _ _ _ O M L (by rw[zHP G w,Y])
   ·obtain⟨w,q⟩:=GP r
    rename_i ke ve gs H vp;cases Y:swB sg _ _ H vp with
    |false=>exact zCg G.nd O M (h2 _ G) (by rw[sw_valD G w,Y]) L
    |true =>
     rw[Y]at q;exact absurd q (by decide)
   ·exact zCg G.nd O M (h2 _ G) (vX r) L
 | .sAny,sg,e=>rt λX G=>sk_any
 | .sTup is a,sg,e=>qAssign e λl v _=>qCons l λD B=>qTuple D λes k p=>qNil B <| bk (sg.calm) λg=>bk (zBZ.all2 sg is es) λw=>bk (Yx v) λq=>bk (swOk sg es v) λI=>(cE a sg v).d λh2=>rt λX G=>by
   obtain⟨O,M,L⟩:=ZR _ is G w;exact sk_tup (zGd (G.calm g) O M L) (h2 _ G) (zDh q) (sw_ok G I)
 | .sRaiseA c as,sg,e=>qRaise e λl D _=>qSome l λB=>qCall B λJ Q R _=>qName J λx _=>qCons Q λy es=>qNil R <| qNone D <| bk (sg.calm) λg=>bk (x==c) λw=>bk (glb sg c) λq=>bk (sg.ri.contains c) λI=>bk (decide (3<=sg.lv)) λV=>bk (yO (y::es)) λW=>(cA as sg (y::es)).d λh2=>rt λX G=>by
   have e1:=beq_iff_eq.mp w;subst e1;have s1:zW y=false:=by dsimp[yO,Bool.and_eq_true,Bool.not_eq_true']at W;exact W.1
   have s2:yO es=true:=by dsimp[yO,Bool.and_eq_true,Bool.not_eq_true']at W;exact W.2
   exact zC8 (G.calm g) (G.room.mono (of_decide_eq_true V)) (yJ G q).1 (G.ri _ (by exists I)).1 (yJ G q).2 (h2 _ G) s1 s2
 | .sRet a,sg,e=>qReturn e λl _=>qSome l λv=>(cE a sg v).d λh=>rt λX G=>sk_ret (h _ G)| .sDrop a,sg,e=>qExpr e λv _=>bk (Yx v) λu=>(cE a sg v).d λh2=>rt λX G=>sk_drop (h2 _ G) (vX u)
 | .sIx i b a,sg,e=>qAssign e λl v _=>qCons l λD B=>qSubscript D λJ y _=>qName J λx _=>qNil B <| bk (vis sg i x) λu=>bk (uf y) λh4=>(cE b sg y).d λh2=>(cE a sg v).d λr=>rt λX G=>zE3 i (JB G u) (h2 _ G) (r _ G) (zHO h4) zF1
 | .sDput i b a,sg,e=>qAssign e λl v _=>qCons l λD B=>qSubscript D λJ y _=>qName J λx _=>qNil B <| bk (vis sg i x) λu=>bk (uf y) λh4=>bk (Yx v) λZ=>(cE b sg y).d λh2=>(cE a sg v).d λr=>rt λX G=>sk_dput i (by have:=wn G;omega) (JB G u) (h2 _ G) (r _ G) (zHO h4) (zDh Z)
 | .sApp i a,sg,e=>qExpr e λl _=>qCall l λD B J cp=>qAttribute D λR m ap=>qName R λx _=>qCons B λv Q=>qNil Q <| qNil J <| bq m "append" λw=>bk (ap.endLine==cp.line) λq=>bk (vis sg i x) λI=>bk (!zW v) λV=>(cE a sg v).d λh2=>rt λX G=>by subst w;exact sk_app i (JB G I) (h2 _ G) rfl (zAg (nst V)) q (zM (nst V)) rfl rfl
 | .sForL a K b,sg,e=>qFor e λt S j l _=>qNil l <| bk (sg.calm) λg=>bk (jl S) λu=>bk (zBZ K sg t) λZ=>(cE a sg S).d λh2=>(cB b sg j).d λr=>rt λX G=>no_S (sk_forL (X:=X.nox) PassesOwn.never (G.calm g) (h2 _ (yh G)) (Qb g (yh G) Z) (Z5 K) (r _ (yh G)) (jT u))
 | .sForI ix K b,sg,e=>qFor e λt S j l _=>qNil l <| bk (sg.calm) λg=>bk (jl S) λu=>bk (zBZ K sg t) λZ=>bk (chkZ ix t) λh4=>(cI ix sg S).d λh2=>(cB b sg j).d λr=>rt λX G=>sk_forN (ps_forX (h2 _ _ G h4) (jT u)) (no_S (sk_forI (X:=X.nox) PassesOwn.never (G.calm g) (h2 _ _ (yh G) h4) (Qb g (yh G) Z) (Z5 K) (r _ (yh G)) (jT u)))
 | .sForT a K b,sg,e=>qFor e λt S j l _=>qNil l <| bk (sg.calm) λg=>bk (jl S) λu=>bk (zBZ K sg t) λZ=>(cE a sg S).d λh2=>(cB b sg j).d λr=>rt λX G=>no_S (sk_forT (X:=X.nox) PassesOwn.never (G.calm g) (h2 _ (yh G)) (Qb g (yh G) Z) (Z5 K) (r _ (yh G)) (jT u))
 | .sForR1 as K b,sg,e=>qFor e λt l j D _=>qCall l λB J Q _=>qName B λf _=>qCons J λx R=>qNil R <| qNil Q <| qNil D <| bk (sg.calm) λg=>bq f "range" λw=>bk (glb sg "range") λq=>bk (bIn sg "range") λI=>bk (!zW x) λV=>bk (zBZ K sg t) λW=>(cA as sg [x]).d λh2=>(cB b sg j).d λr=>rt λX G=>by subst w;exact no_S (zE6 (X:=X.nox) PassesOwn.never (G.calm g) (yJ (yh G) q).1 (jv (yh G) I) (h2 _ (yh G)) (Qb g (yh G) W) (Z5 K) (r _ (yh G)) (nst V) (jT rfl))
 | .sWhile t b,sg,e=>qWhile e λc j l _=>qNil l <| (cT t sg c).d λu=>(cB b sg j).d λh2=>rt λX G=>no_S (zFW (X:=X.nox) PassesOwn.never (u _ (yh G)) (h2 _ (yh G)))
 | .sAug i o a,sg,e=>qAugAssign e λl op v _=>qName l λx _=>bk (locd sg i x) λu=>bq op o.op λw=>bk (o.isAug) λq=>(cE a sg v).d λh2=>rt λX G=>by
   obtain⟨O,M,L⟩:=vw G u;subst w;cases o with
   |add=>exact zDB G.nd O M L (h2 _ G)|sub=>exact zDC G.nd O M L (h2 _ G)|mul=>exact zDD G.nd O M L (h2 _ G)|_=>cases q
 | .sRaise c,sg,e=>qRaise e λl D _=>qSome l λB=>qCall B λJ Q R _=>qName J λx _=>qNil Q <| qNil R <| qNone D <| bk (sg.calm) λg=>bq x c λw=>bk (glb sg c) λq=>bk (sg.rs.contains c) λI=>rt λX G=>by
   subst w;obtain⟨C,c1,c2⟩:=G.rs x (by exists I);exact zFP (G.calm g) (yJ G q).1 c1 c2 (yJ G q).2
 | .sTry cl b i Y,sg,e=>qTry e λj l D B _=>qCons l λJ Q=>qExceptHandler J λR w7 w8 _=>qSome R λw9=>qName w9 λt _=>qSome w7 λn=>qCons w8 λb0 aa=>qNil Q <| qNil D <| qNil B <| bq t "ThrowError" λw=>bk (glb sg "ThrowError") λq=>bk (cl==sg.cl) λI=>bk (!sg.cl.isEmpty) λk6=>bk (sg.top) λV=>bk (sg.N[i]?==some n) λW=>bk (kIs sg n .local) λk7=>(cB b sg j).d λh2=>(cB Y {sg with calm:=false} (b0::aa)).d λr=>rt λX G=>by
   subst w;have ab:cl=sg.cl:=by exists I
   subst ab;obtain⟨T,t1,t2,t3⟩:=G.cl (λz=>by rw[z]at k6;cases k6);exact sk_try (G.stk V) G.nd (by rw[G.N];exists W) (Yh G k7) (yJ G q).1 (yJ G q).2 t1 t2 (λc hc=>let ⟨C,c1,c2,_⟩:=t3 c hc;⟨C,c1,c2⟩) (λpn E=>h2 _ (tr_ok G pn E)) (λa=>r _ (hd_ok G a))
noncomputable def cB:(t:Bx)->(sg:Sg)->(e:Ls Lh)->Ck (∀X,SgOk X sg->uJ X e (dB sg.fs t))
 | .bNil,sg,e=>bk (e.isEmpty) λh=>rt λX G=>by
  have:=isEmpty_iff.mp h;subst this;exact sk_nil
 | .o a,sg,e=>qCons e λs c=>qNil c <| (cS a sg s).d λh=>rt λX G=>sk_one (h _ G)
 | .s a b,sg,e=>qCons e λs r=>(cS a sg s).d λg=>(cB b sg r).d λh2=>rt λX G=>sk_cons (g _ G) (h2 _ G)
end
def sB(t:Bx){X:Cx}{sg:Sg}{e:Ls Lh}(G:SgOk X sg)(h:(cB t sg e).yes=true):uJ X e (dB sg.fs t):=gkB h G
abbrev chkB(t:Bx)(sg:Sg)(e:Ls Lh):Bool:=(cB t sg e).yes
end
def ClOk(K:qH)(a:Str->Lx Lv)(cl rs:Ls Str):Prop :=
 (cl≠[]->∃T,a "ThrowError"=some (.ref T)/\TCls K T/\∀c∈cl,∃C,a c=some (.ref C)/\XCls K c C T/\C≠T)/\(∀c∈rs,∃C,a c=some (.ref C)/\excJ K C=true)/\zBQ K
abbrev zDl(P:Lc)(w:Le)(K:qH)(a:Str->Lx Lv)(base:Heap)(e:Ls Str):Prop:=∀c∈e,RIok P w K a base c/\RAok K a c
def def_ok{P:Lc}{w:Le}{K:qH}{e:Str->Lx Lv}{base:Heap}{x:Str}{st:Lh}{j N:Ls Str}{n lv:Nat}{z:Ls (Str×D)}{fs:Ls FI}{bs:Ls Str}{c:Bool}{cl rs:Ls Str}(t:Bx)(T:Jh K e x st j)(S:FnScope N j (zY st))(hn:N.length=n)
  (r:∀x d,z.lookup x=some d->∃u v,e x=some u/\ym v u/\∀H,Rep K e H d v)
  (p:∀i∈fs,∃f k j,e i.x=some (.ref f)/\keepIn K (.ref f)=true/\wt K k j []/\j.length=i.n/\FnOkN (!i.wild) P w K e base i.lv f k j (spM K e i.n i.F))
  (q:∀x∈bs,e x=none) (g:ClOk K e cl rs) {y:Ls Str} (o:zDl P w K e base y) (h:(cB t ⟨N,zY st,true,z,fs,bs,lv,c,cl,rs,[],y⟩ (yk st)).yes=true):FOk P w K e base c x (lv+1) j (fnM n (dB fs t)):=by
 obtain⟨a,k,C,F,l⟩:=T;subst hn;refine⟨a,k,C,F.kp,l,fn_ok F S λG A outer s H E I B=>?_⟩;exact gkB h ⟨rfl,rfl,λ_ _=>rfl,(λx h=>by cases h),id,I,λ_=>⟨rfl,rfl⟩,S.nd,r,p,q,B,g.1,g.2.1,g.2.2,o⟩
def zF2(K:qH)(a:Str->Lx Lv)(c:Ls (Str×D)):Prop:=∀x d,c.lookup x=some d->∃u v,a x=some u/\ym v u/\∀H,Rep K a H d v
def BsOk(a:Str->Lx Lv)(bs:Ls Str):Prop:=∀x∈bs,a x=none
def FsOk(P:Lc)(w:Le)(K:qH)(c:Str->Lx Lv)(base:Heap)(fs:Ls FI):Prop :=
 ∀i∈fs,∃f e a,c i.x=some (.ref f)/\keepIn K (.ref f)=true/\wt K e a []/\a.length=i.n/\FnOkN (!i.wild) P w K c base i.lv f e a (spM K c i.n i.F)
section
variable{P:Lc}{w:Le}{K:qH}{mg:Str->Lx Lv}{base:Heap}
def cs_nil:zF2 K mg []:=λx d h=>by cases h
def cs_put(h:∃u v,mg x=some u/\ym v u/\∀H,Rep K mg H d v)(t:zF2 K mg cs):zF2 K mg ((x,d)::cs):=λy c e=>by
 rw[lookup_cons]at e;cases a:y==x with
 |true =>
  rw[a]at e;cases e;have:y=x:=by exists a
  subst this;exact h
 |false=>rw[a]at e;exact t y c e
def Qc(h:∃t,mg x=some (.int i t))(t:zF2 K mg cs):zF2 K mg ((x,.int i)::cs):=by
 obtain⟨k,h⟩:=h;exact cs_put ⟨_,.int i,h,⟨_,rfl⟩,λH=>by dsimp[Rep]⟩ t
def bs_nil:BsOk mg []:=λx h=>by cases h
def yd(h:mg x=none)(t:BsOk mg bs):BsOk mg (x::bs):=λy e=>by
 rcases mem_cons.mp e with e|e
 ·subst e;exact h
 ·exact t y e
def yB:FsOk P w K mg base []:=λx h=>by cases h
def zV(h:FOk P w K mg base (!wl) x lv ps F)(c:ps.length=n)(t:FsOk P w K mg base fs):FsOk P w K mg base (⟨x,n,lv,wl,F⟩::fs):=λi e=>by
 rcases mem_cons.mp e with e|e
 ·subst e
  subst c;obtain⟨a,j,k,h2,g,h4⟩:=h;exact⟨a,j,ps,k,h2,g,rfl,h4⟩
 ·exact t i e
def def_at(t:Bx)(F:Fun K x x st a fd)(S:FnScope N ps (zY st))(hn:N.length=n)
  (k:zF2 K mg cs) (i:FsOk P w K mg base fs) (j:BsOk mg bs) (e:ClOk K mg cl rs) (g:zDl P w K mg base ri) (h:chkB t ⟨N,zY st,true,cs,fs,bs,lv,true,cl,rs,[],ri⟩ (yk st)=true):FnOk P w K mg base (CXx P w) (lv+1) a fd ps (spM K mg ps.length (fnM n (dB fs t))):=by
 subst hn;refine(fn_ok (c:=true) F S λo A outer s H E p l=>?_).fn;exact sB (sg:=⟨N,zY st,true,cs,fs,bs,lv,true,cl,rs,[],ri⟩) t ⟨rfl,rfl,λ_ _=>rfl,(λx h=>by cases h),id,p,λ_=>⟨rfl,rfl⟩,S.nd,k,i,j,l,e.1,e.2.1,e.2.2,g⟩ h
def scP(N P:Ls Str)(sc:Scope):Prop:=sc.kind=.function/\sc.isCoroutine=false/\sc.isGenerator=false/\N.Nodup/\N.take P.length=P/\(∀x∈P,sc.names.lookup x=some .local\/sc.names.lookup x=some .cell)/\∀y∈sc.names,y.2≠.free
instance scD (N P:Ls Str) (sc:Scope):Decidable (scP N P sc):=by unfold scP;infer_instance
def sc_of{N P:Ls Str}{sc:Scope}(h:scP N P sc):FnScope N P sc:=⟨h.1,h.2.1,h.2.2.1,h.2.2.2.1,h.2.2.2.2.1,h.2.2.2.2.2.1,h.2.2.2.2.2.2⟩
def zh(t:Bx)(N:Ls Str)(T:Jh K mg x st ps)
  (j:zF2 K mg cs) (g:FsOk P w K mg base fs) (i:BsOk mg bs) (a:ClOk K mg cl rs) (e:zDl P w K mg base ri) (h:(decide (scP N ps (zY st))&&chkB t ⟨N,zY st,true,cs,fs,bs,lv,c,cl,rs,[],ri⟩ (yk st))=true):FOk P w K mg base c x (lv+1) ps (fnM N.length (dB fs t)) :=
 def_ok t T (sc_of (of_decide_eq_true (Bool.and_eq_true_iff.mp h).1)) rfl j g i a e (Bool.and_eq_true_iff.mp h).2
def def_atB(t:Bx)(N:Ls Str)(F:Fun K x x st a fd)
  (j:zF2 K mg cs) (g:FsOk P w K mg base fs) (i:BsOk mg bs) (c:ClOk K mg cl rs) (e:zDl P w K mg base ri) (h:(decide (scP N ps (zY st))&&chkB t ⟨N,zY st,true,cs,fs,bs,lv,true,cl,rs,[],ri⟩ (yk st))=true):FnOk P w K mg base (CXx P w) (lv+1) a fd ps (spM K mg ps.length (fnM N.length (dB fs t))) :=
 def_at t F (sc_of (of_decide_eq_true (Bool.and_eq_true_iff.mp h).1)) rfl j g i c e (Bool.and_eq_true_iff.mp h).2
def zDm(h:xIn K c C T=true):XCls K c C T/\C≠T:=by
 unfold xIn at h;dsimp[Bool.and_eq_true,beq_iff_eq,Bool.not_eq_true']at h;obtain⟨⟨⟨⟨⟨⟨⟨a,h2⟩,i⟩,h4⟩,h5⟩,j⟩,g⟩,k⟩:=h;refine⟨⟨?_,h2,i,h4,h5,j,g⟩,by exists k⟩;exists e,clsIn K C,a,cd;dsimp[Bool.and_eq_true,beq_iff_eq]at a;exact⟨cd,rfl,a.1,a.2⟩
def tcls_of(h:tIn K T=true):TCls K T:=by
 unfold tIn at h;dsimp[Bool.and_eq_true,beq_iff_eq]at h;obtain⟨a,h2⟩:=h;refine⟨?_,h2⟩;cases e:clsIn K T with
 |none=>rw[e]at a;cases a|some c=>rw[e]at a;exact⟨c,rfl,by exists a⟩
def spLaw(K:qH):Sp:=λe H Q _=>∃(a:Lz) (c:Ls Int),e=[.ref a]/\SqL K H a (c.map V.int)/\c.length<=63/\∀H',Q (.bl true) H'
theorem GQ:∀a:Ls Int,Reps K mg H (a.map D.int) (a.map V.int)
 | []=>Reps.nil|n::a=>Reps.cons (by dsimp[Rep]) (GQ a)
def law_imp(j:∀c:Ls Int,c.length<=63->∃g,F [.v (.l (c.map D.int))]=.ok (.v (.bl true),g))(vs:Ls V)(H:Hp)(Q:VK)(E:XK)(h:spLaw K vs H Q E):spM K mg 1 F vs H Q E:=by
 obtain⟨a,c,rfl,n,hl,k⟩:=h;obtain⟨g,u⟩:=j c hl;have p:∀b,¬Mo (λ_=>False) [(some (V.ref a),Slot.v (.l (c.map D.int)))] b:=by
  intro b q;rcases q with q|q
  ·exact q
  ·rw[zZ]at q;cases q
 have l:YL H (Hm (Mo (λ_=>False) [(some (V.ref a),Slot.v (.l (c.map D.int)))]) H):=λb o q=>zR.mpr ⟨p b,q⟩
 refine⟨rfl,λ_=>False,[.v (.l (c.map D.int))],rfl,⟨?_,?_,?_,?_⟩,?_⟩
 ·intro o d q
  have i:=mem_singleton.mp q
  cases i;refine⟨_,rfl,?_⟩;dsimp[Rep];exact⟨a,_,rfl,l.seq n,GQ c⟩
 ·intro o s w q e
  have i:=mem_singleton.mp q
  cases i;cases e
 ·show(yE [(some (V.ref a),Slot.v (.l (c.map D.int)))]).Nodup
  rw[zZ];exact List.nodup_nil
 ·intro b q;cases q
 ·rw[u]
  intro v H' _ t _;obtain⟨x,e,r⟩:=t.val (some v) (.bl true) qE;cases e;dsimp[Rep]at r;subst r;exact k H'
end
def JC:zo [] E=[]:=rfl
def Jy:zo (.p ds::ss) (s::E)=s::zo ss E:=rfl
def JD:zo (.v d::ss) (s::E)=.e::zo ss E:=rfl
def Jz:zo (.w d::ss) (s::E)=.e::zo ss E:=rfl
def J0:zo (.e::ss) (s::E)=.e::zo ss E:=rfl
theorem y9(I:Nat->za->Prop):∀(a:Ls D) (k:Nat) (E:za),I k E ->
  (∀i d,a[i]?=some d->∀E,I (k+i) E->∃E1 E2,tg d E=.ok E1/\body E1=.ok (.nx,E2)/\I (k+i+1) E2) ->
  ∃E',ZO tg body a E=.ok (.nx,E')/\I (k+a.length) E'
 | [],k,E,h,step=>⟨E,rfl,h⟩
 |d::a,k,E,h,step=>by
  obtain⟨E1,E2,j,h2,h4⟩:=step 0 d rfl E h;obtain⟨E',l,c⟩:=y9 I a (k+1) E2 h4 λi g e E h=>by
   have:=step (i+1) g (by exists e) E (by rw[show k+(i+1)=k+1+i by omega];exact h);rw[show k+(i+1)=k+1+i by omega]at this;exact this
  refine⟨E',?_,?_⟩
  ·dsimp[ZO,j,h2]
   exact l
  ·rw[length_cons,show k+(a.length+1)=k+1+a.length by omega];exact c
theorem yU:∀(n:Nat) (a:Int),(zP a n).length=n
 |0,_=>rfl|n+1,a=>by simp[zP,yU n]
def yQ:Slot->Bool
 | .p _=>false|_=>true
theorem zAh:∀(a:Ls D) (E:za),zJ (a.map AR.tmp) E=.ok (a.map Slot.v,E)
 | [],_=>rfl|d::a,E=>by dsimp[map_cons,zJ,zAh a E]
theorem zAi:∀(c:Ls D) (a:Ls Slot) (E0 E:za),a.length=c.length->zN (c.map AR.tmp) a E0 E=.ok E
 | [],[],_,_,_=>rfl| [],_::_,_,_,h=>by cases h|_::_,[],_,_,h=>by cases h|d::c,s::a,E0,E,h=>by dsimp[map_cons,zN];exact zAi c a E0 E (by exists h)
theorem GR{vs:Ls D}{tg:MG}{tt:MT}{el:ME}{nl:Nat}(c:D->Ls DV.Slot)(f:D->Bool)(g:D->D):∀(h:Ls D),
  (∀d∈h,∀S:Ls DV.Slot,S.length=nl->(∀s∈S,yQ s=true)->tg d (S++vs.map Slot.v)=.ok (c d++vs.map Slot.v)) ->
  (∀d∈h,(c d).length=nl/\∀s∈c d,yQ s=true) ->
  (∀d∈h,tt (c d++vs.map Slot.v)=.ok (f d,c d++vs.map Slot.v)) ->
  (∀d∈h,f d=true->∃r,el (c d++vs.map Slot.v)=.ok (r,c d++vs.map Slot.v)/\r.d=g d) ->
  ∀(S:Ls DV.Slot) (e:Ls D),S.length=nl->(∀s∈S,yQ s=true)->e.length+h.length<=cap->∃S',S'.length=nl/\vg tg tt el h (S++vs.map Slot.v) e=.ok (e++(h.filter f).map g,S'++vs.map Slot.v)
 | [],_,_,_,_,S,e,k,_,_=>⟨S,k,by simp[vg,JV]⟩
 |d::h,t,h2,p,h4,S,e,k,w,y=>by
  have m:=qE (a:=d) (l:=h);have q:=t d m S k w;have j:=p d m;have i:=h2 d m;dsimp[length_cons]at y;have u:=GR c f g h (λz hz=>t z (qD _ hz)) (λz hz=>h2 z (qD _ hz)) (λz hz=>p z (qD _ hz)) (λz hz=>h4 z (qD _ hz)) (c d);cases hf:f d with
  |false =>
   rw[hf]at j;obtain⟨S',o,n⟩:=u e i.1 i.2 (by omega);refine⟨S',o,?_⟩;dsimp[vg,JV,ma1,q,j,n,filter_cons,hf];simp
  |true =>
   rw[hf]at j;obtain⟨r,v,x⟩:=h4 d m hf;obtain⟨S',o,n⟩:=u (e++[r.d]) i.1 i.2 (by simp;omega);refine⟨S',o,?_⟩;dsimp[vg,JV,ma1,q,j,v];rw[if_pos (by omega)];show vg tg tt el h _ _=_;rw[n,x];simp[filter_cons,hf]
def zF3{vs:Ls D}{tg:MG}{tt:MT}{el:ME}{nl:Nat}{caps:Ls Nat}(a:D->Ls DV.Slot)(f:D->Bool)(g:D->D)(ds:Ls D)
  (o:∀d∈ds,∀S:Ls DV.Slot,S.length=nl->(∀s∈S,yQ s=true)->tg d (S++vs.map Slot.v)=.ok (a d++vs.map Slot.v))
  (i:∀d∈ds,(a d).length=nl/\∀s∈a d,yQ s=true)
  (j:∀d∈ds,tt (a d++vs.map Slot.v)=.ok (f d,a d++vs.map Slot.v))
  (k:∀d∈ds,f d=true->∃r,el (a d++vs.map Slot.v)=.ok (r,a d++vs.map Slot.v)/\r.d=g d) (p:ds.length<=cap)
  {e:MI} {E E1:za} (n:e E=.ok (ds,E1)) (c:JW E1 caps=.ok (vs.map AR.tmp)):QE nl caps e tg tt el E=.ok (.w ((ds.filter f).map g),E1):=by
 obtain⟨S',q,l⟩:=GR (vs:=vs) (tg:=tg) (tt:=tt) (el:=el) (nl:=nl) a f g ds o i j k (replicate nl .e) [] (by simp) (λs h=>by rw[(List.mem_replicate.mp h).2];rfl) (by exists p);dsimp[QE,YS,n,c,zAh,l];rw[zAi vs _ _ _ (by rw[List.length_drop,zg];simp)];simp
def zAj{a:D}{S:Ls DV.Slot}{R:Ls DV.Slot}(e:S.length=1)(c:∀s∈S,yQ s=true):gN 0 a (S++R)=.ok ([.v a]++R):=by
 match S,e,c with
 | [x],_,c =>
  have g:=c x (by simp);cases x<;>first|(cases g;done)|rfl
theorem zAk:∀(l:Ls Obj) (i:Nat) (as:Ls Lz) (a:Lz) (o:Obj),(uL l i as).lookup a=some o->∃j,a=i+j/\l[j]?=some o/\isFr o=false
 | [],_,_,a,o,e=>by cases e|_::_,_,[],a,o,e=>by cases e
 |x::c,i,b::as,a,o,e=>by
  have up:∀{as:Ls Lz},(uL c (i+1) as).lookup a=some o->∃j,a=i+j/\(x::c)[j]?=some o/\isFr o=false:=λe=>by
   obtain⟨j,n,h2,k⟩:=zAk c (i+1) _ a o e;exact⟨j+1,n.trans ((Nat.add_assoc i 1 j).trans (congrArg (i+·) (Nat.add_comm 1 j))),by simpa using h2,k⟩
  unfold uL at e;cases h:Nat.beq i b with
  |false=>rw[h]at e;exact up e
  |true =>
   rw[h]at e;cases hf:isFr x with
   |true=>rw[hf]at e;exact up e
   |false =>
    rw[hf]at e;replace e:(match a==i with|true=>some x|false=>lookup a (uL c (i+1) as))=some o:=e
    cases g:a==i with
    |true =>
     rw[g]at e;cases e;exact⟨0,beq_iff_eq.mp g,rfl,hf⟩
    |false=>rw[g]at e;exact up e
def zDn(as:Ls Lz):(YE h as).In h:=λa o e=>by
 obtain⟨j,g,h2,i⟩:=zAk _ _ _ _ _ e;rw[zero_add]at g;subst g;have h4:h.objs[a]?=some o:=by rw[<- Array.getElem?_toList];exact h2
 unfold Heap.get?;rw[h4];obtain⟨c,d,k,l⟩:=o;cases k<;>first|rfl|(cases i)
def zAl(as:Ls Lz)(α:Type)(L:qH->α)(v:α):PySem.W.Hook :=
 ⟨α,λs=>L (YE s.heap as),λ_=>v,λ_ h=>∃K:qH,K.In h/\L K=v,λ_ s e=>⟨_,zDn as,e⟩,λ_ _ _ ⟨K,x,e⟩ k=>⟨K,x.keeps k,e⟩⟩
def zF4(e:yg K n=yl n st):∃(f:Lz) (i:Lv) (g:Lx Lz) (kV l j:Lv) (t:Lx Lz) (h q:Lv) (c:Lk),
  nsIn K mainGlobals n=some (some (.ref f))/\K.lookup f=some ⟨i,g,.func (fnOf n n (wK st) (yk st) (zY st) .none kV l j t h q),c⟩/\codeIn K h n=true/\keepIn K (.ref f)=true:=by
 unfold yg at e;split at e
 ·rename_i a r
  split at e
  ·rename_i i g o c hl
   have e:=qJ e;unfold fvOf at e;injection e with e1 e
   injection e with e2 e
   injection e with e3 e
   injection e with e4 e
   injection e with e5 e
   injection e with e6 e
   injection e with e7 e
   injection e with e8 e
   injection e with e9 e10
   obtain⟨k,p⟩:=GP e1;cases o;simp only at e2 e3 e4 e5 e6 e7 e8 e9 e10;subst e2 e3 e4 e5 e6 e7 e8 e9 e10;exact⟨_,_,_,_,_,_,_,_,_,_,r,hl,k,p⟩
  ·cases e
 ·cases e
def nth{α:Type}:Ls α->Nat->Lx α
 | [],_=>none|a::_,0=>some a|_::l,n+1=>nth l n
def ix{α:Type}{l a:Ls α}(n:Nat)(h:l=a):nth l n=nth a n:=congrArg (λl=>nth l n) h
section
variable{K:qH}{h:Heap}{mg:Str->Lx Lv}
def ar0{P:Ls Lv->Prop}(h:P []):∀a:Ls Lv,a.length=0->P a
 | [],_=>h
def arS{P:Ls Lv->Prop}(h:∀a us,us.length=n->P (a::us)):∀us:Ls Lv,us.length=n+1->P us:=by intro us e;cases us with|nil=>cases e|cons a t=>exact h a t (Nat.succ.inj e)
def ar1{P:Ls Lv->Prop}(h:∀a:Lv,P [a]):∀us:Ls Lv,us.length=1->P us:=arS λa=>ar0 (P:=λus=>P (a::us)) (h a)
def ar2{P:Ls Lv->Prop}(h:∀a b:Lv,P [a,b]):∀us:Ls Lv,us.length=2->P us:=arS λa=>ar1 (P:=λus=>P (a::us)) (h a)
def ar3{P:Ls Lv->Prop}(h:∀a b c:Lv,P [a,b,c]):∀us:Ls Lv,us.length=3->P us:=arS λa=>ar2 (P:=λus=>P (a::us)) (h a)
def ar4{P:Ls Lv->Prop}(h:∀a b c d:Lv,P [a,b,c,d]):∀e:Ls Lv,e.length=4->P e
 | [a,b,c,d],_=>h a b c d
def jA(X:K.In h)(G:h.Ns mainGlobals mg)(e:some (yg K n)=some (yl n st))
  (b:∀(kV c j:Lv) (q:Lx Lz) (i o:Lv) (g:Ls Lv),g.length=ps.length->bindArgs (fnOf n n (wK st) (yk st) (zY st) .none kV c j q i o) ⟨g,[]⟩=pure (ps.zip g):=by intro _ _ _ _ _ _;first|exact ar1 (λ_=>rfl)|exact ar2 (λ_ _=>rfl)|exact ar3 (λ_ _ _=>rfl)|exact ar4 (λ_ _ _ _=>rfl)|exact ar0 rfl):Jh K mg n st ps:=by
 obtain⟨f,w,u,kV,t,j,q,v,o,r,a,l,k,p⟩:=zF4 (qJ e);exact⟨_,_,mg_of X G a,Q0 (st:=st) l k p,(Q0 (st:=st) l k p).binds b⟩
def ct_at(X:K.In h)(G:h.Ns mainGlobals mg)(e:some (uM K n)=some (some i)):∃t,mg n=some (.int i t):=by
 have e:=qJ e;unfold uM at e;split at e
 ·rename_i j t a
  cases e;exact⟨_,mg_of X G a⟩
 ·cases e
def JX(X:K.In h)(G:h.Ns mainGlobals mg)(e:some (jJ K n)=some true):mg n=none:=by
 have e:=qJ e;unfold jJ at e;split at e
 ·rename_i a
  exact PySem.W.mg_none_of X G a
 ·cases e
def WY(X:K.In h)(G:h.Ns mainGlobals mg)(e:wj K n=some a):mg n=some (.ref a):=by
 unfold wj at e;split at e
 ·rename_i b c
  cases e;exact mg_of X G c
 ·cases e
def sm_at(e:zBi K=true):zBQ K:=by
 unfold zBi at e;exists h,K.lookup sysModules,e,o;dsimp at e;cases a:o.data with
 |dict c n=>exact⟨o,c,n,h,a⟩|_=>rw[a]at e;cases e
def cl_at(X:K.In h)(G:h.Ns mainGlobals mg)(e:zGZ K cl rs=true):ClOk K mg cl rs:=by
 obtain⟨e,l⟩:=GP e;obtain⟨g,j⟩:=GP e;refine⟨λa=>?_,λc a=>?_,sm_at l⟩
 ·cases cl with
  |nil=>exact absurd rfl a
  |cons n k =>
   replace g:(match wj K "ThrowError" with
    |some T=>tIn K T&&(n::k).all λc=>(match wj K c with|some C=>xIn K c C T|none=>false)
    |none=>false)=true:=g
   exists hT,wj K "ThrowError",g,T;obtain⟨o,i⟩:=GP g;refine⟨T,WY X G hT,tcls_of o,λc a=>?_⟩;have q:=all_eq_true.mp i c a;exists hC,wj K c,q,C;exact⟨C,WY X G hC,(zDm q).1,(zDm q).2⟩
 ·have q:=all_eq_true.mp j c a
  exists hC,wj K c,q,C;exact⟨C,WY X G hC,q⟩
def ri_at(X:K.In h)(G:h.Ns mainGlobals mg)(e:some (iview K c q)=some (iwant q st))
  (b:∀(kV o v:Lv) (M:Lx Lz) (n w:Lv) (j:Ls Lv),j.length=(("self":Str)::y0 c).length->bindArgs (fnOf "__init__" q (wK st) (yk st) (zY st) .none kV o v M n w) ⟨j,[]⟩=pure ((("self":Str)::y0 c).zip j):=by intro _ _ _ _ _ _;first|exact ar2 (λ_ _=>rfl)|exact ar3 (λ_ _ _=>rfl)):RiAt K mg c st:=by
 have e:=qJ e;unfold iview at e;split at e
 ·rename_i C T D hT
  split at e
  ·rename_i z l
   split at e
   ·rename_i f hf
    split at e
    ·rename_i R Q J O hl
     have e:=qJ e;unfold fvOf at e;injection e with e1 e
     injection e with e2 e
     injection e with e3 e
     injection e with e4 e
     injection e with e5 e
     injection e with e6 e
     injection e with e7 e
     injection e with e8 e
     injection e with e9 e10
     obtain⟨k,p⟩:=GP e1;cases J;simp only at e2 e3 e4 e5 e6 e7 e8 e9 e10;subst e2 e3 e4 e5 e6 e7 e8 e9 e10;dsimp[iOk,Bool.and_eq_true,beq_iff_eq,all_eq_true]at p;obtain⟨⟨⟨⟨⟨H,u⟩,x⟩,r⟩,⟨y,E⟩,i⟩,⟨⟨t,B⟩,a⟩,g⟩:=p;have I:findCls K (.ref T) (.type "type") "__init__"=some (.val (.builtin "ValueError.__init__")):=by
      split at i
      ·rename_i b L
       rw[L,beq_iff_eq.mp i]
      ·cases i
     exact⟨C,T,f,_,_,WY X G D,WY X G hT,H,u,x,Q0 (st:=st) hl k r,(Q0 (st:=st) hl k r).binds b,⟨y,E,I⟩,⟨⟨z,l,t,B⟩,a⟩,g⟩
    ·cases e
   ·cases e
  ·cases e
 ·cases e
end
def walkE{l:PySem.W.OpenLaw}{q:Lc}{loose:Ls Str}{XP:(Str->Lx Lv)->Heap->Prop}{d:DefRec}{as:Ls Lz}{α:Type}{L:qH->α}{v:α}{x:Str}{F:MF}(M:∀t:Ls Int,t.length<=63->∃n,F [.v (.l (t.map D.int))]=.ok (.v (.bl true),n))
  (hn:l.most=some 63) (y:d.params.defaults=[])
  (O:∀(w:Le) (K:qH) (j:Str->Lx Lv) (r:Lz) (h:Heap),K.In h->L K=v->h.Ns mainGlobals j->j d.name=some (.ref r) ->
   ∃C:FuncData,(∀(s:La) (u:Lv),BindsTo s C ⟨[u],[]⟩ [(x,u)])/\∀c:Heap,FnOk l.prog w K j c (CXx l.prog w) 40 r C [x] (spM K j 1 F)) :
  PySem.W.WalkO q loose XP (zAl as α L v).says l.row.toRowW d [] (λf I=>PySem.call f I):=by
 refine Att.attach_call hn y λw E J j mb r o Z cd X a I t G Y ho hd V B p i g S=>?_
 obtain⟨K,KX,e⟩:=Y;obtain⟨C,W,R⟩:=O w K j r _ KX e G.T.g B;exact zEh (sp:=spLaw K) (k:=40) KX G.T.g G.T.b G.T.builtins G.T.nolimit S p i (le_trans g (by decide)) ⟨rfl,rfl,by decide,by decide⟩ (λc _ _=>(R c).imp (law_imp M)) W (λH hO Q=>⟨a,t,rfl,Q,g,λ_=>rfl⟩) λH e s' z9=>by obtain⟨_,_,_,_,_,_,_,_,_,_,_,_,z⟩:=z9;exact z
end DV
namespace My
open PySem L2 DV
def cs_:Ls (Str×D):=[("LEAST_SIGNS",.int 2),("MOST_SIGNS",.int 3),("MOST_STANDS",.int 12)]
def bs_:Ls Str:=["ValueError","all","bool","enumerate","int","isinstance","len","list","max","min","range","repr","set","sorted","tuple","zip"]
def ri_:Ls Str:=["TooGreat"]
def vI:Bx :=
  (.o (.sRet (.and (.is .int (.x 0)) (.not (.is .bool (.x 0))))))
def Qd:Ls FI:=[]
def Y6:MF:=fnM 1 (dB Qd vI)
def ya:Bx :=
  (.o (.sRet (.and (.call 0 (.ev (.x 0) .nil)) (.chain .le .le (.x 1) (.x 0) (.x 2)))))
def jB:Ls FI:=[⟨"is_whole",1,1,false,Y6⟩]
def zq:MF:=fnM 3 (dB jB ya)
def ZS:Bx :=
  (.o (.sRet (.and (.is .tuple (.x 0)) (.cB .all (.cons (.comp 1 ["number"] ["high"] [1] (.iT (.x 0)) (.n 0) .tTr (.call 0 (.ev (.x 0) (.ev (.c (.int 0)) (.ev (.x 1) .nil))))) .nil)))))
def vz:Ls FI:=[⟨"is_whole_within",3,2,false,zq⟩]
def yw:MF:=fnM 2 (dB vz ZS)
def ZT:Bx :=
  (.s (.sIf (.tOr (.tNot (.tE (.is .tuple (.x 0)))) (.tNot (.tE (.chain .le .le (.c (.int 1)) (.cB .len (.cons (.x 0) .nil)) (.gl (.int 12)))))) (.o (.sRet (.c (.bl false)))) .bNil)
  (.s (.sIf (.tNot (.tE (.cB .all (.cons (.comp 1 ["row"] ["thing"] [0] (.iT (.x 0)) (.n 0) .tTr (.call 0 (.ev (.x 0) (.ev (.bin .sub (.cB .len (.cons (.x 1) .nil)) (.c (.int 1))) .nil)))) .nil)))) (.o (.sRet (.c (.bl false)))) .bNil)
  (.s (.sSet 1 (.cB .len (.cons (.ix (.x 0) (.c (.int 0))) .nil)))
  (.o (.sRet (.and (.chain .le .le (.gl (.int 2)) (.x 1) (.gl (.int 3))) (.cB .all (.cons (.comp 1 ["row"] ["signs"] [1] (.iT (.x 0)) (.n 0) .tTr (.cmp .eq (.cB .len (.cons (.x 0) .nil)) (.x 1))) .nil))))))))
def yb:Ls FI:=[⟨"all_within",2,3,false,yw⟩]
def jw:MF:=fnM 2 (dB yb ZT)
def JE:Bx :=
  (.s (.sIf (.tNot (.tE (.call 0 (.ev (.x 0) (.ev (.bin .sub (.x 1) (.c (.int 1))) .nil))))) (.o (.sRet (.c (.bl false)))) .bNil)
  (.o (.sRet (.cB .all (.cons (.comp 2 ["one","behind"] [] [] (.iZ true true (.cons (.x 0) (.cons (.sl (.x 0) (.oS (.c (.int 1))) .oN) .nil))) (.t [0,1]) .tTr (.cmp .lt (.x 0) (.x 1))) .nil)))))
def wo:Ls FI:=[⟨"all_within",2,3,false,yw⟩]
def jC:MF:=fnM 2 (dB wo JE)
def Jk:Bx :=
  (.s (.sIf (.tOr (.tNot (.tE (.is .tuple (.x 0)))) (.tE (.cmp .ne (.cB .len (.cons (.x 0) .nil)) (.c (.int 2))))) (.o (.sRet (.c (.bl false)))) .bNil)
  (.s (.sTup [1,2] (.x 0))
  (.o (.sRet (.and (.call 1 (.ev (.x 1) .nil)) (.call 0 (.ev (.x 2) (.ev (.cB .len (.cons (.x 1) .nil)) .nil))))))))
def jD:Ls FI:=[⟨"rising_stands",2,4,false,jC⟩,⟨"steps_good",1,4,false,jw⟩]
def yi:MF:=fnM 3 (dB jD Jk)
def Jl:Bx :=
  (.o (.sIf (.tNot (.tE (.call 0 (.ev (.x 0) .nil)))) (.o (.sRaise "NoMachine")) .bNil))
def WZ:Ls FI:=[⟨"machine_good",1,5,false,yi⟩]
def zQ:MF:=fnM 1 (dB WZ Jl)
def ZU:Bx :=
  (.o (.sRet (.cB .len (.cons (.ix (.ix (.x 0) (.c (.int 0))) (.c (.int 0))) .nil))))
def v3:Ls FI:=[]
def zk:MF:=fnM 1 (dB v3 ZU)
def ZV:Bx :=
  (.s (.sDrop (.call 1 (.ev (.x 0) .nil)))
  (.s (.sDrop (.call 1 (.ev (.x 1) .nil)))
  (.o (.sIf (.tE (.cmp .ne (.call 0 (.ev (.x 0) .nil)) (.call 0 (.ev (.x 1) .nil)))) (.o (.sRaise "NoMachine")) .bNil))))
def v4:Ls FI:=[⟨"signs_read",1,1,false,zk⟩,⟨"need_machine",1,6,false,zQ⟩]
def zm:MF:=fnM 2 (dB v4 ZV)
def vJ:Bx :=
  (.s (.sDrop (.call 0 (.ev (.x 0) .nil)))
  (.s (.sTup [1,2] (.x 0))
  (.o (.sRet (.t (.cons (.x 1) (.cons (.cB .tuple (.cons (.comp 1 ["stand"] ["good"] [2] (.iR1 (.cons (.cB .len (.cons (.x 1) .nil)) .nil)) (.n 0) (.tE (.cmp .nin (.x 0) (.x 1))) (.x 0)) .nil)) .nil)))))))
def Wa:Ls FI:=[⟨"need_machine",1,6,false,zQ⟩]
def jg:MF:=fnM 3 (dB Wa vJ)
def Yi:Bx :=
  (.o (.sRet (.t (.cons (.ix (.ix (.ix (.x 0) (.c (.int 0))) (.ix (.x 2) (.c (.int 0)))) (.x 3)) (.cons (.ix (.ix (.ix (.x 1) (.c (.int 0))) (.ix (.x 2) (.c (.int 1)))) (.x 3)) .nil)))))
def Wx:Ls FI:=[]
def yc:MF:=fnM 4 (dB Wx Yi)
abbrev wW:Bx :=
  (.s (.sSet 7 (.call 0 (.ev (.x 0) (.ev (.x 1) (.ev (.x 5) (.ev (.x 6) .nil))))))
  (.o (.sIf (.tE (.ninO 2 (.x 7))) (.s (.sDput 2 (.x 7) (.bin .add (.dgO 2 (.x 5)) (.t (.cons (.x 6) .nil))))
  (.o (.sApp 3 (.x 7)))) .bNil)))
abbrev wX:Bx :=
  (.s (.sSet 5 (.ixO 3 (.x 4)))
  (.s (.sForR1 (.cons (.call 1 (.ev (.x 0) .nil)) .nil) (.n 6)
  wW)
  (.o (.sAug 4 .add (.c (.int 1))))))
def Wb:Bx :=
  (.s (.sSet 2 (.disp (.t (.cons (.c (.int 0)) (.cons (.c (.int 0)) .nil))) (.t .nil)))
  (.s (.sSet 3 (.l (.cons (.t (.cons (.c (.int 0)) (.cons (.c (.int 0)) .nil))) .nil)))
  (.s (.sSet 4 (.c (.int 0)))
  (.s (.sWhile (.tE (.cmp .lt (.x 4) (.lenO 3)))
  wX)
  (.o (.sRet (.mov 2)))))))
def zp:Ls FI:=[⟨"pair_behind",4,1,false,yc⟩,⟨"signs_read",1,1,false,zk⟩]
def jq:MF:=fnM 8 (dB zp Wb)
def Wc:Bx :=
  (.o (.sRet (.cB .len (.cons (.comp 2 ["machine","stand"] [] [] (.iZ true true (.cons (.t (.cons (.x 0) (.cons (.x 1) .nil))) (.cons (.x 2) .nil))) (.t [0,1]) (.tE (.cmp .inn (.x 1) (.ix (.x 0) (.c (.int 1))))) (.x 1)) .nil))))
def ZW:Ls FI:=[]
def wY:MF:=fnM 3 (dB ZW Wc)
def zAm:Bx :=
  (.s (.sDrop (.call 4 (.ev (.x 0) (.ev (.x 1) .nil))))
  (.s (.sSet 3 (.cB .lisK (.cons (.call 3 (.ev (.x 0) (.ev (.x 1) .nil))) .nil)))
  (.s (.sIf (.tE (.cmp .gt (.cB .len (.cons (.x 3) .nil)) (.gl (.int 12)))) (.o (.sRaiseA "TooGreat" (.cons (.cB .len (.cons (.x 3) .nil)) (.cons (.gl (.int 12)) .nil)))) .bNil)
  (.s (.sSet 4 (.frz (.dcomp 2 ["number","pair"] [] [] (.iE false (.cons (.x 3) .nil)) (.t [0,1]) .tTr (.x 1) (.x 0))))
  (.s (.sSet 5 (.comp 1 ["pair"] ["one","numbers","other"] [0,4,1] (.iL (.x 3)) (.n 0) .tTr (.cB .tuple (.cons (.comp 1 ["sign"] ["numbers","one","other","pair"] [2,1,3,0] (.iR1 (.cons (.call 1 (.ev (.x 1) .nil)) .nil)) (.n 0) .tTr (.dg (.x 1) (.call 2 (.ev (.x 2) (.ev (.x 3) (.ev (.x 4) (.ev (.x 0) .nil))))))) .nil))))
  (.s (.sSet 6 (.comp 1 ["pair"] ["numbers","one","other","wanted"] [4,0,1,2] (.iL (.x 3)) (.n 0) (.tE (.cmp .ge (.call 0 (.ev (.x 2) (.ev (.x 3) (.ev (.x 0) .nil)))) (.x 4))) (.dg (.x 1) (.x 0))))
  (.o (.sRet (.t (.cons (.cB .tuple (.cons (.x 5) .nil)) (.cons (.cB .tuple (.cons (.x 6) .nil)) .nil)))))))))))
def jr:Ls FI:=[⟨"good_many",3,1,false,wY⟩,⟨"signs_read",1,1,false,zk⟩,⟨"pair_behind",4,1,false,yc⟩,⟨"met_pairs",2,2,false,jq⟩,⟨"need_alike",2,7,false,zm⟩]
def yV:MF:=fnM 7 (dB jr zAm)
def zHR:Bx :=
  (.o (.sRet (.call 0 (.ev (.x 0) (.ev (.x 1) (.ev (.c (.int 2)) .nil))))))
def fs_both:Ls FI:=[⟨"joined",3,8,false,yV⟩]
def GS:MF:=fnM 2 (dB fs_both zHR)
def zAn:Bx :=
  (.o (.sRet (.call 0 (.ev (.x 0) (.ev (.x 1) (.ev (.c (.int 1)) .nil))))))
def zDo:Ls FI:=[⟨"joined",3,8,false,yV⟩]
def Yj:MF:=fnM 2 (dB zDo zAn)
def j5:Bx :=
  (.s (.sIf (.tE (.cmp .lt (.x 1) (.cB .len (.cons (.x 0) .nil)))) (.o (.sRet (.ix (.x 0) (.x 1)))) .bNil)
  (.o (.sRet (.c (.int 0)))))
def JF:Ls FI:=[]
def yj:MF:=fnM 2 (dB JF j5)
def J2:Bx :=
  (.s (.sSet 0 (.bin .mod (.bin .add (.x 0) (.c (.int 7919))) (.c (.int 2147483647))))
  (.o (.sRet (.bin .mod (.bin .add (.bin .add (.bin .mul (.x 0) (.x 0)) (.bin .mul (.c (.int 48271)) (.x 0))) (.c (.int 12345))) (.c (.int 2147483629))))))
def ZX:Ls FI:=[]
def wZ:MF:=fnM 1 (dB ZX J2)
def wa:Bx :=
  (.s (.sSet 1 (.cB .max (.cons (.x 0) (.cons (.bin .sub (.c (.int 0)) (.x 0)) .nil))))
  (.o (.sRet (.l (.cons (.x 1) (.cons (.cB .int (.cons (.cmp .ge (.x 1) (.bin .pow (.c (.int 10)) (.c (.int 18)))) .nil)) (.cons (.bin .mod (.x 1) (.c (.int 1000003))) .nil)))))))
def Jm:Ls FI:=[]
def jE:MF:=fnM 2 (dB Jm wa)
def wb:Bx :=
  (.s (.sIf (.tE (.cmp .eq (.ixO 0 (.c (.int 1))) (.c (.int 1)))) (.s (.sSet 2 (.bin .mod (.ixO 0 (.c (.int 0))) (.x 1)))
  (.s (.sIx 0 (.c (.int 0)) (.bin .fdiv (.ixO 0 (.c (.int 0))) (.x 1)))
  (.o (.sRet (.x 2))))) .bNil)
  (.s (.sIx 0 (.c (.int 2)) (.call 0 (.ev (.bin .add (.call 0 (.ev (.ixO 0 (.c (.int 2))) .nil)) (.c (.int 7))) .nil)))
  (.o (.sRet (.bin .mod (.bin .fdiv (.ixO 0 (.c (.int 2))) (.c (.int 64))) (.x 1))))))
def JG:Ls FI:=[⟨"_law_next",1,1,false,wZ⟩]
def zO:MF:=fnM 3 (dB JG wb)
def ZY:Bx :=
  (.o (.sRet (.and (.is .int (.x 0)) (.not (.is .bool (.x 0))))))
def v7:Ls FI:=[]
def jx:MF:=fnM 1 (dB v7 ZY)
def Jn:Bx :=
  (.s (.sSet 1 (.l (.cons (.isC cl_ "NoDie" (.x 0)) (.cons (.isC cl_ "NoRow" (.x 0)) (.cons (.isC cl_ "NoNumber" (.x 0)) (.cons (.isC cl_ "NoLine" (.x 0)) .nil))))))
  (.s (.sSet 1 (.bin .add (.x 1) (.l (.cons (.isC cl_ "NoMachine" (.x 0)) (.cons (.isC cl_ "NoPaper" (.x 0)) (.cons (.isC cl_ "NoText" (.x 0)) (.cons (.isC cl_ "TooGreat" (.x 0)) .nil)))))))
  (.s (.sIf (.tOr (.tNot (.tE (.isV cl_ (.x 0)))) (.tE (.cmp .ne (.cnt (.x 1) (.c (.bl true))) (.c (.int 1))))) (.o (.sRet (.c (.str "other")))) .bNil)
  (.o (.sRet (.ix (.l (.cons (.c (.str "die")) (.cons (.c (.str "row")) (.cons (.c (.str "number")) (.cons (.c (.str "line")) (.cons (.c (.str "machine")) (.cons (.c (.str "paper")) (.cons (.c (.str "text")) (.cons (.c (.str "great")) .nil))))))))) (.idx (.x 1) (.c (.bl true)))))))))
def Wd:Ls FI:=[]
def yR:MF:=fnM 2 (dB Wd Jn)
abbrev yn:Bx :=
  (.s (.sSet 7 (.cB .tuple (.cons (.comp 1 ["_law_sign"] ["_law_pen","_law_many"] [0,3] (.iR1 (.cons (.x 2) .nil)) (.n 0) .tTr (.call 0 (.lend 1 (.ev (.x 2) .nil)))) .nil)))
  (.s (.sIf (.tE (.cmp .eq (.x 4) (.c (.int 0)))) (.o (.sSet 7 (.bin .add (.t (.cons (.cB .min (.cons (.bin .add (.x 6) (.c (.int 1))) (.cons (.bin .sub (.x 3) (.c (.int 1))) .nil))) .nil)) (.bin .mul (.t (.cons (.c (.int 0)) .nil)) (.bin .sub (.x 2) (.c (.int 1))))))) .bNil)
  (.s (.sIf (.tE (.cmp .eq (.x 4) (.c (.int 1)))) (.o (.sSet 7 (.bin .add (.bin .mul (.t (.cons (.bin .mod (.bin .add (.x 6) (.c (.int 1))) (.x 3)) .nil)) (.bin .sub (.x 2) (.c (.int 1)))) (.t (.cons (.x 6) .nil))))) .bNil)
  (.o (.sApp 5 (.x 7))))))
def wH:Bx :=
  (.s (.sSet 2 (.bin .add (.c (.int 2)) (.call 0 (.lend 0 (.ev (.c (.int 2)) .nil)))))
  (.s (.sSet 3 (.bin .add (.c (.int 1)) (.call 0 (.lend 0 (.ev (.x 1) .nil)))))
  (.s (.sSet 4 (.call 0 (.lend 0 (.ev (.c (.int 4)) .nil))))
  (.s (.sSet 5 (.l .nil))
  (.s (.sForR1 (.cons (.x 3) .nil) (.n 6)
  yn)
  (.o (.sRet (.t (.cons (.cB .tuple (.cons (.x 5) .nil)) (.cons (.cB .tuple (.cons (.comp 1 ["_law_stand"] ["_law_pen"] [0] (.iR1 (.cons (.x 3) .nil)) (.n 0) (.tE (.cmp .eq (.call 0 (.lend 1 (.ev (.c (.int 3)) .nil))) (.c (.int 0)))) (.x 0)) .nil)) .nil))))))))))
def zX:Ls FI:=[⟨"_law_draw",2,2,false,zO⟩]
def zr:MF:=fnM 8 (dB zX wH)
abbrev yC:Bx :=
  (.s (.sIf (.tOr (.tNot (.tE (.is .tuple (.x 2)))) (.tOr (.tE (.cmp .nin (.cB .len (.cons (.x 2) .nil)) (.t (.cons (.c (.int 2)) (.cons (.c (.int 3)) .nil))))) (.tE (.cmp .ne (.cB .len (.cons (.x 2) .nil)) (.cB .len (.cons (.ix (.ix (.x 0) (.c (.int 0))) (.c (.int 0))) .nil)))))) (.o (.sRet (.c (.bl false)))) .bNil)
  (.o (.sIf (.tNot (.tE (.cB .all (.cons (.comp 1 ["_law_stand"] ["_law_many"] [1] (.iT (.x 2)) (.n 0) .tTr (.and (.call 0 (.ev (.x 0) .nil)) (.chain .le .lt (.c (.int 0)) (.x 0) (.x 1)))) .nil)))) (.o (.sRet (.c (.bl false)))) .bNil)))
def yo:Bx :=
  (.s (.sIf (.tOr (.tNot (.tE (.is .tuple (.x 0)))) (.tOr (.tE (.cmp .ne (.cB .len (.cons (.x 0) .nil)) (.c (.int 2)))) (.tNot (.tE (.is .tuple (.ix (.x 0) (.c (.int 0)))))))) (.o (.sRet (.c (.bl false)))) .bNil)
  (.s (.sSet 1 (.cB .len (.cons (.ix (.x 0) (.c (.int 0))) .nil)))
  (.s (.sIf (.tOr (.tNot (.tE (.chain .le .le (.c (.int 1)) (.x 1) (.c (.int 12))))) (.tNot (.tE (.is .tuple (.ix (.x 0) (.c (.int 1))))))) (.o (.sRet (.c (.bl false)))) .bNil)
  (.s (.sForT (.ix (.x 0) (.c (.int 0))) (.n 2)
  yC)
  (.s (.sIf (.tNot (.tE (.cB .all (.cons (.comp 1 ["_law_stand"] ["_law_many"] [1] (.iT (.ix (.x 0) (.c (.int 1)))) (.n 0) .tTr (.and (.call 0 (.ev (.x 0) .nil)) (.chain .le .lt (.c (.int 0)) (.x 0) (.x 1)))) .nil)))) (.o (.sRet (.c (.bl false)))) .bNil)
  (.o (.sRet (.cmp .eq (.cB .list (.cons (.ix (.x 0) (.c (.int 1))) .nil)) (.sset (.cons (.ix (.x 0) (.c (.int 1))) .nil))))))))))
def zC:Ls FI:=[⟨"_law_whole",1,1,false,jx⟩]
def zx:MF:=fnM 3 (dB zC yo)
def wI:Bx :=
  (.s (.sTup [2,3] (.x 1))
  (.s (.sSet 4 (.cB .len (.cons (.x 2) .nil)))
  (.s (.sSet 5 (.call 0 (.lend 0 (.ev (.x 4) .nil))))
  (.s (.sSet 6 (.call 0 (.lend 0 (.ev (.cB .len (.cons (.ix (.x 2) (.c (.int 0))) .nil)) .nil))))
  (.s (.sSet 7 (.ix (.l (.cons (.x 4) (.cons (.neg (.c (.int 1))) (.cons (.c (.bl true)) (.cons (.c .non) (.cons (.c (.str "0")) (.cons (.t (.cons (.c (.int 0)) .nil)) (.cons (.bin .pow (.c (.int 10)) (.c (.int 30))) (.cons (.c (.int 0)) .nil))))))))) (.call 0 (.lend 0 (.ev (.c (.int 8)) .nil)))))
  (.s (.sSet 8 (.bin .add (.bin .add (.sl (.ix (.x 2) (.x 5)) .oN (.oS (.x 6))) (.t (.cons (.x 7) .nil))) (.sl (.ix (.x 2) (.x 5)) (.oS (.bin .add (.x 6) (.c (.int 1)))) .oN)))
  (.s (.sSet 9 (.l (.cons (.x 8) (.cons (.bin .add (.ix (.x 2) (.x 5)) (.t (.cons (.c (.int 0)) .nil))) (.cons (.sl (.ix (.x 2) (.x 5)) (.oS (.c (.int 1))) .oN) (.cons (.cB .list (.cons (.ix (.x 2) (.x 5)) .nil)) (.cons (.c .non) (.cons (.t .nil) .nil))))))))
  (.s (.sSet 10 (.bin .add (.bin .add (.sl (.x 2) .oN (.oS (.x 5))) (.t (.cons (.ix (.x 9) (.ix (.l (.cons (.c (.int 0)) (.cons (.c (.int 0)) (.cons (.c (.int 0)) (.cons (.c (.int 1)) (.cons (.c (.int 2)) (.cons (.c (.int 3)) (.cons (.c (.int 4)) (.cons (.c (.int 5)) .nil))))))))) (.call 0 (.lend 0 (.ev (.c (.int 8)) .nil))))) .nil))) (.sl (.x 2) (.oS (.bin .add (.x 5) (.c (.int 1)))) .oN)))
  (.s (.sSet 11 (.l (.cons (.t (.cons (.x 10) (.cons (.x 3) .nil))) (.cons (.t (.cons (.x 10) (.cons (.x 3) .nil))) (.cons (.t (.cons (.x 10) (.cons (.x 3) .nil))) (.cons (.t (.cons (.x 2) (.cons (.bin .add (.x 3) (.t (.cons (.x 7) .nil))) .nil))) (.cons (.t (.cons (.x 2) (.cons (.bin .add (.stp false (.x 3)) (.x 3)) .nil))) (.cons (.t (.cons (.x 2) .nil)) .nil))))))))
  (.s (.sSet 11 (.bin .add (.x 11) (.l (.cons (.cB .list (.cons (.x 1) .nil)) (.cons (.t (.cons (.cB .list (.cons (.x 2) .nil)) (.cons (.x 3) .nil))) (.cons (.t (.cons (.x 2) (.cons (.cB .list (.cons (.x 3) .nil)) .nil))) (.cons (.t (.cons (.t .nil) (.cons (.t .nil) .nil))) (.cons (.c .non) (.cons (.c (.int 0)) (.cons (.t (.cons (.bin .mul (.x 2) (.c (.int 13))) (.cons (.x 3) .nil))) .nil))))))))))
  (.o (.sRet (.ix (.x 11) (.call 0 (.lend 0 (.ev (.c (.int 13)) .nil))))))))))))))))
def zf:Ls FI:=[⟨"_law_draw",2,2,false,zO⟩]
def yI:MF:=fnM 12 (dB zf wI)
abbrev j6:Bx :=
  (.o (.sIf (.tBor 2 (.tE (.cmp .nin (.x 6) (.x 2)))) (.o (.sApp 2 (.x 6))) .bNil))
abbrev j7:Bx :=
  (.o (.sIf (.tE (.cmp .lt (.x 3) (.lenO 2))) (.s (.sTup [4,5] (.ixO 2 (.x 3)))
  (.o (.sForI (.iZN true true (.cons (.ix (.ix (.x 0) (.c (.int 0))) (.x 4)) (.cons (.ix (.ix (.x 1) (.c (.int 0))) (.x 5)) .nil))) (.n 6)
  j6))) .bNil))
def ZZ:Bx :=
  (.s (.sSet 2 (.l (.cons (.t (.cons (.c (.int 0)) (.cons (.c (.int 0)) .nil))) .nil)))
  (.s (.sForR1 (.cons (.c (.int 200)) .nil) (.n 3)
  j7)
  (.o (.sRet (.mov 2)))))
def yN:Ls FI:=[]
def jW:MF:=fnM 7 (dB yN ZZ)
abbrev JH:Bx :=
  (.o (.sIf (.tE (.cmp .ge (.cntL (.l (.cons (.cmp .inn (.ix (.x 9) (.c (.int 0))) (.ix (.x 0) (.c (.int 1)))) (.cons (.cmp .inn (.ix (.x 9) (.c (.int 1))) (.ix (.x 1) (.c (.int 1)))) .nil))) (.c (.bl true))) (.x 2))) (.o (.sApp 7 (.x 8))) .bNil))
abbrev JI:Bx :=
  (.o (.sApp 4 (.cB .tuple (.cons (.comp 1 ["_law_pair"] ["_law_some"] [3] (.iZN true true (.cons (.ix (.ix (.x 0) (.c (.int 0))) (.x 5)) (.cons (.ix (.ix (.x 1) (.c (.int 0))) (.x 6)) .nil))) (.n 0) .tTr (.idx (.x 1) (.x 0))) .nil))))
def vK:Bx :=
  (.s (.sIf (.tE (.cmp .ne (.cB .len (.cons (.ix (.ix (.x 0) (.c (.int 0))) (.c (.int 0))) .nil)) (.cB .len (.cons (.ix (.ix (.x 1) (.c (.int 0))) (.c (.int 0))) .nil)))) (.o (.sRet (.c (.str "machine")))) .bNil)
  (.s (.sSet 3 (.call 0 (.ev (.x 0) (.ev (.x 1) .nil))))
  (.s (.sIf (.tE (.cmp .gt (.cB .len (.cons (.x 3) .nil)) (.c (.int 12)))) (.o (.sRet (.t (.cons (.c (.str "great")) (.cons (.cB .len (.cons (.x 3) .nil)) (.cons (.c (.int 12)) .nil)))))) .bNil)
  (.s (.sSet 4 (.l .nil))
  (.s (.sForL (.x 3) (.t [5,6])
  JI)
  (.s (.sSet 7 (.l .nil))
  (.s (.sForI (.iE false (.cons (.x 3) .nil)) (.t [8,9])
  JH)
  (.o (.sRet (.t (.cons (.cB .tuple (.cons (.x 4) .nil)) (.cons (.cB .tuple (.cons (.x 7) .nil)) .nil))))))))))))
def yp:Ls FI:=[⟨"_law_pairs",2,1,false,jW⟩]
def JT:MF:=fnM 10 (dB yp vK)
def We:Bx :=
  (.o (.sTry cl_ (.o (.sRet (.ifx (.tE (.cmp .eq (.x 0) (.c (.int 2)))) (.call 0 (.ev (.x 1) .nil)) (.callV [1,2] (.ix (.l (.cons (.fn 1) (.cons (.fn 2) .nil))) (.x 0)) (.ev (.x 1) (.ev (.x 2) .nil)))))) 3
  (.s (.sIf (.tE (.isC cl_ "TooGreat" (.x 3))) (.o (.sRet (.t (.cons (.call 3 (.ev (.x 3) .nil)) (.cons (.atr ri_ "many" (.x 3)) (.cons (.atr ri_ "most" (.x 3)) .nil)))))) .bNil)
  (.o (.sRet (.call 3 (.ev (.x 3) .nil)))))))
def yx:Ls FI:=[⟨"contrary",1,7,false,jg⟩,⟨"both",2,9,false,GS⟩,⟨"either",2,9,false,Yj⟩,⟨"_law_kind_of",1,1,true,yR⟩]
def zj:MF:=fnM 4 (dB yx We)
abbrev Qe:Bx :=
  (.o (.sIf (.tE (.cmp .ne (.cB .repr (.cons (.call 1 (.ev (.x 7) (.ev (.x 4) (.ev (.x 6) .nil)))) .nil)) (.cB .repr (.cons (.call 3 (.ev (.x 4) (.ev (.x 6) (.ev (.bin .sub (.c (.int 2)) (.x 7)) .nil)))) .nil)))) (.o (.sRet (.c (.bl false)))) .bNil))
abbrev Qf:Bx :=
  (.o (.sForR1 (.cons (.c (.int 2)) .nil) (.n 7)
  Qe))
abbrev Qg:Bx :=
  (.s (.sSet 5 (.cB .tuple (.cons (.comp 1 ["_law_stand"] ["_law_one"] [4] (.iR1 (.cons (.cB .len (.cons (.ix (.x 4) (.c (.int 0))) .nil)) .nil)) (.n 0) (.tE (.cmp .nin (.x 0) (.ix (.x 1) (.c (.int 1))))) (.x 0)) .nil)))
  (.s (.sIf (.tE (.cmp .ne (.cB .repr (.cons (.call 1 (.ev (.c (.int 2)) (.ev (.x 4) (.ev (.c (.int 0)) .nil)))) .nil)) (.cB .repr (.cons (.t (.cons (.ix (.x 4) (.c (.int 0))) (.cons (.x 5) .nil))) .nil)))) (.o (.sRet (.c (.bl false)))) .bNil)
  (.o (.sForL (.x 3) (.n 6)
  Qf))))
abbrev v8:Bx :=
  (.s (.sSet 2 (.call 5 (.ev (.x 1) .nil)))
  (.s (.sSet 3 (.l (.cons (.call 4 (.lend 2 (.ev (.c (.int 4)) .nil))) (.cons (.call 4 (.lend 2 (.ev (.c (.int 4)) .nil))) (.cons (.call 4 (.lend 2 (.ev (.c (.int 12)) .nil))) .nil)))))
  (.s (.sForL (.x 3) (.n 4)
  Qg)
  (.s (.sSet 8 (.call 2 (.lend 2 (.ev (.ix (.x 3) (.c (.int 2))) .nil))))
  (.o (.sIf (.tNot (.tE (.call 0 (.ev (.x 8) .nil)))) (.s (.sSet 9 (.bin .add (.comp 1 ["_law_way"] ["_law_bad"] [8] (.iR1 (.cons (.c (.int 3)) .nil)) (.n 0) .tTr (.call 1 (.ev (.x 0) (.ev (.x 1) (.ev (.c .non) .nil))))) (.comp 1 ["_law_way"] ["_law_some","_law_bad"] [3,8] (.iR1 (.cons (.c (.int 2)) .nil)) (.n 0) .tTr (.call 1 (.ev (.x 0) (.ev (.ix (.x 1) (.c (.int 0))) (.ev (.x 2) .nil)))))))
  (.o (.sIf (.tE (.cmp .ne (.x 9) (.bin .mul (.l (.cons (.c (.str "machine")) .nil)) (.c (.int 5))))) (.o (.sRet (.c (.bl false)))) .bNil))) .bNil))))))
def t_law:Bx :=
  (.s (.sForL (.bin .add (.l (.cons (.call 6 (.ev (.x 0) (.ev (.c (.int 0)) .nil))) .nil)) (.sl (.x 0) (.oS (.c (.int 1))) (.oS (.c (.int 4))))) (.n 1)
  v8)
  (.o (.sRet (.c (.bl true)))))
def jK:Ls FI:=[⟨"_law_machine_good",1,2,false,zx⟩,⟨"_law_told",3,10,false,zj⟩,⟨"_law_no_machine",2,3,false,yI⟩,⟨"_law_due",3,2,false,JT⟩,⟨"_law_machine_by",2,3,false,zr⟩,⟨"_law_pen_of",1,1,false,jE⟩,⟨"_law_cell_at",2,1,false,yj⟩]
def m_law:MF:=fnM 10 (dB jK t_law)
structure Txt(K:qH)(mg:Str->Option Lv):Prop where
 n_ValueError:mg "ValueError"=none
 n_all:mg "all"=none
 n_bool:mg "bool"=none
 n_enumerate:mg "enumerate"=none
 n_int:mg "int"=none
 n_isinstance:mg "isinstance"=none
 n_len:mg "len"=none
 n_list:mg "list"=none
 n_max:mg "max"=none
 n_min:mg "min"=none
 n_range:mg "range"=none
 n_repr:mg "repr"=none
 n_set:mg "set"=none
 n_sorted:mg "sorted"=none
 n_tuple:mg "tuple"=none
 n_zip:mg "zip"=none
 c_LEAST_SIGNS:∃t,mg "LEAST_SIGNS"=some (.int 2 t)
 c_MOST_SIGNS:∃t,mg "MOST_SIGNS"=some (.int 3 t)
 c_MOST_STANDS:∃t,mg "MOST_STANDS"=some (.int 12 t)
 f_is_whole:Jh K mg "is_whole" W2 ["thing"]
 f_is_whole_within:Jh K mg "is_whole_within" wC ["thing","low","high"]
 f_all_within:Jh K mg "all_within" ZD ["thing","high"]
 f_steps_good:Jh K mg "steps_good" ZE ["thing"]
 f_rising_stands:Jh K mg "rising_stands" wq ["thing","many"]
 f_machine_good:Jh K mg "machine_good" JZ ["thing"]
 f_need_machine:Jh K mg "need_machine" Ja ["thing"]
 f_signs_read:Jh K mg "signs_read" ZF ["machine"]
 f_need_alike:Jh K mg "need_alike" ZG ["one","other"]
 f_contrary:Jh K mg "contrary" W3 ["machine"]
 f_pair_behind:Jh K mg "pair_behind" YF ["one","other","pair","sign"]
 f_met_pairs:Jh K mg "met_pairs" Zx ["one","other"]
 f_good_many:Jh K mg "good_many" Zy ["one","other","pair"]
 f_joined:Jh K mg "joined" Qt ["one","other","wanted"]
 f_both:Jh K mg "both" zGa ["one","other"]
 f_either:Jh K mg "either" Qu ["one","other"]
 f__law_cell_at:Jh K mg "_law_cell_at" Jb ["_law_script","_law_k"]
 f__law_next:Jh K mg "_law_next" Zz ["_law_seed"]
 f__law_pen_of:Jh K mg "_law_pen_of" YG ["_law_cell"]
 f__law_draw:Jh K mg "_law_draw" Z0 ["_law_pen","_law_many"]
 f__law_whole:Jh K mg "_law_whole" ZH ["_law_found"]
 f__law_kind_of:Jh K mg "_law_kind_of" Jd ["_law_e"]
 f__law_machine_by:Jh K mg "_law_machine_by" wD ["_law_pen","_law_most"]
 f__law_machine_good:Jh K mg "_law_machine_good" jh ["_law_thing"]
 f__law_no_machine:Jh K mg "_law_no_machine" wE ["_law_pen","_law_machine"]
 f__law_pairs:Jh K mg "_law_pairs" ZI ["_law_one","_law_other"]
 f__law_due:Jh K mg "_law_due" W4 ["_law_one","_law_other","_law_wanted"]
 f__law_told:Jh K mg "_law_told" Z3 ["_law_way","_law_one","_law_other"]
 f_law:Jh K mg "law" s_law ["_law_script"]
 r_TooGreat:RiAt K mg "TooGreat" W5
 cl:ClOk K mg cl_ rs_
section
variable{P:Lc}{w:Le}{K:qH}{mg:Str->Lx Lv}{base:Heap}
def jF(T:Txt K mg):zF2 K mg cs_:=(Qc T.c_LEAST_SIGNS (Qc T.c_MOST_SIGNS (Qc T.c_MOST_STANDS cs_nil)))
def jG(T:Txt K mg):zDl P w K mg base ri_:=(zFV ⟨ri_of T.r_TooGreat (sc_of (of_decide_eq_true (by left))) (by left),ra_of T.r_TooGreat⟩ ris_nil)
def jH(T:Txt K mg):BsOk mg bs_:=(yd T.n_ValueError (yd T.n_all (yd T.n_bool (yd T.n_enumerate (yd T.n_int (yd T.n_isinstance (yd T.n_len (yd T.n_list (yd T.n_max (yd T.n_min (yd T.n_range (yd T.n_repr (yd T.n_set (yd T.n_sorted (yd T.n_tuple (yd T.n_zip bs_nil))))))))))))))))
def Qh(T:Txt K mg):FOk P w K mg base true "is_whole" 1 ["thing"] Y6:=zh vI ["thing"] T.f_is_whole (jF T) yB (jH T) T.cl (jG T) (by left)
def Yk(T:Txt K mg):FOk P w K mg base true "is_whole_within" 2 ["thing","low","high"] zq:=zh ya ["thing","low","high"] T.f_is_whole_within (jF T) (zV (Qh T) rfl yB) (jH T) T.cl (jG T) (by left)
def Yl(T:Txt K mg):FOk P w K mg base true "all_within" 3 ["thing","high"] yw:=zh ZS ["thing","high"] T.f_all_within (jF T) (zV (Yk T) rfl yB) (jH T) T.cl (jG T) (by left)
def v9(T:Txt K mg):FOk P w K mg base true "steps_good" 4 ["thing"] jw:=zh ZT ["thing","signs"] T.f_steps_good (jF T) (zV (Yl T) rfl yB) (jH T) T.cl (jG T) (by left)
def Zk(T:Txt K mg):FOk P w K mg base true "rising_stands" 4 ["thing","many"] jC:=zh JE ["thing","many"] T.f_rising_stands (jF T) (zV (Yl T) rfl yB) (jH T) T.cl (jG T) (by left)
def Wf(T:Txt K mg):FOk P w K mg base true "machine_good" 5 ["thing"] yi:=zh Jk ["thing","steps","good"] T.f_machine_good (jF T) (zV (Zk T) rfl (zV (v9 T) rfl yB)) (jH T) T.cl (jG T) (by left)
def JJ(T:Txt K mg):FOk P w K mg base true "need_machine" 6 ["thing"] zQ:=zh Jl ["thing"] T.f_need_machine (jF T) (zV (Wf T) rfl yB) (jH T) T.cl (jG T) (by left)
def wc(T:Txt K mg):FOk P w K mg base true "signs_read" 1 ["machine"] zk:=zh ZU ["machine"] T.f_signs_read (jF T) yB (jH T) T.cl (jG T) (by left)
def uA(T:Txt K mg):FOk P w K mg base true "need_alike" 7 ["one","other"] zm:=zh ZV ["one","other"] T.f_need_alike (jF T) (zV (wc T) rfl (zV (JJ T) rfl yB)) (jH T) T.cl (jG T) (by left)
def Qi(T:Txt K mg):FOk P w K mg base true "contrary" 7 ["machine"] jg:=zh vJ ["machine","steps","good"] T.f_contrary (jF T) (zV (JJ T) rfl yB) (jH T) T.cl (jG T) (by left)
def Jo(T:Txt K mg):FOk P w K mg base true "pair_behind" 1 ["one","other","pair","sign"] yc:=zh Yi ["one","other","pair","sign"] T.f_pair_behind (jF T) yB (jH T) T.cl (jG T) (by left)
def GT(T:Txt K mg):FOk P w K mg base true "met_pairs" 2 ["one","other"] jq:=zh Wb ["one","other","rows","pairs","at","pair","sign","behind"] T.f_met_pairs (jF T) (zV (Jo T) rfl (zV (wc T) rfl yB)) (jH T) T.cl (jG T) (by left)
def GU(T:Txt K mg):FOk P w K mg base true "good_many" 1 ["one","other","pair"] wY:=zh Wc ["one","other","pair"] T.f_good_many (jF T) yB (jH T) T.cl (jG T) (by left)
def GV(T:Txt K mg):FOk P w K mg base true "joined" 8 ["one","other","wanted"] yV:=zh zAm ["one","other","wanted","pairs","numbers","steps","good"] T.f_joined (jF T) (zV (GU T) rfl (zV (wc T) rfl (zV (Jo T) rfl (zV (GT T) rfl (zV (uA T) rfl yB))))) (jH T) T.cl (jG T) (by left)
def ok_both(T:Txt K mg):FOk P w K mg base true "both" 9 ["one","other"] GS:=zh zHR ["one","other"] T.f_both (jF T) (zV (GV T) rfl yB) (jH T) T.cl (jG T) (by left)
def zDp(T:Txt K mg):FOk P w K mg base true "either" 9 ["one","other"] Yj:=zh zAn ["one","other"] T.f_either (jF T) (zV (GV T) rfl yB) (jH T) T.cl (jG T) (by left)
def Wg(T:Txt K mg):FOk P w K mg base true "_law_cell_at" 1 ["_law_script","_law_k"] yj:=zh j5 ["_law_script","_law_k"] T.f__law_cell_at (jF T) yB (jH T) T.cl (jG T) (by left)
def GW(T:Txt K mg):FOk P w K mg base true "_law_next" 1 ["_law_seed"] wZ:=zh J2 ["_law_seed"] T.f__law_next (jF T) yB (jH T) T.cl (jG T) (by left)
def Wy(T:Txt K mg):FOk P w K mg base true "_law_pen_of" 1 ["_law_cell"] jE:=zh wa ["_law_cell","_law_left"] T.f__law_pen_of (jF T) yB (jH T) T.cl (jG T) (by left)
def Za(T:Txt K mg):FOk P w K mg base true "_law_draw" 2 ["_law_pen","_law_many"] zO:=zh wb ["_law_pen","_law_many","_law_found"] T.f__law_draw (jF T) (zV (GW T) rfl yB) (jH T) T.cl (jG T) (by left)
def uB(T:Txt K mg):FOk P w K mg base true "_law_whole" 1 ["_law_found"] jx:=zh ZY ["_law_found"] T.f__law_whole (jF T) yB (jH T) T.cl (jG T) (by left)
def Wh(T:Txt K mg):FOk P w K mg base false "_law_kind_of" 1 ["_law_e"] yR:=zh Jn ["_law_e","_law_marks"] T.f__law_kind_of (jF T) yB (jH T) T.cl (jG T) (by left)
def Ym(T:Txt K mg):FOk P w K mg base true "_law_machine_by" 3 ["_law_pen","_law_most"] zr:=zh wH ["_law_pen","_law_most","_law_signs","_law_many","_law_way","_law_steps","_law_stand","_law_line"] T.f__law_machine_by (jF T) (zV (Za T) rfl yB) (jH T) T.cl (jG T) (by left)
def JY(T:Txt K mg):FOk P w K mg base true "_law_machine_good" 2 ["_law_thing"] zx:=zh yo ["_law_thing","_law_many","_law_line"] T.f__law_machine_good (jF T) (zV (uB T) rfl yB) (jH T) T.cl (jG T) (by left)
def Yn(T:Txt K mg):FOk P w K mg base true "_law_no_machine" 3 ["_law_pen","_law_machine"] yI:=zh wI ["_law_pen","_law_machine","_law_steps","_law_good","_law_many","_law_spot","_law_at","_law_odd","_law_line","_law_lines","_law_bent","_law_some"] T.f__law_no_machine (jF T) (zV (Za T) rfl yB) (jH T) T.cl (jG T) (by left)
def uC(T:Txt K mg):FOk P w K mg base true "_law_pairs" 1 ["_law_one","_law_other"] jW:=zh ZZ ["_law_one","_law_other","_law_found","_law_at","_law_left","_law_right","_law_pair"] T.f__law_pairs (jF T) yB (jH T) T.cl (jG T) (by left)
def Qj(T:Txt K mg):FOk P w K mg base true "_law_due" 2 ["_law_one","_law_other","_law_wanted"] JT:=zh vK ["_law_one","_law_other","_law_wanted","_law_some","_law_steps","_law_left","_law_right","_law_good","_law_at","_law_pair"] T.f__law_due (jF T) (zV (uC T) rfl yB) (jH T) T.cl (jG T) (by left)
def GX(T:Txt K mg):FOk P w K mg base true "_law_told" 10 ["_law_way","_law_one","_law_other"] zj:=zh We ["_law_way","_law_one","_law_other","_law_e"] T.f__law_told (jF T) (zV (Qi T) rfl (zV (ok_both T) rfl (zV (zDp T) rfl (zV (Wh T) rfl yB)))) (jH T) T.cl (jG T) (by left)
end
def law_fd{P:Lc}{w:Le}{K:qH}{c:Str->Lx Lv}{i:Lz}(h:c "law"=some (.ref i))(T:Txt K c):∃g:FuncData,(∀(s:La) (u:Lv),BindsTo s g ⟨[u],[]⟩ [("_law_script",u)])/\∀base:Heap,FnOk P w K c base (CXx P w) 40 i g ["_law_script"] (spM K c 1 m_law):=by
 obtain⟨a,g,l,F,k⟩:=T.f_law;have e:=h.symm.trans l;cases e;refine⟨g,?_,λbase=>(def_atB (P:=P) (w:=w) (base:=base) (fs:=jK) (lv:=10) t_law ["_law_script","_law_cell","_law_pen","_law_some","_law_one","_law_good","_law_other","_law_way","_law_bad","_law_said"] F (jF T) (zV (JY T) rfl (zV (GX T) rfl (zV (Yn T) rfl (zV (Qj T) rfl (zV (Ym T) rfl (zV (Wy T) rfl (zV (Wg T) rfl yB))))))) (jH T) T.cl (jG T) (by left)).mono (by decide)⟩;obtain⟨x,t,kV,n,q,y,o,v,p,rfl,r,j⟩:=F.ex;exact λs u=>.of_eq rfl
end My
namespace DV
open PySem L2
section
variable{fs:Ls FI}{E E1 E2 E3:za}
def x_c:dE fs (.c d) E=.ok (.v d,E):=by dsimp[rE_c,eC]
def zEQ:dE fs (.gl d) E=.ok (.v d,E):=by dsimp[rE_gl,eC]
def zA(h:E[i]?=some (.v d)):dE fs (.x i) E=.ok (.v d,E):=by dsimp[Yg,zBG,h]
def jy(h:E[i]?=some (.w ds))(h':E.set i (.v (.l ds))=E1):dE fs (.x i) E=.ok (.v (.l ds),E1):=by dsimp[Yg,vH,zBG,h,h']
def x_movO(h:E[i]?=some (.w ds))(h':E.set i .e=E1):dE fs (.mov i) E=.ok (.w ds,E1):=by dsimp[zHH,zBI,h,h']
def yq(g:dE fs a E=.ok (r1,E1))(c:dE fs b E1=.ok (r2,E2))(e:o.f r1.d r2.d=some r):dE fs (.bin o a b) E=.ok (r,E2):=by dsimp[GM,YN,g,c,e]
def yD(g:dE fs a E=.ok (r1,E1))(c:dE fs b E1=.ok (r2,E2))(e:o.f r1.d r2.d=some r):dE fs (.cmp o a b) E=.ok (r,E2):=by dsimp[GN,YN,g,c,e]
def jX(g:dE fs a E=.ok (r1,E1))(c:dE fs b E1=.ok (r2,E2))(e:ixD r1.d r2.d=some r):dE fs (.ix a b) E=.ok (r,E2):=by dsimp[rE_ix,YN,g,c,e]
def x_stp(e:dE fs a E=.ok (r,E1))(c:zFN k r.d=some r'):dE fs (.stp k a) E=.ok (r',E1):=by dsimp[rE_stp,eUn,e,c]
def jY{as:_}(c:dA fs as E=.ok (rs,E1))(a:b.f (rs.map R.d)=some r):dE fs (.cB b as) E=.ok (r,E1):=by dsimp[rE_cB,eCB,c,a]
def jI{as:_}(e:dA fs as E=.ok (rs,E1))(a:rs.map R.d=ds)(c:ds.length<=cap):dE fs (.t as) E=.ok (.v (.t ds),E1):=by
 subst a;dsimp[rE_tup,zCV,eCB,e];rw[if_pos c]
def Yo{as:_}(e:dA fs as E=.ok (rs,E1))(a:rs.map R.d=ds)(c:ds.length<=cap):dE fs (.l as) E=.ok (.w ds,E1):=by
 subst a;dsimp[vH,zCW,eCB,e];rw[if_pos c]
def x_sl(h:dE fs a E=.ok (r,E1))(c:dO fs l E1=.ok (lo,E2))(e:dO fs u E2=.ok (hi,E3))(g:slD r.d lo hi=some r'):dE fs (.sl a l u) E=.ok (r',E3):=by dsimp[rE_sl,eSl,h,c,e,g]
def z9(e:fiF fs k=F)(g:dE fs a E=.ok (r,E1))(c:F [.v r.d]=.ok (r',[o])):dE fs (.call k (.ev a .nil)) E=.ok (r',E1):=by
 subst e;dsimp[jO,Jx,jV,jN,zn,g,zJ,c,zN]
def j8(g:fiF fs k=F)(h:dE fs a E=.ok (r,E1))(c:dE fs b E1=.ok (r2,E2))(e:F [.v r.d,.v r2.d]=.ok (r',[o,o2])):dE fs (.call k (.ev a (.ev b .nil))) E=.ok (r',E2):=by
 subst g;dsimp[jO,Jx,jV,jN,zn,h,c,zJ,e,zN]
def J4(n:dE fs a E=.ok (.v (.int i),E1))(e:dE fs b E1=.ok (.v (.int j),E2))(g:o.b i j=true)(h:dE fs c E2=.ok (.v (.int k),E3))(l:o'.b j k=v):dE fs (.chain o o' a b c) E=.ok (.v (.bl v),E3):=by
 subst l;dsimp[Zu,jm,n,e,h];rw[if_pos g]
def Zv(h:dE fs a E=.ok (.v (.int i),E1))(e:dE fs b E1=.ok (.v (.int j),E2))(g:o.b i j=false):dE fs (.chain o o' a b c) E=.ok (.v (.bl false),E2):=by
 dsimp[Zu,jm,h,e];rw[if_neg (by rw[g];decide)]
def Zw(h:fiF fs k=F)(c:E[i]?=some (.w p))(n:dE fs a E=.ok (r,E))(g:F [.p p,.v r.d]=.ok (r',[.p p',o]))(j:E.set i (.w p')=E1):dE fs (.call k (.lend i (.ev a .nil))) E=.ok (r',E1):=by
 subst h j;have l:i<E.length:=(qG.mp c).1;have e:(E.set i .e)[i]?=some .e:=by simp[l]
 dsimp[jO,Jx,zDZ,jV,jN,zn,c,wO,Bool.false_eq_true,if_false,n,zJ,Slot.list?,g,zN,e,Slot.put,List.set_set]
def wd(i:fiF fs k=F)(j:dE fs a E=.ok (r,E1))(g:dE fs b E1=.ok (r2,E2))(e:dE fs c E2=.ok (r3,E3))(h:F [.v r.d,.v r2.d,.v r3.d]=.ok (r',[o,o2,o3])):dE fs (.call k (.ev a (.ev b (.ev c .nil)))) E=.ok (r',E3):=by
 subst i;dsimp[jO,Jx,jV,jN,zn,j,g,e,zJ,h,zN]
def yF(h:body (ss++replicate (n-ss.length) .e)=.ok (.ret r,E1))(a:zo ss E1=o):fnM n body ss=.ok (r,o):=by
 subst a;dsimp[fnM,h]
def f_nx(h:body (ss++replicate (n-ss.length) .e)=.ok (.nx,E1))(a:zo ss E1=o):fnM n body ss=.ok (.v .non,o):=by
 subst a;dsimp[fnM,h]
def zH:dA fs .nil E=.ok ([],E):=by dsimp[WW,zCU]
def zB{a as:_}(e:dE fs a E=.ok (r,E1))(c:dA fs as E1=.ok (rs,E2)):dA fs (.cons a as) E=.ok (r::rs,E2):=by dsimp[Qa,Yz,e,c]
def o_N:dO fs .oN E=.ok (none,E):=by dsimp[rO_oN,zEz]
def o_S(h:dE fs a E=.ok (.v (.int i),E1)):dO fs (.oS a) E=.ok (some i,E1):=by dsimp[rO_oS,zCd,h]
def t_E(h:dE fs a E=.ok (.v (.bl b),E1)):dT fs (.tE a) E=.ok (b,E1):=by dsimp[zBX,tT,h]
def Zb(g:dT fs a E=.ok (false,E1))(e:dT fs b E1=.ok (c,E2)):dT fs (.tOr a b) E=.ok (c,E2):=by dsimp[zHJ,Q7,g,e]
def Wz(c:dT fs a E=.ok (true,E1)):dT fs (.tOr a b) E=.ok (true,E1):=by dsimp[zHJ,Q7,c]
def yz(g:dT fs a E=.ok (b,E1))(e:(!b)=c):dT fs (.tNot a) E=.ok (c,E1):=by subst e;dsimp[zDY,Yy,g]
def yP(e:dE fs a E=.ok (r,E1))(c:Zi i r E1=.ok E2):dS fs (.sSet i a) E=.ok (.nx,E2):=by dsimp[WX,sSet,e,c]
def ye(e:dT fs t E=.ok (false,E1))(c:dB fs b E1=o):dS fs (.sIf t a b) E=o:=by subst c;dsimp[GO,sIf,e]
def yX(e:dT fs t E=.ok (true,E1))(c:dB fs a E1=o):dS fs (.sIf t a b) E=o:=by subst c;dsimp[GO,sIf,e]
def zt(c:dE fs a E=.ok (r,E1)):dS fs (.sRet a) E=.ok (.ret r,E1):=by dsimp[wV,sRet,c]
def Zc(c:dE fs a E=.ok (r,E1)):dS fs (.sDrop a) E=.ok (.nx,E1):=by dsimp[zAb,sDrop,c]
def zF5(e:dE fs a E=.ok (r,E1))(c:gT is r.d E1=.ok E2):dS fs (.sTup is a) E=.ok (.nx,E2):=by dsimp[rS_sTup,sTup,e,c]
def zAo(g:dE fs a E=.ok (r,E1))(c:r.d=.l ds)(e:ZO tg.m (dB fs b) ds E1=.ok p):dS fs (.sForL a tg b) E=.ok p:=by dsimp[zFx];exact vq (by dsimp[sForL,g,c,e])
def zDq(g:dE fs a E=.ok (r,E1))(c:r.d=.t ds)(e:ZO tg.m (dB fs b) ds E1=.ok p):dS fs (.sForT a tg b) E=.ok p:=by dsimp[zFz];exact vq (by dsimp[sForT,g,c,e])
def uD(e:dA fs a E=.ok ([r],E1))(c:r.d=.int j)(h:-1000000<=j/\j<=1000000)(g:ZO tg.m (dB fs b) (zP 0 j.toNat) E1=.ok p):dS fs (.sForR1 a tg b) E=.ok p:=by
 dsimp[zDa];refine vq ?_;dsimp[sForR1,e,c];rw[if_pos ⟨by omega,by omega⟩,g]
def i_L(e:dE fs a E=.ok (r,E1))(c:r.d=.l ds):dI fs (.iL a) E=.ok (ds,E1):=by dsimp[rI_iL,iL,e,c]
def i_T(e:dE fs a E=.ok (r,E1))(c:r.d=.t ds):dI fs (.iT a) E=.ok (ds,E1):=by dsimp[rI_iT,iT,e,c]
def i_R1(e:dA fs a E=.ok ([r],E1))(c:r.d=.int j)(g:-1000000<=j/\j<=1000000):dI fs (.iR1 a) E=.ok (zP 0 j.toNat,E1):=by
 dsimp[rI_iR1,iR1,e,c];rw[if_pos ⟨by omega,by omega⟩]
def yf:dB fs .bNil E=.ok (.nx,E):=by dsimp[vt,zCe]
def zK(h:dS fs s E=o):dB fs (.o s) E=o:=by dsimp[wz,h]
def zL(h:dS fs s E=.ok (.nx,E1))(a:dB fs b E1=o):dB fs (.s s b) E=o:=by dsimp[JA,G9,h,a]
def ja(h:dS fs s E=.ok (.ret r,E1)):dB fs (.s s b) E=.ok (.ret r,E1):=by dsimp[JA,G9,h]
def Qk(h:dS fs s E=.y x E1):dB fs (.s s b) E=.y x E1:=by dsimp[JA,G9,h]
def Y7(h:dE fs a E=.y x E1):dS fs (.sDrop a) E=.y x E1:=by dsimp[zAb,sDrop,h]
def GY(h:dE fs a E=.y x E1):dS fs (.sRet a) E=.y x E1:=by dsimp[wV,sRet,h]
def zDr:dS fs (.sRaise c) E=.y ⟨c,true,[]⟩ E:=by dsimp[zDb,DV.sRaise]
def f_exc(h:body (ss++replicate (n-ss.length) .e)=.y x E1):fnM n body ss=.y x (zo ss E1):=by dsimp[fnM,h]
def zF6(e:fiF fs k=F)(g:dE fs a E=.ok (r,E1))(c:F [.v r.d]=.y x o):dE fs (.call k (.ev a .nil)) E=.y ⟨x.cls,false,x.vs⟩ E1:=by
 subst e;dsimp[jO,Jx,jV,jN,zn,g,zJ,c,YR,if_true]
def zF7(g:fiF fs k=F)(h:dE fs a E=.ok (r,E1))(c:dE fs b E1=.ok (r2,E2))(e:F [.v r.d,.v r2.d]=.y x o):dE fs (.call k (.ev a (.ev b .nil))) E=.y ⟨x.cls,false,x.vs⟩ E2:=by
 subst g;dsimp[jO,Jx,jV,jN,zn,h,c,zJ,e,YR,if_true]
def zF8(i:fiF fs k=F)(j:dE fs a E=.ok (r,E1))(g:dE fs b E1=.ok (r2,E2))(e:dE fs c E2=.ok (r3,E3))(h:F [.v r.d,.v r2.d,.v r3.d]=.y x o):dE fs (.call k (.ev a (.ev b (.ev c .nil)))) E=.y ⟨x.cls,false,x.vs⟩ E3:=by
 subst i;dsimp[jO,Jx,jV,jN,zn,j,g,e,zJ,h,YR,if_true]
def s_tryO(h:dB fs b E=.ok p):dS fs (.sTry cl b i hb) E=.ok p:=by dsimp[zDc,DV.sTry,h]
def zHS(h:dB fs b E=.y ⟨c,false,ws⟩ E1)(g:cl.contains c=true)(e:Zi i (.v (.exn c ws)) E1=.ok E2)(a:dB fs hb E2=.ok (.ret r,E3)):dS fs (.sTry cl b i hb) E=.ok (.ret r,E3):=by
 dsimp[zDc,DV.sTry,h,g,e,a,Bool.not_false,Bool.and_self,if_true]
def yr:[d].length<=cap:=by dsimp[List.length_singleton,cap];omega
def Y8:([]:Ls D).length<=cap:=by dsimp[length_nil,cap];omega
def jP:[d,e].length<=cap:=by dsimp[length_cons,length_nil,cap];omega
def vL{nl:Nat}{xs ys:Ls Str}{caps:Ls Nat}{it tt el:_}{tg:Tg}{ds rs:Ls D}{vs:Ls D}(a:D->Ls DV.Slot)(f:D->Bool)(g:D->D)(k:dI fs it E=.ok (ds,E1))(c:JW E1 caps=.ok (vs.map AR.tmp))
  (l:∀d∈ds,∀S:Ls DV.Slot,S.length=nl->(∀s∈S,yQ s=true)->tg.m d (S++vs.map Slot.v)=.ok (a d++vs.map Slot.v))
  (h:∀d∈ds,(a d).length=nl/\∀s∈a d,yQ s=true)
  (i:∀d∈ds,dT fs tt (a d++vs.map Slot.v)=.ok (f d,a d++vs.map Slot.v))
  (j:∀d∈ds,f d=true->∃r,dE fs el (a d++vs.map Slot.v)=.ok (r,a d++vs.map Slot.v)/\r.d=g d) (n:ds.length<=cap) (e:(ds.filter f).map g=rs):dE fs (.comp nl xs ys caps it tg tt el) E=.ok (.w rs,E1):=by
 subst e;exact QZ <| zF3 a f g ds l h i j n k c
def j9{xs ys:Ls Str}{caps:Ls Nat}{it el:_}{ds rs:Ls D}{vs:Ls D}(g:D->D)(l:dI fs it E=.ok (ds,E1))(a:JW E1 caps=.ok (vs.map AR.tmp))
  (i:∀d∈ds,∃r,dE fs el (.v d::vs.map Slot.v)=.ok (r,.v d::vs.map Slot.v)/\r.d=g d) (n:ds.length<=cap) (h:ds.map g=rs):dE fs (.comp 1 xs ys caps it (.n 0) .tTr el) E=.ok (.w rs,E1):=by
 refine vL (λd=>[.v d]) (λ_=>true) g l a (λd c S k j=>zAj k j) (λd c=>⟨rfl,λs e=>?_⟩) (λd c=>?_) (λd c _=>i d c) n ?_
 ·rw[mem_singleton]at e;subst e;rfl
 ·dsimp[zAa,QF]
 ·rw[List.filter_eq_self.mpr (λ_ _=>rfl),h]
end
end DV
namespace SM
open PySem L2 DV
def ends(w o k:Nat):Nat->Ls Nat
 |0=>1::replicate k 0|n+1=>(o*(ends w o k n).sum)::((ends w o k n).dropLast.map (w*·))
def U(w o k n:Nat):Nat:=(ends w o k n).sum
def F(w o k m:Nat):Nat->Nat
 |0=>0|r+1=>F w o k m r+w^r*o*U w o k (m-1-r)
def stp(s:Nat)(p:Nat×Nat)(x:Nat):Nat×Nat:=(max p.1 (if x=s then p.2+1 else 0),if x=s then p.2+1 else 0)
def tot(es:Ls (Ls Nat)):Nat:=(es.map List.sum).sum
def al(a:Ls Nat)(k:Nat):Nat->Ls (Ls Nat)
 |0=>a.map λw=>w::replicate (k-1) 0|n+1=>zipWith (λw e=>(w*(tot (al a k n)-e.sum))::e.dropLast.map (w*·)) a (al a k n)
def A(a:Ls Nat)(n k:Nat):Nat:=if n=0 then 1 else if k=0 then 0 else tot (al a k (n-1))
end SM
namespace DV
open PySem L2
def smD:Nat->D->Prop
 |_,.non=>True|_,.bl _=>True|_,.dic=>True|_,.int i=>i.natAbs<2^100|_,.str x=>x="machine"\/x="great"|n+1,.t ds=>ds.length<=12/\∀d∈ds,smD n d|n+1,.l ds=>ds.length<=12/\∀d∈ds,smD n d|_,_=>False
def rpB:Nat->Nat
 |0=>40|n+1=>12*(rpB n+2)+10
theorem zHT(n:Nat):40<=rpB n:=by
 cases n with
 |zero=>exact le_refl _|succ n=>have:=zHT n;dsimp[rpB];omega
def zF9(h:i.natAbs<2^100):(PyData.int i).showable=true:=by
 have:i.natAbs.log2<1920:=by
  by_cases c:i.natAbs=0
  ·rw[c];decide
  ·rw[log2_lt c]
   exact lt_of_lt_of_le h (Nat.pow_le_pow_right (by omega) (by omega))
 dsimp[PyData.showable,decide_eq_true_eq];exact this
def len_int(h:i.natAbs<2^100):((PyData.int i).shown).length<=40:=by
 have e:=int_text_length_le10 (a:=i) (k:=39) (by omega) (lt_trans h (by left));dsimp[PyData.shown];rw[ofString_length];exact e
theorem Wi(M:Nat):∀(c:Ls Str) (k:Nat) (a:Str),(∀t∈c,t.length<=M)->(textFrom k a c).length<=a.length+c.length*(M+2)
 | [],k,a,_=>by simp[textFrom]
 |t::c,k,a,h=>by
  have g:=Wi M c (k+1) (a++(if k > 0 then ", " else "":String)++t) (λx i=>h x (qD _ i));have j:=h t qE;have e:((if k > 0 then ", " else "":String):Str).length<=2:=by split<;>left
  dsimp[textFrom];dsimp[strLen_append]at g;have:(t::c).length*(M+2)=c.length*(M+2)+(M+2):=by rw[length_cons,Nat.succ_mul]
  omega
theorem zDs(M:Nat):∀a:Ls Str,(∀t∈a,t.length<=M)->(Str.join ", " a).length<=a.length*(M+2)
 | [],_=>by rw[show(Str.join ", " ([]:Ls Str)).length=0 by left];omega
 | [t],h=>by
  have g:=h t qE;show t.length<=_;simp;omega
 |t::u::a,h=>by
  have i:=zDs M (u::a) (λx e=>h x (qD _ e));have g:=h t qE;show(t++", "++Str.join ", " (u::a)).length<=_;have c:((", ":String):Str).length=2:=by left
  rw[strLen_append,strLen_append,c];have:(t::u::a).length*(M+2)=(u::a).length*(M+2)+(M+2):=by rw[length_cons,Nat.succ_mul]
  omega
theorem JK:∀a:Ls PyData,PyData.shownAll a=a.map PyData.shown
 | []=>by simp[PyData.shownAll]|x::a=>by simp[PyData.shownAll,JK a]
structure Rp(n:Nat)(x:PyData):Prop where
 sh:x.showable=true
 dp:x.depth<=n+2
 ln:x.shown.length<=rpB n
theorem rps:∀(e:Ls D),(∀d∈e,∃x,pyD d=some x/\Rp n x)->∃a,pyDs e=some a/\a.length=e.length/\PyData.showableAll a=true/\PyData.depthAll a<=n+2/\∀x∈a,x.shown.length<=rpB n
 | [],_=>⟨[],rfl,rfl,rfl,by simp[PyData.depthAll],λx h=>by cases h⟩
 |d::e,h=>by
  obtain⟨x,l,g⟩:=h d qE;obtain⟨a,k,o,j,p,i⟩:=rps e (λy c=>h y (qD _ c));refine⟨x::a,by dsimp[pyDs,l,k],by simp[o],?_,?_,λy c=>?_⟩
  ·dsimp[PyData.showableAll,g.sh,j];rfl
  ·have:=g.dp;dsimp[PyData.depthAll];omega
  ·rcases mem_cons.mp c with rfl|c
   ·exact g.ln
   ·exact i y c
def sm_py:∀(n:Nat) (d:D),smD n d->∃x,pyD d=some x/\Rp n x:=by
 have k:∀(n:Nat) (d:D),smD n d->(∀a,d≠.t a)->(∀a,d≠.l a)->∃x,pyD d=some x/\Rp n x:=by
  intro n d h B h2;have b:=zHT n;cases d with
  |non =>
   have e:(PyData.none).shown.length=4:=by left
   exact⟨.none,rfl,rfl,by simp[PyData.depth],by omega⟩
  |bl v =>
   have e:(PyData.bool v).shown.length<=5:=by cases v<;>left
   exact⟨.bool v,rfl,rfl,by simp[PyData.depth],by omega⟩
  |int i =>
   have o:i.natAbs<2^100:=by simpa[smD]using h
   have e:=len_int o;exact⟨.int i,rfl,zF9 o,by simp[PyData.depth],by omega⟩
  |str x =>
   have o:x="machine"\/x="great":=by simpa[smD]using h
   rcases o with rfl|rfl
   ·have e:(PyData.str "machine").shown.length<=10:=by left
    exact⟨.str "machine",rfl,rfl,by simp[PyData.depth],by omega⟩
   ·have e:(PyData.str "great").shown.length<=10:=by left
    exact⟨.str "great",rfl,rfl,by simp[PyData.depth],by omega⟩
  |dic =>
   have e:(PyData.dict []).shown.length<=5:=by left
   exact⟨.dict [],rfl,rfl,by simp[PyData.depth,PyData.depthAll,PyData.depthKv],by omega⟩
  |t a=>exact absurd rfl (B a)|l a=>exact absurd rfl (h2 a)|fn x=>simp[smD]at h|exn x y=>simp[smD]at h|m x y=>simp[smD]at h
 intro n
 induction n with
 |zero =>
  intro d h;refine k 0 d h (λa e=>?_) (λa e=>?_)<;>(subst e;simp[smD]at h)
 |succ n r =>
  intro d h;by_cases ht:∃a,d=.t a
  ·obtain⟨a,rfl⟩:=ht
   dsimp[smD]at h;obtain⟨c,e,C,q,u,p⟩:=rps a (λy g=>r y (h.2 y g));refine⟨.tuple c,by dsimp[pyD,e];rfl,by dsimp[PyData.showable];exact q,by dsimp[PyData.depth];omega,?_⟩;dsimp[PyData.shown,JK,tupleText,strLen_append];have j:=zDs (rpB n) (c.map PyData.shown) (λt ht=>by obtain⟨y,g,rfl⟩:=mem_map.mp ht;exact p y g);have z:(("(":Str)).length=1:=by left
   have w:((if(c.map PyData.shown).length==1 then ",)" else ")":String):Str).length<=2:=by split<;>left
   rw[length_map]at j;have:=Nat.mul_le_mul_right (rpB n+2) (show c.length<=12 by omega);dsimp[rpB];omega
  ·by_cases hl:∃a,d=.l a
   ·obtain⟨a,rfl⟩:=hl
    dsimp[smD]at h;obtain⟨c,e,C,q,u,p⟩:=rps a (λy g=>r y (h.2 y g));refine⟨.list c,by dsimp[pyD,e];rfl,by dsimp[PyData.showable];exact q,by dsimp[PyData.depth];omega,?_⟩;dsimp[PyData.shown,JK,listText,strLen_append];have j:=Wi (rpB n) (c.map PyData.shown) 0 "[" (λt ht=>by obtain⟨y,g,rfl⟩:=mem_map.mp ht;exact p y g);have z:(("[":Str)).length=1:=by left
    have w:(("]":Str)).length=1:=by left
    rw[length_map]at j;have:=Nat.mul_le_mul_right (rpB n+2) (show c.length<=12 by omega);dsimp[rpB];omega
   ·exact k (n+1) d h (λa e=>ht ⟨a,e⟩) (λa e=>hl ⟨a,e⟩)
def zDt(h:smD 3 d):∃t,uz d=some (.v (.str t)):=by
 obtain⟨x,e,r⟩:=sm_py 3 d h;refine⟨x.shown,?_⟩;unfold uz;rw[e];have c:=r.dp;have h2:=r.ln;have a:rpB 3=74458:=by decide
 dsimp;rw[if_pos ⟨r.sh,by omega,by rw[a]at h2;dsimp[cap];omega⟩]
section
variable{fs:Ls FI}{E E1 E2 E3 E4 E5:za}
def Yp(h:body (ss++replicate (n-ss.length) .e)=.y x E1)(a:zo ss E1=o):fnM n body ss=.y x o:=by
 subst a;dsimp[fnM,h]
def zGA(e:fiF fs k=F)(g:dE fs a E=.ok (r,E1))(c:F [.v r.d]=.y ⟨z,y,ws⟩ o):dE fs (.call k (.ev a .nil)) E=.y ⟨z,false,ws⟩ E1:=zF6 e g c
def x_cX2(g:fiF fs k=F)(h:dE fs a E=.ok (r,E1))(c:dE fs b E1=.ok (r2,E2))(e:F [.v r.d,.v r2.d]=.y ⟨z,y,ws⟩ o):dE fs (.call k (.ev a (.ev b .nil))) E=.y ⟨z,false,ws⟩ E2:=zF7 g h c e
def x_cX3(i:fiF fs k=F)(j:dE fs a E=.ok (r,E1))(g:dE fs b E1=.ok (r2,E2))(e:dE fs c E2=.ok (r3,E3))(h:F [.v r.d,.v r2.d,.v r3.d]=.y ⟨z,y,ws⟩ o):dE fs (.call k (.ev a (.ev b (.ev c .nil)))) E=.y ⟨z,false,ws⟩ E3:=zF8 i j g e h
def zDu(i:fiF fs k=F)(l:dE fs a E=.ok (r,E1))(g:dE fs b E1=.ok (r2,E2))(e:dE fs c E2=.ok (r3,E3))(j:dE fs d E3=.ok (r4,E4))(h:F [.v r.d,.v r2.d,.v r3.d,.v r4.d]=.ok (r',[o,o2,o3,o4])):dE fs (.call k (.ev a (.ev b (.ev c (.ev d .nil))))) E=.ok (r',E4):=by
 subst i;dsimp[jO,Jx,jV,jN,zn,l,g,e,j,zJ,h,zN]
def jR(h:fiF fs k=F)(c:E[i]?=some (.p p))(n:dE fs a E=.ok (r,E))(g:F [.p p,.v r.d]=.ok (r',[.p p',o]))(j:E.set i (.p p')=E1):dE fs (.call k (.lend i (.ev a .nil))) E=.ok (r',E1):=by
 subst h j;have l:i<E.length:=(qG.mp c).1;have e:(E.set i .e)[i]?=some .e:=by simp[l]
 dsimp[jO,Jx,zDZ,jV,jN,zn,c,wO,Bool.false_eq_true,if_false,n,zJ,Slot.list?,g,zN,e,Slot.put,List.set_set]
def x_neg(h:dE fs a E=.ok (.v (.int i),E1)):dE fs (.neg a) E=.ok (.v (.int (-i)),E1):=by dsimp[rE_neg,eNeg,h]
def GZ(h:dE fs a E=.ok (.v (.bl true),E1))(c:dE fs b E1=o):dE fs (.and a b) E=o:=by subst c;dsimp[zAY,Q8,h]
def Ga(h:dE fs a E=.ok (.v (.bl false),E1)):dE fs (.and a b) E=.ok (.v (.bl false),E1):=by dsimp[zAY,Q8,h]
def zAp(h:dE fs a E=.ok (r,E1))(c:tyD r.d=some t)(e:uk t T.s=v):dE fs (.is T a) E=.ok (.v (.bl v),E1):=by subst e;dsimp[rE_is,eIs,h,c]
def zHU(h:dT fs t E=.ok (true,E1))(c:dE fs a E1=o):dE fs (.ifx t a b) E=o:=by subst c;dsimp[zHI,eIf,h]
def zAq(h:dT fs t E=.ok (false,E1))(c:dE fs b E1=o):dE fs (.ifx t a b) E=o:=by subst c;dsimp[zHI,eIf,h]
def i_Z{as:_}(e:dA fs as E=.ok ([r1,r2],E1))(a:zBf t1 r1.d=some ds)(c:zBf t2 r2.d=some es):dI fs (.iZ t1 t2 as) E=.ok (zipWith Wv ds es,E1):=by
 dsimp[rI_iZ,iZ,e,a,c]
def zDv(e:E[i]?=some (.w ds0))(j:dE fs a E=.ok (r,E1))(h:E1[i]?=some (.w ds))(c:ds.length<cap)(g:E1.set i (.w (ds++[r.d]))=E2):dS fs (.sApp i a) E=.ok (.nx,E2):=by
 subst g;dsimp[rS_sApp,sApp,e,Slot.list?,j,h,Slot.put];rw[if_pos c]
end
def put_ok(r:R)(h:E[i]?=some s)(a:yQ s=true):Zi i r E=.ok (E.set i r.slot):=by
 dsimp[Zi,h];cases s<;>first|rfl|(cases a)
def vM(h:E[i]?=some s)(a:yQ s=true)(e:E.set i r.slot=E1):Zi i r E=.ok E1:=by
 rw[put_ok r h a,e]
def ne_int(x y:Int):neG (.int x) (.int y)=some (.v (.bl (!decide (x=y)))):=by simp[neG,neF]
def eq_int(x y:Int):eqG (.int x) (.int y)=some (.v (.bl (decide (x=y)))):=by simp[eqG,eqF]
def eq_str(t:Str):eqG (.str t) (.str t)=some (.v (.bl true)):=by simp[eqG,eqF]
def ne_str(t:Str):neG (.str t) (.str t)=some (.v (.bl false)):=by simp[neG,neF]
def zDw(a b:Ls D)(h:a.length+b.length<=100000):Jt (.l a) (.l b)=some (.w (a++b)):=by
 dsimp[Jt];rw[if_pos (by dsimp[cap];omega)]
def we(a b:Ls D)(h:a.length+b.length<=100000):Jt (.t a) (.t b)=some (.v (.t (a++b))):=by
 dsimp[Jt];rw[if_pos (by dsimp[cap];omega)]
def zDx(x:D)(k:Nat):(replicate k [x]).flatten=replicate k x:=by
 induction k with
 |zero=>rfl|succ k a=>rw[replicate_succ,flatten_cons,a,replicate_succ];rfl
def zGB(d:D)(n:Nat)(h:n<=1000):vj (.l [d]) (.int n)=some (.w (replicate n d)):=by
 dsimp[vj,uI];rw[if_pos ⟨by omega,by omega,by dsimp[List.length_singleton,Int.toNat_natCast,cap];omega⟩,Int.toNat_natCast,zDx]
def zGC(d:D)(n:Nat)(h:n<=1000):uI (.t [d]) (.int n)=some (.v (.t (replicate n d))):=by
 dsimp[uI];rw[if_pos ⟨by omega,by omega,by dsimp[List.length_singleton,Int.toNat_natCast,cap];omega⟩,Int.toNat_natCast,zDx]
def zDy(e:uI x y=some r):vj x y=some r:=by dsimp[vj,e]
def zAr(d:D)(n:Nat)(h:n<=1000):vj (.t [d]) (.int n)=some (.v (.t (replicate n d))):=by
 exact zDy (zGC d n h)
def Zd{ds:Ls D}{k:Nat}{d:D}(h:ds[k]?=some d):atI ds (k:Int)=some d:=by
 obtain⟨a,e⟩:=qG.mp h;have:(k:Int)<ds.length:=by omega
 simp[atI,ixN,this,h]
def ixD_lst(ds:Ls D)(i:Int):ixD (.l ds) (.int i)=(atI ds i).map .v:=rfl
def ixD_tup(ds:Ls D)(i:Int):ixD (.t ds) (.int i)=(atI ds i).map .v:=rfl
def pick{ds:Ls D}{r:Int}(c:0<=r)(e:r<ds.length):∃d,d∈ds/\ixD (.l ds) (.int r)=some (.v d):=by
 obtain⟨k,rfl⟩:=Int.eq_ofNat_of_zero_le c;have a:k<ds.length:=by omega
 refine⟨ds[k],getElem_mem a,?_⟩;rw[ixD_lst,Zd (getElem?_eq_getElem a)];rfl
theorem Gb(f:D->Bool):∀a:Ls D,jZ (a.map λd=>D.bl (f d))=some (a.map f)
 | []=>rfl|d::a=>by dsimp[map_cons,jZ,Gb f a];rfl
theorem all_map(f:D->Bool)(ds:Ls D):(ds.map f).all id=ds.all f:=by simp[List.all_map]
def vN{f:D->Bool}{ds:Ls D}{b:Bool}(h:ds.all f=b):allD [.l (ds.map λd=>D.bl (f d))]=some (.v (.bl b)):=by
 subst h;simp[allD,Gb,all_map]
def zGD(ds:Ls D)(k:Nat)(h:k<=ds.length):j1 ds (some (k:Int)) none=ds.drop k:=by
 unfold j1;rw[HT.sIx_nat];dsimp[HT.sIx];rw[show min k ds.length=k by omega,take_of_length_le (by simp)]
def pow30:powD (.int 10) (.int 30)=some (.v (.int (10^30))):=by
 simp[powD,zCX]
def N(l:Ls Nat):Ls D:=l.map λn:Nat=>D.int (n:Int)
def wA(l:Ls Nat):(N l).length=l.length:=by simp[N]
def zBa(h:d∈N l):∃n∈l,d=.int (n:Nat):=by
 obtain⟨n,a,rfl⟩:=mem_map.mp h;exact⟨n,a,rfl⟩
def N_get{l:Ls Nat}{k n:Nat}(h:l[k]?=some n):(N l)[k]?=some (.int (n:Nat)):=by simp[N,h]
def N_app(a b:Ls Nat):N (a++b)=N a++N b:=by simp[N]
def zDz(n:Nat):zP 0 n=N (List.range n):=by
 have a:∀n k:Nat,zP (k:Int) n=N (List.range' k n):=by
  intro n
  induction n with
  |zero=>intro k;rfl
  |succ n c =>
   intro k;have:=c (k+1);show D.int (k:Int)::zP ((k:Int)+1) n=D.int (k:Int)::N (List.range' (k+1) n);rw[<- this];simp
 rw[List.range_eq_range'];exact a n 0
section
variable{fs:Ls FI}{E E1 E2 E3:za}
def zHV(c:dI fs it E=.ok (ds,E1))(a:ZO tg.m (dB fs b) ds E1=.ok p):dS fs (.sForI it tg b) E=.ok p:=by
 dsimp[zFy,zDH,c,sForI,a]
def i_E{as:_}(c:dA fs as E=.ok ([r],E1))(a:zBf t r.d=some ds):dI fs (.iE t as) E=.ok (QM 0 ds,E1):=by
 dsimp[rI_iE,iE,c,a]
end
section
variable{fs:Ls FI}{E E1 E2 E3 E4 E5 E6:za}
def t_bor(h:E[i]?=some (.w ds))(e:(E.set i .e).all borS=true)(c:E.set i (.v (.l ds))=E1)(a:dT fs t E1=.ok (b,E1)):dT fs (.tBor i t) E=.ok (b,E):=by
 subst c;dsimp[rT_tBor,zDG,h,e,if_true,a]
end
theorem Gc(I:Nat->za->Prop)(p:Nat->Bool)(r:Nat->R):∀(a:Ls D) (k:Nat) (E:za),I k E ->
  (∀i d,a[i]?=some d->∀E,I (k+i) E->∃E1 E2,tg d E=.ok E1/\((p (k+i)=true/\body E1=.ok (.ret (r (k+i)),E2))\/(p (k+i)=false/\body E1=.ok (.nx,E2)/\I (k+i+1) E2))) ->
  (∃i E',i<a.length/\p (k+i)=true/\(∀j,j<i->p (k+j)=false)/\DV.ZO tg body a E=.ok (.ret (r (k+i)),E'))\/((∀i,i<a.length->p (k+i)=false)/\∃E',DV.ZO tg body a E=.ok (.nx,E')/\I (k+a.length) E')
 | [],k,E,h,step=>.inr ⟨λi t=>absurd t (not_lt_zero i),E,rfl,h⟩
 |d::a,k,E,h,step=>by
  obtain⟨E1,E2,n,h2|⟨h2,q,h4⟩⟩:=step 0 d rfl E h
  ·exact .inl ⟨0,E2,by simp,h2.1,λj c=>absurd c (not_lt_zero j),by dsimp[DV.ZO,n,h2.2]⟩
  ·have u:=Gc I p r a (k+1) E2 h4 λi v e E h=>by
    have:=step (i+1) v (by exists e) E (by rw[show k+(i+1)=k+1+i by omega];exact h);rw[show k+(i+1)=k+1+i by omega]at this;exact this
   rcases u with⟨i,E',t,o,g,l⟩|⟨o,E',g,l⟩
   ·refine .inl ⟨i+1,E',by simp;omega,by rw[show k+(i+1)=k+1+i by omega];exact o,λj c=>?_,?_⟩
    ·cases j with
     |zero=>exact h2|succ j=>rw[show k+(j+1)=k+1+j by omega];exact g j (by omega)
    ·rw[show k+(i+1)=k+1+i by omega]
     dsimp[DV.ZO,n,q];exact l
   ·refine .inr ⟨λj c=>?_,E',?_,?_⟩
    ·cases j with
     |zero=>exact h2|succ j=>rw[show k+(j+1)=k+1+j by omega];exact o j (by simp at c;omega)
    ·dsimp[DV.ZO,n,q];exact g
    ·rw[length_cons,show k+(a.length+1)=k+1+a.length by omega];exact l
def zGE(g:∀d∈a,eqb 19 d=true)(c:∀d∈b,eqb 19 d=true):eqG (.l a) (.l b)=some (.v (.bl (deqs a b))):=by
 have e:eqF (.l a) (.l b)=none:=rfl;dsimp[eqG,e,eqDD];rw[if_pos ⟨all_eq_true.mpr g,all_eq_true.mpr c⟩];rfl
theorem Y9(I:Nat->za->Ls D->Prop):∀(g:Ls D) (k:Nat) (E:za) (a:Ls D),I k E a->a.length+g.length<=cap ->
  (∀i d,g[i]?=some d->∀E a,I (k+i) E a->∃E1 E2,tg d E=.ok E1/\((tt E1=.ok (false,E2)/\I (k+i+1) E2 a)\/∃r E3,tt E1=.ok (true,E2)/\el E2=.ok (r,E3)/\I (k+i+1) E3 (a++[r.d]))) ->
  ∃c E',vg tg tt el g E a=.ok (c,E')/\I (k+g.length) E' c
 | [],k,E,a,h,q,step=>⟨a,E,rfl,h⟩
 |d::g,k,E,a,h,q,step=>by
  dsimp[length_cons]at q;have next:∀i j,g[i]?=some j->∀E a,I (k+1+i) E a->∃E1 E2,tg j E=.ok E1/\((tt E1=.ok (false,E2)/\I (k+1+i+1) E2 a)\/∃r E3,tt E1=.ok (true,E2)/\el E2=.ok (r,E3)/\I (k+1+i+1) E3 (a++[r.d])):=λi j e E a h=>by
   have:=step (i+1) j (by exists e) E a (by rw[show k+(i+1)=k+1+i by omega];exact h);rw[show k+(i+1)=k+1+i by omega]at this;exact this
  obtain⟨E1,E2,p,⟨h2,n⟩|⟨r,E3,h2,n,h4⟩⟩:=step 0 d rfl E a h
  ·obtain⟨c,E',o,l⟩:=Y9 I g (k+1) E2 a n (by omega) next
   refine⟨c,E',?_,by rw[length_cons,show k+(g.length+1)=k+1+g.length by omega];exact l⟩;dsimp[vg,JV,ma1,p,h2];exact o
  ·obtain⟨c,E',o,l⟩:=Y9 I g (k+1) E3 (a++[r.d]) h4 (by simp;omega) next
   refine⟨c,E',?_,by rw[length_cons,show k+(g.length+1)=k+1+g.length by omega];exact l⟩;dsimp[vg,JV,ma1,p,h2,n];rw[if_pos (by omega)];exact o
section
variable{fs:Ls FI}{E:za}
def zD0{xs ys:Ls Str}{caps:Ls Nat}{it tt el:_}{ds vs p:Ls D}{i:Nat}{E':Ls D->za}{E2 H:za}(e:Ls D->Prop)(I:Nat->Ls D->Prop)(W:dI fs it H=.ok (ds,E))(h:JW E caps=.ok (.ln i::vs.map AR.tmp))(J:zJ (.ln i::vs.map AR.tmp) E=.ok (.p p::vs.map Slot.v,E2))(y:e p)(K:I 0 [])
  (L:∀k d,ds[k]?=some d->∀p a,e p->I k a->∃g,(dT fs tt (.v d::.p p::vs.map Slot.v)=.ok (false,.v d::.p g::vs.map Slot.v)/\e g/\I (k+1) a) \/
   ∃r l,dT fs tt (.v d::.p p::vs.map Slot.v)=.ok (true,.v d::.p g::vs.map Slot.v)/\dE fs el (.v d::.p g::vs.map Slot.v)=.ok (r,.v d::.p l::vs.map Slot.v)/\e l/\I (k+1) (a++[r.d])) (Q:ds.length<=cap)
  (X:∀(x:DV.Slot) (c:Ls D),zN (.ln i::vs.map AR.tmp) ((zo (.e::.p p::vs.map Slot.v) (x::.p c::vs.map Slot.v)).drop 1) E E2=.ok (E' c)) :
  ∃rs c,dE fs (.comp 1 xs ys caps it (.n 0) tt el) H=.ok (.w rs,E' c)/\e c/\I ds.length rs:=by
 obtain⟨j,E3,O,B,x,c,u,_,t⟩:=Y9 (tg:=gN 0) (tt:=dT fs tt) (el:=dE fs el) (λk E a=>I k a/\∃x p,E=x::.p p::vs.map Slot.v/\yQ x=true/\e p) ds 0 (.e::.p p::vs.map Slot.v) [] ⟨K,.e,p,rfl,rfl,y⟩ (by exists Q) (λi d q E a ⟨G,x,p,u,M,y⟩=>by
  rw[zero_add]at G ⊢;have C:gN 0 d E=.ok (.v d::.p p::vs.map Slot.v):=by subst u;cases x<;>first|rfl|(cases M)
  obtain⟨g,⟨w,v,R⟩|⟨r,l,w,S,z,V⟩⟩:=L i d q p a y G
  ·exact⟨_,_,C,.inl ⟨w,R,.v d,g,rfl,rfl,v⟩⟩
  ·exact⟨_,_,C,.inr ⟨r,_,w,S,V,.v d,l,rfl,rfl,z⟩⟩)
 rw[zero_add]at B;subst u;refine⟨j,c,?_,t,B⟩;dsimp[rE_comp];refine QZ ?_;have o:vg (gN 0) (dT fs tt) (dE fs el) ds (replicate 1 .e++.p p::vs.map Slot.v) []=.ok (j,x::.p c::vs.map Slot.v):=O;have n:zN (.ln i::vs.map AR.tmp) ((zo (replicate 1 .e++.p p::vs.map Slot.v) (x::.p c::vs.map Slot.v)).drop 1) E E2=.ok (E' c):=X x c;dsimp[QE,YS,W,h,J,Tg.m,o,n]
end
section
variable{fs:Ls FI}{E E1:za}
def zGF{as:_}(h:dA fs as E=.ok (rs,E1))(e:Jw (rs.map R.d)=some ns)(a:(ns.length==(y0 c).length&&ns.all λn=>decide (n.natAbs.log2<1920))=true):dS fs (.sRaiseA c as) E=.y ⟨c,true,ns⟩ E1:=by
 dsimp[zBY,DV.sRaiseA,h,e,a,if_true]
def x_atr(h:dE fs a E=.ok (.v (.exn c vs),E1))(g:ri.contains c=true)(e:((y0 c).zip vs).lookup f=some n):dE fs (.atr ri f a) E=.ok (.v (.int n),E1):=by
 dsimp[rE_atr,eAtr,h,g,e,if_true]
def x_isC(h:dE fs a E=.ok (.v (.exn c vs),E1))(g:cl.contains c=true)(e:(c==y)=b):dE fs (.isC cl y a) E=.ok (.v (.bl b),E1):=by
 dsimp[rE_isC,zG3,h,g,e,if_true]
def log_ok{n:Nat}(h:n<2^100):decide ((n:Int).natAbs.log2<1920)=true:=by
 rw[decide_eq_true_eq];by_cases c:n=0
 ·subst c;decide
 ·rw[Int.natAbs_natCast,log2_lt c]
  exact lt_of_lt_of_le h (Nat.pow_le_pow_right (by omega) (by omega))
end
section
variable{fs:Ls FI}{E E1 E2:za}
def x_disp(g:dE fs a E=.ok (r1,E1))(c:dE fs b E1=.ok (r2,E2))(e:GH r1.d=some q):dE fs (.disp a b) E=.ok (.m [q] [r2.d],E2):=by
 dsimp[rE_disp,zDV,maD,g,c,e,length_nil];rfl
def x_dgO(h:E[i]?=some (.m ks vs))(g:dE fs b E=.ok (r,E))(a:GH r.d=some q)(c:YD ks vs q=some d):dE fs (.dgO i b) E=.ok (.v d,E):=by
 have e:wO E[i]?=false:=by rw[h];rfl
 dsimp[rE_dgO,eDgO,g,h,ctD,a,c];rfl
def x_dg(h:dE fs a E=.ok (r1,E1))(hd:r1.d=.m ks vs)(c:dE fs b E1=.ok (r2,E2))(e:GH r2.d=some q)(g:YD ks vs q=some d):dE fs (.dg a b) E=.ok (.v d,E2):=by
 dsimp[rE_dg,YN,h,c,hd,dgD,e,Option.bind_some,g,Option.map_some]
def zHW(h:E[i]?=some (.m ks vs))(e:dE fs a E=.ok (r,E))(c:GH r.d=some q):dE fs (.ninO i a) E=.ok (.v (.bl (!(YD ks vs q).isSome)),E):=by
 dsimp[rE_ninO,eInO,e,h,ctD,c,if_true]
def s_dput(h:E[i]?=some (.m ks vs))(l:dE fs a E=.ok (r,E))(j:dE fs b E=.ok (r2,E))(k:GH r2.d=some q)(g:ks.length<1000000)(hn:YD ks vs q=none)(c:E.set i (.m (ks++[q]) (vs++[r.d]))=E1):dS fs (.sDput i b a) E=.ok (.nx,E1):=by
 have e:wO E[i]?=false:=by rw[h];rfl
 subst c;dsimp[zFw,DV.sDput,l,j,h,k,if_pos g,zEP,hn];rfl
def x_movD(h:E[i]?=some (.m ks vs))(h':E.set i .e=E1):dE fs (.mov i) E=.ok (.m ks vs,E1):=by dsimp[zHH,zBI,h,h']
def x_frz(h:dE fs a E=.ok (r,E1)):dE fs (.frz a) E=.ok (.v r.d,E1):=by dsimp[rE_frz,eFrz,h]
def s_while(h:DV.whN (dT fs t) (dB fs b) 1000000 E=.ok p):dS fs (.sWhile t b) E=.ok p:=by
 dsimp[zDd];exact vq (by dsimp[DV.sWhile];exact h)
def x_cntL(g:dE fs a E=.ok (r1,E1))(hd:r1.d=.l ds)(c:dE fs b E1=.ok (r2,E2))(e:zFT (.l ds) r2.d=some r):dE fs (.cntL a b) E=.ok (r,E2):=by
 dsimp[vH,rE_cntL,zC3,g,c,hd,e]
def i_ZN{as:_}(e:dA fs as E=.ok ([r1,r2],E1))(a:zBf t1 r1.d=some ds)(c:zBf t2 r2.d=some es):dI fs (.iZN t1 t2 as) E=.ok (zipWith Wv ds es,E1):=by
 dsimp[rI_iZN,iZ,e,a,c]
end
theorem Ql:∀{a:Ls (Ls KN)} {c:Ls D} {q:Ls KN},q∉a->YD a c q=none
 | [],_,_,_=>rfl|k::a,[],_,_=>rfl
 |k::a,v::c,q,h=>by
  dsimp[YD];have:¬k=q:=λe=>h (by rw[e];exact qE)
  rw[if_neg this,Ql λg=>h (qD _ g)]
theorem Qm:∀{a:Ls (Ls KN)} {c:Ls D} {q:Ls KN},a.length=c.length->q∈a->∃d,YD a c q=some d/\d∈c
 | [],_,_,_,h=>by cases h|k::a,[],_,hl,_=>by cases hl
 |k::a,v::c,q,hl,h=>by
  dsimp[YD];by_cases e:k=q
  ·exact⟨v,if_pos e,qE⟩
  ·rw[if_neg e]
   rcases mem_cons.mp h with h|h
   ·exact absurd h.symm e
   ·obtain⟨d,g,h2⟩:=Qm (by exists hl) h
    exact⟨d,g,qD _ h2⟩
end DV
namespace BF
abbrev P:=Nat×Nat
def add(acc:Ls P)(q:P):Ls P:=if q∈acc then acc else acc++[q]
def grow(st:P->Ls P)(acc:Ls P)(p:P):Ls P:=(st p).foldl add acc
def A(st:P->Ls P):Nat->Ls P
 |0=>[(0,0)]
 |k+1=>match(A st k)[k]? with
  |some p=>grow st (A st k) p|none=>A st k
def add_pre(acc:Ls P)(q:P):acc <+: add acc q:=by
 unfold add;split
 ·exact prefix_rfl
 ·exact List.prefix_append _ _
def add_mem(acc:Ls P)(q:P):q∈add acc q:=by
 unfold add;split
 ·assumption
 ·simp
def add_nd(h:acc.Nodup):(add acc q).Nodup:=by
 unfold add;split
 ·exact h
 ·rename_i g
  exact nodup_append.mpr ⟨h,by simp,λa i b c e=>by rw[mem_singleton]at c;subst c;subst e;exact g i⟩
def add_all{R:P->Prop}(h:∀x∈acc,R x)(c:R q):∀x∈add acc q,R x:=by
 unfold add;split
 ·exact h
 ·intro x a
  rcases mem_append.mp a with a|a
  ·exact h x a
  ·rw[mem_singleton]at a;subst a;exact c
theorem JU:∀(l:Ls P) (a:Ls P),a <+: l.foldl add a
 | [],a=>prefix_rfl|q::l,a=>(add_pre a q).trans (JU l _)
theorem zAs:∀(l:Ls P) (a:Ls P) (q:P),q∈l->q∈l.foldl add a
 |x::l,a,q,h=>by
  rcases mem_cons.mp h with rfl|h
  ·exact(JU l _).subset (add_mem a q)
  ·exact zAs l _ q h
theorem zD1:∀(l:Ls P) {a:Ls P},a.Nodup->(l.foldl add a).Nodup
 | [],_,h=>h|q::l,_,h=>zD1 l (add_nd h)
theorem zAt{R:P->Prop}:∀(l:Ls P) {a:Ls P},(∀x∈a,R x)->(∀x∈l,R x)->∀x∈l.foldl add a,R x
 | [],_,h,_=>h|q::l,_,h,hl=>zAt l (add_all h (hl q qE)) λx c=>hl x (qD _ c)
section
variable{st:P->Ls P}
def vO(h:(A st k)[k]?=some p):A st (k+1)=grow st (A st k) p:=by dsimp[A,h]
def Gd(h:(A st k)[k]?=none):A st (k+1)=A st k:=by dsimp[A,h]
def zHX(k:Nat):A st k <+: A st (k+1):=by
 cases h:(A st k)[k]? with
 |some p=>rw[vO h];exact JU _ _|none=>rw[Gd h];exact prefix_rfl
theorem A_pre(k:Nat):∀j,A st k <+: A st (k+j)
 |0=>prefix_rfl|j+1=>(A_pre k j).trans (zHX (k+j))
theorem zGG(h:(A st k).length<=k):∀j,A st (k+j)=A st k
 |0=>rfl
 |j+1=>by
  have e:=zGG h j;have:(A st (k+j))[k+j]?=none:=by rw[e];exact List.getElem?_eq_none (by omega)
  rw[show k+(j+1)=(k+j)+1 by omega,Gd this,e]
theorem A_nd:∀k,(A st k).Nodup
 |0=>by simp[A]
 |k+1=>by
  cases h:(A st k)[k]? with
  |some p=>rw[vO h];exact zD1 _ (A_nd k)|none=>rw[Gd h];exact A_nd k
theorem zD2{R:P->Prop}(a:R (0,0))(c:∀p,R p->∀q∈st p,R q):∀k,∀x∈A st k,R x
 |0=>by intro x e;simp[A]at e;subst e;exact a
 |k+1=>by
  cases h:(A st k)[k]? with
  |some p=>rw[vO h];exact zAt _ (zD2 a c k) (c p (zD2 a c k p (mem_of_getElem? h)))|none=>rw[Gd h];exact zD2 a c k
theorem pig:∀(n:Nat) (l:Ls Nat),l.Nodup->(∀x∈l,x<n)->l.length<=n
 |0,l,_,h=>by
  cases l with
  |nil=>exact le_refl _|cons x l=>exact absurd (h x qE) (by omega)
 |n+1,l,g,h=>by
  have c:=pig n (l.erase n) (g.erase n) λx a=>by
   have:=h x (List.mem_of_mem_erase a);have:x≠n:=λe=>by subst e;exact(List.Nodup.not_mem_erase g) a
   omega
  rw[List.length_erase]at c;split at c<;>omega
def A_len(z:1<=a)(w:1<=b)(l:∀p:P,p.1<a/\p.2<b->∀q∈st p,q.1<a/\q.2<b)(k:Nat):(A st k).length<=a*b:=by
 have c:=zD2 (st:=st) (R:=λp=>p.1<a/\p.2<b) ⟨by omega,by omega⟩ l k;have v:((A st k).map λp=>p.1*b+p.2).Nodup:=by
  have:=A_nd (st:=st) k;rw[List.nodup_iff_pairwise_ne]at this ⊢;refine pairwise_map.mpr (List.Pairwise.imp_of_mem (λ{x y} u n r e=>?_) this);have g:=c x u;have j:=c y n;have i:x.2=y.2:=by
   have h:(x.1*b+x.2)%b=x.2:=by rw[mul_comm,Nat.mul_add_mod];exact Nat.mod_eq_of_lt g.2
   have h2:(y.1*b+y.2)%b=y.2:=by rw[mul_comm,Nat.mul_add_mod];exact Nat.mod_eq_of_lt j.2
   rw[<- h,<- h2,e]
  have o:x.1=y.1:=by
   rw[i]at e;exact Nat.eq_of_mul_eq_mul_right (show 0<b by omega) (by omega)
  exact r (Prod.ext o i)
 have:=pig (a*b) _ v λx g=>by
  obtain⟨p,t,rfl⟩:=mem_map.mp g;obtain⟨h,h2⟩:=c p t
  calc p.1*b+p.2<p.1*b+b:=by omega
   _=(p.1+1)*b:=by rw[Nat.add_mul];omega
   _<=a*b:=Nat.mul_le_mul_right b h
 exists this
def zGH(h:(A st k).length<=k):∀p∈A st k,∀q∈st p,q∈A st k:=by
 intro p r q u;obtain⟨i,g,e⟩:=getElem_of_mem r;have o:i<k:=by omega
 obtain⟨j,rfl⟩:∃j,k=i+1+j:=⟨k-(i+1),by omega⟩;have l:i<(A st i).length:=by
  rcases lt_or_ge i (A st i).length with a|a
  ·exact a
  ·have:=zGG a (1+j)
   rw[show i+(1+j)=i+1+j by omega]at this;rw[this]at g;omega
 have c:A st i <+: A st (i+1+j):=(zHX i).trans (A_pre (i+1) j);have n:(A st i)[i]?=some p:=by
  obtain⟨t,ht⟩:=c;rw[<- getElem?_append_left (l₂:=t) l,ht,getElem?_eq_getElem g,e]
 have:q∈A st (i+1):=by rw[vO n];exact zAs _ _ q u
 exact(A_pre (i+1) j).subset this
end
end BF
namespace My
open PySem L2 DV SM
def zHY:D->Bool
 | .fn _=>true| .exn _ _=>true| .m _ _=>true|_=>false
def isW:D->Bool
 | .int _=>true|_=>false
def Ze(a c:Int):D->Bool
 | .int i=>decide (a<=i)&&decide (i<=c)|_=>false
def okD:D->Prop
 | .t a=>a.length<=cap/\∀d∈a,zHY d=false| .fn _=>False| .exn _ _=>False| .m _ _=>False|_=>True
def zBb(d:D)(h:zHY d=false):Y6 [.v d]=.ok (.v (.bl (isW d)),[.e]):=by
 cases d<;>first|rfl|(cases h)
def ZA(d:D)(a c:Int)(h:zHY d=false):zq [.v d,.v (.int a),.v (.int c)]=.ok (.v (.bl (Ze a c d)),[.e,.e,.e]):=by
 have e:=zBb d h;cases d with
 |int i =>
  simp[zq,ya,jB,fnM,wz,wV,Yg,Zu,zAY,jO,Jx,jV,WW,sRet,sIf,G9,zCe,sSet,Zi,R.slot,Q8,eOr,zCT,jN,zn,zBG,eC,zJ,fiF,fiX,R.d,zN,jm,Cp.b,Cp.f,Op2.f,Bi.f,Ty.s,JD,JC,Jy,Jz,J0,Q7,G6,Yy,tT,YN,eCB,Yz,zCU,zCV,zCW,Wo,GL,Tg.m,eqG,eqF,neG,neF,maxG,zCb,vj,uI,e,isW,Ze];by_cases g:a<=i<;>simp[g,JD,JC]
 |_=>first|(cases h;done)|simp[zq,ya,jB,fnM,wz,wV,Yg,Zu,zAY,jO,Jx,jV,WW,sRet,sIf,G9,zCe,sSet,Zi,R.slot,Q8,eOr,zCT,jN,zn,zBG,eC,zJ,fiF,fiX,R.d,zN,jm,Cp.b,Cp.f,Op2.f,Bi.f,Ty.s,JD,JC,Jy,Jz,J0,Q7,G6,Yy,tT,YN,eCB,Yz,zCU,zCV,zCW,Wo,GL,Tg.m,eqG,eqF,neG,neF,maxG,zCb,vj,uI,e,isW,Ze]
def nxt(s:Int):Int:=((s+7919)%2147483647*((s+7919)%2147483647)+48271*((s+7919)%2147483647)+12345)%2147483629
def Qn(s:Int):wZ [.v (.int s)]=.ok (.v (.int (nxt s)),[.e]):=by
 have c:0<=(s+7919)%2147483647:=Int.emod_nonneg _ (by decide);have h2:(s+7919)%2147483647<2147483647:=Int.emod_lt_of_pos _ (by decide);have a:-18446744073709551616<(s+7919)%2147483647/\(s+7919)%2147483647<18446744073709551616:=by omega
 simp[wZ,J2,ZX,fnM,wz,JA,WX,wV,rE_c,Yg,GM,sRet,sIf,G9,zCe,sSet,Zi,R.slot,Q8,eOr,zCT,jN,zn,zBG,eC,zJ,fiF,fiX,R.d,zN,jm,Cp.b,Cp.f,Op2.f,Bi.f,Ty.s,JD,JC,Jy,Jz,J0,Q7,G6,Yy,tT,YN,eCB,Yz,zCU,zCV,zCW,Wo,GL,Tg.m,eqG,eqF,neG,neF,maxG,zCb,vj,uI,Jt,uI,zGq,zCX,nxt,a]
def Pen(p:Ls D):Prop:=∃l f s:Int,p=[.int l,.int f,.int s]
def yG(p:Ls D)(e:Pen p)(m:Int)(a:0<m)(c:m<1073741824):∃r p',zO [.p p,.v (.int m)]=.ok (.v (.int r),[.p p',.e])/\0<=r/\r<m/\Pen p':=by
 obtain⟨l,f,s,rfl⟩:=e;by_cases hf:f=1
 ·refine⟨l%m,[.int (l/m),.int f,.int s],?_,Int.emod_nonneg _ (by omega),Int.emod_lt_of_pos _ a,_,_,_,rfl⟩
  simp[zO,wb,JG,fnM,vt,wz,JA,GO,WX,wV,zHK,rE_c,Yg,GM,GN,zDX,jO,Jx,jV,zBX,WW,sRet,sIf,G9,zCe,sSet,Zi,R.slot,Q8,eOr,zCT,jN,zn,zBG,eC,zJ,fiF,fiX,R.d,zN,jm,Cp.b,Cp.f,Op2.f,Bi.f,Ty.s,JD,JC,Jy,Jz,J0,Q7,G6,Yy,tT,YN,eCB,Yz,zCU,zCV,zCW,Wo,GL,Tg.m,eqG,eqF,neG,neF,maxG,zCb,vj,uI,zGt,wO,ixS,atI,ixN,eqF,hf,zGq,zEx,zCX,a,c,WK,Slot.list?,Slot.put]
 ·refine⟨nxt (nxt s+7)/64%m,[.int l,.int f,.int (nxt (nxt s+7))],?_,Int.emod_nonneg _ (by omega),Int.emod_lt_of_pos _ a,_,_,_,rfl⟩
  simp[zO,wb,JG,fnM,vt,wz,JA,GO,WX,wV,zHK,rE_c,Yg,GM,GN,zDX,jO,Jx,jV,zBX,WW,sRet,sIf,G9,zCe,sSet,Zi,R.slot,Q8,eOr,zCT,jN,zn,zBG,eC,zJ,fiF,fiX,R.d,zN,jm,Cp.b,Cp.f,Op2.f,Bi.f,Ty.s,JD,JC,Jy,Jz,J0,Q7,G6,Yy,tT,YN,eCB,Yz,zCU,zCV,zCW,Wo,GL,Tg.m,eqG,eqF,neG,neF,maxG,zCb,vj,uI,zGt,wO,ixS,atI,ixN,eqF,hf,zGq,zEx,Jt,zCX,a,c,WK,Slot.list?,Slot.put,Qn]
def uE(c:Int):∃p,jE [.v (.int c)]=.ok (.w p,[.e])/\Pen p:=by
 refine⟨[.int (if 0-c > c then 0-c else c),.int (if decide (10^18<=(if 0-c > c then 0-c else c))=true then 1 else 0),.int ((if 0-c > c then 0-c else c)%1000003)],?_,_,_,_,rfl⟩;simp[jE,wa,Jm,fnM,wz,JA,WX,wV,rE_c,Yg,GM,GN,vH,rE_cB,jV,WW,Qa,sRet,sIf,G9,zCe,sSet,Zi,R.slot,Q8,eOr,zCT,jN,zn,zBG,eC,zJ,fiF,fiX,R.d,zN,jm,Cp.b,Cp.f,Op2.f,Bi.f,Ty.s,JD,JC,Jy,Jz,J0,Q7,G6,Yy,tT,YN,eCB,Yz,zCU,zCV,zCW,Wo,GL,Tg.m,eqG,eqF,neG,neF,maxG,zCb,vj,uI,zCb,subD,zGp,intF,geD,powD,zGq,zCX,cap]
def W0(a:Ls Int):∃c,yj [.v (.l (a.map .int)),.v (.int 0)]=.ok (.v (.int c),[.e,.e]):=by
 cases a with
 |nil=>exact⟨0,rfl⟩
 |cons n a => 
  refine⟨n,?_⟩;have:(0:Int)<a.length+1:=by omega
  simp[yj,j5,JF,fnM,vt,wz,JA,GO,wV,rE_c,Yg,GN,vH,rE_ix,rE_cB,jV,zBX,WW,Qa,sRet,sIf,G9,zCe,sSet,Zi,R.slot,Q8,eOr,zCT,jN,zn,zBG,eC,zJ,fiF,fiX,R.d,zN,jm,Cp.b,Cp.f,Op2.f,Bi.f,Ty.s,JD,JC,Jy,Jz,J0,Q7,G6,Yy,tT,YN,eCB,Yz,zCU,zCV,zCW,Wo,GL,Tg.m,eqG,eqF,neG,neF,maxG,zCb,vj,uI,zEO,ltD,zGp,ixD,atI,ixN,this]
def zD3(h:okD d):zHY d=false:=by cases d<;>first|rfl|(cases h)
def awB(a:Int):D->Bool
 | .t c=>c.all (Ze 0 a)|_=>false
def Zf(d:D)(a:Int)(h:okD d):yw [.v d,.v (.int a)]=.ok (.v (.bl (awB a d)),[.e,.e]):=by
 cases d with
 |t e =>
  exact yF (zK (zt (GZ (zAp (zA rfl) rfl rfl) (jY (zB (j9 (vs:=[.int a]) (λd=>.bl (Ze 0 a d)) (i_T (zA rfl) rfl) rfl (λd c=>⟨_,wd (F:=zq) rfl (zA rfl) x_c (zA rfl) (ZA d 0 a (h.2 d c)),rfl⟩) h.1 rfl) zH) (vN rfl))))) rfl
 |fn x=>cases h|exn x y=>cases h|m x y=>cases h|_=>exact yF (zK (zt (Ga (zAp (zA rfl) rfl rfl)))) rfl
def ok3:D->Prop
 | .t a=>a.length<=cap/\∀d∈a,okD d| .fn _=>False| .exn _ _=>False| .m _ _=>False|_=>True
def ok3_okD(h:ok3 d):okD d:=by
 cases d with
 |t c=>exact⟨h.1,λx a=>zD3 (h.2 x a)⟩|fn x=>cases h|exn x y=>cases h|m x y=>cases h|_=>trivial
def ok4:D->Prop
 | .t a=>a.length<=cap/\∀d∈a,ok3 d| .fn _=>False| .exn _ _=>False| .m _ _=>False|_=>True
def tl:D->Nat
 | .t a=>a.length|_=>0
def stB:D->Bool
 | .t a=>decide (1<=a.length)&&decide (a.length<=12)&&a.all (awB ((a.length:Int)-1))&&(decide (2<=tl (a.getD 0 .non))&&decide (tl (a.getD 0 .non)<=3)&&a.all λr=>decide (tl r=tl (a.getD 0 .non)))|_=>false
def zD4(h:awB hi d=true):∃ds,d=.t ds:=by
 cases d with
 |t ds=>exact⟨ds,rfl⟩|_=>cases h
def Ge(d:D)(h:ok3 d):jw [.v d]=.ok (.v (.bl (stB d)),[.e]):=by
 cases d with
 |t c =>
  have E:dE yb (.cB .len (.cons (.x 0) .nil)) [.v (.t c),.e]=.ok (.v (.int c.length),[.v (.t c),.e]):=jY (zB (zA rfl) zH) rfl;have B:dT yb (.tNot (.tE (.is .tuple (.x 0)))) [.v (.t c),.e]=.ok (false,[.v (.t c),.e]):=yz (t_E (b:=true) (zAp (zA rfl) rfl rfl)) rfl;by_cases w:1<=c.length
  ·have n:Cp.le.b 1 (c.length:Int)=true:=decide_eq_true (by omega)
   by_cases h2:c.length<=12
   ·have C:Cp.le.b (c.length:Int) 12=true:=decide_eq_true (by omega)
    have o:dE yb (.cB .all (.cons (.comp 1 ["row"] ["thing"] [0] (.iT (.x 0)) (.n 0) .tTr (.call 0 (.ev (.x 0) (.ev (.bin .sub (.cB .len (.cons (.x 1) .nil)) (.c (.int 1))) .nil)))) .nil)) [.v (.t c),.e]=.ok (.v (.bl (c.all (awB ((c.length:Int)-1)))),[.v (.t c),.e]) :=
     jY (zB (j9 (vs:=[.t c]) (λd=>.bl (awB ((c.length:Int)-1) d)) (i_T (zA rfl) rfl) rfl (λd z=>⟨_,j8 (F:=yw) rfl (zA rfl) (yq (jY (zB (zA rfl) zH) rfl) x_c rfl) (Zf d _ (h.2 d z)),rfl⟩) h.1 rfl) zH) (vN rfl)
    have I:=Zb B (yz (t_E (J4 x_c E n (zEQ (d:=.int 12)) C)) rfl);cases j:c.all (awB ((c.length:Int)-1))with
    |false =>
     rw[j]at o;have e:stB (.t c)=false:=by dsimp[stB,j,Bool.and_false,Bool.false_and]
     rw[e];exact yF (zL (ye I yf) (ja (yX (yz (t_E o) rfl) (zK (zt x_c))))) rfl
    |true =>
     rw[j]at o;have g:∀r∈c,∃ds,r=.t ds:=λr M=>zD4 (all_eq_true.mp j r M)
     obtain⟨u,jQ,i⟩:∃u jQ,c=u::jQ:=by
      cases c with
      |nil=>exact absurd w (by simp)|cons a l=>exact⟨a,l,rfl⟩
     obtain⟨d0,k⟩:=g u (by rw[i];exact qE);have L:c.getD 0 .non=.t d0:=by rw[i,<- k];rfl
     have q:ixD (.t c) (.int 0)=some (.v (.t d0)):=by
      have J:c[0]?=some (.t d0):=by rw[i,k];rfl
      exact congrArg (Option.map R.v) (Zd J)
     have e:stB (.t c)=(decide (2<=d0.length)&&decide (d0.length<=3)&&c.all λr=>decide (tl r=d0.length)):=by
      unfold stB;dsimp;rw[j,L,decide_eq_true w,decide_eq_true h2];rfl
     rw[e];have st:dS yb (.sSet 1 (.cB .len (.cons (.ix (.x 0) (.c (.int 0))) .nil))) [.v (.t c),.e]=.ok (.nx,[.v (.t c),.v (.int d0.length)]):=yP (jY (zB (jX (zA rfl) x_c q) zH) rfl) rfl;have K:dE yb (.cB .all (.cons (.comp 1 ["row"] ["signs"] [1] (.iT (.x 0)) (.n 0) .tTr (.cmp .eq (.cB .len (.cons (.x 0) .nil)) (.x 1))) .nil)) [.v (.t c),.v (.int d0.length)]=.ok (.v (.bl (c.all λr=>decide (tl r=d0.length))),[.v (.t c),.v (.int d0.length)]):=by
      refine jY (zB (j9 (vs:=[.int d0.length]) (λd=>.bl (decide (tl d=d0.length))) (i_T (zA rfl) rfl) rfl (λd z=>?_) h.1 rfl) zH) (vN rfl);obtain⟨ds,rfl⟩:=g d z;refine⟨_,yD (jY (zB (zA rfl) zH) rfl) (zA rfl) (eq_int _ _),?_⟩;show D.bl _=D.bl _;dsimp[tl];congr 1;exact decide_eq_decide.mpr ⟨λh=>Int.ofNat.inj h,λh=>by rw[h]⟩
     refine yF (E1:=[.v (.t c),.v (.int d0.length)]) (zL (ye I yf) (zL (ye (yz (t_E o) rfl) yf) (zL st (zK (zt ?_))))) rfl;by_cases G:2<=d0.length
     ·have p:Cp.le.b 2 (d0.length:Int)=true:=decide_eq_true (by omega)
      by_cases H:d0.length<=3
      ·have v:Cp.le.b (d0.length:Int) 3=true:=decide_eq_true (by omega)
       rw[decide_eq_true G,decide_eq_true H];exact GZ (J4 (zEQ (d:=.int 2)) (zA rfl) p (zEQ (d:=.int 3)) v) K
      ·have v:Cp.le.b (d0.length:Int) 3=false:=decide_eq_false (by omega)
       rw[decide_eq_false H,Bool.and_false,Bool.false_and];exact Ga (J4 (zEQ (d:=.int 2)) (zA rfl) p (zEQ (d:=.int 3)) v)
     ·have p:Cp.le.b 2 (d0.length:Int)=false:=decide_eq_false (by omega)
      rw[decide_eq_false G,Bool.false_and,Bool.false_and];exact Ga (Zv (zEQ (d:=.int 2)) (zA rfl) p)
   ·have C:Cp.le.b (c.length:Int) 12=false:=decide_eq_false (by omega)
    have e:stB (.t c)=false:=by dsimp[stB,decide_eq_false h2,Bool.and_false,Bool.false_and]
    rw[e];exact yF (ja (yX (Zb B (yz (t_E (J4 x_c E n (zEQ (d:=.int 12)) C)) rfl)) (zK (zt x_c)))) rfl
  ·have n:Cp.le.b 1 (c.length:Int)=false:=decide_eq_false (by omega)
   have e:stB (.t c)=false:=by dsimp[stB,decide_eq_false w,Bool.false_and]
   rw[e];exact yF (ja (yX (Zb B (yz (t_E (Zv x_c E n)) rfl)) (zK (zt x_c)))) rfl
 |fn x=>cases h|exn x y=>cases h|m x y=>cases h|_=>exact yF (ja (yX (Wz (yz (t_E (zAp (zA rfl) rfl rfl)) rfl)) (zK (zt x_c)))) rfl
def zBh:D->Int
 | .int i=>i|_=>0
def zD5:Ls D->Bool
 |a::b::r=>decide (zBh a<zBh b)&&zD5 (b::r)|_=>true
theorem zD6:∀c:Ls D,(zipWith Wv c (c.drop 1)).all (λd=>match d with | .t [a,b]=>decide (zBh a<zBh b)|_=>false)=zD5 c
 | []=>rfl| [a]=>rfl
 |a::b::r=>by
  have:=zD6 (b::r);dsimp[List.drop_succ_cons,List.drop_zero]at this;show((decide (zBh a<zBh b))&&_)=(decide (zBh a<zBh b)&&zD5 (b::r));rw[<- this]
def patP:D->Ls DV.Slot
 | .t [a,b]=>[.v a,.v b]|_=>[]
def rsB(g:D)(n:Int):Bool:=awB (n-1) g&&match g with
 | .t a=>zD5 a|_=>false
def zAu(h:Ze lo hi d=true):∃i:Int,d=.int i/\lo<=i/\i<=hi:=by
 cases d with
 |int i=>dsimp[Ze,Bool.and_eq_true,decide_eq_true_eq]at h;exact⟨i,rfl,h.1,h.2⟩|_=>cases h
theorem Yq{p:D->Prop}:∀{g e:Ls D},(∀d∈g,p d)->(∀d∈e,p d)->∀d∈zipWith Wv g e,∃a b,d=.t [a,b]/\p a/\p b
 | [],_,_,_,d,h=>by simp at h|_::_,[],_,_,d,h=>by simp at h
 |a::g,b::e,i,h2,d,h=>by
  rcases mem_cons.mp h with h|h
  ·exact⟨a,b,h,i a qE,h2 b qE⟩
  ·exact Yq (λx c=>i x (qD _ c)) (λx c=>h2 x (qD _ c)) d h
def Wj(x y:Int):ltD (.int x) (.int y)=some (.v (.bl (decide (x<y)))):=rfl
def cut_one(ds:Ls D):j1 ds (some 1) none=ds.drop 1:=by
 cases ds with
 |nil=>rfl|cons a l=>exact zGD (a::l) 1 (by simp)
def zGI(d:D)(n:Int)(h:okD d):jC [.v d,.v (.int n)]=.ok (.v (.bl (rsB d n)),[.e,.e]):=by
 have o:dE wo (.call 0 (.ev (.x 0) (.ev (.bin .sub (.x 1) (.c (.int 1))) .nil))) [.v d,.v (.int n)]=.ok (.v (.bl (awB (n-1) d)),[.v d,.v (.int n)]):=j8 (F:=yw) rfl (zA rfl) (yq (zA rfl) x_c rfl) (Zf d _ h);cases g:awB (n-1) d with
 |false =>
  rw[g]at o;have e:rsB d n=false:=by unfold rsB;rw[g];rfl
  rw[e];exact yF (ja (yX (yz (t_E o) rfl) (zK (zt x_c)))) rfl
 |true =>
  rw[g]at o;obtain⟨ds,rfl⟩:=zD4 g;have e:rsB (.t ds) n=zD5 ds:=by unfold rsB;rw[g];rfl
  rw[e];have k:∀x∈ds,∃i:Int,x=.int i:=λx q=>by obtain⟨i,e,_⟩:=zAu (all_eq_true.mp g x q);exact⟨i,e⟩
  refine yF (zL (ye (yz (t_E o) rfl) yf) (zK (zt (jY (zB (vL (vs:=[]) patP (λ_=>true) (λd=>.bl (match d with | .t [a,b]=>decide (zBh a<zBh b)|_=>false)) (i_Z (t1:=true) (t2:=true) (zB (zA rfl) (zB (x_sl (zA rfl) (o_S x_c) o_N (show slD (.t ds) (some 1) none=some (.v (.t (ds.drop 1)))by dsimp[slD,cut_one])) zH)) rfl rfl) rfl ?_ ?_ ?_ ?_ ?_ ?_) zH) (vN (zD6 ds)))))) rfl
  ·intro d c S y l
   obtain⟨a,b,rfl,_⟩:=Yq (p:=λ_=>True) (λ_ _=>trivial) (λ_ _=>trivial) d c
   match S,y,l with
   | [t,u],_,l =>
    have w:=l t (by simp);have v:=l u (by simp);cases t<;>cases u<;>first|rfl|(cases w;done)|(cases v;done)
  ·intro d c
   obtain⟨a,b,rfl,_⟩:=Yq (p:=λ_=>True) (λ_ _=>trivial) (λ_ _=>trivial) d c;refine⟨rfl,λs r=>?_⟩;dsimp[patP,mem_cons,mem_nil_iff,or_false]at r;rcases r with rfl|rfl<;>rfl
  ·intro d c
   dsimp[zDY,zBX,zAa,QF]
  ·intro d c _
   obtain⟨a,b,rfl,⟨i,rfl⟩,⟨j,rfl⟩⟩:=Yq (p:=λx=>∃i:Int,x=.int i) k (λx q=>k x (List.mem_of_mem_drop q)) d c;exact⟨_,yD (zA rfl) (zA rfl) (Wj i j),rfl⟩
  ·rw[List.length_zipWith];have:=h.1;omega
  ·rw[List.filter_eq_self.mpr (λ_ _=>rfl)]
def mgB:D->Bool
 | .t [s,g]=>stB s&&rsB g (tl s)|_=>false
def st_tup(h:stB s=true):∃rows,s=.t rows:=by
 cases s with
 |t rows=>exact⟨rows,rfl⟩|_=>cases h
def Jp(d:D)(h:ok4 d):yi [.v d]=.ok (.v (.bl (mgB d)),[.e]):=by
 cases d with
 |t k =>
  have q:dT jD (.tNot (.tE (.is .tuple (.x 0)))) [.v (.t k),.e,.e]=.ok (false,[.v (.t k),.e,.e]):=yz (t_E (b:=true) (zAp (zA rfl) rfl rfl)) rfl;have i:∀b,(!decide ((k.length:Int)=2))=b->dT jD (.tOr (.tNot (.tE (.is .tuple (.x 0)))) (.tE (.cmp .ne (.cB .len (.cons (.x 0) .nil)) (.c (.int 2))))) [.v (.t k),.e,.e]=.ok (b,[.v (.t k),.e,.e]):=λb o=>by
   subst o;exact Zb q (t_E (yD (jY (zB (zA rfl) zH) rfl) x_c (ne_int _ _)))
  match k,h,i with
  | [s,g],h,i =>
   have n:=h.2 s (by simp);have p:=h.2 g (by simp);have l:dE jD (.call 1 (.ev (.x 1) .nil)) [.v (.t [s,g]),.v s,.v g]=.ok (.v (.bl (stB s)),[.v (.t [s,g]),.v s,.v g]):=z9 (F:=jw) rfl (zA rfl) (Ge s n);refine yF (E1:=[.v (.t [s,g]),.v s,.v g]) (zL (ye (i false rfl) yf) (zL (zF5 (zA rfl) rfl) (zK (zt ?_)))) rfl;cases e:stB s with
   |false=>rw[e]at l;show dE _ _ _=.ok (.v (.bl (stB s&&_)),_);rw[e];exact Ga l
   |true =>
    rw[e]at l;obtain⟨j,rfl⟩:=st_tup e;show dE _ _ _=.ok (.v (.bl (stB (.t j)&&rsB g (tl (.t j)))),_);rw[e,Bool.true_and];exact GZ l (j8 (F:=jC) rfl (zA rfl) (jY (zB (zA rfl) zH) rfl) (zGI g _ (ok3_okD p)))
  | [],h,i=>exact yF (ja (yX (i true rfl) (zK (zt x_c)))) rfl| [_],h,i=>exact yF (ja (yX (i true rfl) (zK (zt x_c)))) rfl|a::b::c::r,h,i=>exact yF (ja (yX (i true (by simp;omega)) (zK (zt x_c)))) rfl
 |fn x=>cases h|exn x y=>cases h|m x y=>cases h|_=>exact yF (ja (yX (Wz (yz (t_E (zAp (zA rfl) rfl rfl)) rfl)) (zK (zt x_c)))) rfl
def Qo(d:D)(h:zHY d=false):jx [.v d]=.ok (.v (.bl (isW d)),[.e]):=by
 cases d<;>first|rfl|(cases h)
def zHZ(h:zHY d=false):∃r,dE zC (.and (.call 0 (.ev (.x 0) .nil)) (.chain .le .lt (.c (.int 0)) (.x 0) (.x 1))) [.v d,.v (.int n)]=.ok (r,[.v d,.v (.int n)])/\r.d=.bl (Ze 0 (n-1) d):=by
 have c:dE zC (.call 0 (.ev (.x 0) .nil)) [.v d,.v (.int n)]=.ok (.v (.bl (isW d)),[.v d,.v (.int n)]):=z9 (F:=jx) rfl (zA rfl) (Qo d h);cases d with
 |int i =>
  by_cases a:0<=i
  ·refine⟨_,GZ c (J4 x_c (zA rfl) (decide_eq_true a) (zA rfl) rfl),?_⟩
   show D.bl _=D.bl _
   dsimp[Ze,decide_eq_true a,Bool.true_and];congr 1;exact decide_eq_decide.mpr (by omega)
  ·refine⟨_,GZ c (Zv x_c (zA rfl) (decide_eq_false a)),?_⟩
   show D.bl _=D.bl _
   dsimp[Ze,decide_eq_false a,Bool.false_and]
 |fn x=>cases h|exn x y=>cases h|m x y=>cases h|_=>exact⟨_,Ga c,rfl⟩
def lnB(n:Int)(l0:Nat):D->Bool
 | .t a=>(decide (a.length=2)||decide (a.length=3))&&decide (a.length=l0)&&a.all (Ze 0 (n-1))
 |_=>false
def nin23(k:Nat):Cp.f .nin (.int (k:Nat)) (.t [.int 2,.int 3])=some (.v (.bl (!(decide (k=2)||decide (k=3))))):=by
 by_cases h2:k=2
 ·subst h2;rfl
 ·by_cases a:k=3
  ·subst a;rfl
  ·have e:decide (k=2)=false:=decide_eq_false h2
   have c:decide (k=3)=false:=decide_eq_false a;rw[e,c];have g:eqV (.int 2) (.int ((k:Nat):Int))=false:=by simp[eqV];omega
   have h:eqV (.int 3) (.int ((k:Nat):Int))=false:=by simp[eqV];omega
   simp[Cp.f,inG,inF,flat,flV,inV,g,h]
def ix0(s g:D):ixD (.t [s,g]) (.int 0)=some (.v s):=rfl
def ix1(s g:D):ixD (.t [s,g]) (.int 1)=some (.v g):=rfl
def Qp(h:okD d)(w:tl d≠0->∃c,rows[0]?=some (.t c)/\c.length=l0) :
  dB zC yC [.v (.t [.t rows,g]),.v (.int n),.v d]=if lnB n l0 d=true then .ok (.nx,[.v (.t [.t rows,g]),.v (.int n),.v d])else .ok (.ret (.v (.bl false)),[.v (.t [.t rows,g]),.v (.int n),.v d]):=by
 cases d with
 |t a =>
  have o:dT zC (.tNot (.tE (.is .tuple (.x 2)))) [.v (.t [.t rows,g]),.v (.int n),.v (.t a)]=.ok (false,[.v (.t [.t rows,g]),.v (.int n),.v (.t a)]):=yz (t_E (b:=true) (zAp (zA rfl) rfl rfl)) rfl;have r:dE zC (.cB .len (.cons (.x 2) .nil)) [.v (.t [.t rows,g]),.v (.int n),.v (.t a)]=.ok (.v (.int a.length),[.v (.t [.t rows,g]),.v (.int n),.v (.t a)]):=jY (zB (zA rfl) zH) rfl;have i:dT zC (.tE (.cmp .nin (.cB .len (.cons (.x 2) .nil)) (.t (.cons (.c (.int 2)) (.cons (.c (.int 3)) .nil))))) [.v (.t [.t rows,g]),.v (.int n),.v (.t a)]=.ok (!(decide (a.length=2)||decide (a.length=3)),[.v (.t [.t rows,g]),.v (.int n),.v (.t a)]) :=
   t_E (yD r (jI (zB x_c (zB x_c zH)) rfl jP) (nin23 a.length))
  cases k:(decide (a.length=2)||decide (a.length=3))with
  |false =>
   rw[k]at i;have e:lnB n l0 (.t a)=false:=by dsimp[lnB,k,Bool.false_and]
   rw[e];exact ja (yX (Zb o (Wz i)) (zK (zt x_c)))
  |true =>
   rw[k]at i;have q:a.length≠0:=by
    dsimp[Bool.or_eq_true,decide_eq_true_eq]at k;omega
   obtain⟨c,v,rfl⟩:=w q;have p:ixD (.t rows) (.int 0)=some (.v (.t c)):=congrArg (Option.map R.v) (Zd v);have j:dT zC (.tE (.cmp .ne (.cB .len (.cons (.x 2) .nil)) (.cB .len (.cons (.ix (.ix (.x 0) (.c (.int 0))) (.c (.int 0))) .nil)))) [.v (.t [.t rows,g]),.v (.int n),.v (.t a)]=.ok (!decide (((a.length:Nat):Int)=((c.length:Nat):Int)),[.v (.t [.t rows,g]),.v (.int n),.v (.t a)]) :=
    t_E (yD r (jY (zB (jX (jX (zA rfl) x_c (ix0 _ _)) x_c p) zH) rfl) (ne_int _ _))
   have l:dE zC (.cB .all (.cons (.comp 1 ["_law_stand"] ["_law_many"] [1] (.iT (.x 2)) (.n 0) .tTr (.and (.call 0 (.ev (.x 0) .nil)) (.chain .le .lt (.c (.int 0)) (.x 0) (.x 1)))) .nil)) [.v (.t [.t rows,g]),.v (.int n),.v (.t a)]=.ok (.v (.bl (a.all (Ze 0 (n-1)))),[.v (.t [.t rows,g]),.v (.int n),.v (.t a)]) :=
    jY (zB (j9 (vs:=[.int n]) (λd=>.bl (Ze 0 (n-1) d)) (i_T (zA rfl) rfl) rfl (λd z=>zHZ (h.2 d z)) h.1 rfl) zH) (vN rfl)
   by_cases hl:a.length=c.length
   ·rw[decide_eq_true (by rw[hl])]at j
    have e:lnB n c.length (.t a)=a.all (Ze 0 (n-1)):=by unfold lnB;dsimp;rw[k,decide_eq_true hl];rfl
    rw[e];cases u:a.all (Ze 0 (n-1))with
    |false=>rw[u]at l;exact zL (ye (Zb o (Zb i j)) yf) (zK (yX (yz (t_E l) rfl) (zK (zt x_c))))|true=>rw[u]at l;exact zL (ye (Zb o (Zb i j)) yf) (zK (ye (yz (t_E l) rfl) yf))
   ·rw[decide_eq_false (by omega)]at j
    have e:lnB n c.length (.t a)=false:=by dsimp[lnB,decide_eq_false hl,Bool.and_false,Bool.false_and]
    rw[e];exact ja (yX (Zb o (Zb i j)) (zK (zt x_c)))
 |fn x=>cases h|exn x y=>cases h|m x y=>cases h|_=>exact ja (yX (Wz (yz (t_E (zAp (zA rfl) rfl rfl)) rfl)) (zK (zt x_c)))
def zD7(d:D)(E:za):zo [.v d] E=[.e]:=by cases E<;>rfl
def x_sset{as:Ax}(c:dA fs as E=.ok (rs,E1))(a:zFn (rs.map R.d)=some r):dE fs (.sset as) E=.ok (r,E1):=by dsimp[rE_sset,eCB,c,a]
def uF(k:1<=rows.length)(n:rows.length<=12):stB (.t rows)=rows.all (lnB rows.length (tl (rows.getD 0 .non))):=by
 have e:stB (.t rows)=(rows.all (awB ((rows.length:Int)-1))&&(decide (2<=tl (rows.getD 0 .non))&&decide (tl (rows.getD 0 .non)<=3)&&rows.all λr=>decide (tl r=tl (rows.getD 0 .non)))):=by
  unfold stB;dsimp;rw[decide_eq_true k,decide_eq_true n];rfl
 rw[e,Bool.eq_iff_iff];generalize tl (rows.getD 0 .non)=l0 at *;constructor
 ·intro h
  dsimp[Bool.and_eq_true,decide_eq_true_eq,all_eq_true]at h;obtain⟨a,⟨b,c⟩,f⟩:=h;rw[all_eq_true];intro r i;obtain⟨g,rfl⟩:=zD4 (a r i);have hf:g.length=l0:=f _ i;have p:g.all (Ze 0 ((rows.length:Int)-1))=true:=a _ i;unfold lnB;dsimp;rw[p,decide_eq_true hf];have:(decide (g.length=2)||decide (g.length=3))=true:=by dsimp[Bool.or_eq_true,decide_eq_true_eq];omega
  rw[this];rfl
 ·intro h
  rw[all_eq_true]at h;have j:∀r∈rows,∃g,r=.t g/\(g.length=2\/g.length=3)/\g.length=l0/\g.all (Ze 0 ((rows.length:Int)-1))=true:=λr i=>by
   have:=h r i;cases r with
   |t g =>
    dsimp[lnB,Bool.and_eq_true,Bool.or_eq_true,decide_eq_true_eq]at this;exact⟨g,rfl,this.1.1,this.1.2,this.2⟩
   |_=>cases this
  dsimp[Bool.and_eq_true,decide_eq_true_eq,all_eq_true];refine⟨λr i=>?_,?_,λr i=>?_⟩
  ·obtain⟨g,rfl,_,_,q⟩:=j r i;exact q
  ·obtain⟨o,i⟩:∃r,r∈rows:=by
    cases rows with
    |nil=>exact absurd k (by simp)|cons a l=>exact⟨a,qE⟩
   obtain⟨g,rfl,v,u,_⟩:=j o i;omega
  ·obtain⟨g,rfl,_,q,_⟩:=j r i;exact q
theorem Gf:∀(a b:Ls Nat),deqs (a.map λn:Nat=>D.int (n:Int)) (b.map λn:Nat=>D.int (n:Int))=decide (a=b)
 | [],[]=>rfl| [],_::_=>rfl|_::_,[]=>rfl
 |x::a,y::b=>by
  have i:=Gf a b;have e:deq (.int (x:Int)) (.int (y:Int))=decide (x=y):=by
   dsimp[deq,flV,eqV];rw[Bool.eq_iff_iff,beq_iff_eq,decide_eq_true_eq];exact⟨λh=>Int.ofNat.inj h,λh=>by rw[h]⟩
  rw[map_cons,map_cons,deqs,i,e,Bool.eq_iff_iff];dsimp[Bool.and_eq_true,decide_eq_true_eq,List.cons.injEq]
theorem uG:∀g:Ls Nat,zD5 (g.map λn:Nat=>D.int (n:Int))=true↔zAN g
 | []=>⟨λ_=>.nil,λ_=>rfl⟩| [a]=>⟨λ_=>List.pairwise_singleton _ _,λ_=>rfl⟩
 |a::b::r=>by
  have i:=uG (b::r);rw[map_cons]at i;rw[map_cons,map_cons,zD5,Bool.and_eq_true,i,decide_eq_true_eq];constructor
  ·rintro ⟨h,p⟩
   have c:a<b:=by dsimp[zBh]at h;omega
   refine pairwise_cons.mpr ⟨λx e=>?_,p⟩;rcases mem_cons.mp e with rfl|e
   ·exact c
   ·exact lt_trans c ((pairwise_cons.mp p).1 x e)
  ·intro p
   have:=(pairwise_cons.mp p).1 b qE;exact⟨by dsimp[zBh];omega,(pairwise_cons.mp p).2⟩
theorem zAv:∀a:Ls Nat,(∀n∈a,n<16)->jp (a.map λn:Nat=>D.int (n:Int))=some a
 | [],_=>rfl
 |n::a,h=>by
  have e:=h n qE;rw[map_cons,jp,if_pos (by omega),zAv a λm c=>h m (qD _ c)];simp
theorem Gg(g:hi<16):∀a:Ls D,a.all (Ze 0 hi)=true->∃c:Ls Nat,a=(c.map λn:Nat=>D.int (n:Int))/\∀n∈c,n<16
 | [],_=>⟨[],rfl,λn h=>by cases h⟩
 |d::a,h=>by
  rw[all_cons,Bool.and_eq_true]at h;obtain⟨c,rfl,j⟩:=Gg g a h.2;obtain⟨i,rfl,k,l⟩:=zAu h.1;refine⟨i.toNat::c,?_,λn e=>?_⟩
  ·rw[map_cons];congr 2;omega
  ·rcases mem_cons.mp e with rfl|e
   ·omega
   ·exact j n e
def zAw(a:Ls Nat):∀d∈(a.map λn:Nat=>D.int (n:Int)),eqb 19 d=true:=λd c=>by
 obtain⟨n,_,rfl⟩:=mem_map.mp c;rfl
def srt_eq(a:∀n∈ns,n<16):eqG (.l (ns.map λn:Nat=>D.int (n:Int))) (.l (srtD ns))=some (.v (.bl (zD5 (ns.map λn:Nat=>D.int (n:Int))))):=by
 unfold srtD;rw[zGE (zAw _) (zAw _),Gf];congr 3;rw[Bool.eq_iff_iff,decide_eq_true_eq,uG];constructor
 ·intro h;rw[h];exact List.pairwise_lt_range.filter _
 ·intro h;exact WQ ns h 16 a
def zGJ(d:D)(h:ok4 d):zx [.v d]=.ok (.v (.bl (mgB d)),[.e]):=by
 cases d with
 |t C =>
  have p:dT zC (.tNot (.tE (.is .tuple (.x 0)))) [.v (.t C),.e,.e]=.ok (false,[.v (.t C),.e,.e]):=yz (t_E (b:=true) (zAp (zA rfl) rfl rfl)) rfl;have u:∀b,(!decide ((C.length:Int)=2))=b->dT zC (.tE (.cmp .ne (.cB .len (.cons (.x 0) .nil)) (.c (.int 2)))) [.v (.t C),.e,.e]=.ok (b,[.v (.t C),.e,.e]):=λb w=>by
   subst w;exact t_E (yD (jY (zB (zA rfl) zH) rfl) x_c (ne_int _ _))
  match C,h,p,u with
  | [s,g],h,p,u =>
   have Q:=h.2 s (by simp);have H:=h.2 g (by simp);cases s with
   |t rows =>
    have S:dT zC (.tNot (.tE (.is .tuple (.ix (.x 0) (.c (.int 0)))))) [.v (.t [.t rows,g]),.e,.e]=.ok (false,[.v (.t [.t rows,g]),.e,.e]):=yz (t_E (b:=true) (zAp (jX (zA rfl) x_c (ix0 _ _)) rfl rfl)) rfl;have st:dS zC (.sSet 1 (.cB .len (.cons (.ix (.x 0) (.c (.int 0))) .nil))) [.v (.t [.t rows,g]),.e,.e]=.ok (.nx,[.v (.t [.t rows,g]),.v (.int rows.length),.e]):=yP (jY (zB (jX (zA rfl) x_c (ix0 _ _)) zH) rfl) rfl;by_cases h1:1<=rows.length
    ·have M:Cp.le.b 1 (rows.length:Int)=true:=decide_eq_true (by omega)
     by_cases h2:rows.length<=12
     ·have b2:Cp.le.b (rows.length:Int) 12=true:=decide_eq_true (by omega)
      have t4:dT zC (.tNot (.tE (.chain .le .le (.c (.int 1)) (.x 1) (.c (.int 12))))) [.v (.t [.t rows,g]),.v (.int rows.length),.e]=.ok (false,[.v (.t [.t rows,g]),.v (.int rows.length),.e]):=yz (t_E (J4 x_c (zA rfl) M x_c b2)) rfl;cases g with
      |t l =>
       have t5:dT zC (.tNot (.tE (.is .tuple (.ix (.x 0) (.c (.int 1)))))) [.v (.t [.t rows,.t l]),.v (.int rows.length),.e]=.ok (false,[.v (.t [.t rows,.t l]),.v (.int rows.length),.e]):=yz (t_E (b:=true) (zAp (jX (zA rfl) x_c (ix1 _ _)) rfl rfl)) rfl;have z:∀o,dB zC (.s (.sForT (.ix (.x 0) (.c (.int 0))) (.n 2) yC)
  (.s (.sIf (.tNot (.tE (.cB .all (.cons (.comp 1 ["_law_stand"] ["_law_many"] [1] (.iT (.ix (.x 0) (.c (.int 1)))) (.n 0) .tTr (.and (.call 0 (.ev (.x 0) .nil)) (.chain .le .lt (.c (.int 0)) (.x 0) (.x 1)))) .nil)))) (.o (.sRet (.c (.bl false)))) .bNil)
  (.o (.sRet (.cmp .eq (.cB .list (.cons (.ix (.x 0) (.c (.int 1))) .nil)) (.sset (.cons (.ix (.x 0) (.c (.int 1))) .nil))))))) [.v (.t [.t rows,.t l]),.v (.int rows.length),.e]=o->dB zC yo [.v (.t [.t rows,.t l]),.e,.e]=o:=λo ho=>zL (ye (Zb p (Zb (u false rfl) S)) yf) (zL st (zL (ye (Zb t4 t5) yf) ho))
       have lp:=DV.Gc (tg:=gN 2) (body:=dB zC yC) (λk E=>∃v,E=[.v (.t [.t rows,.t l]),.v (.int rows.length),v]/\yQ v=true/\∀j,j<k->lnB rows.length (tl (rows.getD 0 .non)) (rows.getD j .non)=true) (λi=>!lnB rows.length (tl (rows.getD 0 .non)) (rows.getD i .non)) (λ_=>.v (.bl false)) rows 0 [.v (.t [.t rows,.t l]),.v (.int rows.length),.e] ⟨.e,rfl,rfl,λj I=>absurd I (not_lt_zero j)⟩
        (λi d q E ⟨v,hE,q2,I⟩=>by
         rw[zero_add]at I ⊢;have K:rows.getD i .non=d:=by rw[getD_eq_getElem?_getD,q];rfl
         have G:=mem_of_getElem? q;have O:=Qp (rows:=rows) (g:=.t l) (n:=rows.length) (l0:=tl (rows.getD 0 .non)) (Q.2 d G) (λY=>by
          have h0:rows[0]?=some (rows.getD 0 .non):=by rw[getD_eq_getElem?_getD,getElem?_eq_getElem (by omega)];rfl
          by_cases B:i=0
          ·subst B
           rw[K];cases d with
           |t Z=>exact⟨Z,q,rfl⟩|_=>exact absurd rfl Y
          ·have:=I 0 (by omega)
           rw[h0];cases V:rows.getD 0 .non with
           |t Z=>exact⟨Z,rfl,rfl⟩|_=>rw[V]at this;cases this)
         refine⟨[.v (.t [.t rows,.t l]),.v (.int rows.length),.v d],[.v (.t [.t rows,.t l]),.v (.int rows.length),.v d],?_,?_⟩
         ·subst hE;cases v<;>first|rfl|(cases q2)
         ·rw[K]
          cases w:lnB rows.length (tl (rows.getD 0 .non)) d with
          |false=>rw[w]at O;exact .inl ⟨rfl,O⟩
          |true =>
           rw[w]at O;refine .inr ⟨rfl,O,.v d,rfl,rfl,λj aa=>?_⟩;by_cases W:j=i
           ·subst W;rw[K];exact w
           ·exact I j (by omega))
       have X:dE zC (.ix (.x 0) (.c (.int 0))) [.v (.t [.t rows,.t l]),.v (.int rows.length),.e]=.ok (.v (.t rows),[.v (.t [.t rows,.t l]),.v (.int rows.length),.e]):=jX (zA rfl) x_c (ix0 _ _);rcases lp with⟨i,E',B,hp,_,f⟩|⟨L,E',f,v,rfl,q2,_⟩
       ·have e:stB (.t rows)=false:=by
         rw[uF h1 h2,Bool.eq_false_iff];intro ht;rw[all_eq_true]at ht;have:=ht (rows.getD i .non) (by rw[getD_eq_getElem?_getD,getElem?_eq_getElem B];exact getElem_mem B);rw[zero_add,this]at hp;cases hp
        have e':mgB (.t [.t rows,.t l])=false:=by show(stB (.t rows)&&_)=false;rw[e];rfl
        rw[e'];refine yF (E1:=E') (z _ (ja (zDq X rfl f))) ?_;exact zD7 _ _
       ·have e:stB (.t rows)=true:=by
         rw[uF h1 h2,all_eq_true];intro r hr;obtain⟨i,B,rfl⟩:=getElem_of_mem hr;have:=L i B;have er:rows.getD i .non=rows[i]:=by rw[getD_eq_getElem?_getD,getElem?_eq_getElem B];rfl
         rw[zero_add,er]at this;rw[<- Bool.not_eq_false',this]
        have e':mgB (.t [.t rows,.t l])=(l.all (Ze 0 ((rows.length:Int)-1))&&zD5 l):=by show(stB (.t rows)&&_)=_;rw[e];rfl
        rw[e'];have R:dE zC (.cB .all (.cons (.comp 1 ["_law_stand"] ["_law_many"] [1] (.iT (.ix (.x 0) (.c (.int 1)))) (.n 0) .tTr (.and (.call 0 (.ev (.x 0) .nil)) (.chain .le .lt (.c (.int 0)) (.x 0) (.x 1)))) .nil)) [.v (.t [.t rows,.t l]),.v (.int rows.length),v]=.ok (.v (.bl (l.all (Ze 0 ((rows.length:Int)-1)))),[.v (.t [.t rows,.t l]),.v (.int rows.length),v]) :=
         jY (zB (j9 (vs:=[.int rows.length]) (λd=>.bl (Ze 0 ((rows.length:Int)-1) d)) (i_T (jX (zA rfl) x_c (ix1 _ _)) rfl) rfl (λd K=>zHZ (zD3 (H.2 d K))) H.1 rfl) zH) (vN rfl)
        cases ha:l.all (Ze 0 ((rows.length:Int)-1))with
        |false =>
         rw[ha]at R;exact yF (E1:=[.v (.t [.t rows,.t l]),.v (.int rows.length),v]) (z _ (zL (zDq X rfl f) (ja (yX (yz (t_E R) rfl) (zK (zt x_c)))))) rfl
        |true =>
         rw[ha]at R;obtain⟨J,rfl,w⟩:=Gg (by omega) l ha;refine yF (E1:=[.v (.t [.t rows,.t (J.map λn:Nat=>D.int (n:Int))]),.v (.int rows.length),v]) (z _ (zL (zDq X rfl f) (zL (ye (yz (t_E R) rfl) yf) (zK (zt (yD (jY (r:=.w (J.map λn:Nat=>D.int (n:Int))) (zB (jX (zA rfl) x_c (ix1 _ _)) zH) rfl) (x_sset (r:=.w (srtD J)) (zB (jX (zA rfl) x_c (ix1 _ _)) zH) ?_) (srt_eq w))))))) rfl;show(jp (J.map λn:Nat=>D.int (n:Int))).map _=_;rw[zAv J w];rfl
      |fn x=>exact absurd H id|exn x y=>exact absurd H id|m x y=>exact absurd H id
      |_ => 
       rw[show mgB (.t [.t rows,_])=false from by show(stB (.t rows)&&(awB _ _&&_))=false;simp[awB]];exact yF (zL (ye (Zb p (Zb (u false rfl) S)) yf) (zL st (ja (yX (Zb t4 (yz (t_E (zAp (jX (zA rfl) x_c (ix1 _ _)) rfl rfl)) rfl)) (zK (zt x_c)))))) rfl
     ·have b2:Cp.le.b (rows.length:Int) 12=false:=decide_eq_false (by omega)
      have e:mgB (.t [.t rows,g])=false:=by show(stB (.t rows)&&_)=false;dsimp[stB,decide_eq_false h2,Bool.and_false,Bool.false_and]
      rw[e];exact yF (zL (ye (Zb p (Zb (u false rfl) S)) yf) (zL st (ja (yX (Wz (yz (t_E (J4 x_c (zA rfl) M x_c b2)) rfl)) (zK (zt x_c)))))) rfl
    ·have M:Cp.le.b 1 (rows.length:Int)=false:=decide_eq_false (by omega)
     have e:mgB (.t [.t rows,g])=false:=by show(stB (.t rows)&&_)=false;dsimp[stB,decide_eq_false h1,Bool.false_and]
     rw[e];exact yF (zL (ye (Zb p (Zb (u false rfl) S)) yf) (zL st (ja (yX (Wz (yz (t_E (Zv x_c (zA rfl) M)) rfl)) (zK (zt x_c)))))) rfl
   |fn x=>exact absurd Q id|exn x y=>exact absurd Q id|m x y=>exact absurd Q id|_=>exact yF (ja (yX (Zb p (Zb (u false rfl) (yz (t_E (zAp (jX (zA rfl) x_c (ix0 _ _)) rfl rfl)) rfl))) (zK (zt x_c)))) rfl
  | [],h,p,u=>exact yF (ja (yX (Zb p (Wz (u true rfl))) (zK (zt x_c)))) rfl| [_],h,p,u=>exact yF (ja (yX (Zb p (Wz (u true rfl))) (zK (zt x_c)))) rfl|a::b::c::r,h,p,u=>exact yF (ja (yX (Zb p (Wz (u true (by simp;omega)))) (zK (zt x_c)))) rfl
 |fn x=>cases h|exn x y=>cases h|m x y=>cases h|_=>exact yF (ja (yX (Wz (yz (t_E (zAp (zA rfl) rfl rfl)) rfl)) (zK (zt x_c)))) rfl
abbrev tN(l:Ls Nat):D:=.t (N l)
def T(ls:Ls (Ls Nat)):Ls D:=ls.map λl=>tN l
abbrev mD(ls:Ls (Ls Nat))(g:Ls Nat):D:=.t [.t (T ls),tN g]
structure Mac(m:Nat)(ls:List (List Nat))(g:List Nat):Prop where
 hm:m=2\/m=3
 hn:1<=ls.length/\ls.length<=12
 hl:∀l∈ls,l.length=m/\∀x∈l,x<ls.length
 hr:zAN g
 hg:∀x∈g,x<ls.length
theorem N_of:∀a:Ls D,(∀d∈a,∃x:Nat,d=.int (x:Int)/\x<n)->∃l:Ls Nat,a=N l/\l.length=a.length/\∀x∈l,x<n
 | [],_=>⟨[],rfl,rfl,λx h=>by cases h⟩
 |d::a,h=>by
  obtain⟨l,rfl,e,hl⟩:=N_of a λx g=>h x (qD _ g)
  obtain⟨x,rfl,g⟩:=h d qE;refine⟨x::l,rfl,by simp[e],λy c=>?_⟩;rcases mem_cons.mp c with rfl|c
  ·exact g
  ·exact hl y c
def mod_nat(a b:Nat)(h:b≠0):zGq (.int a) (.int b)=some (.v (.int ((a%b:Nat):Int))):=by
 have:(0:Int)<b:=by omega
 dsimp[zGq,zCX];rw[if_pos (decide_eq_true this)];rfl
def zD8(a:Nat):Jt (.int (a:Int)) (.int 1)=some (.v (.int ((a+1:Nat):Int))):=by simp[Jt]
def Qq{n:Nat}(h:1<=n):subD (.int (n:Int)) (.int 1)=some (.v (.int ((n-1:Nat):Int))):=by
 show some (R.v (D.int ((n:Int)-1)))=_
 rw[show((n:Int)-1)=((n-1:Nat):Int)by omega]
def min_two(a b:Int):Bi.f .min [.int a,.int b]=some (.v (.int (if b<a then b else a))):=rfl
abbrev qI(n:Nat):DV.Slot:=.v (.int n)
def line_by{mx:Int}{p:Ls D}(C:Pen p){m n i:Nat}(hm:m=2\/m=3)(hn:1<=n/\n<=12)(hi:i<n)(w:Int)(L:Ls D)(hL:L.length<=100)(s7:DV.Slot)(S:yQ s7=true) :
  ∃a l,dB zX yn [.p p,.v (.int mx),qI m,qI n,.v (.int w),.w L,qI i,s7]=.ok (.nx,[.p a,.v (.int mx),qI m,qI n,.v (.int w),.w (L++[tN l]),qI i,.v (tN l)])/\Pen a/\l.length=m/\∀x∈l,x<n:=by
 obtain⟨W,a,O,g,K,V⟩:=zD0 (fs:=zX) (E:=[.p p,.v (.int mx),qI m,qI n,.v (.int w),.w L,qI i,s7]) (xs:=["_law_sign"]) (ys:=["_law_pen","_law_many"]) (caps:=[0,3]) (it:=.iR1 (.cons (.x 2) .nil)) (tt:=.tTr) (el:=.call 0 (.lend 1 (.ev (.x 2) .nil))) (ds:=DV.zP 0 m) (vs:=[.int (n:Nat)]) (p:=p) (i:=0) (E2:=[.e,.v (.int mx),qI m,qI n,.v (.int w),.w L,qI i,s7]) (E':=λa=>[.p a,.v (.int mx),qI m,qI n,.v (.int w),.w L,qI i,s7])
  Pen (λk o=>o.length=k/\∀d∈o,∃x:Nat,d=.int (x:Int)/\x<n) (i_R1 (j:=(m:Int)) (zB (zA rfl) zH) rfl ⟨by omega,by omega⟩) rfl rfl C ⟨rfl,λd h=>by cases h⟩ (λk d q p o C ⟨Q,X⟩=>by
   obtain⟨r,M,e,Z,r1,G⟩:=yG p C (n:Nat) (by omega) (by omega);refine⟨p,.inr ⟨.v (.int r),M,by dsimp[zBX,zAa,QF],jR (F:=zO) rfl rfl (zA rfl) e rfl,G,by simp[Q],λd t=>?_⟩⟩;rcases mem_append.mp t with t|t
   ·exact X d t
   ·rw[mem_singleton]at t
    exact⟨r.toNat,by rw[t];show D.int r=_;congr 1;omega,by omega⟩) (by rw[yU];dsimp[cap];omega) (λx a=>rfl)
 rw[yU]at K;obtain⟨l,rfl,el,hl⟩:=N_of W V;have H:dS zX (.sSet 7 (.cB .tuple (.cons (.comp 1 ["_law_sign"] ["_law_pen","_law_many"] [0,3] (.iR1 (.cons (.x 2) .nil)) (.n 0) .tTr (.call 0 (.lend 1 (.ev (.x 2) .nil)))) .nil))) [.p p,.v (.int mx),qI m,qI n,.v (.int w),.w L,qI i,s7]=.ok (.nx,[.p a,.v (.int mx),qI m,qI n,.v (.int w),.w L,qI i,.v (tN l)]):=yP (jY (zB O zH) rfl) (vM rfl S rfl);have u:l.length=m:=el.trans K;have fin:∀l:Ls Nat,dS zX (.sApp 5 (.x 7)) [.p a,.v (.int mx),qI m,qI n,.v (.int w),.w L,qI i,.v (tN l)]=.ok (.nx,[.p a,.v (.int mx),qI m,qI n,.v (.int w),.w (L++[tN l]),qI i,.v (tN l)]):=λl=>zDv rfl (zA rfl) rfl (by dsimp[cap];omega) rfl
 have v:1<=m:=by omega
 by_cases J:w=0
 ·subst J
  have B:vj (.t [.int 0]) (.int ((m-1:Nat):Int))=some (.v (.t (replicate (m-1) (.int 0)))):=zAr (.int 0) (m-1) (by omega);have Y:Bi.f .min [.int ((i+1:Nat):Int),.int ((n-1:Nat):Int)]=some (.v (.int ((min (i+1) (n-1):Nat):Int))):=by
   refine(min_two _ _).trans (congrArg (λz=>some (R.v (D.int z))) ?_);split<;>omega
  have y:Jt (.t [.int ((min (i+1) (n-1):Nat):Int)]) (.t (replicate (m-1) (.int 0)))=some (.v (tN (min (i+1) (n-1)::replicate (m-1) 0))):=by
   rw[we _ _ (by simp;omega)];simp[N,List.map_replicate]
  refine⟨a,min (i+1) (n-1)::replicate (m-1) 0,?_,g,by simp;omega,λx c=>?_⟩
  ·exact zL H (zL (yX (t_E (yD (zA rfl) x_c (eq_int _ _))) (zK (yP (yq (jI (zB (jY (zB (yq (zA rfl) x_c (zD8 i)) (zB (yq (zA rfl) x_c (Qq hn.1)) zH)) Y) zH) rfl yr) (yq (jI (zB x_c zH) rfl yr) (yq (zA rfl) x_c (Qq v)) B) y) rfl))) (zL (ye (t_E (yD (zA rfl) x_c (eq_int _ _))) yf) (zK (fin _))))
  ·rcases mem_cons.mp c with rfl|c
   ·omega
   ·have:=eq_of_mem_replicate c;omega
 ·by_cases I:w=1
  ·subst I
   have B:vj (.t [.int (((i+1)%n:Nat):Int)]) (.int ((m-1:Nat):Int))=some (.v (.t (replicate (m-1) (.int (((i+1)%n:Nat):Int))))):=zAr _ (m-1) (by omega);have y:Jt (.t (replicate (m-1) (.int (((i+1)%n:Nat):Int)))) (.t [.int (i:Nat)])=some (.v (tN (replicate (m-1) ((i+1)%n)++[i]))):=by
    rw[we _ _ (by simp;omega)];simp[N,List.map_replicate]
   refine⟨a,replicate (m-1) ((i+1)%n)++[i],?_,g,by simp;omega,λx c=>?_⟩
   ·exact zL H (zL (ye (t_E (yD (zA rfl) x_c (eq_int _ _))) yf) (zL (yX (t_E (yD (zA rfl) x_c (eq_int _ _))) (zK (yP (yq (yq (jI (zB (yq (yq (zA rfl) x_c (zD8 i)) (zA rfl) (mod_nat (i+1) n (by omega))) zH) rfl yr) (yq (zA rfl) x_c (Qq v)) B) (jI (zB (zA rfl) zH) rfl yr) y) rfl))) (zK (fin _))))
   ·rcases mem_append.mp c with c|c
    ·have:=eq_of_mem_replicate c
     rw[this];exact Nat.mod_lt _ (by omega)
    ·simp at c;omega
  ·refine⟨a,l,?_,g,u,hl⟩
   exact zL H (zL (ye (t_E (yD (zA rfl) x_c ((eq_int _ _).trans (by rw[decide_eq_false J])))) yf) (zL (ye (t_E (yD (zA rfl) x_c ((eq_int _ _).trans (by rw[decide_eq_false I])))) yf) (zK (fin _))))
def W1(ls:Ls (Ls Nat)):(T ls).length=ls.length:=by simp[T]
def YA(h:(DV.zP 0 n)[k]?=some d):d=.int (k:Nat)/\k<n:=by
 rw[zDz]at h;dsimp[N,getElem?_map]at h;exists hr,(List.range n)[k]?,h,x;obtain⟨a,h2⟩:=qG.mp hr;simp at a h2;subst h2;simp at h;exact⟨h.symm,a⟩
def JL(H:Pen p)(h1:1<=mx)(ab:mx<=12):∃m ls g y,zr [.p p,.v (.int mx)]=.ok (.v (mD ls g),[.p y,.e])/\Pen y/\Mac m ls g:=by
 obtain⟨I,p1,e1,ad,aa,O⟩:=yG p H 2 (by omega) (by omega);obtain⟨K,B,e2,ac,ae,v⟩:=yG p1 O mx (by omega) (by omega);obtain⟨w,p3,e3,_,_,S⟩:=yG B v 4 (by omega) (by omega);obtain⟨m,em,X⟩:∃m:Nat,2+I=(m:Int)/\(m=2\/m=3):=⟨(2+I).toNat,by omega,by omega⟩;obtain⟨n,en,hn⟩:∃n:Nat,1+K=(n:Int)/\(1<=n/\n<=12):=⟨(1+K).toNat,by omega,by omega⟩;have a1:Jt (.int 2) (.int I)=some (.v (.int (m:Nat))):=by dsimp[Jt,em]
 have a2:Jt (.int 1) (.int K)=some (.v (.int (n:Nat))):=by dsimp[Jt,en]
 obtain⟨E',f,W,ls,o,u,rfl,Q,z,V,h6,Z⟩:=y9 (tg:=gN 6) (body:=dB zX yn) (λk E=>∃p ls o u,E=[.p p,.v (.int mx),qI m,qI n,.v (.int w),.w (T ls),o,u]/\Pen p/\ls.length=k/\(∀l∈ls,l.length=m/\∀x∈l,x<n)/\yQ o=true/\yQ u=true) (DV.zP 0 n) 0 [.p p3,.v (.int mx),qI m,qI n,.v (.int w),.w [],.e,.e] ⟨p3,[],.e,.e,rfl,S,rfl,(λl h=>by cases h),rfl,rfl⟩
  (λi d q E z9=>by
   obtain⟨p,ls,o,u,hE,H,M,hl,h6,Z⟩:=z9;rw[zero_add]at M ⊢;obtain⟨rfl,hi⟩:=YA q;obtain⟨y,l,f,L,l1,l2⟩:=line_by (mx:=mx) H X hn hi w (T ls) (by rw[W1];omega) u Z;refine⟨_,_,?_,f,y,ls++[l],.v (.int (i:Nat)),.v (tN l),by simp[T],L,by simp[M],λx c=>?_,rfl,rfl⟩
   ·subst hE;cases o<;>first|rfl|(cases h6)
   ·rcases mem_append.mp c with c|c
    ·exact hl x c
    ·rw[mem_singleton]at c;subst c;exact⟨l1,l2⟩)
 rw[yU,zero_add]at z;obtain⟨rs,p5,cp,R,g,rfl,J,G⟩:=zD0 (fs:=zX) (E:=[.p W,.v (.int mx),qI m,qI n,.v (.int w),.v (.l (T ls)),o,u]) (xs:=["_law_stand"]) (ys:=["_law_pen"]) (caps:=[0]) (it:=.iR1 (.cons (.x 3) .nil)) (tt:=.tE (.cmp .eq (.call 0 (.lend 1 (.ev (.c (.int 3)) .nil))) (.c (.int 0)))) (el:=.x 0) (ds:=DV.zP 0 n) (vs:=[]) (p:=W) (i:=0) (E2:=[.e,.v (.int mx),qI m,qI n,.v (.int w),.v (.l (T ls)),o,u]) (E':=λy=>[.p y,.v (.int mx),qI m,qI n,.v (.int w),.v (.l (T ls)),o,u])
  Pen (λk C=>∃g:Ls Nat,C=N g/\zAN g/\∀x∈g,x<k) (i_R1 (j:=(n:Int)) (zB (zA rfl) zH) rfl ⟨by omega,by omega⟩) rfl rfl Q ⟨[],rfl,.nil,λx h=>by cases h⟩ (λk d q p C H ⟨g,Y,hr,c⟩=>by
   obtain⟨rfl,M⟩:=YA q;obtain⟨r,B,e,r0,I,v⟩:=yG p H 3 (by omega) (by omega);have t:dT zX (.tE (.cmp .eq (.call 0 (.lend 1 (.ev (.c (.int 3)) .nil))) (.c (.int 0)))) (.v (.int (k:Nat))::.p p::([]:Ls D).map DV.Slot.v)=.ok (decide (r=0),.v (.int (k:Nat))::.p B::([]:Ls D).map DV.Slot.v):=t_E (yD (jR (F:=zO) rfl rfl x_c e rfl) x_c (eq_int _ _));refine⟨B,?_⟩;cases hd:decide (r=0)with
   |false=>rw[hd]at t;exact .inl ⟨t,v,g,Y,hr,λx h=>lt_succ_of_lt (c x h)⟩
   |true =>
    rw[hd]at t;refine .inr ⟨.v (.int (k:Nat)),B,t,zA rfl,v,g++[k],by rw[Y,N_app];rfl,?_,λx h=>?_⟩
    ·exact List.pairwise_append.mpr ⟨hr,List.pairwise_singleton _ _,λa ha b hb=>by rw[mem_singleton]at hb;subst hb;exact c a ha⟩
    ·rcases mem_append.mp h with h|h
     ·exact lt_succ_of_lt (c x h)
     ·rw[mem_singleton]at h;subst h;exact Nat.lt_succ_self _) (by rw[yU];dsimp[cap];omega) (λx y=>rfl)
 rw[yU]at G;refine⟨m,ls,g,p5,?_,R,X,by omega,by rw[z];exact V,J,by rw[z];exact G⟩;refine yF (E1:=[.p p5,.v (.int mx),qI m,qI n,.v (.int w),.v (.l (T ls)),o,u]) ?_ rfl;refine zL (yP (yq x_c (jR (F:=zO) rfl rfl x_c e1 rfl) a1) rfl) ?_;refine zL (yP (yq x_c (jR (F:=zO) rfl rfl (zA rfl) e2 rfl) a2) rfl) ?_;refine zL (yP (jR (F:=zO) rfl rfl x_c e3 rfl) rfl) ?_;refine zL (yP (Yo zH rfl Y8) rfl) ?_;refine zL (uD (tg:=.n 6) (j:=(n:Int)) (zB (zA rfl) zH) rfl ⟨by omega,by omega⟩ f) ?_;exact zK (zt (jI (zB (jY (r:=.v (.t (T ls))) (zB (jy rfl rfl) zH) rfl) (zB (jY (r:=.v (tN g)) (zB cp zH) rfl) zH)) rfl jP))
def Wk(h:d∈j1 ds lo hi):d∈ds:=List.mem_of_mem_drop (List.mem_of_mem_take h)
def jt(ds:Ls D)(a c:Lx Int):(j1 ds a c).length<=ds.length:=by unfold j1;simp;omega
def N_fn:∀d∈N l,zHY d=false:=λd a=>by
 obtain⟨n,_,rfl⟩:=zBa a;rfl
def zD9:∀d∈N l,okD d:=λd a=>by
 obtain⟨n,_,rfl⟩:=zBa a;trivial
def T_mem{ls:Ls (Ls Nat)}(h:d∈T ls):∃l∈ls,d=tN l:=by
 obtain⟨l,a,h2⟩:=mem_map.mp h;exact⟨l,a,h2.symm⟩
def odds(n:Nat):Ls D:=[.int (n:Nat),.int (-1),.bl true,.non,.str "0",.t [.int 0],.int (10^30),.int 0]
def odds_ok(h:d∈odds n):okD d:=by
 dsimp[odds,mem_cons,mem_nil_iff,or_false]at h;rcases h with rfl|rfl|rfl|rfl|rfl|rfl|rfl|rfl
 all_goals first|trivial|exact⟨by simp[cap],λd a=>by rw[mem_singleton]at a;subst a;rfl⟩
def Wl(c:ds.length<=100000)(a:∀d∈ds,zHY d=false):okD (.t ds):=⟨by dsimp[cap];omega,a⟩
def wf(c:ds.length<=100000)(a:∀d∈ds,okD d):ok3 (.t ds):=⟨by dsimp[cap];omega,a⟩
def wB(g:ok3 a)(e:ok3 b):ok4 (.t [a,b]):=⟨by simp[cap],λd c=>by
 dsimp[mem_cons,mem_nil_iff,or_false]at c;rcases c with rfl|rfl
 ·exact g
 ·exact e⟩
def mul13(a:Ls D)(h:a.length<=12):vj (.t a) (.int 13)=some (.v (.t (replicate 13 a).flatten)):=by
 refine zDy ?_;dsimp[uI];rw[if_pos ⟨by decide,by decide,by show a.length*13<=1000000;omega⟩];rfl
def rep_mem(h:d∈(replicate k a).flatten):d∈a:=by
 obtain⟨l,c,h2⟩:=List.mem_flatten.mp h;rw[eq_of_mem_replicate c]at h2;exact h2
def zEA{ls:Ls (Ls Nat)}(M:Mac m ls g):∀d∈T ls,okD d:=λd a=>by
 obtain⟨l,hl,rfl⟩:=T_mem a;have:=(M.hl l hl).1;have:=M.hm;exact Wl (by rw[wA];omega) N_fn
def Mac.glen{ls:Ls (Ls Nat)}(M:Mac m ls g):g.length<=12:=by
 have:=zAR g 0 ls.length M.hr λj a=>⟨zero_le _,M.hg j a⟩
 have:=M.hn;omega
def zBc{ls:Ls (Ls Nat)}(M:Mac m ls g):ok4 (mD ls g):=by
 have:=M.hn;have:=M.glen;exact wB (wf (by rw[W1];omega) (zEA M)) (wf (by rw[wA];omega) zD9)
def ZB{ls:Ls (Ls Nat)}(M:Mac m ls g):mgB (mD ls g)=true:=by
 have a:=M.hn;have i:=M.hm;have h:stB (.t (T ls))=true:=by
  rw[uF (by rw[W1];omega) (by rw[W1];omega),all_eq_true];have k:tl ((T ls).getD 0 .non)=m:=by
   cases ls with
   |nil=>simp at a|cons l r=>have:=(M.hl l qE).1;show(N l).length=m;rw[wA,this]
  intro d p;obtain⟨l,hl,rfl⟩:=T_mem p;obtain⟨q,j⟩:=M.hl l hl;rw[k,W1];unfold lnB;dsimp;rw[wA,q,decide_eq_true (rfl:m=m)];have o:(decide (m=2)||decide (m=3))=true:=by dsimp[Bool.or_eq_true,decide_eq_true_eq];exact i
  have c:(N l).all (Ze 0 ((ls.length:Int)-1))=true:=by
   rw[all_eq_true];intro x e;obtain⟨n,a,rfl⟩:=zBa e;have:=j n a;dsimp[Ze,Bool.and_eq_true,decide_eq_true_eq];omega
  rw[o,c];rfl
 show(stB (.t (T ls))&&(awB _ (tN g)&&zD5 (N g)))=true
 rw[h,show zD5 (N g)=true from(uG g).mpr M.hr];have c:(N g).all (Ze 0 (((tl (.t (T ls)):Nat):Int)-1))=true:=by
  rw[all_eq_true];intro x e;obtain⟨n,a,rfl⟩:=zBa e;have:=M.hg n a;dsimp[Ze,tl,W1,Bool.and_eq_true,decide_eq_true_eq];omega
 show(true&&((N g).all _&&true))=true
 rw[c];rfl
def pick8(c:0<=r)(g:r<8):∃j:Nat,j<6/\ixD (.l [.int 0,.int 0,.int 0,.int 1,.int 2,.int 3,.int 4,.int 5]) (.int r)=some (.v (.int (j:Nat))):=by
 obtain⟨d,a,e⟩:=pick (ds:=[.int 0,.int 0,.int 0,.int 1,.int 2,.int 3,.int 4,.int 5]) c (by exists g);dsimp[mem_cons,mem_nil_iff,or_false]at a;rcases a with rfl|rfl|rfl|rfl|rfl|rfl|rfl|rfl
 ·exact⟨0,by omega,e⟩
 ·exact⟨0,by omega,e⟩
 ·exact⟨0,by omega,e⟩
 ·exact⟨1,by omega,e⟩
 ·exact⟨2,by omega,e⟩
 ·exact⟨3,by omega,e⟩
 ·exact⟨4,by omega,e⟩
 ·exact⟨5,by omega,e⟩
def nm_run 
  (K:zO [.p p,.v (.int S.length)]=.ok (.v (.int sp),[.p p1,.e])) (i0:ixD (.t S) (.int 0)=some (.v (.t L0)))
  (w:zO [.p p1,.v (.int L0.length)]=.ok (.v (.int at_),[.p p2,.e])) (M:zO [.p p2,.v (.int 8)]=.ok (.v (.int r3),[.p p3,.e])) (Y:ixD (.l (odds S.length)) (.int r3)=some (.v odd))
  (el:ixD (.t S) (.int sp)=some (.v (.t Lr))) (z:Jt (.t (j1 Lr none (some at_))) (.t [odd])=some (.v (.t (j1 Lr none (some at_)++[odd])))) (u:Jt (.t (j1 Lr none (some at_)++[odd])) (.t (j1 Lr (some (at_+1)) none))=some (.v (.t line)))
  (I:Jt (.t Lr) (.t [.int 0])=some (.v (.t (Lr++[.int 0])))) (J:zO [.p p3,.v (.int 8)]=.ok (.v (.int r4),[.p p4,.e])) (W:ixD (.l [.int 0,.int 0,.int 0,.int 1,.int 2,.int 3,.int 4,.int 5]) (.int r4)=some (.v (.int (j:Nat))))
  (ex:ixD (.l [.t line,.t (Lr++[.int 0]),.t (j1 Lr (some 1) none),.l Lr,.non,.t []]) (.int (j:Nat))=some (.v x)) (C:Jt (.t (j1 S none (some sp))) (.t [x])=some (.v (.t (j1 S none (some sp)++[x])))) (V:Jt (.t (j1 S none (some sp)++[x])) (.t (j1 S (some (sp+1)) none))=some (.v (.t bent)))
  (B:Jt (.t G) (.t [odd])=some (.v (.t (G++[odd])))) (O:Jt (.t G.reverse) (.t G)=some (.v (.t (G.reverse++G)))) (L:vj (.t S) (.int 13)=some (.v (.t S13))) 
  (D1:Jt (.l [.t [.t bent,.t G],.t [.t bent,.t G],.t [.t bent,.t G],.t [.t S,.t (G++[odd])],.t [.t S,.t (G.reverse++G)],.t [.t S]]) (.l [.l [.t S,.t G],.t [.l S,.t G],.t [.t S,.l G],.t [.t [],.t []],.non,.int 0,.t [.t S13,.t G]])=some (.w ys))
  (X:zO [.p p4,.v (.int 13)]=.ok (.v (.int r5),[.p p5,.e])) (ey:ixD (.l ys) (.int r5)=some (.v y)):yI [.p p,.v (.t [.t S,.t G])]=.ok (.v y,[.p p5,.e]):=by
 have h:∀(ds:Ls D) (n t:Lx Int),slD (.t ds) n t=some (.v (.t (j1 ds n t))):=λ_ _ _=>rfl
 have g:Jt (.int sp) (.int 1)=some (.v (.int (sp+1))):=rfl;have i:Jt (.int at_) (.int 1)=some (.v (.int (at_+1))):=rfl;refine yF (E1:=[.p p5,.v (.t [.t S,.t G]),.v (.t S),.v (.t G),.v (.int S.length),.v (.int sp),.v (.int at_),.v odd,.v (.t line),.v (.l [.t line,.t (Lr++[.int 0]),.t (j1 Lr (some 1) none),.l Lr,.non,.t []]),.v (.t bent),.v (.l ys)]) ?_ rfl;refine zL (E1:=[.p p,.v (.t [.t S,.t G]),.v (.t S),.v (.t G),.e,.e,.e,.e,.e,.e,.e,.e]) (zF5 (zA rfl) rfl) ?_;refine zL (E1:=[.p p,.v (.t [.t S,.t G]),.v (.t S),.v (.t G),.v (.int S.length),.e,.e,.e,.e,.e,.e,.e]) (yP (jY (zB (zA rfl) zH) rfl) rfl) ?_;refine zL (E1:=[.p p1,.v (.t [.t S,.t G]),.v (.t S),.v (.t G),.v (.int S.length),.v (.int sp),.e,.e,.e,.e,.e,.e]) (yP (jR (F:=zO) rfl rfl (zA rfl) K rfl) rfl) ?_;refine zL (E1:=[.p p2,.v (.t [.t S,.t G]),.v (.t S),.v (.t G),.v (.int S.length),.v (.int sp),.v (.int at_),.e,.e,.e,.e,.e]) (yP (jR (F:=zO) rfl rfl (jY (zB (jX (zA rfl) x_c i0) zH) rfl) w rfl) rfl) ?_;refine zL (E1:=[.p p3,.v (.t [.t S,.t G]),.v (.t S),.v (.t G),.v (.int S.length),.v (.int sp),.v (.int at_),.v odd,.e,.e,.e,.e]) (yP (jX (Yo (ds:=odds S.length) (zB (zA rfl) (zB (x_neg x_c) (zB x_c (zB x_c (zB x_c (zB (jI (zB x_c zH) rfl yr) (zB (yq x_c x_c pow30) (zB x_c zH)))))))) rfl (by simp[odds,cap])) (jR (F:=zO) rfl rfl x_c M rfl) Y) rfl) ?_;refine zL (E1:=[.p p3,.v (.t [.t S,.t G]),.v (.t S),.v (.t G),.v (.int S.length),.v (.int sp),.v (.int at_),.v odd,.v (.t line),.e,.e,.e]) (yP (yq (yq (x_sl (jX (zA rfl) (zA rfl) el) o_N (o_S (zA rfl)) (h _ _ _)) (jI (zB (zA rfl) zH) rfl yr) z) (x_sl (jX (zA rfl) (zA rfl) el) (o_S (yq (zA rfl) x_c i)) o_N (h _ _ _)) u) rfl) ?_;refine zL (E1:=[.p p3,.v (.t [.t S,.t G]),.v (.t S),.v (.t G),.v (.int S.length),.v (.int sp),.v (.int at_),.v odd,.v (.t line),.w [.t line,.t (Lr++[.int 0]),.t (j1 Lr (some 1) none),.l Lr,.non,.t []],.e,.e]) (yP (Yo (ds:=[.t line,.t (Lr++[.int 0]),.t (j1 Lr (some 1) none),.l Lr,.non,.t []]) (zB (zA rfl) (zB (yq (jX (zA rfl) (zA rfl) el) (jI (zB x_c zH) rfl yr) I) (zB (x_sl (jX (zA rfl) (zA rfl) el) (o_S x_c) o_N (h _ _ _)) (zB (jY (r:=.w Lr) (zB (jX (zA rfl) (zA rfl) el) zH) rfl) (zB x_c (zB (jI zH rfl Y8) zH)))))) rfl (by simp[cap])) rfl) ?_;refine zL (E1:=[.p p4,.v (.t [.t S,.t G]),.v (.t S),.v (.t G),.v (.int S.length),.v (.int sp),.v (.int at_),.v odd,.v (.t line),.v (.l [.t line,.t (Lr++[.int 0]),.t (j1 Lr (some 1) none),.l Lr,.non,.t []]),.v (.t bent),.e]) (yP (yq (yq (x_sl (zA rfl) o_N (o_S (zA rfl)) (h _ _ _)) (jI (zB (jX (jy rfl rfl) (jX (Yo (zB x_c (zB x_c (zB x_c (zB x_c (zB x_c (zB x_c (zB x_c (zB x_c zH)))))))) rfl (by simp[cap])) (jR (F:=zO) rfl rfl x_c J rfl) W) ex) zH) rfl yr) C) (x_sl (zA rfl) (o_S (yq (zA rfl) x_c g)) o_N (h _ _ _)) V) rfl) ?_
 have c:∀{fs:Ls FI} {E E1 E2:za} {a b:Ex} {r1 r2:R},dE fs a E=.ok (r1,E1)->dE fs b E1=.ok (r2,E2)->dE fs (.t (.cons a (.cons b .nil))) E=.ok (.v (.t [r1.d,r2.d]),E2):=λl h2=>jI (zB l (zB h2 zH)) rfl jP
 have e:∀E:za,E[1]?=some (.v (.t [.t S,.t G]))->E[2]?=some (.v (.t S))->E[3]?=some (.v (.t G))->dE zf (.l (.cons (.cB .list (.cons (.x 1) .nil)) (.cons (.t (.cons (.cB .list (.cons (.x 2) .nil)) (.cons (.x 3) .nil))) (.cons (.t (.cons (.x 2) (.cons (.cB .list (.cons (.x 3) .nil)) .nil))) (.cons (.t (.cons (.t .nil) (.cons (.t .nil) .nil))) (.cons (.c .non) (.cons (.c (.int 0)) (.cons (.t (.cons (.bin .mul (.x 2) (.c (.int 13))) (.cons (.x 3) .nil))) .nil)))))))) E=.ok (.w [.l [.t S,.t G],.t [.l S,.t G],.t [.t S,.l G],.t [.t [],.t []],.non,.int 0,.t [.t S13,.t G]],E):=λE l h2 k=>by
  have Z:dE zf (.cB .list (.cons (.x 1) .nil)) E=.ok (.w [.t S,.t G],E):=jY (zB (zA l) zH) rfl;have Q:dE zf (.cB .list (.cons (.x 2) .nil)) E=.ok (.w S,E):=jY (zB (zA h2) zH) rfl;have v:dE zf (.cB .list (.cons (.x 3) .nil)) E=.ok (.w G,E):=jY (zB (zA k) zH) rfl;have H:dE zf (.bin .mul (.x 2) (.c (.int 13))) E=.ok (.v (.t S13),E):=yq (o:=.mul) (r1:=.v (.t S)) (r2:=.v (.int 13)) (zA h2) x_c L;have q:dE zf (.t .nil) E=.ok (.v (.t []),E):=jI zH rfl Y8;exact Yo (zB Z (zB (c Q (zA k)) (zB (c (zA h2) v) (zB (c q q) (zB x_c (zB x_c (zB (c H (zA k)) zH))))))) rfl (by simp[cap])
 refine zL (E1:=[.p p4,.v (.t [.t S,.t G]),.v (.t S),.v (.t G),.v (.int S.length),.v (.int sp),.v (.int at_),.v odd,.v (.t line),.v (.l [.t line,.t (Lr++[.int 0]),.t (j1 Lr (some 1) none),.l Lr,.non,.t []]),.v (.t bent),.w [.t [.t bent,.t G],.t [.t bent,.t G],.t [.t bent,.t G],.t [.t S,.t (G++[odd])],.t [.t S,.t (G.reverse++G)],.t [.t S]]]) (yP (Yo (ds:=[.t [.t bent,.t G],.t [.t bent,.t G],.t [.t bent,.t G],.t [.t S,.t (G++[odd])],.t [.t S,.t (G.reverse++G)],.t [.t S]]) (zB (c (zA rfl) (zA rfl)) (zB (c (zA rfl) (zA rfl)) (zB (c (zA rfl) (zA rfl)) (zB (c (zA rfl) (yq (zA rfl) (jI (zB (zA rfl) zH) rfl yr) B)) (zB (c (zA rfl) (yq (x_stp (r':=.v (.t G.reverse)) (zA rfl) rfl) (zA rfl) O)) (zB (jI (zB (zA rfl) zH) rfl yr) zH)))))) rfl (by simp[cap])) rfl) ?_;refine zL (E1:=[.p p4,.v (.t [.t S,.t G]),.v (.t S),.v (.t G),.v (.int S.length),.v (.int sp),.v (.int at_),.v odd,.v (.t line),.v (.l [.t line,.t (Lr++[.int 0]),.t (j1 Lr (some 1) none),.l Lr,.non,.t []]),.v (.t bent),.w ys]) (yP (yq (jy rfl rfl) (e _ rfl rfl rfl) D1) rfl) ?_;exact zK (zt (jX (jy rfl rfl) (jR (F:=zO) rfl rfl x_c X rfl) ey))
def Gh{ls:Ls (Ls Nat)}(M:Mac m ls g)(hp:Pen p):∃x S,yI [.p p,.v (mD ls g)]=.ok (.v x,[.p S,.e])/\Pen S/\ok4 x:=by
 have Z:=M.hn;have hm:=M.hm;have hg:=M.glen;have ad:=W1 ls;obtain⟨K,u⟩:∃l,(T ls)[0]?=some (tN l)/\l∈ls:=by
  cases ls with
  |nil=>simp at Z|cons l r=>exact⟨l,rfl,qE⟩
 have V:=(M.hl K u.2).1;obtain⟨i,p1,e1,ae,aa,H⟩:=yG p hp ((T ls).length:Nat) (by omega) (by omega);obtain⟨h,p2,e2,ab,af,O⟩:=yG p1 H ((N K).length:Nat) (by rw[wA];omega) (by rw[wA];omega);obtain⟨r3,p3,e3,G,z,L⟩:=yG p2 O 8 (by omega) (by omega);obtain⟨r4,Y,e4,E,D,I⟩:=yG p3 L 8 (by omega) (by omega);obtain⟨r5,p5,e5,C,B,J⟩:=yG Y I 13 (by omega) (by omega);obtain⟨l,hl,el⟩:∃l∈ls,ixD (.t (T ls)) (.int i)=some (.v (tN l)):=by
  have w:i.toNat<ls.length:=by omega
  refine⟨ls[i.toNat],getElem_mem w,?_⟩;have:(T ls)[i.toNat]?=some (tN ls[i.toNat]):=by simp[T,w]
  have:=Zd this;rw[show((i.toNat:Nat):Int)=i by omega]at this;exact congrArg (Option.map R.v) this
 have ac:=(M.hl l hl).1;have i0:ixD (.t (T ls)) (.int 0)=some (.v (tN K)):=congrArg (Option.map R.v) (Zd u.1);obtain⟨n,ho,eo⟩:=pick (ds:=odds (T ls).length) G (by simpa[odds]using z);obtain⟨j,hj,ej⟩:=pick8 E D;have k:=odds_ok ho
 -- the line with a thing otherwise
 have A1:=we (j1 (N l) none (some h)) [n] (by have:=jt (N l) none (some h);rw[wA]at this;simp;omega);have A2:=we (j1 (N l) none (some h)++[n]) (j1 (N l) (some (h+1)) none) (by
  have:=jt (N l) none (some h);have:=jt (N l) (some (h+1)) none;rw[wA]at *;simp;omega)
 generalize o:j1 (N l) none (some h)++[n]++j1 (N l) (some (h+1)) none=line at A2;have Qp:okD (.t line):=by
  have a:=jt (N l) none (some h);have b:=jt (N l) (some (h+1)) none;rw[wA]at a b;refine Wl (by rw[<- o];simp;omega) λd c=>?_
  rw[<- o]at c;rcases mem_append.mp c with c|c
  ·rcases mem_append.mp c with c|c
   ·exact N_fn d (Wk c)
   ·rw[mem_singleton]at c;subst c;exact zD3 k
  ·exact N_fn d (Wk c)
 have A3:=we (N l) [.int 0] (by rw[wA];simp;omega);obtain⟨x,W,ex⟩:=pick (ds:=[.t line,.t (N l++[.int 0]),.t (j1 (N l) (some 1) none),.l (N l),.non,.t []]) (r:=(j:Int)) (by omega) (by simp;omega);have t:okD x:=by
  dsimp[mem_cons,mem_nil_iff,or_false]at W;rcases W with rfl|rfl|rfl|rfl|rfl|rfl
  ·exact Qp
  ·refine Wl (by simp[wA];omega) λd c=>?_
   rcases mem_append.mp c with c|c
   ·exact N_fn d c
   ·rw[mem_singleton]at c;subst c;rfl
  ·exact Wl (by have:=jt (N l) (some 1) none;rw[wA]at this;omega) λd c=>N_fn d (Wk c)
  ·trivial
  ·trivial
  ·exact Wl (by simp) λd c=>by cases c
 have B1:=we (j1 (T ls) none (some i)) [x] (by have:=jt (T ls) none (some i);simp;omega);have B2:=we (j1 (T ls) none (some i)++[x]) (j1 (T ls) (some (i+1)) none) (by
  have:=jt (T ls) none (some i);have:=jt (T ls) (some (i+1)) none;simp;omega)
 generalize q:j1 (T ls) none (some i)++[x]++j1 (T ls) (some (i+1)) none=bent at B2;have S3:ok3 (.t (T ls)):=wf (by omega) (zEA M);have e:ok3 (.t bent):=by
  have a:=jt (T ls) none (some i);have b:=jt (T ls) (some (i+1)) none;refine wf (by rw[<- q];simp;omega) λd c=>?_
  rw[<- q]at c;rcases mem_append.mp c with c|c
  ·rcases mem_append.mp c with c|c
   ·exact zEA M d (Wk c)
   ·rw[mem_singleton]at c;subst c;exact t
  ·exact zEA M d (Wk c)
 have G3:ok3 (tN g):=wf (by rw[wA];omega) zD9;have C1:=we (N g) [n] (by rw[wA];simp;omega);have C2:=we (N g).reverse (N g) (by rw[List.length_reverse,wA];omega);have C3:=mul13 (T ls) (by omega);have D1:=zDw [.t [.t bent,tN g],.t [.t bent,tN g],.t [.t bent,tN g],.t [.t (T ls),.t (N g++[n])],.t [.t (T ls),.t ((N g).reverse++N g)],.t [.t (T ls)]] [.l [.t (T ls),tN g],.t [.l (T ls),tN g],.t [.t (T ls),.l (N g)],.t [.t [],.t []],.non,.int 0,.t [.t (replicate 13 (T ls)).flatten,tN g]] (by simp);obtain⟨y,X,ey⟩:=pick (ds:=[.t [.t bent,tN g],.t [.t bent,tN g],.t [.t bent,tN g],.t [.t (T ls),.t (N g++[n])],.t [.t (T ls),.t ((N g).reverse++N g)],.t [.t (T ls)]]++[.l [.t (T ls),tN g],.t [.l (T ls),tN g],.t [.t (T ls),.l (N g)],.t [.t [],.t []],.non,.int 0,.t [.t (replicate 13 (T ls)).flatten,tN g]]) C (by exists B);have v:ok4 y:=by
  have Q:ok3 (.t []):=wf (by simp) λd c=>by cases c
  dsimp[List.cons_append,nil_append,mem_cons,mem_nil_iff,or_false]at X;rcases X with rfl|rfl|rfl|rfl|rfl|rfl|rfl|rfl|rfl|rfl|rfl|rfl|rfl
  ·exact wB e G3
  ·exact wB e G3
  ·exact wB e G3
  ·refine wB S3 (wf (by simp[wA];omega) λd c=>?_)
   rcases mem_append.mp c with c|c
   ·exact zD9 d c
   ·rw[mem_singleton]at c;subst c;exact k
  ·refine wB S3 (wf (by simp[wA];omega) λd c=>?_)
   rcases mem_append.mp c with c|c
   ·exact zD9 d (List.mem_reverse.mp c)
   ·exact zD9 d c
  ·exact⟨by simp[cap],λd c=>by rw[mem_singleton]at c;subst c;exact S3⟩
  ·trivial
  ·exact wB trivial G3
  ·exact wB S3 trivial
  ·exact wB Q Q
  ·trivial
  ·trivial
  ·exact wB (wf (by simp;omega) λd c=>zEA M d (rep_mem c)) G3
 refine⟨y,p5,?_,J,v⟩;exact nm_run e1 i0 e2 e3 eo el A1 A2 A3 e4 ej ex B1 B2 C1 C2 C3 D1 e5 ey
end My
namespace My
open PySem L2 DV SM BF
def pD(p:P):D:=.t [.int (p.1:Nat),.int (p.2:Nat)]
def kP(p:P):Ls KN:=[some (p.1:Int),some (p.2:Int)]
def Zg(p:P):GH (pD p)=some (kP p):=rfl
def zHa(h:kP p=kP q):p=q:=by
 dsimp[kP,List.cons.injEq,Option.some.injEq,Int.natCast_inj,and_true]at h;exact Prod.ext h.1 h.2
def zAx{acc:Ls P}{p:P}:kP p∈acc.map kP↔p∈acc:=by
 constructor
 ·intro h
  obtain⟨q,a,e⟩:=mem_map.mp h;rw[<- zHa e];exact a
 ·exact λh=>List.mem_map_of_mem h
def ix_at(h:ds[k]?=some d):ixD (.t ds) (.int (k:Nat))=some (.v d):=by rw[ixD_tup,Zd h];rfl
def zHb{ls:Ls (Ls Nat)}(h:ls[k]?=some l):ixD (.t (T ls)) (.int (k:Nat))=some (.v (tN l)):=ix_at (by simp[T,h])
def N_at(h:l[k]?=some x):ixD (tN l) (.int (k:Nat))=some (.v (.int (x:Nat))):=ix_at (N_get h)
def p_at0(p:P):ixD (pD p) (.int 0)=some (.v (.int (p.1:Nat))):=rfl
def p_at1(p:P):ixD (pD p) (.int 1)=some (.v (.int (p.2:Nat))):=rfl
def st(ls ls':Ls (Ls Nat))(p:P):Ls P:=List.zip (ls.getD p.1 []) (ls'.getD p.2 [])
abbrev O4:Ls DV.Slot:=[.e,.e,.e,.e]
section
variable{m m':Nat}{ls ls':Ls (Ls Nat)}{g g':Ls Nat}
def Mac.row(M:Mac m ls g)(h:k<ls.length):ls[k]?=some (ls.getD k [])/\(ls.getD k []).length=m/\∀x∈ls.getD k [],x<ls.length:=by
 have e:ls.getD k []=ls[k]:=by simp[getD,h]
 rw[e];exact⟨getElem?_eq_getElem h,M.hl _ (getElem_mem h)⟩
def st_in(M:Mac m ls g)(e:Mac m ls' g'):∀p:P,p.1<ls.length/\p.2<ls'.length->∀q∈st ls ls' p,q.1<ls.length/\q.2<ls'.length:=λp a q c=>by
 have:=of_mem_zip c;exact⟨(M.row a.1).2.2 _ this.1,(e.row a.2).2.2 _ this.2⟩
def zAy(M:Mac m ls g)(c:Mac m ls' g')(a:p.1<ls.length/\p.2<ls'.length):(st ls ls' p).length=m:=by
 unfold st;rw[length_zip,(M.row a.1).2.1,(c.row a.2).2.1];exact Nat.min_self m
def ZC(M:Mac m ls g):zk [.v (mD ls g)]=.ok (.v (.int (m:Nat)),[.e]):=by
 have r:=M.row M.hn.1;have l:zEO [tN (ls.getD 0 [])]=some (.v (.int (m:Nat))):=by
  show some (R.v (D.int (((N (ls.getD 0 [])).length:Nat):Int)))=_
  rw[wA,r.2.1]
 exact yF (zK (zt (jY (zB (jX (jX (zA rfl) x_c (ix0 _ _)) x_c (zHb r.1)) zH) l))) rfl
def zAz(M:Mac m ls g)(i:Mac m ls' g')(a:p.1<ls.length/\p.2<ls'.length)(h:(st ls ls' p)[s]?=some q):yc [.v (mD ls g),.v (mD ls' g'),.v (pD p),qI s]=.ok (.v (pD q),O4):=by
 have r:=M.row a.1;have c:=i.row a.2;obtain⟨k,j⟩:=q;obtain⟨e,h2⟩:=List.getElem?_zip_eq_some.mp h;exact yF (zK (zt (jI (zB (jX (jX (jX (zA rfl) x_c (ix0 _ _)) (jX (zA rfl) x_c (p_at0 p)) (zHb r.1)) (zA rfl) (N_at e)) (zB (jX (jX (jX (zA rfl) x_c (ix0 _ _)) (jX (zA rfl) x_c (p_at1 p)) (zHb c.1)) (zA rfl) (N_at h2)) zH)) rfl jP))) rfl
end
theorem wh_up(I:Nat->za->Prop)(J:za->Prop)(K:Nat)(g:∀k E,k<K->I k E->∃E1 E2,c E=.ok (true,E1)/\b E1=.ok (.nx,E2)/\I (k+1) E2)(e:∀E,I K E->∃E1,c E=.ok (false,E1)/\J E1) :
  ∀n k E,k<=K->K-k<n->I k E->∃E',whN c b n E=.ok (.nx,E')/\J E'
 |0,_,_,_,h,_=>absurd h (not_lt_zero _)
 |n+1,k,E,r,q,i=>by
  rcases lt_or_ge k K with h|h
  ·obtain⟨E1,E2,a,l,p⟩:=g k E h i
   obtain⟨E',o,j⟩:=wh_up I J K g e n (k+1) E2 h (by omega) p;exact⟨E',by dsimp[whN,a,l,o],j⟩
  ·have:k=K:=by omega
   subst this;obtain⟨E1,a,j⟩:=e E i;exact⟨E1,by dsimp[whN,a],j⟩
def zGK(p:Nat->Prop)(n:Nat)(h:p n):∃k,k<=n/\p k/\∀j,j<k->¬p j:=by
 induction n using Nat.strongRecOn with
 |ind n e =>
  by_cases q:∃k,k<n/\p k
  ·obtain⟨k,o,r⟩:=q
   obtain⟨l,a,b,c⟩:=e k o r;exact⟨l,by omega,b,c⟩
  ·exact⟨n,le_refl _,h,λj g i=>q ⟨j,g,i⟩⟩
def zGL(h:a.length+b.length<=1000):Jt (.t a) (.t b)=some (.v (.t (a++b))):=by
 dsimp[Jt];exact if_pos (by dsimp[cap];omega)
def Vs(n:Nat)(vs:Ls D):Prop:=vs.length=n/\∀v∈vs,∃t:Ls D,v=.t t/\t.length<n
def Vs.up(h:Vs n vs)(a:t.length<=n):Vs (n+1) (vs++[.t t]) :=
 ⟨by simp[h.1],λv hv=>by
  rcases mem_append.mp hv with hv|hv
  ·obtain⟨t,e,l⟩:=h.2 v hv;exact⟨t,e,by omega⟩
  ·rw[mem_singleton]at hv;subst hv;exact⟨t,rfl,by omega⟩⟩
section
variable{m:Nat}{ls ls':Ls (Ls Nat)}{g g':Ls Nat}
abbrev AA(ls ls':Ls (Ls Nat))(k:Nat):Ls P:=A (st ls ls') k
def zA0(M:Mac m ls g)(a:Mac m ls' g')(k:Nat):(AA ls ls' k).length<=144 :=
 le_trans (A_len M.hn.1 a.hn.1 (st_in M a) k) (le_trans (Nat.mul_le_mul M.hn.2 a.hn.2) (le_refl _))
def AA_in(M:Mac m ls g)(a:Mac m ls' g')(k:Nat):∀p∈AA ls ls' k,p.1<ls.length/\p.2<ls'.length:=zD2 (R:=λp:P=>p.1<ls.length/\p.2<ls'.length) ⟨M.hn.1,a.hn.1⟩ (st_in M a) k
def uH(h:n<=1000):n<cap:=by dsimp[cap];omega
def met_one(M:Mac m ls g)(z:Mac m ls' g')(x:p.1<ls.length/\p.2<ls'.length)(o:p∈acc)(y:(st ls ls' p)[s]?=some q)(C:acc.length<=200)(k:Vs acc.length vs)(w:yQ s7=true) :
  ∃vs',dB zp wW [.v (mD ls g),.v (mD ls' g'),.m (acc.map kP) vs,.w (acc.map pD),.v a,.v (pD p),qI s,s7]=.ok (.nx,[.v (mD ls g),.v (mD ls' g'),.m ((add acc q).map kP) vs',.w ((add acc q).map pD),.v a,.v (pD p),qI s,.v (pD q)])/\Vs (add acc q).length vs':=by
 have c:=zAz M z x y;have v:(acc.map kP).length=vs.length:=by rw[k.1];simp
 have r:dS zp (.sSet 7 (.call 0 (.ev (.x 0) (.ev (.x 1) (.ev (.x 5) (.ev (.x 6) .nil)))))) [.v (mD ls g),.v (mD ls' g'),.m (acc.map kP) vs,.w (acc.map pD),.v a,.v (pD p),qI s,s7]=.ok (.nx,[.v (mD ls g),.v (mD ls' g'),.m (acc.map kP) vs,.w (acc.map pD),.v a,.v (pD p),qI s,.v (pD q)]) :=
  yP (zDu (F:=yc) rfl (zA rfl) (zA rfl) (zA rfl) (zA rfl) c) (by cases s7<;>first|rfl|(cases w))
 by_cases j:q∈acc
 ·have e:add acc q=acc:=if_pos j
  rw[e];obtain⟨d,l,_⟩:=Qm v (zAx.mpr j);have t:=zHW (fs:=zp) (E:=[.v (mD ls g),.v (mD ls' g'),.m (acc.map kP) vs,.w (acc.map pD),.v a,.v (pD p),qI s,.v (pD q)]) (i:=2) (a:=.x 7) rfl (zA rfl) (Zg q);rw[l]at t;exact⟨vs,zL r (zK (ye (t_E t) yf)),k⟩
 ·have e:add acc q=acc++[q]:=if_neg j
  rw[e];obtain⟨d,l,B⟩:=Qm v (zAx.mpr o);obtain⟨n,rfl,lt⟩:=k.2 d B;have u:YD (acc.map kP) vs (kP q)=none:=Ql λh=>j (zAx.mp h)
  have t:=zHW (fs:=zp) (E:=[.v (mD ls g),.v (mD ls' g'),.m (acc.map kP) vs,.w (acc.map pD),.v a,.v (pD p),qI s,.v (pD q)]) (i:=2) (a:=.x 7) rfl (zA rfl) (Zg q);rw[u]at t;have ev:dE zp (.bin .add (.dgO 2 (.x 5)) (.t (.cons (.x 6) .nil))) [.v (mD ls g),.v (mD ls' g'),.m (acc.map kP) vs,.w (acc.map pD),.v a,.v (pD p),qI s,.v (pD q)]=.ok (.v (.t (n++[.int (s:Nat)])),[.v (mD ls g),.v (mD ls' g'),.m (acc.map kP) vs,.w (acc.map pD),.v a,.v (pD p),qI s,.v (pD q)]) :=
   yq (x_dgO rfl (zA rfl) (Zg p) l) (jI (ds:=[.int (s:Nat)]) (zB (zA rfl) zH) rfl yr) (zGL (a:=n) (b:=[.int (s:Nat)]) (by simp;omega))
  refine⟨vs++[.t (n++[.int (s:Nat)])],zL r (zK (yX (t_E t) (zL (s_dput rfl ev (zA rfl) (Zg q) (by simp;omega) u rfl) (zK (zDv rfl (zA rfl) rfl (by rw[length_map];exact uH (by omega)) ?_))))),?_⟩
  ·simp
   exact⟨rfl,rfl⟩
  ·rw[length_append]
   exact k.up (by simp;omega)
end
section
variable{m:Nat}{ls ls':Ls (Ls Nat)}{g g':Ls Nat}
def s_aug(h:E[i]?=some (.v (.int x)))(g:dE fs a E=.ok (.v (.int y),E))(c:o.aug x y=some z)(e:E.set i (.v (.int z))=E1):dS fs (.sAug i o a) E=.ok (.nx,E1):=by
 subst e;dsimp[rS_sAug,DV.sAug,h,g,R.d,c,if_true]
def zA1(h:E[i]?=some (.w ds)):dE fs (.lenO i) E=.ok (.v (.int ds.length),E):=by dsimp[rE_lenO,zBJ,h]
def zHc(h:E[i]?=some (.w ds))(c:dE fs b E=.ok (.v (.int k),E))(a:atI ds k=some d):dE fs (.ixO i b) E=.ok (.v d,E):=by
 dsimp[zDX,zGt,h,c,wO,ixS,a];rfl
def Gi{l acc:Ls P}{i:Nat}{q:P}(h:l[i]?=some q):(l.take (i+1)).foldl add acc=add ((l.take i).foldl add acc) q:=by
 rw[take_add_one,h];simp[List.foldl_append]
def zGM(M:Mac m ls g)(v:Mac m ls' g'){k:Nat}{p:P}{vs:Ls D}{w s6 s7:DV.Slot}(z:(AA ls ls' k)[k]?=some p)(O:Vs (AA ls ls' k).length vs)(L:yQ w=true)(K:yQ s6=true)(J:yQ s7=true) :
  ∃c n l,dB zp wX [.v (mD ls g),.v (mD ls' g'),.m ((AA ls ls' k).map kP) vs,.w ((AA ls ls' k).map pD),qI k,w,s6,s7]=.ok (.nx,[.v (mD ls g),.v (mD ls' g'),.m ((AA ls ls' (k+1)).map kP) c,.w ((AA ls ls' (k+1)).map pD),qI (k+1),.v (pD p),n,l])/\Vs (AA ls ls' (k+1)).length c/\yQ n=true/\yQ l=true:=by
 have t:=mem_of_getElem? z;have I:=AA_in M v k p t;have Q:=zAy M v I;have e:AA ls ls' (k+1)=grow (st ls ls') (AA ls ls' k) p:=vO z;have B:∀i,((st ls ls' p).take i).foldl add (AA ls ls' k) <+: AA ls ls' (k+1):=λi=>by
  rw[e];unfold grow
  conv=>rhs;rw[<- take_append_drop i (st ls ls' p)]
  rw[List.foldl_append];exact JU _ _
 obtain⟨E',f,c,n,l,rfl,h,o,r⟩:=y9 (tg:=gN 6) (body:=dB zp wW) (λi E=>∃c n l,E=[.v (mD ls g),.v (mD ls' g'),.m ((((st ls ls' p).take i).foldl add (AA ls ls' k)).map kP) c,.w ((((st ls ls' p).take i).foldl add (AA ls ls' k)).map pD),qI k,.v (pD p),n,l]/\Vs (((st ls ls' p).take i).foldl add (AA ls ls' k)).length c/\yQ n=true/\yQ l=true) (DV.zP 0 m) 0 [.v (mD ls g),.v (mD ls' g'),.m ((AA ls ls' k).map kP) vs,.w ((AA ls ls' k).map pD),qI k,.v (pD p),s6,s7] ⟨vs,s6,s7,rfl,O,K,J⟩
  (λi d q E z9=>by
   obtain⟨c,n,l,G,h,o,r⟩:=z9;rw[zero_add]at G h ⊢;obtain⟨rfl,R⟩:=YA q;obtain⟨b,H⟩:∃b,(st ls ls' p)[i]?=some b:=⟨_,getElem?_eq_getElem (by omega)⟩;have hl:(((st ls ls' p).take i).foldl add (AA ls ls' k)).length<=144:=le_trans (B i).length_le (zA0 M v (k+1));obtain⟨C,f,u⟩:=met_one M v (a:=.int (k:Nat)) (s7:=l) I ((JU _ _).subset t) H (by omega) h r;rw[<- Gi H]at f u;refine⟨_,_,?_,f,C,_,_,rfl,u,rfl,rfl⟩;subst G;cases n<;>first|rfl|(cases o))
 rw[zero_add,yU,take_of_length_le (by omega),<- grow,<- e]at f;rw[zero_add,yU,take_of_length_le (by omega),<- grow,<- e]at h;refine⟨c,n,l,?_,h,o,r⟩;refine zL (yP (zHc rfl (zA rfl) (Zd (d:=pD p) (by simp[z]))) (by cases w<;>first|rfl|(cases L))) (zL (uD (tg:=.n 6) (j:=(m:Int)) (zB (z9 (F:=zk) rfl (zA rfl) (ZC M)) zH) rfl (by rcases M.hm with rfl|rfl<;>decide) f) (zK (s_aug (x:=(k:Int)) (y:=1) rfl x_c rfl rfl)))
abbrev fin(ls ls':Ls (Ls Nat)):Ls P:=AA ls ls' 144
def fin_at(M:Mac m ls g)(a:Mac m ls' g')(h:(AA ls ls' k).length<=k)(c:k<=144):AA ls ls' k=fin ls ls':=by
 have:=zGG h (144-k);rw[show k+(144-k)=144 by omega]at this;exact this.symm
def e_met(M:Mac m ls g)(r:Mac m ls' g'):∃a,jq [.v (mD ls g),.v (mD ls' g')]=.ok (.m ((fin ls ls').map kP) a,[.e,.e]):=by
 obtain⟨K,G,e,B⟩:=zGK (λk=>(AA ls ls' k).length<=k) 144 (zA0 M r 144);have z:=fin_at M r e G;obtain⟨E',w,a,h,i,j,rfl⟩:=wh_up (c:=dT zp (.tE (.cmp .lt (.x 4) (.lenO 3)))) (b:=dB zp wX) (λk E=>∃a h i j,E=[.v (mD ls g),.v (mD ls' g'),.m ((AA ls ls' k).map kP) a,.w ((AA ls ls' k).map pD),qI k,h,i,j]/\Vs (AA ls ls' k).length a/\yQ h=true/\yQ i=true/\yQ j=true)
  (λE=>∃a h i j,E=[.v (mD ls g),.v (mD ls' g'),.m ((fin ls ls').map kP) a,.w ((fin ls ls').map pD),qI K,h,i,j]) K
  (λk E C z9=>by
   obtain⟨a,h,i,j,p,hv,h5,x,u⟩:=z9;subst p;have q:k<(AA ls ls' k).length:=Nat.lt_of_not_le (B k C);obtain⟨o,D,y,f,t,l,n⟩:=zGM M r (getElem?_eq_getElem q) hv h5 x u;refine⟨_,_,t_E (yD (zA rfl) (zA1 rfl) ?_),f,o,_,D,y,rfl,t,rfl,l,n⟩;show ltD (.int (k:Nat)) (.int _)=_;rw[Wj,decide_eq_true (by simp;omega)])
  (λE z9=>by
   obtain⟨a,h,i,j,p,hv,h5,x,u⟩:=z9;subst p;refine⟨_,t_E (yD (zA rfl) (zA1 rfl) ?_),a,h,i,j,by rw[z]⟩;show ltD (.int (K:Nat)) (.int _)=_;rw[Wj,decide_eq_false (by simp;omega)])
  1000000 0 [.v (mD ls g),.v (mD ls' g'),.m [kP (0,0)] [.t []],.w [pD (0,0)],.v (.int 0),.e,.e,.e] (zero_le _) (by omega) ⟨[.t []],.e,.e,.e,rfl,⟨rfl,λv hv=>by rw[mem_singleton]at hv;subst hv;exact⟨[],rfl,Nat.zero_lt_one⟩⟩,rfl,rfl,rfl⟩
 refine⟨a,yF (zL (yP (x_disp (jI (ds:=[.int 0,.int 0]) (zB x_c (zB x_c zH)) rfl jP) (jI (ds:=[]) zH rfl Y8) (Zg (0,0))) rfl) (zL (yP (Yo (ds:=[pD (0,0)]) (zB (jI (ds:=[.int 0,.int 0]) (zB x_c (zB x_c zH)) rfl jP) zH) rfl yr) rfl) (zL (yP x_c rfl) (zL (s_while w) (zK (zt (x_movD rfl rfl))))))) rfl⟩
end
theorem Gj(I:Nat->za->Acc->Prop):∀(g:Ls D) (k:Nat) (E:za) (c:Acc),I k E c ->
  (∀i d,g[i]?=some d->∀E c,I (k+i) E c->∃E1 E2 E3 a,tg d E=.ok E1/\tt E1=.ok (true,E2)/\ma E2 c=.ok (a,E3)/\I (k+i+1) E3 a) ->
  ∃E' a,zFs tg tt ma g E c=.ok (a,E')/\I (k+g.length) E' a
 | [],k,E,c,h,step=>⟨E,c,rfl,h⟩
 |d::g,k,E,c,h,step=>by
  obtain⟨E1,E2,E3,a,p,h2,o,h4⟩:=step 0 d rfl E c h;obtain⟨E',j,q,l⟩:=Gj I g (k+1) E3 a h4 λi n e E c h=>by
   have:=step (i+1) n (by exists e) E c (by rw[show k+(i+1)=k+1+i by omega];exact h);rw[show k+(i+1)+1=k+1+i+1 by omega]at this;exact this
  exact⟨E',j,by dsimp[zFs,JV,p,h2,o,q],by rw[length_cons,show k+(g.length+1)=k+1+g.length by omega];exact l⟩
def zGN(a:dI fs it E=.ok (ds,E1))(h:zFs tg.m (dT fs tt) (maD (dE fs ka) (dE fs va)) ds [.e,.e] ([],[])=.ok (res,Eb)):dE fs (.dcomp 2 xs ys [] it tg tt ka va) E=.ok (.m res.1 res.2,E1):=by
 dsimp[zFv];refine QZ ?_;have e:(zo (replicate 2 DV.Slot.e++[]) Eb).drop 2=[]:=by
  match Eb with
  | []=>rfl| [_]=>rfl|_::_::_=>rfl
 have c:zFs tg.m (dT fs tt) (maD (dE fs ka) (dE fs va)) ds (replicate 2 .e++[]) ([],[])=.ok (res,Eb):=h;dsimp[zAV,YS,a,JW,zJ,c,e,zN]
theorem zEB:∀(a:Ls D) (n i:Nat) {d:D},(QM n a)[i]?=some d->∃e,a[i]?=some e/\d=.t [.int ((n+i:Nat):Int),e]
 | [],_,_,_,h=>by simp[QM]at h|e::a,n,0,d,h=>by simp[QM]at h;exact⟨e,rfl,h.symm⟩
 |e::a,n,i+1,d,h=>by
  obtain⟨c,g,h2⟩:=zEB a (n+1) i h;exact⟨c,by simpa using g,by rw[h2,show n+1+i=n+(i+1)by omega]⟩
def zHd(F:Ls P)(e:¬p=q):(p::F).idxOf q=F.idxOf q+1:=by
 rw[List.idxOf_cons];have:(p==q)=false:=by rw[beq_eq_false_iff_ne];exact e
 rw[this];rfl
theorem gV_at:∀(F:Ls P) (l:Ls Nat) {q:P},F.length=l.length->q∈F->YD (F.map kP) (N l) (kP q)=some (.int ((l.getD (F.idxOf q) 0:Nat):Int))
 | [],_,_,_,h=>by cases h|p::F,[],_,hl,_=>by cases hl
 |p::F,x::l,q,hl,h=>by
  dsimp[map_cons,N,YD];by_cases e:p=q
  ·subst e;rw[if_pos rfl];simp
  ·rw[if_neg λk=>e (zHa k)]
   have a:q∈F:=by
    rcases mem_cons.mp h with h|h
    ·exact absurd h.symm e
    ·exact h
   have c:=gV_at F l (by exists hl) a;rw[show List.map (λn:Nat=>D.int (n:Int)) l=N l from rfl,c,zHd F e];simp
def zHe{F:Ls P}{q:P}(h:q∈F):YD (F.map kP) (N (List.range F.length)) (kP q)=some (.int ((F.idxOf q:Nat):Int)):=by
 rw[gV_at F _ (by simp) h];have:F.idxOf q<F.length:=idxOf_lt_length_iff.mpr h;simp[getD,this]
def tI(p:P):Ls Int:=[(p.1:Int),(p.2:Int)]
def zEC(p:P):zBg (pD p)=some (tI p):=rfl
theorem Qr:∀F:Ls P,YY (F.map pD)=some (F.map tI)
 | []=>rfl|p::F=>by dsimp[map_cons,YY,zEC,Qr F]
def zHf(h:tI p=tI q):p=q:=by
 dsimp[tI,List.cons.injEq,Int.natCast_inj,and_true]at h;exact Prod.ext h.1 h.2
theorem fi_p:∀(F:Ls P) {q:P},q∈F->(F.map tI).findIdx? (·==tI q)=some (F.idxOf q)
 | [],_,h=>by cases h
 |p::F,q,h=>by
  rw[map_cons,List.findIdx?_cons];by_cases e:p=q
  ·subst e;simp
  ·have:(tI p==tI q)=false:=by
    rw[beq_eq_false_iff_ne];exact λk=>e (zHf k)
   rw[this,zHd F e];have a:q∈F:=by
    rcases mem_cons.mp h with h|h
    ·exact absurd h.symm e
    ·exact h
   rw[fi_p F a];rfl
def idx_p{F:Ls P}{q:P}(h:q∈F)(c:F.length<=1000):zHA (.l (F.map pD)) (pD q)=some (.v (.int ((F.idxOf q:Nat):Int))):=by
 have:F.idxOf q<F.length:=idxOf_lt_length_iff.mpr h;have a:idxD (.l (F.map pD)) (pD q)=none:=rfl;dsimp[zHA,a,idxT,zEC,Qr,fi_p F h];rw[if_pos (by omega)]
def nin_p(F:Ls P)(q:P):inG true (pD q) (.l (F.map pD))=some (.v (.bl (!decide (q∈F)))):=by
 have a:inF true (pD q) (.l (F.map pD))=none:=by
  dsimp[inF];rw[if_neg (λk=>by cases k.1)]
 have c:(F.map tI).contains (tI q)=decide (q∈F):=by
  rw[Bool.eq_iff_iff,contains_iff_mem,decide_eq_true_iff];constructor
  ·intro k
   obtain⟨p,g,e⟩:=mem_map.mp k;rw[<- zHf e];exact g
  ·exact λk=>List.mem_map_of_mem k
 dsimp[inG,a,inT,zEC,Qr,c,if_true]
def zED{F:Ls P}(h:F.Nodup){k:Nat}{p:P}(e:F[k]?=some p):F.idxOf p=k:=by
 obtain⟨a,rfl⟩:=qG.mp e;exact h.idxOf_getElem k a
def zEE{F:Ls P}(t:F.Nodup)(G:F.length<=1000){fs:Ls FI}{E E1:za}{xs ys:Ls Str}{it:_}(C:dI fs it E=.ok (QM 0 (F.map pD),E1)):dE fs (.dcomp 2 xs ys [] it (.t [0,1]) .tTr (.x 1) (.x 0)) E=.ok (.m (F.map kP) (N (List.range F.length)),E1):=by
 obtain⟨E',c,h,g,l,o,_,_,rfl⟩:=Gj (tg:=(Tg.t [0,1]).m) (tt:=dT fs .tTr) (ma:=maD (dE fs (.x 1)) (dE fs (.x 0))) (λk E c=>∃g l,E=[g,l]/\yQ g=true/\yQ l=true/\c=((F.take k).map kP,N (List.range k))) (QM 0 (F.map pD)) 0 [.e,.e] ([],[]) ⟨.e,.e,rfl,rfl,rfl,rfl⟩
  (λi d q E c ⟨g,l,o,v,D,r⟩=>by
   rw[zero_add]at r ⊢;obtain⟨e,n,rfl⟩:=zEB _ 0 i q;rw[getElem?_map]at n;exists hp,F[i]?,n,p;cases n;rw[zero_add];have nm:p∉F.take i:=λk=>by
    obtain⟨j,w,e⟩:=getElem_of_mem k;have z:j<i:=by simp at w;omega
    have x:F[j]?=some p:=by
     rw[<- e,List.getElem_take,getElem?_eq_getElem]
    have a:=zED t x;have b:=zED t hp;omega
   have B:YD ((F.take i).map kP) (N (List.range i)) (kP p)=none:=Ql λk=>nm (zAx.mp k)
   refine⟨[qI i,.v (pD p)],[qI i,.v (pD p)],[qI i,.v (pD p)],_,?_,by dsimp[zAa,QF],?_,_,_,rfl,rfl,rfl,rfl⟩
   ·subst o;cases g<;>first|(cases v;done)|(cases l<;>first|(cases D;done)|rfl)
   ·subst r
    have u:dE fs (.x 1) [qI i,.v (pD p)]=.ok (.v (pD p),[qI i,.v (pD p)]):=zA rfl;have y:dE fs (.x 0) [qI i,.v (pD p)]=.ok (.v (.int (i:Nat)),[qI i,.v (pD p)]):=zA rfl;dsimp[maD,u,y,R.d,Zg];rw[if_pos (by simp;omega)];dsimp[zEP,B,take_add_one,hp,Option.toList_some,map_append,map_cons,map_nil,range_succ,N_app];rfl)
 rw[zero_add,YX,length_map,take_of_length_le (le_refl _)]at h;exact zGN C h
abbrev O1:Ls DV.Slot:=[.e]
abbrev O2:Ls DV.Slot:=[.e,.e]
abbrev O3:Ls DV.Slot:=[.e,.e,.e]
def wJ(h:ok4 d)(a:mgB d=true):zQ [.v d]=.ok (.v .non,O1):=by
 have e:=Jp d h;rw[a]at e;exact f_nx (zK (ye (yz (t_E (z9 (F:=yi) rfl (zA rfl) e)) rfl) yf)) rfl
def Wm(h:ok4 d)(a:mgB d=false):zQ [.v d]=.y ⟨"NoMachine",true,[]⟩ O1:=by
 have e:=Jp d h;rw[a]at e;exact f_exc (zK (yX (yz (t_E (z9 (F:=yi) rfl (zA rfl) e)) rfl) (zK zDr)))
def in_N(neg:Bool)(a:Nat)(g:Ls Nat):inG neg (.int (a:Nat)) (tN g)=some (.v (.bl (if neg then !decide (a∈g)else decide (a∈g)))):=by
 have c:(N g).all flat=true:=by
  refine all_eq_true.mpr λd k=>?_
  obtain⟨n,_,rfl⟩:=zBa k;rfl
 have j:inV (flV (.int (a:Nat))) ((N g).map flV)=decide (a∈g):=by
  unfold inV N;rw[map_map,List.any_map,Bool.eq_iff_iff,List.any_eq_true,decide_eq_true_iff];constructor
  ·rintro ⟨n,i,e⟩
   have:n=a:=by have:=beq_iff_eq.mp e;omega
   subst this;exact i
  ·exact λh=>⟨a,h,show((a:Int)==(a:Int))=true from beq_self_eq_true _⟩
 have:inF neg (.int (a:Nat)) (tN g)=some (.v (.bl (if neg then !decide (a∈g)else decide (a∈g)))):=by
  show(if flat (.int (a:Nat))=true/\(N g).all flat=true then _ else _)=_
  rw[if_pos ⟨rfl,c⟩,j]
 dsimp[inG,this]
def cN(a:Nat)(g:Ls Nat):Nat:=if a∈g then 1 else 0
def gm(g g':Ls Nat)(p:P):Nat:=cN p.1 g+cN p.2 g'
def fG:D->Bool
 | .t [.t [_,g],x]=>(match inG false x g with|some (.v (.bl b))=>b|_=>false)
 |_=>false
section
variable{m:Nat}{ls ls':Ls (Ls Nat)}{g g':Ls Nat}
def fG_at(a:Nat):fG (.t [mD ls g,.int (a:Nat)])=decide (a∈g):=by
 show(match inG false (.int (a:Nat)) (tN g)with|some (.v (.bl b))=>b|_=>false)=_
 rw[in_N];rfl
def gT2(a b:D)(S:Ls DV.Slot)(h:S.length=2)(hn:∀s∈S,yQ s=true)(vs:Ls D):(Tg.t [0,1]).m (.t [a,b]) (S++vs.map DV.Slot.v)=.ok ([.v a,.v b]++vs.map DV.Slot.v):=by
 match S,h with
 | [c,e],_ =>
  have g:=hn c (by simp);have i:=hn e (by simp);cases c<;>first|(cases g;done)|(cases e<;>first|(cases i;done)|rfl)
def Qs(p:P):wY [.v (mD ls g),.v (mD ls' g'),.v (pD p)]=.ok (.v (.int ((gm g g' p:Nat):Int)),O3):=by
 have i:∀d∈[D.t [mD ls g,.int (p.1:Nat)],D.t [mD ls' g',.int (p.2:Nat)]],∃l h a,d=.t [mD l h,.int ((a:Nat):Int)]:=λd e=>by
  rcases mem_cons.mp e with rfl|e
  ·exact⟨_,_,_,rfl⟩
  ·rw[mem_singleton]at e;subst e;exact⟨_,_,_,rfl⟩
 have c:=vL (fs:=ZW) (E:=[.v (mD ls g),.v (mD ls' g'),.v (pD p)]) (nl:=2) (xs:=["machine","stand"]) (ys:=[]) (caps:=[]) (it:=.iZ true true (.cons (.t (.cons (.x 0) (.cons (.x 1) .nil))) (.cons (.x 2) .nil))) (tt:=.tE (.cmp .inn (.x 1) (.ix (.x 0) (.c (.int 1))))) (el:=.x 1) (tg:=.t [0,1]) (vs:=[]) patP fG (λd=>match d with | .t [_,x]=>x|_=>.non)
  (i_Z (zB (jI (ds:=[mD ls g,mD ls' g']) (zB (zA rfl) (zB (zA rfl) zH)) rfl jP) (zB (zA rfl) zH)) rfl rfl) rfl
  (λd e S n k=>by obtain⟨l,h,a,rfl⟩:=i d e;exact gT2 _ _ S n k [])
  (λd e=>by
   obtain⟨l,h,a,rfl⟩:=i d e;exact⟨rfl,λs j=>by
    rcases mem_cons.mp j with rfl|j
    ·rfl
    ·rw[mem_singleton]at j;subst j;rfl⟩)
  (λd e=>by
   obtain⟨l,h,a,rfl⟩:=i d e;rw[fG_at];exact t_E (yD (zA rfl) (jX (zA rfl) x_c (ix1 _ _)) (in_N false a h)))
  (λd e _=>by
   obtain⟨l,h,a,rfl⟩:=i d e;exact⟨_,zA rfl,rfl⟩) (by simp[cap]) rfl
 refine yF (zK (zt (jY (zB c zH) ?_))) rfl;show some (R.v (D.int (((([D.t [mD ls g,.int (p.1:Nat)],D.t [mD ls' g',.int (p.2:Nat)]].filter fG).map λd=>match d with | .t [_,x]=>x|_=>.non).length:Nat):Int)))=_
 have:((([D.t [mD ls g,.int (p.1:Nat)],D.t [mD ls' g',.int (p.2:Nat)]].filter fG).map λd=>match d with | .t [_,x]=>x|_=>.non).length)=gm g g' p:=by
  rw[length_map,filter_cons,filter_cons,List.filter_nil,fG_at,fG_at];unfold gm cN;by_cases o:p.1∈g<;>by_cases h2:p.2∈g'<;>simp[o,h2]
 rw[this]
def zEF(a b:Nat):neG (.int (a:Nat)) (.int (b:Nat))=some (.v (.bl (!decide (a=b)))):=by
 have:neF (.int (a:Nat)) (.int (b:Nat))=some (.v (.bl (!decide (a=b)))):=by
  show some (R.v (D.bl (!((a:Int)==(b:Int)))))=_
  have:((a:Int)==(b:Int))=decide (a=b):=by
   rw[Bool.eq_iff_iff,beq_iff_eq,decide_eq_true_iff];omega
  rw[this]
 dsimp[neG,this]
def zEG(M:Mac m ls g)(a:Mac m' ls' g')(h:m=m'):zm [.v (mD ls g),.v (mD ls' g')]=.ok (.v .non,O2):=by
 have n:=zEF m m';rw[decide_eq_true h,Bool.not_true]at n;exact f_nx (zL (Zc (z9 (F:=zQ) rfl (zA rfl) (wJ (zBc M) (ZB M)))) (zL (Zc (z9 (F:=zQ) rfl (zA rfl) (wJ (zBc a) (ZB a)))) (zK (ye (t_E (yD (z9 (F:=zk) rfl (zA rfl) (ZC M)) (z9 (F:=zk) rfl (zA rfl) (ZC a)) n)) yf)))) rfl
def zGO(M:Mac m ls g)(a:Mac m' ls' g')(h:m≠m'):zm [.v (mD ls g),.v (mD ls' g')]=.y ⟨"NoMachine",true,[]⟩ O2:=by
 have n:=zEF m m';rw[decide_eq_false h,Bool.not_false]at n;refine Eq.trans (f_exc (zL (Zc (z9 (F:=zQ) rfl (zA rfl) (wJ (zBc M) (ZB M)))) (zL (Zc (z9 (F:=zQ) rfl (zA rfl) (wJ (zBc a) (ZB a)))) (zK (yX (t_E (yD (z9 (F:=zk) rfl (zA rfl) (ZC M)) (z9 (F:=zk) rfl (zA rfl) (ZC a)) (o:=.ne) n)) (zK zDr)))))) rfl
end
def un:D->P
 | .t [.int a,.int b]=>(a.toNat,b.toNat)|_=>(0,0)
def Gm(p:P):un (pD p)=p:=by
 show((p.1:Int).toNat,(p.2:Int).toNat)=p
 simp
def zEH(a b:Nat):gtD (.int (a:Nat)) (.int (b:Nat))=some (.v (.bl (decide (b<a)))):=by
 show some (R.v (D.bl (decide ((a:Int) > (b:Int)))))=_
 congr 3;exact decide_eq_decide.mpr (by omega)
def zHg(a b:Nat):geD (.int (a:Nat)) (.int (b:Nat))=some (.v (.bl (decide (b<=a)))):=by
 show some (R.v (D.bl (decide ((a:Int) ≥ (b:Int)))))=_
 congr 3;exact decide_eq_decide.mpr (by omega)
section
variable{m:Nat}{ls ls':Ls (Ls Nat)}{g g':Ls Nat}
def zHh:(fin ls ls').Nodup:=A_nd 144
def wg(M:Mac m ls g)(a:Mac m ls' g'):(fin ls ls').length<=144:=zA0 M a 144
def zEI(M:Mac m ls g)(a:Mac m ls' g'):∀p∈fin ls ls',p.1<ls.length/\p.2<ls'.length:=AA_in M a 144
def zEJ(M:Mac m ls g)(a:Mac m ls' g'):∀p∈fin ls ls',∀q∈st ls ls' p,q∈fin ls ls':=zGH (wg M a)
def Wp(ls ls':Ls (Ls Nat))(p:P):Ls Nat:=(st ls ls' p).map λq=>(fin ls ls').idxOf q
def Zl(ls ls':Ls (Ls Nat)):Ls (Ls Nat):=(fin ls ls').map (Wp ls ls')
def Gn(ls ls':Ls (Ls Nat))(g g':Ls Nat)(w:Nat):Ls Nat:=((fin ls ls').filter λp=>decide (w<=gm g g' p)).map λp=>(fin ls ls').idxOf p
abbrev zHi(ls ls':Ls (Ls Nat)):D:=.m ((fin ls ls').map kP) (N (List.range (fin ls ls').length))
def Go{α:Type}(l:Ls α)(f:Nat->D)(h:α->D)(e:∀i x,l[i]?=some x->f i=h x):(List.range l.length).map f=l.map h:=by
 refine List.ext_getElem? λi=>?_
 rw[getElem?_map,getElem?_map];rcases lt_or_ge i l.length with a|a
 ·rw[List.getElem?_range a,getElem?_eq_getElem a]
  dsimp[Option.map_some];rw[e i _ (getElem?_eq_getElem a)]
 ·rw[List.getElem?_eq_none (by exists a),List.getElem?_eq_none a];rfl
def e_steps(M:Mac m ls g)(a:Mac m ls' g')(c:dI jr it E=.ok ((fin ls ls').map pD,E1))(v:JW E1 [0,4,1]=.ok ([mD ls g,zHi ls ls',mD ls' g'].map AR.tmp)) :
  dE jr (.comp 1 ["pair"] ["one","numbers","other"] [0,4,1] it (.n 0) .tTr (.cB .tuple (.cons (.comp 1 ["sign"] ["numbers","one","other","pair"] [2,1,3,0] (.iR1 (.cons (.call 1 (.ev (.x 1) .nil)) .nil)) (.n 0) .tTr (.dg (.x 1) (.call 2 (.ev (.x 2) (.ev (.x 3) (.ev (.x 4) (.ev (.x 0) .nil))))))) .nil))) E=.ok (.w (T (Zl ls ls')),E1):=by
 refine j9 (vs:=[mD ls g,zHi ls ls',mD ls' g']) (λd=>tN (Wp ls ls' (un d))) c v (λd h=>?_) (by rw[length_map];have:=wg M a;dsimp[cap];omega) ?_
 ·obtain⟨p,k,rfl⟩:=mem_map.mp h
  have l:=zEI M a p k;have t:=zAy M a l;have inner:=j9 (fs:=jr) (E:=[.v (pD p),.v (mD ls g),.v (zHi ls ls'),.v (mD ls' g')]) (xs:=["sign"]) (ys:=["numbers","one","other","pair"]) (caps:=[2,1,3,0]) (it:=.iR1 (.cons (.call 1 (.ev (.x 1) .nil)) .nil)) (el:=.dg (.x 1) (.call 2 (.ev (.x 2) (.ev (.x 3) (.ev (.x 4) (.ev (.x 0) .nil)))))) (ds:=DV.zP 0 m) (rs:=N (Wp ls ls' p)) (vs:=[zHi ls ls',mD ls g,mD ls' g',pD p])
   (λd=>match d with | .int i=>.int (((Wp ls ls' p).getD i.toNat 0:Nat):Int)|_=>.non)
   (i_R1 (j:=(m:Int)) (zB (z9 (F:=zk) rfl (zA rfl) (ZC M)) zH) rfl (by rcases M.hm with rfl|rfl<;>decide)) rfl
   (λd h=>by
    obtain⟨i,c⟩:=List.getElem?_of_mem h;obtain⟨rfl,o⟩:=YA c;obtain⟨q,e⟩:∃q,(st ls ls' p)[i]?=some q:=⟨_,getElem?_eq_getElem (by omega)⟩;refine⟨_,x_dg (zA rfl) rfl (zDu (F:=yc) rfl (zA rfl) (zA rfl) (zA rfl) (zA rfl) (zAz M a l e)) (Zg q) (zHe (zEJ M a p k q (mem_of_getElem? e))),?_⟩;show D.int _=D.int _;simp[Wp,e]) (by rw[yU];rcases M.hm with rfl|rfl<;>simp[cap])
   (by
    rw[zDz];unfold N;rw[map_map];have:=Go (Wp ls ls' p) (λi=>D.int (((Wp ls ls' p).getD i 0:Nat):Int)) (λn:Nat=>D.int (n:Int)) (λi x u=>by simp[u]);rw[show(Wp ls ls' p).length=m by simp[Wp,t]]at this;rw[<- this];exact map_congr_left λi _=>by simp)
  refine⟨_,jY (b:=.tuple) (r:=.v (tN (Wp ls ls' p))) (zB inner zH) rfl,?_⟩;show tN (Wp ls ls' p)=tN (Wp ls ls' (un (pD p)));rw[Gm]
 ·unfold Zl T
  rw[map_map,map_map];exact map_congr_left λp _=>by show tN (Wp ls ls' (un (pD p)))=_;rw[Gm];rfl
def e_goods(M:Mac m ls g)(l:Mac m ls' g')(j:dI jr it E=.ok ((fin ls ls').map pD,E1))(k:JW E1 [4,0,1,2]=.ok ([zHi ls ls',mD ls g,mD ls' g',.int (w:Nat)].map AR.tmp)) :
  dE jr (.comp 1 ["pair"] ["numbers","one","other","wanted"] [4,0,1,2] it (.n 0) (.tE (.cmp .ge (.call 0 (.ev (.x 2) (.ev (.x 3) (.ev (.x 0) .nil)))) (.x 4))) (.dg (.x 1) (.x 0))) E=.ok (.w (N (Gn ls ls' g g' w)),E1):=by
 refine vL (vs:=[zHi ls ls',mD ls g,mD ls' g',.int (w:Nat)]) (λd=>[.v d]) (λd=>decide (w<=gm g g' (un d))) (λd=>.int (((fin ls ls').idxOf (un d):Nat):Int)) j k (λd a S i h=>zAj i h) (λd a=>⟨rfl,λs c=>by rw[mem_singleton]at c;subst c;rfl⟩) (λd a=>?_) (λd a _=>?_) (by rw[length_map];have:=wg M l;dsimp[cap];omega) ?_
 ·obtain⟨p,e,rfl⟩:=mem_map.mp a
  rw[Gm];exact t_E (yD (wd (F:=wY) rfl (zA rfl) (zA rfl) (zA rfl) (Qs p)) (zA rfl) (zHg _ _))
 ·obtain⟨p,e,rfl⟩:=mem_map.mp a
  exact⟨_,x_dg (zA rfl) rfl (zA rfl) (Zg p) (zHe e),by rw[Gm];rfl⟩
 ·unfold Gn N
  rw[List.filter_map,map_map,map_map];have:((λd=>decide (w<=gm g g' (un d))) ∘ pD)=λp=>decide (w<=gm g g' p):=by funext p;show decide (w<=gm g g' (un (pD p)))=_;rw[Gm]
  rw[this];exact map_congr_left λp _=>by show D.int (((fin ls ls').idxOf (un (pD p)):Nat):Int)=_;rw[Gm];rfl
end
section
variable{m:Nat}{ls ls':Ls (Ls Nat)}{g g':Ls Nat}
def zHj(F:Ls P):(F.map kP).map kD=F.map pD:=by rw[map_map];rfl
def YB(ds:Ls D):Bi.f .tuple [.l ds]=some (.v (.t ds)):=rfl
def zGP(M:Mac m ls g)(a:Mac m ls' g')(o:(fin ls ls').length<=12):yV [.v (mD ls g),.v (mD ls' g'),qI w]=.ok (.v (mD (Zl ls ls') (Gn ls ls' g g' w)),O3):=by
 obtain⟨h,k⟩:=e_met M a;have l:Bi.f .lisK [.m ((fin ls ls').map kP) h]=some (.w ((fin ls ls').map pD)):=by
  show some (R.w (((fin ls ls').map kP).map kD))=_
  rw[zHj]
 have e:zEO [.l ((fin ls ls').map pD)]=some (.v (.int (((fin ls ls').length:Nat):Int))):=by
  show some (R.v (D.int ((((fin ls ls').map pD).length:Nat):Int)))=_
  rw[length_map]
 have j:gtD (.int (((fin ls ls').length:Nat):Int)) (.int 12)=some (.v (.bl false)):=by
  have:=zEH (fin ls ls').length 12;rw[decide_eq_false (by omega)]at this;exact this
 have i:=zEE (F:=fin ls ls') zHh (by have:=wg M a;omega) (fs:=jr) (E:=[.v (mD ls g),.v (mD ls' g'),qI w,.v (.l ((fin ls ls').map pD)),.e,.e,.e]) (xs:=["number","pair"]) (ys:=[]) (it:=.iE false (.cons (.x 3) .nil)) (i_E (zB (zA rfl) zH) rfl);have c:=e_steps M a (E:=[.v (mD ls g),.v (mD ls' g'),qI w,.v (.l ((fin ls ls').map pD)),.v (zHi ls ls'),.e,.e]) (it:=.iL (.x 3)) (i_L (zA rfl) rfl) rfl;have n:=e_goods M a (w:=w) (E:=[.v (mD ls g),.v (mD ls' g'),qI w,.v (.l ((fin ls ls').map pD)),.v (zHi ls ls'),.w (T (Zl ls ls')),.e]) (it:=.iL (.x 3)) (i_L (zA rfl) rfl) rfl;exact yF (zL (Zc (j8 (F:=zm) rfl (zA rfl) (zA rfl) (zEG M a rfl))) (zL (yP (jY (b:=.lisK) (zB (j8 (F:=jq) rfl (zA rfl) (zA rfl) k) zH) l) rfl) (zL (ye (t_E (yD (jY (zB (jy rfl rfl) zH) e) zEQ j)) yf) (zL (yP (x_frz i) rfl) (zL (yP c rfl) (zL (yP n rfl) (zK (zt (jI (zB (jY (zB (jy rfl rfl) zH) (YB _)) (zB (jY (zB (jy rfl rfl) zH) (YB _)) zH)) rfl jP)))))))) ) rfl
def x_great(M:Mac m ls g)(c:Mac m ls' g')(o:12<(fin ls ls').length):yV [.v (mD ls g),.v (mD ls' g'),qI w]=.y ⟨"TooGreat",true,[(((fin ls ls').length:Nat):Int),12]⟩ O3:=by
 obtain⟨h,j⟩:=e_met M c;have k:Bi.f .lisK [.m ((fin ls ls').map kP) h]=some (.w ((fin ls ls').map pD)):=by
  show some (R.w (((fin ls ls').map kP).map kD))=_
  rw[zHj]
 have e:zEO [.l ((fin ls ls').map pD)]=some (.v (.int (((fin ls ls').length:Nat):Int))):=by
  show some (R.v (D.int ((((fin ls ls').map pD).length:Nat):Int)))=_
  rw[length_map]
 have i:gtD (.int (((fin ls ls').length:Nat):Int)) (.int 12)=some (.v (.bl true)):=by
  have:=zEH (fin ls ls').length 12;rw[decide_eq_true (by omega)]at this;exact this
 have l:=log_ok (n:=(fin ls ls').length) (by have:=wg M c;omega);have a:(([(((fin ls ls').length:Nat):Int),12]:Ls Int).length==(y0 "TooGreat").length&&([(((fin ls ls').length:Nat):Int),12]:Ls Int).all λn=>decide (n.natAbs.log2<1920))=true:=by
  rw[show(y0 "TooGreat").length=2 from by left];dsimp[all_cons,l,List.all_nil,Bool.and_true,length_cons,length_nil];decide
 exact Yp (zL (Zc (j8 (F:=zm) rfl (zA rfl) (zA rfl) (zEG M c rfl))) (zL (yP (jY (b:=.lisK) (zB (j8 (F:=jq) rfl (zA rfl) (zA rfl) j) zH) k) rfl) (Qk (yX (t_E (yD (jY (zB (jy rfl rfl) zH) e) zEQ i)) (zK (zGF (zB (jY (zB (zA rfl) zH) e) (zB zEQ zH)) rfl a)))))) rfl
def zGQ(M:Mac m ls g)(a:Mac m' ls' g')(h:m≠m'):yV [.v (mD ls g),.v (mD ls' g'),qI w]=.y ⟨"NoMachine",false,[]⟩ O3 :=
 Yp (Qk (Y7 (x_cX2 (F:=zm) rfl (zA rfl) (zA rfl) (zGO M a h)))) rfl
end
section
variable{fs:Ls FI}{E E1 E2 E3:za}
def zA2{ks:Ls Nat}{f a b:_}{x:Str}{F:MF}{r r2 r':R}{o e:DV.Slot}(h:dE fs f E=.ok (.v (.fn x),E1))(j:vi (ks.map λk=>(fiX fs k,fiF fs k)) x=some F)(i:dE fs a E1=.ok (r,E2))(c:dE fs b E2=.ok (r2,E3))(g:F [.v r.d,.v r2.d]=.ok (r',[o,e])):dE fs (.callV ks f (.ev a (.ev b .nil))) E=.ok (r',E3):=by
 dsimp[rE_fn,zAZ,Jx,jV,WO,h,j,jN,zn,i,c,zJ,g,zN]
def Gp{ks:Ls Nat}{f a b:_}{x:Str}{F:MF}{r r2:R}{z:Str}{y:Bool}{e:Ls Int}{o:Ls DV.Slot}(h:dE fs f E=.ok (.v (.fn x),E1))(j:vi (ks.map λk=>(fiX fs k,fiF fs k)) x=some F)(i:dE fs a E1=.ok (r,E2))(c:dE fs b E2=.ok (r2,E3))(g:F [.v r.d,.v r2.d]=.y ⟨z,y,e⟩ o):dE fs (.callV ks f (.ev a (.ev b .nil))) E=.y ⟨z,false,e⟩ E3:=by
 dsimp[rE_fn,zAZ,Jx,jV,WO,h,j,jN,zn,i,c,zJ,g,YR,if_true]
end
abbrev tb:Bx:=.o (.sRet (.ifx (.tE (.cmp .eq (.x 0) (.c (.int 2)))) (.call 0 (.ev (.x 1) .nil)) (.callV [1,2] (.ix (.l (.cons (.fn 1) (.cons (.fn 2) .nil))) (.x 0)) (.ev (.x 1) (.ev (.x 2) .nil)))))
def zGR:yR [.v (.exn "NoMachine" [])]=.ok (.v (.str "machine"),[.e]):=rfl
def kind_gr(n:Int):yR [.v (.exn "TooGreat" [n,12])]=.ok (.v (.str "great"),[.e]):=rfl
def Wn:[a,b,c].length<=cap:=by simp[cap]
def zHk(h:dB yx tb [.v w,.v a,.v b,.e]=.ok (.ret r,[.v w,.v a,.v b,.e])):zj [.v w,.v a,.v b]=.ok (r,O3):=yF (zK (s_tryO h)) rfl
def zA3(h:dB yx tb [.v w,.v a,.v b,.e]=.y ⟨"NoMachine",false,[]⟩ [.v w,.v a,.v b,.e]):zj [.v w,.v a,.v b]=.ok (.v (.str "machine"),O3) :=
 yF (E1:=[.v w,.v a,.v b,.v (.exn "NoMachine" [])]) (zK (zHS h (by left) rfl (zL (ye (t_E (x_isC (zA rfl) (by left) (by left))) yf) (zK (zt (z9 (F:=yR) rfl (zA rfl) zGR)))))) rfl
def told_G(h:dB yx tb [.v w,.v a,.v b,.e]=.y ⟨"TooGreat",false,[n,12]⟩ [.v w,.v a,.v b,.e]):zj [.v w,.v a,.v b]=.ok (.v (.t [.str "great",.int n,.int 12]),O3) :=
 yF (E1:=[.v w,.v a,.v b,.v (.exn "TooGreat" [n,12])]) (zK (zHS h (by left) rfl (ja (yX (t_E (x_isC (zA rfl) (by left) (by left))) (zK (zt (jI (zB (z9 (F:=yR) rfl (zA rfl) (kind_gr n)) (zB (x_atr (n:=n) (zA rfl) (by left) rfl) (zB (x_atr (n:=12) (zA rfl) (by left) rfl) zH))) rfl Wn))))))) rfl
def wayF:Nat->MF
 |0=>GS|_=>Yj
def tb_O{i:Nat}(c:i<2){a b d:D}(h:wayF i [.v a,.v b]=.ok (.v d,O2)):dB yx tb [qI i,.v a,.v b,.e]=.ok (.ret (.v d),[qI i,.v a,.v b,.e]):=by
 match i,c with
 |0,_=>exact zK (zt (zAq (t_E (yD (zA rfl) x_c rfl)) (zA2 (x:="both") (F:=GS) rfl rfl (zA rfl) (zA rfl) h)))|1,_=>exact zK (zt (zAq (t_E (yD (zA rfl) x_c rfl)) (zA2 (x:="either") (F:=Yj) rfl rfl (zA rfl) (zA rfl) h)))
def tb_X{i:Nat}(e:i<2){a b:D}{z:Str}{y:Bool}{c:Ls Int}(h:wayF i [.v a,.v b]=.y ⟨z,y,c⟩ O2):dB yx tb [qI i,.v a,.v b,.e]=.y ⟨z,false,c⟩ [qI i,.v a,.v b,.e]:=by
 match i,e with
 |0,_=>exact zK (GY (zAq (t_E (yD (zA rfl) x_c rfl)) (Gp (x:="both") (F:=GS) rfl rfl (zA rfl) (zA rfl) h)))|1,_=>exact zK (GY (zAq (t_E (yD (zA rfl) x_c rfl)) (Gp (x:="either") (F:=Yj) rfl rfl (zA rfl) (zA rfl) h)))
def way_O(c:i<2)(h:yV [.v a,.v b,qI (2-i)]=.ok (.v d,O3)):wayF i [.v a,.v b]=.ok (.v d,O2):=by
 match i,c with
 |0,_=>exact yF (zK (zt (wd (F:=yV) rfl (zA rfl) (zA rfl) x_c h))) rfl|1,_=>exact yF (zK (zt (wd (F:=yV) rfl (zA rfl) (zA rfl) x_c h))) rfl
def zGS(c:i<2)(h:yV [.v a,.v b,qI (2-i)]=.y ⟨z,y,ws⟩ O3):wayF i [.v a,.v b]=.y ⟨z,false,ws⟩ O2:=by
 match i,c with
 |0,_=>exact Yp (zK (GY (x_cX3 (F:=yV) rfl (zA rfl) (zA rfl) x_c h))) rfl|1,_=>exact Yp (zK (GY (x_cX3 (F:=yV) rfl (zA rfl) (zA rfl) x_c h))) rfl
def zGT(m a:Nat)(ls ls':Ls (Ls Nat))(g g':Ls Nat)(w:Nat):D :=
 if m=a then(if(fin ls ls').length<=12 then mD (Zl ls ls') (Gn ls ls' g g' w)else .t [.str "great",.int (((fin ls ls').length:Nat):Int),.int 12])else .str "machine"
section
variable{m m':Nat}{ls ls':Ls (Ls Nat)}{g g':Ls Nat}
def e_told(M:Mac m ls g)(c:Mac m' ls' g')(a:i<2):zj [qI i,.v (mD ls g),.v (mD ls' g')]=.ok (.v (zGT m m' ls ls' g g' (2-i)),O3):=by
 unfold zGT;by_cases h:m=m'
 ·subst h
  rw[if_pos rfl];by_cases hl:(fin ls ls').length<=12
  ·rw[if_pos hl]
   exact zHk (tb_O a (way_O a (zGP M c hl)))
  ·rw[if_neg hl]
   exact told_G (tb_X a (zGS a (x_great M c (by omega))))
 ·rw[if_neg h]
  exact zA3 (tb_X a (zGS a (zGQ M c h)))
def x_no1(h:ok4 d)(a:mgB d=false):yV [.v d,.v e,qI w]=.y ⟨"NoMachine",false,[]⟩ O3:=by
 have n:zm [.v d,.v e]=.y ⟨"NoMachine",false,[]⟩ O2:=Yp (Qk (Y7 (zGA (F:=zQ) rfl (zA rfl) (Wm h a)))) rfl;exact Yp (Qk (Y7 (x_cX2 (F:=zm) rfl (zA rfl) (zA rfl) n))) rfl
def x_no2(M:Mac m ls g)(h:ok4 e)(a:mgB e=false):yV [.v (mD ls g),.v e,qI w]=.y ⟨"NoMachine",false,[]⟩ O3:=by
 have n:zm [.v (mD ls g),.v e]=.y ⟨"NoMachine",false,[]⟩ O2:=Yp (zL (Zc (z9 (F:=zQ) rfl (zA rfl) (wJ (zBc M) (ZB M)))) (Qk (Y7 (zGA (F:=zQ) rfl (zA rfl) (Wm h a))))) rfl;exact Yp (Qk (Y7 (x_cX2 (F:=zm) rfl (zA rfl) (zA rfl) n))) rfl
def zGU(h:ok4 d)(a:mgB d=false)(g:i<3):zj [qI i,.v d,.v e]=.ok (.v (.str "machine"),O3):=by
 by_cases h2:i<2
 ·exact zA3 (tb_X h2 (zGS h2 (x_no1 h a)))
 ·obtain rfl:i=2:=by omega
  have c:jg [.v d]=.y ⟨"NoMachine",false,[]⟩ O1:=Yp (Qk (Y7 (zGA (F:=zQ) rfl (zA rfl) (Wm h a)))) rfl;exact zA3 (zK (GY (zHU (t_E (yD (zA rfl) x_c rfl)) (zGA (F:=jg) rfl (zA rfl) c))))
def zGV(M:Mac m ls g)(h:ok4 e)(c:mgB e=false)(a:i<2):zj [qI i,.v (mD ls g),.v e]=.ok (.v (.str "machine"),O3):=zA3 (tb_X a (zGS a (x_no2 M h c)))
end
section
variable{m:Nat}{ls ls':Ls (Ls Nat)}{g g':Ls Nat}
theorem zEK:∀(l c:Ls Nat),zipWith Wv (N l) (N c)=(List.zip l c).map pD
 | [],_=>rfl|_::_,[]=>rfl
 |a::l,b::c=>by
  have:=zEK l c;show Wv (.int (a:Nat)) (.int (b:Nat))::zipWith Wv (N l) (N c)=pD (a,b)::(List.zip l c).map pD;rw[this];rfl
def lp_one{acc:Ls P}{q:P}{a b x y z s6:D}(c:acc.length<=200):dB yN j6 [.v a,.v b,.w (acc.map pD),.v x,.v y,.v z,.v (pD q)]=.ok (.nx,[.v a,.v b,.w ((add acc q).map pD),.v x,.v y,.v z,.v (pD q)]):=by
 have t:dT yN (.tBor 2 (.tE (.cmp .nin (.x 6) (.x 2)))) [.v a,.v b,.w (acc.map pD),.v x,.v y,.v z,.v (pD q)]=.ok (!decide (q∈acc),[.v a,.v b,.w (acc.map pD),.v x,.v y,.v z,.v (pD q)]) :=
  t_bor rfl rfl rfl (t_E (yD (zA rfl) (zA rfl) (nin_p acc q)))
 by_cases h:q∈acc
 ·rw[show add acc q=acc from if_pos h]
  rw[decide_eq_true h]at t;exact zK (ye t yf)
 ·rw[show add acc q=acc++[q]from if_neg h]
  rw[decide_eq_false h]at t;refine zK (yX t (zK (zDv rfl (zA rfl) rfl (by rw[length_map];exact uH (by omega)) ?_)));simp;rfl
def lp_turn(M:Mac m ls g)(w:Mac m ls' g')(k:Nat){o n s6:DV.Slot}(D:yQ o=true)(I:yQ n=true)(H:yQ s6=true)(C:[o,n,s6].all borS=true) :
  ∃B v c,dB yN j7 [.v (mD ls g),.v (mD ls' g'),.w ((AA ls ls' k).map pD),qI k,o,n,s6]=.ok (.nx,[.v (mD ls g),.v (mD ls' g'),.w ((AA ls ls' (k+1)).map pD),qI k,B,v,c])/\yQ B=true/\yQ v=true/\yQ c=true/\[B,v,c].all borS=true:=by
 cases l:(AA ls ls' k)[k]? with
 |none =>
  have O:(AA ls ls' k).length<=k:=by
   rcases lt_or_ge k (AA ls ls' k).length with h|h
   ·rw[getElem?_eq_getElem h]at l;cases l
   ·exact h
  have e:AA ls ls' (k+1)=AA ls ls' k:=Gd l;refine⟨o,n,s6,?_,D,I,H,C⟩;rw[e];refine zK (ye (t_E (yD (zA rfl) (zA1 rfl) ?_)) yf);show ltD (.int (k:Nat)) (.int _)=_;rw[Wj,decide_eq_false (by simp;omega)]
 |some p =>
  have L:k<(AA ls ls' k).length:=(qG.mp l).1;have J:=AA_in M w k p (mem_of_getElem? l);have r:=M.row J.1;have K:=w.row J.2;have e:AA ls ls' (k+1)=grow (st ls ls') (AA ls ls' k) p:=vO l;have u:∀i,((st ls ls' p).take i).foldl add (AA ls ls' k) <+: AA ls ls' (k+1):=λi=>by
   rw[e];unfold grow
   conv=>rhs;rw[<- take_append_drop i (st ls ls' p)]
   rw[List.foldl_append];exact JU _ _
  obtain⟨E',f,c,rfl,j,t⟩:=y9 (tg:=gN 6) (body:=dB yN j6) (λi E=>∃c,E=[.v (mD ls g),.v (mD ls' g'),.w ((((st ls ls' p).take i).foldl add (AA ls ls' k)).map pD),qI k,.v (.int (p.1:Nat)),.v (.int (p.2:Nat)),c]/\yQ c=true/\borS c=true) ((st ls ls' p).map pD) 0 [.v (mD ls g),.v (mD ls' g'),.w ((AA ls ls' k).map pD),qI k,.v (.int (p.1:Nat)),.v (.int (p.2:Nat)),s6] ⟨s6,rfl,H,by dsimp[all_cons,Bool.and_eq_true]at C;exact C.2.2.1⟩
   (λi d q E ⟨c,G,j,_⟩=>by
    rw[zero_add]at G ⊢;rw[getElem?_map]at q;exists hq,(st ls ls' p)[i]?,q,b;cases q;have hl:(((st ls ls' p).take i).foldl add (AA ls ls' k)).length<=144:=le_trans (u i).length_le (zA0 M w (k+1));have f:=lp_one (acc:=((st ls ls' p).take i).foldl add (AA ls ls' k)) (q:=b) (a:=mD ls g) (b:=mD ls' g') (x:=.int (k:Nat)) (y:=.int (p.1:Nat)) (z:=.int (p.2:Nat)) (s6:=.non) (by omega);rw[<- Gi hq]at f;refine⟨_,_,?_,f,_,rfl,rfl,rfl⟩;subst G;cases c<;>first|rfl|(cases j))
  rw[zero_add,length_map,take_of_length_le (le_refl _),<- grow,<- e]at f;refine⟨.v (.int (p.1:Nat)),.v (.int (p.2:Nat)),c,?_,rfl,rfl,j,by dsimp[all_cons,t,List.all_nil,Bool.and_true];rfl⟩;have Q:dI yN (.iZN true true (.cons (.ix (.ix (.x 0) (.c (.int 0))) (.x 4)) (.cons (.ix (.ix (.x 1) (.c (.int 0))) (.x 5)) .nil))) [.v (mD ls g),.v (mD ls' g'),.w ((AA ls ls' k).map pD),qI k,.v (.int (p.1:Nat)),.v (.int (p.2:Nat)),s6]=.ok ((st ls ls' p).map pD,[.v (mD ls g),.v (mD ls' g'),.w ((AA ls ls' k).map pD),qI k,.v (.int (p.1:Nat)),.v (.int (p.2:Nat)),s6]):=by
   unfold st;rw[<- zEK];exact i_ZN (zB (jX (jX (zA rfl) x_c (ix0 _ _)) (zA rfl) (zHb r.1)) (zB (jX (jX (zA rfl) x_c (ix0 _ _)) (zA rfl) (zHb K.1)) zH)) rfl rfl
  refine zK (yX (t_E (yD (zA rfl) (zA1 rfl) ?_)) (zL (zF5 (zHc rfl (zA rfl) (Zd (d:=pD p) (by simp[l]))) ?_) (zK (zHV (tg:=.n 6) Q f))))
  ·show ltD (.int (k:Nat)) (.int _)=_
   rw[Wj,decide_eq_true (by simp;omega)]
  ·cases o<;>first|(cases D;done)|(cases n<;>first|(cases I;done)|rfl)
def e_pairs(M:Mac m ls g)(o:Mac m ls' g'):jW [.v (mD ls g),.v (mD ls' g')]=.ok (.w ((fin ls ls').map pD),O2):=by
 obtain⟨E',f,a,h,c,l,rfl,_,_,_,_,_⟩:=y9 (tg:=gN 3) (body:=dB yN j7) (λk E=>∃a h c l,E=[.v (mD ls g),.v (mD ls' g'),.w ((AA ls ls' k).map pD),a,h,c,l]/\yQ a=true/\yQ h=true/\yQ c=true/\yQ l=true/\[h,c,l].all borS=true) (DV.zP 0 200) 0 [.v (mD ls g),.v (mD ls' g'),.w [pD (0,0)],.e,.e,.e,.e] ⟨.e,.e,.e,.e,rfl,rfl,rfl,rfl,rfl,rfl⟩
  (λi d q E z9=>by
   obtain⟨a,h,c,l,n,v,h4,h5,u,x⟩:=z9;rw[zero_add]at n ⊢;obtain⟨rfl,C⟩:=YA q;obtain⟨w,r,z,f,t,B,p,y⟩:=lp_turn M o i h4 h5 u x;refine⟨_,_,?_,f,_,w,r,z,rfl,rfl,t,B,p,y⟩;subst n;cases a<;>first|rfl|(cases v))
 rw[zero_add,yU]at f;have e:AA ls ls' 200=fin ls ls':=zGG (wg M o) 56;rw[e]at f;exact yF (zL (yP (Yo (ds:=[pD (0,0)]) (zB (jI (ds:=[.int 0,.int 0]) (zB x_c (zB x_c zH)) rfl jP) zH) rfl yr) rfl) (zL (uD (tg:=.n 3) (j:=200) (zB x_c zH) rfl (by decide) f) (zK (zt (x_movO rfl rfl))))) rfl
end
def x_idx(g:dE fs a E=.ok (r1,E1))(hd:r1.d=.l ds)(c:dE fs b E1=.ok (r2,E2))(e:zHA (.l ds) r2.d=some r):dE fs (.idx a b) E=.ok (r,E2):=by
 dsimp[vH,rE_idx,zC3,g,hd,c,e]
section
variable{m:Nat}{ls ls':Ls (Ls Nat)}{g g':Ls Nat}
def cnt_two(a b:Bool):zFT (.l [.bl a,.bl b]) (.bl true)=some (.v (.int (((if a then 1 else 0)+(if b then 1 else 0):Nat):Int))):=by
 cases a<;>cases b<;>rfl
def due_row(M:Mac m ls g)(a:Mac m ls' g')(h:p∈fin ls ls')(l:L.length<=200) :
  dB yp JI [.v (mD ls g),.v (mD ls' g'),.v w,.v (.l ((fin ls ls').map pD)),.w (T L),.v (.int (p.1:Nat)),.v (.int (p.2:Nat)),.e,.e,.e]=.ok (.nx,[.v (mD ls g),.v (mD ls' g'),.v w,.v (.l ((fin ls ls').map pD)),.w (T (L++[Wp ls ls' p])),.v (.int (p.1:Nat)),.v (.int (p.2:Nat)),.e,.e,.e]):=by
 have e:=zEI M a p h;have r:=M.row e.1;have k:=a.row e.2;have n:=wg M a;have c:=j9 (fs:=yp) (E:=[.v (mD ls g),.v (mD ls' g'),.v w,.v (.l ((fin ls ls').map pD)),.w (T L),.v (.int (p.1:Nat)),.v (.int (p.2:Nat)),.e,.e,.e]) (xs:=["_law_pair"]) (ys:=["_law_some"]) (caps:=[3]) (it:=.iZN true true (.cons (.ix (.ix (.x 0) (.c (.int 0))) (.x 5)) (.cons (.ix (.ix (.x 1) (.c (.int 0))) (.x 6)) .nil))) (el:=.idx (.x 1) (.x 0)) (rs:=N (Wp ls ls' p)) (vs:=[.l ((fin ls ls').map pD)])
  (λd=>.int (((fin ls ls').idxOf (un d):Nat):Int)) (i_ZN (zB (jX (jX (zA rfl) x_c (ix0 _ _)) (zA rfl) (zHb r.1)) (zB (jX (jX (zA rfl) x_c (ix0 _ _)) (zA rfl) (zHb k.1)) zH)) rfl rfl) rfl
  (λd i=>by
   rw[zEK]at i;obtain⟨q,j,rfl⟩:=mem_map.mp i;exact⟨_,x_idx (zA rfl) rfl (zA rfl) (idx_p (zEJ M a p h q j) (by omega)),by rw[Gm];rfl⟩)
  (by rw[zEK,length_map];have:=zAy M a e;unfold st at this;rw[this];rcases M.hm with rfl|rfl<;>simp[cap])
  (by
   rw[zEK];unfold Wp N;rw[map_map,map_map];exact map_congr_left λq _=>by show D.int (((fin ls ls').idxOf (un (pD q)):Nat):Int)=_;rw[Gm];rfl)
 refine zK (zDv rfl (jY (zB c zH) (YB _)) rfl (by rw[W1];exact uH (by omega)) ?_);simp[T];rfl
def zGW(p:P)(l:L.length<=200) :
  dB yp JH [.v (mD ls g),.v (mD ls' g'),qI w,.v a3,S,z5,z6,.w (N L),qI k,.v (pD p)]=.ok (.nx,[.v (mD ls g),.v (mD ls' g'),qI w,.v a3,S,z5,z6,.w (N (if w<=gm g g' p then L++[k]else L)),qI k,.v (pD p)]):=by
 have i:inG false (.int (p.1:Nat)) (tN g)=some (.v (.bl (decide (p.1∈g)))):=in_N false _ _;have j:inG false (.int (p.2:Nat)) (tN g')=some (.v (.bl (decide (p.2∈g')))):=in_N false _ _;have a:=cnt_two (decide (p.1∈g)) (decide (p.2∈g'));have c:((if decide (p.1∈g)=true then 1 else 0)+(if decide (p.2∈g')=true then 1 else 0):Nat)=gm g g' p:=by
  unfold gm cN;by_cases e:p.1∈g<;>by_cases h2:p.2∈g'<;>simp[e,h2]
 rw[c]at a;have t:dT yp (.tE (.cmp .ge (.cntL (.l (.cons (.cmp .inn (.ix (.x 9) (.c (.int 0))) (.ix (.x 0) (.c (.int 1)))) (.cons (.cmp .inn (.ix (.x 9) (.c (.int 1))) (.ix (.x 1) (.c (.int 1)))) .nil))) (.c (.bl true))) (.x 2))) [.v (mD ls g),.v (mD ls' g'),qI w,.v a3,S,z5,z6,.w (N L),qI k,.v (pD p)]=.ok (decide (w<=gm g g' p),[.v (mD ls g),.v (mD ls' g'),qI w,.v a3,S,z5,z6,.w (N L),qI k,.v (pD p)]) :=
  t_E (yD (x_cntL (Yo (ds:=[.bl (decide (p.1∈g)),.bl (decide (p.2∈g'))]) (zB (yD (jX (zA rfl) x_c (p_at0 p)) (jX (zA rfl) x_c (ix1 _ _)) i) (zB (yD (jX (zA rfl) x_c (p_at1 p)) (jX (zA rfl) x_c (ix1 _ _)) j) zH)) rfl jP) rfl x_c a) (zA rfl) (zHg _ _))
 by_cases h:w<=gm g g' p
 ·rw[if_pos h]
  rw[decide_eq_true h]at t;refine zK (yX t (zK (zDv rfl (zA rfl) rfl (by rw[wA];exact uH (by omega)) ?_)));simp[N];rfl
 ·rw[if_neg h]
  rw[decide_eq_false h]at t;exact zK (ye t yf)
end
section
variable{m m':Nat}{ls ls':Ls (Ls Nat)}{g g':Ls Nat}
def len0(M:Mac m ls g)(h:E[i]?=some (.v (mD ls g))):dE fs (.cB .len (.cons (.ix (.ix (.x i) (.c (.int 0))) (.c (.int 0))) .nil)) E=.ok (.v (.int (m:Nat)),E):=by
 have r:=M.row M.hn.1;have l:zEO [tN (ls.getD 0 [])]=some (.v (.int (m:Nat))):=by
  show some (R.v (D.int (((N (ls.getD 0 [])).length:Nat):Int)))=_
  rw[wA,r.2.1]
 exact jY (zB (jX (jX (zA h) x_c (ix0 _ _)) x_c (zHb r.1)) zH) l
def e_due(M:Mac m ls g)(l:Mac m' ls' g')(w:Nat):JT [.v (mD ls g),.v (mD ls' g'),qI w]=.ok (.v (zGT m m' ls ls' g g' w),O3):=by
 unfold zGT;have n:=zEF m m';by_cases h:m=m'
 ·subst h
  rw[if_pos rfl];rw[decide_eq_true rfl,Bool.not_true]at n;have B:=e_pairs M l;have J:=wg M l;have y:zEO [.l ((fin ls ls').map pD)]=some (.v (.int (((fin ls ls').length:Nat):Int))):=by
   show some (R.v (D.int ((((fin ls ls').map pD).length:Nat):Int)))=_
   rw[length_map]
  have v:=zEH (fin ls ls').length 12;by_cases hl:(fin ls ls').length<=12
  ·rw[if_pos hl]
   rw[decide_eq_false (by omega)]at v
   -- the rows
   obtain⟨E1,z,a,j,rfl,h5,C⟩:=y9 (tg:=(Tg.t [5,6]).m) (body:=dB yp JI) (λk E=>∃a j,E=[.v (mD ls g),.v (mD ls' g'),qI w,.v (.l ((fin ls ls').map pD)),.w (T (((fin ls ls').take k).map (Wp ls ls'))),a,j,.e,.e,.e]/\yQ a=true/\yQ j=true) ((fin ls ls').map pD) 0 [.v (mD ls g),.v (mD ls' g'),qI w,.v (.l ((fin ls ls').map pD)),.w (T []),.e,.e,.e,.e,.e] ⟨.e,.e,rfl,rfl,rfl⟩
    (λi d q E ⟨a,j,t,h5,C⟩=>by
     rw[zero_add]at t ⊢;rw[getElem?_map]at q;exists hq,(fin ls ls')[i]?,q,p;cases q;have f:=due_row M l (mem_of_getElem? hq) (w:=.int (w:Nat)) (L:=((fin ls ls').take i).map (Wp ls ls')) (by simp;omega);have e:((fin ls ls').take (i+1)).map (Wp ls ls')=((fin ls ls').take i).map (Wp ls ls')++[Wp ls ls' p]:=by rw[take_add_one,hq];simp
     rw[<- e]at f;refine⟨_,_,?_,f,_,_,rfl,rfl,rfl⟩;subst t;cases a<;>first|(cases h5;done)|(cases j<;>first|(cases C;done)|rfl))
   rw[zero_add,length_map,take_of_length_le (le_refl _)]at z
   -- the good ones
   obtain⟨E2,I,u,r,rfl,G,H⟩:=y9 (tg:=(Tg.t [8,9]).m) (body:=dB yp JH) (λk E=>∃u r,E=[.v (mD ls g),.v (mD ls' g'),qI w,.v (.l ((fin ls ls').map pD)),.w (T (Zl ls ls')),a,j,.w (N ((((fin ls ls').take k).filter λp=>decide (w<=gm g g' p)).map λp=>(fin ls ls').idxOf p)),u,r]/\yQ u=true/\yQ r=true) (QM 0 ((fin ls ls').map pD)) 0 [.v (mD ls g),.v (mD ls' g'),qI w,.v (.l ((fin ls ls').map pD)),.w (T (Zl ls ls')),a,j,.w (N []),.e,.e] ⟨.e,.e,rfl,rfl,rfl⟩
    (λi d q E ⟨u,r,t,G,H⟩=>by
     rw[zero_add]at t ⊢;obtain⟨e,x,rfl⟩:=zEB _ 0 i q;rw[getElem?_map]at x;exists hq,(fin ls ls')[i]?,x,p;cases x;rw[zero_add];have f:=zGW (ls:=ls) (ls':=ls') (g:=g) (g':=g') p (k:=i) (w:=w) (S:=.w (T (Zl ls ls'))) (z5:=a) (z6:=j) (a3:=.l ((fin ls ls').map pD)) (L:=(((fin ls ls').take i).filter λp=>decide (w<=gm g g' p)).map λp=>(fin ls ls').idxOf p) (by rw[length_map];have:=List.length_filter_le (λp=>decide (w<=gm g g' p)) ((fin ls ls').take i);simp at this;omega);have e:(if w<=gm g g' p then((((fin ls ls').take i).filter λp=>decide (w<=gm g g' p)).map λp=>(fin ls ls').idxOf p)++[i]else((((fin ls ls').take i).filter λp=>decide (w<=gm g g' p)).map λp=>(fin ls ls').idxOf p))=(((fin ls ls').take (i+1)).filter λp=>decide (w<=gm g g' p)).map λp=>(fin ls ls').idxOf p:=by
      rw[take_add_one,hq,List.filter_append,map_append];have ix:=zED zHh hq;by_cases c:w<=gm g g' p
      ·rw[if_pos c];simp[c,ix]
      ·rw[if_neg c];simp[c]
     rw[e]at f;refine⟨_,_,?_,f,_,_,rfl,rfl,rfl⟩;subst t;cases u<;>first|(cases G;done)|(cases r<;>first|(cases H;done)|rfl))
   rw[zero_add,YX,length_map,take_of_length_le (le_refl _)]at I;exact yF (zL (ye (t_E (yD (len0 M rfl) (len0 l rfl) n)) yf) (zL (yP (j8 (F:=jW) rfl (zA rfl) (zA rfl) B) rfl) (zL (ye (t_E (yD (jY (zB (jy rfl rfl) zH) y) x_c v)) yf) (zL (yP (Yo (ds:=[]) zH rfl Y8) rfl) (zL (zAo (tg:=.t [5,6]) (zA rfl) rfl z) (zL (yP (Yo (ds:=[]) zH rfl Y8) rfl) (zL (zHV (tg:=.t [8,9]) (i_E (zB (zA rfl) zH) rfl) I) (zK (zt (jI (zB (jY (zB (jy rfl rfl) zH) (YB _)) (zB (jY (zB (jy rfl rfl) zH) (YB _)) zH)) rfl jP))))))))) ) rfl
  ·rw[if_neg hl]
   rw[decide_eq_true (by omega)]at v;exact yF (zL (ye (t_E (yD (len0 M rfl) (len0 l rfl) n)) yf) (zL (yP (j8 (F:=jW) rfl (zA rfl) (zA rfl) B) rfl) (ja (yX (t_E (yD (jY (zB (jy rfl rfl) zH) y) x_c v)) (zK (zt (jI (zB x_c (zB (jY (zB (zA rfl) zH) y) (zB x_c zH))) rfl Wn))))))) rfl
 ·rw[if_neg h]
  rw[decide_eq_false h,Bool.not_false]at n;exact yF (ja (yX (t_E (yD (o:=.ne) (len0 M rfl) (len0 l rfl) n)) (zK (zt x_c)))) rfl
end
def oth(n:Nat)(g:Ls Nat):Ls Nat:=(List.range n).filter λx=>!decide (x∈g)
section
variable{m m':Nat}{ls ls':Ls (Ls Nat)}{g g':Ls Nat}
def len_T(ls:Ls (Ls Nat)):zEO [.t (T ls)]=some (.v (.int (ls.length:Nat))):=by dsimp[zEO,W1]
def Yr(h:d∈DV.zP 0 n):∃i:Nat,d=.int (i:Nat)/\i<n:=by
 obtain⟨i,a⟩:=List.getElem?_of_mem h;obtain⟨rfl,h2⟩:=YA a;exact⟨i,rfl,h2⟩
def fO(g:Ls Nat):D->Bool
 | .int i=>!decide (i.toNat∈g)|_=>false
def zEL(n:Nat)(g:Ls Nat):((DV.zP 0 n).filter (fO g)).map (λd=>d)=N (oth n g):=by
 rw[zDz,List.map_id'];unfold oth N;rw[List.filter_map];rfl
def zBd(M:Mac m ls g):jg [.v (mD ls g)]=.ok (.v (mD ls (oth ls.length g)),O1):=by
 have h:=M.hn;have c:=vL (fs:=Wa) (E:=[.v (mD ls g),.v (.t (T ls)),.v (tN g)]) (nl:=1) (xs:=["stand"]) (ys:=["good"]) (caps:=[2]) (it:=.iR1 (.cons (.cB .len (.cons (.x 1) .nil)) .nil)) (tt:=.tE (.cmp .nin (.x 0) (.x 1))) (el:=.x 0) (tg:=.n 0) (vs:=[tN g]) (λd=>[.v d]) (fO g) (λd=>d)
  (i_R1 (j:=(ls.length:Int)) (zB (jY (zB (zA rfl) zH) (len_T ls)) zH) rfl ⟨by omega,by omega⟩) rfl (λd a S k h=>zAj k h) (λd a=>⟨rfl,λs e=>by rw[mem_singleton]at e;subst e;rfl⟩)
  (λd a=>by
   obtain⟨i,rfl,l⟩:=Yr a;exact t_E (yD (zA rfl) (zA rfl) (in_N true i g)))
  (λd a _=>⟨_,zA rfl,rfl⟩) (by rw[yU];dsimp[cap];omega) (zEL _ g)
 exact yF (zL (Zc (z9 (F:=zQ) rfl (zA rfl) (wJ (zBc M) (ZB M)))) (zL (zF5 (E2:=[.v (mD ls g),.v (.t (T ls)),.v (tN g)]) (zA rfl) rfl) (zK (zt (jI (zB (zA rfl) (zB (jY (zB c zH) (YB _)) zH)) rfl jP))))) rfl
def told_2(M:Mac m ls g):zj [.v (.int 2),.v (mD ls g),.v e]=.ok (.v (mD ls (oth ls.length g)),O3) :=
 zHk (zK (zt (zHU (t_E (yD (zA rfl) x_c rfl)) (z9 (F:=jg) rfl (zA rfl) (zBd M)))))
def sm_tN(e:l.length<=12)(a:∀x∈l,x<1000):smD (n+1) (tN l):=by
 dsimp[smD];refine⟨by rw[wA];exact e,λd g=>?_⟩;obtain⟨x,c,rfl⟩:=zBa g;have:=a x c;dsimp[smD];rw[Int.natAbs_natCast];omega
def sm_mD{ls:Ls (Ls Nat)}(i:ls.length<=12)(c:∀l∈ls,l.length<=12/\∀x∈l,x<1000)(e:g.length<=12)(h:∀x∈g,x<1000):smD 3 (mD ls g):=by
 dsimp[smD];refine⟨by simp,λd a=>?_⟩;rcases mem_cons.mp a with rfl|a
 ·dsimp[smD]
  refine⟨by rw[W1];exact i,λd a=>?_⟩;obtain⟨l,hl,rfl⟩:=T_mem a;exact sm_tN (c l hl).1 (c l hl).2
 ·rw[mem_singleton]at a;subst a
  exact sm_tN e h
def oth_len(n:Nat)(g:Ls Nat):(oth n g).length<=n:=by
 have:=List.length_filter_le (λx=>!decide (x∈g)) (List.range n);simpa[oth]using this
def sm_oth(M:Mac m ls g):smD 3 (mD ls (oth ls.length g)):=by
 have c:=M.hn;refine sm_mD c.2 (λl hl=>⟨by rw[(M.hl l hl).1];rcases M.hm with rfl|rfl<;>omega,λx a=>by have:=(M.hl l hl).2 x a;omega⟩) (by have:=oth_len ls.length g;omega) λx a=>by
  have:=(mem_filter.mp a).1;simp at this;omega
def sm_rows{n:Nat}(hn:n<=12){R:Ls (Ls Nat)}{G:Ls Nat}(e:R.length<=n)(h:∀l∈R,l.length<=12/\∀x∈l,x<n)(g:G.length<=n)(c:∀x∈G,x<n):smD 3 (mD R G) :=
 sm_mD (by omega) (λl hl=>⟨(h l hl).1,λx a=>by have:=(h l hl).2 x a;omega⟩) (by omega) λx a=>by have:=c x a;omega
def zGX(h:n<=144):smD 3 (.t [.str "great",.int (n:Nat),.int 12]):=by
 dsimp[smD];refine⟨by simp,λd a=>?_⟩;rcases mem_cons.mp a with rfl|a
 ·simp[smD]
 ·rcases mem_cons.mp a with rfl|a
  ·dsimp[smD];rw[Int.natAbs_natCast];omega
  ·rw[mem_singleton]at a;subst a;simp[smD]
def row_sm(M:Mac m ls g)(a:Mac m ls' g'):∀l∈Zl ls ls',l.length<=12/\∀x∈l,x<(fin ls ls').length:=λl hl=>by
 obtain⟨p,c,rfl⟩:=mem_map.mp hl;refine⟨?_,λx i=>?_⟩
 ·unfold Wp
  rw[length_map,zAy M a (zEI M a p c)];exact M.hm.elim (λe=>by rw[e];decide) (λe=>by rw[e];decide)
 ·obtain⟨q,h,rfl⟩:=mem_map.mp i
  exact idxOf_lt_length_iff.mpr (zEJ M a p c q h)
def zEM:(Gn ls ls' g g' w).length<=(fin ls ls').length/\∀x∈Gn ls ls' g g' w,x<(fin ls ls').length:=by
 refine⟨?_,λx a=>?_⟩
 ·unfold Gn
  rw[length_map];exact List.length_filter_le _ _
 ·obtain⟨p,c,rfl⟩:=mem_map.mp a
  exact idxOf_lt_length_iff.mpr (mem_filter.mp c).1
def sm_of(h:d=e)(s:smD 3 e):smD 3 d:=by subst h;exact s
def due_ok(a:(fin ls ls').length<=12):zGT m m ls ls' g g' w=mD (Zl ls ls') (Gn ls ls' g g' w):=(if_pos rfl).trans (if_pos a)
def due_gr(a:¬(fin ls ls').length<=12):zGT m m ls ls' g g' w=.t [.str "great",.int (((fin ls ls').length:Nat):Int),.int 12]:=(if_pos rfl).trans (if_neg a)
def due_no(h:¬m=m'):zGT m m' ls ls' g g' w=.str "machine":=if_neg h
def sm_mac:smD 3 (.str "machine"):=by simp[smD]
def zGY:(Zl ls ls').length<=(fin ls ls').length:=by rw[Zl,length_map];exact le_refl _
def sm_due(M:Mac m ls g)(a:Mac m' ls' g')(w:Nat):smD 3 (zGT m m' ls ls' g g' w):=by
 by_cases h:m=m'
 ·subst h
  exact(Nat.decLe (fin ls ls').length 12).byCases (λhl=>sm_of (due_ok hl) (sm_rows hl zGY (row_sm M a) zEM.1 zEM.2)) (λhl=>sm_of (due_gr hl) (zGX (wg M a)))
 ·exact sm_of (due_no h) sm_mac
end
def MacD(d:D):Prop:=∃m ls g,d=mD ls g/\Mac m ls g
section
variable{m m':Nat}{ls ls':Ls (Ls Nat)}{g g':Ls Nat}
def sub_two(a:i<2):subD (.int 2) (.int (i:Nat))=some (.v (.int ((2-i:Nat):Int))):=by
 show some (R.v (D.int (2-(i:Int))))=_
 rw[show(2-(i:Int))=((2-i:Nat):Int)by omega]
def l_one(M:Mac m ls g)(a:Mac m' ls' g')(l:i<2)(v c n:D)(p:Ls D)(e o j:DV.Slot):dB jK Qe [.v v,.v c,.w p,.v n,.v (mD ls g),e,.v (mD ls' g'),qI i,o,j]=.ok (.nx,[.v v,.v c,.w p,.v n,.v (mD ls g),e,.v (mD ls' g'),qI i,o,j]):=by
 obtain⟨t,ht⟩:=zDt (sm_due M a (2-i));have k:=e_told M a l;have h:=e_due M a (2-i);generalize zGT m m' ls ls' g g' (2-i)=d at ht k h;have r:zFX [d]=some (.v (.str t)):=ht;exact zK (ye (t_E (yD (jY (zB (wd (F:=zj) rfl (zA rfl) (zA rfl) (zA rfl) k) zH) r) (jY (zB (wd (F:=JT) rfl (zA rfl) (zA rfl) (yq x_c (zA rfl) (sub_two l)) h) zH) r) (ne_str t))) yf)
def l_two(M:Mac m ls g)(w:Mac m' ls' g')(v c n:D)(p:Ls D)(e s7 o l:DV.Slot)(r:yQ s7=true):∃a,dB jK Qf [.v v,.v c,.w p,.v n,.v (mD ls g),e,.v (mD ls' g'),s7,o,l]=.ok (.nx,[.v v,.v c,.w p,.v n,.v (mD ls g),e,.v (mD ls' g'),a,o,l])/\yQ a=true:=by
 obtain⟨E',f,a,rfl,h⟩:=y9 (tg:=gN 7) (body:=dB jK Qe) (λk E=>∃a,E=[.v v,.v c,.w p,.v n,.v (mD ls g),e,.v (mD ls' g'),a,o,l]/\yQ a=true) (DV.zP 0 2) 0 [.v v,.v c,.w p,.v n,.v (mD ls g),e,.v (mD ls' g'),s7,o,l] ⟨s7,rfl,r⟩
  (λi d q E ⟨a,u,h⟩=>by
   obtain⟨rfl,t⟩:=YA q;refine⟨_,_,?_,l_one M w t v c n p e o l,_,rfl,rfl⟩;subst u;cases a<;>first|rfl|(cases h))
 exact⟨a,zK (uD (tg:=.n 7) (j:=2) (zB x_c zH) rfl (by decide) f),h⟩
def x_oth(M:Mac m ls g)(v c k:D)(p:Ls D)(e s6 s7 l h:DV.Slot):dE jK (.cB .tuple (.cons (.comp 1 ["_law_stand"] ["_law_one"] [4] (.iR1 (.cons (.cB .len (.cons (.ix (.x 4) (.c (.int 0))) .nil)) .nil)) (.n 0) (.tE (.cmp .nin (.x 0) (.ix (.x 1) (.c (.int 1))))) (.x 0)) .nil)) [.v v,.v c,.w p,.v k,.v (mD ls g),e,s6,s7,l,h]=.ok (.v (tN (oth ls.length g)),[.v v,.v c,.w p,.v k,.v (mD ls g),e,s6,s7,l,h]):=by
 have o:=M.hn;have c:=vL (fs:=jK) (E:=[.v v,.v c,.w p,.v k,.v (mD ls g),e,s6,s7,l,h]) (nl:=1) (xs:=["_law_stand"]) (ys:=["_law_one"]) (caps:=[4]) (it:=.iR1 (.cons (.cB .len (.cons (.ix (.x 4) (.c (.int 0))) .nil)) .nil)) (tt:=.tE (.cmp .nin (.x 0) (.ix (.x 1) (.c (.int 1))))) (el:=.x 0) (tg:=.n 0) (vs:=[mD ls g]) (λd=>[.v d]) (fO g) (λd=>d)
  (i_R1 (j:=(ls.length:Int)) (zB (jY (zB (jX (zA rfl) x_c (ix0 _ _)) zH) (len_T ls)) zH) rfl ⟨by omega,by omega⟩) rfl (λd a S q o=>zAj q o) (λd a=>⟨rfl,λs n=>by rw[mem_singleton]at n;subst n;rfl⟩)
  (λd a=>by
   obtain⟨i,rfl,r⟩:=Yr a;exact t_E (yD (zA rfl) (jX (zA rfl) x_c (ix1 _ _)) (in_N true i g)))
  (λd a _=>⟨_,zA rfl,rfl⟩) (by rw[yU];dsimp[cap];omega) (zEL _ g)
 exact jY (zB c zH) (YB _)
def l_three(M:Mac m ls g)(v c:D)(h:Ls D)(w:∀d∈h,MacD d)(p:Ls D)(u s6 s7 o n:DV.Slot)(B:yQ u=true)(z:yQ s6=true)(y:yQ s7=true):∃x e a,dB jK Qg [.v v,.v c,.w p,.v (.l h),.v (mD ls g),u,s6,s7,o,n]=.ok (.nx,[.v v,.v c,.w p,.v (.l h),.v (mD ls g),x,e,a,o,n])/\yQ x=true/\yQ e=true/\yQ a=true:=by
 obtain⟨t,ht⟩:=zDt (sm_oth M);have r:zFX [mD ls (oth ls.length g)]=some (.v (.str t)):=ht;obtain⟨E',f,e,a,rfl,j,l⟩:=y9 (tg:=gN 6) (body:=dB jK Qf) (λk E=>∃e a,E=[.v v,.v c,.w p,.v (.l h),.v (mD ls g),.v (tN (oth ls.length g)),e,a,o,n]/\yQ e=true/\yQ a=true) h 0 [.v v,.v c,.w p,.v (.l h),.v (mD ls g),.v (tN (oth ls.length g)),s6,s7,o,n] ⟨s6,s7,rfl,z,y⟩
  (λi d q E ⟨e,a,G,j,l⟩=>by
   obtain⟨I,C,J,rfl,M'⟩:=w d (mem_of_getElem? q);obtain⟨H,f,hu⟩:=l_two M M' v c (.l h) p (.v (tN (oth ls.length g))) a o n l;refine⟨_,_,?_,f,_,H,rfl,rfl,hu⟩;subst G;cases e<;>first|rfl|(cases j))
 refine⟨_,e,a,zL (yP (x_oth M v c (.l h) p u s6 s7 o n) (vM rfl B rfl)) (zL (ye (t_E (yD (jY (zB (wd (F:=zj) rfl x_c (zA rfl) x_c (told_2 M)) zH) r) (jY (zB (jI (ds:=[.t (T ls),tN (oth ls.length g)]) (zB (jX (zA rfl) x_c (ix0 _ _)) (zB (zA rfl) zH)) rfl jP) zH) r) (ne_str t))) yf) (zK (zAo (tg:=.n 6) (zA rfl) rfl f))),rfl,j,l⟩
end
def InC(v:D)(E:za):Prop:=∃l i a h e j k c g,E=[.v v,l,i,a,h,e,j,k,c,g]/\yQ l=true/\yQ i=true/\yQ a=true/\yQ h=true/\yQ e=true/\yQ j=true/\yQ k=true/\yQ c=true/\yQ g=true
def ne_rep5:neG (.l (replicate 3 (.str "machine")++replicate 2 (.str "machine"))) (.l (replicate 5 (.str "machine")))=some (.v (.bl false)):=by kernel_rfl
def cell_ok(v:D)(c:Int)(s2 I G C s6 s7 w e:DV.Slot)(h2:yQ s2=true)(h3:yQ I=true)(h4:yQ G=true)(h5:yQ C=true)(h6:yQ s6=true)(h7:yQ s7=true)(h8:yQ w=true)(h9:yQ e=true):∃E2,dB jK v8 [.v v,.v (.int c),s2,I,G,C,s6,s7,w,e]=.ok (.nx,E2)/\InC v E2:=by
 obtain⟨p0,e1,Z⟩:=uE c;obtain⟨m1,r,l,p1,b1,aa,M1⟩:=JL Z (mx:=4) (by decide) (by decide);obtain⟨m2,t,u,p2,b2,ae,M2⟩:=JL aa (mx:=4) (by decide) (by decide);obtain⟨m3,p,n,L,b3,ab,M3⟩:=JL ae (mx:=12) (by decide) (by decide);obtain⟨a,J,e7,af,K⟩:=Gh M3 ab;have W:=zGJ a K;have Q:∀d∈[mD r l,mD t u,mD p n],MacD d:=λd H=>by
  rcases mem_cons.mp H with rfl|H
  ·exact⟨_,_,_,rfl,M1⟩
  ·rcases mem_cons.mp H with rfl|H
   ·exact⟨_,_,_,rfl,M2⟩
   ·rw[mem_singleton]at H;subst H;exact⟨_,_,_,rfl,M3⟩
 obtain⟨E',f,B,z,y,x,rfl,S,V,R,X⟩:=y9 (tg:=gN 4) (body:=dB jK Qg) (λk E=>∃B z y x,E=[.v v,.v (.int c),.w L,.v (.l [mD r l,mD t u,mD p n]),B,z,y,x,w,e]/\yQ B=true/\yQ z=true/\yQ y=true/\yQ x=true) [mD r l,mD t u,mD p n] 0 [.v v,.v (.int c),.w L,.v (.l [mD r l,mD t u,mD p n]),G,C,s6,s7,w,e] ⟨G,C,s6,s7,rfl,h4,h5,h6,h7⟩
  (λi d q E z9=>by
   obtain⟨B,z,y,x,hE,S,V,R,X⟩:=z9;obtain⟨m,ls,g,rfl,M⟩:=Q d (mem_of_getElem? q);obtain⟨u5,u6,u7,f,k5,k6,k7⟩:=l_three M v (.int c) [mD r l,mD t u,mD p n] Q L z y x w e V R X;refine⟨_,_,?_,f,_,u5,u6,u7,rfl,rfl,k5,k6,k7⟩;subst hE;cases B<;>first|rfl|(cases S))
 have x3:dE jK (.l (.cons (.call 4 (.lend 2 (.ev (.c (.int 4)) .nil))) (.cons (.call 4 (.lend 2 (.ev (.c (.int 4)) .nil))) (.cons (.call 4 (.lend 2 (.ev (.c (.int 12)) .nil))) .nil)))) [.v v,.v (.int c),.w p0,I,G,C,s6,s7,w,e]=.ok (.w [mD r l,mD t u,mD p n],[.v v,.v (.int c),.w L,I,G,C,s6,s7,w,e]) :=
  Yo (zB (Zw (E1:=[.v v,.v (.int c),.w p1,I,G,C,s6,s7,w,e]) (F:=zr) rfl rfl x_c b1 rfl) (zB (Zw (E1:=[.v v,.v (.int c),.w p2,I,G,C,s6,s7,w,e]) (F:=zr) rfl rfl x_c b2 rfl) (zB (Zw (E1:=[.v v,.v (.int c),.w L,I,G,C,s6,s7,w,e]) (F:=zr) rfl rfl x_c b3 rfl) zH))) rfl Wn
 have ac:ixD (.l [mD r l,mD t u,mD p n]) (.int 2)=some (.v (mD p n)):=rfl;have O:ixD (.l [mD r l,mD t u,mD p n]) (.int 0)=some (.v (mD r l)):=rfl;have x8:dE jK (.call 2 (.lend 2 (.ev (.ix (.x 3) (.c (.int 2))) .nil))) [.v v,.v (.int c),.w L,.v (.l [mD r l,mD t u,mD p n]),B,z,y,x,w,e]=.ok (.v a,[.v v,.v (.int c),.w J,.v (.l [mD r l,mD t u,mD p n]),B,z,y,x,w,e]) :=
  Zw (F:=yI) rfl rfl (jX (zA rfl) x_c ac) e7 rfl
 have go:∀{o:Out (Fl×za)},dB jK (.o (.sIf (.tNot (.tE (.call 0 (.ev (.x 8) .nil)))) (.s (.sSet 9 (.bin .add (.comp 1 ["_law_way"] ["_law_bad"] [8] (.iR1 (.cons (.c (.int 3)) .nil)) (.n 0) .tTr (.call 1 (.ev (.x 0) (.ev (.x 1) (.ev (.c .non) .nil))))) (.comp 1 ["_law_way"] ["_law_some","_law_bad"] [3,8] (.iR1 (.cons (.c (.int 2)) .nil)) (.n 0) .tTr (.call 1 (.ev (.x 0) (.ev (.ix (.x 1) (.c (.int 0))) (.ev (.x 2) .nil)))))))
   (.o (.sIf (.tE (.cmp .ne (.x 9) (.bin .mul (.l (.cons (.c (.str "machine")) .nil)) (.c (.int 5))))) (.o (.sRet (.c (.bl false)))) .bNil))) .bNil)) [.v v,.v (.int c),.w J,.v (.l [mD r l,mD t u,mD p n]),B,z,y,x,.v a,e]=o->dB jK v8 [.v v,.v (.int c),s2,I,G,C,s6,s7,w,e]=o:=λh =>
  zL (E1:=[.v v,.v (.int c),.w p0,I,G,C,s6,s7,w,e]) (yP (z9 (F:=jE) rfl (zA rfl) e1) (vM rfl h2 rfl)) (zL (E1:=[.v v,.v (.int c),.w L,.w [mD r l,mD t u,mD p n],G,C,s6,s7,w,e]) (yP x3 (vM rfl h3 rfl)) (zL (zAo (tg:=.n 4) (jy rfl rfl) rfl f) (zL (yP x8 (vM rfl h8 rfl)) h)))
 cases Y:mgB a with
 |true =>
  rw[Y]at W;exact⟨_,go (zK (ye (yz (t_E (z9 (F:=zx) rfl (zA rfl) W)) rfl) yf)),_,_,_,_,_,_,_,_,_,rfl,rfl,rfl,rfl,S,V,R,X,rfl,h9⟩
 |false =>
  rw[Y]at W;have c1:dE jK (.comp 1 ["_law_way"] ["_law_bad"] [8] (.iR1 (.cons (.c (.int 3)) .nil)) (.n 0) .tTr (.call 1 (.ev (.x 0) (.ev (.x 1) (.ev (.c .non) .nil))))) [.v v,.v (.int c),.w J,.v (.l [mD r l,mD t u,mD p n]),B,z,y,x,.v a,e]=.ok (.w (replicate 3 (.str "machine")),[.v v,.v (.int c),.w J,.v (.l [mD r l,mD t u,mD p n]),B,z,y,x,.v a,e]) :=
   j9 (ds:=DV.zP 0 3) (vs:=[a]) (λ_=>.str "machine") (i_R1 (j:=3) (zB x_c zH) rfl (by decide)) rfl (λd H=>by
    obtain⟨i,rfl,hi⟩:=Yr H;exact⟨_,wd (F:=zj) rfl (zA rfl) (zA rfl) x_c (zGU K Y hi),rfl⟩) (by rw[yU];simp[cap]) rfl
  have c2:dE jK (.comp 1 ["_law_way"] ["_law_some","_law_bad"] [3,8] (.iR1 (.cons (.c (.int 2)) .nil)) (.n 0) .tTr (.call 1 (.ev (.x 0) (.ev (.ix (.x 1) (.c (.int 0))) (.ev (.x 2) .nil))))) [.v v,.v (.int c),.w J,.v (.l [mD r l,mD t u,mD p n]),B,z,y,x,.v a,e]=.ok (.w (replicate 2 (.str "machine")),[.v v,.v (.int c),.w J,.v (.l [mD r l,mD t u,mD p n]),B,z,y,x,.v a,e]) :=
   j9 (ds:=DV.zP 0 2) (vs:=[.l [mD r l,mD t u,mD p n],a]) (λ_=>.str "machine") (i_R1 (j:=2) (zB x_c zH) rfl (by decide)) rfl (λd H=>by
    obtain⟨i,rfl,hi⟩:=Yr H;exact⟨_,wd (F:=zj) rfl (zA rfl) (jX (zA rfl) x_c O) (zA rfl) (zGV M1 K Y hi),rfl⟩) (by rw[yU];simp[cap]) rfl
  have ad:Jt (.l (replicate 3 (D.str "machine"))) (.l (replicate 2 (D.str "machine")))=some (.w (replicate 3 (D.str "machine")++replicate 2 (D.str "machine"))):=rfl;exact⟨_,go (zK (yX (yz (t_E (z9 (F:=zx) rfl (zA rfl) W)) rfl) (zL (E1:=[.v v,.v (.int c),.w J,.v (.l [mD r l,mD t u,mD p n]),B,z,y,x,.v a,.w (replicate 3 (D.str "machine")++replicate 2 (D.str "machine"))]) (yP (yq c1 c2 (o:=.add) ad) (vM rfl h9 rfl)) (zK (ye (t_E (yD (jy rfl rfl) (yq (Yo (zB x_c zH) rfl yr) x_c (zGB (.str "machine") 5 (by decide))) ne_rep5)) yf))))),_,_,_,_,_,_,_,_,_,rfl,rfl,rfl,rfl,S,V,R,X,rfl,rfl⟩
def math36(a:Ls Int)(G:a.length<=63):∃g,m_law [.v (.l (a.map D.int))]=.ok (.v (.bl true),g):=by
 obtain⟨c,n⟩:=W0 a;have e:j1 (a.map D.int) (some 1) (some 4)=((a.drop (HT.sIx a.length 0 (some 1))).take (HT.sIx a.length a.length (some 4)-HT.sIx a.length 0 (some 1))).map D.int:=by
  unfold j1;simp[List.map_drop,List.map_take]
 generalize R:(a.drop (HT.sIx a.length 0 (some 1))).take (HT.sIx a.length a.length (some 4)-HT.sIx a.length 0 (some 1))=k at e;have aa:k.length<=63:=by rw[<- R];simp;omega
 have y:slD (.l (a.map D.int)) (some 1) (some 4)=some (.w (k.map D.int)):=by dsimp[slD,e]
 have Q:=zDw [.int c] (k.map D.int) (by simp;omega);generalize hv:D.l (a.map D.int)=v at n y;obtain⟨E',h,⟨u1,J,M,K,W,u6,I,V,C,j,_⟩⟩:=y9 (tg:=gN 1) (body:=dB jK v8) (λ_ E=>InC v E) ([.int c]++k.map D.int) 0 [.v v,.e,.e,.e,.e,.e,.e,.e,.e,.e] ⟨_,_,_,_,_,_,_,_,_,rfl,rfl,rfl,rfl,rfl,rfl,rfl,rfl,rfl,rfl⟩
  (λi d q E z9=>by
   obtain⟨s1,u,l,B,p,t,w,o,z,j,Z,h2,L,h4,h5,X,S,O,Y⟩:=z9;obtain⟨x,rfl⟩:∃x:Int,d=.int x:=by
    have:=mem_of_getElem? q;rcases mem_append.mp this with m|m
    ·exact⟨c,mem_singleton.mp m⟩
    ·obtain⟨x,_,rfl⟩:=mem_map.mp m;exact⟨x,rfl⟩
   obtain⟨E2,h,H⟩:=cell_ok v x u l B p t w o z h2 L h4 h5 X S O Y;refine⟨[.v v,.v (.int x),u,l,B,p,t,w,o,z],E2,?_,h,H⟩;subst j;cases s1<;>first|rfl|(cases Z))
 subst j;refine⟨_,yF (r:=.v (.bl true)) (E1:=[.v v,u1,J,M,K,W,u6,I,V,C]) ?_ rfl⟩;exact zL (zAo (tg:=.n 1) (yq (Yo (zB (j8 (F:=yj) rfl (zA rfl) x_c n) zH) rfl yr) (x_sl (zA rfl) (o_S x_c) (o_S x_c) y) Q) rfl h) (zK (zt x_c))
end My
namespace My
open PySem L2 DV
def txt_lk{K:qH}{h:Heap}{mg:Str->Lx Lv}(X:K.In h)(G:h.Ns mainGlobals mg)(e:Z4 K=wants):Txt K mg :=
 have a:=congrArg (λx:lkT=>x.1) e;have g:=congrArg (λx:lkT=>x.2.1) e;have c:=congrArg (λx:lkT=>x.2.2.1) e
 {n_ValueError:=JX X G (ix 0 c),n_all:=JX X G (ix 1 c),n_bool:=JX X G (ix 2 c),n_enumerate:=JX X G (ix 3 c),n_int:=JX X G (ix 4 c),n_isinstance:=JX X G (ix 5 c),n_len:=JX X G (ix 6 c),n_list:=JX X G (ix 7 c),n_max:=JX X G (ix 8 c),n_min:=JX X G (ix 9 c),n_range:=JX X G (ix 10 c),n_repr:=JX X G (ix 11 c),n_set:=JX X G (ix 12 c),n_sorted:=JX X G (ix 13 c),n_tuple:=JX X G (ix 14 c),n_zip:=JX X G (ix 15 c),c_LEAST_SIGNS:=ct_at X G (ix 0 g),c_MOST_SIGNS:=ct_at X G (ix 1 g),c_MOST_STANDS:=ct_at X G (ix 2 g),f_is_whole:=jA X G (ix 0 a),f_is_whole_within:=jA X G (ix 1 a),f_all_within:=jA X G (ix 2 a),f_steps_good:=jA X G (ix 3 a),f_rising_stands:=jA X G (ix 4 a),f_machine_good:=jA X G (ix 5 a),f_need_machine:=jA X G (ix 6 a),f_signs_read:=jA X G (ix 7 a),f_need_alike:=jA X G (ix 8 a),f_contrary:=jA X G (ix 9 a),f_pair_behind:=jA X G (ix 10 a),f_met_pairs:=jA X G (ix 11 a),f_good_many:=jA X G (ix 12 a),f_joined:=jA X G (ix 13 a),f_both:=jA X G (ix 14 a),f_either:=jA X G (ix 15 a),f__law_cell_at:=jA X G (ix 16 a),f__law_next:=jA X G (ix 17 a),f__law_pen_of:=jA X G (ix 18 a),f__law_draw:=jA X G (ix 19 a),f__law_whole:=jA X G (ix 20 a),f__law_kind_of:=jA X G (ix 21 a),f__law_machine_by:=jA X G (ix 22 a),f__law_machine_good:=jA X G (ix 23 a),f__law_no_machine:=jA X G (ix 24 a),f__law_pairs:=jA X G (ix 25 a),f__law_due:=jA X G (ix 26 a),f__law_told:=jA X G (ix 27 a),f_law:=jA X G (ix 28 a),r_TooGreat:=ri_at X G (ix 29 a),cl:=cl_at X G (congrArg (λx:lkT=>x.2.2.2) e)}
end My
end
open PySem PySem.W PyProof.Rows
set_option maxRecDepth 100000 in
set_option maxHeartbeats 0 in
theorem PySem.Challenge.cw_throwruns_k36_machines_put_together_holds : PySem.Challenge.rw_throwruns_k36_machines_put_together.Holds := by
 w_on;refine holds_law My.hz λc=>?_
 refine holds_open (q:=My.qP) (loose:=My.ls) (Xt:=λs=>xlAt My.qP [] s&&recOk (RowW.records (OpenLaw.row PySem.Challenge.rw_throwruns_k36_machines_put_together).toRowW) s) (XP:=XL My.qP []) (Yf:=λs=>My.Z4 (DV.YE s.heap My.as)) (Ya:=λ_=>My.wants) (YP:=(DV.zAl My.as My.lkT My.Z4 My.wants).says) (N:=5870) My.hl (DV.zAl My.as My.lkT My.Z4 My.wants).of (DV.zAl My.as My.lkT My.Z4 My.wants).keeps (λs e=>xl_of s (Bool.and_eq_true_iff.mp e).1) XL.keeps (by rfl) (by rfl) (by rfl) (λs e=>recFacts_of (Bool.and_eq_true_iff.mp e).2) ?h4 ?h5 ?h6 ⟨rfl,rfl,rfl,rfl,rfl,by decide +kernel⟩ ?hw ?hc
 case h4=>rfl
 case h5=>first|assumption|decide +kernel
 case h6=>decide +kernel
 case hw=>w_witness2
 case hc=>exact DV.walkE (l:=PySem.Challenge.rw_throwruns_k36_machines_put_together) (x:="_law_script") My.math36 rfl rfl λw K i g h KX e G a=>My.law_fd a (My.txt_lk KX G e)
