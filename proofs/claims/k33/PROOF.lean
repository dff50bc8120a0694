import PyProof.Rows.All
import KE.KFromBytes
import KE.KSortTup
import KE.KIsAll
import PySem.Challenge.RW_throwruns_k33_machines_looked_at
set_option Elab.async false
set_option linter.all false
set_option genSizeOf false
set_option genSizeOfSpec false
set_option genInjectivity false
set_option maxRecDepth 100000
set_option maxHeartbeats 0
theorem DV.nf{P:Prop}(h:false=true):P:=absurd h Bool.false_ne_true
open List (take_append_drop mem_filter mem_range filterMap_cons mem_cons_self mem_cons_of_mem mem_cons mem_append mem_append_left getElem?_set_self getElem?_set_ne mem_filterMap mem_append_right append_nil nodup_cons of_mem_zip replicate length getElem?_map mem_of_getElem? length_append length_map zip_cons_cons length_cons length_nil size_toArray filterMap_map map_cons all_cons any_cons reverse_cons replicate_succ flatten_cons foldl append_assoc sublist_cons_self nodup_append nil_append perm_append_comm sublist_append_right getElem_map drop_eq_getElem_cons drop_length perm_middle eq_of_mem_replicate lookup_cons all_eq_true mem_nil_iff getD_eq_getElem?_getD getElem?_eq_getElem getElem_toArray getElem_mem range_succ toArray zipWith getElem_of_mem pairwise_cons map_map mem_map pairwise_map mem_singleton isEmpty_iff)
open Nat (lt_of_lt_of_le lt_irrefl ne_of_lt le_trans ne_of_gt le_refl zero_le lt_succ_self lt_succ_of_lt not_lt le_succ zero_add)
open PySem.W (clsIn typeIn findIn specialIn takesIn nsIn codeIn keepIn fnOf excIn instObj methodObj hideAll hideAll_get of_hideAll plainGet emptyDict mroIn cellsFrom_some codeRec_of kitOne kia_one mg_of)
open PySem.Heap (lt_size get?_push_of_some get?_push_size size_push get?_update_self get?_update_other)
noncomputable section
namespace L2
open PySem
def wQ(s:Stmt):Arguments:=match s with
 | .FunctionDef _ a _ _ _ _ _ _ _ _=>a
 |_=>{posonlyargs:=[],args:=[],vararg:=none,kwonlyargs:=[],kw_defaults:=[],kwarg:=none,defaults:=[]}
def yd(s:Stmt):List Stmt:=match s with
 | .FunctionDef _ _ b _ _ _ _ _ _ _=>b
 |_=>[]
def zT(s:Stmt):Scope:=match s with
 | .FunctionDef _ _ _ _ _ _ sc _ _ _=>sc
 |_=>{kind:=.function,names:=[],isGenerator:=false,isCoroutine:=false}
end L2
namespace DV
open PySem L2
abbrev VB:List Value:=[.type "ValueError",.type "Exception",.type "BaseException",.type "object"]
def xIn(K:PySem.W.Frag)(c:Str)(C T:Addr):Bool:=(match clsIn K C with|some cd=>cd.name==c&&cd.mro==[.ref C,.ref T,.type "ValueError",.type "Exception",.type "BaseException",.type "object"]|none=>false)
 && typeIn K (.ref C)==some (.type "type")&&findIn K (.ref C) "__getattribute__" == some (some (.builtin "BaseException.__getattribute__"))&&findIn K (.ref C) "__getattr__" == some none
 && findIn K (.ref C) "__class__" == some (some (.builtin "object.__class__"))&&specialIn K (.builtin "object.__class__") "__get__" == some (some (.builtin "getset_descriptor.__get__"))&&takesIn K (.builtin "object.__class__")==some true&&!(C==T)
def tIn(K:PySem.W.Frag)(T:Addr):Bool:=(match clsIn K T with|some cd=>cd.mro==(.ref T::VB)|none=>false)&&typeIn K (.ref T)==some (.type "type")
def isFr:Obj->Bool
 |⟨_,_,.freed,_⟩=>true
 |_=>false
def Zf:List Obj->Nat->List Addr->PySem.W.Frag
 | [],_,_=>[]
 |_::_,_,[]=>[]
 |o::os,i,a::as=>match Nat.beq i a with
  |true=>(match isFr o with
   |true=>Zf os (i+1) as
   |false=>(i,o)::Zf os (i+1) as)
  |false=>Zf os (i+1) (a::as)
def wd(h:Heap)(as:List Addr):PySem.W.Frag:=Zf h.objs.toList 0 as
def FvT:Type:=Bool×Str×Str×Arguments×FuncBody×Scope×Addr×List (Str×Addr)×Value×Addr
def fvOf(b:Bool)(fd:FuncData):FvT:=(b,fd.name,fd.qualname,fd.params,fd.body,fd.scope,fd.globals,fd.closure,fd.defaults,fd.builtins)
def jQ(K:PySem.W.Frag)(n:Str):Option FvT:=match nsIn K mainGlobals n with
 |some (some (.ref a))=>(match K.lookup a with
  |some ⟨_,_,.func fd,_⟩=>some (fvOf (codeIn K fd.code n&&keepIn K (.ref a)) fd)
  |_=>none)
 |_=>none
def jg(n:Str)(st:Stmt):Option FvT:=some (fvOf true (fnOf n n (wQ st) (yd st) (zT st) .none .none .none .none none .none .none))
def Zg(K:PySem.W.Frag)(n:Str):Option Int:=match nsIn K mainGlobals n with
 |some (some (.int i _))=>some i
 |_=>none
def yu(K:PySem.W.Frag)(n:Str):Bool:=match nsIn K mainGlobals n with
 |some none=>true
 |_=>false
def wH(K:PySem.W.Frag)(n:Str):Option Addr:=match nsIn K mainGlobals n with
 |some (some (.ref a))=>some a
 |_=>none
def ui(K:PySem.W.Frag):Bool:=match K.lookup sysModules with
 |some o=>(match o.data with | .dict _ _=>true|_=>false)
 |none=>false
def zA1(K:PySem.W.Frag)(cl rs:List Str):Bool :=
 (cl.isEmpty||(match wH K "ThrowError" with
  |some T=>tIn K T&&cl.all λc=>(match wH K c with|some C=>xIn K c C T|none=>false)
  |none=>false)) &&
 (rs.all λc=>(match wH K c with|some C=>excIn K C VB "ValueError.__new__" |none=>false))&&ui K
end DV
namespace My
open PySem L2 DV
def top(i:Nat):Stmt:=PySem.Challenge.pw_throwruns_k33_machines_looked_at.main.body.getD i (.Pass ⟨0,0,0,0⟩)
abbrev Yk:Stmt:=top 1
abbrev jH:Stmt:=top 2
abbrev JR:Stmt:=top 7
abbrev JS:Stmt:=top 8
abbrev jj:Stmt:=top 9
abbrev wI:Stmt:=top 10
abbrev wJ:Stmt:=top 12
abbrev J0:Stmt:=top 13
abbrev we:Stmt:=top 14
abbrev J1:Stmt:=top 15
abbrev JT:Stmt:=top 16
abbrev jI:Stmt:=top 17
abbrev yw:Stmt:=top 18
abbrev jJ:Stmt:=top 19
abbrev JU:Stmt:=top 20
abbrev s_law:Stmt:=top 21
def cl_:List Str:=[]
def rs_:List Str:=[]
def lkT:Type:=List (Option FvT)×List (Option Int)×List Bool×Bool
def J2(K:PySem.W.Frag):lkT:=([jQ K "is_whole",jQ K "is_whole_within",jQ K "all_within",jQ K "steps_good",jQ K "rising_stands",jQ K "machine_good",jQ K "_law_cell_at",jQ K "_law_next",jQ K "_law_pen_of",jQ K "_law_draw",jQ K "_law_whole",jQ K "_law_machine_by",jQ K "_law_machine_good",jQ K "_law_no_machine",jQ K "_law_right",jQ K "law"],[Zg K "LEAST_SIGNS",Zg K "MOST_SIGNS",Zg K "MOST_STANDS"],[yu K "all",yu K "bool",yu K "int",yu K "isinstance",yu K "len",yu K "list",yu K "max",yu K "min",yu K "range",yu K "set",yu K "sorted",yu K "tuple",yu K "zip"],zA1 K cl_ rs_)
def wants:lkT:=([jg "is_whole" Yk,jg "is_whole_within" jH,jg "all_within" JR,jg "steps_good" JS,jg "rising_stands" jj,jg "machine_good" wI,jg "_law_cell_at" wJ,jg "_law_next" J0,jg "_law_pen_of" we,jg "_law_draw" J1,jg "_law_whole" JT,jg "_law_machine_by" jI,jg "_law_machine_good" yw,jg "_law_no_machine" jJ,jg "_law_right" JU,jg "law" s_law],[some 2,some 3,some 12],[true,true,true,true,true,true,true,true,true,true,true,true,true],true)
def q0:Program:=PySem.Challenge.pw_throwruns_k33_machines_looked_at
def isLaw:Stmt->Bool
 | .FunctionDef f ..=>f == "law"
 |_=>false
def q:Program:={q0 with main:={q0.main with body:=q0.main.body.filter isLaw}}
def nameOf:Stmt->List Str
 | .FunctionDef f ..=>[f]
 | .ClassDef f ..=>[f]
 | .Assign [.Name x _] _ _=>[x]
 |_=>[]
def ls:List Str:=(q0.main.body.flatMap nameOf).filter (· != "law")
def as:List Addr:=[1,2,3,6,15,17,18,20,21,22,24,25,27,28,29,32,33,34,37,38,39,42,43,44,46,47,49,50,51,53,54,56,57,58,60,61,63,64,65,67,68,70,71,72,74,75,77,78,79,81,82,84,85,86,89,90,91,94,95,96,98,99,101,102,103,105,106,108,109,110,112,113,115,116]
end My
section
open PySem PySem.W PyProof.Rows
theorem My.hz:OpenLaw.wellSaid PySem.Challenge.rw_throwruns_k33_machines_looked_at=true:=by decide +kernel
theorem My.h2{α β γ:Type}{o:Option α}{f:α->β}{g:α->γ}{b:β}{c:γ}(h1:o.map f=some b)(h2:o.map g=some c):o.map (λs=>(f s,g s))=some (b,c):=by
 cases o with
 |none=>cases h1
 |some s=>cases h1;cases h2;rfl
theorem My.hu:∀(w:World) (os:OsState),(topFrom treeTable (OpenLaw.row PySem.Challenge.rw_throwruns_k33_machines_looked_at).toRowW.prog w 1186 ⟨boot_heap w.params,#[],boot_drawn,boot_toks,os⟩).map (λs=>openSeen My.q My.ls (importedModules (OpenLaw.row PySem.Challenge.rw_throwruns_k33_machines_looked_at).toRowW.prog.main.body) (λs=>xlAt My.q [] s&&recOk (RowW.records (OpenLaw.row PySem.Challenge.rw_throwruns_k33_machines_looked_at).toRowW) s) true s)=some (openGood My.q My.ls):=by
 intro w os
 kernel_rfl
theorem My.h4{α γ:Type}{o:Option α}{g:α->List γ}{w:List γ}(n:Nat)(ha:o.map (λs=>(g s).take n)=some (w.take n))(hb:o.map (λs=>(g s).drop n)=some (w.drop n)):o.map g=some w:=by
 cases o with
 |none=>cases ha
 |some s=>exact congrArg some ((take_append_drop n (g s)).symm.trans ((congr (congrArg HAppend.hAppend (Option.some.inj ha)) (Option.some.inj hb)).trans (take_append_drop n w)))
theorem My.h5{α γ δ:Type}{o:Option α}{g:α->γ×δ}{w:γ×δ}(ha:o.map (λs=>(g s).1)=some w.1)(hc:o.map (λs=>(g s).2)=some w.2):o.map g=some w:=by
 cases o with
 |none=>cases ha
 |some s=>exact congrArg some (Prod.ext (Option.some.inj ha) (Option.some.inj hc))
theorem My.hv0:∀(w:World) (os:OsState),(topFrom treeTable (OpenLaw.row PySem.Challenge.rw_throwruns_k33_machines_looked_at).toRowW.prog w 1186 ⟨boot_heap w.params,#[],boot_drawn,boot_toks,os⟩).map (λs=>((My.J2 (DV.wd s.heap My.as)).1.take 28))=some (My.wants.1.take 28):=by
 intro w os
 kernel_rfl
theorem My.hv1:∀(w:World) (os:OsState),(topFrom treeTable (OpenLaw.row PySem.Challenge.rw_throwruns_k33_machines_looked_at).toRowW.prog w 1186 ⟨boot_heap w.params,#[],boot_drawn,boot_toks,os⟩).map (λs=>((My.J2 (DV.wd s.heap My.as)).1.drop 28))=some (My.wants.1.drop 28):=by
 intro w os
 kernel_rfl
theorem My.hvc:∀(w:World) (os:OsState),(topFrom treeTable (OpenLaw.row PySem.Challenge.rw_throwruns_k33_machines_looked_at).toRowW.prog w 1186 ⟨boot_heap w.params,#[],boot_drawn,boot_toks,os⟩).map (λs=>(My.J2 (DV.wd s.heap My.as)).2)=some My.wants.2:=by
 intro w os
 kernel_rfl
theorem My.hv(w:World)(os:OsState):(topFrom treeTable (OpenLaw.row PySem.Challenge.rw_throwruns_k33_machines_looked_at).toRowW.prog w 1186 ⟨boot_heap w.params,#[],boot_drawn,boot_toks,os⟩).map (λs=>My.J2 (DV.wd s.heap My.as))=some My.wants:=My.h5 (My.h4 28 (My.hv0 w os) (My.hv1 w os)) (My.hvc w os)
theorem My.ht:∀(w:World) (os:OsState),(topFrom treeTable (OpenLaw.row PySem.Challenge.rw_throwruns_k33_machines_looked_at).toRowW.prog w 1186 ⟨boot_heap w.params,#[],boot_drawn,boot_toks,os⟩).map (λs=>(openSeen My.q My.ls (importedModules (OpenLaw.row PySem.Challenge.rw_throwruns_k33_machines_looked_at).toRowW.prog.main.body) (λs=>xlAt My.q [] s&&recOk (RowW.records (OpenLaw.row PySem.Challenge.rw_throwruns_k33_machines_looked_at).toRowW) s) true s,My.J2 (DV.wd s.heap My.as)))=some (openGood My.q My.ls,My.wants):=λw os=>My.h2 (My.hu w os) (My.hv w os)
theorem My.ho:opening (OpenLaw.row PySem.Challenge.rw_throwruns_k33_machines_looked_at).toRowW.prog=plainProg (OpenLaw.row PySem.Challenge.rw_throwruns_k33_machines_looked_at).toRowW.prog.main.scope.names:=by kernel_rfl
theorem My.hf:∀s,fenceModules? (OpenLaw.row PySem.Challenge.rw_throwruns_k33_machines_looked_at).toRowW.prog s=some s:=by
 intro s
 kernel_rfl
theorem My.hl:LeftO (OpenLaw.row PySem.Challenge.rw_throwruns_k33_machines_looked_at).toRowW.prog My.q My.ls (λs=>xlAt My.q [] s&&recOk (RowW.records (OpenLaw.row PySem.Challenge.rw_throwruns_k33_machines_looked_at).toRowW) s) (λs=>My.J2 (DV.wd s.heap My.as)) (λ_=>My.wants) 1186:=by
 intro w;obtain⟨s,hs,hv⟩:=Option.map_eq_some_iff.mp (boot_open My.ho (N:=1186) rfl My.hf w);unfold openEnds;rw[hs];obtain⟨h,g,d,t,os⟩:=s;have h1:h=boot_heap w.params:=congrArg Prod.fst hv;have h2:g=#[]:=congrArg (λx=>x.2.1) hv;have h3:d=boot_drawn:=congrArg (λx=>x.2.2.1) hv;have h4:t=boot_toks:=congrArg (λx=>x.2.2.2) hv;subst h1;subst h2;subst h3;subst h4;exact My.ht w os
end
namespace L2
open PySem PySem.Spec PyProof.Rows
abbrev Key:=Sum Int Str
def keyIs:Key->Value->Bool
 | .inl k,v=>Value.isInt k v
 | .inr x,v=>Value.isStrOf x v
def keyH(w:World):Key->Int
 | .inl k=>hashInt k
 | .inr x=>hashStr w x
theorem zu:∀{k:Key} {v:Value},keyIs k v=true->(∃i t,k=Sum.inl i/\v=Value.int i t)\/(∃x t,k=Sum.inr x/\v=Value.str x t)
 | .inl i,v,h=>by
  obtain⟨t,e⟩:=Value.isInt_shape (k:=i) (v:=v) h;exact .inl ⟨i,t,rfl,e⟩
 | .inr x,v,h=>by
  obtain⟨t,e⟩:=Value.isStrOf_shape (x:=x) (v:=v) h;exact .inr ⟨x,t,rfl,e⟩
theorem key_ll(a b:Int):decide ((Sum.inl a:Key)=Sum.inl b)=(a==b):=by
 by_cases e:a=b
 ·subst e;simp
 ·have h:¬(Sum.inl a:Key)=Sum.inl b:=λq=>e (Sum.inl.inj q)
  rw[decide_eq_false h];exact(beq_eq_false_iff_ne.mpr e).symm
theorem key_rr(a b:Str):decide ((Sum.inr a:Key)=Sum.inr b)=decide (a=b):=by
 by_cases e:a=b
 ·subst e;simp
 ·have h:¬(Sum.inr a:Key)=Sum.inr b:=λq=>e (Sum.inr.inj q)
  rw[decide_eq_false h,decide_eq_false e]
theorem key_lr(a:Int)(b:Str):decide ((Sum.inl a:Key)=Sum.inr b)=false:=decide_eq_false (λq=>nomatch q)
theorem key_rl(a:Str)(b:Int):decide ((Sum.inr a:Key)=Sum.inl b)=false:=decide_eq_false (λq=>nomatch q)
def Wb(prog:Program)(w:World):PySem.KeyKind prog w Key where
 is:=keyIs
 hash:=keyH w
 inj:=λv a b ha hb=>by
  rcases zu ha with⟨i,t,rfl,rfl⟩|⟨x,t,rfl,rfl⟩
  ·rcases zu hb with⟨j,u,rfl,e⟩|⟨y,u,rfl,e⟩
   ·injection e with e1 _;rw[e1]
   ·exact nomatch e
  ·rcases zu hb with⟨j,u,rfl,e⟩|⟨y,u,rfl,e⟩
   ·exact nomatch e
   ·injection e with e1 _;rw[e1]
 byValue:=λk v h=>by
  rcases zu h with⟨i,t,rfl,rfl⟩|⟨x,t,rfl,rfl⟩<;>rfl
 pyHash:=λhv h=>by
  rcases zu hv with⟨i,t,rfl,rfl⟩|⟨x,t,rfl,rfl⟩
  ·exact wpAny_pyHash_int h
  ·exact wpAny_pyHash_str h
 eqBool:=λhu hv h=>by
  rcases zu hu with⟨i,t,rfl,rfl⟩|⟨x,t,rfl,rfl⟩
  ·rcases zu hv with⟨j,u,rfl,rfl⟩|⟨y,u,rfl,rfl⟩
   ·rw[key_ll]at h;exact wpAny_eqBool_int h
   ·rw[key_lr]at h;exact SeqAt.EqAt.int_str i t y u _ _ _ _ h
  ·rcases zu hv with⟨j,u,rfl,rfl⟩|⟨y,u,rfl,rfl⟩
   ·rw[key_rl]at h;exact SeqAt.EqAt.str_int x t j u _ _ _ _ h
   ·rw[key_rr]at h;exact wpAny_eqBool_str h
 «strs»:=λk x t v h=>by
  rcases zu h with⟨i,u,rfl,e⟩|⟨y,u,rfl,e⟩
  ·exact nomatch e
  ·injection e with e1 _
   subst e1;cases v<;>rfl
end L2
namespace L2
open PySem PySem.Spec PyProof.Rows
set_option genInjectivity true in
inductive V where
 |non|bl (b:Bool)|int (i:Int)|str (x:Str)|byt (b:Array UInt8)|flt (b:UInt64)|ref (a:Addr)|ty (n:String)
 deriving DecidableEq
def zv:V->Value->Prop
 | .non,u=>u=Value.none
 | .bl b,u=>u=Value.bool b
 | .int i,u=>∃t,u=Value.int i t
 | .str x,u=>∃t,u=Value.str x t
 | .byt b,u=>∃t,u=Value.bytes b t
 | .flt b,u=>∃t,u=Value.float b t
 | .ref a,u=>u=Value.ref a
 | .ty n,u=>u=Value.type n
abbrev zZ:List V->List Value->Prop:=Paired zv
theorem zZ.length{xs:List V}{us:List Value}(r:zZ xs us):xs.length=us.length:=Paired.length r
theorem zZ.get:∀{xs:List V} {us:List Value} {i:Nat} {x:V},zZ xs us->xs[i]?=some x->∃u,us[i]?=some u/\zv x u
 |_,_,_,_,.nil,e=>by simp at e
 |_,_,0,_,.cons r _,e=>by simp at e;subst e;exact⟨_,rfl,r⟩
 |_,_,i+1,x,.cons _ t,e=>by
  obtain⟨u,h1,h2⟩:=zZ.get (i:=i) (x:=x) t (by simpa using e);exact⟨u,by simpa using h1,h2⟩
theorem zZ.set{x:V}{u:Value}(r:zv x u):∀{xs:List V} {us:List Value} (i:Nat),zZ xs us->zZ (xs.set i x) (us.set i u)
 |_,_,_,.nil=>.nil
 |_,_,0,.cons _ t=>.cons r t
 |_,_,i+1,.cons q t=>.cons q (zZ.set r i t)
theorem zZ.append:∀{xs ys:List V} {us ws:List Value},zZ xs us->zZ ys ws->zZ (xs++ys) (us++ws)
 |_,_,_,_,.nil,s=>s
 |_,_,_,_,.cons r t,s=>.cons r (zZ.append t s)
theorem zZ.take:∀{xs:List V} {us:List Value} (n:Nat),zZ xs us->zZ (xs.take n) (us.take n)
 |_,_,0,_=>.nil
 |_,_,_+1,.nil=>.nil
 |_,_,n+1,.cons r t=>.cons r (zZ.take n t)
theorem zZ.drop:∀{xs:List V} {us:List Value} (n:Nat),zZ xs us->zZ (xs.drop n) (us.drop n)
 |_,_,0,r=>r
 |_,_,_+1,.nil=>.nil
 |_,_,n+1,.cons _ t=>zZ.drop n t
def RelO:Option V->Option Value->Prop
 |some v,some u=>zv v u
 |none,none=>True
 |_,_=>False
def KV{κ:Type}:List (κ×V)->List (κ×Value)->Prop:=Paired λ(p:κ×V) (q:κ×Value)=>p.1=q.1/\zv p.2 q.2
def kV:Key->V
 | .inl i=>.int i
 | .inr x=>.str x
inductive HO where
 /-- a list -/
 |lst (xs:List V)
 /-- a tuple (never changes) -/
 |tup (xs:List V)
 /-- a dict whose keys are ints and texts; one whose keys are tuples of ints and texts (the empty one is both) -/
 |dK (kvs:List (Key×V))|dT (kvs:List (List Key×V))
 /-- a set of ints: its members,its size -/
 |set (S:Int->Bool) (n:Nat)
 /-- an instance of the class at C,its dict at dx,its attributes -/
 |ins (C dx:Addr) (fs:List (Str×V))
 /-- the dict of the instance at x -/
 |own (x:Addr)
 /-- the dict of an exception -/
 |xd (fs:List (Str×V))
 /-- a bound method,f of x -/
 |met (f x:Addr)
 /-- a range object lo,lo+1,.. below hi -/
 |rng (lo hi:Int)
 /-- a thing that is known to the object (the script; a dict while a loop walks it): read,never written while it is so -/
 |frz (o:Obj) (u:HO)
 /-- a code object's table -/
 |tbl (ps:Array Value)
 /-- any other thing,by what is true of its one object (a def of one's own: SetO a S n:=HO.ext fun h=>..) -/
 |ext (φ:Heap->Prop)
abbrev Hp:=Addr->Option HO
def upd(H:Hp)(a:Addr)(o:HO):Hp:=λb=>if b=a then some o else H b
theorem y3{H:Hp}{a:Addr}{o:HO}:upd H a o a=some o:=by unfold upd;rw[if_pos rfl]
theorem zg{H:Hp}{a b:Addr}{o:HO}(h:b≠a):upd H a o b=H b:=by unfold upd;rw[if_neg h]
theorem jK{H:Hp}{a b:Addr}{o:HO}(h:H a=some o)(h':H b=none):a≠b:=by
 intro e;subst e;rw[h]at h';cases h'
section
variable(P:Program)(w:World)
def jR(H:Hp)(h:Heap)(a:Addr):HO->Prop
 | .lst xs=>xs.length<=sizeLine/\∃(its:List Value) (n:Nat),zZ xs its/\h.get? a=some {cls:=.type "list",data:=.seq its.toArray n}
 | .tup xs=>xs.length<=sizeLine/\∃its:List Value,zZ xs its/\IsTup h a its.toArray
 | .dK kvs=>kvs.length<=sizeLine/\(a==sysModules)=false/\∃vs,KV kvs vs/\h.DictOf (Wb P w) a vs
 | .dT kvs=>kvs.length<=sizeLine/\(a==sysModules)=false/\∃xs:List (List Key×Addr×Value),
   Paired (λ(p:List Key×V) (q:List Key×Addr×Value)=>p.1=q.1/\H q.2.1=some (.tup (p.1.map kV))/\zv p.2 q.2.2) kvs xs /\
   ∃o es ep,h.get? a=some o/\o.ExactDict/\o.data=.dict es ep/\es.toList=xs.map (entryOfKey (tupleKind (Wb P w)))/\(xs.map (·.1)).Nodup
 | .set S n=>h.SetOf (intKind P w) a S n
 | .ins C dx fs=>H dx=some (.own a)/\fs.length<=1000/\dx≠a/\h.get? a=some (instObj C dx) /\
   ∃mA,h.Ns1 dx mA/\(∀f,RelO (fs.lookup f) (mA f))/\PySem.Within mA (fs.map (·.1))
 | .own _=>∃o,h.get? a=some o
 | .xd fs=>∃mA,h.Ns1 a mA/\∀f,RelO (fs.lookup f) (mA f)
 | .rng lo hi=>∃t u v,h.get? a=some {cls:=.type "range",data:=.fields #[.int lo t,.int hi u,.int 1 v]}
 | .frz o u=>h.get? a=some o/\jR H h a u
 | .tbl ps=>h.get? a=some {cls:=.none,data:=.fields ps}
 | .met f x=>h.get? a=some (methodObj (.ref f) (.ref x))
 | .ext φ=>φ h/\(∃o,h.get? a=some o)/\∀h1 h2:Heap,φ h1->(∀o,h1.get? a=some o->h2.get? a=some o)->φ h2
def HOk(H:Hp)(h:Heap):Prop:=∀a o,H a=some o->jR P w H h a o
end
section
variable{P:Program}{w:World}{H H':Hp}{h h':Heap}{a:Addr}{o:HO}
theorem jR.lt(x:jR P w H h a o):a<h.objs.size:=by
 cases o with
 |lst xs=>obtain⟨_,_,_,_,e⟩:=x;exact lt_size e
 |tup xs=>obtain⟨_,_,_,p⟩:=x;exact p.lt
 |dK kvs=>obtain⟨_,_,_,_,o,_,_,e,_⟩:=x;exact lt_size e
 |dT kvs=>obtain⟨_,_,_,_,o,_,_,e,_⟩:=x;exact lt_size e
 |set S n=>obtain⟨o,_,_,_,e,_⟩:=x;exact lt_size e
 |ins C dx fs=>obtain⟨_,_,_,e,_⟩:=x;exact lt_size e
 |own y=>obtain⟨_,e⟩:=x;exact lt_size e
 |xd fs=>obtain⟨_,⟨_,_,_,e,_⟩,_⟩:=x;exact lt_size e
 |rng lo hi=>obtain⟨_,_,_,e⟩:=x;exact lt_size e
 |frz ob u=>obtain⟨e,_⟩:=x;exact lt_size e
 |tbl ps=>exact lt_size (show h.get? a=some _ from x)
 |met f y=>exact lt_size (show h.get? a=some _ from x)
 |ext φ=>obtain⟨_,⟨_,e⟩,_⟩:=x;exact lt_size e
theorem Paired.mapP{α β:Type}{F G:α->β->Prop}:∀{l₁:List α} {l₂:List β},Paired F l₁ l₂->(∀a b,F a b->G a b)->Paired G l₁ l₂
 |_,_,.nil,_=>.nil
 |_,_,.cons r t,f=>.cons (f _ _ r) (Paired.mapP t f)
theorem jR.stay(x:jR P w H h a o)(k:∀b u,(b=a\/H b=some (.own a))->h.get? b=some u->h'.get? b=some u)
  (ho:∀b,H b=some (.own a)->H' b=some (.own a)) (ht:∀b xs,H b=some (.tup xs)->H' b=some (.tup xs)):jR P w H' h' a o:=by
 induction o with
 |lst xs=>obtain⟨z,its,n,r,e⟩:=x;exact⟨z,its,n,r,k _ _ (.inl rfl) e⟩
 |tup xs=>obtain⟨z,its,r,ob,e,c⟩:=x;exact⟨z,its,r,ob,k _ _ (.inl rfl) e,c⟩
 |dK kvs=>obtain⟨z,y,vs,r,ob,es,ep,e,c⟩:=x;exact⟨z,y,vs,r,ob,es,ep,k _ _ (.inl rfl) e,c⟩
 |dT kvs =>
  obtain⟨z,y,xs,r,ob,es,ep,e,c⟩:=x;exact⟨z,y,xs,Paired.mapP r λp q z=>⟨z.1,ht _ _ z.2.1,z.2.2⟩,ob,es,ep,k _ _ (.inl rfl) e,c⟩
 |set S n=>obtain⟨ob,es,ep,t,e,c⟩:=x;exact⟨ob,es,ep,t,k _ _ (.inl rfl) e,c⟩
 |ins C dx fs =>
  obtain⟨d,z,ne,e,mA,⟨od,es,ep,e2,c⟩,r⟩:=x;exact⟨ho _ d,z,ne,k _ _ (.inl rfl) e,mA,⟨od,es,ep,k _ _ (.inr d) e2,c⟩,r⟩
 |own y=>obtain⟨ob,e⟩:=x;exact⟨ob,k _ _ (.inl rfl) e⟩
 |xd fs=>obtain⟨mA,⟨od,es,ep,e,c⟩,r⟩:=x;exact⟨mA,⟨od,es,ep,k _ _ (.inl rfl) e,c⟩,r⟩
 |rng lo hi=>obtain⟨t,u,v,e⟩:=x;exact⟨t,u,v,k _ _ (.inl rfl) e⟩
 |frz ob u ih=>obtain⟨e,q⟩:=x;exact⟨k _ _ (.inl rfl) e,ih q⟩
 |tbl ps =>
  have e:h.get? a=some {cls:=.none,data:=.fields ps}:=x;show h'.get? a=some {cls:=.none,data:=.fields ps};exact k a _ (.inl rfl) e
 |met f y =>
  have e:h.get? a=some (methodObj (.ref f) (.ref y)):=x;show h'.get? a=some (methodObj (.ref f) (.ref y));exact k a _ (.inl rfl) e
 |ext φ=>obtain⟨p,⟨o,e⟩,st⟩:=x;exact⟨st _ _ p λo q=>k _ _ (.inl rfl) q,⟨o,k _ _ (.inl rfl) e⟩,st⟩
theorem HOk.lt(x:HOk P w H h)(e:H a=some o):a<h.objs.size:=(x a o e).lt
theorem HOk.fresh(x:HOk P w H h)(e:h.objs.size<=a):H a=none:=by
 cases q:H a with
 |none=>rfl
 |some u=>exact absurd (lt_of_lt_of_le (x.lt q) e) (lt_irrefl _)
theorem HOk.kept(x:HOk P w H h)(k:∀b u,h.get? b=some u->h'.get? b=some u):HOk P w H h':=λa o e =>
 (x a o e).stay (λb u _ q=>k b u q) (λ_ q=>q) λ_ _ q=>q
theorem HOk.laid(x:HOk P w H h)(k:∀b u,h.get? b=some u->h'.get? b=some u)(hp:h.objs.size<=a)(new:jR P w (upd H a o) h' a o):HOk P w (upd H a o) h':=λb u e=>by
 have hn:=x.fresh hp;by_cases hb:b=a
 ·subst hb;rw[y3]at e;cases e;exact new
 ·rw[zg hb]at e
  exact(x b u e).stay (λc v _ q=>k c v q) (λc q=>by rw[zg (jK q hn)];exact q) λc xs q=>by rw[zg (jK q hn)];exact q
end
def Rd(H:Hp)(a:Addr)(u:HO):Prop:=H a=some u\/∃o,H a=some (.frz o u)
theorem Rd.of{H:Hp}{a:Addr}{u:HO}(h:H a=some u):Rd H a u:=.inl h
theorem Rd.ok{P:Program}{w:World}{H:Hp}{h:Heap}{a:Addr}{u:HO}(r:Rd H a u)(x:HOk P w H h):jR P w H h a u:=by
 rcases r with r|⟨o,r⟩
 ·exact x a u r
 ·obtain⟨_,q⟩:=x a _ r
  exact q
def Mut:Option HO->Prop
 |some (.lst _)=>True
 |some (.dK _)=>True
 |some (.dT _)=>True
 |some (.set _ _)=>True
 |some (.ins _ _ _)=>True
 |some (.ext _)=>True
 |_=>False
section
variable{P:Program}{w:World}{H:Hp}{h h':Heap}{x e:Addr}{o':HO}
theorem HOk.write(ok:HOk P w H h)(mu:Mut (H x))(he:e=x\/H e=some (.own x))(k:∀b u,b≠e->h.get? b=some u->h'.get? b=some u)(heo:∃u,h'.get? e=some u)
  (new:jR P w (upd H x o') h' x o'):HOk P w (upd H x o') h':=λb u q=>by
 have nown:∀c y,H c=some (.own y)->c≠x:=λc y r z=>by subst z;rw[r]at mu;exact mu
 have ntup:∀c xs,H c=some (.tup xs)->c≠x:=λc xs r z=>by subst z;rw[r]at mu;exact mu
 by_cases hb:b=x
 ·subst hb;rw[y3]at q;cases q;exact new
 ·rw[zg hb]at q
  by_cases hbe:b=e
  ·have q':H b=some (.own x):=by
    rcases he with z|z
    ·exact absurd (hbe.trans z) hb
    ·rw[hbe];exact z
   rw[q]at q';cases q';obtain⟨v,hv⟩:=heo;exact⟨v,by rw[hbe];exact hv⟩
  ·refine(ok b u q).stay (λc v hc r=>k c v ?_ r) (λc r=>by rw[zg (nown c b r)];exact r) λc xs r=>by rw[zg (ntup c xs r)];exact r
   rcases hc with rfl|hc
   ·exact hbe
   ·rintro rfl
    rcases he with z|z
    ·exact nown c b hc z
    ·rw[hc]at z;cases z;exact hb rfl
end
structure Un(fs ex:List Addr)(H H':Hp)(h h':Heap):Prop where
 keep:∀b o,h.get? b=some o->H b=none->b∉fs->b∉ex->h'.get? b=some o
 slot:∀b o,h.get? b=some o->H b=none->b∈fs->b∉ex->∃sl,h'.get? b=some {o with slots:=sl}
 free:∀b o,h.get? b=some o->H b=none->b∉ex->H' b=none
 there:∀b o,h.get? b=some o->b∉ex->∃o',h'.get? b=some o'
 tups:∀b xs,H b=some (.tup xs)->H' b=some (.tup xs)
 frzs:∀b o u,H b=some (.frz o u)->H' b=some (.frz o u)
 tbls:∀b ps,H b=some (.tbl ps)->∃more,H' b=some (.tbl (ps++more))
section
variable{fs fs' ex ex':List Addr}{H H1 H2:Hp}{h h1 h2 h':Heap}{a x e:Addr}{o:HO}
theorem Un.any(u:Un fs ex H H1 h h1){b:Addr}{ob:Obj}(q:h.get? b=some ob)(n:H b=none)(hx:b∉ex):∃sl,h1.get? b=some {ob with slots:=sl}:=by
 by_cases hb:b∈fs
 ·exact u.slot b ob q n hb hx
 ·exact⟨ob.slots,u.keep b ob q n hb hx⟩
theorem Un.trans(a:Un fs ex H H1 h h1)(b:Un fs ex H1 H2 h1 h2):Un fs ex H H2 h h2 where
 keep:=λc ob q n hc hx=>b.keep c ob (a.keep c ob q n hc hx) (a.free c ob q n hx) hc hx
 slot:=λc ob q n hc hx=>by
  obtain⟨sl,e1⟩:=a.slot c ob q n hc hx;obtain⟨sl',e2⟩:=b.slot c _ e1 (a.free c ob q n hx) hc hx;exact⟨sl',e2⟩
 free:=λc ob q n hx=>by
  obtain⟨o',e1⟩:=a.there c ob q hx;exact b.free c o' e1 (a.free c ob q n hx) hx
 there:=λc ob q hx=>by
  obtain⟨o',e1⟩:=a.there c ob q hx;exact b.there c o' e1 hx
 tups:=λc xs q=>b.tups c xs (a.tups c xs q)
 frzs:=λc ob xs q=>b.frzs c ob xs (a.frzs c ob xs q)
 tbls:=λc ps q=>by
  obtain⟨m1,e1⟩:=a.tbls c ps q;obtain⟨m2,e2⟩:=b.tbls c _ e1;exact⟨m1++m2,by rw[e2,Array.append_assoc]⟩
theorem Un.kept(k:∀b u,h.get? b=some u->h'.get? b=some u):Un fs ex H H h h' :=
 ⟨λb ob q _ _ _=>k b ob q,λb ob q _ _ _=>⟨ob.slots,k b ob q⟩,λ_ _ _ n _=>n,λb ob q _=>⟨ob,k b ob q⟩,λ_ _ q=>q,λ_ _ _ q=>q,λ_ ps q=>⟨#[],by rw[q];simp⟩⟩
theorem Un.refl:Un fs ex H H h h:=Un.kept λ_ _ q=>q
theorem Un.laid(k:∀b u,h.get? b=some u->h'.get? b=some u)(hp:h.objs.size<=a)(hn:H a=none):Un fs ex H (upd H a o) h h' where
 keep:=λb u q _ _ _=>k b u q
 slot:=λb u q _ _ _=>⟨u.slots,k b u q⟩
 free:=λb u q n _=>by rw[zg (ne_of_lt (lt_of_lt_of_le (lt_size q) hp))];exact n
 there:=λb u q _=>⟨u,k b u q⟩
 tups:=λb xs q=>by rw[zg (jK q hn)];exact q
 frzs:=λb u xs q=>by rw[zg (jK q hn)];exact q
 tbls:=λb ps q=>⟨#[],by rw[zg (jK q hn),q];simp⟩
theorem Un.write(mu:Mut (H x))(he:e=x\/H e=some (.own x))(k:∀b u,b≠e->h.get? b=some u->h'.get? b=some u)(heo:∃u,h'.get? e=some u):Un fs ex H (upd H x o) h h':=by
 have hx:∀b,H b=none->b≠x:=λb n z=>by subst z;rw[n]at mu;exact mu
 have hb:∀b,H b=none->b≠e:=λb n z=>by
  subst z;rcases he with r|r
  ·exact hx b n r
  ·rw[n]at r;cases r
 have hm:∀b u,H b=some u->¬Mut (some u)->b≠x:=λb u q nm z=>by subst z;rw[q]at mu;exact nm mu
 refine⟨λb u q n _ _=>k b u (hb b n) q,λb u q n _ _=>⟨u.slots,k b u (hb b n) q⟩,λb u q n _=>by rw[zg (hx b n)];exact n,λb u q _=>?_,
  λb xs q=>by rw[zg (hm b _ q λz=>z)];exact q,λb u xs q=>by rw[zg (hm b _ q λz=>z)];exact q,λb ps q=>⟨#[],by rw[zg (hm b _ q λz=>z),q];simp⟩⟩
 by_cases hbe:b=e
 ·subst hbe;exact heo
 ·exact⟨u,k b u hbe q⟩
theorem Un.mono(u:Un fs ex H H1 h h1)(hs:∀b∈fs,b∈fs')(hx:∀b∈ex,b∈ex'):Un fs' ex' H H1 h h1 :=
 ⟨λb ob q n hb he=>u.keep b ob q n (λz=>hb (hs b z)) λz=>he (hx b z),λ_ _ q n _ he=>u.any q n λz=>he (hx _ z),λb ob q n he=>u.free b ob q n λz=>he (hx b z),λb ob q he=>u.there b ob q λz=>he (hx b z),u.tups,u.frzs,u.tbls⟩
end
def trk(h:Heap)(H:Hp):List Addr:=(List.range h.objs.size).filter λa=>(H a).isSome
def Qs(h:Heap)(H:Hp):Heap:=hideAll h (trk h H)
theorem uj(h:Heap)(H:Hp):(Qs h H).objs.size=h.objs.size:=PySem.W.hideAll_size _ _
theorem Qt{h:Heap}{H:Hp}{b:Addr}{o:Obj}(e:h.get? b=some o)(n:H b=none):(Qs h H).get? b=some o :=
 hideAll_get _ e λhm=>by
  have q:(H b).isSome=true:=(mem_filter.mp hm).2;rw[n]at q;simp at q
theorem of_hidT{h:Heap}{H:Hp}{b:Addr}{o:Obj}(e:(Qs h H).get? b=some o):h.get? b=some o/\H b=none:=by
 have e':h.get? b=some o:=of_hideAll (trk h H) e;refine⟨e',?_⟩;cases q:H b with
 |none=>rfl
 |some x =>
  have hm:b∈trk h H:=mem_filter.mpr ⟨mem_range.mpr (lt_size e'),by simp[q]⟩;have z:(Qs h H).get? b=none:=PySem.W.hideAll_none (trk h H) hm;rw[z]at e;cases e
def allNews(g h:Heap)(L:Addr):List (Addr×Obj):=(List.range h.objs.size).filterMap λa=>if a=L\/(g.get? a).isSome=true then none else(h.get? a).map λo=>(a,o)
def ji(g h:Heap)(L d:Addr):List (Addr×Obj):=(allNews g h L).filter λp=>decide (p.1≠d)
end L2
namespace L2
open PySem PySem.Spec PyProof.Rows
structure Mod(K:PySem.W.Frag)(mg:Str->Option Value)(base:Heap):Prop where
 kin:K.In base
 glob:base.Ns mainGlobals mg
 blt:∃mb,base.Ns builtinsNs mb/\∀x:Str,x≠"__name__"->mb x=bootBuiltins x
 nolimit:base.NoLimit
structure Cx where
 prog:Program
 w:World
 K:PySem.W.Frag
 mg:Str->Option Value
 base:Heap
 A:Around
 N:List Str
 s₀:Shared
 H₀:Hp
 env:Env
 outer:List Env
 stack:List Env
 ex:List Addr
 fn:Str->Bool
 calm:Bool
 pn:List (Addr×Obj)
 xe:Value->Shared->Prop
def frs(l:List Env):List Addr:=l.filterMap (·.frame)
abbrev Cx.fs(X:Cx):List Addr:=frs X.outer
def Vis(sc:Scope)(x:Str):Prop:=sc.names.lookup x=some .local\/sc.names.lookup x=some .cell\/sc.names.lookup x=some .free
def Loc(sc:Scope)(x:Str):Prop:=sc.names.lookup x=some .local\/sc.names.lookup x=some .cell
def Look(env:Env)(h:Heap)(m:Str->Option Value)(x:Str)(u:Value):Prop :=
 (env.kindOf x=some .local/\m x=some u)\/((env.kindOf x=some .cell\/env.kindOf x=some .free)/\∃c,env.cells.lookup x=some c/\h.IsCell c (some u))
structure Cx.Ok(X:Cx):Prop where
 mod:Mod X.K X.mg X.base
 kind:X.env.scope.kind=.function
 glob:X.env.globals=mainGlobals
 blt:X.env.builtins=builtinsNs
 above:X.s₀.heap.objs.size<=X.env.locals
 inj:∀x y c,X.env.cells.lookup x=some c->X.env.cells.lookup y=some c->x=y
 has:∀x,(X.env.kindOf x=some .cell\/X.env.kindOf x=some .free)->∃c,X.env.cells.lookup x=some c
 cab:∀x c,X.fn x=true->X.env.cells.lookup x=some c->X.s₀.heap.objs.size<=c
 hd:X.calm=true->X.A.handled=none
 frames:X.A.frames=some X.stack
 stk:X.stack=X.outer\/(X.stack=X.env::X.outer/\X.env.frame=some X.env.locals)
 exf:∀b∈X.ex,b≠X.env.locals/\∀x c,X.env.cells.lookup x=some c->c≠b
 bs:∀b o,X.base.get? b=some o->X.s₀.heap.get? b=some o/\X.H₀ b=none
 bsz:X.base.objs.size<=X.s₀.heap.objs.size
 noex:∀b o,X.base.get? b=some o->b∉X.ex
 exfs:∀b∈X.ex,b∉X.fs
 funs:X.s₀.heap.FunFrames X.base X.outer
 frf:∀b∈X.fs,X.H₀ b=none
structure Inv(X:Cx)(pins:List (Addr×Obj))(σ:List (Option V))(H:Hp)(s:Shared):Prop where
 ok:X.Ok
 os:s.os=X.s₀.os
 bare:AllBare s.gens
 base:Un X.fs X.ex X.H₀ H X.s₀.heap s.heap
 loc:∃m,s.heap.Ns X.env.locals m/\∀(i:Nat) (x:Str) (v:V),X.N[i]?=some x->σ[i]?=some (some v)->Vis X.env.scope x->∃u,zv v u/\Look X.env s.heap m x u
 cell:∀x c,X.env.cells.lookup x=some c->∃v,s.heap.IsCell c v
 free:H X.env.locals=none
 freeC:∀x c,X.env.cells.lookup x=some c->H c=none
 pin:∀p∈X.pn++pins,s.heap.get? p.1=some p.2/\H p.1=none/\p.1≠X.env.locals/\p.1∉X.fs/\∀v,p.2.data≠.cell v
 hok:HOk X.prog X.w H s.heap
 len:σ.length=X.N.length
section
variable{X:Cx}{pins:List (Addr×Obj)}{σ:List (Option V)}{H H':Hp}{s:Shared}{h':Heap}
theorem Cx.Ok.nofr(ok:X.Ok){b:Addr}{o:Obj}(e:X.base.get? b=some o):b∉X.fs:=λhb=>by
 have:=(ok.funs.mem hb).1;rw[e]at this;cases this
theorem Inv.bs(I:Inv X pins σ H s):∀b o,X.base.get? b=some o->s.heap.get? b=some o/\H b=none:=λb o e =>
 ⟨I.base.keep b o (I.ok.bs b o e).1 (I.ok.bs b o e).2 (I.ok.nofr e) (I.ok.noex b o e),I.base.free b o (I.ok.bs b o e).1 (I.ok.bs b o e).2 (I.ok.noex b o e)⟩
theorem Inv.bk(I:Inv X pins σ H s):∀b o,X.base.get? b=some o->s.heap.get? b=some o:=λb o e=>(I.bs b o e).1
theorem Inv.mod(I:Inv X pins σ H s):Mod X.K X.mg X.base:=I.ok.mod
theorem Inv.kIn(I:Inv X pins σ H s):X.K.In s.heap:=I.ok.mod.kin.keeps I.bk
theorem Inv.nolimit(I:Inv X pins σ H s):s.heap.NoLimit:=I.ok.mod.nolimit.keeps I.bk
theorem Inv.fr(I:Inv X pins σ H s):∃m,Fr X.base X.env.locals s.heap m :=
 let ⟨m,hn,_⟩:=I.loc
 ⟨m,hn,I.bk,le_trans I.ok.bsz I.ok.above⟩
theorem Inv.lt(I:Inv X pins σ H s):X.env.locals<s.heap.objs.size:=let ⟨_,hn,_⟩:=I.loc;hn.lt
theorem Inv.sz(I:Inv X pins σ H s):X.s₀.heap.objs.size<=s.heap.objs.size:=le_trans I.ok.above (Nat.le_of_lt I.lt)
theorem Inv.nofs(I:Inv X pins σ H s){a:Addr}(h:s.heap.objs.size<=a):a∉X.fs:=λhb=>by
 obtain⟨_,o,ho,_⟩:=I.ok.funs.mem hb;exact absurd (lt_of_lt_of_le (lt_size ho) (le_trans I.sz h)) (lt_irrefl _)
theorem Inv.cne(I:Inv X pins σ H s):∀x c,X.env.cells.lookup x=some c->c≠X.env.locals:=λx c e z=>by
 obtain⟨v,o,ho,hd⟩:=I.cell x c e;obtain⟨m,⟨o',es,ep,ho',hd',_⟩,_⟩:=I.loc;rw[z,ho']at ho;cases ho;rw[hd']at hd;cases hd
theorem Inv.funs(I:Inv X pins σ H s):s.heap.FunFrames X.base X.outer:=by
 have all:∀(l:List Env),(∀b∈frs l,b∈X.fs)->X.s₀.heap.FunFrames X.base l->s.heap.FunFrames X.base l:=by
  intro l
  induction l with
  |nil=>intro _ _;trivial
  |cons env r ih =>
   intro hs hl;obtain⟨hk,⟨L,o,hf,hn,ho,hd⟩,hr⟩:=hl;have hL:L∈X.fs:=hs L (by unfold frs;rw[filterMap_cons,hf];exact mem_cons_self);obtain⟨sl,e⟩:=I.base.slot L o ho (I.ok.frf L hL) hL λz=>I.ok.exfs L z hL
   exact⟨hk,⟨L,_,hf,hn,e,hd⟩,ih (λb hb=>hs b (by unfold frs;rw[filterMap_cons,hf];exact mem_cons_of_mem _ hb)) hr⟩
 exact all X.outer (λ_ hb=>hb) I.ok.funs
theorem Inv.stack(I:Inv X pins σ H s):s.heap.FunFrames X.base X.stack:=by
 rcases I.ok.stk with e|⟨e,hf⟩
 ·rw[e];exact I.funs
 ·rw[e]
  obtain⟨m,hn,_⟩:=I.loc;refine .cons (by rw[I.ok.kind];decide) hf hn ?_ I.funs;exact Heap.get?_none_of_le (le_trans I.ok.bsz I.ok.above)
theorem Inv.stkSub(I:Inv X pins σ H s):∀b∈frs X.stack,b∈X.env.locals::X.fs:=λb hb=>by
 rcases I.ok.stk with e|⟨e,hf⟩
 ·rw[e]at hb;exact mem_cons_of_mem _ hb
 ·rw[e]at hb
  unfold frs at hb;rw[filterMap_cons,hf]at hb;exact hb
theorem Inv.stkFree(I:Inv X pins σ H s):∀b∈frs X.stack,H b=none:=λb hb=>by
 rcases mem_cons.mp (I.stkSub b hb)with e|hb
 ·rw[e];exact I.free
 ·obtain⟨_,o,ho,_⟩:=I.ok.funs.mem hb
  exact I.base.free b o ho (I.ok.frf b hb) λz=>I.ok.exfs b z hb
theorem Inv.step{g':Array GenState}{t':Nat}{d':Drawn}{ch:List Addr}(I:Inv X pins σ H s)
  (hch:∀b∈ch,(b∈X.ex\/X.s₀.heap.objs.size<=b)/\b≠X.env.locals/\(∀x c,X.env.cells.lookup x=some c->c≠b)/\∀p∈X.pn++pins,p.1≠b)
  (keep:∀b o,b≠X.env.locals->b∉X.fs->b∉ch->s.heap.get? b=some o->H b=none->h'.get? b=some o)
  (slot:∀b o,b≠X.env.locals->b∈X.fs->b∉ch->s.heap.get? b=some o->H b=none->∃sl,h'.get? b=some {o with slots:=sl}) (free:∀b o,b∉ch->s.heap.get? b=some o->H b=none->H' b=none)
  (there:∀b o,b∉ch->s.heap.get? b=some o->∃o',h'.get? b=some o')
  (tups:∀b xs,H b=some (.tup xs)->H' b=some (.tup xs)) (frzs:∀b o u,H b=some (.frz o u)->H' b=some (.frz o u)) (tbls:∀b ps,H b=some (.tbl ps)->∃more,H' b=some (.tbl (ps++more)))
  (ns:∀m,s.heap.Ns X.env.locals m->h'.Ns X.env.locals m) (hok:HOk X.prog X.w H' h') (hg:AllBare g') :
  Inv X pins σ H' {s with heap:=h',gens:=g',drawn:=d',toks:=t'}:=by
 have neL:∀b o,X.s₀.heap.get? b=some o->b≠X.env.locals:=λb o e=>ne_of_lt (lt_of_lt_of_le (lt_size e) I.ok.above)
 have neC:∀b o,X.s₀.heap.get? b=some o->b∉X.ex->b∉ch:=λb o e hx hb=>by
  rcases(hch b hb).1 with z|z
  ·exact hx z
  ·exact absurd (lt_of_lt_of_le (lt_size e) z) (lt_irrefl _)
 have cellK:∀x c,X.env.cells.lookup x=some c->∀v,s.heap.IsCell c v->h'.IsCell c v:=λx c e v ⟨o,ho,hd⟩=>by
  have nch:c∉ch:=λz=>(hch c z).2.2.1 x c e rfl
  by_cases hc:c∈X.fs
  ·obtain⟨sl,q⟩:=slot c o (I.cne x c e) hc nch ho (I.freeC x c e)
   exact⟨_,q,hd⟩
  ·exact⟨o,keep c o (I.cne x c e) hc nch ho (I.freeC x c e),hd⟩
 refine⟨I.ok,I.os,hg,⟨λb o e n hb hx=>?_,λb o e n hb hx=>?_,λb o e n hx=>?_,λb o e hx=>?_,λb xs e=>tups b xs (I.base.tups b xs e),λb o xs e=>frzs b o xs (I.base.frzs b o xs e),λb ps e=>?_⟩,?_,λx c e=>?_,?_,λx c e=>?_,λp hp=>?_,hok,I.len⟩
 ·exact keep b o (neL b o e) hb (neC b o e hx) (I.base.keep b o e n hb hx) (I.base.free b o e n hx)
 ·obtain⟨sl,e1⟩:=I.base.slot b o e n hb hx
  obtain⟨sl',e2⟩:=slot b _ (neL b o e) hb (neC b o e hx) e1 (I.base.free b o e n hx);exact⟨sl',e2⟩
 ·obtain⟨o',e1⟩:=I.base.there b o e hx
  exact free b o' (neC b o e hx) e1 (I.base.free b o e n hx)
 ·obtain⟨o',e1⟩:=I.base.there b o e hx
  exact there b o' (neC b o e hx) e1
 ·obtain⟨m1,e1⟩:=I.base.tbls b ps e
  obtain⟨m2,e2⟩:=tbls b _ e1;exact⟨m1++m2,by rw[e2,Array.append_assoc]⟩
 ·obtain⟨m,hn,hl⟩:=I.loc
  refine⟨m,ns m hn,λi x v e1 e2 e3=>?_⟩;obtain⟨u,r,l⟩:=hl i x v e1 e2 e3;refine⟨u,r,?_⟩;rcases l with l|⟨k,c,e,z⟩
  ·exact .inl l
  ·exact .inr ⟨k,c,e,cellK x c e _ z⟩
 ·obtain⟨v,z⟩:=I.cell x c e
  exact⟨v,cellK x c e v z⟩
 ·obtain⟨m,⟨o,_,_,ho,_⟩,_⟩:=I.loc
  exact free _ o (λz=>(hch _ z).2.1 rfl) ho I.free
 ·obtain⟨v,o,ho,hd⟩:=I.cell x c e
  exact free c o (λz=>(hch c z).2.2.1 x c e rfl) ho (I.freeC x c e)
 ·obtain⟨e,n,ne,nf,d⟩:=I.pin p hp
  have nch:p.1∉ch:=λz=>(hch p.1 z).2.2.2 p hp rfl
  exact⟨keep p.1 p.2 ne nf nch e n,free p.1 p.2 nch e n,ne,nf,d⟩
theorem Inv.un{t':Nat}(I:Inv X pins σ H s)(u:Un X.fs [] H H' s.heap h')(hok:HOk X.prog X.w H' h'):Inv X pins σ H' {s with heap:=h',toks:=t'}:=by
 obtain⟨m,⟨o,es,ep,ho,r⟩,_⟩:=id I.loc;obtain⟨sl,hL⟩:=u.any ho I.free (by simp);exact I.step (g':=s.gens) (d':=s.drawn) (ch:=[]) (λ_ z=>nomatch z) (λb o _ hb _ e n=>u.keep b o e n hb (by simp)) (λb o _ hb _ e n=>u.slot b o e n hb (by simp)) (λb o _ e n=>u.free b o e n (by simp)) (λb o _ e=>u.there b o e (by simp)) u.tups u.frzs u.tbls (λm' hm=>by
  obtain⟨o',es',ep',ho',r'⟩:=hm;rw[ho]at ho';cases ho';exact⟨_,es',ep',hL,r'⟩) hok I.bare
theorem Inv.call{g':Array GenState}{t':Nat}{d':Drawn}{ch:List Addr}(I:Inv X pins σ H s)(u:Un (frs X.stack) ch H H' s.heap h')(hok:HOk X.prog X.w H' h')(hg:AllBare g')
  (hch:∀b∈ch,(b∈X.ex\/X.s₀.heap.objs.size<=b)/\b≠X.env.locals/\(∀x c,X.env.cells.lookup x=some c->c≠b)/\∀p∈X.pn++pins,p.1≠b) :
  Inv X pins σ H' {s with heap:=h',gens:=g',drawn:=d',toks:=t'}:=by
 obtain⟨m,⟨o,es,ep,ho,r⟩,_⟩:=id I.loc;obtain⟨sl,hL⟩:=u.any ho I.free λz=>(hch _ z).2.1 rfl
 exact I.step (ch:=ch) hch (λb o hL hb hc e n=>u.keep b o e n (λz=>(mem_cons.mp (I.stkSub b z)).elim hL hb) hc) (λb o _ _ hc e n=>u.any e n hc) (λb o hc e n=>u.free b o e n hc) (λb o hc e=>u.there b o e hc) u.tups u.frzs u.tbls (λm' hm=>by
  obtain⟨o',es',ep',ho',r'⟩:=hm;rw[ho]at ho';cases ho';exact⟨_,es',ep',hL,r'⟩) hok hg
theorem Inv.turned{t':Nat}{it:Addr}(I:Inv X pins σ H s)(k:∀b o,b≠it->s.heap.get? b=some o->h'.get? b=some o)(hn:H it=none)(hL:it≠X.env.locals)
  (h1:it∈X.ex\/X.s₀.heap.objs.size<=it) (h2:∀x c,X.env.cells.lookup x=some c->c≠it) (h3:∀p∈X.pn++pins,p.1≠it):Inv X pins σ H {s with heap:=h',toks:=t'}:=by
 have nit:∀b u,H b=some u->b≠it:=λb u e z=>by rw[z,hn]at e;cases e
 refine I.step (g':=s.gens) (d':=s.drawn) (ch:=[it]) (λb hb=>?_) (λb o _ _ hc e _=>k b o (λz=>hc (by simp[z])) e) (λb o _ _ hc e _=>⟨o.slots,k b o (λz=>hc (by simp[z])) e⟩) (λ_ _ _ _ n=>n)
  (λb o hc e=>⟨o,k b o (λz=>hc (by simp[z])) e⟩) (λ_ _ e=>e) (λ_ _ _ e=>e) (λb ps e=>⟨#[],by rw[e];simp⟩) (λm hm=>?_) (λb u e=>?_) I.bare
 ·have e:b=it:=by simpa using hb
  subst e;exact⟨h1,hL,h2,h3⟩
 ·obtain⟨o,es,ep,ho,r⟩:=hm
  exact⟨o,es,ep,k _ o (Ne.symm hL) ho,r⟩
 ·refine(I.hok b u e).stay (λc v hc q=>k c v ?_ q) (λ_ q=>q) λ_ _ q=>q
  rcases hc with z|z
  ·rw[z];exact nit b u e
  ·exact nit c _ z
theorem Inv.tok(I:Inv X pins σ H s)(t:Nat):Inv X pins σ H {s with toks:=t}:=I.un (h':=s.heap) (t':=t) Un.refl I.hok
theorem Inv.kept{t':Nat}(I:Inv X pins σ H s)(k:∀b u,s.heap.get? b=some u->h'.get? b=some u):Inv X pins σ H {s with heap:=h',toks:=t'}:=I.un (Un.kept k) (I.hok.kept k)
theorem Inv.laid{a:Addr}{o:HO}{t':Nat}(I:Inv X pins σ H s)(k:∀b u,s.heap.get? b=some u->h'.get? b=some u)(hp:s.heap.objs.size<=a)(new:jR X.prog X.w (upd H a o) h' a o) :
  Inv X pins σ (upd H a o) {s with heap:=h',toks:=t'}:=I.un (Un.laid k hp (I.hok.fresh hp)) (I.hok.laid k hp new)
theorem Inv.write{x e:Addr}{o:HO}{t':Nat}(I:Inv X pins σ H s)(mu:Mut (H x))(he:e=x\/H e=some (.own x))(k:∀b u,b≠e->s.heap.get? b=some u->h'.get? b=some u)(heo:∃u,h'.get? e=some u)
  (new:jR X.prog X.w (upd H x o) h' x o):Inv X pins σ (upd H x o) {s with heap:=h',toks:=t'}:=I.un (Un.write mu he k heo) (I.hok.write mu he k heo new)
theorem Inv.weak{σ':List (Option V)}(I:Inv X pins σ H s)(hl:σ'.length=σ.length)(w:∀(i:Nat) v,σ'[i]?=some (some v)->σ[i]?=some (some v)):Inv X pins σ' H s :=
 ⟨I.ok,I.os,I.bare,I.base,let ⟨m,hn,hl'⟩:=I.loc;⟨m,hn,λi x v e1 e2 e3=>hl' i x v e1 (w i v e2) e3⟩,I.cell,I.free,I.freeC,I.pin,I.hok,hl.trans I.len⟩
theorem Inv.pins_of{pins':List (Addr×Obj)}(I:Inv X pins σ H s)(h:∀p∈pins',s.heap.get? p.1=some p.2/\H p.1=none/\p.1≠X.env.locals/\p.1∉X.fs/\∀v,p.2.data≠.cell v):Inv X pins' σ H s :=
 ⟨I.ok,I.os,I.bare,I.base,I.loc,I.cell,I.free,I.freeC,λp hp=>(mem_append.mp hp).elim (λz=>I.pin p (mem_append_left _ z)) (h p),I.hok,I.len⟩
theorem vD{N:List Str}(hN:N.Nodup){i j:Nat}{x:Str}(a:N[i]?=some x)(b:N[j]?=some x):i=j:=by
 obtain⟨h1,e1⟩:=List.getElem?_eq_some_iff.mp a;obtain⟨h2,e2⟩:=List.getElem?_eq_some_iff.mp b;exact(List.getElem_inj hN).mp (e1.trans e2.symm)
theorem Zh{M:Model}{A:Around}{E:Value->Shared->Prop}{i:Nat}{x:Str}{v:V}{u:Value}{Q:Unit->Shared->Prop}(I:Inv X pins σ H s)(hN:X.N.Nodup)(hi:X.N[i]?=some x)(hx:Loc X.env.scope x)(r:zv v u)
  (h:∀s',Inv X pins (σ.set i (some v)) H s'->(∃a,Heap.SameBut a s.heap s'.heap/\(a=X.env.locals\/X.env.cells.lookup x=some a))->Q () s') (hf:X.fn x=true\/X.env.scope.names.lookup x=some .local:=by first|exact .inl rfl|exact .inr rfl|assumption):wpAny M A (storeName X.env x u) Q E s:=by
 obtain⟨m,hn,hl⟩:=id I.loc;have hcls:(X.env.scope.kind==.class||(X.env.scope.kind==.module&&X.env.locals != X.env.globals))=false:=by rw[I.ok.kind];rfl
 have hiσ:i<σ.length:=by rw[I.len];exact(List.getElem?_eq_some_iff.mp hi).1
 have cne:=I.cne;have tracked:∀{a:Addr} {h':Heap},(∃o,s.heap.get? a=some o/\H a=none)->Heap.SameBut a s.heap h'->HOk X.prog X.w H h':=λ{a h'} ha hs b ob e=>by
  obtain⟨_,_,hfree⟩:=ha;refine(I.hok b ob e).stay (λc w' hc q=>(hs.2 c ?_).trans q) (λ_ q=>q) λ_ _ q=>q
  rintro rfl
  rcases hc with rfl|hc
  ·rw[hfree]at e;cases e
  ·rw[hfree]at hc;cases hc
 rcases hx with hk|hk
 ·refine wpAny_storeName_local hk hn (λh' hn' hs=>?_) hcls
  obtain⟨oL,_,_,hoL,_⟩:=id hn;refine h _ ⟨I.ok,I.os,I.bare,⟨λb o e n hb hx=>?_,λb o e n hb hx=>?_,I.base.free,λb o e hx=>?_,I.base.tups,I.base.frzs,I.base.tbls⟩,⟨_,hn',λj y v' e1 e2 e3=>?_⟩,λy c e=>?_,I.free,I.freeC,λp hp=>?_,tracked ⟨oL,hoL,I.free⟩ hs,by simpa using I.len⟩ ⟨_,hs,.inl rfl⟩
  ·exact(hs.2 b (ne_of_lt (lt_of_lt_of_le (lt_size e) I.ok.above))).trans (I.base.keep b o e n hb hx)
  ·obtain⟨sl,e1⟩:=I.base.slot b o e n hb hx
   exact⟨sl,(hs.2 b (ne_of_lt (lt_of_lt_of_le (lt_size e) I.ok.above))).trans e1⟩
  ·obtain⟨o',e1⟩:=I.base.there b o e hx
   exact⟨o',(hs.2 b (ne_of_lt (lt_of_lt_of_le (lt_size e) I.ok.above))).trans e1⟩
  ·by_cases hj:j=i
   ·subst hj
    rw[hi]at e1;cases e1;rw[getElem?_set_self hiσ]at e2;cases e2;exact⟨u,r,.inl ⟨hk,by simp⟩⟩
   ·rw[getElem?_set_ne (Ne.symm hj)]at e2
    obtain⟨u',r',q⟩:=hl j y v' e1 e2 e3;refine⟨u',r',?_⟩;rcases q with⟨k,e⟩|⟨k,c,e,z⟩
    ·refine .inl ⟨k,?_⟩
     have:y≠x:=λe=>hj (vD hN e1 (e▸hi))
     simp[this,e]
    ·exact .inr ⟨k,c,e,z.sameBut hs (cne y c e)⟩
  ·obtain⟨w',z⟩:=I.cell y c e
   exact⟨w',z.sameBut hs (cne y c e)⟩
  ·obtain⟨e,n,ne,nf,d⟩:=I.pin p hp
   exact⟨(hs.2 p.1 ne).trans e,n,ne,nf,d⟩
 ·have hfn:X.fn x=true:=by
   rcases hf with z|z
   ·exact z
   ·rw[z]at hk;cases hk
  obtain⟨c,hc⟩:=I.ok.has x (.inl hk);obtain⟨w',z⟩:=I.cell x c hc;refine wpAny_storeName_cell I.ok.kind hk hc z (λh' hc' hs=>?_);obtain⟨oc,hoc,hocd⟩:=id z;refine h {s with heap:=h'} ⟨I.ok,I.os,I.bare,⟨λb o e n hb hx=>?_,λb o e n hb hx=>?_,I.base.free,λb o e hx=>?_,I.base.tups,I.base.frzs,I.base.tbls⟩,⟨m,hn.sameBut hs (Ne.symm (cne x c hc)),λj y v' e1 e2 e3=>?_⟩,λy c' e=>?_,I.free,I.freeC,λp hp=>?_,tracked ⟨oc,hoc,I.freeC x c hc⟩ hs,by simpa using I.len⟩ ⟨c,hs,.inr hc⟩
  ·exact(hs.2 b (ne_of_lt (lt_of_lt_of_le (lt_size e) (I.ok.cab x c hfn hc)))).trans (I.base.keep b o e n hb hx)
  ·obtain⟨sl,e1⟩:=I.base.slot b o e n hb hx
   exact⟨sl,(hs.2 b (ne_of_lt (lt_of_lt_of_le (lt_size e) (I.ok.cab x c hfn hc)))).trans e1⟩
  ·obtain⟨o',e1⟩:=I.base.there b o e hx
   exact⟨o',(hs.2 b (ne_of_lt (lt_of_lt_of_le (lt_size e) (I.ok.cab x c hfn hc)))).trans e1⟩
  ·by_cases hj:j=i
   ·subst hj
    rw[hi]at e1;cases e1;rw[getElem?_set_self hiσ]at e2;cases e2;exact⟨u,r,.inr ⟨.inl hk,c,hc,hc'⟩⟩
   ·rw[getElem?_set_ne (Ne.symm hj)]at e2
    obtain⟨u',r',q⟩:=hl j y v' e1 e2 e3;refine⟨u',r',?_⟩;rcases q with q|⟨k,c',e,z'⟩
    ·exact .inl q
    ·refine .inr ⟨k,c',e,z'.sameBut hs ?_⟩
     rintro rfl
     exact hj (vD hN e1 (I.ok.inj _ _ _ e hc▸hi))
  ·by_cases hcc:c'=c
   ·subst hcc;exact⟨_,hc'⟩
   ·obtain⟨w2,z2⟩:=I.cell y c' e
    exact⟨w2,z2.sameBut hs hcc⟩
  ·obtain⟨e,n,ne,nf,d⟩:=I.pin p hp
   refine⟨(hs.2 p.1 ?_).trans e,n,ne,nf,d⟩;intro q;rw[q,hoc]at e;have q':oc=p.2:=Option.some.inj e;exact d w' (by rw[<- q'];exact hocd)
theorem vE{M:Model}{A:Around}{E:Value->Shared->Prop}{i:Nat}{x:Str}{v:V}{u:Value}{Q:Unit->Shared->Prop}(I:Inv X pins σ H s)(hN:X.N.Nodup)(hi:X.N[i]?=some x)(hx:Loc X.env.scope x)(r:zv v u)
  (h:∀s',Inv X pins (σ.set i (some v)) H s'->Q () s') (hf:X.fn x=true\/X.env.scope.names.lookup x=some .local:=by first|exact .inl rfl|exact .inr rfl|assumption):wpAny M A (storeName X.env x u) Q E s :=
 Zh I hN hi hx r (λs' I' _=>h s' I') hf
theorem Inv.call'{s':Shared}{ch:List Addr}(I:Inv X pins σ H s)(ho:s'.os=s.os)(u:Un (frs X.stack) ch H H' s.heap s'.heap)(hok:HOk X.prog X.w H' s'.heap)(hg:AllBare s'.gens)
  (hch:∀b∈ch,(b∈X.ex\/X.s₀.heap.objs.size<=b)/\b≠X.env.locals/\(∀x c,X.env.cells.lookup x=some c->c≠b)/\∀p∈X.pn++pins,p.1≠b):Inv X pins σ H' s':=by
 obtain⟨h',g',d',t',o'⟩:=s';have e:o'=s.os:=ho;subst e;exact I.call (g':=g') (t':=t') (d':=d') u hok hg hch
end
abbrev XK:=Value->Option Addr->Hp->Prop
abbrev St:=List (Option V)
abbrev VK:=V->Hp->Prop
abbrev TE:=St->Hp->VK->Prop
abbrev TT:=St->Hp->(Bool->Hp->Prop)->Prop
abbrev TA:=St->Hp->(List V->Hp->Prop)->Prop
structure Ends where
 nx:St->Hp->Prop
 rt:VK
 bk:St->Hp->Prop:=λ_ _=>False
 ct:St->Hp->Prop:=λ_ _=>False
abbrev TS:=Ends->St->Hp->Prop
def EP(X:Cx)(pins:List (Addr×Obj))(σ:St)(Q:VK)(u:Value)(s':Shared):Prop:=∃v H',Inv X pins σ H' s'/\zv v u/\Q v H'
def TP(X:Cx)(pins:List (Addr×Obj))(σ:St)(Q:Bool->Hp->Prop)(b:Bool)(s':Shared):Prop:=∃H',Inv X pins σ H' s'/\Q b H'
def AP(X:Cx)(pins:List (Addr×Obj))(σ:St)(Q:List V->Hp->Prop)(us:List Value)(s':Shared):Prop:=∃vs H',Inv X pins σ H' s'/\zZ vs us/\Q vs H'
def SP(X:Cx)(pins:List (Addr×Obj))(D:Ends)(f:Flow)(s':Shared):Prop :=
 match f with
 | .next=>∃σ' H',Inv X pins σ' H' s'/\D.nx σ' H'
 | .brk=>∃σ' H',Inv X pins σ' H' s'/\D.bk σ' H'
 | .cont=>∃σ' H',Inv X pins σ' H' s'/\D.ct σ' H'
 | .ret u=>∃v σ' H',Inv X pins σ' H' s'/\zv v u/\D.rt v H'
def PE(X:Cx)(e:Expr)(t:TE):Prop :=
 ∀(pins:List (Addr×Obj)) (s:Shared) (σ:St) (H:Hp) (Q:VK),Inv X pins σ H s->t σ H Q->wpAny (model X.prog X.w) X.A (eval e X.env) (EP X pins σ Q) X.xe s
def PT(X:Cx)(e:Expr)(t:TT):Prop :=
 ∀(pins:List (Addr×Obj)) (s:Shared) (σ:St) (H:Hp) (Q:Bool->Hp->Prop),Inv X pins σ H s->t σ H Q->wpAny (model X.prog X.w) X.A (isTrue e X.env (eval e X.env)) (TP X pins σ Q) X.xe s
def PW(X:Cx)(e:Expr)(t:TT):Prop :=
 ∀(whole:Sem Value) (pins:List (Addr×Obj)) (s:Shared) (σ:St) (H:Hp) (Q:Bool->Hp->Prop),Inv X pins σ H s->t σ H Q->wpAny (model X.prog X.w) X.A (isTrue e X.env whole) (TP X pins σ Q) X.xe s
theorem PW.pt{X:Cx}{e:Expr}{t:TT}(h:PW X e t):PT X e t:=h _
def PA(X:Cx)(es:List Expr)(t:TA):Prop :=
 ∀(pos:Pos) (pins:List (Addr×Obj)) (s:Shared) (σ:St) (H:Hp) (Q:List V->Hp->Prop),Inv X pins σ H s->t σ H Q->wpAny (model X.prog X.w) X.A (spliced (backTo pos (starEach es X.env))) (AP X pins σ Q) X.xe s
def PS(X:Cx)(st:Stmt)(t:TS):Prop :=
 ∀(pins:List (Addr×Obj)) (s:Shared) (σ:St) (H:Hp) (D:Ends),Inv X pins σ H s->t D σ H->wpAny (model X.prog X.w) X.A (exec st X.env) (SP X pins D) X.xe s
def PSs(X:Cx)(st:List Stmt)(t:TS):Prop :=
 ∀(pins:List (Addr×Obj)) (s:Shared) (σ:St) (H:Hp) (D:Ends),Inv X pins σ H s->t D σ H->wpAny (model X.prog X.w) X.A (execs st X.env) (SP X pins D) X.xe s
theorem thn{α:Type}{t:Sem α}{Q Q':α->Shared->Prop}{M:Model}{A:Around}{E:Value->Shared->Prop}{s:Shared}(h:wpAny M A t Q E s)(hQ:∀a s,Q a s->Q' a s):wpAny M A t Q' E s:=wpAny_mono h hQ λ_ _ x=>x
end L2
namespace L2
open PySem PySem.Spec PyProof.Rows
section
variable{X:Cx}
theorem bin{a b:Expr}{ta tb:TE}(ha:PE X a ta)(hb:PE X b tb){pins:List (Addr×Obj)}{s:Shared}{σ:St}{H:Hp}{R:V->V->Hp->Prop}(I:Inv X pins σ H s)(h:ta σ H λx H1=>tb σ H1 λy H2=>R x y H2)
  {α:Type} {Q:α->Shared->Prop} {f:Value->Value->Sem α}
  (hf:∀v u s2 x y H2,Inv X pins σ H2 s2->zv x v->zv y u->R x y H2->wpAny (model X.prog X.w) X.A (f v u) Q X.xe s2) :
  wpAny (model X.prog X.w) X.A (eval a X.env) (λv s₁=>wpAny (model X.prog X.w) X.A (eval b X.env) (λu s₂=>wpAny (model X.prog X.w) X.A (f v u) Q X.xe s₂) X.xe s₁) X.xe s:=by
 refine thn (ha pins s σ H _ I h) λv s1 ⟨x,H1,I1,r1,q1⟩=>?_
 refine thn (hb pins s1 σ H1 _ I1 q1) λu s2 ⟨y,H2,I2,r2,q2⟩=>?_
 exact hf v u s2 x y H2 I2 r1 r2 q2
def Qk(i:Nat):TE:=λσ H Q=>∃v,σ[i]?=some (some v)/\Q v H
def tC(v:V):TE:=λ_ H Q=>Q v H
theorem pe_var{i:Nat}{x:Str}{pos:Pos}(hN:X.N[i]?=some x)(hv:Vis X.env.scope x)(hd:(x==("__debug__":Str))=false:=by decide)(hcd:(x==("__classdict__":Str))=false:=by decide):PE X (.Name x pos) (Qk i):=by
 intro pins s σ H Q I h;obtain⟨v,e,h⟩:=h;obtain⟨m,hn,hl⟩:=I.loc;obtain⟨u,r,l⟩:=hl i x v hN e hv;have fin:EP X pins σ Q u s:=⟨v,H,I,r,h⟩;rcases l with⟨hk,hm⟩|⟨hk,c,hc,hcell⟩
 ·exact wpAny_Name (wpAny_loadName_local I.ok.kind hk hn hm fin) hd
 ·rcases hk with hk|hk
  ·exact wpAny_Name (wpAny_loadName_cell I.ok.kind hk hc hcell fin) hd
  ·exact wpAny_Name (wpAny_loadName_free I.ok.kind hk hc hcell fin hcd) hd
theorem uk{i j pos}:PE X (.Constant (.int i) j pos) (tC (.int i)):=λ_ _ _ H _ I h=>wpAny_Constant_int ⟨.int i,H,I.tok _,⟨_,rfl⟩,h⟩
theorem pe_bl{b j pos}:PE X (.Constant (.bool b) j pos) (tC (.bl b)):=λ_ _ _ H _ I h=>Constant_bool ⟨.bl b,H,I,rfl,h⟩
theorem pe_non{j pos}:PE X (.Constant .none j pos) (tC .non):=λ_ _ _ H _ I h=>Constant_none ⟨.non,H,I,rfl,h⟩
theorem pe_str{x j pos}:PE X (.Constant (.str x) j pos) (tC (.str x)):=λ_ _ _ H _ I h=>Calls.Constant_str ⟨.str x,H,I.tok _,⟨_,rfl⟩,h⟩
def Gl(X:Cx)(x:Str):Prop:=X.env.kindOf x=some .globalImplicit
theorem ul{E:Value->Shared->Prop}{pins:List (Addr×Obj)}{s:Shared}{σ:St}{H:Hp}{x:Str}{u:Value}{pos:Pos}{Q:Value->Shared->Prop}(I:Inv X pins σ H s)(hg:Gl X x)(hm:X.mg x=some u)(h:Q u s)
  (hd:(x==("__debug__":Str))=false:=by decide):wpAny (model X.prog X.w) X.A (eval (.Name x pos) X.env) Q E s :=
 Calls.Name_function_global I.ok.kind hg (Calls.loadGlobal_global (by rw[I.ok.glob];exact I.mod.glob.keeps I.bk) hm h) hd
theorem J3{E:Value->Shared->Prop}{pins:List (Addr×Obj)}{s:Shared}{σ:St}{H:Hp}{x:Str}{u:Value}{pos:Pos}{Q:Value->Shared->Prop}(I:Inv X pins σ H s)(hg:Gl X x)(hm:X.mg x=none)(hv:bootBuiltins x=some u)(h:Q u s)
  (hn:x≠"__name__":=by decide) (hd:(x==("__debug__":Str))=false:=by decide):wpAny (model X.prog X.w) X.A (eval (.Name x pos) X.env) Q E s:=by
 obtain⟨mb,h1,h2⟩:=I.mod.blt;exact Calls.Name_function_global I.ok.kind hg (Calls.loadGlobal_builtin (by rw[I.ok.glob];exact I.mod.glob.keeps I.bk) hm (by rw[I.ok.blt];exact h1.keeps I.bk) ((h2 x hn).trans hv) h) hd
theorem pe_glob{x:Str}{v:V}{u:Value}{pos:Pos}(hg:Gl X x)(hm:X.mg x=some u)(r:zv v u)(hd:(x==("__debug__":Str))=false:=by decide):PE X (.Name x pos) (tC v) :=
 λ_ _ _ H _ I h=>ul I hg hm ⟨v,H,I,r,h⟩ hd
theorem pe_bltn{x:Str}{v:V}{u:Value}{pos:Pos}(hg:Gl X x)(hm:X.mg x=none)(hv:bootBuiltins x=some u)(r:zv v u)(hn:x≠"__name__":=by decide)(hd:(x==("__debug__":Str))=false:=by decide):PE X (.Name x pos) (tC v) :=
 λ_ _ _ H _ I h=>J3 I hg hm hv ⟨v,H,I,r,h⟩ hn hd
variable{a b:Expr}{ta tb:TE}{pos:Pos}
def tB(t:TE):TT:=λσ H Q=>t σ H λx H1=>∃c,x=.bl c/\Q c H1
theorem pt_val{e:Expr}{t:TE}(h:PE X e t)(he:∀whole,isTrue e X.env whole=(do let v <- whole;standAt e.pos;holding [v] (truthy v)):=by intro _;rfl):PT X e (tB t):=by
 intro pins s σ H Q I hw;refine isTrue_plain (thn (h pins s σ H _ I hw) λv s1 ⟨x,H1,I1,r1,q1⟩=>?_) (he _);obtain⟨d,rfl,q⟩:=q1;cases r1;exact wpAny_truthy_bool ⟨H1,I1,q⟩
variable{tA tB':TT}{ji:List Expr}
def tOr(t u:TT):TT:=λσ H Q=>t σ H λc H1=>if c=true then Q true H1 else u σ H1 Q
def tNot(t:TT):TT:=λσ H Q=>t σ H λc H1=>Q (!c) H1
theorem pw_or1(ha:PT X a tA):PW X (.BoolOp .Or [a] pos) tA:=by
 intro wh pins s σ H Q I h;refine isTrue_or (thn (ha pins s σ H Q I h) λc s1 e=>?_);cases c with
 |false=>exact isTrue_or_nil e
 |true=>exact e
theorem pw_or(ha:PT X a tA)(hb:PW X (.BoolOp .Or (b::ji) pos) tB'):PW X (.BoolOp .Or (a::b::ji) pos) (tOr tA tB'):=by
 intro wh pins s σ H Q I h;refine isTrue_or (thn (ha pins s σ H _ I h) λc s1 ⟨H1,I1,q1⟩=>?_);cases c with
 |true=>exact⟨H1,I1,q1⟩
 |false=>exact hb wh pins s1 σ H1 Q I1 q1
theorem pt_not(ha:PT X a tA):PT X (.UnaryOp .Not a pos) (tNot tA):=by
 intro pins s σ H Q I h;exact isTrue_not (ha pins s σ H (λc H1=>Q (!c) H1) I h)
def tAndV(ta tb:TE):TE:=λσ H Q=>ta σ H λx H1=>∃c,x=.bl c/\if c=true then tb σ H1 Q else Q (.bl false) H1
def tNotV(ta:TE):TE:=λσ H Q=>ta σ H λx H1=>∃c,x=.bl c/\Q (.bl (!c)) H1
theorem pe_one{op}{t:TE}(h:PE X a t):PE X (.BoolOp op [a] pos) t:=λpins s σ H Q I hw=>BoolOp_one (h pins s σ H Q I hw)
theorem pe_and(ha:PE X a ta)(hb:PE X (.BoolOp .And (b::ji) pos) tb):PE X (.BoolOp .And (a::b::ji) pos) (tAndV ta tb):=by
 intro pins s σ H Q I h;refine BoolOp_and (thn (ha pins s σ H _ I h) λv s1 ⟨x,H1,I1,r1,q1⟩=>?_);obtain⟨c,rfl,q1⟩:=q1;cases r1;refine wpAny_truthy_bool ?_;cases c with
 |true=>exact hb pins s1 σ H1 Q I1 q1
 |false=>exact⟨.bl false,H1,I1,rfl,q1⟩
theorem pe_not(ha:PE X a ta):PE X (.UnaryOp .Not a pos) (tNotV ta):=by
 intro pins s σ H Q I h;refine UnaryOp_ (thn (ha pins s σ H _ I h) λv s1 ⟨x,H1,I1,r1,q1⟩=>?_);obtain⟨c,rfl,q1⟩:=q1;cases r1;exact not_of (wpAny_truthy_bool ⟨.bl (!c),H1,I1,rfl,q1⟩)
end
end L2
namespace L2
open PySem PySem.Spec PyProof.Rows
def SqL(K:PySem.W.Frag)(H:Hp)(a:Addr)(xs:List V):Prop :=
 Rd H a (.lst xs) \/
  ∃(o:Obj) (its:Array Value) (n:Nat),K.lookup a=some o/\o.cls=.type "list"/\o.dict=none/\o.data=.seq its n/\its.size<=sizeLine/\zZ xs its.toList
def SqT(K:PySem.W.Frag)(H:Hp)(a:Addr)(xs:List V):Prop :=
 Rd H a (.tup xs) \/
  ∃(o:Obj) (its:Array Value) (n:Nat),K.lookup a=some o/\o.cls=.type "tuple"/\o.data=.seq its n/\its.size<=sizeLine/\zZ xs its.toList
def absV:Value->Option V
 | .none=>some .non
 | .bool b=>some (.bl b)
 | .int i _=>some (.int i)
 | .str x _=>some (.str x)
 | .bytes b _=>some (.byt b)
 | .float b _=>some (.flt b)
 | .ref a=>some (.ref a)
 | .type n=>some (.ty n)
 |_=>none
theorem zv.abs{x:V}{u:Value}(r:zv x u):absV u=some x:=by
 cases x with
 |non=>cases r;rfl
 |bl _=>cases r;rfl
 |int _=>obtain⟨t,rfl⟩:=r;rfl
 |str _=>obtain⟨t,rfl⟩:=r;rfl
 |byt _=>obtain⟨t,rfl⟩:=r;rfl
 |flt _=>obtain⟨t,rfl⟩:=r;rfl
 |ref _=>cases r;rfl
 |ty _=>cases r;rfl
theorem zv.inj{x y:V}{u:Value}(r:zv x u)(q:zv y u):x=y:=Option.some.inj (r.abs.symm.trans q.abs)
theorem zZ.inj:∀{xs ys:List V} {us:List Value},zZ xs us->zZ ys us->xs=ys
 |_,_,_,.nil,.nil=>rfl
 |_,_,_,.cons r t,.cons r' t'=>by rw[r.inj r',zZ.inj t t']
section
variable{X:Cx}{pins:List (Addr×Obj)}{σ:St}{H:Hp}{s:Shared}{a:Addr}{xs ys:List V}
theorem SqL.of{K:PySem.W.Frag}(h:H a=some (.lst xs)):SqL K H a xs:=.inl (.inl h)
theorem SqT.of{K:PySem.W.Frag}(h:H a=some (.tup xs)):SqT K H a xs:=.inl (.inl h)
theorem Inv.list(I:Inv X pins σ H s)(h:SqL X.K H a xs):∃its:List Value,zZ xs its/\PlainL s.heap a its.toArray/\xs.length<=sizeLine:=by
 rcases h with h|⟨o,its,n,hk,hc,hd,hs,hz,r⟩
 ·obtain⟨z,its,n,r,e⟩:=h.ok I.hok
  exact⟨its,r,⟨_,n,e,rfl,rfl,rfl⟩,z⟩
 ·refine⟨its.toList,r,⟨o,n,I.kIn a o hk,hc,hd,by simpa using hs⟩,?_⟩
  have e:=r.length;simp only[Array.length_toList]at e;omega
theorem Inv.tuple(I:Inv X pins σ H s)(h:SqT X.K H a xs):∃its:List Value,zZ xs its/\IsTup s.heap a its.toArray/\xs.length<=sizeLine:=by
 rcases h with h|⟨o,its,n,hk,hc,hs,hz,r⟩
 ·obtain⟨z,its,r,p⟩:=h.ok I.hok
  exact⟨its,r,p,z⟩
 ·refine⟨its.toList,r,⟨o,I.kIn a o hk,hc,n,by simpa using hs⟩,?_⟩
  have e:=r.length;simp only[Array.length_toList]at e;omega
theorem Inv.list_inj(I:Inv X pins σ H s)(h:SqL X.K H a xs)(h':SqL X.K H a ys):xs=ys:=by
 obtain⟨its,r,⟨o,n,e,_,_,d⟩,_⟩:=I.list h;obtain⟨its',r',⟨o',n',e',_,_,d'⟩,_⟩:=I.list h';rw[e]at e';cases e';rw[d]at d';injection d' with d1 _
 have:its=its':=by simpa using congrArg Array.toList d1
 subst this;exact r.inj r'
theorem Inv.tuple_inj(I:Inv X pins σ H s)(h:SqT X.K H a xs)(h':SqT X.K H a ys):xs=ys:=by
 obtain⟨its,r,⟨o,e,_,n,d⟩,_⟩:=I.tuple h;obtain⟨its',r',⟨o',e',_,n',d'⟩,_⟩:=I.tuple h';rw[e]at e';cases e';rw[d]at d';injection d' with d1 _
 have:its=its':=by simpa using congrArg Array.toList d1
 subst this;exact r.inj r'
end
abbrev Cx.wish(X:Cx)(E:Value->Shared->Prop):Cx:={X with xe:=E}
abbrev Cx.nox(X:Cx):Cx:=X.wish λ_ _=>False
theorem Cx.Ok.wish{X:Cx}(ok:X.Ok)(E:Value->Shared->Prop):(X.wish E).Ok :=
 ⟨ok.mod,ok.kind,ok.glob,ok.blt,ok.above,ok.inj,ok.has,ok.cab,ok.hd,ok.frames,ok.stk,ok.exf,ok.bs,ok.bsz,ok.noex,ok.exfs,ok.funs,ok.frf⟩
theorem Cx.Ok.unwish{X:Cx}{E:Value->Shared->Prop}(ok:(X.wish E).Ok):X.Ok :=
 ⟨ok.mod,ok.kind,ok.glob,ok.blt,ok.above,ok.inj,ok.has,ok.cab,ok.hd,ok.frames,ok.stk,ok.exf,ok.bs,ok.bsz,ok.noex,ok.exfs,ok.funs,ok.frf⟩
section
variable{X:Cx}{pins:List (Addr×Obj)}{σ:St}{H:Hp}{s:Shared}{E:Value->Shared->Prop}
theorem Inv.wish(I:Inv X pins σ H s)(E:Value->Shared->Prop):Inv (X.wish E) pins σ H s:=⟨I.ok.wish E,I.os,I.bare,I.base,I.loc,I.cell,I.free,I.freeC,I.pin,I.hok,I.len⟩
theorem Inv.unwish(I:Inv (X.wish E) pins σ H s):Inv X pins σ H s:=⟨I.ok.unwish,I.os,I.bare,I.base,I.loc,I.cell,I.free,I.freeC,I.pin,I.hok,I.len⟩
theorem SP.unwish{D:Ends}{f:Flow}{s':Shared}(h:SP (X.wish E) pins D f s'):SP X pins D f s':=by
 cases f with
 |next=>obtain⟨σ',H',I,q⟩:=h;exact⟨σ',H',I.unwish,q⟩
 |brk=>obtain⟨σ',H',I,q⟩:=h;exact⟨σ',H',I.unwish,q⟩
 |cont=>obtain⟨σ',H',I,q⟩:=h;exact⟨σ',H',I.unwish,q⟩
 |ret u=>obtain⟨v,σ',H',I,r,q⟩:=h;exact⟨v,σ',H',I.unwish,r,q⟩
theorem PE.nox{e:Expr}{t:TE}(h:PE X.nox e t):PE X e t:=λpins s σ H Q I hw =>
 wpAny_mono (h pins s σ H Q (I.wish _) hw) (λ_ _ ⟨v,H',I',r,q⟩=>⟨v,H',I'.unwish,r,q⟩) λ_ _ z=>False.elim z
theorem PT.nox{e:Expr}{t:TT}(h:PT X.nox e t):PT X e t:=λpins s σ H Q I hw =>
 wpAny_mono (h pins s σ H Q (I.wish _) hw) (λ_ _ ⟨H',I',q⟩=>⟨H',I'.unwish,q⟩) λ_ _ z=>False.elim z
theorem PSs.nox{st:List Stmt}{t:TS}(h:PSs X.nox st t):PSs X st t:=λpins s σ H D I hw =>
 wpAny_mono (h pins s σ H D (I.wish _) hw) (λ_ _ q=>q.unwish) λ_ _ z=>False.elim z
end
section
variable{X:Cx}{st:Stmt}{ji:List Stmt}{t u:TS}{e:Expr}{te:TE}{pos:Pos}
def tNext:TS:=λD σ H=>D.nx σ H
def tSeq(t u:TS):TS:=λD σ H=>t {D with nx:=u D} σ H
theorem pss_nil:PSs X [] tNext:=λ_ _ σ H _ I h=>wpAny_execs_nil ⟨σ,H,I,h⟩
theorem Qu(h1:PS X st t)(h2:PSs X ji u):PSs X (st::ji) (tSeq t u):=by
 intro pins s σ H D I h;refine wpAny_execs_cons (thn (h1 pins s σ H {D with nx:=u D} I h) λf s1 q=>?_)
 cases f with
 |next =>
  obtain⟨σ',H',I',q⟩:=q;exact h2 pins s1 σ' H' D I' q
 |ret v=>exact q
 |brk=>exact q
 |cont=>exact q
theorem pss_one(h1:PS X st t):PSs X [st] t:=by
 intro pins s σ H D I h;refine wpAny_execs_cons (thn (h1 pins s σ H D I h) λf s1 q=>?_);cases f with
 |next=>exact wpAny_execs_nil q
 |ret v=>exact q
 |brk=>exact q
 |cont=>exact q
theorem Inv.quiet{pins:List (Addr×Obj)}{σ:St}{H:Hp}{s:Shared}(I:Inv X pins σ H s):interactive X.env=false:=by simp[interactive,I.ok.kind]
def tDrop(te:TE):TS:=λD σ H=>te σ H λ_ H1=>D.nx σ H1
theorem ps_expr(he:PE X e te)(hs:swapsWith e none pos.line X.env=pure false:=by rfl):PS X (.Expr e pos) (tDrop te):=by
 intro pins s σ H D I h;exact wpAny_Expr_any (thn (he pins s σ H _ I h) λv s1 ⟨x,H1,I1,r1,q1⟩=>⟨σ,H1,I1,q1⟩) I.quiet hs
def tRet(te:TE):TS:=λD σ H=>te σ H D.rt
theorem ps_ret(he:PE X e te):PS X (.Return (some e) pos) (tRet te):=by
 intro pins s σ H D I h;exact wpAny_Return_some (thn (he pins s σ H _ I h) λv s1 ⟨x,H1,I1,r1,q1⟩=>⟨x,σ,H1,I1,r1,q1⟩)
def tIfS(c:TT)(t u:TS):TS:=λD σ H=>c σ H λb H1=>if b=true then t D σ H1 else u D σ H1
theorem ps_if{c:Expr}{a b:List Stmt}{tc:TT}(hc:PT X c tc)(ha:PSs X a t)(hb:PSs X b u):PS X (.If c a b pos) (tIfS tc t u):=by
 intro pins s σ H D I h;refine wpAny_If (thn (hc pins s σ H _ I h) λd s1 ⟨H1,I1,q1⟩=>?_);cases d with
 |true=>exact ha pins s1 σ H1 D I1 q1
 |false=>exact hb pins s1 σ H1 D I1 q1
def tNever:TS:=λ_ _ _=>False
theorem Qv:PS X st tNever:=λ_ _ _ _ _ _ h=>h.elim
end
abbrev TG:=V->St->Hp->(St->Hp->Prop)->Prop
abbrev TGs:=List V->St->Hp->(St->Hp->Prop)->Prop
def PG(X:Cx)(target:Expr)(t:TG):Prop :=
 ∀(pins:List (Addr×Obj)) (s:Shared) (σ:St) (H:Hp) (v:V) (u:Value) (Q:St->Hp->Prop),Inv X pins σ H s->zv v u->t v σ H Q ->
  wpAny (model X.prog X.w) X.A (assign target X.env u) (λ_ s'=>∃σ' H',Inv X pins σ' H' s'/\Q σ' H') X.xe s
def PGs(X:Cx)(ts:List Expr)(t:TGs):Prop :=
 ∀(pins:List (Addr×Obj)) (s:Shared) (σ:St) (H:Hp) (vs:List V) (us:List Value) (Q:St->Hp->Prop),Inv X pins σ H s->zZ vs us->t vs σ H Q ->
  wpAny (model X.prog X.w) X.A (assignInOrder ((assignEach ts X.env).map (·.2)) us) (λ_ s'=>∃σ' H',Inv X pins σ' H' s'/\Q σ' H') X.xe s
abbrev TSet:=V->V->V->Hp->(Hp->Prop)->Prop
def PSet(X:Cx)(t:TSet):Prop :=
 ∀(pins:List (Addr×Obj)) (s:Shared) (σ:St) (H:Hp) (o i v:V) (ov iv u:Value) (Q:Hp->Prop),Inv X pins σ H s->zv o ov->zv i iv->zv v u->t o i v H Q ->
  wpAny (model X.prog X.w) X.A (setItem ov iv u) (λ_ s'=>∃H',Inv X pins σ H' s'/\Q H') X.xe s
section
variable{X:Cx}{pos:Pos}
def Wc(i:Nat):TG:=λv σ H Q=>Q (σ.set i (some v)) H
theorem um{i:Nat}{x:Str}(hN:X.N.Nodup)(hi:X.N[i]?=some x)(hx:Loc X.env.scope x)(hf:X.fn x=true\/X.env.scope.names.lookup x=some .local:=by first|exact .inl rfl|exact .inr rfl|assumption):PG X (.Name x pos) (Wc i):=by
 intro pins s σ H v u Q I r h;exact wpAny_assign_Name (vE I hN hi hx r (λs' I'=>⟨_,H,I',h⟩) hf)
def gNil:TGs:=λvs σ H Q=>vs=[]/\Q σ H
def gCons(t:TG)(u:TGs):TGs:=λvs σ H Q=>∃v r,vs=v::r/\t v σ H λσ' H'=>u r σ' H' Q
theorem pgs_nil:PGs X [] gNil:=by
 intro pins s σ H vs us Q I r h;obtain⟨e,h⟩:=h;subst e;cases r;exact assignInOrder_nil ⟨σ,H,I,h⟩
theorem Qw{e:Expr}{es:List Expr}{t:TG}{u:TGs}(h1:PG X e t)(h2:PGs X es u)
  (hs:(assignEach (e::es) X.env).map (·.2)=assign e X.env::(assignEach es X.env).map (·.2):=by rfl):PGs X (e::es) (gCons t u):=by
 intro pins s σ H vs us Q I r h;obtain⟨v,vr,e1,h⟩:=h;subst e1;cases r with
 |cons r rr =>
  rw[hs];refine assignInOrder_cons (thn (h1 pins s σ H _ _ _ I r h) λ_ s1 ⟨σ1,H1,I1,q1⟩=>?_);exact h2 pins s1 σ1 H1 _ _ Q I1 rr q1
def gTup(K:PySem.W.Frag)(n:Nat)(t:TGs):TG:=λv σ H Q=>∃a xs,v=.ref a/\SqT K H a xs/\xs.length=n/\t xs σ H Q
theorem zA2{es:List Expr}{k:Nat}{t:TGs}{n:Nat}(hc:X.calm=true)(h:PGs X es t)
  (hn:(assignEach es X.env).length=n:=by rfl) (hst:(assignEach es X.env).findIdx? (·.1)=none:=by rfl):PG X (.Tuple es k pos) (gTup X.K n t):=by
 intro pins s σ H v u Q I r hw;obtain⟨a,xs,e1,hq,hl,hw⟩:=hw;subst e1;cases r;obtain⟨its,rv,ht,hz⟩:=I.tuple hq;refine assign_Tuple_tuple (I.ok.hd hc) ht (by simp[hn,<- hl,rv.length]) hst λh' hx=>?_
 have I1:Inv X pins σ H {s with heap:=h'}:=I.kept (t':=s.toks) λb o e=>hx b o (ne_of_lt (lt_size e)) e
 exact h pins _ σ H xs _ Q I1 (by simpa using rv) hw
def gSub(to ti:TE)(t:TSet):TG:=λv σ H Q=>to σ H λo H1=>ti σ H1 λi H2=>t o i v H2 λH3=>Q σ H3
theorem pg_sub{o i:Expr}{to ti:TE}{t:TSet}(ho:PE X o to)(hi:PE X i ti)(hs:PSet X t)
  (ha:∀v,assign (.Subscript o i pos) X.env v=(do
   let ov <- holding [v] (eval o X.env)
   let iv <- holding [v,ov] (eval i X.env)
   standAt pos
   holding [v,ov,iv] (setItem ov iv v)
   release [v,ov,iv] []):=by intro _;rfl):PG X (.Subscript o i pos) (gSub to ti t):=by
 intro pins s σ H v u Q I r h;rw[ha];refine wpAny_bind (wpAny_holding (thn (ho pins s σ H _ I h) λov s1 ⟨x,H1,I1,r1,q1⟩=>?_));refine wpAny_bind (wpAny_holding (thn (hi pins s1 σ H1 _ I1 q1) λiv s2 ⟨y,H2,I2,r2,q2⟩=>?_));refine wpAny_bind (wpAny_standAt (wpAny_bind (wpAny_holding (thn (hs pins s2 σ H2 x y v ov iv u _ I2 r1 r2 r q2) λ_ s3 ⟨H3,I3,q3⟩=>?_))));exact wpAny_release ⟨σ,H3,I3,q3⟩
def tAsg(te:TE)(g:TG):TS:=λD σ H=>te σ H λx H1=>g x σ H1 D.nx
theorem zA3{tg e:Expr}{te:TE}{g:TG}(he:PE X e te)(hg:PG X tg g)(hs:swapsWithSole [tg] e pos.line X.env=pure false:=by rfl)(hw:swappedStores [tg] e X.env=pure none:=by rfl)
  (h1:(assignEach [tg] X.env).map (·.2)=[assign tg X.env]:=by rfl):PS X (.Assign [tg] e pos) (tAsg te g):=by
 intro pins s σ H D I h;refine wpAny_Assign_stores (thn (he pins s σ H _ I h) λv s1 ⟨x,H1,I1,r1,q1⟩=>?_) hs hw;rw[h1];exact thn (hg pins s1 σ H1 x v _ I1 r1 q1) λ_ s2 q=>q
theorem ps_set{i:Nat}{x:Str}{e:Expr}{te:TE}{pos':Pos}(hN:X.N.Nodup)(hi:X.N[i]?=some x)(hx:Loc X.env.scope x)(he:PE X e te)(hs:swapsWith e (some (.Name x pos')) pos.line X.env=pure false:=by rfl)(hf:X.fn x=true\/X.env.scope.names.lookup x=some .local:=by first|exact .inl rfl|exact .inr rfl|assumption) :
  PS X (.Assign [.Name x pos'] e pos) (tAsg te (Wc i)):=by
 intro pins s σ H D I h;refine wpAny_Assign_Name (thn (he pins s σ H _ I h) λv s1 ⟨y,H1,I1,r1,q1⟩=>?_) hs;exact vE I1 hN hi hx r1 (λs2 I2=>⟨_,H1,I2,q1⟩) hf
end
section
variable{X:Cx}{pos:Pos}
end
structure It where
 go:Nat->Hp->Prop
 yld:Nat->Hp->V->Hp->Prop
 stop:Nat->Hp->Prop
def ue(X:Cx)(pins:List (Addr×Obj))(H:Hp)(b:Addr):Prop :=
 H b=none/\b≠X.env.locals/\b∉X.fs/\(b∈X.ex\/X.s₀.heap.objs.size<=b)/\(∀x c,X.env.cells.lookup x=some c->c≠b)/\∀p∈X.pn++pins,p.1≠b
theorem Inv.fpOk{X:Cx}{pins:List (Addr×Obj)}{σ:St}{H H':Hp}{s:Shared}{b:Addr}(I:Inv X pins σ H s)(hb:s.heap.objs.size<=b)(hn:H' b=none):ue X pins H' b:=by
 refine⟨hn,ne_of_gt (lt_of_lt_of_le I.lt hb),I.nofs hb,.inr (le_trans I.sz hb),λx c e z=>?_,λp hp z=>?_⟩
 ·obtain⟨v,q⟩:=I.cell x c e
  exact absurd (lt_of_lt_of_le q.lt (by rw[z];exact hb)) (lt_irrefl _)
 ·exact absurd (lt_of_lt_of_le (lt_size (I.pin p hp).1) (by rw[z];exact hb)) (lt_irrefl _)
structure Turn(P:Program)(w:World)(K:PySem.W.Frag)(tg:Expr)(J:It)(fp:List Addr)(it:Addr)(tn:Nat->Heap->Prop):Prop where
 mem:it∈fp
 obj:∀i h,tn i h->∀b∈fp,∃o,h.get? b=some o/\∀v,o.data≠.cell v
 keep:∀i h h',tn i h->(∀b∈fp,∀o,h.get? b=some o->h'.get? b=some o)->tn i h'
 item:∀(X:Cx),X.prog=P->X.w=w->X.K=K->X.calm=true->∀(i:Nat) (pins:List (Addr×Obj)) (s:Shared) (σ:St) (H:Hp) (E:Value->Shared->Prop),Inv X pins σ H s->(∀b∈fp,ue X pins H b)->tn i s.heap->J.go i H ->
  wpAny (model P w) X.A (pyNext (.ref it)) (λr s1=>∃u,r=some u /\
   wpAny (model P w) X.A (letOwnedTupleGo tg (.ref it) u) (λ_ s2=>∃x H',Inv X pins σ H' s2/\zv x u/\J.yld i H x H'/\tn (i+1) s2.heap/\∀b∈fp,H' b=none) E s1) E s
 done:∀(X:Cx),X.prog=P->X.w=w->X.K=K->X.calm=true->∀(i:Nat) (pins:List (Addr×Obj)) (s:Shared) (σ:St) (H:Hp) (E:Value->Shared->Prop),Inv X pins σ H s->(∀b∈fp,ue X pins H b)->tn i s.heap->J.stop i H ->
  wpAny (model P w) X.A (pyNext (.ref it)) (λr s1=>r=none/\Inv X pins σ H s1) E s
 self:∀(A:Around) (i:Nat) (s:Shared) (Q:Value->Shared->Prop) (E:Value->Shared->Prop),tn i s.heap->Q (.ref it) s->wpAny (model P w) A (pyIter (.ref it)) Q E s
abbrev TI:=St->Hp->(It->Hp->Prop)->Prop
def PIE(X:Cx)(pins:List (Addr×Obj))(σ:St)(tg:Expr)(R:It->Hp->Prop)(itv:Value)(s2:Shared):Prop :=
 ∃(it:Addr) (fp:List Addr) (tn:Nat->Heap->Prop) (J:It) (H':Hp),itv=.ref it/\Inv X pins σ H' s2/\Turn X.prog X.w X.K tg J fp it tn/\tn 0 s2.heap/\(∀b∈fp,ue X pins H' b)/\R J H'
def PI(X:Cx)(tg iter:Expr)(wi:TI):Prop :=
 ∀(pins:List (Addr×Obj)) (s:Shared) (σ:St) (H:Hp) (R:It->Hp->Prop),Inv X pins σ H s->wi σ H R ->
  wpAny (model X.prog X.w) X.A (eval iter X.env) (λv s1=>wpAny (model X.prog X.w) X.A (pyIter v) (PIE X pins σ tg R) X.xe s1) X.xe s
theorem Yw{M:Model}{A:Around}{E:Value->Shared->Prop}{s:Shared}{tg:Expr}{it:Addr}{u:Value}{o:Obj}{n:String}{vs:Array Value}{Q:Unit->Shared->Prop}(ho:s.heap.get? it=some o)(hc:o.cls=.type n)(hd:o.data=.fields vs)
  (hn:["enumerate","zip","dict_itemiterator","dict_reverseitemiterator","odict_iterator","itertools.zip_longest","itertools.pairwise"].contains n=false) (hQ:Q () s):wpAny M A (letOwnedTupleGo tg (.ref it) u) Q E s:=by
 unfold letOwnedTupleGo
 cases tg<;>first
  |exact wpAny_pure hQ
  | (cases u<;>first
    |exact wpAny_pure hQ
    | (refine wpAny_bind (wpAny_load ho ?_)
       rw[hc,hd];show wpAny M A (if(["enumerate","zip","dict_itemiterator","dict_reverseitemiterator","odict_iterator","itertools.zip_longest","itertools.pairwise"].contains n&&vs[0]?==some (rawInt _))=true then _ else _) Q E s;rw[if_neg (by intro h;rw[hn,Bool.false_and]at h;cases h)];exact wpAny_pure hQ))
def Itl(K:PySem.W.Frag)(a:Addr):It :=
 ⟨λi H=>∃xs x,SqL K H a xs/\xs[i]?=some x,λi H x H'=>H'=H/\∀xs,SqL K H a xs->xs[i]?=some x,λi H=>∃xs,SqL K H a xs/\xs.length<=i⟩
def Itt(K:PySem.W.Frag)(a:Addr):It :=
 ⟨λi H=>∃xs x,SqT K H a xs/\xs[i]?=some x,λi H x H'=>H'=H/\∀xs,SqT K H a xs->xs[i]?=some x,λi H=>∃xs,SqT K H a xs/\xs.length<=i⟩
def Itr(lo:Int)(n:Nat):It:=⟨λi _=>i<n,λi H x H'=>H'=H/\x=.int (lo+i),λi _=>n<=i⟩
theorem uo{P:Program}{w:World}{K:PySem.W.Frag}{tg:Expr}(a it:Addr):Turn P w K tg (Itl K a) [it] it (λi h=>h.IsListIter it a i) where
 mem:=by simp
 obj:=λi h st b hb=>by
  have e:b=it:=by simpa using hb
  subst e;obtain⟨o,e,c,d⟩:=st;exact⟨o,e,λv z=>by rw[d]at z;cases z⟩
 keep:=λi h h' st k=>st.at λo e=>k it (by simp) o e
 item:=by
  intro X hP hw hK hc i pins s σ H E I hf st hg;subst hP hw hK;obtain⟨xs,x,hq,hx⟩:=hg;obtain⟨its,rv,p,hz⟩:=I.list hq;obtain⟨u,hu,ru⟩:=rv.get hx;obtain⟨f0,f1,f2,f3,f4,f5⟩:=hf it (by simp);refine wpAny_pyNext_list_item st p.isList (x:=u) (by simpa using hu) λh' st' sb=>?_
  have I1:Inv X pins σ H {s with heap:=h'}:=I.turned (t':=s.toks) (λb o hb e=>(sb.2 b hb).trans e) f0 f1 f3 f4 f5
  obtain⟨o,e,c,d⟩:=id st';exact⟨u,rfl,Yw (s:={s with heap:=h'}) e c d (by decide) ⟨x,H,I1,ru,⟨rfl,λys hy=>by rw[I.list_inj hy hq];exact hx⟩,st',λb hb=>(hf b hb).1⟩⟩
 done:=by
  intro X hP hw hK hc i pins s σ H E I hf st hg;subst hP hw hK;obtain⟨xs,hq,hx⟩:=hg;obtain⟨its,rv,p,hz⟩:=I.list hq;obtain⟨f0,f1,f2,f3,f4,f5⟩:=hf it (by simp);have hl:=rv.length;exact wpAny_pyNext_list_end (I.ok.hd hc) st p.isList (by simp;omega) λh' eb=>⟨rfl,I.turned (t':=s.toks) (λb o hb e=>eb b o hb e) f0 f1 f3 f4 f5⟩
 self:=λ_ _ _ _ _ st h=>wpAny_pyIter_listiter st h
theorem uH{P:Program}{w:World}{K:PySem.W.Frag}{tg:Expr}(a it:Addr):Turn P w K tg (Itt K a) [it] it (λi h=>h.IsTupleIter it a i) where
 mem:=by simp
 obj:=λi h st b hb=>by
  have e:b=it:=by simpa using hb
  subst e;obtain⟨o,e,c,d⟩:=st;exact⟨o,e,λv z=>by rw[d]at z;cases z⟩
 keep:=λi h h' st k=>st.at λo e=>k it (by simp) o e
 item:=by
  intro X hP hw hK hc i pins s σ H E I hf st hg;subst hP hw hK;obtain⟨xs,x,hq,hx⟩:=hg;obtain⟨its,rv,p,hz⟩:=I.tuple hq;obtain⟨u,hu,ru⟩:=rv.get hx;obtain⟨f0,f1,f2,f3,f4,f5⟩:=hf it (by simp);refine wpAny_pyNext_tuple_item st (show s.heap.IsTuple a its.toArray from p) (x:=u) (by simpa using hu) λh' st' sb=>?_
  have I1:Inv X pins σ H {s with heap:=h'}:=I.turned (t':=s.toks) (λb o hb e=>(sb.2 b hb).trans e) f0 f1 f3 f4 f5
  obtain⟨o,e,c,d⟩:=id st';exact⟨u,rfl,Yw (s:={s with heap:=h'}) e c d (by decide) ⟨x,H,I1,ru,⟨rfl,λys hy=>by rw[I.tuple_inj hy hq];exact hx⟩,st',λb hb=>(hf b hb).1⟩⟩
 done:=by
  intro X hP hw hK hc i pins s σ H E I hf st hg;subst hP hw hK;obtain⟨xs,hq,hx⟩:=hg;obtain⟨its,rv,p,hz⟩:=I.tuple hq;obtain⟨f0,f1,f2,f3,f4,f5⟩:=hf it (by simp);have hl:=rv.length;exact wpAny_pyNext_tuple_end (I.ok.hd hc) st (show s.heap.IsTuple a its.toArray from p) (by simp;omega) λh' eb=>⟨rfl,I.turned (t':=s.toks) (λb o hb e=>eb b o hb e) f0 f1 f3 f4 f5⟩
 self:=λ_ _ _ _ _ st h=>wpAny_pyIter_tupleiter st h
theorem uI{P:Program}{w:World}{K:PySem.W.Frag}{tg:Expr}(it:Addr)(lo:Int)(n:Nat):Turn P w K tg (Itr lo n) [it] it (λi h=>IsRangeIter h it (lo+(i:Nat)*1) ((n:Int)-(i:Nat)) 1) where
 mem:=by simp
 obj:=λi h st b hb=>by
  have e:b=it:=by simpa using hb
  subst e;exact⟨_,st,λv z=>by
   have z':Data.fields _=Data.cell v:=z;cases z'⟩
 keep:=λi h h' st k=>k it (by simp) _ st
 item:=by
  intro X hP hw hK hc i pins s σ H E I hf st hg;subst hP hw hK;obtain⟨f0,f1,f2,f3,f4,f5⟩:=hf it (by simp);have W:=Walks.range (prog:=X.prog) (w:=X.w) (I.ok.hd hc) it lo 1 n;refine W.item i s _ _ hg st λv h' tk hv st' kk=>?_
  obtain⟨t,rfl⟩:=hv;have I1:Inv X pins σ H {s with heap:=h',toks:=tk}:=I.turned (λb o hb e=>kk b o (by simpa using hb) e) f0 f1 f3 f4 f5
  refine⟨_,rfl,Yw (s:={s with heap:=h',toks:=tk}) (n:="range_iterator") st' rfl rfl (by decide) ⟨.int (lo+i),H,I1,⟨t,?_⟩,⟨rfl,rfl⟩,st',λb hb=>(hf b hb).1⟩⟩
  rw[Int.mul_one]
 done:=by
  intro X hP hw hK hc i pins s σ H E I hf st hg;subst hP hw hK;obtain⟨f0,f1,f2,f3,f4,f5⟩:=hf it (by simp);exact wpAny_pyNext_range_end (I.ok.hd hc) st (by have:n<=i:=hg;omega) λh' eb=>⟨rfl,I.turned (t':=s.toks) (λb o hb e=>eb b o hb e) f0 f1 f3 f4 f5⟩
 self:=λ_ _ _ _ _ st h=>wpAny_pyIter_rangeiter st h
end L2
namespace L2
open PySem PySem.Spec PyProof.Rows
section
variable{X:Cx}{tg:Expr}
def iList(K:PySem.W.Frag)(tl:TE):TI:=λσ H R=>tl σ H λx H1=>∃a,x=.ref a/\(∃xs,SqL K H1 a xs)/\R (Itl K a) H1
def iTup(K:PySem.W.Frag)(tl:TE):TI:=λσ H R=>tl σ H λx H1=>∃a,x=.ref a/\(∃xs,SqT K H1 a xs)/\R (Itt K a) H1
theorem uq{l:Expr}{tl:TE}(hl:PE X l tl):PI X tg l (iList X.K tl):=by
 intro pins s σ H R I h;refine thn (hl pins s σ H _ I h) λv s1 ⟨x,H1,I1,r1,q1⟩=>?_
 obtain⟨a,e,⟨xs,hq⟩,q⟩:=q1;subst e;cases r1;obtain⟨its,rv,p,hz⟩:=I1.list hq;refine wpAny_pyIter_list p.isList ?_;refine⟨s1.heap.objs.size,[s1.heap.objs.size],_,_,H1,rfl,I1.kept (t':=s1.toks) λb o e=>get?_push_of_some _ e,uo a _,⟨_,get?_push_size _ rfl,rfl,rfl⟩,λb hb=>?_,q⟩;have e:b=s1.heap.objs.size:=by simpa using hb
 subst e;exact I1.fpOk (le_refl _) (I1.hok.fresh (le_refl _))
theorem zA4{l:Expr}{tl:TE}(hl:PE X l tl):PI X tg l (iTup X.K tl):=by
 intro pins s σ H R I h;refine thn (hl pins s σ H _ I h) λv s1 ⟨x,H1,I1,r1,q1⟩=>?_
 obtain⟨a,e,⟨xs,hq⟩,q⟩:=q1;subst e;cases r1;obtain⟨its,rv,p,hz⟩:=I1.tuple hq;refine wpAny_pyIter_tuple (show s1.heap.IsTuple a its.toArray from p) ?_;refine⟨s1.heap.objs.size,[s1.heap.objs.size],_,_,H1,rfl,I1.kept (t':=s1.toks) λb o e=>get?_push_of_some _ e,uH a _,⟨_,get?_push_size _ rfl,rfl,rfl⟩,λb hb=>?_,q⟩;have e:b=s1.heap.objs.size:=by simpa using hb
 subst e;exact I1.fpOk (le_refl _) (I1.hok.fresh (le_refl _))
theorem Qx{pins:List (Addr×Obj)}{σ:St}{H:Hp}{s:Shared}{R:It->Hp->Prop}{E:Value->Shared->Prop}{lo hi:Int}{t u v:Tok}{tk:Nat}(I:Inv X pins σ H s)(h1:-(2^62)<=lo)(h2:lo<2^62)(h3:-(2^62)<=hi)(h4:hi<2^62)
  (q:R (Itr lo (hi-lo).toNat) H):wpAny (model X.prog X.w) X.A (pyIter (.ref s.heap.objs.size)) (PIE X pins σ tg R) E {s with heap:=s.heap.push {cls:=.type "range",data:=.fields #[.int lo t,.int hi u,.int 1 v]},toks:=tk}:=by
 refine wpAny_pyIter_range (IsRange.new ..) (small_one h1 h2 h3 h4) ?_;have I1:Inv X pins σ H {s with heap:=s.heap.push {cls:=.type "range",data:=.fields #[.int lo t,.int hi u,.int 1 v]},toks:=tk}:=I.kept λb o e=>get?_push_of_some _ e
 refine⟨(s.heap.push {cls:=.type "range",data:=.fields #[.int lo t,.int hi u,.int 1 v]}).objs.size,[(s.heap.push {cls:=.type "range",data:=.fields #[.int lo t,.int hi u,.int 1 v]}).objs.size],_,_,H,rfl,
  I1.kept (t':=tk) λb o e=>get?_push_of_some _ e,uI _ lo (hi-lo).toNat,?_,λb hb=>?_,q⟩
 ·have e1:lo+((0:Nat):Int)*1=lo:=by simp
  have e2:(((hi-lo).toNat:Nat):Int)-((0:Nat):Int)=Builtin.Range.rangeSize lo hi 1:=by rw[rangeSize_one];split<;>omega
  show IsRangeIter _ _ (lo+((0:Nat):Int)*1) ((((hi-lo).toNat:Nat):Int)-((0:Nat):Int)) 1
  rw[e1,e2];exact get?_push_size _ rfl
 ·have e:b=(s.heap.push {cls:=.type "range",data:=.fields #[.int lo t,.int hi u,.int 1 v]}).objs.size:=by simpa using hb
  subst e;exact I1.fpOk (le_refl _) (I1.hok.fresh (le_refl _))
def iRng1(ta:TA):TI:=λσ H R=>ta σ H λvs H1=>∃j:Int,vs=[.int j]/\-(2^62)<=j/\j<2^62/\R (Itr 0 j.toNat) H1
theorem Zi{a:Expr}{ta:TA}{p pos:Pos}(hg:Gl X "range")(hm:X.mg "range"=none)(ha:PA X [a] ta)(hs:starEach [a] X.env=[(false,eval a X.env)]:=by rfl):PI X tg (.Call (.Name "range" p) [a] [] pos) (iRng1 ta):=by
 intro pins s σ H R I h;refine Call_ (J3 I hg hm boot_range (PyProof.Rows.callWith_type1 (thn (ha pos pins s σ H _ I h) λus s1 ⟨vs,H1,I1,r1,q1⟩=>?_) hs rfl));obtain⟨j,e,q1,q2,q⟩:=q1;subst e;cases r1 with
 |cons r rr =>
  cases rr;obtain⟨t,rfl⟩:=r;exact call_range_1 (Qx I1 (by omega) (by omega) q1 q2 (by simpa using q))
def tFor(wi:TI)(g:TG)(tb:TS):TS:=λD σ H=>wi σ H λJ H1=>∃W:Nat->Nat->St->Hp->Prop,(∃m,W 0 m σ H1)/\∀i m σ H,W i m σ H ->
 (J.stop i H/\D.nx σ H)\/(J.go i H/\∃N:St->Hp->Prop,(∀σ' H',N σ' H'->∃m',m'<m/\W (i+1) m' σ' H')/\∀x H',J.yld i H x H'->g x σ H' λσ2 H2=>tb {D with nx:=N,ct:=N,bk:=D.nx} σ2 H2)
def Zj(fp:List Addr)(h:Heap):List (Addr×Obj):=fp.filterMap λb=>(h.get? b).map λo=>(b,o)
theorem j5{fp:List Addr}{h:Heap}{b:Addr}{o:Obj}(hb:b∈fp)(e:h.get? b=some o):(b,o)∈Zj fp h:=mem_filterMap.mpr ⟨b,hb,by rw[e];rfl⟩
theorem ur{fp:List Addr}{h:Heap}{p:Addr×Obj}(hp:p∈Zj fp h):p.1∈fp/\h.get? p.1=some p.2:=by
 obtain⟨b,hb,e⟩:=mem_filterMap.mp hp;cases q:h.get? b with
 |none=>rw[q]at e;cases e
 |some o =>
  rw[q]at e;have e':(b,o)=p:=Option.some.inj e;subst e';exact⟨hb,q⟩
theorem Inv.pinned{pins:List (Addr×Obj)}{σ:St}{H:Hp}{s:Shared}{fp:List Addr}(I:Inv X pins σ H s)(hf:∀b∈fp,ue X pins H b)(ho:∀b∈fp,∃o,s.heap.get? b=some o/\∀v,o.data≠.cell v):Inv X (pins++Zj fp s.heap) σ H s :=
 I.pins_of λp hp=>(mem_append.mp hp).elim (λz=>I.pin p (mem_append_right _ z)) λz=>by
  obtain⟨hb,e⟩:=ur z;obtain⟨f0,f1,f2,_⟩:=hf p.1 hb;obtain⟨o,e',d⟩:=ho p.1 hb;rw[e]at e';cases e';exact⟨e,f0,f1,f2,d⟩
theorem Inv.unpinned{pins pl:List (Addr×Obj)}{σ:St}{H:Hp}{s:Shared}(I:Inv X (pins++pl) σ H s):Inv X pins σ H s:=I.pins_of λp hp=>I.pin p (mem_append_right _ (mem_append_left _ hp))
theorem ut{iter:Expr}{body:List Stmt}{wi:TI}{g:TG}{tb:TS}{pos:Pos}(hp:PassesOwn (model X.prog X.w) X.A X.env X.xe)(hc:X.calm=true)(hi:PI X tg iter wi)(hg:PG X tg g)(hb:PSs X body tb)
  (hs:∀x,foldedSetIterable iter X.env x=pure x:=by intro _;rfl):PS X (.For tg iter body [] pos) (tFor wi g tb):=by
 intro pins s σ H D I h;refine wpAny_For (thn (hi pins s σ H _ I h) λv s1 h1=>thn h1 λitv s2 h2=>?_) hs;obtain⟨it,fp,tn,J,H2,e,I2,T,st2,f2,W,⟨m0,w0⟩,turn⟩:=h2;subst e
 -- what stays true of the iterator's objects through the loop
 have stat:∀{H':Hp},(∀b∈fp,H' b=none)->∀b∈fp,ue X pins H' b:=λhn b hb=>⟨hn b hb,(f2 b hb).2⟩
 refine codeAny_forLoop_any (λn s'=>∃i σ' H',Inv X pins σ' H' s'/\tn i s'.heap/\(∀b∈fp,H' b=none)/\W i n σ' H') ?_ m0 ⟨0,σ,H2,I2,st2,λb hb=>(f2 b hb).1,w0⟩
 rintro n s3 ⟨i,σ3,H3,I3,st3,fr3,w3⟩
 rcases turn i n σ3 H3 w3 with⟨stop,qn⟩|⟨go,N,hN,step⟩
 ·refine wpAny_passesOwn hp (thn (T.done X rfl rfl rfl hc i pins s3 σ3 H3 X.xe I3 (stat fr3) st3 stop) λr s4 ⟨hr,I4⟩=>?_)
  subst hr;exact wpAny_execs_nil ⟨σ3,H3,I4,qn⟩
 ·refine wpAny_passesOwn hp (thn (T.item X rfl rfl rfl hc i pins s3 σ3 H3 X.xe I3 (stat fr3) st3 go) λr s4 ⟨u,hr,h4⟩=>?_)
  subst hr;refine wpAny_passesOwn hp (thn h4 λ_ s5 ⟨x,H5,I5,r5,y5,st5,fr5⟩=>?_);have I5':=I5.pinned (stat fr5) (T.obj _ _ st5);refine wpAny_passesOwn hp (thn (hg _ s5 σ3 H5 x u _ I5' r5 (step x H5 y5)) λ_ s6 ⟨σ6,H6,I6,q6⟩=>?_);refine wpAny_passesOwn hp (thn (hb _ s6 σ6 H6 _ I6 q6) λf s7 q7=>?_);have again:∀{σ7:St} {H7:Hp},Inv X (pins++Zj fp s5.heap) σ7 H7 s7->N σ7 H7->∃m,m<n/\∃i σ' H',Inv X pins σ' H' s7/\tn i s7.heap/\(∀b∈fp,H' b=none)/\W i m σ' H':=λ{σ7 H7} I7 n7=>by
   obtain⟨m',hm,w7⟩:=hN σ7 H7 n7;refine⟨m',hm,i+1,σ7,H7,I7.unpinned,T.keep _ _ _ st5 λb hb o e=>(I7.pin (b,o) (mem_append_right _ (mem_append_right _ (j5 hb e)))).1,λb hb=>?_,w7⟩;obtain⟨o,e,d⟩:=T.obj _ _ st5 b hb;exact(I7.pin (b,o) (mem_append_right _ (mem_append_right _ (j5 hb e)))).2.1
  cases f with
  |next=>obtain⟨σ7,H7,I7,n7⟩:=q7;exact again I7 n7
  |cont=>obtain⟨σ7,H7,I7,n7⟩:=q7;exact again I7 n7
  |brk=>obtain⟨σ7,H7,I7,q7⟩:=q7;exact⟨σ7,H7,I7.unpinned,q7⟩
  |ret v=>obtain⟨x7,σ7,H7,I7,r7,q7⟩:=q7;exact⟨x7,σ7,H7,I7.unpinned,r7,q7⟩
end
theorem Qy{K:PySem.W.Frag}{a:Addr}{xs:List V}{g:TG}{tb:TS}{D:Ends}{σ:St}{H:Hp}(Pv:Nat->St->Hp->Prop)(h0:Pv 0 σ H)(hl:∀i σ H,i<=xs.length->Pv i σ H->SqL K H a xs)
  (hs:∀i x σ H,xs[i]?=some x->Pv i σ H->g x σ H λσ2 H2=>tb {D with nx:=Pv (i+1),ct:=Pv (i+1),bk:=D.nx} σ2 H2) (hd:∀σ H,Pv xs.length σ H->D.nx σ H) :
  ∃W:Nat->Nat->St->Hp->Prop,(∃m,W 0 m σ H)/\∀i m σ H,W i m σ H ->
   ((Itl K a).stop i H/\D.nx σ H)\/((Itl K a).go i H/\∃N:St->Hp->Prop,(∀σ' H',N σ' H'->∃m',m'<m/\W (i+1) m' σ' H')/\∀x H',(Itl K a).yld i H x H'->g x σ H' λσ2 H2=>tb {D with nx:=N,ct:=N,bk:=D.nx} σ2 H2):=by
 refine⟨λi m σ H=>m=xs.length-i/\i<=xs.length/\Pv i σ H,⟨xs.length,by simp,zero_le _,h0⟩,?_⟩
 rintro i m σ H ⟨rfl,hi,p⟩
 have q:=hl i σ H hi p;by_cases hlt:i<xs.length
 ·refine .inr ⟨⟨xs,xs[i],q,by simp[hlt]⟩,Pv (i+1),λσ' H' p'=>⟨xs.length-(i+1),by omega,rfl,hlt,p'⟩,λx H' y=>?_⟩
  obtain⟨e,y⟩:=y;subst e;exact hs i x σ _ (y xs q) p
 ·have e:i=xs.length:=by omega
  subst e;exact .inl ⟨⟨xs,q,le_refl _⟩,hd σ H p⟩
theorem for_tup{K:PySem.W.Frag}{a:Addr}{xs:List V}{g:TG}{tb:TS}{D:Ends}{σ:St}{H:Hp}(Pv:Nat->St->Hp->Prop)(h0:Pv 0 σ H)(hl:∀i σ H,i<=xs.length->Pv i σ H->SqT K H a xs)
  (hs:∀i x σ H,xs[i]?=some x->Pv i σ H->g x σ H λσ2 H2=>tb {D with nx:=Pv (i+1),ct:=Pv (i+1),bk:=D.nx} σ2 H2) (hd:∀σ H,Pv xs.length σ H->D.nx σ H) :
  ∃W:Nat->Nat->St->Hp->Prop,(∃m,W 0 m σ H)/\∀i m σ H,W i m σ H ->
   ((Itt K a).stop i H/\D.nx σ H)\/((Itt K a).go i H/\∃N:St->Hp->Prop,(∀σ' H',N σ' H'->∃m',m'<m/\W (i+1) m' σ' H')/\∀x H',(Itt K a).yld i H x H'->g x σ H' λσ2 H2=>tb {D with nx:=N,ct:=N,bk:=D.nx} σ2 H2):=by
 refine⟨λi m σ H=>m=xs.length-i/\i<=xs.length/\Pv i σ H,⟨xs.length,by simp,zero_le _,h0⟩,?_⟩
 rintro i m σ H ⟨rfl,hi,p⟩
 have q:=hl i σ H hi p;by_cases hlt:i<xs.length
 ·refine .inr ⟨⟨xs,xs[i],q,by simp[hlt]⟩,Pv (i+1),λσ' H' p'=>⟨xs.length-(i+1),by omega,rfl,hlt,p'⟩,λx H' y=>?_⟩
  obtain⟨e,y⟩:=y;subst e;exact hs i x σ _ (y xs q) p
 ·have e:i=xs.length:=by omega
  subst e;exact .inl ⟨⟨xs,q,le_refl _⟩,hd σ H p⟩
theorem uu{lo:Int}{n:Nat}{g:TG}{tb:TS}{D:Ends}{σ:St}{H:Hp}(Pv:Nat->St->Hp->Prop)(h0:Pv 0 σ H)
  (hs:∀i σ H,i<n->Pv i σ H->g (.int (lo+i)) σ H λσ2 H2=>tb {D with nx:=Pv (i+1),ct:=Pv (i+1),bk:=D.nx} σ2 H2) (hd:∀σ H,Pv n σ H->D.nx σ H) :
  ∃W:Nat->Nat->St->Hp->Prop,(∃m,W 0 m σ H)/\∀i m σ H,W i m σ H ->
   ((Itr lo n).stop i H/\D.nx σ H)\/((Itr lo n).go i H/\∃N:St->Hp->Prop,(∀σ' H',N σ' H'->∃m',m'<m/\W (i+1) m' σ' H')/\∀x H',(Itr lo n).yld i H x H'->g x σ H' λσ2 H2=>tb {D with nx:=N,ct:=N,bk:=D.nx} σ2 H2):=by
 refine⟨λi m σ H=>m=n-i/\i<=n/\Pv i σ H,⟨n,by simp,zero_le _,h0⟩,?_⟩
 rintro i m σ H ⟨rfl,hi,p⟩
 by_cases hlt:i<n
 ·refine .inr ⟨hlt,Pv (i+1),λσ' H' p'=>⟨n-(i+1),by omega,rfl,hlt,p'⟩,λx H' y=>?_⟩
  obtain⟨e,y⟩:=y;subst e y;exact hs i σ _ hlt p
 ·have e:i=n:=by omega
  subst e;exact .inl ⟨le_refl _,hd σ H p⟩
end L2
namespace L2
open PySem PySem.Spec PyProof.Rows
abbrev R2:=V->V->Hp->VK->Prop
def OpR(X:Cx)(f:Value->Value->Sem Value)(r:R2):Prop :=
 ∀(pins:List (Addr×Obj)) (s:Shared) (σ:St) (H:Hp) (x y:V) (v u:Value) (Q:VK),Inv X pins σ H s->zv x v->zv y u->r x y H Q ->
  wpAny (model X.prog X.w) X.A (f v u) (EP X pins σ Q) X.xe s
def UnR(X:Cx)(f:Value->Sem Value)(r:V->Hp->VK->Prop):Prop :=
 ∀(pins:List (Addr×Obj)) (s:Shared) (σ:St) (H:Hp) (x:V) (v:Value) (Q:VK),Inv X pins σ H s->zv x v->r x H Q ->
  wpAny (model X.prog X.w) X.A (f v) (EP X pins σ Q) X.xe s
def y1(X:Cx)(f:Value)(r:List V->Hp->VK->Prop):Prop :=
 ∀(pins:List (Addr×Obj)) (s:Shared) (σ:St) (H:Hp) (xs:List V) (us:List Value) (Q:VK),Inv X pins σ H s->zZ xs us->r xs H Q ->
  wpAny (model X.prog X.w) X.A (call f us) (EP X pins σ Q) X.xe s
def tOp(r:R2)(ta tb:TE):TE:=λσ H Q=>ta σ H λx H1=>tb σ H1 λy H2=>r x y H2 Q
def tUn(r:V->Hp->VK->Prop)(ta:TE):TE:=λσ H Q=>ta σ H λx H1=>r x H1 Q
def rI(C:Int->Int->Prop)(g:Int->Int->V):R2:=λx y H Q=>∃i j,x=.int i/\y=.int j/\C i j/\Q (g i j) H
def rI0(g:Int->Int->V):R2:=λx y H Q=>∃i j,x=.int i/\y=.int j/\Q (g i j) H
def rU(g:Int->V):V->Hp->VK->Prop:=λx H Q=>∃i,x=.int i/\Q (g i) H
section
variable{X:Cx}{a b c:Expr}{ta tb tc:TE}{pos:Pos}
theorem binT(ha:PE X a ta)(hb:PE X b tb){pins:List (Addr×Obj)}{s:Shared}{σ:St}{H:Hp}{R:V->V->Hp->Prop}(I:Inv X pins σ H s)
  (h:ta σ H λx H1=>tb σ H1 λy H2=>R x y H2) {Q:Value->Shared->Prop} {f:Value->Value->Sem Value}
  (hf:∀v u s2 x y H2,Inv X pins σ H2 s2->zv x v->zv y u->R x y H2->wpAny (model X.prog X.w) X.A (f v u) Q X.xe s2) :
  wpAny (model X.prog X.w) X.A (eval a X.env) (λv s₁=>wpAny (model X.prog X.w) X.A (eval b X.env) (λu s₂=>wpAny (model X.prog X.w) X.A (f v u) Q X.xe s₂) X.xe s₁) X.xe s:=by
 refine thn (ha pins s σ H _ I h) λv s1 ⟨x,H1,I1,r1,q1⟩=>?_
 refine thn (hb pins s1 σ H1 _ I1 q1) λu s2 ⟨y,H2,I2,r2,q2⟩=>?_
 exact hf v u s2 x y H2 I2 r1 r2 q2
theorem pe_op{op:Operator}{r:R2}(ho:OpR X (binaryOp op) r)(ha:PE X a ta)(hb:PE X b tb):PE X (.BinOp a op b pos) (tOp r ta tb):=by
 intro pins s σ H Q I h;exact wpAny_BinOp (binT ha hb I h λv u s2 x y H2 I2 rx ry q=>ho pins s2 σ H2 x y v u Q I2 rx ry q)
theorem pe_un{op:UnaryOp}{r:V->Hp->VK->Prop}(ho:UnR X (unaryOp op) r)(ha:PE X a ta):PE X (.UnaryOp op a pos) (tUn r ta):=by
 intro pins s σ H Q I h;exact UnaryOp_ (thn (ha pins s σ H _ I h) λv s1 ⟨x,H1,I1,r1,q1⟩=>ho pins s1 σ H1 x v Q I1 r1 q1)
theorem opI{f:Value->Value->Sem Value}{C:Int->Int->Prop}{g:Int->Int->Int}
  (rule:∀(i j:Int) (t u:Tok) (s:Shared) (Q:Value->Shared->Prop) (E:Value->Shared->Prop),C i j->Q (.int (g i j) s.toks) {s with toks:=s.toks+1}->wpAny (model X.prog X.w) X.A (f (.int i t) (.int j u)) Q E s) :
  OpR X f (rI C λi j=>.int (g i j)):=by
 intro pins s σ H x y v u Q I rx ry h;obtain⟨i,j,rfl,rfl,hc,q⟩:=h;obtain⟨t,rfl⟩:=rx;obtain⟨t',rfl⟩:=ry;exact rule i j t t' s _ _ hc ⟨.int (g i j),H,I.tok _,⟨_,rfl⟩,q⟩
theorem opI0{f:Value->Value->Sem Value}{g:Int->Int->Int}
  (rule:∀(i j:Int) (t u:Tok) (s:Shared) (Q:Value->Shared->Prop) (E:Value->Shared->Prop),Q (.int (g i j) s.toks) {s with toks:=s.toks+1}->wpAny (model X.prog X.w) X.A (f (.int i t) (.int j u)) Q E s) :
  OpR X f (rI0 λi j=>.int (g i j)):=by
 intro pins s σ H x y v u Q I rx ry h;obtain⟨i,j,rfl,rfl,q⟩:=h;obtain⟨t,rfl⟩:=rx;obtain⟨t',rfl⟩:=ry;exact rule i j t t' s _ _ ⟨.int (g i j),H,I.tok _,⟨_,rfl⟩,q⟩
theorem opB0{f:Value->Value->Sem Value}{g:Int->Int->Bool}
  (rule:∀(i j:Int) (t u:Tok) (s:Shared) (Q:Value->Shared->Prop) (E:Value->Shared->Prop),Q (.bool (g i j)) s->wpAny (model X.prog X.w) X.A (f (.int i t) (.int j u)) Q E s) :
  OpR X f (rI0 λi j=>.bl (g i j)):=by
 intro pins s σ H x y v u Q I rx ry h;obtain⟨i,j,rfl,rfl,q⟩:=h;obtain⟨t,rfl⟩:=rx;obtain⟨t',rfl⟩:=ry;exact rule i j t t' s _ _ ⟨.bl (g i j),H,I,rfl,q⟩
def CPow(i j:Int):Prop:=0<=j/\j<=1000000/\i.natAbs<2^64
def CMul(i j:Int):Prop:=(-(2^64)<i/\i<2^64)\/(-(2^64)<j/\j<2^64)
theorem CMul.ok{i j:Int}(h:CMul i j):IntMulOk i j:=by
 rcases h with⟨h1,h2⟩|⟨h1,h2⟩
 ·exact .of_left (intBits_le_64 h1 h2)
 ·exact .of_right (intBits_le_64 h1 h2)
theorem op_add:OpR X (binaryOp .Add) (rI0 λi j=>.int (i+j)):=opI0 λ_ _ _ _ _ _ _ q=>add_int q
theorem op_sub:OpR X (binaryOp .Sub) (rI0 λi j=>.int (i-j)):=opI0 λ_ _ _ _ _ _ _ q=>sub_int q
theorem op_mod:OpR X (binaryOp .Mod) (rI (λ_ j=>0<j) λi j=>.int (i%j)):=opI λi j _ _ _ _ _ hc q=>by
 have h1:(0:Int)<j:=hc;exact mod_int' (by omega) (by rw[Int.fmod_eq_emod_of_nonneg i (by omega)];exact q)
theorem op_pow:OpR X (binaryOp .Pow) (rI CPow λi j=>.int (i^j.toNat)):=opI λ_ _ _ _ _ _ _ hc q=>pow_int_small hc.1 hc.2.1 hc.2.2 q
theorem unI{f:Value->Sem Value}{g:Int->Int}
  (rule:∀(i:Int) (t:Tok) (s:Shared) (Q:Value->Shared->Prop) (E:Value->Shared->Prop),Q (.int (g i) s.toks) {s with toks:=s.toks+1}->wpAny (model X.prog X.w) X.A (f (.int i t)) Q E s) :
  UnR X f (rU λi=>.int (g i)):=by
 intro pins s σ H x v Q I rx h;obtain⟨i,rfl,q⟩:=h;obtain⟨t,rfl⟩:=rx;exact rule i t s _ _ ⟨.int (g i),H,I.tok _,⟨_,rfl⟩,q⟩
theorem zA5:UnR X (unaryOp .USub) (rU λi=>.int (-i)):=unI λ_ _ _ _ _ q=>neg_int q
end
def scal:V->V->Bool
 | .non,.non=>true | .non,.int _=>true | .int _,.non=>true | .non,.bl _=>true | .bl _,.non=>true | .non,.str _=>true | .str _,.non=>true
 | .int _,.int _=>true | .bl _,.bl _=>true | .str _,.str _=>true | .byt _,.byt _=>true
 | .int _,.str _=>true | .str _,.int _=>true | .bl _,.str _=>true | .str _,.bl _=>true
 |_,_=>false
def rEq:R2:=λx y H Q=>scal x y=true/\Q (.bl (decide (x=y))) H
def rNe:R2:=λx y H Q=>scal x y=true/\Q (.bl (!decide (x=y))) H
theorem uv{i j:Int}:decide (V.int i=V.int j)=(i==j):=by
 rw[Bool.eq_iff_iff];simp
theorem zA6{i j:Bool}:decide (V.bl i=V.bl j)=(i==j):=by
 rw[Bool.eq_iff_iff];simp
theorem uw{i j:Str}:decide (V.str i=V.str j)=(i==j):=by
 rw[Bool.eq_iff_iff];simp
theorem ux{i j:Array UInt8}:decide (V.byt i=V.byt j)=(i.toList==j.toList):=by
 rw[Bool.eq_iff_iff];cases i;cases j;simp
section
variable{X:Cx}{a b c:Expr}{ta tb tc:TE}{pos:Pos}
theorem zf{pins:List (Addr×Obj)}{σ:St}{H:Hp}{s:Shared}{Q:VK}{k k':Bool}(I:Inv X pins σ H s)(q:Q (.bl k) H)(e:k=k'):EP X pins σ Q (.bool k') s:=by
 subst e;exact⟨.bl k,H,I,rfl,q⟩
theorem op_eq:OpR X (compareOp .Eq) rEq:=by
 intro pins s σ H x y v u Q I rx ry h;obtain⟨hs,q⟩:=h;cases x with
 |non =>
  cases rx;cases y with
  |non=>cases ry;exact PySem.EqNone.eq_none_none (zf I q (by simp))
  |bl j=>cases ry;exact PySem.EqNone.eq_none_bool (zf I q (by simp))
  |int j=>obtain⟨t',rfl⟩:=ry;exact PySem.EqNone.eq_none_int (zf I q (by simp))
  |str j=>obtain⟨t',rfl⟩:=ry;exact PySem.EqNone.eq_none_str (zf I q (by simp))
  |_=>exact absurd (show false=true from hs) Bool.false_ne_true
 |bl i =>
  cases rx;cases y with
  |non=>cases ry;exact PySem.EqNone.eq_bool_none (zf I q (by simp))
  |bl j=>cases ry;exact eq_bool (zf I q zA6)
  |str j=>obtain⟨t',rfl⟩:=ry;exact PySem.EqMixed.eq_bool_str (zf I q (by simp))
  |_=>exact absurd (show false=true from hs) Bool.false_ne_true
 |int i =>
  obtain⟨t,rfl⟩:=rx;cases y with
  |non=>cases ry;exact PySem.EqNone.eq_int_none (zf I q (by simp))
  |int j=>obtain⟨t',rfl⟩:=ry;exact eq_int (zf I q uv)
  |str j=>obtain⟨t',rfl⟩:=ry;exact PySem.EqMixed.eq_int_str (zf I q (by simp))
  |_=>exact absurd (show false=true from hs) Bool.false_ne_true
 |str i =>
  obtain⟨t,rfl⟩:=rx;cases y with
  |non=>cases ry;exact PySem.EqNone.eq_str_none (zf I q (by simp))
  |bl j=>cases ry;exact PySem.EqMixed.eq_str_bool (zf I q (by simp))
  |int j=>obtain⟨t',rfl⟩:=ry;exact PySem.EqMixed.eq_str_int (zf I q (by simp))
  |str j=>obtain⟨t',rfl⟩:=ry;exact eq_str (zf I q uw)
  |_=>exact absurd (show false=true from hs) Bool.false_ne_true
 |byt i =>
  obtain⟨t,rfl⟩:=rx;cases y with
  |byt j=>obtain⟨t',rfl⟩:=ry;exact PySem.W.eq_bytes (zf I q ux)
  |_=>exact absurd (show false=true from hs) Bool.false_ne_true
 |_=>cases y<;>exact absurd (show false=true from hs) Bool.false_ne_true
theorem op_ne:OpR X (compareOp .NotEq) rNe:=by
 intro pins s σ H x y v u Q I rx ry h;obtain⟨hs,q⟩:=h;cases x with
 |non =>
  cases rx;cases y with
  |non=>cases ry;exact PySem.EqNone.ne_none_none (zf I q (by simp))
  |bl j=>cases ry;exact PySem.EqNone.ne_none_bool (zf I q (by simp))
  |int j=>obtain⟨t',rfl⟩:=ry;exact PySem.EqNone.ne_none_int (zf I q (by simp))
  |str j=>obtain⟨t',rfl⟩:=ry;exact PySem.EqNone.ne_none_str (zf I q (by simp))
  |_=>exact absurd (show false=true from hs) Bool.false_ne_true
 |bl i =>
  cases rx;cases y with
  |non=>cases ry;exact PySem.EqNone.ne_bool_none (zf I q (by simp))
  |bl j=>cases ry;exact ne_bool (zf I q (congrArg not zA6))
  |str j=>obtain⟨t',rfl⟩:=ry;exact PySem.EqMixed.ne_bool_str (zf I q (by simp))
  |_=>exact absurd (show false=true from hs) Bool.false_ne_true
 |int i =>
  obtain⟨t,rfl⟩:=rx;cases y with
  |non=>cases ry;exact PySem.EqNone.ne_int_none (zf I q (by simp))
  |int j=>obtain⟨t',rfl⟩:=ry;exact ne_int (zf I q (congrArg not uv))
  |str j=>obtain⟨t',rfl⟩:=ry;exact PySem.EqMixed.ne_int_str (zf I q (by simp))
  |_=>exact absurd (show false=true from hs) Bool.false_ne_true
 |str i =>
  obtain⟨t,rfl⟩:=rx;cases y with
  |non=>cases ry;exact PySem.EqNone.ne_str_none (zf I q (by simp))
  |bl j=>cases ry;exact PySem.EqMixed.ne_str_bool (zf I q (by simp))
  |int j=>obtain⟨t',rfl⟩:=ry;exact PySem.EqMixed.ne_str_int (zf I q (by simp))
  |str j=>obtain⟨t',rfl⟩:=ry;exact ne_str (zf I q (congrArg not uw))
  |_=>exact absurd (show false=true from hs) Bool.false_ne_true
 |byt i =>
  obtain⟨t,rfl⟩:=rx;cases y with
  |byt j=>obtain⟨t',rfl⟩:=ry;exact PySem.W.ne_bytes (zf I q (congrArg not ux))
  |_=>exact absurd (show false=true from hs) Bool.false_ne_true
 |_=>cases y<;>exact absurd (show false=true from hs) Bool.false_ne_true
theorem op_lt:OpR X (compareOp .Lt) (rI0 λi j=>.bl (decide (i<j))):=opB0 λ_ _ _ _ _ _ _ q=>lt_int q
theorem op_le:OpR X (compareOp .LtE) (rI0 λi j=>.bl (decide (i<=j))):=opB0 λ_ _ _ _ _ _ _ q=>le_int q
theorem op_gt:OpR X (compareOp .Gt) (rI0 λi j=>.bl (decide (j<i))):=opB0 λ_ _ _ _ _ _ _ q=>gt_int q
theorem op_ge:OpR X (compareOp .GtE) (rI0 λi j=>.bl (decide (j<=i))):=opB0 λ_ _ _ _ _ _ _ q=>ge_int q
theorem OpR.or{f:Value->Value->Sem Value}{r r':R2}(h:OpR X f r)(h':OpR X f r'):OpR X f (λx y H Q=>r x y H Q\/r' x y H Q):=by
 intro pins s σ H x y v u Q I rx ry q;rcases q with q|q
 ·exact h pins s σ H x y v u Q I rx ry q
 ·exact h' pins s σ H x y v u Q I rx ry q
theorem pe_cmpR{op:CmpOp}{r:R2}(ho:OpR X (compareOp op) r)(ha:PE X a ta)(hb:PE X b tb)(hm:behindInMarks op b=false):PE X (.Compare a [op] [b] pos) (tOp r ta tb):=by
 intro pins s σ H Q I h;exact wpAny_Compare1 (binT ha hb I h λv u s2 x y H2 I2 rx ry q=>ho pins s2 σ H2 x y v u Q I2 rx ry q) hm
def tTest(t:TE):TT:=λσ H Q=>t σ H λx H'=>∃k,x=.bl k/\Q k H'
theorem pt_cmpR{op:CmpOp}{r:R2}(ho:OpR X (compareOp op) r)(ha:PE X a ta)(hb:PE X b tb)(hm:behindInMarks op b=false):PT X (.Compare a [op] [b] pos) (tTest (tOp r ta tb)):=by
 intro pins s σ H Q I h;refine wpAny_isTrue_Compare1 (thn (ha pins s σ H _ I h) λv s1 ⟨x,H1,I1,r1,q1⟩=>thn (hb pins s1 σ H1 _ I1 q1) λu s2 ⟨y,H2,I2,r2,q2⟩ =>
  thn (ho pins s2 σ H2 x y v u _ I2 r1 r2 q2) λc s3 ⟨z,H3,I3,r3,k,e,q3⟩=>?_) hm
 subst e;cases r3;exact wpAny_truthy_bool ⟨H3,I3,q3⟩
def uy(r r':R2)(ta tb tc:TE):TE:=λσ H Q=>ta σ H λx H1=>tb σ H1 λy H2=>r x y H2 λz H3=>∃k,z=.bl k /\
 (if k=true then tc σ H3 λw' H4=>r' y w' H4 Q else Q (.bl false) H3)
theorem Qz{op op':CmpOp}{r r':R2}(ho:OpR X (compareOp op) r)(ho':OpR X (compareOp op') r')(ha:PE X a ta)(hb:PE X b tb)(hc:PE X c tc)
  (hm:lastMarks [op,op'] [b,c]=false:=by with_unfolding_all rfl):PE X (.Compare a [op,op'] [b,c] pos) (uy r r' ta tb tc):=by
 intro pins s σ H Q I h;refine Compare_chain (thn (ha pins s σ H _ I h) λv s1 ⟨x,H1,I1,r1,q1⟩=>chain_link (thn (hb pins s1 σ H1 _ I1 q1) λu s2 ⟨y,H2,I2,r2,q2⟩ =>
  thn (ho pins s2 σ H2 x y v u _ I2 r1 r2 q2) λd s3 ⟨z,H3,I3,r3,k,e,q3⟩=>?_)) hm
 subst e;cases r3;refine wpAny_truthy_bool ?_;cases k with
 |false=>exact ite_ff ⟨.bl false,H3,I3,rfl,q3⟩
 |true=>exact ite_tt (chain_last (thn (hc pins s3 σ H3 _ I3 q3) λw' s4 ⟨z',H4,I4,r4,q4⟩=>ho' pins s4 σ H4 y z' u w' Q I4 r2 r4 q4))
theorem Q0{op op':CmpOp}{r r':R2}(ho:OpR X (compareOp op) r)(ho':OpR X (compareOp op') r')(ha:PE X a ta)(hb:PE X b tb)(hc:PE X c tc)
  (hm:lastMarks [op,op'] [b,c]=false:=by with_unfolding_all rfl):PT X (.Compare a [op,op'] [b,c] pos) (tTest (uy r r' ta tb tc)):=by
 intro pins s σ H Q I h;refine isTrue_chain (thn (ha pins s σ H _ I h) λv s1 ⟨x,H1,I1,r1,q1⟩=>test_link (thn (hb pins s1 σ H1 _ I1 q1) λu s2 ⟨y,H2,I2,r2,q2⟩ =>
  thn (ho pins s2 σ H2 x y v u _ I2 r1 r2 q2) λd s3 ⟨z,H3,I3,r3,k,e,q3⟩=>?_)) hm
 subst e;cases r3;refine wpAny_truthy_bool ?_;cases k with
 |false =>
  obtain⟨k',e',q'⟩:=q3;cases e';exact ite_ff ⟨H3,I3,q'⟩
 |true =>
  refine ite_tt (test_last (thn (hc pins s3 σ H3 _ I3 q3) λw' s4 ⟨z',H4,I4,r4,q4⟩=>thn (ho' pins s4 σ H4 y z' u w' _ I4 r2 r4 q4) λd' s5 ⟨z2,H5,I5,r5,k2,e2,q5⟩=>?_));subst e2;cases r5;exact wpAny_truthy_bool ⟨H5,I5,q5⟩
theorem vF:(sizeLine:Nat)<2^63:=by rw[sizeLine_eq];decide
theorem Yx{x:V}{us:List Value}(r:zZ [x] us):∃u,us=[u]/\zv x u:=by
 cases r with
 |cons r1 r2=>cases r2;exact⟨_,rfl,r1⟩
theorem vals2{x y:V}{us:List Value}(r:zZ [x,y] us):∃u w',us=[u,w']/\zv x u/\zv y w':=by
 cases r with
 |cons r1 r2 =>
  cases r2 with
  |cons r3 r4=>cases r4;exact⟨_,_,rfl,r1,r3⟩
theorem uz(hc:X.calm=true):y1 X (.builtin "max") (λxs H Q=>∃i j,xs=[.int i,.int j]/\Q (.int (if j > i then j else i)) H):=by
 intro pins s σ H xs us Q I r h;obtain⟨i,j,rfl,q⟩:=h;obtain⟨u,w',rfl,⟨t,rfl⟩,⟨t',rfl⟩⟩:=vals2 r;refine max_two_ints (I.ok.hd hc) λh' tk k=>⟨_,H,I.kept k,?_,q⟩
 by_cases hj:j > i
 ·rw[if_pos hj,if_pos hj];exact⟨_,rfl⟩
 ·rw[if_neg hj,if_neg hj];exact⟨_,rfl⟩
theorem u8(hc:X.calm=true):y1 X (.builtin "min") (λxs H Q=>∃i j,xs=[.int i,.int j]/\Q (.int (if j<i then j else i)) H):=by
 intro pins s σ H xs us Q I r h;obtain⟨i,j,rfl,q⟩:=h;obtain⟨u,w',rfl,⟨t,rfl⟩,⟨t',rfl⟩⟩:=vals2 r;refine min_two_ints (I.ok.hd hc) λh' tk k=>⟨_,H,I.kept k,?_,q⟩
 by_cases hj:j<i
 ·rw[if_pos hj,if_pos hj];exact⟨_,rfl⟩
 ·rw[if_neg hj,if_neg hj];exact⟨_,rfl⟩
theorem u9:y1 X (.type "int") (λxs H Q=>(∃i,xs=[.int i]/\Q (.int i) H)\/∃k,xs=[.bl k]/\Q (.int (if k then 1 else 0)) H):=by
 intro pins s σ H xs us Q I r h;rcases h with⟨i,rfl,q⟩|⟨k,rfl,q⟩
 ·obtain⟨u,rfl,t,rfl⟩:=Yx r
  exact call_int_int ⟨.int i,H,I,⟨_,rfl⟩,q⟩
 ·obtain⟨u,rfl,r1⟩:=Yx r
  cases r1;exact call_int_bool ⟨.int (if k then 1 else 0),H,I.tok _,⟨_,rfl⟩,q⟩
end
end L2
namespace L2
open PySem PySem.Spec PyProof.Rows
structure ObjM(h:Heap)(x dx C:Addr)(mA:Str->Option Value):Prop where
 obj:h.get? x=some (instObj C dx)
 ns:h.Ns1 dx mA
 ne:dx≠x
section
variable{prog:Program}{w:World}{A:Around}{E:Value->Shared->Prop}{s:Shared}{K:PySem.W.Frag}{x dx C f:Addr}{mA:Str->Option Value}{name:Str}{v:Value}
end
section
variable{P:Program}{w:World}{H H':Hp}{h h':Heap}{a C dx:Addr}{fs fs':List (Str×V)}
end
structure Cls(K:PySem.W.Frag)(C:Addr):Prop where
 pg:plainGet K C Str.empty=true
 hd:PySem.W.hasDictIn K C=true
 po:PySem.W.plainOver K C=true
 sa:findIn K (.ref C) "__setattr__"=some (some (.builtin "object.__setattr__"))
theorem Cls.get{K:PySem.W.Frag}{C:Addr}(c:Cls K C)(f:Str):plainGet K C f=true:=c.pg
structure Con(K:PySem.W.Frag)(C:Addr)(f:Str)(v:V)(u:Value):Prop where
 at_:findIn K (.ref C) f=some (some u)
 rel:zv v u
 get:specialIn K u "__get__"=some none
 cp:PySem.W.copiedNames.contains f=false
structure Meth(K:PySem.W.Frag)(C:Addr)(m:Str)(f:Addr):Prop where
 at_:findIn K (.ref C) m=some (some (.ref f))
 fn:PySem.W.isFn K (.ref f)=true
 kp:keepIn K (.ref f)=true
section
variable{X:Cx}{pins:List (Addr×Obj)}{σ:St}{H:Hp}{s:Shared}{a C dx:Addr}{fs:List (Str×V)}{f:Str}{v:V}{A:Around}{E:Value->Shared->Prop}
theorem Inv.made(I:Inv X pins σ H s):Inv X pins σ (upd (upd H s.heap.objs.size (.own (s.heap.objs.size+1))) (s.heap.objs.size+1) (.ins C s.heap.objs.size []))
  {s with heap:=(s.heap.push emptyDict).push (instObj C s.heap.objs.size)}:=by
 have e1:(s.heap.push emptyDict).get? s.heap.objs.size=some emptyDict:=get?_push_size s.heap rfl;have e2:((s.heap.push emptyDict).push (instObj C s.heap.objs.size)).get? (s.heap.objs.size+1)=some (instObj C s.heap.objs.size):=by
  have:=get?_push_size (s.heap.push emptyDict) (o:=instObj C s.heap.objs.size) rfl
  rwa [size_push]at this
 have e3:(s.heap.push emptyDict).Ns s.heap.objs.size (λ_=>none):=⟨emptyDict,#[],_,e1,rfl,(λe he=>absurd he (by simp)),λ_=>rfl⟩;have I1:=I.laid (a:=s.heap.objs.size) (o:=.own (s.heap.objs.size+1)) (h':=s.heap.push emptyDict) (t':=s.toks) (λb u q=>get?_push_of_some _ q) (le_refl _) ⟨_,e1⟩;refine I1.laid (a:=s.heap.objs.size+1) (o:=.ins C s.heap.objs.size []) (t':=s.toks) (λb u q=>get?_push_of_some _ q) (Nat.le_of_eq (size_push _ _)) ?_;have ne:s.heap.objs.size≠s.heap.objs.size+1:=ne_of_lt (lt_succ_self _);refine⟨by rw[zg ne,y3],zero_le _,ne,e2,λ_=>none,(Heap.Ns1.of_empty e3).at λo q=>get?_push_of_some _ q,λ_=>True.intro,λy hy=>absurd rfl hy⟩
end
section
variable{X:Cx}{o e value:Expr}{f:Str}{pos pos' tpos:Pos}{ta tv:TE}
end
section
variable{X:Cx}{pins:List (Addr×Obj)}{σ:St}{H:Hp}{s:Shared}{A:Around}{E:Value->Shared->Prop}{Q:Value->Shared->Prop}{c:Value}{b:Bool}
inductive TyOf(K:PySem.W.Frag)(H:Hp):V->Value->Prop where
 |non:TyOf K H .non (.type "NoneType")
 |bl (x:Bool):TyOf K H (.bl x) (.type "bool")
 |int (i:Int):TyOf K H (.int i) (.type "int")
 |str (x:Str):TyOf K H (.str x) (.type "str")
 |flt (x:UInt64):TyOf K H (.flt x) (.type "float")
 |lst {a:Addr} {xs:List V} (e:H a=some (.lst xs)):TyOf K H (.ref a) (.type "list")
 |frz {a:Addr} {o:Obj} {xs:List V} (e:H a=some (.frz o (.lst xs))):TyOf K H (.ref a) (.type "list")
 |tup {a:Addr} {xs:List V} (e:H a=some (.tup xs)):TyOf K H (.ref a) (.type "tuple")
 |dK {a:Addr} {kvs:List (Key×V)} (e:H a=some (.dK kvs)):TyOf K H (.ref a) (.type "dict")
 |dT {a:Addr} {kvs:List (List Key×V)} (e:H a=some (.dT kvs)):TyOf K H (.ref a) (.type "dict")
 |ins {a C dx:Addr} {fs:List (Str×V)} (e:H a=some (.ins C dx fs)) (cl:Cls K C) (ha:findIn K (.ref C) "__class__"=some (some (.builtin "object.__class__")))
   (hn:specialIn K (.builtin "object.__class__") "__get__"=some (some (.builtin "getset_descriptor.__get__"))) (htk:takesIn K (.builtin "object.__class__")=some true)
   (hm:mroIn K C (.type "object")=some true):TyOf K H (.ref a) (.ref C)
end
end L2
namespace L2
open PySem PySem.Spec PyProof.Rows
structure Room(k:Nat)(A:Around):Prop where
 hd:A.handled=none
 gd:A.guards=some []
 dp:A.depth+3*k+5<recursionLimit
 un:A.units+16*k+200<cLine
theorem Room.mono{j k:Nat}{A:Around}(r:Room k A)(h:j<=k):Room j A:=⟨r.hd,r.gd,by have:=r.dp;omega,by have:=r.un;omega⟩
theorem Room.deeper{k:Nat}{A:Around}(r:Room (k+1) A)(env:Env):Room k (A.deeper env) :=
 ⟨r.hd,r.gd,by have:=r.dp;show A.depth+1+3*k+5<_;omega,by have:=r.un;show A.units+3+16*k+200<_;omega⟩
theorem Room.in1{k:Nat}{A:Around}(r:Room (k+1) A):Room k A.in1 :=
 ⟨r.hd,r.gd,by have:=r.dp;show A.depth+3*k+5<_;omega,by have:=r.un;show A.units+1+16*k+200<_;omega⟩
theorem Room.depth{k:Nat}{A:Around}(r:Room k A):A.depth<recursionLimit:=by have:=r.dp;omega
theorem Room.units{k:Nat}{A:Around}(r:Room k A):A.units+64<cLine:=by have:=r.un;omega
def tNil:TA:=λ_ H Q=>Q [] H
def tCons(ta:TE)(tr:TA):TA:=λσ H Q=>ta σ H λx H1=>tr σ H1 λxs H2=>Q (x::xs) H2
section
variable{X:Cx}{e:Expr}{es:List Expr}{te:TE}{t:TA}{pos:Pos}
theorem vG:PA X [] tNil:=λ_ _ _ _ H Q I h=>Calls.spliced_nil ⟨[],H,I,.nil,h⟩
theorem JB(ha:PE X e te)(hr:PA X es t)(hs:starEach (e::es) X.env=(false,eval e X.env)::starEach es X.env:=by rfl):PA X (e::es) (tCons te t):=by
 intro pos pins s σ H Q I h;rw[hs];show wpAny _ _ (spliced ((false,eval e X.env)::backTo pos (starEach es X.env))) _ _ s;refine Calls.spliced_cons (thn (ha pins s σ H _ I h) λu s1 ⟨x,H1,I1,r1,q1⟩=>?_);exact thn (hr pos pins s1 σ H1 _ I1 q1) λus s2 ⟨xs,H2,I2,r2,q2⟩=>⟨x::xs,H2,I2,.cons r1 r2,q2⟩
def tTup(t:TA):TE:=λσ H Q=>t σ H λxs H1=>xs.length<=sizeLine/\∀p,H1 p=none->Q (.ref p) (upd H1 p (.tup xs))
def tLst(t:TA):TE:=λσ H Q=>t σ H λxs H1=>xs.length<=sizeLine/\∀p,H1 p=none->Q (.ref p) (upd H1 p (.lst xs))
theorem pe_tup{x1}(h:PA X es t):PE X (.Tuple es x1 pos) (tTup t):=by
 intro pins s σ H Q I hq;refine wpAny_Tuple_spliced (thn (h pos pins s σ H _ I hq) λus s1 ⟨xs,H1,I1,r,z,q⟩=>⟨by rw[<- r.length];exact z,?_⟩);have hf:H1 s1.heap.objs.size=none:=I1.hok.fresh (le_refl _);refine⟨.ref s1.heap.objs.size,upd H1 s1.heap.objs.size (.tup xs),I1.laid (t':=s1.toks) (λb u e=>get?_push_of_some _ e) (le_refl _) ?_,rfl,q _ hf⟩;exact⟨z,us,r,⟨_,get?_push_size _ rfl,rfl,_,rfl⟩⟩
theorem pe_lst(h:PA X es t):PE X (.List es pos) (tLst t):=by
 intro pins s σ H Q I hq;refine wpAny_List_spliced (thn (h pos pins s σ H _ I hq) λus s1 ⟨xs,H1,I1,r,z,q⟩=>⟨by rw[<- r.length];exact z,?_⟩);have hf:H1 s1.heap.objs.size=none:=I1.hok.fresh (le_refl _);refine⟨.ref s1.heap.objs.size,upd H1 s1.heap.objs.size (.lst xs),I1.laid (t':=s1.toks) (λb u e=>get?_push_of_some _ e) (le_refl _) ?_,rfl,q _ hf⟩;exact⟨z,us,0,r,get?_push_size _ rfl⟩
end
abbrev Sp:=List V->Hp->VK->XK->Prop
abbrev CXT:=List Env->Hp->Shared->XK->Value->Shared->Prop
structure Env0(P:Program)(w:World)(K:PySem.W.Frag)(mg:Str->Option Value)(base:Heap)(A:Around)(outer:List Env)(s:Shared)(H:Hp):Prop where
 frames:A.frames=some outer
 mod:Mod K mg base
 bs:∀b o,base.get? b=some o->s.heap.get? b=some o/\H b=none
 bsz:base.objs.size<=s.heap.objs.size
 funs:s.heap.FunFrames base outer
 frf:∀b∈frs outer,H b=none
 hok:HOk P w H s.heap
 bare:AllBare s.gens
def CE(outer:List Env)(P:Program)(w:World)(H:Hp)(s:Shared)(Q:VK)(u:Value)(s':Shared):Prop :=
 ∃v H',s'.os=s.os/\AllBare s'.gens/\Un (frs outer) [] H H' s.heap s'.heap/\HOk P w H' s'.heap/\zv v u/\Q v H'
def CR(CX:CXT)(outer:List Env)(P:Program)(w:World)(H:Hp)(s:Shared)(Q:VK)(E:XK)(r:Result)(s':Shared):Prop :=
 match r with
 | .ok (.ret u)=>CE outer P w H s Q u s'
 | .ok _=>False
 | .error e=>CX outer H s E e s'
structure FnOk(P:Program)(w:World)(K:PySem.W.Frag)(mg:Str->Option Value)(base:Heap)(CX:CXT)(k:Nat)(f:Addr)(fd:FuncData)(ps:List Str)(sp:Sp):Prop where
 len:∀vs H Q E,sp vs H Q E->vs.length=ps.length
 run:∀(A:Around) (outer:List Env) (s:Shared) (H:Hp) (args:Args) (us:List Value) (vs:List V) (Q:VK) (E:XK),Room k A->Env0 P w K mg base A outer s H->BindsTo s fd args (ps.zip us)->zZ vs us->sp vs H Q E ->
  codeAny (model P w) A (.call (.ref f) args) (CR CX outer P w H s Q E) s
theorem FnOk.mono{P:Program}{w:World}{K:PySem.W.Frag}{mg:Str->Option Value}{base:Heap}{CX:CXT}{j k:Nat}{f:Addr}{fd:FuncData}{ps:List Str}{sp:Sp}(F:FnOk P w K mg base CX j f fd ps sp)(h:j<=k) :
  FnOk P w K mg base CX k f fd ps sp:=⟨F.len,λA outer s H args us vs Q E hr=>F.run A outer s H args us vs Q E (hr.mono h)⟩
theorem FnOk.imp{P:Program}{w:World}{K:PySem.W.Frag}{mg:Str->Option Value}{base:Heap}{CX:CXT}{k:Nat}{f:Addr}{fd:FuncData}{ps:List Str}{sp sp':Sp}(F:FnOk P w K mg base CX k f fd ps sp)
  (h:∀vs H Q E,sp' vs H Q E->sp vs H Q E):FnOk P w K mg base CX k f fd ps sp' :=
 ⟨λvs H Q E q=>F.len vs H Q E (h _ _ _ _ q),λA outer s H args us vs Q E hr he hb hv hs=>F.run A outer s H args us vs Q E hr he hb hv (h _ _ _ _ hs)⟩
theorem Env0.in1{P:Program}{w:World}{K:PySem.W.Frag}{mg:Str->Option Value}{base:Heap}{A:Around}{outer:List Env}{s:Shared}{H:Hp}(e:Env0 P w K mg base A outer s H) :
  Env0 P w K mg base A.in1 outer s H:=⟨e.frames,e.mod,e.bs,e.bsz,e.funs,e.frf,e.hok,e.bare⟩
section
variable{X:Cx}{pins:List (Addr×Obj)}{σ:St}{H:Hp}{s s':Shared}
theorem Inv.env0(I:Inv X pins σ H s):Env0 X.prog X.w X.K X.mg X.base X.A X.stack s H :=
 ⟨I.ok.frames,I.ok.mod,I.bs,le_trans I.ok.bsz I.sz,I.stack,I.stkFree,I.hok,I.bare⟩
theorem Inv.after{Q:VK}{u:Value}(I:Inv X pins σ H s)(h:CE X.stack X.prog X.w H s Q u s'):EP X pins σ Q u s':=by
 obtain⟨v,H',os,bare,un,hok,r,q⟩:=h;obtain⟨hh,g,d,t,os'⟩:=s';obtain rfl:os'=s.os:=os;exact⟨v,H',I.call (h':=hh) (g':=g) (d':=d) (t':=t) (ch:=[]) un hok bare (λb z=>absurd z (by simp)),r,q⟩
end
def J4(K:PySem.W.Frag)(fd:FuncData)(ps:List Str)(ds:List Value):Prop :=
 ∀(s:Shared) (us:List Value),K.In s.heap->(us++ds).length=ps.length->BindsTo s fd ⟨us,[]⟩ (ps.zip (us++ds))
theorem J4.all{K:PySem.W.Frag}{fd:FuncData}{ps:List Str}(h:∀us:List Value,us.length=ps.length->bindArgs fd ⟨us,[]⟩=pure (ps.zip us)):J4 K fd ps []:=λs us _ hl=>by
 rw[append_nil]at hl ⊢;exact .of_eq (h us hl)
section
variable{X:Cx}{CX:CXT}{k:Nat}{f C:Addr}{fd:FuncData}{ps:List Str}{sp:Sp}{dvs:List V}{ds:List Value}{E:XK}{x m:Str}{p pos apos:Pos}{e o:Expr}{es:List Expr}{ta:TE}{t:TA}
structure Mk(K:PySem.W.Frag)(C f:Addr):Prop where
 makes:PySem.W.makesIn K C=true
 init:findIn K (.ref C) "__init__"=some (some (.ref f))
 fn:PySem.W.isFn K (.ref f)=true
 kp:keepIn K (.ref C)=true
end
section
variable{X:Cx}{CX:CXT}{k:Nat}{f C:Addr}{fd:FuncData}{ps ks:List Str}{sp:Sp}{E:XK}{x m:Str}{p pos apos kpos:Pos}{e o:Expr}{es:List Expr}{kws:List Keyword}{te ta:TE}{t tk:TA}{nm:Option Str}
structure KBinds(K:PySem.W.Frag)(fd:FuncData)(ps ks:List Str)(g:List Value->List Value->List Value)(gV:List V->List V->List V):Prop where
 to:∀(s:Shared) (us ws:List Value),K.In s.heap->(g us ws).length=ps.length->BindsTo s fd ⟨us,ks.zip ws⟩ (ps.zip (g us ws))
 rel:∀{vs:List V} {us:List Value} {zs:List V} {ws:List Value},zZ vs us->zZ zs ws->zZ (gV vs zs) (g us ws)
variable{g:List Value->List Value->List Value}{gV:List V->List V->List V}
end
structure FnScope(N P:List Str)(sc:Scope):Prop where
 kind:sc.kind=.function
 co:sc.isCoroutine=false
 gen:sc.isGenerator=false
 nd:N.Nodup
 pre:N.take P.length=P
 par:∀x∈P,sc.names.lookup x=some .local\/sc.names.lookup x=some .cell
 nofree:∀y∈sc.names,y.2≠.free
theorem Zk{kindOf:Str->Option NameKind}{x:Str}:∀{binds:List (Str×Value)} {m:Str->Option Value},(∀v,(x,v)∉binds)->bindL kindOf binds m x=m x
 | [],_,_=>rfl
 | (n,v)::r,m,h=>by
  unfold bindL;rw[Zk λw hw=>h w (mem_cons_of_mem _ hw)];split
  ·have:x≠n:=by rintro rfl;exact h v mem_cons_self
   simp[this]
  ·rfl
theorem Zl{kindOf:Str->Option NameKind}{x:Str}:∀{binds:List (Str×Value)} {m:Str->Option Value},(∀v,(x,v)∉binds)->bindC kindOf binds m x=m x
 | [],_,_=>rfl
 | (n,v)::r,m,h=>by
  unfold bindC;rw[Zl λw hw=>h w (mem_cons_of_mem _ hw)];split
  ·rfl
  ·have:x≠n:=by rintro rfl;exact h v mem_cons_self
   simp[this]
theorem Zm{kindOf:Str->Option NameKind}{x:Str}{v:Value}:∀{P:List Str} {vs:List Value} {i:Nat} {m:Str->Option Value},P.Nodup->P[i]?=some x->vs[i]?=some v->kindOf x=some .local ->
  bindL kindOf (P.zip vs) m x=some v
 | [],_,_,_,_,h,_,_=>by simp at h
 |_::_,[],_,_,_,_,h,_=>by simp at h
 |p::P,w::vs,0,m,nd,h1,h2,hk=>by
  simp at h1 h2;subst h1;subst h2
  show bindL kindOf ((p,w)::P.zip vs) m p=_
  unfold bindL;rw[Zk λv hv=>(nodup_cons.mp nd).1 (of_mem_zip hv).1,if_pos hk];simp
 |p::P,w::vs,i+1,m,nd,h1,h2,hk=>by
  show bindL kindOf ((p,w)::P.zip vs) m x=_
  unfold bindL;exact Zm (i:=i) (nodup_cons.mp nd).2 (by simpa using h1) (by simpa using h2) hk
theorem Zn{kindOf:Str->Option NameKind}{x:Str}{v:Value}:∀{P:List Str} {vs:List Value} {i:Nat} {m:Str->Option Value},P.Nodup->P[i]?=some x->vs[i]?=some v->kindOf x≠some .local ->
  bindC kindOf (P.zip vs) m x=some v
 | [],_,_,_,_,h,_,_=>by simp at h
 |_::_,[],_,_,_,_,h,_=>by simp at h
 |p::P,w::vs,0,m,nd,h1,h2,hk=>by
  simp at h1 h2;subst h1;subst h2
  show bindC kindOf ((p,w)::P.zip vs) m p=_
  unfold bindC;rw[Zl λv hv=>(nodup_cons.mp nd).1 (of_mem_zip hv).1,if_neg hk];simp
 |p::P,w::vs,i+1,m,nd,h1,h2,hk=>by
  show bindC kindOf ((p,w)::P.zip vs) m x=_
  unfold bindC;exact Zn (i:=i) (nodup_cons.mp nd).2 (by simpa using h1) (by simpa using h2) hk
def jD(N:List Str)(vs:List V):St:=vs.map some++replicate (N.length-vs.length) none
def Q1(CX:CXT)(P:Program)(w:World)(K:PySem.W.Frag)(mg:Str->Option Value)(base:Heap)(N:List Str)(qual:Str)(scope:Scope)(f:Addr)(cd:Value)(A:Around)(outer:List Env)(s:Shared)(H:Hp)(E:XK):Cx where
 prog:=P
 w:=w
 K:=K
 mg:=mg
 base:=base
 A:=A.deeper (envOfC qual scope s.heap.objs.size f cd)
 N:=N
 s₀:=s
 H₀:=H
 env:=envOfC qual scope s.heap.objs.size f cd
 outer:=outer
 stack:=envOfC qual scope s.heap.objs.size f cd::outer
 ex:=[]
 calm:=true
 fn:=λ_=>true
 pn:=[]
 xe:=λe s'=>wpAny (model P w) (A.deeper (envOfC qual scope s.heap.objs.size f cd)) (leaving (envOfC qual scope s.heap.objs.size f cd) e) (λ_ s''=>CX outer H s E e s'') (λe' s''=>CX outer H s E e' s'') s'
theorem vH{sc:Scope}{n:Nat}{x:Str}(h:sc.names.lookup x=some .cell):∃c,(cellsFrom n sc.names []).lookup x=some c:=by
 have q:=cellsFrom_some sc.names n [] (.inl h);exact Option.isSome_iff_exists.mp q
theorem Zo{CX:CXT}{P:Program}{w:World}{K:PySem.W.Frag}{mg:Str->Option Value}{base:Heap}{N ps:List Str}{qual:Str}{scope:Scope}{f:Addr}{cd:Value}{A:Around}{outer:List Env}{s s1:Shared}{H:Hp}{E:XK}{us:List Value}{vs:List V}
  (S:FnScope N ps scope) (hd:A.handled=none) (e0:Env0 P w K mg base A outer s H) (hl:vs.length=ps.length) (r:zZ vs us)
  (x:InCallC s s.heap.objs.size (bindL (envOfC qual scope s.heap.objs.size f cd).kindOf (ps.zip us) λ_=>none) (cellsFrom (s.heap.objs.size+1) scope.names []) (bindC (envOfC qual scope s.heap.objs.size f cd).kindOf (ps.zip us) λ_=>none) s1) :
  Inv (Q1 CX P w K mg base N qual scope f cd A outer s H E) [] (jD N vs) H s1:=by
 have hpl:ps.length<=N.length:=by have:=congrArg length S.pre;rw[List.length_take]at this;omega
 obtain⟨h1,tk,rfl,hk⟩:=x.done;have noA:∀b:Addr,b∉(Q1 CX P w K mg base N qual scope f cd A outer s H E).ex:=λb z=>absurd (show b∈([]:List Addr)from z) (by simp)
 refine⟨⟨e0.mod,S.kind,rfl,rfl,le_refl _,λy z c h1 h2=>?_,λy hy=>?_,λy c _ h=>?_,λ_=>hd,Around.frames_deeper e0.frames,.inr ⟨rfl,rfl⟩,λb z=>absurd z (noA b),e0.bs,e0.bsz,λb _ _=>noA b,λb z=>absurd z (noA b),e0.funs,e0.frf⟩,
  rfl,e0.bare,Un.kept hk,⟨_,x.toInCall.ns,λi y v h1 h2 h3=>?_⟩,λy c h=>⟨_,x.cell y c h⟩,e0.hok.fresh (le_refl _),λy c h=>?_,λp hp=>absurd (show p∈([]:List (Addr×Obj))from hp) (by simp),e0.hok.kept hk,?_⟩
 ·exact name_of_addr x.apart (PySem.mem_of_lookup h1) (PySem.mem_of_lookup h2)
 ·have hy:scope.names.lookup y=some .cell\/scope.names.lookup y=some .free:=hy
  rcases hy with hy|hy
  ·exact vH hy
  ·exact absurd rfl (S.nofree _ (PySem.mem_of_lookup hy))
 ·exact Nat.le_of_lt (x.above y c (PySem.mem_of_lookup h))
 ·have hi:i<vs.length:=by
   unfold jD at h2;by_cases hi:i<vs.length
   ·exact hi
   ·rw[List.getElem?_append_right (by simpa using hi)]at h2
    rw[List.getElem?_replicate]at h2;split at h2<;>cases h2
  have ha:vs[i]?=some v:=by
   unfold jD at h2;rw[List.getElem?_append_left (by simpa using hi),getElem?_map]at h2;cases e:vs[i]? with
   |none=>rw[e]at h2;cases h2
   |some a=>rw[e]at h2;cases h2;rfl
  obtain⟨u,hu,rv⟩:=r.get ha;have hp:ps[i]?=some y:=by
   rw[<- S.pre,List.getElem?_take_of_lt (by omega)];exact h1
  have ndP:ps.Nodup:=by rw[<- S.pre];exact S.nd.sublist (List.take_sublist _ _)
  refine⟨u,rv,?_⟩;rcases S.par y (mem_of_getElem? hp)with k|k
  ·exact .inl ⟨k,Zm ndP hp hu k⟩
  ·obtain⟨c,e⟩:=vH (n:=s.heap.objs.size+1) k
   refine .inr ⟨.inl k,c,e,?_⟩;have q:=x.cell y c e;rw[Zn ndP hp hu (by show scope.names.lookup y≠_;rw[k];decide)]at q;exact q
 ·exact e0.hok.fresh (Nat.le_of_lt (x.above y c (PySem.mem_of_lookup h)))
 ·unfold jD
  show _=N.length
  rw[length_append,length_map,List.length_replicate];omega
theorem fn_of{CX:CXT}{P:Program}{w:World}{K:PySem.W.Frag}{mg:Str->Option Value}{base:Heap}{k:Nat}{f:Addr}{name qual:Str}{params:Arguments}{body:List Stmt}{scope:Scope}{dV kV doc pm cdv ct oc:Value}{an od:Option Addr}
  {osl:Array (Option Value)} {N ps:List Str} {sp:Sp} (lk:K.lookup f=some ⟨oc,od,.func (fnOf name qual params body scope dV kV doc pm an cdv ct),osl⟩) (hcd:codeIn K cdv qual=true) (S:FnScope N ps scope)
  (len:∀vs H Q E,sp vs H Q E->vs.length=ps.length)
  (hbody:∀(A:Around) (outer:List Env) (s:Shared) (H:Hp) (vs:List V) (Q:VK) (E:XK),Room k (A.deeper (envOfC qual scope s.heap.objs.size f cdv))->sp vs H Q E ->
   ∃t,PSs (Q1 CX P w K mg base N qual scope f cdv A outer s H E) body t/\t {nx:=λ_ H'=>Q .non H',rt:=Q} (jD N vs) H) :
  FnOk P w K mg base CX (k+1) f (fnOf name qual params body scope dV kV doc pm an cdv ct) ps sp:=by
 refine⟨len,λA outer s H args us vs Q E hr e0 hb r hsp=>?_⟩;have hl:=len _ _ _ _ hsp;have KX:K.In s.heap:=e0.mod.kin.keeps λb o e=>(e0.bs b o e).1
 have lim:s.heap.NoLimit:=e0.mod.nolimit.keeps λb o e=>(e0.bs b o e).1
 have hkind:∀y∈ps.zip us,scope.names.lookup y.1=some .local\/(scope.names.lookup y.1=some .cell/\((cellsFrom (s.heap.objs.size+1) scope.names []).lookup y.1).isSome=true):=λ⟨n,v⟩ hy=>by
  rcases S.par n (of_mem_zip hy).1 with q|q
  ·exact .inl q
  ·exact .inr ⟨q,cellsFrom_some _ _ _ (.inl q)⟩
 refine codeAny_call_function hr.depth (KX _ _ lk) rfl S.co S.gen rfl (codeRec_of KX hcd) (hb _ _ _ _ ?_);refine wpAny_newFunctionEnv_cells S.kind hkind λenv he s1 x=>?_
 subst he;refine⟨lim.keeps x.toInCall.keep,codeAny_func ?_⟩;obtain⟨t,ht,hq⟩:=hbody A outer s H vs Q E (hr.deeper _) hsp;have I:Inv (Q1 CX P w K mg base N qual scope f cdv A outer s H E) [] (jD N vs) H s1:=Zo S hr.hd e0 hl r x;refine wpAny_mono (ht [] s1 (jD N vs) H _ I hq) (λfl s' hs=>?_) λe s' hs=>hs
 have fin:∀{σ':St} {H':Hp} {v:V} {u:Value},Inv (Q1 CX P w K mg base N qual scope f cdv A outer s H E) [] σ' H' s'->zv v u->Q v H'->CE outer P w H s Q u s' :=
  λ{σ' H' v u} J rv q=>⟨v,H',J.os,J.bare,J.base,J.hok,rv,q⟩
 cases fl with
 |ret u =>
  obtain⟨v,σ',H',J,rv,q⟩:=hs;exact fin J rv q
 |next =>
  obtain⟨σ',H',J,q⟩:=hs;exact fin (v:=V.non) (u:=Value.none) J rfl q
 |brk =>
  obtain⟨_,_,_,q⟩:=hs;exact False.elim q
 |cont =>
  obtain⟨_,_,_,q⟩:=hs;exact False.elim q
end L2
namespace L2
open PySem PySem.Spec PyProof.Rows
section
variable{X:Cx}{x:Str}{p pos:Pos}{e:Expr}{es:List Expr}{t:TA}{id T:String}{r:List V->Hp->VK->Prop}
def tCB(r:List V->Hp->VK->Prop)(t:TA):TE:=λσ H Q=>t σ H λvs H1=>r vs H1 Q
theorem vI(hc:y1 X (.builtin id) r)(hg:Gl X x)(hm:X.mg x=none)(hv:bootBuiltins x=some (.builtin id))(ha:PA X (e::es) t)(hn:x≠"__name__":=by decide)(hdb:(x==("__debug__":Str))=false:=by decide)
  (he:starEach (e::es) X.env=(false,eval e X.env)::starEach es X.env:=by rfl) (hpl:(backTo pos (starEach es X.env)).any (·.1)=false:=by rfl):PE X (.Call (.Name x p) (e::es) [] pos) (tCB r t):=by
 intro pins s σ H Q I h;refine wpAny_Call_Name_kw (J3 I hg hm hv ?_ hn hdb);exact PyProof.Rows.callWith_builtin1 (thn (ha pos pins s σ H _ I h) λus s1 ⟨vs,H1,I1,r1,q1⟩=>hc pins s1 σ H1 vs us Q I1 r1 q1) he hpl
theorem GB(hc:y1 X (.type T) r)(hg:Gl X x)(hm:X.mg x=none)(hv:bootBuiltins x=some (.type T))(ha:PA X (e::es) t)(hn:x≠"__name__":=by decide)(hdb:(x==("__debug__":Str))=false:=by decide)
  (he:starEach (e::es) X.env=(false,eval e X.env)::starEach es X.env:=by rfl) (hpl:(backTo pos (starEach es X.env)).any (·.1)=false:=by rfl):PE X (.Call (.Name x p) (e::es) [] pos) (tCB r t):=by
 intro pins s σ H Q I h;refine wpAny_Call_Name_kw (J3 I hg hm hv ?_ hn hdb);exact PyProof.Rows.callWith_type1 (thn (ha pos pins s σ H _ I h) λus s1 ⟨vs,H1,I1,r1,q1⟩=>hc pins s1 σ H1 vs us Q I1 r1 q1) he hpl
end
end L2
namespace HT
open PySem PyProof.Rows
def lexLt:List Int->List Int->Bool
 | [],[]=>false
 | [],_::_=>true
 |_::_,[]=>false
 |x::xs,y::ys=>if x=y then lexLt xs ys else decide (x<y)
theorem uJ(x y:Int)(xs ys:List Int):lexLt (x::xs) (y::ys)=if x=y then lexLt xs ys else decide (x<y):=rfl
theorem Yy:lexLt [] []=false:=rfl
theorem YW(y:Int)(ys:List Int):lexLt [] (y::ys)=true:=rfl
theorem YX(x:Int)(xs:List Int):lexLt (x::xs) []=false:=rfl
theorem Q2(A:Around)(s:Shared)(a:Int)(t:Tok)(c:Int)(u:Tok):∃e,SeqAt.EqAt A s (.int a t) (.int c u) e/\(e=true↔a=c) :=
 ⟨(a==c),SeqAt.EqAt.int_int a t c u,by simp⟩
theorem Q3(A:Around)(s:Shared)(a:Int)(t:Tok)(c:Int)(u:Tok)(prog:Program)(w:World)(E:Value->Shared->Prop)(Q:Value->Shared->Prop)(h:Q (.bool (decide (a<c))) s) :
  wpAny (model prog w) A (richCompare .Lt (.int a t) (.int c u)) Q E s :=
 (PyProof.Rows.lt_int h:wpAny (model prog w) A (compareOp .Lt (.int a t) (.int c u)) Q E s)
section
open PySem.SeqAt
open PySem.AutoSeq1 (wpAny_loadPart')
open PySem.MeetsSeq PySem.MeetsSeq2 PySem.MeetsSeq3
theorem Yz(l b:Addr)(items items2:Array Value)(n n2:Nat)(dd dd2:Option Addr)(sl sl2:Array (Option Value))(ns ms:List Int)(hi:IntsAre items.toList ns)(hj:IntsAre items2.toList ms) :
  Meets (Builtin.«tuple.__lt__» ⟨[.ref l,.ref b],[]⟩)
   (λ_ R s=>s.heap.get? l=some {cls:=.type "tuple",dict:=dd,data:=.seq items n,slots:=sl}/\s.heap.get? b=some {cls:=.type "tuple",dict:=dd2,data:=.seq items2 n2,slots:=sl2} /\
    R (.ok (.ret (.bool (lexLt ns ms)))) s) :=
 .of_wp λprog w A R s h=>by
  obtain⟨hp,g,d,tk,os⟩:=s;obtain⟨hl,hb,h⟩:=h;have f2:=AutoSeq1.sub_tuple_tuple;have z1:items.size=ns.length:=by rw[<- hi.length];simp
  have z2:items2.size=ms.length:=by rw[<- hj.length];simp
  wp_walk using wpAny_loadPart' hl,wpAny_loadPart' hb,wpAny_forIn_list _ (λji b s'=>b.1=none/\s'=⟨hp,g,d,tk,os⟩/\∃(vs ws:List Value) (ns' ms':List Int),ji=vs.zip ws /\
   IntsAre vs ns'/\IntsAre ws ms'/\ns'.length+items2.size=ms'.length+items.size/\R (.ok (.ret (.bool (lexLt ns' ms')))) ⟨hp,g,d,tk,os⟩) _
  case turn =>
   rintro ⟨y,x⟩ ji b s' ⟨hb',rfl,vs,ws,ns',ms',hz,hvi,hwi,hlen,hR⟩
   cases hvi with
   |nil=>rw[List.zip_nil_left]at hz;cases hz
   |cons a t hvi' =>
    cases hwi with
    |nil=>rw[List.zip_nil_right]at hz;cases hz
    |cons c u hwi' =>
     rw[zip_cons_cons]at hz;injection hz with hyx hrest
     injection hyx with hy hx
     subst hy hx;rw[uJ]at hR;simp only[length_cons]at hlen;obtain⟨e,he,hiff⟩:=Q2 A.in1 ⟨hp,g,d,tk,os⟩ a t c u;refine wpAny_bind (he prog w _ _ ?_);cases e with
     |true =>
      rw[if_pos (hiff.mp rfl)]at hR
      wp_walk
      exact⟨rfl,rfl,_,_,_,_,hrest,hvi',hwi',by omega,hR⟩
     |false =>
      rw[if_neg (λq=>absurd (hiff.mpr q) Bool.false_ne_true)]at hR;have hri:=Q3 A.in1 ⟨hp,g,d,tk,os⟩ a t c u prog w
      wp_walk using hri
      exact⟨_,rfl,by simpa using hR⟩
  case fin =>
   rintro ⟨b1,b2⟩ s' ⟨hb',rfl,vs,ws,ns',ms',hz,hvi,hwi,hlen,hR⟩
   simp only at hb';subst hb';have hv:lexLt ns' ms'=decide (items.size<items2.size):=by
    cases hvi with
    |nil =>
     cases hwi with
     |nil =>
      simp only[length_nil]at hlen;rw[Yy];exact(decide_eq_false (by omega)).symm
     |cons c u hw =>
      simp only[length_nil,length_cons]at hlen;rw[YW];exact(decide_eq_true (by omega)).symm
    |cons a t hv =>
     cases hwi with
     |nil =>
      simp only[length_nil,length_cons]at hlen;rw[YX];exact(decide_eq_false (by omega)).symm
     |cons c u hw =>
      rw[zip_cons_cons]at hz;cases hz
   rw[hv]at hR
   wp_walk
   exact⟨_,rfl,by simpa[Builtin.Tuple.tupleCompareSizes]using hR⟩
  case h =>
   exact⟨rfl,rfl,items.toList,items2.toList,ns,ms,rfl,hi,hj,by omega,h⟩
end
section
variable{prog:Program}{w:World}{A:Around}{E:Value->Shared->Prop}{s:Shared}
theorem lt_tupInts{l b:Addr}{items items2:Array Value}{ns ms:List Int}{Q:Value->Shared->Prop}(hl:IsTup s.heap l items)(hb:IsTup s.heap b items2)(hi:IntsAre items.toList ns)(hj:IntsAre items2.toList ms)
  (hu:A.units<cLine) (h:Q (.bool (lexLt ns ms)) s):wpAny (model prog w) A (compareOp .Lt (.ref l) (.ref b)) Q E s:=by
 obtain⟨⟨cls,dd,data,sl⟩,ho,hc,n,hd⟩:=id hl;obtain⟨⟨cls2,dd2,data2,sl2⟩,ho2,hc2,n2,hd2⟩:=id hb;simp only at hc hd hc2 hd2;subst hc hd hc2 hd2;exact richCompare_meets_room (op:=.Lt) ⟨_,ho,rfl⟩ ⟨_,ho2,rfl⟩ PySem.F.slot_tuple_lt PySem.F.entry_tuple_lt (PySem.F.args_tuple_lt_2 _ _) (Yz l b items items2 n n2 dd dd2 sl sl2 ns ms hi hj)
  ⟨ho,ho2,show Value.bool (lexLt ns ms)≠Value.notImplemented/\Q (.bool (lexLt ns ms)) s from⟨(λx=>nomatch x),h⟩⟩ hu
theorem cat_tup{t b:Addr}{vs ws:List Value}{Q:Value->Shared->Prop}(ht:IsTup s.heap t vs.toArray)(hb:IsTup s.heap b ws.toArray)(hv:vs≠[])
  (h1:ws=[]->Q (.ref t) s) (h2:ws≠[]->Q (.ref s.heap.objs.size) {s with heap:=s.heap.push {cls:=.type "tuple",data:=.seq (vs++ws).toArray}})
  (hsz:vs.length+ws.length<=sizeLine):wpAny (model prog w) A (binaryOp .Add (.ref t) (.ref b)) Q E s:=by
 obtain⟨⟨cls,dd,data,sl⟩,ho,hc,n,hd⟩:=id ht;obtain⟨⟨cls2,dd2,data2,sl2⟩,ho2,hc2,n2,hd2⟩:=id hb;simp only at hc hd hc2 hd2;subst hc hd hc2 hd2;have e:vs.toArray++ws.toArray=(vs++ws).toArray:=by simp
 by_cases hw:ws=[]
 ·exact concat_meets ⟨_,ho,rfl⟩ ⟨_,ho2,rfl⟩ noFill_tuple_add seq_tuple_add PySem.F.slot_tuple_add PySem.F.entry_tuple_add (PySem.F.args_tuple_add_2 _ _)
   (tuple_addW1 t b vs.toArray ws.toArray n n2 dd dd2 sl sl2 (by simpa using hv) (by simp[hw])) ⟨ho,ho2,h1 hw⟩
 ·refine concat_meets ⟨_,ho,rfl⟩ ⟨_,ho2,rfl⟩ noFill_tuple_add seq_tuple_add PySem.F.slot_tuple_add PySem.F.entry_tuple_add (PySem.F.args_tuple_add_2 _ _)
   (tuple_addW2 t b vs.toArray ws.toArray n n2 dd dd2 sl sl2 (by simpa using hv) (by simpa using hw) (by rw[size_toArray,size_toArray];exact hsz)) ⟨ho,ho2,?_⟩
  rw[e];exact h2 hw
def sIx(n d:Nat):Option Int->Nat
 |none=>d
 |some v=>if v<0 then(v+(n:Int)).toNat else min v.toNat n
theorem sIx_nat(n d k:Nat):sIx n d (some (k:Int))=min k n:=by
 show(if(k:Int)<0 then((k:Int)+(n:Int)).toNat else min (k:Int).toNat n)=min k n
 rw[if_neg (by omega),Int.toNat_natCast]
theorem sIx_le(n d:Nat)(hd:d<=n)(o:Option Int):sIx n d o<=n:=by
 cases o with
 |none=>exact hd
 |some v =>
  show(if v<0 then(v+(n:Int)).toNat else min v.toNat n)<=n
  by_cases hv:v<0
  ·rw[if_pos hv];omega
  ·rw[if_neg hv];exact Nat.min_le_right _ _
theorem GC(v:Int)(n d:Nat):(if v<0 then max (v+(n:Int)) 0 else min v (n:Int))=((sIx n d (some v):Nat):Int):=by
 show(if v<0 then max (v+(n:Int)) 0 else min v (n:Int))=(((if v<0 then(v+(n:Int)).toNat else min v.toNat n):Nat):Int)
 by_cases hv:v<0
 ·simp only[if_pos hv];omega
 ·simp only[if_neg hv];omega
theorem uK(lo hi:Option Int)(n:Nat):Builtin.Slice.sliceAdjust lo hi 1 (n:Int)=(((sIx n 0 lo:Nat):Int),((sIx n n hi:Nat):Int)):=by
 have h1:¬((1:Int)<0):=by omega
 unfold Builtin.Slice.sliceAdjust;simp only[h1,if_false];refine Prod.ext ?_ ?_
 ·cases lo with
  |none=>rfl
  |some v=>exact GC v n 0
 ·cases hi with
  |none=>rfl
  |some v=>exact GC v n n
theorem uL(i j:Nat):Builtin.Slice.slicePlaces (i:Int) (j:Int) 1=j-i:=by
 unfold Builtin.Slice.slicePlaces;have h1:(1:Int) > 0:=by omega
 simp only[h1,if_true,Int.ediv_one];split<;>omega
theorem slicePart_{v:Value}{o:Option Int}{Q:Option Int->Shared->Prop}(p:IsPart v o)(h:Q o s):wpAny (model prog w) A (Builtin.Slice.slicePartIndex v) Q E s:=by
 cases p with
 |none=>exact slicePart_none h
 |int i t=>exact slicePart_int h
theorem sliceApplied_gen{sl:Addr}{vl vu:Value}{lo hi:Option Int}{n:Nat}{Q:Int×Int×Nat->Shared->Prop}(hs:s.heap.IsSliceOf sl vl vu .none)(pl:IsPart vl lo)(pu:IsPart vu hi)
  (h:Q (((sIx n 0 lo:Nat):Int),1,sIx n n hi-sIx n 0 lo) s):wpAny (model prog w) A (Builtin.Slice.sliceApplied (.ref sl) (pure (n:Int))) Q E s:=by
 obtain⟨os,hos,hcs,hds⟩:=id hs;unfold Builtin.Slice.sliceApplied Builtin.Slice.sliceFields;refine wpAny_bind (wpAny_bind (wpAny_field hos hds (x:=vl) rfl (wpAny_bind (wpAny_field hos hds (x:=vu) rfl (wpAny_bind (wpAny_field hos hds (x:=.none) rfl (wpAny_pure ?_)))))));refine wpAny_bind (slicePart_none ?_);show wpAny _ _ (if((1:Int)==0)=true then _ else _) _ _ s;rw[if_neg (by decide)];refine wpAny_bind (slicePart_ pl (wpAny_bind (slicePart_ pu (wpAny_bind (wpAny_pure ?_)))));show wpAny _ _ (match Builtin.Slice.sliceAdjust lo hi 1 (n:Int)with|(lo,hi)=>pure (lo,(1:Int),Builtin.Slice.slicePlaces lo hi 1)) _ _ s
 rw[uK lo hi n];show wpAny _ _ (pure (((sIx n 0 lo:Nat):Int),(1:Int),Builtin.Slice.slicePlaces ((sIx n 0 lo:Nat):Int) ((sIx n n hi:Nat):Int) 1)) _ _ s;rw[uL];exact wpAny_pure h
theorem Q4(xs:Array Value)(i k:Nat):((List.range k).filterMap λ(m:Nat)=>xs[((i:Int)+(m:Int)*1).toNat]?).toArray=((xs.toList.drop i).take k).toArray:=by
 have e:(λ(m:Nat)=>xs[((i:Int)+(m:Int)*1).toNat]?)=λm=>xs[i+m]?:=by
  funext m
  have:((i:Int)+(m:Int)*1).toNat=i+m:=by omega
  rw[this]
 rw[e];have:=pick_run xs i k;rw[filterMap_map]at this;have e2:((λx=>xs[x]?) ∘ λx=>i+x)=λm=>xs[i+m]?:=rfl
 rw[e2]at this;rw[this]
theorem getItem_tuple_cut{t sl:Addr}{items:Array Value}{vl vu:Value}{lo hi:Option Int}{Q:Value->Shared->Prop}(ht:IsTup s.heap t items)(hs:s.heap.IsSliceOf sl vl vu .none)(pl:IsPart vl lo)(pu:IsPart vu hi)
  (hw:¬(sIx items.size 0 lo=0/\sIx items.size items.size hi=items.size))
  (h:Q (.ref s.heap.objs.size) {s with heap:=s.heap.push {cls:=.type "tuple",data:=.seq ((items.toList.drop (sIx items.size 0 lo)).take (sIx items.size items.size hi-sIx items.size 0 lo)).toArray}})
  (hsz:items.size<=sizeLine):wpAny (model prog w) A (getItem (.ref t) (.ref sl)) Q E s:=by
 have htake:sizeOk (.seq ((items.toList.drop (sIx items.size 0 lo)).take (sIx items.size items.size hi-sIx items.size 0 lo)).toArray):=by
  show((items.toList.drop (sIx items.size 0 lo)).take (sIx items.size items.size hi-sIx items.size 0 lo)).toArray.size<=sizeLine
  rw[size_toArray,List.length_take,List.length_drop,Array.length_toList];omega
 have hj:sIx items.size items.size hi<=items.size:=sIx_le _ _ (le_refl _) hi;obtain⟨os,hos,hcs,hds⟩:=id hs;have hTs:s.TypeIs (.ref sl) "slice":=⟨os,hos,hcs⟩;unfold getItem
 try with_reducible refine wpAny_holding ?_
 first|refine wpAny_bind (wpAny_pure ?_)|skip
 refine wpAny_bind (wpAny_sequenceKey ht.typeIs (by decide) ?_);refine wpAny_bind (wpAny_callSpecial?_slot (name:=Str.ofString "__getitem__") ht.typeIs PyProof.Rows.slot_tuple_getitem
  (wpAny_call_entry PyProof.Rows.slot_tuple_getitem ht.typeIs entry_tuple_getitem ?_ (args_tuple_getitem _ _)))
 show wpAny _ _ (Builtin.Tuple.tupleItemsOf (.ref t) >>= _) _ _ s
 refine wpAny_bind (tupleItemsOf_ ht ?_);refine wpAny_bind (wpAny_typeOf hTs ?_);rw[if_pos (by decide)];refine wpAny_bind (sliceApplied_gen hs pl pu ?_);have hno:¬((((sIx items.size 0 lo:Nat):Int)==0&&(1:Int)==1&&(sIx items.size items.size hi-sIx items.size 0 lo)==items.size)=true):=by
  intro q;rw[Bool.and_eq_true,Bool.and_eq_true]at q;have q1:((sIx items.size 0 lo:Nat):Int)=0:=eq_of_beq q.1.1;have q2:sIx items.size items.size hi-sIx items.size 0 lo=items.size:=eq_of_beq q.2;exact hw ⟨by omega,by omega⟩
 show wpAny _ _ (if(((sIx items.size 0 lo:Nat):Int)==0&&(1:Int)==1&&(sIx items.size items.size hi-sIx items.size 0 lo)==items.size)=true then _ else _) _ _ s
 rw[if_neg hno,Q4]
 first
  |exact wpAny_bind (m:=Builtin.Tuple.tupleExact _) (wpAny_newObj_type (wpAny_pure ⟨_,rfl,wpAny_pure h⟩) htake)
  |exact wpAny_bind (m:=Builtin.Tuple.tupleExact _) (wpAny_newObj_type (wpAny_bind (wpAny_pure (wpAny_pure ⟨_,rfl,wpAny_pure h⟩))) htake)
  |exact wpAny_bind (wpAny_bind (m:=Builtin.Tuple.tupleExact _) (wpAny_newObj_type (wpAny_pure (wpAny_pure ⟨_,rfl,wpAny_pure h⟩)) htake))
  |exact wpAny_bind (wpAny_bind (m:=Builtin.Tuple.tupleExact _) (wpAny_newObj_type (wpAny_pure ⟨_,rfl,wpAny_pure h⟩) htake))
end
end HT
namespace L2
open PySem PySem.Spec PyProof.Rows
abbrev TO:=St->Hp->(Option Int->Hp->Prop)->Prop
def PO(X:Cx)(e:Option Expr)(t:TO):Prop :=
 ∀(pins:List (Addr×Obj)) (s:Shared) (σ:St) (H:Hp) (Q:Option Int->Hp->Prop),Inv X pins σ H s->t σ H Q ->
  wpAny (model X.prog X.w) X.A (evalPart e X.env) (λu s'=>∃o H',Inv X pins σ H' s'/\IsPart u o/\Q o H') X.xe s
def tNoPart:TO:=λ_ H Q=>Q none H
def tPart(t:TE):TO:=λσ H Q=>t σ H λx H1=>∃i,x=.int i/\Q (some i) H1
theorem uM{ns:List Int}:∀{us:List Value},zZ (ns.map V.int) us->IntsAre us ns:=by
 induction ns with
 |nil=>intro us r;rw[List.map_nil]at r;cases r;exact .nil
 |cons n ns ih =>
  intro us r;rw[map_cons]at r;cases r with
  |cons r1 r2 =>
   obtain⟨t,e⟩:=r1;subst e;exact .cons n t (ih r2)
section
variable{X:Cx}{e:Expr}{te:TE}{lo hi:Option Expr}{tl th:TO}{pos p2:Pos}
theorem po_none:PO X none tNoPart:=by
 intro pins s σ H Q I h;rw[evalPart_none];exact wpAny_pure ⟨none,H,I,.none,h⟩
theorem po_some(h:PE X e te):PO X (some e) (tPart te):=by
 intro pins s σ H Q I hw;rw[evalPart_some];refine thn (h pins s σ H _ I hw) λu s1 ⟨x,H1,I1,r1,q1⟩=>?_
 obtain⟨i,rfl,q⟩:=q1;obtain⟨t,rfl⟩:=r1;exact⟨some i,H1,I1,.int i t,q⟩
def SlR(X:Cx)(r:V->Option Int->Option Int->Hp->VK->Prop):Prop :=
 ∀(pins:List (Addr×Obj)) (s:Shared) (σ:St) (H:Hp) (x:V) (v vl vu:Value) (lo hi:Option Int) (sl:Addr) (Q:VK),Inv X pins σ H s->zv x v->s.heap.IsSliceOf sl vl vu .none->IsPart vl lo->IsPart vu hi->r x lo hi H Q ->
  ∃T id,typeLookup (.type T) "__getitem__"=pure (some (.builtin id))/\s.TypeIs v T/\wpAny (model X.prog X.w) X.A (getItem v (.ref sl)) (EP X pins σ Q) X.xe s
theorem SlR.or{r r':V->Option Int->Option Int->Hp->VK->Prop}(h:SlR X r)(h':SlR X r'):SlR X (λx lo hi H Q=>r x lo hi H Q\/r' x lo hi H Q):=by
 intro pins s σ H x v vl vu lo hi sl Q I rx hs pl pu q;rcases q with q|q
 ·exact h pins s σ H x v vl vu lo hi sl Q I rx hs pl pu q
 ·exact h' pins s σ H x v vl vu lo hi sl Q I rx hs pl pu q
def tSl(r:V->Option Int->Option Int->Hp->VK->Prop)(te:TE)(tl th:TO):TE:=λσ H Q=>te σ H λx H1=>tl σ H1 λl H2=>th σ H2 λu H3=>r x l u H3 Q
theorem Q5{r:V->Option Int->Option Int->Hp->VK->Prop}(hr:SlR X r)(he:PE X e te)(hl:PO X lo tl)(hu:PO X hi th):PE X (.Subscript e (.Slice lo hi none p2) pos) (tSl r te tl th):=by
 intro pins s σ H Q I h;refine Subscript_ (thn (he pins s σ H _ I h) λv s1 ⟨x,H1,I1,r1,q1⟩=>?_);refine wpAny_Slice (thn (hl pins s1 σ H1 _ I1 q1) λvl s2 ⟨l,H2,I2,pl,q2⟩=>thn (hu pins s2 σ H2 _ I2 q2) λvu s3 ⟨u,H3,I3,pu,q3⟩=>?_);rw[evalPart_none];refine wpAny_pure ?_;have I4:Inv X pins σ H3 {s3 with heap:=s3.heap.push {cls:=.type "slice",data:=.fields #[vl,vu,.none]}}:=I3.kept (t':=s3.toks) λb ob q=>get?_push_of_some _ q
 obtain⟨T,id,hT,ht,hg⟩:=hr pins {s3 with heap:=s3.heap.push {cls:=.type "slice",data:=.fields #[vl,vu,.none]}} σ H3 x v vl vu l u s3.heap.objs.size Q I4 r1 (Heap.IsSliceOf.new ..) pl pu q3
 show wpAny (model X.prog X.w) X.A (subscriptTail e (.Slice lo hi none p2) v (.ref s3.heap.objs.size)) (EP X pins σ Q) X.xe {s3 with heap:=s3.heap.push {cls:=.type "slice",data:=.fields #[vl,vu,.none]}}
 exact tail_any (ops:=[.ref s3.heap.objs.size,v]) ht hT hg (by with_unfolding_all rfl)
def Q6(xs:List V)(lo hi:Option Int):List V:=(xs.drop (HT.sIx xs.length 0 lo)).take (HT.sIx xs.length xs.length hi-HT.sIx xs.length 0 lo)
theorem J5(xs:List V)(lo hi:Option Int):(Q6 xs lo hi).length<=xs.length:=by
 unfold Q6;rw[List.length_take,List.length_drop];omega
def rSlT(K:PySem.W.Frag):V->Option Int->Option Int->Hp->VK->Prop:=λx lo hi H Q=>∃a xs,x=.ref a/\SqT K H a xs /\
 ¬(HT.sIx xs.length 0 lo=0/\HT.sIx xs.length xs.length hi=xs.length)/\∀p,H p=none->Q (.ref p) (upd H p (.tup (Q6 xs lo hi)))
theorem sl_tup:SlR X (rSlT X.K):=by
 intro pins s σ H x v vl vu lo hi sl Q I rx hs pl pu h;obtain⟨a,xs,rfl,hx,hw,q⟩:=h;cases rx;obtain⟨its,r,ht,hz⟩:=I.tuple hx;have hlen:its.toArray.size=xs.length:=by rw[size_toArray];exact r.length.symm
 refine⟨"tuple",_,PyProof.Rows.slot_tuple_getitem.lookup,ht.typeIs,?_⟩;refine HT.getItem_tuple_cut ht hs pl pu (by rw[hlen];exact hw) ?_ (by rw[hlen];exact hz);rw[hlen];refine⟨.ref s.heap.objs.size,_,I.laid (t':=s.toks) (o:=.tup (Q6 xs lo hi)) (λb ob q=>get?_push_of_some _ q) (le_refl _) ?_,rfl,q _ (I.hok.fresh (le_refl _))⟩;exact⟨le_trans (J5 xs lo hi) hz,_,(r.drop (HT.sIx xs.length 0 lo)).take (HT.sIx xs.length xs.length hi-HT.sIx xs.length 0 lo),IsTup.new _ _⟩
def rCatT(K:PySem.W.Frag):R2:=λx y H Q=>∃a b xs ys,x=.ref a/\y=.ref b/\SqT K H a xs/\SqT K H b ys/\xs≠[]/\xs.length+ys.length<=sizeLine /\
 (ys=[]->Q (.ref a) H)/\(ys≠[]->∀p,H p=none->Q (.ref p) (upd H p (.tup (xs++ys))))
theorem zZ.nil_iff{xs:List V}{us:List Value}(r:zZ xs us):us=[]↔xs=[]:=by
 cases r with
 |nil=>simp
 |cons _ _=>simp
theorem op_catT:OpR X (binaryOp .Add) (rCatT X.K):=by
 intro pins s σ H x y v u Q I rx ry h;obtain⟨a,b,xs,ys,rfl,rfl,ha,hb,hx,hz,q1,q2⟩:=h;cases rx;cases ry;obtain⟨its,r1,p1,_⟩:=I.tuple ha;obtain⟨its2,r2,p2,_⟩:=I.tuple hb;refine HT.cat_tup p1 p2 (λz=>hx (r1.nil_iff.mp z)) (λz=>⟨.ref a,H,I,rfl,q1 (r2.nil_iff.mp z)⟩) (λz=>?_) (by rw[<- r1.length,<- r2.length];exact hz);refine⟨.ref s.heap.objs.size,_,I.laid (t':=s.toks) (o:=.tup (xs++ys)) (λb ob q=>get?_push_of_some _ q) (le_refl _) ?_,rfl,q2 (λw=>z (r2.nil_iff.mpr w)) _ (I.hok.fresh (le_refl _))⟩;exact⟨by rw[length_append];exact hz,_,r1.append r2,IsTup.new _ _⟩
end
end L2
namespace L2
open PySem PySem.Spec PyProof.Rows
def ixN(n:Nat)(i:Int):Option Nat:=if 0<=i then(if i<n then some i.toNat else none)else if -(n:Int)<=i then some (i+n).toNat else none
def atI{α:Type}(xs:List α)(i:Int):Option α:=(ixN xs.length i).bind λj=>xs[j]?
theorem GD{n:Nat}{i:Int}{j:Nat}(h:ixN n i=some j):seqIndex? i n=some j/\j<n/\-(n:Int)<=i/\i<n:=by
 unfold ixN at h;by_cases h0:0<=i
 ·rw[if_pos h0]at h
  by_cases h1:i<n
  ·rw[if_pos h1]at h
   have e:i.toNat=j:=Option.some.inj h;exact⟨by rw[seqIndex_of h0 h1,e],by omega,by omega,h1⟩
  ·rw[if_neg h1]at h;cases h
 ·rw[if_neg h0]at h
  by_cases h1:-(n:Int)<=i
  ·rw[if_pos h1]at h
   have e:(i+n).toNat=j:=Option.some.inj h;exact⟨by rw[seqIndex_neg (by omega) h1,e],by omega,h1,by omega⟩
  ·rw[if_neg h1]at h;cases h
theorem GE{α:Type}{xs:List α}{i:Int}{v:α}(h:atI xs i=some v):∃j,seqIndex? i xs.length=some j/\xs[j]?=some v/\j<xs.length/\-(xs.length:Int)<=i/\i<xs.length:=by
 unfold atI at h;cases e:ixN xs.length i with
 |none=>rw[e]at h;cases h
 |some j =>
  rw[e]at h;obtain⟨h1,h2,h3,h4⟩:=GD e;exact⟨j,h1,h,h2,h3,h4⟩
def Y0(b:Expr):Prop:=∀o i,subscripted b false o i=operate [o,i] (getItem o i)
def IxR(X:Cx)(r:R2):Prop :=
 ∀(value slice:Expr) (pins:List (Addr×Obj)) (s:Shared) (σ:St) (H:Hp) (x y:V) (v u:Value) (Q:VK),Inv X pins σ H s->zv x v->zv y u->r x y H Q ->
  subscripted slice false v u=operate [v,u] (getItem v u)->wpAny (model X.prog X.w) X.A (subscriptTail value slice v u) (EP X pins σ Q) X.xe s
def MtR(X:Cx)(id:String)(r:V->List V->Hp->VK->Prop):Prop :=
 ∀(pins:List (Addr×Obj)) (s:Shared) (σ:St) (H:Hp) (x:V) (xs:List V) (v:Value) (us:List Value) (Q:VK),Inv X pins σ H s->zv x v->zZ xs us->r x xs H Q ->
  wpAny (model X.prog X.w) X.A (call (.builtin id) (v::us)) (EP X pins σ Q) X.xe s
section
variable{X:Cx}{a b:Expr}{ta tb:TE}{pos:Pos}
theorem IxR.or{r r':R2}(h:IxR X r)(h':IxR X r'):IxR X (λx y H Q=>r x y H Q\/r' x y H Q):=by
 intro value slice pins s σ H x y v u Q I rx ry q hs;rcases q with q|q
 ·exact h value slice pins s σ H x y v u Q I rx ry q hs
 ·exact h' value slice pins s σ H x y v u Q I rx ry q hs
theorem MtR.or{id:String}{r r':V->List V->Hp->VK->Prop}(h:MtR X id r)(h':MtR X id r'):MtR X id (λx xs H Q=>r x xs H Q\/r' x xs H Q):=by
 intro pins s σ H x xs v us Q I rx rs q;rcases q with q|q
 ·exact h pins s σ H x xs v us Q I rx rs q
 ·exact h' pins s σ H x xs v us Q I rx rs q
theorem pe_ix{r:R2}(hr:IxR X r)(ha:PE X a ta)(hb:PE X b tb)(hs:Y0 b):PE X (.Subscript a b pos) (tOp r ta tb):=by
 intro pins s σ H Q I h;exact Subscript_ (binT ha hb I h λv u s2 x y H2 I2 rx ry q=>hr a b pins s2 σ H2 x y v u Q I2 rx ry q (hs _ _))
def rIxL(K:PySem.W.Frag):R2:=λx y H Q=>∃p xs i v,x=.ref p/\y=.int i/\SqL K H p xs/\atI xs i=some v/\Q v H
def rIxT(K:PySem.W.Frag):R2:=λx y H Q=>∃p xs i v,x=.ref p/\y=.int i/\SqT K H p xs/\atI xs i=some v/\Q v H
theorem GF:IxR X (rIxL X.K):=by
 intro value slice pins s σ H x y v u Q I rx ry h hs;obtain⟨p,xs,i,z,rfl,rfl,hq,he,q⟩:=h;cases rx;obtain⟨t,rfl⟩:=ry;obtain⟨its,r,pl,hz⟩:=I.list hq;obtain⟨j,h1,h2,h3,h4,h5⟩:=GE he;obtain⟨w,ew,rw'⟩:=r.get h2;have hl:=r.length;have hn:=vF;have fin:EP X pins σ Q w s:=⟨z,H,I,rw',q⟩;by_cases h0:0<=i
 ·have hj:i.toNat=j:=by
   rw[seqIndex_of h0 h5]at h1;exact Option.some.inj h1
  exact item_listR pl.isList h0 (by omega) (by rw[hj];simpa using ew) fin hs
 ·have hj:(i+(its.toArray.size:Int)).toNat=j:=by
   rw[seqIndex_neg (by omega) h4]at h1;rw[size_toArray,<- hl];exact Option.some.inj h1
  exact subscriptTail_builtinR (x:=w) pl.isList.typeIs slot_list_getitem.lookup
   (wpAny_getItem_list_neg (Q:=λr s'=>r=w/\EP X pins σ Q r s') pl.isList (by omega) (by rw[size_toArray]<;>omega) (by omega) (by rw[hj];simpa using ew) ⟨rfl,fin⟩) hs
theorem ix_tup:IxR X (rIxT X.K):=by
 intro value slice pins s σ H x y v u Q I rx ry h hs;obtain⟨p,xs,i,z,rfl,rfl,hq,he,q⟩:=h;cases rx;obtain⟨t,rfl⟩:=ry;obtain⟨its,r,pl,hz⟩:=I.tuple hq;obtain⟨j,h1,h2,h3,h4,h5⟩:=GE he;obtain⟨w,ew,rw'⟩:=r.get h2;have hl:=r.length;have hn:=vF;have fin:EP X pins σ Q w s:=⟨z,H,I,rw',q⟩;exact subscriptTail_builtinR (x:=w) pl.typeIs slot_tuple_getitem.lookup
  (getItem_tuple (j:=j) (Q:=λr s'=>r=w/\EP X pins σ Q r s') pl (by omega) (by omega) (by rw[size_toArray,<- hl];exact h1) (by simpa using ew) ⟨rfl,fin⟩) hs
theorem uN(its:List Value)(n j:Nat)(u:Value):Obj.mapSeq (·.setIfInBounds j u) {cls:=.type "list",data:=.seq its.toArray n}={cls:=.type "list",data:=.seq (its.set j u).toArray n}:=by
 simp[Obj.mapSeq]
theorem Inv.lst{pins:List (Addr×Obj)}{σ:St}{H:Hp}{s:Shared}{p:Addr}{xs:List V}(I:Inv X pins σ H s)(h:H p=some (.lst xs)) :
  ∃(its:List Value) (n:Nat),zZ xs its/\s.heap.get? p=some {cls:=.type "list",data:=.seq its.toArray n}/\xs.length<=sizeLine:=by
 obtain⟨z,its,n,r,e⟩:=I.hok p _ h;exact⟨its,n,r,e,z⟩
theorem Inv.lstUpd{pins:List (Addr×Obj)}{σ:St}{H:Hp}{s:Shared}{p:Addr}{xs ys:List V}{its its':List Value}{n n':Nat}{f:Obj->Obj}(I:Inv X pins σ H s)(h:H p=some (.lst xs))
  (ho:s.heap.get? p=some {cls:=.type "list",data:=.seq its.toArray n}) (hf:f {cls:=.type "list",data:=.seq its.toArray n}={cls:=.type "list",data:=.seq its'.toArray n'}) (r:zZ ys its') (hz:ys.length<=sizeLine) (t:Nat) :
  Inv X pins σ (upd H p (.lst ys)) {s with heap:=s.heap.update p f,toks:=t}:=by
 have e:(s.heap.update p f).get? p=some {cls:=.type "list",data:=.seq its'.toArray n'}:=by
  rw[get?_update_self f ho (by rw[hf]<;>rfl),hf]
 refine I.write (x:=p) (e:=p) (by rw[h];trivial) (.inl rfl) (λb u hb q=>(get?_update_other _ _ (Ne.symm hb)).trans q) ⟨_,e⟩ ?_;exact⟨hz,its',n',r,e⟩
def rSetL:V->V->V->Hp->(Hp->Prop)->Prop:=λo i v H Q=>∃p xs k j,o=.ref p/\i=.int k/\H p=some (.lst xs)/\ixN xs.length k=some j/\Q (upd H p (.lst (xs.set j v)))
theorem Q7:PSet X rSetL:=by
 intro pins s σ H o i v ov iv u Q I ro ri rv h;obtain⟨p,xs,k,j,rfl,rfl,hp,hj,q⟩:=h;cases ro;obtain⟨t,rfl⟩:=ri;obtain⟨its,n,r,ho,hz⟩:=I.lst hp;obtain⟨h1,h2,h3,h4⟩:=GD hj;have hl:=r.length;have hn:=vF;have I':Inv X pins σ (upd H p (.lst (xs.set j v))) {s with heap:=s.heap.update p (Obj.mapSeq (·.setIfInBounds j u))} :=
  I.lstUpd hp ho (uN its n j u) (r.set rv j) (by rw[List.length_set];exact hz) s.toks
 by_cases h0:0<=k
 ·have hk:k.toNat=j:=by
   rw[seqIndex_of h0 h4]at h1;exact Option.some.inj h1
  exact PySem.W.ki_setAt ho h0 (by omega) (by rw[size_toArray,<- hl];exact h4) (by rw[hk];exact⟨_,I',q⟩)
 ·have hk:(k+(its.toArray.size:Int)).toNat=j:=by
   rw[seqIndex_neg (by omega) h3]at h1;rw[size_toArray,<- hl];exact Option.some.inj h1
  exact PySem.W.ki_setBack ho (by omega) (by rw[size_toArray,<- hl];exact h3) (by omega) (by rw[hk];exact⟨_,I',q⟩)
theorem Zq(lo hi:Option Int)(n:Nat):(sliceBounds lo hi none n).1=((HT.sIx n 0 lo:Nat):Int)/\(sliceBounds lo hi none n).2.1=((HT.sIx n n hi:Nat):Int)/\(sliceBounds lo hi none n).2.2=1:=by
 refine⟨?_,?_,rfl⟩
 ·cases lo with
  |none=>simp[sliceBounds,HT.sIx]
  |some i =>
   simp only[sliceBounds,HT.sIx,Option.getD_none,show(1:Int) > 0 by decide,if_true];by_cases h:i<0
   ·simp only[h,if_true]<;>omega
   ·simp only[h,if_false]<;>omega
 ·cases hi with
  |none=>simp[sliceBounds,HT.sIx]
  |some i =>
   simp only[sliceBounds,HT.sIx,Option.getD_none,show(1:Int) > 0 by decide,if_true];by_cases h:i<0
   ·simp only[h,if_true]<;>omega
   ·simp only[h,if_false]<;>omega
theorem Y1(its:List Value)(lo hi:Option Int):slicePick its.toArray lo hi none=((its.drop (HT.sIx its.length 0 lo)).take (HT.sIx its.length its.length hi-HT.sIx its.length 0 lo)).toArray:=by
 obtain⟨h1,h2,h3⟩:=Zq lo hi its.toArray.size;unfold slicePick;rw[h1,h2,h3];simp only[sliceRange_one,pick_run,size_toArray]<;>rfl
def rSlL(K:PySem.W.Frag):V->Option Int->Option Int->Hp->VK->Prop:=λx lo hi H Q=>∃a xs,x=.ref a/\SqL K H a xs/\∀p,H p=none->Q (.ref p) (upd H p (.lst (Q6 xs lo hi)))
theorem sl_list:SlR X (rSlL X.K):=by
 intro pins s σ H x v vl vu lo hi sl Q I rx hs pl pu h;obtain⟨a,xs,rfl,hx,q⟩:=h;cases rx;obtain⟨its,r,ht,hz⟩:=I.list hx;have hlen:=r.length;refine⟨"list",_,slot_list_getitem.lookup,ht.isList.typeIs,?_⟩;refine wpAny_getItem_list_slice ht.isList hs pl pu .none (by simp) ?_ (by rw[size_toArray]<;>omega);rw[Y1,<- hlen];refine⟨.ref s.heap.objs.size,_,I.laid (t':=s.toks) (o:=.lst (Q6 xs lo hi)) (λb ob q=>get?_push_of_some _ q) (le_refl _) ?_,rfl,q _ (I.hok.fresh (le_refl _))⟩;exact⟨le_trans (J5 xs lo hi) hz,_,0,(r.drop (HT.sIx xs.length 0 lo)).take (HT.sIx xs.length xs.length hi-HT.sIx xs.length 0 lo),get?_push_size _ rfl⟩
def wA:V->Bool
 | .non=>true
 | .bl _=>true
 | .int _=>true
 | .str _=>true
 |_=>false
def eqV:V->V->Bool
 | .non,.non=>true
 | .bl a,.bl b=>a==b
 | .bl a,.int b=>(if a then 1 else 0)==b
 | .int a,.bl b=>a==(if b then 1 else 0)
 | .int a,.int b=>a==b
 | .str a,.str b=>a==b
 |_,_=>false
theorem GG{A:Around}{s:Shared}{y x:V}{u v:Value}(ry:zv y u)(rx:zv x v)(fy:wA y=true)(fx:wA x=true):SeqAt.EqAt A s u v (eqV y x):=by
 cases y with
 |non =>
  cases ry;cases x with
  |non=>cases rx;exact SeqAt.EqAt.same _
  |bl b=>cases rx;exact SeqAt.EqAt.none_bool b
  |int b=>obtain⟨t,rfl⟩:=rx;exact SeqAt.EqAt.none_int b t
  |str b=>obtain⟨t,rfl⟩:=rx;exact SeqAt.EqAt.none_str b t
  |_=>exact absurd (show false=true from fx) Bool.false_ne_true
 |bl a =>
  cases ry;cases x with
  |non=>cases rx;exact SeqAt.EqAt.bool_none a
  |bl b=>cases rx;exact SeqAt.EqAt.bool_bool a b
  |int b=>obtain⟨t,rfl⟩:=rx;exact SeqAt.EqAt.bool_int a b t
  |str b=>obtain⟨t,rfl⟩:=rx;exact SeqAt.EqAt.bool_str a b t
  |_=>exact absurd (show false=true from fx) Bool.false_ne_true
 |int a =>
  obtain⟨t',rfl⟩:=ry;cases x with
  |non=>cases rx;exact SeqAt.EqAt.int_none a t'
  |bl b=>cases rx;exact SeqAt.EqAt.int_bool a t' b
  |int b=>obtain⟨t,rfl⟩:=rx;exact SeqAt.EqAt.int_int a t' b t
  |str b=>obtain⟨t,rfl⟩:=rx;exact SeqAt.EqAt.int_str a t' b t
  |_=>exact absurd (show false=true from fx) Bool.false_ne_true
 |str a =>
  obtain⟨t',rfl⟩:=ry;cases x with
  |non=>cases rx;exact SeqAt.EqAt.str_none a t'
  |bl b=>cases rx;exact SeqAt.EqAt.str_bool a t' b
  |int b=>obtain⟨t,rfl⟩:=rx;exact SeqAt.EqAt.str_int a t' b t
  |str b=>obtain⟨t,rfl⟩:=rx;exact SeqAt.EqAt.str_str a t' b t
  |_=>exact absurd (show false=true from fx) Bool.false_ne_true
 |_=>exact absurd (show false=true from fy) Bool.false_ne_true
def eqU(x:V)(u:Value):Bool:=match u with
 | .none=>eqV .non x
 | .bool b=>eqV (.bl b) x
 | .int i _=>eqV (.int i) x
 | .str z _=>eqV (.str z) x
 |_=>false
theorem zA7{x y:V}{u:Value}(r:zv y u)(f:wA y=true):eqU x u=eqV y x:=by
 cases y with
 |non=>cases r;rfl
 |bl b=>cases r;rfl
 |int i=>obtain⟨t,rfl⟩:=r;rfl
 |str z=>obtain⟨t,rfl⟩:=r;rfl
 |_=>exact absurd (show false=true from f) Bool.false_ne_true
theorem Wd{x:V}:∀{xs:List V} {us:List Value},zZ xs us->xs.all wA=true->us.any (eqU x)=xs.any λy=>eqV y x
 |_,_,.nil,_=>rfl
 |y::xs,u::us,.cons r t,f=>by
  rw[all_cons,Bool.and_eq_true]at f;rw[any_cons,any_cons,zA7 r f.1,Wd t f.2]
theorem Y2{A:Around}{s:Shared}{x:V}{v:Value}(rx:zv x v)(fx:wA x=true):∀{xs:List V} {us:List Value},zZ xs us->xs.all wA=true->∀u∈us,SeqAt.EqAt A s u v (eqU x u)
 |_,_,.nil,_=>λu hu=>by cases hu
 |y::xs,u::us,.cons r t,f=>λu' hu=>by
  rw[all_cons,Bool.and_eq_true]at f;rcases mem_cons.mp hu with rfl|hu
  ·rw[zA7 r f.1];exact GG r rx f.1 fx
  ·exact Y2 rx fx t f.2 u' hu
def inV(x:V)(xs:List V):Bool:=xs.any λy=>eqV y x
def rIn(K:PySem.W.Frag)(neg:Bool):R2:=λx y H Q=>∃p xs,y=.ref p/\(SqL K H p xs\/SqT K H p xs)/\wA x=true/\xs.all wA=true/\Q (.bl (if neg then !inV x xs else inV x xs)) H
theorem JV:OpR X (compareOp .NotIn) (rIn X.K true):=by
 intro pins s σ H x y v u Q I rx ry h;obtain⟨p,xs,rfl,hq,fx,fs,q⟩:=h;cases ry;rcases hq with hq|hq
 ·obtain⟨its,r,pl,hz⟩:=I.list hq
  refine SeqAt.notIn_listAt (eqU x) pl.isList (λw hw=>Y2 rx fx r fs w (by simpa using hw)) ⟨.bl _,H,I,rfl,?_⟩;rw[show its.toArray.any (eqU x)=its.any (eqU x)by simp,Wd r fs];exact q
 ·obtain⟨its,r,pl,hz⟩:=I.tuple hq
  refine SeqAt.notIn_tupleAt (eqU x) pl (λw hw=>Y2 rx fx r fs w (by simpa using hw)) ⟨.bl _,H,I,rfl,?_⟩;rw[show its.toArray.any (eqU x)=its.any (eqU x)by simp,Wd r fs];exact q
theorem Zr:y1 X (.builtin "len") (λxs H Q=>∃p ys,xs=[.ref p]/\(SqL X.K H p ys\/SqT X.K H p ys)/\Q (.int ys.length) H):=by
 intro pins s σ H xs us Q I r h;obtain⟨p,ys,rfl,hq,q⟩:=h;obtain⟨u,rfl,rx⟩:=Yx r;cases rx;have hn:=vF;rcases hq with hq|hq
 ·obtain⟨its,r',pl,hz⟩:=I.list hq
  have hlen:=r'.length;exact Calls.call_len_list pl.isList (by simp only[size_toArray]<;>omega) ⟨.int ys.length,H,I.tok _,⟨s.toks+1,by rw[size_toArray,hlen]⟩,q⟩
 ·obtain⟨its,r',pl,hz⟩:=I.tuple hq
  have hlen:=r'.length;exact len_tuple pl (by simp only[size_toArray]<;>omega) ⟨.int ys.length,H,I.tok _,⟨s.toks+1,by rw[size_toArray,hlen]⟩,q⟩
theorem y1.or{f:Value}{r r':List V->Hp->VK->Prop}(h:y1 X f r)(h':y1 X f r'):y1 X f (λxs H Q=>r xs H Q\/r' xs H Q):=by
 intro pins s σ H xs us Q I rs q;rcases q with q|q
 ·exact h pins s σ H xs us Q I rs q
 ·exact h' pins s σ H xs us Q I rs q
theorem Zs:y1 X (.type "list") (λxs H Q=>∃p ys,xs=[.ref p]/\(SqL X.K H p ys\/SqT X.K H p ys)/\∀l,H l=none->Q (.ref l) (upd H l (.lst ys))):=by
 intro pins s σ H xs us Q I r h;obtain⟨p,ys,rfl,hq,q⟩:=h;obtain⟨u,rfl,rx⟩:=Yx r;cases rx;have fin:∀(its:List Value),zZ ys its->ys.length<=sizeLine->∀(h':Heap) (c':Nat),(∀b o',s.heap.get? b=some o'->h'.get? b=some o') ->
   h'.get? s.heap.objs.size=some {cls:=.type "list",dict:=none,data:=.seq its.toArray c',slots:=#[]}->EP X pins σ Q (.ref s.heap.objs.size) {s with heap:=h'}:=λits r' hz h' c' kp e =>
  ⟨.ref s.heap.objs.size,_,I.laid (t':=s.toks) kp (le_refl _) (show jR X.prog X.w _ h' _ (.lst ys)from⟨hz,its,c',r',e⟩),rfl,q _ (I.hok.fresh (le_refl _))⟩
 rcases hq with hq|hq
 ·obtain⟨its,r',pl,hz⟩:=I.list hq
  have hlen:=r'.length;obtain⟨o,ho,hc,n,hd⟩:=pl.isList;exact call_list_seq p (.inl rfl) ho hc hd (λh' c' kp e=>fin its r' hz h' c' kp e) (by simp only[size_toArray]<;>omega)
 ·obtain⟨its,r',pl,hz⟩:=I.tuple hq
  have hlen:=r'.length;obtain⟨o,ho,hc,n,hd⟩:=pl;exact call_list_seq p (.inr rfl) ho hc hd (λh' c' kp e=>fin its r' hz h' c' kp e) (by simp only[size_toArray]<;>omega)
theorem Y3:y1 X (.type "tuple") (λxs H Q=>∃p ys,xs=[.ref p]/\((SqL X.K H p ys/\∀l,H l=none->Q (.ref l) (upd H l (.tup ys)))\/(SqT X.K H p ys/\Q (.ref p) H))):=by
 intro pins s σ H xs us Q I r h;obtain⟨p,ys,rfl,h⟩:=h;obtain⟨u,rfl,rx⟩:=Yx r;cases rx;rcases h with⟨hq,q⟩|⟨hq,q⟩
 ·obtain⟨its,r',pl,hz⟩:=I.list hq
  have hlen:=r'.length;refine call_tuple_list pl.isList (λh' kp=>?_) (by simp only[size_toArray]<;>omega);have I1:Inv X pins σ H {s with heap:=h'}:=I.kept (t':=s.toks) kp
  have I2:Inv X pins σ (upd H h'.objs.size (.tup ys)) {s with heap:=h'.push {cls:=.type "tuple",data:=.seq its.toArray}} :=
   I1.laid (t':=s.toks) (λb o e=>get?_push_of_some _ e) (le_refl _) (show jR X.prog X.w _ _ _ (.tup ys)from⟨hz,its,r',IsTup.new _ _⟩)
  exact⟨.ref h'.objs.size,_,I2,rfl,q _ (I1.hok.fresh (le_refl _))⟩
 ·obtain⟨its,r',pl,hz⟩:=I.tuple hq
  exact call_tuple_same pl ⟨.ref p,H,I,rfl,q⟩
def tyV(K:PySem.W.Frag)(T:String)(x:V)(H:Hp):Prop:=match x with
 | .str _=>T="str"
 | .int _=>T="int"
 | .ref p=>(T="list"/\∃xs,SqL K H p xs)\/(T="tuple"/\∃o,K.lookup p=some o/\o.cls=.type "tuple"/\o.dict=none) \/
   (T="dict"/\((∃kvs,H p=some (.dK kvs))\/∃kvs,H p=some (.dT kvs)))\/(T="set"/\∃S n,H p=some (.set S n))
 |_=>False
theorem tyV_is{pins:List (Addr×Obj)}{σ:St}{H:Hp}{s:Shared}{T:String}{x:V}{v:Value}(I:Inv X pins σ H s)(r:zv x v)(ty:tyV X.K T x H) :
  s.TypeIs v T/\∀a,v=.ref a->∃ob,s.heap.get? a=some ob/\ob.dict=none:=by
 cases x with
 |str z =>
  obtain⟨t,rfl⟩:=r;cases (show T="str" from ty);exact⟨typeIs_str s z t,λ_ e=>nomatch e⟩
 |int i =>
  obtain⟨t,rfl⟩:=r;cases (show T="int" from ty);exact⟨typeIs_int s i t,λ_ e=>nomatch e⟩
 |ref p =>
  cases r;rcases ty with⟨rfl,xs,hq⟩|⟨rfl,o,hk,hc,hd⟩|⟨rfl,hk⟩|⟨rfl,S,n,hk⟩
  ·obtain⟨its,_,pl,_⟩:=I.list hq
   refine⟨pl.isList.typeIs,λa e=>?_⟩;cases e;obtain⟨o,n,e,c,hd,_⟩:=pl;exact⟨o,e,hd⟩
  ·refine⟨⟨o,I.kIn p o hk,hc⟩,λa e=>?_⟩
   cases e;exact⟨o,I.kIn _ o hk,hd⟩
  ·have z:∃o,s.heap.get? p=some o/\o.ExactDict:=by
    rcases hk with⟨kvs,hk⟩|⟨kvs,hk⟩
    ·obtain⟨_,_,_,_,o,_,_,e,ex,_⟩:=I.hok p _ hk
     exact⟨o,e,ex⟩
    ·obtain⟨_,_,_,_,o,_,_,e,ex,_⟩:=I.hok p _ hk
     exact⟨o,e,ex⟩
   obtain⟨o,e,ex⟩:=z;refine⟨⟨o,e,ex.1⟩,λa e2=>?_⟩;cases e2;exact⟨o,e,ex.2.1⟩
  ·obtain⟨o,_,_,_,e,ex,_⟩:=I.hok p _ hk
   refine⟨⟨o,e,ex.1⟩,λa e2=>?_⟩;cases e2;exact⟨o,e,ex.2.1⟩
 |_=>exact False.elim ty
def tBM(K:PySem.W.Frag)(T:String)(r:V->List V->Hp->VK->Prop)(to:TE)(t:TA):TE:=λσ H Q=>to σ H λx H1=>tyV K T x H1/\t σ H1 λxs H2=>r x xs H2 Q
variable{o e:Expr}{es:List Expr}{to:TE}{t:TA}{name:Str}{apos cpos:Pos}{T id:String}{r:V->List V->Hp->VK->Prop}
theorem pe_bm(pa:PlainAttrs T)(slot:Slot T name id)(hty:typeOf (.builtin id)=pure (.type "method_descriptor"))(hm:MtR X id r)(ho:PE X o to)(ha:PA X (e::es) t)
  (hbase:attributeBase o name X.env (eval o X.env)=eval o X.env:=by rfl)
  (hfew:((backTo cpos (starEach (e::es) X.env)).all (λx=>!x.1)&&(backToKw cpos (keywordEach [] X.env)).all (λx=>x.1.isSome)
   && decide ((e::es).length+([]:List Keyword).length+(if([]:List Keyword).isEmpty then 0 else 1)<30))=true:=by rfl)
  (hline:(apos.endLine==cpos.line)=true:=by rfl) (hs:starEach (e::es) X.env=(false,eval e X.env)::starEach es X.env:=by rfl) (hplain:(backTo cpos (starEach es X.env)).any (·.1)=false:=by rfl) :
  PE X (.Call (.Attribute o name apos) (e::es) [] cpos) (tBM X.K T r to t):=by
 intro pins s σ H Q I h;refine wpAny_Call_method_late hbase hfew hline rfl (thn (ho pins s σ H _ I h) λv s1 ⟨x,H1,I1,r1,ty,q1⟩=>?_);obtain⟨h1,h2⟩:=tyV_is I1 r1 ty;refine⟨T,id,pa,slot,hty,h1,h2,?_⟩;have hA:=ha cpos pins s1 σ H1 _ I1 q1;rw[hs]at hA ⊢;refine Calls.callWith_builtin (by show(false||(backTo cpos (starEach es X.env)).any (·.1))=false;rw[hplain]<;>rfl) (Calls.evalArgs_plain ?_);exact thn hA λus s2 ⟨vs,H2,I2,r2,q2⟩=>hm pins s2 σ H2 x vs v us Q I2 r1 r2 q2
end
end L2
namespace L2
open PySem PySem.Spec PyProof.Rows
def MtM(X:Cx)(id:String)(r:V->List V->Hp->VK->Prop):Prop :=
 ∀(pins:List (Addr×Obj)) (s:Shared) (σ:St) (H:Hp) (x:V) (xs:List V) (v:Value) (us:List Value) (Q:VK),Inv X pins σ H s->zv x v->zZ xs us->r x xs H Q ->
  wpAny (model X.prog X.w) X.A (call (.builtin id) (v::us)) (EP X pins σ Q) X.xe s
theorem zZ.one:∀{x:V} {us:List Value},zZ [x] us->∃u,us=[u]/\zv x u
 |_,_,.cons r .nil=>⟨_,rfl,r⟩
theorem zZ.zero:∀{us:List Value},zZ [] us->us=[]
 |_,.nil=>rfl
theorem zZ.dropLast{xs:List V}{us:List Value}(h:zZ xs us):zZ xs.dropLast us.dropLast:=by
 induction h with
 |nil=>exact .nil
 |cons r t ih =>
  cases t with
  |nil=>exact .nil
  |cons q t'=>exact .cons r ih
theorem zZ.eraseIdx:∀{xs:List V} {us:List Value} (i:Nat),zZ xs us->zZ (xs.eraseIdx i) (us.eraseIdx i)
 |_,_,_,.nil=>.nil
 |_,_,0,.cons _ t=>t
 |_,_,i+1,.cons r t=>.cons r (zZ.eraseIdx i t)
theorem zZ.reverse{xs:List V}{us:List Value}(h:zZ xs us):zZ xs.reverse us.reverse:=by
 induction h with
 |nil=>exact .nil
 |cons r t ih=>rw[reverse_cons,reverse_cons];exact zZ.append ih (.cons r .nil)
theorem zZ.rep{xs:List V}{us:List Value}(h:zZ xs us):∀k:Nat,zZ (replicate k xs).flatten (replicate k us).flatten
 |0=>.nil
 |k+1=>by
  rw[replicate_succ,replicate_succ,flatten_cons,flatten_cons];exact zZ.append h (zZ.rep h k)
theorem J6(its:List Value):∀(k:Nat) (acc:List Value),
  foldl (λx1 x2=>x1++x2) acc.toArray (replicate k its.toArray)=(acc++(replicate k its).flatten).toArray
 |0,acc=>by simp
 |k+1,acc=>by
  have e:acc.toArray++its.toArray=(acc++its).toArray:=by simp
  have e2:(acc++its)++(replicate k its).flatten=acc++(replicate (k+1) its).flatten:=by
   rw[replicate_succ,flatten_cons,append_assoc]
  rw[<- e2,<- J6 its k (acc++its),<- e,replicate_succ,List.foldl_cons]
section
variable{X:Cx}{pins:List (Addr×Obj)}{σ:St}{H:Hp}{s:Shared}{l b:Addr}{xs ys zs:List V}
theorem Inv.lset{its its':List Value}{n:Nat}{f:Array Value->Array Value}{t':Nat}(I:Inv X pins σ H s)(hH:H l=some (.lst xs))
  (e:s.heap.get? l=some {cls:=.type "list",data:=.seq its.toArray n}) (hf:f its.toArray=its'.toArray) (hv:zZ ys its') (hz:ys.length<=sizeLine) :
  Inv X pins σ (upd H l (.lst ys)) {s with heap:=s.heap.update l (Obj.mapSeq f),toks:=t'}:=by
 have q:=PySem.IsL.update e f;rw[hf]at q;refine I.write (x:=l) (e:=l) (by rw[hH];exact trivial) (.inl rfl) (λb' u hb hu=>(get?_update_other s.heap (Obj.mapSeq f) (Ne.symm hb)).trans hu) ⟨_,q⟩ ?_;exact⟨hz,its',_,hv,q⟩
theorem Inv.lnew{its:List Value}{t':Nat}(I:Inv X pins σ H s)(hv:zZ ys its)(hz:ys.length<=sizeLine) :
  Inv X pins σ (upd H s.heap.objs.size (.lst ys)) {s with heap:=s.heap.push {cls:=.type "list",data:=.seq its.toArray},toks:=t'} :=
 I.laid (λ_ _ q=>get?_push_of_some _ q) (le_refl _) ⟨hz,its,0,hv,get?_push_size _ rfl⟩
theorem Inv.fresh(I:Inv X pins σ H s):H s.heap.objs.size=none:=I.hok.fresh (le_refl _)
theorem Inv.lstM(I:Inv X pins σ H s)(hH:H l=some (.lst xs)):xs.length<=sizeLine/\∃(its:List Value) (n:Nat),zZ xs its/\xs.length=its.length/\s.heap.get? l=some {cls:=.type "list",data:=.seq its.toArray n}:=by
 obtain⟨z,its,n,r,e⟩:=I.hok l _ hH;exact⟨z,its,n,r,r.length,e⟩
theorem Q8{n:Nat}(h:n<=sizeLine):Builtin.List.listTooLong n=false:=by
 unfold Builtin.List.listTooLong;exact decide_eq_false (by omega)
end
section
variable{X:Cx}
def GH:V->List V->Hp->VK->Prop:=λx vs H Q=>∃l xs y,x=.ref l/\vs=[y]/\H l=some (.lst xs)/\xs.length<sizeLine/\Q .non (upd H l (.lst (xs++[y])))
theorem Zt:MtM X "list.append" GH:=by
 intro pins s σ H x vs v us Q I rx rv h;obtain⟨l,xs,y,rfl,rfl,hH,hz,q⟩:=h;cases rx;obtain⟨u,rfl,ru⟩:=rv.one;obtain⟨z,its,n,r,hl,e⟩:=I.lstM hH;refine call_meets F.slot_list_append ⟨_,e,rfl⟩ F.entry_list_append (F.args_list_append_2 _ _) (PySem.list_append l its.toArray n u (by rw[size_toArray];omega)) ⟨e,?_⟩;refine⟨.non,_,I.lset (its':=its++[u]) hH e (by simp) (r.append (.cons ru .nil)) ?_,rfl,q⟩;rw[length_append,List.length_singleton];omega
theorem We{α:Type}(xs:List α)(k:Nat):(replicate k xs).flatten.length=k*xs.length:=by
 induction k with
 |zero=>simp
 |succ k ih=>rw[replicate_succ,flatten_cons,length_append,ih,Nat.succ_mul,Nat.add_comm]
end
section
variable{prog:Program}{w:World}{A:Around}{E:Value->Shared->Prop}{s:Shared}
end
section
variable{X:Cx}
end
end L2
namespace Att
open PySem PySem.W PySem.Calls PyProof.Rows
theorem J7{P:Params}{h:Heap}:∀(ns:List Int) (vs:List Value),WellAll P h vs (ns.map WData.int)->IntsAre vs ns:=by
 intro ns
 induction ns with
 |nil =>
  intro vs w;rw[List.map_nil]at w;cases w;exact .nil
 |cons n ns ih =>
  intro vs w;rw[map_cons]at w;cases w with
  |cons a b =>
   cases a;exact .cons _ _ (ih _ b)
theorem GI{l:OpenLaw}{n:Nat}(hn:l.most=some n){P:Params}{h:Heap}{args:List WData}{vals:List Value}
  (hpre:l.row.toRowW.claim.pre args=true) (hwl:WellAll P h vals args) :
  ∃a vs ns,vals=[Value.ref a]/\args=[WData.list (ns.map WData.int)]/\h.get? a=some {cls:=.type "list",data:=.seq vs.toArray}/\IntsAre vs ns/\ns.length<=n:=by
 have hsh:WShape.hasAll [] args [.list .int]=true:=(pre_splitW hpre).1;have hc:l.pre.holds [] {args:=args}=true:=(pre_splitW hpre).2;obtain⟨d,r,rfl,h1,h2⟩:=hasAllW_cons hsh;obtain rfl:=hasAllW_nil h2;obtain⟨xs,rfl,h3⟩:=hasW_list h1;obtain⟨ns,rfl⟩:=items_int h3;have hlen:ns.length<=n:=by
  unfold OpenLaw.pre at hc;have h4:(WTm.not (.lt (.lit (.int (n:Int))) (.len (.arg 0)))).holds [] {args:=[.list (ns.map .int)]}=true:=by
   have h4:=(holds_andW hc).1;rw[hn]at h4;exact h4
  have h5:=condW_of h4 (w_not (w_lt w_lit (w_len_list (w_arg rfl))));rw[length_map]at h5;refine Nat.le_of_not_lt λq=>?_
  have q':(n:Int)<((ns.length:Nat):Int):=by omega
  first
   | (rw[decide_eq_true q']at h5;exact absurd h5 (by decide))
   | (simp at h5;omega)
 cases hwl with
 |cons w1 w2 =>
  cases w2;cases w1 with
  |list ho hall=>exact⟨_,_,ns,rfl,rfl,ho,J7 ns _ hall,hlen⟩
theorem GJ(l:OpenLaw)(args:List WData):l.row.toRowW.claim.post args (.bool true) args=true :=
 postW_of (r:=l.row.toRowW) (X:=(true==true))
  (show WShape.has [] (.bool true) .bool=true by first|rfl|decide|simp[WShape.has,WShape.arms,WShape.armsAll])
  (show(WTm.eq .res (.lit (.bool true))).value [] {args:=args,res:=some (.bool true),after:=args}=some (.bool (true==true))from w_eq_bool (w_res rfl) w_lit) rfl
theorem attach_call{l:OpenLaw}{n:Nat}{q:Program}{loose:List Str}{XP:(Str->Option Value)->Heap->Prop}{YP:World->Heap->Prop}{d:DefRec}
  (hn:l.most=some n) (hdf:d.params.defaults=[])
  (call:∀(w:World) (s₀ s₁:Shared) (mg mb:Str->Option Value) (fa:Addr) (o:Obj) (pm cd doc:Value) (a:Addr) (vs:List Value) (ns:List Int),
   Ground q loose [] XP w s₀ mg mb s₁.heap->YP w s₁.heap ->
   s₁.heap.get? fa=some o->o.data=.func (docDef d.name d.params d.body d.scope pm cd doc)->s₁.heap.CodeRec cd d.name->mg d.name=some (.ref fa) ->
   s₁.heap.get? a=some {cls:=.type "list",data:=.seq vs.toArray}->IntsAre vs ns->ns.length<=n->s₁.gens=#[] ->
   codeAny (model l.prog w) callerA (.call (.ref fa) ⟨[.ref a],[]⟩) (λr s'=>r=.ok (.ret (.bool true))/\OldK s₁.heap s'.heap/\s'.os=s₁.os/\AllBare s'.gens) s₁) :
  WalkO q loose XP YP l.row.toRowW d [] (λf vs=>PySem.call f vs):=by
 intro w s₀ s₁ mg mb G Y fa o pm cd doc dV kV ho hd hcd hD hmg hg args vals as hpre hlay hrd hwl hlo;obtain rfl:dV=.none:=Dflts.none hD hdf;obtain rfl:kV=.none:=Dflts.noKw hD;obtain⟨a,vs,ns,rfl,rfl,hobj,hints,hlen⟩:=GI hn hpre hwl;refine enter_call (codeAny_mono (call w s₀ s₁ mg mb fa o pm cd doc a vs ns G Y ho (fd_plain hd) hcd hmg hobj hints hlen hg) λr s' hq=>?_);obtain⟨rfl,h2,h3,h4⟩:=hq;exact⟨.inl ⟨.bool true,.bool true,[],rfl,λ_=>rfl,.bool true,GJ l _,λ_=>⟨List.Pairwise.nil,λ_ hm=>(nomatch hm)⟩⟩,h2,h3,h4⟩
section
variable{prog:Program}{w:World}{A:Around}{E:Value->Shared->Prop}{s:Shared}{K:Frag}
end
end Att
namespace L2
open PySem PySem.Spec PyProof.Rows
theorem Zu:∀{vs:List Value} {ns:List Int},IntsAre vs ns->zZ (ns.map V.int) vs
 |_,_,.nil=>.nil
 |_,_,.cons n t h=>.cons ⟨t,rfl⟩ (Zu h)
def Only(H:Hp):Prop:=∀b,H b=none\/∃o xs,H b=some (.frz o (.lst xs))
theorem Q9{P:Program}{w:World}{K:PySem.W.Frag}{mg mb:Str->Option Value}{CX:CXT}{k:Nat}{fa a:Addr}{fd:FuncData}{x:Str}{sp:Sp}{s₁:Shared}{vs:List Value}{ns:List Int}
  (KX:K.In s₁.heap) (hns:s₁.heap.Ns mainGlobals mg) (hb:s₁.heap.Ns builtinsNs mb) (hbb:∀x:Str,x≠"__name__"->mb x=bootBuiltins x) (hlim:s₁.heap.NoLimit) (hg:s₁.gens=#[])
  (ha:s₁.heap.get? a=some {cls:=.type "list",data:=.seq vs.toArray}) (hi:IntsAre vs ns) (hl:ns.length<=sizeLine) (hr:Room k callerA)
  (F:∀base:Heap,K.In base->base.Ns mainGlobals mg->FnOk P w K mg base CX k fa fd [x] sp) (hbind:∀(s:Shared) (u:Value),BindsTo s fd ⟨[u],[]⟩ [(x,u)])
  (hsp:∀H:Hp,Only H->SqL K H a (ns.map V.int)->sp [.ref a] H (λv _=>v=.bl true) λ_ _ _=>False)
  (hCX:∀H e s',CX [] H s₁ (λ_ _ _=>False) e s'->False) :
  codeAny (model P w) callerA (.call (.ref fa) ⟨[.ref a],[]⟩) (λr s'=>r=.ok (.ret (.bool true))/\OldK s₁.heap s'.heap/\s'.os=s₁.os/\AllBare s'.gens) s₁:=by
 have rv:=Zu hi;have lenV:=hi.length
 -- from an abstract heap in which nothing but the script may be tracked
 have core:∀H:Hp,Only H->SqL K H a (ns.map V.int)->HOk P w H s₁.heap->(∀b,H b≠none->b=a)->(H a≠none->K.lookup a=none) ->
   codeAny (model P w) callerA (.call (.ref fa) ⟨[.ref a],[]⟩) (λr s'=>r=.ok (.ret (.bool true))/\OldK s₁.heap s'.heap/\s'.os=s₁.os/\AllBare s'.gens) s₁:=by
  intro H hO hS hok hA hK;have base_of:∀{b:Addr} {o:Obj},s₁.heap.get? b=some o->H b=none->(Qs s₁.heap H).get? b=some o:=λe n=>Qt e n
  have noA:∀{b:Addr} {o:Obj} {es:Array DictEntry} {ep:Nat},s₁.heap.get? b=some o->o.data=.dict es ep->H b=none:=λ{b o es ep} e d=>by
   cases q:H b with
   |none=>rfl
   |some u =>
    have e':b=a:=hA b (by rw[q];simp);subst e';rw[ha]at e;cases e;have d':Data.seq vs.toArray _=Data.dict es ep:=d;cases d'
  have nsK:∀{b:Addr} {m:Str->Option Value},s₁.heap.Ns b m->(Qs s₁.heap H).Ns b m:=λ{b m} ⟨o,es,ep,e,d,r⟩=>⟨o,es,ep,base_of e (noA e d),d,r⟩
  have hKb:K.In (Qs s₁.heap H):=λb o e=>base_of (KX b o e) (by
   cases q:H b with
   |none=>rfl
   |some u =>
    have e':b=a:=hA b (by rw[q];simp);subst e';rw[hK (by rw[q];simp)]at e;cases e)
  have hM:Mod K mg (Qs s₁.heap H):=⟨hKb,nsK hns,⟨mb,nsK hb,hbb⟩,let ⟨mc,h1,h2⟩:=hlim;⟨mc,nsK h1,h2⟩⟩;have e0:Env0 P w K mg (Qs s₁.heap H) callerA [] s₁ H:=⟨rfl,hM,λb o e=>of_hidT e,Nat.le_of_eq (uj _ _),trivial,λb hb=>absurd (show b∈([]:List Addr)from hb) (by simp),hok,.of_eq hg⟩;refine codeAny_mono ((F _ hKb (nsK hns)).run callerA [] s₁ H ⟨[.ref a],[]⟩ [.ref a] [.ref a] _ _ hr e0 (hbind s₁ (.ref a)) (.cons rfl .nil) (hsp H hO hS)) λr s' h=>?_
  cases r with
  |error e=>exact(hCX H e s' h).elim
  |ok fl =>
   cases fl with
   |next=>exact False.elim h
   |brk=>exact False.elim h
   |cont=>exact False.elim h
   |ret u =>
    obtain⟨v,H',os,bare,un,hok',r',q⟩:=h;have q':v=.bl true:=q;subst q';obtain rfl:u=Value.bool true:=r';refine⟨rfl,OldK.of_keep λb o e=>?_,os,bare⟩;cases q:H b with
    |none=>exact un.keep b o e q (by intro z;exact absurd (show b∈([]:List Addr)from z) (by simp)) (by simp)
    |some u =>
     rcases hO b with z|⟨ob,xs,z⟩
     ·rw[q]at z;cases z
     ·have z2:=un.frzs b ob _ z
      obtain⟨e1,_⟩:=hok b _ z;obtain⟨e2,_⟩:=hok' b _ z2;rw[e]at e1;cases e1;exact e2
 cases hk:K.lookup a with
 |some o =>
  -- the script is one of the module's own objects
  have e:=KX a o hk;rw[ha]at e;cases e;refine core (λ_=>none) (λ_=>.inl rfl) (.inr ⟨_,vs.toArray,_,hk,rfl,rfl,rfl,by rw[size_toArray,lenV];exact hl,by simpa using rv⟩) (λb u z=>by have z':(none:Option HO)=some u:=z;cases z') (λb z=>absurd rfl z) λz=>absurd rfl z
 |none =>
  refine core (λb=>if b=a then some (.frz {cls:=.type "list",data:=.seq vs.toArray} (.lst (ns.map V.int)))else none) (λb=>?_) (.inl (.inr ⟨{cls:=.type "list",data:=.seq vs.toArray},if_pos rfl⟩)) (λb u z=>?_) (λb z=>?_) λ_=>hk
  ·by_cases hb:b=a
   ·exact .inr ⟨_,_,if_pos hb⟩
   ·exact .inl (if_neg hb)
  ·by_cases hb:b=a
   ·have z':=(if_pos hb).symm.trans z
    cases z';subst hb;exact⟨ha,by rw[length_map];exact hl,vs,_,rv,ha⟩
   ·have z':=(if_neg hb).symm.trans z
    cases z'
  ·by_cases hb:b=a
   ·exact hb
   ·exact absurd (if_neg hb) z
end L2
namespace L2
open PySem PySem.Spec PyProof.Rows
end L2
namespace L2
open PySem PySem.Spec PyProof.Rows
abbrev CX0:CXT:=λ_ _ _ _ _ _=>False
abbrev E0:XK:=λ_ _ _=>False
structure Fun(K:PySem.W.Frag)(x qual:Str)(st:Stmt)(f:Addr)(fd:FuncData):Prop where
 ex:∃(oc:Value) (od:Option Addr) (kV doc pm:Value) (an:Option Addr) (cdv ct:Value) (osl:Array (Option Value)),
  fd=fnOf x qual (wQ st) (yd st) (zT st) .none kV doc pm an cdv ct/\K.lookup f=some ⟨oc,od,.func fd,osl⟩/\codeIn K cdv qual=true
 kp:keepIn K (.ref f)=true
section
variable{P:Program}{w:World}{K:PySem.W.Frag}{mg:Str->Option Value}{base:Heap}
theorem Fun.ok{x qual:Str}{st:Stmt}{f:Addr}{fd:FuncData}{N ps:List Str}{k:Nat}{sp:Sp}(F:Fun K x qual st f fd)(S:FnScope N ps (zT st))(len:∀vs H Q E,sp vs H Q E->vs.length=ps.length)
  (hbody:∀(cdv:Value) (A:Around) (outer:List Env) (s:Shared) (H:Hp) (vs:List V) (Q:VK) (E:XK),Room k (A.deeper (envOfC qual (zT st) s.heap.objs.size f cdv))->sp vs H Q E ->
   ∃t,PSs (Q1 CX0 P w K mg base N qual (zT st) f cdv A outer s H E).nox (yd st) t/\t {nx:=λ_ H'=>Q .non H',rt:=Q} (jD N vs) H):FnOk P w K mg base CX0 (k+1) f fd ps sp:=by
 obtain⟨oc,od,kV,doc,pm,an,cdv,ct,osl,rfl,lk,hcd⟩:=F.ex;refine fn_of lk hcd S len λA outer s H vs Q E hr hsp=>?_
 obtain⟨t,h,q⟩:=hbody cdv A outer s H vs Q E hr hsp;exact⟨t,h.nox,q⟩
theorem Fun.binds{x qual:Str}{st:Stmt}{f:Addr}{fd:FuncData}{ps:List Str}(F:Fun K x qual st f fd)
  (h:∀(kV doc pm:Value) (an:Option Addr) (cdv ct:Value) (us:List Value),us.length=ps.length->bindArgs (fnOf x qual (wQ st) (yd st) (zT st) .none kV doc pm an cdv ct) ⟨us,[]⟩=pure (ps.zip us)):J4 K fd ps []:=by
 obtain⟨oc,od,kV,doc,pm,an,cdv,ct,osl,rfl,lk,hcd⟩:=F.ex;exact .all (h kV doc pm an cdv ct)
theorem zA8{x qual:Str}{st:Stmt}{f:Addr}{oc:Value}{od an:Option Addr}{osl:Array (Option Value)}{kV doc pm cdv ct:Value}(l:K.lookup f=some ⟨oc,od,.func (fnOf x qual (wQ st) (yd st) (zT st) .none kV doc pm an cdv ct),osl⟩)
  (c:codeIn K cdv qual=true) (k:keepIn K (.ref f)=true):Fun K x qual st f (fnOf x qual (wQ st) (yd st) (zT st) .none kV doc pm an cdv ct):=⟨⟨oc,od,kV,doc,pm,an,cdv,ct,osl,rfl,l,c⟩,k⟩
end
section
variable{X:Cx}
end
theorem iteF{A B:Prop}(h:B):if false=true then A else B:=by
 rw[if_neg Bool.false_ne_true];exact h
theorem iteT{A B:Prop}(h:A):if true=true then A else B:=by
 rw[if_pos rfl];exact h
def JC(H H':Hp):Prop:=∀b o,H b=some o->H' b=some o
theorem JC.refl(H:Hp):JC H H:=λ_ _ h=>h
theorem JC.trans{H H1 H2:Hp}(a:JC H H1)(b:JC H1 H2):JC H H2:=λc o h=>b c o (a c o h)
theorem JC.free{H H':Hp}(e:JC H H'){l:Addr}(h:H' l=Option.none):H l=Option.none:=by
 cases q:H l with
 |none=>rfl
 |some o =>
  rw[e l o q]at h;cases h
theorem JC.seq{K:PySem.W.Frag}{H H':Hp}{a:Addr}{xs:List V}(e:JC H H')(h:SqL K H a xs):SqL K H' a xs:=by
 rcases h with(h|⟨o,h⟩)|h
 ·exact .inl (.inl (e _ _ h))
 ·exact .inl (.inr ⟨o,e _ _ h⟩)
 ·exact .inr h
end L2
namespace DV
open PySem L2 PyProof.Rows
def ExO(C a:Addr):HO:=.ext λh=>∃o,h.get? a=some o/\o.cls=.ref C
theorem zAA{P:Program}{w:World}{H:Hp}{h:Heap}{a:Addr}{o:HO}(x:jR P w H h a o):∃u,h.get? a=some u:=by
 cases o with
 |lst xs=>obtain⟨_,_,_,_,e⟩:=x;exact⟨_,e⟩
 |tup xs=>obtain⟨_,_,_,o,e,_⟩:=x;exact⟨_,e⟩
 |dK kvs=>obtain⟨_,_,_,_,o,_,_,e,_⟩:=x;exact⟨_,e⟩
 |dT kvs=>obtain⟨_,_,_,_,o,_,_,e,_⟩:=x;exact⟨_,e⟩
 |set S n=>obtain⟨o,_,_,_,e,_⟩:=x;exact⟨_,e⟩
 |ins C dx fs=>obtain⟨_,_,_,e,_⟩:=x;exact⟨_,e⟩
 |own y=>exact x
 |xd fs=>obtain⟨_,⟨_,_,_,e,_⟩,_⟩:=x;exact⟨_,e⟩
 |rng lo hi=>obtain⟨_,_,_,e⟩:=x;exact⟨_,e⟩
 |frz ob u=>obtain⟨e,_⟩:=x;exact⟨_,e⟩
 |tbl ps=>exact⟨_,(show h.get? a=some _ from x)⟩
 |met f y=>exact⟨_,(show h.get? a=some _ from x)⟩
 |ext φ=>obtain⟨_,e,_⟩:=x;exact e
def zA9(B:Heap)(H:Hp)(g:Heap)(fs:List Addr)(h:Heap):Prop:=∀b o,h.get? b=some o->((∃o',g.get? b=some o')\/H b≠none)->b∉fs->B.get? b=some o
def Flies(l:List Env)(H:Hp)(g:Heap)(a C:Addr)(h:Heap):Prop:=∃B t,Heap.FlyingW B l a (.ref C) (.ref t) h/\zA9 B H g (frs l) h
def CXx(P:Program)(w:World):CXT:=λouter H s E e s'=>∃a C H',e=.ref a/\s'.os=s.os/\AllBare s'.gens/\Un (frs outer) [] H H' s.heap s'.heap/\HOk P w H' s'.heap/\H' a=none/\Flies outer H' s.heap a C s'.heap/\E (.ref C) none H'
section
variable{P:Program}{w:World}{fs:List Addr}{H H':Hp}{g h h' B:Heap}{L:Addr}
theorem un_on(u:Un fs [] H H' g h)(ok:HOk P w H' h)(kb:zA9 B H' g (L::fs) h)(st:B.StaysIn h')(hL:g.get? L=none)(hf:∀b∈fs,∀o,h.get? b=some o->∃sl,h'.get? b=some {o with slots:=sl}):Un fs [] H H' g h' where
 keep:=λb o e n hb hx=>st b o (kb b o (u.keep b o e n hb hx) (.inl ⟨o,e⟩) λz=>by
  rcases mem_cons.mp z with rfl|z
  ·rw[hL]at e;cases e
  ·exact hb z)
 slot:=λb o e n hb hx=>by
  obtain⟨sl,q⟩:=u.slot b o e n hb hx;obtain⟨sl',q'⟩:=hf b hb _ q;exact⟨sl',q'⟩
 free:=u.free
 there:=λb o e hx=>by
  obtain⟨o',q⟩:=u.there b o e hx;by_cases hb:b∈fs
  ·obtain⟨sl,q'⟩:=hf b hb _ q;exact⟨_,q'⟩
  ·exact⟨o',st b o' (kb b o' q (.inl ⟨o,e⟩) λz=>by
    rcases mem_cons.mp z with rfl|z
    ·rw[hL]at e;cases e
    ·exact hb z)⟩
 tups:=u.tups
 frzs:=u.frzs
 tbls:=u.tbls
theorem zBA(ok:HOk P w H' h)(kb:zA9 B H' g (L::fs) h)(st:B.StaysIn h')(hn:∀b∈L::fs,H' b=none):HOk P w H' h':=λa o e=>by
 refine(ok a o e).stay (λb u hb q=>?_) (λ_ q=>q) λ_ _ q=>q
 have ht:H' b≠none:=by
  rcases hb with rfl|hb
  ·rw[e];exact λz=>by cases z
  ·rw[hb];exact λz=>by cases z
 exact st b u (kb b u q (.inr ht) λz=>ht (hn b z))
theorem GK(u:Un fs [] H H' g h)(ok:HOk P w H' h)(kb:zA9 B H' g (L::fs) h)(st:B.StaysIn h')(hL:g.get? L=none)(hn:∀b∈L::fs,H' b=none):zA9 B H' g fs h':=λb o e hb nf=>by
 have nL:b∉L::fs:=λz=>by
  rcases mem_cons.mp z with rfl|z
  ·rcases hb with⟨o',q⟩|q
   ·rw[hL]at q;cases q
   ·exact q (hn _ (mem_cons_self))
  ·exact nf z
 have:∃o1,h.get? b=some o1:=by
  rcases hb with⟨o',q⟩|q
  ·exact u.there b o' q (by simp)
  ·obtain⟨x,hx⟩:=Option.ne_none_iff_exists'.mp q
   exact zAA (ok b x hx)
 obtain⟨o1,q1⟩:=this;have q2:=kb b o1 q1 hb nL;have q3:=st b o1 q2;rw[e]at q3;cases q3;exact q2
end
section
variable{P:Program}{w:World}{K:PySem.W.Frag}{mg:Str->Option Value}{base:Heap}{N:List Str}{qual:Str}{scope:Scope}{f:Addr}{cd:Value}{A:Around}{outer:List Env}{s:Shared}{H:Hp}{E:XK}
abbrev cxC(c:Bool)(P:Program)(w:World)(K:PySem.W.Frag)(mg:Str->Option Value)(base:Heap)(N:List Str)(qual:Str)(scope:Scope)(f:Addr)(cd:Value)(A:Around)(outer:List Env)(s:Shared)(H:Hp)(E:XK):Cx :=
 {Q1 (CXx P w) P w K mg base N qual scope f cd A outer s H E with calm:=c}
variable{c:Bool}
abbrev cxX(P:Program)(w:World)(K:PySem.W.Frag)(mg:Str->Option Value)(base:Heap)(N:List Str)(qual:Str)(scope:Scope)(f:Addr)(cd:Value)(A:Around)(outer:List Env)(s:Shared)(H:Hp)(E:XK):Cx :=
 Q1 (CXx P w) P w K mg base N qual scope f cd A outer s H E
variable{pins:List (Addr×Obj)}{σ:L2.St}{H':Hp}{s' s1:Shared}{a C:Addr}
theorem Wf:frs (envOfC qual scope s.heap.objs.size f cd::outer)=s.heap.objs.size::frs outer:=rfl
theorem uO(I:Inv (cxC c P w K mg base N qual scope f cd A outer s H E) pins σ H' s')(u:Un (frs outer) [] H H' s.heap s'.heap)(hn:H' a=none)
  (hf:∃B t,Heap.FlyingW B (cxC c P w K mg base N qual scope f cd A outer s H E).stack a (.ref C) (.ref t) s'.heap/\zA9 B H' s.heap (frs (cxC c P w K mg base N qual scope f cd A outer s H E).stack) s'.heap) (hE:E (.ref C) none H') :
  (cxC c P w K mg base N qual scope f cd A outer s H E).xe (.ref a) s':=by
 obtain⟨B,t,fl,kb⟩:=hf;have hL:s.heap.get? s.heap.objs.size=none:=Heap.get?_none_of_le (le_refl _);have hN:∀b∈s.heap.objs.size::frs outer,H' b=none:=λb hb=>I.stkFree b (by show b∈frs (envOfC qual scope s.heap.objs.size f cd::outer);rw[Wf];exact hb)
 have kb':zA9 B H' s.heap (s.heap.objs.size::frs outer) s'.heap:=kb;refine wpAny_leaves_onW (base:=B) I.ok.frames rfl fl λh' fl' sl=>?_
 have st:B.StaysIn h':=fl'.1;have hfs:∀b∈frs outer,∀o,s'.heap.get? b=some o->∃sl,h'.get? b=some {o with slots:=sl}:=λb hb o e=>by
  obtain⟨_,o',q,nd⟩:=I.funs.mem hb;rw[e]at q;cases q;exact sl b o e nd
 exact⟨a,C,H',rfl,I.os,I.bare,un_on u I.hok kb' st hL hfs,zBA I.hok kb' st hN,hn,⟨B,t,fl',GK u I.hok kb' st hL hN⟩,hE⟩
theorem Wg(I:Inv (cxC c P w K mg base N qual scope f cd A outer s H E) pins σ H' s1)(hx:Heap.MadeExcOf s1.heap s'.heap a (.ref C) [])(hs:s'={s1 with heap:=s'.heap})(hn:H' a=none)(hE:E (.ref C) none H') :
  (cxC c P w K mg base N qual scope f cd A outer s H E).xe (.ref a) s':=by
 have u:Un (frs outer) [] H H' s.heap s1.heap:=I.base;have hL:s.heap.get? s.heap.objs.size=none:=Heap.get?_none_of_le (le_refl _);have hN:∀b∈s.heap.objs.size::frs outer,H' b=none:=λb hb=>I.stkFree b (by show b∈frs (envOfC qual scope s.heap.objs.size f cd::outer);rw[Wf];exact hb)
 have kb:zA9 (hideAll s1.heap (s.heap.objs.size::frs outer)) H' s.heap (s.heap.objs.size::frs outer) s1.heap:=λb o e _ nf=>hideAll_get _ e nf
 have hin:∀env∈(envOfC qual scope s.heap.objs.size f cd::outer),∀b,env.frame=some b->b∈s.heap.objs.size::frs outer:=λenv he b hb=>by
  rw[<- Wf (qual:=qual) (scope:=scope) (f:=f) (cd:=cd)];exact mem_filterMap.mpr ⟨env,he,hb⟩
 have hstk:s1.heap.FunFrames base (envOfC qual scope s.heap.objs.size f cd::outer):=I.stack;refine wpAny_leaves_madeW (base:=hideAll s1.heap (s.heap.objs.size::frs outer)) (h:=s1.heap) I.ok.frames rfl (λb o q=>of_hideAll _ q) (PySem.W.funFrames_hide hstk hin) hx λh' t x1 x2 x3 x4=>?_
 have st:=x1.1;have hfs:∀b∈frs outer,∀o,s1.heap.get? b=some o->∃sl,h'.get? b=some {o with slots:=sl}:=λb hb o e=>by
  obtain⟨_,o',q,nd⟩:=I.funs.mem hb;rw[e]at q;cases q;exact x4 b o (hx.keeps b o e) nd
 have os:s'.os=s1.os:=by rw[hs]
 have ge:s'.gens=s1.gens:=by rw[hs]
 refine⟨a,C,H',rfl,os.trans I.os,?_,un_on u I.hok kb st hL hfs,zBA I.hok kb st hN,hn,⟨_,t,x1,GK u I.hok kb st hL hN⟩,hE⟩;show AllBare s'.gens;rw[ge];exact I.bare
end
end DV
namespace DV
open PySem L2 PyProof.Rows
structure RoomN(k:Nat)(A:Around):Prop where
 gd:A.guards=some []
 dp:A.depth+3*k+5<recursionLimit
 un:A.units+16*k+200<cLine
theorem RoomN.mono{j k:Nat}{A:Around}(r:RoomN k A)(h:j<=k):RoomN j A:=⟨r.gd,by have:=r.dp;omega,by have:=r.un;omega⟩
theorem RoomN.deeper{k:Nat}{A:Around}(r:RoomN (k+1) A)(env:Env):RoomN k (A.deeper env) :=
 ⟨r.gd,by have:=r.dp;show A.depth+1+3*k+5<_;omega,by have:=r.un;show A.units+3+16*k+200<_;omega⟩
theorem RoomN.depth{k:Nat}{A:Around}(r:RoomN k A):A.depth<recursionLimit:=by have:=r.dp;omega
theorem RoomN.room{k:Nat}{A:Around}(r:RoomN k A)(h:A.handled=none):Room k A:=⟨h,r.gd,r.dp,r.un⟩
theorem zAB{k:Nat}{A:Around}(r:Room k A):RoomN k A:=⟨r.gd,r.dp,r.un⟩
section
variable{X:Cx}{pins:List (Addr×Obj)}{σ:L2.St}{H:Hp}{s:Shared}
theorem Yl(I:Inv X pins σ H s)(A':Around)(c:Bool)(E:Value->Shared->Prop)(hd:c=true->A'.handled=none)(fr:A'.frames=some X.stack):Inv {X with A:=A',calm:=c,xe:=E} pins σ H s :=
 ⟨⟨I.ok.mod,I.ok.kind,I.ok.glob,I.ok.blt,I.ok.above,I.ok.inj,I.ok.has,I.ok.cab,hd,fr,I.ok.stk,I.ok.exf,I.ok.bs,I.ok.bsz,I.ok.noex,I.ok.exfs,I.ok.funs,I.ok.frf⟩,I.os,I.bare,I.base,I.loc,I.cell,I.free,I.freeC,I.pin,I.hok,I.len⟩
end
abbrev cxN(c:Bool)(P:Program)(w:World)(K:PySem.W.Frag)(mg:Str->Option Value)(base:Heap)(N:List Str)(qual:Str)(scope:Scope)(f:Addr)(cd:Value)(A:Around)(outer:List Env)(s:Shared)(H:Hp)(E:XK):Cx :=
 cxC c P w K mg base N qual scope f cd A outer s H E
structure FnOkN(c:Bool)(P:Program)(w:World)(K:PySem.W.Frag)(mg:Str->Option Value)(base:Heap)(k:Nat)(f:Addr)(fd:FuncData)(ps:List Str)(sp:Sp):Prop where
 len:∀vs H Q E,sp vs H Q E->vs.length=ps.length
 run:∀(A:Around) (outer:List Env) (s:Shared) (H:Hp) (args:Args) (us:List Value) (vs:List V) (Q:VK) (E:XK),(c=true->A.handled=none)->RoomN k A->Env0 P w K mg base A outer s H->BindsTo s fd args (ps.zip us)->zZ vs us->sp vs H Q E ->
  codeAny (model P w) A (.call (.ref f) args) (CR (CXx P w) outer P w H s Q E) s
section
variable{c:Bool}{P:Program}{w:World}{K:PySem.W.Frag}{mg:Str->Option Value}{base:Heap}
theorem FnOkN.mono{j k:Nat}{f:Addr}{fd:FuncData}{ps:List Str}{sp:Sp}(F:FnOkN c P w K mg base j f fd ps sp)(h:j<=k):FnOkN c P w K mg base k f fd ps sp :=
 ⟨F.len,λA outer s H args us vs Q E hd hr=>F.run A outer s H args us vs Q E hd (hr.mono h)⟩
theorem FnOkN.fn{k:Nat}{f:Addr}{fd:FuncData}{ps:List Str}{sp:Sp}(F:FnOkN c P w K mg base k f fd ps sp):FnOk P w K mg base (CXx P w) k f fd ps sp :=
 ⟨F.len,λA outer s H args us vs Q E hr=>F.run A outer s H args us vs Q E (λ_=>hr.hd) (zAB hr)⟩
theorem fn_ofN{k:Nat}{f:Addr}{name qual:Str}{params:Arguments}{body:List Stmt}{scope:Scope}{dV kV doc pm cdv ct oc:Value}{an od:Option Addr}
  {osl:Array (Option Value)} {N ps:List Str} {sp:Sp} (lk:K.lookup f=some ⟨oc,od,.func (fnOf name qual params body scope dV kV doc pm an cdv ct),osl⟩) (hcd:codeIn K cdv qual=true) (S:FnScope N ps scope)
  (len:∀vs H Q E,sp vs H Q E->vs.length=ps.length)
  (hbody:∀(A:Around) (outer:List Env) (s:Shared) (H:Hp) (vs:List V) (Q:VK) (E:XK),(c=true->A.handled=none)->RoomN k (A.deeper (envOfC qual scope s.heap.objs.size f cdv))->sp vs H Q E ->
   ∃t,PSs (cxN c P w K mg base N qual scope f cdv A outer s H E) body t/\t {nx:=λ_ H'=>Q .non H',rt:=Q} (jD N vs) H) :
  FnOkN c P w K mg base (k+1) f (fnOf name qual params body scope dV kV doc pm an cdv ct) ps sp:=by
 refine⟨len,λA outer s H args us vs Q E hd hr e0 hb r hsp=>?_⟩;have hl:=len _ _ _ _ hsp;have KX:K.In s.heap:=e0.mod.kin.keeps λb o e=>(e0.bs b o e).1
 have lim:s.heap.NoLimit:=e0.mod.nolimit.keeps λb o e=>(e0.bs b o e).1
 have hkind:∀y∈ps.zip us,scope.names.lookup y.1=some .local\/(scope.names.lookup y.1=some .cell/\((cellsFrom (s.heap.objs.size+1) scope.names []).lookup y.1).isSome=true):=λ⟨n,v⟩ hy=>by
  rcases S.par n (of_mem_zip hy).1 with q|q
  ·exact .inl q
  ·exact .inr ⟨q,cellsFrom_some _ _ _ (.inl q)⟩
 refine codeAny_call_function hr.depth (KX _ _ lk) rfl S.co S.gen rfl (codeRec_of KX hcd) (hb _ _ _ _ ?_);refine wpAny_newFunctionEnv_cells S.kind hkind λenv he s1 x=>?_
 subst he;refine⟨lim.keeps x.toInCall.keep,codeAny_func ?_⟩;obtain⟨t,ht,hq⟩:=hbody A outer s H vs Q E hd (hr.deeper _) hsp;have e1:Env0 P w K mg base {A with handled:=none} outer s H:=⟨e0.frames,e0.mod,e0.bs,e0.bsz,e0.funs,e0.frf,e0.hok,e0.bare⟩
 have I0:Inv (Q1 (CXx P w) P w K mg base N qual scope f cdv {A with handled:=none} outer s H E) [] (jD N vs) H s1:=Zo S rfl e1 hl r x
 have I:Inv (cxN c P w K mg base N qual scope f cdv A outer s H E) [] (jD N vs) H s1:=Yl I0 (A.deeper (envOfC qual scope s.heap.objs.size f cdv)) c _ hd (Around.frames_deeper e0.frames);refine wpAny_mono (ht [] s1 (jD N vs) H _ I hq) (λfl s' hs=>?_) λe s' hs=>hs
 have fin:∀{σ':L2.St} {H':Hp} {v:V} {u:Value},Inv (cxN c P w K mg base N qual scope f cdv A outer s H E) [] σ' H' s'->zv v u->Q v H'->CE outer P w H s Q u s' :=
  λ{σ' H' v u} J rv q=>⟨v,H',J.os,J.bare,J.base,J.hok,rv,q⟩
 cases fl with
 |ret u =>
  obtain⟨v,σ',H',J,rv,q⟩:=hs;exact fin J rv q
 |next =>
  obtain⟨σ',H',J,q⟩:=hs;exact fin (v:=V.non) (u:=Value.none) J rfl q
 |brk =>
  obtain⟨_,_,_,q⟩:=hs;exact False.elim q
 |cont =>
  obtain⟨_,_,_,q⟩:=hs;exact False.elim q
end
structure Exn where
 cls:Str
 made:Bool
 deriving Inhabited
def RelX(X:Cx)(pins:List (Addr×Obj))(σ:L2.St)(x:Exn)(H:Hp)(e:Value)(s:Shared):Prop:=∃a C,e=.ref a/\X.mg x.cls=some (.ref C)/\H a=none /\
 ((x.made=true/\∃s1,Inv X pins σ H s1/\s={s1 with heap:=s.heap}/\Heap.MadeExcOf s1.heap s.heap a (.ref C) []) \/
  (x.made=false/\∃sc Hc,Inv X pins σ Hc sc/\Un (frs X.stack) [] Hc H sc.heap s.heap/\Flies X.stack H sc.heap a C s.heap))
def XE(X:Cx)(σ:L2.St)(H:Hp)(x:Exn):Prop:=∀(pins:List (Addr×Obj)) (s:Shared) (e:Value),Inv X pins σ H s->RelX X pins σ x H e s->X.xe e s
def EX(X:Cx)(σ:L2.St):XK:=λc _ H'=>∃x C,c=.ref C/\X.mg x.cls=some (.ref C)/\x.made=false/\XE X σ H' x
section
variable{X:Cx}{pins:List (Addr×Obj)}{σ:L2.St}{H:Hp}{s s':Shared}{e:Value}
theorem pass_x(I:Inv X pins σ H s)(h:CXx X.prog X.w X.stack H s (EX X σ) e s'):X.xe e s':=by
 obtain⟨a,C,H',rfl,os,bare,un,hok,hn,fl,x,C',ec,hm,hmd,k⟩:=h;cases ec;have I':Inv X pins σ H' s':=I.call' (ch:=[]) os un hok bare (λb z=>absurd z (by simp));exact k pins s' _ I' ⟨a,C,rfl,hm,hn,.inr ⟨hmd,s,H,I,un,fl⟩⟩
theorem run_fnN{c:Bool}{k:Nat}{f:Addr}{fd:FuncData}{ps:List Str}{sp:Sp}{Q:VK}{us:List Value}{vs:List V}(F:FnOkN c X.prog X.w X.K X.mg X.base k f fd ps sp)(hd:c=true->X.A.handled=none)(hr:RoomN k X.A)(hb:J4 X.K fd ps [])
  (I:Inv X pins σ H s) (r:zZ vs us) (h:sp vs H Q (EX X σ)):wpAny (model X.prog X.w) X.A (call (.ref f) us) (EP X pins σ Q) X.xe s:=by
 have hl:us.length=ps.length:=by rw[<- r.length];exact F.len _ _ _ _ h
 have hbd:=hb s us I.kIn (by rw[append_nil];exact hl);rw[append_nil]at hbd;refine wpAny_call (codeAny_mono (F.run X.A X.stack s H ⟨us,[]⟩ us vs Q (EX X σ) hd hr I.env0 hbd r h) λr s' hq=>?_);cases r with
 |error e=>exact pass_x I hq
 |ok fl =>
  cases fl with
  |ret u=>exact I.after hq
  |next=>exact False.elim hq
  |brk=>exact False.elim hq
  |cont=>exact False.elim hq
end
section
variable{X:Cx}{c:Bool}{k:Nat}{f:Addr}{fd:FuncData}{ps:List Str}{sp:Sp}{x:Str}{p pos:Pos}{e:Expr}{es:List Expr}{t:TA}
theorem zAC(F:FnOkN c X.prog X.w X.K X.mg X.base k f fd ps sp)(hdl:c=true->X.A.handled=none)(hr:RoomN k X.A)(hg:Gl X x)(hm:X.mg x=some (.ref f))(hk:keepIn X.K (.ref f)=true)(hb:J4 X.K fd ps [])
  (ha:PA X (e::es) t) (hdb:(x==("__debug__":Str))=false:=by decide) (he:starEach (e::es) X.env=(false,eval e X.env)::starEach es X.env:=by rfl) (hpl:(backTo pos (starEach es X.env)).any (·.1)=false:=by rfl) :
  PE X (.Call (.Name x p) (e::es) [] pos) (λσ H Q=>t σ H λvs H1=>sp vs H1 Q (EX X σ)):=by
 intro pins s σ H Q I h;refine wpAny_Call_Name_kw (ul I hg hm ?_ hdb);refine PySem.W.callWith_K (h₀:=X.base) I.ok.mod.kin hk (thn (ha pos pins s σ H _ I h) λus s1 ⟨vs,H1,I1,r,q⟩=>⟨I1.kIn,?_⟩) he hpl;exact run_fnN F hdl hr hb I1 r q
end
theorem zAD{c:Bool}{P:Program}{w:World}{K:PySem.W.Frag}{mg:Str->Option Value}{base:Heap}{N:List Str}{qual:Str}{scope:Scope}{f:Addr}{cd:Value}{A:Around}{outer:List Env}{s:Shared}{H H':Hp}{E:XK}{σ:L2.St}{x:Exn}
  (hE:∀C,mg x.cls=some (.ref C)->E (.ref C) none H'):XE (cxN c P w K mg base N qual scope f cd A outer s H E) σ H' x:=by
 intro pins s' e I ⟨a,C,he,hm,hn,h⟩;subst he;have sw:∀{H1:Hp} {s1:Shared},Inv (cxN c P w K mg base N qual scope f cd A outer s H E) pins σ H1 s1->Inv (cxX P w K mg base N qual scope f cd {A with handled:=none} outer s H E) pins σ H1 s1:=λJ=>Yl J _ true _ (λ_=>rfl) J.ok.frames
 rcases h with⟨_,s1,I1,hs,hx⟩|⟨_,sc,Hc,Ic,un,fl⟩
 ·exact Wg I1 hx hs hn (hE C hm)
 ·obtain⟨B,t,f1,f2⟩:=fl
  refine uO I I.base hn ⟨B,t,f1,λb o q z nf=>f2 b o q ?_ nf⟩ (hE C hm);rcases z with⟨o',z⟩|z
  ·exact .inl (Ic.base.there b o' z (by show b∉([]:List Addr);simp))
  ·exact .inr z
end DV
namespace DV
open PySem L2 PyProof.Rows PySem.Spec
open PySem.W (Frag Looks)
structure XCls(K:Frag)(c:Str)(C T:Addr):Prop where
 cd:∃cd,clsIn K C=some cd/\cd.name=c/\cd.mro=[.ref C,.ref T,.type "ValueError",.type "Exception",.type "BaseException",.type "object"]
 ty:typeIn K (.ref C)=some (.type "type")
 ga:findIn K (.ref C) "__getattribute__"=some (some (.builtin "BaseException.__getattribute__"))
 gn:findIn K (.ref C) "__getattr__"=some none
 gc:findIn K (.ref C) "__class__"=some (some (.builtin "object.__class__"))
 sp:specialIn K (.builtin "object.__class__") "__get__"=some (some (.builtin "getset_descriptor.__get__"))
 tk:takesIn K (.builtin "object.__class__")=some true
section
open Builtin Builtin.ObjectAttr Builtin.Getset_descriptor
variable{K:Frag}{c:Str}{C T x:Addr}{h:Heap}{ox:Obj}{M:Model}
theorem XCls.mro(F:XCls K c C T)(b:Value):mroIn K C b=some ([Value.ref C,.ref T,.type "ValueError",.type "Exception",.type "BaseException",.type "object"].contains b):=by
 obtain⟨cd,h1,_,h3⟩:=F.cd;unfold mroIn;rw[h1,Option.bind_some,h3];rfl
end
section
open Builtin Builtin.ObjectAttr Builtin.Getset_descriptor
variable{K:Frag}{c:Str}{C T x:Addr}{ox:Obj}{prog:Program}{w:World}{A:Around}{E:Value->Shared->Prop}{s:Shared}
end
end DV
namespace DV
open PySem L2 PyProof.Rows PySem.Spec
open PySem.W (Frag Looks)
structure TCls(K:Frag)(T:Addr):Prop where
 cd:∃cd,clsIn K T=some cd/\cd.mro=.ref T::VB
 ty:typeIn K (.ref T)=some (.type "type")
section
variable{K:Frag}{c y:Str}{C Y T x:Addr}{h:Heap}{ox:Obj}{M:Model}
theorem TCls.mro(F:TCls K T)(b:Value):mroIn K T b=some ((Value.ref T::VB).contains b):=by
 obtain⟨cd,h1,h3⟩:=F.cd;unfold mroIn;rw[h1,Option.bind_some,h3];rfl
end
end DV
namespace DV
open PySem L2
set_option genInjectivity true in
inductive D where
 |non
 |bl (b:Bool)
 |int (i:Int)
 |str (x:Str)
 |tup (ds:List D)
 |lst (ds:List D)
 |fn (x:Str)
 |dic
 |exn (c:Str)
 deriving Inhabited
mutual
def Rep(K:PySem.W.Frag)(mg:Str->Option Value)(H:Hp):D->V->Prop
 | .non,v=>v=.non
 | .bl b,v=>v=.bl b
 | .int i,v=>v=.int i
 | .str x,v=>v=.str x
 | .tup ds,v=>∃a xs,v=.ref a/\SqT K H a xs/\Reps K mg H ds xs
 | .lst ds,v=>∃a xs,v=.ref a/\SqL K H a xs/\Reps K mg H ds xs
 | .fn x,v=>∃f,v=.ref f/\mg x=some (.ref f)
 | .dic,v=>∃a,v=.ref a/\H a=some (.dK [])
 | .exn c,v=>∃a C,v=.ref a/\mg c=some (.ref C)/\H a=some (ExO C a)
def Reps(K:PySem.W.Frag)(mg:Str->Option Value)(H:Hp):List D->List V->Prop
 | [],vs=>vs=[]
 |d::ds,vs=>∃v r,vs=v::r/\Rep K mg H d v/\Reps K mg H ds r
end
section
variable{K:PySem.W.Frag}{mg:Str->Option Value}{H H':Hp}
theorem zV{a:Addr}{xs:List V}(e:JC H H')(h:SqT K H a xs):SqT K H' a xs:=by
 rcases h with(h|⟨o,h⟩)|h
 ·exact .inl (.inl (e _ _ h))
 ·exact .inl (.inr ⟨o,e _ _ h⟩)
 ·exact .inr h
mutual
theorem Rep.mono(e:JC H H'):∀{d:D} {v:V},Rep K mg H d v->Rep K mg H' d v
 | .non,_,h=>by simpa only[Rep]using h
 | .bl _,_,h=>by simpa only[Rep]using h
 | .int _,_,h=>by simpa only[Rep]using h
 | .str _,_,h=>by simpa only[Rep]using h
 | .tup ds,_,h=>by
  simp only[Rep]at h ⊢;obtain⟨a,xs,h1,h2,h3⟩:=h;exact⟨a,xs,h1,zV e h2,Reps.mono e h3⟩
 | .lst ds,_,h=>by
  simp only[Rep]at h ⊢;obtain⟨a,xs,h1,h2,h3⟩:=h;exact⟨a,xs,h1,e.seq h2,Reps.mono e h3⟩
 | .fn _,_,h=>by simpa only[Rep]using h
 | .dic,_,h=>by
  simp only[Rep]at h ⊢;obtain⟨a,h1,h2⟩:=h;exact⟨a,h1,e _ _ h2⟩
 | .exn _,_,h=>by
  simp only[Rep]at h ⊢;obtain⟨a,C,h1,h2,h3⟩:=h;exact⟨a,C,h1,h2,e _ _ h3⟩
theorem Reps.mono(e:JC H H'):∀{ds:List D} {vs:List V},Reps K mg H ds vs->Reps K mg H' ds vs
 | [],_,h=>by simpa only[Reps]using h
 |d::ds,_,h=>by
  simp only[Reps]at h ⊢;obtain⟨v,r,h1,h2,h3⟩:=h;exact⟨v,r,h1,Rep.mono e h2,Reps.mono e h3⟩
end
theorem Reps.length:∀{ds:List D} {vs:List V},Reps K mg H ds vs->vs.length=ds.length
 | [],_,h=>by simp only[Reps]at h;subst h;rfl
 |d::ds,_,h=>by
  simp only[Reps]at h;obtain⟨v,r,rfl,h2,h3⟩:=h;simp[Reps.length h3]
theorem Reps.nil:Reps K mg H [] []:=by simp only[Reps]
theorem Reps.cons{d:D}{v:V}{ds:List D}{vs:List V}(h:Rep K mg H d v)(t:Reps K mg H ds vs):Reps K mg H (d::ds) (v::vs):=by
 simp only[Reps];exact⟨v,vs,rfl,h,t⟩
theorem Reps.get:∀{ds:List D} {vs:List V} {i:Nat} {v:V},Reps K mg H ds vs->vs[i]?=some v->∃d,ds[i]?=some d/\Rep K mg H d v
 | [],_,_,_,h,e=>by simp only[Reps]at h;subst h;simp at e
 |d::ds,_,i,v,h,e=>by
  simp only[Reps]at h;obtain⟨v',r,rfl,h2,h3⟩:=h;cases i with
  |zero=>simp at e;subst e;exact⟨d,rfl,h2⟩
  |succ i=>simp at e;obtain⟨d',q1,q2⟩:=Reps.get h3 e;exact⟨d',by simpa using q1,q2⟩
theorem Reps.get':∀{ds:List D} {vs:List V} {i:Nat} {d:D},Reps K mg H ds vs->ds[i]?=some d->∃v,vs[i]?=some v/\Rep K mg H d v
 | [],_,_,_,h,e=>by simp at e
 |d::ds,_,i,d',h,e=>by
  simp only[Reps]at h;obtain⟨v',r,rfl,h2,h3⟩:=h;cases i with
  |zero=>simp at e;subst e;exact⟨v',rfl,h2⟩
  |succ i=>simp at e;obtain⟨v,q1,q2⟩:=Reps.get' h3 e;exact⟨v,by simpa using q1,q2⟩
theorem Reps.append:∀{ds es:List D} {vs ws:List V},Reps K mg H ds vs->Reps K mg H es ws->Reps K mg H (ds++es) (vs++ws)
 | [],_,_,_,h,g=>by simp only[Reps]at h;subst h;exact g
 |d::ds,_,_,_,h,g=>by
  simp only[Reps]at h;obtain⟨v',r,rfl,h2,h3⟩:=h;exact Reps.cons h2 (Reps.append h3 g)
theorem Reps.set:∀{ds:List D} {vs:List V} (i:Nat) {d:D} {v:V},Reps K mg H ds vs->Rep K mg H d v->Reps K mg H (ds.set i d) (vs.set i v)
 | [],_,_,_,_,h,g=>by simp only[Reps]at h;subst h;exact Reps.nil
 |d::ds,_,i,_,_,h,g=>by
  simp only[Reps]at h;obtain⟨v',r,rfl,h2,h3⟩:=h;cases i with
  |zero=>exact Reps.cons g h3
  |succ i=>exact Reps.cons h2 (Reps.set i h3 g)
theorem Reps.take:∀{ds:List D} {vs:List V} (n:Nat),Reps K mg H ds vs->Reps K mg H (ds.take n) (vs.take n)
 | [],_,_,h=>by simp only[Reps]at h;subst h;simp[Reps.nil]
 |d::ds,_,n,h=>by
  simp only[Reps]at h;obtain⟨v',r,rfl,h2,h3⟩:=h;cases n with
  |zero=>exact Reps.nil
  |succ n=>exact Reps.cons h2 (Reps.take n h3)
theorem Reps.drop:∀{ds:List D} {vs:List V} (n:Nat),Reps K mg H ds vs->Reps K mg H (ds.drop n) (vs.drop n)
 | [],_,_,h=>by simp only[Reps]at h;subst h;simp[Reps.nil]
 |d::ds,_,n,h=>by
  simp only[Reps]at h;obtain⟨v',r,rfl,h2,h3⟩:=h;cases n with
  |zero=>exact Reps.cons h2 h3
  |succ n=>exact Reps.drop n h3
theorem Reps.flatten{ds:List D}{vs:List V}(h:Reps K mg H ds vs):∀n:Nat,Reps K mg H (replicate n ds).flatten (replicate n vs).flatten
 |0=>Reps.nil
 |n+1=>by simp only[replicate_succ,flatten_cons];exact h.append (Reps.flatten h n)
end
open Classical in
def Hm(M:Addr->Prop)(H:Hp):Hp:=λb=>if M b then none else H b
section
variable{M M':Addr->Prop}{H H':Hp}{b:Addr}{o:HO}
theorem zk:Hm M H b=some o↔¬M b/\H b=some o:=by
 unfold Hm;by_cases h:M b
 ·simp[h]
 ·simp[h]
theorem zF:JC (Hm M H) H:=λb o h=>(zk.mp h).2
theorem jE(h:∀b,M' b->M b):JC (Hm M H) (Hm M' H):=λb o e=>zk.mpr ⟨λx=>(zk.mp e).1 (h b x),(zk.mp e).2⟩
end
inductive Slot where
 |emp
 |val (d:D)
 |own (ds:List D)
 |par (ds:List D)
 deriving Inhabited
abbrev zL:=List Slot
set_option genInjectivity true in
inductive R where
 |val (d:D)
 |own (ds:List D)
 deriving Inhabited
def R.slot:R->Slot
 | .val d=>.val d
 | .own ds=>.own ds
def R.d:R->D
 | .val d=>d
 | .own ds=>.lst ds
def Slot.list?:Slot->Option (List D)
 | .own ds=>some ds
 | .par ds=>some ds
 |_=>none
abbrev Fz:=List (Option V×Slot)
def Wh:Option V×Slot->Option Addr
 | (some (.ref a),.own _)=>some a
 | (some (.ref a),.par _)=>some a
 |_=>none
def zz(Z:Fz):List Addr:=Z.filterMap Wh
def Mo(M:Addr->Prop)(Z:Fz):Addr->Prop:=λb=>M b\/b∈zz Z
theorem zS(Z T:Fz):zz (Z++T)=zz Z++zz T:=List.filterMap_append
theorem za(o:Option V)(d:D)(Z:Fz):zz ((o,.val d)::Z)=zz Z:=by
 unfold zz;rw[List.filterMap_cons_none];cases o with
 |none=>rfl
 |some v=>cases v<;>rfl
theorem wf(a:Addr)(ds:List D)(Z:Fz):zz ((some (.ref a),.own ds)::Z)=a::zz Z:=rfl
theorem yQ(o:Option V)(Z:Fz):zz ((o,.emp)::Z)=zz Z:=by
 unfold zz;rw[List.filterMap_cons_none];cases o with
 |none=>rfl
 |some v=>cases v<;>rfl
theorem yi(M:Addr->Prop)(T Z:Fz):Mo M (T++Z)=Mo (Mo M T) Z:=by
 funext b
 apply propext;simp only[Mo,zS,mem_append];constructor
 ·rintro (h|h|h)
  ·exact .inl (.inl h)
  ·exact .inl (.inr h)
  ·exact .inr h
 ·rintro ((h|h)|h)
  ·exact .inl h
  ·exact .inr (.inl h)
  ·exact .inr (.inr h)
theorem Wi{M:Addr->Prop}{T Z:Fz}(p:T.Perm Z):Mo M T=Mo M Z:=by
 funext b
 apply propext;simp only[Mo,zz];rw[(p.filterMap Wh).mem_iff]
theorem wg(M:Addr->Prop)(o:Option V)(d:D)(Z:Fz):Mo M ((o,.val d)::Z)=Mo M Z:=by unfold Mo;rw[za]
theorem Mo_emp(M:Addr->Prop)(o:Option V)(Z:Fz):Mo M ((o,.emp)::Z)=Mo M Z:=by unfold Mo;rw[yQ]
structure FR(K:PySem.W.Frag)(mg:Str->Option Value)(M:Addr->Prop)(H:Hp)(Z:Fz):Prop where
 val:∀o d,(o,Slot.val d)∈Z->∃v,o=some v/\Rep K mg (Hm (Mo M Z) H) d v
 own:∀o s ds,(o,s)∈Z->s.list?=some ds->∃a xs,o=some (.ref a)/\H a=some (.lst xs)/\¬M a/\Reps K mg (Hm (Mo M Z) H) ds xs
 nd:(zz Z).Nodup
 mal:∀b,M b->∃o,H b=some o
structure Step(M:Addr->Prop)(H:Hp)(Z:Fz)(H':Hp)(Z':Fz):Prop where
 same:JC (Hm (Mo M Z) H) (Hm (Mo M Z') H')
 keep:∀b o,M b->H b=some o->H' b=some o
section
variable{K:PySem.W.Frag}{mg:Str->Option Value}{M:Addr->Prop}{H H' H1 H2:Hp}{Z Z' T Z1 Z2:Fz}
theorem Step.refl:Step M H Z H Z:=⟨JC.refl _,λ_ _ _ h=>h⟩
theorem Step.trans(a:Step M H Z H1 Z1)(b:Step M H1 Z1 H2 Z2):Step M H Z H2 Z2 :=
 ⟨a.same.trans b.same,λx o m h=>b.keep x o m (a.keep x o m h)⟩
theorem wj(h:∀b,b∈zz Z->b∈zz Z'):∀b,Mo M Z b->Mo M Z' b:=λb q=>q.elim .inl λq=>.inr (h b q)
theorem Step.weak(a:Step M H Z H' Z')(h:∀b,b∈zz T->b∈zz Z'):Step M H Z H' T :=
 ⟨a.same.trans (jE (wj h)),a.keep⟩
theorem Step.left(a:Step M H Z H' Z')(h:∀b,b∈zz Z->b∈zz T):Step M H T H' Z' :=
 ⟨(jE (wj h)).trans a.same,a.keep⟩
theorem zC(h:T.Sublist Z):∀b,b∈zz T->b∈zz Z:=λb q=>(h.filterMap Wh).subset q
theorem zE(h:T.Perm Z):∀b,b∈zz T->b∈zz Z:=λb q=>(h.filterMap Wh).subset q
theorem FR.perm(h:FR K mg M H Z)(p:Z.Perm T):FR K mg M H T where
 val:=λo d q=>by rw[<- Wi p];exact h.val o d (p.mem_iff.mpr q)
 own:=λo s ds q e=>by rw[<- Wi p];exact h.own o s ds (p.mem_iff.mpr q) e
 nd:=(p.filterMap Wh).nodup_iff.mp h.nd
 mal:=h.mal
theorem FR.sub(h:FR K mg M H Z)(p:T.Sublist Z):FR K mg M H T where
 val:=λo d q=>by
  obtain⟨v,e,r⟩:=h.val o d (p.subset q);exact⟨v,e,r.mono (jE (wj (zC p)))⟩
 own:=λo s ds q e=>by
  obtain⟨a,xs,e1,e2,e3,r⟩:=h.own o s ds (p.subset q) e;exact⟨a,xs,e1,e2,e3,r.mono (jE (wj (zC p)))⟩
 nd:=h.nd.sublist (p.filterMap Wh)
 mal:=h.mal
theorem FR.tail{x:Option V×Slot}(h:FR K mg M H (x::Z)):FR K mg M H Z:=h.sub (sublist_cons_self _ _)
theorem jS{o:Option V}{s:Slot}{ds:List D}{a:Addr}(h:(o,s)∈Z)(e:s.list?=some ds)(ho:o=some (.ref a)):a∈zz Z:=by
 subst ho;refine mem_filterMap.mpr ⟨_,h,?_⟩;cases s<;>simp[Slot.list?]at e<;>rfl
theorem Wj{a:Addr}(h:a∈zz Z):∃s ds,(some (V.ref a),s)∈Z/\Slot.list? s=some ds:=by
 obtain⟨⟨o,s⟩,h1,h2⟩:=mem_filterMap.mp h;unfold Wh at h2;split at h2
 ·rename_i e;cases e;cases h2;exact⟨_,_,h1,rfl⟩
 ·rename_i e;cases e;cases h2;exact⟨_,_,h1,rfl⟩
 ·cases h2
theorem FR.ownAt(h:FR K mg M H Z){a:Addr}(e:a∈zz Z):∃xs,H a=some (.lst xs)/\¬M a:=by
 obtain⟨s,ds,h1,h2⟩:=Wj e;obtain⟨a',xs,e1,e2,e3,_⟩:=h.own _ s ds h1 h2;cases e1;exact⟨xs,e2,e3⟩
theorem FR.moAl(h:FR K mg M H Z)(b:Addr)(e:Mo M Z b):∃o,H b=some o:=by
 rcases e with e|e
 ·exact h.mal b e
 ·obtain⟨xs,q,_⟩:=h.ownAt e
  exact⟨_,q⟩
theorem FR.inner(h:FR K mg M H (T++Z)):FR K mg (Mo M T) H Z where
 val:=λo d q=>by rw[<- yi];exact h.val o d (mem_append_right _ q)
 own:=λo s ds q e=>by
  obtain⟨a,xs,e1,e2,e3,r⟩:=h.own o s ds (mem_append_right _ q) e;refine⟨a,xs,e1,e2,λm=>?_,by rw[<- yi];exact r⟩;rcases m with m|m
  ·exact e3 m
  ·have nd:=h.nd
   rw[zS]at nd;exact(nodup_append.mp nd).2.2 a m a (jS q e e1) rfl
 nd:=by
  have nd:=h.nd;rw[zS]at nd;exact(nodup_append.mp nd).2.1
 mal:=λb q=>by
  rcases q with q|q
  ·exact h.mal b q
  ·obtain⟨xs,q,_⟩:=h.ownAt (a:=b) (by rw[zS];exact mem_append_left _ q)
   exact⟨_,q⟩
theorem FR.outer(h:FR K mg M H (T++Z))(g:FR K mg (Mo M T) H' Z')(st:Step (Mo M T) H Z H' Z'):FR K mg M H' (T++Z') where
 val:=λo d q=>by
  rw[yi];rcases mem_append.mp q with q|q
  ·obtain⟨v,e,r⟩:=h.val o d (mem_append_left _ q)
   rw[yi]at r;exact⟨v,e,r.mono st.same⟩
  ·exact g.val o d q
 own:=λo s ds q e=>by
  rw[yi];rcases mem_append.mp q with q|q
  ·obtain⟨a,xs,e1,e2,e3,r⟩:=h.own o s ds (mem_append_left _ q) e
   rw[yi]at r;exact⟨a,xs,e1,st.keep a _ (.inr (jS q e e1)) e2,e3,r.mono st.same⟩
  ·obtain⟨a,xs,e1,e2,e3,r⟩:=g.own o s ds q e
   exact⟨a,xs,e1,e2,λm=>e3 (.inl m),r⟩
 nd:=by
  rw[zS];have nd:=h.nd;rw[zS]at nd;refine nodup_append.mpr ⟨(nodup_append.mp nd).1,g.nd,λa ha b hb e=>?_⟩;subst e;obtain⟨xs,_,q⟩:=g.ownAt hb;exact q (.inr ha)
 mal:=λb q=>g.mal b (.inl q)
theorem Step.outer(st:Step (Mo M T) H Z H' Z'):Step M H (T++Z) H' (T++Z') :=
 ⟨by rw[yi,yi];exact st.same,λb o m h=>st.keep b o (.inl m) h⟩
theorem yR{p:Addr}{o:HO}(hp:H p=none):JC H (upd H p o):=λb u e=>by
 rw[zg (λq=>by subst q;rw[hp]at e;cases e)];exact e
theorem FR.grow(h:FR K mg M H Z){p:Addr}{o:HO}(hp:H p=none):FR K mg M (upd H p o) Z where
 val:=λo' d q=>by
  obtain⟨v,e,r⟩:=h.val o' d q;exact⟨v,e,r.mono λb u x=>zk.mpr ⟨(zk.mp x).1,yR hp b u (zk.mp x).2⟩⟩
 own:=λo' s ds q e=>by
  obtain⟨a,xs,e1,e2,e3,r⟩:=h.own o' s ds q e;exact⟨a,xs,e1,yR hp _ _ e2,e3,r.mono λb u x=>zk.mpr ⟨(zk.mp x).1,yR hp b u (zk.mp x).2⟩⟩
 nd:=h.nd
 mal:=λb q=>by obtain⟨u,e⟩:=h.mal b q;exact⟨u,yR hp _ _ e⟩
theorem Step.grow{p:Addr}{o:HO}(hp:H p=none):Step M H Z (upd H p o) Z :=
 ⟨λb u x=>zk.mpr ⟨(zk.mp x).1,yR hp b u (zk.mp x).2⟩,λb u _ e=>yR hp b u e⟩
theorem FR.add(h:FR K mg M H Z){v:V}{d:D}(r:Rep K mg (Hm (Mo M Z) H) d v):FR K mg M H ((some v,.val d)::Z) where
 val:=λo d' q=>by
  rw[wg];rcases mem_cons.mp q with q|q
  ·cases q;exact⟨v,rfl,r⟩
  ·exact h.val o d' q
 own:=λo s ds q e=>by
  rw[wg];rcases mem_cons.mp q with q|q
  ·cases q;cases e
  ·exact h.own o s ds q e
 nd:=by rw[za];exact h.nd
 mal:=h.mal
theorem Step.add{v:Option V}{d:D}(st:Step M H Z H' Z'):Step M H Z H' ((v,.val d)::Z'):=by
 refine⟨?_,st.keep⟩;rw[wg];exact st.same
theorem Y4(h:FR K mg M H Z){p:Addr}(hp:H p=none):¬Mo M Z p:=λq=>by
 obtain⟨o,e⟩:=h.moAl p q;rw[hp]at e;cases e
theorem jT(h:FR K mg M H Z){p:Addr}{ds:List D}{xs:List V}(hp:H p=none):JC (Hm (Mo M Z) H) (Hm (Mo M ((some (.ref p),.own ds)::Z)) (upd H p (.lst xs))):=λb u x=>by
 obtain⟨h1,h2⟩:=zk.mp x;refine zk.mpr ⟨λq=>?_,yR hp _ _ h2⟩;rcases q with q|q
 ·exact h1 (.inl q)
 ·rw[wf]at q
  rcases mem_cons.mp q with q|q
  ·subst q;rw[hp]at h2;cases h2
  ·exact h1 (.inr q)
theorem FR.newOwn(h:FR K mg M H Z){p:Addr}{ds:List D}{xs:List V}(hp:H p=none)(r:Reps K mg (Hm (Mo M Z) H) ds xs):FR K mg M (upd H p (.lst xs)) ((some (.ref p),.own ds)::Z) where
 val:=λo d q=>by
  rcases mem_cons.mp q with q|q
  ·cases q
  ·obtain⟨v,e,r⟩:=h.val o d q
   exact⟨v,e,r.mono (jT h hp)⟩
 own:=λo s ds' q e=>by
  rcases mem_cons.mp q with q|q
  ·cases q;cases e
   exact⟨p,xs,rfl,y3,λm=>Y4 h hp (.inl m),r.mono (jT h hp)⟩
  ·obtain⟨a,ys,e1,e2,e3,r⟩:=h.own o s ds' q e
   exact⟨a,ys,e1,yR hp _ _ e2,e3,r.mono (jT h hp)⟩
 nd:=by
  rw[wf];exact nodup_cons.mpr ⟨λq=>Y4 h hp (.inr q),h.nd⟩
 mal:=λb q=>by obtain⟨u,e⟩:=h.mal b q;exact⟨u,yR hp _ _ e⟩
theorem Step.newOwn(h:FR K mg M H Z){p:Addr}{ds:List D}{xs:List V}(hp:H p=none):Step M H Z (upd H p (.lst xs)) ((some (.ref p),.own ds)::Z) :=
 ⟨jT h hp,λb u _ e=>yR hp b u e⟩
theorem FR.newTup(h:FR K mg M H Z){p:Addr}{ds:List D}{xs:List V}(hp:H p=none)(r:Reps K mg (Hm (Mo M Z) H) ds xs):FR K mg M (upd H p (.tup xs)) ((some (.ref p),.val (.tup ds))::Z):=by
 refine(h.grow hp).add ?_;simp only[Rep];refine⟨p,xs,rfl,SqT.of (zk.mpr ⟨Y4 h hp,y3⟩),r.mono λb u x=>zk.mpr ⟨(zk.mp x).1,yR hp b u (zk.mp x).2⟩⟩
theorem Step.newVal{p:Addr}{o:HO}{v:Option V}{d:D}(hp:H p=none):Step M H Z (upd H p o) ((v,.val d)::Z):=(Step.grow hp).add
theorem FR.frz{o:Option V}{r:R}(h:FR K mg M H ((o,r.slot)::Z)):FR K mg M H ((o,.val r.d)::Z):=by
 cases r with
 |val d=>exact h
 |own ds =>
  obtain⟨a,xs,e1,e2,e3,rr⟩:=h.own o (.own ds) ds mem_cons_self rfl;subst e1;have hn:¬Mo M Z a:=λq=>by
   rcases q with q|q
   ·exact e3 q
   ·exact(nodup_cons.mp h.nd).1 q
  refine h.tail.add ?_;simp only[R.d,Rep];exact⟨a,xs,rfl,SqL.of (zk.mpr ⟨hn,e2⟩),rr.mono (jE (wj (zC (sublist_cons_self _ _))))⟩
theorem Step.frz{o:Option V}{r:R}(h:Step M H Z H' ((o,r.slot)::Z')):Step M H Z H' ((o,.val r.d)::Z'):=by
 cases r with
 |val d=>exact h
 |own ds =>
  refine h.weak λb q=>?_
  rw[za]at q;exact(zC (sublist_cons_self _ _)) b q
theorem Y5:∀(σ:St) (E:zL) (i:Nat) (o:Option V) (s:Slot),(σ.set i o).zip (E.set i s)=(σ.zip E).set i (o,s)
 | [],_,_,_,_=>by simp
 |_::_,[],_,_,_=>by simp
 |x::σ,y::E,0,o,s=>by simp
 |x::σ,y::E,i+1,o,s=>by simp[Y5 σ E i o s]
theorem zx{α:Type}(x:α):∀(l:List α) (i:Nat),i<l.length->(l.set i x).Perm (x::l.eraseIdx i)
 | [],_,h=>by simp at h
 |y::l,0,_=>List.Perm.refl _
 |y::l,i+1,h=>by
  have ih:=zx x l i (by simpa using h);simp only[List.set_cons_succ,List.eraseIdx_cons_succ];exact(ih.cons y).trans (List.Perm.swap x y _)
theorem FR.put(h:FR K mg M H (((o:Option V),s)::Z)){i:Nat}(hi:i<Z.length):FR K mg M H (Z.set i (o,s)) :=
 (h.sub ((List.eraseIdx_sublist Z i).cons_cons (o,s))).perm (zx _ _ _ hi).symm
theorem Step.put{o:Option V}{s:Slot}(h:Step M H Z H' ((o,s)::Z')){i:Nat}(hi:i<Z'.length):Step M H Z H' (Z'.set i (o,s)):=by
 refine h.weak λb q=>?_
 exact zC ((List.eraseIdx_sublist Z' i).cons_cons (o,s)) b (zE (zx _ _ _ hi) b q)
end
end DV
namespace DV
open PySem L2
inductive Out(α:Type) where
 |stuck
 |ok (a:α)
 |exc (x:Exn) (E:zL)
 deriving Inhabited
abbrev ME:=zL->Out (R×zL)
abbrev MA:=zL->Out (List R×zL)
abbrev MT:=zL->Out (Bool×zL)
def PKp(σ:St)(E:zL)(σ':St)(E':zL):Prop:=∀(i:Nat) ds,E[i]?=some (.par ds)->(∃ds',E'[i]?=some (.par ds'))/\σ'[i]?=σ[i]?
theorem PKp.refl{σ:St}{E:zL}:PKp σ E σ E:=λi ds h=>⟨⟨ds,h⟩,rfl⟩
theorem PKp.trans{σ σ1 σ2:St}{E E1 E2:zL}(a:PKp σ E σ1 E1)(b:PKp σ1 E1 σ2 E2):PKp σ E σ2 E2:=λi ds h=>by
 obtain⟨⟨ds1,h1⟩,e1⟩:=a i ds h;obtain⟨h2,e2⟩:=b i ds1 h1;exact⟨h2,e2.trans e1⟩
structure Got(K:PySem.W.Frag)(mg:Str->Option Value)(M:Addr->Prop)(σ:St)(E:zL)(H:Hp)(T0:Fz)(σ':St)(E':zL)(H':Hp)(T:Fz):Prop where
 len:E'.length=σ'.length
 fr:FR K mg M H' (T++(T0++σ'.zip E'))
 st:Step M H (T0++σ.zip E) H' (T++(T0++σ'.zip E'))
 pk:PKp σ E σ' E'
def GL(vs:List V)(rs:List R):Fz:=(vs.zip rs).map λp=>(some p.1,p.2.slot)
def KM(X:Cx)(M:Addr->Prop)(σ:St)(E:zL)(H:Hp)(T0:Fz)(Q:VK):Out (R×zL)->Prop
 | .stuck=>False
 | .ok (r,E')=>∀v H',Got X.K X.mg M σ E H T0 σ E' H' [(some v,r.slot)]->Q v H'
 | .exc x E'=>∀H',Got X.K X.mg M σ E H T0 σ E' H' []->XE X σ H' x
def KT(X:Cx)(M:Addr->Prop)(σ:St)(E:zL)(H:Hp)(T0:Fz)(Q:Bool->Hp->Prop):Out (Bool×zL)->Prop
 | .stuck=>False
 | .ok (b,E')=>∀H',Got X.K X.mg M σ E H T0 σ E' H' []->Q b H'
 | .exc x E'=>∀H',Got X.K X.mg M σ E H T0 σ E' H' []->XE X σ H' x
def KA(X:Cx)(M:Addr->Prop)(σ:St)(E:zL)(H:Hp)(T0:Fz)(Q:List V->Hp->Prop):Out (List R×zL)->Prop
 | .stuck=>False
 | .ok (rs,E')=>∀vs H',vs.length=rs.length->Got X.K X.mg M σ E H T0 σ E' H' (GL vs rs)->Q vs H'
 | .exc x E'=>∀H',Got X.K X.mg M σ E H T0 σ E' H' []->XE X σ H' x
def tM(X:Cx)(m:ME):TE:=λσ H Q=>∃M E,E.length=σ.length/\FR X.K X.mg M H (σ.zip E)/\KM X M σ E H [] Q (m E)
def tMT(X:Cx)(m:MT):TT:=λσ H Q=>∃M E,E.length=σ.length/\FR X.K X.mg M H (σ.zip E)/\KT X M σ E H [] Q (m E)
def tMA(X:Cx)(m:MA):TA:=λσ H Q=>∃M E,E.length=σ.length/\FR X.K X.mg M H (σ.zip E)/\KA X M σ E H [] Q (m E)
abbrev EOk(X:Cx)(e:Expr)(m:ME):Prop:=PE X e (tM X m)
abbrev TOk(X:Cx)(e:Expr)(m:MT):Prop:=PT X e (tMT X m)
abbrev AOk(X:Cx)(es:List Expr)(m:MA):Prop:=PA X es (tMA X m)
theorem zy{X:Cx}{e:Expr}{t t':TE}(h:PE X e t)(i:∀σ H Q,t' σ H Q->t σ H Q):PE X e t':=λpins s σ H Q I q=>h pins s σ H Q I (i σ H Q q)
theorem vJ{X:Cx}{e:Expr}{t t':TT}(h:PT X e t)(i:∀σ H Q,t' σ H Q->t σ H Q):PT X e t':=λpins s σ H Q I q=>h pins s σ H Q I (i σ H Q q)
theorem pw_imp{X:Cx}{e:Expr}{t t':TT}(h:PW X e t)(i:∀σ H Q,t' σ H Q->t σ H Q):PW X e t':=λwh pins s σ H Q I q=>h wh pins s σ H Q I (i σ H Q q)
theorem Zv{X:Cx}{e:List Expr}{t t':TA}(h:PA X e t)(i:∀σ H Q,t' σ H Q->t σ H Q):PA X e t':=λp pins s σ H Q I q=>h p pins s σ H Q I (i σ H Q q)
theorem jk{X:Cx}{e:Stmt}{t t':TS}(h:PS X e t)(i:∀D σ H,t' D σ H->t D σ H):PS X e t':=λpins s σ H D I q=>h pins s σ H D I (i D σ H q)
theorem GM{X:Cx}{e:List Stmt}{t t':TS}(h:PSs X e t)(i:∀D σ H,t' D σ H->t D σ H):PSs X e t':=λpins s σ H D I q=>h pins s σ H D I (i D σ H q)
section
variable{X:Cx}{K:PySem.W.Frag}{mg:Str->Option Value}{M:Addr->Prop}{σ σ' σ1 σ2:St}{E E' E1 E2:zL}{H H' H1 H2:Hp}{T0 T T1 T2:Fz}{Q:VK}
theorem swapP{α:Type}(A B C:List α):(A++(B++([]++C))).Perm (B++(A++C)):=by
 rw[nil_append,<- append_assoc,<- append_assoc];exact(perm_append_comm).append_right _
theorem Y6{α:Type}{l:List α}{i:Nat}{x:α}(h:l[i]?=some x):l.set i x=l:=by
 obtain⟨hi,rfl⟩:=List.getElem?_eq_some_iff.mp h;exact List.set_getElem_self hi
theorem Got.outer(h:FR K mg M H (T0++σ.zip E))(g:Got K mg (Mo M T0) σ E H [] σ' E' H' T):Got K mg M σ E H T0 σ' E' H' T where
 len:=g.len
 fr:=by
  have q:=FR.outer h g.fr g.st;exact q.perm (swapP _ _ _)
 st:=by
  have q:=Step.outer g.st;refine q.weak λb hb=>?_
  exact zE (swapP _ _ _).symm b hb
 pk:=g.pk
theorem Got.trans(a:Got K mg M σ E H T0 σ1 E1 H1 T1)(b:Got K mg M σ1 E1 H1 (T1++T0) σ2 E2 H2 T2):Got K mg M σ E H T0 σ2 E2 H2 (T2++T1) where
 len:=b.len
 fr:=by
  have q:=b.fr;rw[append_assoc]at q;rw[append_assoc];exact q
 st:=by
  have q:=b.st;rw[append_assoc,append_assoc]at q;rw[append_assoc];exact a.st.trans q
 pk:=a.pk.trans b.pk
theorem Got.drop(a:Got K mg M σ E H T0 σ1 E1 H1 (T2++T1)):Got K mg M σ E H T0 σ1 E1 H1 T1 where
 len:=a.len
 fr:=a.fr.sub (by rw[append_assoc];exact sublist_append_right _ _)
 st:=a.st.weak (zC (by rw[append_assoc];exact sublist_append_right _ _))
 pk:=a.pk
theorem Got.dropAll(a:Got K mg M σ E H T0 σ1 E1 H1 T1):Got K mg M σ E H T0 σ1 E1 H1 [] where
 len:=a.len
 fr:=a.fr.sub (sublist_append_right _ _)
 st:=a.st.weak (zC (sublist_append_right _ _))
 pk:=a.pk
theorem Got.trans'(a:Got K mg M σ E H [] σ1 E1 H1 T1)(b:Got K mg M σ1 E1 H1 T1 σ2 E2 H2 T2):Got K mg M σ E H [] σ2 E2 H2 (T2++T1):=a.trans (by rw[append_nil];exact b)
theorem Got.refl(hl:E.length=σ.length)(h:FR K mg M H (T0++σ.zip E)):Got K mg M σ E H T0 σ E H []:=⟨hl,h,Step.refl,PKp.refl⟩
theorem Got.more(a:Got K mg M σ E H [] σ1 E1 H1 T1)(f:FR K mg M H2 (T++σ1.zip E1))(s:Step M H1 (σ1.zip E1) H2 (T++σ1.zip E1)):Got K mg M σ E H [] σ1 E1 H2 T where
 len:=a.len
 fr:=f
 st:=(a.st.weak (zC (sublist_append_right _ _))).trans s
 pk:=a.pk
theorem Got.frame(a:Got K mg M σ E H [] σ1 E1 H1 T1):FR K mg M H1 (σ1.zip E1):=a.fr.sub (sublist_append_right _ _)
theorem Ym(v:V)(r:R)(vs:List V)(rs:List R):GL (v::vs) (r::rs)=(some v,r.slot)::GL vs rs:=rfl
theorem GN:∀{vs:List V} {rs:List R} {Z:Fz},vs.length=rs.length->FR K mg M H (GL vs rs++Z)->Reps K mg (Hm (Mo M Z) H) (rs.map R.d) vs
 | [],[],Z,_,h=>Reps.nil
 |v::vs,r::rs,Z,hl,h=>by
  rw[Ym,List.cons_append]at h;refine Reps.cons ?_ (GN (by simpa using hl) h.tail);obtain⟨v',e,q⟩:=h.frz.val (some v) r.d mem_cons_self;cases e;refine q.mono (jE (wj λb hb=>?_));rw[za,zS];exact mem_append_right _ hb
theorem Got.reps{vs:List V}{rs:List R}(hl:vs.length=rs.length)(a:Got K mg M σ E H [] σ1 E1 H1 (GL vs rs)):Reps K mg (Hm (Mo M (σ1.zip E1)) H1) (rs.map R.d) vs:=GN hl a.fr
theorem Got.rep{v:V}{r:R}(a:Got K mg M σ E H [] σ1 E1 H1 [(some v,r.slot)]):Rep K mg (Hm (Mo M (σ1.zip E1)) H1) r.d v:=by
 have q:=Got.reps (vs:=[v]) (rs:=[r]) rfl a;simp only[List.map,Reps]at q;obtain⟨v',r',e,h,_⟩:=q;cases e;exact h
theorem zt{m:ME}(hl:E.length=σ.length)(h:FR X.K X.mg M H (T0++σ.zip E))
  (k:KM X M σ E H T0 Q (m E)):tM X m σ H Q:=by
 refine⟨Mo M T0,E,hl,h.inner,?_⟩;cases e:m E with
 |stuck=>rw[e]at k;exact k
 |ok a=>rw[e]at k;exact λv H' g=>k v H' (g.outer h)
 |exc x E'=>rw[e]at k;exact λH' g=>k H' (g.outer h)
theorem Y7{m:MT}{Q:Bool->Hp->Prop}(hl:E.length=σ.length)(h:FR X.K X.mg M H (T0++σ.zip E))
  (k:KT X M σ E H T0 Q (m E)):tMT X m σ H Q:=by
 refine⟨Mo M T0,E,hl,h.inner,?_⟩;cases e:m E with
 |stuck=>rw[e]at k;exact k
 |ok a=>rw[e]at k;exact λH' g=>k H' (g.outer h)
 |exc x E'=>rw[e]at k;exact λH' g=>k H' (g.outer h)
theorem J8{m:MA}{Q:List V->Hp->Prop}(hl:E.length=σ.length)(h:FR X.K X.mg M H (T0++σ.zip E))
  (k:KA X M σ E H T0 Q (m E)):tMA X m σ H Q:=by
 refine⟨Mo M T0,E,hl,h.inner,?_⟩;cases e:m E with
 |stuck=>rw[e]at k;exact k
 |ok a=>rw[e]at k;exact λvs H' hv g=>k vs H' hv (g.outer h)
 |exc x E'=>rw[e]at k;exact λH' g=>k H' (g.outer h)
def eC(d:D):ME:=λE=>.ok (.val d,E)
def flat:D->Bool
 | .non | .bl _ | .int _ | .str _=>true
 |_=>false
def flV:D->V
 | .bl b=>.bl b
 | .int i=>.int i
 | .str x=>.str x
 |_=>.non
theorem vK{d:D}(h:flat d=true):Rep K mg H d (flV d):=by
 cases d<;>simp[flat]at h<;>simp[Rep,flV]
theorem Got.flat(a:Got K mg M σ E H [] σ1 E1 H1 T1){d:D}(h:flat d=true):Got K mg M σ E H [] σ1 E1 H1 [(some (flV d),.val d)] :=
 a.more (a.frame.add (vK h)) Step.refl.add
theorem ok_c{e:Expr}{d:D}(h:PE X e (tC (flV d)))(hf:flat d=true:=by rfl):EOk X e (eC d):=zy h λσ H Q ⟨M,E,hl,f,k⟩ =>
 k (flV d) H ((Got.refl (T0:=[]) hl f).flat hf)
theorem ok_int{i j pos}:EOk X (.Constant (.int i) j pos) (eC (.int i)):=ok_c uk
theorem ok_bl{b j pos}:EOk X (.Constant (.bool b) j pos) (eC (.bl b)):=ok_c pe_bl
theorem ok_non{j pos}:EOk X (.Constant .none j pos) (eC .non):=ok_c pe_non
theorem ok_str{x j pos}:EOk X (.Constant (.str x) j pos) (eC (.str x)):=ok_c pe_str
def uf(i:Nat):ME:=λE=>match E[i]? with
 |some (.val d)=>.ok (.val d,E)
 |some (.own ds)=>.ok (.val (.lst ds),E.set i (.val (.lst ds)))
 |_=>.stuck
theorem J9{i:Nat}{s:Slot}(hl:E.length=σ.length)(h:E[i]?=some s):∃o,σ[i]?=some o/\(σ.zip E)[i]?=some (o,s):=by
 have hi:i<E.length:=(List.getElem?_eq_some_iff.mp h).1;have:i<σ.length:=hl▸hi;refine⟨σ[i],by simp[this],?_⟩;rw[List.getElem?_zip_eq_some];exact⟨by simp[this],h⟩
theorem wR{i:Nat}{s:Slot}(hl:E.length=σ.length)(h:E[i]?=some s):∃o,σ[i]?=some o/\(o,s)∈σ.zip E:=by
 obtain⟨o,h1,h2⟩:=J9 hl h;exact⟨o,h1,mem_of_getElem? h2⟩
theorem yO{i:Nat}{o:Option V}(s:Slot)(h:σ[i]?=some o):σ.zip (E.set i s)=(σ.zip E).set i (o,s):=by
 rw[<- Y5];congr 1;have hi:i<σ.length:=(List.getElem?_eq_some_iff.mp h).1;apply List.ext_getElem?;intro j;by_cases e:i=j
 ·subst e;rw[getElem?_set_self hi,h]
 ·rw[getElem?_set_ne e]
theorem pk_set{i:Nat}{s:Slot}{ds0:List D}(h:E[i]?=some s)(hs:∀ds,s≠.par ds)(o:Slot):PKp σ E σ (E.set i o):=λj ds e=>by
 have ne:i≠j:=λq=>by subst q;rw[h]at e;exact hs ds (Option.some.inj e)
 exact⟨⟨ds,by rw[getElem?_set_ne ne];exact e⟩,rfl⟩
theorem ok_var(i:Nat){x:Str}{pos:Pos}(h:PE X (.Name x pos) (Qk i)):EOk X (.Name x pos) (uf i):=zy h λσ H Q ⟨M,E,hl,f,k⟩=>by
 unfold uf at k;cases e:E[i]? with
 |none=>rw[e]at k;exact k.elim
 |some sl =>
 rw[e]at k;cases sl with
 |emp=>exact k.elim
 |par ds=>exact k.elim
 |val d =>
  obtain⟨o,h1,h2⟩:=wR hl e;obtain⟨v,rfl,r⟩:=f.val o d h2;exact⟨v,h1,k v H ⟨hl,f.add r,Step.refl.add,PKp.refl⟩⟩
 |own ds =>
  obtain⟨o,h1,h2⟩:=J9 hl e;obtain⟨a,xs,rfl,q1,q2,q3⟩:=f.own o (.own ds) ds (mem_of_getElem? h2) rfl;refine⟨.ref a,h1,k _ H ?_⟩;have hlt:i<(σ.zip E).length:=(List.getElem?_eq_some_iff.mp h2).1;have p:(σ.zip E).Perm ((some (.ref a),R.slot (.own ds))::(σ.zip E).eraseIdx i):=by
   have:=zx (some (V.ref a),Slot.own ds) (σ.zip E) i hlt;rw[Y6 h2]at this;exact this
  have f1:=(f.perm p).frz;have f2:FR X.K X.mg M H ((σ.zip E).set i (some (.ref a),.val (.lst ds))):=f1.perm (zx _ _ _ hlt).symm;rw[<- yO (.val (.lst ds)) h1]at f2;have r:=f1.val _ _ mem_cons_self;obtain⟨v,ev,rr⟩:=r;cases ev;have em:Mo M ((some (V.ref a),Slot.val (R.own ds).d)::(σ.zip E).eraseIdx i)=Mo M (σ.zip (E.set i (.val (.lst ds)))):=by
   rw[yO (.val (.lst ds)) h1];exact(Wi (zx _ _ _ hlt)).symm
  rw[em]at rr;refine⟨by simp[hl],f2.add rr,?_,?_⟩
  ·refine Step.add ?_
   refine Step.weak Step.refl λb hb=>?_
   refine zE p.symm b ?_;rw[nil_append,yO (.val (.lst ds)) h1]at hb;have hb':=zE (zx _ _ _ hlt) b hb;rw[za]at hb';exact zC (sublist_cons_self _ _) b hb'
  ·exact pk_set (ds0:=[]) e (λds' q=>by cases q) _
end
def zW:Expr->Bool
 | .Starred _ _=>true
 |_=>false
def yj:List Expr->Bool
 | []=>true
 |e::es=>!zW e&&yj es
theorem zd{e:Expr}{es:List Expr}{env:Env}(h:zW e=false):starEach (e::es) env=(false,eval e env)::starEach es env:=by
 cases e<;>first|rfl|(cases h)
theorem star2{a b:Expr}{env:Env}(ha:zW a=false)(hb:zW b=false):starEach [a,b] env=[(false,eval a env),(false,eval b env)]:=by
 rw[zd ha,zd hb];rfl
theorem zAE{a:Expr}{env:Env}(ha:zW a=false):starEach [a] env=[(false,eval a env)]:=by
 rw[zd ha];rfl
def yb:Expr->Bool
 | .Set _ _ _=>false
 |_=>true
theorem jl{e:Expr}{env:Env}(h:yb e=true):∀x,foldedSetIterable e env x=pure x:=by
 intro x;cases e<;>first|rfl|(cases h)
def wS:Expr->Bool
 | .ListComp _ _ _ _=>false
 | .SetComp _ _ _ _=>false
 | .DictComp _ _ _ _ _=>false
 |_=>true
theorem vL{e:Expr}{t:Option Expr}{l:Nat}{env:Env}(h:wS e=true):swapsWith e t l env=pure false:=by
 cases e<;>first|rfl|(cases h)
def zBB:Expr->Bool
 | .UnaryOp .Not _ _=>false
 | .BoolOp _ _ _=>false
 | .IfExp _ _ _ _=>false
 | .Compare _ _ _ _=>false
 |_=>true
theorem test_of{e:Expr}{env:Env}(h:zBB e=true):∀whole,isTrue e env whole=(do let v <- whole;standAt e.pos;holding [v] (truthy v)):=by
 intro x;cases e<;>first|rfl|(cases h)|skip;rename_i op _ _;cases op<;>first|rfl|(cases h)
def Zw:Expr->Bool
 | .Slice _ _ _ _=>false
 |_=>true
theorem Zx{env:Env}:∀{es:List Expr},yj es=true->(starEach es env).any (·.1)=false
 | [],_=>rfl
 |e::es,h=>by
  simp only[yj,Bool.and_eq_true,Bool.not_eq_true']at h;rw[zd h.1];simp[Zx h.2]
theorem zAF(pos:Pos)(l:List (Bool×Sem Value)):(backTo pos l).any (·.1)=l.any (·.1):=by
 unfold backTo;rw[List.any_map];rfl
theorem wk{env:Env}{es:List Expr}{pos:Pos}(h:yj es=true):(backTo pos (starEach es env)).any (·.1)=false:=by
 rw[zAF,Zx h]
end DV
namespace L2
open PySem PySem.Spec PyProof.Rows
section
variable{X:Cx}
def zBC(K:PySem.W.Frag):R2:=λx y H Q=>∃a b xs ys,x=.ref a/\y=.ref b/\SqT K H a xs/\SqT K H b ys/\xs.length+ys.length<=sizeLine /\
 (xs=[]->Q (.ref b) H)/\(xs≠[]->ys=[]->Q (.ref a) H)/\(xs≠[]->ys≠[]->∀p,H p=none->Q (.ref p) (upd H p (.tup (xs++ys))))
theorem zAG:OpR X (binaryOp .Add) (zBC X.K):=by
 intro pins s σ H x y v u Q I rx ry h;obtain⟨a,b,xs,ys,rfl,rfl,ha,hb,hz,q0,q1,q2⟩:=h;cases rx;cases ry;obtain⟨its,r1,p1,_⟩:=I.tuple ha;obtain⟨its2,r2,p2,_⟩:=I.tuple hb;by_cases hx:xs=[]
 ·have hi:its=[]:=r1.nil_iff.mpr hx
  obtain⟨⟨cls,dd,data,sl⟩,ho,hc,n,hd⟩:=id p1;obtain⟨⟨cls2,dd2,data2,sl2⟩,ho2,hc2,n2,hd2⟩:=id p2;simp only at hc hd hc2 hd2;subst hc hd hc2 hd2;exact concat_meets ⟨_,ho,rfl⟩ ⟨_,ho2,rfl⟩ noFill_tuple_add seq_tuple_add PySem.F.slot_tuple_add PySem.F.entry_tuple_add (PySem.F.args_tuple_add_2 _ _)
   (tuple_addW0 a b its.toArray its2.toArray n n2 dd dd2 sl sl2 (by simp[hi])) ⟨ho,ho2,⟨.ref b,H,I,rfl,q0 hx⟩⟩
 ·exact op_catT pins s σ H (.ref a) (.ref b) (.ref a) (.ref b) Q I rfl rfl ⟨a,b,xs,ys,rfl,rfl,ha,hb,hx,hz,q1 hx,q2 hx⟩
def rCatL(K:PySem.W.Frag):R2:=λx y H Q=>∃l b xs zs,x=.ref l/\y=.ref b/\SqL K H l xs/\SqL K H b zs/\xs.length+zs.length<=sizeLine/\∀p,H p=none->Q (.ref p) (upd H p (.lst (xs++zs)))
theorem op_catL:OpR X (binaryOp .Add) (rCatL X.K):=by
 intro pins s σ H x y v u Q I rx ry h;obtain⟨l,b,xs,zs,rfl,rfl,hH,hB,hz,q⟩:=h;cases rx;cases ry;obtain⟨its,r,pl,_⟩:=I.list hH;obtain⟨its2,r2,pl2,_⟩:=I.list hB;have hl:=r.length;have hl2:=r2.length;obtain⟨⟨cls,dd,data,sl⟩,n,ho,hc,hdd,hd⟩:=pl;obtain⟨⟨cls2,dd2,data2,sl2⟩,n2,ho2,hc2,hdd2,hd2⟩:=pl2;simp only at hc hd hc2 hd2;subst hc hd hc2 hd2;refine concat_meets ⟨_,ho,rfl⟩ ⟨_,ho2,rfl⟩ noFill_list_add seq_list_add PySem.F.slot_list_add PySem.F.entry_list_add (PySem.F.args_list_add_2 _ _) (list_addW l b its.toArray its2.toArray n n2 dd dd2 sl sl2 (by rw[size_toArray,size_toArray];omega)) ⟨ho,ho2,?_⟩;have ea:its.toArray++its2.toArray=(its++its2).toArray:=by simp
 rw[ea];exact⟨.ref _,_,I.lnew (t':=s.toks) (r.append r2) (by rw[length_append];omega),rfl,q _ I.fresh⟩
theorem wT{prog:Program}{w:World}{A:Around}{E:Value->Shared->Prop}{s:Shared}{t sl:Addr}{items:Array Value}{vl vu:Value}{lo hi:Option Int}{Q:Value->Shared->Prop}(ht:IsTup s.heap t items)(hs:s.heap.IsSliceOf sl vl vu .none)(pl:IsPart vl lo)(pu:IsPart vu hi)
  (h1:HT.sIx items.size 0 lo=0) (h2:HT.sIx items.size items.size hi=items.size)
  (h:Q (.ref t) s):wpAny (model prog w) A (getItem (.ref t) (.ref sl)) Q E s:=by
 obtain⟨os,hos,hcs,hds⟩:=id hs;have hTs:s.TypeIs (.ref sl) "slice":=⟨os,hos,hcs⟩;unfold getItem
 try with_reducible refine wpAny_holding ?_
 first|refine wpAny_bind (wpAny_pure ?_)|skip
 refine wpAny_bind (wpAny_sequenceKey ht.typeIs (by decide) ?_);refine wpAny_bind (wpAny_callSpecial?_slot (name:=Str.ofString "__getitem__") ht.typeIs PyProof.Rows.slot_tuple_getitem
  (wpAny_call_entry PyProof.Rows.slot_tuple_getitem ht.typeIs entry_tuple_getitem ?_ (args_tuple_getitem _ _)))
 show wpAny _ _ (Builtin.Tuple.tupleItemsOf (.ref t) >>= _) _ _ s
 refine wpAny_bind (tupleItemsOf_ ht ?_);refine wpAny_bind (wpAny_typeOf hTs ?_);rw[if_pos (by decide)];refine wpAny_bind (HT.sliceApplied_gen hs pl pu ?_);have hyes:(((HT.sIx items.size 0 lo:Nat):Int)==0&&(1:Int)==1&&(HT.sIx items.size items.size hi-HT.sIx items.size 0 lo)==items.size)=true:=by
  rw[h1,h2];simp
 show wpAny _ _ (if(((HT.sIx items.size 0 lo:Nat):Int)==0&&(1:Int)==1&&(HT.sIx items.size items.size hi-HT.sIx items.size 0 lo)==items.size)=true then _ else _) _ _ s
 rw[if_pos hyes];unfold Builtin.Tuple.tupleIsExact;refine wpAny_bind (wpAny_bind (wpAny_typeOf ht.typeIs (wpAny_pure ?_)));rw[if_pos (by decide)];exact wpAny_bind (wpAny_rule (wpAny_pure ⟨_,rfl,wpAny_pure h⟩))
def rSlTT(K:PySem.W.Frag):V->Option Int->Option Int->Hp->VK->Prop:=λx lo hi H Q=>∃a xs,x=.ref a/\SqT K H a xs /\
 ((HT.sIx xs.length 0 lo=0/\HT.sIx xs.length xs.length hi=xs.length)->Q (.ref a) H) /\
 (¬(HT.sIx xs.length 0 lo=0/\HT.sIx xs.length xs.length hi=xs.length)->∀p,H p=none->Q (.ref p) (upd H p (.tup (Q6 xs lo hi))))
theorem sl_tupT:SlR X (rSlTT X.K):=by
 intro pins s σ H x v vl vu lo hi sl Q I rx hs pl pu h;obtain⟨a,xs,rfl,hx,q1,q2⟩:=h;by_cases hw:HT.sIx xs.length 0 lo=0/\HT.sIx xs.length xs.length hi=xs.length
 ·cases rx
  obtain⟨its,r,ht,hz⟩:=I.tuple hx;have hlen:its.toArray.size=xs.length:=by rw[size_toArray];exact r.length.symm
  refine⟨"tuple",_,PyProof.Rows.slot_tuple_getitem.lookup,ht.typeIs,?_⟩;exact wT ht hs pl pu (by rw[hlen];exact hw.1) (by rw[hlen];exact hw.2) ⟨.ref a,H,I,rfl,q1 hw⟩
 ·exact sl_tup pins s σ H (.ref a) v vl vu lo hi sl Q I rx hs pl pu ⟨a,xs,rfl,hx,hw,q2 hw⟩
theorem Zy:∀bs:List Bool,(List.range bs.length).all (λi=>bs.getD i false)=bs.all id
 | []=>rfl
 |b::bs=>by
  rw[length_cons,List.range_succ_eq_map,all_cons,all_cons,List.all_map,<- Zy bs];rfl
theorem zAH(hc:X.calm=true):y1 X (.builtin "all") (λxs H Q=>∃(p:Addr) (bs:List Bool),xs=[.ref p]/\SqL X.K H p (bs.map V.bl)/\Q (.bl (bs.all id)) H):=by
 intro pins s σ H xs us Q I r h;obtain⟨p,bs,rfl,hq,q⟩:=h;obtain⟨u,rfl,rx⟩:=Yx r;cases rx;obtain⟨its,rv,pl,hz⟩:=I.list hq;have hlen:=rv.length;refine call_all_walk (wpAny_pyIter_list pl.isList ?_);have hp:p<s.heap.objs.size:=by obtain⟨o,n,e,_⟩:=pl;exact lt_size e
 have hk:∀b o,s.heap.get? b=some o->(s.heap.push {cls:=.type "list_iterator",data:=.fields #[.ref p,.int 0 0]}).get? b=some o:=λb o e=>get?_push_of_some _ e
 have htr:∀(i:Nat) (v:Value),its.toArray[i]?=some v->v=Value.bool (bs.getD i false):=λi v hv=>by
  have hv':its[i]?=some v:=by simpa using hv
  have hi:i<its.length:=(List.getElem?_eq_some_iff.mp hv').1;have hx:i<(bs.map V.bl).length:=by rw[hlen];exact hi
  obtain⟨u',e1,e2⟩:=rv.get (i:=i) (x:=(bs.map V.bl)[i]) (by simp[hx]);rw[hv']at e1;cases e1;rw[length_map]at hx;rw[getElem_map]at e2;have:v=.bool (bs[i]):=e2;rw[this];simp[hx]
 refine⟨s.heap.objs.size,[s.heap.objs.size,p],[s.heap.objs.size],its.toArray.size,_,_,λi=>bs.getD i false,rfl,
  Walks.list (by show X.A.handled=none;exact I.ok.hd hc) _ p (ne_of_lt hp) its.toArray,⟨⟨_,get?_push_size _ rfl,rfl,rfl⟩,?_⟩,?_,?_⟩
 ·obtain⟨o,e,c⟩:=pl.isList
  exact⟨o,hk _ _ e,c⟩
 ·intro i v s' Q' E' hv hQ
  rw[htr i v hv];exact wpAny_truthy_bool hQ
 ·intro h' tk kp
  have e:(List.range its.toArray.size).all (λi=>bs.getD i false)=bs.all id:=by
   rw[size_toArray,<- hlen,length_map,Zy]
  rw[e];exact⟨.bl (bs.all id),H,I.kept (t':=tk) λb o eb=>kp b o (λm=>by
   have:b=s.heap.objs.size:=by simpa using m
   subst this;exact absurd (lt_size eb) (lt_irrefl _)) (hk b o eb),rfl,q⟩
theorem Jm:fillsNumberSlot (.type "tuple") "mul"=pure false :=
 PySem.fillsNumberSlot_seq (id:="tuple.__mul__") (r:=some (.builtin "tuple.__rmul__")) F.slot_tuple_mul.lookup (by decide +kernel) F.slot_tuple_rmul.lookup (by decide +kernel)
theorem Zz:seqRepeat? (.type "tuple")=pure (some (.builtin "tuple.__mul__")):=by
 unfold seqRepeat?;rw[PySem.seqSlot_of (T:="tuple") (name:="__mul__") (id:="tuple.__mul__") F.slot_tuple_mul.lookup (by decide +kernel),PySem.seqSlot_of (T:="tuple") (name:="__rmul__") (id:="tuple.__rmul__") F.slot_tuple_rmul.lookup (by decide +kernel)];rfl
theorem YY(a:Int)(t:Tok)(l:Addr)(items:Array Value)(n:Nat)(dd:Option Addr)(sl:Array (Option Value)) :
  Meets (Builtin.«int.__rmul__» ⟨[.int a t,.ref l],[]⟩) (λ_ R s=>s.heap.get? l=some {cls:=.type "tuple",dict:=dd,data:=.seq items n,slots:=sl}/\R (.ok (.ret Value.notImplemented)) s) :=
 .of_wp λprog w A R s h=>by obtain⟨hp,g,d,tk,os⟩:=s;obtain⟨hl,h⟩:=h;wp_walk;exact⟨_,rfl,h⟩
theorem YZ{prog:Program}{w:World}{A:Around}{E:Value->Shared->Prop}{s:Shared}{l:Addr}{items:Array Value}{k:Int}{t:Tok}{Q:Value->Shared->Prop}(hl:IsTup s.heap l items)(h1:-(2^63)<=k)(h2:k<2^63)
  (hz:(items.size:Int)*k<=sizeLine) (q0:items.isEmpty=true\/k=1->Q (.ref l) s)
  (q1:k<=0->Q (.ref s.heap.objs.size) {s with heap:=s.heap.push {cls:=.type "tuple",data:=.seq #[]}})
  (q2:Q (.ref s.heap.objs.size) {s with heap:=s.heap.push {cls:=.type "tuple",data:=.seq ((replicate k.toNat items).foldl (·++·) #[])}})
  (hfit:sizeOk (.seq ((replicate k.toNat items).foldl (·++·) #[]))) :
  wpAny (model prog w) A (call (.builtin "tuple.__mul__") [.ref l,.int k t]) Q E s:=by
 refine wpAny_call_entry F.slot_tuple_mul hl.typeIs F.entry_tuple_mul ?_ (F.args_tuple_mul_2 _ _);show wpAny _ _ (asIndex (.int k t) >>= _) _ _ s;refine wpAny_bind (wpAny_of_eq (a:=k) rfl ?_);dsimp only;rw[if_neg (by simp only[Bool.or_eq_true,decide_eq_true_eq];omega)];refine wpAny_bind (tupleItemsOf_ hl ?_);by_cases e1:(items.isEmpty||k==1)=true
 ·rw[if_pos e1]
  unfold Builtin.Tuple.tupleIsExact;refine wpAny_bind (wpAny_bind (wpAny_typeOf hl.typeIs (wpAny_pure ?_)));rw[if_pos (by decide)];refine wpAny_bind (wpAny_rule (wpAny_pure ⟨_,rfl,q0 ?_⟩));rw[Bool.or_eq_true,beq_iff_eq]at e1;exact e1
 ·rw[if_neg e1]
  by_cases e2:(decide (k<=0)||items.isEmpty)=true
  ·rw[if_pos e2]
   have hk:k<=0:=by
    simp only[Bool.or_eq_true,decide_eq_true_eq,beq_iff_eq,not_or]at e1 e2;rcases e2 with e2|e2
    ·exact e2
    ·exact absurd e2 e1.1
   exact wpAny_bind (m:=Builtin.Tuple.tupleExact _) (wpAny_newObj_type (wpAny_pure ⟨_,rfl,q1 hk⟩) (by show(#[]:Array Value).size<=sizeLine;simp))
  ·rw[if_neg e2]
   have hs:sizeLine=16777216:=sizeLine_eq;rw[if_neg (by rw[hs]at hz;omega),if_neg (by unfold Builtin.Tuple.tupleTooMany;simp only[decide_eq_true_eq];omega)];exact wpAny_bind (m:=Builtin.Tuple.tupleExact _) (wpAny_newObj_type (wpAny_pure ⟨_,rfl,q2⟩) hfit)
def rRepT(K:PySem.W.Frag):R2:=λx y H Q=>∃l k xs,x=.ref l/\y=.int k/\SqT K H l xs/\-(2^63)<=k/\k<2^63/\xs.length*k.toNat<=sizeLine /\
 (xs=[]\/k=1->Q (.ref l) H)/\(∀p,H p=none->Q (.ref p) (upd H p (.tup (replicate k.toNat xs).flatten)))
theorem op_repT:OpR X (binaryOp .Mult) (rRepT X.K):=by
 intro pins s σ H x y v u Q I rx ry h;obtain⟨l,k,xs,rfl,rfl,hH,h1,h2,hz,q0,q⟩:=h;cases rx;obtain⟨t,rfl⟩:=ry;obtain⟨its,r,pt,_⟩:=I.tuple hH;have hl:=r.length;obtain⟨⟨cls,dd,data,sl⟩,ho,hc,n,hd⟩:=id pt;simp only at hc hd;subst hc hd;have hnew:foldl (λx1 x2=>x1++x2) #[] (replicate k.toNat its.toArray)=(replicate k.toNat its).flatten.toArray:=by
  have:=J6 its k.toNat [];rw[nil_append]at this;exact this
 have hlen:(replicate k.toNat its).flatten.length<=sizeLine:=by rw[We,Nat.mul_comm,<- hl];exact hz
 have hzz:((its.toArray.size:Nat):Int)*k<=(sizeLine:Nat):=by
  rw[size_toArray,<- hl];by_cases hk:0<=k
  ·obtain⟨m,rfl⟩:=Int.eq_ofNat_of_zero_le hk
   have:xs.length*m<=sizeLine:=by simpa using hz
   exact_mod_cast this
  ·have:(xs.length:Int)*k<=0:=Int.mul_nonpos_of_nonneg_of_nonpos (Int.natCast_nonneg _) (by omega)
   omega
 refine wpAny_binaryOp_repeat_ref (T:="tuple") (U:="int") (by decide) ⟨_,ho,rfl⟩ (λs'=>typeIs_int s' k t) Jm F.fills_int_mul F.slot_int_rmul Zz F.slot_int_index.lookup
  (call_meets F.slot_int_rmul (typeIs_int s k t) F.entry_int_rmul (F.args_int_rmul_2 _ _) (YY k t l its.toArray n dd sl) ⟨ho,rfl,⟨_,ho,rfl⟩,?_⟩)
 refine YZ pt h1 h2 hzz (λe=>⟨.ref l,H,I,rfl,q0 ?_⟩) (λe=>?_) ?_ ?_
 ·rcases e with e|e
  ·left
   have:its=[]:=by simpa using e
   exact r.nil_iff.mp this
  ·right;exact e
 ·have ek:k.toNat=0:=by omega
  have q':=q s.heap.objs.size I.fresh;rw[ek]at q';exact⟨.ref s.heap.objs.size,_,I.laid (t':=s.toks) (o:=.tup []) (λb ob q=>get?_push_of_some _ q) (le_refl _) ⟨zero_le _,[],.nil,IsTup.new _ _⟩,rfl,q'⟩
 ·rw[hnew]
  exact⟨.ref s.heap.objs.size,_,I.laid (t':=s.toks) (o:=.tup (replicate k.toNat xs).flatten) (λb ob q=>get?_push_of_some _ q) (le_refl _) ⟨by rw[We,Nat.mul_comm];exact hz,_,r.rep k.toNat,IsTup.new _ _⟩,rfl,q _ I.fresh⟩
 ·rw[hnew]
  show(replicate k.toNat its).flatten.toArray.size<=sizeLine
  rw[size_toArray];exact hlen
end
end L2
namespace DV
open PySem L2
def cap:Nat:=1000000
theorem JW{n:Nat}(h:n<=cap):n<=sizeLine:=le_trans h (by rw[sizeLine_eq];decide)
abbrev Kt(K:PySem.W.Frag)(mg:Str->Option Value)(M:Addr->Prop)(H:Hp)(Z:Fz)(res:R)(Q:VK):Prop :=
 ∀v H',FR K mg M H' ((some v,res.slot)::Z)->Step M H Z H' ((some v,res.slot)::Z)->Q v H'
def ROk(K:PySem.W.Frag)(mg:Str->Option Value)(rel:R2)(f:D->D->Option R):Prop :=
 ∀(M:Addr->Prop) (H:Hp) (Z:Fz) (x y:V) (d1 d2:D) (res:R) (Q:VK),FR K mg M H Z->Rep K mg (Hm (Mo M Z) H) d1 x->Rep K mg (Hm (Mo M Z) H) d2 y->f d1 d2=some res->Kt K mg M H Z res Q->rel x y H Q
def COk(K:PySem.W.Frag)(mg:Str->Option Value)(rel:List V->Hp->VK->Prop)(f:List D->Option R):Prop :=
 ∀(M:Addr->Prop) (H:Hp) (Z:Fz) (xs:List V) (ds:List D) (res:R) (Q:VK),FR K mg M H Z->Reps K mg (Hm (Mo M Z) H) ds xs->f ds=some res->Kt K mg M H Z res Q->rel xs H Q
section
variable{X:Cx}{K:PySem.W.Frag}{mg:Str->Option Value}{M:Addr->Prop}{H H':Hp}{Z:Fz}{Q:VK}{σ:St}
theorem Kt.flat{d:D}(k:Kt K mg M H Z (.val d) Q)(f:FR K mg M H Z)(h:flat d=true):Q (flV d) H:=k _ _ (f.add (vK h)) Step.refl.add
theorem Kt.rep{d:D}{v:V}(k:Kt K mg M H Z (.val d) Q)(f:FR K mg M H Z)(h:Rep K mg (Hm (Mo M Z) H) d v):Q v H:=k _ _ (f.add h) Step.refl.add
theorem Kt.tup{ds:List D}{xs:List V}{p:Addr}(k:Kt K mg M H Z (.val (.tup ds)) Q)(f:FR K mg M H Z)(hp:H p=none)(h:Reps K mg (Hm (Mo M Z) H) ds xs):Q (.ref p) (upd H p (.tup xs)):=k _ _ (f.newTup hp h) (Step.newVal hp)
theorem Kt.own{ds:List D}{xs:List V}{p:Addr}(k:Kt K mg M H Z (.own ds) Q)(f:FR K mg M H Z)(hp:H p=none)(h:Reps K mg (Hm (Mo M Z) H) ds xs):Q (.ref p) (upd H p (.lst xs)):=k _ _ (f.newOwn hp h) (Step.newOwn f hp)
def YT(f:D->D->Option R)(a b:ME):ME:=λE=>match a E with
 | .stuck=>.stuck
 | .exc x E1=>.exc x E1
 | .ok (r1,E1)=>match b E1 with
  | .stuck=>.stuck
  | .exc x E2=>.exc x E2
  | .ok (r2,E2)=>match f r1.d r2.d with
   |some r=>.ok (r,E2)
   |none=>.stuck
theorem Y8{rel:R2}{f:D->D->Option R}{a b:ME}(hr:ROk X.K X.mg rel f){H:Hp}{Q:VK}(h:tM X (YT f a b) σ H Q):tOp rel (tM X a) (tM X b) σ H Q:=by
 obtain⟨M,E,hl,fr,k⟩:=h;unfold YT at k;refine zt (T0:=[]) hl fr ?_;cases ea:a E with
 |stuck=>rw[ea]at k;exact k
 |exc x E1=>rw[ea]at k;exact λH' g=>k H' g
 |ok p =>
  obtain⟨r1,E1⟩:=p;rw[ea]at k;intro x H1 g1;refine zt (T0:=[(some x,r1.slot)]) g1.len g1.fr ?_;dsimp only at k;cases eb:b E1 with
  |stuck=>rw[eb]at k;exact k
  |exc x E2=>rw[eb]at k;exact λH' g=>k H' (g1.trans' g).dropAll
  |ok p =>
   obtain⟨r2,E2⟩:=p;rw[eb]at k;intro y H2 g2;have g:=g1.trans' g2;have rp:=Got.reps (vs:=[y,x]) (rs:=[r2,r1]) rfl g;simp only[List.map,Reps]at rp;obtain⟨y',_,e1,ry,x',_,e2,rx,_⟩:=rp;cases e1;cases e2;dsimp only at k;cases ef:f r1.d r2.d with
   |none=>rw[ef]at k;exact k.elim
   |some r =>
    rw[ef]at k;exact hr M H2 _ x y r1.d r2.d r Q g.frame rx ry ef λv H' f' s'=>k v H' (g.more (T:=[(some v,r.slot)]) f' s')
theorem uP{op:Operator}{rel:R2}{f:D->D->Option R}{a b:Expr}{ma mb:ME}{pos:Pos}(ho:OpR X (binaryOp op) rel)(hr:ROk X.K X.mg rel f)(ha:EOk X a ma)(hb:EOk X b mb):EOk X (.BinOp a op b pos) (YT f ma mb) :=
 zy (pe_op ho ha hb) λσ H Q h=>Y8 hr h
theorem JX{op:CmpOp}{rel:R2}{f:D->D->Option R}{a b:Expr}{ma mb:ME}{pos:Pos}(ho:OpR X (compareOp op) rel)(hr:ROk X.K X.mg rel f)(hm:behindInMarks op b=false)(ha:EOk X a ma)(hb:EOk X b mb):EOk X (.Compare a [op] [b] pos) (YT f ma mb) :=
 zy (pe_cmpR ho ha hb hm) λσ H Q h=>Y8 hr h
theorem ok_ix{rel:R2}{f:D->D->Option R}{a b:Expr}{ma mb:ME}{pos:Pos}(ho:IxR X rel)(hr:ROk X.K X.mg rel f)(hs:Y0 b)(ha:EOk X a ma)(hb:EOk X b mb):EOk X (.Subscript a b pos) (YT f ma mb) :=
 zy (pe_ix ho ha hb hs) λσ H Q h=>Y8 hr h
def tT(m:ME):MT:=λE=>match m E with
 | .stuck=>.stuck
 | .exc x E1=>.exc x E1
 | .ok (.val (.bl b),E1)=>.ok (b,E1)
 |_=>.stuck
theorem GO{m:ME}{H:Hp}{Q:Bool->Hp->Prop}(h:tMT X (tT m) σ H Q):tM X m σ H λx H'=>∃k,x=.bl k/\Q k H':=by
 obtain⟨M,E,hl,fr,k⟩:=h;refine⟨M,E,hl,fr,?_⟩;unfold tT at k;cases e:m E with
 |stuck=>rw[e]at k;exact k
 |exc x E1=>rw[e]at k;exact k
 |ok p =>
  obtain⟨r,E1⟩:=p;rw[e]at k;cases r with
  |own ds=>exact k.elim
  |val d =>
   cases d with
   |bl b =>
    intro v H' g;have rp:=g.rep;simp only[R.d,Rep]at rp;exact⟨b,rp,k H' g.dropAll⟩
   |_=>exact k.elim
theorem ok_test{e:Expr}{m:ME}(h:EOk X e m)(he:∀whole,isTrue e X.env whole=(do let v <- whole;standAt e.pos;holding [v] (truthy v)):=by intro _;rfl):TOk X e (tT m) :=
 vJ (pt_val h he) λσ H Q q=>GO q
theorem jm{op:CmpOp}{rel:R2}{f:D->D->Option R}{a b:Expr}{ma mb:ME}{pos:Pos}(ho:OpR X (compareOp op) rel)(hr:ROk X.K X.mg rel f)(hm:behindInMarks op b=false)(ha:EOk X a ma)(hb:EOk X b mb):TOk X (.Compare a [op] [b] pos) (tT (YT f ma mb)) :=
 vJ (pt_cmpR ho ha hb hm) λσ H Q h=>Y8 hr (GO h)
def Wk(a b:MT):MT:=λE=>match a E with
 | .ok (true,E1)=>b E1
 |o=>o
def uQ(a b:MT):MT:=λE=>match a E with
 | .ok (false,E1)=>b E1
 |o=>o
def Jn(a:MT):MT:=λE=>match a E with
 | .stuck=>.stuck
 | .exc x E1=>.exc x E1
 | .ok (b,E1)=>.ok (!b,E1)
theorem or_run{a b:MT}{H:Hp}{Q:Bool->Hp->Prop}(h:tMT X (uQ a b) σ H Q):tOr (tMT X a) (tMT X b) σ H Q:=by
 obtain⟨M,E,hl,fr,k⟩:=h;unfold uQ at k;refine Y7 (T0:=[]) hl fr ?_;cases ea:a E with
 |stuck=>rw[ea]at k;exact k
 |exc x E1=>rw[ea]at k;exact k
 |ok p =>
  obtain⟨c,E1⟩:=p;rw[ea]at k;intro H1 g1;cases c with
  |true=>exact iteT (k H1 g1)
  |false =>
   refine iteF ?_;refine Y7 (T0:=[]) g1.len g1.fr ?_;dsimp only at k;cases eb:b E1 with
   |stuck=>rw[eb]at k;exact k
   |exc x E2=>rw[eb]at k;exact λH' g=>k H' (g1.trans' g)
   |ok p=>rw[eb]at k;exact λH' g=>k H' (g1.trans' g)
theorem not_run{a:MT}{H:Hp}{Q:Bool->Hp->Prop}(h:tMT X (Jn a) σ H Q):tNot (tMT X a) σ H Q:=by
 obtain⟨M,E,hl,fr,k⟩:=h;unfold Jn at k;refine Y7 (T0:=[]) hl fr ?_;cases ea:a E with
 |stuck=>rw[ea]at k;exact k
 |exc x E1=>rw[ea]at k;exact k
 |ok p=>rw[ea]at k;exact k
abbrev WOk(X:Cx)(e:Expr)(m:MT):Prop:=PW X e (tMT X m)
theorem wk_or1{a:Expr}{m:MT}{pos:Pos}(h:TOk X a m):WOk X (.BoolOp .Or [a] pos) m:=pw_or1 h
theorem wk_or{a b:Expr}{ji:List Expr}{ma mb:MT}{pos:Pos}(ha:TOk X a ma)(hb:WOk X (.BoolOp .Or (b::ji) pos) mb):WOk X (.BoolOp .Or (a::b::ji) pos) (uQ ma mb):=pw_imp (pw_or ha hb) λσ H Q=>or_run
theorem tk_w{e:Expr}{m:MT}(h:WOk X e m):TOk X e m:=h.pt
theorem tk_not{a:Expr}{m:MT}{pos:Pos}(h:TOk X a m):TOk X (.UnaryOp .Not a pos) (Jn m):=vJ (pt_not h) λσ H Q=>not_run
def GP(a:ME):ME:=λE=>match a E with
 | .ok (.val (.bl b),E1)=>.ok (.val (.bl (!b)),E1)
 | .exc x E1=>.exc x E1
 |_=>.stuck
def uR(a b:ME):ME:=λE=>match a E with
 | .ok (.val (.bl true),E1)=>b E1
 | .ok (.val (.bl false),E1)=>.ok (.val (.bl false),E1)
 | .exc x E1=>.exc x E1
 |_=>.stuck
def eOr(a b:ME):ME:=λE=>match a E with
 | .ok (.val (.bl false),E1)=>b E1
 | .ok (.val (.bl true),E1)=>.ok (.val (.bl true),E1)
 | .exc x E1=>.exc x E1
 |_=>.stuck
theorem zAI{a:ME}{H:Hp}{Q:VK}(h:tM X (GP a) σ H Q):tNotV (tM X a) σ H Q:=by
 obtain⟨M,E,hl,fr,k⟩:=h;unfold GP at k;refine zt (T0:=[]) hl fr ?_;cases ea:a E with
 |stuck=>rw[ea]at k;exact k
 |exc x E1=>rw[ea]at k;exact k
 |ok p =>
  obtain⟨r,E1⟩:=p;rw[ea]at k;cases r with
  |own ds=>exact k.elim
  |val d =>
   cases d with
   |bl b =>
    intro v H' g;have rp:=g.rep;simp only[R.d,Rep]at rp;exact⟨b,rp,k _ H' (g.flat (d:=.bl (!b)) rfl)⟩
   |_=>exact k.elim
theorem zAJ{a b:ME}{H:Hp}{Q:VK}(h:tM X (uR a b) σ H Q):tAndV (tM X a) (tM X b) σ H Q:=by
 obtain⟨M,E,hl,fr,k⟩:=h;unfold uR at k;refine zt (T0:=[]) hl fr ?_;cases ea:a E with
 |stuck=>rw[ea]at k;exact k
 |exc x E1=>rw[ea]at k;exact k
 |ok p =>
  obtain⟨r,E1⟩:=p;rw[ea]at k;cases r with
  |own ds=>exact k.elim
  |val d =>
   cases d with
   |bl c =>
    intro v H' g;have rp:=g.rep;simp only[R.d,Rep]at rp;refine⟨c,rp,?_⟩;cases c with
    |false=>exact iteF (k _ H' (g.flat (d:=.bl false) rfl))
    |true =>
     refine iteT (zt (T0:=[]) g.len g.frame ?_);dsimp only at k;cases eb:b E1 with
     |stuck=>rw[eb]at k;exact k
     |exc x E2=>rw[eb]at k;exact λH'' g'=>k H'' (g.dropAll.trans' g')
     |ok p=>rw[eb]at k;exact λv'' H'' g'=>k v'' H'' (g.dropAll.trans' g')
   |_=>exact k.elim
theorem ok_not{a:Expr}{m:ME}{pos:Pos}(h:EOk X a m):EOk X (.UnaryOp .Not a pos) (GP m):=zy (pe_not h) λσ H Q=>zAI
theorem zBD{a b:Expr}{ji:List Expr}{ma mb:ME}{pos:Pos}(ha:EOk X a ma)(hb:EOk X (.BoolOp .And (b::ji) pos) mb):EOk X (.BoolOp .And (a::b::ji) pos) (uR ma mb):=zy (pe_and ha hb) λσ H Q=>zAJ
theorem ok_one{a:Expr}{op:BoolOp}{m:ME}{pos:Pos}(h:EOk X a m):EOk X (.BoolOp op [a] pos) m:=pe_one h
def Ql:MA:=λE=>.ok ([],E)
def Jo(a:ME)(m:MA):MA:=λE=>match a E with
 | .stuck=>.stuck
 | .exc x E1=>.exc x E1
 | .ok (r,E1)=>match m E1 with
  | .stuck=>.stuck
  | .exc x E2=>.exc x E2
  | .ok (rs,E2)=>.ok (r::rs,E2)
theorem ak_nil:AOk X [] Ql:=Zv vG λσ H Q ⟨M,E,hl,fr,k⟩=>k [] H rfl (Got.refl (T0:=[]) hl fr)
theorem Got.perm{K:PySem.W.Frag}{mg:Str->Option Value}{M:Addr->Prop}{σ σ1:St}{E E1:zL}{H H1:Hp}{T0 T T':Fz}(a:Got K mg M σ E H T0 σ1 E1 H1 T)(p:T.Perm T'):Got K mg M σ E H T0 σ1 E1 H1 T' where
 len:=a.len
 fr:=a.fr.perm (p.append_right _)
 st:=a.st.weak (zE (p.append_right _).symm)
 pk:=a.pk
theorem zAK{a:ME}{m:MA}{H:Hp}{Q:List V->Hp->Prop}(h:tMA X (Jo a m) σ H Q):tCons (tM X a) (tMA X m) σ H Q:=by
 obtain⟨M,E,hl,fr,k⟩:=h;unfold Jo at k;refine zt (T0:=[]) hl fr ?_;cases ea:a E with
 |stuck=>rw[ea]at k;exact k
 |exc x E1=>rw[ea]at k;exact k
 |ok p =>
  obtain⟨r1,E1⟩:=p;rw[ea]at k;intro x H1 g1;refine J8 (T0:=[(some x,r1.slot)]) g1.len g1.fr ?_;dsimp only at k;cases eb:m E1 with
  |stuck=>rw[eb]at k;exact k
  |exc x E2=>rw[eb]at k;exact λH' g=>k H' (g1.trans' g).dropAll
  |ok p =>
   obtain⟨rs,E2⟩:=p;rw[eb]at k;intro vs H2 hv g2;refine k (x::vs) H2 (by simp[hv]) ?_;rw[Ym];exact(g1.trans' g2).perm (perm_append_comm)
theorem ak_cons{e:Expr}{es:List Expr}{a:ME}{m:MA}(ha:EOk X e a)(hm:AOk X es m)(hs:zW e=false:=by rfl):AOk X (e::es) (Jo a m):=Zv (JB ha hm (zd hs)) λσ H Q=>zAK
def eCB(f:List D->Option R)(m:MA):ME:=λE=>match m E with
 | .stuck=>.stuck
 | .exc x E1=>.exc x E1
 | .ok (rs,E1)=>match f (rs.map R.d)with
  |some r=>.ok (r,E1)
  |none=>.stuck
theorem Z0{rel:List V->Hp->VK->Prop}{f:List D->Option R}{m:MA}(hr:COk X.K X.mg rel f){H:Hp}{Q:VK}(h:tM X (eCB f m) σ H Q):tCB rel (tMA X m) σ H Q:=by
 obtain⟨M,E,hl,fr,k⟩:=h;unfold eCB at k;refine J8 (T0:=[]) hl fr ?_;cases ea:m E with
 |stuck=>rw[ea]at k;exact k
 |exc x E1=>rw[ea]at k;exact k
 |ok p =>
  obtain⟨rs,E1⟩:=p;rw[ea]at k;intro vs H1 hv g;have rp:=Got.reps hv g;dsimp only at k;cases ef:f (rs.map R.d)with
  |none=>rw[ef]at k;exact k.elim
  |some r =>
   rw[ef]at k;exact hr M H1 _ vs _ r Q g.frame rp ef λv H' f' s'=>k v H' (g.more (T:=[(some v,r.slot)]) f' s')
def Qm(m:MA):ME:=eCB (λds=>if ds.length<=cap then some (.val (.tup ds))else none) m
def Qn(m:MA):ME:=eCB (λds=>if ds.length<=cap then some (.own ds)else none) m
theorem ok_tup{es:List Expr}{m:MA}{x1:Nat}{pos:Pos}(h:AOk X es m):EOk X (.Tuple es x1 pos) (Qm m) :=
 zy (pe_tup h) λσ H Q q=>Z0 (rel:=λxs H1 Q=>xs.length<=sizeLine/\∀p,H1 p=none->Q (.ref p) (upd H1 p (.tup xs))) (λM H Z xs ds res Q f r e k=>by
  split at e
  ·rename_i hc
   cases e;exact⟨by rw[r.length];exact JW hc,λp hp=>k.tup f hp r⟩
  ·cases e) q
theorem ok_lst{es:List Expr}{m:MA}{pos:Pos}(h:AOk X es m):EOk X (.List es pos) (Qn m) :=
 zy (pe_lst h) λσ H Q q=>Z0 (rel:=λxs H1 Q=>xs.length<=sizeLine/\∀p,H1 p=none->Q (.ref p) (upd H1 p (.lst xs))) (λM H Z xs ds res Q f r e k=>by
  split at e
  ·rename_i hc
   cases e;exact⟨by rw[r.length];exact JW hc,λp hp=>k.own f hp r⟩
  ·cases e) q
theorem Js{f:List D->Option R}{m:MA}{rel:List V->Hp->VK->Prop}{id:String}{x:Str}{p pos:Pos}{e:Expr}{es:List Expr}(hc:y1 X (.builtin id) rel)(hr:COk X.K X.mg rel f)(hg:Gl X x)(hm:X.mg x=none)(hv:bootBuiltins x=some (.builtin id))(ha:AOk X (e::es) m)(hn:x≠"__name__":=by decide)(hdb:(x==("__debug__":Str))=false:=by decide)
  (he:zW e=false:=by rfl) (hpl:yj es=true:=by rfl):EOk X (.Call (.Name x p) (e::es) [] pos) (eCB f m) :=
 zy (vI hc hg hm hv ha hn hdb (zd he) (wk hpl)) λσ H Q q=>Z0 hr q
theorem YA{f:List D->Option R}{m:MA}{rel:List V->Hp->VK->Prop}{T:String}{x:Str}{p pos:Pos}{e:Expr}{es:List Expr}(hc:y1 X (.type T) rel)(hr:COk X.K X.mg rel f)(hg:Gl X x)(hm:X.mg x=none)(hv:bootBuiltins x=some (.type T))(ha:AOk X (e::es) m)(hn:x≠"__name__":=by decide)(hdb:(x==("__debug__":Str))=false:=by decide)
  (he:zW e=false:=by rfl) (hpl:yj es=true:=by rfl):EOk X (.Call (.Name x p) (e::es) [] pos) (eCB f m) :=
 zy (GB hc hg hm hv ha hn hdb (zd he) (wk hpl)) λσ H Q q=>Z0 hr q
end
end DV
namespace DV
open PySem L2
section
variable{X:Cx}{K:PySem.W.Frag}{mg:Str->Option Value}
theorem zI{H:Hp}{i:Int}{v:V}(h:Rep K mg H (.int i) v):v=.int i:=by simpa only[Rep]using h
theorem yc{H:Hp}{i:Bool}{v:V}(h:Rep K mg H (.bl i) v):v=.bl i:=by simpa only[Rep]using h
theorem jF{H:Hp}{i:Str}{v:V}(h:Rep K mg H (.str i) v):v=.str i:=by simpa only[Rep]using h
theorem ym{H:Hp}{v:V}(h:Rep K mg H .non v):v=.non:=by simpa only[Rep]using h
theorem zM{H:Hp}{ds:List D}{v:V}(h:Rep K mg H (.tup ds) v):∃a xs,v=.ref a/\SqT K H a xs/\Reps K mg H ds xs:=by simpa only[Rep]using h
theorem zJ{H:Hp}{ds:List D}{v:V}(h:Rep K mg H (.lst ds) v):∃a xs,v=.ref a/\SqL K H a xs/\Reps K mg H ds xs:=by simpa only[Rep]using h
theorem zN{H:Hp}{d:D}{v:V}(hf:flat d=true)(h:Rep K mg H d v):v=flV d:=by
 cases d<;>simp[flat]at hf<;>simpa only[Rep,flV]using h
def JA:D->D->Option R
 | .int i,.int j=>some (.val (.int (i+j)))
 | .tup a,.tup b=>if a.length+b.length<=cap then some (.val (.tup (a++b)))else none
 | .lst a,.lst b=>if a.length+b.length<=cap then some (.own (a++b))else none
 |_,_=>none
def rAddD(K:PySem.W.Frag):R2:=λx y H Q=>rI0 (λi j=>.int (i+j)) x y H Q\/(zBC K x y H Q\/rCatL K x y H Q)
theorem op_addD:OpR X (binaryOp .Add) (rAddD X.K):=op_add.or (zAG.or op_catL)
theorem ro_add:ROk K mg (rAddD K) JA:=by
 intro M H Z x y d1 d2 res Q f r1 r2 e k;cases d1 with
 |int i =>
  cases d2 with
  |int j =>
   cases e;exact .inl ⟨i,j,zI r1,zI r2,k.flat f rfl⟩
  |_=>cases e
 |tup a =>
  cases d2 with
  |tup b =>
   simp only[JA]at e;split at e
   ·rename_i hc
    cases e;obtain⟨p,xs,rfl,h1,h2⟩:=zM r1;obtain⟨q,ys,rfl,h3,h4⟩:=zM r2;have l1:=h2.length;have l2:=h4.length;refine .inr (.inl ⟨p,q,xs,ys,rfl,rfl,zV zF h1,zV zF h3,by rw[l1,l2];exact JW hc,λe=>?_,λ_ e=>?_,λ_ _ p' hp=>k.tup f hp (h2.append h4)⟩)
    ·subst e
     have:a=[]:=by simpa using l1.symm
     subst this;exact k.rep f (by simpa using r2)
    ·subst e
     have:b=[]:=by simpa using l2.symm
     subst this;exact k.rep f (by simpa using r1)
   ·cases e
  |_=>cases e
 |lst a =>
  cases d2 with
  |lst b =>
   simp only[JA]at e;split at e
   ·rename_i hc
    cases e;obtain⟨p,xs,rfl,h1,h2⟩:=zJ r1;obtain⟨q,ys,rfl,h3,h4⟩:=zJ r2;have l1:=h2.length;have l2:=h4.length;exact .inr (.inr ⟨p,q,xs,ys,rfl,rfl,zF.seq h1,zF.seq h3,by rw[l1,l2];exact JW hc,λp' hp=>k.own f hp (h2.append h4)⟩)
   ·cases e
  |_=>cases e
 |_=>cases e
def GQ(C:Int->Int->Bool)(g:Int->Int->D):D->D->Option R
 | .int i,.int j=>if C i j=true then some (.val (g i j))else none
 |_,_=>none
theorem GR{C:Int->Int->Bool}{P:Int->Int->Prop}{g:Int->Int->D}{gv:Int->Int->V}(hC:∀i j,C i j=true->P i j)(hg:∀i j,flat (g i j)=true/\flV (g i j)=gv i j):ROk K mg (rI P gv) (GQ C g):=by
 intro M H Z x y d1 d2 res Q f r1 r2 e k;cases d1 with
 |int i =>
  cases d2 with
  |int j =>
   simp only[GQ]at e;split at e
   ·rename_i hc
    cases e;refine⟨i,j,zI r1,zI r2,hC i j hc,?_⟩;have:=k.flat f (hg i j).1;rw[(hg i j).2]at this;exact this
   ·cases e
  |_=>cases e
 |_=>cases e
def zBE(g:Int->Int->D):D->D->Option R
 | .int i,.int j=>some (.val (g i j))
 |_,_=>none
theorem YB{g:Int->Int->D}{gv:Int->Int->V}(hg:∀i j,flat (g i j)=true/\flV (g i j)=gv i j):ROk K mg (rI0 gv) (zBE g):=by
 intro M H Z x y d1 d2 res Q f r1 r2 e k;cases d1 with
 |int i =>
  cases d2 with
  |int j =>
   cases e;refine⟨i,j,zI r1,zI r2,?_⟩;have:=k.flat f (hg i j).1;rw[(hg i j).2]at this;exact this
  |_=>cases e
 |_=>cases e
abbrev subD:=zBE λi j=>.int (i-j)
theorem ro_sub:ROk K mg (rI0 λi j=>.int (i-j)) subD:=YB λ_ _=>⟨rfl,rfl⟩
def Big:Nat:=2^4000
theorem GS{n:Nat}(h:n<Big):n.log2<4000:=by
 by_cases h0:n=0
 ·subst h0;decide +kernel
 ·exact(Nat.log2_lt h0).mpr h
theorem vM{i:Int}(h:i.natAbs<Big):Builtin.Int.intBits i<=4000:=by
 unfold Builtin.Int.intBits;split
 ·exact zero_le _
 ·exact GS h
theorem big_mul{i j:Int}(h1:i.natAbs<Big)(h2:j.natAbs<Big):IntMulOk i j:=by
 have b1:=vM h1;have b2:=vM h2;unfold IntMulOk;have:Builtin.Int.intTooBig (((Builtin.Int.intBits i:Nat):Int)+(Builtin.Int.intBits j:Nat))=false:=by
  unfold Builtin.Int.intTooBig bitsLine;simp only[decide_eq_false_iff_not];have:(2^27:Nat)=134217728:=by decide
  omega
 rw[this,Bool.and_false];decide
def CDivB(i j:Int):Prop:=0<j/\(j<1073741824\/j.natAbs<Big)
theorem zAL:OpR X (binaryOp .FloorDiv) (rI CDivB λi j=>.int (i/j)):=opI λi j _ _ _ _ _ hc q=>by
 have h1:(0:Int)<j:=hc.1;refine PyProof.Rows.floordiv_int (by omega) (by rw[Int.fdiv_eq_ediv_of_nonneg i (by omega)];exact q) (.inl ?_);rcases hc.2 with h|h
 ·exact PyProof.noPylong_small (by omega)
 ·exact PyProof.noPylong_of_log2 (lt_of_lt_of_le (GS h) (by decide))
def CMulB(i j:Int):Prop:=CMul i j\/(i.natAbs<Big/\j.natAbs<Big)
theorem op_mulB:OpR X (binaryOp .Mult) (rI CMulB λi j=>.int (i*j)):=opI λ_ _ _ _ _ _ _ hc q=>PyProof.Rows.mul_int q (by
 rcases hc with h|h
 ·exact h.ok
 ·exact big_mul h.1 h.2)
abbrev zAM:=GQ (λ_ j=>decide (0<j/\(j<1073741824\/j.natAbs<Big))) λi j=>.int (i/j)
theorem ro_fdiv:ROk K mg (rI CDivB λi j=>.int (i/j)) zAM:=GR (λi j h=>(of_decide_eq_true h:0<j/\(j<1073741824\/j.natAbs<Big))) λ_ _=>⟨rfl,rfl⟩
abbrev zBF:=GQ (λ_ j=>decide (0<j)) λi j=>.int (i%j)
theorem ro_mod:ROk K mg (rI (λ_ j=>0<j) λi j=>.int (i%j)) zBF:=GR (λi j h=>of_decide_eq_true h) λ_ _=>⟨rfl,rfl⟩
abbrev powD:=GQ (λi j=>decide (0<=j/\j<=1000000/\i.natAbs<2^64)) λi j=>.int (i^j.toNat)
theorem ro_pow:ROk K mg (rI CPow λi j=>.int (i^j.toNat)) powD:=GR (λi j h=>(of_decide_eq_true h:0<=j/\j<=1000000/\i.natAbs<2^64)) λ_ _=>⟨rfl,rfl⟩
def Z3:D->D->Option R
 | .int i,.int j=>if((-(2^64)<i/\i<2^64)\/(-(2^64)<j/\j<2^64))\/(i.natAbs<Big/\j.natAbs<Big)then some (.val (.int (i*j)))else none
 | .tup a,.int k=>if -(2^63)<=k/\k<2^63/\a.length*k.toNat<=cap then some (.val (.tup (replicate k.toNat a).flatten))else none
 |_,_=>none
def rMulD(K:PySem.W.Frag):R2:=λx y H Q=>rI CMulB (λi j=>.int (i*j)) x y H Q\/rRepT K x y H Q
theorem op_mulD:OpR X (binaryOp .Mult) (rMulD X.K):=op_mulB.or op_repT
theorem ro_mul:ROk K mg (rMulD K) Z3:=by
 intro M H Z x y d1 d2 res Q f r1 r2 e k;cases d1 with
 |int i =>
  cases d2 with
  |int j =>
   simp only[Z3]at e;split at e
   ·rename_i hc
    cases e;exact .inl ⟨i,j,zI r1,zI r2,hc,k.flat f rfl⟩
   ·cases e
  |_=>cases e
 |tup a =>
  cases d2 with
  |int n =>
   simp only[Z3]at e;split at e
   ·rename_i hc
    cases e;obtain⟨p,xs,rfl,h1,h2⟩:=zM r1;have l1:=h2.length;refine .inr ⟨p,n,xs,rfl,zI r2,zV zF h1,hc.1,hc.2.1,by rw[l1];exact JW hc.2.2,λe=>?_,λp' hp=>k.tup f hp (h2.flatten _)⟩;refine k.rep f ?_;rcases e with e|e
    ·subst e
     have:a=[]:=by simpa using l1.symm
     subst this;simpa using r1
    ·subst e
     simpa using r1
   ·cases e
  |_=>cases e
 |_=>cases e
abbrev ltD:=zBE λi j=>.bl (decide (i<j))
theorem ro_lt:ROk K mg (rI0 λi j=>.bl (decide (i<j))) ltD:=YB λ_ _=>⟨rfl,rfl⟩
abbrev leD:=zBE λi j=>.bl (decide (i<=j))
theorem ro_le:ROk K mg (rI0 λi j=>.bl (decide (i<=j))) leD:=YB λ_ _=>⟨rfl,rfl⟩
abbrev gtD:=zBE λi j=>.bl (decide (j<i))
theorem ro_gt:ROk K mg (rI0 λi j=>.bl (decide (j<i))) gtD:=YB λ_ _=>⟨rfl,rfl⟩
abbrev geD:=zBE λi j=>.bl (decide (j<=i))
theorem ro_ge:ROk K mg (rI0 λi j=>.bl (decide (j<=i))) geD:=YB λ_ _=>⟨rfl,rfl⟩
def eqF:D->D->Option R
 | .int i,.int j=>some (.val (.bl (decide (i=j))))
 | .bl i,.bl j=>some (.val (.bl (decide (i=j))))
 | .str i,.str j=>some (.val (.bl (decide (i=j))))
 |_,_=>none
def neF:D->D->Option R
 | .int i,.int j=>some (.val (.bl (!decide (i=j))))
 | .bl i,.bl j=>some (.val (.bl (!decide (i=j))))
 | .str i,.str j=>some (.val (.bl (!decide (i=j))))
 |_,_=>none
theorem vint{i j:Int}:decide (V.int i=V.int j)=decide (i=j):=by simp
theorem vbl{i j:Bool}:decide (V.bl i=V.bl j)=decide (i=j):=by simp
theorem vstr{i j:Str}:decide (V.str i=V.str j)=decide (i=j):=by simp
theorem ro_eq:ROk K mg rEq eqF:=by
 intro M H Z x y d1 d2 res Q f r1 r2 e k;cases d1<;>cases d2<;>cases e
 ·rw[yc r1,yc r2];refine⟨rfl,?_⟩;rw[vbl];exact k.flat f rfl
 ·rw[zI r1,zI r2];refine⟨rfl,?_⟩;rw[vint];exact k.flat f rfl
 ·rw[jF r1,jF r2];refine⟨rfl,?_⟩;rw[vstr];exact k.flat f rfl
theorem ro_ne:ROk K mg rNe neF:=by
 intro M H Z x y d1 d2 res Q f r1 r2 e k;cases d1<;>cases d2<;>cases e
 ·rw[yc r1,yc r2];refine⟨rfl,?_⟩;rw[vbl];exact k.flat f rfl
 ·rw[zI r1,zI r2];refine⟨rfl,?_⟩;rw[vint];exact k.flat f rfl
 ·rw[jF r1,jF r2];refine⟨rfl,?_⟩;rw[vstr];exact k.flat f rfl
def inF(neg:Bool)(d:D):D->Option R
 | .tup ds=>if flat d=true/\ds.all flat=true then some (.val (.bl (if neg then !inV (flV d) (ds.map flV)else inV (flV d) (ds.map flV))))else none
 | .lst ds=>if flat d=true/\ds.all flat=true then some (.val (.bl (if neg then !inV (flV d) (ds.map flV)else inV (flV d) (ds.map flV))))else none
 |_=>none
theorem YC{H:Hp}:∀{ds:List D} {xs:List V},ds.all flat=true->Reps K mg H ds xs->xs=ds.map flV
 | [],_,_,h=>by simp only[Reps]at h;subst h;rfl
 |d::ds,_,hf,h=>by
  simp only[Reps]at h;obtain⟨v,r,rfl,h1,h2⟩:=h;simp only[all_cons,Bool.and_eq_true]at hf;rw[zN hf.1 h1,YC hf.2 h2];rfl
theorem zq{d:D}(h:flat d=true):wA (flV d)=true:=by cases d<;>simp[flat]at h<;>rfl
theorem YD:∀{ds:List D},ds.all flat=true->(ds.map flV).all wA=true
 | [],_=>rfl
 |d::ds,h=>by
  simp only[all_cons,Bool.and_eq_true]at h;simp only[map_cons,all_cons,Bool.and_eq_true];exact⟨zq h.1,YD h.2⟩
theorem ro_in{neg:Bool}:ROk K mg (rIn K neg) (inF neg):=by
 intro M H Z x y d1 d2 res Q f r1 r2 e k;cases d2 with
 |tup ds =>
  simp only[inF]at e;split at e
  ·rename_i hc
   cases e;obtain⟨p,xs,rfl,h1,h2⟩:=zM r2;rw[zN hc.1 r1];have:=YC hc.2 h2;subst this;exact⟨p,_,rfl,.inr (zV zF h1),zq hc.1,YD hc.2,k.flat f rfl⟩
  ·cases e
 |lst ds =>
  simp only[inF]at e;split at e
  ·rename_i hc
   cases e;obtain⟨p,xs,rfl,h1,h2⟩:=zJ r2;rw[zN hc.1 r1];have:=YC hc.2 h2;subst this;exact⟨p,_,rfl,.inl (zF.seq h1),zq hc.1,YD hc.2,k.flat f rfl⟩
  ·cases e
 |_=>cases e
def ixD:D->D->Option R
 | .tup ds,.int i=>(atI ds i).map .val
 | .lst ds,.int i=>(atI ds i).map .val
 |_,_=>none
theorem Jt{H:Hp}{ds:List D}{xs:List V}{i:Int}{d:D}(h:Reps K mg H ds xs)(e:atI ds i=some d):∃v,atI xs i=some v/\Rep K mg H d v:=by
 unfold atI at e ⊢;have hl:=h.length;rw[hl];cases hj:ixN ds.length i with
 |none=>rw[hj]at e;cases e
 |some j =>
  rw[hj]at e;exact h.get' e
theorem ro_ix:ROk K mg (λx y H Q=>rIxL K x y H Q\/rIxT K x y H Q) ixD:=by
 intro M H Z x y d1 d2 res Q f r1 r2 e k;cases d1 with
 |tup ds =>
  cases d2 with
  |int i =>
   simp only[ixD]at e;cases ea:atI ds i with
   |none=>rw[ea]at e;cases e
   |some d =>
    rw[ea]at e;cases e;obtain⟨p,xs,rfl,h1,h2⟩:=zM r1;obtain⟨v,e1,e2⟩:=Jt h2 ea;exact .inr ⟨p,xs,i,v,rfl,zI r2,zV zF h1,e1,k.rep f e2⟩
  |_=>cases e
 |lst ds =>
  cases d2 with
  |int i =>
   simp only[ixD]at e;cases ea:atI ds i with
   |none=>rw[ea]at e;cases e
   |some d =>
    rw[ea]at e;cases e;obtain⟨p,xs,rfl,h1,h2⟩:=zJ r1;obtain⟨v,e1,e2⟩:=Jt h2 ea;exact .inl ⟨p,xs,i,v,rfl,zI r2,zF.seq h1,e1,k.rep f e2⟩
  |_=>cases e
 |_=>cases e
theorem ix_both:IxR X (λx y H Q=>rIxL X.K x y H Q\/rIxT X.K x y H Q):=GF.or ix_tup
def lenD:List D->Option R
 | [.tup ds]=>some (.val (.int ds.length))
 | [.lst ds]=>some (.val (.int ds.length))
 |_=>none
theorem wB{H:Hp}{d:D}{xs:List V}(h:Reps K mg H [d] xs):∃v,xs=[v]/\Rep K mg H d v:=by
 simp only[Reps]at h;obtain⟨v,r,rfl,h1,rfl⟩:=h;exact⟨v,rfl,h1⟩
theorem reps2{H:Hp}{d e:D}{xs:List V}(h:Reps K mg H [d,e] xs):∃v w,xs=[v,w]/\Rep K mg H d v/\Rep K mg H e w:=by
 simp only[Reps]at h;obtain⟨v,r,rfl,h1,w,r',rfl,h2,rfl⟩:=h;exact⟨v,w,rfl,h1,h2⟩
theorem co_len:COk K mg (λxs H Q=>∃p ys,xs=[.ref p]/\(SqL K H p ys\/SqT K H p ys)/\Q (.int ys.length) H) lenD:=by
 intro M H Z xs ds res Q f r e k
 match ds,e with
 | [.tup ds],e =>
  cases e;obtain⟨v,rfl,h⟩:=wB r;obtain⟨p,ys,rfl,h1,h2⟩:=zM h;refine⟨p,ys,rfl,.inr (zV zF h1),?_⟩;rw[h2.length];exact k.flat f rfl
 | [.lst ds],e =>
  cases e;obtain⟨v,rfl,h⟩:=wB r;obtain⟨p,ys,rfl,h1,h2⟩:=zJ h;refine⟨p,ys,rfl,.inl (zF.seq h1),?_⟩;rw[h2.length];exact k.flat f rfl
def Qo:List D->Option R
 | [.int i,.int j]=>some (.val (.int (if j > i then j else i)))
 |_=>none
theorem co_max:COk K mg (λxs H Q=>∃i j,xs=[.int i,.int j]/\Q (.int (if j > i then j else i)) H) Qo:=by
 intro M H Z xs ds res Q f r e k
 match ds,e with
 | [.int i,.int j],e =>
  cases e;obtain⟨v,w,rfl,h1,h2⟩:=reps2 r;exact⟨i,j,by rw[zI h1,zI h2],k.flat f rfl⟩
def intF:List D->Option R
 | [.int i]=>some (.val (.int i))
 | [.bl b]=>some (.val (.int (if b then 1 else 0)))
 |_=>none
theorem co_int:COk K mg (λxs H Q=>(∃i,xs=[.int i]/\Q (.int i) H)\/∃k,xs=[.bl k]/\Q (.int (if k then 1 else 0)) H) intF:=by
 intro M H Z xs ds res Q f r e k
 match ds,e with
 | [.int i],e =>
  cases e;obtain⟨v,rfl,h1⟩:=wB r;exact .inl ⟨i,by rw[zI h1],k.flat f rfl⟩
 | [.bl b],e =>
  cases e;obtain⟨v,rfl,h1⟩:=wB r;exact .inr ⟨b,by rw[yc h1],k.flat f rfl⟩
def zBG:List D->Option R
 | [.lst ds]=>some (.val (.tup ds))
 | [.tup ds]=>some (.val (.tup ds))
 |_=>none
theorem zAN:COk K mg (λxs H Q=>∃p ys,xs=[.ref p]/\((SqL K H p ys/\∀l,H l=none->Q (.ref l) (upd H l (.tup ys)))\/(SqT K H p ys/\Q (.ref p) H))) zBG:=by
 intro M H Z xs ds res Q f r e k
 match ds,e with
 | [.lst ds],e =>
  cases e;obtain⟨v,rfl,h⟩:=wB r;obtain⟨p,ys,rfl,h1,h2⟩:=zJ h;exact⟨p,ys,rfl,.inl ⟨zF.seq h1,λl hl=>k.tup f hl h2⟩⟩
 | [.tup ds],e =>
  cases e;obtain⟨v,rfl,h⟩:=wB r;have h':=h;obtain⟨p,ys,rfl,h1,h2⟩:=zM h;exact⟨p,ys,rfl,.inr ⟨zV zF h1,k.rep f h'⟩⟩
def listD:List D->Option R
 | [.lst ds]=>some (.own ds)
 | [.tup ds]=>some (.own ds)
 |_=>none
theorem co_list:COk K mg (λxs H Q=>∃p ys,xs=[.ref p]/\(SqL K H p ys\/SqT K H p ys)/\∀l,H l=none->Q (.ref l) (upd H l (.lst ys))) listD:=by
 intro M H Z xs ds res Q f r e k
 match ds,e with
 | [.lst ds],e =>
  cases e;obtain⟨v,rfl,h⟩:=wB r;obtain⟨p,ys,rfl,h1,h2⟩:=zJ h;exact⟨p,ys,rfl,.inl (zF.seq h1),λl hl=>k.own f hl h2⟩
 | [.tup ds],e =>
  cases e;obtain⟨v,rfl,h⟩:=wB r;obtain⟨p,ys,rfl,h1,h2⟩:=zM h;exact⟨p,ys,rfl,.inr (zV zF h1),λl hl=>k.own f hl h2⟩
def jn:List D->Option (List Bool)
 | []=>some []
 | .bl b::ds=>(jn ds).map (b::·)
 |_=>none
theorem Yn{H:Hp}:∀{ds:List D} {xs:List V} {bs:List Bool},jn ds=some bs->Reps K mg H ds xs->xs=bs.map V.bl
 | [],_,_,e,h=>by cases e;simp only[Reps]at h;subst h;rfl
 |d::ds,_,bs,e,h=>by
  simp only[Reps]at h;obtain⟨v,r,rfl,h1,h2⟩:=h;cases d with
  |bl b =>
   simp only[jn]at e;cases eb:jn ds with
   |none=>rw[eb]at e;cases e
   |some cs =>
    rw[eb]at e;cases e;rw[yc h1,Yn eb h2];rfl
  |_=>cases e
def allD:List D->Option R
 | [.lst ds]=>(jn ds).map λbs=>.val (.bl (bs.all id))
 |_=>none
theorem co_all:COk K mg (λxs H Q=>∃(p:Addr) (bs:List Bool),xs=[.ref p]/\SqL K H p (bs.map V.bl)/\Q (.bl (bs.all id)) H) allD:=by
 intro M H Z xs ds res Q f r e k
 match ds,e with
 | [.lst ds],e =>
  simp only[allD]at e;cases eb:jn ds with
  |none=>rw[eb]at e;cases e
  |some bs =>
   rw[eb]at e;cases e;obtain⟨v,rfl,h⟩:=wB r;obtain⟨p,ys,rfl,h1,h2⟩:=zJ h;have:=Yn eb h2;subst this;exact⟨p,bs,rfl,zF.seq h1,k.flat f rfl⟩
end
end DV
namespace DV
open PySem L2
abbrev MO:=zL->Out (Option Int×zL)
def tMO(X:Cx)(m:MO):TO:=λσ H Q=>∃M E,E.length=σ.length/\FR X.K X.mg M H (σ.zip E)/\match m E with
 | .stuck=>False
 | .ok (b,E')=>∀H',Got X.K X.mg M σ E H [] σ E' H' []->Q b H'
 | .exc x E'=>∀H',Got X.K X.mg M σ E H [] σ E' H' []->XE X σ H' x
section
variable{X:Cx}{K:PySem.W.Frag}{mg:Str->Option Value}{σ:St}{M:Addr->Prop}{E:zL}{H:Hp}{T0:Fz}
theorem GT{m:MO}{Q:Option Int->Hp->Prop}(hl:E.length=σ.length)(h:FR X.K X.mg M H (T0++σ.zip E))
  (k:match m E with | .stuck=>False | .ok (b,E')=>∀H',Got X.K X.mg M σ E H T0 σ E' H' []->Q b H' | .exc x E'=>∀H',Got X.K X.mg M σ E H T0 σ E' H' []->XE X σ H' x):tMO X m σ H Q:=by
 refine⟨Mo M T0,E,hl,h.inner,?_⟩;cases e:m E with
 |stuck=>rw[e]at k;exact k
 |ok a=>rw[e]at k;exact λH' g=>k H' (g.outer h)
 |exc x E'=>rw[e]at k;exact λH' g=>k H' (g.outer h)
abbrev OOk(X:Cx)(e:Option Expr)(m:MO):Prop:=PO X e (tMO X m)
theorem zBH{e:Option Expr}{t t':TO}(h:PO X e t)(i:∀σ H Q,t' σ H Q->t σ H Q):PO X e t':=λpins s σ H Q I q=>h pins s σ H Q I (i σ H Q q)
def oNone:MO:=λE=>.ok (none,E)
def zAO(m:ME):MO:=λE=>match m E with
 | .ok (.val (.int i),E1)=>.ok (some i,E1)
 | .exc x E1=>.exc x E1
 |_=>.stuck
theorem oo_none:OOk X none oNone:=zBH po_none λσ H Q ⟨M,E,hl,fr,k⟩=>k H (Got.refl (T0:=[]) hl fr)
theorem oo_some{e:Expr}{m:ME}(h:EOk X e m):OOk X (some e) (zAO m):=zBH (po_some h) λσ H Q ⟨M,E,hl,fr,k⟩=>by
 unfold zAO at k;refine zt (T0:=[]) hl fr ?_;cases ea:m E with
 |stuck=>rw[ea]at k;exact k
 |exc x E1=>rw[ea]at k;exact k
 |ok p =>
  obtain⟨r,E1⟩:=p;rw[ea]at k;cases r with
  |own ds=>exact k.elim
  |val d =>
   cases d with
   |int i =>
    intro v H' g;exact⟨i,zI g.rep,k H' g.dropAll⟩
   |_=>exact k.elim
def eSl(f:D->Option Int->Option Int->Option R)(a:ME)(lo hi:MO):ME:=λE=>match a E with
 | .stuck=>.stuck
 | .exc x E1=>.exc x E1
 | .ok (r,E1)=>match lo E1 with
  | .stuck=>.stuck
  | .exc x E2=>.exc x E2
  | .ok (l,E2)=>match hi E2 with
   | .stuck=>.stuck
   | .exc x E3=>.exc x E3
   | .ok (u,E3)=>match f r.d l u with
    |some r=>.ok (r,E3)
    |none=>.stuck
def y4(ds:List D)(lo hi:Option Int):List D:=(ds.drop (HT.sIx ds.length 0 lo)).take (HT.sIx ds.length ds.length hi-HT.sIx ds.length 0 lo)
def slD:D->Option Int->Option Int->Option R
 | .tup ds,lo,hi=>some (.val (.tup (y4 ds lo hi)))
 | .lst ds,lo,hi=>some (.own (y4 ds lo hi))
 |_,_,_=>none
theorem vN{ds:List D}{xs:List V}(h:Reps K mg H ds xs)(lo hi:Option Int):Reps K mg H (y4 ds lo hi) (Q6 xs lo hi):=by
 unfold y4 Q6;rw[h.length];exact(h.drop _).take _
theorem sl_run{a:ME}{lo hi:MO}{Q:VK}(h:tM X (eSl slD a lo hi) σ H Q):tSl (λx l u H Q=>rSlTT X.K x l u H Q\/rSlL X.K x l u H Q) (tM X a) (tMO X lo) (tMO X hi) σ H Q:=by
 obtain⟨M,E,hl,fr,k⟩:=h;unfold eSl at k;refine zt (T0:=[]) hl fr ?_;cases ea:a E with
 |stuck=>rw[ea]at k;exact k
 |exc x E1=>rw[ea]at k;exact λH' g=>k H' g
 |ok p =>
  obtain⟨r1,E1⟩:=p;rw[ea]at k;intro x H1 g1;refine GT (T0:=[(some x,r1.slot)]) g1.len g1.fr ?_;dsimp only at k;cases eb:lo E1 with
  |stuck=>rw[eb]at k;exact k
  |exc x E2=>rw[eb]at k;exact λH' g=>k H' (g1.trans' g).dropAll
  |ok p =>
   obtain⟨l,E2⟩:=p;rw[eb]at k;intro H2 g2;have g12:=g1.trans' g2;refine GT (T0:=[(some x,r1.slot)]) g12.len g12.fr ?_;dsimp only at k;cases ec:hi E2 with
   |stuck=>rw[ec]at k;exact k
   |exc x E3=>rw[ec]at k;exact λH' g=>k H' (g12.trans' g).dropAll
   |ok p =>
    obtain⟨u,E3⟩:=p;rw[ec]at k;intro H3 g3;have g:=g12.trans' g3;have rx:=g.rep;dsimp only at k;have f:=g.frame;cases ed:r1.d with
    |tup ds =>
     rw[ed]at k rx;have k':Kt X.K X.mg M H3 (σ.zip E3) (.val (.tup (y4 ds l u))) Q:=λv H' f' s'=>k v H' (g.more (T:=[(some v,_)]) f' s')
     obtain⟨p,xs,rfl,h1,h2⟩:=zM rx;refine .inl ⟨p,xs,rfl,zV zF h1,λhw=>k'.rep f ?_,λ_ p' hp=>k'.tup f hp (vN h2 l u)⟩;have:y4 ds l u=ds:=by
      have hl:=h2.length;rw[hl]at hw;unfold y4;rw[hw.1,hw.2];simp
     rw[this];exact rx
    |lst ds =>
     rw[ed]at k rx;have k':Kt X.K X.mg M H3 (σ.zip E3) (.own (y4 ds l u)) Q:=λv H' f' s'=>k v H' (g.more (T:=[(some v,_)]) f' s')
     obtain⟨p,xs,rfl,h1,h2⟩:=zJ rx;exact .inr ⟨p,xs,rfl,zF.seq h1,λp' hp=>k'.own f hp (vN h2 l u)⟩
    |_=>rw[ed]at k;exact k.elim
theorem ok_sl{a:Expr}{lo hi:Option Expr}{ma:ME}{ml mh:MO}{p2 pos:Pos}(ha:EOk X a ma)(hl:OOk X lo ml)(hh:OOk X hi mh):EOk X (.Subscript a (.Slice lo hi none p2) pos) (eSl slD ma ml mh) :=
 zy (Q5 (sl_tupT.or sl_list) ha hl hh) λσ H Q=>sl_run
def tyD:D->Option String
 | .non=>some "NoneType"
 | .bl _=>some "bool"
 | .int _=>some "int"
 | .str _=>some "str"
 | .tup _=>some "tuple"
 | .lst _=>some "list"
 | .dic=>some "dict"
 | .fn _=>none
 | .exn _=>none
def Z4(t T:String):Bool:=t==T||(t == "bool"&&T == "int")
theorem zAP{T:String}(hk:∀t∈["NoneType","bool","int","str","tuple","list","dict"],kitOne X.K (.type t) (.type T)=some (Z4 t T)) :
  y1 X (.builtin "isinstance") (λxs H Q=>∃x d t,xs=[x,.ty T]/\Rep X.K X.mg H d x/\tyD d=some t/\Q (.bl (Z4 t T)) H):=by
 intro pins s σ H xs us Q I r h;obtain⟨x,d,t,rfl,rd,et,q⟩:=h;obtain⟨u,w',rfl,rx,ry⟩:=vals2 r;cases (show w'=Value.type T from ry);have fin:∀tk,EP X pins σ Q (.bool (Z4 t T)) {s with toks:=tk}:=λtk=>⟨.bl _,H,I.tok tk,rfl,q⟩
 cases d with
 |non=>cases et;rw[ym rd]at rx;cases (show u=Value.none from rx);exact kia_one PySem.W.kitx_none I.kIn True.intro (hk _ (by simp)) (λz=>nomatch z) fin
 |bl b=>cases et;rw[yc rd]at rx;cases (show u=Value.bool b from rx);exact kia_one PySem.W.kitx_bool I.kIn True.intro (hk _ (by simp)) (λz=>nomatch z) fin
 |int i=>cases et;rw[zI rd]at rx;obtain⟨t,q⟩:=(show ∃t,u=Value.int i t from rx);cases q;exact kia_one PySem.W.kitx_int I.kIn True.intro (hk _ (by simp)) (λz=>nomatch z) fin
 |str y=>cases et;rw[jF rd]at rx;obtain⟨t,q⟩:=(show ∃t,u=Value.str y t from rx);cases q;exact kia_one PySem.W.kitx_str I.kIn True.intro (hk _ (by simp)) (λz=>nomatch z) fin
 |tup ds =>
  cases et;obtain⟨a,xs,rfl,h1,_⟩:=zM rd;cases (show u=Value.ref a from rx);obtain⟨its,_,p,_⟩:=I.tuple h1;obtain⟨o,e1,e2,_⟩:=p;exact kia_one PySem.W.kitx_tuple I.kIn ⟨o,e1,e2⟩ (hk _ (by simp)) (λz=>nomatch z) fin
 |lst ds =>
  cases et;obtain⟨a,xs,rfl,h1,_⟩:=zJ rd;cases (show u=Value.ref a from rx);obtain⟨its,_,p,_⟩:=I.list h1;obtain⟨o,n,e1,e2,_⟩:=p;exact kia_one PySem.W.kitx_list I.kIn ⟨o,e1,e2⟩ (hk _ (by simp)) (λz=>nomatch z) fin
 |dic =>
  cases et;simp only[Rep]at rd;obtain⟨a,rfl,e⟩:=rd;cases (show u=Value.ref a from rx);obtain⟨_,_,vs,_,p⟩:=(show jR X.prog X.w H s.heap a (.dK [])from I.hok a _ e);obtain⟨o,es,ep,h1,h2,_⟩:=p;exact kia_one PySem.W.kitx_dict I.kIn ⟨o,h1,h2.1⟩ (hk _ (by simp)) (λz=>nomatch z) fin
 |fn x=>cases et
 |exn x=>cases et
def eIs(T:String)(m:ME):ME:=λE=>match m E with
 | .stuck=>.stuck
 | .exc x E1=>.exc x E1
 | .ok (r,E1)=>match tyD r.d with
  |some t=>.ok (.val (.bl (Z4 t T)),E1)
  |none=>.stuck
theorem ok_is{T:String}{a:Expr}{m:ME}{x:Str}{p p1 pos:Pos}(hk:∀t∈["NoneType","bool","int","str","tuple","list","dict"],kitOne X.K (.type t) (.type T)=some (Z4 t T))(hg:Gl X "isinstance")(hm:X.mg "isinstance"=none)
  (hgT:Gl X x) (hmT:X.mg x=none) (hvT:bootBuiltins x=some (.type T)) (ha:EOk X a m) (hv:bootBuiltins "isinstance"=some (.builtin "isinstance")) (hn:x≠"__name__":=by decide) (hd:(x==("__debug__":Str))=false:=by decide)
  (he:zW a=false:=by rfl) :
  EOk X (.Call (.Name "isinstance" p) [a,.Name x p1] [] pos) (eIs T m):=by
 refine zy (vI (zAP hk) hg hm hv (JB ha (JB (pe_bltn (v:=.ty T) hgT hmT hvT rfl hn hd) vG (zd rfl)) (zd he)) (by decide) (by decide) (zd he) (wk rfl)) λσ H Q ⟨M,E,hl,fr,k⟩=>?_
 unfold eIs at k;refine zt (T0:=[]) hl fr ?_;cases ea:m E with
 |stuck=>rw[ea]at k;exact k
 |exc x E1=>rw[ea]at k;exact k
 |ok pr =>
  obtain⟨r,E1⟩:=pr;rw[ea]at k;intro v H' g;dsimp only at k;cases et:tyD r.d with
  |none=>rw[et]at k;exact k.elim
  |some t =>
   rw[et]at k;exact⟨v,r.d,t,rfl,g.rep.mono zF,et,k _ H' (g.flat (d:=.bl (Z4 t T)) rfl)⟩
inductive Fl where
 |nx
 |ret (r:R)
 |bk
 |ct
 deriving Inhabited
abbrev MS:=zL->Out (Fl×zL)
def KS(X:Cx)(M:Addr->Prop)(σ:St)(E:zL)(H:Hp)(T0:Fz)(D:Ends):Out (Fl×zL)->Prop
 | .stuck=>False
 | .ok (.nx,E')=>∀σ' H',Got X.K X.mg M σ E H T0 σ' E' H' []->D.nx σ' H'
 | .ok (.bk,E')=>∀σ' H',Got X.K X.mg M σ E H T0 σ' E' H' []->D.bk σ' H'
 | .ok (.ct,E')=>∀σ' H',Got X.K X.mg M σ E H T0 σ' E' H' []->D.ct σ' H'
 | .ok (.ret r,E')=>∀v σ' H',Got X.K X.mg M σ E H T0 σ' E' H' [(some v,r.slot)]->D.rt v H'
 | .exc x E'=>∀σ' H',Got X.K X.mg M σ E H T0 σ' E' H' []->XE X σ' H' x
def tS(X:Cx)(m:MS):TS:=λD σ H=>∃M E,E.length=σ.length/\FR X.K X.mg M H (σ.zip E)/\KS X M σ E H [] D (m E)
abbrev SOk(X:Cx)(st:Stmt)(m:MS):Prop:=PS X st (tS X m)
abbrev GU(X:Cx)(st:List Stmt)(m:MS):Prop:=PSs X st (tS X m)
theorem vO{m:MS}{D:Ends}(hl:E.length=σ.length)(h:FR X.K X.mg M H (T0++σ.zip E))
  (k:KS X M σ E H T0 D (m E)):tS X m D σ H:=by
 refine⟨Mo M T0,E,hl,h.inner,?_⟩;cases e:m E with
 |stuck=>rw[e]at k;exact k
 |ok a =>
  obtain⟨fl,E'⟩:=a;rw[e]at k;cases fl with
  |nx=>exact λσ' H' g=>k σ' H' (g.outer h)
  |bk=>exact λσ' H' g=>k σ' H' (g.outer h)
  |ct=>exact λσ' H' g=>k σ' H' (g.outer h)
  |ret r=>exact λv σ' H' g=>k v σ' H' (g.outer h)
 |exc x E'=>rw[e]at k;exact λσ' H' g=>k σ' H' (g.outer h)
def Qp:MS:=λE=>.ok (.nx,E)
def uS(a b:MS):MS:=λE=>match a E with
 | .ok (.nx,E1)=>b E1
 |o=>o
theorem sk_nil:GU X [] Qp:=GM pss_nil λD σ H ⟨M,E,hl,fr,k⟩=>k σ H (Got.refl (T0:=[]) hl fr)
theorem sk_one{st:Stmt}{m:MS}(h:SOk X st m):GU X [st] m:=pss_one h
theorem seq_run{a b:MS}{D:Ends}(h:tS X (uS a b) D σ H):tSeq (tS X a) (tS X b) D σ H:=by
 obtain⟨M,E,hl,fr,k⟩:=h;unfold uS at k;refine vO (T0:=[]) hl fr ?_;cases ea:a E with
 |stuck=>rw[ea]at k;exact k
 |exc x E1=>rw[ea]at k;exact k
 |ok p =>
  obtain⟨fl,E1⟩:=p;rw[ea]at k;cases fl with
  |bk=>exact k
  |ct=>exact k
  |ret r=>exact k
  |nx =>
   intro σ1 H1 g1;refine vO (T0:=[]) g1.len g1.fr ?_;dsimp only at k;cases eb:b E1 with
   |stuck=>rw[eb]at k;exact k
   |exc x E2=>rw[eb]at k;exact λσ' H' g=>k σ' H' (g1.trans' g)
   |ok p =>
    obtain⟨fl2,E2⟩:=p;rw[eb]at k;cases fl2 with
    |nx=>exact λσ' H' g=>k σ' H' (g1.trans' g)
    |bk=>exact λσ' H' g=>k σ' H' (g1.trans' g)
    |ct=>exact λσ' H' g=>k σ' H' (g1.trans' g)
    |ret r=>exact λv σ' H' g=>k v σ' H' (g1.trans' g)
theorem sk_cons{st:Stmt}{ji:List Stmt}{a b:MS}(h1:SOk X st a)(h2:GU X ji b):GU X (st::ji) (uS a b):=GM (Qu h1 h2) λD σ H=>seq_run
def sIf(c:MT)(a b:MS):MS:=λE=>match c E with
 | .ok (true,E1)=>a E1
 | .ok (false,E1)=>b E1
 | .exc x E1=>.exc x E1
 | .stuck=>.stuck
theorem tS_go{m:MS}{D:Ends}{σ1:St}{E1:zL}{H1:Hp}(g1:Got X.K X.mg M σ E H [] σ1 E1 H1 [])
  (k:match m E1 with
   | .stuck=>False
   | .ok (.nx,E')=>∀σ' H',Got X.K X.mg M σ E H [] σ' E' H' []->D.nx σ' H'
   | .ok (.bk,E')=>∀σ' H',Got X.K X.mg M σ E H [] σ' E' H' []->D.bk σ' H'
   | .ok (.ct,E')=>∀σ' H',Got X.K X.mg M σ E H [] σ' E' H' []->D.ct σ' H'
   | .ok (.ret r,E')=>∀v σ' H',Got X.K X.mg M σ E H [] σ' E' H' [(some v,r.slot)]->D.rt v H'
   | .exc x E'=>∀σ' H',Got X.K X.mg M σ E H [] σ' E' H' []->XE X σ' H' x):tS X m D σ1 H1:=by
 refine vO (T0:=[]) g1.len g1.fr ?_;cases eb:m E1 with
 |stuck=>rw[eb]at k;exact k
 |exc x E2=>rw[eb]at k;exact λσ' H' g=>k σ' H' (g1.trans' g)
 |ok p =>
  obtain⟨fl2,E2⟩:=p;rw[eb]at k;cases fl2 with
  |nx=>exact λσ' H' g=>k σ' H' (g1.trans' g)
  |bk=>exact λσ' H' g=>k σ' H' (g1.trans' g)
  |ct=>exact λσ' H' g=>k σ' H' (g1.trans' g)
  |ret r=>exact λv σ' H' g=>k v σ' H' (g1.trans' g)
theorem sif_run{c:MT}{a b:MS}{D:Ends}(h:tS X (sIf c a b) D σ H):tIfS (tMT X c) (tS X a) (tS X b) D σ H:=by
 obtain⟨M,E,hl,fr,k⟩:=h;unfold sIf at k;refine Y7 (T0:=[]) hl fr ?_;cases ea:c E with
 |stuck=>rw[ea]at k;exact k
 |exc x E1=>rw[ea]at k;exact λH' g=>k σ H' g
 |ok p =>
  obtain⟨t,E1⟩:=p;rw[ea]at k;intro H1 g1;cases t with
  |true=>exact iteT (tS_go g1 k)
  |false=>exact iteF (tS_go g1 k)
theorem sk_if{c:Expr}{a b:List Stmt}{mc:MT}{ma mb:MS}{pos:Pos}(hc:TOk X c mc)(ha:GU X a ma)(hb:GU X b mb):SOk X (.If c a b pos) (sIf mc ma mb):=jk (ps_if hc ha hb) λD σ H=>sif_run
def Yb(i:Nat)(r:R)(E:zL):Out zL:=match E[i]? with
 |none=>.stuck
 |some (.par _)=>.stuck
 |some _=>.ok (E.set i r.slot)
def sSet(i:Nat)(m:ME):MS:=λE=>match m E with
 | .stuck=>.stuck
 | .exc x E1=>.exc x E1
 | .ok (r,E1)=>match Yb i r E1 with
  | .ok E2=>.ok (.nx,E2)
  |_=>.stuck
theorem Wl{σ1:St}{E1 E2:zL}{H1:Hp}{i:Nat}{r:R}{v:V}(g:Got K mg M σ E H T0 σ1 E1 H1 [(some v,r.slot)])(e:Yb i r E1=.ok E2):Got K mg M σ E H T0 (σ1.set i (some v)) E2 H1 []:=by
 unfold Yb at e;cases e1:E1[i]? with
 |none=>rw[e1]at e;cases e
 |some sl =>
  rw[e1]at e;have hne:∀ds,sl≠.par ds:=λds q=>by subst q;cases e
  have e2:E2=E1.set i r.slot:=by
   cases sl with
   |par ds=>exact absurd rfl (hne ds)
   |_=>cases e;rfl
  subst e2;have hi:i<E1.length:=(List.getElem?_eq_some_iff.mp e1).1;have hl:=g.len;have hz:i<(σ1.zip E1).length:=by rw[List.length_zip];omega
  have hT:T0++((σ1.set i (some v)).zip (E1.set i r.slot))=(T0++σ1.zip E1).set (T0.length+i) (some v,r.slot):=by
   rw[Y5,List.set_append_right _ _ (by omega)];congr 2;omega
  have hz2:T0.length+i<(T0++σ1.zip E1).length:=by rw[length_append];omega
  refine⟨by simp[hl],?_,?_,?_⟩
  ·show FR K mg M H1 (T0++((σ1.set i (some v)).zip (E1.set i r.slot)))
   rw[hT];exact FR.put g.fr hz2
  ·show Step M H _ H1 (T0++((σ1.set i (some v)).zip (E1.set i r.slot)))
   rw[hT];exact Step.put g.st hz2
  ·refine g.pk.trans λj ds q=>?_
   have ne:i≠j:=λz=>by subst z;rw[e1]at q;exact hne ds (Option.some.inj q)
   exact⟨⟨ds,by rw[getElem?_set_ne ne];exact q⟩,by rw[getElem?_set_ne ne]⟩
theorem GV{i:Nat}{m:ME}{D:Ends}(h:tS X (sSet i m) D σ H):tAsg (tM X m) (Wc i) D σ H:=by
 obtain⟨M,E,hl,fr,k⟩:=h;unfold sSet at k;refine zt (T0:=[]) hl fr ?_;cases ea:m E with
 |stuck=>rw[ea]at k;exact k
 |exc x E1=>rw[ea]at k;exact λH' g=>k σ H' g
 |ok p =>
  obtain⟨r,E1⟩:=p;rw[ea]at k;intro v H' g;dsimp only at k;cases ep:Yb i r E1 with
  |stuck=>rw[ep]at k;exact k.elim
  |exc _ _=>rw[ep]at k;exact k.elim
  |ok E2 =>
   rw[ep]at k;exact k _ H' (Wl g ep)
theorem zBI{i:Nat}{x:Str}{e:Expr}{m:ME}{pos pos':Pos}(hN:X.N.Nodup)(hi:X.N[i]?=some x)(hx:Loc X.env.scope x)(he:EOk X e m)(hs:swapsWith e (some (.Name x pos')) pos.line X.env=pure false:=by rfl)
  (hf:X.fn x=true\/X.env.scope.names.lookup x=some .local:=by first|exact .inl rfl|exact .inr rfl|assumption):SOk X (.Assign [.Name x pos'] e pos) (sSet i m) :=
 jk (ps_set hN hi hx he hs hf) λD σ H=>GV
def sRet(m:ME):MS:=λE=>match m E with
 | .stuck=>.stuck
 | .exc x E1=>.exc x E1
 | .ok (r,E1)=>.ok (.ret r,E1)
theorem ret_run{m:ME}{D:Ends}(h:tS X (sRet m) D σ H):tRet (tM X m) D σ H:=by
 obtain⟨M,E,hl,fr,k⟩:=h;unfold sRet at k;refine zt (T0:=[]) hl fr ?_;cases ea:m E with
 |stuck=>rw[ea]at k;exact k
 |exc x E1=>rw[ea]at k;exact λH' g=>k σ H' g
 |ok p=>rw[ea]at k;exact λv H' g=>k v σ H' g
theorem sk_ret{e:Expr}{m:ME}{pos:Pos}(he:EOk X e m):SOk X (.Return (some e) pos) (sRet m):=jk (ps_ret he) λD σ H=>ret_run
end
end DV
namespace DV
open PySem L2
theorem y6{α β:Type}{f:α->Option β}{x y:α}(h:f y=f x):∀{l:List α} {i:Nat},l[i]?=some x->(l.set i y).filterMap f=l.filterMap f
 | [],_,e=>by simp at e
 |a::l,0,e=>by
  simp at e;subst e
  simp only[List.set_cons_zero,filterMap_cons,h]
 |a::l,i+1,e=>by
  simp at e
  simp only[List.set_cons_succ,filterMap_cons,y6 h e]
section
variable{X:Cx}{K:PySem.W.Frag}{mg:Str->Option Value}{σ:St}{M:Addr->Prop}{E:zL}{H:Hp}{T0 Z:Fz}
def Slot.put:Slot->List D->Slot
 | .own _,es=>.own es
 | .par _,es=>.par es
 |s,_=>s
theorem Y9{p:Addr}{s:Slot}{ds es:List D}(hs:s.list?=some ds):Wh (some (.ref p),s.put es)=Wh (some (.ref p),s)/\(s.put es).list?=some es:=by
 cases s<;>simp[Slot.list?]at hs<;>exact⟨rfl,rfl⟩
theorem FR.mut(h:FR K mg M H Z){i:Nat}{p:Addr}{s:Slot}{ds es:List D}{ys:List V}(hi:Z[i]?=some (some (.ref p),s))(hs:s.list?=some ds)(r:Reps K mg (Hm (Mo M Z) H) es ys) :
  FR K mg M (upd H p (.lst ys)) (Z.set i (some (.ref p),s.put es))/\Step M H Z (upd H p (.lst ys)) (Z.set i (some (.ref p),s.put es)):=by
 have eo:zz (Z.set i (some (.ref p),s.put es))=zz Z:=y6 (Y9 hs).1 hi;have em:Mo M (Z.set i (some (.ref p),s.put es))=Mo M Z:=by unfold Mo;rw[eo]
 have hp:p∈zz Z:=jS (mem_of_getElem? hi) hs rfl;obtain⟨xs0,hH,hM⟩:=h.ownAt hp;have ehm:Hm (Mo M Z) (upd H p (.lst ys))=Hm (Mo M Z) H:=by
  funext b
  unfold Hm;by_cases hb:Mo M Z b
  ·simp[hb]
  ·have:b≠p:=λe=>hb (by subst e;exact .inr hp)
   simp[hb,zg this]
 have mem:∀{q:Option V×Slot},q∈Z.set i (some (.ref p),s.put es)->q=(some (.ref p),s.put es)\/q∈Z:=λ{q} hq=>(List.mem_or_eq_of_mem_set hq).symm
 have hlt:i<Z.length:=(List.getElem?_eq_some_iff.mp hi).1;have nd2:(zz (Z.eraseIdx i)).Nodup/\p∉zz (Z.eraseIdx i):=by
  have pz:Z.Perm ((some (.ref p),s)::Z.eraseIdx i):=by
   have:=zx (some (V.ref p),s) Z i hlt;rw[Y6 hi]at this;exact this
  have nd:=(pz.filterMap Wh).nodup_iff.mp h.nd;have e:List.filterMap Wh ((some (V.ref p),s)::Z.eraseIdx i)=p::zz (Z.eraseIdx i):=by
   cases s<;>simp[Slot.list?]at hs<;>rfl
  rw[e]at nd;exact⟨(nodup_cons.mp nd).2,(nodup_cons.mp nd).1⟩
 have pz2:(Z.set i (some (.ref p),s.put es)).Perm ((some (.ref p),s.put es)::Z.eraseIdx i):=zx _ _ _ hlt;refine⟨⟨λo d q=>?_,λo s' ds' q e=>?_,by rw[eo];exact h.nd,λb q=>?_⟩,⟨by rw[em,ehm];exact JC.refl _,λb o m e=>?_⟩⟩
 ·rw[em,ehm]
  rcases mem q with q|q
  ·exfalso
   cases s<;>simp[Slot.list?]at hs<;>cases q
  ·exact h.val o d q
 ·rw[em,ehm]
  rcases mem_cons.mp (pz2.mem_iff.mp q)with q'|q'
  ·cases q'
   rw[(Y9 (p:=p) hs).2]at e;cases e;exact⟨p,ys,rfl,y3,hM,r⟩
  ·have q'':(o,s')∈Z:=(List.eraseIdx_sublist Z i).subset q'
   obtain⟨a,xs,e1,e2,e3,rr⟩:=h.own o s' ds' q'' e;have ne:a≠p:=λz=>by
    subst z;exact nd2.2 (jS q' e e1)
   exact⟨a,xs,e1,by rw[zg ne];exact e2,e3,rr⟩
 ·obtain⟨o,e⟩:=h.mal b q
  by_cases z:b=p
  ·subst z;exact⟨_,y3⟩
  ·exact⟨o,by rw[zg z];exact e⟩
 ·have ne:b≠p:=λz=>hM (by subst z;exact m)
  rw[zg ne];exact e
theorem Got.mut{σ1:St}{E1:zL}{H1:Hp}{T:Fz}(g:Got K mg M σ E H [] σ1 E1 H1 T){i:Nat}{s:Slot}{ds es:List D}{ys:List V}(hi:E1[i]?=some s)(hs:s.list?=some ds)(r:Reps K mg (Hm (Mo M (σ1.zip E1)) H1) es ys) :
  ∃p,σ1[i]?=some (some (.ref p))/\Got K mg M σ E H [] σ1 (E1.set i (s.put es)) (upd H1 p (.lst ys)) []:=by
 obtain⟨o,h1,h2⟩:=J9 g.len hi;obtain⟨p,xs,rfl,_⟩:=g.frame.own o s ds (mem_of_getElem? h2) hs;refine⟨p,h1,?_⟩;obtain⟨f,st⟩:=FR.mut g.frame h2 hs r;have e:=yO (E:=E1) (s.put es) h1;rw[<- e]at f st;refine⟨by simp[g.len],f,(g.st.weak (zC (sublist_append_right _ _))).trans st,g.pk.trans λj ds' q=>?_⟩;by_cases ej:i=j
 ·subst ej
  rw[hi]at q;cases q;have hlt:i<E1.length:=(List.getElem?_eq_some_iff.mp hi).1;exact⟨⟨es,by rw[getElem?_set_self hlt];rfl⟩,rfl⟩
 ·exact⟨⟨ds',by rw[getElem?_set_ne ej];exact q⟩,rfl⟩
theorem GW{i:Nat}{s:Slot}(hl:E.length=σ.length)(f:FR K mg M H (σ.zip E))(h:E[i]?=some s)(hs:s≠.emp):∃v,σ[i]?=some (some v):=by
 obtain⟨o,h1,h2⟩:=wR hl h;cases s with
 |emp=>exact absurd rfl hs
 |val d=>obtain⟨v,rfl,_⟩:=f.val o d h2;exact⟨v,h1⟩
 |own ds=>obtain⟨a,_,rfl,_⟩:=f.own o _ ds h2 rfl;exact⟨_,h1⟩
 |par ds=>obtain⟨a,_,rfl,_⟩:=f.own o _ ds h2 rfl;exact⟨_,h1⟩
def Jp:Option Slot->Bool
 |none=>true
 |some .emp=>true
 |_=>false
theorem Wm{o:Option Slot}(h:Jp o=false):∃s,o=some s/\s≠.emp:=by
 cases o with
 |none=>cases h
 |some s=>cases s<;>simp[Jp]at h<;>exact⟨_,rfl,by intro q;cases q⟩
def ixS:Slot->Int->Option D
 | .own ds,i=>atI ds i
 | .par ds,i=>atI ds i
 | .val (.lst ds),i=>atI ds i
 |_,_=>none
def eIxO(i:Nat)(m:ME):ME:=λE=>if Jp E[i]?=true then .stuck else match m E with
 | .stuck=>.stuck
 | .exc x E1=>.exc x E1
 | .ok (.val (.int k),E1)=>match E1[i]? with
  |some s=>match ixS s k with
   |some d=>.ok (.val d,E1)
   |none=>.stuck
  |none=>.stuck
 |_=>.stuck
theorem ixO_run{i:Nat}{m:ME}{Q:VK}(h:tM X (eIxO i m) σ H Q):tOp (rIxL X.K) (Qk i) (tM X m) σ H Q:=by
 obtain⟨M,E,hl,fr,k⟩:=h;unfold eIxO at k;cases em:Jp E[i]? with
 |true=>rw[em]at k;exact k.elim
 |false =>
  rw[em]at k;obtain⟨s,hs1,hs2⟩:=Wm em;obtain⟨v,hv⟩:=GW hl fr hs1 hs2;refine⟨v,hv,?_⟩;refine zt (T0:=[]) hl fr ?_;simp only[Bool.false_eq_true,if_false]at k;cases ea:m E with
  |stuck=>rw[ea]at k;exact k
  |exc x E1=>rw[ea]at k;exact k
  |ok p =>
   obtain⟨r,E1⟩:=p;rw[ea]at k;cases r with
   |own ds=>exact k.elim
   |val d =>
    cases d with
    |int n =>
     intro y H' g;dsimp only at k;cases e1:E1[i]? with
     |none=>rw[e1]at k;exact k.elim
     |some s1 =>
      rw[e1]at k;dsimp only at k;cases e2:ixS s1 n with
      |none=>rw[e2]at k;exact k.elim
      |some d =>
       rw[e2]at k;have f:=g.frame;have fin:∀{w:V},Rep X.K X.mg (Hm (Mo M (σ.zip E1)) H') d w->Q w H':=λ{w} rw'=>k w H' (g.more (T:=[(some w,.val d)]) (f.add rw') Step.refl.add)
       obtain⟨o,h1,h2⟩:=wR g.len e1;have ho:o=some v:=by rw[hv]at h1;exact(Option.some.inj h1).symm
       subst ho;have key:∀{ds:List D},s1.list?=some ds->atI ds n=some d->rIxL X.K v y H' Q:=λ{ds} hl1 ha=>by
        obtain⟨a,xs,ev,q1,_,q3⟩:=f.own _ s1 ds h2 hl1;cases ev;obtain⟨w,a1,a2⟩:=Jt q3 ha;exact⟨a,xs,n,w,rfl,zI g.rep,SqL.of q1,a1,fin a2⟩
       cases s1 with
       |emp=>cases e2
       |own ds=>exact key rfl e2
       |par ds=>exact key rfl e2
       |val dd =>
        cases dd with
        |lst ds =>
         obtain⟨v',ev,rr⟩:=f.val _ _ h2;cases ev;obtain⟨a,xs,rfl,q1,q2⟩:=zJ rr;obtain⟨w,a1,a2⟩:=Jt q2 e2;exact⟨a,xs,n,w,rfl,zI g.rep,zF.seq q1,a1,fin a2⟩
        |_=>cases e2
    |_=>exact k.elim
theorem ok_ixO(i:Nat){x:Str}{b:Expr}{m:ME}{p pos:Pos}(hv:PE X (.Name x p) (Qk i))(hb:EOk X b m)(hs:Y0 b):EOk X (.Subscript (.Name x p) b pos) (eIxO i m) :=
 zy (pe_ix GF hv hb hs) λσ H Q=>ixO_run
def Yo(i:Nat)(mi mv:ME):MS:=λE=>if Jp E[i]?=true then .stuck else match mv E with
 | .stuck=>.stuck
 | .exc x E1=>.exc x E1
 | .ok (r,E1)=>match mi E1 with
  | .stuck=>.stuck
  | .exc x E2=>.exc x E2
  | .ok (.val (.int k),E2)=>match E2[i]? with
   |none=>.stuck
   |some s=>match s.list? with
    |none=>.stuck
    |some ds=>match ixN ds.length k with
     |none=>.stuck
     |some j=>.ok (.nx,E2.set i (s.put (ds.set j r.d)))
  |_=>.stuck
theorem GX{i:Nat}{mi mv:ME}{D:Ends}(h:tS X (Yo i mi mv) D σ H):tAsg (tM X mv) (gSub (Qk i) (tM X mi) rSetL) D σ H:=by
 obtain⟨M,E,hl,fr,k⟩:=h;unfold Yo at k;cases em:Jp E[i]? with
 |true=>rw[em]at k;exact k.elim
 |false =>
  rw[em]at k;obtain⟨s,hs1,hs2⟩:=Wm em;obtain⟨v,hv⟩:=GW hl fr hs1 hs2;refine zt (T0:=[]) hl fr ?_;simp only[Bool.false_eq_true,if_false]at k;cases ea:mv E with
  |stuck=>rw[ea]at k;exact k
  |exc x E1=>rw[ea]at k;exact λH' g=>k σ H' g
  |ok p =>
   obtain⟨r,E1⟩:=p;rw[ea]at k;intro y H1 g1;refine⟨v,hv,?_⟩;refine zt (T0:=[(some y,r.slot)]) g1.len g1.fr ?_;dsimp only at k;cases eb:mi E1 with
   |stuck=>rw[eb]at k;exact k
   |exc x E2=>rw[eb]at k;exact λH' g=>k σ H' (g1.trans' g).dropAll
   |ok p =>
    obtain⟨r2,E2⟩:=p;rw[eb]at k;cases r2 with
    |own ds=>exact k.elim
    |val d =>
     cases d with
     |int n =>
      intro z H2 g2;have g:=g1.trans' g2;dsimp only at k;cases e1:E2[i]? with
      |none=>rw[e1]at k;exact k.elim
      |some s1 =>
       rw[e1]at k;dsimp only at k;cases e2:s1.list? with
       |none=>rw[e2]at k;exact k.elim
       |some ds =>
        rw[e2]at k;dsimp only at k;cases e3:ixN ds.length n with
        |none=>rw[e3]at k;exact k.elim
        |some j =>
         rw[e3]at k;have rp:=Got.reps (vs:=[z,y]) (rs:=[.val (.int n),r]) rfl g;simp only[List.map,Reps]at rp;obtain⟨z',_,q1,rz,y',_,q2,ry,_⟩:=rp;cases q1;cases q2;obtain⟨o,h1,h2⟩:=wR g.len e1;obtain⟨a,xs,ev,w1,_,w3⟩:=g.frame.own _ s1 ds h2 e2;subst ev;have ev:v=.ref a:=by rw[hv]at h1;exact Option.some.inj (Option.some.inj h1)
         subst ev;obtain⟨p,hp,g'⟩:=g.mut e1 e2 (w3.set j ry);have ep:p=a:=by rw[h1]at hp;cases hp;rfl
         subst ep;exact⟨p,xs,n,j,rfl,zI rz,w1,by rw[w3.length];exact e3,k σ _ g'⟩
     |_=>exact k.elim
theorem zAQ(i:Nat){x:Str}{b e:Expr}{mi mv:ME}{p p1 pos:Pos}(hv:PE X (.Name x p) (Qk i))(hb:EOk X b mi)(he:EOk X e mv)
  (ha:∀v,assign (.Subscript (.Name x p) b p1) X.env v=(do
   let ov <- holding [v] (eval (.Name x p) X.env)
   let iv <- holding [v,ov] (eval b X.env)
   standAt p1
   holding [v,ov,iv] (setItem ov iv v)
   release [v,ov,iv] []):=by intro _;rfl) (hs:swapsWithSole [.Subscript (.Name x p) b p1] e pos.line X.env=pure false:=by rfl):SOk X (.Assign [.Subscript (.Name x p) b p1] e pos) (Yo i mi mv) :=
 jk (zA3 he (pg_sub hv hb Q7 ha) hs) λD σ H=>GX
def sApp(i:Nat)(m:ME):MS:=λE=>match E[i]? with
 |none=>.stuck
 |some s0=>match s0.list? with
  |none=>.stuck
  |some _=>match m E with
   | .stuck=>.stuck
   | .exc x E1=>.exc x E1
   | .ok (r,E1)=>match E1[i]? with
    |none=>.stuck
    |some s=>match s.list? with
     |none=>.stuck
     |some ds=>if ds.length<cap then .ok (.nx,E1.set i (s.put (ds++[r.d])))else .stuck
theorem app_run{i:Nat}{m:ME}{D:Ends}(h:tS X (sApp i m) D σ H):tDrop (tBM X.K "list" GH (Qk i) (tCons (tM X m) tNil)) D σ H:=by
 obtain⟨M,E,hl,fr,k⟩:=h;unfold sApp at k;cases e0:E[i]? with
 |none=>rw[e0]at k;exact k.elim
 |some s0 =>
  rw[e0]at k;dsimp only at k;cases e00:s0.list? with
  |none=>rw[e00]at k;exact k.elim
  |some ds0 =>
   rw[e00]at k;obtain⟨o,h1,h2⟩:=wR hl e0;obtain⟨a,xs,ev,w1,_,w3⟩:=fr.own _ s0 ds0 h2 e00;subst ev;refine⟨.ref a,h1,.inl ⟨rfl,xs,SqL.of w1⟩,?_⟩;refine zt (T0:=[]) hl fr ?_;dsimp only at k;cases ea:m E with
   |stuck=>rw[ea]at k;exact k
   |exc x E1=>rw[ea]at k;exact λH' g=>k σ H' g
   |ok p =>
    obtain⟨r,E1⟩:=p;rw[ea]at k;intro y H1 g;dsimp only at k;cases e1:E1[i]? with
    |none=>rw[e1]at k;exact k.elim
    |some s =>
     rw[e1]at k;dsimp only at k;cases e2:s.list? with
     |none=>rw[e2]at k;exact k.elim
     |some ds =>
      rw[e2]at k;dsimp only at k;by_cases hc:ds.length<cap
      ·rw[if_pos hc]at k
       obtain⟨o,h1',h2'⟩:=wR g.len e1;obtain⟨a',ys,ev,q1,_,q3⟩:=g.frame.own _ s ds h2' e2;subst ev;have ea':a'=a:=by rw[h1]at h1';cases h1';rfl
       subst ea';obtain⟨p,hp,g'⟩:=g.mut e1 e2 (q3.append (Reps.cons g.rep Reps.nil));have ep:p=a':=by rw[h1]at hp;cases hp;rfl
       subst ep;exact⟨p,ys,y,rfl,rfl,q1,by rw[q3.length];exact lt_of_lt_of_le hc (JW (le_refl _)),k σ _ g'⟩
      ·rw[if_neg hc]at k;exact k.elim
theorem sk_app(i:Nat){x:Str}{e:Expr}{m:ME}{p apos cpos pos:Pos}(hv:PE X (.Name x p) (Qk i))(he:EOk X e m)
  (hbase:attributeBase (.Name x p) "append" X.env (eval (.Name x p) X.env)=eval (.Name x p) X.env:=by rfl)
  (hfew:((backTo cpos (starEach (e::[]) X.env)).all (λx=>!x.1)&&(backToKw cpos (keywordEach [] X.env)).all (λx=>x.1.isSome)
   && decide ((e::([]:List Expr)).length+([]:List Keyword).length+(if([]:List Keyword).isEmpty then 0 else 1)<30))=true:=by rfl)
  (hline:(apos.endLine==cpos.line)=true:=by rfl) (hs:starEach (e::[]) X.env=(false,eval e X.env)::starEach [] X.env:=by rfl) (hplain:(backTo cpos (starEach [] X.env)).any (·.1)=false:=by rfl)
  (hsw:swapsWith (.Call (.Attribute (.Name x p) "append" apos) [e] [] cpos) none pos.line X.env=pure false:=by rfl):SOk X (.Expr (.Call (.Attribute (.Name x p) "append" apos) [e] [] cpos) pos) (sApp i m) :=
 jk (ps_expr (pe_bm PySem.F.plainAttrs_list PySem.F.slot_list_append PySem.F.type_list_append Zt hv (JB he vG hs) hbase hfew hline hs hplain) hsw) λD σ H=>app_run
end
end DV
namespace DV
open PySem L2
section
variable{X:Cx}{K:PySem.W.Frag}{mg:Str->Option Value}{σ:St}{M:Addr->Prop}{E:zL}{H:Hp}{T0 Z:Fz}
abbrev MG:=D->zL->Out zL
def GOk(X:Cx)(g:TG)(tg:MG):Prop:=∀(M:Addr->Prop) (σ:St) (E:zL) (H:Hp) (T0:Fz) (x:V) (d:D) (E':zL) (Q:St->Hp->Prop),E.length=σ.length->FR X.K X.mg M H ((some x,.val d)::(T0++σ.zip E))->tg d E=.ok E' ->
 (∀σ',Got X.K X.mg M σ E H T0 σ' E' H []->Q σ' H)->g x σ H Q
def gN(i:Nat):MG:=λd E=>Yb i (.val d) E
theorem go_name(i:Nat):GOk X (Wc i) (gN i):=λM σ E H T0 x d E' Q hl f e k =>
 k _ (Wl (σ1:=σ) (E1:=E) (H1:=H) (r:=.val d) (v:=x) ⟨hl,f,Step.refl.add,PKp.refl⟩ e)
def gNs:List Nat->List D->zL->Out zL
 | [],[],E=>.ok E
 |i::is,d::ds,E=>match Yb i (.val d) E with
  | .ok E1=>gNs is ds E1
  |_=>.stuck
 |_,_,_=>.stuck
def gT(is:List Nat):MG:=λd E=>match d with
 | .tup ds=>gNs is ds E
 |_=>.stuck
def wU:List Nat->TGs
 | []=>gNil
 |i::is=>gCons (Wc i) (wU is)
theorem Z5:∀(is:List Nat) (ds:List D) (xs:List V) {M:Addr->Prop} {σ0 σ:St} {E0 E E':zL} {H:Hp} {T0:Fz} {a:Addr} {ts:List D} {Q:St->Hp->Prop},
  Got X.K X.mg M σ0 E0 H T0 σ E H []->Reps X.K X.mg (Hm (Mo M (T0++σ.zip E)) H) ds xs->gNs is ds E=.ok E'->(∀σ',Got X.K X.mg M σ0 E0 H T0 σ' E' H []->Q σ' H)->wU is xs σ H Q
 | [],[],xs,M,σ0,σ,E0,E,E',H,T0,a,ts,Q,g,r,e,k=>by
  cases e;simp only[Reps]at r;exact⟨r,k σ g⟩
 | [],d::ds,xs,M,σ0,σ,E0,E,E',H,T0,a,ts,Q,g,r,e,k=>by cases e
 |i::is,[],xs,M,σ0,σ,E0,E,E',H,T0,a,ts,Q,g,r,e,k=>by cases e
 |i::is,d::ds,xs,M,σ0,σ,E0,E,E',H,T0,a,ts,Q,g,r,e,k=>by
  simp only[Reps]at r;obtain⟨x,ji,rfl,rx,rr⟩:=r;simp only[gNs]at e;cases e1:Yb i (.val d) E with
  |stuck=>rw[e1]at e;cases e
  |exc _ _=>rw[e1]at e;cases e
  |ok E1 =>
   rw[e1]at e;refine⟨x,ji,rfl,?_⟩;have g1:Got X.K X.mg M σ0 E0 H T0 σ E H [(some x,R.slot (.val d))]:=⟨g.len,g.fr.add rx,g.st.add,g.pk⟩;have g2:=Wl g1 e1;refine Z5 is ds ji (a:=a) (ts:=ts) g2 (rr.mono ?_) e k;refine jE (wj λb hb=>?_);have st:=g2.fr
   -- the stored slot is a value: it zz nothing
   unfold Yb at e1;cases e2:E[i]? with
   |none=>rw[e2]at e1;cases e1
   |some sl =>
    rw[e2]at e1;have e3:E1=E.set i (.val d):=by cases sl<;>cases e1<;>rfl
    subst e3;have hi:i<E.length:=(List.getElem?_eq_some_iff.mp e2).1;have hz:i<(σ.zip E).length:=by rw[List.length_zip];have:=g.len;omega
    rw[Y5]at hb;rw[zS]at hb ⊢;rcases mem_append.mp hb with hb|hb
    ·exact mem_append_left _ hb
    ·refine mem_append_right _ ?_
     have:=zE (zx _ _ _ hz) b hb;rw[za]at this;exact zC (List.eraseIdx_sublist _ _) b this
theorem zBJ{n:Nat}(is:List Nat)(hn:is.length=n):GOk X (gTup X.K n (wU is)) (gT is):=λM σ E H T0 x d E' Q hl f e k=>by
 cases d with
 |tup ds =>
  obtain⟨v,ev,r⟩:=f.val _ _ mem_cons_self;cases ev;obtain⟨a,xs,rfl,h1,h2⟩:=zM r;rw[wg]at h2;have hlen:ds.length=is.length:=by
   have:∀(is:List Nat) (ds:List D) (E E':zL),gNs is ds E=.ok E'->ds.length=is.length:=by
    intro is
    induction is with
    |nil=>intro ds E E' h;cases ds with|nil=>rfl|cons d ds=>cases h
    |cons i is ih =>
     intro ds E E' h;cases ds with
     |nil=>cases h
     |cons d ds =>
      simp only[gNs]at h;cases e1:Yb i (.val d) E with
      |ok E1=>rw[e1]at h;simp[ih ds E1 E' h]
      |stuck=>rw[e1]at h;cases h
      |exc _ _=>rw[e1]at h;cases h
   exact this is ds E E' e
  refine⟨a,xs,rfl,zV zF h1,by rw[h2.length,hlen,hn],?_⟩;exact Z5 is ds xs (a:=a) (ts:=[]) (Got.refl hl f.tail) h2 e k
 |_=>cases e
def YU(tg:MG)(body:MS):List D->zL->Out (Fl×zL)
 | [],E=>.ok (.nx,E)
 |d::ds,E=>match tg d E with
  | .ok E1=>match body E1 with
   | .ok (.nx,E2)=>YU tg body ds E2
   | .ok (.ct,E2)=>YU tg body ds E2
   | .ok (.bk,E2)=>.ok (.nx,E2)
   | .ok (.ret r,E2)=>.ok (.ret r,E2)
   | .exc x E2=>.exc x E2
   | .stuck=>.stuck
  |_=>.stuck
def Fin(X:Cx)(M:Addr->Prop)(σ:St)(E:zL)(H:Hp)(D:Ends)(o:Out (Fl×zL)):Prop:=match o with
 | .stuck=>False
 | .ok (.nx,E')=>∀σ' H',Got X.K X.mg M σ E H [] σ' E' H' []->D.nx σ' H'
 | .ok (.bk,E')=>∀σ' H',Got X.K X.mg M σ E H [] σ' E' H' []->D.bk σ' H'
 | .ok (.ct,E')=>∀σ' H',Got X.K X.mg M σ E H [] σ' E' H' []->D.ct σ' H'
 | .ok (.ret r,E')=>∀v σ' H',Got X.K X.mg M σ E H [] σ' E' H' [(some v,r.slot)]->D.rt v H'
 | .exc x E'=>∀σ' H',Got X.K X.mg M σ E H [] σ' E' H' []->XE X σ' H' x
theorem Got.dropT{K:PySem.W.Frag}{mg:Str->Option Value}{M:Addr->Prop}{σ σ1:St}{E E1:zL}{H H1:Hp}{T T':Fz}(a:Got K mg M σ E H [] σ1 E1 H1 (T++T')):Got K mg M σ E H [] σ1 E1 H1 T where
 len:=a.len
 fr:=a.fr.sub (by rw[append_assoc];exact(sublist_append_right _ _).append_left _)
 st:=a.st.weak (zC (by rw[append_assoc];exact(sublist_append_right _ _).append_left _))
 pk:=a.pk
theorem ZA{tg:MG}{body:MS}{g:TG}{D:Ends}{d:DV.D}{ds:List DV.D}{σ1:St}{E1:zL}{H1:Hp}{T:Fz}{x:V}{P:St->Hp->Prop}(hg:GOk X g tg)
  (g1:Got X.K X.mg M σ E H [] σ1 E1 H1 T) (rx:Rep X.K X.mg (Hm (Mo M (T++σ1.zip E1)) H1) d x) (fin:Fin X M σ E H D (YU tg body (d::ds) E1))
  (next:∀σ2 E2 H2,Got X.K X.mg M σ E H [] σ2 E2 H2 T->Step M H1 (T++σ1.zip E1) H2 (T++σ2.zip E2)->Fin X M σ E H D (YU tg body ds E2)->P σ2 H2) :
  g x σ1 H1 λσ2 H2=>tS X body {D with nx:=P,ct:=P,bk:=D.nx} σ2 H2:=by
 simp only[YU]at fin;cases e1:tg d E1 with
 |stuck=>rw[e1]at fin;exact fin.elim
 |exc _ _=>rw[e1]at fin;exact fin.elim
 |ok E2 =>
  rw[e1]at fin;dsimp only at fin;refine hg M σ1 E1 H1 T x d E2 _ g1.len (g1.fr.add rx) e1 λσ2 g2=>?_
  have g12:=g1.trans' g2;refine vO (T0:=T) g2.len g2.fr ?_;cases e2:body E2 with
  |stuck=>rw[e2]at fin;exact fin
  |exc y E3=>rw[e2]at fin;exact λσ' H' g'=>fin σ' H' (g12.trans' g').dropAll
  |ok p =>
   obtain⟨fl,E3⟩:=p;rw[e2]at fin;cases fl with
   |nx=>exact λσ' H' g'=>next σ' E3 H' (g12.trans' g') (g2.st.trans g'.st) fin
   |ct=>exact λσ' H' g'=>next σ' E3 H' (g12.trans' g') (g2.st.trans g'.st) fin
   |bk=>exact λσ' H' g'=>fin σ' H' (g12.trans' g').dropAll
   |ret r=>exact λv σ' H' g'=>fin v σ' H' (g12.trans' g').dropT
def sForL(m:ME)(tg:MG)(body:MS):MS:=λE=>match m E with
 | .stuck=>.stuck
 | .exc x E1=>.exc x E1
 | .ok (r,E1)=>match r.d with
  | .lst ds=>YU tg body ds E1
  |_=>.stuck
def sForT(m:ME)(tg:MG)(body:MS):MS:=λE=>match m E with
 | .stuck=>.stuck
 | .exc x E1=>.exc x E1
 | .ok (r,E1)=>match r.d with
  | .tup ds=>YU tg body ds E1
  |_=>.stuck
theorem GY{m:MS}{D:Ends}(h:tS X m D σ H):∃M E,E.length=σ.length/\FR X.K X.mg M H (σ.zip E)/\Fin X M σ E H D (m E):=h
theorem zAR{m:ME}{tg:MG}{g:TG}{body:MS}{D:Ends}(hg:GOk X g tg)(h:tS X (sForL m tg body) D σ H):tFor (iList X.K (tM X m)) g (tS X body) D σ H:=by
 obtain⟨M,E,hl,fr,k⟩:=GY h;unfold sForL at k;refine zt (T0:=[]) hl fr ?_;cases ea:m E with
 |stuck=>rw[ea]at k;exact k
 |exc x E1=>rw[ea]at k;exact λH' g=>k σ H' g
 |ok p =>
  obtain⟨r,E1⟩:=p;rw[ea]at k;intro v H1 g0;have g1:Got X.K X.mg M σ E H [] σ E1 H1 [(some v,.val r.d)]:=⟨g0.len,g0.fr.frz,g0.st.frz,g0.pk⟩;dsimp only at k;cases ed:r.d with
  |lst ds =>
   rw[ed]at k g1;have rl:=g0.rep;rw[ed]at rl;obtain⟨a,xs,rfl,q1,q2⟩:=zJ rl;refine⟨a,rfl,⟨xs,zF.seq q1⟩,?_⟩;have em:∀(σ':St) (E':zL),Mo M ([(some (V.ref a),Slot.val (.lst ds))]++σ'.zip E')=Mo M (σ'.zip E'):=λσ' E'=>wg _ _ _ _
   refine Qy (K:=X.K) (a:=a) (xs:=xs) (λi σ1 H2=>∃E2,Got X.K X.mg M σ E H [] σ1 E2 H2 [(some (.ref a),.val (.lst ds))]/\SqL X.K (Hm (Mo M (σ1.zip E2)) H2) a xs/\Reps X.K X.mg (Hm (Mo M (σ1.zip E2)) H2) ds xs/\Fin X M σ E H D (YU tg body (ds.drop i) E2))
    ⟨E1,g1,q1,q2,k⟩ (λi σ' H' _ ⟨E2,_,q,_⟩=>zF.seq q) ?_ ?_
   ·rintro i x σ1 H2 hx ⟨E2,g2,s2,r2,fin⟩
    obtain⟨d,hd,rx⟩:=r2.get hx;have ed:ds.drop i=d::ds.drop (i+1):=by
     obtain⟨hi,rfl⟩:=List.getElem?_eq_some_iff.mp hd;exact drop_eq_getElem_cons hi
    rw[ed]at fin;refine ZA hg g2 (by rw[em];exact rx) fin λσ3 E3 H3 g3 st fin3=>?_
    have sm:=st.same;rw[em,em]at sm;exact⟨E3,g3,sm.seq s2,r2.mono sm,fin3⟩
   ·rintro σ1 H2 ⟨E2,g2,s2,r2,fin⟩
    rw[r2.length,drop_length]at fin;exact fin σ1 H2 g2.dropAll
  |_=>rw[ed]at k;exact k.elim
theorem zAS{m:ME}{tg:MG}{g:TG}{body:MS}{D:Ends}(hg:GOk X g tg)(h:tS X (sForT m tg body) D σ H):tFor (iTup X.K (tM X m)) g (tS X body) D σ H:=by
 obtain⟨M,E,hl,fr,k⟩:=GY h;unfold sForT at k;refine zt (T0:=[]) hl fr ?_;cases ea:m E with
 |stuck=>rw[ea]at k;exact k
 |exc x E1=>rw[ea]at k;exact λH' g=>k σ H' g
 |ok p =>
  obtain⟨r,E1⟩:=p;rw[ea]at k;intro v H1 g0;have g1:Got X.K X.mg M σ E H [] σ E1 H1 [(some v,.val r.d)]:=⟨g0.len,g0.fr.frz,g0.st.frz,g0.pk⟩;dsimp only at k;cases ed:r.d with
  |tup ds =>
   rw[ed]at k g1;have rl:=g0.rep;rw[ed]at rl;obtain⟨a,xs,rfl,q1,q2⟩:=zM rl;refine⟨a,rfl,⟨xs,zV zF q1⟩,?_⟩;have em:∀(σ':St) (E':zL),Mo M ([(some (V.ref a),Slot.val (.tup ds))]++σ'.zip E')=Mo M (σ'.zip E'):=λσ' E'=>wg _ _ _ _
   refine for_tup (K:=X.K) (a:=a) (xs:=xs) (λi σ1 H2=>∃E2,Got X.K X.mg M σ E H [] σ1 E2 H2 [(some (.ref a),.val (.tup ds))]/\SqT X.K (Hm (Mo M (σ1.zip E2)) H2) a xs/\Reps X.K X.mg (Hm (Mo M (σ1.zip E2)) H2) ds xs/\Fin X M σ E H D (YU tg body (ds.drop i) E2))
    ⟨E1,g1,q1,q2,k⟩ (λi σ' H' _ ⟨E2,_,q,_⟩=>zV zF q) ?_ ?_
   ·rintro i x σ1 H2 hx ⟨E2,g2,s2,r2,fin⟩
    obtain⟨d,hd,rx⟩:=r2.get hx;have ed:ds.drop i=d::ds.drop (i+1):=by
     obtain⟨hi,rfl⟩:=List.getElem?_eq_some_iff.mp hd;exact drop_eq_getElem_cons hi
    rw[ed]at fin;refine ZA hg g2 (by rw[em];exact rx) fin λσ3 E3 H3 g3 st fin3=>?_
    have sm:=st.same;rw[em,em]at sm;exact⟨E3,g3,zV sm s2,r2.mono sm,fin3⟩
   ·rintro σ1 H2 ⟨E2,g2,s2,r2,fin⟩
    rw[r2.length,drop_length]at fin;exact fin σ1 H2 g2.dropAll
  |_=>rw[ed]at k;exact k.elim
def zP(lo:Int):Nat->List D
 |0=>[]
 |n+1=>.int lo::zP (lo+1) n
theorem yB(lo:Int):∀n,(zP lo n).length=n
 |0=>rfl
 |n+1=>by simp[zP,yB (lo+1) n]
theorem jU:∀(n i:Nat) (lo:Int),i<n->(zP lo n).drop i=.int (lo+i)::(zP lo n).drop (i+1)
 |0,_,_,h=>by omega
 |n+1,0,lo,_=>by simp[zP]
 |n+1,i+1,lo,h=>by
  have:=jU n i (lo+1) (by omega);simp only[zP,List.drop_succ_cons];rw[this];congr 2;omega
def sForR1(m:MA)(tg:MG)(body:MS):MS:=λE=>match m E with
 | .stuck=>.stuck
 | .exc x E1=>.exc x E1
 | .ok ([r],E1)=>match r.d with
  | .int j=>if -(2^62)<=j/\j<2^62 then YU tg body (zP 0 j.toNat) E1 else .stuck
  |_=>.stuck
 |_=>.stuck
theorem Wn{tg:MG}{g:TG}{body:MS}{D:Ends}(hg:GOk X g tg){lo:Int}{n:Nat}{E1:zL}{H1:Hp}(g1:Got X.K X.mg M σ E H [] σ E1 H1 [])(fin:Fin X M σ E H D (YU tg body (zP lo n) E1)) :
  ∃W:Nat->Nat->St->Hp->Prop,(∃m,W 0 m σ H1)/\∀i m σ H,W i m σ H ->
   ((Itr lo n).stop i H/\D.nx σ H)\/((Itr lo n).go i H/\∃N:St->Hp->Prop,(∀σ' H',N σ' H'->∃m',m'<m/\W (i+1) m' σ' H')/\∀x H',(Itr lo n).yld i H x H'->g x σ H' λσ2 H2=>tS X body {D with nx:=N,ct:=N,bk:=D.nx} σ2 H2):=by
 refine uu (λi σ1 H2=>∃E2,Got X.K X.mg M σ E H [] σ1 E2 H2 []/\Fin X M σ E H D (YU tg body ((zP lo n).drop i) E2)) ⟨E1,g1,fin⟩ ?_ ?_
 ·rintro i σ1 H2 hi ⟨E2,g2,fin⟩
  rw[jU n i lo hi]at fin;exact ZA hg g2 (by simp only[Rep]) fin λσ3 E3 H3 g3 st fin3=>⟨E3,g3,fin3⟩
 ·rintro σ1 H2 ⟨E2,g2,fin⟩
  rw[List.drop_of_length_le (by rw[yB];exact le_refl _)]at fin;exact fin σ1 H2 g2
theorem GZ{m:MA}{tg:MG}{g:TG}{body:MS}{D:Ends}(hg:GOk X g tg)(h:tS X (sForR1 m tg body) D σ H):tFor (iRng1 (tMA X m)) g (tS X body) D σ H:=by
 obtain⟨M,E,hl,fr,k⟩:=GY h;unfold sForR1 at k;refine J8 (T0:=[]) hl fr ?_;cases ea:m E with
 |stuck=>rw[ea]at k;exact k
 |exc x E1=>rw[ea]at k;exact λH' g=>k σ H' g
 |ok p =>
  obtain⟨rs,E1⟩:=p;rw[ea]at k
  match rs,k with
  | [r],k =>
   intro vs H1 hv g1;have rp:=Got.reps hv g1;dsimp only at k;cases ed:r.d with
   |int j =>
    rw[ed]at k;simp only[List.map,ed]at rp;obtain⟨v,rfl,h1⟩:=wB rp;dsimp only at k;by_cases hc:-(2^62)<=j/\j<2^62
    ·rw[if_pos hc]at k
     exact⟨j,by rw[zI h1],hc.1,hc.2,Wn hg g1.dropAll k⟩
    ·rw[if_neg hc]at k;exact k.elim
   |_=>rw[ed]at k;exact k.elim
  | [],k=>exact k.elim
  |_::_::_,k=>exact k.elim
theorem sk_forL{tgt iter:Expr}{body:List Stmt}{m:ME}{g:TG}{tg:MG}{mb:MS}{pos:Pos}(hp:PassesOwn (model X.prog X.w) X.A X.env X.xe)(hc:X.calm=true)(hi:EOk X iter m)(hg:PG X tgt g)(ho:GOk X g tg)(hb:GU X body mb)
  (hs:∀x,foldedSetIterable iter X.env x=pure x:=by intro _;rfl):SOk X (.For tgt iter body [] pos) (sForL m tg mb):=jk (ut hp hc (uq hi) hg hb hs) λD σ H=>zAR ho
theorem sk_forT{tgt iter:Expr}{body:List Stmt}{m:ME}{g:TG}{tg:MG}{mb:MS}{pos:Pos}(hp:PassesOwn (model X.prog X.w) X.A X.env X.xe)(hc:X.calm=true)(hi:EOk X iter m)(hg:PG X tgt g)(ho:GOk X g tg)(hb:GU X body mb)
  (hs:∀x,foldedSetIterable iter X.env x=pure x:=by intro _;rfl):SOk X (.For tgt iter body [] pos) (sForT m tg mb):=jk (ut hp hc (zA4 hi) hg hb hs) λD σ H=>zAS ho
theorem zAT{tgt a:Expr}{body:List Stmt}{m:MA}{g:TG}{tg:MG}{mb:MS}{p cpos pos:Pos}(hp:PassesOwn (model X.prog X.w) X.A X.env X.xe)(hc:X.calm=true)(hgl:Gl X "range")(hm:X.mg "range"=none)(ha:AOk X [a] m)(hg:PG X tgt g)(ho:GOk X g tg)(hb:GU X body mb)
  (hst:zW a=false:=by rfl) (hs:∀x,foldedSetIterable (.Call (.Name "range" p) [a] [] cpos) X.env x=pure x:=by intro _;rfl):SOk X (.For tgt (.Call (.Name "range" p) [a] [] cpos) body [] pos) (sForR1 m tg mb) :=
 jk (ut hp hc (Zi hgl hm ha (zAE hst)) hg hb hs) λD σ H=>GZ ho
end
end DV
namespace DV
open PySem L2
section
variable{X:Cx}{K:PySem.W.Frag}{mg:Str->Option Value}{σ:St}{M:Addr->Prop}{E:zL}{H H':Hp}{T0 Z T:Fz}
theorem zAU{o:Option V}{s s':Slot}{ds:List D}(h:s.list?=some ds)(h':s'.list?=some ds):Wh (o,s')=Wh (o,s):=by
 cases s<;>simp[Slot.list?]at h<;>cases s'<;>simp[Slot.list?]at h'<;>(cases o with|none=>rfl|some v=>cases v<;>rfl)
theorem Ju{o:Option V}{s s':Slot}{ds:List D}(h:s.list?=some ds)(h':s'.list?=some ds):zz ((o,s')::Z)=zz ((o,s)::Z):=by
 unfold zz;rw[filterMap_cons,filterMap_cons,zAU h h']
theorem FR.lab{o:Option V}{s s':Slot}{ds:List D}(f:FR K mg M H ((o,s)::Z))(h:s.list?=some ds)(h':s'.list?=some ds):FR K mg M H ((o,s')::Z):=by
 have em:Mo M ((o,s')::Z)=Mo M ((o,s)::Z):=by unfold Mo;rw[Ju h h']
 refine⟨λo' d q=>?_,λo' t es q e=>?_,by rw[Ju h h'];exact f.nd,f.mal⟩
 ·rw[em]
  rcases mem_cons.mp q with q|q
  ·cases q;cases h'
  ·exact f.val o' d (mem_cons_of_mem _ q)
 ·rw[em]
  rcases mem_cons.mp q with q|q
  ·cases q
   rw[h']at e;cases e;exact f.own o s ds mem_cons_self h
  ·exact f.own o' t es (mem_cons_of_mem _ q) e
theorem Z6{o:Option V}{s1 s2:Slot}{i:Nat}(hi:Z[i]?=some (o,s2)):((o,s1)::(T++Z)).Perm ((o,s2)::(T++Z.set i (o,s1))):=by
 have hlt:i<Z.length:=(List.getElem?_eq_some_iff.mp hi).1;have p1:Z.Perm ((o,s2)::Z.eraseIdx i):=by
  have:=zx (o,s2) Z i hlt;rw[Y6 hi]at this;exact this
 have p2:(Z.set i (o,s1)).Perm ((o,s1)::Z.eraseIdx i):=zx _ _ _ hlt;refine((p1.append_left T).cons _).trans ?_;refine List.Perm.trans ?_ ((p2.append_left T).cons _).symm;have a:(T++(o,s2)::Z.eraseIdx i).Perm ((o,s2)::(T++Z.eraseIdx i)):=perm_middle;have b:(T++(o,s1)::Z.eraseIdx i).Perm ((o,s1)::(T++Z.eraseIdx i)):=perm_middle;exact((a.cons _).trans (List.Perm.swap _ _ _)).trans (b.cons _).symm
inductive AR where
 |tmp (d:D)
 |ln (i:Nat)
 deriving Inhabited
def AR.slot:AR->Slot
 | .tmp d=>.val d
 | .ln _=>.emp
def ze(vs:List V)(as:List AR):Fz:=(vs.map some).zip (as.map AR.slot)
def AV(σ:St):List AR->List V->Prop
 | [],vs=>vs=[]
 | .tmp _::as,vs=>∃v r,vs=v::r/\AV σ as r
 | .ln i::as,vs=>∃v r,vs=v::r/\σ[i]?=some (some v)/\AV σ as r
theorem AV.length:∀{as:List AR} {vs:List V},AV σ as vs->vs.length=as.length
 | [],_,h=>by simp only[AV]at h;subst h;rfl
 | .tmp _::as,_,h=>by simp only[AV]at h;obtain⟨v,r,rfl,h⟩:=h;simp[AV.length h]
 | .ln i::as,_,h=>by simp only[AV]at h;obtain⟨v,r,rfl,_,h⟩:=h;simp[AV.length h]
def zK:List AR->zL->Out (List Slot×zL)
 | [],E=>.ok ([],E)
 | .tmp d::as,E=>match zK as E with
  | .ok (ss,E')=>.ok (.val d::ss,E')
  |_=>.stuck
 | .ln i::as,E=>match E[i]? with
  |none=>.stuck
  |some s=>match s.list? with
   |none=>.stuck
   |some ds=>match zK as (E.set i .emp)with
    | .ok (ss,E')=>.ok (.par ds::ss,E')
    |_=>.stuck
def zH:List AR->List Slot->zL->zL->Out zL
 | [],[],_,E=>.ok E
 | .tmp _::as,_::ss,E0,E=>zH as ss E0 E
 | .ln i::as,s'::ss,E0,E=>match E0[i]? with
  |none=>.stuck
  |some s=>match s.list?,s'.list?,E[i]? with
   |some _,some ds,some .emp=>zH as ss E0 (E.set i (s.put ds))
   |_,_,_=>.stuck
 |_,_,_,_=>.stuck
theorem YE:∀(as:List AR) {vs:List V} {E E':zL} {ss:List Slot} {T:Fz},E.length=σ.length->AV σ as vs->zK as E=.ok (ss,E')->FR K mg M H (T++(ze vs as++σ.zip E)) ->
  FR K mg M H (T++((vs.map some).zip ss++σ.zip E'))/\(∀b,b∈zz (T++(ze vs as++σ.zip E))↔b∈zz (T++((vs.map some).zip ss++σ.zip E')))/\ss.length=as.length/\E'.length=σ.length
 | [],vs,E,E',ss,T,hl,av,e,f=>by
  cases e;simp only[AV]at av;subst av;exact⟨f,λb=>Iff.rfl,rfl,hl⟩
 | .tmp d::as,vs,E,E',ss,T,hl,av,e,f=>by
  simp only[AV]at av;obtain⟨v,r,rfl,av⟩:=av;simp only[zK]at e;cases e1:zK as E with
  |stuck=>rw[e1]at e;cases e
  |exc _ _=>rw[e1]at e;cases e
  |ok p =>
   obtain⟨ss1,E1⟩:=p;rw[e1]at e;cases e;have f1:FR K mg M H ((T++[(some v,.val d)])++(ze r as++σ.zip E)):=by
    rw[append_assoc];exact f
   obtain⟨g1,g2,g3,g4⟩:=YE as hl av e1 f1;refine⟨by rw[append_assoc]at g1;exact g1,λb=>?_,by simp[g3],g4⟩;have:=g2 b;rw[append_assoc,append_assoc]at this;exact this
 | .ln i::as,vs,E,E',ss,T,hl,av,e,f=>by
  simp only[AV]at av;obtain⟨v,r,rfl,hv,av⟩:=av;simp only[zK]at e;cases e0:E[i]? with
  |none=>rw[e0]at e;cases e
  |some s =>
   rw[e0]at e;dsimp only at e;cases e2:s.list? with
   |none=>rw[e2]at e;cases e
   |some ds =>
    rw[e2]at e;dsimp only at e;cases e1:zK as (E.set i .emp)with
    |stuck=>rw[e1]at e;cases e
    |exc _ _=>rw[e1]at e;cases e
    |ok p =>
     obtain⟨ss1,E1⟩:=p;rw[e1]at e;cases e;obtain⟨o,h1,h2⟩:=J9 hl e0;have ho:o=some v:=by rw[hv]at h1;exact(Option.some.inj h1).symm
     subst ho;have ez:σ.zip (E.set i .emp)=(σ.zip E).set i (some v,.emp):=yO .emp hv;have pA:(T++(((some v,Slot.emp)::ze r as)++σ.zip E)).Perm ((some v,s)::(T++(ze r as++σ.zip (E.set i .emp)))):=by
      rw[ez];have a:(T++(((some v,Slot.emp)::ze r as)++σ.zip E)).Perm ((some v,Slot.emp)::((T++ze r as)++σ.zip E)):=by
       rw[append_assoc];exact perm_middle
      refine a.trans ((Z6 h2).trans ?_);rw[append_assoc]
     have f1:=(f.perm pA).lab e2 (s':=.par ds) rfl;have f2:FR K mg M H ((((some v,Slot.par ds))::T)++(ze r as++σ.zip (E.set i .emp))):=f1;obtain⟨g1,g2,g3,g4⟩:=YE as (by simp[hl]) av e1 f2;have pB:(((some v,Slot.par ds)::T)++((r.map some).zip ss1++σ.zip E')).Perm (T++(((some v,Slot.par ds)::(r.map some).zip ss1)++σ.zip E')):=perm_middle.symm;refine⟨g1.perm pB,λb=>?_,by simp[g3],g4⟩;have x1:b∈zz (T++(((some v,Slot.emp)::ze r as)++σ.zip E))↔b∈zz ((some v,s)::(T++(ze r as++σ.zip (E.set i .emp)))):=(pA.filterMap Wh).mem_iff;have x2:zz ((some v,Slot.par ds)::(T++(ze r as++σ.zip (E.set i .emp))))=zz ((some v,s)::(T++(ze r as++σ.zip (E.set i .emp)))):=Ju e2 rfl;have x3:=g2 b;have x4:b∈zz (((some v,Slot.par ds)::T)++((r.map some).zip ss1++σ.zip E'))↔b∈zz (T++(((some v,Slot.par ds)::(r.map some).zip ss1)++σ.zip E')):=(pB.filterMap Wh).mem_iff;refine x1.trans ?_;rw[<- x2];exact x3.trans x4
theorem ZB:∀(as:List AR) {vs:List V} {E0 E E':zL} {ss:List Slot} {T:Fz},E.length=σ.length->AV σ as vs->zH as ss E0 E=.ok E'->FR K mg M H (T++((vs.map some).zip ss++σ.zip E)) ->
  FR K mg M H (T++σ.zip E')/\(∀b,b∈zz (T++σ.zip E')->b∈zz (T++((vs.map some).zip ss++σ.zip E)))/\E'.length=σ.length
 | [],vs,E0,E,E',ss,T,hl,av,e,f=>by
  cases ss with
  |cons _ _=>cases e
  |nil =>
   cases e;simp only[AV]at av;subst av;exact⟨f,λb q=>q,hl⟩
 | .tmp d::as,vs,E0,E,E',ss,T,hl,av,e,f=>by
  simp only[AV]at av;obtain⟨v,r,rfl,av⟩:=av;cases ss with
  |nil=>cases e
  |cons s ss =>
   simp only[zH]at e;have sub:(T++((r.map some).zip ss++σ.zip E)).Sublist (T++(((some v,s)::(r.map some).zip ss)++σ.zip E)):=(sublist_cons_self _ _).append_left _;obtain⟨g1,g2,g3⟩:=ZB as hl av e (f.sub sub);exact⟨g1,λb q=>zC sub b (g2 b q),g3⟩
 | .ln i::as,vs,E0,E,E',ss,T,hl,av,e,f=>by
  simp only[AV]at av;obtain⟨v,r,rfl,hv,av⟩:=av;cases ss with
  |nil=>cases e
  |cons s' ss =>
   simp only[zH]at e;cases e0:E0[i]? with
   |none=>rw[e0]at e;cases e
   |some s =>
    rw[e0]at e;dsimp only at e;cases e1:s.list? with
    |none=>rw[e1]at e;cases e
    |some ds0 =>
     cases e2:s'.list? with
     |none=>rw[e1,e2]at e;cases e
     |some ds =>
      cases e3:E[i]? with
      |none=>rw[e1,e2,e3]at e;cases e
      |some se =>
       rw[e1,e2,e3]at e;cases se with
       |emp =>
        dsimp only at e;obtain⟨o,h1,h2⟩:=J9 hl e3;have ho:o=some v:=by rw[hv]at h1;exact(Option.some.inj h1).symm
        subst ho;have ez:σ.zip (E.set i (s.put ds))=(σ.zip E).set i (some v,s.put ds):=yO _ hv;have hp:(s.put ds).list?=some ds:=(Y9 (p:=0) e1).2;have pA:(T++(((some v,s')::(r.map some).zip ss)++σ.zip E)).Perm ((some v,s')::((T++(r.map some).zip ss)++σ.zip E)):=by
         rw[append_assoc];exact perm_middle
        have f1:=(f.perm pA).lab e2 hp;have pB:((some v,s.put ds)::((T++(r.map some).zip ss)++σ.zip E)).Perm ((some v,Slot.emp)::((T++(r.map some).zip ss)++σ.zip (E.set i (s.put ds)))):=by
         rw[ez];exact Z6 h2
        have f2:=(f1.perm pB).tail;rw[append_assoc]at f2;obtain⟨g1,g2,g3⟩:=ZB as (by simp[hl]) av e f2;refine⟨g1,λb q=>?_,g3⟩;have q1:=g2 b q;rw[<- append_assoc]at q1;have q2:b∈zz ((some v,Slot.emp)::((T++(r.map some).zip ss)++σ.zip (E.set i (s.put ds)))):=zC (sublist_cons_self _ _) b q1;have q3:=zE pB.symm b q2;rw[Ju e2 hp]at q3;exact zE pA.symm b q3
       |_=>cases e
def Wo:List AR->List Nat
 | []=>[]
 | .tmp _::as=>Wo as
 | .ln i::as=>i::Wo as
theorem ZC:∀(as:List AR) {E E':zL} {ss:List Slot},zK as E=.ok (ss,E')->∀(k:Nat),k∉Wo as->E'[k]?=E[k]?
 | [],E,E',ss,e,k,h=>by cases e;rfl
 | .tmp d::as,E,E',ss,e,k,h=>by
  simp only[zK]at e;cases e1:zK as E with
  |stuck=>rw[e1]at e;cases e
  |exc _ _=>rw[e1]at e;cases e
  |ok p =>
   obtain⟨ss1,E1⟩:=p;rw[e1]at e;cases e;exact ZC as e1 k h
 | .ln i::as,E,E',ss,e,k,h=>by
  simp only[zK]at e;cases e0:E[i]? with
  |none=>rw[e0]at e;cases e
  |some s =>
   rw[e0]at e;dsimp only at e;cases e2:s.list? with
   |none=>rw[e2]at e;cases e
   |some ds =>
    rw[e2]at e;dsimp only at e;cases e1:zK as (E.set i .emp)with
    |stuck=>rw[e1]at e;cases e
    |exc _ _=>rw[e1]at e;cases e
    |ok p =>
     obtain⟨ss1,E1⟩:=p;rw[e1]at e;cases e;simp only[Wo,mem_cons,not_or]at h;rw[ZC as e1 k h.2,getElem?_set_ne (λq=>h.1 q.symm)]
theorem Jv:∀(as:List AR) {E0 E E':zL} {ss:List Slot},zH as ss E0 E=.ok E'->∀(k:Nat),E'[k]?=E[k]?\/∃(s:Slot) (ds:List D),E0[k]?=some s/\E'[k]?=some (s.put ds)
 | [],E0,E,E',ss,e,k=>by
  cases ss with
  |cons _ _=>cases e
  |nil=>cases e;exact .inl rfl
 | .tmp d::as,E0,E,E',ss,e,k=>by
  cases ss with
  |nil=>cases e
  |cons s ss=>exact Jv as e k
 | .ln i::as,E0,E,E',ss,e,k=>by
  cases ss with
  |nil=>cases e
  |cons s' ss =>
   simp only[zH]at e;cases e0:E0[i]? with
   |none=>rw[e0]at e;cases e
   |some s =>
    rw[e0]at e;dsimp only at e;cases e1:s.list? with
    |none=>rw[e1]at e;cases e
    |some ds0 =>
     cases e2:s'.list? with
     |none=>rw[e1,e2]at e;cases e
     |some ds =>
      cases e3:E[i]? with
      |none=>rw[e1,e2,e3]at e;cases e
      |some se =>
       rw[e1,e2,e3]at e;cases se with
       |emp =>
        dsimp only at e;rcases Jv as e k with q|q
        ·by_cases ek:i=k
         ·subst ek
          have hlt:i<E.length:=(List.getElem?_eq_some_iff.mp e3).1;rw[getElem?_set_self hlt]at q;exact .inr ⟨s,ds,e0,q⟩
         ·rw[getElem?_set_ne ek]at q
          exact .inl q
        ·exact .inr q
       |_=>cases e
theorem YF:∀(as:List AR) {E0 E E':zL} {ss:List Slot},zH as ss E0 E=.ok E'->∀(k:Nat),k∈Wo as->∃(s:Slot) (ds:List D),E0[k]?=some s/\E'[k]?=some (s.put ds)
 | [],E0,E,E',ss,e,k,h=>by cases h
 | .tmp d::as,E0,E,E',ss,e,k,h=>by
  cases ss with
  |nil=>cases e
  |cons s ss=>exact YF as e k h
 | .ln i::as,E0,E,E',ss,e,k,h=>by
  cases ss with
  |nil=>cases e
  |cons s' ss =>
   simp only[zH]at e;cases e0:E0[i]? with
   |none=>rw[e0]at e;cases e
   |some s =>
    rw[e0]at e;dsimp only at e;cases e1:s.list? with
    |none=>rw[e1]at e;cases e
    |some ds0 =>
     cases e2:s'.list? with
     |none=>rw[e1,e2]at e;cases e
     |some ds =>
      cases e3:E[i]? with
      |none=>rw[e1,e2,e3]at e;cases e
      |some se =>
       rw[e1,e2,e3]at e;cases se with
       |emp =>
        dsimp only at e;by_cases ek:i=k
        ·subst ek
         rcases Jv as e i with q|q
         ·have hlt:i<E.length:=(List.getElem?_eq_some_iff.mp e3).1
          rw[getElem?_set_self hlt]at q;exact⟨s,ds,e0,q⟩
         ·exact q
        ·simp only[Wo,mem_cons]at h
         rcases h with h|h
         ·exact absurd h.symm ek
         ·exact YF as e k h
       |_=>cases e
theorem Ga{as:List AR}{E1 E2 E3:zL}{ss outs:List Slot}(h1:zK as E1=.ok (ss,E2))(h2:zH as outs E1 E2=.ok E3):PKp σ E1 σ E3:=λk ds e=>by
 refine⟨?_,rfl⟩;by_cases hk:k∈Wo as
 ·obtain⟨s,es,q1,q2⟩:=YF as h2 k hk
  rw[e]at q1;cases q1;exact⟨es,q2⟩
 ·rcases Jv as h2 k with q|⟨s,es,q1,q2⟩
  ·rw[q,ZC as h1 k hk];exact⟨ds,e⟩
  ·rw[e]at q1;cases q1
   exact⟨es,q2⟩
abbrev MF:=List Slot->Out (R×List Slot)
def spM(K:PySem.W.Frag)(mg:Str->Option Value)(n:Nat)(F:MF):Sp:=λvs H Q XQ=>vs.length=n/\∃(M:Addr->Prop) (ss:List Slot),ss.length=vs.length/\FR K mg M H ((vs.map some).zip ss)/\match F ss with
 | .stuck=>False
 | .ok (r,outs)=>∀v H',outs.length=vs.length->FR K mg M H' ((some v,r.slot)::(vs.map some).zip outs)->Step M H ((vs.map some).zip ss) H' ((some v,r.slot)::(vs.map some).zip outs)->Q v H'
 | .exc x _=>∀C H',mg x.cls=some (.ref C)->FR K mg M H' []->Step M H ((vs.map some).zip ss) H' []->XQ (.ref C) none H'
inductive Arg where
 |ev (m:ME)
 |lend (i:Nat)
def zo:List Arg->zL->Out (List AR×zL)
 | [],E=>.ok ([],E)
 | .ev m::as,E=>match m E with
  | .stuck=>.stuck
  | .exc x E1=>.exc x E1
  | .ok (r,E1)=>match zo as E1 with
   | .ok (ars,E2)=>.ok (.tmp r.d::ars,E2)
   | .exc x E2=>.exc x E2
   | .stuck=>.stuck
 | .lend i::as,E=>if Jp E[i]?=true then .stuck else match zo as E with
  | .ok (ars,E2)=>.ok (.ln i::ars,E2)
  | .exc x E2=>.exc x E2
  | .stuck=>.stuck
def tArgs(X:Cx)(as:List Arg):TA:=λσ H Q=>∃M E,E.length=σ.length/\FR X.K X.mg M H (σ.zip E)/\match zo as E with
 | .stuck=>False
 | .ok (ars,E')=>∀vs H',AV σ ars vs->Got X.K X.mg M σ E H [] σ E' H' (ze vs ars)->Q vs H'
 | .exc x E'=>∀H',Got X.K X.mg M σ E H [] σ E' H' []->XE X σ H' x
abbrev zBK(X:Cx)(es:List Expr)(as:List Arg):Prop:=PA X es (tArgs X as)
theorem YG{as:List Arg}{Q:List V->Hp->Prop}(hl:E.length=σ.length)(h:FR X.K X.mg M H (T0++σ.zip E))
  (k:match zo as E with | .stuck=>False | .ok (ars,E')=>∀vs H',AV σ ars vs->Got X.K X.mg M σ E H T0 σ E' H' (ze vs ars)->Q vs H' | .exc x E'=>∀H',Got X.K X.mg M σ E H T0 σ E' H' []->XE X σ H' x):tArgs X as σ H Q:=by
 refine⟨Mo M T0,E,hl,h.inner,?_⟩;cases e:zo as E with
 |stuck=>rw[e]at k;exact k
 |ok a=>rw[e]at k;exact λvs H' av g=>k vs H' av (g.outer h)
 |exc x E'=>rw[e]at k;exact λH' g=>k H' (g.outer h)
theorem ga_nil:zBK X [] []:=Zv vG λσ H Q ⟨M,E,hl,fr,k⟩=>k [] H (by simp only[AV]) (Got.refl (T0:=[]) hl fr)
theorem ga_ev{e:Expr}{es:List Expr}{m:ME}{as:List Arg}(he:EOk X e m)(hr:zBK X es as)(hs:zW e=false:=by rfl):zBK X (e::es) (.ev m::as):=Zv (JB he hr (zd hs)) λσ H Q ⟨M,E,hl,fr,k⟩=>by
 simp only[zo]at k;refine zt (T0:=[]) hl fr ?_;cases ea:m E with
 |stuck=>rw[ea]at k;exact k
 |exc x E1=>rw[ea]at k;exact k
 |ok p =>
  obtain⟨r1,E1⟩:=p;rw[ea]at k;intro x H1 g0;have g1:Got X.K X.mg M σ E H [] σ E1 H1 [(some x,.val r1.d)]:=⟨g0.len,g0.fr.frz,g0.st.frz,g0.pk⟩;refine YG (T0:=[(some x,.val r1.d)]) g1.len g1.fr ?_;dsimp only at k;cases eb:zo as E1 with
  |stuck=>rw[eb]at k;exact k
  |exc x E2=>rw[eb]at k;exact λH' g=>k H' (g1.trans' g).dropAll
  |ok p =>
   obtain⟨ars,E2⟩:=p;rw[eb]at k;intro vs H2 av g2;refine k (x::vs) H2 (by simp only[AV];exact⟨x,vs,rfl,av⟩) ?_;exact(g1.trans' g2).perm (perm_append_comm)
theorem ga_lend{x:Str}{p:Pos}{es:List Expr}{i:Nat}{as:List Arg}(hv:PE X (.Name x p) (Qk i))(hr:zBK X es as)  : zBK X (.Name x p::es) (.lend i::as):=Zv (JB hv hr (zd rfl)) λσ H Q ⟨M,E,hl,fr,k⟩=>by
 simp only[zo]at k;cases em:Jp E[i]? with
 |true=>rw[em]at k;exact k.elim
 |false =>
  rw[em]at k;simp only[Bool.false_eq_true,if_false]at k;obtain⟨s,hs1,hs2⟩:=Wm em;obtain⟨v,hv⟩:=GW hl fr hs1 hs2;refine⟨v,hv,?_⟩;refine YG (T0:=[]) hl fr ?_;cases eb:zo as E with
  |stuck=>rw[eb]at k;exact k
  |exc x E2=>rw[eb]at k;exact k
  |ok p =>
   obtain⟨ars,E2⟩:=p;rw[eb]at k;intro vs H2 av g2;refine k (v::vs) H2 (by simp only[AV];exact⟨v,vs,rfl,hv,av⟩) ?_;have em2:Mo M ((some v,Slot.emp)::(ze vs ars++([]++σ.zip E2)))=Mo M (ze vs ars++([]++σ.zip E2)):=Mo_emp _ _ _;refine⟨g2.len,⟨λo d q=>?_,λo t ds q e=>?_,?_,g2.fr.mal⟩,⟨?_,g2.st.keep⟩,g2.pk⟩
   ·show ∃v',_/\Rep X.K X.mg (Hm (Mo M ((some v,Slot.emp)::(ze vs ars++([]++σ.zip E2)))) H2) d v'
    rw[em2];rcases mem_cons.mp q with q|q
    ·cases q
    ·exact g2.fr.val o d q
   ·show ∃a xs,_/\_/\_/\Reps X.K X.mg (Hm (Mo M ((some v,Slot.emp)::(ze vs ars++([]++σ.zip E2)))) H2) ds xs
    rw[em2];rcases mem_cons.mp q with q|q
    ·cases q;cases e
    ·exact g2.fr.own o t ds q e
   ·show(zz ((some v,Slot.emp)::(ze vs ars++([]++σ.zip E2)))).Nodup
    rw[yQ];exact g2.fr.nd
   ·show JC _ (Hm (Mo M ((some v,Slot.emp)::(ze vs ars++([]++σ.zip E2)))) H2)
    rw[em2];exact g2.st.same
def Z7:List AR->Bool
 | []=>true
 | .tmp _::as=>Z7 as
 | .ln _::_=>false
theorem Yp:∀{as:List AR} {E E':zL} {ss:List Slot},Z7 as=true->zK as E=.ok (ss,E')->E'=E
 | [],E,E',ss,_,e=>by cases e;rfl
 | .tmp d::as,E,E',ss,h,e=>by
  simp only[zK]at e;cases q:zK as E with
  |stuck=>rw[q]at e;cases e
  |exc _ _=>rw[q]at e;cases e
  |ok p=>obtain⟨s1,E1⟩:=p;rw[q]at e;cases e;exact Yp (as:=as) h q
 | .ln i::as,E,E',ss,h,e=>by cases h
def jo(F:MF)(as:List Arg):ME:=λE=>match zo as E with
 | .stuck=>.stuck
 | .exc x E1=>.exc x E1
 | .ok (ars,E1)=>match zK ars E1 with
  | .ok (ss,E2)=>match F ss with
   | .ok (r,outs)=>match zH ars outs E1 E2 with
    | .ok E3=>.ok (r,E3)
    |_=>.stuck
   | .exc x _=>if Z7 ars=true then .exc ⟨x.cls,false⟩ E1 else .stuck
   | .stuck=>.stuck
  |_=>.stuck
theorem zAV{F:MF}{n:Nat}{ars:List AR}{E1 E2 E3:zL}{ss outs:List Slot}{r:R}{vs:List V}{H1:Hp}{Q:VK}{XQ:XK}(hn:ars.length=n)(e1:zK ars E1=.ok (ss,E2))(e2:F ss=.ok (r,outs))(e3:zH ars outs E1 E2=.ok E3)
  (av:AV σ ars vs) (g:Got K mg M σ E H [] σ E1 H1 (ze vs ars)) (k:∀v H',Got K mg M σ E H [] σ E3 H' [(some v,r.slot)]->Q v H'):spM K mg n F vs H1 Q XQ:=by
 obtain⟨f1,o1,l1,l2⟩:=YE (T:=[]) ars g.len av e1 g.fr;have f1':FR K mg M H1 (σ.zip E2++(vs.map some).zip ss):=FR.perm (T:=σ.zip E2++(vs.map some).zip ss) (Z:=(vs.map some).zip ss++σ.zip E2) f1 perm_append_comm;have hlen:=av.length;refine⟨hlen.trans hn,Mo M (σ.zip E2),ss,l1.trans hlen.symm,f1'.inner,?_⟩;rw[e2];intro v H' ol f2 s2;have f3:=FR.outer f1' f2 s2;have s3:=Step.outer s2;have p:(σ.zip E2++((some v,r.slot)::(vs.map some).zip outs)).Perm ([(some v,r.slot)]++((vs.map some).zip outs++σ.zip E2)):=by
  refine perm_append_comm.trans ?_;exact List.Perm.refl _
 obtain⟨f4,o4,l4⟩:=ZB ars l2 av e3 (f3.perm p);refine k v H' ⟨l4,f4,?_,g.pk.trans (Ga e1 e3)⟩;have st1:Step M H (σ.zip E) H1 (σ.zip E2++(vs.map some).zip ss):=g.st.weak λb hb=>(o1 b).mpr (zE (T:=σ.zip E2++(vs.map some).zip ss) (Z:=(vs.map some).zip ss++σ.zip E2) perm_append_comm b hb)
 have st2:=st1.trans s3;exact st2.weak λb hb=>zE p.symm b (o4 b hb)
theorem zAW{F:MF}{n:Nat}{ars:List AR}{E1 E2:zL}{ss outs:List Slot}{x:Exn}{vs:List V}{H1:Hp}{Q:VK}{XQ:XK}(hn:ars.length=n)(hl:Z7 ars=true)(e1:zK ars E1=.ok (ss,E2))(e2:F ss=.exc x outs)
  (av:AV σ ars vs) (g:Got K mg M σ E H [] σ E1 H1 (ze vs ars)) (k:∀C H',mg x.cls=some (.ref C)->Got K mg M σ E H [] σ E1 H' []->XQ (.ref C) none H'):spM K mg n F vs H1 Q XQ:=by
 obtain⟨f1,o1,l1,l2⟩:=YE (T:=[]) ars g.len av e1 g.fr;have f1':FR K mg M H1 (σ.zip E2++(vs.map some).zip ss):=FR.perm (T:=σ.zip E2++(vs.map some).zip ss) (Z:=(vs.map some).zip ss++σ.zip E2) f1 perm_append_comm;have hlen:=av.length;refine⟨hlen.trans hn,Mo M (σ.zip E2),ss,l1.trans hlen.symm,f1'.inner,?_⟩;rw[e2];intro C H' hm f2 s2;have f3:=FR.outer f1' f2 s2;have s3:=Step.outer s2;rw[append_nil]at f3 s3;have st1:Step M H (σ.zip E) H1 (σ.zip E2++(vs.map some).zip ss):=g.st.weak λb hb=>(o1 b).mpr (zE (T:=σ.zip E2++(vs.map some).zip ss) (Z:=(vs.map some).zip ss++σ.zip E2) perm_append_comm b hb)
 obtain rfl:=Yp hl e1;exact k C H' hm ⟨g.len,f3,st1.trans s3,g.pk⟩
theorem yp:∀(as:List Arg) {E E':zL} {ars:List AR},zo as E=.ok (ars,E')->ars.length=as.length
 | [],E,E',ars,e=>by cases e;rfl
 | .ev m::as,E,E',ars,e=>by
  simp only[zo]at e;cases ea:m E with
  |stuck=>rw[ea]at e;cases e
  |exc _ _=>rw[ea]at e;cases e
  |ok p =>
   obtain⟨r,E1⟩:=p;rw[ea]at e;dsimp only at e;cases eb:zo as E1 with
   |stuck=>rw[eb]at e;cases e
   |exc _ _=>rw[eb]at e;cases e
   |ok p=>obtain⟨a,b⟩:=p;rw[eb]at e;cases e;simp[yp as eb]
 | .lend i::as,E,E',ars,e=>by
  simp only[zo]at e;split at e
  ·cases e
  ·cases eb:zo as E with
   |stuck=>rw[eb]at e;cases e
   |exc _ _=>rw[eb]at e;cases e
   |ok p=>obtain⟨a,b⟩:=p;rw[eb]at e;cases e;simp[yp as eb]
theorem zAX{F:MF}{n:Nat}{as:List Arg}{Q:VK}(hn:as.length=n)(h:tM X (jo F as) σ H Q):tArgs X as σ H λvs H1=>spM X.K X.mg n F vs H1 Q (EX X σ):=by
 obtain⟨M,E,hl,fr,k⟩:=h;unfold jo at k;refine YG (T0:=[]) hl fr ?_;cases ea:zo as E with
 |stuck=>rw[ea]at k;exact k
 |exc x E1=>rw[ea]at k;exact k
 |ok p =>
  obtain⟨ars,E1⟩:=p;rw[ea]at k;intro vs H1 av g;dsimp only at k;cases e1:zK ars E1 with
  |stuck=>rw[e1]at k;exact k.elim
  |exc _ _=>rw[e1]at k;exact k.elim
  |ok p =>
   obtain⟨ss,E2⟩:=p;rw[e1]at k;dsimp only at k;cases e2:F ss with
   |stuck=>rw[e2]at k;exact k.elim
   |exc x o =>
    rw[e2]at k;dsimp only at k;cases hl:Z7 ars with
    |false=>rw[hl]at k;exact k.elim
    |true =>
     rw[hl]at k;exact zAW ((yp as ea).trans hn) hl e1 e2 av g λC H' hm g'=>⟨⟨x.cls,false⟩,C,rfl,hm,rfl,k H' g'⟩
   |ok p =>
    obtain⟨r,outs⟩:=p;rw[e2]at k;dsimp only at k;cases e3:zH ars outs E1 E2 with
    |stuck=>rw[e3]at k;exact k.elim
    |exc _ _=>rw[e3]at k;exact k.elim
    |ok E3 =>
     rw[e3]at k;exact zAV ((yp as ea).trans hn) e1 e2 e3 av g k
inductive Mask:Fz->Fz->Prop
 |nil (Z:Fz):Mask Z []
 |keep {z:Option V×Slot} {Z W:Fz}:Mask Z W->Mask (z::Z) (z::W)
 |skip {z:Option V×Slot} {Z W:Fz}:Mask Z W->Mask (z::Z) W
 |extra {o:Option V} {Z W:Fz}:Mask Z W->Mask Z ((o,.emp)::W)
theorem Mask.emp{z:Option V×Slot}{o:Option V}{Z W:Fz}(h:Mask Z W):Mask (z::Z) ((o,.emp)::W):=.skip (.extra h)
theorem Mask.sub:∀{Z W:Fz},Mask Z W->(zz W).Sublist (zz Z)
 |_,_,.nil Z=>by simp[zz]
 |_,_,.keep (z:=z) (Z:=Z) (W:=W) h=>by
  have e:∀W:Fz,zz (z::W)=zz [z]++zz W:=λW=>zS [z] W
  rw[e Z,e W];exact h.sub.append_left _
 |_,_,.skip (z:=z) (Z:=Z) (W:=W) h=>by
  have e:∀W:Fz,zz (z::W)=zz [z]++zz W:=λW=>zS [z] W
  rw[e Z];exact h.sub.trans (sublist_append_right _ _)
 |_,_,.extra (Z:=Z) (W:=W) h=>by
  rw[yQ];exact h.sub
theorem Mask.mem:∀{Z W:Fz},Mask Z W->∀o s,s≠Slot.emp->(o,s)∈W->(o,s)∈Z
 |_,_,.nil Z,o,s,hs,h=>by cases h
 |_,_,.keep h,o,s,hs,q=>by
  rcases mem_cons.mp q with q|q
  ·subst q;exact mem_cons_self
  ·exact mem_cons_of_mem _ (h.mem o s hs q)
 |_,_,.skip h,o,s,hs,q=>mem_cons_of_mem _ (h.mem o s hs q)
 |_,_,.extra h,o,s,hs,q=>by
  rcases mem_cons.mp q with q|q
  ·cases q;exact absurd rfl hs
  ·exact h.mem o s hs q
theorem FR.mask{Z W:Fz}(f:FR K mg M H Z)(h:Mask Z W):FR K mg M H W where
 val:=λo d q=>by
  obtain⟨v,e,r⟩:=f.val o d (h.mem o _ (by intro z;cases z) q);exact⟨v,e,r.mono (jE (wj λb hb=>h.sub.subset hb))⟩
 own:=λo s ds q e=>by
  obtain⟨a,xs,e1,e2,e3,r⟩:=f.own o s ds (h.mem o s (by intro z;subst z;cases e) q) e;exact⟨a,xs,e1,e2,e3,r.mono (jE (wj λb hb=>h.sub.subset hb))⟩
 nd:=f.nd.sublist h.sub
 mal:=f.mal
def zh:List Slot->zL->List Slot
 | [],_=>[]
 | .par _::ss,s::E=>s::zh ss E
 |_::ss,_::E=>.emp::zh ss E
 |_::ss,[]=>.emp::zh ss []
def fnM(N:Nat)(body:MS):MF:=λss=>match body (ss++replicate (N-ss.length) .emp)with
 | .ok (.ret r,E')=>.ok (r,zh ss E')
 | .ok (.nx,E')=>.ok (.val .non,zh ss E')
 | .exc x E'=>.exc x (zh ss E')
 |_=>.stuck
theorem zb:∀(ss:List Slot) (E:zL),(zh ss E).length=ss.length
 | [],_=>rfl
 | .par _::ss,s::E=>by simp[zh,zb ss E]
 | .emp::ss,s::E=>by simp[zh,zb ss E]
 | .val _::ss,s::E=>by simp[zh,zb ss E]
 | .own _::ss,s::E=>by simp[zh,zb ss E]
 | .par _::ss,[]=>by simp[zh,zb ss []]
 | .emp::ss,[]=>by simp[zh,zb ss []]
 | .val _::ss,[]=>by simp[zh,zb ss []]
 | .own _::ss,[]=>by simp[zh,zb ss []]
theorem Jw:∀(ss:List Slot) (vs:List (Option V)) (σ:St) (E:zL),E.length=σ.length->vs.length=ss.length->(∀(i:Nat) ds,ss[i]?=some (.par ds)->σ[i]?=vs[i]?)->Mask (σ.zip E) (vs.zip (zh ss E))
 | [],vs,σ,E,_,_,_=>by
  simp only[zh,List.zip_nil_right];exact .nil _
 |s::ss,[],σ,E,_,h,_=>by simp at h
 |s::ss,v::vs,[],y::E,h,_,_=>by simp at h
 |s::ss,v::vs,x::σ,[],h,_,_=>by simp at h
 |s::ss,v::vs,[],[],h1,h2,h4=>by
  have ih:=Jw ss vs [] [] rfl (by simpa using h2) λi ds e=>by
   have:=h4 (i+1) ds (by simpa using e);simpa using this
  cases s<;>exact .extra ih
 |s::ss,v::vs,x::σ,y::E,h1,h2,h4=>by
  have ih:=Jw ss vs σ E (by simpa using h1) (by simpa using h2) λi ds e=>by
   have:=h4 (i+1) ds (by simpa using e);simpa using this
  cases s with
  |par ds =>
   have e:=h4 0 ds rfl;simp at e;subst e;simp only[zh,zip_cons_cons];exact .keep ih
  |emp=>simp only[zh,zip_cons_cons];exact .emp ih
  |val d=>simp only[zh,zip_cons_cons];exact .emp ih
  |own ds=>simp only[zh,zip_cons_cons];exact .emp ih
theorem Wp:∀n:Nat,(replicate n (none:Option V)).zip (replicate n Slot.emp)=replicate n (none,Slot.emp)
 |0=>rfl
 |n+1=>by simp[replicate_succ,Wp n]
theorem ZD(n:Nat):zz (replicate n ((none:Option V),Slot.emp))=[]:=by
 induction n with
 |zero=>rfl
 |succ n ih=>rw[replicate_succ,yQ,ih]
theorem FR.emps(f:FR K mg M H Z)(n:Nat):FR K mg M H (Z++replicate n (none,.emp)):=by
 have eo:zz (Z++replicate n (none,Slot.emp))=zz Z:=by rw[zS,ZD,append_nil]
 have em:Mo M (Z++replicate n (none,Slot.emp))=Mo M Z:=by unfold Mo;rw[eo]
 refine⟨λo d q=>?_,λo s ds q e=>?_,by rw[eo];exact f.nd,f.mal⟩
 ·rw[em]
  rcases mem_append.mp q with q|q
  ·exact f.val o d q
  ·have:=eq_of_mem_replicate q;cases this
 ·rw[em]
  rcases mem_append.mp q with q|q
  ·exact f.own o s ds q e
  ·have:=eq_of_mem_replicate q;cases this;cases e
theorem body_ok{N:List Str}{n:Nat}{body:MS}{vs:List V}{Q:VK}{XQ:XK}(hx:∀x σ' H',(∀C,X.mg x.cls=some (.ref C)->XQ (.ref C) none H')->XE X σ' H' x)(h:spM X.K X.mg n (fnM N.length body) vs H Q XQ):tS X body {nx:=λ_ H'=>Q .non H',rt:=Q} (L2.jD N vs) H:=by
 obtain⟨hv,M,ss,hl,f,k⟩:=h;have e0:(L2.jD N vs).zip (ss++replicate (N.length-ss.length) Slot.emp)=(vs.map some).zip ss++replicate (N.length-ss.length) (none,.emp):=by
  unfold L2.jD;rw[List.zip_append (by simp[hl]),hl,Wp]
 have hE:(ss++replicate (N.length-ss.length) Slot.emp).length=(L2.jD N vs).length:=by
  unfold L2.jD;simp[hl]
 have f0:FR X.K X.mg M H ((L2.jD N vs).zip (ss++replicate (N.length-ss.length) Slot.emp)):=by rw[e0];exact f.emps _
 have eo:∀b,b∈zz ((L2.jD N vs).zip (ss++replicate (N.length-ss.length) Slot.emp))->b∈zz ((vs.map some).zip ss):=λb hb=>by
  rw[e0,zS,ZD,append_nil]at hb;exact hb
 refine⟨M,ss++replicate (N.length-ss.length) Slot.emp,hE,f0,?_⟩;unfold fnM at k;have fin:∀{σ':St} {E':zL} {H':Hp} {v:V} {r:R},Got X.K X.mg M (L2.jD N vs) (ss++replicate (N.length-ss.length) Slot.emp) H [] σ' E' H' [(some v,r.slot)] ->
   (∀v H',(zh ss E').length=vs.length->FR X.K X.mg M H' ((some v,r.slot)::(vs.map some).zip (zh ss E'))->Step M H ((vs.map some).zip ss) H' ((some v,r.slot)::(vs.map some).zip (zh ss E'))->Q v H')->Q v H':=λ{σ' E' H' v r} g kk=>by
  have mk:Mask (σ'.zip E') ((vs.map some).zip (zh ss E')):=Jw ss _ σ' E' g.len (by simp[hl]) λi ds e=>by
   have hi:i<ss.length:=(List.getElem?_eq_some_iff.mp e).1;have e1:(ss++replicate (N.length-ss.length) Slot.emp)[i]?=some (.par ds):=by rw[List.getElem?_append_left hi];exact e
   have:=(g.pk i ds e1).2;rw[this];unfold L2.jD;rw[List.getElem?_append_left (by simp;omega)]
  refine kk v H' (by rw[zb,hl]) (g.fr.mask (.keep mk)) ?_;exact(g.st.weak λb hb=>(Mask.keep mk).sub.subset hb).left eo
 cases eb:body (ss++replicate (N.length-ss.length) Slot.emp)with
 |stuck=>rw[eb]at k;exact k
 |exc x E' =>
  rw[eb]at k;intro σ' H' g;refine hx x σ' H' λC hm=>k C H' hm (g.fr.sub (List.nil_sublist _)) ?_
  exact(g.st.weak λb hb=>by cases hb).left eo
 |ok p =>
  obtain⟨fl,E'⟩:=p;rw[eb]at k;cases fl with
  |bk=>exact k.elim
  |ct=>exact k.elim
  |ret r=>exact λv σ' H' g=>fin g k
  |nx=>exact λσ' H' g=>fin (r:=.val .non) (g.flat (d:=.non) rfl) k
end
section
variable{P:Program}{w:World}{K:PySem.W.Frag}{mg:Str->Option Value}{base:Heap}
theorem fn_ok{c:Bool}{x qual:Str}{st:Stmt}{f:Addr}{fd:FuncData}{N ps:List Str}{k:Nat}{body:MS}(F:Fun K x qual st f fd)(S:FnScope N ps (zT st))
  (hb:∀(cdv:Value) (A:Around) (outer:List Env) (s:Shared) (H:Hp) (E:XK),(c=true->A.handled=none)->RoomN k (A.deeper (PyProof.Rows.envOfC qual (zT st) s.heap.objs.size f cdv)) ->
   GU (cxN c P w K mg base N qual (zT st) f cdv A outer s H E) (yd st) body):FnOkN c P w K mg base (k+1) f fd ps (spM K mg ps.length (fnM N.length body)):=by
 obtain⟨oc,od,kV,doc,pm,an,cdv,ct,osl,rfl,lk,hcd⟩:=F.ex;exact fn_ofN lk hcd S (λvs H Q E h=>h.1) λA outer s H vs Q E hd hr h=>⟨_,hb cdv A outer s H E hd hr,body_ok (X:=cxN c P w K mg base N qual (zT st) f cdv A outer s H E) (λx σ' H' hE=>zAD hE) h⟩
end
section
variable{X:Cx}{k:Nat}{f:Addr}{fd:FuncData}{ps:List Str}{F:MF}{x:Str}{p pos:Pos}{e:Expr}{es:List Expr}{as:List Arg}
theorem ok_call{c:Bool}(G:FnOkN c X.prog X.w X.K X.mg X.base k f fd ps (spM X.K X.mg ps.length F))(hd:c=true->X.A.handled=none)(hr:RoomN k X.A)(hg:Gl X x)(hm:X.mg x=some (.ref f))(hk:keepIn X.K (.ref f)=true)(hb:J4 X.K fd ps [])(ha:zBK X (e::es) as)(hn:as.length=ps.length:=by rfl)
  (hdb:(x==("__debug__":Str))=false:=by decide) (he:zW e=false:=by rfl) (hpl:yj es=true:=by rfl):EOk X (.Call (.Name x p) (e::es) [] pos) (jo F as) :=
 zy (zAC G hd hr hg hm hk hb ha hdb (zd he) (wk hpl)) λσ H Q=>zAX hn
end
end DV
namespace DV
open PySem L2
section
variable{X:Cx}{σ:St}{H:Hp}
end
end DV
namespace L2
open PySem PySem.Spec PyProof.Rows
def cxB(X:Cx)(N:List Str)(scope:Scope)(cl:List (Str×Addr))(C:Addr)(ex:List Addr)(s:Shared)(H:Hp):Cx :=
 {X with N:=N,s₀:=s,H₀:=H,env:=compEnvC scope cl C X.env,outer:=X.stack,ex:=ex,fn:=λy=>scope.names.lookup y==some NameKind.cell,pn:=[]}
theorem wV{prog:Program}{w:World}{A:Around}{R:Result->Shared->Prop}{s:Shared}{elt target iter:Expr}{ifs:List Expr}{scope:Scope}{pos:Pos}{it acc:Value}{env:Env}(I:Nat->Shared->Prop)
  (turn:∀n s,I n s->wpAny (model prog w) A (pyNext it) (λr s₁=>match r with
   |none=>R (.ok .next) s₁
   |some v=>wpAny (model prog w) A (letOwnedTupleGo target it v) (λ_ s₁=>wpAny (model prog w) A (assign target env v) (λ_ s₂ =>
     wpAny (model prog w) A (forIn ifs true λc r=>if r=true then do let ok <- isTrue c env (eval c env);pure (ForInStep.yield ok)else pure (ForInStep.yield r)) (λok s₃ =>
      if ok=true then wpAny (model prog w) A (eval elt env) (λx s₄ =>
       wpAny (model prog w) A (call (.builtin "list.append") [acc,x]) (λ_ s₅=>∃m,m<n/\I m s₅) (notedBy (model prog w) A env λe s'=>R (.error e) s') s₄) (notedBy (model prog w) A env λe s'=>R (.error e) s') s₃
      else ∃m,m<n/\I m s₃) (notedBy (model prog w) A env λe s'=>R (.error e) s') s₂) (notedBy (model prog w) A env λe s'=>R (.error e) s') s₁) (notedBy (model prog w) A env λe s'=>R (.error e) s') s₁) (notedBy (model prog w) A env λe s'=>R (.error e) s') s)
  (n:Nat) (h:I n s) :
  codeAny (model prog w) A (.compLoop (.ListComp elt [⟨target,iter,ifs,0⟩] scope pos) 0 it acc env) R s:=by
 refine codeAny_loop rfl I (λn s hI=>?_) n h;show wpAny _ A ((compTurn (.ListComp elt [⟨target,iter,ifs,0⟩] scope pos) 0 it acc env).onRaise (λx=>do noteFrame x env;theTreesLotGoes x)) _ _ s;refine wpAny_noted ?_;rw[compTurn_list];refine wpAny_bind (wpAny_standAt (wpAny_bind (wpAny_mono (turn n s hI) (λr s₁ h₁=>?_) λ_ _ h'=>h')));cases r with
 |none=>exact wpAny_pure h₁
 |some v =>
  refine wpAny_bind (wpAny_mono h₁ (λ_ s₁' h₁'=>?_) λ_ _ h'=>h');refine wpAny_bind (wpAny_mono h₁' (λ_ s₂ h₂=>wpAny_bind (wpAny_mono h₂ (λok s₃ h₃=>?_) λ_ _ h'=>h')) λ_ _ h'=>h');cases ok with
  |false=>exact wpAny_pure ⟨rfl,h₃⟩
  |true =>
   exact wpAny_bind (wpAny_bind (wpAny_mono h₃ (λx s₄ h₄=>wpAny_bind (wpAny_mono h₄ (λ_ s₅ h₅=>wpAny_pure (wpAny_pure ⟨rfl,h₅⟩)) λ_ _ h'=>h')) λ_ _ h'=>h'))
def zBL(X:Cx)(ifs:List Expr)(t:TT):Prop:=∀(pins:List (Addr×Obj)) (s:Shared) (σ:St) (H:Hp) (Q:Bool->Hp->Prop),Inv X pins σ H s->t σ H Q ->
 wpAny (model X.prog X.w) X.A (forIn ifs true λc r=>if r=true then do let ok <- isTrue c X.env (eval c X.env);pure (ForInStep.yield ok)else pure (ForInStep.yield r)) (TP X pins σ Q) X.xe s
theorem pif_nil{X:Cx}:zBL X [] (λσ H Q=>Q true H):=λpins s σ H Q I h=>wpAny_tests_nil ⟨H,I,h⟩
theorem pif_one{X:Cx}{c:Expr}{t:TT}(h:PT X c t):zBL X [c] t:=λpins s σ H Q I q=>wpAny_tests_one (h pins s σ H Q I q)
def yE(nl:Nat)(caps:List Nat)(σ:St):St:=replicate nl none++caps.map λj=>(σ[j]?).getD none
def zAY(nl:Nat)(caps:List Nat)(wi:TI)(g:TG)(tt:TT)(te:TE):TE:=λσ H Q=>wi σ H λJ H1=>∀D,H1 D=none->∃W:Nat->Nat->St->Hp->Prop,(∃m,W 0 m (yE nl caps σ) (upd H1 D (.lst [])))/\∀i m σ' H',W i m σ' H' ->
 (J.stop i H'/\Q (.ref D) H')\/(J.go i H'/\∃Nx:St->Hp->Prop,(∀σ'' H'',Nx σ'' H''->∃m',m'<m/\W (i+1) m' σ'' H'')/\∀x H'',J.yld i H' x H''->g x σ' H'' λσ2 H2 =>
  tt σ2 H2 λb H3=>if b=true then te σ2 H3 λy H4=>∃ys,H4 D=some (.lst ys)/\ys.length<sizeLine/\Nx σ2 (upd H4 D (.lst (ys++[y])))else Nx σ2 H3)
theorem wK{env:Env}:∀{names:List (Str×NameKind)} {x:Str} {k:NameKind},(names.map λ(n,k)=>if(k==NameKind.free&&env.scope.kind==.function&&env.kindOf n==some .cell)then(n,NameKind.cell)else(n,k)).lookup x=some k ->
  ∃k0,names.lookup x=some k0/\(k=k0\/(k0=.free/\k=.cell))
 | [],_,_,h=>by simp at h
 | (n,k1)::r,x,k,h=>by
  have ih:=@wK env r x k;rw[map_cons]at h;by_cases hc:(k1==NameKind.free&&env.scope.kind==.function&&env.kindOf n==some .cell)=true
  ·simp only[hc,if_true]at h
   cases hx:x==n with
   |true =>
    simp only[lookup_cons,hx]at h ⊢;cases h;refine⟨k1,rfl,.inr ⟨?_,rfl⟩⟩;simp only[Bool.and_eq_true,beq_iff_eq]at hc;exact hc.1.1
   |false=>simp only[lookup_cons,hx]at h ⊢;exact ih h
  ·have hc':(k1==NameKind.free&&env.scope.kind==.function&&env.kindOf n==some .cell)=false:=by simpa using hc
   simp only[hc',Bool.false_eq_true,if_false]at h;cases hx:x==n with
   |true=>simp only[lookup_cons,hx]at h ⊢;cases h;exact⟨k1,rfl,.inl rfl⟩
   |false=>simp only[lookup_cons,hx]at h ⊢;exact ih h
theorem JY{env:Env}:∀{names:List (Str×NameKind)} {x:Str},names.lookup x=some .free->env.scope.kind=.function->env.kindOf x=some .cell ->
  (names.map λ(n,k)=>if(k==NameKind.free&&env.scope.kind==.function&&env.kindOf n==some .cell)then(n,NameKind.cell)else(n,k)).lookup x=some .cell
 | [],_,h,_,_=>by simp at h
 | (n,k1)::r,x,h,hk,hc=>by
  have ih:=@JY env r x;rw[map_cons];cases hx:x==n with
  |true =>
   have:x=n:=by simpa using hx
   subst this;simp only[lookup_cons,hx]at h;cases h;have:(NameKind.free==NameKind.free&&env.scope.kind==.function&&env.kindOf x==some .cell)=true:=by simp[hk,hc]
   simp only[this,if_true,lookup_cons,hx]
  |false =>
   simp only[lookup_cons,hx]at h;by_cases hcc:(k1==NameKind.free&&env.scope.kind==.function&&env.kindOf n==some .cell)=true
   ·simp only[hcc,if_true,lookup_cons,hx];exact ih h hk hc
   ·have hcc':(k1==NameKind.free&&env.scope.kind==.function&&env.kindOf n==some .cell)=false:=by simpa using hcc
    simp only[hcc',Bool.false_eq_true,if_false,lookup_cons,hx];exact ih h hk hc
def ug(env:Env):List (Str×NameKind)->List (Str×Addr)->List (Str×Addr)
 | [],cs=>cs
 | (n,k)::r,cs=>if k==.free then ug env r ((n,(env.cells.lookup n).getD 0)::cs)else ug env r cs
theorem JD{env:Env}:∀(names:List (Str×NameKind)) (cs:List (Str×Addr)),(∀y∈names,y.2=.free->∃c,env.cells.lookup y.1=some c) ->
  (forIn names cs (λx r=>if(x.snd==NameKind.free)=true then do
    let c <- cellOf env x.fst
    pure (ForInStep.yield ((x.fst,c)::r))
   else pure (ForInStep.yield r)):Sem (List (Str×Addr)))=pure (ug env names cs)
 | [],cs,_=>by rfl
 | (n,k)::r,cs,h=>by
  rw[List.forIn_cons];dsimp only;by_cases hk:(k==NameKind.free)=true
  ·obtain⟨c,hc⟩:=h (n,k) mem_cons_self (by simpa using hk)
   have ec:cellOf env n=pure c:=by unfold cellOf;rw[hc]
   rw[if_pos hk,ec];show(forIn r ((n,c)::cs) _:Sem (List (Str×Addr)))=_;rw[JD r _ λy hy=>h y (mem_cons_of_mem _ hy)]
   conv=>rhs;unfold ug
   rw[if_pos hk,hc];rfl
  ·rw[if_neg hk]
   show(forIn r cs _:Sem (List (Str×Addr)))=_
   rw[JD r _ λy hy=>h y (mem_cons_of_mem _ hy)]
   conv=>rhs;unfold ug
   rw[if_neg hk]
theorem jV{env:Env}:∀(names:List (Str×NameKind)) (cs:List (Str×Addr)) (x:Str),(∀y∈names,y.2=.free->∃c,env.cells.lookup y.1=some c)->(∀c,cs.lookup x=some c->env.cells.lookup x=some c) ->
  (∀c,(ug env names cs).lookup x=some c->env.cells.lookup x=some c)/\(((∃c,cs.lookup x=some c)\/∃y∈names,y.1=x/\y.2=.free)->∃c,(ug env names cs).lookup x=some c)
 | [],cs,x,_,hcs=>⟨hcs,λh=>h.elim id λ⟨y,hy,_⟩=>by cases hy⟩
 | (n,k)::r,cs,x,h,hcs=>by
  unfold ug;by_cases hk:(k==NameKind.free)=true
  ·rw[if_pos hk]
   obtain⟨c,hc⟩:=h (n,k) mem_cons_self (by simpa using hk);have ih:=jV r ((n,(env.cells.lookup n).getD 0)::cs) x (λy hy=>h y (mem_cons_of_mem _ hy)) (λc' e=>by
    rw[lookup_cons]at e;cases hx:x==n with
    |true =>
     have:x=n:=by simpa using hx
     subst this;rw[hx]at e;simp only[hc,Option.getD_some]at e;rw[hc];exact e
    |false=>rw[hx]at e;exact hcs c' e)
   refine⟨ih.1,λq=>ih.2 ?_⟩;rcases q with⟨c',q⟩|⟨y,hy,q1,q2⟩
   ·left
    rw[lookup_cons];cases hx:x==n with
    |true=>exact⟨_,rfl⟩
    |false=>exact⟨c',q⟩
   ·rcases mem_cons.mp hy with hy|hy
    ·subst hy
     left
     have q1:n=x:=q1;subst q1;exact⟨(env.cells.lookup n).getD 0,by rw[lookup_cons,beq_self_eq_true]⟩
    ·right;exact⟨y,hy,q1,q2⟩
  ·rw[if_neg hk]
   have ih:=jV r cs x (λy hy=>h y (mem_cons_of_mem _ hy)) hcs;refine⟨ih.1,λq=>ih.2 ?_⟩;rcases q with q|⟨y,hy,q1,q2⟩
   ·exact .inl q
   ·rcases mem_cons.mp hy with hy|hy
    ·subst hy
     exact absurd (by simpa using q2) hk
    ·exact .inr ⟨y,hy,q1,q2⟩
theorem YH:∀(names:List (Str×NameKind)) (h:Heap) (acc:List (Str×Addr)) (x:Str) (c:Addr),(cellsFrom h.objs.size names acc).lookup x=some c ->
  acc.lookup x=some c\/((x,NameKind.cell)∈names/\h.objs.size<=c/\(pushCells h names).IsCell c none)
 | [],h,acc,x,c,e=>.inl e
 | (n,k)::r,h,acc,x,c,e=>by
  unfold cellsFrom at e;unfold pushCells;split at e
  ·rename_i hk
   rw[if_pos hk];have sz:(h.push {cls:=.type "cell",data:=.cell none}).objs.size=h.objs.size+1:=size_push ..;rw[<- sz]at e;rcases YH r (h.push {cls:=.type "cell",data:=.cell none}) _ x c e with q|⟨q1,q2,q3⟩
   ·rw[lookup_cons]at q
    cases hx:x==n with
    |true =>
     rw[hx]at q;cases q;have hx':x=n:=by simpa using hx
     have hk':k=.cell:=by simpa using hk
     subst hx';subst hk';exact .inr ⟨mem_cons_self,le_refl _,⟨_,pushCells_keeps _ _ _ _ (get?_push_size _ rfl),rfl⟩⟩
    |false=>rw[hx]at q;exact .inl q
   ·exact .inr ⟨mem_cons_of_mem _ q1,by rw[sz]at q2;omega,q3⟩
  ·rename_i hk
   rw[if_neg hk];rcases YH r h acc x c e with q|⟨q1,q2,q3⟩
   ·exact .inl q
   ·exact .inr ⟨mem_cons_of_mem _ q1,q2,q3⟩
theorem ZE:∀(names:List (Str×NameKind)) (n:Nat) (acc:List (Str×Addr)) (x:Str),(x,NameKind.cell)∉names->(cellsFrom n names acc).lookup x=acc.lookup x
 | [],n,acc,x,_=>rfl
 | (y,k)::r,n,acc,x,h=>by
  simp only[mem_cons,not_or]at h;unfold cellsFrom;split
  ·rename_i hk
   rw[ZE r _ _ x h.2,lookup_cons];cases hx:x==y with
   |true =>
    have hx':x=y:=by simpa using hx
    have hk':k=.cell:=by simpa using hk
    subst hx';subst hk';exact absurd rfl h.1
   |false=>rfl
  ·exact ZE r _ _ x h.2
theorem Gb:∀(names:List (Str×NameKind)) (n:Nat) (acc:List (Str×Addr)) (x:Str) (c:Addr),(x,NameKind.cell)∈names->(cellsFrom n names acc).lookup x=some c->n<=c
 | [],_,_,_,_,h,_=>by cases h
 | (y,k)::r,n,acc,x,c,h,e=>by
  unfold cellsFrom at e;by_cases hr:(x,NameKind.cell)∈r
  ·split at e
   ·exact Nat.le_of_succ_le (Gb r _ _ x c hr e)
   ·exact Gb r _ _ x c hr e
  ·rcases mem_cons.mp h with q|q
   ·cases q
    rw[if_pos (by rfl),ZE r _ _ _ hr,lookup_cons,beq_self_eq_true]at e;cases e;exact le_refl _
   ·exact absurd q hr
theorem Gc:∀(names:List (Str×NameKind)) (n:Nat) (acc:List (Str×Addr)),(∀x y c,acc.lookup x=some c->acc.lookup y=some c->x=y)->(∀x c,acc.lookup x=some c->c<n) ->
  ∀x y c,(cellsFrom n names acc).lookup x=some c->(cellsFrom n names acc).lookup y=some c->x=y
 | [],n,acc,hi,_,x,y,c,e1,e2=>hi x y c e1 e2
 | (z,k)::r,n,acc,hi,hb,x,y,c,e1,e2=>by
  unfold cellsFrom at e1 e2;split at e1
  ·refine Gc r (n+1) ((z,n)::acc) (λx y c e1 e2=>?_) (λx c e=>?_) x y c e1 (by rename_i hk;rwa [if_pos hk]at e2)
   ·rw[lookup_cons]at e1 e2
    cases hx:x==z with
    |true =>
     rw[hx]at e1;cases e1;have hx':x=z:=by simpa using hx
     cases hy:y==z with
     |true =>
      have hy':y=z:=by simpa using hy
      rw[hx',hy']
     |false=>rw[hy]at e2;exact absurd (hb y _ e2) (lt_irrefl _)
    |false =>
     rw[hx]at e1;cases hy:y==z with
     |true=>rw[hy]at e2;cases e2;exact absurd (hb x _ e1) (lt_irrefl _)
     |false=>rw[hy]at e2;exact hi x y c e1 e2
   ·rw[lookup_cons]at e
    cases hx:x==z with
    |true=>rw[hx]at e;cases e;exact lt_succ_self _
    |false=>rw[hx]at e;exact lt_succ_of_lt (hb x c e)
  ·exact Gc r n acc hi hb x y c e1 (by rename_i hk;rwa [if_neg hk]at e2)
theorem Jq{M:Model}{A:Around}{E:Value->Shared->Prop}{s:Shared}{scope:Scope}{globals:Addr}{cl:List (Str×Addr)}{qual:Str}{env:Env}{Q:Env->Shared->Prop}
  (hQ:Q (newEnv scope s.heap.objs.size globals (cellsFrom (s.heap.objs.size+1) scope.names cl) qual none .none (some env) builtinsNs) {s with heap:=pushCells (s.heap.push {cls:=.type "dict",data:=.dict #[]}) scope.names}) :
  wpAny M A (newFunctionEnv scope globals cl [] qual none .none (some env)) Q E s:=by
 simp only[newFunctionEnv,Option.isSome_some,if_true];refine wpAny_bind (wpAny_alloc ?_);refine wpAny_bind (wpAny_layCells _ (λname kind cells=>by cases hkc:kind==NameKind.cell<;>simp[hkc]) _ _ _ _ ?_);rw[show({s with heap:=s.heap.push {cls:=.type "dict",data:=.dict #[]}}:Shared).heap.objs.size=s.heap.objs.size+1 from size_push ..]
 rw[List.forIn_nil];exact wpAny_bind (wpAny_pure (wpAny_pure hQ))
section
variable{X:Cx}{elt target iter:Expr}{ifs:List Expr}{scope:Scope}{pos:Pos}{nl:Nat}{caps:List Nat}{N':List Str}
theorem Z8{wi:TI}{g:TG}{tt:TT}{te:TE}{use:Option (Value->Sem Unit)}{QQ:Value->Shared->Prop}{pins:List (Addr×Obj)}{s:Shared}{σ:St}{H:Hp}{Q:VK}{p0:Pos}(hx:∀e s,¬X.xe e s)(hc:X.calm=true)(hkind:scope.kind=.function)(hnames:∀y∈scope.names,y.2=.local->scope.names.lookup y.1=some .local)(hcell:∀y∈scope.names,y.2=.cell->scope.names.lookup y.1=some .cell)
  (hfree:(scope.names.all λy=>y.2 != .free||X.env.kindOf y.1==some .cell)=true)
  (hlen:N'.length=nl+caps.length) (hcap:∀(i j:Nat),caps[i]?=some j->∃x,N'[nl+i]?=some x/\X.N[j]?=some x/\scope.names.lookup x=some .free)
  (hi:PI X target iter wi) (hg:∀cl C ex s H,PG (cxB X N' scope cl C ex s H) target g) (ht:∀cl C ex s H,zBL (cxB X N' scope cl C ex s H) ifs tt) (he:∀cl C ex s H,PE (cxB X N' scope cl C ex s H) elt te)
  (hs:∀x,foldedSetIterable iter X.env x=pure x) (I:Inv X pins σ H s) (h:zAY nl caps wi g tt te σ H Q)
  (hfin:∀(D C:Addr) (H5:Hp) (s6:Shared) (m6:Str->Option Value),Inv X pins σ H5 s6->ue X pins H5 C->s6.heap.Ns C m6->Q (.ref D) H5->compPost (model X.prog X.w) X.A X.xe use QQ (.ref D) C (.ok .next) s6) :
  wpAny (model X.prog X.w) X.A (comprehension (.ListComp elt [⟨target,iter,ifs,0⟩] scope pos) scope X.env p0 (newList []) false (eval iter X.env) use) QQ X.xe s:=by
 have hfr:∀y∈scope.names,y.2=.free->X.env.kindOf y.1=some .cell:=λy hy e=>by
  have:=all_eq_true.mp hfree y hy;rw[e]at this;simpa using this
 have hcl:∀y∈scope.names,y.2=.free->∃c,X.env.cells.lookup y.1=some c:=λy hy e=>I.ok.has y.1 (.inl (hfr y hy e))
 have hclos:closureFor scope X.env=pure (ug X.env scope.names []):=by
  simp only[closureFor];rw[JD scope.names [] hcl];rfl
 have cl1:∀x c,(ug X.env scope.names []).lookup x=some c->X.env.cells.lookup x=some c:=λx c e=>(jV scope.names [] x hcl (λ_ z=>by cases z)).1 c e
 have cl2:∀x,(∃y∈scope.names,y.1=x/\y.2=.free)->∃c,(ug X.env scope.names []).lookup x=some c:=λx q=>(jV scope.names [] x hcl (λ_ z=>by cases z)).2 (.inr q)
 generalize ug X.env scope.names []=cl at hclos cl1 cl2;refine wpAny_comprehension_free (use:=use) rfl hs hclos hkind hnames (thn (hi pins s σ H _ I h) λxv s1 h1=>thn h1 λitv s2 h2=>?_);obtain⟨it,fp,tn,J,H2,e,I2,T,st2,f2,turn⟩:=h2;subst e;refine wpAny_newObj_type (Jq ?_) (by show(#[]:Array Value).size<=sizeLine;simp);dsimp only;generalize hH3:s2.heap.push {cls:=.type "list",dict:=none,data:=.seq ([]:List Value).toArray}=h3;have hC:h3.objs.size=s2.heap.objs.size+1:=by rw[<- hH3,size_push]
 have hD:H2 s2.heap.objs.size=none:=I2.hok.fresh (le_refl _);obtain⟨W,⟨m0,w0⟩,step⟩:=turn s2.heap.objs.size hD
 -- the state at the block's entry
 have I3:Inv X pins σ (upd H2 s2.heap.objs.size (.lst [])) {s2 with heap:=h3}:=by
  rw[<- hH3];exact I2.laid (t':=s2.toks) (λb o q=>get?_push_of_some _ q) (le_refl _) ⟨zero_le _,[],0,.nil,get?_push_size _ rfl⟩
 have hcfr:∀x,scope.names.lookup x=some .free->(x,NameKind.cell)∉scope.names:=λx e z=>by
  have:=hcell _ z rfl;rw[e]at this;cases this
 have szp:(h3.push {cls:=.type "dict",data:=.dict #[]}).objs.size=h3.objs.size+1:=size_push ..;have cw:∀x c,(cellsFrom (h3.objs.size+1) scope.names cl).lookup x=some c->cl.lookup x=some c\/((x,NameKind.cell)∈scope.names/\h3.objs.size+1<=c/\(pushCells (h3.push {cls:=.type "dict",data:=.dict #[]}) scope.names).IsCell c none):=λx c e=>by
  rw[<- szp]at e ⊢;exact YH _ _ _ x c e
 have cfr:∀x,scope.names.lookup x=some .free->(cellsFrom (h3.objs.size+1) scope.names cl).lookup x=cl.lookup x:=λx e=>ZE _ _ _ x (hcfr x e)
 have chas:∀x,scope.names.lookup x=some .cell->∃c,(cellsFrom (h3.objs.size+1) scope.names cl).lookup x=some c:=λx e=>by
  have:=cellsFrom_some scope.names (h3.objs.size+1) cl (x:=x) (.inl e);exact Option.isSome_iff_exists.mp this
 have clt:∀x c,cl.lookup x=some c->c<h3.objs.size:=λx c e=>by
  obtain⟨v,q⟩:=I3.cell x c (cl1 x c e);exact q.lt
 have cinj:=Gc scope.names (h3.objs.size+1) cl (λx y c e1 e2=>I.ok.inj x y c (cl1 x c e1) (cl1 y c e2)) λx c e=>lt_succ_of_lt (clt x c e)
 have hns₁:(pushCells (h3.push {cls:=.type "dict",data:=.dict #[]}) scope.names).Ns h3.objs.size λ_=>none:=(Heap.Ns.new h3 (.type "dict")).keeps (pushCells_keeps _ _)
 have old:∀b o,h3.get? b=some o->(pushCells (h3.push {cls:=.type "dict",data:=.dict #[]}) scope.names).get? b=some o:=λb o e=>pushCells_keeps _ _ b o (get?_push_of_some _ e)
 generalize hh1:pushCells (h3.push {cls:=.type "dict",data:=.dict #[]}) scope.names=h₁ at hns₁ old cw ⊢;generalize hcs:cellsFrom (h3.objs.size+1) scope.names cl=cs at cw cfr chas cinj ⊢;have fpD:∀b∈fp,b≠s2.heap.objs.size:=λb hb z=>by
  obtain⟨o,e,_⟩:=T.obj 0 s2.heap st2 b hb;subst z;exact absurd (lt_size e) (lt_irrefl _)
 have fp3:∀b∈fp,upd H2 s2.heap.objs.size (.lst []) b=none:=λb hb=>by rw[zg (fpD b hb)];exact(f2 b hb).1
 have fpC:∀b∈fp,b≠h3.objs.size:=λb hb z=>by
  obtain⟨o,e,_⟩:=T.obj 0 s2.heap st2 b hb;have q:b<s2.heap.objs.size:=lt_size e;rw[z,hC]at q;exact absurd q (not_lt.mpr (le_succ _))
 have hCn:upd H2 s2.heap.objs.size (.lst []) h3.objs.size=none:=I3.hok.fresh (le_refl _);have fpok:∀b∈fp,(b∈X.ex\/X.s₀.heap.objs.size<=b)/\b≠X.env.locals/\(∀x c,X.env.cells.lookup x=some c->c≠b)/\∀p∈X.pn++pins,p.1≠b:=λb hb=>by
  obtain⟨_,q2,_,q4,q5,q6⟩:=f2 b hb;exact⟨q4,q2,q5,q6⟩
 have fpH:∀b∈fp,b<h3.objs.size:=λb hb=>by
  obtain⟨o,e,_⟩:=T.obj 0 s2.heap st2 b hb;have q:b<s2.heap.objs.size:=lt_size e;rw[hC];exact lt_succ_of_lt q
 have fpcs:∀b∈fp,∀x c,cs.lookup x=some c->c≠b:=λb hb x c e=>by
  rcases cw x c e with q|⟨_,q,_⟩
  ·exact(fpok b hb).2.2.1 x c (cl1 x c q)
  ·intro z;subst z
   exact absurd (lt_of_lt_of_le (fpH _ hb) (Nat.le_of_succ_le q)) (lt_irrefl _)
 let Y:Cx:=cxB X N' scope cs h3.objs.size fp {s2 with heap:=h3} (upd H2 s2.heap.objs.size (.lst []))
 have kindY:∀x k,Y.env.kindOf x=some k->∃k0,scope.names.lookup x=some k0/\(k=k0\/(k0=.free/\k=.cell)):=λx k e=>wK e
 have okY:Y.Ok:={
  mod:=I.ok.mod
  kind:=hkind
  glob:=I.ok.glob
  blt:=I.ok.blt
  above:=le_refl _
  inj:=cinj
  has:=λx q=>by
   have:scope.names.lookup x=some .cell\/scope.names.lookup x=some .free:=by
    rcases q with q|q
    ·obtain⟨k0,e,z⟩:=kindY x _ q
     rcases z with z|z
     ·subst z;exact .inl e
     ·rw[z.1]at e;exact .inr e
    ·obtain⟨k0,e,z⟩:=kindY x _ q
     rcases z with z|z
     ·subst z;exact .inr e
     ·rw[z.1]at e;exact .inr e
   rcases this with q|q
   ·exact chas x q
   ·obtain⟨c,e⟩:=cl2 x ⟨(x,.free),PySem.mem_of_lookup q,rfl,rfl⟩
    exact⟨c,by show cs.lookup x=_;rw[cfr x q];exact e⟩
  cab:=λx c z e=>by
   have z:scope.names.lookup x=some .cell:=by
    have z:(scope.names.lookup x==some NameKind.cell)=true:=z;simpa using z
   have e:cs.lookup x=some c:=e;rw[<- hcs]at e;exact le_trans (le_succ _) (Gb _ _ _ x c (PySem.mem_of_lookup z) e)
  hd:=I.ok.hd
  frames:=I.ok.frames
  stk:=.inl rfl
  exf:=λb hb=>⟨fpC b hb,fpcs b hb⟩
  bs:=λb o e=>I3.bs b o e
  bsz:=le_trans I.ok.bsz I3.sz
  noex:=λb o e hb=>by
   obtain⟨q,_⟩:=fpok b hb;rcases q with q|q
   ·exact I.ok.noex b o e q
   ·exact absurd (lt_of_lt_of_le (lt_size e) I.ok.bsz) (not_lt.mpr q)
  exfs:=λb hb z=>by
   have:=I2.stkSub b z;rcases mem_cons.mp this with q|q
   ·exact(fpok b hb).2.1 q
   ·exact(f2 b hb).2.2.1 q
  funs:=I3.stack
  frf:=I3.stkFree}
 have keep1:∀b o,h3.get? b=some o->h₁.get? b=some o:=old;have lenY:(yE nl caps σ).length=N'.length:=by unfold yE;simp[hlen]
 have IY:Inv Y [] (yE nl caps σ) (upd H2 s2.heap.objs.size (.lst [])) {s2 with heap:=h₁}:={
  ok:=okY
  os:=rfl
  bare:=I3.bare
  base:=Un.kept keep1
  loc:=by
   refine⟨_,hns₁,λi x v e1 e2 e3=>?_⟩;have e1:N'[i]?=some x:=e1;have hi:nl<=i:=by
    by_cases z:nl<=i
    ·exact z
    ·unfold yE at e2
     rw[List.getElem?_append_left (by simp;omega),List.getElem?_replicate]at e2;split at e2<;>cases e2
   unfold yE at e2;rw[List.getElem?_append_right (by simpa using hi),List.length_replicate,getElem?_map]at e2;cases ej:caps[i-nl]? with
   |none=>rw[ej]at e2;cases e2
   |some j =>
    rw[ej]at e2;simp only[Option.map_some,Option.some.injEq]at e2;obtain⟨x',c1,c2,c3⟩:=hcap (i-nl) j ej;have ex:x'=x:=by
     rw[show nl+(i-nl)=i by omega,e1]at c1;exact(Option.some.inj c1).symm
    subst ex;have e4:σ[j]?=some (some v):=by
     cases z:σ[j]? with
     |none=>rw[z]at e2;cases e2
     |some o=>rw[z]at e2;simp at e2;rw[e2]
    have kx:X.env.kindOf x'=some .cell:=hfr (x',.free) (PySem.mem_of_lookup c3) rfl;obtain⟨mm,_,lk⟩:=I3.loc;obtain⟨u,ru,lu⟩:=lk j x' v c2 e4 (.inr (.inl kx));refine⟨u,ru,?_⟩;rcases lu with⟨z,_⟩|⟨_,c,d1,d2⟩
    ·rw[kx]at z;cases z
    ·obtain⟨c',d3⟩:=cl2 x' ⟨(x',.free),PySem.mem_of_lookup c3,rfl,rfl⟩
     have:c'=c:=by have:=cl1 x' c' d3;rw[d1]at this;exact(Option.some.inj this).symm
     subst this;exact .inr ⟨.inl (JY c3 I.ok.kind kx),c',by show cs.lookup _=_;rw[cfr x' c3];exact d3,d2.keeps old⟩
  cell:=λx c e=>by
   rcases cw x c e with e|⟨_,_,q⟩
   ·obtain⟨v,q⟩:=I3.cell x c (cl1 x c e)
    exact⟨v,q.keeps old⟩
   ·exact⟨_,q⟩
  free:=hCn
  freeC:=λx c e=>by
   rcases cw x c e with e|⟨_,q,_⟩
   ·exact I3.freeC x c (cl1 x c e)
   ·exact I3.hok.fresh (le_trans (le_succ _) q)
  pin:=λp hp=>absurd (show p∈([]:List (Addr×Obj))from hp) (by simp)
  hok:=I3.hok.kept old
  len:=lenY}
 have st1:tn 0 h₁:=T.keep 0 s2.heap h₁ st2 λb hb o e=>old b o (by rw[<- hH3];exact get?_push_of_some _ e)
 have fpY:∀{H':Hp},(∀b∈fp,H' b=none)->∀b∈fp,ue Y [] H' b:=λhn b hb =>
  ⟨hn b hb,fpC b hb,okY.exfs b hb,.inl hb,fpcs b hb,λp hp=>absurd (show p∈([]:List (Addr×Obj))from hp) (by simp)⟩
 have hA:Y.A=X.A:=rfl;have noE:∀{E':Value->Shared->Prop} {e:Value} {s:Shared},X.xe e s->E' e s:=λq=>absurd q (hx _ _)
 have fin:∀s₄:Shared,s₄={s2 with heap:=h₁} ->
   codeAny (model X.prog X.w) X.A (.compLoop (.ListComp elt [⟨target,iter,ifs,0⟩] scope pos) 0 (.ref it) (.ref s2.heap.objs.size) Y.env)
    (compPost (model X.prog X.w) X.A X.xe use QQ (.ref s2.heap.objs.size) h3.objs.size) s₄:=by
  rintro s₄ rfl
  refine wV (λn s'=>∃i σ' H',Inv Y [] σ' H' s'/\tn i s'.heap/\(∀b∈fp,H' b=none)/\W i n σ' H') ?_ m0 ⟨0,yE nl caps σ,_,IY,st1,fp3,w0⟩
  rintro n s5 ⟨i,σ5,H5,I5,st5,fr5,w5⟩
  rcases step i n σ5 H5 w5 with⟨stop,q⟩|⟨go,Nx,hN,turn⟩
  ·refine wpAny_mono (T.done Y rfl rfl rfl hc i [] s5 σ5 H5 (λ_ _=>False) I5 (fpY fr5) st5 stop) (λr s6 ⟨hr,I6⟩=>?_) (λ_ _ z=>z.elim)
   subst hr;obtain⟨m6,n6,_⟩:=I6.loc;have u:Un (frs X.stack) fp (upd H2 s2.heap.objs.size (.lst [])) H5 h3 s6.heap:=I6.base;have I7:Inv X pins σ H5 s6:=I3.call' (s':=s6) (ch:=fp) I6.os u I6.hok I6.bare fpok;exact hfin _ _ H5 s6 m6 I7 (I3.fpOk (le_refl _) I6.free) n6 q
  ·refine wpAny_mono (T.item Y rfl rfl rfl hc i [] s5 σ5 H5 (λ_ _=>False) I5 (fpY fr5) st5 go) (λr s6 ⟨u,hr,h6⟩=>?_) (λ_ _ z=>z.elim)
   subst hr;refine wpAny_mono h6 (λ_ s7 ⟨x,H7,I7,r7,y7,st7,fr7⟩=>?_) (λ_ _ z=>z.elim);have I7':=I7.pinned (fpY fr7) (T.obj _ _ st7);refine wpAny_mono (hg _ _ _ _ _ _ s7 σ5 H7 x u _ I7' r7 (turn x H7 y7)) (λ_ s8 ⟨σ8,H8,I8,q8⟩=>?_) (λ_ _ z=>noE z);refine wpAny_mono (ht _ _ _ _ _ _ s8 σ8 H8 _ I8 q8) (λb s9 ⟨H9,I9,q9⟩=>?_) (λ_ _ z=>noE z);have again:∀{σ7:St} {H':Hp} {s':Shared},Inv Y ([]++Zj fp s7.heap) σ7 H' s'->Nx σ7 H'->∃m,m<n/\∃i σ' H',Inv Y [] σ' H' s'/\tn i s'.heap/\(∀b∈fp,H' b=none)/\W i m σ' H':=λ{σ7 H' s'} I' n7=>by
    obtain⟨m',hm,w7⟩:=hN σ7 H' n7;refine⟨m',hm,i+1,σ7,H',I'.unpinned,T.keep _ _ _ st7 λb hb o e=>(I'.pin (b,o) (mem_append_right _ (mem_append_right _ (j5 hb e)))).1,λb hb=>?_,w7⟩;obtain⟨o,e,d⟩:=T.obj _ _ st7 b hb;exact(I'.pin (b,o) (mem_append_right _ (mem_append_right _ (j5 hb e)))).2.1
   cases b with
   |false =>
    rw[if_neg Bool.false_ne_true]at q9 ⊢;exact again I9 q9
   |true =>
    rw[if_pos rfl]at q9 ⊢;refine wpAny_mono (he _ _ _ _ _ _ s9 σ8 H9 _ I9 q9) (λy s10 ⟨vy,H10,I10,r10,ys,hy,hz,n10⟩=>?_) (λ_ _ z=>noE z);have ap:=Zt (X:=Y) _ s10 σ8 H10 (.ref s2.heap.objs.size) [vy] (.ref s2.heap.objs.size) [y] (λv H'=>Nx σ8 H') I10 rfl (.cons r10 .nil) ⟨_,ys,vy,rfl,rfl,hy,hz,n10⟩;refine wpAny_mono ap (λ_ s11 ⟨v11,H11,I11,_,n11⟩=>?_) (λ_ _ z=>noE z);exact again I11 n11
 exact codeAny_compStart_list (fin _ rfl) (T.self X.A 0 _ _ _ st1 (fin _ rfl))
theorem pe_comp{wi:TI}{g:TG}{tt:TT}{te:TE}(hx:∀e s,¬X.xe e s)(hc:X.calm=true)(hkind:scope.kind=.function)(hnames:∀y∈scope.names,y.2=.local->scope.names.lookup y.1=some .local)(hcell:∀y∈scope.names,y.2=.cell->scope.names.lookup y.1=some .cell)
  (hfree:(scope.names.all λy=>y.2 != .free||X.env.kindOf y.1==some .cell)=true)
  (hlen:N'.length=nl+caps.length) (hcap:∀(i j:Nat),caps[i]?=some j->∃x,N'[nl+i]?=some x/\X.N[j]?=some x/\scope.names.lookup x=some .free)
  (hi:PI X target iter wi) (hg:∀cl C ex s H,PG (cxB X N' scope cl C ex s H) target g) (ht:∀cl C ex s H,zBL (cxB X N' scope cl C ex s H) ifs tt) (he:∀cl C ex s H,PE (cxB X N' scope cl C ex s H) elt te)
  (hs:∀x,foldedSetIterable iter X.env x=pure x:=by intro _;rfl):PE X (.ListComp elt [⟨target,iter,ifs,0⟩] scope pos) (zAY nl caps wi g tt te):=by
 intro pins s σ H Q I h;rw[eval_ListComp];refine Z8 (use:=none) hx hc hkind hnames hcell hfree hlen hcap hi hg ht he hs I h λD C H5 s6 m6 I7 f n6 q=>?_
 refine⟨m6,n6,λh' hs'=>?_⟩;obtain⟨f1,f2,f3,f4,f5,f6⟩:=f;exact⟨.ref D,H5,I7.turned (it:=C) (t':=s6.toks) (λb o hb e=>hs'.extBut b o hb e) f1 (λz=>f2 z) f4 f5 f6,rfl,q⟩
theorem ps_setC{i:Nat}{y:Str}{py spos:Pos}{wi:TI}{g:TG}{tt:TT}{te:TE}(hN:X.N.Nodup)(hi':X.N[i]?=some y)(hy:Loc X.env.scope y)(hf:X.fn y=true\/X.env.scope.names.lookup y=some .local)(hx:∀e s,¬X.xe e s)(hc:X.calm=true)(hkind:scope.kind=.function)(hnames:∀y∈scope.names,y.2=.local->scope.names.lookup y.1=some .local)(hcell:∀y∈scope.names,y.2=.cell->scope.names.lookup y.1=some .cell)
  (hfree:(scope.names.all λy=>y.2 != .free||X.env.kindOf y.1==some .cell)=true)
  (hlen:N'.length=nl+caps.length) (hcap:∀(i j:Nat),caps[i]?=some j->∃x,N'[nl+i]?=some x/\X.N[j]?=some x/\scope.names.lookup x=some .free)
  (hi:PI X target iter wi) (hg:∀cl C ex s H,PG (cxB X N' scope cl C ex s H) target g) (ht:∀cl C ex s H,zBL (cxB X N' scope cl C ex s H) ifs tt) (he:∀cl C ex s H,PE (cxB X N' scope cl C ex s H) elt te)
  (hs:∀x,foldedSetIterable iter X.env x=pure x) (hsw:swapsWith (.ListComp elt [⟨target,iter,ifs,0⟩] scope pos) (some (.Name y py)) spos.line X.env=pure true) :
  PS X (.Assign [.Name y py] (.ListComp elt [⟨target,iter,ifs,0⟩] scope pos) spos) (tAsg (zAY nl caps wi g tt te) (Wc i)):=by
 intro pins s σ H D I h;rw[exec_Assign_Name_used _ _ _ _ hsw];refine wpAny_bind (wpAny_standAt (wpAny_bind ?_));show wpAny _ X.A (do let _ <- comprehension (.ListComp elt [⟨target,iter,ifs,0⟩] scope pos) scope X.env _ (newList []) false (eval iter X.env) (some (assign (.Name y py) X.env))) _ _ s;refine wpAny_bind (wpAny_mono (Z8 (use:=some (assign (.Name y py) X.env)) (QQ:=λ_ s'=>SP X pins D .next s') hx hc hkind hnames hcell hfree hlen hcap hi hg ht he hs I h λDa C H5 s6 m6 I7 f n6 q=>?_) (λ_ s' hq=>wpAny_pure (wpAny_pure hq)) λ_ _ e=>e);obtain⟨f1,f2,f3,f4,f5,f6⟩:=f;show wpAny _ X.A (assign (.Name y py) X.env (.ref Da)) _ _ s6;refine wpAny_assign_Name (Zh I7 hN hi' hy (v:=.ref Da) rfl (λs7 I8 ⟨a,sb,ha⟩=>?_) hf);have hne:C≠a:=by
  rcases ha with ha|ha
  ·rw[ha];exact f2
  ·exact λz=>f5 y a ha z.symm
 refine⟨m6,n6.sameBut sb hne,λh' hs'=>?_⟩;exact⟨_,H5,I8.turned (it:=C) (t':=s7.toks) (λb o hb e=>hs'.extBut b o hb e) f1 (λz=>f2 z) f4 f5 f6,q⟩
end
end L2
namespace DV
open PySem L2
section
variable{X:Cx}{K:PySem.W.Frag}{mg:Str->Option Value}{σ:St}{M:Addr->Prop}{E:zL}{H:Hp}{T0 Z T:Fz}
structure ItOk(K:PySem.W.Frag)(mg:Str->Option Value)(J:It)(ds:List D)(Iv:Hp->Prop):Prop where
 mono:∀H H',JC H H'->Iv H->Iv H'
 go:∀i Hh H,JC Hh H->Iv Hh->i<ds.length->J.go i H
 yld:∀i Hh H x H',JC Hh H->Iv Hh->i<ds.length->J.yld i H x H'->∃d,ds[i]?=some d/\((H'=H/\Rep K mg Hh d x)\/∃q xs es,H q=none/\H'=upd H q (.tup xs)/\x=.ref q/\d=.tup es/\Reps K mg Hh es xs)
 stop:∀i Hh H,JC Hh H->Iv Hh->ds.length<=i->J.stop i H
abbrev MI:=zL->Out (List D×zL)
def tMI(X:Cx)(m:MI):TI:=λσ H R=>∃M E,E.length=σ.length/\FR X.K X.mg M H (σ.zip E)/\match m E with
 | .stuck=>False
 | .ok (ds,E')=>∀J Iv H',ItOk X.K X.mg J ds Iv->Iv (Hm (Mo M (σ.zip E')) H')->Got X.K X.mg M σ E H [] σ E' H' []->R J H'
 | .exc x E'=>∀H',Got X.K X.mg M σ E H [] σ E' H' []->XE X σ H' x
abbrev IOk(X:Cx)(tg e:Expr)(m:MI):Prop:=PI X tg e (tMI X m)
theorem vP{tg e:Expr}{t t':TI}(h:PI X tg e t)(i:∀σ H R,t' σ H R->t σ H R):PI X tg e t':=λpins s σ H R I q=>h pins s σ H R I (i σ H R q)
def iL(m:ME):MI:=λE=>match m E with
 | .stuck=>.stuck
 | .exc x E1=>.exc x E1
 | .ok (r,E1)=>match r.d with
  | .lst ds=>.ok (ds,E1)
  |_=>.stuck
def iT(m:ME):MI:=λE=>match m E with
 | .stuck=>.stuck
 | .exc x E1=>.exc x E1
 | .ok (r,E1)=>match r.d with
  | .tup ds=>.ok (ds,E1)
  |_=>.stuck
theorem it_list{a:Addr}{xs:List V}{ds:List D}:ItOk K mg (Itl K a) ds (λH=>SqL K H a xs/\Reps K mg H ds xs) where
 mono:=λH H' s h=>⟨s.seq h.1,h.2.mono s⟩
 go:=λi Hh H s h hi=>⟨xs,xs[i]'(by rw[h.2.length];exact hi),s.seq h.1,by simp⟩
 yld:=λi Hh H x H' s h hi y=>by
  obtain⟨e,y⟩:=y;obtain⟨d,h1,h2⟩:=h.2.get (y xs (s.seq h.1));exact⟨d,h1,.inl ⟨e,h2⟩⟩
 stop:=λi Hh H s h hi=>⟨xs,s.seq h.1,by rw[h.2.length];exact hi⟩
theorem it_tup{a:Addr}{xs:List V}{ds:List D}:ItOk K mg (Itt K a) ds (λH=>SqT K H a xs/\Reps K mg H ds xs) where
 mono:=λH H' s h=>⟨zV s h.1,h.2.mono s⟩
 go:=λi Hh H s h hi=>⟨xs,xs[i]'(by rw[h.2.length];exact hi),zV s h.1,by simp⟩
 yld:=λi Hh H x H' s h hi y=>by
  obtain⟨e,y⟩:=y;obtain⟨d,h1,h2⟩:=h.2.get (y xs (zV s h.1));exact⟨d,h1,.inl ⟨e,h2⟩⟩
 stop:=λi Hh H s h hi=>⟨xs,zV s h.1,by rw[h.2.length];exact hi⟩
theorem Z9:∀(n i:Nat) (lo:Int),i<n->(zP lo n)[i]?=some (.int (lo+i)):=λn i lo h=>by
 have:=jU n i lo h;have e:((zP lo n).drop i)[0]?=some (.int (lo+i)):=by rw[this];rfl
 rw[List.getElem?_drop]at e;simpa using e
theorem it_rng{lo:Int}{n:Nat}:ItOk K mg (Itr lo n) (zP lo n) (λ_=>True) where
 mono:=λ_ _ _ h=>h
 go:=λi Hh H s h hi=>by rw[yB]at hi;exact hi
 yld:=λi Hh H x H' s h hi y=>by
  obtain⟨e,y⟩:=y;rw[yB]at hi;exact⟨_,Z9 n i lo hi,.inl ⟨e,by rw[y];simp only[Rep]⟩⟩
 stop:=λi Hh H s h hi=>by rw[yB]at hi;exact hi
theorem io_list{tg e:Expr}{m:ME}(h:EOk X e m):IOk X tg e (iL m):=vP (uq h) λσ H R ⟨M,E,hl,fr,k⟩=>by
 unfold iL at k;refine zt (T0:=[]) hl fr ?_;cases ea:m E with
 |stuck=>rw[ea]at k;exact k
 |exc x E1=>rw[ea]at k;exact k
 |ok p =>
  obtain⟨r,E1⟩:=p;rw[ea]at k;intro v H1 g;dsimp only at k;cases ed:r.d with
  |lst ds =>
   rw[ed]at k;have rl:=g.rep;rw[ed]at rl;obtain⟨a,xs,rfl,q1,q2⟩:=zJ rl;exact⟨a,rfl,⟨xs,zF.seq q1⟩,k _ _ H1 it_list ⟨q1,q2⟩ g.dropAll⟩
  |_=>rw[ed]at k;exact k.elim
theorem io_tup{tg e:Expr}{m:ME}(h:EOk X e m):IOk X tg e (iT m):=vP (zA4 h) λσ H R ⟨M,E,hl,fr,k⟩=>by
 unfold iT at k;refine zt (T0:=[]) hl fr ?_;cases ea:m E with
 |stuck=>rw[ea]at k;exact k
 |exc x E1=>rw[ea]at k;exact k
 |ok p =>
  obtain⟨r,E1⟩:=p;rw[ea]at k;intro v H1 g;dsimp only at k;cases ed:r.d with
  |tup ds =>
   rw[ed]at k;have rl:=g.rep;rw[ed]at rl;obtain⟨a,xs,rfl,q1,q2⟩:=zM rl;exact⟨a,rfl,⟨xs,zV zF q1⟩,k _ _ H1 it_tup ⟨q1,q2⟩ g.dropAll⟩
  |_=>rw[ed]at k;exact k.elim
def iR1(m:MA):MI:=λE=>match m E with
 | .stuck=>.stuck
 | .exc x E1=>.exc x E1
 | .ok ([r],E1)=>match r.d with
  | .int j=>if -(2^62)<=j/\j<2^62 then .ok (zP 0 j.toNat,E1)else .stuck
  |_=>.stuck
 |_=>.stuck
theorem io_r1{tg a:Expr}{m:MA}{p cpos:Pos}(hgl:Gl X "range")(hm:X.mg "range"=none)(ha:AOk X [a] m)(hst:zW a=false:=by rfl):IOk X tg (.Call (.Name "range" p) [a] [] cpos) (iR1 m):=vP (Zi hgl hm ha (zAE hst)) λσ H R ⟨M,E,hl,fr,k⟩=>by
 unfold iR1 at k;refine J8 (T0:=[]) hl fr ?_;cases ea:m E with
 |stuck=>rw[ea]at k;exact k
 |exc x E1=>rw[ea]at k;exact k
 |ok p =>
  obtain⟨rs,E1⟩:=p;rw[ea]at k
  match rs,k with
  | [r],k =>
   intro vs H1 hv g1;have rp:=Got.reps hv g1;dsimp only at k;cases ed:r.d with
   |int j =>
    rw[ed]at k;simp only[List.map,ed]at rp;obtain⟨v,rfl,h1⟩:=wB rp;dsimp only at k;by_cases hc:-(2^62)<=j/\j<2^62
    ·rw[if_pos hc]at k
     exact⟨j,by rw[zI h1],hc.1,hc.2,k _ _ H1 it_rng trivial g1.dropAll⟩
    ·rw[if_neg hc]at k;exact k.elim
   |_=>rw[ed]at k;exact k.elim
  | [],k=>exact k.elim
  |_::_::_,k=>exact k.elim
def wC(tg:MG)(tt:MT)(el:ME):List D->zL->List D->Out (List D×zL)
 | [],E,acc=>.ok (acc,E)
 |d::ds,E,acc=>match tg d E with
  | .ok E1=>match tt E1 with
   | .ok (true,E2)=>match el E2 with
    | .ok (r,E3)=>if acc.length<cap then wC tg tt el ds E3 (acc++[r.d])else .stuck
    |_=>.stuck
   | .ok (false,E2)=>wC tg tt el ds E2 acc
   |_=>.stuck
  |_=>.stuck
def JE(E:zL):List Nat->Out (List AR)
 | []=>.ok []
 |j::js=>match E[j]? with
  |some (.val d)=>match JE E js with
   | .ok as=>.ok (.tmp d::as)
   |_=>.stuck
  |some s=>match s.list? with
   |some _=>match JE E js with
    | .ok as=>.ok (.ln j::as)
    |_=>.stuck
   |none=>.stuck
  |none=>.stuck
def Yc(nl:Nat)(caps:List Nat)(mi:MI)(tg:MG)(tt:MT)(el:ME):ME:=λE=>match mi E with
 | .stuck=>.stuck
 | .exc x E1=>.exc x E1
 | .ok (ds,E1)=>match JE E1 caps with
  | .ok ars=>match zK ars E1 with
   | .ok (ss,E2)=>match wC tg tt el ds (replicate nl .emp++ss) []with
    | .ok (res,Eb)=>match zH ars ((zh (replicate nl .emp++ss) Eb).drop nl) E1 E2 with
     | .ok E3=>.ok (.own res,E3)
     |_=>.stuck
    |_=>.stuck
   |_=>.stuck
  |_=>.stuck
def Gd:MT:=λE=>.ok (true,E)
abbrev IfOk(X:Cx)(ifs:List Expr)(m:MT):Prop:=zBL X ifs (tMT X m)
theorem ZF{ifs:List Expr}{t t':TT}(h:zBL X ifs t)(i:∀σ H Q,t' σ H Q->t σ H Q):zBL X ifs t':=λpins s σ H Q I q=>h pins s σ H Q I (i σ H Q q)
theorem Ge:IfOk X [] Gd:=ZF pif_nil λσ H Q ⟨M,E,hl,fr,k⟩=>k H (Got.refl (T0:=[]) hl fr)
theorem Gf{c:Expr}{m:MT}(h:TOk X c m):IfOk X [c] m:=pif_one h
theorem Gg:∀(js:List Nat) {as:List AR} {T:Fz},E.length=σ.length->JE E js=.ok as->FR K mg M H (T++σ.zip E) ->
  ∃vs,AV σ as vs/\vs.map some=js.map (λj=>(σ[j]?).getD none)/\FR K mg M H (T++(ze vs as++σ.zip E))/\∀b,b∈zz (T++(ze vs as++σ.zip E))->b∈zz (T++σ.zip E)
 | [],as,T,hl,e,f=>by
  cases e;exact⟨[],by simp only[AV],rfl,f,λb q=>q⟩
 |j::js,as,T,hl,e,f=>by
  simp only[JE]at e;cases ej:E[j]? with
  |none=>rw[ej]at e;cases e
  |some s =>
   rw[ej]at e;obtain⟨o,h1,h2⟩:=wR hl ej;have lnk:∀{ds:List D},s.list?=some ds->(match JE E js with | .ok as=>Out.ok (AR.ln j::as)|_=>.stuck)=.ok as->∃vs,AV σ as vs/\vs.map some=(j::js).map (λj=>(σ[j]?).getD none)/\FR K mg M H (T++(ze vs as++σ.zip E))/\∀b,b∈zz (T++(ze vs as++σ.zip E))->b∈zz (T++σ.zip E):=λ{ds} hs e=>by
    cases ec:JE E js with
    |stuck=>rw[ec]at e;cases e
    |exc _ _=>rw[ec]at e;cases e
    |ok as1 =>
     rw[ec]at e;cases e;obtain⟨a,xs,ev,_⟩:=f.own o s ds (mem_append_right _ h2) hs;subst ev;obtain⟨vs,q1,q2,q3,q4⟩:=Gg js hl ec f;have p:(T++(((some (V.ref a),Slot.emp)::ze vs as1)++σ.zip E)).Perm ((some (V.ref a),Slot.emp)::(T++(ze vs as1++σ.zip E))):=perm_middle;have fe:FR K mg M H ((some (V.ref a),Slot.emp)::(T++(ze vs as1++σ.zip E))):=q3.mask (.extra (by
      have:∀W:Fz,Mask W W:=by
       intro W
       induction W with
       |nil=>exact .nil _
       |cons x W ih=>exact .keep ih
      exact this _))
     refine⟨.ref a::vs,by simp only[AV];exact⟨_,vs,rfl,h1,q1⟩,by simp[h1,q2],fe.perm p.symm,λb hb=>?_⟩;have:=zE p b hb;rw[yQ]at this;exact q4 b this
   cases s with
   |emp=>cases e
   |own ds=>exact lnk rfl e
   |par ds=>exact lnk rfl e
   |val d =>
    dsimp only at e;cases ec:JE E js with
    |stuck=>rw[ec]at e;cases e
    |exc _ _=>rw[ec]at e;cases e
    |ok as1 =>
     rw[ec]at e;cases e;obtain⟨v,ev,r⟩:=f.val o d (mem_append_right _ h2);subst ev;obtain⟨vs,q1,q2,q3,q4⟩:=Gg js hl ec f;obtain⟨v',ev',r'⟩:=q3.val (some v) d (mem_append_right _ (mem_append_right _ h2));cases ev';have p:(T++(((some v,Slot.val d)::ze vs as1)++σ.zip E)).Perm ((some v,Slot.val d)::(T++(ze vs as1++σ.zip E))):=perm_middle;refine⟨v::vs,by simp only[AV];exact⟨v,vs,rfl,q1⟩,by simp[h1,q2],(q3.add r').perm p.symm,λb hb=>?_⟩;have:=zE p b hb;rw[za]at this;exact q4 b this
theorem Gh(n:Nat)(Z:Fz):zz (replicate n ((none:Option V),Slot.emp)++Z)=zz Z:=by rw[zS,ZD,nil_append]
theorem FR.emps0(f:FR K mg M H Z)(n:Nat):FR K mg M H (replicate n (none,.emp)++Z):=(f.emps n).perm perm_append_comm
end
end DV
namespace DV
open PySem L2
def tN(K:PySem.W.Frag)(mg:Str->Option Value)(m:ME):TE:=λσ H Q=>∃M E,E.length=σ.length/\FR K mg M H (σ.zip E)/\match m E with
 | .ok (r,E')=>∀v H',Got K mg M σ E H [] σ E' H' [(some v,r.slot)]->Q v H'
 |_=>False
def tNT(K:PySem.W.Frag)(mg:Str->Option Value)(m:MT):TT:=λσ H Q=>∃M E,E.length=σ.length/\FR K mg M H (σ.zip E)/\match m E with
 | .ok (b,E')=>∀H',Got K mg M σ E H [] σ E' H' []->Q b H'
 |_=>False
section
variable{X:Cx}{K:PySem.W.Frag}{mg:Str->Option Value}{σ:St}{M:Addr->Prop}{E:zL}{H:Hp}{T0 Z T:Fz}
theorem tN_M{m:ME}{Q:VK}(h:tN X.K X.mg m σ H Q):tM X m σ H Q:=by
 obtain⟨M,E,hl,fr,k⟩:=h;refine⟨M,E,hl,fr,?_⟩;cases e:m E with
 |stuck=>rw[e]at k;exact k
 |exc x E1=>rw[e]at k;exact k.elim
 |ok p=>rw[e]at k;exact k
theorem tNT_M{m:MT}{Q:Bool->Hp->Prop}(h:tNT X.K X.mg m σ H Q):tMT X m σ H Q:=by
 obtain⟨M,E,hl,fr,k⟩:=h;refine⟨M,E,hl,fr,?_⟩;cases e:m E with
 |stuck=>rw[e]at k;exact k
 |exc x E1=>rw[e]at k;exact k.elim
 |ok p=>rw[e]at k;exact k
theorem tN_run{m:ME}{r:R}{E':zL}{Q:VK}(hl:E.length=σ.length)(h:FR K mg M H (T0++σ.zip E))(e:m E=.ok (r,E'))(k:∀v H',Got K mg M σ E H T0 σ E' H' [(some v,r.slot)]->Q v H'):tN K mg m σ H Q:=by
 refine⟨Mo M T0,E,hl,h.inner,?_⟩;rw[e];exact λv H' g=>k v H' (g.outer h)
theorem Gi{m:MT}{b:Bool}{E':zL}{Q:Bool->Hp->Prop}(hl:E.length=σ.length)(h:FR K mg M H (T0++σ.zip E))(e:m E=.ok (b,E'))(k:∀H',Got K mg M σ E H T0 σ E' H' []->Q b H'):tNT K mg m σ H Q:=by
 refine⟨Mo M T0,E,hl,h.inner,?_⟩;rw[e];exact λH' g=>k H' (g.outer h)
theorem Gj{ars:List AR}{E1 E2 E3:zL}{ss outs:List Slot}{r:R}{vs:List V}{v:V}{H1 H':Hp}(e1:zK ars E1=.ok (ss,E2))(e3:zH ars outs E1 E2=.ok E3)
  (av:AV σ ars vs) (f1':FR K mg M H1 (σ.zip E2++(vs.map some).zip ss)) (st1:Step M H (σ.zip E) H1 (σ.zip E2++(vs.map some).zip ss)) (l2:E2.length=σ.length) (pk:PKp σ E σ E1)
  (f2:FR K mg (Mo M (σ.zip E2)) H' ((some v,r.slot)::(vs.map some).zip outs)) (s2:Step (Mo M (σ.zip E2)) H1 ((vs.map some).zip ss) H' ((some v,r.slot)::(vs.map some).zip outs)):Got K mg M σ E H [] σ E3 H' [(some v,r.slot)]:=by
 have f3:=FR.outer f1' f2 s2;have s3:=Step.outer s2;have p:(σ.zip E2++((some v,r.slot)::(vs.map some).zip outs)).Perm ([(some v,r.slot)]++((vs.map some).zip outs++σ.zip E2)):=by
  refine perm_append_comm.trans ?_;exact List.Perm.refl _
 obtain⟨f4,o4,l4⟩:=ZB ars l2 av e3 (f3.perm p);refine⟨l4,f4,?_,pk.trans (Ga e1 e3)⟩;have st2:=st1.trans s3;exact st2.weak λb hb=>zE p.symm b (o4 b hb)
theorem wm:∀(n:Nat) {Z W:Fz},Mask Z W->Mask Z (W.drop n)
 |0,_,_,h=>h
 |n+1,_,_,.nil Z=>by simp only[List.drop_nil];exact .nil _
 |n+1,_,_,.keep h=>.skip (wm n h)
 |n+1,_,_,.skip h=>.skip (wm (n+1) h)
 |n+1,_,_,.extra h=>wm n h
theorem WA{α β:Type}:∀(n:Nat) (l:List α) (m:List β),(l.zip m).drop n=(l.drop n).zip (m.drop n)
 |0,_,_=>rfl
 |n+1,[],_=>by simp
 |n+1,_::_,[]=>by simp
 |n+1,_::l,_::m=>by simp[WA n l m]
theorem yld_got{J:It}{ds:List D}{Iv:Hp->Prop}{σ0 σ':St}{E0 E':zL}{H1 H' H'':Hp}{Da:Addr}{acc:List D}{i:Nat}{x:V}(it:ItOk K mg J ds Iv)(hlt:i<ds.length)(gb:Got K mg M σ0 E0 H1 [] σ' E' H' [(some (.ref Da),.own acc)])(ivb:Iv (Hm (Mo M ((some (.ref Da),Slot.own acc)::σ'.zip E')) H'))(y:J.yld i H' x H'') :
  ∃d,ds[i]?=some d/\Got K mg M σ0 E0 H1 [] σ' E' H'' [(some (.ref Da),.own acc)]/\Iv (Hm (Mo M ((some (.ref Da),Slot.own acc)::σ'.zip E')) H'')/\Rep K mg (Hm (Mo M ((some (.ref Da),Slot.own acc)::σ'.zip E')) H'') d x:=by
 obtain⟨d,hd,h⟩:=it.yld i _ _ x _ zF ivb hlt y;rcases h with⟨rfl,rx⟩|⟨q,xs,es,hq,rfl,rfl,rfl,rs⟩
 ·exact⟨d,hd,gb,ivb,rx⟩
 ·have f:FR K mg M H' ((some (.ref Da),Slot.own acc)::σ'.zip E'):=gb.fr
  have f1:=f.newTup hq rs;have s1:Step M H' ((some (.ref Da),Slot.own acc)::σ'.zip E') (upd H' q (.tup xs)) ((some (.ref q),.val (.tup es))::((some (.ref Da),Slot.own acc)::σ'.zip E')):=Step.newVal hq;obtain⟨v,ev,rv⟩:=f1.val _ _ mem_cons_self;cases ev;have sm:=s1.same;rw[wg]at rv sm;have s2:Step M H' ((some (.ref Da),Slot.own acc)::σ'.zip E') (upd H' q (.tup xs)) ((some (.ref Da),Slot.own acc)::σ'.zip E'):=⟨sm,s1.keep⟩;exact⟨_,hd,⟨gb.len,f1.tail,gb.st.trans s2,gb.pk⟩,it.mono _ _ sm ivb,rv⟩
theorem vQ{nl:Nat}{caps:List Nat}{mi:MI}{tg:MG}{tt:MT}{el:ME}{g:TG}{Q:VK}(ho:GOk X g tg)(h:tM X (Yc nl caps mi tg tt el) σ H Q):zAY nl caps (tMI X mi) g (tNT X.K X.mg tt) (tN X.K X.mg el) σ H Q:=by
 obtain⟨M,E,hl,fr,k⟩:=h;unfold Yc at k;refine⟨M,E,hl,fr,?_⟩;cases ei:mi E with
 |stuck=>rw[ei]at k;exact k
 |exc x E1=>rw[ei]at k;exact k
 |ok p =>
  obtain⟨ds,E1⟩:=p;rw[ei]at k;intro J Iv H1 it iv g1 D hD;dsimp only at k;cases ec:JE E1 caps with
  |stuck=>rw[ec]at k;exact k.elim
  |exc _ _=>rw[ec]at k;exact k.elim
  |ok ars =>
   rw[ec]at k;dsimp only at k;cases el1:zK ars E1 with
   |stuck=>rw[el1]at k;exact k.elim
   |exc _ _=>rw[el1]at k;exact k.elim
   |ok p =>
    obtain⟨ss,E2⟩:=p;rw[el1]at k;dsimp only at k;cases em:wC tg tt el ds (replicate nl .emp++ss) []with
    |stuck=>rw[em]at k;exact k.elim
    |exc _ _=>rw[em]at k;exact k.elim
    |ok p =>
     obtain⟨res,Eb⟩:=p;rw[em]at k;dsimp only at k;cases eb:zH ars ((zh (replicate nl .emp++ss) Eb).drop nl) E1 E2 with
     |stuck=>rw[eb]at k;exact k.elim
     |exc _ _=>rw[eb]at k;exact k.elim
     |ok E3 =>
      rw[eb]at k;obtain⟨vs,av,evs,f1,o1⟩:=Gg (T:=[]) caps g1.len ec g1.fr;obtain⟨f2,o2,l2,l3⟩:=YE (T:=[]) ars g1.len av el1 f1;have hv:=av.length;have f2':FR X.K X.mg M H1 (σ.zip E2++(vs.map some).zip ss):=FR.perm (T:=σ.zip E2++(vs.map some).zip ss) (Z:=(vs.map some).zip ss++σ.zip E2) f2 perm_append_comm;have osub:∀b,b∈zz (σ.zip E2++(vs.map some).zip ss)->b∈zz (σ.zip E1):=λb hb =>
       o1 b ((o2 b).mpr (zE (T:=σ.zip E2++(vs.map some).zip ss) (Z:=(vs.map some).zip ss++σ.zip E2) perm_append_comm b hb))
      have st1:Step M H (σ.zip E) H1 (σ.zip E2++(vs.map some).zip ss):=g1.st.weak osub;have eσ:yE nl caps σ=replicate nl none++vs.map some:=by unfold L2.yE;rw[evs]
      rw[eσ];have ez:(replicate nl (none:Option V)++vs.map some).zip (replicate nl Slot.emp++ss)=replicate nl (none,.emp)++(vs.map some).zip ss:=by
       rw[List.zip_append (by simp),Wp]
      have f4:FR X.K X.mg (Mo M (σ.zip E2)) H1 ((replicate nl (none:Option V)++vs.map some).zip (replicate nl Slot.emp++ss)):=by
       rw[ez];exact(FR.inner f2').emps0 nl
      have oo:zz ((replicate nl (none:Option V)++vs.map some).zip (replicate nl Slot.emp++ss))=zz ((vs.map some).zip ss):=by rw[ez,Gh]
      generalize hσ0:replicate nl (none:Option V)++vs.map some=σ0 at f4 oo ⊢;generalize hE0:replicate nl Slot.emp++ss=E0 at f4 oo em eb ⊢;have hl0:E0.length=σ0.length:=by rw[<- hσ0,<- hE0];simp[l2,hv]
      have f5:=f4.newOwn (ds:=[]) (xs:=[]) hD Reps.nil;have s5:=Step.newOwn (ds:=[]) (xs:=[]) f4 hD;have iv5:Iv (Hm (Mo (Mo M (σ.zip E2)) ((some (.ref D),Slot.own [])::σ0.zip E0)) (upd H1 D (.lst []))):=by
       refine it.mono _ _ s5.same (it.mono _ _ (jE λb hb=>?_) iv);rcases hb with hb|hb
       ·rcases hb with hb|hb
        ·exact .inl hb
        ·exact .inr (osub b (by rw[zS];exact mem_append_left _ hb))
       ·rw[oo]at hb
        exact .inr (osub b (by rw[zS];exact mem_append_right _ hb))
      refine⟨λi m σ' H'=>m=ds.length-i/\i<=ds.length/\∃E' acc,Got X.K X.mg (Mo M (σ.zip E2)) σ0 E0 H1 [] σ' E' H' [(some (.ref D),.own acc)]/\Iv (Hm (Mo (Mo M (σ.zip E2)) ((some (.ref D),Slot.own acc)::σ'.zip E')) H')/\wC tg tt el (ds.drop i) E' acc=.ok (res,Eb),
       ⟨ds.length,by simp,zero_le _,E0,[],⟨hl0,f5,s5,PKp.refl⟩,iv5,em⟩,?_⟩
      rintro i m σ' H' ⟨rfl,hi,E',acc,gb,ivb,cm⟩
      by_cases hlt:i<ds.length
      ·refine .inr ⟨it.go i _ H' zF ivb hlt,λσ'' H''=>(i+1<=ds.length/\∃E' acc,Got X.K X.mg (Mo M (σ.zip E2)) σ0 E0 H1 [] σ'' E' H'' [(some (.ref D),.own acc)]/\Iv (Hm (Mo (Mo M (σ.zip E2)) ((some (.ref D),Slot.own acc)::σ''.zip E')) H'')/\wC tg tt el (ds.drop (i+1)) E' acc=.ok (res,Eb)),
        λσ'' H'' q=>⟨ds.length-(i+1),by omega,rfl,q⟩,λx H'' y=>?_⟩
       obtain⟨d,hd,gb,ivb,rx⟩:=yld_got it hlt gb ivb y;have ed:ds.drop i=d::ds.drop (i+1):=by
        obtain⟨hi',rfl⟩:=List.getElem?_eq_some_iff.mp hd;exact drop_eq_getElem_cons hi'
       rw[ed]at cm;simp only[wC]at cm;cases e1:tg d E' with
       |stuck=>rw[e1]at cm;cases cm
       |exc _ _=>rw[e1]at cm;cases cm
       |ok Ea =>
        rw[e1]at cm;dsimp only at cm;refine ho _ σ' E' _ [(some (.ref D),.own acc)] x d Ea _ gb.len (gb.fr.add rx) e1 λσ2 ga=>?_
        have g2:=gb.trans' ga;cases e2:tt Ea with
        |stuck=>rw[e2]at cm;cases cm
        |exc _ _=>rw[e2]at cm;cases cm
        |ok p =>
         obtain⟨b,Eb2⟩:=p;rw[e2]at cm;refine Gi ga.len ga.fr e2 λH3 gt=>?_
         have g3:=g2.trans' gt;have iv3:=it.mono _ _ (ga.st.same.trans gt.st.same) ivb;cases b with
         |false =>
          refine iteF ⟨hlt,Eb2,acc,g3,iv3,cm⟩
         |true =>
          refine iteT ?_;dsimp only at cm;cases e3:el Eb2 with
          |stuck=>rw[e3]at cm;cases cm
          |exc _ _=>rw[e3]at cm;cases cm
          |ok p =>
           obtain⟨r,Ec⟩:=p;rw[e3]at cm;dsimp only at cm;by_cases hcap:acc.length<cap
           ·rw[if_pos hcap]at cm
            refine tN_run g3.len g3.fr e3 λyv H4 ge=>?_
            have g4:=g3.trans' ge;have fz:FR X.K X.mg (Mo M (σ.zip E2)) H4 ((some yv,.val r.d)::((some (.ref D),Slot.own acc)::σ2.zip Ec)):=g4.fr.frz;obtain⟨yv',ey,ry⟩:=fz.val _ _ mem_cons_self;cases ey;rw[wg]at ry;have fo:=fz.tail;obtain⟨a,ys,ea,ha,_,rys⟩:=fo.own _ _ acc mem_cons_self rfl;cases ea;refine⟨ys,ha,by rw[rys.length];exact lt_of_lt_of_le hcap (JW (le_refl _)),hlt,Ec,acc++[r.d],?_⟩;obtain⟨fm,sm⟩:=FR.mut (i:=0) (s:=.own acc) fo rfl rfl (rys.append (Reps.cons ry Reps.nil));have fm':FR X.K X.mg (Mo M (σ.zip E2)) (upd H4 D (.lst (ys++[yv]))) ((some (.ref D),Slot.own (acc++[r.d]))::σ2.zip Ec):=fm;have sm':Step (Mo M (σ.zip E2)) H4 ((some (.ref D),Slot.own acc)::σ2.zip Ec) (upd H4 D (.lst (ys++[yv]))) ((some (.ref D),Slot.own (acc++[r.d]))::σ2.zip Ec):=sm;have sz:Step (Mo M (σ.zip E2)) H3 ((some (.ref D),Slot.own acc)::σ2.zip Eb2) H4 ((some (.ref D),Slot.own acc)::σ2.zip Ec):=ge.st.weak (zC (sublist_cons_self _ _));have sz0:Step (Mo M (σ.zip E2)) H1 (σ0.zip E0) H4 ((some (.ref D),Slot.own acc)::σ2.zip Ec):=g4.st.weak (zC (sublist_cons_self _ _));exact⟨⟨g4.len,fm',sz0.trans sm',g4.pk⟩,it.mono _ _ (sz.same.trans sm'.same) iv3,cm⟩
           ·rw[if_neg hcap]at cm;cases cm
      ·have ei2:i=ds.length:=by omega
       subst ei2;rw[drop_length]at cm;simp only[wC]at cm;cases cm;refine .inl ⟨it.stop _ _ H' zF ivb (le_refl _),k _ H' ?_⟩;have mk0:Mask (σ'.zip Eb) (σ0.zip (zh E0 Eb)):=Jw E0 σ0 σ' Eb gb.len (hl0.symm) λj ds' e=>(gb.pk j ds' e).2
       have mk:Mask (σ'.zip Eb) ((vs.map some).zip ((zh E0 Eb).drop nl)):=by
        have:=wm nl mk0;have e:(σ0.zip (zh E0 Eb)).drop nl=(vs.map some).zip ((zh E0 Eb).drop nl):=by
         rw[WA,<- hσ0];congr 1;rw[List.drop_left' (by simp)]
        rw[e]at this;exact this
       refine Gj (r:=.own res) el1 eb av f2' st1 l3 g1.pk (gb.fr.mask (.keep mk)) ?_;refine(gb.st.weak λb hb=>(Mask.keep mk).sub.subset hb).left λb hb=>?_
       show b∈zz _
       rw[nil_append,oo]at hb;exact hb
end
section
variable{X:Cx}{elt target iter:Expr}{ifs:List Expr}{scope:Scope}{pos:Pos}
theorem ok_comp{mi:MI}{tg:MG}{tt:MT}{el:ME}{g:TG}(nl:Nat)(caps:List Nat)(N':List Str)(hx:∀e s,¬X.xe e s)(hc:X.calm=true)(hkind:scope.kind=.function)(hnames:∀y∈scope.names,y.2=.local->scope.names.lookup y.1=some .local)(hcell:∀y∈scope.names,y.2=.cell->scope.names.lookup y.1=some .cell)
  (hfree:(scope.names.all λy=>y.2 != .free||X.env.kindOf y.1==some .cell)=true)
  (hlen:N'.length=nl+caps.length) (hcap:∀(i j:Nat),caps[i]?=some j->∃x,N'[nl+i]?=some x/\X.N[j]?=some x/\scope.names.lookup x=some .free)
  (hi:IOk X target iter mi) (hg:∀cl C ex s H,PG (cxB X N' scope cl C ex s H) target g) (ho:GOk X g tg) (ht:∀cl C ex s H,IfOk (cxB X N' scope cl C ex s H) ifs tt) (he:∀cl C ex s H,EOk (cxB X N' scope cl C ex s H) elt el)
  (hs:∀x,foldedSetIterable iter X.env x=pure x:=by intro _;rfl):EOk X (.ListComp elt [⟨target,iter,ifs,0⟩] scope pos) (Yc nl caps mi tg tt el) :=
 zy (pe_comp (te:=tN X.K X.mg el) (tt:=tNT X.K X.mg tt) hx hc hkind hnames hcell hfree hlen hcap hi hg (λcl C ex s H=>ZF (ht cl C ex s H) λσ H Q q=>tNT_M (X:=cxB X N' scope cl C ex s _) q) (λcl C ex s H=>zy (he cl C ex s H) λσ H Q q=>tN_M (X:=cxB X N' scope cl C ex s _) q) hs) λσ H Q=>vQ ho
theorem sk_comp{mi:MI}{tg:MG}{tt:MT}{el:ME}{g:TG}{i:Nat}{y:Str}{py spos:Pos}(nl:Nat)(caps:List Nat)(N':List Str)(hN:X.N.Nodup)(hi':X.N[i]?=some y)(hy:Loc X.env.scope y)(hf:X.fn y=true\/X.env.scope.names.lookup y=some .local)(hx:∀e s,¬X.xe e s)(hc:X.calm=true)(hkind:scope.kind=.function)(hnames:∀y∈scope.names,y.2=.local->scope.names.lookup y.1=some .local)(hcell:∀y∈scope.names,y.2=.cell->scope.names.lookup y.1=some .cell)
  (hfree:(scope.names.all λy=>y.2 != .free||X.env.kindOf y.1==some .cell)=true)
  (hlen:N'.length=nl+caps.length) (hcap:∀(i j:Nat),caps[i]?=some j->∃x,N'[nl+i]?=some x/\X.N[j]?=some x/\scope.names.lookup x=some .free)
  (hi:IOk X target iter mi) (hg:∀cl C ex s H,PG (cxB X N' scope cl C ex s H) target g) (ho:GOk X g tg) (ht:∀cl C ex s H,IfOk (cxB X N' scope cl C ex s H) ifs tt) (he:∀cl C ex s H,EOk (cxB X N' scope cl C ex s H) elt el)
  (hs:∀x,foldedSetIterable iter X.env x=pure x) (hsw:swapsWith (.ListComp elt [⟨target,iter,ifs,0⟩] scope pos) (some (.Name y py)) spos.line X.env=pure true) :
  SOk X (.Assign [.Name y py] (.ListComp elt [⟨target,iter,ifs,0⟩] scope pos) spos) (sSet i (Yc nl caps mi tg tt el)) :=
 jk (ps_setC (te:=tN X.K X.mg el) (tt:=tNT X.K X.mg tt) hN hi' hy hf hx hc hkind hnames hcell hfree hlen hcap hi hg (λcl C ex s H=>ZF (ht cl C ex s H) λσ H Q q=>tNT_M (X:=cxB X N' scope cl C ex s _) q) (λcl C ex s H=>zy (he cl C ex s H) λσ H Q q=>tN_M (X:=cxB X N' scope cl C ex s _) q) hs hsw) λD σ H h=>vQ ho (GV h)
end
end DV
namespace DV
open PySem L2
theorem mem7{P:String->Prop}(h1:P "NoneType")(h2:P "bool")(h3:P "int")(h4:P "str")(h5:P "tuple")(h6:P "list")(h7:P "dict"):∀t∈["NoneType","bool","int","str","tuple","list","dict"],P t:=by
 intro t ht;simp only[mem_cons,mem_nil_iff,or_false]at ht;rcases ht with rfl|rfl|rfl|rfl|rfl|rfl|rfl<;>assumption
abbrev Kit(K:PySem.W.Frag)(T:String):Prop:=∀t∈["NoneType","bool","int","str","tuple","list","dict"],kitOne K (.type t) (.type T)=some (Z4 t T)
theorem kit_int(K:PySem.W.Frag):Kit K "int":=mem7 rfl rfl rfl rfl rfl rfl rfl
theorem zAZ(K:PySem.W.Frag):Kit K "bool":=mem7 rfl rfl rfl rfl rfl rfl rfl
theorem Gm(K:PySem.W.Frag):Kit K "tuple":=mem7 rfl rfl rfl rfl rfl rfl rfl
theorem zAa(K:PySem.W.Frag):Kit K "list":=mem7 rfl rfl rfl rfl rfl rfl rfl
theorem kit_str(K:PySem.W.Frag):Kit K "str":=mem7 rfl rfl rfl rfl rfl rfl rfl
theorem zAb(K:PySem.W.Frag):Kit K "dict":=mem7 rfl rfl rfl rfl rfl rfl rfl
theorem ZG:bootBuiltins "isinstance"=some (.builtin "isinstance"):=by decide +kernel
theorem bt_len:bootBuiltins "len"=some (.builtin "len"):=by decide +kernel
theorem bt_max:bootBuiltins "max"=some (.builtin "max"):=by decide +kernel
theorem bt_min:bootBuiltins "min"=some (.builtin "min"):=by decide +kernel
theorem bt_all:bootBuiltins "all"=some (.builtin "all"):=by decide +kernel
theorem zBM:bootBuiltins "int"=some (.type "int"):=by decide +kernel
theorem bt_bool:bootBuiltins "bool"=some (.type "bool"):=by decide +kernel
theorem vR:bootBuiltins "tuple"=some (.type "tuple"):=by decide +kernel
theorem Gn:bootBuiltins "list"=some (.type "list"):=by decide +kernel
theorem bt_str:bootBuiltins "str"=some (.type "str"):=by decide +kernel
theorem bt_dict:bootBuiltins "dict"=some (.type "dict"):=by decide +kernel
section
variable{X:Cx}{K:PySem.W.Frag}{mg:Str->Option Value}{σ:St}{H:Hp}
def eNeg(a:ME):ME:=λE=>match a E with
 | .ok (.val (.int i),E1)=>.ok (.val (.int (-i)),E1)
 | .exc x E1=>.exc x E1
 |_=>.stuck
theorem ok_neg{a:Expr}{m:ME}{pos:Pos}(h:EOk X a m):EOk X (.UnaryOp .USub a pos) (eNeg m):=zy (pe_un zA5 h) λσ H Q ⟨M,E,hl,fr,k⟩=>by
 unfold eNeg at k;refine zt (T0:=[]) hl fr ?_;cases ea:m E with
 |stuck=>rw[ea]at k;exact k
 |exc x E1=>rw[ea]at k;exact k
 |ok p =>
  obtain⟨r,E1⟩:=p;rw[ea]at k;cases r with
  |own ds=>exact k.elim
  |val d =>
   cases d with
   |int i =>
    intro v H' g;exact⟨i,zI g.rep,k _ H' (g.flat (d:=.int (-i)) rfl)⟩
   |_=>exact k.elim
def y8(p p':Int->Int->Bool)(a b c:ME):ME:=λE=>match a E with
 | .stuck=>.stuck
 | .exc x E1=>.exc x E1
 | .ok (.val (.int i),E1)=>match b E1 with
  | .stuck=>.stuck
  | .exc x E2=>.exc x E2
  | .ok (.val (.int j),E2)=>if p i j=true then match c E2 with
    | .stuck=>.stuck
    | .exc x E3=>.exc x E3
    | .ok (.val (.int k),E3)=>.ok (.val (.bl (p' j k)),E3)
    |_=>.stuck
   else .ok (.val (.bl false),E2)
  |_=>.stuck
 |_=>.stuck
theorem WB{p p':Int->Int->Bool}{a b c:ME}{Q:VK}(h:tM X (y8 p p' a b c) σ H Q):uy (rI0 λi j=>.bl (p i j)) (rI0 λi j=>.bl (p' i j)) (tM X a) (tM X b) (tM X c) σ H Q:=by
 obtain⟨M,E,hl,fr,k⟩:=h;unfold y8 at k;refine zt (T0:=[]) hl fr ?_;cases ea:a E with
 |stuck=>rw[ea]at k;exact k
 |exc x E1=>rw[ea]at k;exact k
 |ok q =>
  obtain⟨r,E1⟩:=q;rw[ea]at k;cases r with
  |own ds=>exact k.elim
  |val d =>
   cases d with
   |int i =>
    intro x H1 g1;have g1':=g1.dropAll;refine zt (T0:=[]) g1'.len g1'.fr ?_;dsimp only at k;cases eb:b E1 with
    |stuck=>rw[eb]at k;exact k
    |exc x E2=>rw[eb]at k;exact λH' g=>k H' (g1'.trans' g)
    |ok q =>
     obtain⟨r2,E2⟩:=q;rw[eb]at k;cases r2 with
     |own ds=>exact k.elim
     |val d2 =>
      cases d2 with
      |int j =>
       intro y H2 g2;have g12:=(g1'.trans' g2).dropAll;refine⟨i,j,zI g1.rep,zI g2.rep,p i j,rfl,?_⟩;dsimp only at k;cases ep:p i j with
       |false =>
        rw[ep]at k;exact iteF (k _ H2 (g12.flat (d:=.bl false) rfl))
       |true =>
        rw[ep]at k;simp only[if_true]at k;refine iteT (zt (T0:=[]) g12.len g12.fr ?_);cases ec:c E2 with
        |stuck=>rw[ec]at k;exact k
        |exc x E3=>rw[ec]at k;exact λH' g=>k H' (g12.trans' g)
        |ok q =>
         obtain⟨r3,E3⟩:=q;rw[ec]at k;cases r3 with
         |own ds=>exact k.elim
         |val d3 =>
          cases d3 with
          |int n =>
           intro w H3 g3;exact⟨j,n,zI g2.rep,zI g3.rep,k _ H3 ((g12.trans' g3).flat (d:=.bl (p' j n)) rfl)⟩
          |_=>exact k.elim
      |_=>exact k.elim
   |_=>exact k.elim
theorem zAc{op op':CmpOp}{p p':Int->Int->Bool}{a b c:Expr}{ma mb mc:ME}{pos:Pos}(ho:OpR X (compareOp op) (rI0 λi j=>.bl (p i j)))(ho':OpR X (compareOp op') (rI0 λi j=>.bl (p' i j)))(ha:EOk X a ma)(hb:EOk X b mb)(hc:EOk X c mc)
  (hm:lastMarks [op,op'] [b,c]=false:=by with_unfolding_all rfl):EOk X (.Compare a [op,op'] [b,c] pos) (y8 p p' ma mb mc):=zy (Qz ho ho' ha hb hc hm) λσ H Q=>WB
theorem Go{op op':CmpOp}{p p':Int->Int->Bool}{a b c:Expr}{ma mb mc:ME}{pos:Pos}(ho:OpR X (compareOp op) (rI0 λi j=>.bl (p i j)))(ho':OpR X (compareOp op') (rI0 λi j=>.bl (p' i j)))(ha:EOk X a ma)(hb:EOk X b mb)(hc:EOk X c mc)
  (hm:lastMarks [op,op'] [b,c]=false:=by with_unfolding_all rfl):TOk X (.Compare a [op,op'] [b,c] pos) (tT (y8 p p' ma mb mc)):=vJ (Q0 ho ho' ha hb hc hm) λσ H Q q=>WB (GO q)
abbrev ltB:Int->Int->Bool:=λi j=>decide (i<j)
abbrev leB:Int->Int->Bool:=λi j=>decide (i<=j)
abbrev gtB:Int->Int->Bool:=λi j=>decide (j<i)
abbrev geB:Int->Int->Bool:=λi j=>decide (j<=i)
def Gp(X:Cx)(scope:Scope):List Nat->List Str->Prop
 | [],[]=>True
 |j::js,x::xs=>X.N[j]?=some x/\scope.names.lookup x=some .free/\Gp X scope js xs
 |_,_=>False
theorem Gq{scope:Scope}{loc:List Str}:∀{caps:List Nat} {capn:List Str},Gp X scope caps capn->capn.length=caps.length/\∀(i j:Nat),caps[i]?=some j->∃x,capn[i]?=some x/\X.N[j]?=some x/\scope.names.lookup x=some .free
 | [],[],h=>⟨rfl,λi j e=>by simp at e⟩
 | [],_::_,h=>h.elim
 |_::_,[],h=>h.elim
 |j::js,x::xs,h=>by
  obtain⟨h1,h2,h3⟩:=h;obtain⟨i1,i2⟩:=Gq (loc:=loc) h3;refine⟨by simp[i1],λi k e=>?_⟩;cases i with
  |zero=>simp at e;subst e;exact⟨x,rfl,h1,h2⟩
  |succ i=>simp at e;obtain⟨y,q⟩:=i2 i k e;exact⟨y,by simpa using q⟩
theorem ok_lc{elt target iter:Expr}{ifs:List Expr}{scope:Scope}{pos:Pos}{mi:MI}{tg:MG}{tt:MT}{el:ME}{g:TG}{nl:Nat}{caps:List Nat}(loc capn:List Str)(hnl:loc.length=nl)(hx:∀e s,¬X.xe e s)(hc:X.calm=true)(hkind:scope.kind=.function)(hnames:∀y∈scope.names,y.2=.local->scope.names.lookup y.1=some .local)(hcell:∀y∈scope.names,y.2=.cell->scope.names.lookup y.1=some .cell)
  (hfree:(scope.names.all λy=>y.2 != .free||X.env.kindOf y.1==some .cell)=true) (hcap:Gp X scope caps capn)
  (hi:IOk X target iter mi) (hg:∀cl C ex s H,PG (cxB X (loc++capn) scope cl C ex s H) target g) (ho:GOk X g tg) (ht:∀cl C ex s H,IfOk (cxB X (loc++capn) scope cl C ex s H) ifs tt) (he:∀cl C ex s H,EOk (cxB X (loc++capn) scope cl C ex s H) elt el)
  (hs:∀x,foldedSetIterable iter X.env x=pure x:=by intro _;rfl):EOk X (.ListComp elt [⟨target,iter,ifs,0⟩] scope pos) (Yc nl caps mi tg tt el):=by
 obtain⟨c1,c2⟩:=Gq (loc:=loc) hcap;refine ok_comp nl caps (loc++capn) hx hc hkind hnames hcell hfree (by simp[hnl,c1]) (λi j e=>?_) hi hg ho ht he hs;obtain⟨x,q1,q2,q3⟩:=c2 i j e;refine⟨x,?_,q2,q3⟩;rw[List.getElem?_append_right (by omega),hnl,Nat.add_sub_cancel_left];exact q1
theorem sk_lc{elt target iter:Expr}{ifs:List Expr}{scope:Scope}{pos:Pos}{mi:MI}{tg:MG}{tt:MT}{el:ME}{g:TG}{nl:Nat}{caps:List Nat}{i:Nat}{y:Str}{py spos:Pos}(loc capn:List Str)(hN:X.N.Nodup)(hi':X.N[i]?=some y)(hy:Loc X.env.scope y)(hf:X.fn y=true\/X.env.scope.names.lookup y=some .local)(hnl:loc.length=nl)(hx:∀e s,¬X.xe e s)(hc:X.calm=true)(hkind:scope.kind=.function)(hnames:∀y∈scope.names,y.2=.local->scope.names.lookup y.1=some .local)(hcell:∀y∈scope.names,y.2=.cell->scope.names.lookup y.1=some .cell)
  (hfree:(scope.names.all λy=>y.2 != .free||X.env.kindOf y.1==some .cell)=true) (hcap:Gp X scope caps capn)
  (hi:IOk X target iter mi) (hg:∀cl C ex s H,PG (cxB X (loc++capn) scope cl C ex s H) target g) (ho:GOk X g tg) (ht:∀cl C ex s H,IfOk (cxB X (loc++capn) scope cl C ex s H) ifs tt) (he:∀cl C ex s H,EOk (cxB X (loc++capn) scope cl C ex s H) elt el)
  (hs:∀x,foldedSetIterable iter X.env x=pure x) (hsw:swapsWith (.ListComp elt [⟨target,iter,ifs,0⟩] scope pos) (some (.Name y py)) spos.line X.env=pure true) :
  SOk X (.Assign [.Name y py] (.ListComp elt [⟨target,iter,ifs,0⟩] scope pos) spos) (sSet i (Yc nl caps mi tg tt el)):=by
 obtain⟨c1,c2⟩:=Gq (loc:=loc) hcap;refine sk_comp nl caps (loc++capn) hN hi' hy hf hx hc hkind hnames hcell hfree (by simp[hnl,c1]) (λi j e=>?_) hi hg ho ht he hs hsw;obtain⟨x,q1,q2,q3⟩:=c2 i j e;refine⟨x,?_,q2,q3⟩;rw[List.getElem?_append_right (by omega),hnl,Nat.add_sub_cancel_left];exact q1
end
section
variable(P:Program)(w:World)(K:PySem.W.Frag)(mg:Str->Option Value)(base:Heap)
def ZH(x:Str)(st:Stmt)(ps:List Str):Prop:=∃(a:Addr) (fd:FuncData),mg x=some (.ref a)/\Fun K x x st a fd/\J4 K fd ps []
def FOk(c:Bool)(x:Str)(k:Nat)(ps:List Str)(F:MF):Prop:=∃(a:Addr) (fd:FuncData),mg x=some (.ref a)/\keepIn K (.ref a)=true/\J4 K fd ps []/\FnOkN c P w K mg base k a fd ps (spM K mg ps.length F)
end
end DV
namespace DV
open PySem L2
section
variable{X:Cx}{n:Nat}
end
end DV
namespace DV
open PySem L2
mutual
def deq:D->D->Bool
 | .tup a,d=>match d with
  | .tup b=>deqs a b
  |_=>false
 | .lst a,d=>match d with
  | .lst b=>deqs a b
  |_=>false
 |a,d=>match d with
  | .tup _=>false
  | .lst _=>false
  |b=>eqV (flV a) (flV b)
def deqs:List D->List D->Bool
 | [],[]=>true
 |a::as,b::bs=>deq a b&&deqs as bs
 | [],_::_=>false
 |_::_,[]=>false
end
def eqb:Nat->D->Bool
 |_,.non=>true
 |_,.bl _=>true
 |_,.int _=>true
 |_,.str _=>true
 |n+1,.tup ds=>ds.all (eqb n)
 |n+1,.lst ds=>ds.all (eqb n)
 |_,_=>false
theorem jW:∀(a b:List D),deqs a b=((List.range (min a.length b.length)).all (λj=>deq (a.getD j .non) (b.getD j .non))&&a.length==b.length)
 | [],[]=>by simp[deqs]
 | [],_::_=>by simp[deqs]
 |_::_,[]=>by simp[deqs]
 |a::as,b::bs=>by
  simp only[deqs,jW as bs,length_cons];have e:min (as.length+1) (bs.length+1)=min as.length bs.length+1:=by omega
  rw[e,List.range_succ_eq_map,all_cons,List.all_map];simp[Function.comp_def,Bool.and_assoc]
section
variable{X:Cx}{pins:List (Addr×Obj)}{σ:St}{H:Hp}{s:Shared}
theorem y9{d:D}(h:eqb 0 d=true):flat d=true:=by cases d<;>first|rfl|(simp[eqb]at h)
theorem vS{v:V}(h:wA v=true):eqV v v=true:=by cases v<;>simp[wA]at h<;>simp[eqV]
theorem j6{a b:D}(ha:flat a=true)(hb:flat b=true):deq a b=eqV (flV a) (flV b):=by
 cases a<;>cases b<;>first|(simp[flat]at ha;done)|(simp[flat]at hb;done)|simp[deq]
theorem zY{n:Nat}{d:D}(h:eqb n d=true):flat d=true\/(∃m ds,n=m+1/\d=.tup ds/\∀e∈ds,eqb m e=true)\/(∃m ds,n=m+1/\d=.lst ds/\∀e∈ds,eqb m e=true):=by
 cases d with
 |tup ds =>
  cases n with
  |zero=>simp[eqb]at h
  |succ m=>exact .inr (.inl ⟨m,ds,rfl,rfl,by simpa[eqb]using h⟩)
 |lst ds =>
  cases n with
  |zero=>simp[eqb]at h
  |succ m=>exact .inr (.inr ⟨m,ds,rfl,rfl,by simpa[eqb]using h⟩)
 |fn x=>cases n<;>simp[eqb]at h
 |dic=>cases n<;>simp[eqb]at h
 |exn x=>cases n<;>simp[eqb]at h
 |_=>exact .inl rfl
theorem vT(I:Inv X pins σ H s):∀(n:Nat) (d e:D) (x:V),eqb n d=true->eqb n e=true->Rep X.K X.mg H d x->Rep X.K X.mg H e x->deq d e=true:=by
 intro n
 induction n with
 |zero =>
  intro d e x hd he rd re;have fd:=y9 hd;have fe:=y9 he;rw[j6 fd fe,<- zN fd rd,<- zN fe re];exact vS (by rw[zN fd rd];exact zq fd)
 |succ n ih =>
  intro d e x hd he rd re;have seq:∀(ds es:List D) (xs:List V),(∀e∈ds,eqb n e=true)->(∀e∈es,eqb n e=true)->Reps X.K X.mg H ds xs->Reps X.K X.mg H es xs->deqs ds es=true:=by
   intro ds
   induction ds with
   |nil =>
    intro es xs _ _ r1 r2;simp only[Reps]at r1;subst r1;cases es with
    |nil=>rfl
    |cons e es=>simp only[Reps]at r2;obtain⟨v,r,q,_⟩:=r2;cases q
   |cons d ds ihd =>
    intro es xs h1 h2 r1 r2;simp only[Reps]at r1;obtain⟨v,r,rfl,a1,a2⟩:=r1;cases es with
    |nil=>simp only[Reps]at r2;cases r2
    |cons e es =>
     simp only[Reps]at r2;obtain⟨v',r',q,b1,b2⟩:=r2;cases q;simp only[deqs,Bool.and_eq_true];exact⟨ih d e v (h1 d mem_cons_self) (h2 e mem_cons_self) a1 b1,ihd es r (λz hz=>h1 z (mem_cons_of_mem _ hz)) (λz hz=>h2 z (mem_cons_of_mem _ hz)) a2 b2⟩
  have isRef:∀{d:D} {a:Addr},flat d=true->Rep X.K X.mg H d (.ref a)->False:=λ{d a} fd r=>by
   have:=zN fd r;cases d<;>simp[flat]at fd<;>cases this
  have kinds:∀{a:Addr} {xs ys:List V},SqT X.K H a xs->SqL X.K H a ys->False:=λ{a xs ys} h1 h2=>by
   obtain⟨i1,_,⟨o,e1,c1,_⟩,_⟩:=I.tuple h1;obtain⟨i2,_,⟨o2,n2,e2,c2,_⟩,_⟩:=I.list h2;rw[e1]at e2;cases e2;rw[c1]at c2;simp at c2
  rcases zY hd with fd|⟨m,ds,em,rfl,hds⟩|⟨m,ds,em,rfl,hds⟩
  ·rcases zY he with fe|⟨m,es,em,rfl,hes⟩|⟨m,es,em,rfl,hes⟩
   ·rw[j6 fd fe,<- zN fd rd,<- zN fe re]
    exact vS (by rw[zN fd rd];exact zq fd)
   ·obtain⟨a,xs,rfl,_,_⟩:=zM re
    exact(isRef fd rd).elim
   ·obtain⟨a,xs,rfl,_,_⟩:=zJ re
    exact(isRef fd rd).elim
  ·cases em
   obtain⟨a,xs,rfl,q1,q2⟩:=zM rd;rcases zY he with fe|⟨m,es,em,rfl,hes⟩|⟨m,es,em,rfl,hes⟩
   ·exact(isRef fe re).elim
   ·cases em
    obtain⟨b,ys,e,p1,p2⟩:=zM re;cases e;have:=I.tuple_inj q1 p1;subst this;simp only[deq];exact seq ds es xs hds hes q2 p2
   ·obtain⟨b,ys,e,p1,p2⟩:=zJ re
    cases e;exact(kinds q1 p1).elim
  ·cases em
   obtain⟨a,xs,rfl,q1,q2⟩:=zJ rd;rcases zY he with fe|⟨m,es,em,rfl,hes⟩|⟨m,es,em,rfl,hes⟩
   ·exact(isRef fe re).elim
   ·obtain⟨b,ys,e,p1,p2⟩:=zM re
    cases e;exact(kinds p1 q1).elim
   ·cases em
    obtain⟨b,ys,e,p1,p2⟩:=zJ re;cases e;have:=I.list_inj q1 p1;subst this;simp only[deq];exact seq ds es xs hds hes q2 p2
theorem wW{ds:List D}{xs:List V}{us:List Value}(r:Reps X.K X.mg H ds xs)(v:zZ xs us){j:Nat}(h:j<us.length):j<ds.length/\∃x,Rep X.K X.mg H (ds.getD j .non) x/\zv x us[j]:=by
 have l1:=r.length;have l2:=v.length;have hd:j<ds.length:=by omega
 refine⟨hd,?_⟩;obtain⟨x,q1,q2⟩:=r.get' (i:=j) (d:=ds[j]) (by simp[hd]);obtain⟨u,e1,e2⟩:=v.get q1;have:us[j]=u:=by
  have:=List.getElem?_eq_some_iff.mp e1;exact this.2
 refine⟨x,?_,by rw[this];exact e2⟩;rw[getD_eq_getElem?_getD,getElem?_eq_getElem hd];exact q2
theorem eqAt_ft{A:Around}{d:D}{x:V}{u:Value}{b:Addr}{its:Array Value}(hd:flat d=true)(rx:zv x u)(ex:x=flV d)(hb:s.heap.IsTuple b its)(hu:A.units<cLine):SeqAt.EqAt A s u (.ref b) false:=by
 subst ex;cases d with
 |non=>cases rx;exact SeqAt.EqAt.none_tuple hb hu
 |bl c=>cases rx;exact SeqAt.EqAt.bool_tuple c hb hu
 |int i=>obtain⟨t,rfl⟩:=rx;exact SeqAt.EqAt.int_tuple i t hb hu
 |str z=>obtain⟨t,rfl⟩:=rx;exact SeqAt.EqAt.str_tuple z t hb hu
 |_=>simp[flat]at hd
theorem eqAt_fl{A:Around}{d:D}{x:V}{u:Value}{b:Addr}{its:Array Value}(hd:flat d=true)(rx:zv x u)(ex:x=flV d)(hb:s.heap.IsList b its)(hu:A.units<cLine):SeqAt.EqAt A s u (.ref b) false:=by
 subst ex;cases d with
 |non=>cases rx;exact SeqAt.EqAt.none_list hb hu
 |bl c=>cases rx;exact SeqAt.EqAt.bool_list c hb hu
 |int i=>obtain⟨t,rfl⟩:=rx;exact SeqAt.EqAt.int_list i t hb hu
 |str z=>obtain⟨t,rfl⟩:=rx;exact SeqAt.EqAt.str_list z t hb hu
 |_=>simp[flat]at hd
theorem eqAt_tf{A:Around}{d:D}{x:V}{u:Value}{b:Addr}{its:Array Value}(hd:flat d=true)(rx:zv x u)(ex:x=flV d)(hb:s.heap.IsTuple b its)(hu:A.units<cLine):SeqAt.EqAt A s (.ref b) u false:=by
 subst ex;cases d with
 |non=>cases rx;exact SeqAt.EqAt.tuple_none hb hu
 |bl c=>cases rx;exact SeqAt.EqAt.tuple_bool c hb hu
 |int i=>obtain⟨t,rfl⟩:=rx;exact SeqAt.EqAt.tuple_int i t hb hu
 |str z=>obtain⟨t,rfl⟩:=rx;exact SeqAt.EqAt.tuple_str z t hb hu
 |_=>simp[flat]at hd
theorem eqAt_lf{A:Around}{d:D}{x:V}{u:Value}{b:Addr}{its:Array Value}(hd:flat d=true)(rx:zv x u)(ex:x=flV d)(hb:s.heap.IsList b its)(hu:A.units<cLine):SeqAt.EqAt A s (.ref b) u false:=by
 subst ex;cases d with
 |non=>cases rx;exact SeqAt.EqAt.list_none hb hu
 |bl c=>cases rx;exact SeqAt.EqAt.list_bool c hb hu
 |int i=>obtain⟨t,rfl⟩:=rx;exact SeqAt.EqAt.list_int i t hb hu
 |str z=>obtain⟨t,rfl⟩:=rx;exact SeqAt.EqAt.list_str z t hb hu
 |_=>simp[flat]at hd
theorem Gr{d:D}{ds:List D}(h:flat d=true):deq d (.tup ds)=false:=by cases d<;>simp[flat]at h<;>simp[deq]
theorem Gs{d:D}{ds:List D}(h:flat d=true):deq d (.lst ds)=false:=by cases d<;>simp[flat]at h<;>simp[deq]
theorem Gu{d:D}{ds:List D}(h:flat d=true):deq (.tup ds) d=false:=by cases d<;>simp[flat]at h<;>simp[deq]
theorem Gv{d:D}{ds:List D}(h:flat d=true):deq (.lst ds) d=false:=by cases d<;>simp[flat]at h<;>simp[deq]
theorem eqAtD(I:Inv X pins σ H s):∀(n:Nat) (A:Around) (d e:D) (x y:V) (u v:Value),eqb n d=true->eqb n e=true->Rep X.K X.mg H d x->Rep X.K X.mg H e y->zv x u->zv y v->A.units+n<cLine->SeqAt.EqAt A s u v (deq d e):=by
 intro n
 induction n with
 |zero =>
  intro A d e x y u v hd he rd re rx ry hu;have fd:=y9 hd;have fe:=y9 he;rw[j6 fd fe,<- zN fd rd,<- zN fe re];exact GG rx ry (by rw[zN fd rd];exact zq fd) (by rw[zN fe re];exact zq fe)
 |succ n ih =>
  intro A d e x y u v hd he rd re rx ry hu;have hu0:A.units<cLine:=by omega
  have item:∀{ds es:List D} {xs ys:List V} {us vs:List Value},(∀e∈ds,eqb n e=true)->(∀e∈es,eqb n e=true)->Reps X.K X.mg H ds xs->Reps X.K X.mg H es ys->zZ xs us->zZ ys vs ->
    ∀j (h1:j<us.toArray.size) (h2:j<vs.toArray.size),SeqAt.EqAt A.in1 s us.toArray[j] vs.toArray[j] (deq (ds.getD j .non) (es.getD j .non)):=by
   intro ds es xs ys us vs k1 k2 r1 r2 v1 v2 j h1 h2;have h1':j<us.length:=by simpa using h1
   have h2':j<vs.length:=by simpa using h2
   obtain⟨l1,x1,a1,b1⟩:=wW r1 v1 h1';obtain⟨l2,x2,a2,b2⟩:=wW r2 v2 h2';rw[getElem_toArray,getElem_toArray];have m1:ds.getD j .non∈ds:=by rw[getD_eq_getElem?_getD,getElem?_eq_getElem l1];exact getElem_mem l1
   have m2:es.getD j .non∈es:=by rw[getD_eq_getElem?_getD,getElem?_eq_getElem l2];exact getElem_mem l2
   exact ih A.in1 _ _ x1 x2 _ _ (k1 _ m1) (k2 _ m2) a1 a2 b1 b2 (by show A.units+1+n<cLine;omega)
  rcases zY hd with fd|⟨m,ds,em,rfl,hds⟩|⟨m,ds,em,rfl,hds⟩
  ·have ex:=zN fd rd
   rcases zY he with fe|⟨m,es,em,rfl,hes⟩|⟨m,es,em,rfl,hes⟩
   ·rw[j6 fd fe,<- zN fd rd,<- zN fe re]
    exact GG rx ry (by rw[zN fd rd];exact zq fd) (by rw[zN fe re];exact zq fe)
   ·obtain⟨b,ys,rfl,p1,p2⟩:=zM re
    cases ry;obtain⟨its,_,pl,_⟩:=I.tuple p1;rw[Gr fd];exact eqAt_ft fd rx ex pl hu0
   ·obtain⟨b,ys,rfl,p1,p2⟩:=zJ re
    cases ry;obtain⟨its,_,pl,_⟩:=I.list p1;rw[Gs fd];exact eqAt_fl fd rx ex pl.isList hu0
  ·cases em
   obtain⟨a,xs,rfl,q1,q2⟩:=zM rd;cases rx;obtain⟨us,v1,pl1,_⟩:=I.tuple q1;rcases zY he with fe|⟨m,es,em,rfl,hes⟩|⟨m,es,em,rfl,hes⟩
   ·rw[Gu fe];exact eqAt_tf fe ry (zN fe re) pl1 hu0
   ·cases em
    obtain⟨b,ys,rfl,p1,p2⟩:=zM re;cases ry;obtain⟨vs,v2,pl2,_⟩:=I.tuple p1;by_cases hab:a=b
    ·subst hab
     rw[vT I (n+1) _ _ _ hd he rd re];exact SeqAt.EqAt.same _
    ·have q:=SeqAt.EqAt.of_refs hab (SeqAt.RcAt.tuples pl1 pl2 hu0 (item hds hes q2 p2 v1 v2))
     simp only[deq];rw[jW];have l1:us.toArray.size=ds.length:=by rw[size_toArray,<- v1.length,q2.length]
     have l2:vs.toArray.size=es.length:=by rw[size_toArray,<- v2.length,p2.length]
     rw[l1,l2]at q;exact q
   ·obtain⟨b,ys,rfl,p1,p2⟩:=zJ re
    cases ry;obtain⟨vs,v2,pl2,_⟩:=I.list p1;simp only[deq];exact SeqAt.EqAt.tuple_list pl1 pl2.isList hu0
  ·cases em
   obtain⟨a,xs,rfl,q1,q2⟩:=zJ rd;cases rx;obtain⟨us,v1,pl1,_⟩:=I.list q1;rcases zY he with fe|⟨m,es,em,rfl,hes⟩|⟨m,es,em,rfl,hes⟩
   ·rw[Gv fe];exact eqAt_lf fe ry (zN fe re) pl1.isList hu0
   ·obtain⟨b,ys,rfl,p1,p2⟩:=zM re
    cases ry;obtain⟨vs,v2,pl2,_⟩:=I.tuple p1;simp only[deq];exact SeqAt.EqAt.list_tuple pl1.isList pl2 hu0
   ·cases em
    obtain⟨b,ys,rfl,p1,p2⟩:=zJ re;cases ry;obtain⟨vs,v2,pl2,_⟩:=I.list p1;have l1:us.toArray.size=ds.length:=by rw[size_toArray,<- v1.length,q2.length]
    have l2:vs.toArray.size=es.length:=by rw[size_toArray,<- v2.length,p2.length]
    by_cases hab:a=b
    ·subst hab
     rw[vT I (n+1) _ _ _ hd he rd re];exact SeqAt.EqAt.same _
    ·simp only[deq]
     rw[jW];by_cases hl:ds.length=es.length
     ·have q:=SeqAt.EqAt.of_refs hab (SeqAt.RcAt.lists pl1.isList pl2.isList (by rw[l1,l2,hl]) hu0 (item hds hes q2 p2 v1 v2))
      rw[l1]at q;rw[hl]at q ⊢;simpa using q
     ·have q:=SeqAt.EqAt.of_refs hab (SeqAt.RcAt.lists_lengths (A:=A) pl1.isList pl2.isList (by rw[l1,l2];simpa using hl) hu0)
      have e:(ds.length==es.length)=false:=by simpa using hl
      rw[e,Bool.and_false];exact q
theorem rcAt_V{A:Around}{y x:V}{u v:Value}(ry:zv y u)(rx:zv x v)(fy:wA y=true)(fx:wA x=true):SeqAt.RcAt A s u v (eqV y x):=by
 cases y with
 |non =>
  cases ry;cases x with
  |non=>cases rx;exact SeqAt.RcAt.none_none
  |bl b=>cases rx;exact SeqAt.RcAt.none_bool  b
  |int b=>obtain⟨t2,rfl⟩:=rx;exact SeqAt.RcAt.none_int  b t2
  |str b=>obtain⟨t2,rfl⟩:=rx;exact SeqAt.RcAt.none_str  b t2
  |_=>exact absurd (show false=true from fx) Bool.false_ne_true
 |bl a =>
  cases ry;cases x with
  |non=>cases rx;exact SeqAt.RcAt.bool_none a
  |bl b=>cases rx;exact SeqAt.RcAt.bool_bool a b
  |int b=>obtain⟨t2,rfl⟩:=rx;exact SeqAt.RcAt.bool_int a b t2
  |str b=>obtain⟨t2,rfl⟩:=rx;exact SeqAt.RcAt.bool_str a b t2
  |_=>exact absurd (show false=true from fx) Bool.false_ne_true
 |int a =>
  obtain⟨t,rfl⟩:=ry;cases x with
  |non=>cases rx;exact SeqAt.RcAt.int_none a t
  |bl b=>cases rx;exact SeqAt.RcAt.int_bool a t b
  |int b=>obtain⟨t2,rfl⟩:=rx;exact SeqAt.RcAt.int_int a t b t2
  |str b=>obtain⟨t2,rfl⟩:=rx;exact SeqAt.RcAt.int_str a t b t2
  |_=>exact absurd (show false=true from fx) Bool.false_ne_true
 |str a =>
  obtain⟨t,rfl⟩:=ry;cases x with
  |non=>cases rx;exact SeqAt.RcAt.str_none a t
  |bl b=>cases rx;exact SeqAt.RcAt.str_bool a t b
  |int b=>obtain⟨t2,rfl⟩:=rx;exact SeqAt.RcAt.str_int a t b t2
  |str b=>obtain⟨t2,rfl⟩:=rx;exact SeqAt.RcAt.str_str a t b t2
  |_=>exact absurd (show false=true from fx) Bool.false_ne_true
 |_=>exact absurd (show false=true from fy) Bool.false_ne_true
theorem rcNe_V{A:Around}{y x:V}{u v:Value}(ry:zv y u)(rx:zv x v)(fy:wA y=true)(fx:wA x=true):SeqAt.RcNeAt A s u v (!eqV y x):=by
 cases y with
 |non =>
  cases ry;cases x with
  |non=>cases rx;exact SeqAt.RcNeAt.none_none
  |bl b=>cases rx;exact SeqAt.RcNeAt.none_bool  b
  |int b=>obtain⟨t2,rfl⟩:=rx;exact SeqAt.RcNeAt.none_int  b t2
  |str b=>obtain⟨t2,rfl⟩:=rx;exact SeqAt.RcNeAt.none_str  b t2
  |_=>exact absurd (show false=true from fx) Bool.false_ne_true
 |bl a =>
  cases ry;cases x with
  |non=>cases rx;exact SeqAt.RcNeAt.bool_none a
  |bl b=>cases rx;exact SeqAt.RcNeAt.bool_bool a b
  |int b=>obtain⟨t2,rfl⟩:=rx;exact SeqAt.RcNeAt.bool_int a b t2
  |str b=>obtain⟨t2,rfl⟩:=rx;exact SeqAt.RcNeAt.bool_str a b t2
  |_=>exact absurd (show false=true from fx) Bool.false_ne_true
 |int a =>
  obtain⟨t,rfl⟩:=ry;cases x with
  |non=>cases rx;exact SeqAt.RcNeAt.int_none a t
  |bl b=>cases rx;exact SeqAt.RcNeAt.int_bool a t b
  |int b=>obtain⟨t2,rfl⟩:=rx;exact SeqAt.RcNeAt.int_int a t b t2
  |str b=>obtain⟨t2,rfl⟩:=rx;exact SeqAt.RcNeAt.int_str a t b t2
  |_=>exact absurd (show false=true from fx) Bool.false_ne_true
 |str a =>
  obtain⟨t,rfl⟩:=ry;cases x with
  |non=>cases rx;exact SeqAt.RcNeAt.str_none a t
  |bl b=>cases rx;exact SeqAt.RcNeAt.str_bool a t b
  |int b=>obtain⟨t2,rfl⟩:=rx;exact SeqAt.RcNeAt.str_int a t b t2
  |str b=>obtain⟨t2,rfl⟩:=rx;exact SeqAt.RcNeAt.str_str a t b t2
  |_=>exact absurd (show false=true from fx) Bool.false_ne_true
 |_=>exact absurd (show false=true from fy) Bool.false_ne_true
theorem rc_ft{A:Around}{d:D}{x:V}{u:Value}{b:Addr}{its:Array Value}(hd:flat d=true)(rx:zv x u)(ex:x=flV d)(hb:s.heap.IsTuple b its)(hu:A.units<cLine):SeqAt.RcAt A s u (.ref b) false:=by
 subst ex;cases d with
 |non=>cases rx;exact SeqAt.RcAt.none_tuple hb hu
 |bl c=>cases rx;exact SeqAt.RcAt.bool_tuple c hb hu
 |int c=>obtain⟨t,rfl⟩:=rx;exact SeqAt.RcAt.int_tuple c t hb hu
 |str c=>obtain⟨t,rfl⟩:=rx;exact SeqAt.RcAt.str_tuple c t hb hu
 |_=>simp[flat]at hd
theorem rc_fl{A:Around}{d:D}{x:V}{u:Value}{b:Addr}{its:Array Value}(hd:flat d=true)(rx:zv x u)(ex:x=flV d)(hb:s.heap.IsList b its)(hu:A.units<cLine):SeqAt.RcAt A s u (.ref b) false:=by
 subst ex;cases d with
 |non=>cases rx;exact SeqAt.RcAt.none_list hb hu
 |bl c=>cases rx;exact SeqAt.RcAt.bool_list c hb hu
 |int c=>obtain⟨t,rfl⟩:=rx;exact SeqAt.RcAt.int_list c t hb hu
 |str c=>obtain⟨t,rfl⟩:=rx;exact SeqAt.RcAt.str_list c t hb hu
 |_=>simp[flat]at hd
theorem rc_tf{A:Around}{d:D}{x:V}{u:Value}{b:Addr}{its:Array Value}(hd:flat d=true)(rx:zv x u)(ex:x=flV d)(hb:s.heap.IsTuple b its)(hu:A.units<cLine):SeqAt.RcAt A s (.ref b) u false:=by
 subst ex;cases d with
 |non=>cases rx;exact SeqAt.RcAt.tuple_none hb hu
 |bl c=>cases rx;exact SeqAt.RcAt.tuple_bool c hb hu
 |int c=>obtain⟨t,rfl⟩:=rx;exact SeqAt.RcAt.tuple_int c t hb hu
 |str c=>obtain⟨t,rfl⟩:=rx;exact SeqAt.RcAt.tuple_str c t hb hu
 |_=>simp[flat]at hd
theorem rc_lf{A:Around}{d:D}{x:V}{u:Value}{b:Addr}{its:Array Value}(hd:flat d=true)(rx:zv x u)(ex:x=flV d)(hb:s.heap.IsList b its)(hu:A.units<cLine):SeqAt.RcAt A s (.ref b) u false:=by
 subst ex;cases d with
 |non=>cases rx;exact SeqAt.RcAt.list_none hb hu
 |bl c=>cases rx;exact SeqAt.RcAt.list_bool c hb hu
 |int c=>obtain⟨t,rfl⟩:=rx;exact SeqAt.RcAt.list_int c t hb hu
 |str c=>obtain⟨t,rfl⟩:=rx;exact SeqAt.RcAt.list_str c t hb hu
 |_=>simp[flat]at hd
theorem rn_ft{A:Around}{d:D}{x:V}{u:Value}{b:Addr}{its:Array Value}(hd:flat d=true)(rx:zv x u)(ex:x=flV d)(hb:s.heap.IsTuple b its)(hu:A.units<cLine):SeqAt.RcNeAt A s u (.ref b) true:=by
 subst ex;cases d with
 |non=>cases rx;exact SeqAt.RcNeAt.none_tuple hb hu
 |bl c=>cases rx;exact SeqAt.RcNeAt.bool_tuple c hb hu
 |int c=>obtain⟨t,rfl⟩:=rx;exact SeqAt.RcNeAt.int_tuple c t hb hu
 |str c=>obtain⟨t,rfl⟩:=rx;exact SeqAt.RcNeAt.str_tuple c t hb hu
 |_=>simp[flat]at hd
theorem rn_fl{A:Around}{d:D}{x:V}{u:Value}{b:Addr}{its:Array Value}(hd:flat d=true)(rx:zv x u)(ex:x=flV d)(hb:s.heap.IsList b its)(hu:A.units<cLine):SeqAt.RcNeAt A s u (.ref b) true:=by
 subst ex;cases d with
 |non=>cases rx;exact SeqAt.RcNeAt.none_list hb hu
 |bl c=>cases rx;exact SeqAt.RcNeAt.bool_list c hb hu
 |int c=>obtain⟨t,rfl⟩:=rx;exact SeqAt.RcNeAt.int_list c t hb hu
 |str c=>obtain⟨t,rfl⟩:=rx;exact SeqAt.RcNeAt.str_list c t hb hu
 |_=>simp[flat]at hd
theorem rn_tf{A:Around}{d:D}{x:V}{u:Value}{b:Addr}{its:Array Value}(hd:flat d=true)(rx:zv x u)(ex:x=flV d)(hb:s.heap.IsTuple b its)(hu:A.units<cLine):SeqAt.RcNeAt A s (.ref b) u true:=by
 subst ex;cases d with
 |non=>cases rx;exact SeqAt.RcNeAt.tuple_none hb hu
 |bl c=>cases rx;exact SeqAt.RcNeAt.tuple_bool c hb hu
 |int c=>obtain⟨t,rfl⟩:=rx;exact SeqAt.RcNeAt.tuple_int c t hb hu
 |str c=>obtain⟨t,rfl⟩:=rx;exact SeqAt.RcNeAt.tuple_str c t hb hu
 |_=>simp[flat]at hd
theorem rn_lf{A:Around}{d:D}{x:V}{u:Value}{b:Addr}{its:Array Value}(hd:flat d=true)(rx:zv x u)(ex:x=flV d)(hb:s.heap.IsList b its)(hu:A.units<cLine):SeqAt.RcNeAt A s (.ref b) u true:=by
 subst ex;cases d with
 |non=>cases rx;exact SeqAt.RcNeAt.list_none hb hu
 |bl c=>cases rx;exact SeqAt.RcNeAt.list_bool c hb hu
 |int c=>obtain⟨t,rfl⟩:=rx;exact SeqAt.RcNeAt.list_int c t hb hu
 |str c=>obtain⟨t,rfl⟩:=rx;exact SeqAt.RcNeAt.list_str c t hb hu
 |_=>simp[flat]at hd
theorem rcAtD(I:Inv X pins σ H s)(n:Nat)(A:Around)(d e:D)(x y:V)(u v:Value)(hd:eqb n d=true)(he:eqb n e=true)(rd:Rep X.K X.mg H d x)(re:Rep X.K X.mg H e y)(rx:zv x u)(ry:zv y v)(hu:A.units+n<cLine):SeqAt.RcAt A s u v (deq d e):=by
 have hu0:A.units<cLine:=by omega
 have item:∀{m:Nat} {ds es:List D} {xs ys:List V} {us vs:List Value},n=m+1->(∀e∈ds,eqb m e=true)->(∀e∈es,eqb m e=true)->Reps X.K X.mg H ds xs->Reps X.K X.mg H es ys->zZ xs us->zZ ys vs ->
   ∀j (h1:j<us.toArray.size) (h2:j<vs.toArray.size),SeqAt.EqAt A.in1 s us.toArray[j] vs.toArray[j] (deq (ds.getD j .non) (es.getD j .non)):=by
  intro m ds es xs ys us vs hm k1 k2 r1 r2 v1 v2 j h1 h2;have h1':j<us.length:=by simpa using h1
  have h2':j<vs.length:=by simpa using h2
  obtain⟨l1,x1,a1,b1⟩:=wW r1 v1 h1';obtain⟨l2,x2,a2,b2⟩:=wW r2 v2 h2';rw[getElem_toArray,getElem_toArray];have m1:ds.getD j .non∈ds:=by rw[getD_eq_getElem?_getD,getElem?_eq_getElem l1];exact getElem_mem l1
  have m2:es.getD j .non∈es:=by rw[getD_eq_getElem?_getD,getElem?_eq_getElem l2];exact getElem_mem l2
  exact eqAtD I m A.in1 _ _ x1 x2 _ _ (k1 _ m1) (k2 _ m2) a1 a2 b1 b2 (by show A.units+1+m<cLine;omega)
 rcases zY hd with fd|⟨m,ds,em,rfl,hds⟩|⟨m,ds,em,rfl,hds⟩
 ·have ex:=zN fd rd
  rcases zY he with fe|⟨m,es,em,rfl,hes⟩|⟨m,es,em,rfl,hes⟩
  ·rw[j6 fd fe,<- zN fd rd,<- zN fe re]
   exact rcAt_V rx ry (by rw[zN fd rd];exact zq fd) (by rw[zN fe re];exact zq fe)
  ·obtain⟨b,ys,rfl,p1,p2⟩:=zM re
   cases ry;obtain⟨its,_,pl,_⟩:=I.tuple p1;rw[Gr fd];exact rc_ft fd rx ex pl hu0
  ·obtain⟨b,ys,rfl,p1,p2⟩:=zJ re
   cases ry;obtain⟨its,_,pl,_⟩:=I.list p1;rw[Gs fd];exact rc_fl fd rx ex pl.isList hu0
 ·obtain⟨a,xs,rfl,q1,q2⟩:=zM rd
  cases rx;obtain⟨us,v1,pl1,_⟩:=I.tuple q1;rcases zY he with fe|⟨m',es,em',rfl,hes⟩|⟨m',es,em',rfl,hes⟩
  ·rw[Gu fe];exact rc_tf fe ry (zN fe re) pl1 hu0
  ·have:m=m':=by omega
   subst this;obtain⟨b,ys,rfl,p1,p2⟩:=zM re;cases ry;obtain⟨vs,v2,pl2,_⟩:=I.tuple p1;have q:=SeqAt.RcAt.tuples pl1 pl2 hu0 (item em hds hes q2 p2 v1 v2);simp only[deq];rw[jW];have l1:us.toArray.size=ds.length:=by rw[size_toArray,<- v1.length,q2.length]
   have l2:vs.toArray.size=es.length:=by rw[size_toArray,<- v2.length,p2.length]
   rw[l1,l2]at q;exact q
  ·obtain⟨b,ys,rfl,p1,p2⟩:=zJ re
   cases ry;obtain⟨vs,v2,pl2,_⟩:=I.list p1;simp only[deq];exact SeqAt.RcAt.tuple_list pl1 pl2.isList hu0
 ·obtain⟨a,xs,rfl,q1,q2⟩:=zJ rd
  cases rx;obtain⟨us,v1,pl1,_⟩:=I.list q1;rcases zY he with fe|⟨m',es,em',rfl,hes⟩|⟨m',es,em',rfl,hes⟩
  ·rw[Gv fe];exact rc_lf fe ry (zN fe re) pl1.isList hu0
  ·obtain⟨b,ys,rfl,p1,p2⟩:=zM re
   cases ry;obtain⟨vs,v2,pl2,_⟩:=I.tuple p1;simp only[deq];exact SeqAt.RcAt.list_tuple pl1.isList pl2 hu0
  ·have:m=m':=by omega
   subst this;obtain⟨b,ys,rfl,p1,p2⟩:=zJ re;cases ry;obtain⟨vs,v2,pl2,_⟩:=I.list p1;have l1:us.toArray.size=ds.length:=by rw[size_toArray,<- v1.length,q2.length]
   have l2:vs.toArray.size=es.length:=by rw[size_toArray,<- v2.length,p2.length]
   simp only[deq];rw[jW];by_cases hl:ds.length=es.length
   ·have q:=SeqAt.RcAt.lists pl1.isList pl2.isList (by rw[l1,l2,hl]) hu0 (item em hds hes q2 p2 v1 v2)
    rw[l1]at q;rw[hl]at q ⊢;simpa using q
   ·have q:=SeqAt.RcAt.lists_lengths (A:=A) pl1.isList pl2.isList (by rw[l1,l2];simpa using hl) hu0
    have e:(ds.length==es.length)=false:=by simpa using hl
    rw[e,Bool.and_false];exact q
theorem rcNeD(I:Inv X pins σ H s)(n:Nat)(A:Around)(d e:D)(x y:V)(u v:Value)(hd:eqb n d=true)(he:eqb n e=true)(rd:Rep X.K X.mg H d x)(re:Rep X.K X.mg H e y)(rx:zv x u)(ry:zv y v)(hu:A.units+n<cLine):SeqAt.RcNeAt A s u v (!deq d e):=by
 have hu0:A.units<cLine:=by omega
 have item:∀{m:Nat} {ds es:List D} {xs ys:List V} {us vs:List Value},n=m+1->(∀e∈ds,eqb m e=true)->(∀e∈es,eqb m e=true)->Reps X.K X.mg H ds xs->Reps X.K X.mg H es ys->zZ xs us->zZ ys vs ->
   ∀j (h1:j<us.toArray.size) (h2:j<vs.toArray.size),SeqAt.EqAt A.in1 s us.toArray[j] vs.toArray[j] (deq (ds.getD j .non) (es.getD j .non)):=by
  intro m ds es xs ys us vs hm k1 k2 r1 r2 v1 v2 j h1 h2;have h1':j<us.length:=by simpa using h1
  have h2':j<vs.length:=by simpa using h2
  obtain⟨l1,x1,a1,b1⟩:=wW r1 v1 h1';obtain⟨l2,x2,a2,b2⟩:=wW r2 v2 h2';rw[getElem_toArray,getElem_toArray];have m1:ds.getD j .non∈ds:=by rw[getD_eq_getElem?_getD,getElem?_eq_getElem l1];exact getElem_mem l1
  have m2:es.getD j .non∈es:=by rw[getD_eq_getElem?_getD,getElem?_eq_getElem l2];exact getElem_mem l2
  exact eqAtD I m A.in1 _ _ x1 x2 _ _ (k1 _ m1) (k2 _ m2) a1 a2 b1 b2 (by show A.units+1+m<cLine;omega)
 rcases zY hd with fd|⟨m,ds,em,rfl,hds⟩|⟨m,ds,em,rfl,hds⟩
 ·have ex:=zN fd rd
  rcases zY he with fe|⟨m,es,em,rfl,hes⟩|⟨m,es,em,rfl,hes⟩
  ·rw[j6 fd fe,<- zN fd rd,<- zN fe re]
   exact rcNe_V rx ry (by rw[zN fd rd];exact zq fd) (by rw[zN fe re];exact zq fe)
  ·obtain⟨b,ys,rfl,p1,p2⟩:=zM re
   cases ry;obtain⟨its,_,pl,_⟩:=I.tuple p1;rw[Gr fd];exact rn_ft fd rx ex pl hu0
  ·obtain⟨b,ys,rfl,p1,p2⟩:=zJ re
   cases ry;obtain⟨its,_,pl,_⟩:=I.list p1;rw[Gs fd];exact rn_fl fd rx ex pl.isList hu0
 ·obtain⟨a,xs,rfl,q1,q2⟩:=zM rd
  cases rx;obtain⟨us,v1,pl1,_⟩:=I.tuple q1;rcases zY he with fe|⟨m',es,em',rfl,hes⟩|⟨m',es,em',rfl,hes⟩
  ·rw[Gu fe];exact rn_tf fe ry (zN fe re) pl1 hu0
  ·have:m=m':=by omega
   subst this;obtain⟨b,ys,rfl,p1,p2⟩:=zM re;cases ry;obtain⟨vs,v2,pl2,_⟩:=I.tuple p1;have q:=SeqAt.RcNeAt.tuples pl1 pl2 hu0 (item em hds hes q2 p2 v1 v2);simp only[deq];rw[jW];have l1:us.toArray.size=ds.length:=by rw[size_toArray,<- v1.length,q2.length]
   have l2:vs.toArray.size=es.length:=by rw[size_toArray,<- v2.length,p2.length]
   rw[l1,l2]at q;exact q
  ·obtain⟨b,ys,rfl,p1,p2⟩:=zJ re
   cases ry;obtain⟨vs,v2,pl2,_⟩:=I.list p1;simp only[deq];exact SeqAt.RcNeAt.tuple_list pl1 pl2.isList hu0
 ·obtain⟨a,xs,rfl,q1,q2⟩:=zJ rd
  cases rx;obtain⟨us,v1,pl1,_⟩:=I.list q1;rcases zY he with fe|⟨m',es,em',rfl,hes⟩|⟨m',es,em',rfl,hes⟩
  ·rw[Gv fe];exact rn_lf fe ry (zN fe re) pl1.isList hu0
  ·obtain⟨b,ys,rfl,p1,p2⟩:=zM re
   cases ry;obtain⟨vs,v2,pl2,_⟩:=I.tuple p1;simp only[deq];exact SeqAt.RcNeAt.list_tuple pl1.isList pl2 hu0
  ·have:m=m':=by omega
   subst this;obtain⟨b,ys,rfl,p1,p2⟩:=zJ re;cases ry;obtain⟨vs,v2,pl2,_⟩:=I.list p1;have l1:us.toArray.size=ds.length:=by rw[size_toArray,<- v1.length,q2.length]
   have l2:vs.toArray.size=es.length:=by rw[size_toArray,<- v2.length,p2.length]
   simp only[deq];rw[jW];by_cases hl:ds.length=es.length
   ·have q:=SeqAt.RcNeAt.lists pl1.isList pl2.isList (by rw[l1,l2,hl]) hu0 (item em hds hes q2 p2 v1 v2)
    rw[l1]at q;rw[hl]at q ⊢;simpa using q
   ·have q:=SeqAt.RcNeAt.lists_lengths (A:=A) pl1.isList pl2.isList (by rw[l1,l2];simpa using hl) hu0
    have e:(ds.length==es.length)=false:=by simpa using hl
    rw[e,Bool.and_false];exact q
end
section
variable{X:Cx}{K:PySem.W.Frag}{mg:Str->Option Value}
def rEqD(K:PySem.W.Frag)(mg:Str->Option Value)(neg:Bool):R2:=λx y H Q=>∃d e,eqb 20 d=true/\eqb 20 e=true/\Rep K mg H d x/\Rep K mg H e y/\Q (.bl (if neg then !deq d e else deq d e)) H
theorem zBN(hu:X.A.units+20<cLine):OpR X (compareOp .Eq) (rEqD X.K X.mg false):=by
 intro pins s σ H x y v u Q I rx ry h;obtain⟨d,e,h1,h2,r1,r2,q⟩:=h;exact rcAtD I 20 X.A d e x y v u h1 h2 r1 r2 rx ry hu X.prog X.w _ _ ⟨.bl (deq d e),H,I,rfl,q⟩
theorem zBO(hu:X.A.units+20<cLine):OpR X (compareOp .NotEq) (rEqD X.K X.mg true):=by
 intro pins s σ H x y v u Q I rx ry h;obtain⟨d,e,h1,h2,r1,r2,q⟩:=h;exact rcNeD I 20 X.A d e x y v u h1 h2 r1 r2 rx ry hu X.prog X.w _ _ ⟨.bl (!deq d e),H,I,rfl,q⟩
def eqDD(neg:Bool)(d e:D):Option R:=if eqb 20 d=true/\eqb 20 e=true then some (.val (.bl (if neg then !deq d e else deq d e)))else none
theorem zBP{neg:Bool}:ROk K mg (rEqD K mg neg) (eqDD neg):=by
 intro M H Z x y d1 d2 res Q f r1 r2 e k;unfold eqDD at e;split at e
 ·rename_i hc
  cases e;exact⟨d1,d2,hc.1,hc.2,r1.mono zF,r2.mono zF,k.flat f rfl⟩
 ·cases e
end
end DV
namespace L2
open PySem PySem.Spec PyProof.Rows
section
variable{X:Cx}
theorem Jx{ns:List Int}{its:List Value}(rv:zZ (ns.map V.int) its)(i:Nat)(v:Value)(hv:its.toArray[i]?=some v):∃t,v=.int (ns.getD i 0) t:=by
 have hv':its[i]?=some v:=by simpa using hv
 have hi:i<its.length:=(List.getElem?_eq_some_iff.mp hv').1;have hl:=rv.length;have hx:i<(ns.map V.int).length:=by rw[hl];exact hi
 obtain⟨u',e1,e2⟩:=rv.get (i:=i) (x:=(ns.map V.int)[i]) (by simp[hx]);rw[hv']at e1;cases e1;rw[length_map]at hx;rw[getElem_map]at e2;obtain⟨t,e⟩:=(show ∃t,v=.int (ns[i]) t from e2);exact⟨t,by rw[e];simp[hx]⟩
def zAd(ns:List Int):Int:=ns.getD (argBest (λi j=>decide (ns.getD i 0 > ns.getD j 0)) (ns.length-1)) 0
def Gw(ns:List Int):Int:=ns.getD (argBest (λi j=>decide (ns.getD i 0<ns.getD j 0)) (ns.length-1)) 0
theorem Gy(hc:X.calm=true):y1 X (.builtin "max") (λxs H Q=>∃(p:Addr) (ns:List Int),xs=[.ref p]/\SqL X.K H p (ns.map V.int)/\0<ns.length/\Q (.int (zAd ns)) H):=by
 intro pins s σ H xs us Q I r h;obtain⟨p,ns,rfl,hq,hpos,q⟩:=h;obtain⟨u,rfl,rx⟩:=Yx r;cases rx;obtain⟨its,rv,pl,hz⟩:=I.list hq;have hlen:its.length=ns.length:=by rw[<- rv.length,length_map]
 have hp:p<s.heap.objs.size:=by obtain⟨o,n,e,_⟩:=pl;exact lt_size e
 have hk:∀b o,s.heap.get? b=some o->(s.heap.push {cls:=.type "list_iterator",data:=.fields #[.ref p,.int 0 0]}).get? b=some o:=λb o e=>get?_push_of_some _ e
 refine call_max_walk (wpAny_pyIter_list pl.isList ?_);refine⟨s.heap.objs.size,[s.heap.objs.size,p],[s.heap.objs.size],its.toArray.size,_,_,_,rfl,
  Walks.list (by show X.A.handled=none;exact I.ok.hd hc) _ p (ne_of_lt hp) its.toArray,⟨⟨_,get?_push_size _ rfl,rfl,rfl⟩,?_⟩,?_,?_,CmpOf.ints_gt (λi=>ns.getD i 0) (Jx rv),?_⟩
 ·obtain⟨o,e,c⟩:=pl.isList
  exact⟨o,hk _ _ e,c⟩
 ·intro b hb
  rw[size_push];rcases mem_cons.mp hb with rfl|hb
  ·exact lt_succ_self _
  ·have:b=p:=by simpa using hb
   subst this;exact lt_succ_of_lt hp
 ·rw[size_toArray,hlen];exact hpos
 ·intro v h' tk hP kp
  obtain⟨t,e⟩:=Jx rv _ v hP;subst e;rw[size_toArray,hlen];exact⟨.int (zAd ns),H,I.kept (t':=tk) λb o eb=>kp b o (λm=>by
   have:b=s.heap.objs.size:=by simpa using m
   subst this;exact absurd (lt_size eb) (lt_irrefl _)) (hk b o eb),⟨_,rfl⟩,q⟩
theorem Gz(hc:X.calm=true):y1 X (.builtin "min") (λxs H Q=>∃(p:Addr) (ns:List Int),xs=[.ref p]/\SqL X.K H p (ns.map V.int)/\0<ns.length/\Q (.int (Gw ns)) H):=by
 intro pins s σ H xs us Q I r h;obtain⟨p,ns,rfl,hq,hpos,q⟩:=h;obtain⟨u,rfl,rx⟩:=Yx r;cases rx;obtain⟨its,rv,pl,hz⟩:=I.list hq;have hlen:its.length=ns.length:=by rw[<- rv.length,length_map]
 have hp:p<s.heap.objs.size:=by obtain⟨o,n,e,_⟩:=pl;exact lt_size e
 have hk:∀b o,s.heap.get? b=some o->(s.heap.push {cls:=.type "list_iterator",data:=.fields #[.ref p,.int 0 0]}).get? b=some o:=λb o e=>get?_push_of_some _ e
 refine call_min_walk (wpAny_pyIter_list pl.isList ?_);refine⟨s.heap.objs.size,[s.heap.objs.size,p],[s.heap.objs.size],its.toArray.size,_,_,_,rfl,
  Walks.list (by show X.A.handled=none;exact I.ok.hd hc) _ p (ne_of_lt hp) its.toArray,⟨⟨_,get?_push_size _ rfl,rfl,rfl⟩,?_⟩,?_,?_,CmpOf.ints_lt (λi=>ns.getD i 0) (Jx rv),?_⟩
 ·obtain⟨o,e,c⟩:=pl.isList
  exact⟨o,hk _ _ e,c⟩
 ·intro b hb
  rw[size_push];rcases mem_cons.mp hb with rfl|hb
  ·exact lt_succ_self _
  ·have:b=p:=by simpa using hb
   subst this;exact lt_succ_of_lt hp
 ·rw[size_toArray,hlen];exact hpos
 ·intro v h' tk hP kp
  obtain⟨t,e⟩:=Jx rv _ v hP;subst e;rw[size_toArray,hlen];exact⟨.int (Gw ns),H,I.kept (t':=tk) λb o eb=>kp b o (λm=>by
   have:b=s.heap.objs.size:=by simpa using m
   subst this;exact absurd (lt_size eb) (lt_irrefl _)) (hk b o eb),⟨_,rfl⟩,q⟩
theorem uT(a:Int)(t:Tok)(l:Addr)(its:Array Value)(n:Nat)(dd:Option Addr)(sl:Array (Option Value)) :
  Meets (Builtin.«int.__rmul__» ⟨[.int a t,.ref l],[]⟩) (λ_ R s=>s.heap.get? l=some {cls:=.type "list",dict:=dd,data:=.seq its n,slots:=sl}/\R (.ok (.ret Value.notImplemented)) s) :=
 .of_wp λprog w A R s h=>by
  obtain⟨hp,g,d,tk,os⟩:=s;obtain⟨hl,h⟩:=h
  wp_walk
  exact⟨_,rfl,h⟩
theorem G0(l:Addr)(its:Array Value)(n:Nat)(dd:Option Addr)(sl:Array (Option Value))(k:Int)(u:Tok)(h0:¬(!Builtin.List.listFitsIndex k)=true)(h1:¬its.size*k.toNat > (2^63-1)/8)(h2:¬Builtin.List.listTooLong (its.size*k.toNat)=true) :
  Meets (Builtin.«list.__mul__» ⟨[.ref l,.int k u],[]⟩) (λ_ R s=>s.heap.get? l=some {cls:=.type "list",dict:=dd,data:=.seq its n,slots:=sl} /\
   R (.ok (.ret (Value.ref s.heap.objs.size))) {s with heap:=s.heap.push {cls:=Value.type "list",data:=Data.seq (foldl (λa b=>a++b) #[] (replicate (if its.isEmpty=true then 0 else k.toNat) its))},toks:=s.toks}) :=
 .of_wp λprog w A R s h=>by
  obtain⟨hp,g,d,tk,os⟩:=s;obtain⟨hl,h⟩:=h;have fits:=AutoListH.joined_fits h2
  wp_walk
  refine wpAny_ite_false (decide_eq_false (not_lt.mpr fits)) ?_
  wp_walk
  exact⟨_,rfl,h⟩
def rRepL(K:PySem.W.Frag):R2:=λx y H Q=>∃l k xs,x=.ref l/\y=.int k/\SqL K H l xs/\-(2^63)<=k/\k<2^63/\xs.length*k.toNat<=sizeLine /\
 ∀p,H p=none->Q (.ref p) (upd H p (.lst (replicate k.toNat xs).flatten))
theorem op_repL:OpR X (binaryOp .Mult) (rRepL X.K):=by
 intro pins s σ H x y v u Q I rx ry h;obtain⟨l,k,xs,rfl,rfl,hH,h1,h2,hz,q⟩:=h;cases rx;obtain⟨t,rfl⟩:=ry;obtain⟨its,r,pl,_⟩:=I.list hH;have hl:=r.length;obtain⟨⟨cls,dd,data,sl⟩,n,ho,hc,hdd,hd⟩:=pl;simp only at hc hd;subst hc hd;have hlen:its.toArray.size*k.toNat<=sizeLine:=by rw[size_toArray,<- hl];exact hz
 have c1:¬its.toArray.size*k.toNat > (2^63-1)/8:=by
  have:(sizeLine:Nat)<=(2^63-1)/8:=by decide
  omega
 have c2:¬(!Builtin.List.listFitsIndex k)=true:=by rw[fitsIndex_both h1 h2];exact Bool.false_ne_true
 have c3:¬Builtin.List.listTooLong (its.toArray.size*k.toNat)=true:=by rw[Q8 hlen];exact Bool.false_ne_true
 have hnew:foldl (λa b=>a++b) #[] (replicate (if its.toArray.isEmpty=true then 0 else k.toNat) its.toArray)=(replicate k.toNat its).flatten.toArray:=by
  have f0:∀m:Nat,foldl (λa b=>a++b) #[] (replicate m its.toArray)=(replicate m its).flatten.toArray:=λm=>by
   have:=J6 its m [];rw[nil_append]at this;exact this
  rw[f0];cases its with
  |nil=>simp
  |cons a r'=>rw[if_neg (by simp)]
 refine wpAny_binaryOp_repeat_ref (T:="list") (U:="int") (by decide) ⟨_,ho,rfl⟩ (λs'=>typeIs_int s' k t) noFill_list_mul F.fills_int_mul F.slot_int_rmul repeat_list F.slot_int_index.lookup
  (call_meets F.slot_int_rmul (typeIs_int s k t) F.entry_int_rmul (F.args_int_rmul_2 _ _) (uT k t l its.toArray n dd sl) ⟨ho,rfl,⟨_,ho,rfl⟩,?_⟩)
 refine call_meets F.slot_list_mul ⟨_,ho,rfl⟩ F.entry_list_mul (F.args_list_mul_2 _ _) (G0 l its.toArray n dd sl k t c2 c1 c3) ⟨ho,?_⟩;rw[hnew];exact⟨.ref _,_,I.lnew (t':=s.toks) (r.rep k.toNat) (by rw[We,Nat.mul_comm];exact hz),rfl,q _ I.fresh⟩
def isV:V->V->Option Bool
 | .non,.non=>some true
 | .non,.bl _=>some false
 | .bl _,.non=>some false
 | .bl a,.bl b=>some (a==b)
 | .non,.int _=>some false
 | .int _,.non=>some false
 | .non,.str _=>some false
 | .str _,.non=>some false
 | .ref _,.non=>some false
 | .non,.ref _=>some false
 | .ref _,.bl _=>some false
 | .bl _,.ref _=>some false
 | .int _,.bl _=>some false
 | .bl _,.int _=>some false
 | .str _,.bl _=>some false
 | .bl _,.str _=>some false
 |_,_=>none
theorem same_of{x y:V}{u v:Value}{b:Bool}(h:isV x y=some b)(rx:zv x u)(ry:zv y v):isSame u v=pure b:=by
 cases x<;>cases y<;>simp[isV]at h<;>subst h<;>first
  | (cases rx;cases ry;rfl)
  | (rename_i a b;cases rx;cases ry;cases a<;>cases b<;>rfl)
  | (cases rx;obtain⟨t,rfl⟩:=ry;rfl)
  | (obtain⟨t,rfl⟩:=rx;cases ry;rfl)
theorem vU:OpR X (compareOp .IsNot) (λx y H Q=>∃b,isV x y=some b/\Q (.bl (!b)) H):=by
 intro pins s σ H x y v u Q I rx ry h;obtain⟨b,hb,q⟩:=h;show wpAny _ _ (isSame v u >>= λc=>pure (Value.bool (!c))) _ _ _;rw[same_of hb rx ry];exact wpAny_pure ⟨.bl (!b),H,I,rfl,q⟩
end
end L2
namespace L2
open PySem PySem.Spec PyProof.Rows
def evens{α:Type}:List α->List α
 | []=>[]
 | [a]=>[a]
 |a::_::r=>a::evens r
theorem JZ{α:Type}:∀xs:List α,(evens xs).length=(xs.length+1)/2
 | []=>by simp[evens]
 | [a]=>by simp[evens]
 |a::_::r=>by
  simp only[evens,length_cons,JZ r];omega
theorem JF{α:Type}:∀(xs:List α),(List.range ((xs.length+1)/2)).filterMap (λk=>xs[2*k]?)=evens xs
 | []=>by simp[evens]
 | [a]=>by simp[evens,range_succ]
 |a::b::r=>by
  have e:((a::b::r).length+1)/2=(r.length+1)/2+1:=by simp only[length_cons];omega
  rw[e,List.range_succ_eq_map,filterMap_cons];simp only[Nat.mul_zero,List.getElem?_cons_zero,filterMap_map,evens];congr 1;rw[<- JF r];congr 1
theorem vV{α:Type}(xs:List α):(List.range xs.length).filterMap (λk=>xs[xs.length-1-k]?)=xs.reverse:=by
 have key:∀m,m<=xs.length->(List.range m).filterMap (λk=>xs[xs.length-1-k]?)=xs.reverse.take m:=by
  intro m
  induction m with
  |zero=>intro _;simp
  |succ m ih =>
   intro hm;rw[range_succ,List.filterMap_append,ih (by omega),List.take_add_one];congr 1;rw[List.getElem?_reverse (by omega)];have h:xs.length-1-m<xs.length:=by omega
   simp[getElem?_eq_getElem h]
 rw[key _ (le_refl _)];rw[show xs.length=xs.reverse.length by simp,List.take_length]
theorem wn{α β:Type}{f g:α->Option β}:∀{l:List α},(∀x∈l,f x=g x)->l.filterMap f=l.filterMap g
 | [],_=>rfl
 |a::l,h=>by
  rw[filterMap_cons,filterMap_cons,h a mem_cons_self,wn λx hx=>h x (mem_cons_of_mem _ hx)]
theorem neg1:(- -1:Int)=1:=rfl
def yk{α:Type}(k:Bool)(xs:List α):List α:=if k then evens xs else xs.reverse
def yC(k:Bool):Int:=if k then 2 else -1
theorem jp{α:Type}(k:Bool)(xs:List α):(yk k xs).length<=xs.length:=by
 cases k
 ·simp[yk]
 ·simp[yk,JZ];omega
theorem zZ.evens:∀{xs:List V} {us:List Value},zZ xs us->zZ (evens xs) (L2.evens us)
 |_,_,.nil=>.nil
 |_,_,.cons a .nil=>.cons a .nil
 |_,_,.cons a (.cons b r)=>.cons a (zZ.evens r)
theorem zZ.rev{xs:List V}{us:List Value}(r:zZ xs us):zZ xs.reverse us.reverse:=by
 induction r with
 |nil=>exact .nil
 |cons a r ih=>rw[reverse_cons,reverse_cons];exact ih.append (.cons a .nil)
theorem zZ.step(k:Bool){xs:List V}{us:List Value}(r:zZ xs us):zZ (yk k xs) (yk k us):=by
 cases k
 ·simp only[yk,Bool.false_eq_true,if_false];exact r.rev
 ·simp only[yk,if_true];exact r.evens
theorem Wq(k:Bool)(n:Nat):Builtin.Slice.sliceAdjust none none (yC k) (n:Int)=(if k then((0:Int),(n:Int))else((n:Int)-1,-1)):=by
 cases k
 ·simp[Builtin.Slice.sliceAdjust,yC]
 ·simp[Builtin.Slice.sliceAdjust,yC]
theorem Wr(k:Bool)(xs:Array Value):((List.range (Builtin.Slice.slicePlaces (if k then(0:Int)else(xs.size:Int)-1) (if k then(xs.size:Int)else -1) (yC k))).filterMap λ(m:Nat)=>xs[((if k then(0:Int)else(xs.size:Int)-1)+(m:Int)*yC k).toNat]?)=yk k xs.toList:=by
 cases k
 ·have e:Builtin.Slice.slicePlaces ((xs.size:Int)-1) (-1) (-1)=xs.size:=by
   simp only[Builtin.Slice.slicePlaces];rw[if_neg (by decide)];by_cases h:(xs.size:Int)-1 > -1
   ·rw[if_pos h,neg1,Int.ediv_one];omega
   ·rw[if_neg h];omega
  simp only[yC,yk,Bool.false_eq_true,if_false,e];rw[<- vV xs.toList];rw[Array.length_toList];refine wn λm hm=>?_
  have hm:m<xs.size:=by simpa using hm
  rw[show(((xs.size:Int)-1)+(m:Int) * -1).toNat=xs.size-1-m by omega];simp
 ·have e:Builtin.Slice.slicePlaces (0:Int) (xs.size:Int) 2=(xs.size+1)/2:=by
   simp only[Builtin.Slice.slicePlaces];rw[if_pos (by decide)];by_cases h:(0:Int)<(xs.size:Int)
   ·rw[if_pos h];omega
   ·rw[if_neg h];omega
  simp only[yC,yk,if_true,e];rw[<- JF xs.toList];rw[Array.length_toList];refine wn λm hm=>?_
  rw[show((0:Int)+(m:Int)*2).toNat=2*m by omega];simp
section
variable{prog:Program}{w:World}{A:Around}{E:Value->Shared->Prop}{s:Shared}
theorem WC(k:Bool){sl:Addr}{t:Tok}{n:Nat}{Q:Int×Int×Nat->Shared->Prop}(hs:s.heap.IsSliceOf sl .none .none (.int (yC k) t))
  (h:Q ((if k then(0:Int)else(n:Int)-1),yC k,Builtin.Slice.slicePlaces (if k then(0:Int)else(n:Int)-1) (if k then(n:Int)else -1) (yC k)) s):wpAny (model prog w) A (Builtin.Slice.sliceApplied (.ref sl) (pure (n:Int))) Q E s:=by
 obtain⟨os,o1,o2,o3⟩:=id hs;unfold Builtin.Slice.sliceApplied;unfold Builtin.Slice.sliceFields;refine wpAny_bind (wpAny_bind (wpAny_field o1 o3 (x:=.none) rfl ?_));refine wpAny_bind (wpAny_field o1 o3 (x:=.none) rfl ?_);refine wpAny_bind (wpAny_field o1 o3 (x:=.int (yC k) t) rfl (wpAny_pure ?_));refine wpAny_bind (HT.slicePart_ (.int (yC k) t) ?_);show wpAny _ _ (if(yC k==0)=true then _ else _) _ _ s;rw[if_neg (by cases k<;>decide)];refine wpAny_bind (HT.slicePart_ .none ?_);refine wpAny_bind (HT.slicePart_ .none ?_);refine wpAny_bind (wpAny_pure ?_);show wpAny _ _ (match Builtin.Slice.sliceAdjust none none (yC k) (n:Int)with|(lo,hi)=>pure (lo,yC k,Builtin.Slice.slicePlaces lo hi (yC k))) _ _ s
 rw[Wq k n];cases k<;>exact wpAny_pure h
theorem wo(k:Bool){a sl:Addr}{t:Tok}{its:Array Value}{Q:Value->Shared->Prop}(ht:IsTup s.heap a its)(hs:s.heap.IsSliceOf sl .none .none (.int (yC k) t))(hz:its.size<=sizeLine)
  (h:Q (.ref s.heap.objs.size) {s with heap:=s.heap.push {cls:=.type "tuple",data:=.seq (yk k its.toList).toArray}}):wpAny (model prog w) A (getItem (.ref a) (.ref sl)) Q E s:=by
 obtain⟨os,o1,o2,o3⟩:=id hs;have ts:s.TypeIs (.ref sl) "slice":=⟨os,o1,o2⟩;have hfit:sizeOk (.seq (yk k its.toList).toArray):=by
  show(yk k its.toList).toArray.size<=sizeLine
  have h1:=jp k its.toList;have h2:its.toList.length=its.size:=Array.length_toList;rw[size_toArray];omega
 unfold getItem
 try with_reducible refine wpAny_holding ?_
 first|refine wpAny_bind (wpAny_pure ?_)|skip
 refine wpAny_bind (wpAny_sequenceKey ht.typeIs (by decide) ?_);refine wpAny_bind (wpAny_callSpecial?_slot (name:=Str.ofString "__getitem__") ht.typeIs PyProof.Rows.slot_tuple_getitem
  (wpAny_call_entry PyProof.Rows.slot_tuple_getitem ht.typeIs entry_tuple_getitem ?_ (args_tuple_getitem _ _)))
 show wpAny _ _ (Builtin.Tuple.tupleItemsOf (.ref a) >>= _) _ _ s
 refine wpAny_bind (tupleItemsOf_ ht ?_);refine wpAny_bind (wpAny_typeOf ts ?_);rw[if_pos (by decide)];refine wpAny_bind (WC k hs ?_);have hno:¬(((if k then(0:Int)else(its.size:Int)-1)==0&&yC k==1&&(Builtin.Slice.slicePlaces (if k then(0:Int)else(its.size:Int)-1) (if k then(its.size:Int)else -1) (yC k))==its.size)=true):=by
  intro q;rw[Bool.and_eq_true,Bool.and_eq_true]at q;have q1:=q.1.2;cases k<;>simp[yC]at q1
 show wpAny _ _ (if((if k then(0:Int)else(its.size:Int)-1)==0&&yC k==1&&(Builtin.Slice.slicePlaces (if k then(0:Int)else(its.size:Int)-1) (if k then(its.size:Int)else -1) (yC k))==its.size)=true then _ else _) _ _ s
 rw[if_neg hno,Wr]
 first
  |exact wpAny_bind (m:=Builtin.Tuple.tupleExact _) (wpAny_newObj_type (wpAny_pure ⟨_,rfl,wpAny_pure h⟩) hfit)
  |exact wpAny_bind (wpAny_bind (m:=Builtin.Tuple.tupleExact _) (wpAny_newObj_type (wpAny_pure ⟨_,rfl,wpAny_pure h⟩) hfit))
end
theorem Yd(k:Bool)(its:Array Value):slicePick its none none (some (yC k))=(yk k its.toList).toArray:=by
 unfold slicePick;congr 1;cases k
 ·simp only[yC,sliceBounds,Option.getD_some,Bool.false_eq_true,if_false,yk,sliceRange]
  simp only[show ¬((-1:Int) > 0)by decide,if_false];have e:(if(its.size:Int)-1 > -1 then((its.size:Int)-1 - -1 - -1-1)/(- -1)else 0).toNat=its.size:=by
   by_cases h:(its.size:Int)-1 > -1
   ·rw[if_pos h,neg1,Int.ediv_one];omega
   ·rw[if_neg h];omega
  rw[e,filterMap_map,<- vV its.toList,Array.length_toList];refine wn λm hm=>?_
  have hm:m<its.size:=by simpa using hm
  show its[(((its.size:Int)-1)+-1*(m:Int)).toNat]?=_
  rw[show(((its.size:Int)-1)+-1*(m:Int)).toNat=its.size-1-m by omega];simp
 ·simp only[yC,sliceBounds,Option.getD_some,if_true,yk,sliceRange]
  simp only[show((2:Int) > 0)by decide,if_true];have e:(if(0:Int)<(its.size:Int)then((its.size:Int)-0+2-1)/2 else 0).toNat=(its.size+1)/2:=by
   by_cases h:(0:Int)<(its.size:Int)
   ·rw[if_pos h];omega
   ·rw[if_neg h];omega
  rw[e,filterMap_map,<- JF its.toList,Array.length_toList];refine wn λm hm=>?_
  show its[((0:Int)+2*(m:Int)).toNat]?=_
  rw[show((0:Int)+2*(m:Int)).toNat=2*m by omega];simp
section
variable{X:Cx}{e st:Expr}{te:TE}{pos p2:Pos}
def rStep(K:PySem.W.Frag)(k:Bool):V->Hp->VK->Prop:=λx H Q=>∃a xs,x=.ref a/\((SqT K H a xs/\∀p,H p=none->Q (.ref p) (upd H p (.tup (yk k xs))))\/(SqL K H a xs/\∀p,H p=none->Q (.ref p) (upd H p (.lst (yk k xs)))))
theorem pe_step(k:Bool)(he:PE X e te)(hst:PE X st (tC (.int (yC k)))):PE X (.Subscript e (.Slice none none (some st) p2) pos) (λσ H Q=>te σ H λx H1=>rStep X.K k x H1 Q):=by
 intro pins s σ H Q I h;refine Subscript_ (thn (he pins s σ H _ I h) λv s1 ⟨x,H1,I1,r1,q1⟩=>?_);refine wpAny_Slice ?_;rw[evalPart_none];refine wpAny_pure ?_;refine wpAny_pure ?_;rw[evalPart_some];refine thn (hst pins s1 σ H1 (λz H'=>z=.int (yC k)/\rStep X.K k x H' Q) I1 ⟨rfl,q1⟩) λvs s2 ⟨z,H2,I2,rz,ez,q2⟩=>?_
 subst ez;obtain⟨t,rfl⟩:=rz;have I3:Inv X pins σ H2 {s2 with heap:=s2.heap.push {cls:=.type "slice",data:=.fields #[.none,.none,.int (yC k) t]}}:=I2.kept (t':=s2.toks) λb ob q=>get?_push_of_some _ q
 have hsl:(s2.heap.push {cls:=.type "slice",data:=.fields #[.none,.none,.int (yC k) t]}).IsSliceOf s2.heap.objs.size .none .none (.int (yC k) t):=Heap.IsSliceOf.new ..;generalize hs3:s2.heap.push {cls:=.type "slice",data:=.fields #[.none,.none,.int (yC k) t]}=h3 at I3 hsl;obtain⟨a,xs,rfl,q3⟩:=q2;cases r1;rcases q3 with⟨hx,q⟩|⟨hx,q⟩
 ·obtain⟨its,r,ht,hz⟩:=I3.tuple hx
  have hlen:=r.length;refine tail_any (ops:=[.ref a,.ref s2.heap.objs.size]) ht.typeIs PyProof.Rows.slot_tuple_getitem.lookup (wo k ht hsl (by rw[size_toArray];omega) ?_) (by with_unfolding_all rfl)
  exact⟨.ref _,_,I3.laid (t':=s2.toks) (o:=.tup (yk k xs)) (λb ob q=>get?_push_of_some _ q) (le_refl _) ⟨le_trans (jp k xs) hz,_,r.step k,IsTup.new _ _⟩,rfl,q _ (I3.hok.fresh (le_refl _))⟩
 ·obtain⟨its,r,ht,hz⟩:=I3.list hx
  have hlen:=r.length;refine tail_any (ops:=[.ref a,.ref s2.heap.objs.size]) ht.isList.typeIs slot_list_getitem.lookup (wpAny_getItem_list_slice ht.isList hsl .none .none (.int (yC k) t) (by cases k<;>simp[yC]) ?_ (by rw[size_toArray];omega)) (by with_unfolding_all rfl)
  rw[Yd];exact⟨.ref _,_,I3.laid (t':=s2.toks) (o:=.lst (yk k xs)) (λb ob q=>get?_push_of_some _ q) (le_refl _) ⟨le_trans (jp k xs) hz,_,0,r.step k,get?_push_size _ rfl⟩,rfl,q _ (I3.hok.fresh (le_refl _))⟩
end
end L2
namespace DV
open PySem PySem.W PyProof.Rows
variable{κ:Nat->Int}
def ev(κ:Nat->Int){α:Type}:KasT α->α
 | .ret a=>a
 | .ask i j k=>ev κ (k (decide (κ i<κ j)))
theorem JG{α β:Type}(f:α->KasT β):∀t:KasT α,ev κ (t.bind f)=ev κ (f (ev κ t))
 | .ret a=>rfl
 | .ask i j k=>by simp only[KasT.bind,ev];exact JG f _
def Kp(κ:Nat->Int)(p:Array Nat)(t:Nat):Int:=κ (p.getD t 0)
theorem wq(p:Array Nat)(t:Nat):p.getD t 0=(p[t]?).getD 0:=by simp
theorem G4{p:Array Nat}{i j:Nat}(hj:j<=p.size)(t:Nat):Kp κ (kas_rev p i j) t=if i<=t/\t<j then Kp κ p (i+j-1-t)else Kp κ p t:=by
 unfold Kp kas_rev;rw[wq,getElem?_mirror_all hj];split<;>rw[wq]
theorem Kp_bub{p:Array Nat}{k d:Nat}(hk:k<p.size)(hd:d<=k)(t:Nat):Kp κ (bubble p k d) t=if t=k-d then Kp κ p k else if k-d<t/\t<=k then Kp κ p (t-1)else Kp κ p t:=by
 unfold Kp;rw[wq,getElem?_bubble hk d hd];by_cases h1:t=k-d
 ·rw[if_pos h1,if_pos h1,wq p k]
 ·rw[if_neg h1,if_neg h1]
  by_cases h2:k-d<t/\t<=k
  ·rw[if_pos h2,if_pos h2,wq p (t-1)]
  ·rw[if_neg h2,if_neg h2,wq p t]
def Srt(κ:Nat->Int)(p:Array Nat)(m:Nat):Prop:=∀i,0<i->i<m->Kp κ p (i-1)<=Kp κ p i
def Dsc(κ:Nat->Int)(p:Array Nat)(m:Nat):Prop:=∀i,0<i->i<m->Kp κ p i<=Kp κ p (i-1)
theorem Srt.le{p:Array Nat}{m:Nat}(h:Srt κ p m):∀(d i:Nat),i+d<m->Kp κ p i<=Kp κ p (i+d)
 |0,i,_=>Int.le_refl _
 |d+1,i,hi=>by
  have h1:=Srt.le h d i (by omega);have h2:=h (i+(d+1)) (by omega) hi;rw[show i+(d+1)-1=i+d by omega]at h2;omega
theorem Srt.le'{p:Array Nat}{m i j:Nat}(h:Srt κ p m)(hij:i<=j)(hj:j<m):Kp κ p i<=Kp κ p j:=by
 have:=h.le (j-i) i (by omega)
 rwa [show i+(j-i)=j by omega]at this
theorem Srt.same{p q:Array Nat}{m:Nat}(h:Srt κ p m)(e:∀t,Kp κ q t=Kp κ p t):Srt κ q m:=λi h0 hi=>by rw[e,e];exact h i h0 hi
theorem Dsc.same{p q:Array Nat}{m:Nat}(h:Dsc κ p m)(e:∀t,Kp κ q t=Kp κ p t):Dsc κ q m:=λi h0 hi=>by rw[e,e];exact h i h0 hi
theorem jX(p:Array Nat)(i j:Nat):(kas_rev p i j).size=p.size:=mirror_size _ _ _ _
theorem wu(p:Array Nat)(i j:Nat):(kas_rev p i j).Perm p:=mirror_perm _ _ _ _
theorem G5(p:Array Nat):∀(f n:Nat),n<=ev κ (kas_asc p f n)/\ev κ (kas_asc p f n)<=n+f/\(∀i,n<=i->i<ev κ (kas_asc p f n)->Kp κ p (i-1)<=Kp κ p i) /\
  (ev κ (kas_asc p f n)<n+f->Kp κ p (ev κ (kas_asc p f n))<Kp κ p (ev κ (kas_asc p f n)-1))
 |0,n=>⟨le_refl _,le_refl _,λi h1 h2=>by simp only[kas_asc,ev]at h2;omega,λh=>by simp only[kas_asc,ev]at h;omega⟩
 |f+1,n=>by
  simp only[kas_asc,ev];by_cases hc:κ (p.getD n 0)<κ (p.getD (n-1) 0)
  ·rw[decide_eq_true hc]
   simp only[if_true,ev];exact⟨le_refl _,by omega,λi h1 h2=>by omega,λ_=>hc⟩
  ·rw[decide_eq_false hc]
   simp only[Bool.false_eq_true,if_false];obtain⟨h1,h2,h3,h4⟩:=G5 p f (n+1);refine⟨by omega,by omega,λi hi hm=>?_,λh=>h4 (by omega)⟩;by_cases he:i=n
   ·subst he;exact Int.not_lt.mp hc
   ·exact h3 i (by omega) hm
theorem ZI{p:Array Nat}{i j:Nat}(hj:j<=p.size)(he:∀t,i<=t->t<j->Kp κ p t=Kp κ p (j-1))(t:Nat):Kp κ (kas_rev p i j) t=Kp κ p t:=by
 rw[G4 hj];split
 ·rename_i h
  rw[he t h.1 h.2,he (i+j-1-t) (by omega) (by omega)]
 ·rfl
theorem ZJ:∀(f:Nat) (p:Array Nat) (n q:Nat),1<=n->n+f<=p.size->Dsc κ p n->q<n->(∀t,n-(q+1)<=t->t<n->Kp κ p t=Kp κ p (n-1)) ->
  ∃p' m q',ev κ (kas_desc f p n q)=(p',m,q')/\p'.size=p.size/\p'.Perm p/\n<=m/\m<=n+f/\Dsc κ p' m/\q'<m/\(∀t,m-(q'+1)<=t->t<m->Kp κ p' t=Kp κ p' (m-1))
 |0,p,n,q,h1,hs,hd,hq,he=>⟨p,n,q,rfl,rfl,Array.Perm.refl _,le_refl _,le_refl _,hd,hq,he⟩
 |f+1,p,n,q,h1,hs,hd,hq,he=>by
  simp only[kas_desc,ev];by_cases hc:κ (p.getD n 0)<κ (p.getD (n-1) 0)
  ·rw[decide_eq_true hc]
   simp only[if_true];have hc':Kp κ p n<Kp κ p (n-1):=hc;by_cases hq0:q > 0
   ·rw[if_pos hq0]
    have e:∀t,Kp κ (kas_rev p (n-(q+1)) n) t=Kp κ p t:=ZI (by omega) he;obtain⟨p',m,q',a1,a2,a3,a4,a5,a6,a7,a8⟩:=ZJ f (kas_rev p (n-(q+1)) n) (n+1) 0 (by omega) (by rw[jX];omega) (λi h0 hi=>by
     rw[e,e];by_cases hin:i=n
     ·subst hin;omega
     ·exact hd i h0 (by omega)) (by omega) (λt ht1 ht2=>by
     have:t=n:=by omega
     subst this;rfl)
    exact⟨p',m,q',a1,by rw[a2,jX],a3.trans (wu _ _ _),by omega,by omega,a6,a7,a8⟩
   ·rw[if_neg hq0]
    obtain⟨p',m,q',a1,a2,a3,a4,a5,a6,a7,a8⟩:=ZJ f p (n+1) 0 (by omega) (by omega) (λi h0 hi=>by
     by_cases hin:i=n
     ·subst hin;omega
     ·exact hd i h0 (by omega)) (by omega) (λt ht1 ht2=>by
     have:t=n:=by omega
     subst this;rfl)
    exact⟨p',m,q',a1,a2,a3,by omega,by omega,a6,a7,a8⟩
  ·rw[decide_eq_false hc]
   simp only[Bool.false_eq_true,if_false,ev];by_cases hc2:κ (p.getD (n-1) 0)<κ (p.getD n 0)
   ·rw[decide_eq_true hc2]
    simp only[if_true,ev];exact⟨p,n,q,rfl,rfl,Array.Perm.refl _,le_refl _,by omega,hd,hq,he⟩
   ·rw[decide_eq_false hc2]
    simp only[Bool.false_eq_true,if_false];have eq:Kp κ p n=Kp κ p (n-1):=Int.le_antisymm (Int.not_lt.mp hc2) (Int.not_lt.mp hc);obtain⟨p',m,q',a1,a2,a3,a4,a5,a6,a7,a8⟩:=ZJ f p (n+1) (q+1) (by omega) (by omega) (λi h0 hi=>by
     by_cases hin:i=n
     ·subst hin;omega
     ·exact hd i h0 (by omega)) (by omega) (λt ht1 ht2=>by
     rw[show n+1-1=n by omega];by_cases htn:t=n
     ·subst htn;rfl
     ·rw[eq];exact he t (by omega) (by omega))
    exact⟨p',m,q',a1,a2,a3,by omega,by omega,a6,a7,a8⟩
theorem vW(m nrem:Nat)(p:Array Nat)(hm:1<=m)(hmn:m<=nrem)(hs:nrem<=p.size)(hd:Dsc κ p m) :
  ∃k p',ev κ (kas_tail3 m nrem p)=(k,p')/\p'.size=p.size/\p'.Perm p/\1<=k/\k<=nrem/\Srt κ p' k:=by
 unfold kas_tail3;rw[JG];simp only[ev];obtain⟨a1,a2,a3,a4⟩:=G5 (κ:=κ) (kas_rev p 0 m) (nrem-m) m;refine⟨_,_,rfl,jX _ _ _,wu _ _ _,by omega,by omega,λi h0 hi=>?_⟩;by_cases him:i<m
 ·rw[G4 (by omega),G4 (by omega),if_pos (by omega),if_pos (by omega)]
  have:=hd (0+m-1-(i-1)) (by omega) (by omega);rw[show 0+m-1-(i-1)-1=0+m-1-i by omega]at this;exact this
 ·exact a3 i (by omega) hi
theorem YI(n nrem:Nat)(p:Array Nat)(hn:1<=n)(hnr:n+1<=nrem)(hs:nrem<=p.size)(hd:Dsc κ p (n+1)) :
  ∃k p',ev κ (kas_descPart n nrem p)=(k,p')/\p'.size=p.size/\p'.Perm p/\1<=k/\k<=nrem/\Srt κ p' k:=by
 unfold kas_descPart;rw[JG];obtain⟨p',m,q',a1,a2,a3,a4,a5,a6,a7,a8⟩:=ZJ (κ:=κ) (nrem-(n+1)) p (n+1) 0 (by omega) (by omega) hd (by omega) (λt h1 h2=>by
  have:t=n:=by omega
  subst this;rfl)
 rw[a1];dsimp only;by_cases hq:q' > 0
 ·rw[if_pos hq]
  have e:∀t,Kp κ (kas_rev p' (m-(q'+1)) m) t=Kp κ p' t:=ZI (by omega) a8;obtain⟨k,p2,b1,b2,b3,b4,b5,b6⟩:=vW (κ:=κ) m nrem (kas_rev p' (m-(q'+1)) m) (by omega) (by omega) (by rw[jX];omega) (a6.same e);exact⟨k,p2,b1,by rw[b2,jX,a2],b3.trans ((wu _ _ _).trans a3),b4,b5,b6⟩
 ·rw[if_neg hq]
  obtain⟨k,p2,b1,b2,b3,b4,b5,b6⟩:=vW (κ:=κ) m nrem p' (by omega) (by omega) (by omega) a6;exact⟨k,p2,b1,by rw[b2,a2],b3.trans a3,b4,b5,b6⟩
theorem vX(nrem:Nat)(p:Array Nat)(h1:1<=nrem)(hs:nrem<=p.size) :
  ∃k p',ev κ (kas_count nrem p)=(k,p')/\p'.size=p.size/\p'.Perm p/\1<=k/\k<=nrem/\Srt κ p' k:=by
 unfold kas_count;rw[JG];obtain⟨a1,a2,a3,a4⟩:=G5 (κ:=κ) p (nrem-1) 1;generalize ev κ (kas_asc p (nrem-1) 1)=n at a1 a2 a3 a4;have hS:Srt κ p n:=λi h0 hi=>a3 i (by omega) hi
 by_cases hn:n=nrem
 ·rw[if_pos (by simp[hn])]
  exact⟨n,p,rfl,rfl,Array.Perm.refl _,a1,by omega,hS⟩
 ·rw[if_neg (by simp[hn])]
  have hlt:=a4 (by omega);by_cases hn1:n > 1
  ·rw[if_pos hn1]
   simp only[ev];by_cases hc:κ (p.getD 0 0)<κ (p.getD (n-1) 0)
   ·rw[decide_eq_true hc]
    simp only[if_true,ev];exact⟨n,p,rfl,rfl,Array.Perm.refl _,a1,by omega,hS⟩
   ·rw[decide_eq_false hc]
    simp only[Bool.false_eq_true,if_false];have hle:Kp κ p (n-1)<=Kp κ p 0:=Int.not_lt.mp hc;have eqs:∀t,0<=t->t<n->Kp κ p t=Kp κ p (n-1):=λt _ ht=>by
     have:=hS.le' (i:=0) (j:=t) (by omega) ht;have:=hS.le' (i:=t) (j:=n-1) (by omega) (by omega);omega
    have e:∀t,Kp κ (kas_rev p 0 n) t=Kp κ p t:=ZI (by omega) eqs;obtain⟨k,p2,b1,b2,b3,b4,b5,b6⟩:=YI (κ:=κ) n nrem (kas_rev p 0 n) (by omega) (by omega) (by rw[jX];omega) (λi h0 hi=>by
     rw[e,e];by_cases hin:i=n
     ·subst hin;omega
     ·rw[eqs i (by omega) (by omega),eqs (i-1) (by omega) (by omega)];exact Int.le_refl _)
    exact⟨k,p2,b1,by rw[b2,jX],b3.trans (wu _ _ _),b4,b5,b6⟩
  ·rw[if_neg hn1]
   have hn0:n=1:=by omega
   subst hn0;obtain⟨k,p2,b1,b2,b3,b4,b5,b6⟩:=YI (κ:=κ) 1 nrem p (by omega) (by omega) (by omega) (λi h0 hi=>by
    have:i=1:=by omega
    subst this;omega)
   exact⟨k,p2,b1,b2,b3,b4,b5,b6⟩
theorem ZK(p:Array Nat)(k:Nat)(hS:Srt κ p k):∀(f l r:Nat),r-l<=f->l<=r->r<=k->(∀i,i<l->Kp κ p i<=Kp κ p k)->(∀i,r<=i->i<k->Kp κ p k<Kp κ p i) ->
  ev κ (kas_place p k f l r)<=k/\(∀i,i<ev κ (kas_place p k f l r)->Kp κ p i<=Kp κ p k)/\(∀i,ev κ (kas_place p k f l r)<=i->i<k->Kp κ p k<Kp κ p i)
 |0,l,r,hf,hlr,hr,h1,h2=>by
  simp only[kas_place,ev];exact⟨by omega,h1,λi hi hk=>h2 i (by omega) hk⟩
 |f+1,l,r,hf,hlr,hr,h1,h2=>by
  unfold kas_place;by_cases hge:l ≥ r
  ·rw[if_pos hge]
   simp only[ev];exact⟨by omega,h1,λi hi hk=>h2 i (by omega) hk⟩
  ·rw[if_neg hge]
   simp only[ev];by_cases hc:κ (p.getD k 0)<κ (p.getD ((l+r)/2) 0)
   ·rw[decide_eq_true hc]
    simp only[if_true];refine ZK p k hS f l ((l+r)/2) (by omega) (by omega) (by omega) h1 λi hi hk=>?_
    have:=hS.le' (i:=(l+r)/2) (j:=i) hi hk;have hc':Kp κ p k<Kp κ p ((l+r)/2):=hc;omega
   ·rw[decide_eq_false hc]
    simp only[Bool.false_eq_true,if_false];refine ZK p k hS f ((l+r)/2+1) r (by omega) (by omega) hr (λi hi=>?_) h2;have:=hS.le' (i:=i) (j:=(l+r)/2) (by omega) (by omega);have hc':Kp κ p ((l+r)/2)<=Kp κ p k:=Int.not_lt.mp hc;omega
theorem zBQ:∀(f:Nat) (p:Array Nat) (k:Nat),1<=k->k+f<=p.size->Srt κ p k->(ev κ (kas_bin f p k)).size=p.size/\(ev κ (kas_bin f p k)).Perm p/\Srt κ (ev κ (kas_bin f p k)) (k+f)
 |0,p,k,h1,hs,hS=>⟨rfl,Array.Perm.refl _,hS⟩
 |f+1,p,k,h1,hs,hS=>by
  simp only[kas_bin];rw[JG];obtain⟨a1,a2,a3⟩:=ZK (κ:=κ) p k hS k 0 k (by omega) (by omega) (by omega) (λi hi=>by omega) (λi hi hk=>by omega);generalize ev κ (kas_place p k k 0 k)=l at a1 a2 a3;have hK:=λt=>Kp_bub (κ:=κ) (p:=p) (k:=k) (d:=k-l) (by omega) (by omega) t
  have hkl:k-(k-l)=l:=by omega
  rw[hkl]at hK;obtain⟨b1,b2,b3⟩:=zBQ f (bubble p k (k-l)) (k+1) (by omega) (by rw[bubble_size];omega) (λi h0 hi=>by
   rw[hK,hK];by_cases c1:i=l
   ·rw[if_neg (by omega),if_neg (by omega),if_pos c1]
    exact a2 (i-1) (by omega)
   ·rw[if_neg c1]
    by_cases c2:i-1=l
    ·rw[if_pos c2,if_pos (by omega)]
     rw[c2];exact Int.le_of_lt (a3 l (le_refl _) (by omega))
    ·rw[if_neg c2]
     by_cases c3:l<i/\i<=k
     ·rw[if_pos c3,if_pos (by omega)]
      exact hS (i-1) (by omega) (by omega)
     ·rw[if_neg c3,if_neg (by omega)]
      exact hS i h0 (by omega))
  refine⟨by rw[b1,bubble_size],b2.trans (bubble_perm _ _ _),?_⟩;rw[show k+(f+1)=k+1+f by omega];exact b3
theorem ev_sort(n:Nat)(hn:1<=n):(ev κ (kas_sort n)).size=n/\(ev κ (kas_sort n)).Perm (toArray (List.range n))/\Srt κ (ev κ (kas_sort n)) n:=by
 unfold kas_sort;rw[JG];have hs:(toArray (List.range n)).size=n:=by simp
 obtain⟨k,p,a1,a2,a3,a4,a5,a6⟩:=vX (κ:=κ) n (toArray (List.range n)) hn (by omega);rw[a1];dsimp only;by_cases hk:k<n
 ·rw[if_pos hk]
  have hm:max k 1=k:=by omega
  rw[hm];obtain⟨b1,b2,b3⟩:=zBQ (κ:=κ) (n-k) p k a4 (by rw[a2,hs];omega) a6;exact⟨by rw[b1,a2,hs],b2.trans a3,by rw[show k+(n-k)=n by omega]at b3;exact b3⟩
 ·rw[if_neg hk]
  have:k=n:=by omega
  subst this;exact⟨by show p.size=_;rw[a2,hs],a3,a6⟩
def Ze(n:Nat)(κ:Nat->Int){α:Type}:KasT α->Prop
 | .ret _=>True
 | .ask i j k=>i<n/\j<n/\Ze n κ (k (decide (κ i<κ j)))
theorem jL{n:Nat}{α β:Type}(f:α->KasT β):∀t:KasT α,Ze n κ t->Ze n κ (f (ev κ t))->Ze n κ (t.bind f)
 | .ret a,_,h=>h
 | .ask i j k,h1,h2=>by
  simp only[KasT.bind,Ze];exact⟨h1.1,h1.2.1,jL f _ h1.2.2 h2⟩
theorem zBR{n:Nat}{α:Type}{cmp:Nat->Nat->(Bool->Shared->Prop)->Shared->Prop}{Q:α->Shared->Prop}{s:Shared}(hc:∀i j C,i<n->j<n->C (decide (κ i<κ j)) s->cmp i j C s):∀t:KasT α,Ze n κ t->Q (ev κ t) s->t.kasWp cmp Q s
 | .ret a,_,h=>h
 | .ask i j k,o,h=>hc i j _ o.1 o.2.1 (zBR hc (k (decide (κ i<κ j))) o.2.2 h)
def Bd(n:Nat)(p:Array Nat):Prop:=0<n/\∀x∈p,x<n
theorem Bd.at{n:Nat}{p:Array Nat}(h:Bd n p)(t:Nat):p.getD t 0<n:=by
 rw[wq];cases e:p[t]? with
 |none=>exact h.1
 |some x=>exact h.2 x (Array.mem_of_getElem? e)
theorem Bd.perm{n:Nat}{p q:Array Nat}(h:Bd n p)(e:q.Perm p):Bd n q:=⟨h.1,λx hx=>h.2 x (e.mem_iff.mp hx)⟩
theorem Bd.rev{n:Nat}{p:Array Nat}(h:Bd n p)(i j:Nat):Bd n (kas_rev p i j):=h.perm (wu _ _ _)
theorem G6{n:Nat}{p:Array Nat}(h:Bd n p):∀(f m:Nat),Ze n κ (kas_asc p f m)
 |0,m=>trivial
 |f+1,m=>by
  simp only[kas_asc,Ze];refine⟨h.at _,h.at _,?_⟩;split
  ·trivial
  ·exact G6 h f (m+1)
theorem ZL{n:Nat}:∀(f:Nat) (p:Array Nat) (m q:Nat),Bd n p->Ze n κ (kas_desc f p m q)/\Bd n (ev κ (kas_desc f p m q)).1
 |0,p,m,q,h=>⟨trivial,h⟩
 |f+1,p,m,q,h=>by
  simp only[kas_desc,Ze,ev];by_cases hc:κ (p.getD m 0)<κ (p.getD (m-1) 0)
  ·rw[decide_eq_true hc]
   simp only[if_true];by_cases hq:q > 0
   ·rw[if_pos hq]
    have:=ZL f (kas_rev p (m-(q+1)) m) (m+1) 0 (h.rev _ _);exact⟨⟨h.at _,h.at _,this.1⟩,this.2⟩
   ·rw[if_neg hq]
    have:=ZL f p (m+1) 0 h;exact⟨⟨h.at _,h.at _,this.1⟩,this.2⟩
  ·rw[decide_eq_false hc]
   simp only[Bool.false_eq_true,if_false,Ze,ev];by_cases hc2:κ (p.getD (m-1) 0)<κ (p.getD m 0)
   ·rw[decide_eq_true hc2]
    simp only[if_true,Ze,ev];exact⟨⟨h.at _,h.at _,h.at _,h.at _,trivial⟩,h⟩
   ·rw[decide_eq_false hc2]
    simp only[Bool.false_eq_true,if_false];have:=ZL f p (m+1) (q+1) h;exact⟨⟨h.at _,h.at _,h.at _,h.at _,this.1⟩,this.2⟩
theorem vY{n:Nat}{p:Array Nat}(h:Bd n p)(m nrem:Nat):Ze n κ (kas_tail3 m nrem p):=by
 unfold kas_tail3;exact jL _ _ (G6 (h.rev _ _) _ _) trivial
theorem YJ{n:Nat}{p:Array Nat}(h:Bd n p)(m nrem:Nat):Ze n κ (kas_descPart m nrem p):=by
 unfold kas_descPart;have d:=ZL (κ:=κ) (nrem-(m+1)) p (m+1) 0 h;refine jL _ _ d.1 ?_;split
 ·exact vY (d.2.rev _ _) _ _
 ·exact vY d.2 _ _
theorem zAe{n:Nat}{p:Array Nat}(h:Bd n p)(nrem:Nat):Ze n κ (kas_count nrem p):=by
 unfold kas_count;refine jL _ _ (G6 h _ _) ?_;split
 ·trivial
 ·split
  ·refine⟨h.at _,h.at _,?_⟩
   dsimp only;split
   ·trivial
   ·exact YJ (h.rev _ _) _ _
  ·exact YJ h _ _
theorem ZM{n:Nat}{p:Array Nat}(h:Bd n p)(k:Nat):∀(f l r:Nat),Ze n κ (kas_place p k f l r)
 |0,l,r=>trivial
 |f+1,l,r=>by
  unfold kas_place;split
  ·trivial
  ·refine⟨h.at _,h.at _,?_⟩
   dsimp only;split
   ·exact ZM h k f _ _
   ·exact ZM h k f _ _
theorem zBS{n:Nat}:∀(f:Nat) (p:Array Nat) (k:Nat),Bd n p->Ze n κ (kas_bin f p k)
 |0,p,k,h=>trivial
 |f+1,p,k,h=>by
  unfold kas_bin;exact jL _ _ (ZM h k _ _ _) (zBS f _ _ (h.perm (bubble_perm _ _ _)))
theorem ok_sort(n:Nat)(hn:1<=n):Ze n κ (kas_sort n):=by
 have hb:Bd n (toArray (List.range n)):=⟨hn,λx hx=>by simpa using hx⟩;unfold kas_sort;refine jL _ _ (zAe hb n) ?_;split
 ·obtain⟨k,p,a1,a2,a3,a4,a5,a6⟩:=vX (κ:=κ) n (toArray (List.range n)) hn (by simp)
  rw[a1];exact zBS _ _ _ (hb.perm a3)
 ·trivial
theorem WD{p:Array Nat}(h:Srt κ p p.size):p.toList.Pairwise (λi j=>κ i<=κ j):=by
 rw[List.pairwise_iff_getElem];intro i j hi hj hij;have hi':i<p.size:=by simpa using hi
 have hj':j<p.size:=by simpa using hj
 have:=h.le' (i:=i) (j:=j) (by omega) hj';unfold Kp at this;rw[wq,wq,Array.getElem?_eq_getElem hi',Array.getElem?_eq_getElem hj']at this;simpa using this
end DV
namespace L2
open PySem PySem.Spec PyProof.Rows PySem.W
section
variable{prog:Program}{w:World}{A:Around}{E:Value->Shared->Prop}{s:Shared}{κ:Nat->Int}
def zBT(κ:Nat->Int)(n:Nat)(p:List Nat):Prop:=p.Perm (List.range n)/\p.Pairwise (λi j=>κ i<=κ j)
theorem Ws{a:Addr}{vs:List Value}{n:Nat}{P:PySem.Fin->Shared->Prop}{kd:SortKind}(hob:s.heap.get? a=some (seqObj "list" vs.toArray n))(h64:vs.length<64)
  (hk:∀(h6:Heap),(∀b o,b≠a->s.heap.get? b=some o->h6.get? b=some o)->2<=vs.length->wpAny (model prog w) A (keyKind' vs.toArray) (λk s'=>s'={s with heap:=h6}/\k=kd) (λ_ _=>False) {s with heap:=h6})
  (hc:∀(h6:Heap),(∀b o,b≠a->s.heap.get? b=some o->h6.get? b=some o)->∀i j C,i<vs.length->j<vs.length->C (decide (κ i<κ j)) {s with heap:=h6}->kas_ask prog w A kd vs i j C {s with heap:=h6})
  (h:∀p:List Nat,zBT κ vs.length p->P (.done (.ret .none)) {s with heap:=sortedHeap s.heap a vs (p.map λi=>vs.getD i Value.none).toArray}) :
  wpAny (model prog w) A (Builtin.«list.sort» ⟨[.ref a],[]⟩) P E s:=by
 have alt:a<s.heap.objs.size:=lt_size hob;obtain⟨e1,hob1⟩:∃e1,(s.heap.update a (Obj.mapSeq λ_=>(#[]:Array Value))).get? a=some (seqObj "list" #[] e1):=⟨_,get?_update_seq hob λ_=>#[]⟩;have hob6:(((s.heap.update a (Obj.mapSeq λ_=>(#[]:Array Value))).push (seqObj "tuple" vs.toArray 0)).push (seqObj "list" #[] 0)).get? a=some (seqObj "list" #[] e1):=get?_push_of_some _ (get?_push_of_some _ hob1);have keep6:∀b o,b≠a->s.heap.get? b=some o->(((s.heap.update a (Obj.mapSeq λ_=>(#[]:Array Value))).push (seqObj "tuple" vs.toArray 0)).push (seqObj "list" #[] 0)).get? b=some o:=λb o hb e =>
  get?_push_of_some _ (get?_push_of_some _ (by rw[Heap.get?_update_ne _ _ _ _ hb];exact e))
 rw[list_sort_plain];refine wpAny_bind (listItems_at hob rfl ?_);refine wpAny_bind (listUpdate_at hob rfl ?_ (by rw[size_toArray,sizeLine_eq];omega) (zero_le _));refine wpAny_bind (seqEpoch_at hob1 rfl (wpAny_bind (wpAny_newTuple ?_ (by show vs.length<=_;rw[sizeLine_eq];omega))));refine wpAny_bind (wpAny_newList (wpAny_holding ?_) (zero_le _));show wpAny (model prog w) A _ P E {s with heap:=(((s.heap.update a (Obj.mapSeq λ_=>(#[]:Array Value))).push (seqObj "tuple" vs.toArray 0)).push (seqObj "list" #[] 0))}
 dsimp only;have fin:∀(st:SortSt) (p:List Nat),zBT κ vs.length p->(arrOf st).map (·.2)=(p.map λi=>vs.getD i Value.none).toArray->failedOf st=none ->
   wpAny (model prog w) A (do
    let touched:=(<- seqEpoch a) != e1
    Builtin.List.listUpdate (.ref a) λ_=>(arrOf st).map (·.2)
    if let some e:=failedOf st then rule "list.sort.comparison-raised";throw e
    if touched then rule "list.sort.modified";raiseError "ValueError" "list modified during sort"
    ret .none) P E {s with heap:=(((s.heap.update a (Obj.mapSeq λ_=>(#[]:Array Value))).push (seqObj "tuple" vs.toArray 0)).push (seqObj "list" #[] 0))}:=by
  intro st p hp ha hf;have hsz:(p.map λi=>vs.getD i Value.none).toArray.size<=sizeLine+1:=by
   rw[size_toArray,length_map,hp.1.length_eq,List.length_range,sizeLine_eq];omega
  rw[ha,hf];refine wpAny_bind (seqEpoch_at hob6 rfl (wpAny_bind (listUpdate_at hob6 rfl ?_ (zero_le _) hsz)));simp only[bne_self_eq_false,Bool.false_eq_true,if_false];exact wpAny_pure (h p hp)
 by_cases h2:vs.length<2
 ·have h2':vs.toArray.size<2:=by rw[size_toArray];exact h2
  rw[if_pos h2',if_pos h2'];refine wpAny_bind (wpAny_pure ?_);rw[StateT.run_pure];refine wpAny_bind (wpAny_pure ?_);dsimp only;refine fin (SortSt.mk' general' (vs.toArray.zip vs.toArray) #[] 7 none) (List.range vs.length) ⟨List.Perm.refl _,?_⟩ ?_ rfl
  ·match vs,h2 with
   | [],_=>exact .nil
   | [v],_=>exact List.pairwise_singleton _ _
  ·show((vs.toArray.zip vs.toArray).map (·.2))=_
   match vs,h2 with
   | [],_=>simp
   | [v],_=>simp[range_succ]
 ·have h2':¬vs.toArray.size<2:=by rw[size_toArray];exact h2
  rw[if_neg h2',if_neg h2'];refine wpAny_bind (wpAny_mono (hk _ keep6 (by omega)) (λk s' ⟨es,ek⟩=>?_) λ_ _ x=>x.elim);subst es ek;obtain⟨r1,r2,r3⟩:=DV.ev_sort (κ:=κ) vs.length (by omega);have ask:=DV.zBR (Q:=λp s'=>s'={s with heap:=(((s.heap.update a (Obj.mapSeq λ_=>(#[]:Array Value))).push (seqObj "tuple" vs.toArray 0)).push (seqObj "list" #[] 0))}/\p=DV.ev κ (kas_sort vs.length)) (hc _ keep6) (kas_sort vs.length) (DV.ok_sort vs.length (by omega)) ⟨rfl,rfl⟩
  refine wpAny_bind (wpAny_mono (kat_run (Q:=λst' s'=>∃p:Array Nat,arrOf st'=p.map (kas_item (vs.toArray.zip vs.toArray))/\failedOf st'=none/\s'={s with heap:=(((s.heap.update a (Obj.mapSeq λ_=>(#[]:Array Value))).push (seqObj "tuple" vs.toArray 0)).push (seqObj "list" #[] 0))}/\p=DV.ev κ (kas_sort vs.length))
   rfl (by omega) h64 (λp st' s' _ a2 a3 a4=>⟨p,a2,a3,a4⟩) ask) ?_ λ_ _ e=>e)
  rintro ⟨⟨⟩,st'⟩ s' ⟨p,har,hf,es,ep⟩
  subst es;dsimp only;refine fin st' p.toList ⟨?_,?_⟩ (kat_snds rfl har) hf
  ·rw[ep]
   have:=r2.toList;simpa using this
  ·rw[ep]
   exact DV.WD (by rw[r1];exact r3)
end
end L2
namespace DV
open PySem L2 PyProof.Rows PySem.W
def tlt:List D->List D->Option Bool
 | [],[]=>some false
 | [],_::_=>some true
 |_::_,[]=>some false
 |p::ps,q::qs=>if deq p q=true then tlt ps qs else match p,q with
  | .int i,.int j=>some (decide (i<j))
  |_,_=>none
def G7:D->List D
 | .tup es=>es
 |_=>[]
def ltAtD(ds:List D)(i j:Nat):Option Bool:=tlt (G7 (ds.getD i .non)) (G7 (ds.getD j .non))
def rkD(ds:List D)(i:Nat):Int:=(((List.range ds.length).filter λk=>ltAtD ds k i==some true).length:Nat)
structure SortOk(ds:List D):Prop where
 few:ds.length<64
 tups:∀d∈ds,∃es,d=.tup es/\(∀e∈es,eqb 18 e=true)/\(2<=ds.length->∃i r,es=.int i::r)
 lt:∀i j,i<ds.length->j<ds.length->ltAtD ds i j=some (decide (rkD ds i<rkD ds j))
 one:∀i j,i<ds.length->j<ds.length->rkD ds i=rkD ds j->ds.getD i .non=ds.getD j .non
section
variable{X:Cx}{pins:List (Addr×Obj)}{σ:L2.St}{H:Hp}{s:Shared}{prog:Program}{w:World}{A:Around}
end
end DV
namespace L2
open PySem PySem.Spec PyProof.Rows
section
variable{prog:Program}{w:World}{A:Around}{R:Result->Shared->Prop}{I:Addr}{fp wr:List Addr}{n:Nat}{P:Nat->Value->Prop}{St:Nat->Heap->Prop}
end
section
variable{prog:Program}{w:World}{A:Around}{E:Value->Shared->Prop}{s:Shared}
end
section
variable{X:Cx}{e d:Expr}{te td:TE}{p pos kp:Pos}
end
end L2
namespace DV
open PySem L2
section
variable{X:Cx}{K:PySem.W.Frag}{mg:Str->Option Value}
theorem Wt{f:Value}{r r':List V->Hp->VK->Prop}(h:y1 X f r)(h':y1 X f r'):y1 X f (λxs H Q=>r xs H Q\/r' xs H Q):=by
 intro pins s σ H xs us Q I rv q;rcases q with q|q
 ·exact h pins s σ H xs us Q I rv q
 ·exact h' pins s σ H xs us Q I rv q
def eqG(d e:D):Option R:=match eqF d e with
 |some r=>some r
 |none=>eqDD false d e
def neG(d e:D):Option R:=match neF d e with
 |some r=>some r
 |none=>eqDD true d e
theorem zBU:ROk K mg (λx y H Q=>rEq x y H Q\/rEqD K mg false x y H Q) eqG:=by
 intro M H Z x y d1 d2 res Q f r1 r2 e k;unfold eqG at e;cases h:eqF d1 d2 with
 |some r=>rw[h]at e;cases e;exact .inl (ro_eq M H Z x y d1 d2 res Q f r1 r2 h k)
 |none=>rw[h]at e;exact .inr (zBP M H Z x y d1 d2 res Q f r1 r2 e k)
theorem zBV:ROk K mg (λx y H Q=>rNe x y H Q\/rEqD K mg true x y H Q) neG:=by
 intro M H Z x y d1 d2 res Q f r1 r2 e k;unfold neG at e;cases h:neF d1 d2 with
 |some r=>rw[h]at e;cases e;exact .inl (ro_ne M H Z x y d1 d2 res Q f r1 r2 h k)
 |none=>rw[h]at e;exact .inr (zBP M H Z x y d1 d2 res Q f r1 r2 e k)
def isD:D->D->Option Bool
 | .non,.non=>some true
 | .bl a,.bl b=>some (a==b)
 | .non,.bl _=>some false
 | .bl _,.non=>some false
 | .non,.int _=>some false
 | .int _,.non=>some false
 | .non,.str _=>some false
 | .str _,.non=>some false
 | .int _,.bl _=>some false
 | .bl _,.int _=>some false
 | .str _,.bl _=>some false
 | .bl _,.str _=>some false
 | .tup _,.non=>some false
 | .lst _,.non=>some false
 | .tup _,.bl _=>some false
 | .lst _,.bl _=>some false
 |_,_=>none
def isG(neg:Bool)(d e:D):Option R:=(isD d e).map λb=>.val (.bl (if neg then !b else b))
theorem isV_of{H:Hp}{d e:D}{x y:V}{b:Bool}(h:isD d e=some b)(rx:Rep K mg H d x)(ry:Rep K mg H e y):isV x y=some b:=by
 cases d<;>cases e<;>simp only[isD]at h<;>first
  | (cases h;done)
  | (cases h;rw[ym rx,ym ry];rfl)
  | (cases h;rw[yc rx,yc ry];rfl)
  | (cases h;rw[ym rx,yc ry];rfl)
  | (cases h;rw[yc rx,ym ry];rfl)
  | (cases h;rw[ym rx,zI ry];rfl)
  | (cases h;rw[zI rx,ym ry];rfl)
  | (cases h;rw[ym rx,jF ry];rfl)
  | (cases h;rw[jF rx,ym ry];rfl)
  | (cases h;rw[zI rx,yc ry];rfl)
  | (cases h;rw[yc rx,zI ry];rfl)
  | (cases h;rw[jF rx,yc ry];rfl)
  | (cases h;rw[yc rx,jF ry];rfl)
  | (cases h;obtain⟨a,xs,rfl,_⟩:=zM rx;rw[ym ry];rfl)
  | (cases h;obtain⟨a,xs,rfl,_⟩:=zJ rx;rw[ym ry];rfl)
  | (cases h;obtain⟨a,xs,rfl,_⟩:=zM rx;rw[yc ry];rfl)
  | (cases h;obtain⟨a,xs,rfl,_⟩:=zJ rx;rw[yc ry];rfl)
theorem vZ:ROk K mg (λx y H Q=>∃b,isV x y=some b/\Q (.bl (!b)) H) (isG true):=by
 intro M H Z x y d1 d2 res Q f r1 r2 e k;unfold isG at e;cases h:isD d1 d2 with
 |none=>rw[h]at e;cases e
 |some b=>rw[h]at e;cases e;exact⟨b,isV_of h r1 r2,k.flat f rfl⟩
def WE(d e:D):Option R:=match Z3 d e with
 |some r=>some r
 |none=>match d,e with
  | .lst a,.int k=>if -(2^63)<=k/\k<2^63/\a.length*k.toNat<=cap then some (.own (replicate k.toNat a).flatten)else none
  |_,_=>none
theorem ro_mulG:ROk K mg (λx y H Q=>rMulD K x y H Q\/rRepL K x y H Q) WE:=by
 intro M H Z x y d1 d2 res Q f r1 r2 e k;unfold WE at e;cases h:Z3 d1 d2 with
 |some r=>rw[h]at e;cases e;exact .inl (ro_mul M H Z x y d1 d2 res Q f r1 r2 h k)
 |none =>
  rw[h]at e;cases d1 with
  |lst a =>
   cases d2 with
   |int n =>
    dsimp only at e;split at e
    ·rename_i hc
     cases e;obtain⟨p,xs,rfl,h1,h2⟩:=zJ r1;rw[zI r2];exact .inr ⟨p,n,xs,rfl,rfl,zF.seq h1,hc.1,hc.2.1,by rw[h2.length];exact JW hc.2.2,λq hq=>k.own f hq (h2.flatten _)⟩
    ·cases e
   |_=>cases e
  |_=>cases e
def JH:List D->Option (List Int)
 | []=>some []
 | .int i::ds=>(JH ds).map (i::·)
 |_::_=>none
theorem j7{H:Hp}:∀{ds:List D} {xs:List V} {ns:List Int},JH ds=some ns->Reps K mg H ds xs->xs=ns.map V.int
 | [],_,_,e,h=>by cases e;simp only[Reps]at h;subst h;rfl
 |d::ds,_,ns,e,h=>by
  simp only[Reps]at h;obtain⟨v,r,rfl,h1,h2⟩:=h;cases d with
  |int i =>
   simp only[JH]at e;cases eb:JH ds with
   |none=>rw[eb]at e;cases e
   |some cs =>
    rw[eb]at e;cases e;rw[zI h1,j7 eb h2];rfl
  |_=>cases e
def Qq:List D->Option R
 | [.int i,.int j]=>Qo [.int i,.int j]
 | [.lst ds]=>match JH ds with
  |some ns=>if 0<ns.length then some (.val (.int (zAd ns)))else none
  |none=>none
 |_=>none
theorem co_maxG:COk K mg (λxs H Q=>(∃i j,xs=[.int i,.int j]/\Q (.int (if j > i then j else i)) H)\/∃(p:Addr) (ns:List Int),xs=[.ref p]/\SqL K H p (ns.map V.int)/\0<ns.length/\Q (.int (zAd ns)) H) Qq:=by
 intro M H Z xs ds res Q f r e k
 match ds,e with
 | [.int i,.int j],e=>exact .inl (co_max M H Z xs _ res Q f r e k)
 | [.lst ds],e =>
  simp only[Qq]at e;cases hi:JH ds with
  |none=>rw[hi]at e;cases e
  |some ns =>
   rw[hi]at e;dsimp only at e;split at e
   ·rename_i hp
    cases e;obtain⟨v,rfl,h⟩:=wB r;obtain⟨p,ys,rfl,h1,h2⟩:=zJ h;rw[j7 hi h2]at h1;exact .inr ⟨p,ns,rfl,zF.seq h1,hp,k.flat f rfl⟩
   ·cases e
def minG:List D->Option R
 | [.int i,.int j]=>some (.val (.int (if j<i then j else i)))
 | [.lst ds]=>match JH ds with
  |some ns=>if 0<ns.length then some (.val (.int (Gw ns)))else none
  |none=>none
 |_=>none
theorem co_minG:COk K mg (λxs H Q=>(∃i j,xs=[.int i,.int j]/\Q (.int (if j<i then j else i)) H)\/∃(p:Addr) (ns:List Int),xs=[.ref p]/\SqL K H p (ns.map V.int)/\0<ns.length/\Q (.int (Gw ns)) H) minG:=by
 intro M H Z xs ds res Q f r e k
 match ds,e with
 | [.int i,.int j],e =>
  cases e;obtain⟨v,v',rfl,h1,h2⟩:=reps2 r;exact .inl ⟨i,j,by rw[zI h1,zI h2],k.flat f rfl⟩
 | [.lst ds],e =>
  simp only[minG]at e;cases hi:JH ds with
  |none=>rw[hi]at e;cases e
  |some ns =>
   rw[hi]at e;dsimp only at e;split at e
   ·rename_i hp
    cases e;obtain⟨v,rfl,h⟩:=wB r;obtain⟨p,ys,rfl,h1,h2⟩:=zJ h;rw[j7 hi h2]at h1;exact .inr ⟨p,ns,rfl,zF.seq h1,hp,k.flat f rfl⟩
   ·cases e
end
end DV
namespace DV
open PySem L2
section
variable{X:Cx}{σ:St}{H:Hp}
def eUn(f:D->Option R)(m:ME):ME:=λE=>match m E with
 | .stuck=>.stuck
 | .exc x E1=>.exc x E1
 | .ok (r,E1)=>match f r.d with
  |some r'=>.ok (r',E1)
  |none=>.stuck
theorem eUn_run{rel:V->Hp->VK->Prop}{f:D->Option R}{m:ME}{Q:VK}(hr:∀(M:Addr->Prop) (H:Hp) (Z:Fz) (x:V) (d:D) (res:R) (Q:VK),FR X.K X.mg M H Z->Rep X.K X.mg (Hm (Mo M Z) H) d x->f d=some res->Kt X.K X.mg M H Z res Q->rel x H Q)
  (h:tM X (eUn f m) σ H Q):tM X m σ H λx H1=>rel x H1 Q:=by
 obtain⟨M,E,hl,fr,k⟩:=h;unfold eUn at k;refine zt (T0:=[]) hl fr ?_;cases ea:m E with
 |stuck=>rw[ea]at k;exact k
 |exc x E1=>rw[ea]at k;exact k
 |ok p =>
  obtain⟨r,E1⟩:=p;rw[ea]at k;intro v H1 g;dsimp only at k;cases ef:f r.d with
  |none=>rw[ef]at k;exact k.elim
  |some res =>
   rw[ef]at k;exact hr M H1 _ v r.d res Q g.frame g.rep ef λv' H' f' s'=>k v' H' (g.more (T:=[(some v',res.slot)]) f' s')
def stepD(k:Bool):D->Option R
 | .tup ds=>some (.val (.tup (yk k ds)))
 | .lst ds=>some (.own (yk k ds))
 |_=>none
theorem Reps.evens{K:PySem.W.Frag}{mg:Str->Option Value}{H:Hp}:∀{ds:List D} {xs:List V},Reps K mg H ds xs->Reps K mg H (L2.evens ds) (L2.evens xs)
 | [],_,h=>by simp only[Reps]at h;subst h;simp only[L2.evens];exact Reps.nil
 | [d],_,h=>by
  simp only[Reps]at h;obtain⟨v,r,rfl,h1,rfl⟩:=h;simp only[L2.evens];exact Reps.cons h1 Reps.nil
 |d::e::ds,_,h=>by
  simp only[Reps]at h;obtain⟨v,r,rfl,h1,v',r',rfl,h2,h3⟩:=h;simp only[L2.evens];exact Reps.cons h1 (Reps.evens h3)
theorem Reps.rev{K:PySem.W.Frag}{mg:Str->Option Value}{H:Hp}:∀{ds:List D} {xs:List V},Reps K mg H ds xs->Reps K mg H ds.reverse xs.reverse
 | [],_,h=>by simp only[Reps]at h;subst h;exact Reps.nil
 |d::ds,_,h=>by
  simp only[Reps]at h;obtain⟨v,r,rfl,h1,h2⟩:=h;rw[reverse_cons,reverse_cons];exact(Reps.rev h2).append (Reps.cons h1 Reps.nil)
theorem Reps.step{K:PySem.W.Frag}{mg:Str->Option Value}{H:Hp}(k:Bool){ds:List D}{xs:List V}(h:Reps K mg H ds xs):Reps K mg H (yk k ds) (yk k xs):=by
 cases k
 ·simp only[yk,Bool.false_eq_true,if_false];exact h.rev
 ·simp only[yk,if_true];exact h.evens
theorem ok_step(k:Bool){e st:Expr}{m:ME}{p2 pos:Pos}(he:EOk X e m)(hst:PE X st (tC (.int (yC k)))):EOk X (.Subscript e (.Slice none none (some st) p2) pos) (eUn (stepD k) m) :=
 zy (pe_step k he hst) λσ H Q=>eUn_run λM H Z x d res Q f r e kk=>by
  cases d with
  |tup ds =>
   cases e;obtain⟨a,xs,rfl,h1,h2⟩:=zM r;exact⟨a,xs,rfl,.inl ⟨zV zF h1,λp hp=>kk.tup f hp (h2.step k)⟩⟩
  |lst ds =>
   cases e;obtain⟨a,xs,rfl,h1,h2⟩:=zJ r;exact⟨a,xs,rfl,.inr ⟨zF.seq h1,λp hp=>kk.own f hp (h2.step k)⟩⟩
  |_=>cases e
def sTup(is:List Nat)(m:ME):MS:=λE=>match m E with
 | .stuck=>.stuck
 | .exc x E1=>.exc x E1
 | .ok (r,E1)=>match gT is r.d E1 with
  | .ok E2=>.ok (.nx,E2)
  |_=>.stuck
theorem zAf{is:List Nat}{m:ME}{D:Ends}(h:tS X (sTup is m) D σ H):tAsg (tM X m) (gTup X.K is.length (wU is)) D σ H:=by
 obtain⟨M,E,hl,fr,k⟩:=h;unfold sTup at k;refine zt (T0:=[]) hl fr ?_;cases ea:m E with
 |stuck=>rw[ea]at k;exact k
 |exc x E1=>rw[ea]at k;exact λH' g=>k σ H' g
 |ok p =>
  obtain⟨r,E1⟩:=p;rw[ea]at k;intro v H1 g;dsimp only at k;cases eg:gT is r.d E1 with
  |stuck=>rw[eg]at k;exact k.elim
  |exc _ _=>rw[eg]at k;exact k.elim
  |ok E2 =>
   rw[eg]at k;have g0:=g.dropAll;exact zBJ (X:=X) is rfl M σ E1 H1 [] v r.d E2 _ g0.len (FR.add g0.frame g.rep) eg λσ' g'=>k σ' H1 (g0.trans' g')
theorem sk_tup{is:List Nat}{es:List Expr}{e:Expr}{m:ME}{k:Nat}{p pos:Pos}(hg:PG X (.Tuple es k p) (gTup X.K is.length (wU is)))(he:EOk X e m)(hs:swapsWithSole [.Tuple es k p] e pos.line X.env=pure false)(hw:swappedStores [.Tuple es k p] e X.env=pure none):SOk X (.Assign [.Tuple es k p] e pos) (sTup is m) :=
 jk (zA3 he hg hs hw) λD σ H=>zAf
theorem sk_any{st:Stmt}:SOk X st (λ_=>.stuck):=jk Qv λD σ H ⟨M,E,hl,fr,k⟩=>k
end
end DV
namespace DV
open PySem L2
section
variable{X:Cx}{pins:List (Addr×Obj)}{σ:L2.St}{H:Hp}{s:Shared}
end
end DV
namespace DV
open PySem L2
section
variable{X:Cx}{σ:L2.St}{H:Hp}
end
section
variable{X:Cx}{σ:L2.St}{H:Hp}
end
end DV
namespace DV
open PySem L2
section
variable{X:Cx}{σ:L2.St}{H:Hp}{K:PySem.W.Frag}{mg:Str->Option Value}{M:Addr->Prop}{E E1:zL}{T0:Fz}
end
end DV
namespace DV
open PySem L2
mutual
def pyD:D->Option PyData
 | .non=>some .none
 | .bl b=>some (.bool b)
 | .int i=>some (.int i)
 | .str x=>some (.str x)
 | .tup ds=>(pyDs ds).map .tuple
 | .lst ds=>(pyDs ds).map .list
 | .dic=>some (.dict [])
 |_=>none
def pyDs:List D->Option (List PyData)
 | []=>some []
 |d::ds=>match pyD d,pyDs ds with
  |some x,some xs=>some (x::xs)
  |_,_=>none
end
section
variable{X:Cx}{σ:L2.St}{pins:List (Addr×Obj)}{H:Hp}{s:Shared}
def SmOk(K:PySem.W.Frag):Prop:=∃o es n,K.lookup sysModules=some o/\o.data=.dict es n
theorem sm_ne(I:Inv X pins σ H s)(S:SmOk X.K){a:Addr}{o:Obj}{vs:Array Value}{n:Nat}(e1:s.heap.get? a=some o)(e2:o.data=.seq vs n):sysModules≠a:=by
 obtain⟨p,es,m,q1,q2⟩:=S;intro e;have:=I.kIn _ _ q1;rw[e,e1]at this;cases this;rw[q2]at e2;cases e2
mutual
theorem ZN(I:Inv X pins σ H s)(S:SmOk X.K):∀{d:D} {v:V} {u:Value} {x:PyData},Rep X.K X.mg H d v->zv v u->pyD d=some x->∃as,Reads s.heap u x as/\sysModules∉as
 | .non,v,u,x,r,rv,e=>by cases e;rw[ym r]at rv;cases (show u=Value.none from rv);exact⟨_,.none,by simp⟩
 | .bl b,v,u,x,r,rv,e=>by cases e;rw[yc r]at rv;cases (show u=Value.bool b from rv);exact⟨_,.bool b,by simp⟩
 | .int i,v,u,x,r,rv,e=>by cases e;rw[zI r]at rv;obtain⟨t,q⟩:=(show ∃t,u=Value.int i t from rv);subst q;exact⟨_,.int i t,by simp⟩
 | .str y,v,u,x,r,rv,e=>by cases e;rw[jF r]at rv;obtain⟨t,q⟩:=(show ∃t,u=Value.str y t from rv);subst q;exact⟨_,.str y t,by simp⟩
 | .tup ds,v,u,x,r,rv,e=>by
  obtain⟨a,xs,rfl,h1,h2⟩:=zM r;cases (show u=Value.ref a from rv);obtain⟨its,r1,p,_⟩:=I.tuple h1;obtain⟨o,e1,e2,n,e3⟩:=p;simp only[pyD]at e;cases eq:pyDs ds with
  |none=>rw[eq]at e;cases e
  |some ys =>
   rw[eq]at e;cases e;obtain⟨as,q,z⟩:=readss_of I S h2 r1 eq;exact⟨_,.tuple e1 e2 e3 (by simpa using q),z⟩
 | .lst ds,v,u,x,r,rv,e=>by
  obtain⟨a,xs,rfl,h1,h2⟩:=zJ r;cases (show u=Value.ref a from rv);obtain⟨its,r1,p,_⟩:=I.list h1;obtain⟨o,n,e1,e2,_,e3⟩:=p;simp only[pyD]at e;cases eq:pyDs ds with
  |none=>rw[eq]at e;cases e
  |some ys =>
   rw[eq]at e;cases e;obtain⟨as,q,z⟩:=readss_of I S h2 r1 eq;exact⟨_,.list e1 e2 e3 (by simpa using q),λhm=>(mem_cons.mp hm).elim (sm_ne I S e1 e3) z⟩
 | .fn y,v,u,x,r,rv,e=>by cases e
 | .dic,v,u,x,r,rv,e=>by
  cases e;simp only[Rep]at r;obtain⟨a,rfl,h1⟩:=r;cases (show u=Value.ref a from rv);obtain⟨_,hS,vs,kv,o,es,ep,g1,g2,g3,_,g5,_⟩:(([]:List (Key×V)).length<=sizeLine)/\(a==sysModules)=false/\∃vs,KV [] vs/\s.heap.DictOf (Wb X.prog X.w) a vs:=I.hok a _ h1;cases kv;have e0:es.toList=[]:=by cases h:es.toList with|nil=>rfl|cons y ys=>rw[h]at g5;cases g5
  refine⟨_,.dict g1 g2.1 g3 (kvs:=[]) (by rw[e0];exact .nil) (by rw[e0];exact .nil),λhm=>?_⟩;rcases mem_cons.mp hm with hm|hm
  ·exact beq_eq_false_iff_ne.mp hS hm.symm
  ·cases hm
 | .exn y,v,u,x,r,rv,e=>by cases e
theorem readss_of(I:Inv X pins σ H s)(S:SmOk X.K):∀{ds:List D} {vs:List V} {us:List Value} {xs:List PyData},Reps X.K X.mg H ds vs->zZ vs us->pyDs ds=some xs->∃as,ReadsAll s.heap us xs as/\sysModules∉as
 | [],vs,us,xs,r,rv,e=>by
  cases e;simp only[Reps]at r;subst r;cases rv;exact⟨_,.nil,by simp⟩
 |d::ds,vs,us,xs,r,rv,e=>by
  simp only[Reps]at r;obtain⟨v,vs',rfl,r1,r2⟩:=r;cases rv with
  |cons p q =>
   simp only[pyDs]at e;cases e1:pyD d with
   |none=>rw[e1]at e;cases e
   |some x =>
    cases e2:pyDs ds with
    |none=>rw[e1,e2]at e;cases e
    |some ys =>
     rw[e1,e2]at e;cases e;obtain⟨as,a1,z1⟩:=ZN I S r1 p e1;obtain⟨bs,a2,z2⟩:=readss_of I S r2 q e2;exact⟨_,.cons a1 a2,λhm=>(mem_append.mp hm).elim z1 z2⟩
end
end
end DV
namespace L2
open PySem PySem.Spec PyProof.Rows
section
variable{X:Cx}{pins:List (Addr×Obj)}{σ:List (Option V)}{H:Hp}{s:Shared}{h':Heap}
theorem Inv.turnLay{t':Nat}{fp:List Addr}{q:Addr}{xs:List V}(I:Inv X pins σ H s)(hf:∀b∈fp,ue X pins H b)(k:∀b o,b∉fp->s.heap.get? b=some o->h'.get? b=some o)(hq:s.heap.objs.size<=q)(new:jR X.prog X.w (upd H q (.tup xs)) h' q (.tup xs)):Inv X pins σ (upd H q (.tup xs)) {s with heap:=h',toks:=t'}:=by
 have hn:H q=none:=I.hok.fresh hq;have nq:∀b u,H b=some u->b≠q:=λb u e z=>by rw[z,hn]at e;cases e
 have nf:∀b u,H b=some u->b∉fp:=λb u e z=>by rw[(hf b z).1]at e;cases e
 refine I.step (g':=s.gens) (d':=s.drawn) (ch:=fp) (λb hb=>?_) (λb o _ _ hc e _=>k b o hc e) (λb o _ _ hc e _=>⟨o.slots,k b o hc e⟩) (λb o _ e n=>?_) (λb o hc e=>⟨o,k b o hc e⟩)
  (λb ys e=>?_) (λb o u e=>?_) (λb ps e=>⟨#[],?_⟩) (λm hm=>?_) (λb u e=>?_) I.bare
 ·obtain⟨_,f1,_,f3,f4,f5⟩:=hf b hb
  exact⟨f3,f1,f4,f5⟩
 ·have:b≠q:=λz=>by subst z;exact absurd (lt_of_lt_of_le (lt_size e) hq) (lt_irrefl _)
  rw[zg this];exact n
 ·rw[zg (nq b _ e)];exact e
 ·rw[zg (nq b _ e)];exact e
 ·rw[zg (nq b _ e),e];simp
 ·obtain⟨o,es,ep,ho,r⟩:=hm
  exact⟨o,es,ep,k _ o (λz=>(hf _ z).2.1 rfl) ho,r⟩
 ·by_cases hb:b=q
  ·subst hb;rw[y3]at e;cases e;exact new
  ·rw[zg hb]at e
   refine(I.hok b u e).stay (λc v hc q'=>k c v ?_ q') (λc q'=>?_) λc ys q'=>?_
   ·rcases hc with z|z
    ·rw[z];exact nf b u e
    ·exact nf c _ z
   ·rw[zg (nq c _ q')];exact q'
   ·rw[zg (nq c _ q')];exact q'
theorem Inv.turnL{t':Nat}{fp:List Addr}(I:Inv X pins σ H s)(hf:∀b∈fp,ue X pins H b)(k:∀b o,b∉fp->s.heap.get? b=some o->h'.get? b=some o):Inv X pins σ H {s with heap:=h',toks:=t'}:=by
 have nf:∀b u,H b=some u->b∉fp:=λb u e z=>by rw[(hf b z).1]at e;cases e
 refine I.step (g':=s.gens) (d':=s.drawn) (ch:=fp) (λb hb=>?_) (λb o _ _ hc e _=>k b o hc e) (λb o _ _ hc e _=>⟨o.slots,k b o hc e⟩) (λ_ _ _ _ n=>n) (λb o hc e=>⟨o,k b o hc e⟩)
  (λ_ _ e=>e) (λ_ _ _ e=>e) (λb ps e=>⟨#[],by rw[e];simp⟩) (λm hm=>?_) (λb u e=>?_) I.bare
 ·obtain⟨_,f1,_,f3,f4,f5⟩:=hf b hb
  exact⟨f3,f1,f4,f5⟩
 ·obtain⟨o,es,ep,ho,r⟩:=hm
  exact⟨o,es,ep,k _ o (λz=>(hf _ z).2.1 rfl) ho,r⟩
 ·refine(I.hok b u e).stay (λc v hc q'=>k c v ?_ q') (λ_ q=>q) λ_ _ q=>q
  rcases hc with z|z
  ·rw[z];exact nf b u e
  ·exact nf c _ z
end
end L2
namespace DV
open PySem
section
variable{prog:Program}{w:World}{A:Around}{E:Value->Shared->Prop}{s:Shared}
theorem st_iter{α:Type}{Q:α->Shared->Prop}(hh:A.handled=none)(hE:∀h' e,(∀b o,s.heap.get? b=some o->h'.get? b=some o)->(∃o,h'.get? e=some o/\o.cls=.type "StopIteration")->E (.ref e) {s with heap:=h'}):wpAny (model prog w) A.in1 (Builtin.SmallTypes.stopIteration:Sem α) Q E s:=by
 unfold Builtin.SmallTypes.stopIteration;refine wpAny_bind ?_;unfold newExc newTuple;refine wpAny_bind (wpAny_newObj_type ?_ (by size_fits));refine wpAny_bind (m:=firstArgMember _ _) (wpAny_of_eq (a:=Value.none) rfl ?_);refine wpAny_newObj_type ?_ (by size_fits);unfold raiseNew;have hh':A.in1.handled=none:=hh;refine wpAny_bind (wpAny_handled ?_);rw[hh'];refine wpAny_bind (wpAny_pure (wpAny_throw ?_));exact hE _ _ (λb o eb=>get?_push_of_some _ (get?_push_of_some _ eb)) ⟨_,get?_push_size _ rfl,rfl⟩
theorem sp_tup{it t:Addr}{i:Nat}{items:Array Value}{Q:Option Value->Shared->Prop}(hh:A.handled=none)(hit:s.heap.IsTupleIter it t i)(ht:s.heap.IsTuple t items)
  (h1:∀x,items[i]?=some x->∀h',h'.IsTupleIter it t (i+1)->Heap.SameBut it s.heap h'->Q (some x) {s with heap:=h'})
  (h2:items[i]?=none->∀h' e,Heap.ExtBut it s.heap h'->(∃o,h'.get? e=some o/\o.cls=.type "StopIteration")->E (.ref e) {s with heap:=h'}) :
  wpAny (model prog w) A (callSpecial? (.ref it) (Str.ofString "__next__")) Q E s:=by
 have⟨o,ho,hc,hd⟩:=id hit;obtain⟨u,hu,_,n,du⟩:=ht;refine wpAny_callSpecial?_slot hit.typeIs F.slot_tuple_iterator_next (wpAny_call_entry F.slot_tuple_iterator_next hit.typeIs F.entry_tuple_iterator_next ?_ (F.args_tuple_iterator_next_1 _));refine wpAny_bind (m:=field (.ref it) 0) (wpAny_field ho hd (x:=.ref t) rfl ?_);have nn:¬(Value.ref t==Value.none)=true:=Bool.false_ne_true;simp only[nn,Bool.false_eq_true,if_false];refine wpAny_bind (m:=field (.ref it) 1) (wpAny_field ho hd (x:=.int i 0) rfl ?_);refine wpAny_bind (m:=seqItems? (.ref t)) (wpAny_seqItems hu du ?_);cases hx:items[i]? with
 |some x =>
  simp only[Int.toNat_natCast,hx];refine wpAny_bind (wpAny_setField ho hd (by simp) (wpAny_pure ⟨x,rfl,h1 x hx _ ?_ (Heap.SameBut.update ..)⟩));exact⟨_,get?_update_self _ ho (Obj.isFreed_of_fields (Obj.data_mapFields hd _)),(Obj.cls_mapFields ..).trans hc,by rw[Obj.data_mapFields hd];simp[rawInt]⟩
 |none =>
  simp only[Int.toNat_natCast,hx];refine wpAny_bind (wpAny_rule (wpAny_bind (wpAny_setField ho hd (by simp) ?_)));refine st_iter hh λh' e k q=>h2 hx h' e (λb o nb eb=>k b o ?_) q
  exact(Heap.SameBut.update ..).extBut b o nb eb
structure Src(prog:Program)(w:World)(A:Around)(it l:Addr)(items:Array Value)(st:Nat->Heap->Prop):Prop where
 keep:∀{i:Nat} {h h':Heap},st i h->(∀b,b=it\/b=l->∀o,h.get? b=some o->h'.get? b=some o)->st i h'
 lt:∀{i:Nat} {h:Heap},st i h->it<h.objs.size
 next:∀{i:Nat} {s:Shared} {Q:Value->Shared->Prop} {E:Value->Shared->Prop},st i s.heap->(∀x,items[i]?=some x->∀h',st (i+1) h'->Heap.SameBut it s.heap h'->Q x {s with heap:=h'}) ->
  (items[i]?=none->∀h' e,Heap.ExtBut it s.heap h'->(∃o,h'.get? e=some o/\o.cls=.type "StopIteration")->E (.ref e) {s with heap:=h'})->wpAny (model prog w) A (Builtin.SmallTypes.nextOf (.ref it)) Q E s
theorem src_tup(hh:A.handled=none){it t:Addr}(ne:t≠it)(items:Array Value):Src prog w A it t items (λi h=>h.IsTupleIter it t i/\h.IsTuple t items) where
 keep:=λst k=>⟨st.1.at λo e=>k it (.inl rfl) o e,st.2.at λo e=>k t (.inr rfl) o e⟩
 lt:=λst=>by obtain⟨⟨o,e,_⟩,_⟩:=st;exact lt_size e
 next:=λ{i s Q E} st h1 h2=>by
  unfold Builtin.SmallTypes.nextOf;exact wpAny_bind (sp_tup hh st.1 st.2 (λx hx h' a b=>wpAny_pure (h1 x hx h' ⟨a,st.2.extBut b.extBut ne⟩ b)) h2)
theorem zAg(hh:A.handled=none){it t:Addr}(ne:t≠it)(items:Array Value):Src prog w A it t items (λi h=>h.IsListIter it t i/\h.IsList t items) where
 keep:=λst k=>⟨st.1.at λo e=>k it (.inl rfl) o e,st.2.at λo e=>k t (.inr rfl) o e⟩
 lt:=λst=>by obtain⟨⟨o,e,_⟩,_⟩:=st;exact lt_size e
 next:=λ{i s Q E} st h1 h2=>by
  cases hx:items[i]? with
  |some x=>exact wpAny_nextOf_list_item st.1 st.2 hx λh' a b=>h1 x hx h' ⟨a,st.2.extBut b.extBut ne⟩ b
  |none=>exact wpAny_nextOf_list_end hh st.1 st.2 hx (h2 hx)
theorem zp_next{z TI TO i1 i2 l1 l2:Addr}{k:Nat}{xs ys:Array Value}{st1 st2:Nat->Heap->Prop}{a b:Value}{Q:Value->Shared->Prop}(S1:Src prog w A i1 l1 xs st1)(S2:Src prog w A i2 l2 ys st2)(D:ZipApart z TI TO i1 i2 l1 l2)
  (hz:IsZip s.heap z TI TO .none) (hTI:IsPair s.heap TI (.ref i1) (.ref i2)) (hTO:IsPair s.heap TO a b) (h1:st1 k s.heap) (h2:st2 k s.heap)
  (hQ:∀x y,xs[k]?=some x->ys[k]?=some y->∀h',IsZip h' z TI TO (rawInt s.heap.objs.size)->IsPair h' TO x y->st1 (k+1) h'->st2 (k+1) h'->IsPair h' s.heap.objs.size x y ->
   (∀c o,c≠z->c≠TO->c≠i1->c≠i2->s.heap.get? c=some o->h'.get? c=some o)->Q (.ref s.heap.objs.size) {s with heap:=h'})
  (hE:xs[k]?=none\/ys[k]?=none->∀h' e,(∀c o,c≠z->c≠TO->c≠i1->c≠i2->s.heap.get? c=some o->h'.get? c=some o)->(∃o,h'.get? e=some o/\o.cls=.type "StopIteration")->E (.ref e) {s with heap:=h'}) :
  wpAny (model prog w) A (Builtin.«zip.__next__» ⟨[.ref z],[]⟩) (λfin s'=>∃v,fin=.done (.ret v)/\Q v s') E s:=by
 refine wpAny_bind (m:=field (.ref z) 2) (wpAny_field hz rfl (x:=.bool false) rfl ?_);refine wpAny_bind (m:=field (.ref z) 3) (wpAny_field hz rfl (x:=.ref TI) rfl ?_);refine wpAny_bind (wpAny_seqItems hTI rfl ?_);refine wpAny_bind (m:=Builtin.SmallTypes.ownedTupleIsFree (.ref z)) ?_;unfold Builtin.SmallTypes.ownedTupleIsFree;refine wpAny_bind (wpAny_field hz rfl (x:=.none) rfl (wpAny_pure ?_));simp only[if_true];refine wpAny_bind (wpAny_rule (wpAny_bind (wpAny_field hz rfl (x:=.ref TO) rfl (wpAny_bind (wpAny_setField_rec hz (by simp) λg1 z1 b1=>?_)))));have z1:IsZip g1 z TI TO .ellipsis:=z1;refine wpAny_bind ?_;simp only[List.zipIdx_cons,List.zipIdx_nil,List.forIn_cons,List.forIn_nil];have s1:st1 k g1:=S1.keep h1 λc hc o e=>b1.extBut c o (by rcases hc with rfl|rfl;exact D.i1z;exact D.l1z) e
 refine wpAny_bind (wpAny_bind (wpAny_onRaise (wpAny_bind (m:=Builtin.SmallTypes.nextOf (.ref i1)) (S1.next s1 (λx hx g2 s2 b2=>wpAny_pure ?_) λhx g2 e b2 he=>?_))))
 ·have t2:IsPair g2 TO a b:=b2.extBut _ _ D.TOi1 (b1.extBut _ _ D.TOz hTO)
  refine wpAny_bind (wpAny_seqItems t2 rfl (wpAny_bind (wpAny_updateSeq_pair t2 λg3 t3 b3=>wpAny_bind (wpAny_letGo (wpAny_pure ?_)))));have t3:IsPair g3 TO x b:=t3;have k3:∀c o,c≠z->c≠TO->c≠i1->s.heap.get? c=some o->g3.get? c=some o:=λc o c1 c2 c3 e=>b3.extBut _ _ c2 (b2.extBut _ _ c3 (b1.extBut _ _ c1 e))
  have s3:st1 (k+1) g3:=S1.keep s2 λc hc o e=>b3.extBut c o (by rcases hc with rfl|rfl;exact D.TOi1.symm;exact D.l1TO) e
  have r3:st2 k g3:=S2.keep h2 λc hc o e=>k3 c o (by rcases hc with rfl|rfl;exact D.i2z;exact D.l2z) (by rcases hc with rfl|rfl;exact D.TOi2.symm;exact D.l2TO) (by rcases hc with rfl|rfl;exact D.i12.symm;exact D.l2i1) e
  have z3:IsZip g3 z TI TO .ellipsis:=b3.extBut _ _ D.TOz.symm (b2.extBut _ _ D.i1z.symm z1);refine wpAny_bind (wpAny_bind (wpAny_onRaise (wpAny_bind (m:=Builtin.SmallTypes.nextOf (.ref i2)) (S2.next r3 (λy hy g4 r4 b4=>wpAny_pure ?_) λhy g4 e b4 he=>?_))))
  ·have t4:IsPair g4 TO x b:=b4.extBut _ _ D.TOi2 t3
   refine wpAny_bind (wpAny_seqItems t4 rfl (wpAny_bind (wpAny_updateSeq_pair t4 λg5 t5 b5=>wpAny_bind (wpAny_letGo (wpAny_pure (wpAny_pure ?_))))));have t5:IsPair g5 TO x y:=t5;have k5:∀c o,c≠z->c≠TO->c≠i1->c≠i2->s.heap.get? c=some o->g5.get? c=some o:=λc o c1 c2 c3 c4 e=>b5.extBut _ _ c2 (b4.extBut _ _ c4 (k3 c o c1 c2 c3 e))
   have s5:st1 (k+1) g5:=S1.keep s3 λc hc o e=>b5.extBut c o (by rcases hc with rfl|rfl;exact D.TOi1.symm;exact D.l1TO) (b4.extBut c o (by rcases hc with rfl|rfl;exact D.i12;exact D.l1i2) e)
   have r5:st2 (k+1) g5:=S2.keep r4 λc hc o e=>b5.extBut c o (by rcases hc with rfl|rfl;exact D.TOi2.symm;exact D.l2TO) e
   have z5:IsZip g5 z TI TO .ellipsis:=b5.extBut _ _ D.TOz.symm (b4.extBut _ _ D.i2z.symm z3);have sz:g5.objs.size=s.heap.objs.size:=by rw[b5.1,b4.1,b3.1,b2.1,b1.1]
   refine wpAny_bind (wpAny_seqItems t5 rfl (wpAny_bind (wpAny_newTuple ?_)));refine wpAny_bind (m:=Builtin.SmallTypes.ownedTupleHandOut (.ref z) (.ref g5.objs.size)) ?_;unfold Builtin.SmallTypes.ownedTupleHandOut;have z6:IsZip (g5.push {cls:=.type "tuple",data:=.seq #[x,y]}) z TI TO .ellipsis:=get?_push_of_some _ z5;refine wpAny_bind (wpAny_setField_rec z6 (by simp) λg7 z7 b7=>?_);have z7:IsZip g7 z TI TO (rawInt g5.objs.size):=z7;refine wpAny_setField_rec z7 (by simp) λg8 z8 b8=>?_
   have z8:IsZip g8 z TI TO (rawInt g5.objs.size):=z8;have up:∀c o,c≠z->g5.get? c=some o->g8.get? c=some o:=λc o c1 e=>b8.extBut _ _ c1 (b7.extBut _ _ c1 (get?_push_of_some _ e))
   have zl:z<g5.objs.size:=lt_size z5;have p8:IsPair g8 g5.objs.size x y:=b8.extBut _ _ (ne_of_gt zl) (b7.extBut _ _ (ne_of_gt zl) (get?_push_size _ rfl));rw[sz]at z8 p8;refine wpAny_pure ⟨_,rfl,?_⟩;show Q (.ref g5.objs.size) _;rw[sz];exact hQ x y hx hy g8 z8 (up _ _ D.TOz t5) (S1.keep s5 λc hc o e=>up c o (by rcases hc with rfl|rfl;exact D.i1z;exact D.l1z) e) (S2.keep r5 λc hc o e=>up c o (by rcases hc with rfl|rfl;exact D.i2z;exact D.l2z) e) p8 λc o c1 c2 c3 c4 e=>up c o c1 (k5 c o c1 c2 c3 c4 e)
  ·have z4:IsZip g4 z TI TO .ellipsis:=b4 _ _ D.i2z.symm z3
   obtain⟨oe,ho,hc⟩:=he;have ez:e≠z:=λq=>by subst q;rw[z4]at ho;cases ho;simp at hc
   exact wpAny_setField_rec z4 (by simp) λg5 _ b5=>hE (.inr hy) g5 e (λc o c1 c2 c3 c4 x=>b5.extBut _ _ c1 (b4 _ _ c4 (k3 c o c1 c2 c3 x))) ⟨oe,b5.extBut _ _ ez ho,hc⟩
 ·have z2:IsZip g2 z TI TO .ellipsis:=b2 _ _ D.i1z.symm z1
  obtain⟨oe,ho,hc⟩:=he;have ez:e≠z:=λq=>by subst q;rw[z2]at ho;cases ho;simp at hc
  exact wpAny_setField_rec z2 (by simp) λg3 _ b3=>hE (.inl hx) g3 e (λc o c1 c2 c3 c4 x=>b3.extBut _ _ c1 (b2 _ _ c3 (b1.extBut _ _ c1 x))) ⟨oe,b3.extBut _ _ ez ho,hc⟩
theorem WF{z TI TO i1 i2 l1 l2:Addr}{k:Nat}{xs ys:Array Value}{st1 st2:Nat->Heap->Prop}{a b:Value}{Q:Option Value->Shared->Prop}(S1:Src prog w A.in1 i1 l1 xs st1)(S2:Src prog w A.in1 i2 l2 ys st2)(D:ZipApart z TI TO i1 i2 l1 l2)
  (hz:IsZip s.heap z TI TO .none) (hTI:IsPair s.heap TI (.ref i1) (.ref i2)) (hTO:IsPair s.heap TO a b) (h1:st1 k s.heap) (h2:st2 k s.heap)
  (hQ:∀x y,xs[k]?=some x->ys[k]?=some y->∀h',IsZip h' z TI TO (rawInt s.heap.objs.size)->IsPair h' TO x y->st1 (k+1) h'->st2 (k+1) h'->IsPair h' s.heap.objs.size x y ->
   (∀c o,c≠z->c≠TO->c≠i1->c≠i2->s.heap.get? c=some o->h'.get? c=some o)->Q (some (.ref s.heap.objs.size)) {s with heap:=h'})
  (hE:xs[k]?=none\/ys[k]?=none->∀h',(∀c o,c≠z->c≠TO->c≠i1->c≠i2->s.heap.get? c=some o->h'.get? c=some o)->Q none {s with heap:=h'}):wpAny (model prog w) A (pyNext (.ref z)) Q E s:=by
 have hT:s.TypeIs (.ref z) "zip":=⟨_,hz,rfl⟩;unfold pyNext;refine wpAny_bind (wpAny_attempt (wpAny_callSpecial?_slot hT F.slot_zip_next (wpAny_call_entry F.slot_zip_next hT F.entry_zip_next (zp_next S1 S2 D hz hTI hTO h1 h2 (λx y hx hy h' a1 a2 a3 a4 a5 a6=>?_) λhend h' e hk he=>?_) (F.args_zip_next_1 _))))
 ·exact wpAny_pure (hQ x y hx hy h' a1 a2 a3 a4 a5 a6)
 ·obtain⟨o,ho,hc⟩:=he
  exact wpAny_bind (wpAny_isInstance (T:="StopIteration") (b:=true) ⟨o,ho,hc⟩ isSubtype_stop (wpAny_pure (hE hend h' hk)))
end
end DV
namespace DV
open PySem
abbrev itO(c:String)(l:Addr):Obj:={cls:=.type c,data:=.fields #[.ref l,.int 0 0]}
abbrev zpA(h:Heap)(c1 c2:String)(l1 l2:Addr):Heap:=(h.push (itO c1 l1)).push (itO c2 l2)
abbrev zpB(h:Heap)(c1 c2:String)(l1 l2:Addr):Heap:=(zpA h c1 c2 l1 l2).push {cls:=.type "tuple",data:=.seq #[.ref h.objs.size,.ref (h.push (itO c1 l1)).objs.size]}
abbrev zpC(h:Heap)(c1 c2:String)(l1 l2:Addr):Heap:=(zpB h c1 c2 l1 l2).push {cls:=.type "tuple",data:=.seq #[.none,.none]}
abbrev zpD(h:Heap)(c1 c2:String)(l1 l2:Addr):Heap:=(zpC h c1 c2 l1 l2).push {cls:=.type "zip",data:=.fields #[.none,.bool false,.bool false,.ref (zpA h c1 c2 l1 l2).objs.size,.ref (zpB h c1 c2 l1 l2).objs.size]}
theorem zAh(l1 l2:Addr)(xs ys:Array Value):Meets (Builtin.«zip.__new__» ⟨[.type "zip",.ref l1,.ref l2],[]⟩) (λ_ R s=>s.heap.IsTuple l1 xs/\s.heap.IsTuple l2 ys/\R (.ok (.ret (.ref (zpC s.heap "tuple_iterator" "tuple_iterator" l1 l2).objs.size))) {s with heap:=zpD s.heap "tuple_iterator" "tuple_iterator" l1 l2}) :=
 .of_wp λprog w A R s h=>by
  obtain⟨hp,g,d,tk,os⟩:=s;obtain⟨h1,h2,h⟩:=h;have hs:=sub_zip;have a1:Heap.IsTuple (Shared.heap ⟨hp,g,d,tk,os⟩) l1 xs:=h1;have a2:Heap.IsTuple (Shared.heap ⟨hp.push (itO "tuple_iterator" l1),g,d,tk,os⟩) l2 ys:=h2.at λo e=>get?_push_of_some _ e
  wp_walk using wpAny_pyIter_tuple a1,wpAny_pyIter_tuple a2
  exact⟨_,rfl,h⟩
theorem zAi(l1 l2:Addr)(xs ys:Array Value):Meets (Builtin.«zip.__new__» ⟨[.type "zip",.ref l1,.ref l2],[]⟩) (λ_ R s=>s.heap.IsTuple l1 xs/\s.heap.IsList l2 ys/\R (.ok (.ret (.ref (zpC s.heap "tuple_iterator" "list_iterator" l1 l2).objs.size))) {s with heap:=zpD s.heap "tuple_iterator" "list_iterator" l1 l2}) :=
 .of_wp λprog w A R s h=>by
  obtain⟨hp,g,d,tk,os⟩:=s;obtain⟨h1,h2,h⟩:=h;have hs:=sub_zip;have a1:Heap.IsTuple (Shared.heap ⟨hp,g,d,tk,os⟩) l1 xs:=h1;have a2:Heap.IsList (Shared.heap ⟨hp.push (itO "tuple_iterator" l1),g,d,tk,os⟩) l2 ys:=h2.at λo e=>get?_push_of_some _ e
  wp_walk using wpAny_pyIter_tuple a1,wpAny_pyIter_list a2
  exact⟨_,rfl,h⟩
theorem zAj(l1 l2:Addr)(xs ys:Array Value):Meets (Builtin.«zip.__new__» ⟨[.type "zip",.ref l1,.ref l2],[]⟩) (λ_ R s=>s.heap.IsList l1 xs/\s.heap.IsTuple l2 ys/\R (.ok (.ret (.ref (zpC s.heap "list_iterator" "tuple_iterator" l1 l2).objs.size))) {s with heap:=zpD s.heap "list_iterator" "tuple_iterator" l1 l2}) :=
 .of_wp λprog w A R s h=>by
  obtain⟨hp,g,d,tk,os⟩:=s;obtain⟨h1,h2,h⟩:=h;have hs:=sub_zip;have a1:Heap.IsList (Shared.heap ⟨hp,g,d,tk,os⟩) l1 xs:=h1;have a2:Heap.IsTuple (Shared.heap ⟨hp.push (itO "list_iterator" l1),g,d,tk,os⟩) l2 ys:=h2.at λo e=>get?_push_of_some _ e
  wp_walk using wpAny_pyIter_list a1,wpAny_pyIter_tuple a2
  exact⟨_,rfl,h⟩
theorem zAk(l1 l2:Addr)(xs ys:Array Value):Meets (Builtin.«zip.__new__» ⟨[.type "zip",.ref l1,.ref l2],[]⟩) (λ_ R s=>s.heap.IsList l1 xs/\s.heap.IsList l2 ys/\R (.ok (.ret (.ref (zpC s.heap "list_iterator" "list_iterator" l1 l2).objs.size))) {s with heap:=zpD s.heap "list_iterator" "list_iterator" l1 l2}):=meets_zip_new l1 l2 xs ys
structure Zp(h h':Heap)(c1 c2:String)(l1 l2:Addr):Prop where
 z:IsZip h' (h.objs.size+4) (h.objs.size+2) (h.objs.size+3) .none
 a:IsPair h' (h.objs.size+2) (.ref h.objs.size) (.ref (h.objs.size+1))
 b:IsPair h' (h.objs.size+3) .none .none
 i1:h'.get? h.objs.size=some (itO c1 l1)
 i2:h'.get? (h.objs.size+1)=some (itO c2 l2)
 kp:∀c o,h.get? c=some o->h'.get? c=some o
theorem zp_of(h:Heap)(c1 c2:String)(l1 l2:Addr):Zp h (zpD h c1 c2 l1 l2) c1 c2 l1 l2/\(zpC h c1 c2 l1 l2).objs.size=h.objs.size+4:=by
 have n1:(h.push (itO c1 l1)).objs.size=h.objs.size+1:=size_push ..;have n2:(zpA h c1 c2 l1 l2).objs.size=h.objs.size+2:=by rw[size_push,n1]
 have n3:(zpB h c1 c2 l1 l2).objs.size=h.objs.size+3:=by rw[size_push,n2]
 have n4:(zpC h c1 c2 l1 l2).objs.size=h.objs.size+4:=by rw[size_push,n3]
 have u:=λ(h:Heap) (o:Obj) {b:Addr} {q:Obj} (e:h.get? b=some q)=>get?_push_of_some (h:=h) o e
 have g5:(zpD h c1 c2 l1 l2).get? (zpC h c1 c2 l1 l2).objs.size=some _:=get?_push_size _ rfl;have g4:(zpD h c1 c2 l1 l2).get? (zpB h c1 c2 l1 l2).objs.size=some _:=get?_push_of_some _ (get?_push_size _ rfl);have g3:(zpD h c1 c2 l1 l2).get? (zpA h c1 c2 l1 l2).objs.size=some _:=get?_push_of_some _ (get?_push_of_some _ (get?_push_size _ rfl));have g2:(zpD h c1 c2 l1 l2).get? (h.push (itO c1 l1)).objs.size=some (itO c2 l2):=get?_push_of_some _ (get?_push_of_some _ (get?_push_of_some _ (get?_push_size _ rfl)));have g1:(zpD h c1 c2 l1 l2).get? h.objs.size=some (itO c1 l1):=get?_push_of_some _ (get?_push_of_some _ (get?_push_of_some _ (get?_push_of_some _ (get?_push_size _ rfl))));rw[n2,n3,n4]at g5;rw[n1,n2]at g3;rw[n3]at g4;rw[n1]at g2;exact⟨⟨g5,g3,g4,g1,g2,λc o e=>get?_push_of_some _ (get?_push_of_some _ (get?_push_of_some _ (get?_push_of_some _ (get?_push_of_some _ e))))⟩,n4⟩
section
variable{prog:Program}{w:World}{A:Around}{E:Value->Shared->Prop}{s:Shared}
def SqO(h:Heap)(t:Bool)(l:Addr)(xs:Array Value):Prop:=if t then h.IsTuple l xs else h.IsList l xs
def itC(t:Bool):String:=if t then "tuple_iterator" else "list_iterator"
theorem zp_call{t1 t2:Bool}{l1 l2:Addr}{xs ys:Array Value}{Q:Value->Shared->Prop}(h1:SqO s.heap t1 l1 xs)(h2:SqO s.heap t2 l2 ys)(h:∀h',Zp s.heap h' (itC t1) (itC t2) l1 l2->Q (.ref (s.heap.objs.size+4)) {s with heap:=h'}):wpAny (model prog w) A (call (.type "zip") [.ref l1,.ref l2]) Q E s:=by
 obtain⟨z,n⟩:=zp_of s.heap (itC t1) (itC t2) l1 l2;have hz:=h _ z;have fin:∀{P:Heap->Prop},P s.heap->Meets (Builtin.«zip.__new__» ⟨[.type "zip",.ref l1,.ref l2],[]⟩) (λ_ R s=>P s.heap/\R (.ok (.ret (.ref (zpC s.heap (itC t1) (itC t2) l1 l2).objs.size))) {s with heap:=zpD s.heap (itC t1) (itC t2) l1 l2})->wpAny (model prog w) A (call (.type "zip") [.ref l1,.ref l2]) Q E s:=λ{P} hP m=>by
  refine callType_new F.called_zip (by decide) (F.typeCall_zip_2 _ _) (F.newCall_zip_2 _ _) (λobj=>F.args_object_init_3 obj _ _) F.entry_zip_new m ⟨hP,?_⟩;show _/\_;rw[n];exact⟨⟨_,z.z,rfl⟩,hz⟩
 cases t1<;>cases t2
 ·exact fin (P:=λh=>h.IsList l1 xs/\h.IsList l2 ys) ⟨h1,h2⟩ (Meets.of_imp (zAk l1 l2 xs ys) λA R s q=>⟨q.1.1,q.1.2,q.2⟩)
 ·exact fin (P:=λh=>h.IsList l1 xs/\h.IsTuple l2 ys) ⟨h1,h2⟩ (Meets.of_imp (zAj l1 l2 xs ys) λA R s q=>⟨q.1.1,q.1.2,q.2⟩)
 ·exact fin (P:=λh=>h.IsTuple l1 xs/\h.IsList l2 ys) ⟨h1,h2⟩ (Meets.of_imp (zAi l1 l2 xs ys) λA R s q=>⟨q.1.1,q.1.2,q.2⟩)
 ·exact fin (P:=λh=>h.IsTuple l1 xs/\h.IsTuple l2 ys) ⟨h1,h2⟩ (Meets.of_imp (zAh l1 l2 xs ys) λA R s q=>⟨q.1.1,q.1.2,q.2⟩)
end
end DV
namespace DV
open PySem L2 PySem.Spec PyProof.Rows
def SqH(K:PySem.W.Frag)(H:Hp)(t:Bool)(a:Addr)(xs:List V):Prop:=if t then SqT K H a xs else SqL K H a xs
section
variable{X:Cx}{pins:List (Addr×Obj)}{σ:L2.St}{H:Hp}{s:Shared}{a b:Addr}{xs ys:List V}
theorem JI{t:Bool}(I:Inv X pins σ H s)(h:SqH X.K H t a xs):∃its:List Value,zZ xs its/\SqO s.heap t a its.toArray:=by
 cases t with
 |true =>
  obtain⟨its,r,p,_⟩:=I.tuple h;exact⟨its,r,p⟩
 |false =>
  obtain⟨its,r,p,_⟩:=I.list h;exact⟨its,r,p.isList⟩
theorem G8{t:Bool}(I:Inv X pins σ H s)(h:SqH X.K H t a xs)(h':SqH X.K H t a ys):xs=ys:=by
 cases t with
 |true=>exact I.tuple_inj h h'
 |false=>exact I.list_inj h h'
theorem va{t:Bool}(I:Inv X pins σ H s)(h:SqH X.K H t a xs)(f:ue X pins H b):a≠b:=by
 intro z;subst z;have key:∀o,X.K.lookup a=some o->False:=λo hk=>by
  have hb:=I.ok.mod.kin a o hk;have e:=I.ok.bs a o hb;rcases f.2.2.2.1 with q|q
  ·exact I.ok.noex a o hb q
  ·exact absurd (lt_of_lt_of_le (lt_size e.1) q) (lt_irrefl _)
 have key2:∀u,Rd H a u->False:=λu r=>by
  rcases r with r|⟨o,r⟩<;>rw[f.1]at r<;>cases r
 cases t with
 |true =>
  rcases h with h|⟨o,its,n,hk,_⟩
  ·exact key2 _ h
  ·exact key o hk
 |false =>
  rcases h with h|⟨o,its,n,hk,_⟩
  ·exact key2 _ h
  ·exact key o hk
end
def Itz(K:PySem.W.Frag)(t1 t2:Bool)(a b:Addr):It :=
 ⟨λi H=>∃xs ys,SqH K H t1 a xs/\SqH K H t2 b ys/\i<xs.length/\i<ys.length,
  λi H x H'=>∃q u v,(∀xs,SqH K H t1 a xs->xs[i]?=some u)/\(∀ys,SqH K H t2 b ys->ys[i]?=some v)/\H q=none/\H'=upd H q (.tup [u,v])/\x=.ref q,
  λi H=>∃xs ys,SqH K H t1 a xs/\SqH K H t2 b ys/\(xs.length<=i\/ys.length<=i)⟩
def ItA(t:Bool)(h:Heap)(it l:Addr)(i:Nat):Prop:=if t then h.IsTupleIter it l i else h.IsListIter it l i
theorem vc{t:Bool}{h h':Heap}{it l:Addr}{i:Nat}(x:ItA t h it l i)(k:∀o,h.get? it=some o->h'.get? it=some o):ItA t h' it l i:=by
 cases t with
 |true=>exact Heap.IsTupleIter.at x k
 |false=>exact Heap.IsListIter.at x k
theorem ZO{t:Bool}{h:Heap}{it l:Addr}{i:Nat}(x:ItA t h it l i):∃o,h.get? it=some o/\∀v,o.data≠.cell v:=by
 cases t with
 |true=>obtain⟨o,e,c,d⟩:=x;exact⟨o,e,λv z=>by rw[d]at z;cases z⟩
 |false=>obtain⟨o,e,c,d⟩:=x;exact⟨o,e,λv z=>by rw[d]at z;cases z⟩
theorem srcA{prog:Program}{w:World}{A:Around}(hh:A.handled=none)(t:Bool){it l:Addr}(ne:l≠it)(items:Array Value):Src prog w A it l items (λi h=>ItA t h it l i/\SqO h t l items):=by
 cases t with
 |true=>exact src_tup hh ne items
 |false=>exact zAg hh ne items
structure Five(z TI TO i1 i2:Addr):Prop where
 a1:TI≠z
 a2:TO≠z
 a3:i1≠z
 a4:i2≠z
 a5:TI≠TO
 a6:TI≠i1
 a7:TI≠i2
 a8:TO≠i1
 a9:TO≠i2
 a10:i1≠i2
def ZSt(z TI TO i1 i2:Addr)(t1 t2:Bool)(a b:Addr)(i:Nat)(h:Heap):Prop:=IsZip h z TI TO .none/\IsPair h TI (.ref i1) (.ref i2)/\(∃u v,IsPair h TO u v)/\ItA t1 h i1 a i/\ItA t2 h i2 b i
theorem zAl{P:Program}{w:World}{K:PySem.W.Frag}{elts:List Expr}{x1}{pos:Pos}{z TI TO i1 i2:Addr}(F:Five z TI TO i1 i2)(t1 t2:Bool)(a b:Addr):Turn P w K (.Tuple elts x1 pos) (Itz K t1 t2 a b) [z,TI,TO,i1,i2] z (ZSt z TI TO i1 i2 t1 t2 a b) where
 mem:=by simp
 obj:=λi h st c hc=>by
  obtain⟨hz,hI,⟨u,v,hO⟩,h1,h2⟩:=st;simp only[mem_cons,mem_nil_iff,or_false]at hc;rcases hc with rfl|rfl|rfl|rfl|rfl
  ·exact⟨_,hz,λv z=>by cases z⟩
  ·exact⟨_,hI,λv z=>by cases z⟩
  ·exact⟨_,hO,λv z=>by cases z⟩
  ·exact ZO h1
  ·exact ZO h2
 keep:=λi h h' st k=>by
  obtain⟨hz,hI,⟨u,v,hO⟩,h1,h2⟩:=st;exact⟨k z (by simp) _ hz,k TI (by simp) _ hI,⟨u,v,k TO (by simp) _ hO⟩,vc h1 λo e=>k i1 (by simp) o e,vc h2 λo e=>k i2 (by simp) o e⟩
 item:=by
  intro X hP hw hK hc i pins s σ H E I hf st hg;subst hP hw hK;obtain⟨hz,hI,⟨u0,v0,hO⟩,h1,h2⟩:=st;obtain⟨xs,ys,q1,q2,l1,l2⟩:=hg;obtain⟨us,r1,p1⟩:=JI I q1;obtain⟨vs,r2,p2⟩:=JI I q2;have na:∀c∈[z,TI,TO,i1,i2],a≠c:=λc hc=>va I q1 (hf c hc)
  have nb:∀c∈[z,TI,TO,i1,i2],b≠c:=λc hc=>va I q2 (hf c hc)
  have D:ZipApart z TI TO i1 i2 a b:=⟨F.a1,F.a2,F.a3,F.a4,F.a5,F.a6,F.a7,F.a8,F.a9,F.a10,na z (by simp),na TO (by simp),na i1 (by simp),na i2 (by simp),nb z (by simp),nb TO (by simp),nb i1 (by simp),nb i2 (by simp)⟩;have hh:X.A.in1.handled=none:=I.ok.hd hc;obtain⟨u,eu⟩:∃u,xs[i]?=some u:=⟨_,getElem?_eq_getElem l1⟩;obtain⟨v,ev⟩:∃v,ys[i]?=some v:=⟨_,getElem?_eq_getElem l2⟩;obtain⟨u',eu',ru⟩:=r1.get eu;obtain⟨v',ev',rv⟩:=r2.get ev;refine WF (srcA hh t1 (na i1 (by simp)) us.toArray) (srcA hh t2 (nb i2 (by simp)) vs.toArray) D hz hI hO ⟨h1,p1⟩ ⟨h2,p2⟩ (λx y hx hy h' z1 o1 s1 s2 pq kk=>?_) (λhe=>?_)
  ·have ex:x=u':=by simp[eu']at hx;exact hx.symm
   have ey:y=v':=by simp[ev']at hy;exact hy.symm
   subst ex ey;refine⟨_,rfl,wpAny_letOwnedTupleGo_zip z1 λh2 z2 b2=>?_⟩;have lt:∀{c o},s.heap.get? c=some o->s.heap.objs.size≠c:=λe=>ne_of_gt (lt_size e)
   have pq2:IsPair h2 s.heap.objs.size x y:=b2.extBut _ _ (lt hz) pq;have k2:∀c o,c∉[z,TI,TO,i1,i2]->s.heap.get? c=some o->h2.get? c=some o:=λc o hc e=>b2.extBut _ _ (λq=>hc (by simp[q])) (kk c o (λq=>hc (by simp[q])) (λq=>hc (by simp[q])) (λq=>hc (by simp[q])) (λq=>hc (by simp[q])) e)
   have new:jR X.prog X.w (upd H s.heap.objs.size (.tup [u,v])) h2 s.heap.objs.size (.tup [u,v]):=⟨by simp[sizeLine_eq],[x,y],.cons ru (.cons rv .nil),⟨_,pq2,rfl,_,rfl⟩⟩;have I2:=I.turnLay (t':=s.toks) hf k2 (le_refl _) new;have fresh:H s.heap.objs.size=none:=I.hok.fresh (le_refl _);refine⟨.ref s.heap.objs.size,_,I2,rfl,⟨_,u,v,λzs hz=>by rw[G8 I hz q1];exact eu,λzs hz=>by rw[G8 I hz q2];exact ev,fresh,rfl,rfl⟩,⟨z2,b2.extBut _ _ F.a1 (kk TI _ F.a1 F.a5 F.a6 F.a7 hI),⟨_,_,b2.extBut _ _ F.a2 o1⟩,vc s1.1 λo e=>b2.extBut _ _ F.a3 e,vc s2.1 λo e=>b2.extBut _ _ F.a4 e⟩,λc hc=>?_⟩;have:c≠s.heap.objs.size:=λq=>by
    obtain⟨o,e⟩:∃o,s.heap.get? c=some o:=by
     simp only[mem_cons,mem_nil_iff,or_false]at hc;rcases hc with rfl|rfl|rfl|rfl|rfl
     ·exact⟨_,hz⟩
     ·exact⟨_,hI⟩
     ·exact⟨_,hO⟩
     ·obtain⟨o,e,_⟩:=ZO h1;exact⟨o,e⟩
     ·obtain⟨o,e,_⟩:=ZO h2;exact⟨o,e⟩
    exact lt e q.symm
   rw[zg this];exact(hf c hc).1
  ·exfalso
   rcases he with he|he
   ·simp[eu']at he
   ·simp[ev']at he
 done:=by
  intro X hP hw hK hc i pins s σ H E I hf st hg;subst hP hw hK;obtain⟨hz,hI,⟨u0,v0,hO⟩,h1,h2⟩:=st;obtain⟨xs,ys,q1,q2,l12⟩:=hg;obtain⟨us,r1,p1⟩:=JI I q1;obtain⟨vs,r2,p2⟩:=JI I q2;have na:∀c∈[z,TI,TO,i1,i2],a≠c:=λc hc=>va I q1 (hf c hc)
  have nb:∀c∈[z,TI,TO,i1,i2],b≠c:=λc hc=>va I q2 (hf c hc)
  have D:ZipApart z TI TO i1 i2 a b:=⟨F.a1,F.a2,F.a3,F.a4,F.a5,F.a6,F.a7,F.a8,F.a9,F.a10,na z (by simp),na TO (by simp),na i1 (by simp),na i2 (by simp),nb z (by simp),nb TO (by simp),nb i1 (by simp),nb i2 (by simp)⟩;have hh:X.A.in1.handled=none:=I.ok.hd hc;have e1:=r1.length;have e2:=r2.length;refine WF (srcA hh t1 (na i1 (by simp)) us.toArray) (srcA hh t2 (nb i2 (by simp)) vs.toArray) D hz hI hO ⟨h1,p1⟩ ⟨h2,p2⟩ (λx y hx hy=>?_) (λhe h' kk=>⟨rfl,?_⟩)
  ·exfalso
   simp at hx hy
   have a1:=(List.getElem?_eq_some_iff.mp hx).1;have a2:=(List.getElem?_eq_some_iff.mp hy).1;omega
  ·exact I.turnL (t':=s.toks) hf λc o hc e=>kk c o (λq=>hc (by simp[q])) (λq=>hc (by simp[q])) (λq=>hc (by simp[q])) (λq=>hc (by simp[q])) e
 self:=λ_ _ _ _ _ st h=>wpAny_pyIter_zip st.1 h
end DV
namespace DV
open PySem L2 PySem.Spec PyProof.Rows
section
variable{X:Cx}{K:PySem.W.Frag}{mg:Str->Option Value}{σ:L2.St}{H:Hp}
def iZip(K:PySem.W.Frag)(t1 t2:Bool)(ta:TA):TI:=λσ H R=>ta σ H λvs H1=>∃a b xs ys,vs=[.ref a,.ref b]/\SqH K H1 t1 a xs/\SqH K H1 t2 b ys/\R (Itz K t1 t2 a b) H1
theorem bt_zip:bootBuiltins "zip"=some (.type "zip"):=by decide +kernel
theorem G9{t:Bool}{h:Heap}{it l:Addr}(e:h.get? it=some (itO (itC t) l)):ItA t h it l 0:=by
 cases t with
 |true=>exact⟨_,e,rfl,rfl⟩
 |false=>exact⟨_,e,rfl,rfl⟩
theorem five(n:Addr):Five (n+4) (n+2) (n+3) n (n+1) :=
 have e:∀i j:Nat,i≠j->n+i≠n+j:=λi j h q=>h (Nat.add_left_cancel q)
 ⟨e 2 4 (by decide),e 3 4 (by decide),e 0 4 (by decide),e 1 4 (by decide),e 2 3 (by decide),e 2 0 (by decide),e 2 1 (by decide),e 3 0 (by decide),e 3 1 (by decide),e 0 1 (by decide)⟩
theorem pi_zip{t1 t2:Bool}{e f:Expr}{ta:TA}{elts:List Expr}{x1}{tp p pos:Pos}(hg:Gl X "zip")(hm:X.mg "zip"=none)(ha:PA X [e,f] ta)(hs:starEach [e,f] X.env=[(false,eval e X.env),(false,eval f X.env)]:=by rfl)(hs2:starEach [f] X.env=[(false,eval f X.env)]:=by rfl) :
  PI X (.Tuple elts x1 tp) (.Call (.Name "zip" p) [e,f] [] pos) (iZip X.K t1 t2 ta):=by
 intro pins s σ H R I h;refine Call_ (J3 I hg hm bt_zip (PyProof.Rows.callWith_type1 (thn (ha pos pins s σ H _ I h) λus s1 ⟨vs,H1,I1,r1,q1⟩=>?_) (by rw[hs,hs2]) (by rw[hs2];rfl)));obtain⟨a,b,xs,ys,ev,qa,qb,q⟩:=q1;subst ev;cases r1 with
 |cons r rr =>
  cases rr with
  |cons r' rr =>
   cases rr;cases r;cases r';obtain⟨u1,v1,p1⟩:=JI I1 qa;obtain⟨u2,v2,p2⟩:=JI I1 qb;refine zp_call p1 p2 λh' z=>?_
   refine wpAny_pyIter_zip (s:={s1 with heap:=h'}) z.z ?_
   have n:∀j,s1.heap.objs.size<=s1.heap.objs.size+j:=λj=>Nat.le_add_right _ _
   have fr:∀c,s1.heap.objs.size<=c->ue X pins H1 c:=λc hc=>I1.fpOk hc (I1.hok.fresh hc)
   refine⟨_,[s1.heap.objs.size+4,s1.heap.objs.size+2,s1.heap.objs.size+3,s1.heap.objs.size,s1.heap.objs.size+1],_,_,H1,rfl,I1.kept (t':=s1.toks) z.kp,zAl (five _) t1 t2 a b,⟨z.z,z.a,⟨_,_,z.b⟩,G9 z.i1,G9 z.i2⟩,λc hc=>?_,q⟩;simp only[mem_cons,mem_nil_iff,or_false]at hc;rcases hc with rfl|rfl|rfl|rfl|rfl
   ·exact fr _ (n 4)
   ·exact fr _ (n 2)
   ·exact fr _ (n 3)
   ·exact fr _ (n 0)
   ·exact fr _ (n 1)
def uU(d e:D):D:=.tup [d,e]
theorem yg{t:Bool}{a:Addr}{xs:List V}{H H':Hp}(e:JC H H')(h:SqH K H t a xs):SqH K H' t a xs:=by
 cases t with
 |true=>exact zV e h
 |false=>exact e.seq h
theorem it_zip{t1 t2:Bool}{a b:Addr}{xs ys:List V}{ds es:List D}:ItOk K mg (Itz K t1 t2 a b) (zipWith uU ds es) (λH=>SqH K H t1 a xs/\Reps K mg H ds xs/\SqH K H t2 b ys/\Reps K mg H es ys) where
 mono:=λH H' s h=>⟨yg s h.1,h.2.1.mono s,yg s h.2.2.1,h.2.2.2.mono s⟩
 go:=λi Hh H s h hi=>by
  rw[List.length_zipWith]at hi;exact⟨xs,ys,yg s h.1,yg s h.2.2.1,by rw[h.2.1.length];omega,by rw[h.2.2.2.length];omega⟩
 yld:=λi Hh H x H' s h hi y=>by
  obtain⟨q,u,v,h1,h2,hq,rfl,rfl⟩:=y;have e1:=h1 xs (yg s h.1);have e2:=h2 ys (yg s h.2.2.1);obtain⟨d,g1,r1⟩:=h.2.1.get e1;obtain⟨e,g2,r2⟩:=h.2.2.2.get e2;refine⟨uU d e,by rw[List.getElem?_zipWith,g1,g2],.inr ⟨q,[u,v],[d,e],hq,rfl,rfl,rfl,Reps.cons r1 (Reps.cons r2 Reps.nil)⟩⟩
 stop:=λi Hh H s h hi=>by
  rw[List.length_zipWith]at hi;refine⟨xs,ys,yg s h.1,yg s h.2.2.1,?_⟩;rw[h.2.1.length,h.2.2.2.length];omega
end
end DV
namespace DV
open PySem L2
section
variable{X:Cx}
def seqD:Bool->D->Option (List D)
 |true,.tup ds=>some ds
 |false,.lst ds=>some ds
 |_,_=>none
def iZ(t1 t2:Bool)(m:MA):MI:=λE=>match m E with
 | .stuck=>.stuck
 | .exc x E1=>.exc x E1
 | .ok ([r,r'],E1)=>match seqD t1 r.d,seqD t2 r'.d with
  |some ds,some es=>.ok (zipWith uU ds es,E1)
  |_,_=>.stuck
 |_=>.stuck
theorem QA{K:PySem.W.Frag}{mg:Str->Option Value}{H:Hp}{t:Bool}{d:D}{ds:List D}{v:V}(e:seqD t d=some ds)(r:Rep K mg H d v):∃a xs,v=.ref a/\SqH K H t a xs/\Reps K mg H ds xs:=by
 cases t with
 |true =>
  cases d with
  |tup es=>cases e;exact zM r
  |_=>cases e
 |false =>
  cases d with
  |lst es=>cases e;exact zJ r
  |_=>cases e
theorem io_zip{t1 t2:Bool}{a b:Expr}{m:MA}{elts:List Expr}{x1}{tp p cpos:Pos}(hgl:Gl X "zip")(hm:X.mg "zip"=none)(ha:AOk X [a,b] m)(hst:zW a=false:=by rfl)(hst2:zW b=false:=by rfl) :
  IOk X (.Tuple elts x1 tp) (.Call (.Name "zip" p) [a,b] [] cpos) (iZ t1 t2 m):=vP (pi_zip hgl hm ha (star2 hst hst2) (zAE hst2)) λσ H R ⟨M,E,hl,fr,k⟩=>by
 unfold iZ at k;refine J8 (T0:=[]) hl fr ?_;cases ea:m E with
 |stuck=>rw[ea]at k;exact k
 |exc x E1=>rw[ea]at k;exact k
 |ok p =>
  obtain⟨rs,E1⟩:=p;rw[ea]at k
  match rs,k with
  | [r,r'],k =>
   intro vs H1 hv g1;have rp:=Got.reps hv g1;dsimp only at k;cases ed:seqD t1 r.d with
   |none=>rw[ed]at k;exact k.elim
   |some ds =>
    cases ed':seqD t2 r'.d with
    |none=>rw[ed,ed']at k;exact k.elim
    |some es =>
     rw[ed,ed']at k;simp only[List.map]at rp;obtain⟨v,w,rfl,h1,h2⟩:=reps2 rp;obtain⟨c,xs,rfl,c1,c2⟩:=QA ed h1;obtain⟨d,ys,rfl,d1,d2⟩:=QA ed' h2;exact⟨c,d,xs,ys,rfl,yg zF c1,yg zF d1,k _ _ H1 it_zip ⟨c1,c2,d1,d2⟩ g1.dropAll⟩
  | [],k=>exact k.elim
  | [_],k=>exact k.elim
  |_::_::_::_,k=>exact k.elim
end
end DV
namespace DV
open PySem L2
section
variable{X:Cx}{K:PySem.W.Frag}{mg:Str->Option Value}{σ:L2.St}{M:Addr->Prop}{E:zL}{H:Hp}
end
end DV
namespace DV
open PySem L2 PySem.Spec PyProof.Rows
section
variable{prog:Program}{w:World}{A:Around}{E:Value->Shared->Prop}{s:Shared}
end
end DV
namespace DV
open PySem L2 PySem.Spec PyProof.Rows
open AutoSeq1 (wpAny_loadPart')
section
variable{prog:Program}{w:World}{A:Around}{E:Value->Shared->Prop}{s:Shared}
structure En(h h':Heap)(c:String)(l:Addr):Prop where
 e:IsEnum h' (h.objs.size+1) h.objs.size 0 .none
 i:h'.get? h.objs.size=some (itO c l)
 kp:∀b o,h.get? b=some o->h'.get? b=some o
end
section
variable{X:Cx}{K:PySem.W.Frag}{mg:Str->Option Value}{σ:L2.St}{H:Hp}
end
end DV
namespace PySem
open Sem (wp)
open AutoSeq1 (wpAny_loadPart')
section
variable{prog:Program}{w:World}{A:Around}{E:Value->Shared->Prop}{s:Shared}
end
end PySem
namespace L2
open PySem PySem.Spec PyProof.Rows
section
variable{X:Cx}
end
end L2
namespace DV
open PySem L2
section
variable{X:Cx}
end
end DV
namespace DV
open PySem L2
section
variable{X:Cx}{K:PySem.W.Frag}{mg:Str->Option Value}{σ σ1:St}{M:Addr->Prop}{E E1:zL}{H H1:Hp}
end
end DV
namespace DV
open PySem L2
section
variable{X:Cx}{K:PySem.W.Frag}{mg:Str->Option Value}{P P':Addr->Prop}{H:Hp}{a:Addr}{xs:List V}
end
end DV
namespace DV
open PySem L2
def Qr:D->Option (List Int)
 | .tup ds=>JH ds
 |_=>none
def jh:List D->Option (List (List Int))
 | []=>some []
 |d::ds=>match Qr d,jh ds with
  |some a,some as=>some (a::as)
  |_,_=>none
def pyI(a:List Int):PyData:=.tuple (a.map PyData.int)
theorem WG:∀{ds:List D} {a:List Int},JH ds=some a->pyDs ds=some (a.map PyData.int)
 | [],a,e=>by cases e;rfl
 |d::ds,a,e=>by
  cases d with
  |int i =>
   simp only[JH]at e;cases h:JH ds with
   |none=>rw[h]at e;cases e
   |some b=>rw[h]at e;cases e;simp only[pyDs,pyD,WG h];rfl
  |_=>cases e
theorem vd{d:D}{a:List Int}(e:Qr d=some a):pyD d=some (pyI a):=by
 cases d with
 |tup ds=>simp only[pyD,WG (show JH ds=some a from e)];rfl
 |_=>cases e
theorem Yq:∀{ds:List D} {as:List (List Int)},jh ds=some as->pyDs ds=some (as.map pyI)
 | [],as,e=>by cases e;rfl
 |d::ds,as,e=>by
  simp only[jh]at e;cases h:Qr d with
  |none=>rw[h]at e;cases e
  |some a =>
   cases h2:jh ds with
   |none=>rw[h,h2]at e;cases e
   |some bs=>rw[h,h2]at e;cases e;simp only[pyDs,vd h,Yq h2];rfl
theorem ZP:∀a:List Int,PyData.canLayAll0 (a.map PyData.int)=true
 | []=>rfl
 |i::a=>by simp only[map_cons,PyData.canLayAll0,PyData.canLay0,ZP a];rfl
theorem ve:∀as:List (List Int),PyData.canLayAll0 (as.map pyI)=true
 | []=>rfl
 |a::as=>by simp only[map_cons,PyData.canLayAll0,ve as,pyI,PyData.canLay0,ZP a];rfl
theorem vf:∀a:List Int,PyData.depthAll (a.map PyData.int)<=1
 | []=>by simp[PyData.depthAll]
 |i::a=>by have:=vf a;simp only[map_cons,PyData.depthAll,PyData.depth];omega
theorem dep_pyI(a:List Int):(pyI a).depth<=2:=by
 have:=vf a;simp only[pyI,PyData.depth];omega
theorem vg:∀a b:List Int,PyData.eqvAll (a.map PyData.int) (b.map PyData.int)=decide (a=b)
 | [],[]=>rfl
 | [],_::_=>rfl
 |_::_,[]=>rfl
 |i::a,j::b=>by
  simp only[map_cons,PyData.eqvAll,PyData.eqv,vg a b,List.cons.injEq,Bool.decide_and];rfl
theorem eqv_pyI(a b:List Int):PyData.eqv (pyI a) (pyI b)=decide (a=b):=by
 simp only[pyI,PyData.eqv,vg]
theorem QB(a:List Int):∀as:List (List Int),(as.map pyI).any (λy=>PyData.eqv y (pyI a))=as.contains a
 | []=>rfl
 |b::as=>by
  rw[map_cons,any_cons,QB a as,eqv_pyI,List.contains_cons];congr 1;by_cases h:b=a
  ·subst h;simp
  ·have:¬a=b:=λe=>h e.symm
   simp[h,this]
def inT(neg:Bool)(d:D):D->Option R
 | .lst ds=>match Qr d,jh ds with
  |some a,some as=>some (.val (.bl (if neg then !as.contains a else as.contains a)))
  |_,_=>none
 |_=>none
def inG(neg:Bool)(d e:D):Option R:=match inF neg d e with
 |some r=>some r
 |none=>inT neg d e
def rInT(K:PySem.W.Frag)(mg:Str->Option Value)(neg:Bool):R2:=λx y H Q=>∃d ds a as,Rep K mg H d x/\Rep K mg H (.lst ds) y/\Qr d=some a/\jh ds=some as/\Q (.bl (if neg then !as.contains a else as.contains a)) H
section
variable{X:Cx}{σ:L2.St}{pins:List (Addr×Obj)}{H:Hp}{s:Shared}{K:PySem.W.Frag}{mg:Str->Option Value}
theorem QC(S:SmOk X.K)(hu:X.A.units+20<cLine):OpR X (compareOp .NotIn) (rInT X.K X.mg true):=by
 intro pins s σ H x y v u Q I rx ry h;obtain⟨d,ds,a,as,r1,r2,e1,e2,q⟩:=h;obtain⟨bs,rd,_⟩:=ZN I S r1 rx (vd e1);obtain⟨cs,rl,_⟩:=ZN I S r2 ry (x:=.list (as.map pyI)) (by simp only[pyD,Yq e2];rfl);refine SeqAt.notIn_list_reads rl rd (ve as) (by simp only[pyI,PyData.canLay0,ZP]) (by have:=dep_pyI a;have:=Nat.min_le_right (PyData.depthAll (as.map pyI)) (pyI a).depth;omega) ⟨.bl _,H,I,rfl,?_⟩;rw[QB];exact q
theorem zBW{neg:Bool}:ROk K mg (λx y H Q=>rIn K neg x y H Q\/rInT K mg neg x y H Q) (inG neg):=by
 intro M H Z x y d1 d2 res Q f r1 r2 e k;unfold inG at e;cases h:inF neg d1 d2 with
 |some r=>rw[h]at e;cases e;exact .inl (ro_in M H Z x y d1 d2 res Q f r1 r2 h k)
 |none =>
  rw[h]at e;cases d2 with
  |lst ds =>
   replace e:(match Qr d1,jh ds with
    |some a,some as=>some (R.val (.bl (if neg then !as.contains a else as.contains a)))
    |_,_=>none)=some res:=e
   cases ha:Qr d1 with
   |none=>rw[ha]at e;cases e
   |some a =>
    cases hs:jh ds with
    |none=>rw[ha,hs]at e;cases e
    |some as =>
     rw[ha,hs]at e;cases e;exact .inr ⟨d1,ds,a,as,r1.mono zF,r2.mono zF,ha,hs,k.flat f rfl⟩
  |_=>cases e
theorem MtM.or{id:String}{r r':V->List V->Hp->VK->Prop}(h:MtM X id r)(h':MtM X id r'):MtM X id (λx vs H Q=>r x vs H Q\/r' x vs H Q):=by
 intro pins s σ H x vs v us Q I rx rv q;rcases q with q|q
 ·exact h pins s σ H x vs v us Q I rx rv q
 ·exact h' pins s σ H x vs v us Q I rx rv q
end
end DV
namespace DV
open PySem L2 PyProof.Rows PySem.Calls
section
variable{prog:Program}{w:World}{A:Around}{R:Result->Shared->Prop}{I:Addr}{fp wr:List Addr}{n:Nat}{P:Nat->Value->Prop}{St:Nat->Heap->Prop}{J:Heap->Prop}
def CmpJ(prog:Program)(w:World)(A:Around)(op:CmpOp)(P:Nat->Value->Prop)(bt:Nat->Nat->Bool)(J:Heap->Prop):Prop :=
 ∀i j vi vj (s:Shared) (Q:Value->Shared->Prop) (E:Value->Shared->Prop),J s.heap->P i vi->P j vj->Q (.bool (bt i j)) s->wpAny (model prog w) A (richCompare op vi vj) Q E s
theorem QD(W:Walks prog w A.in1 I fp wr n P St)(bt:Nat->Nat->Bool)(hcmp:CmpJ prog w A.in1 .Lt P bt J)(S:Addr)(hSf:S∉fp)(hJ:∀h h':Heap,J h->(∀b o,b∉wr->b≠S->h.get? b=some o->h'.get? b=some o)->J h') :
  ∀(k j:Nat) (s:Shared) (vb:Value) (c:Nat),n-(j+1)=k->j+1<=n->St (j+1) s.heap->J s.heap->P (argBest bt j) vb ->
  s.heap.get? S=some {cls:=.type "list",dict:=none,data:=.seq #[vb,vb] c,slots:=#[]} ->
  (∀v h' tk,P (argBest bt (n-1)) v->(∀b o,b∉wr->b≠S->s.heap.get? b=some o->h'.get? b=some o)->R (.ok (.ret v)) {s with heap:=h',toks:=tk}) ->
  codeAny (model prog w) A (.builtin "min.loop" ⟨[.ref I,.none,.ref S],[]⟩) R s:=by
 have hSw:S∉wr:=λh=>hSf (W.sub _ h)
 have hname:(toString "min"++toString ".loop":String)="min.loop":=by decide
 intro k
 induction k with
 |zero =>
  intro j s vb c hk hj hst hJs hPb hS hR;have hin:j+1=n:=by omega
  refine codeAny_builtin F.entry_min_loop ?_;rw[Around.under_plainId F.plain_min_loop _];show wpAny _ A.in1 (seqItems? (.ref S) >>= _) _ _ s;refine wpAny_bind (wpAny_seqItems hS rfl ?_);show wpAny _ A.in1 (tryCatch (pyNext (.ref I)) _ >>= _) _ _ s;refine wpAny_bind (wpAny_tryCatch (W.done s _ _ (hin▸hst) λh' tk hk'=>?_));have hS':=hk' S _ hSw hS;show wpAny _ A.in1 (updateSeq S (λ_=>#[]) >>= _) _ _ _;refine wpAny_bind ?_;refine wpAny_updateSeq hS' rfl (wpAny_bind (wpAny_letGo (wpAny_pure ?_)));refine hR vb _ tk (by rw[<- hin];exact hPb) λb o hbw hbS e=>(get?_update_other _ _ (Ne.symm hbS)).trans (hk' b o hbw e)
 |succ k ih =>
  intro j s vb c hk hj hst hJs hPb hS hR;have hlt:j+1<n:=by omega
  refine codeAny_builtin F.entry_min_loop ?_;rw[Around.under_plainId F.plain_min_loop _];show wpAny _ A.in1 (seqItems? (.ref S) >>= _) _ _ s;refine wpAny_bind (wpAny_seqItems hS rfl ?_);show wpAny _ A.in1 (tryCatch (pyNext (.ref I)) _ >>= _) _ _ s;refine wpAny_bind (wpAny_tryCatch (W.item (j+1) s _ _ hlt hst λv h' tk hP hst' hk'=>?_));have hS':=hk' S _ hSw hS;have hJ1:J h':=hJ s.heap h' hJs λb o hbw _ e=>hk' b o hbw e
  show wpAny _ A.in1 (tryCatch (holding [v,v] (richCompare .Lt v vb >>= _)) _ >>= _) _ _ _
  refine wpAny_bind (wpAny_tryCatch (wpAny_holding (wpAny_bind (hcmp (j+1) (argBest bt j) v vb _ _ _ hJ1 hP hPb ?_))));refine wpAny_bind (wpAny_holding (wpAny_truthy_bool ?_));refine wpAny_bind (wpAny_letGo (wpAny_pure ?_));cases hb:bt (j+1) (argBest bt j)with
  |true =>
   simp only[if_true];refine wpAny_bind ?_;refine wpAny_updateSeq hS' rfl (wpAny_bind (wpAny_letGo ?_));rw[hname];refine wpAny_pure ⟨plainId_quiet F.plain_min_loop _,ih (j+1) _ v _ (by omega) hlt (W.frame _ _ _ hst' λb hbf o e=>?_) (hJ h' _ hJ1 λb o _ hbS e=>(get?_update_other _ _ (Ne.symm hbS)).trans e) (by simp only[argBest,hb,if_true];exact hP) (get?_update_self _ hS' rfl)
    λv' h'' tk'' hP' hk''=>?_⟩
   ·exact(get?_update_other _ _ (λh:S=b=>hSf (by rw[h];exact hbf))).trans e
   ·exact hR v' h'' tk'' hP' λb o hbw hbS e=>hk'' b o hbw hbS ((get?_update_other _ _ (Ne.symm hbS)).trans (hk' b o hbw e))
  |false =>
   simp only[Bool.false_eq_true,if_false];refine wpAny_bind (wpAny_letGo ?_);rw[hname];refine wpAny_pure ⟨plainId_quiet F.plain_min_loop _,ih (j+1) _ vb c (by omega) hlt hst' hJ1 (by simp only[argBest,hb,Bool.false_eq_true,if_false];exact hPb) hS' λv' h'' tk'' hP' hk''=>?_⟩;exact hR v' h'' tk'' hP' λb o hbw hbS e=>hk'' b o hbw hbS (hk' b o hbw e)
theorem uV(W:Walks prog w A.in1 I fp wr n P St)(bt:Nat->Nat->Bool)(hcmp:CmpJ prog w A.in1 .Lt P bt J)(S:Addr)(hSf:S∉fp)(hJ:∀h h':Heap,J h->(∀b o,b∉wr->b≠S->h.get? b=some o->h'.get? b=some o)->J h')(hn:0<n){s:Shared}{c:Nat}(hst:St 0 s.heap)(hJs:J s.heap)
  (hS:s.heap.get? S=some {cls:=.type "list",dict:=none,data:=.seq #[] c,slots:=#[]})
  (hR:∀v h' tk,P (argBest bt (n-1)) v->(∀b o,b∉wr->b≠S->s.heap.get? b=some o->h'.get? b=some o)->R (.ok (.ret v)) {s with heap:=h',toks:=tk}) :
  codeAny (model prog w) A (.builtin "min.loop" ⟨[.ref I,.none,.ref S],[]⟩) R s:=by
 have hSw:S∉wr:=λh=>hSf (W.sub _ h)
 have hname:(toString "min"++toString ".loop":String)="min.loop":=by decide
 refine codeAny_builtin F.entry_min_loop ?_;rw[Around.under_plainId F.plain_min_loop _];show wpAny _ A.in1 (seqItems? (.ref S) >>= _) _ _ s;refine wpAny_bind (wpAny_seqItems hS rfl ?_);show wpAny _ A.in1 (tryCatch (pyNext (.ref I)) _ >>= _) _ _ s;refine wpAny_bind (wpAny_tryCatch (W.item 0 s _ _ hn hst λv h' tk hP hst' hk'=>?_));have hS':=hk' S _ hSw hS;have hJ1:J h':=hJ s.heap h' hJs λb o hbw _ e=>hk' b o hbw e
 show wpAny _ A.in1 (updateSeq S (λ_=>#[v,v]) >>= _) _ _ _
 refine wpAny_bind ?_;refine wpAny_updateSeq hS' rfl ?_;rw[hname];refine wpAny_pure ⟨plainId_quiet F.plain_min_loop _,QD W bt hcmp S hSf hJ _ 0 _ v _ rfl hn (W.frame _ _ _ hst' λb hbf o e=>?_) (hJ h' _ hJ1 λb o _ hbS e=>(get?_update_other _ _ (Ne.symm hbS)).trans e) hP (get?_update_self _ hS' rfl) λv' h'' tk'' hP' hk''=>?_⟩
 ·exact(get?_update_other _ _ (λh:S=b=>hSf (by rw[h];exact hbf))).trans e
 ·exact hR v' h'' tk'' hP' λb o hbw hbS e=>hk'' b o hbw hbS ((get?_update_other _ _ (Ne.symm hbS)).trans (hk' b o hbw e))
end
section
variable{prog:Program}{w:World}{A:Around}{E:Value->Shared->Prop}{s:Shared}
theorem Ye{x:Value}{Q:Value->Shared->Prop}
  (h:wpAny (model prog w) A.in1 (pyIter x) (λit s₂=>∃(I:Addr) (fp wr:List Addr) (n:Nat) (P:Nat->Value->Prop) (St:Nat->Heap->Prop) (bt:Nat->Nat->Bool) (J:Heap->Prop),it=.ref I/\Walks prog w A.in1 I fp wr n P St/\St 0 s₂.heap/\(∀b∈fp,b<s₂.heap.objs.size)/\0<n/\CmpJ prog w A.in1 .Lt P bt J/\J s₂.heap /\
   (∀S,s₂.heap.objs.size<=S->∀h h':Heap,J h->(∀b o,b∉wr->b≠S->h.get? b=some o->h'.get? b=some o)->J h') /\
   ∀v h' tk,P (argBest bt (n-1)) v->(∀b o,b∉wr->s₂.heap.get? b=some o->h'.get? b=some o)->Q v {s₂ with heap:=h',toks:=tk}) E s) :
  wpAny (model prog w) A (call (.builtin "min") [x]) Q E s:=by
 have hname:(toString "min"++toString ".loop":String)="min.loop":=by decide
 refine call_function_tree F.kind_min F.plain_min F.entry_min (F.args_min1 _) ?_;show wpAny _ A.in1 (Builtin.Builtins.bindParams "min" ["key","default"] 0 ⟨[],[]⟩ >>= _) _ _ s;refine wpAny_bind (wpAny_of_eq (show Builtin.Builtins.bindParams "min" ["key","default"] 0 ⟨[],[]⟩=pure [none,none]from rfl) ?_);refine wpAny_bind (wpAny_pure ?_);refine wpAny_bind (wpAny_mono h (λit s₂ h₂=>?_) λ_ _ e=>e);obtain⟨I,fp,wr,n,P,St,bt,J,rfl,W,hst,hfp,hn,hcmp,hJs,hJ,hQ⟩:=h₂;refine wpAny_bind (wpAny_newObj_type ?_);have hSf:s₂.heap.objs.size∉fp:=λhm=>lt_irrefl _ (hfp _ hm)
 rw[hname];refine wpAny_pure ⟨plainId_quiet F.plain_min_loop _,uV W bt hcmp s₂.heap.objs.size hSf (hJ _ (le_refl _)) hn (W.frame _ _ _ hst λb _ o e=>get?_push_of_some _ e) (hJ _ (le_refl _) _ _ hJs λb o _ _ e=>get?_push_of_some _ e) (get?_push_size _ rfl) λv h' tk hP hk=>?_⟩;exact hQ v h' tk hP λb o hbw e=>hk b o hbw (ne_of_lt (lt_size e)) (get?_push_of_some _ e)
end
def yS(as:List (List Int)):Nat:=argBest (λi j=>HT.lexLt (as.getD i []) (as.getD j [])) (as.length-1)
theorem YK:∀{ds:List D} {as:List (List Int)},jh ds=some as->as.length=ds.length
 | [],as,e=>by cases e;rfl
 |d::ds,as,e=>by
  simp only[jh]at e;cases h:Qr d with
  |none=>rw[h]at e;cases e
  |some a =>
   cases h2:jh ds with
   |none=>rw[h,h2]at e;cases e
   |some bs=>rw[h,h2]at e;cases e;simp[YK h2]
theorem WH:∀{ds:List D} {as:List (List Int)},jh ds=some as->∀i,i<ds.length->Qr (ds.getD i .non)=some (as.getD i [])
 | [],as,e,i,h=>by simp at h
 |d::ds,as,e,i,h=>by
  simp only[jh]at e;cases h1:Qr d with
  |none=>rw[h1]at e;cases e
  |some a =>
   cases h2:jh ds with
   |none=>rw[h1,h2]at e;cases e
   |some bs =>
    rw[h1,h2]at e;cases e;cases i with
    |zero=>exact h1
    |succ i=>exact WH h2 i (by simpa using h)
section
variable{X:Cx}{σ:L2.St}{pins:List (Addr×Obj)}{H:Hp}{s:Shared}{K:PySem.W.Frag}{mg:Str->Option Value}
def rMinT(K:PySem.W.Frag)(mg:Str->Option Value)(xs:List V)(H:Hp)(Q:VK):Prop:=∃(p:Addr) (ys:List V) (ds:List D) (as:List (List Int)),xs=[.ref p]/\SqL K H p ys/\Reps K mg H ds ys/\jh ds=some as/\0<ds.length/\Q (ys.getD (yS as) .non) H
theorem Yr(bt:Nat->Nat->Bool):∀k,argBest bt k<=k
 |0=>le_refl _
 |k+1=>by
  have:=Yr bt k;simp only[argBest];split<;>omega
theorem QE(hc:X.calm=true)(hu:X.A.units+20<cLine):y1 X (.builtin "min") (rMinT X.K X.mg):=by
 intro pins s σ H xs us Q I r h;obtain⟨p,ys,ds,as,rfl,hq,rd,ht,hpos,q⟩:=h;obtain⟨u,rfl,rx⟩:=Yx r;cases rx;obtain⟨its,rv,pl,hz⟩:=I.list hq;have l1:=rd.length;have l2:=rv.length;have l3:=YK ht;have hlen:its.length=ds.length:=by omega
 have hp:p<s.heap.objs.size:=by obtain⟨o,n,e,_⟩:=pl;exact lt_size e
 have hk:∀b o,s.heap.get? b=some o->(s.heap.push {cls:=.type "list_iterator",data:=.fields #[.ref p,.int 0 0]}).get? b=some o:=λb o e=>get?_push_of_some _ e
 have item:∀i v,its.toArray[i]?=some v->∃a us,v=.ref a/\IsTup s.heap a us/\IntsAre us.toList (as.getD i []):=λi v e=>by
  have e':its[i]?=some v:=by simpa using e
  obtain⟨hi,ev⟩:=List.getElem?_eq_some_iff.mp e';obtain⟨hd,x,rep,rel⟩:=wW rd rv hi;rw[ev]at rel;have hti:=WH ht i hd;cases hdi:ds.getD i .non with
  |tup es =>
   rw[hdi]at hti rep;obtain⟨a,zs,rfl,q1,q2⟩:=zM rep;cases (show v=Value.ref a from rel);obtain⟨js,rz,tp,_⟩:=I.tuple q1;rw[j7 hti q2]at rz;exact⟨a,js.toArray,rfl,tp,by simpa using uM rz⟩
  |_=>rw[hdi]at hti;cases hti
 refine Ye (wpAny_pyIter_list pl.isList ?_);refine⟨s.heap.objs.size,[s.heap.objs.size,p],[s.heap.objs.size],its.toArray.size,_,_,(λi j=>HT.lexLt (as.getD i []) (as.getD j [])),(λh=>∀b o,s.heap.get? b=some o->h.get? b=some o),rfl,
  Walks.list (by show X.A.handled=none;exact I.ok.hd hc) _ p (ne_of_lt hp) its.toArray,⟨⟨_,get?_push_size _ rfl,rfl,rfl⟩,?_⟩,?_,?_,?_,hk,?_,?_⟩
 ·obtain⟨o,e,c⟩:=pl.isList
  exact⟨o,hk _ _ e,c⟩
 ·intro b hb
  rw[size_push];rcases mem_cons.mp hb with rfl|hb
  ·exact lt_succ_self _
  ·have:b=p:=by simpa using hb
   subst this;exact lt_succ_of_lt hp
 ·rw[size_toArray,hlen];exact hpos
 ·intro i j vi vj s' Q' E' hJ hi hj hq'
  obtain⟨a,ua,rfl,⟨oa,ga,ca⟩,ia⟩:=item i vi hi;obtain⟨b,ub,rfl,⟨ob,gb,cb⟩,ib⟩:=item j vj hj;exact HT.lt_tupInts ⟨oa,hJ _ _ ga,ca⟩ ⟨ob,hJ _ _ gb,cb⟩ ia ib (by show X.A.units+1<cLine;omega) hq'
 ·intro S hS h h' hj hk' b o e
  have hb:=lt_size e;rw[size_push]at hS;exact hk' b o (λm=>ne_of_lt hb (by simpa using m)) (ne_of_lt (lt_of_lt_of_le hb (le_trans (le_succ _) hS))) (hj b o e)
 ·intro v h' tk hP kp
  have e':its[yS as]?=some v:=by
   have:its.toArray[argBest (λi j=>HT.lexLt (as.getD i []) (as.getD j [])) (its.toArray.size-1)]?=some v:=hP;rw[size_toArray,show its.length=as.length by omega]at this;simpa[yS]using this
  obtain⟨hi,ev⟩:=List.getElem?_eq_some_iff.mp e';have hy:yS as<ys.length:=by omega
  obtain⟨u,e1,e2⟩:=rv.get (i:=yS as) (x:=ys[yS as]) (by simp[hy]);rw[e']at e1;cases e1;exact⟨ys.getD (yS as) .non,H,I.kept (t':=tk) λb o eb=>kp b o (λm=>by
   have:b=s.heap.objs.size:=by simpa using m
   subst this;exact absurd (lt_size eb) (lt_irrefl _)) (hk b o eb),by rw[getD_eq_getElem?_getD,getElem?_eq_getElem hy];exact e2,q⟩
def minT:List D->Option R
 | [.lst ds]=>match jh ds with
  |some as=>if 0<ds.length then some (.val (ds.getD (yS as) .non))else none
  |none=>none
 |_=>none
def minH(ds:List D):Option R:=match minG ds with
 |some r=>some r
 |none=>minT ds
theorem co_minH:COk K mg (λxs H Q=>((∃i j,xs=[.int i,.int j]/\Q (.int (if j<i then j else i)) H)\/∃(p:Addr) (ns:List Int),xs=[.ref p]/\SqL K H p (ns.map V.int)/\0<ns.length/\Q (.int (Gw ns)) H)\/rMinT K mg xs H Q) minH:=by
 intro M H Z xs ds res Q f r e k;unfold minH at e;cases h:minG ds with
 |some z=>rw[h]at e;cases e;exact .inl (co_minG M H Z xs ds res Q f r h k)
 |none =>
  rw[h]at e
  match ds,e with
  | [.lst ds],e =>
   replace e:(match jh ds with
    |some as=>if 0<ds.length then some (R.val (ds.getD (yS as) .non))else none
    |none=>none)=some res:=e
   cases ht:jh ds with
   |none=>rw[ht]at e;cases e
   |some as =>
    rw[ht]at e;dsimp only at e;split at e
    ·rename_i hp
     cases e;obtain⟨v,rfl,hv⟩:=wB r;obtain⟨p,ys,rfl,h1,h2⟩:=zJ hv;have l:=YK ht;have hl:yS as<ds.length:=by
      have:=Yr (λi j=>HT.lexLt (as.getD i []) (as.getD j [])) (as.length-1);unfold yS;omega
     obtain⟨v,e1,e2⟩:=h2.get' (i:=yS as) (d:=ds[yS as]) (by simp[hl]);refine .inr ⟨p,ys,ds,as,rfl,zF.seq h1,h2.mono zF,ht,hp,?_⟩;rw[getD_eq_getElem?_getD,e1];refine k.rep f ?_;show Rep _ _ _ (ds.getD (yS as) .non) v;rw[getD_eq_getElem?_getD,getElem?_eq_getElem hl];exact e2
    ·cases e
end
end DV
namespace DV
open PySem L2
section
variable{X:Cx}{σ:L2.St}{pins:List (Addr×Obj)}{H:Hp}{s:Shared}
end
end DV
namespace DV
open PySem L2
section
variable{X:Cx}
end
end DV
namespace DV
open PySem L2
section
variable{X:Cx}{σ:L2.St}
end
end DV
namespace DV
open PySem PyProof.Rows
section
variable{prog:Program}{w:World}{A:Around}{E:Value->Shared->Prop}
variable{s:Shared}
end
end DV
namespace DV
open PySem L2
section
variable{X:Cx}{σ:L2.St}{H:Hp}
end
end DV
namespace DV
open PySem L2
section
variable{prog:Program}{w:World}{A:Around}{R:Result->Shared->Prop}{s:Shared}{elt t0 i0 t1 i1:Expr}{f0 f1:List Expr}{scope:Scope}{pos:Pos}{it acc:Value}{env:Env}
end
abbrev TA:=Addr->St->Hp->(St->Hp->Prop)->Prop
def PA(Y:Cx)(act:Value->Env->Sem PySem.Fin->Sem PySem.Fin)(ta:TA):Prop:=∀(D:Addr) (pins:List (Addr×Obj)) (s:Shared) (σ:St) (H:Hp) (Nx:St->Hp->Prop) (k:Sem PySem.Fin) (Q:PySem.Fin->Shared->Prop) (E:Value->Shared->Prop),Inv Y pins σ H s->ta D σ H Nx ->
 (∀σ' H' s',Inv Y pins σ' H' s'->Nx σ' H'->wpAny (model Y.prog Y.w) Y.A k Q E s')->wpAny (model Y.prog Y.w) Y.A (act (.ref D) Y.env k) Q E s
section
variable{X:Cx}{elt target iter:Expr}{ifs:List Expr}{scope:Scope}{pos:Pos}{nl:Nat}{caps:List Nat}{N':List Str}
end
section
variable{X:Cx}{K:PySem.W.Frag}{mg:Str->Option Value}{σ:St}{M:Addr->Prop}{E:zL}{H:Hp}{T0 Z T:Fz}
structure GA(K:PySem.W.Frag)(mg:Str->Option Value)(M:Addr->Prop)(D:Addr)(σ:St)(E:zL)(H:Hp)(acc:List DV.D)(σ':St)(E':zL)(H':Hp)(acc':List DV.D):Prop where
 len:E'.length=σ'.length
 fr:FR K mg M H' ((some (.ref D),.own acc')::σ'.zip E')
 st:Step M H ((some (.ref D),.own acc)::σ.zip E) H' ((some (.ref D),.own acc')::σ'.zip E')
 pk:PKp σ E σ' E'
theorem GA.of{D:Addr}{acc:List DV.D}{σ':St}{E':zL}{H':Hp}(g:Got K mg M σ E H [(some (.ref D),.own acc)] σ' E' H' []):GA K mg M D σ E H acc σ' E' H' acc:=⟨g.len,g.fr,g.st,g.pk⟩
theorem GA.trans{D:Addr}{acc acc1 acc2:List DV.D}{σ1 σ2:St}{E1 E2:zL}{H1 H2:Hp}(a:GA K mg M D σ E H acc σ1 E1 H1 acc1)(b:GA K mg M D σ1 E1 H1 acc1 σ2 E2 H2 acc2):GA K mg M D σ E H acc σ2 E2 H2 acc2:=⟨b.len,b.fr,a.st.trans b.st,a.pk.trans b.pk⟩
abbrev MC:=zL->List D->Out (List D×zL)
def ActOk(K:PySem.W.Frag)(mg:Str->Option Value)(ma:MC)(ta:TA):Prop:=∀(M:Addr->Prop) (D:Addr) (σ:St) (E:zL) (H:Hp) (acc acc':List DV.D) (E':zL) (Nx:St->Hp->Prop),E.length=σ.length->FR K mg M H ((some (.ref D),.own acc)::σ.zip E)->ma E acc=.ok (acc',E')->(∀σ' H',GA K mg M D σ E H acc σ' E' H' acc'->Nx σ' H')->ta D σ H Nx
def Wu(tg:MG)(tt:MT)(ma:MC):List D->zL->List D->Out (List D×zL)
 | [],E,acc=>.ok (acc,E)
 |d::ds,E,acc=>match tg d E with
  | .ok E1=>match tt E1 with
   | .ok (true,E2)=>match ma E2 acc with
    | .ok (acc',E3)=>Wu tg tt ma ds E3 acc'
    |_=>.stuck
   | .ok (false,E2)=>Wu tg tt ma ds E2 acc
   |_=>.stuck
  |_=>.stuck
theorem yld_ga{J:It}{ds:List D}{Iv:Hp->Prop}{σ0 σ':St}{E0 E':zL}{H1 H' H'':Hp}{Da:Addr}{acc0 acc:List D}{i:Nat}{x:V}(it:ItOk K mg J ds Iv)(hlt:i<ds.length)(gb:GA K mg M Da σ0 E0 H1 acc0 σ' E' H' acc)(ivb:Iv (Hm (Mo M ((some (.ref Da),Slot.own acc)::σ'.zip E')) H'))(y:J.yld i H' x H'') :
  ∃d,ds[i]?=some d/\GA K mg M Da σ0 E0 H1 acc0 σ' E' H'' acc/\Iv (Hm (Mo M ((some (.ref Da),Slot.own acc)::σ'.zip E')) H'')/\Rep K mg (Hm (Mo M ((some (.ref Da),Slot.own acc)::σ'.zip E')) H'') d x:=by
 obtain⟨d,hd,h⟩:=it.yld i _ _ x _ zF ivb hlt y;rcases h with⟨rfl,rx⟩|⟨q,xs,es,hq,rfl,rfl,rfl,rs⟩
 ·exact⟨d,hd,gb,ivb,rx⟩
 ·have f1:=gb.fr.newTup hq rs
  have s1:Step M H' ((some (.ref Da),Slot.own acc)::σ'.zip E') (upd H' q (.tup xs)) ((some (.ref q),.val (.tup es))::((some (.ref Da),Slot.own acc)::σ'.zip E')):=Step.newVal hq;obtain⟨v,ev,rv⟩:=f1.val _ _ mem_cons_self;cases ev;have sm:=s1.same;rw[wg]at rv sm;exact⟨_,hd,⟨gb.len,f1.tail,gb.st.trans ⟨sm,s1.keep⟩,gb.pk⟩,it.mono _ _ sm ivb,rv⟩
theorem turns{tg:MG}{tt:MT}{ma:MC}{ta:TA}{g:TG}(ho:GOk X g tg)(ha:ActOk X.K X.mg ma ta){J:It}{ds:List D}{Iv:Hp->Prop}(it:ItOk X.K X.mg J ds Iv){Da:Addr}{acc accF:List DV.D}{EF:zL}{Nx:St->Hp->Prop}(hl:E.length=σ.length)(fr:FR X.K X.mg M H ((some (.ref Da),.own acc)::σ.zip E))(iv:Iv (Hm (Mo M ((some (.ref Da),Slot.own acc)::σ.zip E)) H))(em:Wu tg tt ma ds E acc=.ok (accF,EF))
  (hN:∀σ' H',GA X.K X.mg M Da σ E H acc σ' EF H' accF->Nx σ' H'):∃W:Nat->Nat->St->Hp->Prop,(∃m,W 0 m σ H)/\∀i m σ' H',W i m σ' H' ->
   (J.stop i H'/\Nx σ' H')\/(J.go i H'/\∃N2:St->Hp->Prop,(∀σ'' H'',N2 σ'' H''->∃m',m'<m/\W (i+1) m' σ'' H'')/\∀x H'',J.yld i H' x H''->g x σ' H'' λσ2 H2 =>
    tNT X.K X.mg tt σ2 H2 λb H3=>if b=true then ta Da σ2 H3 N2 else N2 σ2 H3):=by
 refine⟨λi m σ' H'=>m=ds.length-i/\i<=ds.length/\∃E' acc',GA X.K X.mg M Da σ E H acc σ' E' H' acc'/\Iv (Hm (Mo M ((some (.ref Da),Slot.own acc')::σ'.zip E')) H')/\Wu tg tt ma (ds.drop i) E' acc'=.ok (accF,EF),
  ⟨ds.length,by simp,zero_le _,E,acc,⟨hl,fr,Step.refl,PKp.refl⟩,iv,em⟩,?_⟩
 rintro i m σ' H' ⟨rfl,hi,E',acc',gb,ivb,cm⟩
 by_cases hlt:i<ds.length
 ·refine .inr ⟨it.go i _ H' zF ivb hlt,λσ'' H''=>(i+1<=ds.length/\∃E' acc',GA X.K X.mg M Da σ E H acc σ'' E' H'' acc'/\Iv (Hm (Mo M ((some (.ref Da),Slot.own acc')::σ''.zip E')) H'')/\Wu tg tt ma (ds.drop (i+1)) E' acc'=.ok (accF,EF)),
   λσ'' H'' q=>⟨ds.length-(i+1),by omega,rfl,q⟩,λx H'' y=>?_⟩
  obtain⟨d,hd,gb,ivb,rx⟩:=yld_ga it hlt gb ivb y;have ed:ds.drop i=d::ds.drop (i+1):=by
   obtain⟨hi',rfl⟩:=List.getElem?_eq_some_iff.mp hd;exact drop_eq_getElem_cons hi'
  rw[ed]at cm;simp only[Wu]at cm;cases e1:tg d E' with
  |stuck=>rw[e1]at cm;cases cm
  |exc _ _=>rw[e1]at cm;cases cm
  |ok Ea =>
   rw[e1]at cm;dsimp only at cm;refine ho _ σ' E' _ [(some (.ref Da),.own acc')] x d Ea _ gb.len (gb.fr.add rx) e1 λσ2 ga=>?_
   have g2:=gb.trans (GA.of ga);cases e2:tt Ea with
   |stuck=>rw[e2]at cm;cases cm
   |exc _ _=>rw[e2]at cm;cases cm
   |ok p =>
    obtain⟨b,Eb2⟩:=p;rw[e2]at cm;refine Gi ga.len ga.fr e2 λH3 gt=>?_
    have gt':GA X.K X.mg M Da σ2 Ea H'' acc' σ2 Eb2 H3 acc':=⟨gt.len,gt.fr,gt.st,gt.pk⟩;have g3:=g2.trans gt';have iv3:=it.mono _ _ (ga.st.same.trans gt.st.same) ivb;cases b with
    |false=>exact iteF ⟨hlt,Eb2,acc',g3,iv3,cm⟩
    |true =>
     refine iteT ?_;dsimp only at cm;cases e3:ma Eb2 acc' with
     |stuck=>rw[e3]at cm;cases cm
     |exc _ _=>rw[e3]at cm;cases cm
     |ok p =>
      obtain⟨acc2,Ec⟩:=p;rw[e3]at cm;exact ha M Da σ2 Eb2 H3 acc' acc2 Ec _ g3.len g3.fr e3 λσ4 H4 g4=>⟨hlt,Ec,acc2,g3.trans g4,it.mono _ _ g4.st.same iv3,cm⟩
 ·have ei2:i=ds.length:=by omega
  subst ei2;rw[drop_length]at cm;simp only[Wu]at cm;cases cm;exact .inl ⟨it.stop _ _ H' zF ivb (le_refl _),hN σ' H' gb⟩
end
section
variable{X:Cx}{elt target iter t1 i1:Expr}{scope:Scope}{pos:Pos}{mi mi1:MI}{tg tg1:MG}{el:ME}{g g1:TG}{nl:Nat}{caps:List Nat}
end
end DV
namespace DV
open PySem L2
section
variable{prog:Program}{w:World}{A:Around}{E:Value->Shared->Prop}{s:Shared}
end
section
variable{X:Cx}{K:PySem.W.Frag}{mg:Str->Option Value}
end
end DV
namespace DV
open PySem PySem.SetTable
def Wv(l:List Nat):Prop:=l.Pairwise (·<·)
theorem ZQ(xs:Array Nat)(j:Nat)(hs:Wv xs.toList):∀(fuel lo hi:Nat),hi-lo<=fuel->lo<=hi->hi<=xs.size->(∀k (h:k<xs.size),k<lo->xs[k]<j)->(∀k (h:k<xs.size),hi<=k->j<=xs[k]) ->
  below.go xs j fuel lo hi<=xs.size/\(∀k (h:k<xs.size),k<below.go xs j fuel lo hi->xs[k]<j)/\∀k (h:k<xs.size),below.go xs j fuel lo hi<=k->j<=xs[k]
 |0,lo,hi,h1,h2,h3,h4,h5=>by
  have e:lo=hi:=by omega
  subst e;exact⟨h3,h4,h5⟩
 |fuel+1,lo,hi,h1,h2,h3,h4,h5=>by
  unfold below.go;have hp:∀a b (ha:a<xs.size) (hb:b<xs.size),a<=b->xs[a]<=xs[b]:=λa b ha hb hab=>by
   rcases Nat.lt_or_eq_of_le hab with hl|he
   ·have:=List.pairwise_iff_getElem.mp hs a b (by simpa using ha) (by simpa using hb) hl
    simp at this;omega
   ·subst he;exact le_refl _
  by_cases hl:lo<hi
  ·rw[if_pos hl]
   have hm:(lo+hi)/2<xs.size:=by omega
   have eg:xs.getD ((lo+hi)/2) j=xs[(lo+hi)/2]:=by simp[Array.getD,hm]
   dsimp only;rw[eg];by_cases hx:xs[(lo+hi)/2]<j
   ·rw[if_pos hx]
    exact ZQ xs j hs fuel _ _ (by omega) (by omega) h3 (λk hk hlt=>Nat.lt_of_le_of_lt (hp k _ hk hm (by omega)) hx) h5
   ·rw[if_neg hx]
    exact ZQ xs j hs fuel _ _ (by omega) (by omega) (by omega) h4 (λk hk hle=>le_trans (not_lt.mp hx) (hp _ k hm hk hle))
  ·rw[if_neg hl]
   have e:lo=hi:=by omega
   subst e;exact⟨h3,h4,h5⟩
theorem vh(xs:Array Nat)(j:Nat)(hs:Wv xs.toList):below xs j<=xs.size/\(∀k (h:k<xs.size),k<below xs j->xs[k]<j)/\∀k (h:k<xs.size),below xs j<=k->j<=xs[k] :=
 ZQ xs j hs xs.size 0 xs.size (by omega) (by omega) (le_refl _) (λk _ h=>by omega) (λk h h'=>by omega)
theorem wv{α:Type}(xs:Array α)(p:Nat)(x:α):(insertAt xs p x).toList=xs.toList.take p++x::xs.toList.drop p:=by
 unfold insertAt;simp[Array.toList_append,Array.toList_extract,List.extract_eq_drop_take,List.take_of_length_le]
theorem vk(xs:Array Nat)(j:Nat)(hs:Wv xs.toList)(hj:j∉xs.toList):Wv (insertAt xs (below xs j) j).toList:=by
 obtain⟨h1,h2,h3⟩:=vh xs j hs;rw[wv];unfold Wv at *;have hlo:∀a∈xs.toList.take (below xs j),a<j:=λa ha=>by
  obtain⟨i,hi,e⟩:=getElem_of_mem ha;rw[List.getElem_take]at e;simp at hi e;rw[<- e];exact h2 i (by omega) (by omega)
 have hhi:∀a∈xs.toList.drop (below xs j),j<a:=λa ha=>by
  have hm:a∈xs.toList:=List.mem_of_mem_drop ha;obtain⟨i,hi,e⟩:=getElem_of_mem ha;rw[List.getElem_drop]at e;simp at hi e;have:=h3 (below xs j+i) (by omega) (by omega);rw[e]at this;rcases Nat.lt_or_eq_of_le this with h|h
  ·exact h
  ·exact absurd (h▸hm) hj
 rw[List.pairwise_append];refine⟨hs.sublist (List.take_sublist _ _),?_,?_⟩
 ·rw[pairwise_cons]
  exact⟨hhi,hs.sublist (List.drop_sublist _ _)⟩
 ·intro a ha b hb
  rcases mem_cons.mp hb with rfl|hb
  ·exact hlo a ha
  ·exact Nat.lt_trans (hlo a ha) (hhi b hb)
theorem mem_ins{α:Type}(xs:Array α)(p:Nat)(x y:α):y∈(insertAt xs p x).toList↔y=x\/y∈xs.toList:=by
 rw[wv]
 conv=>rhs;rw[<- take_append_drop p xs.toList]
 simp only[mem_append,mem_cons];constructor
 ·rintro (h|h|h)
  ·exact .inr (.inl h)
  ·exact .inl h
  ·exact .inr (.inr h)
 ·rintro (h|h|h)
  ·exact .inr (.inl h)
  ·exact .inl h
  ·exact .inr (.inr h)
theorem uW{t:SetTable}{j:Nat}(hj:j∉t.place.toList)(hd:t.dummies=#[]):t.slot j=.empty:=by
 have h1:(t.place[below t.place j]?==some j)=false:=by
  rw[Bool.eq_false_iff];intro h;exact hj (by simpa using Array.mem_of_getElem? (eq_of_beq h))
 unfold slot;dsimp only;rw[h1,hd];rfl
def chk7(led:Bool)(bs:List Bool)(h:Nat):Bool :=
 let pl:=(List.range 8).filter λi=>bs.getD i false
 decide (4<pl.length)||match(⟨7,pl.toArray,#[],0,led,0,true⟩:SetTable).freeSlot (h:Int)with
  |some (j,false)=>decide (j<=7)&&!pl.contains j
  |_=>false
theorem all7:∀l b0 b1 b2 b3 b4 b5 b6 b7:Bool,((List.range 16).all λh=>chk7 l [b0,b1,b2,b3,b4,b5,b6,b7] h)=true:=by decide +kernel
theorem YL(l:List Nat)(hs:Wv l)(n:Nat)(hb:∀j∈l,j<n):l=(List.range n).filter λi=>l.contains i:=by
 refine List.Perm.eq_of_pairwise (le:=(·<·)) (λa b _ _ h1 h2=>absurd (Nat.lt_trans h1 h2) (lt_irrefl _)) hs (List.pairwise_lt_range.filter _) ?_;rw[List.perm_ext_iff_of_nodup (hs.imp λh=>ne_of_lt h) (List.nodup_range.filter _)];intro a;simp only[mem_filter,mem_range,List.contains_iff_mem];exact⟨λh=>⟨hb a h,h⟩,λh=>h.2⟩
theorem free7{led:Bool}{pl:Array Nat}(hs:Wv pl.toList)(hb:∀j∈pl.toList,j<8)(h4:pl.size<=4){h:Nat}(hh:h<16) :
  ∃j,(⟨7,pl,#[],0,led,0,true⟩:SetTable).freeSlot (h:Int)=some (j,false)/\j<8/\j∉pl.toList:=by
 have e:=YL pl.toList hs 8 hb;have e2:((List.range 8).filter λi=>[pl.toList.contains 0,pl.toList.contains 1,pl.toList.contains 2,pl.toList.contains 3,pl.toList.contains 4,pl.toList.contains 5,pl.toList.contains 6,pl.toList.contains 7].getD i false)=pl.toList:=by
  conv=>rhs;rw[e]
  rfl
 have:=all7 led (pl.toList.contains 0) (pl.toList.contains 1) (pl.toList.contains 2) (pl.toList.contains 3) (pl.toList.contains 4) (pl.toList.contains 5) (pl.toList.contains 6) (pl.toList.contains 7);have:=all_eq_true.mp this h (by simpa using hh);unfold chk7 at this;rw[e2]at this;simp only[Array.toArray_toList,Bool.or_eq_true,decide_eq_true_eq]at this;rcases this with h|h
 ·simp at h;omega
 ·split at h
  ·rename_i j hf
   simp at h
   exact⟨j,hf,by omega,by simpa using h.2⟩
  ·cases h
def own(hs:List Nat)(j:Nat):Option Nat:=if j∈hs then some (hs.idxOf j)else none
theorem vm{n:Nat}(h:n<32):bits (n:Int)=n:=by
 unfold bits;omega
theorem free31{owner:Array (Option Nat)}{n:Nat}(fuel:Nat)(p:Nat)(hn:owner[n]?=some none):layClean.free 31 owner (fuel+1) n p=some n:=by
 have hr:(List.range (runEnd 31 n+1-n)).find? (λk=>(owner.getD (n+k) (some 0)).isNone)=some 0:=by
  have e:∃m,runEnd 31 n+1-n=m+1:=⟨runEnd 31 n-n,by unfold runEnd;split<;>omega⟩;obtain⟨m,e⟩:=e;rw[e,List.range_succ_eq_map,List.find?_cons];have:(owner.getD (n+0) (some 0)).isNone=true:=by
   rw[Nat.add_zero,Array.getD_eq_getD_getElem?,hn];rfl
  rw[this]
 unfold layClean.free;rw[hr];rfl
theorem zAm(ji:List Nat):∀(done:List Nat) (owner:Array (Option Nat)),(done++ji).Nodup->(∀n∈done++ji,n<32)->owner.size=32->(∀j,j<32->owner[j]?=some (own done j)) ->
  ∃o',(ji.map λn:Nat=>(n:Int)).foldl (init:=some (owner,done.length)) (λacc h=>do
   let (owner,k) <- acc
   let j <- layClean.free 31 owner (SetTable.turns 31) (bits h%(31+1)) (bits h)
   pure (owner.setIfInBounds j (some k),k+1))=some (o',(done++ji).length)/\o'.size=32/\∀j,j<32->o'[j]?=some (own (done++ji) j):=by
 induction ji with
 |nil=>intro done owner _ _ h1 h2;exact⟨owner,by simp,h1,by simpa using h2⟩
 |cons n ji ih =>
  intro done owner nd hb h1 h2;have hn:n<32:=hb n (by simp);have hnd:n∉done:=λh=>(nodup_append.mp nd).2.2 n h n (by simp) rfl
  have hfree:layClean.free 31 owner (SetTable.turns 31) (bits (n:Int)%(31+1)) (bits (n:Int))=some n:=by
   rw[vm hn,Nat.mod_eq_of_lt (by omega)];exact free31 45 n (by rw[h2 n hn];unfold own;rw[if_neg hnd])
  have key:=ih (done++[n]) (owner.setIfInBounds n (some done.length)) (by simpa using nd) (by simpa using hb) (by simpa using h1) (λj hj=>by
   rw[Array.getElem?_setIfInBounds];by_cases e:n=j
   ·subst e
    rw[if_pos rfl,if_pos (by omega)];unfold own;rw[if_pos (by simp),List.idxOf_append,if_neg hnd];simp
   ·rw[if_neg e,h2 j hj]
    unfold own;by_cases hj:j∈done
    ·rw[if_pos hj,if_pos (by simp[hj]),List.idxOf_append,if_pos hj]
    ·rw[if_neg hj,if_neg (by simp[hj];exact λh=>e h.symm)])
  obtain⟨o',k1,k2,k3⟩:=key;refine⟨o',?_,k2,?_⟩
  ·rw[map_cons,List.foldl_cons]
   show foldl _ (do let j <- layClean.free 31 owner (SetTable.turns 31) (bits (n:Int)%(31+1)) (bits (n:Int));pure (owner.setIfInBounds j (some done.length),done.length+1)) _=_
   rw[hfree];have e:(done++[n]).length=done.length+1:=by simp
   rw[e]at k1;have e2:(done++[n]++ji).length=(done++n::ji).length:=by simp
   rw[e2]at k1;exact k1
  ·intro j hj;have:=k3 j hj;rw[append_assoc]at this;exact this
theorem fm_eq(p:Nat->Bool)(g:Nat->Nat)(f:Nat->Option Nat)(l:List Nat):(∀j∈l,f j=if p j=true then some (g j)else none)->l.filterMap (λj=>(f j).map (j,·))=(l.filter p).map λj=>(j,g j):=by
 induction l with
 |nil=>exact λ_=>rfl
 |cons a l ih =>
  intro h;have i:=ih λj hj=>h j (mem_cons_of_mem _ hj)
  have ha:=h a mem_cons_self;rw[filterMap_cons,List.filter_cons,ha];cases hp:p a
  ·simpa using i
  ·simp only[if_true,Option.map_some,map_cons];rw[i]
theorem laid31(hs:List Nat)(nd:hs.Nodup)(hb:∀n∈hs,n<32)(f m:Nat)(led pn:Bool) :
  laid 31 f m led pn (hs.map λn:Nat=>(n:Int)).toArray=some (⟨31,((List.range 32).filter λj=>hs.contains j).toArray,#[],f,led,m,pn⟩,(((List.range 32).filter λj=>hs.contains j).map λj=>hs.idxOf j).toArray):=by
 obtain⟨o,k1,k2,k3⟩:=zAm hs [] (Array.replicate 32 none) (by simpa using nd) (by simpa using hb) (by simp) (λj hj=>by simp[own,hj]);have e1:layClean 31 (hs.map λn:Nat=>(n:Int)).toArray=some o:=by
  unfold layClean;rw[List.foldl_toArray];have:(31:Nat)+1=32:=rfl;rw[this];have k1':=k1;simp only[length_nil]at k1';rw[this]at k1';rw[k1'];rfl
 have e2:((List.range (31+1)).filterMap λj=>(o.getD j none).map (j,·))=((List.range 32).filter λj=>hs.contains j).map λj=>(j,hs.idxOf j):=by
  refine fm_eq _ _ _ _ λj hj=>?_
  rw[Array.getD_eq_getD_getElem?,k3 j (by simpa using hj)];simp only[nil_append,own,Option.getD_some,List.contains_iff_mem]
 unfold laid;rw[e1];show some _=_;rw[e2,map_map,map_map];congr 1;simp[Function.comp_def]
structure SetG(led:Bool)(es:Array (Int×Value))(t:SetTable):Prop where
 ent:∀e∈es.toList,∃(n:Nat) (k:Tok),n<16/\e=((n:Int),.int (n:Int) k)
 nd:(es.toList.map (·.1)).Nodup
 sz:t.place.size=es.size
 rise:Wv t.place.toList
 tab:(t=⟨7,t.place,#[],0,led,0,true⟩/\es.size<=4/\∀j∈t.place.toList,j<8)\/(t=⟨31,t.place,#[],t.finger,led,t.moves,true⟩/\t.place.toList=es.toList.map λe=>e.1.toNat)
theorem vn(l:List Nat):∀(a b:Nat),Wv l->(∀j∈l,a<=j/\j<b)->l.length<=b-a:=by
 induction l with
 |nil=>intro a b _ _;exact zero_le _
 |cons x l ih =>
  intro a b hr hb;have h1:=hb x mem_cons_self;have:=ih (x+1) b hr.tail λj hj=>⟨(pairwise_cons.mp hr).1 j hj,(hb j (mem_cons_of_mem _ hj)).2⟩
  simp only[length_cons];omega
theorem SetG.few{led:Bool}{es:Array (Int×Value)}{t:SetTable}(g:SetG led es t):es.size<=16:=by
 rcases g.tab with h|h
 ·omega
 ·have:t.place.toList.length<=16-0:=vn _ _ _ g.rise λj hj=>by
   rw[h.2]at hj;obtain⟨e,he,rfl⟩:=mem_map.mp hj;obtain⟨n,k,hn,rfl⟩:=g.ent e he;simp;omega
  rw[Array.length_toList,g.sz]at this;omega
theorem SetG.fits{led:Bool}{es:Array (Int×Value)}{t:SetTable}(g:SetG led es t):t.fits es.size=true:=by
 have h16:=g.few;have hs:=g.sz;have h1:t.fill<=t.mask:=by
  rcases g.tab with h|h
  ·rw[h.1];show t.place.size+0<=7;omega
  ·rw[h.1];show t.place.size+0<=31;omega
 simp[SetTable.fits,hs,h1]
end DV
namespace DV
open PySem PySem.SetTable
theorem yq{α:Type}(xs:Array α)(p:Nat)(x:α):(insertAt xs p x).size=xs.size+1:=by
 rw[<- Array.length_toList,wv];have:=congrArg length (take_append_drop p xs.toList);simp only[length_append,length_cons,Array.length_toList]at this ⊢;omega
theorem QF(hs:List Nat)(nd:hs.Nodup):hs.map (λj=>hs.idxOf j)=List.range hs.length:=by
 apply List.ext_getElem
 ·simp
 ·intro i h1 h2
  simp only[getElem_map,List.getElem_range];exact nd.idxOf_getElem i (by simpa using h1)
theorem zAn(es:Array (Int×Value))(idx:Nat->Nat)(l:List Nat):(∀j∈l,∃e,es[idx j]?=some e/\e.1.toNat=j)->((l.map idx).filterMap (es[·]?)).map (λe=>e.1.toNat)=l:=by
 induction l with
 |nil=>exact λ_=>rfl
 |cons a l ih =>
  intro h;obtain⟨e,e1,e2⟩:=h a mem_cons_self;rw[map_cons,filterMap_cons,e1];simp only[map_cons];rw[ih λj hj=>h j (mem_cons_of_mem _ hj),e2]
theorem SetG.of_perm_ent{es es':Array (Int×Value)}(p:es'.toList.Perm es.toList)(h:∀e∈es.toList,∃(n:Nat) (k:Tok),n<16/\e=((n:Int),.int (n:Int) k)):∀e∈es'.toList,∃(n:Nat) (k:Tok),n<16/\e=((n:Int),.int (n:Int) k):=λe he=>h e (p.mem_iff.mp he)
theorem relay7{led:Bool}{es:Array (Int×Value)}{pl:Array Nat}(h5:es.size=5)(hent:∀e∈es.toList,∃(n:Nat) (k:Tok),n<16/\e=((n:Int),.int (n:Int) k))(hnd:(es.toList.map (·.1)).Nodup) :
  ∃es2 t2,relayAll ⟨7,pl,#[],0,led,0,true⟩ es (grown es.size)=(es2,t2,false)/\SetG led es2 t2/\es2.toList.Perm es.toList:=by
 have hp:=relayAll_perm ⟨7,pl,#[],0,led,0,true⟩ es (grown es.size);generalize ehs:es.toList.map (λe=>e.1.toNat)=hs;have hl:hs.length=es.size:=by rw[<- ehs];simp
 have hback:es.map (·.1)=(hs.map λn:Nat=>(n:Int)).toArray:=by
  apply Array.toList_inj.mp;rw[Array.toList_map,<- ehs,map_map];refine List.map_congr_left λe he=>?_
  obtain⟨n,k,hn,rfl⟩:=hent e he;simp
 have nd:hs.Nodup:=by
  have:(es.toList.map (·.1))=hs.map λn:Nat=>(n:Int):=by rw[<- Array.toList_map,hback]
  rw[this]at hnd;exact List.Pairwise.imp (λh=>λe=>h (by rw[e])) (pairwise_map.mp hnd)
 have hb:∀n∈hs,n<16:=λn hn=>by
  rw[<- ehs]at hn;obtain⟨e,he,rfl⟩:=mem_map.mp hn;obtain⟨m,k,hm,rfl⟩:=hent e he;simpa using hm
 generalize ep:((List.range 32).filter λj=>hs.contains j)=p;have hpp:p.Perm hs:=by
  rw[<- ep,List.perm_ext_iff_of_nodup (List.nodup_range.filter _) nd];intro a;simp only[mem_filter,mem_range,List.contains_iff_mem];exact⟨λh=>h.2,λh=>⟨by have:=hb a h;omega,h⟩⟩
 have hr:Wv p:=by rw[<- ep];exact List.pairwise_lt_range.filter _
 have hmap:((p.map λj=>hs.idxOf j).filterMap (es[·]?)).map (λe=>e.1.toNat)=p:=zAn es _ p λj hj=>by
  have hj':j∈hs:=hpp.mem_iff.mp hj;have hlt:hs.idxOf j<hs.length:=List.idxOf_lt_length_iff.mpr hj';refine⟨es[hs.idxOf j]'(by omega),by rw[Array.getElem?_eq_getElem (by omega)],?_⟩;have e1:hs[hs.idxOf j]=j:=List.getElem_idxOf hlt;have e2:hs[hs.idxOf j]'hlt=(es.toList.map (λe=>e.1.toNat))[hs.idxOf j]'(by simpa using(by omega:hs.idxOf j<es.size)):=by simp only[ehs]
  rw[e1]at e2;rw[getElem_map,Array.getElem_toList]at e2;exact e2.symm
 have hlaid:(⟨7,pl,#[],0,led,0,true⟩:SetTable).relaid (es.map (·.1)) (grown es.size)=some (⟨31,p.toArray,#[],0,led,1,true⟩,(p.map λj=>hs.idxOf j).toArray):=by
  unfold relaid;rw[h5,hback];have:=laid31 hs nd (λn hn=>by have:=hb n hn;omega) 0 1 led true;rw[ep]at this;exact this
 have hcov:coversAll (p.map λj=>hs.idxOf j).toArray es.size=true:=by
  unfold coversAll;rw[List.isPerm_iff];have:=hpp.map λj=>hs.idxOf j
  rw[QF hs nd,hl]at this;exact this
 have hsz:((p.map λj=>hs.idxOf j).toArray.filterMap (es[·]?)).size=p.length:=by
  rw[<- Array.length_toList,Array.toList_filterMap];have:=congrArg length hmap;simpa using this
 have hfit:(⟨31,p.toArray,#[],0,led,1,true⟩:SetTable).fits ((p.map λj=>hs.idxOf j).toArray.filterMap (es[·]?)).size=true:=by
  rw[hsz];have:p.length=5:=by rw[hpp.length_eq];omega
  simp[SetTable.fits,SetTable.fill,this]
 have e:relayAll ⟨7,pl,#[],0,led,0,true⟩ es (grown es.size)=((p.map λj=>hs.idxOf j).toArray.filterMap (es[·]?),⟨31,p.toArray,#[],0,led,1,true⟩,false):=by
  unfold relayAll;rw[hlaid];dsimp only;rw[if_pos (by rw[hcov,hfit];rfl)]
 rw[e]at hp;refine⟨_,_,e,⟨SetG.of_perm_ent hp hent,((hp.map _).nodup_iff).mpr hnd,hsz.symm▸by simp,hr,.inr ⟨rfl,?_⟩⟩,hp⟩;rw[Array.toList_filterMap];exact hmap.symm
theorem SetG.add{led:Bool}{es:Array (Int×Value)}{t:SetTable}(g:SetG led es t){n:Nat}(hn:n<16)(k:Tok)(hnew:∀e∈es.toList,e.1≠(n:Int)) :
  ∃es1 t1,layNew t es (n:Int) (.int (n:Int) k)=(es1,t1,false,false)/\t1.plain=true/\t1.fits es1.size=true/\es1.toList.Perm (es.toList++[((n:Int),.int (n:Int) k)]) /\
   ((t1.tooFull=false/\SetG led es1 t1)\/(t1.tooFull=true/\∃es2 t2,relayAll t1 es1 (grown es1.size)=(es2,t2,false)/\SetG led es2 t2/\es2.toList.Perm es1.toList)):=by
 have hperm:=layNew_perm t es (n:Int) (.int (n:Int) k);rw[Array.toList_push]at hperm;have hent:∀e∈es.toList++[((n:Int),Value.int (n:Int) k)],∃(n:Nat) (k:Tok),n<16/\e=((n:Int),.int (n:Int) k):=λe he=>by
  rcases mem_append.mp he with he|he
  ·exact g.ent e he
  ·rw[mem_singleton]at he;exact⟨n,k,hn,he⟩
 have hnd:((es.toList++[((n:Int),Value.int (n:Int) k)]).map (·.1)).Nodup:=by
  rw[List.map_append,nodup_append];refine⟨g.nd,by simp,λa ha b hb=>?_⟩;simp at hb;subst hb;obtain⟨e,he,rfl⟩:=mem_map.mp ha;exact hnew e he
 have common:∀j,t.freeSlot (n:Int)=some (j,false)->t.dummies=#[]->t.fill<t.mask->layNew t es (n:Int) (.int (n:Int) k)=(insertAt es (below t.place j) ((n:Int),.int (n:Int) k),{t with place:=insertAt t.place (below t.place j) j},false,false)/\({t with place:=insertAt t.place (below t.place j) j}:SetTable).fits (insertAt es (below t.place j) ((n:Int),Value.int (n:Int) k)).size=true:=by
  intro j hf hd hfl;have hput:t.put j=({t with place:=insertAt t.place (below t.place j) j},below t.place j):=by
   unfold put;have:has t.dummies j=false:=by rw[hd];rfl
   rw[this];rfl
  have hfit:({t with place:=insertAt t.place (below t.place j) j}:SetTable).fits (insertAt es (below t.place j) ((n:Int),Value.int (n:Int) k)).size=true:=by
   simp only[SetTable.fits,Bool.and_eq_true,beq_iff_eq,decide_eq_true_eq];rw[yq,yq];refine⟨by rw[g.sz],?_⟩;show(insertAt t.place (below t.place j) j).size+t.dummies.size<=t.mask;rw[yq];unfold fill at hfl;omega
  refine⟨?_,hfit⟩;unfold layNew;rw[hf];dsimp only;rw[hput];dsimp only;unfold SetTable.orStandIn;rw[if_pos hfit,hfit];rfl
 rcases g.tab with⟨ht,h4,h8⟩|⟨ht,hpl⟩
 ·obtain⟨j,hf,hj8,hj⟩:=free7 (led:=led) g.rise h8 (by rw[g.sz];exact h4) hn
  rw[<- ht]at hf;have hsz:=g.sz;obtain⟨e1,e2⟩:=common j hf (by rw[ht]) (by rw[ht];show t.place.size+0<7;omega);rw[e1]at hperm;have et:({t with place:=insertAt t.place (below t.place j) j}:SetTable)=⟨7,insertAt t.place (below t.place j) j,#[],0,led,0,true⟩:=by rw[ht]
  have ent1:=SetG.of_perm_ent (es:=(es.toList++[((n:Int),Value.int (n:Int) k)]).toArray) (by simpa using hperm) (by simpa using hent);have nd1:=((hperm.map (·.1)).nodup_iff).mpr hnd;refine⟨_,_,e1,by rw[et],e2,hperm,?_⟩;rw[et];have hs1:(insertAt es (below t.place j) ((n:Int),Value.int (n:Int) k)).size=es.size+1:=yq ..;have hs2:(insertAt t.place (below t.place j) j).size=es.size+1:=by rw[yq,hsz]
  by_cases h3:es.size=4
  ·refine .inr ⟨?_,relay7 (by omega) ent1 nd1⟩
   simp[tooFull,fill,hs2,h3]
  ·refine .inl ⟨?_,ent1,nd1,by show(insertAt t.place (below t.place j) j).size=_;omega,vk _ _ g.rise hj,.inl ⟨rfl,by omega,λi hi=>?_⟩⟩
   ·simp[tooFull,fill,hs2];omega
   ·rcases(mem_ins _ _ _ _).mp hi with rfl|hi
    ·exact hj8
    ·exact h8 i hi
 ·have hj:n∉t.place.toList:=λh=>by
   rw[hpl]at h;obtain⟨e,he,e1⟩:=mem_map.mp h;obtain⟨m,k',hm,rfl⟩:=g.ent e he;refine hnew _ he ?_;simp at e1;simp[e1]
  have hb:bits (n:Int)=n:=vm (by omega);have hm:t.mask=31:=by rw[ht]
  have hd:t.dummies=#[]:=by rw[ht]
  have hf:t.freeSlot (n:Int)=some (n,false):=by
   unfold freeSlot probe;have h1:(t.probeStart (n:Int)).j=n:=by unfold probeStart;rw[hb,hm];show n%32=n;omega
   have h2:(t.probeStart (n:Int)).dummy=none:=rfl;have e:10*SetTable.turns t.mask=459+1:=by rw[hm];rfl
   rw[e];unfold probe.go;rw[h1,uW hj hd,h2];rfl
  have hsz:=g.sz;have h16:=g.few;obtain⟨e1,e2⟩:=common n hf hd (by rw[ht];show t.place.size+0<31;omega);rw[e1]at hperm;have ent1:=SetG.of_perm_ent (es:=(es.toList++[((n:Int),Value.int (n:Int) k)]).toArray) (by simpa using hperm) (by simpa using hent);have nd1:=((hperm.map (·.1)).nodup_iff).mpr hnd;have G1:SetG led (insertAt es (below t.place n) ((n:Int),Value.int (n:Int) k)) {t with place:=insertAt t.place (below t.place n) n}:=by
   refine⟨ent1,nd1,by show(insertAt t.place (below t.place n) n).size=_;rw[yq,yq,hsz],vk _ _ g.rise hj,.inr ⟨by rw[ht],?_⟩⟩;show(insertAt t.place (below t.place n) n).toList=_;rw[wv,wv,hpl,List.map_append,map_cons,List.map_take,List.map_drop];simp
  refine⟨_,_,e1,by rw[ht],e2,hperm,.inl ⟨?_,G1⟩⟩;have h16':=G1.few;rw[yq]at h16';simp only[tooFull,fill,hm,hd];rw[yq];simp;omega
end DV
namespace PySem
open Sem (wp)
open DV
def yA(w:World):Bool:=w.params.followText "set-order"
def j8(es:Array (Int×Value))(ep:Nat)(t:SetTable):Obj:={cls:=.type "set",dict:=none,data:=.set es ep t,slots:=#[]}
section
variable{prog:Program}{w:World}{A:Around}{E:Value->Shared->Prop}{s:Shared}
theorem ww:∀n:Nat,n<16->hashInt (n:Int)=(n:Int):=by decide +kernel
theorem SetG.elems{led:Bool}{es:Array (Int×Value)}{t:SetTable}(g:SetG led es t):ElemsOf (intKind prog w) es.toList:=λe he=>by
 obtain⟨n,k,hn,rfl⟩:=g.ent e he;exact⟨⟨(n:Int),intKind_is _ _ _ _,(ww n hn).symm⟩,rfl⟩
theorem QG{a:Addr}{es:Array (Int×Value)}{ep:Nat}{t:SetTable}{led:Bool}{n:Nat}{k:Tok}{Q:Bool->Shared->Prop}(ho:s.heap.get? a=some (j8 es ep t))(g:SetG led es t)(hn:n<16)
  (h:∀(b:Bool) h' es' ep' t',Heap.SameBut a s.heap h'->h'.get? a=some (j8 es' ep' t')->SetG led es' t'->(∀m:Int,(∃e∈es'.toList,e.1=m)↔(∃e∈es.toList,e.1=m)\/m=n)->Q b {s with heap:=h'}) :
  wpAny (model prog w) A (setAddHashed a (.int (n:Int) k) (hashInt (n:Int))) Q E s:=by
 have hd:(j8 es ep t).data=.set es ep t:=rfl;have hf:=g.fits;have h16:=g.few;have hb:es.size<scanBound:=by unfold scanBound;omega
 have hel:ElemsOf (intKind prog w) es.toList:=SetG.elems g;unfold setAddHashed setAddHashedIn;refine wpAny_holding (wpAny_bind (wpAny_setState_of ho hd hf ?_));dsimp only;rw[byScan_of (knd:=intKind prog w) rfl hb hel];simp only[↓reduceIte];unfold setAddByScan;refine wpAny_bind ?_;refine wpAny_bind (wpAny_rule ?_);refine wpAny_bind (wpAny_setScan_of (knd:=intKind prog w) (k:=(n:Int)) (intKind_is _ _ _ _) ho hd hf hel ?_);cases hr:List.findIdx? (λe:Int×Value=>(intKind prog w).is (n:Int) e.2) es.toList with
 |some j =>
  dsimp only;obtain⟨hj,hpj,_⟩:=List.findIdx?_eq_some_iff_getElem.mp hr;refine wpAny_pure (wpAny_pure ?_);have e:s={s with heap:=s.heap}:=by cases s;rfl
  have:=h false s.heap es ep t (Heap.SameBut.refl a s.heap) ho g λm=>⟨.inl,λx=>x.elim id λe=>by
   obtain⟨n',k',hn',e'⟩:=g.ent _ (getElem_mem hj);refine⟨es.toList[j],getElem_mem hj,?_⟩;rw[e']at hpj ⊢;have:(n':Int)=(n:Int):=by simpa[intKind,Value.isInt]using hpj
   rw[e,this]⟩
  rw[e];exact this
 |none =>
  dsimp only;have hnew:∀e∈es.toList,e.1≠(n:Int):=λe he en=>by
   have:=List.findIdx?_eq_none_iff.mp hr e he;obtain⟨n',k',hn',rfl⟩:=g.ent e he;simp only at en;rw[en,intKind_is]at this;cases this
  obtain⟨es1,t1,e1,hp1,hf1,hperm,cs⟩:=g.add hn k hnew;rw[ww n hn,e1];dsimp only;have hsz1:es1.size=es.size+1:=by rw[<- Array.length_toList,hperm.length_eq,length_append,Array.length_toList];rfl
  have hmem1:∀m:Int,(∃e∈es1.toList,e.1=m)↔(∃e∈es.toList,e.1=m)\/m=n:=λm=>by
   constructor
   ·rintro ⟨e,he,rfl⟩
    rcases mem_append.mp (hperm.mem_iff.mp he)with h|h
    ·exact .inl ⟨e,h,rfl⟩
    ·rw[mem_singleton]at h;subst h;exact .inr rfl
   ·rintro (⟨e,he,rfl⟩|rfl)
    ·exact⟨e,hperm.mem_iff.mpr (mem_append_left _ he),rfl⟩
    ·exact⟨_,hperm.mem_iff.mpr (mem_append_right _ (mem_singleton.mpr rfl)),rfl⟩
  refine wpAny_bind (wpAny_pure ?_);rw[hp1];simp only[if_true];refine wpAny_bind (m:=hashByValue 8 (.int (n:Int) k)) ?_;rw[hashByValue_scannable 8 rfl];refine wpAny_pure ?_;simp only[plainKind,if_true];refine wpAny_bind (wpAny_storeSet_of ho hd ?_ (by rw[sizeLine_eq];omega));have hg1:(s.heap.update a (Obj.putSet es1 t1)).get? a=some (j8 es1 (ep+1) t1):=by
   have:=get?_update_self (Obj.putSet es1 t1) ho (by rw[putSet_of es1 t1 hd];rfl);rw[putSet_of es1 t1 hd]at this;exact this
  have hsb1:=Heap.SameBut.update s.heap a (Obj.putSet es1 t1);rcases cs with⟨htf,G1⟩|⟨htf,es2,t2,e2,G2,p2⟩
  ·rw[htf]
   simp only[Bool.and_false,Bool.false_eq_true,if_false];exact wpAny_pure (wpAny_pure (h true _ es1 (ep+1) t1 hsb1 hg1 G1 hmem1))
  ·rw[htf]
   simp only[Bool.not_false,Bool.and_self,if_true];rw[e2];dsimp only;have hsz2:es2.size=es1.size:=by rw[<- Array.length_toList,p2.length_eq,Array.length_toList]
   refine wpAny_bind (wpAny_pure (wpAny_bind (wpAny_storeSet_of hg1 rfl ?_ (by rw[sizeLine_eq];omega))));have hg2:((s.heap.update a (Obj.putSet es1 t1)).update a (Obj.putSet es2 t2)).get? a=some (j8 es2 (ep+1+1) t2):=by
    have:=get?_update_self (Obj.putSet es2 t2) hg1 (by rw[putSet_of es2 t2 rfl];rfl);rw[putSet_of es2 t2 rfl]at this;exact this
   refine wpAny_pure (wpAny_pure (h true _ es2 (ep+1+1) t2 (hsb1.trans (Heap.SameBut.update _ a _)) hg2 G2 λm=>?_));rw[<- hmem1 m];exact⟨λ⟨e,he,q⟩=>⟨e,p2.mem_iff.mp he,q⟩,λ⟨e,he,q⟩=>⟨e,p2.mem_iff.mpr he,q⟩⟩
theorem vo(led:Bool):SetG led #[] (.fresh 0 0 led):=⟨λe h=>by simp at h,by simp,rfl,.nil,.inl ⟨rfl,by simp,λj h=>by simp[SetTable.fresh]at h⟩⟩
end
end PySem
namespace PySem
open Sem (wp)
open DV
section
variable{prog:Program}{w:World}{A:Around}{R:Result->Shared->Prop}{I:Addr}{fp wr:List Addr}{G:Array GenState->Array GenState->Prop}{n:Nat}{P:Nat->Value->Prop}{St:Nat->Shared->Prop}
theorem wL(W:WalksS prog w A.in1 I fp wr G n P St)(S:Addr)(hSf:S∉fp)(led:Bool)
  (val:Nat->Nat) (hval:∀i v,P i v->i<n->val i<16/\∃t,v=.int (val i:Int) t) :
  ∀(k i:Nat) (s:Shared) (es:Array (Int×Value)) (ep:Nat) (t:SetTable),n-i=k->i<=n->St i s ->
   s.heap.get? S=some (j8 es ep t)->SetG led es t->(∀m:Int,(∃e∈es.toList,e.1=m)↔∃j,j<i/\m=val j) ->
   (∀s' es' ep' t',Moved (S::wr) G s s'->s'.heap.get? S=some (j8 es' ep' t')->SetG led es' t'->(∀m:Int,(∃e∈es'.toList,e.1=m)↔∃j,j<n/\m=val j)->R (.ok (.ret .none)) s') ->
   codeAny (model prog w) A (.builtin "set.update.loop" ⟨[.ref S,.ref I],[]⟩) R s:=by
 have hSw:S∉wr:=λh=>hSf (W.sub _ h)
 have hsub:∀b∈wr,b∈S::wr:=λb hb=>mem_cons_of_mem _ hb
 intro k
 induction k with
 |zero =>
  intro i s es ep t hk hi hst hS g hm hR;have hin:i=n:=by omega
  subst hin;refine codeAny_builtin PyProof.Rows.F.entry_set_update_loop ?_;rw[Around.under_plainId PyProof.Rows.F.plain_set_update_loop _];show wpAny _ A.in1 (pyNext (.ref I) >>= _) _ _ s;refine wpAny_bind (W.done s _ _ hst λs' hmv=>?_);show wpAny _ A.in1 (ret Value.none) _ _ s';exact wpAny_pure (hR s' es ep t (hmv.mono hsub) (hmv.heap S _ hSw hS) g hm)
 |succ k ih =>
  intro i s es ep tb hk hi hst hS g hm hR;have hlt:i<n:=by omega
  refine codeAny_builtin PyProof.Rows.F.entry_set_update_loop ?_;rw[Around.under_plainId PyProof.Rows.F.plain_set_update_loop _];show wpAny _ A.in1 (pyNext (.ref I) >>= _) _ _ s;refine wpAny_bind (W.item i s _ _ hlt hst λv s' hP hst' hmv=>?_);obtain⟨h16,t,rfl⟩:=hval i v hP hlt;have hS':=hmv.heap S _ hSw hS;show wpAny _ A.in1 (holding [Value.int (val i:Int) t] (setAdd S (.int (val i:Int) t)) >>= _) _ _ s';refine wpAny_bind (wpAny_holding ?_);unfold setAdd;refine wpAny_holding ?_;refine wpAny_bind ((intKind prog w).pyHash (k:=(val i:Int)) (intKind_is _ _ _ _) ?_);refine QG (s:={s' with toks:=s'.toks+1}) hS' g h16 λb h' es' ep' t' hsb hS2 g2 hm2=>?_
  refine wpAny_pure ⟨plainId_quiet PyProof.Rows.F.plain_set_update_loop _,ih (i+1) _ es' ep' t' (by omega) hlt (W.frame _ s' _ _ hst' (le_succ _) λb hb o e=>?_) hS2 g2 (λm=>?_) λs'' es'' ep'' t'' hm'' hS'' g'' hq''=>?_⟩
  ·rw[hsb.2 b (λh:b=S=>hSf (by rw[<- h];exact hb))];exact e
  ·rw[hm2 m,hm m]
   constructor
   ·rintro (⟨j,hj,e⟩|e)
    ·exact⟨j,by omega,e⟩
    ·exact⟨i,by omega,e⟩
   ·rintro ⟨j,hj,e⟩
    by_cases hji:j=i
    ·subst hji;exact .inr e
    ·exact .inl ⟨j,by omega,e⟩
  ·refine hR s'' es'' ep'' t'' (Moved.trans W.gtrans ((hmv.mono hsub).then_heap (le_succ _) λb o hb e=>?_) hm'') hS'' g'' hq''
   rw[hsb.2 b (λh:b=S=>hb (by rw[h];exact mem_cons_self))];exact e
end
section
variable{prog:Program}{w:World}{A:Around}{E:Value->Shared->Prop}{s:Shared}
theorem uX(a:Value){Q₁:Value->Shared->Prop}
  (h:Q₁ (.ref s.heap.objs.size) {s with heap:=s.heap.push (j8 #[] 0 (.fresh 0 0 (!yA w)))}) :
  codeAny (model prog w) A (.call (.builtin "set.__new__") ⟨[.type "set",a],[]⟩) (wants Q₁ E) s:=by
 refine codeAny_of_tree ?_;show wpAny _ A.in1 (do checkBuiltinCall "set.__new__" ⟨[.type "set",a],[]⟩;again (.builtin "set.__new__" ⟨[.type "set",a],[]⟩)) _ _ s;refine wpAny_bind (wpAny_of_eq (F.newCall_set_1 a) (wpAny_pure ⟨plainId_quiet F.plain_set_new _,codeAny_builtin F.entry_set_new ?_⟩));rw[Around.under_plainId F.plain_set_new _];unfold Builtin.«set.__new__» Builtin.Frozenset.newClass;have hsub:=sub_set_self;obtain⟨hp,g,d,tk,os⟩:=s;dsimp only
 wp_walk
 refine wpAny_askSetting (wpAny_pure ?_);dsimp only;simp only[newObj];refine wpAny_bind (wpAny_alloc (wpAny_pure ?_));exact wpAny_pure h
theorem Ww{l:Addr}{items:Array Value}{T:String}{nl:Nat}{val:Nat->Nat}{Q:Value->Shared->Prop}{od:Option Addr}{osl:Array (Option Value)} 
  (hh:A.handled=none) (hT:T="list"\/T="tuple") (hol:s.heap.get? l=some {cls:=.type T,dict:=od,data:=.seq items nl,slots:=osl})
  (hval:∀i v,items[i]?=some v->val i<16/\∃t,v=.int (val i:Int) t)
  (h:∀(h':Heap) (tk:Nat) es ep t,h'.get? s.heap.objs.size=some (j8 es ep t)->SetG (!yA w) es t->(∀m:Int,(∃e∈es.toList,e.1=m)↔∃j,j<items.size/\m=val j) ->
   (∀b o,b<s.heap.objs.size->s.heap.get? b=some o->h'.get? b=some o)->Q (.ref s.heap.objs.size) {s with heap:=h',toks:=tk}) :
  wpAny (model prog w) A (call (.type "set") [.ref l]) Q E s:=by
 obtain⟨c,tl,hmro⟩:=F.called_set.mro;have hmade:=F.called_set.made;have hsub:=F.called_set.sub;refine wpAny_call (codeAny_of_tree ?_);show wpAny _ _ (callAny (.type "set") _) _ _ _;refine wpAny_pure ⟨Code.quiet_builtin _ (by decide +kernel),codeAny_builtin F.entry_type_call ?_⟩;rw[Around.under_plain (weight_type_call_type "set" [.ref l] []) rfl];have h1:=F.called_set.notType;have h2:=F.called_set.canCreate;have hct:=F.typeCall_set_1 (.ref l)
 repeat (any_goals (first|assumption|wp_step))
 refine codeAny_mono (uX (.ref l) (E:=E) (Q₁:=λobj s₁=>obj=.ref s.heap.objs.size/\s₁={s with heap:=s.heap.push (j8 #[] 0 (.fresh 0 0 (!yA w)))}) ⟨rfl,rfl⟩) λr s₁ hr=>?_
 cases r with
 |error e=>exact hr
 |ok fl =>
  cases fl with
  |ret obj =>
   obtain⟨rfl,rfl⟩:=hr;have hS:(s.heap.push (j8 #[] 0 (.fresh 0 0 (!yA w)))).get? s.heap.objs.size=some (j8 #[] 0 (.fresh 0 0 (!yA w))):=get?_push_size _ rfl;have hTs:Shared.TypeIs {s with heap:=s.heap.push (j8 #[] 0 (.fresh 0 0 (!yA w)))} (.ref s.heap.objs.size) "set":=⟨_,hS,rfl⟩
   have hli:=F.called_set.init.lookup;have hbi:=F.called_set.init.bind (.ref s.heap.objs.size)
   repeat (any_goals (first|assumption|wp_step))
   refine codeAny_mono (codeAny_call_builtin (R:=wants (λr s₂=>r=.none/\∃h' tk es ep t,s₂={s with heap:=h',toks:=tk} /\
     h'.get? s.heap.objs.size=some (j8 es ep t)/\SetG (!yA w) es t/\(∀m:Int,(∃e∈es.toList,e.1=m)↔∃j,j<items.size/\m=val j) /\
     (∀b o,b<s.heap.objs.size->s.heap.get? b=some o->h'.get? b=some o)) E) F.called_set.init.plain F.entry_set_init (check_set_init_1 hTs ?_)) λr₂ s₂ hr₂=>?_
   ·have hol':(s.heap.push (j8 #[] 0 (.fresh 0 0 (!yA w)))).get? l=some {cls:=.type T,dict:=od,data:=.seq items nl,slots:=osl}:=get?_push_of_some _ hol
    have hsls:isSubtype (.type T) (.type "set")=pure false:=by rcases hT with rfl|rfl;exact F.sub_list_set;exact F.sub_tuple_set
    have hslf:isSubtype (.type T) (.type "frozenset")=pure false:=by rcases hT with rfl|rfl;exact F.sub_list_frozenset;exact F.sub_tuple_frozenset
    have hne:(Value.type T==Value.type "dict")=false:=by rcases hT with rfl|rfl<;>decide
    have hS':(s.heap.push {cls:=.type "set",dict:=none,data:=.set #[] 0 (.fresh 0 0 (!yA w)),slots:=#[]}).get? s.heap.objs.size=some {cls:=.type "set",dict:=none,data:=.set #[] 0 (.fresh 0 0 (!yA w)),slots:=#[]}:=hS;unfold j8 at hol' hTs ⊢;unfold Builtin.«set.__init__» noKeywords Builtin.Frozenset.updateFrom;generalize hPI:pyIter=PI
    wp_walk
    subst hPI;have hlS:l<s.heap.objs.size:=lt_size hol;have hh3:A.in1.in1.in1.handled=none:=by simp[hh]
    have hneI:l≠(s.heap.push (j8 #[] 0 (.fresh 0 0 (!yA w)))).objs.size:=by
     rw[size_push];exact ne_of_lt (lt_succ_of_lt hlS)
    have hSf:s.heap.objs.size∉[(s.heap.push (j8 #[] 0 (.fresh 0 0 (!yA w)))).objs.size,l]:=by
     rw[size_push];simp only[mem_cons,mem_singleton,List.not_mem_nil,or_false,not_or];exact⟨ne_of_lt (lt_succ_self _),ne_of_gt hlS⟩
    have fin:∀(s':Shared) es' ep' t' (ci:Obj),Moved (s.heap.objs.size::[(s.heap.push (j8 #[] 0 (.fresh 0 0 (!yA w)))).objs.size]) (λa b=>b=a) {s with heap:=(s.heap.push (j8 #[] 0 (.fresh 0 0 (!yA w)))).push ci} s'->s'.heap.get? s.heap.objs.size=some (j8 es' ep' t')->SetG (!yA w) es' t'->(∀m:Int,(∃e∈es'.toList,e.1=m)↔∃j,j<items.size/\m=val j) ->
      ∃h' tk es ep t,s'={s with heap:=h',toks:=tk}/\h'.get? s.heap.objs.size=some (j8 es ep t)/\SetG (!yA w) es t/\(∀m:Int,(∃e∈es.toList,e.1=m)↔∃j,j<items.size/\m=val j)/\(∀b o,b<s.heap.objs.size->s.heap.get? b=some o->h'.get? b=some o):=by
     intro s' es' ep' t' ci hm hS'' g'' hq'';obtain⟨h',g',d',tk',os'⟩:=s';have eg:g'=s.gens:=hm.gens;have ed:d'=s.drawn:=hm.drawn;have eo:os'=s.os:=hm.os;subst eg;subst ed;subst eo;refine⟨h',tk',es',ep',t',rfl,hS'',g'',hq'',λb o hb e=>?_⟩;have hb1:b≠s.heap.objs.size:=ne_of_lt hb;have hb2:b≠(s.heap.push (j8 #[] 0 (.fresh 0 0 (!yA w)))).objs.size:=by
      rw[size_push];exact ne_of_lt (lt_succ_of_lt hb)
     exact hm.heap b o (by simp only[mem_cons,mem_singleton,List.not_mem_nil,or_false,not_or];exact⟨hb1,hb2⟩) (get?_push_of_some _ (get?_push_of_some _ e))
    have hmem0:∀m:Int,(∃e∈(#[]:Array (Int×Value)).toList,e.1=m)↔∃j,j<0/\m=val j:=λm=>⟨λ⟨e,he,_⟩=>by simp at he,λ⟨j,hj,_⟩=>by omega⟩
    rcases hT with rfl|rfl
    ·have hl1:(s.heap.push (j8 #[] 0 (.fresh 0 0 (!yA w)))).IsList l items:=⟨_,hol',rfl,nl,rfl⟩
     refine wpAny_pyIter_list hl1 ?_;refine wpAny_bind (wpAny_runValue ?_);refine wL ((Walks.list hh3 _ l hneI items).toS) s.heap.objs.size hSf (!yA w) val (λi v hv _=>hval i v hv) (items.size-0) 0 _ #[] 0 _ (by omega) (zero_le _)
      ⟨⟨_,get?_push_size _ rfl,rfl,rfl⟩,(hl1.push _)⟩ (get?_push_of_some _ hS) (vo _) hmem0 λs' es' ep' t' hm hS'' g'' hq''=>?_
     show wpAny _ _ _ _ _ _
     refine wpAny_pure ?_;show wpAny _ _ (ret Value.none) _ _ _;exact wpAny_pure ⟨rfl,fin s' es' ep' t' _ hm hS'' g'' hq''⟩
    ·have hl1:(s.heap.push (j8 #[] 0 (.fresh 0 0 (!yA w)))).IsTuple l items:=⟨_,hol',rfl,nl,rfl⟩
     refine wpAny_pyIter_tuple hl1 ?_;refine wpAny_bind (wpAny_runValue ?_);refine wL ((Walks.tuple hh3 _ l hneI items).toS) s.heap.objs.size hSf (!yA w) val (λi v hv _=>hval i v hv) (items.size-0) 0 _ #[] 0 _ (by omega) (zero_le _)
      ⟨⟨_,get?_push_size _ rfl,rfl,rfl⟩,(hl1.push _)⟩ (get?_push_of_some _ hS) (vo _) hmem0 λs' es' ep' t' hm hS'' g'' hq''=>?_
     show wpAny _ _ _ _ _ _
     refine wpAny_pure ?_;show wpAny _ _ (ret Value.none) _ _ _;exact wpAny_pure ⟨rfl,fin s' es' ep' t' _ hm hS'' g'' hq''⟩
   ·cases r₂ with
    |error e=>exact hr₂
    |ok fl₂ =>
     cases fl₂ with
     |ret r =>
      obtain⟨rfl,h',tk,es,ep,t,rfl,hS',g',hq',hk'⟩:=hr₂
      repeat (any_goals (first|assumption|wp_step))
      exact h _ _ es ep t hS' g' hq' hk'
     |_=>exact hr₂.elim
  |_=>exact hr.elim
end
end PySem
namespace PySem
namespace F
theorem wM:Manifest.owners.lookup (String.ofList ['r','o','t','a','r','e','t','i','_','t','e','s'].reverse)=some Manifest.sig_set_iterator:=by kernel_rfl
theorem dv_entry_set_iter:entryFor table "set.__iter__"=some Builtin.«frozenset.__iter__»:=entryFor_alias (id':="frozenset.__iter__") (by kernel_rfl) rfl (by decide +kernel) (by kernel_rfl)
theorem dv_slot_setit_next:Slot "set_iterator" "__next__" "set_iterator.__next__" :=
 .of (owner:="set_iterator") (n:="__next__") (by rw[typeLookup_type,builtinLookup_eq_fast];kernel_rfl) (by decide +kernel) (by decide +kernel) (by decide +kernel)
  (by first|exact .inl (by decide +kernel)|exact .inr (by decide +kernel)) (by rw[isSubtype_type];kernel_rfl)
theorem dv_entry_setit_next:entryFor table "set_iterator.__next__"=some Builtin.«set_iterator.__next__»:=entryFor_of_tree (by kernel_rfl)
theorem dv_args_setit_next(a:Value):argsOk "set_iterator.__next__" ⟨[a],[]⟩:=by
 unfold argsOk;rw[signature?_of (id:="set_iterator.__next__") (n:=['_','_','t','x','e','n','_','_']) (o:=['r','o','t','a','r','e','t','i','_','t','e','s']) (by kernel_rfl) wM];kernel_rfl
theorem dv_slot_setit_iter:Slot "set_iterator" "__iter__" "set_iterator.__iter__" :=
 .of (owner:="set_iterator") (n:="__iter__") (by rw[typeLookup_type,builtinLookup_eq_fast];kernel_rfl) (by decide +kernel) (by decide +kernel) (by decide +kernel)
  (by first|exact .inl (by decide +kernel)|exact .inr (by decide +kernel)) (by rw[isSubtype_type];kernel_rfl)
theorem dv_entry_setit_iter:entryFor table "set_iterator.__iter__"=some Builtin.«dict_keyiterator.__iter__» :=
 entryFor_alias (id':="dict_keyiterator.__iter__") (by kernel_rfl) (by first|rfl|decide +kernel|(unfold String.splitOn;simp +decide [String.splitOnAux])) (by decide +kernel) (by kernel_rfl)
theorem dv_args_setit_iter(a:Value):argsOk "set_iterator.__iter__" ⟨[a],[]⟩:=by
 unfold argsOk;rw[signature?_of (id:="set_iterator.__iter__") (n:=['_','_','r','e','t','i','_','_']) (o:=['r','o','t','a','r','e','t','i','_','t','e','s']) (by kernel_rfl) wM];kernel_rfl
end F
open Sem (wp)
open DV
theorem QH{α:Type}(next:Nat->Nat):∀(fuel k:Nat) (left:List α) (out:Array α),left.length=fuel->(pickOrder.go next fuel k left out).toList.Perm (out.toList++left)
 |0,k,left,out,h=>by
  cases left with
  |nil=>unfold pickOrder.go;simp
  |cons _ _=>cases h
 |fuel+1,k,left,out,h=>by
  unfold pickOrder.go;have hlt:next k%left.length<left.length:=Nat.mod_lt _ (by omega);rw[getElem?_eq_getElem hlt];dsimp only;refine(QH next fuel (k+1) _ _ (by rw[List.length_eraseIdx_of_lt hlt];omega)).trans ?_;rw[Array.toList_push,append_assoc];have:left.Perm (left[next k%left.length]::left.eraseIdx (next k%left.length)):=by
   rw[List.eraseIdx_eq_take_drop_succ]
   conv=>lhs;rw[<- take_append_drop (next k%left.length) left,drop_eq_getElem_cons hlt]
   exact perm_middle
  exact(this.symm).append_left _
theorem QI{α:Type}(next:Nat->Nat)(xs:Array α):(pickOrder next xs).toList.Perm xs.toList:=by
 have:=QH next xs.size 0 xs.toList #[] (by simp);simpa[pickOrder]using this
def je(w:World)(S:Addr)(ep:Nat)(es:Array (Int×Value)):Array (Int×Value):=if yA w=true then pickOrder (w.params.setOrder S ep) es else es
theorem yx(w:World)(S:Addr)(ep:Nat)(es:Array (Int×Value)):(je w S ep es).toList.Perm es.toList:=by
 unfold je;split
 ·exact QI _ _
 ·exact .rfl
def jY(w:World)(t:SetTable)(i:Nat):Nat:=if yA w=true then 0 else if i=0 then 0 else t.place.getD (i-1) 0+1
theorem zAo{w:World}{t:SetTable}(hr:Wv t.place.toList)(hb:yA w=false){i:Nat}(hi:i<=t.place.size):SetTable.below t.place (jY w t i)=i:=by
 obtain⟨h1,h2,h3⟩:=vh t.place (jY w t i) hr;have hp:∀a b (ha:a<t.place.size) (hb:b<t.place.size),a<b->t.place[a]<t.place[b]:=λa b ha hb hab=>by
  have:=List.pairwise_iff_getElem.mp hr a b (by simpa using ha) (by simpa using hb) hab;simpa using this
 by_cases h0:i=0
 ·have es:jY w t i=0:=by unfold jY;rw[hb,h0];rfl
  rw[es]at h1 h2 ⊢;apply Nat.le_antisymm _ (by omega);apply Nat.le_of_not_lt;intro hlt;have:=h2 0 (by omega) (by omega);omega
 ·have hi1:i-1<t.place.size:=by omega
  have es:jY w t i=t.place[i-1]+1:=by
   unfold jY;rw[hb,if_neg (by simp),if_neg h0];simp[Array.getD,hi1]
  rw[es]at h1 h2 h3 ⊢;rcases Nat.lt_trichotomy (SetTable.below t.place (t.place[i-1]+1)) i with hc|hc|hc
  ·have:=h3 (i-1) hi1 (by omega)
   omega
  ·exact hc
  ·have:=h2 i (by omega) hc
   have:=hp (i-1) i hi1 (by omega) (by omega);omega
def yy(w:World)(S:Addr)(n ep:Nat)(t:SetTable)(i:Nat):Obj:={cls:=.type "set_iterator",data:=.fields #[.int (jY w t i:Nat) 0,.int (i:Nat) 0,.ref S,.int (n:Nat) 0,.int (ep:Nat) 0]}
section
variable{prog:Program}{w:World}{A:Around}{E:Value->Shared->Prop}{s:Shared}{S:Addr}{es:Array (Int×Value)}{ep:Nat}{t:SetTable}
theorem jZ{Q:Bool->Shared->Prop}(h:Q (yA w) s):wpAny (model prog w) A setsByText Q E s:=by
 unfold setsByText;exact wpAny_bind (wpAny_askSetting (wpAny_pure h))
theorem Ys{i:Nat}{Q:Option (Value×Nat)->Shared->Prop}(ho:s.heap.get? S=some (j8 es ep t))(g:SetG (!yA w) es t)(hi:i<=es.size)
  (h:Q (((je w S ep es)[i]?).map λe=>(e.2,jY w t (i+1))) s):wpAny (model prog w) A (setNext S (jY w t i) i ep) Q E s:=by
 have hf:=g.fits;have hsz:=g.sz;have hpl:t.plain=true:=by rcases g.tab with x|x<;>rw[x.1]
 have hled:t.led=!yA w:=by rcases g.tab with x|x<;>rw[x.1]
 unfold setNext;refine wpAny_bind (wpAny_setState_of ho rfl hf ?_);dsimp only;refine wpAny_bind (jZ ?_);cases hb:yA w with
 |true =>
  simp only[if_true];rw[if_neg (by simp)];refine wpAny_bind (m:=setWalk S) ?_;unfold setWalk;refine wpAny_bind (wpAny_setState_of ho rfl hf ?_);dsimp only;refine wpAny_bind (jZ ?_);rw[hb];simp only[if_true];refine wpAny_bind (wpAny_askSetting (wpAny_pure (wpAny_pure ?_)));unfold je at h;rw[hb]at h;have e1:jY w t (i+1)=jY w t i:=by unfold jY;rw[hb];rfl
  rw[e1]at h;simp only[Option.map_map]at h ⊢;exact h
 |false =>
  rw[hb]at hled;simp only[Bool.false_eq_true,if_false];have hdr:(!t.plain&&decide (es.size > 1))=false:=by rw[hpl];rfl
  show wpAny _ _ (if(!t.plain&&decide (es.size > 1))=true then _ else _) _ _ _
  rw[if_neg (by rw[hdr];simp)];show wpAny _ _ ((if(!t.led&&!es.isEmpty)=true then _ else _) >>= _) _ _ _;rw[if_neg (by rw[hled];simp)];refine wpAny_bind (wpAny_pure (wpAny_pure ?_));rw[zAo g.rise hb (by omega)];have e0:je w S ep es=es:=by unfold je;rw[hb];rfl
  rw[e0]at h;by_cases hlt:i<es.size
  ·have hlp:i<t.place.size:=by omega
   rw[Array.getElem?_eq_getElem hlt]at h ⊢;rw[Array.getElem?_eq_getElem hlp];have e1:jY w t (i+1)=t.place[i]+1:=by unfold jY;rw[hb];simp[Array.getD,hlp]
   rw[e1]at h;exact h
  ·rw[Array.getElem?_eq_none (by omega)]at h ⊢
   exact h
end
end PySem
namespace PySem
open Sem (wp)
open DV
section
variable{prog:Program}{w:World}{A:Around}{E:Value->Shared->Prop}{s:Shared}{S I:Addr}{es:Array (Int×Value)}{ep:Nat}{t:SetTable}
theorem Wx{Q:Value->Shared->Prop}(ho:s.heap.get? S=some (j8 es ep t))(g:SetG (!yA w) es t)
  (hQ:Q (.ref s.heap.objs.size) {s with heap:=s.heap.push (yy w S es.size ep t 0)}):wpAny (model prog w) A (pyIter (.ref S)) Q E s:=by
 have hT:s.TypeIs (.ref S) "set":=⟨_,ho,rfl⟩;have hf:=g.fits;have hpl:t.plain=true:=by rcases g.tab with x|x<;>rw[x.1]
 refine wpAny_pyIter_slot hT F.slot_set_iter (wpAny_call_entry F.slot_set_iter hT F.dv_entry_set_iter ?_ (F.args_set_iter_1 _));show wpAny _ _ (Builtin.Frozenset.sizeOf S >>= _) _ _ s;unfold Builtin.Frozenset.sizeOf setEntries;refine wpAny_bind (wpAny_bind (wpAny_bind (wpAny_setState_of ho rfl hf (wpAny_pure (wpAny_pure ?_)))));refine wpAny_bind (m:=setDrawn S) ?_;unfold setDrawn;refine wpAny_bind (wpAny_setState_of ho rfl hf ?_);dsimp only;refine wpAny_bind (jZ (wpAny_pure ?_));have hdr:(!yA w&&(!t.plain&&decide (es.size > 1)))=false:=by rw[hpl];simp
 show wpAny _ _ (if(!yA w&&(!t.plain&&decide (es.size > 1)))=true then _ else _) _ _ _
 rw[if_neg (by rw[hdr];simp)];refine wpAny_bind (m:=pure (rawInt 0)) (wpAny_pure ?_);refine wpAny_bind (wpAny_setEpoch_of ho rfl hf ?_);have e0:yy w S es.size ep t 0={cls:=.type "set_iterator",data:=.fields #[rawInt 0,rawInt 0,.ref S,rawInt es.size,rawInt ep]}:=by
  unfold yy jY rawInt;simp
 rw[e0]at hQ;exact wpAny_bind (wpAny_newObj_type (wpAny_pure ⟨_,rfl,"set_iterator",_,⟨_,get?_push_size _ rfl,rfl⟩,F.dv_slot_setit_next.lookup,hQ⟩))
theorem WI{i:Nat}{x:Int×Value}{Q:Option Value->Shared->Prop}(hI:s.heap.get? I=some (yy w S es.size ep t i))(ho:s.heap.get? S=some (j8 es ep t))(g:SetG (!yA w) es t)(hx:(je w S ep es)[i]?=some x)
  (hQ:∀h',h'.get? I=some (yy w S es.size ep t (i+1))->Heap.SameBut I s.heap h'->Q (some x.2) {s with heap:=h'}):wpAny (model prog w) A (pyNext (.ref I)) Q E s:=by
 have hT:s.TypeIs (.ref I) "set_iterator":=⟨_,hI,rfl⟩;have hf:=g.fits;have hi:i<=es.size:=by
  have:=(yx w S ep es).length_eq;obtain⟨h1,_⟩:=Array.getElem?_eq_some_iff.mp hx;simp only[Array.length_toList]at this;omega
 unfold pyNext;refine wpAny_bind (wpAny_attempt (wpAny_callSpecial?_slot (name:=Str.ofString "__next__") hT F.dv_slot_setit_next
  (wpAny_call_entry F.dv_slot_setit_next hT F.dv_entry_setit_next ?_ (F.dv_args_setit_next _))))
 show wpAny _ _ (fieldsOf (.ref I) >>= _) _ _ s
 refine wpAny_bind (wpAny_fieldsOf hI rfl ?_);dsimp only;unfold setEntries;refine wpAny_bind (wpAny_bind (wpAny_setState_of ho rfl hf (wpAny_pure ?_)));rw[if_neg (by simp)];refine wpAny_bind (m:=setNext S _ _ _) ?_;simp only[Int.toNat_natCast];refine Ys ho g hi ?_;rw[hx];dsimp only[Option.map];have d1:(yy w S es.size ep t i).data=.fields #[.int (jY w t i:Nat) 0,.int (i:Nat) 0,.ref S,.int (es.size:Nat) 0,.int (ep:Nat) 0]:=rfl;refine wpAny_bind (wpAny_setField hI d1 (by simp) ?_);have g1:=get?_update_self (Obj.mapFields λxs=>xs.setIfInBounds 0 (rawInt (jY w t (i+1)))) hI (Obj.isFreed_of_fields (Obj.data_mapFields d1 _));have d2:=Obj.data_mapFields d1 λxs=>xs.setIfInBounds 0 (rawInt (jY w t (i+1)))
 refine wpAny_bind (wpAny_setField g1 d2 (by simp) (wpAny_pure ⟨x.2,rfl,wpAny_pure (hQ _ ?_ ((Heap.SameBut.update ..).trans (Heap.SameBut.update ..)))⟩));have g2:=get?_update_self (Obj.mapFields λxs=>xs.setIfInBounds 1 (rawInt ((i:Int)+1))) g1 (Obj.isFreed_of_fields (Obj.data_mapFields d2 _));rw[g2];unfold yy;simp[Obj.mapFields,rawInt]
theorem Wy{i:Nat}{Q:Option Value->Shared->Prop}(hh:A.handled=none)(hI:s.heap.get? I=some (yy w S es.size ep t i))(ho:s.heap.get? S=some (j8 es ep t))(g:SetG (!yA w) es t)(hi:i<=es.size)(hx:(je w S ep es)[i]?=none)
  (hQ:∀h',Heap.ExtBut I s.heap h'->Q none {s with heap:=h'}):wpAny (model prog w) A (pyNext (.ref I)) Q E s:=by
 have hT:s.TypeIs (.ref I) "set_iterator":=⟨_,hI,rfl⟩;have hf:=g.fits;unfold pyNext;refine wpAny_bind (wpAny_attempt (wpAny_callSpecial?_slot (name:=Str.ofString "__next__") hT F.dv_slot_setit_next
  (wpAny_call_entry F.dv_slot_setit_next hT F.dv_entry_setit_next ?_ (F.dv_args_setit_next _))))
 show wpAny _ _ (fieldsOf (.ref I) >>= _) _ _ s
 refine wpAny_bind (wpAny_fieldsOf hI rfl ?_);dsimp only;unfold setEntries;refine wpAny_bind (wpAny_bind (wpAny_setState_of ho rfl hf (wpAny_pure ?_)));rw[if_neg (by simp)];refine wpAny_bind (m:=setNext S _ _ _) ?_;simp only[Int.toNat_natCast];refine Ys ho g hi ?_;rw[hx];dsimp only[Option.map];have d1:(yy w S es.size ep t i).data=.fields #[.int (jY w t i:Nat) 0,.int (i:Nat) 0,.ref S,.int (es.size:Nat) 0,.int (ep:Nat) 0]:=rfl;refine wpAny_bind (wpAny_setField hI d1 (by simp) ?_);show wpAny _ _ (newExc (.type "StopIteration") [] >>= _) _ _ _;refine wpAny_bind ?_;simp only[newExc,newTuple];refine wpAny_bind (wpAny_newObj_type ?_ (by size_fits));refine wpAny_bind (m:=firstArgMember _ _) (wpAny_of_eq (a:=Value.none) (by first|rfl|(simp only[firstArgMember];rfl)) ?_);refine wpAny_newObj_type ?_ (by size_fits);simp only[raiseNew];refine wpAny_bind (wpAny_handled ?_)
 first|rw[show A.in1.handled=none from hh]|rw[hh]
 refine wpAny_bind (wpAny_pure (wpAny_throw ?_));refine wpAny_bind (wpAny_isInstance (T:="StopIteration") (b:=true) ⟨_,get?_push_size _ rfl,rfl⟩ isSubtype_stop ?_);exact wpAny_pure (hQ _ (((Heap.SameBut.update ..).extBut.push _).push _))
theorem WJ(hh:A.handled=none)(hne:S≠I)(g:SetG (!yA w) es t) :
  Walks prog w A I [I,S] [I] es.size (λi v=>∃x,(je w S ep es)[i]?=some x/\v=x.2) (λi h=>h.get? I=some (yy w S es.size ep t i)/\h.get? S=some (j8 es ep t)) where
 sub:=λb hb=>by simp at hb;simp[hb]
 frame:=λ_ _ _ st hk=>⟨hk I (by simp) _ st.1,hk S (by simp) _ st.2⟩
 item:=λi s Q E hi st hQ=>by
  have hlt:i<(je w S ep es).size:=by
   have:=(yx w S ep es).length_eq;simp only[Array.length_toList]at this;omega
  refine WI st.1 st.2 g (Array.getElem?_eq_getElem hlt) λh' hit' hs'=>?_
  exact hQ _ h' s.toks ⟨_,Array.getElem?_eq_getElem hlt,rfl⟩ ⟨hit',hs'.extBut _ _ hne st.2⟩ λb o hb e=>hs'.extBut b o (λh=>hb (by simp[h])) e
 done:=λs Q E st hQ=>Wy hh st.1 st.2 g (le_refl _) (Array.getElem?_eq_none (by
   have:=(yx w S ep es).length_eq;simp only[Array.length_toList]at this;omega)) λh' he'=>hQ h' s.toks λb o hb e=>he' b o (λh=>hb (by simp[h])) e
 self:=λi s Q E st hQ=>by
  have hT:s.TypeIs (.ref I) "set_iterator":=⟨_,st.1,rfl⟩;refine wpAny_pyIter_slot hT F.dv_slot_setit_iter (wpAny_call_entry F.dv_slot_setit_iter hT F.dv_entry_setit_iter ?_ (F.dv_args_setit_iter _));show wpAny _ _ (ret (.ref I)) _ _ s;exact wpAny_pure ⟨_,rfl,"set_iterator",_,hT,F.dv_slot_setit_next.lookup,hQ⟩
end
end PySem
namespace PySem
open Sem (wp)
open DV
section
variable{prog:Program}{w:World}{A:Around}{E:Value->Shared->Prop}{s:Shared}{S:Addr}{es:Array (Int×Value)}{ep:Nat}{t:SetTable}
theorem zAp{α:Type}{f:α->Value}{xs:Array α}{acc:Array Value}{n:Nat}(hn:n=xs.size)(h:ItemsOf (λi v=>∃x,xs[i]?=some x/\v=f x) acc n):acc.toList=xs.toList.map f:=by
 obtain⟨h1,h2⟩:=h;subst hn;apply List.ext_getElem
 ·simp[h1]
 ·intro i a1 a2
  obtain⟨x,e1,e2⟩:=h2 i acc[i] (by simp at a1;simp[a1]);simp at a1 a2;rw[Array.getElem?_eq_getElem a2]at e1;cases e1;simpa using e2
theorem Yg{Q:List Value->Shared->Prop}(hh:A.handled=none)(ho:s.heap.get? S=some (j8 es ep t))(g:SetG (!yA w) es t)
  (hQ:∀h' tk,(∀b o,s.heap.get? b=some o->h'.get? b=some o)->Q ((je w S ep es).toList.map (·.2)) {s with heap:=h',toks:=tk}):wpAny (model prog w) A (collect (.ref S)) Q E s:=by
 have h16:=g.few;have hlt:S<s.heap.objs.size:=lt_size ho;unfold collect;refine wpAny_bind (wpAny_runValue (codeAny_builtin F.entry_proto_collect ?_));rw[Around.under_plainId F.plain_proto_collect _];show wpAny _ A.in1 (newList [] >>= λl=>again (.builtin "list.__iadd__" ⟨[l,.ref S],[]⟩)) _ _ s;refine wpAny_bind (wpAny_newObj_type ?_);refine wpAny_pure ⟨plainId_quiet F.plain_list_iadd _,codeAny_builtin F.entry_list_iadd ?_⟩;rw[Around.under_plainId F.plain_list_iadd _];have ho1:(s.heap.push {cls:=.type "list",data:=.seq ([]:List Value).toArray}).get? S=some (j8 es ep t):=get?_push_of_some _ ho;have hS₁:(s.heap.push {cls:=.type "list",data:=.seq ([]:List Value).toArray}).get? s.heap.objs.size=some {cls:=.type "list",data:=.seq ([]:List Value).toArray}:=get?_push_size _ rfl;have hne:s.heap.objs.size≠S:=ne_of_gt hlt;have hT:Shared.TypeIs {s with heap:=s.heap.push {cls:=.type "list",data:=.seq ([]:List Value).toArray}} (.ref S) "set":=⟨_,ho1,rfl⟩
 have h1:Builtin.List.listSameRef (.ref s.heap.objs.size) (.ref S)=false:=by simp[Builtin.List.listSameRef,hne]
 show wpAny _ A.in1 (Builtin.List.listExtendWith (.ref s.heap.objs.size) (.ref S) (.ref s.heap.objs.size)) _ _ _
 unfold Builtin.List.listExtendWith;refine wpAny_bind (wpAny_typeOf hT ?_);rw[if_neg (by rw[h1];decide)];refine wpAny_bind (Wx ho1 g ?_);have ho2:((s.heap.push {cls:=.type "list",data:=.seq ([]:List Value).toArray}).push (yy w S es.size ep t 0)).get? S=some (j8 es ep t):=get?_push_of_some _ ho1;have hT2:Shared.TypeIs {s with heap:=(s.heap.push {cls:=.type "list",data:=.seq ([]:List Value).toArray}).push (yy w S es.size ep t 0)} (.ref S) "set":=⟨_,ho2,rfl⟩
 have hS₂:((s.heap.push {cls:=.type "list",data:=.seq ([]:List Value).toArray}).push (yy w S es.size ep t 0)).get? s.heap.objs.size=some {cls:=.type "list",data:=.seq ([]:List Value).toArray}:=get?_push_of_some _ hS₁;refine wpAny_bind (wpAny_holding ?_);unfold Builtin.List.listLengthHint;refine wpAny_bind (wpAny_specialOf hT2 F.slot_set_len.lookup ?_)
 (generalize hid:("set.__len__":String)=id0;(fail_if_success (clear hid id0));wp_delta;rw[show splitId id0=some ("set","__len__")from by subst hid;decide +kernel];subst hid)
 refine wpAny_bind (wpAny_isInstance (b:=true) hT2 sub_set_self ?_);refine wpAny_bind (wpAny_typeOf hT2 (wpAny_pure ?_));rw[if_pos (by decide)];refine wpAny_bind (wpAny_rule ?_);generalize eg:((s.heap.push {cls:=.type "list",data:=.seq ([]:List Value).toArray}).push (yy w S es.size ep t 0))=g2 at ho2 hS₂ hT2 ⊢;have z1:(s.heap.push {cls:=.type "list",data:=.seq ([]:List Value).toArray}).objs.size=s.heap.objs.size+1:=size_push ..;have hI₂:g2.get? (s.heap.objs.size+1)=some (yy w S es.size ep t 0):=by rw[<- eg,<- z1];exact get?_push_size _ rfl
 have ext2:∀b o,s.heap.get? b=some o->g2.get? b=some o:=λb o e=>by rw[<- eg];exact get?_push_of_some _ (get?_push_of_some _ e)
 unfold Builtin.List.listTouch;have hS₂':g2.get? s.heap.objs.size=some (PyProof.Rows.seqObj "list" #[] 0):=hS₂;obtain⟨e3,hS₃⟩:∃e3,(g2.update s.heap.objs.size (Obj.mapSeq (·.push .none))).get? s.heap.objs.size=some (PyProof.Rows.seqObj "list" #[Value.none] e3):=⟨_,PyProof.Rows.get?_update_seq hS₂' (·.push .none)⟩;obtain⟨e4,hS₄⟩:∃e4,((g2.update s.heap.objs.size (Obj.mapSeq (·.push .none))).update s.heap.objs.size (Obj.mapSeq (·.pop))).get? s.heap.objs.size=some (PyProof.Rows.seqObj "list" #[] e4):=⟨_,PyProof.Rows.get?_update_seq hS₃ (·.pop)⟩;refine wpAny_bind (wpAny_bind (PyProof.Rows.listUpdate_at hS₂' rfl ?_ (by size_fits) (by size_fits)));refine PyProof.Rows.listUpdate_at hS₃ rfl ?_ (by size_fits) (by size_fits);rw[z1];generalize eg4:((g2.update s.heap.objs.size (Obj.mapSeq (·.push .none))).update s.heap.objs.size (Obj.mapSeq (·.pop)))=g4 at hS₄ ⊢;have ext4:∀b o,b≠s.heap.objs.size->g2.get? b=some o->g4.get? b=some o:=λb o hb e=>by
  rw[<- eg4,Heap.get?_update_ne _ _ _ _ hb,Heap.get?_update_ne _ _ _ _ hb];exact e
 have hneI:S≠s.heap.objs.size+1:=ne_of_lt (lt_succ_of_lt hlt);have W:=(WJ (prog:=prog) (w:=w) (A:=A.in1) (I:=s.heap.objs.size+1) (ep:=ep) hh hneI g).toS;have hSf:s.heap.objs.size∉[s.heap.objs.size+1,S]:=by simp[hne]
 refine wpAny_pure ⟨plainId_quiet F.plain_extend_loop _,codeAny_extend_loopS W (by rw[sizeLine_eq];omega) _ hSf _ es.size 0 _ _ _ rfl (zero_le _) ⟨ext4 _ _ (Nat.succ_ne_self _) hI₂,ext4 _ _ (λe=>hne e.symm) ho2⟩ hS₄ (ItemsOf.nil _) λs' acc' c' hm hS' hacc=>?_⟩;show wpAny _ A (load s.heap.objs.size >>= _) _ _ s';refine wpAny_bind (wpAny_load hS' ?_);have hl:=(yx w S ep es).length_eq;simp only[Array.length_toList]at hl;have ea:=zAp hl.symm hacc;obtain⟨h',g',d',tk',os'⟩:=s';have eg:g'=s.gens:=hm.gens;have ed:d'=s.drawn:=hm.drawn;have eo:os'=s.os:=hm.os;subst eg;subst ed;subst eo;refine wpAny_pure ?_;rw[ea];refine hQ h' tk' λb o e=>?_
 have hb:=lt_size e;exact hm.heap b o (by simp only[mem_cons,mem_singleton,List.not_mem_nil,or_false,not_or];exact⟨ne_of_lt hb,ne_of_lt (lt_succ_of_lt hb)⟩) (ext4 b o (ne_of_lt hb) (ext2 b o e))
theorem ZR{Q:Value->Shared->Prop}{vals:List Nat}(hh:A.handled=none)(ho:s.heap.get? S=some (j8 es ep t))(g:SetG (!yA w) es t)(hmem:∀m:Int,(∃e∈es.toList,e.1=m)↔∃n,n∈vals/\m=(n:Int))
  (h:∀(h1 h':Heap) (tk:Nat) (a:Addr) (e:Nat) (out:List Value),(∀b o,s.heap.get? b=some o->h1.get? b=some o)->(∀b o,h1.get? b=some o->h'.get? b=some o)->h1.objs.size<=a->h'.get? a=some (PyProof.Rows.seqObj "list" out.toArray e) ->
   L2.zZ (((List.range 16).filter λi=>vals.contains i).map λn:Nat=>L2.V.int (n:Int)) out->Q (.ref a) {s with heap:=h',toks:=tk}) :
  wpAny (model prog w) A (call (.builtin "sorted") [.ref S]) Q E s:=by
 have h16:=g.few;refine Calls.call_function_entry PyProof.Rows.kind_sorted PyProof.Rows.plain_sorted PyProof.Rows.entry_sorted (PyProof.Rows.args_sorted1 _) ?_;unfold Builtin.«sorted»;refine wpAny_bind (m:=checkCount "sorted" 1 1 _) (wpAny_pure (wpAny_bind (Yg hh ho g λh1 tk1 ext1=>?_)));have hp:=yx w S ep es;generalize eo:je w S ep es=ord at hp ⊢;have hent:∀e∈ord.toList,∃(n:Nat) (k:Tok),n<16/\e=((n:Int),.int (n:Int) k):=λe he=>g.ent e (hp.mem_iff.mp he)
 have hnd:(ord.toList.map (·.1)).Nodup:=((hp.map _).nodup_iff).mpr g.nd;have hmo:∀m:Int,(∃e∈ord.toList,e.1=m)↔∃n,n∈vals/\m=(n:Int):=λm=>by
  rw[<- hmem m];exact⟨λ⟨e,he,q⟩=>⟨e,hp.mem_iff.mp he,q⟩,λ⟨e,he,q⟩=>⟨e,hp.mem_iff.mpr he,q⟩⟩
 have hlen:ord.toList.length<=16:=by rw[hp.length_eq];simpa using h16
 generalize eol:ord.toList=ol at hent hnd hmo hlen ⊢;have hvl:(ol.map (·.2)).length=ol.length:=by simp
 generalize ev:ol.map (·.2)=vs at hvl ⊢
 let κ:Nat->Int:=λi=>(ol.map (·.1)).getD i 0
 have at_:∀i,i<vs.length->∃k,vs.getD i Value.none=.int (κ i) k:=λi hi=>by
  have hi':i<ol.length:=by omega
  obtain⟨n,k,hn,e⟩:=hent ol[i] (getElem_mem hi');refine⟨k,?_⟩;subst ev;simp only[κ,getD_eq_getElem?_getD,getElem?_map,getElem?_eq_getElem hi',Option.map_some,Option.getD_some];rw[e]
 have hints:PyProof.Rows.IntsAre vs (ol.map (·.1)):=by
  subst ev
  clear hnd hmo hlen hvl at_ κ eol
  induction ol with
  |nil=>exact .nil
  |cons a l ih =>
   obtain⟨n,k,hn,e⟩:=hent a mem_cons_self;rw[map_cons,map_cons,e];exact .cons _ _ (ih λz hz=>hent z (mem_cons_of_mem _ hz))
 refine wpAny_bind (wpAny_newList ?_ (by rw[sizeLine_eq];omega));have hobj:(h1.push (PyProof.Rows.seqObj "list" vs.toArray 0)).get? h1.objs.size=some (PyProof.Rows.seqObj "list" vs.toArray 0):=get?_push_size _ rfl;show wpAny _ _ _ _ _ {s with heap:=h1.push (PyProof.Rows.seqObj "list" vs.toArray 0),toks:=tk1}
 refine wpAny_bind (wpAny_holding (wpAny_call_entry PyProof.Rows.slot_list_sort ⟨_,hobj,rfl⟩ PyProof.Rows.entry_list_sort (L2.Ws (s:={s with heap:=h1.push (PyProof.Rows.seqObj "list" vs.toArray 0),toks:=tk1}) (κ:=κ) (kd:=PyProof.Rows.oneType') hobj (by omega) (λh6 k6 h2=>?_) (λh6 k6 i j C hi hj hC=>?_) λp hpl=>⟨_,rfl,?_⟩) (PyProof.Rows.args_list_sort _)))
 ·match vs,h2,hints with
  |v1::v2::r,_,hi2 =>
   rw[PyProof.Rows.keyKind_ints hi2];exact wpAny_pure ⟨rfl,rfl⟩
 ·obtain⟨k1,e1⟩:=at_ i hi
  obtain⟨k2,e2⟩:=at_ j hj;unfold W.kas_ask;rw[e1,e2,PyProof.Rows.keyLt'_oneType];exact PyProof.Rows.oneLt_int hC
 ·refine wpAny_pure ⟨_,rfl,?_⟩
  obtain⟨e,he⟩:=PyProof.Rows.sortedHeap_at (out:=(p.map λi=>vs.getD i Value.none).toArray) hobj;refine h h1 _ _ _ e _ ext1 (λb o e1=>?_) (le_refl _) he ?_
  ·have hl:=lt_size e1
   rw[PyProof.Rows.sortedHeap_old (ne_of_lt hl) (by rw[size_push];exact lt_succ_of_lt hl)];exact get?_push_of_some _ e1
  ·have hb:∀i∈p,i<vs.length:=λi hi=>by simpa using hpl.1.mem_iff.mp hi
   have key:(((List.range 16).filter λi=>vals.contains i).map λn:Nat=>(n:Int))=p.map κ:=by
    refine List.Perm.eq_of_pairwise (le:=(·<=·)) (λa b _ _ h1 h2=>Int.le_antisymm h1 h2) ?_ (pairwise_map.mpr hpl.2) ?_
    ·refine pairwise_map.mpr ((List.pairwise_lt_range.filter _).imp λh=>by omega)
    ·have e1:(p.map κ).Perm (ol.map (·.1)):=by
      refine(hpl.1.map κ).trans ?_;have:(List.range vs.length).map κ=ol.map (·.1):=by
       apply List.ext_getElem
       ·simp[hvl]
       ·intro i a1 a2
        simp only[getElem_map,List.getElem_range,κ];rw[getD_eq_getElem?_getD,getElem?_eq_getElem a2];simp
      rw[this]
     refine List.Perm.trans ?_ e1.symm;rw[List.perm_ext_iff_of_nodup ?_ hnd]
     ·intro m
      simp only[mem_map,mem_filter,mem_range,List.contains_iff_mem];have:=hmo m;constructor
      ·rintro ⟨n,⟨hn,hv⟩,rfl⟩
       exact this.mpr ⟨n,hv,rfl⟩
      ·rintro ⟨e,he,rfl⟩
       obtain⟨n,k,hn,e'⟩:=hent e he;obtain⟨n',hv,eq⟩:=this.mp ⟨e,he,rfl⟩;rw[e']at eq ⊢;have:n=n':=Int.ofNat.inj eq;exact⟨n,⟨hn,this▸hv⟩,rfl⟩
     ·exact pairwise_map.mpr ((List.pairwise_lt_range.filter _).imp λh=>by omega)
   have key2:(((List.range 16).filter λi=>vals.contains i).map λn:Nat=>L2.V.int (n:Int))=p.map λi=>L2.V.int (κ i):=by
    have:=congrArg (List.map L2.V.int) key;simpa[map_map,Function.comp_def]using this
   rw[key2]
   clear key key2 hpl he
   induction p with
   |nil=>exact .nil
   |cons i p ih =>
    rw[map_cons,map_cons];exact .cons (at_ i (hb i mem_cons_self)) (ih λz hz=>hb z (mem_cons_of_mem _ hz))
end
end PySem
namespace L2
open PySem PySem.Spec PyProof.Rows DV
def srtV(ns:List Nat):List V:=((List.range 16).filter λi=>ns.contains i).map λn:Nat=>V.int (n:Int)
def rSset(K:PySem.W.Frag):List V->Hp->VK->Prop:=λvs H Q=>∃(p:Addr) (ns:List Nat),vs=[.ref p]/\(SqL K H p (ns.map λn:Nat=>V.int (n:Int))\/SqT K H p (ns.map λn:Nat=>V.int (n:Int)))/\(∀n∈ns,n<16)/\∀l,H l=none->Q (.ref l) (upd H l (.lst (srtV ns)))
theorem zAq(ns:List Nat):(srtV ns).length<=16:=by
 unfold srtV;rw[length_map];exact le_trans (List.length_filter_le _ _) (by simp)
theorem YM{ns:List Nat}{its:List Value}(h:zZ (ns.map λn:Nat=>V.int (n:Int)) its)(hb:∀n∈ns,n<16):ns.length=its.length/\∀(i:Nat) (v:Value),its.toArray[i]?=some v->ns.getD i 0<16/\∃t,v=.int ((ns.getD i 0:Nat):Int) t:=by
 have hl:=h.length;simp only[length_map]at hl;refine⟨hl,λi v e=>?_⟩;have e':its[i]?=some v:=by simpa using e
 have hi:i<ns.length:=by
  obtain⟨h1,_⟩:=List.getElem?_eq_some_iff.mp e';omega
 obtain⟨u,e1,e2⟩:=h.get (i:=i) (x:=V.int (ns[i]:Int)) (by simp[hi]);rw[e']at e1;cases e1;obtain⟨t,rfl⟩:=e2;rw[getD_eq_getElem?_getD,getElem?_eq_getElem hi];exact⟨hb _ (getElem_mem hi),t,rfl⟩
section
variable{X:Cx}
theorem pe_sset{a:Expr}{ta:TA}{p p0 pos pos0:Pos}(hc:X.calm=true)(hgt:Gl X "sorted")(hmt:X.mg "sorted"=none)(hvt:bootBuiltins "sorted"=some (.builtin "sorted"))(hg:Gl X "set")(hm:X.mg "set"=none)(hvs:bootBuiltins "set"=some (.type "set"))(ha:PA X [a] ta)(hs:starEach [a] X.env=[(false,eval a X.env)]:=by rfl) :
  PE X (.Call (.Name "sorted" p0) [.Call (.Name "set" p) [a] [] pos] [] pos0) (tCB (rSset X.K) ta):=by
 intro pins s σ H Q I h;refine wpAny_Call_Name_kw (J3 I hgt hmt hvt (PyProof.Rows.callWith_builtin1 (Calls.spliced_cons ?_) rfl rfl));refine Call_ (J3 I hg hm hvs (PyProof.Rows.callWith_type1 (thn (ha pos pins s σ H _ I h) λus s1 ⟨vs,H1,I1,r1,q1⟩=>?_) hs rfl));obtain⟨p,ns,e,sq,hb,q⟩:=q1;subst e;cases r1 with
 |cons r rr =>
  cases rr;cases r;have hh:X.A.handled=none:=I1.ok.hd hc;obtain⟨T,its,nl,od,osl,hT,hget,hlen,hval⟩:∃(T:String) (its:List Value) (nl:Nat) (od:Option Addr) (osl:Array (Option Value)),(T="list"\/T="tuple")/\s1.heap.get? p=some {cls:=.type T,dict:=od,data:=.seq its.toArray nl,slots:=osl}/\ns.length=its.length/\∀(i:Nat) (v:Value),its.toArray[i]?=some v->ns.getD i 0<16/\∃t,v=.int ((ns.getD i 0:Nat):Int) t:=by
   rcases sq with sq|sq
   ·obtain⟨its,rv,pl,_⟩:=I1.list sq
    obtain⟨⟨cl,od,dt,sl⟩,ho,hcl,n,hd⟩:=pl.isList;simp only at hcl hd;subst hcl;subst hd;exact⟨"list",its,n,od,sl,.inl rfl,ho,YM rv hb⟩
   ·obtain⟨its,rv,⟨⟨cl,od,dt,sl⟩,ho,hcl,n,hd⟩,_⟩:=I1.tuple sq
    simp only at hcl hd;subst hcl;subst hd;exact⟨"tuple",its,n,od,sl,.inr rfl,ho,YM rv hb⟩
  refine Ww hh hT hget hval λh' tk es ep t ho g hmem ext=>Calls.spliced_nil ?_
  have hmem':∀m:Int,(∃e∈es.toList,e.1=m)↔∃n,n∈ns/\m=(n:Int):=λm=>by
   rw[hmem m];constructor
   ·rintro ⟨j,hj,e⟩
    have hj':j<ns.length:=by simp at hj;omega
    refine⟨ns[j],getElem_mem hj',?_⟩;rw[e,getD_eq_getElem?_getD,getElem?_eq_getElem hj'];rfl
   ·rintro ⟨n,hn,e⟩
    obtain⟨j,hj,rfl⟩:=getElem_of_mem hn;refine⟨j,by simp;omega,?_⟩;rw[e,getD_eq_getElem?_getD,getElem?_eq_getElem hj];rfl
  refine ZR (s:={s1 with heap:=h',toks:=tk}) hh ho g hmem' λh1 h2 tk2 a e out ex1 ex2 hle hat hvals=>?_
  have I2:Inv X pins σ H1 {s1 with heap:=h1,toks:=tk2}:=I1.kept (t':=tk2) λb o eb=>ex1 b o (ext b o (lt_size eb) eb)
  have hz:(srtV ns).length<=sizeLine:=by have:=zAq ns;rw[sizeLine_eq];omega
  have I3:Inv X pins σ (upd H1 a (.lst (srtV ns))) {s1 with heap:=h2,toks:=tk2} :=
   I2.laid (t':=tk2) ex2 hle (show jR X.prog X.w _ _ _ (.lst (srtV ns))from⟨hz,_,e,hvals,hat⟩)
  exact⟨.ref a,_,I3,rfl,q _ (I2.hok.fresh hle)⟩
end
end L2
namespace DV
open PySem L2
def jq:List D->Option (List Nat)
 | []=>some []
 | .int j::ds=>if 0<=j/\j<16 then(jq ds).map (j.toNat::·)else none
 |_=>none
def srtD(ns:List Nat):List D:=((List.range 16).filter λi=>ns.contains i).map λn:Nat=>D.int (n:Int)
def QJ:List D->Option R
 | [.lst ds]=>(jq ds).map λns=>.own (srtD ns)
 | [.tup ds]=>(jq ds).map λns=>.own (srtD ns)
 |_=>none
theorem wX{K:PySem.W.Frag}{mg:Str->Option Value}{H:Hp}:∀(ds:List D) (ns:List Nat) (xs:List V),jq ds=some ns->Reps K mg H ds xs->xs=(ns.map λn:Nat=>V.int (n:Int))/\∀n∈ns,n<16
 | [],ns,xs,h,r=>by
  cases h;simp only[Reps]at r;exact⟨r,λn h=>by cases h⟩
 |d::ds,ns,xs,h,r=>by
  cases d with
  |int j =>
   simp only[jq]at h;split at h
   ·rename_i hj
    cases hs:jq ds with
    |none=>rw[hs]at h;cases h
    |some ms =>
     rw[hs]at h;cases h;simp only[Reps]at r;obtain⟨x,xr,rfl,r1,r2⟩:=r;obtain⟨rfl,hb⟩:=wX ds ms xr hs r2;rw[zI r1];refine⟨?_,λn hn=>?_⟩
     ·rw[map_cons];congr 2;omega
     ·rcases mem_cons.mp hn with rfl|hn
      ·omega
      ·exact hb n hn
   ·cases h
  |_=>cases h
theorem vq{K:PySem.W.Frag}{mg:Str->Option Value}{Hh:Hp}(l:List Nat):Reps K mg Hh (l.map λn:Nat=>D.int (n:Int)) (l.map λn:Nat=>V.int (n:Int)):=by
 induction l with
 |nil=>exact Reps.nil
 |cons n l ih=>exact Reps.cons (by simp only[Rep]) ih
section
variable{X:Cx}
theorem bt_set:bootBuiltins "set"=some (.type "set"):=by decide +kernel
theorem uY:bootBuiltins "sorted"=some (.builtin "sorted"):=by decide +kernel
theorem ok_sset{a:Expr}{m:MA}{p p0 pos pos0:Pos}(hc:X.calm=true)(hgt:Gl X "sorted")(hmt:X.mg "sorted"=none)(hg:Gl X "set")(hm:X.mg "set"=none)(ha:AOk X [a] m)(hst:zW a=false:=by rfl) :
  EOk X (.Call (.Name "sorted" p0) [.Call (.Name "set" p) [a] [] pos] [] pos0) (eCB QJ m) :=
 zy (pe_sset hc hgt hmt uY hg hm bt_set ha (zAE hst)) λσ H Q q=>Z0 (rel:=rSset X.K) (λM H Z xs ds res Q f r e k=>by
  match ds,e with
  | [.lst ds],e =>
   simp only[QJ]at e;cases hs:jq ds with
   |none=>rw[hs]at e;cases e
   |some ns =>
    rw[hs]at e;cases e;obtain⟨v,rfl,h⟩:=wB r;obtain⟨p,ys,rfl,h1,h2⟩:=zJ h;obtain⟨rfl,hb⟩:=wX ds ns ys hs h2;exact⟨p,ns,rfl,.inl (zF.seq h1),hb,λl hl=>k.own f hl (vq _)⟩
  | [.tup ds],e =>
   simp only[QJ]at e;cases hs:jq ds with
   |none=>rw[hs]at e;cases e
   |some ns =>
    rw[hs]at e;cases e;obtain⟨v,rfl,h⟩:=wB r;obtain⟨p,ys,rfl,h1,h2⟩:=zM h;obtain⟨rfl,hb⟩:=wX ds ns ys hs h2;exact⟨p,ns,rfl,.inr (zV zF h1),hb,λl hl=>k.own f hl (vq _)⟩) q
end
end DV
namespace DV
open PySem L2
inductive Op2 where
 |add|sub|mul|fdiv|mod|pow
def Op2.op:Op2->Operator
 | .add=>.Add | .sub=>.Sub | .mul=>.Mult | .fdiv=>.FloorDiv | .mod=>.Mod | .pow=>.Pow
def Op2.f:Op2->D->D->Option R
 | .add=>JA | .sub=>subD | .mul=>WE | .fdiv=>zAM | .mod=>zBF | .pow=>powD
inductive Cp where
 |lt|le|gt|ge|eq|ne|nin|isn
def Cp.op:Cp->CmpOp
 | .lt=>.Lt | .le=>.LtE | .gt=>.Gt | .ge=>.GtE | .eq=>.Eq | .ne=>.NotEq | .nin=>.NotIn | .isn=>.IsNot
def Cp.f:Cp->D->D->Option R
 | .lt=>ltD | .le=>leD | .gt=>gtD | .ge=>geD | .eq=>eqG | .ne=>neG | .nin=>inG true | .isn=>isG true
def Cp.isI:Cp->Bool
 | .lt | .le | .gt | .ge=>true
 |_=>false
def Cp.b:Cp->Int->Int->Bool
 | .lt=>ltB | .le=>leB | .gt=>gtB|_=>geB
inductive Bi where
 |len|max|all|int|tuple|list|min
def Bi.nm:Bi->Str
 | .len=>"len" | .max=>"max" | .all=>"all" | .int=>"int" | .tuple=>"tuple" | .list=>"list" | .min=>"min"
def Bi.f:Bi->List D->Option R
 | .len=>lenD | .max=>Qq | .all=>allD | .int=>intF | .tuple=>zBG | .list=>listD | .min=>minH
inductive Ty where
 |int|bool|tuple|list|str|dict
def Ty.s:Ty->String
 | .int=>"int" | .bool=>"bool" | .tuple=>"tuple" | .list=>"list" | .str=>"str" | .dict=>"dict"
def Ty.nm:Ty->Str
 | .int=>"int" | .bool=>"bool" | .tuple=>"tuple" | .list=>"list" | .str=>"str" | .dict=>"dict"
inductive Tg where
 |n (i:Nat)
 |t (is:List Nat)
def Tg.m:Tg->MG
 | .n i=>gN i
 | .t is=>gT is
mutual
inductive Ex where
 |c (d:D)|gl (d:D)|var (i:Nat)
 |bin (o:Op2) (a b:Ex)|cmp (o:Cp) (a b:Ex)|chain (o o':Cp) (a b c:Ex)
 |neg (a:Ex)|not (a:Ex)|and (a b:Ex)
 |tup (as:Ax)|lst (as:Ax)
 |ix (a b:Ex)|ixO (i:Nat) (b:Ex)|sl (a:Ex) (l h:Ox)
 |comp (nl:Nat) (loc capn:List Str) (caps:List Nat) (it:Ix) (tg:Tg) (tt:Tx) (el:Ex)
 |is (T:Ty) (a:Ex)|cB (b:Bi) (as:Ax)|call (k:Nat) (as:Gx)
 |stp (k:Bool) (a:Ex)|sset (as:Ax)
inductive Tx where
 |tOr (a b:Tx)|tNot (a:Tx)|tE (a:Ex)|tTr
inductive Ax where
 |nil|cons (a:Ex) (as:Ax)
inductive Gx where
 |nil|ev (a:Ex) (as:Gx)|lend (i:Nat) (as:Gx)
inductive Ox where
 |oN|oS (a:Ex)
inductive Ix where
 |iL (a:Ex)|iT (a:Ex)|iR1 (as:Ax)|iZ (t1 t2:Bool) (as:Ax)
end
mutual
inductive Sx where
 |sIf (t:Tx) (a b:Bx)|sSet (i:Nat) (a:Ex)|sRet (a:Ex)|sIx (i:Nat) (b a:Ex)|sApp (i:Nat) (a:Ex)
 |sForL (a:Ex) (tg:Tg) (b:Bx)|sForT (a:Ex) (tg:Tg) (b:Bx)|sForR1 (as:Ax) (tg:Tg) (b:Bx)
 |sAny|sTup (is:List Nat) (a:Ex)
inductive Bx where
 |bNil|bOne (s:Sx)|bSeq (s:Sx) (b:Bx)
end
structure FI where
 x:Str
 n:Nat
 lv:Nat
 wild:Bool
 F:MF
def fiF(fs:List FI)(k:Nat):MF:=match fs[k]? with
 |some i=>i.F
 |none=>λ_=>.stuck
def fiX(fs:List FI)(k:Nat):Str:=match fs[k]? with
 |some i=>i.x
 |none=>""
def vt(m:ME):ME:=λE=>match m E with
 | .exc _ _=>.stuck
 |o=>o
def WY(m:MS):MS:=λE=>match m E with
 | .exc _ _=>.stuck
 |o=>o
theorem QK{m:ME}{E:zL}{p:R×zL}(h:m E=.ok p):vt m E=.ok p:=by simp only[vt,h]
theorem Wz{m:MS}{E:zL}{p:Fl×zL}(h:m E=.ok p):WY m E=.ok p:=by simp only[WY,h]
theorem no_E{X:Cx}{e:Expr}{m:ME}(h:EOk X.nox e m):EOk X e (vt m):=zy h.nox λσ H Q ⟨M,E,hl,fr,k⟩=>by
 unfold vt at k;refine⟨M,E,hl,fr,?_⟩;cases e:m E with
 |stuck=>rw[e]at k;exact k
 |exc x E1=>rw[e]at k;exact k.elim
 |ok p=>rw[e]at k;exact k
theorem no_S{X:Cx}{st:Stmt}{m:MS}(h:SOk X.nox st m):SOk X st (WY m):=λpins s σ H D I ⟨M,E,hl,fr,k⟩=>by
 refine wpAny_mono (h pins s σ H D (I.wish _) ⟨M,E,hl,fr,?_⟩) (λ_ _ q=>q.unwish) λ_ _ z=>False.elim z
 unfold WY at k;cases e:m E with
 |stuck=>rw[e]at k;exact k
 |exc x E1=>rw[e]at k;exact k.elim
 |ok p =>
  rw[e]at k;obtain⟨fl,E1⟩:=p;cases fl<;>exact k
theorem no_set{i:Nat}{m:ME}:WY (sSet i m)=sSet i (vt m):=by
 funext E
 simp only[WY,sSet,vt];cases m E with
 |stuck=>rfl
 |exc x E1=>rfl
 |ok p =>
  obtain⟨r,E1⟩:=p;dsimp only;cases Yb i r E1<;>rfl
mutual
def dE(fs:List FI):Ex->ME
 | .c d=>eC d
 | .gl d=>eC d
 | .var i=>uf i
 | .bin o a b=>YT o.f (dE fs a) (dE fs b)
 | .cmp o a b=>YT o.f (dE fs a) (dE fs b)
 | .chain o o' a b c=>y8 o.b o'.b (dE fs a) (dE fs b) (dE fs c)
 | .neg a=>eNeg (dE fs a)
 | .not a=>GP (dE fs a)
 | .and a b=>uR (dE fs a) (dE fs b)
 | .tup as=>Qm (dA fs as)
 | .lst as=>Qn (dA fs as)
 | .ix a b=>YT ixD (dE fs a) (dE fs b)
 | .ixO i b=>eIxO i (dE fs b)
 | .sl a l h=>eSl slD (dE fs a) (dO fs l) (dO fs h)
 | .comp nl _ _ caps it tg tt el=>vt (Yc nl caps (dI fs it) tg.m (dT fs tt) (dE fs el))
 | .is T a=>eIs T.s (dE fs a)
 | .cB b as=>eCB b.f (dA fs as)
 | .call k as=>jo (fiF fs k) (dG fs as)
 | .stp k a=>eUn (stepD k) (dE fs a)
 | .sset as=>eCB QJ (dA fs as)
def dT(fs:List FI):Tx->MT
 | .tOr a b=>uQ (dT fs a) (dT fs b)
 | .tNot a=>Jn (dT fs a)
 | .tE a=>tT (dE fs a)
 | .tTr=>Gd
def dA(fs:List FI):Ax->MA
 | .nil=>Ql
 | .cons a as=>Jo (dE fs a) (dA fs as)
def dG(fs:List FI):Gx->List Arg
 | .ev a as=>.ev (dE fs a)::dG fs as
 | .lend i as=>.lend i::dG fs as
 | .nil=>[]
def dO(fs:List FI):Ox->MO
 | .oN=>oNone
 | .oS a=>zAO (dE fs a)
def dI(fs:List FI):Ix->MI
 | .iL a=>iL (dE fs a)
 | .iT a=>iT (dE fs a)
 | .iR1 as=>iR1 (dA fs as)
 | .iZ t1 t2 as=>iZ t1 t2 (dA fs as)
end
mutual
def dS(fs:List FI):Sx->MS
 | .sIf t a b=>sIf (dT fs t) (dB fs a) (dB fs b)
 | .sSet i a=>sSet i (dE fs a)
 | .sRet a=>sRet (dE fs a)
 | .sIx i b a=>Yo i (dE fs b) (dE fs a)
 | .sApp i a=>sApp i (dE fs a)
 | .sTup is a=>sTup is (dE fs a)
 | .sForL a tg b=>WY (sForL (dE fs a) tg.m (dB fs b))
 | .sForT a tg b=>WY (sForT (dE fs a) tg.m (dB fs b))
 | .sForR1 a tg b=>WY (sForR1 (dA fs a) tg.m (dB fs b))
 | .sAny=>λ_=>.stuck
def dB(fs:List FI):Bx->MS
 | .bNil=>Qp
 | .bOne s=>dS fs s
 | .bSeq s b=>uS (dS fs s) (dB fs b)
end
structure Sg where
 N:List Str
 sc:Scope
 top:Bool
 cs:List (Str×D)
 fs:List FI
 bs:List Str
 lv:Nat
 calm:Bool
 cl:List Str
 rs:List Str
 oc:List Str
def kIs(sg:Sg)(x:Str)(k:NameKind):Bool:=sg.sc.names.lookup x==some k
def vis(sg:Sg)(i:Nat)(x:Str):Bool:=sg.N[i]?==some x&&(kIs sg x .local||(kIs sg x .cell||kIs sg x .free))&&(!(x==("__debug__":Str))&&!(x==("__classdict__":Str)))
def glb(sg:Sg)(x:Str):Bool:=kIs sg x .globalImplicit&&!(x==("__debug__":Str))
def locd(sg:Sg)(i:Nat)(x:Str):Bool:=sg.N[i]?==some x&&(kIs sg x .local||(kIs sg x .cell&&(sg.top||sg.oc.contains x)))
def cIs:D->Const->Bool
 | .non,.none=>true
 | .bl b,.bool c=>b==c
 | .int i,.int j=>i==j
 | .str x,.str y=>x==y
 |_,_=>false
def feq:D->D->Bool
 | .non,.non=>true
 | .bl b,.bl c=>b==c
 | .int i,.int j=>i==j
 | .str x,.str y=>x==y
 |_,_=>false
def geq:D->D->Bool
 | .tup [.int a,.int b],.tup [.int c,.int d]=>a==c&&b==d
 | .tup [.non,.int b],.tup [.non,.int d]=>b==d
 |d,e=>feq d e
def gIs(sg:Sg)(x:Str)(d:D):Bool:=match sg.cs.lookup x with
 |some d'=>geq d d'
 |none=>false
def fIs(sg:Sg)(k:Nat)(x:Str):Bool:=match sg.fs[k]? with
 |some i=>i.x==x
 |none=>false
def fArg(sg:Sg)(n:Nat)(k:Nat):Bool:=match sg.fs[k]? with
 |some i=>i.n==n&&decide (i.lv<=sg.lv)&&(sg.calm||i.wild)
 |none=>false
def bIn(sg:Sg)(x:Str):Bool:=sg.bs.contains x
def gLen:Gx->Nat
 | .ev _ as=>gLen as+1
 | .lend _ as=>gLen as+1
 | .nil=>0
def WZ:Tg->Sg->Expr->Bool
 | .n i,sg,e=>match e with
  | .Name x _=>locd sg i x
  |_=>false
 | .t is,sg,e=>match e with
  | .Tuple es _ _=>all2 sg is es
  |_=>false
where all2 (sg:Sg):List Nat->List Expr->Bool
 | [],[]=>true
 |i::is,e::es=>(match e with | .Name x _=>locd sg i x|_=>false)&&all2 sg is es
 |_,_=>false
def relab(scope:Scope)(sc:Scope):Scope:={scope with names:=scope.names.map λ(n,k)=>if(k==NameKind.free&&sc.kind==.function&&sc.names.lookup n==some .cell)then(n,NameKind.cell)else(n,k)}
def capB(sg:Sg)(scope:Scope):List Nat->List Str->Bool
 | [],[]=>true
 |j::js,x::xs=>sg.N[j]?==some x&&scope.names.lookup x==some .free&&capB sg scope js xs
 |_,_=>false
def Wa(sg:Sg)(N:List Str)(scope:Scope):Sg:={sg with N:=N,sc:=relab scope sg.sc,top:=false,oc:=(scope.names.filter λy=>y.2==.cell).map Prod.fst}
def QL(sg:Sg)(nl:Nat)(loc capn:List Str)(caps:List Nat)(scope:Scope):Bool :=
 loc.length==nl&&scope.kind==.function&&decide (loc++capn).Nodup&&scope.names.all (λy=>y.2 != .local||scope.names.lookup y.1==some .local)&&scope.names.all (λy=>y.2 != .cell||scope.names.lookup y.1==some .cell)
  && scope.names.all (λy=>y.2 != .free||sg.sc.names.lookup y.1==some .cell)&&capB sg scope caps capn
def isCmp:Ex->Bool
 | .cmp _ _ _=>true
 | .chain _ _ _ _ _=>true
 |_=>false
def stIs:Bool->Expr->Bool
 |true,e=>match e with
  | .Constant (.int i) _ _=>i==2
  |_=>false
 |false,e=>match e with
  | .UnaryOp .USub (.Constant (.int i) _ _) _=>i==1
  |_=>false
def swOk(sg:Sg)(es:List Expr)(v:Expr):Bool:=match v with
 | .Tuple vs _ _=>es.any (λe=>match e with | .Name x _=>!(kIs sg x .local)|_=>true)||vs.all (foldedForSure 8)
 |_=>true
def swB(sg:Sg)(x:Str)(px:Pos)(scope:Scope)(vp:Pos):Bool:=kIs sg x .local&&px.line==vp.line&&!(scope.names.any λy=>y.1==x&&(y.2==.local||y.2==.cell))
def isCo:Ex->Bool
 | .comp _ _ _ _ _ _ _ _=>true
 |_=>false
def setOk(sg:Sg)(x:Str)(px:Pos)(a:Ex)(v:Expr):Bool:=match v with
 | .ListComp _ _ scope vp=>sg.sc.kind==.function&&(!swB sg x px scope vp||isCo a)
 |v=>wS v
def isTr:Tx->Bool
 | .tTr=>true
 |_=>false
def chkZ:Ix->Expr->Bool
 | .iZ _ _ _,e=>match e with
  | .Tuple _ _ _=>true
  |_=>false
 |_,_=>true
mutual
def yI:Ex->Sg->Expr->Bool
 | .c d,_,e=>match e with
  | .Constant k _ _=>cIs d k
  |_=>false
 | .gl d,sg,e=>match e with
  | .Name x _=>glb sg x&&gIs sg x d
  |_=>false
 | .var i,sg,e=>match e with
  | .Name x _=>vis sg i x
  |_=>false
 | .bin o a b,sg,e=>match e with
  | .BinOp x op y _=>op==o.op&&(yI a sg x&&yI b sg y)
  |_=>false
 | .cmp o a b,sg,e=>match e with
  | .Compare x [op] [y] _=>op==o.op&&yb y&&(yI a sg x&&yI b sg y)
  |_=>false
 | .chain o o' a b c,sg,e=>match e with
  | .Compare x [op,op'] [y,z] _=>op==o.op&&op'==o'.op&&o.isI&&o'.isI&&yb z&&(yI a sg x&&(yI b sg y&&yI c sg z))
  |_=>false
 | .neg a,sg,e=>match e with
  | .UnaryOp .USub x _=>yI a sg x
  |_=>false
 | .not a,sg,e=>match e with
  | .UnaryOp .Not x _=>yI a sg x
  |_=>false
 | .and a b,sg,e=>match e with
  | .BoolOp .And (x::y::r) p=>yI a sg x&&(match r with | []=>yI b sg y|z::r'=>yI b sg (.BoolOp .And (y::z::r') p))
  |_=>false
 | .tup as,sg,e=>match e with
  | .Tuple es _ _=>chkA as sg es
  |_=>false
 | .lst as,sg,e=>match e with
  | .List es _=>chkA as sg es
  |_=>false
 | .ix a b,sg,e=>match e with
  | .Subscript x y _=>Zw y&&(yI a sg x&&yI b sg y)
  |_=>false
 | .ixO i b,sg,e=>match e with
  | .Subscript (.Name x _) y _=>vis sg i x&&Zw y&&yI b sg y
  |_=>false
 | .sl a l h,sg,e=>match e with
  | .Subscript x (.Slice lo hi none _) _=>yI a sg x&&(chkO l sg lo&&chkO h sg hi)
  |_=>false
 | .comp nl loc capn caps it tg tt el,sg,e=>match e with
  | .ListComp elt [⟨target,iter,ifs,0⟩] scope _=>sg.calm&&(QL sg nl loc capn caps scope&&yb iter&&((chkZ it target&&chkI it sg iter)&&(WZ tg (Wa sg (loc++capn) scope) target&&((match ifs with | []=>isTr tt|c::cs=>cs.isEmpty&&chkT tt (Wa sg (loc++capn) scope) c)&&yI el (Wa sg (loc++capn) scope) elt))))
  |_=>false
 | .is T a,sg,e=>match e with
  | .Call (.Name f _) [x,.Name y _] [] _=>f == "isinstance"&&y==T.nm&&glb sg "isinstance"&&bIn sg "isinstance"&&glb sg T.nm&&bIn sg T.nm&&!zW x&&yI a sg x
  |_=>false
 | .cB b as,sg,e=>match e with
  | .Call (.Name f _) (x::es) [] _=>sg.calm&&(f==b.nm&&glb sg b.nm&&bIn sg b.nm&&yj (x::es)&&chkA as sg (x::es))
  |_=>false
 | .call k as,sg,e=>match e with
  | .Call (.Name f _) (x::es) [] _=>glb sg f&&fIs sg k f&&fArg sg (gLen as) k&&yj (x::es)&&chkG as sg (x::es)
  |_=>false
 | .stp k a,sg,e=>match e with
  | .Subscript x (.Slice none none (some st) _) _=>stIs k st&&yI a sg x
  |_=>false
 | .sset as,sg,e=>match e with
  | .Call (.Name t _) [.Call (.Name f _) [x] [] _] [] _=>sg.calm&&(t == "sorted"&&f == "set"&&glb sg "sorted"&&bIn sg "sorted"&&glb sg "set"&&bIn sg "set"&&!zW x&&chkA as sg [x])
  |_=>false
def chkT:Tx->Sg->Expr->Bool
 | .tOr a b,sg,e=>match e with
  | .BoolOp .Or (x::y::r) p=>chkT a sg x&&(match r with | []=>chkT b sg y|z::r'=>chkT b sg (.BoolOp .Or (y::z::r') p))
  |_=>false
 | .tNot a,sg,e=>match e with
  | .UnaryOp .Not x _=>chkT a sg x
  |_=>false
 | .tE a,sg,e=>(zBB e||isCmp a)&&yI a sg e
 | .tTr,_,_=>false
def chkA:Ax->Sg->List Expr->Bool
 | .nil,_,es=>es.isEmpty
 | .cons a as,sg,es=>match es with
  |x::r=>!zW x&&(yI a sg x&&chkA as sg r)
  | []=>false
def chkG:Gx->Sg->List Expr->Bool
 | .nil,_,es=>es.isEmpty
 | .ev a as,sg,es=>match es with
  |x::r=>!zW x&&(yI a sg x&&chkG as sg r)
  | []=>false
 | .lend i as,sg,es=>match es with
  | .Name x _::r=>vis sg i x&&chkG as sg r
  |_=>false
def chkO:Ox->Sg->Option Expr->Bool
 | .oN,_,o=>o.isNone
 | .oS a,sg,o=>match o with
  |some e=>yI a sg e
  |none=>false
def chkI:Ix->Sg->Expr->Bool
 | .iL a,sg,e=>yI a sg e
 | .iT a,sg,e=>yI a sg e
 | .iR1 as,sg,e=>match e with
  | .Call (.Name f _) [x] [] _=>f == "range"&&glb sg "range"&&bIn sg "range"&&!zW x&&chkA as sg [x]
  |_=>false
 | .iZ t1 t2 as,sg,e=>match e with
  | .Call (.Name f _) [x,y] [] _=>f == "zip"&&glb sg "zip"&&bIn sg "zip"&&!zW x&&!zW y&&chkA as sg [x,y]
  |_=>false
end
mutual
def chkS:Sx->Sg->Stmt->Bool
 | .sIf t a b,sg,e=>match e with
  | .If c x y _=>chkT t sg c&&(chkB a sg x&&chkB b sg y)
  |_=>false
 | .sSet i a,sg,e=>match e with
  | .Assign [.Name x px] v _=>locd sg i x&&setOk sg x px a v&&yI a sg v
  |_=>false
 | .sAny,_,_=>true
 | .sTup is a,sg,e=>match e with
  | .Assign [.Tuple es k p] v _=>sg.calm&&(WZ.all2 sg is es&&wS v&&swOk sg es v&&yI a sg v)
  |_=>false
 | .sRet a,sg,e=>match e with
  | .Return (some v) _=>yI a sg v
  |_=>false
 | .sIx i b a,sg,e=>match e with
  | .Assign [.Subscript (.Name x _) y _] v _=>vis sg i x&&Zw y&&wS v&&(yI b sg y&&yI a sg v)
  |_=>false
 | .sApp i a,sg,e=>match e with
  | .Expr (.Call (.Attribute (.Name x _) m ap) [v] [] cp) _=>m == "append"&&ap.endLine==cp.line&&vis sg i x&&!zW v&&yI a sg v
  |_=>false
 | .sForL a tg b,sg,e=>match e with
  | .For t it body [] _=>sg.calm&&(yb it&&WZ tg sg t&&(yI a sg it&&chkB b sg body))
  |_=>false
 | .sForT a tg b,sg,e=>match e with
  | .For t it body [] _=>sg.calm&&(yb it&&WZ tg sg t&&(yI a sg it&&chkB b sg body))
  |_=>false
 | .sForR1 as tg b,sg,e=>match e with
  | .For t (.Call (.Name f _) [x] [] _) body [] _=>sg.calm&&(f == "range"&&glb sg "range"&&bIn sg "range"&&!zW x&&WZ tg sg t&&(chkA as sg [x]&&chkB b sg body))
  |_=>false
def chkB:Bx->Sg->List Stmt->Bool
 | .bNil,_,l=>l.isEmpty
 | .bOne a,sg,l=>match l with
  | [s]=>chkS a sg s
  |_=>false
 | .bSeq a b,sg,l=>match l with
  |s::r=>chkS a sg s&&chkB b sg r
  |_=>false
end
structure SgOk(X:Cx)(sg:Sg):Prop where
 N:X.N=sg.N
 sc:X.env.scope=sg.sc
 fn:sg.top=true->∀x,X.fn x=true
 oc:∀x∈sg.oc,X.env.scope.names.lookup x=some .cell->X.fn x=true
 calm:sg.calm=true->X.calm=true
 hd:sg.calm=true->X.A.handled=none
 stk:sg.top=true->X.stack=X.env::X.outer/\X.env.frame=some X.env.locals
 nd:X.N.Nodup
 cs:∀x d,sg.cs.lookup x=some d->∃u v,X.mg x=some u/\zv v u/\∀H,Rep X.K X.mg H d v
 fs:∀i∈sg.fs,∃f fd ps,X.mg i.x=some (.ref f)/\keepIn X.K (.ref f)=true/\J4 X.K fd ps []/\ps.length=i.n/\FnOkN (!i.wild) X.prog X.w X.K X.mg X.base i.lv f fd ps (spM X.K X.mg i.n i.F)
 bs:∀x∈sg.bs,X.mg x=none
 room:RoomN sg.lv X.A
 cl:sg.cl≠[]->∃T,X.mg "ThrowError"=some (.ref T)/\TCls X.K T/\∀c∈sg.cl,∃C,X.mg c=some (.ref C)/\XCls X.K c C T/\C≠T
 rs:∀c∈sg.rs,∃C,X.mg c=some (.ref C)/\excIn X.K C VB "ValueError.__new__"=true
 sm:SmOk X.K
section
variable{X:Cx}{sg:Sg}
theorem Ja(G:SgOk X sg){x:Str}{k:NameKind}(h:kIs sg x k=true):X.env.scope.names.lookup x=some k:=by
 rw[G.sc];simpa[kIs]using h
theorem jr(G:SgOk X sg){x:Str}(h:glb sg x=true):Gl X x/\(x==("__debug__":Str))=false:=by
 simp only[glb,Bool.and_eq_true,Bool.not_eq_true']at h;exact⟨Ja G h.1,h.2⟩
theorem WK(G:SgOk X sg){x:Str}{i:Nat}{pos:Pos}(h:vis sg i x=true):PE X (.Name x pos) (Qk i):=by
 simp only[vis,Bool.and_eq_true,Bool.or_eq_true,Bool.not_eq_true']at h;refine pe_var (by rw[G.N];simpa using h.1.1) ?_ h.2.1 h.2.2;rcases h.1.2 with q|q|q
 ·exact .inl (Ja G q)
 ·exact .inr (.inl (Ja G q))
 ·exact .inr (.inr (Ja G q))
theorem W0(G:SgOk X sg){x:Str}{i:Nat}(h:locd sg i x=true):X.N[i]?=some x/\Loc X.env.scope x/\(X.fn x=true\/X.env.scope.names.lookup x=some .local):=by
 simp only[locd,Bool.and_eq_true,Bool.or_eq_true]at h;refine⟨by rw[G.N];simpa using h.1,?_⟩;rcases h.2 with q|q
 ·exact⟨.inl (Ja G q),.inr (Ja G q)⟩
 ·refine⟨.inr (Ja G q.1),.inl ?_⟩
  rcases q.2 with q2|q2
  ·exact G.fn q2 x
  ·exact G.oc x (by simpa using q2) (Ja G q.1)
theorem Jb(G:SgOk X sg){x:Str}(h:bIn sg x=true):X.mg x=none:=G.bs x (by simpa[bIn]using h)
theorem feq_of{d d':D}(h:feq d d'=true):d=d':=by
 cases d<;>cases d'<;>simp[feq]at h<;>first|rfl|(subst h;rfl)
theorem geq_of{d d':D}(h:geq d d'=true):d=d':=by
 unfold geq at h;split at h
 ·obtain⟨h1,h2⟩:=Bool.and_eq_true_iff.mp h
  have:=beq_iff_eq.mp h1;have:=beq_iff_eq.mp h2
  subst_vars;rfl
 ·have:=beq_iff_eq.mp h
  subst_vars;rfl
 ·exact feq_of h
theorem ok_glR{x:Str}{d:D}{u:Value}{v:V}{pos:Pos}(hg:Gl X x)(hm:X.mg x=some u)(r:zv v u)(hr:∀H,Rep X.K X.mg H d v)(hd:(x==("__debug__":Str))=false):EOk X (.Name x pos) (eC d) :=
 zy (pe_glob hg hm r hd) λσ H Q ⟨M,E,hl,fr,k⟩=>k _ H ((Got.refl (T0:=[]) hl fr).more (T:=[(some v,.val d)]) (FR.add fr (hr _)) Step.refl.add)
theorem fIs_of{k:Nat}{x:Str}(h:fIs sg k x=true):∃i,sg.fs[k]?=some i/\i.x=x:=by
 unfold fIs at h;split at h
 ·rename_i i e;exact⟨i,e,by simpa using h⟩
 ·cases h
theorem fArg_of{k n:Nat}(h:fArg sg n k=true):∃i,sg.fs[k]?=some i/\i.n=n/\i.lv<=sg.lv/\(sg.calm||i.wild)=true:=by
 unfold fArg at h;split at h
 ·rename_i i e
  simp only[Bool.and_eq_true,decide_eq_true_eq,beq_iff_eq]at h;exact⟨i,e,h.1.1,h.1.2,by simpa using h.2⟩
 ·cases h
theorem hd_of(G:SgOk X sg){b:Bool}(h:(sg.calm||b)=true):(!b)=true->X.A.handled=none:=λhb=>G.hd (by
 cases b with
 |true=>cases hb
 |false=>simpa using h)
theorem fiF_of{fs:List FI}{k:Nat}{i:FI}(h:fs[k]?=some i):fiF fs k=i.F/\fiX fs k=i.x:=by
 unfold fiF fiX;rw[h];exact⟨rfl,rfl⟩
theorem Yt{b:Expr}(h:Zw b=true):Y0 b:=by
 intro o i;cases b<;>first|rfl|(cases h)
theorem Jc(es:List Expr)(is:List Nat)(G:SgOk X sg)(h:WZ.all2 sg is es=true):PGs X es (wU is)/\(assignEach es X.env).length=is.length/\(assignEach es X.env).findIdx? (·.1)=none:=by
 induction es generalizing is with
 |nil =>
  cases is with
  |nil=>exact⟨pgs_nil,rfl,rfl⟩
  |cons i is=>cases h
 |cons e es ih =>
  cases is with
  |nil=>cases h
  |cons i is =>
   simp only[WZ.all2,Bool.and_eq_true]at h;obtain⟨h1,h2⟩:=h;cases e with
   |Name x pos =>
    obtain⟨q1,q2,q3⟩:=W0 G h1;obtain⟨i1,i2,i3⟩:=ih is h2;refine⟨Qw (um G.nd q1 q2 q3) i1 rfl,?_,?_⟩
    ·show(assignEach es X.env).length+1=_
     rw[i2];rfl
    ·show List.findIdx? _ ((false,_)::assignEach es X.env)=none
     simp only[List.findIdx?_cons,i3];rfl
   |_=>cases h1
def gOf(K:PySem.W.Frag):Tg->TG
 | .n i=>Wc i
 | .t is=>gTup K is.length (wU is)
theorem Yw(tg:Tg):GOk X (gOf X.K tg) tg.m:=by
 cases tg with
 |n i=>exact go_name i
 |t is=>exact zBJ is rfl
theorem QM{tg:Tg}{t:Expr}(hcm:sg.calm=true)(G:SgOk X sg)(h:WZ tg sg t=true):PG X t (gOf X.K tg):=by
 cases tg with
 |n i =>
  simp only[WZ]at h;cases t with
  |Name x pos =>
   obtain⟨q1,q2,q3⟩:=W0 G h;exact um G.nd q1 q2 q3
  |_=>cases h
 |t is =>
  simp only[WZ]at h;cases t with
  |Tuple es k pos =>
   obtain⟨q1,q2,q3⟩:=Jc es is G h;exact zA2 (G.calm hcm) q1 q2 q3
  |_=>cases h
theorem vv(G:SgOk X sg){N:List Str}{scope:Scope}(hn:N.Nodup)(hcell:∀y∈scope.names,y.2=.cell->scope.names.lookup y.1=some .cell){cl C ex s H}:SgOk (cxB X N scope cl C ex s H) (Wa sg N scope) where
 N:=rfl
 sc:=by
  show relabel scope X.env=relab scope sg.sc
  rw[<- G.sc];rfl
 fn:=λh=>by cases h
 oc:=λx h _=>by
  obtain⟨y,hy,rfl⟩:=mem_map.mp (show x∈(scope.names.filter λy=>y.2==.cell).map Prod.fst from h);obtain⟨q1,q2⟩:=mem_filter.mp hy;show(scope.names.lookup y.1==some NameKind.cell)=true;rw[hcell y q1 (by simpa using q2)];rfl
 calm:=G.calm
 hd:=G.hd
 stk:=λh=>by cases h
 nd:=hn
 cs:=G.cs
 fs:=G.fs
 bs:=G.bs
 room:=G.room
 cl:=G.cl
 rs:=G.rs
 sm:=G.sm
theorem yl(G:SgOk X sg):SgOk X.nox sg:=⟨G.N,G.sc,G.fn,G.oc,G.calm,G.hd,G.stk,G.nd,G.cs,G.fs,G.bs,G.room,G.cl,G.rs,G.sm⟩
end
section
open Bool
theorem kit_of(K:PySem.W.Frag)(T:Ty):Kit K T.s:=by
 cases T
 ·exact kit_int K
 ·exact zAZ K
 ·exact Gm K
 ·exact zAa K
 ·exact kit_str K
 ·exact zAb K
theorem bt_of(T:Ty):bootBuiltins T.nm=some (.type T.s):=by
 cases T
 ·exact zBM
 ·exact bt_bool
 ·exact vR
 ·exact Gn
 ·exact bt_str
 ·exact bt_dict
theorem nm_of(T:Ty):T.nm≠"__name__":=by cases T<;>decide +kernel
theorem bin_of{X:Cx}{o:Op2}{a b:Expr}{ma mb:ME}{pos:Pos}(ha:EOk X a ma)(hb:EOk X b mb):EOk X (.BinOp a o.op b pos) (YT o.f ma mb):=by
 cases o
 ·exact uP op_addD ro_add ha hb
 ·exact uP op_sub ro_sub ha hb
 ·exact uP (op_mulD.or op_repL) ro_mulG ha hb
 ·exact uP zAL ro_fdiv ha hb
 ·exact uP op_mod ro_mod ha hb
 ·exact uP op_pow ro_pow ha hb
theorem YN{X:Cx}{sg:Sg}(G:SgOk X sg):X.A.units+20<cLine:=by have:=G.room.un;omega
theorem zi{op:CmpOp}{b:Expr}(h:yb b=true):behindInMarks op b=false:=by
 cases b<;>first|rfl|(cases h)
theorem cmp_of{X:Cx}{sg:Sg}(G:SgOk X sg){o:Cp}{a b:Expr}{ma mb:ME}{pos:Pos}(hn:yb b=true)(ha:EOk X a ma)(hb:EOk X b mb):EOk X (.Compare a [o.op] [b] pos) (YT o.f ma mb):=by
 cases o
 ·exact JX op_lt ro_lt (zi hn) ha hb
 ·exact JX op_le ro_le (zi hn) ha hb
 ·exact JX op_gt ro_gt (zi hn) ha hb
 ·exact JX op_ge ro_ge (zi hn) ha hb
 ·exact JX (op_eq.or (zBN (YN G))) zBU (zi hn) ha hb
 ·exact JX (op_ne.or (zBO (YN G))) zBV (zi hn) ha hb
 ·exact JX (JV.or (QC G.sm (YN G))) (zBW (neg:=true)) (zi hn) ha hb
 ·exact JX vU vZ (zi hn) ha hb
theorem cmpT_of{X:Cx}{sg:Sg}(G:SgOk X sg){o:Cp}{a b:Expr}{ma mb:ME}{pos:Pos}(hn:yb b=true)(ha:EOk X a ma)(hb:EOk X b mb):TOk X (.Compare a [o.op] [b] pos) (tT (YT o.f ma mb)):=by
 cases o
 ·exact jm op_lt ro_lt (zi hn) ha hb
 ·exact jm op_le ro_le (zi hn) ha hb
 ·exact jm op_gt ro_gt (zi hn) ha hb
 ·exact jm op_ge ro_ge (zi hn) ha hb
 ·exact jm (op_eq.or (zBN (YN G))) zBU (zi hn) ha hb
 ·exact jm (op_ne.or (zBO (YN G))) zBV (zi hn) ha hb
 ·exact jm (JV.or (QC G.sm (YN G))) (zBW (neg:=true)) (zi hn) ha hb
 ·exact jm vU vZ (zi hn) ha hb
theorem QN{o o':CmpOp}{b c:Expr}(h:yb c=true):lastMarks [o,o'] [b,c]=false:=zi h
theorem vw{X:Cx}{o:Cp}(h:o.isI=true):OpR X (compareOp o.op) (rI0 λi j=>.bl (o.b i j)):=by
 cases o<;>first|exact op_lt|exact op_le|exact op_gt|exact op_ge|(cases h)
theorem bi_of{X:Cx}{sg:Sg}(hcm:sg.calm=true)(G:SgOk X sg)(b:Bi){x:Expr}{es:List Expr}{m:MA}{p pos:Pos}(hg:Gl X b.nm)(hm:X.mg b.nm=none)(hs:yj (x::es)=true)(ha:AOk X (x::es) m):EOk X (.Call (.Name b.nm p) (x::es) [] pos) (eCB b.f m):=by
 have h1:zW x=false:=by simp only[yj,Bool.and_eq_true,Bool.not_eq_true']at hs;exact hs.1
 have h2:yj es=true:=by simp only[yj,Bool.and_eq_true,Bool.not_eq_true']at hs;exact hs.2
 cases b with
 |len=>exact Js Zr co_len hg hm bt_len ha (by decide +kernel) (by decide +kernel) h1 h2
 |max=>exact Js (Wt (uz (G.calm hcm)) (Gy (G.calm hcm))) co_maxG hg hm bt_max ha (by decide +kernel) (by decide +kernel) h1 h2
 |all=>exact Js (zAH (G.calm hcm)) co_all hg hm bt_all ha (by decide +kernel) (by decide +kernel) h1 h2
 |int=>exact YA u9 co_int hg hm zBM ha (by decide +kernel) (by decide +kernel) h1 h2
 |tuple=>exact YA Y3 zAN hg hm vR ha (by decide +kernel) (by decide +kernel) h1 h2
 |list=>exact YA Zs co_list hg hm Gn ha (by decide +kernel) (by decide +kernel) h1 h2
 |min=>exact Js (Wt (Wt (u8 (G.calm hcm)) (Gz (G.calm hcm))) (QE (G.calm hcm) (YN G))) co_minH hg hm bt_min ha (by decide +kernel) (by decide +kernel) h1 h2
theorem QO(fs:List FI):∀as:Gx,(dG fs as).length=gLen as
 | .nil=>rfl
 | .ev a as=>congrArg (·+1) (QO fs as)
 | .lend i as=>congrArg (·+1) (QO fs as)
theorem call_ok{X:Cx}{sg:Sg}(G:SgOk X sg){k:Nat}{as:Gx}{f:Str}{x:Expr}{es:List Expr}{p pos:Pos}(h1:glb sg f=true)(h2:fIs sg k f=true)(h3:fArg sg (gLen as) k=true)(h4:yj (x::es)=true)(ha:zBK X (x::es) (dG sg.fs as)):EOk X (.Call (.Name f p) (x::es) [] pos) (jo (fiF sg.fs k) (dG sg.fs as)):=by
 obtain⟨g1,g2⟩:=jr G h1;obtain⟨i,e1,e2⟩:=fIs_of h2;obtain⟨i',e1',e3,e4,e5⟩:=fArg_of h3;rw[e1]at e1';cases e1';obtain⟨a,fd,ps,m1,m2,m3,m4,m5⟩:=G.fs i (mem_of_getElem? e1);rw[(fiF_of e1).1];subst e2;simp only[yj,Bool.and_eq_true,Bool.not_eq_true']at h4;rw[<- m4]at m5;exact ok_call m5 (hd_of G e5) (G.room.mono e4) g1 m1 m2 m3 ha (by rw[QO,m4,e3]) g2 h4.1 h4.2
theorem QP{X:Cx}{sg:Sg}(G:SgOk X sg){scope:Scope}:∀{caps:List Nat} {capn:List Str},capB sg scope caps capn=true->Gp X scope caps capn
 | [],[],_=>trivial
 | [],_::_,h=>by cases h
 |_::_,[],h=>by cases h
 |j::js,x::xs,h=>by
  simp only[capB,Bool.and_eq_true]at h;exact⟨by rw[G.N];simpa using h.1.1,by simpa using h.1.2,QP G h.2⟩
end
section
theorem set_of{x:Str}{p p1:Pos}{b:Expr}{env:Env}(h:Zw b=true):∀v,assign (.Subscript (.Name x p) b p1) env v=(do
   let ov <- holding [v] (eval (.Name x p) env)
   let iv <- holding [v,ov] (eval b env)
   standAt p1
   holding [v,ov,iv] (setItem ov iv v)
   release [v,ov,iv] []):=by
 intro v;cases b<;>first|rfl|(cases h)
theorem QR{t e:Expr}{l:Nat}{env:Env}(h:wS e=true):swapsWithSole [t] e l env=pure false:=by
 show swapsWith e (some t) l env=pure false
 exact vL h
theorem st_of{X:Cx}{k:Bool}{st:Expr}(h:stIs k st=true):PE X st (tC (.int (yC k))):=by
 cases k with
 |true =>
  simp only[stIs]at h;split at h
  ·have:=beq_iff_eq.mp h;subst this
   exact uk
  ·cases h
 |false =>
  simp only[stIs]at h;split at h
  ·have:=beq_iff_eq.mp h;subst this
   exact zy (pe_un zA5 uk) λσ H Q q=>⟨1,rfl,q⟩
  ·cases h
theorem kind_fn{X:Cx}{sg:Sg}(G:SgOk X sg)(h:(sg.sc.kind==ScopeKind.function)=true):X.env.blockKind=.function:=by
 have:X.env.scope.kind=.function:=by rw[G.sc];exact beq_iff_eq.mp h
 unfold Env.blockKind;rw[this];rfl
theorem zBX{X:Cx}{sg:Sg}(G:SgOk X sg)(hk:(sg.sc.kind==ScopeKind.function)=true){el:Expr}{gs:List Comprehension}{scope:Scope}{vp px:Pos}{x:Str}{l:Nat}:swapsWith (.ListComp el gs scope vp) (some (.Name x px)) l X.env=pure (swB sg x px scope vp):=by
 show(pure (X.env.blockKind==.function&&X.env.kindOf x==some .local&&px.line==vp.line&&!(scope.names.any λ(n,k)=>n==x&&(k==.local||k==.cell))):Sem Bool)=_
 rw[kind_fn G hk];unfold swB kIs Env.kindOf;rw[G.sc];simp
theorem zBY{α β:Type}(f:α->Option β):∀l:List α,(l.filterMap f).length<=l.length
 | []=>le_refl _
 |a::l=>by
  have:=zBY f l;rw[filterMap_cons];split
  ·simp only[length_cons];omega
  ·simp only[length_cons];omega
theorem fm_lt{α β:Type}(f:α->Option β):∀l:List α,(∃a∈l,f a=none)->(l.filterMap f).length<l.length
 | [],h=>by obtain⟨a,h,_⟩:=h;cases h
 |b::l,h=>by
  obtain⟨a,hm,hf⟩:=h;rw[filterMap_cons];rcases mem_cons.mp hm with rfl|hm
  ·rw[hf]
   have:=zBY f l;simp only[length_cons];omega
  ·have:=fm_lt f l ⟨a,hm,hf⟩
   split
   ·simp only[length_cons];omega
   ·simp only[length_cons];omega
theorem sw_ok{X:Cx}{sg:Sg}(G:SgOk X sg){es:List Expr}{k:Nat}{p:Pos}{v:Expr}(h:swOk sg es v=true):swappedStores [.Tuple es k p] v X.env=pure none:=by
 cases v with
 |Tuple vs k2 p2 =>
  unfold swappedStores;dsimp only;split
  ·rfl
  split
  ·rfl
  split
  ·rfl
  rename_i hn;split
  ·rfl
  rename_i hf
  exfalso
  rcases Bool.or_eq_true _ _ |>.mp h with h|h
  ·obtain⟨e,he,hk⟩:=List.any_eq_true.mp h
   refine hn (Bool.or_eq_true _ _ |>.mpr (.inl ?_));refine bne_iff_ne.mpr (ne_of_lt (fm_lt _ es ⟨e,he,?_⟩));cases e with
   |Name x q =>
    have:X.env.kindOf x≠some .local:=λz=>by
     have z':sg.sc.names.lookup x=some .local:=by rw[<- G.sc];exact z
     simp[kIs,z']at hk
    have e1:(X.env.kindOf x==some NameKind.local)=false:=by simpa using this
    simp[e1]
   |_=>rfl
  ·exact hf h
 |_=>rfl
theorem w_of_t{X:Cx}{op:BoolOp}{vs:List Expr}{p:Pos}{m:MT}(h:TOk X (.BoolOp op vs p) m):WOk X (.BoolOp op vs p) m:=λwh=>h
theorem few_of{e:Expr}{env:Env}{cpos:Pos}(h:zW e=false):((backTo cpos (starEach (e::[]) env)).all (λx=>!x.1)&&(backToKw cpos (keywordEach [] env)).all (λx=>x.1.isSome)
   && decide ((e::([]:List Expr)).length+([]:List Keyword).length+(if([]:List Keyword).isEmpty then 0 else 1)<30))=true:=by
 rw[zd h];rfl
theorem zO{a b:Bool}(h:(a&&b)=true):a=true/\b=true:=by simpa using h
theorem nst{a:Bool}(h:(!a)=true):a=false:=by simpa using h
mutual
theorem sE:∀(t:Ex) {X:Cx} {sg:Sg} {e:Expr},SgOk X sg->yI t sg e=true->EOk X e (dE sg.fs t)
 | .c d,X,sg,e,G,h=>by
  cases e with
  |Constant k w1 w2 =>
   replace h:(cIs d k)=true:=h;unfold cIs at h;split at h
   ·exact ok_non
   ·have:=(beq_iff_eq.mp h);subst this;exact ok_bl
   ·have:=(beq_iff_eq.mp h);subst this;exact ok_int
   ·have:=(beq_iff_eq.mp h);subst this;exact ok_str
   ·cases h
  |_=>exact nf h
 | .gl d,X,sg,e,G,h=>by
  cases e with
  |Name x w1 =>
   replace h:(glb sg x&&gIs sg x d)=true:=h;obtain⟨h1,h2⟩:=zO h;obtain⟨g1,g2⟩:=jr G h1;unfold gIs at h2;split at h2
   ·rename_i d' e
    have:=geq_of h2;subst this;obtain⟨u,v,q1,q2,q3⟩:=G.cs x d e;exact ok_glR g1 q1 q2 q3 g2
   ·cases h2
  |_=>exact nf h
 | .var i,X,sg,e,G,h=>by
  cases e with
  |Name x w1 =>
   replace h:(vis sg i x)=true:=h;exact ok_var i (WK G h)
  |_=>exact nf h
 | .bin o a b,X,sg,e,G,h=>by
  cases e with
  |BinOp x op y w1 =>
   replace h:(op==o.op&&(yI a sg x&&yI b sg y))=true:=h;obtain⟨h1,h2⟩:=zO h;obtain⟨h2,h3⟩:=zO h2;have:=beq_iff_eq.mp h1;subst this;exact bin_of (sE a G h2) (sE b G h3)
  |_=>exact nf h
 | .cmp o a b,X,sg,e,G,h=>by
  cases e with
  |Compare x v1 v2 w1 =>
   cases v1 with
   |cons op v3 =>
    cases v3 with
    |nil =>
     cases v2 with
     |cons y v4 =>
      cases v4 with
      |nil =>
       replace h:(op==o.op&&yb y&&(yI a sg x&&yI b sg y))=true:=h;obtain⟨h1,h2⟩:=zO h;obtain⟨h1,h0⟩:=zO h1;obtain⟨h2,h3⟩:=zO h2;have:=beq_iff_eq.mp h1;subst this;exact cmp_of G h0 (sE a G h2) (sE b G h3)
      |_=>exact nf h
     |_=>exact nf h
    |_=>exact nf h
   |_=>exact nf h
  |_=>exact nf h
 | .chain o o' a b c,X,sg,e,G,h=>by
  cases e with
  |Compare x v5 v6 w1 =>
   cases v5 with
   |cons op v7 =>
    cases v7 with
    |cons op' v8 =>
     cases v8 with
     |nil =>
      cases v6 with
      |cons y v9 =>
       cases v9 with
       |cons z v10 =>
        cases v10 with
        |nil =>
         replace h:(op==o.op&&op'==o'.op&&o.isI&&o'.isI&&yb z&&(yI a sg x&&(yI b sg y&&yI c sg z)))=true:=h;obtain⟨h1,h2⟩:=zO h;obtain⟨h1,k5⟩:=zO h1;obtain⟨h1,k4⟩:=zO h1;obtain⟨h1,k3⟩:=zO h1;obtain⟨k1,k2⟩:=zO h1;obtain⟨h2,h3⟩:=zO h2;obtain⟨h3,h4⟩:=zO h3;have:=beq_iff_eq.mp k1;subst this;have:=beq_iff_eq.mp k2;subst this;exact zAc (vw k3) (vw k4) (sE a G h2) (sE b G h3) (sE c G h4) (QN k5)
        |_=>exact nf h
       |_=>exact nf h
      |_=>exact nf h
     |_=>exact nf h
    |_=>exact nf h
   |_=>exact nf h
  |_=>exact nf h
 | .neg a,X,sg,e,G,h=>by
  cases e with
  |UnaryOp v11 x w1 =>
   cases v11 with
   |USub =>
    replace h:(yI a sg x)=true:=h;exact ok_neg (sE a G h)
   |_=>exact nf h
  |_=>exact nf h
 | .not a,X,sg,e,G,h=>by
  cases e with
  |UnaryOp v12 x w1 =>
   cases v12 with
   |Not =>
    replace h:(yI a sg x)=true:=h;exact ok_not (sE a G h)
   |_=>exact nf h
  |_=>exact nf h
 | .and a b,X,sg,e,G,h=>by
  cases e with
  |BoolOp v13 v14 p =>
   cases v13 with
   |And =>
    cases v14 with
    |cons x v15 =>
     cases v15 with
     |cons y r =>
      replace h:(yI a sg x&&_)=true:=h;obtain⟨h1,h2⟩:=zO h;cases r with
      |nil=>exact zBD (sE a G h1) (ok_one (sE b G h2))
      |cons z r'=>exact zBD (sE a G h1) (sE b G h2)
     |_=>exact nf h
    |_=>exact nf h
   |_=>exact nf h
  |_=>exact nf h
 | .tup as,X,sg,e,G,h=>by
  cases e with
  |Tuple es w1 w2 =>
   replace h:(chkA as sg es)=true:=h;exact ok_tup (sA as G h)
  |_=>exact nf h
 | .lst as,X,sg,e,G,h=>by
  cases e with
  |List es w1 =>
   replace h:(chkA as sg es)=true:=h;exact ok_lst (sA as G h)
  |_=>exact nf h
 | .ix a b,X,sg,e,G,h=>by
  cases e with
  |Subscript x y w1 =>
   replace h:(Zw y&&(yI a sg x&&yI b sg y))=true:=h;obtain⟨h1,h2⟩:=zO h;obtain⟨h2,h3⟩:=zO h2;exact ok_ix ix_both ro_ix (Yt h1) (sE a G h2) (sE b G h3)
  |_=>exact nf h
 | .ixO i b,X,sg,e,G,h=>by
  cases e with
  |Subscript v21 y w2 =>
   cases v21 with
   |Name x w1 =>
    replace h:(vis sg i x&&Zw y&&yI b sg y)=true:=h;obtain⟨h1,h2⟩:=zO h;obtain⟨h1,h3⟩:=zO h1;exact ok_ixO i (WK G h1) (sE b G h2) (Yt h3)
   |_=>exact nf h
  |_=>exact nf h
 | .sl a l hh,X,sg,e,G,h=>by
  cases e with
  |Subscript x v27 w2 =>
   cases v27 with
   |Slice lo hi v28 w1 =>
    cases v28 with
    |none =>
     replace h:(yI a sg x&&(chkO l sg lo&&chkO hh sg hi))=true:=h;obtain⟨h1,h2⟩:=zO h;obtain⟨h2,h3⟩:=zO h2;exact ok_sl (sE a G h1) (sO l G h2) (sO hh G h3)
    |_=>exact nf h
   |_=>exact nf h
  |_=>exact nf h
 | .comp nl loc capn caps it tg tt el,X,sg,e,G,h=>by
  cases e with
  |ListComp elt v29 scope w1 =>
   cases v29 with
   |cons v30 v31 =>
    cases v30 with
    |mk target iter ifs v32 =>
     cases v32 with
     |ofNat v33 =>
      cases v33 with
      |zero =>
       cases v31 with
       |nil =>
        replace h:(sg.calm&&(QL sg nl loc capn caps scope&&yb iter&&((chkZ it target&&chkI it sg iter)&&(WZ tg (Wa sg (loc++capn) scope) target&&(_&&yI el (Wa sg (loc++capn) scope) elt)))))=true:=h;obtain⟨hcm,h⟩:=zO h;obtain⟨h1,h2⟩:=zO h;obtain⟨h1,k9⟩:=zO h1;unfold QL at h1;obtain⟨h1,k7⟩:=zO h1;obtain⟨h1,k6⟩:=zO h1;obtain⟨h1,k5⟩:=zO h1;obtain⟨h1,k4⟩:=zO h1;obtain⟨h1,k3⟩:=zO h1;obtain⟨k1,k2⟩:=zO h1;obtain⟨q1,q2⟩:=zO h2;obtain⟨q0,q1⟩:=zO q1;obtain⟨q2,q3⟩:=zO q2;obtain⟨q3,q4⟩:=zO q3;have nd:(loc++capn).Nodup:=of_decide_eq_true k3;have kc:∀y∈scope.names,y.2=.cell->scope.names.lookup y.1=some .cell:=λy hy hc=>by
         have:=all_eq_true.mp k5 y hy;rw[hc]at this;simpa using this
        have I:∀cl C ex s H,SgOk (cxB X.nox (loc++capn) scope cl C ex s H) (Wa sg (loc++capn) scope):=λ_ _ _ _ _=>vv (yl G) nd kc
        refine no_E (ok_lc (X:=X.nox) loc capn (beq_iff_eq.mp k1) (λe s z=>z) (G.calm hcm) (beq_iff_eq.mp k2) (λy hy hl=>?_) (λy hy hc=>?_) (by rw[show X.env.kindOf=λn=>X.env.scope.names.lookup n from rfl,G.sc];exact k6) (QP (yl G) k7) (sI it (yl G) q1 q0) (g:=gOf X.K tg) (λcl C ex s H=>QM (sg:=Wa sg (loc++capn) scope) hcm (I cl C ex s H) q2) (Yw tg) (λcl C ex s H=>?_) (λcl C ex s H=>sE (sg:=Wa sg (loc++capn) scope) el (I cl C ex s H) q4) (jl k9))
        ·have:=all_eq_true.mp k4 y hy
         rw[hl]at this;simpa using this
        ·exact kc y hy hc
        ·cases ifs with
         |nil =>
          cases tt<;>first|(cases q3;done)|skip;exact Ge
         |cons c cs =>
          obtain⟨q3,q5⟩:=zO q3;have:=isEmpty_iff.mp q3;subst this;exact Gf (sT (sg:=Wa sg (loc++capn) scope) tt (I cl C ex s H) q5)
       |_=>exact nf h
      |_=>exact nf h
     |_=>exact nf h
   |_=>exact nf h
  |_=>exact nf h
 | .is T a,X,sg,e,G,h=>by
  cases e with
  |Call v34 v35 v36 w3 =>
   cases v34 with
   |Name f w1 =>
    cases v35 with
    |cons x v37 =>
     cases v37 with
     |cons v38 v39 =>
      cases v38 with
      |Name y w2 =>
       cases v39 with
       |nil =>
        cases v36 with
        |nil =>
         replace h:(f == "isinstance"&&y==T.nm&&glb sg "isinstance"&&bIn sg "isinstance"&&glb sg T.nm&&bIn sg T.nm&&!zW x&&yI a sg x)=true:=h;obtain⟨h1,h2⟩:=zO h;obtain⟨h1,k7⟩:=zO h1;obtain⟨h1,k6⟩:=zO h1;obtain⟨h1,k5⟩:=zO h1;obtain⟨h1,k4⟩:=zO h1;obtain⟨h1,k3⟩:=zO h1;obtain⟨k1,k2⟩:=zO h1;have:=beq_iff_eq.mp k1;subst this;have:=beq_iff_eq.mp k2;subst this;exact ok_is (kit_of _ T) (jr G k3).1 (Jb G k4) (jr G k5).1 (Jb G k6) (bt_of T) (sE a G h2) ZG (nm_of T) (jr G k5).2 (nst k7)
        |_=>exact nf h
       |_=>exact nf h
      |_=>exact nf h
     |_=>exact nf h
    |_=>exact nf h
   |_=>exact nf h
  |_=>exact nf h
 | .cB b as,X,sg,e,G,h=>by
  cases e with
  |Call v40 v41 v42 w2 =>
   cases v40 with
   |Name f w1 =>
    cases v41 with
    |cons x es =>
     cases v42 with
     |nil =>
      replace h:(sg.calm&&(f==b.nm&&glb sg b.nm&&bIn sg b.nm&&yj (x::es)&&chkA as sg (x::es)))=true:=h;obtain⟨hcm,h⟩:=zO h;obtain⟨h1,h2⟩:=zO h;obtain⟨h1,k4⟩:=zO h1;obtain⟨h1,k3⟩:=zO h1;obtain⟨k1,k2⟩:=zO h1;have:=beq_iff_eq.mp k1;subst this;exact bi_of hcm G b (jr G k2).1 (Jb G k3) k4 (sA as G h2)
     |_=>exact nf h
    |_=>exact nf h
   |_=>exact nf h
  |_=>exact nf h
 | .call k as,X,sg,e,G,h=>by
  cases e with
  |Call v43 v44 v45 w2 =>
   cases v43 with
   |Name f w1 =>
    cases v44 with
    |cons x es =>
     cases v45 with
     |nil =>
      replace h:(glb sg f&&fIs sg k f&&fArg sg (gLen as) k&&yj (x::es)&&chkG as sg (x::es))=true:=h;obtain⟨h1,h2⟩:=zO h;obtain⟨h1,k4⟩:=zO h1;obtain⟨h1,k3⟩:=zO h1;obtain⟨k1,k2⟩:=zO h1;exact call_ok G k1 k2 k3 k4 (sG as G h2)
     |_=>exact nf h
    |_=>exact nf h
   |_=>exact nf h
  |_=>exact nf h
 | .stp k a,X,sg,e,G,h=>by
  cases e with
  |Subscript x v46 w2 =>
   cases v46 with
   |Slice v47 v48 v49 w1 =>
    cases v47 with
    |none =>
     cases v48 with
     |none =>
      cases v49 with
      |some st =>
       replace h:(stIs k st&&yI a sg x)=true:=h;obtain⟨h1,h2⟩:=zO h;exact ok_step k (sE a G h2) (st_of h1)
      |_=>exact nf h
     |_=>exact nf h
    |_=>exact nf h
   |_=>exact nf h
  |_=>exact nf h
 | .sset as,X,sg,e,G,h=>by
  cases e with
  |Call z1 z2 z3 w1 =>
   cases z1 with
   |Name t w2 =>
    cases z2 with
    |cons y z5 =>
     cases y with
     |Call z6 z7 z8 w3 =>
      cases z6 with
      |Name f w4 =>
       cases z7 with
       |cons x z9 =>
        cases z9 with
        |nil =>
         cases z8 with
         |nil =>
          cases z5 with
          |nil =>
           cases z3 with
           |nil =>
            replace h:(sg.calm&&(t == "sorted"&&f == "set"&&glb sg "sorted"&&bIn sg "sorted"&&glb sg "set"&&bIn sg "set"&&!zW x&&chkA as sg [x]))=true:=h;obtain⟨hcm,h⟩:=zO h;obtain⟨h1,h2⟩:=zO h;obtain⟨h1,k7⟩:=zO h1;obtain⟨h1,k6⟩:=zO h1;obtain⟨h1,k5⟩:=zO h1;obtain⟨h1,k4⟩:=zO h1;obtain⟨h1,k3⟩:=zO h1;obtain⟨k1,k2⟩:=zO h1;have:=beq_iff_eq.mp k1;subst this;have:=beq_iff_eq.mp k2;subst this;exact ok_sset (G.calm hcm) (jr G k3).1 (Jb G k4) (jr G k5).1 (Jb G k6) (sA as G h2) (nst k7)
           |_=>exact nf h
          |_=>exact nf h
         |_=>exact nf h
        |_=>exact nf h
       |_=>exact nf h
      |_=>exact nf h
     |_=>exact nf h
    |_=>exact nf h
   |_=>exact nf h
  |_=>exact nf h
theorem sT:∀(t:Tx) {X:Cx} {sg:Sg} {e:Expr},SgOk X sg->chkT t sg e=true->TOk X e (dT sg.fs t)
 | .tOr a b,X,sg,e,G,h=>by
  cases e with
  |BoolOp v62 v63 p =>
   cases v62 with
   |Or =>
    cases v63 with
    |cons x v64 =>
     cases v64 with
     |cons y r =>
      replace h:(chkT a sg x&&_)=true:=h;obtain⟨h1,h2⟩:=zO h;cases r with
      |nil=>exact tk_w (wk_or (sT a G h1) (wk_or1 (sT b G h2)))
      |cons z r'=>exact tk_w (wk_or (sT a G h1) (w_of_t (sT b G h2)))
     |_=>exact nf h
    |_=>exact nf h
   |_=>exact nf h
  |_=>exact nf h
 | .tNot a,X,sg,e,G,h=>by
  cases e with
  |UnaryOp v65 x w1 =>
   cases v65 with
   |Not =>
    replace h:(chkT a sg x)=true:=h;exact tk_not (sT a G h)
   |_=>exact nf h
  |_=>exact nf h
 | .tE a,X,sg,e,G,h=>by
  obtain⟨h1,h2⟩:=zO h;rcases Bool.or_eq_true _ _ |>.mp h1 with h1|h1
  ·exact ok_test (sE a G h2) (test_of h1)
  ·cases a with
   |cmp o a b =>
    cases e with
    |Compare x v66 v67 w1 =>
     cases v66 with
     |cons op v68 =>
      cases v68 with
      |nil =>
       cases v67 with
       |cons y v69 =>
        cases v69 with
        |nil =>
         replace h2:(op==o.op&&yb y&&(yI a sg x&&yI b sg y))=true:=h2;obtain⟨h1,k1⟩:=zO h2;obtain⟨h1,h0⟩:=zO h1;obtain⟨k2,k3⟩:=zO k1;have:=beq_iff_eq.mp h1;subst this;exact cmpT_of G h0 (sE a G k2) (sE b G k3)
        |_=>exact absurd h2 Bool.false_ne_true
       |_=>exact absurd h2 Bool.false_ne_true
      |_=>exact absurd h2 Bool.false_ne_true
     |_=>exact absurd h2 Bool.false_ne_true
    |_=>exact absurd h2 Bool.false_ne_true
   |chain o o' a b c =>
    cases e with
    |Compare x v70 v71 w1 =>
     cases v70 with
     |cons op v72 =>
      cases v72 with
      |cons op' v73 =>
       cases v73 with
       |nil =>
        cases v71 with
        |cons y v74 =>
         cases v74 with
         |cons z v75 =>
          cases v75 with
          |nil =>
           replace h2:(op==o.op&&op'==o'.op&&o.isI&&o'.isI&&yb z&&(yI a sg x&&(yI b sg y&&yI c sg z)))=true:=h2;obtain⟨h1,j2⟩:=zO h2;obtain⟨h1,k5⟩:=zO h1;obtain⟨h1,k4⟩:=zO h1;obtain⟨h1,k3⟩:=zO h1;obtain⟨k1,k2⟩:=zO h1;obtain⟨j2,j3⟩:=zO j2;obtain⟨j3,j4⟩:=zO j3;have:=beq_iff_eq.mp k1;subst this;have:=beq_iff_eq.mp k2;subst this;exact Go (vw k3) (vw k4) (sE a G j2) (sE b G j3) (sE c G j4) (QN k5)
          |_=>exact absurd h2 Bool.false_ne_true
         |_=>exact absurd h2 Bool.false_ne_true
        |_=>exact absurd h2 Bool.false_ne_true
       |_=>exact absurd h2 Bool.false_ne_true
      |_=>exact absurd h2 Bool.false_ne_true
     |_=>exact absurd h2 Bool.false_ne_true
    |_=>exact absurd h2 Bool.false_ne_true
   |_=>cases h1
 | .tTr,X,sg,e,G,h=>absurd h Bool.false_ne_true
theorem sA:∀(t:Ax) {X:Cx} {sg:Sg} {e:List Expr},SgOk X sg->chkA t sg e=true->AOk X e (dA sg.fs t)
 | .nil,X,sg,e,G,h=>by
  have:=isEmpty_iff.mp h;subst this;exact ak_nil
 | .cons a as,X,sg,e,G,h=>by
  cases e with
  |cons x r =>
   replace h:(!zW x&&(yI a sg x&&chkA as sg r))=true:=h;obtain⟨h1,h2⟩:=zO h;obtain⟨h2,h3⟩:=zO h2;exact ak_cons (sE a G h2) (sA as G h3) (nst h1)
  |_=>exact nf h
theorem sG:∀(t:Gx) {X:Cx} {sg:Sg} {e:List Expr},SgOk X sg->chkG t sg e=true->zBK X e (dG sg.fs t)
 | .nil,X,sg,e,G,h=>by
  have:=isEmpty_iff.mp h;subst this;exact ga_nil
 | .ev a as,X,sg,e,G,h=>by
  cases e with
  |cons x r =>
   replace h:(!zW x&&(yI a sg x&&chkG as sg r))=true:=h;obtain⟨h1,h2⟩:=zO h;obtain⟨h2,h3⟩:=zO h2;exact ga_ev (sE a G h2) (sG as G h3) (nst h1)
  |_=>exact nf h
 | .lend i as,X,sg,e,G,h=>by
  cases e with
  |cons v76 r =>
   cases v76 with
   |Name x w1 =>
    replace h:(vis sg i x&&chkG as sg r)=true:=h;obtain⟨h1,h2⟩:=zO h;exact ga_lend (WK G h1) (sG as G h2)
   |_=>exact nf h
  |_=>exact nf h
theorem sO:∀(t:Ox) {X:Cx} {sg:Sg} {e:Option Expr},SgOk X sg->chkO t sg e=true->OOk X e (dO sg.fs t)
 | .oN,X,sg,e,G,h=>by
  cases e with
  |none=>exact oo_none
  |some e=>cases h
 | .oS a,X,sg,e,G,h=>by
  cases e with
  |none=>cases h
  |some e=>exact oo_some (sE a G h)
theorem sI:∀(t:Ix) {X:Cx} {sg:Sg} {tg e:Expr},SgOk X sg->chkI t sg e=true->chkZ t tg=true->IOk X tg e (dI sg.fs t)
 | .iL a,X,sg,tg,e,G,h,hz=>by
  exact io_list (sE a G h)
 | .iT a,X,sg,tg,e,G,h,hz=>by
  exact io_tup (sE a G h)
 | .iR1 as,X,sg,tg,e,G,h,hz=>by
  cases e with
  |Call v77 v78 v79 w2 =>
   cases v77 with
   |Name f w1 =>
    cases v78 with
    |cons x v80 =>
     cases v80 with
     |nil =>
      cases v79 with
      |nil =>
       replace h:(f == "range"&&glb sg "range"&&bIn sg "range"&&!zW x&&chkA as sg [x])=true:=h;obtain⟨h1,h2⟩:=zO h;obtain⟨h1,k4⟩:=zO h1;obtain⟨h1,k3⟩:=zO h1;obtain⟨k1,k2⟩:=zO h1;have:=beq_iff_eq.mp k1;subst this;exact io_r1 (jr G k2).1 (Jb G k3) (sA as G h2) (nst k4)
      |_=>exact nf h
     |_=>exact nf h
    |_=>exact nf h
   |_=>exact nf h
  |_=>exact nf h
 | .iZ t1 t2 as,X,sg,tg,e,G,h,hz=>by
  cases e with
  |Call v81 v82 v83 w2 =>
   cases v81 with
   |Name f w1 =>
    cases v82 with
    |cons x v84 =>
     cases v84 with
     |cons y v85 =>
      cases v85 with
      |nil =>
       cases v83 with
       |nil =>
        replace h:(f == "zip"&&glb sg "zip"&&bIn sg "zip"&&!zW x&&!zW y&&chkA as sg [x,y])=true:=h;obtain⟨h1,h2⟩:=zO h;obtain⟨h1,k5⟩:=zO h1;obtain⟨h1,k4⟩:=zO h1;obtain⟨h1,k3⟩:=zO h1;obtain⟨k1,k2⟩:=zO h1;have:=beq_iff_eq.mp k1;subst this;cases tg with
        |Tuple tE tX tP=>exact io_zip (jr G k2).1 (Jb G k3) (sA as G h2) (nst k4) (nst k5)
        |_=>exact absurd hz Bool.false_ne_true
       |_=>exact nf h
      |_=>exact nf h
     |_=>exact nf h
    |_=>exact nf h
   |_=>exact nf h
  |_=>exact nf h
end
theorem zAr{X:Cx}{sg:Sg}(G:SgOk X sg){i:Nat}{x:Str}{px spos:Pos}{nl:Nat}{loc capn:List Str}{caps:List Nat}{it:Ix}{tg:Tg}{tt:Tx}{el:Ex}{v:Expr}(hi:X.N[i]?=some x)(hx:Loc X.env.scope x)(hf:X.fn x=true\/X.env.scope.names.lookup x=some .local)
  (hsw:swapsWith v (some (.Name x px)) spos.line X.env=pure true) (h:yI (.comp nl loc capn caps it tg tt el) sg v=true):SOk X (.Assign [.Name x px] v spos) (sSet i (dE sg.fs (.comp nl loc capn caps it tg tt el))):=by
 cases v with
 |ListComp elt v86 scope w1 =>
  cases v86 with
  |cons v87 v88 =>
   cases v87 with
   |mk target iter ifs v89 =>
    cases v89 with
    |ofNat v90 =>
     cases v90 with
     |zero =>
      cases v88 with
      |nil =>
       replace h:(sg.calm&&(QL sg nl loc capn caps scope&&yb iter&&((chkZ it target&&chkI it sg iter)&&(WZ tg (Wa sg (loc++capn) scope) target&&(_&&yI el (Wa sg (loc++capn) scope) elt)))))=true:=h;obtain⟨hcm,h⟩:=zO h;obtain⟨h1,h2⟩:=zO h;obtain⟨h1,k9⟩:=zO h1;unfold QL at h1;obtain⟨h1,k7⟩:=zO h1;obtain⟨h1,k6⟩:=zO h1;obtain⟨h1,k5⟩:=zO h1;obtain⟨h1,k4⟩:=zO h1;obtain⟨h1,k3⟩:=zO h1;obtain⟨k1,k2⟩:=zO h1;obtain⟨q1,q2⟩:=zO h2;obtain⟨q0,q1⟩:=zO q1;obtain⟨q2,q3⟩:=zO q2;obtain⟨q3,q4⟩:=zO q3;have nd:(loc++capn).Nodup:=of_decide_eq_true k3;have kc:∀y∈scope.names,y.2=.cell->scope.names.lookup y.1=some .cell:=λy hy hc=>by
        have:=all_eq_true.mp k5 y hy;rw[hc]at this;simpa using this
       have I:∀cl C ex s H,SgOk (cxB X.nox (loc++capn) scope cl C ex s H) (Wa sg (loc++capn) scope):=λ_ _ _ _ _=>vv (yl G) nd kc
       refine no_set▸no_S (sk_lc (X:=X.nox) loc capn G.nd hi hx hf (beq_iff_eq.mp k1) (λe s z=>z) (G.calm hcm) (beq_iff_eq.mp k2) (λy hy hl=>?_) (λy hy hc=>?_) (by rw[show X.env.kindOf=λn=>X.env.scope.names.lookup n from rfl,G.sc];exact k6) (QP (yl G) k7) (sI it (yl G) q1 q0) (g:=gOf X.K tg) (λcl C ex s H=>QM (sg:=Wa sg (loc++capn) scope) hcm (I cl C ex s H) q2) (Yw tg) (λcl C ex s H=>?_) (λcl C ex s H=>sE (sg:=Wa sg (loc++capn) scope) el (I cl C ex s H) q4) (jl k9) hsw)
       ·have:=all_eq_true.mp k4 y hy
        rw[hl]at this;simpa using this
       ·exact kc y hy hc
       ·cases ifs with
        |nil =>
         cases tt<;>first|(cases q3;done)|skip;exact Ge
        |cons c cs =>
         obtain⟨q3,q5⟩:=zO q3;have:=isEmpty_iff.mp q3;subst this;exact Gf (sT (sg:=Wa sg (loc++capn) scope) tt (I cl C ex s H) q5)
      |_=>exact nf h
     |_=>exact nf h
    |_=>exact nf h
  |_=>exact nf h
 |_=>exact nf h
mutual
theorem sS:∀(t:Sx) {X:Cx} {sg:Sg} {e:Stmt},SgOk X sg->chkS t sg e=true->SOk X e (dS sg.fs t)
 | .sIf t a b,X,sg,e,G,h=>by
  cases e with
  |If c x y w1 =>
   replace h:(chkT t sg c&&(chkB a sg x&&chkB b sg y))=true:=h;obtain⟨h1,h2⟩:=zO h;obtain⟨h2,h3⟩:=zO h2;exact sk_if (sT t G h1) (sB a G h2) (sB b G h3)
  |_=>exact nf h
 | .sSet i a,X,sg,e,G,h=>by
  cases e with
  |Assign v91 v w1 =>
   cases v91 with
   |cons v92 v93 =>
    cases v92 with
    |Name x px =>
     cases v93 with
     |nil =>
      replace h:(locd sg i x&&setOk sg x px a v&&yI a sg v)=true:=h;obtain⟨h1,h2⟩:=zO h;obtain⟨h1,h3⟩:=zO h1;obtain⟨q1,q2,q3⟩:=W0 G h1;unfold setOk at h3;split at h3
      ·obtain⟨k1,k2⟩:=zO h3
       rename_i el gs scope vp;cases hb:swB sg _ _ scope vp with
       |false=>exact zBI G.nd q1 q2 (sE a G h2) (by rw[zBX G k1,hb]) q3
       |true =>
        rw[hb]at k2;cases a with
        |comp nl loc capn caps it tg tt el'=>exact zAr G q1 q2 q3 (by rw[zBX G k1,hb]) h2
        |_=>cases k2
      ·exact zBI G.nd q1 q2 (sE a G h2) (vL h3) q3
     |_=>exact nf h
    |_=>exact nf h
   |_=>exact nf h
  |_=>exact nf h
 | .sAny,X,sg,e,G,h=>by
  exact sk_any
 | .sTup is a,X,sg,e,G,h=>by
  cases e with
  |Assign v94 v w1 =>
   cases v94 with
   |cons v95 v96 =>
    cases v95 with
    |Tuple es k p =>
     cases v96 with
     |nil =>
      replace h:(sg.calm&&(WZ.all2 sg is es&&wS v&&swOk sg es v&&yI a sg v))=true:=h;obtain⟨hcm,h⟩:=zO h;obtain⟨h1,h2⟩:=zO h;obtain⟨h1,k3⟩:=zO h1;obtain⟨k1,k2⟩:=zO h1;obtain⟨q1,q2,q3⟩:=Jc _ is G k1;exact sk_tup (zA2 (G.calm hcm) q1 q2 q3) (sE a G h2) (QR k2) (sw_ok G k3)
     |_=>exact nf h
    |_=>exact nf h
   |_=>exact nf h
  |_=>exact nf h
 | .sRet a,X,sg,e,G,h=>by
  cases e with
  |Return v109 w1 =>
   cases v109 with
   |some v =>
    replace h:(yI a sg v)=true:=h;exact sk_ret (sE a G h)
   |_=>exact nf h
  |_=>exact nf h
 | .sIx i b a,X,sg,e,G,h=>by
  cases e with
  |Assign v110 v w3 =>
   cases v110 with
   |cons v111 v112 =>
    cases v111 with
    |Subscript v113 y w2 =>
     cases v113 with
     |Name x w1 =>
      cases v112 with
      |nil =>
       replace h:(vis sg i x&&Zw y&&wS v&&(yI b sg y&&yI a sg v))=true:=h;obtain⟨h1,h2⟩:=zO h;obtain⟨h1,h0⟩:=zO h1;obtain⟨h1,h4⟩:=zO h1;obtain⟨h2,h3⟩:=zO h2;exact zAQ i (WK G h1) (sE b G h2) (sE a G h3) (set_of h4) (QR h0)
      |_=>exact nf h
     |_=>exact nf h
    |_=>exact nf h
   |_=>exact nf h
  |_=>exact nf h
 | .sApp i a,X,sg,e,G,h=>by
  cases e with
  |Expr v114 w2 =>
   cases v114 with
   |Call v115 v116 v117 cp =>
    cases v115 with
    |Attribute v118 m ap =>
     cases v118 with
     |Name x w1 =>
      cases v116 with
      |cons v v119 =>
       cases v119 with
       |nil =>
        cases v117 with
        |nil =>
         replace h:(m == "append"&&ap.endLine==cp.line&&vis sg i x&&!zW v&&yI a sg v)=true:=h;obtain⟨h1,h2⟩:=zO h;obtain⟨h1,k4⟩:=zO h1;obtain⟨h1,k3⟩:=zO h1;obtain⟨k1,k2⟩:=zO h1;have:=beq_iff_eq.mp k1;subst this;exact sk_app i (WK G k3) (sE a G h2) rfl (few_of (nst k4)) k2 (zd (nst k4)) rfl rfl
        |_=>exact nf h
       |_=>exact nf h
      |_=>exact nf h
     |_=>exact nf h
    |_=>exact nf h
   |_=>exact nf h
  |_=>exact nf h
 | .sForL a tg b,X,sg,e,G,h=>by
  cases e with
  |For t it body v120 w1 =>
   cases v120 with
   |nil =>
    replace h:(sg.calm&&(yb it&&WZ tg sg t&&(yI a sg it&&chkB b sg body)))=true:=h;obtain⟨hcm,h⟩:=zO h;obtain⟨h1,h2⟩:=zO h;obtain⟨h1,h0⟩:=zO h1;obtain⟨h2,h3⟩:=zO h2;exact no_S (sk_forL (X:=X.nox) PassesOwn.never (G.calm hcm) (sE a (yl G) h2) (QM hcm (yl G) h0) (Yw tg) (sB b (yl G) h3) (jl h1))
   |_=>exact nf h
  |_=>exact nf h
 | .sForT a tg b,X,sg,e,G,h=>by
  cases e with
  |For t it body v121 w1 =>
   cases v121 with
   |nil =>
    replace h:(sg.calm&&(yb it&&WZ tg sg t&&(yI a sg it&&chkB b sg body)))=true:=h;obtain⟨hcm,h⟩:=zO h;obtain⟨h1,h2⟩:=zO h;obtain⟨h1,h0⟩:=zO h1;obtain⟨h2,h3⟩:=zO h2;exact no_S (sk_forT (X:=X.nox) PassesOwn.never (G.calm hcm) (sE a (yl G) h2) (QM hcm (yl G) h0) (Yw tg) (sB b (yl G) h3) (jl h1))
   |_=>exact nf h
  |_=>exact nf h
 | .sForR1 as tg b,X,sg,e,G,h=>by
  cases e with
  |For t v122 body v123 w3 =>
   cases v122 with
   |Call v124 v125 v126 w2 =>
    cases v124 with
    |Name f w1 =>
     cases v125 with
     |cons x v127 =>
      cases v127 with
      |nil =>
       cases v126 with
       |nil =>
        cases v123 with
        |nil =>
         replace h:(sg.calm&&(f == "range"&&glb sg "range"&&bIn sg "range"&&!zW x&&WZ tg sg t&&(chkA as sg [x]&&chkB b sg body)))=true:=h;obtain⟨hcm,h⟩:=zO h;obtain⟨h1,h2⟩:=zO h;obtain⟨h1,k5⟩:=zO h1;obtain⟨h1,k4⟩:=zO h1;obtain⟨h1,k3⟩:=zO h1;obtain⟨k1,k2⟩:=zO h1;obtain⟨h2,h3⟩:=zO h2;have:=beq_iff_eq.mp k1;subst this;exact no_S (zAT (X:=X.nox) PassesOwn.never (G.calm hcm) (jr (yl G) k2).1 (Jb (yl G) k3) (sA as (yl G) h2) (QM hcm (yl G) k5) (Yw tg) (sB b (yl G) h3) (nst k4) (jl rfl))
        |_=>exact nf h
       |_=>exact nf h
      |_=>exact nf h
     |_=>exact nf h
    |_=>exact nf h
   |_=>exact nf h
  |_=>exact nf h
theorem sB:∀(t:Bx) {X:Cx} {sg:Sg} {e:List Stmt},SgOk X sg->chkB t sg e=true->GU X e (dB sg.fs t)
 | .bNil,X,sg,e,G,h=>by
  have:=isEmpty_iff.mp h;subst this;exact sk_nil
 | .bOne a,X,sg,e,G,h=>by
  cases e with
  |cons s v135 =>
   cases v135 with
   |nil =>
    replace h:(chkS a sg s)=true:=h;exact sk_one (sS a G h)
   |_=>exact nf h
  |_=>exact nf h
 | .bSeq a b,X,sg,e,G,h=>by
  cases e with
  |cons s r =>
   replace h:(chkS a sg s&&chkB b sg r)=true:=h;obtain⟨h1,h2⟩:=zO h;exact sk_cons (sS a G h1) (sB b G h2)
  |_=>exact nf h
end
end
def ClOk(K:PySem.W.Frag)(mg:Str->Option Value)(cl rs:List Str):Prop :=
 (cl≠[]->∃T,mg "ThrowError"=some (.ref T)/\TCls K T/\∀c∈cl,∃C,mg c=some (.ref C)/\XCls K c C T/\C≠T)/\(∀c∈rs,∃C,mg c=some (.ref C)/\excIn K C VB "ValueError.__new__"=true)/\SmOk K
theorem def_ok{P:Program}{w:World}{K:PySem.W.Frag}{mg:Str->Option Value}{base:Heap}{x:Str}{st:Stmt}{ps N:List Str}{n lv:Nat}{cs:List (Str×D)}{fs:List FI}{bs:List Str}{c:Bool}{cl rs:List Str}(t:Bx)(T:ZH K mg x st ps)(S:FnScope N ps (zT st))(hn:N.length=n)
  (hcs:∀x d,cs.lookup x=some d->∃u v,mg x=some u/\zv v u/\∀H,Rep K mg H d v)
  (hfs:∀i∈fs,∃f fd ps,mg i.x=some (.ref f)/\keepIn K (.ref f)=true/\J4 K fd ps []/\ps.length=i.n/\FnOkN (!i.wild) P w K mg base i.lv f fd ps (spM K mg i.n i.F))
  (hbs:∀x∈bs,mg x=none) (hcl:ClOk K mg cl rs) (h:chkB t ⟨N,zT st,true,cs,fs,bs,lv,c,cl,rs,[]⟩ (yd st)=true):FOk P w K mg base c x (lv+1) ps (fnM n (dB fs t)):=by
 obtain⟨a,fd,hm,F,bnd⟩:=T;subst hn;refine⟨a,fd,hm,F.kp,bnd,fn_ok F S λcdv A outer s H E hd hr=>?_⟩;exact sB (sg:=⟨N,zT st,true,cs,fs,bs,lv,c,cl,rs,[]⟩) t ⟨rfl,rfl,λ_ _=>rfl,(λx h=>by cases h),id,hd,λ_=>⟨rfl,rfl⟩,S.nd,hcs,hfs,hbs,hr,hcl.1,hcl.2.1,hcl.2.2⟩ h
end DV
namespace DV
open PySem L2
def zAs(K:PySem.W.Frag)(mg:Str->Option Value)(cs:List (Str×D)):Prop:=∀x d,cs.lookup x=some d->∃u v,mg x=some u/\zv v u/\∀H,Rep K mg H d v
def BsOk(mg:Str->Option Value)(bs:List Str):Prop:=∀x∈bs,mg x=none
def FsOk(P:Program)(w:World)(K:PySem.W.Frag)(mg:Str->Option Value)(base:Heap)(fs:List FI):Prop :=
 ∀i∈fs,∃f fd ps,mg i.x=some (.ref f)/\keepIn K (.ref f)=true/\J4 K fd ps []/\ps.length=i.n/\FnOkN (!i.wild) P w K mg base i.lv f fd ps (spM K mg i.n i.F)
section
variable{P:Program}{w:World}{K:PySem.W.Frag}{mg:Str->Option Value}{base:Heap}
theorem cs_nil:zAs K mg []:=λx d h=>by cases h
theorem cs_put{x:Str}{d:D}{cs:List (Str×D)}(h:∃u v,mg x=some u/\zv v u/\∀H,Rep K mg H d v)(t:zAs K mg cs):zAs K mg ((x,d)::cs):=λy d' e=>by
 rw[lookup_cons]at e;cases hy:y==x with
 |true =>
  rw[hy]at e;cases e;have:y=x:=by simpa using hy
  subst this;exact h
 |false=>rw[hy]at e;exact t y d' e
theorem W1{x:Str}{i:Int}{cs:List (Str×D)}(h:∃t,mg x=some (.int i t))(t:zAs K mg cs):zAs K mg ((x,.int i)::cs):=by
 obtain⟨k,h⟩:=h;exact cs_put ⟨_,.int i,h,⟨_,rfl⟩,λH=>by simp only[Rep]⟩ t
theorem bs_nil:BsOk mg []:=λx h=>by cases h
theorem ye{x:Str}{bs:List Str}(h:mg x=none)(t:BsOk mg bs):BsOk mg (x::bs):=λy e=>by
 rcases mem_cons.mp e with e|e
 ·subst e;exact h
 ·exact t y e
theorem yo:FsOk P w K mg base []:=λx h=>by cases h
theorem z0{x:Str}{n lv:Nat}{F:MF}{fs:List FI}{ps:List Str}{wl:Bool}(h:FOk P w K mg base (!wl) x lv ps F)(hl:ps.length=n)(t:FsOk P w K mg base fs):FsOk P w K mg base (⟨x,n,lv,wl,F⟩::fs):=λi e=>by
 rcases mem_cons.mp e with e|e
 ·subst e
  subst hl;obtain⟨a,fd,h1,h2,h3,h4⟩:=h;exact⟨a,fd,ps,h1,h2,h3,rfl,h4⟩
 ·exact t i e
theorem def_at{x:Str}{st:Stmt}{ps N:List Str}{n lv:Nat}{cs:List (Str×D)}{fs:List FI}{bs:List Str}{cl rs:List Str}(t:Bx){a:Addr}{fd:FuncData}(F:Fun K x x st a fd)(S:FnScope N ps (zT st))(hn:N.length=n)
  (hcs:zAs K mg cs) (hfs:FsOk P w K mg base fs) (hbs:BsOk mg bs) (hcl:ClOk K mg cl rs) (h:chkB t ⟨N,zT st,true,cs,fs,bs,lv,true,cl,rs,[]⟩ (yd st)=true):FnOk P w K mg base (CXx P w) (lv+1) a fd ps (spM K mg ps.length (fnM n (dB fs t))):=by
 subst hn;refine(fn_ok (c:=true) F S λcdv A outer s H E hd hr=>?_).fn;exact sB (sg:=⟨N,zT st,true,cs,fs,bs,lv,true,cl,rs,[]⟩) t ⟨rfl,rfl,λ_ _=>rfl,(λx h=>by cases h),id,hd,λ_=>⟨rfl,rfl⟩,S.nd,hcs,hfs,hbs,hr,hcl.1,hcl.2.1,hcl.2.2⟩ h
def scP(N P:List Str)(sc:Scope):Prop:=sc.kind=.function/\sc.isCoroutine=false/\sc.isGenerator=false/\N.Nodup/\N.take P.length=P/\(∀x∈P,sc.names.lookup x=some .local\/sc.names.lookup x=some .cell)/\∀y∈sc.names,y.2≠.free
instance scD (N P:List Str) (sc:Scope):Decidable (scP N P sc):=by unfold scP;infer_instance
theorem sc_of{N P:List Str}{sc:Scope}(h:scP N P sc):FnScope N P sc:=⟨h.1,h.2.1,h.2.2.1,h.2.2.2.1,h.2.2.2.2.1,h.2.2.2.2.2.1,h.2.2.2.2.2.2⟩
theorem yL{x:Str}{st:Stmt}{ps:List Str}{lv:Nat}{cs:List (Str×D)}{fs:List FI}{bs:List Str}{c:Bool}{cl rs:List Str}(t:Bx)(N:List Str)(T:ZH K mg x st ps)
  (hcs:zAs K mg cs) (hfs:FsOk P w K mg base fs) (hbs:BsOk mg bs) (hcl:ClOk K mg cl rs) (h:(decide (scP N ps (zT st))&&chkB t ⟨N,zT st,true,cs,fs,bs,lv,c,cl,rs,[]⟩ (yd st))=true):FOk P w K mg base c x (lv+1) ps (fnM N.length (dB fs t)) :=
 def_ok t T (sc_of (of_decide_eq_true (Bool.and_eq_true_iff.mp h).1)) rfl hcs hfs hbs hcl (Bool.and_eq_true_iff.mp h).2
theorem def_atB{x:Str}{st:Stmt}{ps:List Str}{lv:Nat}{cs:List (Str×D)}{fs:List FI}{bs:List Str}{cl rs:List Str}(t:Bx)(N:List Str){a:Addr}{fd:FuncData}(F:Fun K x x st a fd)
  (hcs:zAs K mg cs) (hfs:FsOk P w K mg base fs) (hbs:BsOk mg bs) (hcl:ClOk K mg cl rs) (h:(decide (scP N ps (zT st))&&chkB t ⟨N,zT st,true,cs,fs,bs,lv,true,cl,rs,[]⟩ (yd st))=true):FnOk P w K mg base (CXx P w) (lv+1) a fd ps (spM K mg ps.length (fnM N.length (dB fs t))) :=
 def_at t F (sc_of (of_decide_eq_true (Bool.and_eq_true_iff.mp h).1)) rfl hcs hfs hbs hcl (Bool.and_eq_true_iff.mp h).2
theorem QS{c:Str}{C T:Addr}(h:xIn K c C T=true):XCls K c C T/\C≠T:=by
 unfold xIn at h;simp only[Bool.and_eq_true,beq_iff_eq,Bool.not_eq_true']at h;obtain⟨⟨⟨⟨⟨⟨⟨h1,h2⟩,h3⟩,h4⟩,h5⟩,h6⟩,h7⟩,h8⟩:=h;refine⟨⟨?_,h2,h3,h4,h5,h6,h7⟩,by simpa using h8⟩;cases e:clsIn K C with
 |none=>rw[e]at h1;cases h1
 |some cd =>
  rw[e]at h1;simp only[Bool.and_eq_true,beq_iff_eq]at h1;exact⟨cd,rfl,h1.1,h1.2⟩
theorem tcls_of{T:Addr}(h:tIn K T=true):TCls K T:=by
 unfold tIn at h;simp only[Bool.and_eq_true,beq_iff_eq]at h;obtain⟨h1,h2⟩:=h;refine⟨?_,h2⟩;cases e:clsIn K T with
 |none=>rw[e]at h1;cases h1
 |some cd=>rw[e]at h1;exact⟨cd,rfl,by simpa using h1⟩
def spLaw(K:PySem.W.Frag):Sp:=λvs H Q _=>∃(a:Addr) (ns:List Int),vs=[.ref a]/\SqL K H a (ns.map V.int)/\ns.length<=63/\∀H',Q (.bl true) H'
theorem WL{H:Hp}:∀ns:List Int,Reps K mg H (ns.map D.int) (ns.map V.int)
 | []=>Reps.nil
 |n::ns=>Reps.cons (by simp only[Rep]) (WL ns)
theorem law_imp{F:MF}(hm:∀ns:List Int,ns.length<=63->∃outs,F [.val (.lst (ns.map D.int))]=.ok (.val (.bl true),outs))(vs:List V)(H:Hp)(Q:VK)(E:XK)(h:spLaw K vs H Q E):spM K mg 1 F vs H Q E:=by
 obtain⟨a,ns,rfl,hS,hl,k⟩:=h;obtain⟨outs,hF⟩:=hm ns hl;have em:∀b,¬Mo (λ_=>False) [(some (V.ref a),Slot.val (.lst (ns.map D.int)))] b:=by
  intro b q;rcases q with q|q
  ·exact q
  ·rw[za]at q;cases q
 have sm:JC H (Hm (Mo (λ_=>False) [(some (V.ref a),Slot.val (.lst (ns.map D.int)))]) H):=λb o q=>zk.mpr ⟨em b,q⟩
 refine⟨rfl,λ_=>False,[.val (.lst (ns.map D.int))],rfl,⟨?_,?_,?_,?_⟩,?_⟩
 ·intro o d q
  have q':=mem_singleton.mp q
  cases q';refine⟨_,rfl,?_⟩;simp only[Rep];exact⟨a,_,rfl,sm.seq hS,WL ns⟩
 ·intro o s ds q e
  have q':=mem_singleton.mp q
  cases q';cases e
 ·show(zz [(some (V.ref a),Slot.val (.lst (ns.map D.int)))]).Nodup
  rw[za];exact List.nodup_nil
 ·intro b q;cases q
 ·rw[hF]
  intro v H' _ fr _;obtain⟨v',e,r⟩:=fr.val (some v) (.bl true) mem_cons_self;cases e;simp only[Rep]at r;subst r;exact k H'
end
theorem jt{E:zL}:zh [] E=[]:=rfl
theorem wY{ds:List D}{ss:List Slot}{s:Slot}{E:zL}:zh (.par ds::ss) (s::E)=s::zh ss E:=rfl
theorem ju{d:D}{ss:List Slot}{s:Slot}{E:zL}:zh (.val d::ss) (s::E)=.emp::zh ss E:=rfl
theorem wZ{d:List D}{ss:List Slot}{s:Slot}{E:zL}:zh (.own d::ss) (s::E)=.emp::zh ss E:=rfl
theorem wa{ss:List Slot}{s:Slot}{E:zL}:zh (.emp::ss) (s::E)=.emp::zh ss E:=rfl
theorem wx{tg:MG}{body:MS}(I:Nat->zL->Prop):∀(ds:List D) (k:Nat) (E:zL),I k E ->
  (∀i d,ds[i]?=some d->∀E,I (k+i) E->∃E1 E2,tg d E=.ok E1/\body E1=.ok (.nx,E2)/\I (k+i+1) E2) ->
  ∃E',YU tg body ds E=.ok (.nx,E')/\I (k+ds.length) E'
 | [],k,E,h,step=>⟨E,rfl,h⟩
 |d::ds,k,E,h,step=>by
  obtain⟨E1,E2,h1,h2,h4⟩:=step 0 d rfl E h;obtain⟨E',q1,q2⟩:=wx I ds (k+1) E2 h4 λi d' e E h=>by
   have:=step (i+1) d' (by simpa using e) E (by rw[show k+(i+1)=k+1+i by omega];exact h);rw[show k+(i+1)=k+1+i by omega]at this;exact this
  refine⟨E',?_,?_⟩
  ·simp only[YU,h1,h2]
   exact q1
  ·rw[length_cons,show k+(ds.length+1)=k+1+ds.length by omega];exact q2
theorem j9:∀(n:Nat) (lo:Int),(zP lo n).length=n
 |0,_=>rfl
 |n+1,lo=>by simp[zP,j9 n]
def Jy:Slot->Bool
 | .par _=>false
 |_=>true
theorem vx:∀(vs:List D) (E:zL),zK (vs.map AR.tmp) E=.ok (vs.map Slot.val,E)
 | [],_=>rfl
 |d::vs,E=>by simp only[map_cons,zK,vx vs E]
theorem vz:∀(vs:List D) (outs:List Slot) (E0 E:zL),outs.length=vs.length->zH (vs.map AR.tmp) outs E0 E=.ok E
 | [],[],_,_,_=>rfl
 | [],_::_,_,_,h=>by cases h
 |_::_,[],_,_,h=>by cases h
 |d::vs,s::outs,E0,E,h=>by simp only[map_cons,zH];exact vz vs outs E0 E (by simpa using h)
end DV
namespace DV
open PySem L2
theorem WM{vs:List D}{tg:MG}{tt:MT}{el:ME}{nl:Nat}(pat:D->List DV.Slot)(f:D->Bool)(g:D->D):∀(ds:List D),
  (∀d∈ds,∀S:List DV.Slot,S.length=nl->(∀s∈S,Jy s=true)->tg d (S++vs.map Slot.val)=.ok (pat d++vs.map Slot.val)) ->
  (∀d∈ds,(pat d).length=nl/\∀s∈pat d,Jy s=true) ->
  (∀d∈ds,tt (pat d++vs.map Slot.val)=.ok (f d,pat d++vs.map Slot.val)) ->
  (∀d∈ds,f d=true->∃r,el (pat d++vs.map Slot.val)=.ok (r,pat d++vs.map Slot.val)/\r.d=g d) ->
  ∀(S:List DV.Slot) (acc:List D),S.length=nl->(∀s∈S,Jy s=true)->acc.length+ds.length<=cap->∃S',S'.length=nl/\wC tg tt el ds (S++vs.map Slot.val) acc=.ok (acc++(ds.filter f).map g,S'++vs.map Slot.val)
 | [],_,_,_,_,S,acc,hS,_,_=>⟨S,hS,by simp[wC]⟩
 |d::ds,h1,h2,h3,h4,S,acc,hS,hn,hc=>by
  have m:=mem_cons_self (a:=d) (l:=ds);have r1:=h1 d m S hS hn;have r3:=h3 d m;have r2:=h2 d m;simp only[length_cons]at hc;have go:=WM pat f g ds (λz hz=>h1 z (mem_cons_of_mem _ hz)) (λz hz=>h2 z (mem_cons_of_mem _ hz)) (λz hz=>h3 z (mem_cons_of_mem _ hz)) (λz hz=>h4 z (mem_cons_of_mem _ hz)) (pat d);cases hf:f d with
  |false =>
   rw[hf]at r3;obtain⟨S',l',e'⟩:=go acc r2.1 r2.2 (by omega);refine⟨S',l',?_⟩;simp only[wC,r1,r3,e',List.filter_cons,hf];simp
  |true =>
   rw[hf]at r3;obtain⟨r,r4,r5⟩:=h4 d m hf;obtain⟨S',l',e'⟩:=go (acc++[r.d]) r2.1 r2.2 (by simp;omega);refine⟨S',l',?_⟩;simp only[wC,r1,r3,r4];rw[if_pos (by omega),e',r5];simp[List.filter_cons,hf]
theorem zAt{vs:List D}{tg:MG}{tt:MT}{el:ME}{nl:Nat}{caps:List Nat}(pat:D->List DV.Slot)(f:D->Bool)(g:D->D)(ds:List D)
  (h1:∀d∈ds,∀S:List DV.Slot,S.length=nl->(∀s∈S,Jy s=true)->tg d (S++vs.map Slot.val)=.ok (pat d++vs.map Slot.val))
  (h2:∀d∈ds,(pat d).length=nl/\∀s∈pat d,Jy s=true)
  (h3:∀d∈ds,tt (pat d++vs.map Slot.val)=.ok (f d,pat d++vs.map Slot.val))
  (h4:∀d∈ds,f d=true->∃r,el (pat d++vs.map Slot.val)=.ok (r,pat d++vs.map Slot.val)/\r.d=g d) (hc:ds.length<=cap)
  {mi:MI} {E E1:zL} (hi:mi E=.ok (ds,E1)) (hcap:JE E1 caps=.ok (vs.map AR.tmp)):Yc nl caps mi tg tt el E=.ok (.own ((ds.filter f).map g),E1):=by
 obtain⟨S',l',e'⟩:=WM (vs:=vs) (tg:=tg) (tt:=tt) (el:=el) (nl:=nl) pat f g ds h1 h2 h3 h4 (replicate nl .emp) [] (by simp) (λs hs=>by rw[(List.mem_replicate.mp hs).2];rfl) (by simpa using hc);simp only[Yc,hi,hcap,vx,e'];rw[vz vs _ _ _ (by rw[List.length_drop,zb];simp)];simp
theorem gN_ok1{a:D}{S:List DV.Slot}{R:List DV.Slot}(hS:S.length=1)(hn:∀s∈S,Jy s=true):gN 0 a (S++R)=.ok ([.val a]++R):=by
 match S,hS,hn with
 | [x],_,hn =>
  have hx:=hn x (by simp);cases x<;>first|(cases hx;done)|rfl
end DV
namespace DV
open PySem L2
theorem uA:∀(l:List Obj) (i:Nat) (as:List Addr) (a:Addr) (o:Obj),(Zf l i as).lookup a=some o->∃j,a=i+j/\l[j]?=some o/\isFr o=false
 | [],_,_,a,o,e=>by cases e
 |_::_,_,[],a,o,e=>by cases e
 |x::os,i,b::as,a,o,e=>by
  have up:∀{as:List Addr},(Zf os (i+1) as).lookup a=some o->∃j,a=i+j/\(x::os)[j]?=some o/\isFr o=false:=λe=>by
   obtain⟨j,h1,h2,h3⟩:=uA os (i+1) _ a o e;exact⟨j+1,h1.trans ((Nat.add_assoc i 1 j).trans (congrArg (i+·) (Nat.add_comm 1 j))),by simpa using h2,h3⟩
  unfold Zf at e;cases hb:Nat.beq i b with
  |false=>rw[hb]at e;exact up e
  |true =>
   rw[hb]at e;cases hf:isFr x with
   |true=>rw[hf]at e;exact up e
   |false =>
    rw[hf]at e;replace e:(match a==i with|true=>some x|false=>List.lookup a (Zf os (i+1) as))=some o:=e
    cases ha:a==i with
    |true =>
     rw[ha]at e;cases e;exact⟨0,beq_iff_eq.mp ha,rfl,hf⟩
    |false=>rw[ha]at e;exact up e
theorem QT{h:Heap}(as:List Addr):(wd h as).In h:=λa o e=>by
 obtain⟨j,h1,h2,h3⟩:=uA _ _ _ _ _ e;rw[zero_add]at h1;subst h1;have h4:h.objs[a]?=some o:=by rw[<- Array.getElem?_toList];exact h2
 unfold Heap.get?;rw[h4];obtain⟨c,d,dt,sl⟩:=o;cases dt<;>first|rfl|(cases h3)
def uB(as:List Addr)(α:Type)(L:PySem.W.Frag->α)(v:α):PySem.W.Hook :=
 ⟨α,λs=>L (wd s.heap as),λ_=>v,λ_ h=>∃K:PySem.W.Frag,K.In h/\L K=v,λ_ s e=>⟨_,QT as,e⟩,λ_ _ _ ⟨K,x,e⟩ k=>⟨K,x.keeps k,e⟩⟩
theorem zAu{K:PySem.W.Frag}{n:Str}{st:Stmt}(e:jQ K n=jg n st):∃(f:Addr) (oc:Value) (od:Option Addr) (kV dc pm:Value) (an:Option Addr) (cd ct:Value) (sl:Array (Option Value)),
  nsIn K mainGlobals n=some (some (.ref f))/\K.lookup f=some ⟨oc,od,.func (fnOf n n (wQ st) (yd st) (zT st) .none kV dc pm an cd ct),sl⟩/\codeIn K cd n=true/\keepIn K (.ref f)=true:=by
 unfold jQ at e;split at e
 ·rename_i a ha
  split at e
  ·rename_i oc od fd sl hl
   have e:=Option.some.inj e;unfold fvOf at e;injection e with e1 e
   injection e with e2 e
   injection e with e3 e
   injection e with e4 e
   injection e with e5 e
   injection e with e6 e
   injection e with e7 e
   injection e with e8 e
   injection e with e9 e10
   obtain⟨k,p⟩:=zO e1;cases fd;simp only at e2 e3 e4 e5 e6 e7 e8 e9 e10;subst e2 e3 e4 e5 e6 e7 e8 e9 e10;exact⟨_,_,_,_,_,_,_,_,_,_,ha,hl,k,p⟩
  ·cases e
 ·cases e
def nth{α:Type}:List α->Nat->Option α
 | [],_=>none
 |a::_,0=>some a
 |_::l,n+1=>nth l n
theorem ix{α:Type}{l l':List α}(n:Nat)(h:l=l'):nth l n=nth l' n:=congrArg (λl=>nth l n) h
section
variable{K:PySem.W.Frag}{h:Heap}{mg:Str->Option Value}
theorem ar0{P:List Value->Prop}(h:P []):∀us:List Value,us.length=0->P us
 | [],_=>h
theorem ar1{P:List Value->Prop}(h:∀a:Value,P [a]):∀us:List Value,us.length=1->P us
 | [a],_=>h a
theorem ar2{P:List Value->Prop}(h:∀a b:Value,P [a,b]):∀us:List Value,us.length=2->P us
 | [a,b],_=>h a b
theorem ar3{P:List Value->Prop}(h:∀a b c:Value,P [a,b,c]):∀us:List Value,us.length=3->P us
 | [a,b,c],_=>h a b c
theorem ar4{P:List Value->Prop}(h:∀a b c d:Value,P [a,b,c,d]):∀us:List Value,us.length=4->P us
 | [a,b,c,d],_=>h a b c d
theorem ar5{P:List Value->Prop}(h:∀a b c d e:Value,P [a,b,c,d,e]):∀us:List Value,us.length=5->P us
 | [a,b,c,d,e],_=>h a b c d e
theorem ar6{P:List Value->Prop}(h:∀a b c d e f:Value,P [a,b,c,d,e,f]):∀us:List Value,us.length=6->P us
 | [a,b,c,d,e,f],_=>h a b c d e f
theorem ar7{P:List Value->Prop}(h:∀a b c d e f g:Value,P [a,b,c,d,e,f,g]):∀us:List Value,us.length=7->P us
 | [a,b,c,d,e,f,g],_=>h a b c d e f g
theorem wD{n:Str}{st:Stmt}{ps:List Str}(X:K.In h)(G:h.Ns mainGlobals mg)(e:some (jQ K n)=some (jg n st))
  (b:∀(kV doc pm:Value) (an:Option Addr) (cdv ct:Value) (us:List Value),us.length=ps.length->bindArgs (fnOf n n (wQ st) (yd st) (zT st) .none kV doc pm an cdv ct) ⟨us,[]⟩=pure (ps.zip us):=by intro _ _ _ _ _ _;first|exact ar1 (λ_=>rfl)|exact ar2 (λ_ _=>rfl)|exact ar3 (λ_ _ _=>rfl)|exact ar4 (λ_ _ _ _=>rfl)|exact ar5 (λ_ _ _ _ _=>rfl)|exact ar6 (λ_ _ _ _ _ _=>rfl)|exact ar7 (λ_ _ _ _ _ _ _=>rfl)|exact ar0 rfl):ZH K mg n st ps:=by
 obtain⟨f,oc,od,kV,dc,pm,an,cd,ct,sl,a,l,k,p⟩:=zAu (Option.some.inj e);exact⟨_,_,mg_of X G a,zA8 (st:=st) l k p,(zA8 (st:=st) l k p).binds b⟩
theorem ct_at{n:Str}{i:Int}(X:K.In h)(G:h.Ns mainGlobals mg)(e:some (Zg K n)=some (some i)):∃t,mg n=some (.int i t):=by
 have e:=Option.some.inj e;unfold Zg at e;split at e
 ·rename_i j t hj
  cases e;exact⟨_,mg_of X G hj⟩
 ·cases e
theorem JJ{n:Str}(X:K.In h)(G:h.Ns mainGlobals mg)(e:some (yu K n)=some true):mg n=none:=by
 have e:=Option.some.inj e;unfold yu at e;split at e
 ·rename_i hj
  exact PySem.W.mg_none_of X G hj
 ·cases e
theorem W2{n:Str}{a:Addr}(X:K.In h)(G:h.Ns mainGlobals mg)(e:wH K n=some a):mg n=some (.ref a):=by
 unfold wH at e;split at e
 ·rename_i b hb
  cases e;exact mg_of X G hb
 ·cases e
theorem sm_at(e:ui K=true):SmOk K:=by
 unfold ui at e;cases h:K.lookup sysModules with
 |none=>rw[h]at e;cases e
 |some o =>
  rw[h]at e;dsimp only at e;cases hd:o.data with
  |dict es n=>exact⟨o,es,n,h,hd⟩
  |_=>rw[hd]at e;cases e
theorem cl_at{cl rs:List Str}(X:K.In h)(G:h.Ns mainGlobals mg)(e:zA1 K cl rs=true):ClOk K mg cl rs:=by
 obtain⟨e,e3⟩:=zO e;obtain⟨e1,e2⟩:=zO e;refine⟨λhc=>?_,λc hc=>?_,sm_at e3⟩
 ·cases cl with
  |nil=>exact absurd rfl hc
  |cons c0 cs =>
   replace e1:(match wH K "ThrowError" with
    |some T=>tIn K T&&(c0::cs).all λc=>(match wH K c with|some C=>xIn K c C T|none=>false)
    |none=>false)=true:=e1
   cases hT:wH K "ThrowError" with
   |none=>rw[hT]at e1;cases e1
   |some T =>
    rw[hT]at e1;obtain⟨t1,t2⟩:=zO e1;refine⟨T,W2 X G hT,tcls_of t1,λc hc=>?_⟩;have q:=all_eq_true.mp t2 c hc;cases hC:wH K c with
    |none=>rw[hC]at q;cases q
    |some C =>
     rw[hC]at q;exact⟨C,W2 X G hC,(QS q).1,(QS q).2⟩
 ·have q:=all_eq_true.mp e2 c hc
  cases hC:wH K c with
  |none=>rw[hC]at q;cases q
  |some C =>
   rw[hC]at q;exact⟨C,W2 X G hC,q⟩
end
theorem walkE{l:PySem.W.OpenLaw}{q:Program}{loose:List Str}{XP:(Str->Option Value)->Heap->Prop}{d:DefRec}{as:List Addr}{α:Type}{L:PySem.W.Frag->α}{v:α}{x:Str}{F:MF}(hm:∀ns:List Int,ns.length<=63->∃outs,F [.val (.lst (ns.map D.int))]=.ok (.val (.bl true),outs))
  (hn:l.most=some 63) (hdf:d.params.defaults=[])
  (Gk:∀(w:World) (K:PySem.W.Frag) (mg:Str->Option Value) (fa:Addr) (h:Heap),K.In h->L K=v->h.Ns mainGlobals mg->mg d.name=some (.ref fa) ->
   ∃fd:FuncData,(∀(s:Shared) (u:Value),BindsTo s fd ⟨[u],[]⟩ [(x,u)])/\∀base:Heap,FnOk l.prog w K mg base (CXx l.prog w) 40 fa fd [x] (spM K mg 1 F)) :
  PySem.W.WalkO q loose XP (uB as α L v).says l.row.toRowW d [] (λf vs=>PySem.call f vs):=by
 refine Att.attach_call hn hdf λw s₀ s₁ mg mb fa o pm cd doc a vs ns G Y ho hd hcd hmg hobj hints hlen hg=>?_
 obtain⟨K,KX,e⟩:=Y;obtain⟨fd,hb,hF⟩:=Gk w K mg fa _ KX e G.T.g hmg;exact Q9 (sp:=spLaw K) (k:=40) KX G.T.g G.T.b G.T.builtins G.T.nolimit hg hobj hints (le_trans hlen (by decide)) ⟨rfl,rfl,by decide,by decide⟩ (λbase _ _=>(hF base).imp (law_imp hm)) hb (λH hO hS=>⟨a,ns,rfl,hS,hlen,λ_=>rfl⟩) λH e s' ⟨_,_,_,_,_,_,_,_,_,_,z⟩=>z
end DV
namespace My
open PySem L2 DV
def cs_:List (Str×D):=[("LEAST_SIGNS",.int 2),("MOST_SIGNS",.int 3),("MOST_STANDS",.int 12)]
def bs_:List Str:=["all","bool","int","isinstance","len","list","max","min","range","set","sorted","tuple","zip"]
def Yu:Bx :=
  (.bOne (.sRet (.and (.is .int (.var 0)) (.not (.is .bool (.var 0))))))
def W3:List FI:=[]
def JK:MF:=fnM 1 (dB W3 Yu)
def yF:Bx :=
  (.bOne (.sRet (.and (.call 0 (.ev (.var 0) .nil)) (.chain .le .le (.var 1) (.var 0) (.var 2)))))
def yT:List FI:=[⟨"is_whole",1,1,false,JK⟩]
def zc:MF:=fnM 3 (dB yT yF)
def Jd:Bx :=
  (.bOne (.sRet (.and (.is .tuple (.var 0)) (.cB .all (.cons (.comp 1 ["number"] ["high"] [1] (.iT (.var 0)) (.n 0) .tTr (.call 0 (.ev (.var 0) (.ev (.c (.int 0)) (.ev (.var 1) .nil))))) .nil)))))
def ZS:List FI:=[⟨"is_whole_within",3,2,false,zc⟩]
def yP:MF:=fnM 2 (dB ZS Jd)
def Je:Bx :=
  (.bSeq (.sIf (.tOr (.tNot (.tE (.is .tuple (.var 0)))) (.tNot (.tE (.chain .le .le (.c (.int 1)) (.cB .len (.cons (.var 0) .nil)) (.gl (.int 12)))))) (.bOne (.sRet (.c (.bl false)))) .bNil)
  (.bSeq (.sIf (.tNot (.tE (.cB .all (.cons (.comp 1 ["row"] ["thing"] [0] (.iT (.var 0)) (.n 0) .tTr (.call 0 (.ev (.var 0) (.ev (.bin .sub (.cB .len (.cons (.var 1) .nil)) (.c (.int 1))) .nil)))) .nil)))) (.bOne (.sRet (.c (.bl false)))) .bNil)
  (.bSeq (.sSet 1 (.cB .len (.cons (.ix (.var 0) (.c (.int 0))) .nil)))
  (.bOne (.sRet (.and (.chain .le .le (.gl (.int 2)) (.var 1) (.gl (.int 3))) (.cB .all (.cons (.comp 1 ["row"] ["signs"] [1] (.iT (.var 0)) (.n 0) .tTr (.cmp .eq (.cB .len (.cons (.var 0) .nil)) (.var 1))) .nil))))))))
def yG:List FI:=[⟨"all_within",2,3,false,yP⟩]
def jA:MF:=fnM 2 (dB yG Je)
def jv:Bx :=
  (.bSeq (.sIf (.tNot (.tE (.call 0 (.ev (.var 0) (.ev (.bin .sub (.var 1) (.c (.int 1))) .nil))))) (.bOne (.sRet (.c (.bl false)))) .bNil)
  (.bOne (.sRet (.cB .all (.cons (.comp 2 ["one","behind"] [] [] (.iZ true true (.cons (.var 0) (.cons (.sl (.var 0) (.oS (.c (.int 1))) .oN) .nil))) (.t [0,1]) .tTr (.cmp .lt (.var 0) (.var 1))) .nil)))))
def jf:List FI:=[⟨"all_within",2,3,false,yP⟩]
def yU:MF:=fnM 2 (dB jf jv)
def wN:Bx :=
  (.bSeq (.sIf (.tOr (.tNot (.tE (.is .tuple (.var 0)))) (.tE (.cmp .ne (.cB .len (.cons (.var 0) .nil)) (.c (.int 2))))) (.bOne (.sRet (.c (.bl false)))) .bNil)
  (.bSeq (.sTup [1,2] (.var 0))
  (.bOne (.sRet (.and (.call 1 (.ev (.var 1) .nil)) (.call 0 (.ev (.var 2) (.ev (.cB .len (.cons (.var 1) .nil)) .nil))))))))
def yV:List FI:=[⟨"rising_stands",2,4,false,yU⟩,⟨"steps_good",1,4,false,jA⟩]
def zm:MF:=fnM 3 (dB yV wN)
def jG:Bx :=
  (.bSeq (.sIf (.tE (.cmp .lt (.var 1) (.cB .len (.cons (.var 0) .nil)))) (.bOne (.sRet (.ix (.var 0) (.var 1)))) .bNil)
  (.bOne (.sRet (.c (.int 0)))))
def jw:List FI:=[]
def yJ:MF:=fnM 2 (dB jw jG)
def wb:Bx :=
  (.bSeq (.sSet 0 (.bin .mod (.bin .add (.var 0) (.c (.int 7919))) (.c (.int 2147483647))))
  (.bOne (.sRet (.bin .mod (.bin .add (.bin .add (.bin .mul (.var 0) (.var 0)) (.bin .mul (.c (.int 48271)) (.var 0))) (.c (.int 12345))) (.c (.int 2147483629))))))
def Jf:List FI:=[]
def ja:MF:=fnM 1 (dB Jf wb)
def jb:Bx :=
  (.bSeq (.sSet 1 (.cB .max (.cons (.var 0) (.cons (.bin .sub (.c (.int 0)) (.var 0)) .nil))))
  (.bOne (.sRet (.lst (.cons (.var 1) (.cons (.cB .int (.cons (.cmp .ge (.var 1) (.bin .pow (.c (.int 10)) (.c (.int 18)))) .nil)) (.cons (.bin .mod (.var 1) (.c (.int 1000003))) .nil)))))))
def wO:List FI:=[]
def yW:MF:=fnM 2 (dB wO jb)
def jc:Bx :=
  (.bSeq (.sIf (.tE (.cmp .eq (.ixO 0 (.c (.int 1))) (.c (.int 1)))) (.bSeq (.sSet 2 (.bin .mod (.ixO 0 (.c (.int 0))) (.var 1)))
  (.bSeq (.sIx 0 (.c (.int 0)) (.bin .fdiv (.ixO 0 (.c (.int 0))) (.var 1)))
  (.bOne (.sRet (.var 2))))) .bNil)
  (.bSeq (.sIx 0 (.c (.int 2)) (.call 0 (.ev (.bin .add (.call 0 (.ev (.ixO 0 (.c (.int 2))) .nil)) (.c (.int 7))) .nil)))
  (.bOne (.sRet (.bin .mod (.bin .fdiv (.ixO 0 (.c (.int 2))) (.c (.int 64))) (.var 1))))))
def jx:List FI:=[⟨"_law_next",1,1,false,ja⟩]
def zG:MF:=fnM 3 (dB jx jc)
def Jg:Bx :=
  (.bOne (.sRet (.and (.is .int (.var 0)) (.not (.is .bool (.var 0))))))
def ZT:List FI:=[]
def jB:MF:=fnM 1 (dB ZT Jg)
abbrev yM:Bx :=
  (.bSeq (.sSet 7 (.cB .tuple (.cons (.comp 1 ["_law_sign"] ["_law_pen","_law_many"] [0,3] (.iR1 (.cons (.var 2) .nil)) (.n 0) .tTr (.call 0 (.lend 1 (.ev (.var 2) .nil)))) .nil)))
  (.bSeq (.sIf (.tE (.cmp .eq (.var 4) (.c (.int 0)))) (.bOne (.sSet 7 (.bin .add (.tup (.cons (.cB .min (.cons (.bin .add (.var 6) (.c (.int 1))) (.cons (.bin .sub (.var 3) (.c (.int 1))) .nil))) .nil)) (.bin .mul (.tup (.cons (.c (.int 0)) .nil)) (.bin .sub (.var 2) (.c (.int 1))))))) .bNil)
  (.bSeq (.sIf (.tE (.cmp .eq (.var 4) (.c (.int 1)))) (.bOne (.sSet 7 (.bin .add (.bin .mul (.tup (.cons (.bin .mod (.bin .add (.var 6) (.c (.int 1))) (.var 3)) .nil)) (.bin .sub (.var 2) (.c (.int 1)))) (.tup (.cons (.var 6) .nil))))) .bNil)
  (.bOne (.sApp 5 (.var 7))))))
def jM:Bx :=
  (.bSeq (.sSet 2 (.bin .add (.c (.int 2)) (.call 0 (.lend 0 (.ev (.c (.int 2)) .nil)))))
  (.bSeq (.sSet 3 (.bin .add (.c (.int 1)) (.call 0 (.lend 0 (.ev (.var 1) .nil)))))
  (.bSeq (.sSet 4 (.call 0 (.lend 0 (.ev (.c (.int 4)) .nil))))
  (.bSeq (.sSet 5 (.lst .nil))
  (.bSeq (.sForR1 (.cons (.var 3) .nil) (.n 6)
  yM)
  (.bOne (.sRet (.tup (.cons (.cB .tuple (.cons (.var 5) .nil)) (.cons (.cB .tuple (.cons (.comp 1 ["_law_stand"] ["_law_pen"] [0] (.iR1 (.cons (.var 3) .nil)) (.n 0) (.tE (.cmp .eq (.call 0 (.lend 1 (.ev (.c (.int 3)) .nil))) (.c (.int 0)))) (.var 0)) .nil)) .nil))))))))))
def zQ:List FI:=[⟨"_law_draw",2,2,false,zG⟩]
def yH:MF:=fnM 8 (dB zQ jM)
abbrev zj:Bx :=
  (.bSeq (.sIf (.tOr (.tNot (.tE (.is .tuple (.var 2)))) (.tOr (.tE (.cmp .nin (.cB .len (.cons (.var 2) .nil)) (.tup (.cons (.c (.int 2)) (.cons (.c (.int 3)) .nil))))) (.tE (.cmp .ne (.cB .len (.cons (.var 2) .nil)) (.cB .len (.cons (.ix (.ix (.var 0) (.c (.int 0))) (.c (.int 0))) .nil)))))) (.bOne (.sRet (.c (.bl false)))) .bNil)
  (.bOne (.sIf (.tNot (.tE (.cB .all (.cons (.comp 1 ["_law_stand"] ["_law_many"] [1] (.iT (.var 2)) (.n 0) .tTr (.and (.call 0 (.ev (.var 0) .nil)) (.chain .le .lt (.c (.int 0)) (.var 0) (.var 1)))) .nil)))) (.bOne (.sRet (.c (.bl false)))) .bNil)))
def yN:Bx :=
  (.bSeq (.sIf (.tOr (.tNot (.tE (.is .tuple (.var 0)))) (.tOr (.tE (.cmp .ne (.cB .len (.cons (.var 0) .nil)) (.c (.int 2)))) (.tNot (.tE (.is .tuple (.ix (.var 0) (.c (.int 0)))))))) (.bOne (.sRet (.c (.bl false)))) .bNil)
  (.bSeq (.sSet 1 (.cB .len (.cons (.ix (.var 0) (.c (.int 0))) .nil)))
  (.bSeq (.sIf (.tOr (.tNot (.tE (.chain .le .le (.c (.int 1)) (.var 1) (.c (.int 12))))) (.tNot (.tE (.is .tuple (.ix (.var 0) (.c (.int 1))))))) (.bOne (.sRet (.c (.bl false)))) .bNil)
  (.bSeq (.sForT (.ix (.var 0) (.c (.int 0))) (.n 2)
  zj)
  (.bSeq (.sIf (.tNot (.tE (.cB .all (.cons (.comp 1 ["_law_stand"] ["_law_many"] [1] (.iT (.ix (.var 0) (.c (.int 1)))) (.n 0) .tTr (.and (.call 0 (.ev (.var 0) .nil)) (.chain .le .lt (.c (.int 0)) (.var 0) (.var 1)))) .nil)))) (.bOne (.sRet (.c (.bl false)))) .bNil)
  (.bOne (.sRet (.cmp .eq (.cB .list (.cons (.ix (.var 0) (.c (.int 1))) .nil)) (.sset (.cons (.ix (.var 0) (.c (.int 1))) .nil))))))))))
def zA:List FI:=[⟨"_law_whole",1,1,false,jB⟩]
def zw:MF:=fnM 3 (dB zA yN)
def jN:Bx :=
  (.bSeq (.sTup [2,3] (.var 1))
  (.bSeq (.sSet 4 (.cB .len (.cons (.var 2) .nil)))
  (.bSeq (.sSet 5 (.call 0 (.lend 0 (.ev (.var 4) .nil))))
  (.bSeq (.sSet 6 (.call 0 (.lend 0 (.ev (.cB .len (.cons (.ix (.var 2) (.c (.int 0))) .nil)) .nil))))
  (.bSeq (.sSet 7 (.ix (.lst (.cons (.var 4) (.cons (.neg (.c (.int 1))) (.cons (.c (.bl true)) (.cons (.c .non) (.cons (.c (.str "0")) (.cons (.tup (.cons (.c (.int 0)) .nil)) (.cons (.bin .pow (.c (.int 10)) (.c (.int 30))) (.cons (.c (.int 0)) .nil))))))))) (.call 0 (.lend 0 (.ev (.c (.int 8)) .nil)))))
  (.bSeq (.sSet 8 (.bin .add (.bin .add (.sl (.ix (.var 2) (.var 5)) .oN (.oS (.var 6))) (.tup (.cons (.var 7) .nil))) (.sl (.ix (.var 2) (.var 5)) (.oS (.bin .add (.var 6) (.c (.int 1)))) .oN)))
  (.bSeq (.sSet 9 (.lst (.cons (.var 8) (.cons (.bin .add (.ix (.var 2) (.var 5)) (.tup (.cons (.c (.int 0)) .nil))) (.cons (.sl (.ix (.var 2) (.var 5)) (.oS (.c (.int 1))) .oN) (.cons (.cB .list (.cons (.ix (.var 2) (.var 5)) .nil)) (.cons (.c .non) (.cons (.tup .nil) .nil))))))))
  (.bSeq (.sSet 10 (.bin .add (.bin .add (.sl (.var 2) .oN (.oS (.var 5))) (.tup (.cons (.ix (.var 9) (.ix (.lst (.cons (.c (.int 0)) (.cons (.c (.int 0)) (.cons (.c (.int 0)) (.cons (.c (.int 1)) (.cons (.c (.int 2)) (.cons (.c (.int 3)) (.cons (.c (.int 4)) (.cons (.c (.int 5)) .nil))))))))) (.call 0 (.lend 0 (.ev (.c (.int 8)) .nil))))) .nil))) (.sl (.var 2) (.oS (.bin .add (.var 5) (.c (.int 1)))) .oN)))
  (.bSeq (.sSet 11 (.lst (.cons (.tup (.cons (.var 10) (.cons (.var 3) .nil))) (.cons (.tup (.cons (.var 10) (.cons (.var 3) .nil))) (.cons (.tup (.cons (.var 10) (.cons (.var 3) .nil))) (.cons (.tup (.cons (.var 2) (.cons (.bin .add (.var 3) (.tup (.cons (.var 7) .nil))) .nil))) (.cons (.tup (.cons (.var 2) (.cons (.bin .add (.stp false (.var 3)) (.var 3)) .nil))) (.cons (.tup (.cons (.var 2) .nil)) .nil))))))))
  (.bSeq (.sSet 11 (.bin .add (.var 11) (.lst (.cons (.cB .list (.cons (.var 1) .nil)) (.cons (.tup (.cons (.cB .list (.cons (.var 2) .nil)) (.cons (.var 3) .nil))) (.cons (.tup (.cons (.var 2) (.cons (.cB .list (.cons (.var 3) .nil)) .nil))) (.cons (.tup (.cons (.tup .nil) (.cons (.tup .nil) .nil))) (.cons (.c .non) (.cons (.c (.int 0)) (.cons (.tup (.cons (.bin .mul (.var 2) (.c (.int 13))) (.cons (.var 3) .nil))) .nil))))))))))
  (.bOne (.sRet (.ix (.var 11) (.call 0 (.lend 0 (.ev (.c (.int 13)) .nil))))))))))))))))
def zU:List FI:=[⟨"_law_draw",2,2,false,zG⟩]
def zr:MF:=fnM 12 (dB zU jN)
def Jh:Bx :=
  (.bSeq (.sSet 1 (.call 0 (.ev (.var 0) .nil)))
  (.bOne (.sRet (.and (.is .bool (.var 1)) (.and (.cmp .eq (.var 1) (.call 1 (.ev (.var 0) .nil))) (.cmp .eq (.call 0 (.ev (.var 0) .nil)) (.var 1)))))))
def ZU:List FI:=[⟨"machine_good",1,5,false,zm⟩,⟨"_law_machine_good",1,2,false,zw⟩]
def jC:MF:=fnM 2 (dB ZU Jh)
abbrev QU:Bx :=
  (.bOne (.sIf (.tNot (.tE (.call 0 (.ev (.call 1 (.lend 5 (.ev (.var 6) .nil))) .nil)))) (.bOne (.sRet (.c (.bl false)))) .bNil))
abbrev W4:Bx :=
  (.bSeq (.sSet 5 (.call 4 (.ev (.var 4) .nil)))
  (.bSeq (.sSet 6 (.call 3 (.lend 5 (.ev (.c (.int 12)) .nil))))
  (.bSeq (.sIf (.tE (.cmp .isn (.call 2 (.ev (.var 6) .nil)) (.c (.bl true)))) (.bOne (.sRet (.c (.bl false)))) .bNil)
  (.bOne (.sForR1 (.cons (.c (.int 5)) .nil) (.n 7)
  QU)))))
abbrev QV:Bx :=
  (.bOne (.sIf (.tNot (.tE (.call 0 (.ev (.var 3) .nil)))) (.bOne (.sRet (.c (.bl false)))) .bNil))
def t_law:Bx :=
  (.bSeq (.sSet 1 (.tup (.cons (.tup (.cons (.c (.int 0)) (.cons (.c (.int 0)) .nil))) .nil)))
  (.bSeq (.sSet 2 (.lst (.cons (.tup (.cons (.var 1) (.cons (.tup .nil) .nil))) (.cons (.tup (.cons (.var 1) (.cons (.tup (.cons (.c (.int 0)) .nil)) .nil))) (.cons (.tup (.cons (.tup (.cons (.tup (.cons (.c (.int 0)) .nil)) .nil)) (.cons (.tup .nil) .nil))) (.cons (.tup (.cons (.tup (.cons (.tup (.cons (.c (.int 0)) (.cons (.c (.int 0)) (.cons (.c (.int 0)) (.cons (.c (.int 0)) .nil))))) .nil)) (.cons (.tup .nil) .nil))) (.cons (.tup (.cons (.bin .mul (.var 1) (.c (.int 12))) (.cons (.tup (.cons (.c (.int 11)) .nil)) .nil))) (.cons (.tup (.cons (.bin .mul (.var 1) (.c (.int 13))) (.cons (.tup .nil) .nil))) .nil))))))))
  (.bSeq (.sForL (.bin .add (.var 2) (.lst (.cons (.tup (.cons (.tup .nil) (.cons (.tup .nil) .nil))) .nil))) (.n 3)
  QV)
  (.bSeq (.sForL (.bin .add (.lst (.cons (.call 5 (.ev (.var 0) (.ev (.c (.int 0)) .nil))) .nil)) (.sl (.var 0) (.oS (.c (.int 1))) (.oS (.c (.int 6))))) (.n 4)
  W4)
  (.bOne (.sRet (.c (.bl true))))))))
def yX:List FI:=[⟨"_law_right",1,6,false,jC⟩,⟨"_law_no_machine",2,3,false,zr⟩,⟨"machine_good",1,5,false,zm⟩,⟨"_law_machine_by",2,3,false,yH⟩,⟨"_law_pen_of",1,1,false,yW⟩,⟨"_law_cell_at",2,1,false,yJ⟩]
def m_law:MF:=fnM 8 (dB yX t_law)
structure Txt(K:PySem.W.Frag)(mg:Str->Option Value):Prop where
 n_all:mg "all"=none
 n_bool:mg "bool"=none
 n_int:mg "int"=none
 n_isinstance:mg "isinstance"=none
 n_len:mg "len"=none
 n_list:mg "list"=none
 n_max:mg "max"=none
 n_min:mg "min"=none
 n_range:mg "range"=none
 n_set:mg "set"=none
 n_sorted:mg "sorted"=none
 n_tuple:mg "tuple"=none
 n_zip:mg "zip"=none
 c_LEAST_SIGNS:∃t,mg "LEAST_SIGNS"=some (.int 2 t)
 c_MOST_SIGNS:∃t,mg "MOST_SIGNS"=some (.int 3 t)
 c_MOST_STANDS:∃t,mg "MOST_STANDS"=some (.int 12 t)
 f_is_whole:ZH K mg "is_whole" Yk ["thing"]
 f_is_whole_within:ZH K mg "is_whole_within" jH ["thing","low","high"]
 f_all_within:ZH K mg "all_within" JR ["thing","high"]
 f_steps_good:ZH K mg "steps_good" JS ["thing"]
 f_rising_stands:ZH K mg "rising_stands" jj ["thing","many"]
 f_machine_good:ZH K mg "machine_good" wI ["thing"]
 f__law_cell_at:ZH K mg "_law_cell_at" wJ ["_law_script","_law_k"]
 f__law_next:ZH K mg "_law_next" J0 ["_law_seed"]
 f__law_pen_of:ZH K mg "_law_pen_of" we ["_law_cell"]
 f__law_draw:ZH K mg "_law_draw" J1 ["_law_pen","_law_many"]
 f__law_whole:ZH K mg "_law_whole" JT ["_law_found"]
 f__law_machine_by:ZH K mg "_law_machine_by" jI ["_law_pen","_law_most"]
 f__law_machine_good:ZH K mg "_law_machine_good" yw ["_law_thing"]
 f__law_no_machine:ZH K mg "_law_no_machine" jJ ["_law_pen","_law_machine"]
 f__law_right:ZH K mg "_law_right" JU ["_law_thing"]
 f_law:ZH K mg "law" s_law ["_law_script"]
 cl:ClOk K mg cl_ rs_
section
variable{P:Program}{w:World}{K:PySem.W.Frag}{mg:Str->Option Value}{base:Heap}
theorem wE(T:Txt K mg):zAs K mg cs_:=(W1 T.c_LEAST_SIGNS (W1 T.c_MOST_SIGNS (W1 T.c_MOST_STANDS cs_nil)))
theorem wF(T:Txt K mg):BsOk mg bs_:=(ye T.n_all (ye T.n_bool (ye T.n_int (ye T.n_isinstance (ye T.n_len (ye T.n_list (ye T.n_max (ye T.n_min (ye T.n_range (ye T.n_set (ye T.n_sorted (ye T.n_tuple (ye T.n_zip bs_nil)))))))))))))
theorem W5(T:Txt K mg):FOk P w K mg base true "is_whole" 1 ["thing"] JK:=yL Yu ["thing"] T.f_is_whole (wE T) yo (wF T) T.cl (by decide +kernel)
theorem wy(T:Txt K mg):FOk P w K mg base true "is_whole_within" 2 ["thing","low","high"] zc:=yL yF ["thing","low","high"] T.f_is_whole_within (wE T) (z0 (W5 T) rfl yo) (wF T) T.cl (by decide +kernel)
theorem wz(T:Txt K mg):FOk P w K mg base true "all_within" 3 ["thing","high"] yP:=yL Jd ["thing","high"] T.f_all_within (wE T) (z0 (wy T) rfl yo) (wF T) T.cl (by decide +kernel)
theorem ZV(T:Txt K mg):FOk P w K mg base true "steps_good" 4 ["thing"] jA:=yL Je ["thing","signs"] T.f_steps_good (wE T) (z0 (wz T) rfl yo) (wF T) T.cl (by decide +kernel)
theorem Jr(T:Txt K mg):FOk P w K mg base true "rising_stands" 4 ["thing","many"] yU:=yL jv ["thing","many"] T.f_rising_stands (wE T) (z0 (wz T) rfl yo) (wF T) T.cl (by decide +kernel)
theorem jy(T:Txt K mg):FOk P w K mg base true "machine_good" 5 ["thing"] zm:=yL wN ["thing","steps","good"] T.f_machine_good (wE T) (z0 (Jr T) rfl (z0 (ZV T) rfl yo)) (wF T) T.cl (by decide +kernel)
theorem YO(T:Txt K mg):FOk P w K mg base true "_law_cell_at" 1 ["_law_script","_law_k"] yJ:=yL jG ["_law_script","_law_k"] T.f__law_cell_at (wE T) yo (wF T) T.cl (by decide +kernel)
theorem WN(T:Txt K mg):FOk P w K mg base true "_law_next" 1 ["_law_seed"] ja:=yL wb ["_law_seed"] T.f__law_next (wE T) yo (wF T) T.cl (by decide +kernel)
theorem Yh(T:Txt K mg):FOk P w K mg base true "_law_pen_of" 1 ["_law_cell"] yW:=yL jb ["_law_cell","_law_left"] T.f__law_pen_of (wE T) yo (wF T) T.cl (by decide +kernel)
theorem Ji(T:Txt K mg):FOk P w K mg base true "_law_draw" 2 ["_law_pen","_law_many"] zG:=yL jc ["_law_pen","_law_many","_law_found"] T.f__law_draw (wE T) (z0 (WN T) rfl yo) (wF T) T.cl (by decide +kernel)
theorem ZW(T:Txt K mg):FOk P w K mg base true "_law_whole" 1 ["_law_found"] jB:=yL Jg ["_law_found"] T.f__law_whole (wE T) yo (wF T) T.cl (by decide +kernel)
theorem w6(T:Txt K mg):FOk P w K mg base true "_law_machine_by" 3 ["_law_pen","_law_most"] yH:=yL jM ["_law_pen","_law_most","_law_signs","_law_many","_law_way","_law_steps","_law_stand","_law_line"] T.f__law_machine_by (wE T) (z0 (Ji T) rfl yo) (wF T) T.cl (by decide +kernel)
theorem wG(T:Txt K mg):FOk P w K mg base true "_law_machine_good" 2 ["_law_thing"] zw:=yL yN ["_law_thing","_law_many","_law_line"] T.f__law_machine_good (wE T) (z0 (ZW T) rfl yo) (wF T) T.cl (by decide +kernel)
theorem w8(T:Txt K mg):FOk P w K mg base true "_law_no_machine" 3 ["_law_pen","_law_machine"] zr:=yL jN ["_law_pen","_law_machine","_law_steps","_law_good","_law_many","_law_spot","_law_at","_law_odd","_law_line","_law_lines","_law_bent","_law_some"] T.f__law_no_machine (wE T) (z0 (Ji T) rfl yo) (wF T) T.cl (by decide +kernel)
theorem ZX(T:Txt K mg):FOk P w K mg base true "_law_right" 6 ["_law_thing"] jC:=yL Jh ["_law_thing","_law_found"] T.f__law_right (wE T) (z0 (jy T) rfl (z0 (wG T) rfl yo)) (wF T) T.cl (by decide +kernel)
end
theorem law_fd{P:Program}{w:World}{K:PySem.W.Frag}{mg:Str->Option Value}{fa:Addr}(hfa:mg "law"=some (.ref fa))(T:Txt K mg):∃fd:FuncData,(∀(s:Shared) (u:Value),BindsTo s fd ⟨[u],[]⟩ [("_law_script",u)])/\∀base:Heap,FnOk P w K mg base (CXx P w) 40 fa fd ["_law_script"] (spM K mg 1 m_law):=by
 obtain⟨a,fd,hm,F,bnd⟩:=T.f_law;have e:=hfa.symm.trans hm;cases e;refine⟨fd,?_,λbase=>(def_atB (P:=P) (w:=w) (base:=base) (fs:=yX) (lv:=6) t_law ["_law_script","_law_one","_law_things","_law_thing","_law_cell","_law_pen","_law_machine","_law_turn"] F (wE T) (z0 (ZX T) rfl (z0 (w8 T) rfl (z0 (jy T) rfl (z0 (w6 T) rfl (z0 (Yh T) rfl (z0 (YO T) rfl yo)))))) (wF T) T.cl (by decide +kernel)).mono (by decide)⟩;obtain⟨oc,od,kV,doc,pm,an,cdv,ct,osl,rfl,lk,hcd⟩:=F.ex;exact λs u=>.of_eq rfl
end My
namespace DV
open PySem L2
section
variable{fs:List FI}{E E1 E2 E3:zL}
theorem x_c{d:D}:dE fs (.c d) E=.ok (.val d,E):=by simp only[dE,eC]
theorem x_gl{d:D}:dE fs (.gl d) E=.ok (.val d,E):=by simp only[dE,eC]
theorem zD{i:Nat}{d:D}(h:E[i]?=some (.val d)):dE fs (.var i) E=.ok (.val d,E):=by simp only[dE,uf,h]
theorem WO{i:Nat}{ds:List D}(h:E[i]?=some (.own ds))(h':E.set i (.val (.lst ds))=E1):dE fs (.var i) E=.ok (.val (.lst ds),E1):=by simp only[dE,uf,h,h']
theorem yY{o:Op2}{a b:_}{r1 r2 r:R}(h1:dE fs a E=.ok (r1,E1))(h2:dE fs b E1=.ok (r2,E2))(h3:o.f r1.d r2.d=some r):dE fs (.bin o a b) E=.ok (r,E2):=by simp only[dE,YT,h1,h2,h3]
theorem jz{o:Cp}{a b:_}{r1 r2 r:R}(h1:dE fs a E=.ok (r1,E1))(h2:dE fs b E1=.ok (r2,E2))(h3:o.f r1.d r2.d=some r):dE fs (.cmp o a b) E=.ok (r,E2):=by simp only[dE,YT,h1,h2,h3]
theorem YV{a b:_}{r1 r2 r:R}(h1:dE fs a E=.ok (r1,E1))(h2:dE fs b E1=.ok (r2,E2))(h3:ixD r1.d r2.d=some r):dE fs (.ix a b) E=.ok (r,E2):=by simp only[dE,YT,h1,h2,h3]
theorem x_stp{k:Bool}{a:_}{r r':R}(h1:dE fs a E=.ok (r,E1))(h2:stepD k r.d=some r'):dE fs (.stp k a) E=.ok (r',E1):=by simp only[dE,eUn,h1,h2]
theorem JL{b:Bi}{as:_}{rs:List R}{r:R}(h1:dA fs as E=.ok (rs,E1))(h2:b.f (rs.map R.d)=some r):dE fs (.cB b as) E=.ok (r,E1):=by simp only[dE,eCB,h1,h2]
theorem yr{as:_}{rs:List R}{ds:List D}(h1:dA fs as E=.ok (rs,E1))(h2:rs.map R.d=ds)(h3:ds.length<=cap):dE fs (.tup as) E=.ok (.val (.tup ds),E1):=by
 subst h2;simp only[dE,Qm,eCB,h1];rw[if_pos h3]
theorem ZY{as:_}{rs:List R}{ds:List D}(h1:dA fs as E=.ok (rs,E1))(h2:rs.map R.d=ds)(h3:ds.length<=cap):dE fs (.lst as) E=.ok (.own ds,E1):=by
 subst h2;simp only[dE,Qn,eCB,h1];rw[if_pos h3]
theorem x_sl{a l u:_}{r r':R}{lo hi:Option Int}{E3:zL}(h1:dE fs a E=.ok (r,E1))(h2:dO fs l E1=.ok (lo,E2))(h3:dO fs u E2=.ok (hi,E3))(h4:slD r.d lo hi=some r'):dE fs (.sl a l u) E=.ok (r',E3):=by simp only[dE,eSl,h1,h2,h3,h4]
theorem j0{k:Nat}{a:_}{F:MF}{r r':R}{o:Slot}(h0:fiF fs k=F)(h1:dE fs a E=.ok (r,E1))(h2:F [.val r.d]=.ok (r',[o])):dE fs (.call k (.ev a .nil)) E=.ok (r',E1):=by
 subst h0;simp only[dE,dG,jo,zo,h1,zK,h2,zH]
theorem ZZ{k:Nat}{a b:_}{F:MF}{r r2 r':R}{o o2:Slot}(h0:fiF fs k=F)(h1:dE fs a E=.ok (r,E1))(h1':dE fs b E1=.ok (r2,E2))(h2:F [.val r.d,.val r2.d]=.ok (r',[o,o2])):dE fs (.call k (.ev a (.ev b .nil))) E=.ok (r',E2):=by
 subst h0;simp only[dE,dG,jo,zo,h1,h1',zK,h2,zH]
theorem wc{o o':Cp}{a b c:_}{i j k:Int}{E3:zL}{v:Bool}(h1:dE fs a E=.ok (.val (.int i),E1))(h2:dE fs b E1=.ok (.val (.int j),E2))(h3:o.b i j=true)(h4:dE fs c E2=.ok (.val (.int k),E3))(h5:o'.b j k=v):dE fs (.chain o o' a b c) E=.ok (.val (.bl v),E3):=by
 subst h5;simp only[dE,y8,h1,h2,h4];rw[if_pos h3]
theorem Jz{o o':Cp}{a b c:_}{i j:Int}(h1:dE fs a E=.ok (.val (.int i),E1))(h2:dE fs b E1=.ok (.val (.int j),E2))(h3:o.b i j=false):dE fs (.chain o o' a b c) E=.ok (.val (.bl false),E2):=by
 simp only[dE,y8,h1,h2];rw[if_neg (by rw[h3];decide)]
theorem uC{k i:Nat}{a:_}{F:MF}{r r':R}{p p':List D}{o:Slot}(h0:fiF fs k=F)(hE:E[i]?=some (.own p))(h1:dE fs a E=.ok (r,E))(h2:F [.par p,.val r.d]=.ok (r',[.par p',o]))(h3:E.set i (.own p')=E1):dE fs (.call k (.lend i (.ev a .nil))) E=.ok (r',E1):=by
 subst h0 h3;have hi:i<E.length:=(List.getElem?_eq_some_iff.mp hE).1;have hs:(E.set i .emp)[i]?=some .emp:=by simp[hi]
 simp only[dE,dG,jo,zo,hE,Jp,Bool.false_eq_true,if_false,h1,zK,Slot.list?,h2,zH,hs,Slot.put,List.set_set]
theorem x_call3{k:Nat}{a b c:_}{F:MF}{r r2 r3 r':R}{o o2 o3:Slot}(h0:fiF fs k=F)(h1:dE fs a E=.ok (r,E1))(h1':dE fs b E1=.ok (r2,E2))(h1'':dE fs c E2=.ok (r3,E3))(h2:F [.val r.d,.val r2.d,.val r3.d]=.ok (r',[o,o2,o3])):dE fs (.call k (.ev a (.ev b (.ev c .nil)))) E=.ok (r',E3):=by
 subst h0;simp only[dE,dG,jo,zo,h1,h1',h1'',zK,h2,zH]
theorem yZ{n:Nat}{body:MS}{ss o:List Slot}{r:R}(h:body (ss++replicate (n-ss.length) .emp)=.ok (.ret r,E1))(ho:zh ss E1=o):fnM n body ss=.ok (r,o):=by
 subst ho;simp only[fnM,h]
theorem zR:dA fs .nil E=.ok ([],E):=by simp only[dA,Ql]
theorem zB{a as:_}{r:R}{rs:List R}(h1:dE fs a E=.ok (r,E1))(h2:dA fs as E1=.ok (rs,E2)):dA fs (.cons a as) E=.ok (r::rs,E2):=by simp only[dA,Jo,h1,h2]
theorem o_N:dO fs .oN E=.ok (none,E):=by simp only[dO,oNone]
theorem o_S{a:_}{i:Int}(h:dE fs a E=.ok (.val (.int i),E1)):dO fs (.oS a) E=.ok (some i,E1):=by simp only[dO,zAO,h]
theorem t_E{a:_}{b:Bool}(h:dE fs a E=.ok (.val (.bl b),E1)):dT fs (.tE a) E=.ok (b,E1):=by simp only[dT,tT,h]
theorem Jj{a b:_}{c:Bool}(h1:dT fs a E=.ok (false,E1))(h2:dT fs b E1=.ok (c,E2)):dT fs (.tOr a b) E=.ok (c,E2):=by simp only[dT,uQ,h1,h2]
theorem Yi{a b:_}(h1:dT fs a E=.ok (true,E1)):dT fs (.tOr a b) E=.ok (true,E1):=by simp only[dT,uQ,h1]
theorem yf{a:_}{b c:Bool}(h1:dT fs a E=.ok (b,E1))(h2:(!b)=c):dT fs (.tNot a) E=.ok (c,E1):=by subst h2;simp only[dT,Jn,h1]
theorem yz{i:Nat}{a:_}{r:R}(h1:dE fs a E=.ok (r,E1))(h2:Yb i r E1=.ok E2):dS fs (.sSet i a) E=.ok (.nx,E2):=by simp only[dS,sSet,h1,h2]
theorem jO{t a b:_}{o:Out (Fl×zL)}(h1:dT fs t E=.ok (false,E1))(h2:dB fs b E1=o):dS fs (.sIf t a b) E=o:=by subst h2;simp only[dS,sIf,h1]
theorem yt{t a b:_}{o:Out (Fl×zL)}(h1:dT fs t E=.ok (true,E1))(h2:dB fs a E1=o):dS fs (.sIf t a b) E=o:=by subst h2;simp only[dS,sIf,h1]
theorem yK{a:_}{r:R}(h1:dE fs a E=.ok (r,E1)):dS fs (.sRet a) E=.ok (.ret r,E1):=by simp only[dS,sRet,h1]
theorem s_tup{is:List Nat}{a:_}{r:R}(h1:dE fs a E=.ok (r,E1))(h2:gT is r.d E1=.ok E2):dS fs (.sTup is a) E=.ok (.nx,E2):=by simp only[dS,sTup,h1,h2]
theorem zBZ{a b:_}{tg:Tg}{r:R}{ds:List D}{p:Fl×zL}(h1:dE fs a E=.ok (r,E1))(h2:r.d=.lst ds)(h3:YU tg.m (dB fs b) ds E1=.ok p):dS fs (.sForL a tg b) E=.ok p:=by simp only[dS];exact Wz (by simp only[sForL,h1,h2,h3])
theorem QW{a b:_}{tg:Tg}{r:R}{ds:List D}{p:Fl×zL}(h1:dE fs a E=.ok (r,E1))(h2:r.d=.tup ds)(h3:YU tg.m (dB fs b) ds E1=.ok p):dS fs (.sForT a tg b) E=.ok p:=by simp only[dS];exact Wz (by simp only[sForT,h1,h2,h3])
theorem QX{a b:_}{tg:Tg}{r:R}{j:Int}{p:Fl×zL}(h1:dA fs a E=.ok ([r],E1))(h2:r.d=.int j)(hj:-1000000<=j/\j<=1000000)(h3:YU tg.m (dB fs b) (zP 0 j.toNat) E1=.ok p):dS fs (.sForR1 a tg b) E=.ok p:=by
 simp only[dS];refine Wz ?_;simp only[sForR1,h1,h2];rw[if_pos ⟨by omega,by omega⟩,h3]
theorem i_T{a:_}{r:R}{ds:List D}(h1:dE fs a E=.ok (r,E1))(h2:r.d=.tup ds):dI fs (.iT a) E=.ok (ds,E1):=by simp only[dI,iT,h1,h2]
theorem i_R1{a:_}{r:R}{j:Int}(h1:dA fs a E=.ok ([r],E1))(h2:r.d=.int j)(hj:-1000000<=j/\j<=1000000):dI fs (.iR1 a) E=.ok (zP 0 j.toNat,E1):=by
 simp only[dI,iR1,h1,h2];rw[if_pos ⟨by omega,by omega⟩]
theorem jP:dB fs .bNil E=.ok (.nx,E):=by simp only[dB,Qp]
theorem zp{s:_}{o:Out (Fl×zL)}(h:dS fs s E=o):dB fs (.bOne s) E=o:=by simp only[dB,h]
theorem zX{s b:_}{o:Out (Fl×zL)}(h:dS fs s E=.ok (.nx,E1))(h2:dB fs b E1=o):dB fs (.bSeq s b) E=o:=by simp only[dB,uS,h,h2]
theorem y2{s b:_}{r:R}(h:dS fs s E=.ok (.ret r,E1)):dB fs (.bSeq s b) E=.ok (.ret r,E1):=by simp only[dB,uS,h]
theorem ya{d:D}:[d].length<=cap:=by simp only[List.length_singleton,cap];omega
theorem JM:([]:List D).length<=cap:=by simp only[length_nil,cap];omega
theorem JN{d e:D}:[d,e].length<=cap:=by simp only[length_cons,length_nil,cap];omega
theorem zBa{nl:Nat}{xs ys:List Str}{caps:List Nat}{it tt el:_}{tg:Tg}{ds rs:List D}{vs:List D}(pat:D->List DV.Slot)(f:D->Bool)(g:D->D)(hi:dI fs it E=.ok (ds,E1))(hcap:JE E1 caps=.ok (vs.map AR.tmp))
  (h1:∀d∈ds,∀S:List DV.Slot,S.length=nl->(∀s∈S,Jy s=true)->tg.m d (S++vs.map Slot.val)=.ok (pat d++vs.map Slot.val))
  (h2:∀d∈ds,(pat d).length=nl/\∀s∈pat d,Jy s=true)
  (h3:∀d∈ds,dT fs tt (pat d++vs.map Slot.val)=.ok (f d,pat d++vs.map Slot.val))
  (h4:∀d∈ds,f d=true->∃r,dE fs el (pat d++vs.map Slot.val)=.ok (r,pat d++vs.map Slot.val)/\r.d=g d) (hc:ds.length<=cap) (hr:(ds.filter f).map g=rs):dE fs (.comp nl xs ys caps it tg tt el) E=.ok (.own rs,E1):=by
 subst hr;simp only[dE];exact QK <| zAt pat f g ds h1 h2 h3 h4 hc hi hcap
theorem YQ{xs ys:List Str}{caps:List Nat}{it el:_}{ds rs:List D}{vs:List D}(g:D->D)(hi:dI fs it E=.ok (ds,E1))(hcap:JE E1 caps=.ok (vs.map AR.tmp))
  (h4:∀d∈ds,∃r,dE fs el (.val d::vs.map Slot.val)=.ok (r,.val d::vs.map Slot.val)/\r.d=g d) (hc:ds.length<=cap) (hr:ds.map g=rs):dE fs (.comp 1 xs ys caps it (.n 0) .tTr el) E=.ok (.own rs,E1):=by
 refine zBa (λd=>[.val d]) (λ_=>true) g hi hcap (λd hd S hS hn=>gN_ok1 hS hn) (λd hd=>⟨rfl,λs hs=>?_⟩) (λd hd=>?_) (λd hd _=>h4 d hd) hc ?_
 ·rw[mem_singleton]at hs;subst hs;rfl
 ·simp only[dT,Gd]
 ·rw[List.filter_eq_self.mpr (λ_ _=>rfl),hr]
end
end DV
namespace SM
open PySem L2 DV
def ends(w o k:Nat):Nat->List Nat
 |0=>1::replicate k 0
 |n+1=>(o*(ends w o k n).sum)::((ends w o k n).dropLast.map (w*·))
def U(w o k n:Nat):Nat:=(ends w o k n).sum
def F(w o k m:Nat):Nat->Nat
 |0=>0
 |r+1=>F w o k m r+w^r*o*U w o k (m-1-r)
def wt(die:List Nat)(row:List Nat):Nat:=row.foldl (λa x=>a*die.getD x 0) 1
def stp(s:Nat)(p:Nat×Nat)(x:Nat):Nat×Nat:=(max p.1 (if x=s then p.2+1 else 0),if x=s then p.2+1 else 0)
def stt(s:Nat)(row:List Nat):Nat×Nat:=row.foldl (stp s) (0,0)
def Die(die:List Nat):Prop:=(die.length=2\/die.length=3)/\∀x∈die,1<=x/\x<=9
theorem inner{die:List Nat}(hd:Die die){s:Nat}(hs:s<die.length)(k:Nat)(g:Nat->Nat)(r:List Nat) :
  ((List.range die.length).map λx=>if(stt s (r++[x])).1<=k then wt die (r++[x])*g (stt s (r++[x])).2 else 0).sum=if(stt s r).1<=k then wt die r*((die.sum-die.getD s 0)*g 0+if(stt s r).2+1<=k then die.getD s 0*g ((stt s r).2+1)else 0)else 0:=by
 have e1:∀x,stt s (r++[x])=stp s (stt s r) x:=λx=>by simp[stt]
 have e2:∀x,wt die (r++[x])=wt die r*die.getD x 0:=λx=>by simp[wt]
 simp only[e1,e2];generalize stt s r=p;generalize wt die r=t;obtain⟨m,h⟩:=p;have hm:∀a:Nat,max m (a+1)<=k↔m<=k/\a+1<=k:=λa=>by omega
 match die,hd with
 | [a,b],hd =>
  simp only[length_cons,length_nil]at hs;have:s=0\/s=1:=by omega
  rcases this with rfl|rfl<;>by_cases c1:m<=k<;>by_cases c2:h+1<=k<;>simp[range_succ,stp,hm,c1,c2,Nat.mul_add,Nat.mul_assoc]<;>omega
 | [a,b,c],hd =>
  simp only[length_cons,length_nil]at hs;have:s=0\/s=1\/s=2:=by omega
  have x1:a+(b+c)-b=a+c:=by omega
  have x2:a+(b+c)-c=a+b:=by omega
  rcases this with rfl|rfl|rfl<;>by_cases c1:m<=k<;>by_cases c2:h+1<=k<;>simp[range_succ,stp,hm,c1,c2,Nat.mul_add,Nat.add_mul,Nat.mul_assoc,x1,x2]<;>omega
 | [],hd=>simp[Die]at hd
 | [_],hd=>simp[Die]at hd
 |_::_::_::_::_,hd=>simp[Die]at hd
end SM
namespace SM
open PySem L2 DV
end SM
namespace SM
open PySem L2 DV
def tot(es:List (List Nat)):Nat:=(es.map List.sum).sum
def al(ws:List Nat)(k:Nat):Nat->List (List Nat)
 |0=>ws.map λw=>w::replicate (k-1) 0
 |n+1=>zipWith (λw e=>(w*(tot (al ws k n)-e.sum))::e.dropLast.map (w*·)) ws (al ws k n)
def A(ws:List Nat)(n k:Nat):Nat:=if n=0 then 1 else if k=0 then 0 else tot (al ws k (n-1))
end SM
namespace DV
open PySem L2
section
variable{fs:List FI}{E E1 E2 E3 E4 E5:zL}
theorem yh{k i:Nat}{a:_}{F:MF}{r r':R}{p p':List D}{o:DV.Slot}(h0:fiF fs k=F)(hE:E[i]?=some (.par p))(h1:dE fs a E=.ok (r,E))(h2:F [.par p,.val r.d]=.ok (r',[.par p',o]))(h3:E.set i (.par p')=E1):dE fs (.call k (.lend i (.ev a .nil))) E=.ok (r',E1):=by
 subst h0 h3;have hi:i<E.length:=(List.getElem?_eq_some_iff.mp hE).1;have hs:(E.set i .emp)[i]?=some .emp:=by simp[hi]
 simp only[dE,dG,jo,zo,hE,Jp,Bool.false_eq_true,if_false,h1,zK,Slot.list?,h2,zH,hs,Slot.put,List.set_set]
theorem x_neg{a:_}{i:Int}(h:dE fs a E=.ok (.val (.int i),E1)):dE fs (.neg a) E=.ok (.val (.int (-i)),E1):=by simp only[dE,eNeg,h]
theorem YR{a b:_}{o:Out (R×zL)}(h:dE fs a E=.ok (.val (.bl true),E1))(h1:dE fs b E1=o):dE fs (.and a b) E=o:=by subst h1;simp only[dE,uR,h]
theorem WP{a b:_}(h:dE fs a E=.ok (.val (.bl false),E1)):dE fs (.and a b) E=.ok (.val (.bl false),E1):=by simp only[dE,uR,h]
theorem W6{T:Ty}{a:_}{r:R}{t:String}{v:Bool}(h:dE fs a E=.ok (r,E1))(ht:tyD r.d=some t)(hv:Z4 t T.s=v):dE fs (.is T a) E=.ok (.val (.bl v),E1):=by subst hv;simp only[dE,eIs,h,ht]
theorem i_Z{t1 t2:Bool}{as:_}{r1 r2:R}{ds es:List D}(h1:dA fs as E=.ok ([r1,r2],E1))(h2:seqD t1 r1.d=some ds)(h3:seqD t2 r2.d=some es):dI fs (.iZ t1 t2 as) E=.ok (zipWith uU ds es,E1):=by
 simp only[dI,iZ,h1,h2,h3]
theorem s_app{i:Nat}{a:_}{r:R}{ds ds0:List D}(h0:E[i]?=some (.own ds0))(h1:dE fs a E=.ok (r,E1))(h2:E1[i]?=some (.own ds))(hl:ds.length<cap)(h3:E1.set i (.own (ds++[r.d]))=E2):dS fs (.sApp i a) E=.ok (.nx,E2):=by
 subst h3;simp only[dS,sApp,h0,Slot.list?,h1,h2,Slot.put];rw[if_pos hl]
end
theorem put_ok{i:Nat}{E:zL}{s:DV.Slot}(r:R)(h:E[i]?=some s)(hs:Jy s=true):Yb i r E=.ok (E.set i r.slot):=by
 simp only[Yb,h];cases s<;>first|rfl|(cases hs)
theorem QY{i:Nat}{E E1:zL}{s:DV.Slot}{r:R}(h:E[i]?=some s)(hs:Jy s=true)(e:E.set i r.slot=E1):Yb i r E=.ok E1:=by
 rw[put_ok r h hs,e]
theorem ne_int(x y:Int):neG (.int x) (.int y)=some (.val (.bl (!decide (x=y)))):=by simp[neG,neF]
theorem eq_int(x y:Int):eqG (.int x) (.int y)=some (.val (.bl (decide (x=y)))):=by simp[eqG,eqF]
theorem eq_str(t:Str):eqG (.str t) (.str t)=some (.val (.bl true)):=by simp[eqG,eqF]
theorem ne_str(t:Str):neG (.str t) (.str t)=some (.val (.bl false)):=by simp[neG,neF]
theorem W7(a b:List D)(h:a.length+b.length<=100000):JA (.lst a) (.lst b)=some (.own (a++b)):=by
 simp only[JA];rw[if_pos (by simp only[cap];omega)]
theorem jd(a b:List D)(h:a.length+b.length<=100000):JA (.tup a) (.tup b)=some (.val (.tup (a++b))):=by
 simp only[JA];rw[if_pos (by simp only[cap];omega)]
theorem rep_one(x:D)(k:Nat):(replicate k [x]).flatten=replicate k x:=by
 induction k with
 |zero=>rfl
 |succ k ih=>rw[replicate_succ,flatten_cons,ih,replicate_succ];rfl
theorem zAv(d:D)(n:Nat)(h:n<=1000):Z3 (.tup [d]) (.int n)=some (.val (.tup (replicate n d))):=by
 simp only[Z3];rw[if_pos ⟨by omega,by omega,by simp only[List.length_singleton,Int.toNat_natCast,cap];omega⟩,Int.toNat_natCast,rep_one]
theorem QZ{x y:D}{r:R}(e:Z3 x y=some r):WE x y=some r:=by simp only[WE,e]
theorem Za(d:D)(n:Nat)(h:n<=1000):WE (.tup [d]) (.int n)=some (.val (.tup (replicate n d))):=by
 exact QZ (zAv d n h)
theorem WQ{ds:List D}{k:Nat}{d:D}(h:ds[k]?=some d):atI ds (k:Int)=some d:=by
 obtain⟨hk,e⟩:=List.getElem?_eq_some_iff.mp h;have:(k:Int)<ds.length:=by omega
 simp[atI,ixN,this,h]
theorem ixD_lst(ds:List D)(i:Int):ixD (.lst ds) (.int i)=(atI ds i).map .val:=rfl
theorem pick{ds:List D}{r:Int}(h0:0<=r)(h1:r<ds.length):∃d,d∈ds/\ixD (.lst ds) (.int r)=some (.val d):=by
 obtain⟨k,rfl⟩:=Int.eq_ofNat_of_zero_le h0;have hk:k<ds.length:=by omega
 refine⟨ds[k],getElem_mem hk,?_⟩;rw[ixD_lst,WQ (getElem?_eq_getElem hk)];rfl
theorem WR(f:D->Bool):∀ds:List D,jn (ds.map λd=>D.bl (f d))=some (ds.map f)
 | []=>rfl
 |d::ds=>by simp only[map_cons,jn,WR f ds];rfl
theorem all_map(f:D->Bool)(ds:List D):(ds.map f).all id=ds.all f:=by simp[List.all_map]
theorem Yv{f:D->Bool}{ds:List D}{b:Bool}(h:ds.all f=b):allD [.lst (ds.map λd=>D.bl (f d))]=some (.val (.bl b)):=by
 subst h;simp[allD,WR,all_map]
theorem zAw(ds:List D)(k:Nat)(h:k<=ds.length):y4 ds (some (k:Int)) none=ds.drop k:=by
 unfold y4;rw[HT.sIx_nat];simp only[HT.sIx];rw[show min k ds.length=k by omega,List.take_of_length_le (by simp)]
theorem pow30:powD (.int 10) (.int 30)=some (.val (.int (10^30))):=by
 simp[powD,GQ]
def N(l:List Nat):List D:=l.map λn:Nat=>D.int (n:Int)
theorem j1(l:List Nat):(N l).length=l.length:=by simp[N]
theorem zAx{l:List Nat}{d:D}(h:d∈N l):∃n∈l,d=.int (n:Nat):=by
 obtain⟨n,hn,rfl⟩:=mem_map.mp h;exact⟨n,hn,rfl⟩
theorem N_app(a b:List Nat):N (a++b)=N a++N b:=by simp[N]
theorem ints_N(n:Nat):zP 0 n=N (List.range n):=by
 have key:∀n k:Nat,zP (k:Int) n=N (List.range' k n):=by
  intro n
  induction n with
  |zero=>intro k;rfl
  |succ n ih =>
   intro k;have:=ih (k+1);rw[List.range'_succ];show D.int (k:Int)::zP ((k:Int)+1) n=D.int (k:Int)::N (List.range' (k+1) n);rw[<- this];simp
 rw[List.range_eq_range'];exact key n 0
end DV
namespace DV
open PySem L2
section
variable{fs:List FI}{E E1 E2 E3:zL}
end
end DV
namespace DV
open PySem L2
section
variable{fs:List FI}{E E1 E2 E3 E4 E5 E6:zL}
end
end DV
namespace DV
open PySem L2
section
variable{fs:List FI}{E E1 E2 E3 E4 E5 E6:zL}
end
theorem WS{tg:MG}{body:MS}(I:Nat->zL->Prop)(p:Nat->Bool)(r:Nat->R):∀(ds:List D) (k:Nat) (E:zL),I k E ->
  (∀i d,ds[i]?=some d->∀E,I (k+i) E->∃E1 E2,tg d E=.ok E1/\((p (k+i)=true/\body E1=.ok (.ret (r (k+i)),E2))\/(p (k+i)=false/\body E1=.ok (.nx,E2)/\I (k+i+1) E2))) ->
  (∃i E',i<ds.length/\p (k+i)=true/\(∀j,j<i->p (k+j)=false)/\DV.YU tg body ds E=.ok (.ret (r (k+i)),E'))\/((∀i,i<ds.length->p (k+i)=false)/\∃E',DV.YU tg body ds E=.ok (.nx,E')/\I (k+ds.length) E')
 | [],k,E,h,step=>.inr ⟨λi hi=>absurd hi (Nat.not_lt_zero i),E,rfl,h⟩
 |d::ds,k,E,h,step=>by
  obtain⟨E1,E2,h1,h2|⟨h2,h3,h4⟩⟩:=step 0 d rfl E h
  ·exact .inl ⟨0,E2,by simp,h2.1,λj hj=>absurd hj (Nat.not_lt_zero j),by simp only[DV.YU,h1,h2.2]⟩
  ·have ih:=WS I p r ds (k+1) E2 h4 λi d' e E h=>by
    have:=step (i+1) d' (by simpa using e) E (by rw[show k+(i+1)=k+1+i by omega];exact h);rw[show k+(i+1)=k+1+i by omega]at this;exact this
   rcases ih with⟨i,E',hi,q1,q2,q3⟩|⟨q1,E',q2,q3⟩
   ·refine .inl ⟨i+1,E',by simp;omega,by rw[show k+(i+1)=k+1+i by omega];exact q1,λj hj=>?_,?_⟩
    ·cases j with
     |zero=>exact h2
     |succ j=>rw[show k+(j+1)=k+1+j by omega];exact q2 j (by omega)
    ·rw[show k+(i+1)=k+1+i by omega]
     simp only[DV.YU,h1,h3];exact q3
   ·refine .inr ⟨λj hj=>?_,E',?_,?_⟩
    ·cases j with
     |zero=>exact h2
     |succ j=>rw[show k+(j+1)=k+1+j by omega];exact q1 j (by simp at hj;omega)
    ·simp only[DV.YU,h1,h3];exact q2
    ·rw[length_cons,show k+(ds.length+1)=k+1+ds.length by omega];exact q3
theorem zAy{a b:List D}(h1:∀d∈a,eqb 19 d=true)(h2:∀d∈b,eqb 19 d=true):eqG (.lst a) (.lst b)=some (.val (.bl (deqs a b))):=by
 have e:eqF (.lst a) (.lst b)=none:=rfl;simp only[eqG,e,eqDD];rw[if_pos ⟨by simp only[eqb,all_eq_true];exact h1,by simp only[eqb,all_eq_true];exact h2⟩];rfl
end DV
namespace DV
open PySem L2
theorem JO{tg:MG}{tt:MT}{el:ME}(I:Nat->zL->List D->Prop):∀(ds:List D) (k:Nat) (E:zL) (acc:List D),I k E acc->acc.length+ds.length<=cap ->
  (∀i d,ds[i]?=some d->∀E acc,I (k+i) E acc->∃E1 E2,tg d E=.ok E1/\((tt E1=.ok (false,E2)/\I (k+i+1) E2 acc)\/∃r E3,tt E1=.ok (true,E2)/\el E2=.ok (r,E3)/\I (k+i+1) E3 (acc++[r.d]))) ->
  ∃res E',wC tg tt el ds E acc=.ok (res,E')/\I (k+ds.length) E' res
 | [],k,E,acc,h,hc,step=>⟨acc,E,rfl,h⟩
 |d::ds,k,E,acc,h,hc,step=>by
  simp only[length_cons]at hc;have next:∀i d',ds[i]?=some d'->∀E acc,I (k+1+i) E acc->∃E1 E2,tg d' E=.ok E1/\((tt E1=.ok (false,E2)/\I (k+1+i+1) E2 acc)\/∃r E3,tt E1=.ok (true,E2)/\el E2=.ok (r,E3)/\I (k+1+i+1) E3 (acc++[r.d])):=λi d' e E acc h=>by
   have:=step (i+1) d' (by simpa using e) E acc (by rw[show k+(i+1)=k+1+i by omega];exact h);rw[show k+(i+1)=k+1+i by omega]at this;exact this
  obtain⟨E1,E2,h1,⟨h2,h3⟩|⟨r,E3,h2,h3,h4⟩⟩:=step 0 d rfl E acc h
  ·obtain⟨res,E',q1,q2⟩:=JO I ds (k+1) E2 acc h3 (by omega) next
   refine⟨res,E',?_,by rw[length_cons,show k+(ds.length+1)=k+1+ds.length by omega];exact q2⟩;simp only[wC,h1,h2];exact q1
  ·obtain⟨res,E',q1,q2⟩:=JO I ds (k+1) E3 (acc++[r.d]) h4 (by simp;omega) next
   refine⟨res,E',?_,by rw[length_cons,show k+(ds.length+1)=k+1+ds.length by omega];exact q2⟩;simp only[wC,h1,h2,h3];rw[if_pos (by omega)];exact q1
section
variable{fs:List FI}{E:zL}
theorem Qa{xs ys:List Str}{caps:List Nat}{it tt el:_}{ds vs p:List D}{i:Nat}{E':List D->zL}{E2:zL}(Pn:List D->Prop)(I:Nat->List D->Prop)(hi:dI fs it E=.ok (ds,E))(hcap:JE E caps=.ok (.ln i::vs.map AR.tmp))(hl:zK (.ln i::vs.map AR.tmp) E=.ok (.par p::vs.map Slot.val,E2))(hp:Pn p)(h0:I 0 [])
  (h4:∀k d,ds[k]?=some d->∀p acc,Pn p->I k acc->∃p1,(dT fs tt (.val d::.par p::vs.map Slot.val)=.ok (false,.val d::.par p1::vs.map Slot.val)/\Pn p1/\I (k+1) acc) \/
   ∃r p2,dT fs tt (.val d::.par p::vs.map Slot.val)=.ok (true,.val d::.par p1::vs.map Slot.val)/\dE fs el (.val d::.par p1::vs.map Slot.val)=.ok (r,.val d::.par p2::vs.map Slot.val)/\Pn p2/\I (k+1) (acc++[r.d])) (hc:ds.length<=cap)
  (hb:∀(x:DV.Slot) (p':List D),zH (.ln i::vs.map AR.tmp) ((zh (.emp::.par p::vs.map Slot.val) (x::.par p'::vs.map Slot.val)).drop 1) E E2=.ok (E' p')) :
  ∃rs p',dE fs (.comp 1 xs ys caps it (.n 0) tt el) E=.ok (.own rs,E' p')/\Pn p'/\I ds.length rs:=by
 obtain⟨res,E3,e1,e2,x,p',hE,_,hp'⟩:=JO (tg:=gN 0) (tt:=dT fs tt) (el:=dE fs el) (λk E acc=>I k acc/\∃x p,E=x::.par p::vs.map Slot.val/\Jy x=true/\Pn p) ds 0 (.emp::.par p::vs.map Slot.val) [] ⟨h0,.emp,p,rfl,rfl,hp⟩ (by simpa using hc) (λi d q E acc ⟨ha,x,p,hE,hx,hp⟩=>by
  rw[zero_add]at ha ⊢;have hg:gN 0 d E=.ok (.val d::.par p::vs.map Slot.val):=by subst hE;cases x<;>first|rfl|(cases hx)
  obtain⟨p1,⟨t1,hp1,a1⟩|⟨r,p2,t1,t2,hp2,a2⟩⟩:=h4 i d q p acc hp ha
  ·exact⟨_,_,hg,.inl ⟨t1,a1,.val d,p1,rfl,rfl,hp1⟩⟩
  ·exact⟨_,_,hg,.inr ⟨r,_,t1,t2,a2,.val d,p2,rfl,rfl,hp2⟩⟩)
 rw[zero_add]at e2;subst hE;refine⟨res,p',?_,hp',e2⟩;simp only[dE];refine QK ?_;have e1':wC (gN 0) (dT fs tt) (dE fs el) ds (replicate 1 .emp++.par p::vs.map Slot.val) []=.ok (res,x::.par p'::vs.map Slot.val):=e1;have hb':zH (.ln i::vs.map AR.tmp) ((zh (replicate 1 .emp++.par p::vs.map Slot.val) (x::.par p'::vs.map Slot.val)).drop 1) E E2=.ok (E' p'):=hb x p';simp only[Yc,hi,hcap,hl,Tg.m,e1',hb']
end
end DV
namespace My
open PySem L2 DV SM
def isFn:D->Bool
 | .fn _=>true
 | .exn _=>true
 |_=>false
def isW:D->Bool
 | .int _=>true
 |_=>false
def Jk(lo hi:Int):D->Bool
 | .int i=>decide (lo<=i)&&decide (i<=hi)
 |_=>false
def okD:D->Prop
 | .tup ds=>ds.length<=cap/\∀d∈ds,isFn d=false
 | .fn _=>False
 | .exn _=>False
 |_=>True
theorem uZ(d:D)(h:isFn d=false):JK [.val d]=.ok (.val (.bl (isW d)),[.emp]):=by
 cases d<;>first|rfl|(cases h)
theorem JP(d:D)(lo hi:Int)(h:isFn d=false):zc [.val d,.val (.int lo),.val (.int hi)]=.ok (.val (.bl (Jk lo hi d)),[.emp,.emp,.emp]):=by
 have e:=uZ d h;cases d with
 |int i =>
  simp[zc,yF,yT,fnM,dB,dS,dE,dG,dT,dA,dI,dO,sRet,sIf,uS,Qp,sSet,Yb,R.slot,uR,eOr,GP,jo,zo,uf,eC,zK,fiF,fiX,R.d,zH,y8,Cp.b,Cp.f,Op2.f,Bi.f,Ty.s,ju,jt,wY,wZ,wa,uQ,Wk,Jn,tT,YT,eCB,Jo,Ql,Qm,Qn,WY,vt,Tg.m,eqG,eqF,neG,neF,Qq,Qo,WE,Z3,e,isW,Jk];by_cases h1:lo<=i<;>simp[h1,ju,jt]
 |_=>first|(cases h;done)|simp[zc,yF,yT,fnM,dB,dS,dE,dG,dT,dA,dI,dO,sRet,sIf,uS,Qp,sSet,Yb,R.slot,uR,eOr,GP,jo,zo,uf,eC,zK,fiF,fiX,R.d,zH,y8,Cp.b,Cp.f,Op2.f,Bi.f,Ty.s,ju,jt,wY,wZ,wa,uQ,Wk,Jn,tT,YT,eCB,Jo,Ql,Qm,Qn,WY,vt,Tg.m,eqG,eqF,neG,neF,Qq,Qo,WE,Z3,e,isW,Jk]
def nxt(s:Int):Int:=((s+7919)%2147483647*((s+7919)%2147483647)+48271*((s+7919)%2147483647)+12345)%2147483629
theorem W8(s:Int):ja [.val (.int s)]=.ok (.val (.int (nxt s)),[.emp]):=by
 have h1:0<=(s+7919)%2147483647:=Int.emod_nonneg _ (by decide);have h2:(s+7919)%2147483647<2147483647:=Int.emod_lt_of_pos _ (by decide);have h3:-18446744073709551616<(s+7919)%2147483647/\(s+7919)%2147483647<18446744073709551616:=by omega
 simp[ja,wb,Jf,fnM,dB,dS,dE,dG,dT,dA,dI,dO,sRet,sIf,uS,Qp,sSet,Yb,R.slot,uR,eOr,GP,jo,zo,uf,eC,zK,fiF,fiX,R.d,zH,y8,Cp.b,Cp.f,Op2.f,Bi.f,Ty.s,ju,jt,wY,wZ,wa,uQ,Wk,Jn,tT,YT,eCB,Jo,Ql,Qm,Qn,WY,vt,Tg.m,eqG,eqF,neG,neF,Qq,Qo,WE,Z3,JA,Z3,zBF,GQ,nxt,h3]
def Pen(p:List D):Prop:=∃l f s:Int,p=[.int l,.int f,.int s]
theorem zn(p:List D)(hp:Pen p)(m:Int)(h0:0<m)(h1:m<1073741824):∃r p',zG [.par p,.val (.int m)]=.ok (.val (.int r),[.par p',.emp])/\0<=r/\r<m/\Pen p':=by
 obtain⟨l,f,s,rfl⟩:=hp;by_cases hf:f=1
 ·refine⟨l%m,[.int (l/m),.int f,.int s],?_,Int.emod_nonneg _ (by omega),Int.emod_lt_of_pos _ h0,_,_,_,rfl⟩
  simp[zG,jc,jx,fnM,dB,dS,dE,dG,dT,dA,dI,dO,sRet,sIf,uS,Qp,sSet,Yb,R.slot,uR,eOr,GP,jo,zo,uf,eC,zK,fiF,fiX,R.d,zH,y8,Cp.b,Cp.f,Op2.f,Bi.f,Ty.s,ju,jt,wY,wZ,wa,uQ,Wk,Jn,tT,YT,eCB,Jo,Ql,Qm,Qn,WY,vt,Tg.m,eqG,eqF,neG,neF,Qq,Qo,WE,Z3,eIxO,Jp,ixS,atI,ixN,eqF,hf,zBF,zAM,GQ,h0,h1,Yo,Slot.list?,Slot.put]
 ·refine⟨nxt (nxt s+7)/64%m,[.int l,.int f,.int (nxt (nxt s+7))],?_,Int.emod_nonneg _ (by omega),Int.emod_lt_of_pos _ h0,_,_,_,rfl⟩
  simp[zG,jc,jx,fnM,dB,dS,dE,dG,dT,dA,dI,dO,sRet,sIf,uS,Qp,sSet,Yb,R.slot,uR,eOr,GP,jo,zo,uf,eC,zK,fiF,fiX,R.d,zH,y8,Cp.b,Cp.f,Op2.f,Bi.f,Ty.s,ju,jt,wY,wZ,wa,uQ,Wk,Jn,tT,YT,eCB,Jo,Ql,Qm,Qn,WY,vt,Tg.m,eqG,eqF,neG,neF,Qq,Qo,WE,Z3,eIxO,Jp,ixS,atI,ixN,eqF,hf,zBF,zAM,JA,GQ,h0,h1,Yo,Slot.list?,Slot.put,W8]
theorem Zb(c:Int):∃p,yW [.val (.int c)]=.ok (.own p,[.emp])/\Pen p:=by
 refine⟨[.int (if 0-c > c then 0-c else c),.int (if decide (10^18<=(if 0-c > c then 0-c else c))=true then 1 else 0),.int ((if 0-c > c then 0-c else c)%1000003)],?_,_,_,_,rfl⟩;simp[yW,jb,wO,fnM,dB,dS,dE,dG,dT,dA,dI,dO,sRet,sIf,uS,Qp,sSet,Yb,R.slot,uR,eOr,GP,jo,zo,uf,eC,zK,fiF,fiX,R.d,zH,y8,Cp.b,Cp.f,Op2.f,Bi.f,Ty.s,ju,jt,wY,wZ,wa,uQ,Wk,Jn,tT,YT,eCB,Jo,Ql,Qm,Qn,WY,vt,Tg.m,eqG,eqF,neG,neF,Qq,Qo,WE,Z3,Qo,subD,zBE,intF,geD,powD,zBF,GQ,cap]
theorem Yj(ns:List Int):∃c,yJ [.val (.lst (ns.map .int)),.val (.int 0)]=.ok (.val (.int c),[.emp,.emp]):=by
 cases ns with
 |nil=>exact⟨0,rfl⟩
 |cons n ns => 
  refine⟨n,?_⟩;have:(0:Int)<ns.length+1:=by omega
  simp[yJ,jG,jw,fnM,dB,dS,dE,dG,dT,dA,dI,dO,sRet,sIf,uS,Qp,sSet,Yb,R.slot,uR,eOr,GP,jo,zo,uf,eC,zK,fiF,fiX,R.d,zH,y8,Cp.b,Cp.f,Op2.f,Bi.f,Ty.s,ju,jt,wY,wZ,wa,uQ,Wk,Jn,tT,YT,eCB,Jo,Ql,Qm,Qn,WY,vt,Tg.m,eqG,eqF,neG,neF,Qq,Qo,WE,Z3,lenD,ltD,zBE,ixD,atI,ixN,this]
end My
namespace My
open PySem L2 DV SM
theorem Qb{d:D}(h:okD d):isFn d=false:=by cases d<;>first|rfl|(cases h)
def awB(hi:Int):D->Bool
 | .tup ds=>ds.all (Jk 0 hi)
 |_=>false
theorem Jl(d:D)(hi:Int)(h:okD d):yP [.val d,.val (.int hi)]=.ok (.val (.bl (awB hi d)),[.emp,.emp]):=by
 cases d with
 |tup ds =>
  exact yZ (zp (yK (YR (W6 (zD rfl) rfl rfl) (JL (zB (YQ (vs:=[.int hi]) (λd=>.bl (Jk 0 hi d)) (i_T (zD rfl) rfl) rfl (λd hd=>⟨_,x_call3 (F:=zc) rfl (zD rfl) x_c (zD rfl) (JP d 0 hi (h.2 d hd)),rfl⟩) h.1 rfl) zR) (Yv rfl))))) rfl
 |fn x=>cases h
 |exn x=>cases h
 |_=>exact yZ (zp (yK (WP (W6 (zD rfl) rfl rfl)))) rfl
def ok3:D->Prop
 | .tup ds=>ds.length<=cap/\∀d∈ds,okD d
 | .fn _=>False
 | .exn _=>False
 |_=>True
theorem ok3_okD{d:D}(h:ok3 d):okD d:=by
 cases d with
 |tup ds=>exact⟨h.1,λx hx=>Qb (h.2 x hx)⟩
 |fn x=>cases h
 |exn x=>cases h
 |_=>trivial
def ok4:D->Prop
 | .tup ds=>ds.length<=cap/\∀d∈ds,ok3 d
 | .fn _=>False
 | .exn _=>False
 |_=>True
def tl:D->Nat
 | .tup ds=>ds.length
 |_=>0
def stB:D->Bool
 | .tup rows=>decide (1<=rows.length)&&decide (rows.length<=12)&&rows.all (awB ((rows.length:Int)-1))&&(decide (2<=tl (rows.getD 0 .non))&&decide (tl (rows.getD 0 .non)<=3)&&rows.all λr=>decide (tl r=tl (rows.getD 0 .non)))
 |_=>false
theorem Qc{hi:Int}{d:D}(h:awB hi d=true):∃ds,d=.tup ds:=by
 cases d with
 |tup ds=>exact⟨ds,rfl⟩
 |_=>cases h
theorem WT(d:D)(h:ok3 d):jA [.val d]=.ok (.val (.bl (stB d)),[.emp]):=by
 cases d with
 |tup rows =>
  have l1:dE yG (.cB .len (.cons (.var 0) .nil)) [.val (.tup rows),.emp]=.ok (.val (.int rows.length),[.val (.tup rows),.emp]):=JL (zB (zD rfl) zR) rfl;have t1:dT yG (.tNot (.tE (.is .tuple (.var 0)))) [.val (.tup rows),.emp]=.ok (false,[.val (.tup rows),.emp]):=yf (t_E (b:=true) (W6 (zD rfl) rfl rfl)) rfl;by_cases h1:1<=rows.length
  ·have b1:Cp.le.b 1 (rows.length:Int)=true:=decide_eq_true (by omega)
   by_cases h2:rows.length<=12
   ·have b2:Cp.le.b (rows.length:Int) 12=true:=decide_eq_true (by omega)
    have ca:dE yG (.cB .all (.cons (.comp 1 ["row"] ["thing"] [0] (.iT (.var 0)) (.n 0) .tTr (.call 0 (.ev (.var 0) (.ev (.bin .sub (.cB .len (.cons (.var 1) .nil)) (.c (.int 1))) .nil)))) .nil)) [.val (.tup rows),.emp]=.ok (.val (.bl (rows.all (awB ((rows.length:Int)-1)))),[.val (.tup rows),.emp]) :=
     JL (zB (YQ (vs:=[.tup rows]) (λd=>.bl (awB ((rows.length:Int)-1) d)) (i_T (zD rfl) rfl) rfl (λd hd=>⟨_,ZZ (F:=yP) rfl (zD rfl) (yY (JL (zB (zD rfl) zR) rfl) x_c rfl) (Jl d _ (h.2 d hd)),rfl⟩) h.1 rfl) zR) (Yv rfl)
    have t2:=Jj t1 (yf (t_E (wc x_c l1 b1 (x_gl (d:=.int 12)) b2)) rfl);cases ha:rows.all (awB ((rows.length:Int)-1))with
    |false =>
     rw[ha]at ca;have e:stB (.tup rows)=false:=by simp only[stB,ha,Bool.and_false,Bool.false_and]
     rw[e];exact yZ (zX (jO t2 jP) (y2 (yt (yf (t_E ca) rfl) (zp (yK x_c))))) rfl
    |true =>
     rw[ha]at ca;have all_tup:∀r∈rows,∃ds,r=.tup ds:=λr hr=>Qc (all_eq_true.mp ha r hr)
     obtain⟨r0,ji,hrows⟩:∃r0 ji,rows=r0::ji:=by
      cases rows with
      |nil=>exact absurd h1 (by simp)
      |cons a l=>exact⟨a,l,rfl⟩
     obtain⟨d0,hd0⟩:=all_tup r0 (by rw[hrows];exact mem_cons_self);have hg:rows.getD 0 .non=.tup d0:=by rw[hrows,<- hd0];rfl
     have hat:ixD (.tup rows) (.int 0)=some (.val (.tup d0)):=by
      have e0:rows[0]?=some (.tup d0):=by rw[hrows,hd0];rfl
      exact congrArg (Option.map R.val) (WQ e0)
     have e:stB (.tup rows)=(decide (2<=d0.length)&&decide (d0.length<=3)&&rows.all λr=>decide (tl r=d0.length)):=by
      unfold stB;dsimp only;rw[ha,hg,decide_eq_true h1,decide_eq_true h2];rfl
     rw[e];have st:dS yG (.sSet 1 (.cB .len (.cons (.ix (.var 0) (.c (.int 0))) .nil))) [.val (.tup rows),.emp]=.ok (.nx,[.val (.tup rows),.val (.int d0.length)]):=yz (JL (zB (YV (zD rfl) x_c hat) zR) rfl) rfl;have cl:dE yG (.cB .all (.cons (.comp 1 ["row"] ["signs"] [1] (.iT (.var 0)) (.n 0) .tTr (.cmp .eq (.cB .len (.cons (.var 0) .nil)) (.var 1))) .nil)) [.val (.tup rows),.val (.int d0.length)]=.ok (.val (.bl (rows.all λr=>decide (tl r=d0.length))),[.val (.tup rows),.val (.int d0.length)]):=by
      refine JL (zB (YQ (vs:=[.int d0.length]) (λd=>.bl (decide (tl d=d0.length))) (i_T (zD rfl) rfl) rfl (λd hd=>?_) h.1 rfl) zR) (Yv rfl);obtain⟨ds,rfl⟩:=all_tup d hd;refine⟨_,jz (JL (zB (zD rfl) zR) rfl) (zD rfl) (eq_int _ _),?_⟩;show D.bl _=D.bl _;simp only[tl];congr 1;exact decide_eq_decide.mpr ⟨λh=>Int.ofNat.inj h,λh=>by rw[h]⟩
     refine yZ (E1:=[.val (.tup rows),.val (.int d0.length)]) (zX (jO t2 jP) (zX (jO (yf (t_E ca) rfl) jP) (zX st (zp (yK ?_))))) rfl;by_cases g1:2<=d0.length
     ·have c1:Cp.le.b 2 (d0.length:Int)=true:=decide_eq_true (by omega)
      by_cases g2:d0.length<=3
      ·have c2:Cp.le.b (d0.length:Int) 3=true:=decide_eq_true (by omega)
       rw[decide_eq_true g1,decide_eq_true g2];exact YR (wc (x_gl (d:=.int 2)) (zD rfl) c1 (x_gl (d:=.int 3)) c2) cl
      ·have c2:Cp.le.b (d0.length:Int) 3=false:=decide_eq_false (by omega)
       rw[decide_eq_false g2,Bool.and_false,Bool.false_and];exact WP (wc (x_gl (d:=.int 2)) (zD rfl) c1 (x_gl (d:=.int 3)) c2)
     ·have c1:Cp.le.b 2 (d0.length:Int)=false:=decide_eq_false (by omega)
      rw[decide_eq_false g1,Bool.false_and,Bool.false_and];exact WP (Jz (x_gl (d:=.int 2)) (zD rfl) c1)
   ·have b2:Cp.le.b (rows.length:Int) 12=false:=decide_eq_false (by omega)
    have e:stB (.tup rows)=false:=by simp only[stB,decide_eq_false h2,Bool.and_false,Bool.false_and]
    rw[e];exact yZ (y2 (yt (Jj t1 (yf (t_E (wc x_c l1 b1 (x_gl (d:=.int 12)) b2)) rfl)) (zp (yK x_c)))) rfl
  ·have b1:Cp.le.b 1 (rows.length:Int)=false:=decide_eq_false (by omega)
   have e:stB (.tup rows)=false:=by simp only[stB,decide_eq_false h1,Bool.false_and]
   rw[e];exact yZ (y2 (yt (Jj t1 (yf (t_E (Jz x_c l1 b1)) rfl)) (zp (yK x_c)))) rfl
 |fn x=>cases h
 |exn x=>cases h
 |_=>exact yZ (y2 (yt (Yi (yf (t_E (W6 (zD rfl) rfl rfl)) rfl)) (zp (yK x_c)))) rfl
end My
namespace My
open PySem L2 DV SM
def uh:D->Int
 | .int i=>i
 |_=>0
def Qd:List D->Bool
 |a::b::r=>decide (uh a<uh b)&&Qd (b::r)
 |_=>true
theorem Qe:∀ds:List D,(zipWith uU ds (ds.drop 1)).all (λd=>match d with | .tup [a,b]=>decide (uh a<uh b)|_=>false)=Qd ds
 | []=>rfl
 | [a]=>rfl
 |a::b::r=>by
  have:=Qe (b::r);simp only[List.drop_succ_cons,List.drop_zero]at this;show((decide (uh a<uh b))&&_)=(decide (uh a<uh b)&&Qd (b::r));rw[<- this]
def patP:D->List DV.Slot
 | .tup [a,b]=>[.val a,.val b]
 |_=>[]
def rsB(g:D)(n:Int):Bool:=awB (n-1) g&&match g with
 | .tup ds=>Qd ds
 |_=>false
theorem uD{lo hi:Int}{d:D}(h:Jk lo hi d=true):∃i:Int,d=.int i/\lo<=i/\i<=hi:=by
 cases d with
 |int i=>simp only[Jk,Bool.and_eq_true,decide_eq_true_eq]at h;exact⟨i,rfl,h.1,h.2⟩
 |_=>cases h
theorem w9{p:D->Prop}:∀{ds es:List D},(∀d∈ds,p d)->(∀d∈es,p d)->∀d∈zipWith uU ds es,∃a b,d=.tup [a,b]/\p a/\p b
 | [],_,_,_,d,h=>by simp at h
 |_::_,[],_,_,d,h=>by simp at h
 |a::ds,b::es,h1,h2,d,h=>by
  rw[List.zipWith_cons_cons]at h;rcases mem_cons.mp h with h|h
  ·exact⟨a,b,h,h1 a mem_cons_self,h2 b mem_cons_self⟩
  ·exact w9 (λx hx=>h1 x (mem_cons_of_mem _ hx)) (λx hx=>h2 x (mem_cons_of_mem _ hx)) d h
theorem lt_ints(x y:Int):ltD (.int x) (.int y)=some (.val (.bl (decide (x<y)))):=rfl
theorem cut_one(ds:List D):y4 ds (some 1) none=ds.drop 1:=by
 cases ds with
 |nil=>rfl
 |cons a l=>exact zAw (a::l) 1 (by simp)
theorem zAz(d:D)(n:Int)(h:okD d):yU [.val d,.val (.int n)]=.ok (.val (.bl (rsB d n)),[.emp,.emp]):=by
 have ca:dE jf (.call 0 (.ev (.var 0) (.ev (.bin .sub (.var 1) (.c (.int 1))) .nil))) [.val d,.val (.int n)]=.ok (.val (.bl (awB (n-1) d)),[.val d,.val (.int n)]):=ZZ (F:=yP) rfl (zD rfl) (yY (zD rfl) x_c rfl) (Jl d _ h);cases ha:awB (n-1) d with
 |false =>
  rw[ha]at ca;have e:rsB d n=false:=by unfold rsB;rw[ha];rfl
  rw[e];exact yZ (y2 (yt (yf (t_E ca) rfl) (zp (yK x_c)))) rfl
 |true =>
  rw[ha]at ca;obtain⟨ds,rfl⟩:=Qc ha;have e:rsB (.tup ds) n=Qd ds:=by unfold rsB;rw[ha];rfl
  rw[e];have hin:∀x∈ds,∃i:Int,x=.int i:=λx hx=>by obtain⟨i,e,_⟩:=uD (all_eq_true.mp ha x hx);exact⟨i,e⟩
  refine yZ (zX (jO (yf (t_E ca) rfl) jP) (zp (yK (JL (zB (zBa (vs:=[]) patP (λ_=>true) (λd=>.bl (match d with | .tup [a,b]=>decide (uh a<uh b)|_=>false)) (i_Z (t1:=true) (t2:=true) (zB (zD rfl) (zB (x_sl (zD rfl) (o_S x_c) o_N (show slD (.tup ds) (some 1) none=some (.val (.tup (ds.drop 1)))by simp only[slD,cut_one])) zR)) rfl rfl) rfl ?_ ?_ ?_ ?_ ?_ ?_) zR) (Yv (Qe ds)))))) rfl
  ·intro d hd S hS hn
   obtain⟨a,b,rfl,_⟩:=w9 (p:=λ_=>True) (λ_ _=>trivial) (λ_ _=>trivial) d hd
   match S,hS,hn with
   | [s0,s1],_,hn =>
    have n0:=hn s0 (by simp);have n1:=hn s1 (by simp);cases s0<;>cases s1<;>first|rfl|(cases n0;done)|(cases n1;done)
  ·intro d hd
   obtain⟨a,b,rfl,_⟩:=w9 (p:=λ_=>True) (λ_ _=>trivial) (λ_ _=>trivial) d hd;refine⟨rfl,λs hs=>?_⟩;simp only[patP,mem_cons,mem_nil_iff,or_false]at hs;rcases hs with rfl|rfl<;>rfl
  ·intro d hd
   simp only[dT,Gd]
  ·intro d hd _
   obtain⟨a,b,rfl,⟨i,rfl⟩,⟨j,rfl⟩⟩:=w9 (p:=λx=>∃i:Int,x=.int i) hin (λx hx=>hin x (List.mem_of_mem_drop hx)) d hd;exact⟨_,jz (zD rfl) (zD rfl) (lt_ints i j),rfl⟩
  ·rw[List.length_zipWith];have:=h.1;omega
  ·rw[List.filter_eq_self.mpr (λ_ _=>rfl)]
def mgB:D->Bool
 | .tup [s,g]=>stB s&&rsB g (tl s)
 |_=>false
theorem st_tup{s:D}(h:stB s=true):∃rows,s=.tup rows:=by
 cases s with
 |tup rows=>exact⟨rows,rfl⟩
 |_=>cases h
theorem wP(d:D)(h:ok4 d):zm [.val d]=.ok (.val (.bl (mgB d)),[.emp]):=by
 cases d with
 |tup ds =>
  have t1:dT yV (.tNot (.tE (.is .tuple (.var 0)))) [.val (.tup ds),.emp,.emp]=.ok (false,[.val (.tup ds),.emp,.emp]):=yf (t_E (b:=true) (W6 (zD rfl) rfl rfl)) rfl;have t2:∀b,(!decide ((ds.length:Int)=2))=b->dT yV (.tOr (.tNot (.tE (.is .tuple (.var 0)))) (.tE (.cmp .ne (.cB .len (.cons (.var 0) .nil)) (.c (.int 2))))) [.val (.tup ds),.emp,.emp]=.ok (b,[.val (.tup ds),.emp,.emp]):=λb hb=>by
   subst hb;exact Jj t1 (t_E (jz (JL (zB (zD rfl) zR) rfl) x_c (ne_int _ _)))
  match ds,h,t2 with
  | [s,g],h,t2 =>
   have hs:=h.2 s (by simp);have hg:=h.2 g (by simp);have c1:dE yV (.call 1 (.ev (.var 1) .nil)) [.val (.tup [s,g]),.val s,.val g]=.ok (.val (.bl (stB s)),[.val (.tup [s,g]),.val s,.val g]):=j0 (F:=jA) rfl (zD rfl) (WT s hs);refine yZ (E1:=[.val (.tup [s,g]),.val s,.val g]) (zX (jO (t2 false rfl) jP) (zX (s_tup (zD rfl) rfl) (zp (yK ?_)))) rfl;cases e:stB s with
   |false=>rw[e]at c1;show dE _ _ _=.ok (.val (.bl (stB s&&_)),_);rw[e];exact WP c1
   |true =>
    rw[e]at c1;obtain⟨rows,rfl⟩:=st_tup e;show dE _ _ _=.ok (.val (.bl (stB (.tup rows)&&rsB g (tl (.tup rows)))),_);rw[e,Bool.true_and];exact YR c1 (ZZ (F:=yU) rfl (zD rfl) (JL (zB (zD rfl) zR) rfl) (zAz g _ (ok3_okD hg)))
  | [],h,t2=>exact yZ (y2 (yt (t2 true rfl) (zp (yK x_c)))) rfl
  | [_],h,t2=>exact yZ (y2 (yt (t2 true rfl) (zp (yK x_c)))) rfl
  |a::b::c::r,h,t2=>exact yZ (y2 (yt (t2 true (by simp;omega)) (zp (yK x_c)))) rfl
 |fn x=>cases h
 |exn x=>cases h
 |_=>exact yZ (y2 (yt (Yi (yf (t_E (W6 (zD rfl) rfl rfl)) rfl)) (zp (yK x_c)))) rfl
end My
namespace My
open PySem L2 DV SM
theorem W9(d:D)(h:isFn d=false):jB [.val d]=.ok (.val (.bl (isW d)),[.emp]):=by
 cases d<;>first|rfl|(cases h)
theorem zBb{d:D}{n:Int}(h:isFn d=false):∃r,dE zA (.and (.call 0 (.ev (.var 0) .nil)) (.chain .le .lt (.c (.int 0)) (.var 0) (.var 1))) [.val d,.val (.int n)]=.ok (r,[.val d,.val (.int n)])/\r.d=.bl (Jk 0 (n-1) d):=by
 have c1:dE zA (.call 0 (.ev (.var 0) .nil)) [.val d,.val (.int n)]=.ok (.val (.bl (isW d)),[.val d,.val (.int n)]):=j0 (F:=jB) rfl (zD rfl) (W9 d h);cases d with
 |int i =>
  by_cases h0:0<=i
  ·refine⟨_,YR c1 (wc x_c (zD rfl) (decide_eq_true h0) (zD rfl) rfl),?_⟩
   show D.bl _=D.bl _
   simp only[Jk,decide_eq_true h0,Bool.true_and];congr 1;exact decide_eq_decide.mpr (by omega)
  ·refine⟨_,YR c1 (Jz x_c (zD rfl) (decide_eq_false h0)),?_⟩
   show D.bl _=D.bl _
   simp only[Jk,decide_eq_false h0,Bool.false_and]
 |fn x=>cases h
 |exn x=>cases h
 |_=>exact⟨_,WP c1,rfl⟩
def lnB(n:Int)(l0:Nat):D->Bool
 | .tup ds=>(decide (ds.length=2)||decide (ds.length=3))&&decide (ds.length=l0)&&ds.all (Jk 0 (n-1))
 |_=>false
theorem nin23(k:Nat):inG true (.int (k:Nat)) (.tup [.int 2,.int 3])=some (.val (.bl (!(decide (k=2)||decide (k=3))))):=by
 by_cases h2:k=2
 ·subst h2;rfl
 ·by_cases h3:k=3
  ·subst h3;rfl
  ·have a2:decide (k=2)=false:=decide_eq_false h2
   have a3:decide (k=3)=false:=decide_eq_false h3;rw[a2,a3];have b2:eqV (.int 2) (.int ((k:Nat):Int))=false:=by simp[eqV];omega
   have b3:eqV (.int 3) (.int ((k:Nat):Int))=false:=by simp[eqV];omega
   simp[inG,inF,flat,flV,inV,b2,b3]
theorem ix0(s g:D):ixD (.tup [s,g]) (.int 0)=some (.val s):=rfl
theorem ix1(s g:D):ixD (.tup [s,g]) (.int 1)=some (.val g):=rfl
theorem vA{rows:List D}{g d:D}{n:Int}{l0:Nat}(h:okD d)(h0:tl d≠0->∃d0,rows[0]?=some (.tup d0)/\d0.length=l0) :
  dB zA zj [.val (.tup [.tup rows,g]),.val (.int n),.val d]=if lnB n l0 d=true then .ok (.nx,[.val (.tup [.tup rows,g]),.val (.int n),.val d])else .ok (.ret (.val (.bl false)),[.val (.tup [.tup rows,g]),.val (.int n),.val d]):=by
 cases d with
 |tup ds =>
  have t1:dT zA (.tNot (.tE (.is .tuple (.var 2)))) [.val (.tup [.tup rows,g]),.val (.int n),.val (.tup ds)]=.ok (false,[.val (.tup [.tup rows,g]),.val (.int n),.val (.tup ds)]):=yf (t_E (b:=true) (W6 (zD rfl) rfl rfl)) rfl;have l1:dE zA (.cB .len (.cons (.var 2) .nil)) [.val (.tup [.tup rows,g]),.val (.int n),.val (.tup ds)]=.ok (.val (.int ds.length),[.val (.tup [.tup rows,g]),.val (.int n),.val (.tup ds)]):=JL (zB (zD rfl) zR) rfl;have t2:dT zA (.tE (.cmp .nin (.cB .len (.cons (.var 2) .nil)) (.tup (.cons (.c (.int 2)) (.cons (.c (.int 3)) .nil))))) [.val (.tup [.tup rows,g]),.val (.int n),.val (.tup ds)]=.ok (!(decide (ds.length=2)||decide (ds.length=3)),[.val (.tup [.tup rows,g]),.val (.int n),.val (.tup ds)]) :=
   t_E (jz l1 (yr (zB x_c (zB x_c zR)) rfl JN) (nin23 ds.length))
  cases hc:(decide (ds.length=2)||decide (ds.length=3))with
  |false =>
   rw[hc]at t2;have e:lnB n l0 (.tup ds)=false:=by simp only[lnB,hc,Bool.false_and]
   rw[e];exact y2 (yt (Jj t1 (Yi t2)) (zp (yK x_c)))
  |true =>
   rw[hc]at t2;have hne:ds.length≠0:=by
    simp only[Bool.or_eq_true,decide_eq_true_eq]at hc;omega
   obtain⟨d0,e0,rfl⟩:=h0 hne;have hat:ixD (.tup rows) (.int 0)=some (.val (.tup d0)):=congrArg (Option.map R.val) (WQ e0);have t3:dT zA (.tE (.cmp .ne (.cB .len (.cons (.var 2) .nil)) (.cB .len (.cons (.ix (.ix (.var 0) (.c (.int 0))) (.c (.int 0))) .nil)))) [.val (.tup [.tup rows,g]),.val (.int n),.val (.tup ds)]=.ok (!decide (((ds.length:Nat):Int)=((d0.length:Nat):Int)),[.val (.tup [.tup rows,g]),.val (.int n),.val (.tup ds)]) :=
    t_E (jz l1 (JL (zB (YV (YV (zD rfl) x_c (ix0 _ _)) x_c hat) zR) rfl) (ne_int _ _))
   have ca:dE zA (.cB .all (.cons (.comp 1 ["_law_stand"] ["_law_many"] [1] (.iT (.var 2)) (.n 0) .tTr (.and (.call 0 (.ev (.var 0) .nil)) (.chain .le .lt (.c (.int 0)) (.var 0) (.var 1)))) .nil)) [.val (.tup [.tup rows,g]),.val (.int n),.val (.tup ds)]=.ok (.val (.bl (ds.all (Jk 0 (n-1)))),[.val (.tup [.tup rows,g]),.val (.int n),.val (.tup ds)]) :=
    JL (zB (YQ (vs:=[.int n]) (λd=>.bl (Jk 0 (n-1) d)) (i_T (zD rfl) rfl) rfl (λd hd=>zBb (h.2 d hd)) h.1 rfl) zR) (Yv rfl)
   by_cases hl:ds.length=d0.length
   ·rw[decide_eq_true (by rw[hl])]at t3
    have e:lnB n d0.length (.tup ds)=ds.all (Jk 0 (n-1)):=by unfold lnB;dsimp only;rw[hc,decide_eq_true hl];rfl
    rw[e];cases ha:ds.all (Jk 0 (n-1))with
    |false=>rw[ha]at ca;exact zX (jO (Jj t1 (Jj t2 t3)) jP) (zp (yt (yf (t_E ca) rfl) (zp (yK x_c))))
    |true=>rw[ha]at ca;exact zX (jO (Jj t1 (Jj t2 t3)) jP) (zp (jO (yf (t_E ca) rfl) jP))
   ·rw[decide_eq_false (by omega)]at t3
    have e:lnB n d0.length (.tup ds)=false:=by simp only[lnB,decide_eq_false hl,Bool.and_false,Bool.false_and]
    rw[e];exact y2 (yt (Jj t1 (Jj t2 t3)) (zp (yK x_c)))
 |fn x=>cases h
 |exn x=>cases h
 |_=>exact y2 (yt (Yi (yf (t_E (W6 (zD rfl) rfl rfl)) rfl)) (zp (yK x_c)))
end My
namespace My
open PySem L2 DV SM
theorem Qf(d:D)(E:zL):zh [.val d] E=[.emp]:=by cases E<;>rfl
theorem x_sset{fs:List FI}{E E1:zL}{as:Ax}{rs:List R}{r:R}(h1:dA fs as E=.ok (rs,E1))(h2:QJ (rs.map R.d)=some r):dE fs (.sset as) E=.ok (r,E1):=by simp only[dE,eCB,h1,h2]
theorem Zc{rows:List D}(h1:1<=rows.length)(h2:rows.length<=12):stB (.tup rows)=rows.all (lnB rows.length (tl (rows.getD 0 .non))):=by
 have e:stB (.tup rows)=(rows.all (awB ((rows.length:Int)-1))&&(decide (2<=tl (rows.getD 0 .non))&&decide (tl (rows.getD 0 .non)<=3)&&rows.all λr=>decide (tl r=tl (rows.getD 0 .non)))):=by
  unfold stB;dsimp only;rw[decide_eq_true h1,decide_eq_true h2];rfl
 rw[e,Bool.eq_iff_iff];generalize tl (rows.getD 0 .non)=l0 at *;constructor
 ·intro h
  simp only[Bool.and_eq_true,decide_eq_true_eq,all_eq_true]at h;obtain⟨a,⟨b,c⟩,f⟩:=h;rw[all_eq_true];intro r hr;obtain⟨ds,rfl⟩:=Qc (a r hr);have hf:ds.length=l0:=f _ hr;have ha:ds.all (Jk 0 ((rows.length:Int)-1))=true:=a _ hr;unfold lnB;dsimp only;rw[ha,decide_eq_true hf];have:(decide (ds.length=2)||decide (ds.length=3))=true:=by simp only[Bool.or_eq_true,decide_eq_true_eq];omega
  rw[this];rfl
 ·intro h
  rw[all_eq_true]at h;have key:∀r∈rows,∃ds,r=.tup ds/\(ds.length=2\/ds.length=3)/\ds.length=l0/\ds.all (Jk 0 ((rows.length:Int)-1))=true:=λr hr=>by
   have:=h r hr;cases r with
   |tup ds =>
    simp only[lnB,Bool.and_eq_true,Bool.or_eq_true,decide_eq_true_eq]at this;exact⟨ds,rfl,this.1.1,this.1.2,this.2⟩
   |_=>cases this
  simp only[Bool.and_eq_true,decide_eq_true_eq,all_eq_true];refine⟨λr hr=>?_,?_,λr hr=>?_⟩
  ·obtain⟨ds,rfl,_,_,q⟩:=key r hr;exact q
  ·obtain⟨r0,hr⟩:∃r,r∈rows:=by
    cases rows with
    |nil=>exact absurd h1 (by simp)
    |cons a l=>exact⟨a,mem_cons_self⟩
   obtain⟨ds,rfl,q1,q2,_⟩:=key r0 hr;omega
  ·obtain⟨ds,rfl,_,q,_⟩:=key r hr;exact q
theorem WU:∀(a b:List Nat),deqs (a.map λn:Nat=>D.int (n:Int)) (b.map λn:Nat=>D.int (n:Int))=decide (a=b)
 | [],[]=>rfl
 | [],_::_=>rfl
 |_::_,[]=>rfl
 |x::a,y::b=>by
  have i:=WU a b;have e:deq (.int (x:Int)) (.int (y:Int))=decide (x=y):=by
   simp only[deq,flV,eqV];rw[Bool.eq_iff_iff,beq_iff_eq,decide_eq_true_eq];exact⟨λh=>Int.ofNat.inj h,λh=>by rw[h]⟩
  rw[map_cons,map_cons,deqs,i,e,Bool.eq_iff_iff];simp only[Bool.and_eq_true,decide_eq_true_eq,List.cons.injEq]
theorem Zd:∀ns:List Nat,Qd (ns.map λn:Nat=>D.int (n:Int))=true↔Wv ns
 | []=>⟨λ_=>.nil,λ_=>rfl⟩
 | [a]=>⟨λ_=>List.pairwise_singleton _ _,λ_=>rfl⟩
 |a::b::r=>by
  have i:=Zd (b::r);rw[map_cons]at i;rw[map_cons,map_cons,Qd,Bool.and_eq_true,i,decide_eq_true_eq];unfold Wv;constructor
  ·rintro ⟨h,p⟩
   have hab:a<b:=by simp only[uh]at h;omega
   refine pairwise_cons.mpr ⟨λx hx=>?_,p⟩;rcases mem_cons.mp hx with rfl|hx
   ·exact hab
   ·exact Nat.lt_trans hab ((pairwise_cons.mp p).1 x hx)
  ·intro p
   have:=(pairwise_cons.mp p).1 b mem_cons_self;exact⟨by simp only[uh];omega,(pairwise_cons.mp p).2⟩
theorem uE:∀ns:List Nat,(∀n∈ns,n<16)->jq (ns.map λn:Nat=>D.int (n:Int))=some ns
 | [],_=>rfl
 |n::ns,h=>by
  have hn:=h n mem_cons_self;rw[map_cons,jq,if_pos (by omega),uE ns λm hm=>h m (mem_cons_of_mem _ hm)];simp
theorem WV{hi:Int}(hh:hi<16):∀gs:List D,gs.all (Jk 0 hi)=true->∃ns:List Nat,gs=(ns.map λn:Nat=>D.int (n:Int))/\∀n∈ns,n<16
 | [],_=>⟨[],rfl,λn h=>by cases h⟩
 |d::gs,h=>by
  rw[all_cons,Bool.and_eq_true]at h;obtain⟨ns,rfl,hb⟩:=WV hh gs h.2;obtain⟨i,rfl,h0,h1⟩:=uD h.1;refine⟨i.toNat::ns,?_,λn hn=>?_⟩
  ·rw[map_cons];congr 2;omega
  ·rcases mem_cons.mp hn with rfl|hn
   ·omega
   ·exact hb n hn
theorem uF(ns:List Nat):∀d∈(ns.map λn:Nat=>D.int (n:Int)),eqb 19 d=true:=λd hd=>by
 obtain⟨n,_,rfl⟩:=mem_map.mp hd;rfl
theorem srt_eq{ns:List Nat}(hb:∀n∈ns,n<16):eqG (.lst (ns.map λn:Nat=>D.int (n:Int))) (.lst (srtD ns))=some (.val (.bl (Qd (ns.map λn:Nat=>D.int (n:Int))))):=by
 unfold srtD;rw[zAy (uF _) (uF _),WU];congr 3;rw[Bool.eq_iff_iff,decide_eq_true_eq,Zd];constructor
 ·intro h;rw[h];exact List.pairwise_lt_range.filter _
 ·intro h;exact YL ns h 16 hb
theorem zA0(d:D)(h:ok4 d):zw [.val d]=.ok (.val (.bl (mgB d)),[.emp]):=by
 cases d with
 |tup ds =>
  have t1:dT zA (.tNot (.tE (.is .tuple (.var 0)))) [.val (.tup ds),.emp,.emp]=.ok (false,[.val (.tup ds),.emp,.emp]):=yf (t_E (b:=true) (W6 (zD rfl) rfl rfl)) rfl;have t2:∀b,(!decide ((ds.length:Int)=2))=b->dT zA (.tE (.cmp .ne (.cB .len (.cons (.var 0) .nil)) (.c (.int 2)))) [.val (.tup ds),.emp,.emp]=.ok (b,[.val (.tup ds),.emp,.emp]):=λb hb=>by
   subst hb;exact t_E (jz (JL (zB (zD rfl) zR) rfl) x_c (ne_int _ _))
  match ds,h,t1,t2 with
  | [s,g],h,t1,t2 =>
   have hs:=h.2 s (by simp);have hg:=h.2 g (by simp);cases s with
   |tup rows =>
    have t3:dT zA (.tNot (.tE (.is .tuple (.ix (.var 0) (.c (.int 0)))))) [.val (.tup [.tup rows,g]),.emp,.emp]=.ok (false,[.val (.tup [.tup rows,g]),.emp,.emp]):=yf (t_E (b:=true) (W6 (YV (zD rfl) x_c (ix0 _ _)) rfl rfl)) rfl;have st:dS zA (.sSet 1 (.cB .len (.cons (.ix (.var 0) (.c (.int 0))) .nil))) [.val (.tup [.tup rows,g]),.emp,.emp]=.ok (.nx,[.val (.tup [.tup rows,g]),.val (.int rows.length),.emp]):=yz (JL (zB (YV (zD rfl) x_c (ix0 _ _)) zR) rfl) rfl;by_cases h1:1<=rows.length
    ·have b1:Cp.le.b 1 (rows.length:Int)=true:=decide_eq_true (by omega)
     by_cases h2:rows.length<=12
     ·have b2:Cp.le.b (rows.length:Int) 12=true:=decide_eq_true (by omega)
      have t4:dT zA (.tNot (.tE (.chain .le .le (.c (.int 1)) (.var 1) (.c (.int 12))))) [.val (.tup [.tup rows,g]),.val (.int rows.length),.emp]=.ok (false,[.val (.tup [.tup rows,g]),.val (.int rows.length),.emp]):=yf (t_E (wc x_c (zD rfl) b1 x_c b2)) rfl;cases g with
      |tup gs =>
       have t5:dT zA (.tNot (.tE (.is .tuple (.ix (.var 0) (.c (.int 1)))))) [.val (.tup [.tup rows,.tup gs]),.val (.int rows.length),.emp]=.ok (false,[.val (.tup [.tup rows,.tup gs]),.val (.int rows.length),.emp]):=yf (t_E (b:=true) (W6 (YV (zD rfl) x_c (ix1 _ _)) rfl rfl)) rfl;have pre:∀o,dB zA (.bSeq (.sForT (.ix (.var 0) (.c (.int 0))) (.n 2) zj)
  (.bSeq (.sIf (.tNot (.tE (.cB .all (.cons (.comp 1 ["_law_stand"] ["_law_many"] [1] (.iT (.ix (.var 0) (.c (.int 1)))) (.n 0) .tTr (.and (.call 0 (.ev (.var 0) .nil)) (.chain .le .lt (.c (.int 0)) (.var 0) (.var 1)))) .nil)))) (.bOne (.sRet (.c (.bl false)))) .bNil)
  (.bOne (.sRet (.cmp .eq (.cB .list (.cons (.ix (.var 0) (.c (.int 1))) .nil)) (.sset (.cons (.ix (.var 0) (.c (.int 1))) .nil))))))) [.val (.tup [.tup rows,.tup gs]),.val (.int rows.length),.emp]=o->dB zA yN [.val (.tup [.tup rows,.tup gs]),.emp,.emp]=o:=λo ho=>zX (jO (Jj t1 (Jj (t2 false rfl) t3)) jP) (zX st (zX (jO (Jj t4 t5) jP) ho))
       have lp:=DV.WS (tg:=gN 2) (body:=dB zA zj) (λk E=>∃s2,E=[.val (.tup [.tup rows,.tup gs]),.val (.int rows.length),s2]/\Jy s2=true/\∀j,j<k->lnB rows.length (tl (rows.getD 0 .non)) (rows.getD j .non)=true) (λi=>!lnB rows.length (tl (rows.getD 0 .non)) (rows.getD i .non)) (λ_=>.val (.bl false)) rows 0 [.val (.tup [.tup rows,.tup gs]),.val (.int rows.length),.emp] ⟨.emp,rfl,rfl,λj hj=>absurd hj (Nat.not_lt_zero j)⟩
        (λi d q E ⟨s2,hE,q2,hj⟩=>by
         rw[zero_add]at hj ⊢;have hd:rows.getD i .non=d:=by rw[getD_eq_getElem?_getD,q];rfl
         have hmem:=mem_of_getElem? q;have lo:=vA (rows:=rows) (g:=.tup gs) (n:=rows.length) (l0:=tl (rows.getD 0 .non)) (hs.2 d hmem) (λhtl=>by
          have h0:rows[0]?=some (rows.getD 0 .non):=by rw[getD_eq_getElem?_getD,getElem?_eq_getElem (by omega)];rfl
          by_cases hi:i=0
          ·subst hi
           rw[hd];cases d with
           |tup d0=>exact⟨d0,q,rfl⟩
           |_=>exact absurd rfl htl
          ·have:=hj 0 (by omega)
           rw[h0];cases hr0:rows.getD 0 .non with
           |tup d0=>exact⟨d0,rfl,rfl⟩
           |_=>rw[hr0]at this;cases this)
         refine⟨[.val (.tup [.tup rows,.tup gs]),.val (.int rows.length),.val d],[.val (.tup [.tup rows,.tup gs]),.val (.int rows.length),.val d],?_,?_⟩
         ·subst hE;cases s2<;>first|rfl|(cases q2)
         ·rw[hd]
          cases hb:lnB rows.length (tl (rows.getD 0 .non)) d with
          |false=>rw[hb]at lo;exact .inl ⟨rfl,lo⟩
          |true =>
           rw[hb]at lo;refine .inr ⟨rfl,lo,.val d,rfl,rfl,λj hj'=>?_⟩;by_cases hji:j=i
           ·subst hji;rw[hd];exact hb
           ·exact hj j (by omega))
       have xt:dE zA (.ix (.var 0) (.c (.int 0))) [.val (.tup [.tup rows,.tup gs]),.val (.int rows.length),.emp]=.ok (.val (.tup rows),[.val (.tup [.tup rows,.tup gs]),.val (.int rows.length),.emp]):=YV (zD rfl) x_c (ix0 _ _);rcases lp with⟨i,E',hi,hp,_,f⟩|⟨hall,E',f,s2,rfl,q2,_⟩
       ·have e:stB (.tup rows)=false:=by
         rw[Zc h1 h2,Bool.eq_false_iff];intro ht;rw[all_eq_true]at ht;have:=ht (rows.getD i .non) (by rw[getD_eq_getElem?_getD,getElem?_eq_getElem hi];exact getElem_mem hi);rw[zero_add,this]at hp;cases hp
        have e':mgB (.tup [.tup rows,.tup gs])=false:=by show(stB (.tup rows)&&_)=false;rw[e];rfl
        rw[e'];refine yZ (E1:=E') (pre _ (y2 (QW xt rfl f))) ?_;exact Qf _ _
       ·have e:stB (.tup rows)=true:=by
         rw[Zc h1 h2,all_eq_true];intro r hr;obtain⟨i,hi,rfl⟩:=getElem_of_mem hr;have:=hall i hi;have er:rows.getD i .non=rows[i]:=by rw[getD_eq_getElem?_getD,getElem?_eq_getElem hi];rfl
         rw[zero_add,er]at this;rw[<- Bool.not_eq_false',this]
        have e':mgB (.tup [.tup rows,.tup gs])=(gs.all (Jk 0 ((rows.length:Int)-1))&&Qd gs):=by show(stB (.tup rows)&&_)=_;rw[e];rfl
        rw[e'];have ca:dE zA (.cB .all (.cons (.comp 1 ["_law_stand"] ["_law_many"] [1] (.iT (.ix (.var 0) (.c (.int 1)))) (.n 0) .tTr (.and (.call 0 (.ev (.var 0) .nil)) (.chain .le .lt (.c (.int 0)) (.var 0) (.var 1)))) .nil)) [.val (.tup [.tup rows,.tup gs]),.val (.int rows.length),s2]=.ok (.val (.bl (gs.all (Jk 0 ((rows.length:Int)-1)))),[.val (.tup [.tup rows,.tup gs]),.val (.int rows.length),s2]) :=
         JL (zB (YQ (vs:=[.int rows.length]) (λd=>.bl (Jk 0 ((rows.length:Int)-1) d)) (i_T (YV (zD rfl) x_c (ix1 _ _)) rfl) rfl (λd hd=>zBb (Qb (hg.2 d hd))) hg.1 rfl) zR) (Yv rfl)
        cases ha:gs.all (Jk 0 ((rows.length:Int)-1))with
        |false =>
         rw[ha]at ca;exact yZ (E1:=[.val (.tup [.tup rows,.tup gs]),.val (.int rows.length),s2]) (pre _ (zX (QW xt rfl f) (y2 (yt (yf (t_E ca) rfl) (zp (yK x_c)))))) rfl
        |true =>
         rw[ha]at ca;obtain⟨ns,rfl,hb⟩:=WV (by omega) gs ha;refine yZ (E1:=[.val (.tup [.tup rows,.tup (ns.map λn:Nat=>D.int (n:Int))]),.val (.int rows.length),s2]) (pre _ (zX (QW xt rfl f) (zX (jO (yf (t_E ca) rfl) jP) (zp (yK (jz (JL (r:=.own (ns.map λn:Nat=>D.int (n:Int))) (zB (YV (zD rfl) x_c (ix1 _ _)) zR) rfl) (x_sset (r:=.own (srtD ns)) (zB (YV (zD rfl) x_c (ix1 _ _)) zR) ?_) (srt_eq hb))))))) rfl;show(jq (ns.map λn:Nat=>D.int (n:Int))).map _=_;rw[uE ns hb];rfl
      |fn x=>exact absurd hg id
      |exn x=>exact absurd hg id
      |_ => 
       rw[show mgB (.tup [.tup rows,_])=false from by show(stB (.tup rows)&&(awB _ _&&_))=false;simp[awB]];exact yZ (zX (jO (Jj t1 (Jj (t2 false rfl) t3)) jP) (zX st (y2 (yt (Jj t4 (yf (t_E (W6 (YV (zD rfl) x_c (ix1 _ _)) rfl rfl)) rfl)) (zp (yK x_c)))))) rfl
     ·have b2:Cp.le.b (rows.length:Int) 12=false:=decide_eq_false (by omega)
      have e:mgB (.tup [.tup rows,g])=false:=by show(stB (.tup rows)&&_)=false;simp only[stB,decide_eq_false h2,Bool.and_false,Bool.false_and]
      rw[e];exact yZ (zX (jO (Jj t1 (Jj (t2 false rfl) t3)) jP) (zX st (y2 (yt (Yi (yf (t_E (wc x_c (zD rfl) b1 x_c b2)) rfl)) (zp (yK x_c)))))) rfl
    ·have b1:Cp.le.b 1 (rows.length:Int)=false:=decide_eq_false (by omega)
     have e:mgB (.tup [.tup rows,g])=false:=by show(stB (.tup rows)&&_)=false;simp only[stB,decide_eq_false h1,Bool.false_and]
     rw[e];exact yZ (zX (jO (Jj t1 (Jj (t2 false rfl) t3)) jP) (zX st (y2 (yt (Yi (yf (t_E (Jz x_c (zD rfl) b1)) rfl)) (zp (yK x_c)))))) rfl
   |fn x=>exact absurd hs id
   |exn x=>exact absurd hs id
   |_=>exact yZ (y2 (yt (Jj t1 (Jj (t2 false rfl) (yf (t_E (W6 (YV (zD rfl) x_c (ix0 _ _)) rfl rfl)) rfl))) (zp (yK x_c)))) rfl
  | [],h,t1,t2=>exact yZ (y2 (yt (Jj t1 (Yi (t2 true rfl))) (zp (yK x_c)))) rfl
  | [_],h,t1,t2=>exact yZ (y2 (yt (Jj t1 (Yi (t2 true rfl))) (zp (yK x_c)))) rfl
  |a::b::c::r,h,t1,t2=>exact yZ (y2 (yt (Jj t1 (Yi (t2 true (by simp;omega)))) (zp (yK x_c)))) rfl
 |fn x=>cases h
 |exn x=>cases h
 |_=>exact yZ (y2 (yt (Yi (yf (t_E (W6 (zD rfl) rfl rfl)) rfl)) (zp (yK x_c)))) rfl
end My
namespace My
open PySem L2 DV SM
abbrev tN(l:List Nat):D:=.tup (N l)
def T(ls:List (List Nat)):List D:=ls.map λl=>tN l
abbrev mD(ls:List (List Nat))(g:List Nat):D:=.tup [.tup (T ls),tN g]
structure Mac(m:Nat)(ls:List (List Nat))(g:List Nat):Prop where
 hm:m=2\/m=3
 hn:1<=ls.length/\ls.length<=12
 hl:∀l∈ls,l.length=m/\∀x∈l,x<ls.length
 hr:Wv g
 hg:∀x∈g,x<ls.length
theorem N_of{n:Nat}:∀rs:List D,(∀d∈rs,∃x:Nat,d=.int (x:Int)/\x<n)->∃l:List Nat,rs=N l/\l.length=rs.length/\∀x∈l,x<n
 | [],_=>⟨[],rfl,rfl,λx h=>by cases h⟩
 |d::rs,h=>by
  obtain⟨l,rfl,e,hl⟩:=N_of rs λx hx=>h x (mem_cons_of_mem _ hx)
  obtain⟨x,rfl,hx⟩:=h d mem_cons_self;refine⟨x::l,rfl,by simp[e],λy hy=>?_⟩;rcases mem_cons.mp hy with rfl|hy
  ·exact hx
  ·exact hl y hy
theorem mod_nat(a b:Nat)(h:b≠0):zBF (.int a) (.int b)=some (.val (.int ((a%b:Nat):Int))):=by
 have:(0:Int)<b:=by omega
 simp only[zBF,GQ];rw[if_pos (decide_eq_true this)];rfl
theorem Qg(a:Nat):JA (.int (a:Int)) (.int 1)=some (.val (.int ((a+1:Nat):Int))):=by simp[JA]
theorem vB{n:Nat}(h:1<=n):subD (.int (n:Int)) (.int 1)=some (.val (.int ((n-1:Nat):Int))):=by
 show some (R.val (D.int ((n:Int)-1)))=_
 rw[show((n:Int)-1)=((n-1:Nat):Int)by omega]
theorem min_two(a b:Int):minH [.int a,.int b]=some (.val (.int (if b<a then b else a))):=rfl
theorem line_by{p:List D}(hp:Pen p){m n i:Nat}(hm:m=2\/m=3)(hn:1<=n/\n<=12)(hi:i<n)(w:Int)(L:List D)(hL:L.length<=100)(s7:DV.Slot)(h7:Jy s7=true) :
  ∃p' l,dB zQ yM [.par p,.val (.int 12),.val (.int (m:Nat)),.val (.int (n:Nat)),.val (.int w),.own L,.val (.int (i:Nat)),s7]=.ok (.nx,[.par p',.val (.int 12),.val (.int (m:Nat)),.val (.int (n:Nat)),.val (.int w),.own (L++[tN l]),.val (.int (i:Nat)),.val (tN l)])/\Pen p'/\l.length=m/\∀x∈l,x<n:=by
 obtain⟨rs,p',cp,hp',er,hr⟩:=Qa (fs:=zQ) (E:=[.par p,.val (.int 12),.val (.int (m:Nat)),.val (.int (n:Nat)),.val (.int w),.own L,.val (.int (i:Nat)),s7]) (xs:=["_law_sign"]) (ys:=["_law_pen","_law_many"]) (caps:=[0,3]) (it:=.iR1 (.cons (.var 2) .nil)) (tt:=.tTr) (el:=.call 0 (.lend 1 (.ev (.var 2) .nil))) (ds:=DV.zP 0 m) (vs:=[.int (n:Nat)]) (p:=p) (i:=0) (E2:=[.emp,.val (.int 12),.val (.int (m:Nat)),.val (.int (n:Nat)),.val (.int w),.own L,.val (.int (i:Nat)),s7]) (E':=λp'=>[.par p',.val (.int 12),.val (.int (m:Nat)),.val (.int (n:Nat)),.val (.int w),.own L,.val (.int (i:Nat)),s7])
  Pen (λk acc=>acc.length=k/\∀d∈acc,∃x:Nat,d=.int (x:Int)/\x<n) (i_R1 (j:=(m:Int)) (zB (zD rfl) zR) rfl ⟨by omega,by omega⟩) rfl rfl hp ⟨rfl,λd h=>by cases h⟩ (λk d q p acc hp ⟨hk,ha⟩=>by
   obtain⟨r,p2,e,r0,r1,hp2⟩:=zn p hp (n:Nat) (by omega) (by omega);refine⟨p,.inr ⟨.val (.int r),p2,by simp only[dT,Gd],yh (F:=zG) rfl rfl (zD rfl) e rfl,hp2,by simp[hk],λd hd=>?_⟩⟩;rcases mem_append.mp hd with hd|hd
   ·exact ha d hd
   ·rw[mem_singleton]at hd
    exact⟨r.toNat,by rw[hd];show D.int r=_;congr 1;omega,by omega⟩) (by rw[j9];simp only[cap];omega) (λx p'=>rfl)
 rw[j9]at er;obtain⟨l,rfl,el,hl⟩:=N_of rs hr;have s1:dS zQ (.sSet 7 (.cB .tuple (.cons (.comp 1 ["_law_sign"] ["_law_pen","_law_many"] [0,3] (.iR1 (.cons (.var 2) .nil)) (.n 0) .tTr (.call 0 (.lend 1 (.ev (.var 2) .nil)))) .nil))) [.par p,.val (.int 12),.val (.int (m:Nat)),.val (.int (n:Nat)),.val (.int w),.own L,.val (.int (i:Nat)),s7]=.ok (.nx,[.par p',.val (.int 12),.val (.int (m:Nat)),.val (.int (n:Nat)),.val (.int w),.own L,.val (.int (i:Nat)),.val (tN l)]):=yz (JL (zB cp zR) rfl) (QY rfl h7 rfl);have hlen:l.length=m:=el.trans er;have fin:∀l:List Nat,dS zQ (.sApp 5 (.var 7)) [.par p',.val (.int 12),.val (.int (m:Nat)),.val (.int (n:Nat)),.val (.int w),.own L,.val (.int (i:Nat)),.val (tN l)]=.ok (.nx,[.par p',.val (.int 12),.val (.int (m:Nat)),.val (.int (n:Nat)),.val (.int w),.own (L++[tN l]),.val (.int (i:Nat)),.val (tN l)]):=λl=>s_app rfl (zD rfl) rfl (by simp only[cap];omega) rfl
 have hm1:1<=m:=by omega
 by_cases w0:w=0
 ·subst w0
  have a1:WE (.tup [.int 0]) (.int ((m-1:Nat):Int))=some (.val (.tup (replicate (m-1) (.int 0)))):=Za (.int 0) (m-1) (by omega);have a2:minH [.int ((i+1:Nat):Int),.int ((n-1:Nat):Int)]=some (.val (.int ((min (i+1) (n-1):Nat):Int))):=by
   refine(min_two _ _).trans (congrArg (λz=>some (R.val (D.int z))) ?_);split<;>omega
  have a3:JA (.tup [.int ((min (i+1) (n-1):Nat):Int)]) (.tup (replicate (m-1) (.int 0)))=some (.val (tN (min (i+1) (n-1)::replicate (m-1) 0))):=by
   rw[jd _ _ (by simp;omega)];simp[N,List.map_replicate]
  refine⟨p',min (i+1) (n-1)::replicate (m-1) 0,?_,hp',by simp;omega,λx hx=>?_⟩
  ·exact zX s1 (zX (yt (t_E (jz (zD rfl) x_c (eq_int _ _))) (zp (yz (yY (yr (zB (JL (zB (yY (zD rfl) x_c (Qg i)) (zB (yY (zD rfl) x_c (vB hn.1)) zR)) a2) zR) rfl ya) (yY (yr (zB x_c zR) rfl ya) (yY (zD rfl) x_c (vB hm1)) a1) a3) rfl))) (zX (jO (t_E (jz (zD rfl) x_c (eq_int _ _))) jP) (zp (fin _))))
  ·rcases mem_cons.mp hx with rfl|hx
   ·omega
   ·have:=eq_of_mem_replicate hx;omega
 ·by_cases w1:w=1
  ·subst w1
   have a1:WE (.tup [.int (((i+1)%n:Nat):Int)]) (.int ((m-1:Nat):Int))=some (.val (.tup (replicate (m-1) (.int (((i+1)%n:Nat):Int))))):=Za _ (m-1) (by omega);have a3:JA (.tup (replicate (m-1) (.int (((i+1)%n:Nat):Int)))) (.tup [.int (i:Nat)])=some (.val (tN (replicate (m-1) ((i+1)%n)++[i]))):=by
    rw[jd _ _ (by simp;omega)];simp[N,List.map_replicate]
   refine⟨p',replicate (m-1) ((i+1)%n)++[i],?_,hp',by simp;omega,λx hx=>?_⟩
   ·exact zX s1 (zX (jO (t_E (jz (zD rfl) x_c (eq_int _ _))) jP) (zX (yt (t_E (jz (zD rfl) x_c (eq_int _ _))) (zp (yz (yY (yY (yr (zB (yY (yY (zD rfl) x_c (Qg i)) (zD rfl) (mod_nat (i+1) n (by omega))) zR) rfl ya) (yY (zD rfl) x_c (vB hm1)) a1) (yr (zB (zD rfl) zR) rfl ya) a3) rfl))) (zp (fin _))))
   ·rcases mem_append.mp hx with hx|hx
    ·have:=eq_of_mem_replicate hx
     rw[this];exact Nat.mod_lt _ (by omega)
    ·simp at hx;omega
  ·refine⟨p',l,?_,hp',hlen,hl⟩
   exact zX s1 (zX (jO (t_E (jz (zD rfl) x_c ((eq_int _ _).trans (by rw[decide_eq_false w0])))) jP) (zX (jO (t_E (jz (zD rfl) x_c ((eq_int _ _).trans (by rw[decide_eq_false w1])))) jP) (zp (fin _))))
end My
namespace My
open PySem L2 DV SM
theorem vC(ls:List (List Nat)):(T ls).length=ls.length:=by simp[T]
theorem Qh{n k:Nat}{d:D}(h:(DV.zP 0 n)[k]?=some d):d=.int (k:Nat)/\k<n:=by
 rw[ints_N]at h;simp only[N,getElem?_map]at h;cases hr:(List.range n)[k]? with
 |none=>rw[hr]at h;cases h
 |some x =>
  rw[hr]at h;obtain⟨h1,h2⟩:=List.getElem?_eq_some_iff.mp hr;simp at h1 h2;subst h2;simp at h;exact⟨h.symm,h1⟩
theorem WW{p:List D}(hp:Pen p):∃m ls g p',yH [.par p,.val (.int 12)]=.ok (.val (mD ls g),[.par p',.emp])/\Pen p'/\Mac m ls g:=by
 obtain⟨r1,p1,e1,r10,r11,hp1⟩:=zn p hp 2 (by omega) (by omega);obtain⟨r2,p2,e2,r20,r21,hp2⟩:=zn p1 hp1 12 (by omega) (by omega);obtain⟨w,p3,e3,_,_,hp3⟩:=zn p2 hp2 4 (by omega) (by omega);obtain⟨m,em,hm⟩:∃m:Nat,2+r1=(m:Int)/\(m=2\/m=3):=⟨(2+r1).toNat,by omega,by omega⟩;obtain⟨n,en,hn⟩:∃n:Nat,1+r2=(n:Int)/\(1<=n/\n<=12):=⟨(1+r2).toNat,by omega,by omega⟩;have a1:JA (.int 2) (.int r1)=some (.val (.int (m:Nat))):=by simp only[JA,em]
 have a2:JA (.int 1) (.int r2)=some (.val (.int (n:Nat))):=by simp only[JA,en]
 obtain⟨E',f,p4,ls,s6,s7,rfl,hp4,hll,hls,h6,h7⟩:=wx (tg:=gN 6) (body:=dB zQ yM) (λk E=>∃p ls s6 s7,E=[.par p,.val (.int 12),.val (.int (m:Nat)),.val (.int (n:Nat)),.val (.int w),.own (T ls),s6,s7]/\Pen p/\ls.length=k/\(∀l∈ls,l.length=m/\∀x∈l,x<n)/\Jy s6=true/\Jy s7=true) (DV.zP 0 n) 0 [.par p3,.val (.int 12),.val (.int (m:Nat)),.val (.int (n:Nat)),.val (.int w),.own [],.emp,.emp] ⟨p3,[],.emp,.emp,rfl,hp3,rfl,(λl h=>by cases h),rfl,rfl⟩
  (λi d q E ⟨p,ls,s6,s7,hE,hp,hk,hl,h6,h7⟩=>by
   rw[zero_add]at hk ⊢;obtain⟨rfl,hi⟩:=Qh q;obtain⟨p',l,f,hp',l1,l2⟩:=line_by hp hm hn hi w (T ls) (by rw[vC];omega) s7 h7;refine⟨_,_,?_,f,p',ls++[l],.val (.int (i:Nat)),.val (tN l),by simp[T],hp',by simp[hk],λx hx=>?_,rfl,rfl⟩
   ·subst hE;cases s6<;>first|rfl|(cases h6)
   ·rcases mem_append.mp hx with hx|hx
    ·exact hl x hx
    ·rw[mem_singleton]at hx;subst hx;exact⟨l1,l2⟩)
 rw[j9,zero_add]at hll;obtain⟨rs,p5,cp,hp5,g,rfl,hg1,hg2⟩:=Qa (fs:=zQ) (E:=[.par p4,.val (.int 12),.val (.int (m:Nat)),.val (.int (n:Nat)),.val (.int w),.val (.lst (T ls)),s6,s7]) (xs:=["_law_stand"]) (ys:=["_law_pen"]) (caps:=[0]) (it:=.iR1 (.cons (.var 3) .nil)) (tt:=.tE (.cmp .eq (.call 0 (.lend 1 (.ev (.c (.int 3)) .nil))) (.c (.int 0)))) (el:=.var 0) (ds:=DV.zP 0 n) (vs:=[]) (p:=p4) (i:=0) (E2:=[.emp,.val (.int 12),.val (.int (m:Nat)),.val (.int (n:Nat)),.val (.int w),.val (.lst (T ls)),s6,s7]) (E':=λp'=>[.par p',.val (.int 12),.val (.int (m:Nat)),.val (.int (n:Nat)),.val (.int w),.val (.lst (T ls)),s6,s7])
  Pen (λk acc=>∃g:List Nat,acc=N g/\Wv g/\∀x∈g,x<k) (i_R1 (j:=(n:Int)) (zB (zD rfl) zR) rfl ⟨by omega,by omega⟩) rfl rfl hp4 ⟨[],rfl,.nil,λx h=>by cases h⟩ (λk d q p acc hp ⟨g,hg,hr,hx⟩=>by
   obtain⟨rfl,hk⟩:=Qh q;obtain⟨r,p2,e,r0,r1,hp2⟩:=zn p hp 3 (by omega) (by omega);have t:dT zQ (.tE (.cmp .eq (.call 0 (.lend 1 (.ev (.c (.int 3)) .nil))) (.c (.int 0)))) (.val (.int (k:Nat))::.par p::([]:List D).map DV.Slot.val)=.ok (decide (r=0),.val (.int (k:Nat))::.par p2::([]:List D).map DV.Slot.val):=t_E (jz (yh (F:=zG) rfl rfl x_c e rfl) x_c (eq_int _ _));refine⟨p2,?_⟩;cases hd:decide (r=0)with
   |false=>rw[hd]at t;exact .inl ⟨t,hp2,g,hg,hr,λx h=>lt_succ_of_lt (hx x h)⟩
   |true =>
    rw[hd]at t;refine .inr ⟨.val (.int (k:Nat)),p2,t,zD rfl,hp2,g++[k],by rw[hg,N_app];rfl,?_,λx h=>?_⟩
    ·exact List.pairwise_append.mpr ⟨hr,List.pairwise_singleton _ _,λa ha b hb=>by rw[mem_singleton]at hb;subst hb;exact hx a ha⟩
    ·rcases mem_append.mp h with h|h
     ·exact lt_succ_of_lt (hx x h)
     ·rw[mem_singleton]at h;subst h;exact lt_succ_self _) (by rw[j9];simp only[cap];omega) (λx p'=>rfl)
 rw[j9]at hg2;refine⟨m,ls,g,p5,?_,hp5,hm,by omega,by rw[hll];exact hls,hg1,by rw[hll];exact hg2⟩;refine yZ (E1:=[.par p5,.val (.int 12),.val (.int (m:Nat)),.val (.int (n:Nat)),.val (.int w),.val (.lst (T ls)),s6,s7]) ?_ rfl;refine zX (yz (yY x_c (yh (F:=zG) rfl rfl x_c e1 rfl) a1) rfl) ?_;refine zX (yz (yY x_c (yh (F:=zG) rfl rfl (zD rfl) e2 rfl) a2) rfl) ?_;refine zX (yz (yh (F:=zG) rfl rfl x_c e3 rfl) rfl) ?_;refine zX (yz (ZY zR rfl JM) rfl) ?_;refine zX (QX (tg:=.n 6) (j:=(n:Int)) (zB (zD rfl) zR) rfl ⟨by omega,by omega⟩ f) ?_;exact zp (yK (yr (zB (JL (r:=.val (.tup (T ls))) (zB (WO rfl rfl) zR) rfl) (zB (JL (r:=.val (tN g)) (zB cp zR) rfl) zR)) rfl JN))
theorem e_right{d:D}(h:ok4 d):jC [.val d]=.ok (.val (.bl true),[.emp]):=by
 have g1:=wP d h;have g2:=zA0 d h;have eb:eqG (.bl (mgB d)) (.bl (mgB d))=some (.val (.bl true)):=by cases mgB d<;>rfl
 exact yZ (zX (yz (j0 (F:=zm) rfl (zD rfl) g1) rfl) (zp (yK (YR (W6 (zD rfl) rfl rfl) (YR (jz (zD rfl) (j0 (F:=zw) rfl (zD rfl) g2) eb) (jz (j0 (F:=zm) rfl (zD rfl) g1) (zD rfl) eb)))))) rfl
end My
namespace My
open PySem L2 DV SM
theorem YS{ds:List D}{lo hi:Option Int}{d:D}(h:d∈y4 ds lo hi):d∈ds:=List.mem_of_mem_drop (List.mem_of_mem_take h)
theorem y0(ds:List D)(lo hi:Option Int):(y4 ds lo hi).length<=ds.length:=by unfold y4;simp;omega
theorem N_fn{l:List Nat}:∀d∈N l,isFn d=false:=λd hd=>by
 obtain⟨n,_,rfl⟩:=zAx hd;rfl
theorem Qi{l:List Nat}:∀d∈N l,okD d:=λd hd=>by
 obtain⟨n,_,rfl⟩:=zAx hd;trivial
theorem T_mem{ls:List (List Nat)}{d:D}(h:d∈T ls):∃l∈ls,d=tN l:=by
 obtain⟨l,h1,h2⟩:=mem_map.mp h;exact⟨l,h1,h2.symm⟩
def odds(n:Nat):List D:=[.int (n:Nat),.int (-1),.bl true,.non,.str "0",.tup [.int 0],.int (10^30),.int 0]
theorem odds_ok{n:Nat}{d:D}(h:d∈odds n):okD d:=by
 simp only[odds,mem_cons,mem_nil_iff,or_false]at h;rcases h with rfl|rfl|rfl|rfl|rfl|rfl|rfl|rfl
 all_goals first|trivial|exact⟨by simp[cap],λd hd=>by rw[mem_singleton]at hd;subst hd;rfl⟩
theorem JQ{ds:List D}(h1:ds.length<=100000)(h2:∀d∈ds,isFn d=false):okD (.tup ds):=⟨by simp only[cap];omega,h2⟩
theorem yn{ds:List D}(h1:ds.length<=100000)(h2:∀d∈ds,okD d):ok3 (.tup ds):=⟨by simp only[cap];omega,h2⟩
theorem yD{a b:D}(h1:ok3 a)(h2:ok3 b):ok4 (.tup [a,b]):=⟨by simp[cap],λd hd=>by
 simp only[mem_cons,mem_nil_iff,or_false]at hd;rcases hd with rfl|rfl
 ·exact h1
 ·exact h2⟩
theorem mul13(a:List D)(h:a.length<=12):WE (.tup a) (.int 13)=some (.val (.tup (replicate 13 a).flatten)):=by
 refine QZ ?_;simp only[Z3];rw[if_pos ⟨by decide,by decide,by show a.length*13<=1000000;omega⟩];rfl
theorem rep_mem{a:List D}{k:Nat}{d:D}(h:d∈(replicate k a).flatten):d∈a:=by
 obtain⟨l,h1,h2⟩:=List.mem_flatten.mp h;rw[eq_of_mem_replicate h1]at h2;exact h2
theorem Qj{m:Nat}{ls:List (List Nat)}{g:List Nat}(M:Mac m ls g):∀d∈T ls,okD d:=λd hd=>by
 obtain⟨l,hl,rfl⟩:=T_mem hd;have:=(M.hl l hl).1;have:=M.hm;exact JQ (by rw[j1];omega) N_fn
theorem Mac.glen{m:Nat}{ls:List (List Nat)}{g:List Nat}(M:Mac m ls g):g.length<=12:=by
 have:=vn g 0 ls.length M.hr λj hj=>⟨zero_le _,M.hg j hj⟩
 have:=M.hn;omega
theorem mD_ok{m:Nat}{ls:List (List Nat)}{g:List Nat}(M:Mac m ls g):ok4 (mD ls g):=by
 have:=M.hn;have:=M.glen;exact yD (yn (by rw[vC];omega) (Qj M)) (yn (by rw[j1];omega) Qi)
theorem mD_good{m:Nat}{ls:List (List Nat)}{g:List Nat}(M:Mac m ls g):mgB (mD ls g)=true:=by
 have hn:=M.hn;have hm:=M.hm;have hst:stB (.tup (T ls))=true:=by
  rw[Zc (by rw[vC];omega) (by rw[vC];omega),all_eq_true];have h0:tl ((T ls).getD 0 .non)=m:=by
   cases ls with
   |nil=>simp at hn
   |cons l r=>have:=(M.hl l mem_cons_self).1;show(N l).length=m;rw[j1,this]
  intro d hd;obtain⟨l,hl,rfl⟩:=T_mem hd;obtain⟨l1,l2⟩:=M.hl l hl;rw[h0,vC];unfold lnB;dsimp only;rw[j1,l1,decide_eq_true (rfl:m=m)];have e1:(decide (m=2)||decide (m=3))=true:=by simp only[Bool.or_eq_true,decide_eq_true_eq];exact hm
  have e2:(N l).all (Jk 0 ((ls.length:Int)-1))=true:=by
   rw[all_eq_true];intro x hx;obtain⟨n,hn,rfl⟩:=zAx hx;have:=l2 n hn;simp only[Jk,Bool.and_eq_true,decide_eq_true_eq];omega
  rw[e1,e2];rfl
 show(stB (.tup (T ls))&&(awB _ (tN g)&&Qd (N g)))=true
 rw[hst,show Qd (N g)=true from(Zd g).mpr M.hr];have e2:(N g).all (Jk 0 (((tl (.tup (T ls)):Nat):Int)-1))=true:=by
  rw[all_eq_true];intro x hx;obtain⟨n,hn,rfl⟩:=zAx hx;have:=M.hg n hn;simp only[Jk,tl,vC,Bool.and_eq_true,decide_eq_true_eq];omega
 show(true&&((N g).all _&&true))=true
 rw[e2];rfl
theorem pick8{r:Int}(h0:0<=r)(h1:r<8):∃j:Nat,j<6/\ixD (.lst [.int 0,.int 0,.int 0,.int 1,.int 2,.int 3,.int 4,.int 5]) (.int r)=some (.val (.int (j:Nat))):=by
 obtain⟨d,hd,e⟩:=pick (ds:=[.int 0,.int 0,.int 0,.int 1,.int 2,.int 3,.int 4,.int 5]) h0 (by simpa using h1);simp only[mem_cons,mem_nil_iff,or_false]at hd;rcases hd with rfl|rfl|rfl|rfl|rfl|rfl|rfl|rfl
 ·exact⟨0,by omega,e⟩
 ·exact⟨0,by omega,e⟩
 ·exact⟨0,by omega,e⟩
 ·exact⟨1,by omega,e⟩
 ·exact⟨2,by omega,e⟩
 ·exact⟨3,by omega,e⟩
 ·exact⟨4,by omega,e⟩
 ·exact⟨5,by omega,e⟩
theorem nm_run{S G Lr L0 line bent:List D}{odd x y:D}{sp at_ r3 r4 r5:Int}{j:Nat}{p p1 p2 p3 p4 p5:List D}
  (e1:zG [.par p,.val (.int S.length)]=.ok (.val (.int sp),[.par p1,.emp])) (i0:ixD (.tup S) (.int 0)=some (.val (.tup L0)))
  (e2:zG [.par p1,.val (.int L0.length)]=.ok (.val (.int at_),[.par p2,.emp])) (e3:zG [.par p2,.val (.int 8)]=.ok (.val (.int r3),[.par p3,.emp])) (eo:ixD (.lst (odds S.length)) (.int r3)=some (.val odd))
  (el:ixD (.tup S) (.int sp)=some (.val (.tup Lr))) (A1:JA (.tup (y4 Lr none (some at_))) (.tup [odd])=some (.val (.tup (y4 Lr none (some at_)++[odd])))) (A2:JA (.tup (y4 Lr none (some at_)++[odd])) (.tup (y4 Lr (some (at_+1)) none))=some (.val (.tup line)))
  (A3:JA (.tup Lr) (.tup [.int 0])=some (.val (.tup (Lr++[.int 0])))) (e4:zG [.par p3,.val (.int 8)]=.ok (.val (.int r4),[.par p4,.emp])) (ej:ixD (.lst [.int 0,.int 0,.int 0,.int 1,.int 2,.int 3,.int 4,.int 5]) (.int r4)=some (.val (.int (j:Nat))))
  (ex:ixD (.lst [.tup line,.tup (Lr++[.int 0]),.tup (y4 Lr (some 1) none),.lst Lr,.non,.tup []]) (.int (j:Nat))=some (.val x)) (B1:JA (.tup (y4 S none (some sp))) (.tup [x])=some (.val (.tup (y4 S none (some sp)++[x])))) (B2:JA (.tup (y4 S none (some sp)++[x])) (.tup (y4 S (some (sp+1)) none))=some (.val (.tup bent)))
  (C1:JA (.tup G) (.tup [odd])=some (.val (.tup (G++[odd])))) (C2:JA (.tup G.reverse) (.tup G)=some (.val (.tup (G.reverse++G)))) {S13:List D} (C3:WE (.tup S) (.int 13)=some (.val (.tup S13))) {ys:List D}
  (D1:JA (.lst [.tup [.tup bent,.tup G],.tup [.tup bent,.tup G],.tup [.tup bent,.tup G],.tup [.tup S,.tup (G++[odd])],.tup [.tup S,.tup (G.reverse++G)],.tup [.tup S]]) (.lst [.lst [.tup S,.tup G],.tup [.lst S,.tup G],.tup [.tup S,.lst G],.tup [.tup [],.tup []],.non,.int 0,.tup [.tup S13,.tup G]])=some (.own ys))
  (e5:zG [.par p4,.val (.int 13)]=.ok (.val (.int r5),[.par p5,.emp])) (ey:ixD (.lst ys) (.int r5)=some (.val y)):zr [.par p,.val (.tup [.tup S,.tup G])]=.ok (.val y,[.par p5,.emp]):=by
 have c1:∀(ds:List D) (lo hi:Option Int),slD (.tup ds) lo hi=some (.val (.tup (y4 ds lo hi))):=λ_ _ _=>rfl
 have sub1:JA (.int sp) (.int 1)=some (.val (.int (sp+1))):=rfl;have at2:JA (.int at_) (.int 1)=some (.val (.int (at_+1))):=rfl;refine yZ (E1:=[.par p5,.val (.tup [.tup S,.tup G]),.val (.tup S),.val (.tup G),.val (.int S.length),.val (.int sp),.val (.int at_),.val odd,.val (.tup line),.val (.lst [.tup line,.tup (Lr++[.int 0]),.tup (y4 Lr (some 1) none),.lst Lr,.non,.tup []]),.val (.tup bent),.val (.lst ys)]) ?_ rfl;refine zX (E1:=[.par p,.val (.tup [.tup S,.tup G]),.val (.tup S),.val (.tup G),.emp,.emp,.emp,.emp,.emp,.emp,.emp,.emp]) (s_tup (zD rfl) rfl) ?_;refine zX (E1:=[.par p,.val (.tup [.tup S,.tup G]),.val (.tup S),.val (.tup G),.val (.int S.length),.emp,.emp,.emp,.emp,.emp,.emp,.emp]) (yz (JL (zB (zD rfl) zR) rfl) rfl) ?_;refine zX (E1:=[.par p1,.val (.tup [.tup S,.tup G]),.val (.tup S),.val (.tup G),.val (.int S.length),.val (.int sp),.emp,.emp,.emp,.emp,.emp,.emp]) (yz (yh (F:=zG) rfl rfl (zD rfl) e1 rfl) rfl) ?_;refine zX (E1:=[.par p2,.val (.tup [.tup S,.tup G]),.val (.tup S),.val (.tup G),.val (.int S.length),.val (.int sp),.val (.int at_),.emp,.emp,.emp,.emp,.emp]) (yz (yh (F:=zG) rfl rfl (JL (zB (YV (zD rfl) x_c i0) zR) rfl) e2 rfl) rfl) ?_;refine zX (E1:=[.par p3,.val (.tup [.tup S,.tup G]),.val (.tup S),.val (.tup G),.val (.int S.length),.val (.int sp),.val (.int at_),.val odd,.emp,.emp,.emp,.emp]) (yz (YV (ZY (ds:=odds S.length) (zB (zD rfl) (zB (x_neg x_c) (zB x_c (zB x_c (zB x_c (zB (yr (zB x_c zR) rfl ya) (zB (yY x_c x_c pow30) (zB x_c zR)))))))) rfl (by simp[odds,cap])) (yh (F:=zG) rfl rfl x_c e3 rfl) eo) rfl) ?_;refine zX (E1:=[.par p3,.val (.tup [.tup S,.tup G]),.val (.tup S),.val (.tup G),.val (.int S.length),.val (.int sp),.val (.int at_),.val odd,.val (.tup line),.emp,.emp,.emp]) (yz (yY (yY (x_sl (YV (zD rfl) (zD rfl) el) o_N (o_S (zD rfl)) (c1 _ _ _)) (yr (zB (zD rfl) zR) rfl ya) A1) (x_sl (YV (zD rfl) (zD rfl) el) (o_S (yY (zD rfl) x_c at2)) o_N (c1 _ _ _)) A2) rfl) ?_;refine zX (E1:=[.par p3,.val (.tup [.tup S,.tup G]),.val (.tup S),.val (.tup G),.val (.int S.length),.val (.int sp),.val (.int at_),.val odd,.val (.tup line),.own [.tup line,.tup (Lr++[.int 0]),.tup (y4 Lr (some 1) none),.lst Lr,.non,.tup []],.emp,.emp]) (yz (ZY (ds:=[.tup line,.tup (Lr++[.int 0]),.tup (y4 Lr (some 1) none),.lst Lr,.non,.tup []]) (zB (zD rfl) (zB (yY (YV (zD rfl) (zD rfl) el) (yr (zB x_c zR) rfl ya) A3) (zB (x_sl (YV (zD rfl) (zD rfl) el) (o_S x_c) o_N (c1 _ _ _)) (zB (JL (r:=.own Lr) (zB (YV (zD rfl) (zD rfl) el) zR) rfl) (zB x_c (zB (yr zR rfl JM) zR)))))) rfl (by simp[cap])) rfl) ?_;refine zX (E1:=[.par p4,.val (.tup [.tup S,.tup G]),.val (.tup S),.val (.tup G),.val (.int S.length),.val (.int sp),.val (.int at_),.val odd,.val (.tup line),.val (.lst [.tup line,.tup (Lr++[.int 0]),.tup (y4 Lr (some 1) none),.lst Lr,.non,.tup []]),.val (.tup bent),.emp]) (yz (yY (yY (x_sl (zD rfl) o_N (o_S (zD rfl)) (c1 _ _ _)) (yr (zB (YV (WO rfl rfl) (YV (ZY (zB x_c (zB x_c (zB x_c (zB x_c (zB x_c (zB x_c (zB x_c (zB x_c zR)))))))) rfl (by simp[cap])) (yh (F:=zG) rfl rfl x_c e4 rfl) ej) ex) zR) rfl ya) B1) (x_sl (zD rfl) (o_S (yY (zD rfl) x_c sub1)) o_N (c1 _ _ _)) B2) rfl) ?_
 have tp2:∀{fs:List FI} {E E1 E2:zL} {a b:Ex} {r1 r2:R},dE fs a E=.ok (r1,E1)->dE fs b E1=.ok (r2,E2)->dE fs (.tup (.cons a (.cons b .nil))) E=.ok (.val (.tup [r1.d,r2.d]),E2):=λh1 h2=>yr (zB h1 (zB h2 zR)) rfl JN
 have fin7:∀E:zL,E[1]?=some (.val (.tup [.tup S,.tup G]))->E[2]?=some (.val (.tup S))->E[3]?=some (.val (.tup G))->dE zU (.lst (.cons (.cB .list (.cons (.var 1) .nil)) (.cons (.tup (.cons (.cB .list (.cons (.var 2) .nil)) (.cons (.var 3) .nil))) (.cons (.tup (.cons (.var 2) (.cons (.cB .list (.cons (.var 3) .nil)) .nil))) (.cons (.tup (.cons (.tup .nil) (.cons (.tup .nil) .nil))) (.cons (.c .non) (.cons (.c (.int 0)) (.cons (.tup (.cons (.bin .mul (.var 2) (.c (.int 13))) (.cons (.var 3) .nil))) .nil)))))))) E=.ok (.own [.lst [.tup S,.tup G],.tup [.lst S,.tup G],.tup [.tup S,.lst G],.tup [.tup [],.tup []],.non,.int 0,.tup [.tup S13,.tup G]],E):=λE h1 h2 h3=>by
  have q1:dE zU (.cB .list (.cons (.var 1) .nil)) E=.ok (.own [.tup S,.tup G],E):=JL (zB (zD h1) zR) rfl;have q2:dE zU (.cB .list (.cons (.var 2) .nil)) E=.ok (.own S,E):=JL (zB (zD h2) zR) rfl;have q3:dE zU (.cB .list (.cons (.var 3) .nil)) E=.ok (.own G,E):=JL (zB (zD h3) zR) rfl;have q4:dE zU (.bin .mul (.var 2) (.c (.int 13))) E=.ok (.val (.tup S13),E):=yY (o:=.mul) (r1:=.val (.tup S)) (r2:=.val (.int 13)) (zD h2) x_c C3;have n0:dE zU (.tup .nil) E=.ok (.val (.tup []),E):=yr zR rfl JM;exact ZY (zB q1 (zB (tp2 q2 (zD h3)) (zB (tp2 (zD h2) q3) (zB (tp2 n0 n0) (zB x_c (zB x_c (zB (tp2 q4 (zD h3)) zR))))))) rfl (by simp[cap])
 refine zX (E1:=[.par p4,.val (.tup [.tup S,.tup G]),.val (.tup S),.val (.tup G),.val (.int S.length),.val (.int sp),.val (.int at_),.val odd,.val (.tup line),.val (.lst [.tup line,.tup (Lr++[.int 0]),.tup (y4 Lr (some 1) none),.lst Lr,.non,.tup []]),.val (.tup bent),.own [.tup [.tup bent,.tup G],.tup [.tup bent,.tup G],.tup [.tup bent,.tup G],.tup [.tup S,.tup (G++[odd])],.tup [.tup S,.tup (G.reverse++G)],.tup [.tup S]]]) (yz (ZY (ds:=[.tup [.tup bent,.tup G],.tup [.tup bent,.tup G],.tup [.tup bent,.tup G],.tup [.tup S,.tup (G++[odd])],.tup [.tup S,.tup (G.reverse++G)],.tup [.tup S]]) (zB (tp2 (zD rfl) (zD rfl)) (zB (tp2 (zD rfl) (zD rfl)) (zB (tp2 (zD rfl) (zD rfl)) (zB (tp2 (zD rfl) (yY (zD rfl) (yr (zB (zD rfl) zR) rfl ya) C1)) (zB (tp2 (zD rfl) (yY (x_stp (r':=.val (.tup G.reverse)) (zD rfl) rfl) (zD rfl) C2)) (zB (yr (zB (zD rfl) zR) rfl ya) zR)))))) rfl (by simp[cap])) rfl) ?_;refine zX (E1:=[.par p4,.val (.tup [.tup S,.tup G]),.val (.tup S),.val (.tup G),.val (.int S.length),.val (.int sp),.val (.int at_),.val odd,.val (.tup line),.val (.lst [.tup line,.tup (Lr++[.int 0]),.tup (y4 Lr (some 1) none),.lst Lr,.non,.tup []]),.val (.tup bent),.own ys]) (yz (yY (WO rfl rfl) (fin7 _ rfl rfl rfl) D1) rfl) ?_;exact zp (yK (YV (WO rfl rfl) (yh (F:=zG) rfl rfl x_c e5 rfl) ey))
theorem WX{m:Nat}{ls:List (List Nat)}{g:List Nat}(M:Mac m ls g){p:List D}(hp:Pen p):∃x p',zr [.par p,.val (mD ls g)]=.ok (.val x,[.par p',.emp])/\Pen p'/\ok4 x:=by
 have hn:=M.hn;have hm:=M.hm;have hg:=M.glen;have hTn:=vC ls;obtain⟨l0,hl0⟩:∃l,(T ls)[0]?=some (tN l)/\l∈ls:=by
  cases ls with
  |nil=>simp at hn
  |cons l r=>exact⟨l,rfl,mem_cons_self⟩
 have hl0m:=(M.hl l0 hl0.2).1;obtain⟨sp,p1,e1,sp0,sp1,hp1⟩:=zn p hp ((T ls).length:Nat) (by omega) (by omega);obtain⟨at_,p2,e2,at0,at1,hp2⟩:=zn p1 hp1 ((N l0).length:Nat) (by rw[j1];omega) (by rw[j1];omega);obtain⟨r3,p3,e3,r30,r31,hp3⟩:=zn p2 hp2 8 (by omega) (by omega);obtain⟨r4,p4,e4,r40,r41,hp4⟩:=zn p3 hp3 8 (by omega) (by omega);obtain⟨r5,p5,e5,r50,r51,hp5⟩:=zn p4 hp4 13 (by omega) (by omega);obtain⟨l,hl,el⟩:∃l∈ls,ixD (.tup (T ls)) (.int sp)=some (.val (tN l)):=by
  have hlt:sp.toNat<ls.length:=by omega
  refine⟨ls[sp.toNat],getElem_mem hlt,?_⟩;have:(T ls)[sp.toNat]?=some (tN ls[sp.toNat]):=by simp[T,hlt]
  have:=WQ this;rw[show((sp.toNat:Nat):Int)=sp by omega]at this;exact congrArg (Option.map R.val) this
 have hlm:=(M.hl l hl).1;have i0:ixD (.tup (T ls)) (.int 0)=some (.val (tN l0)):=congrArg (Option.map R.val) (WQ hl0.1);obtain⟨odd,ho,eo⟩:=pick (ds:=odds (T ls).length) r30 (by simpa[odds]using r31);obtain⟨j,hj,ej⟩:=pick8 r40 r41;have ok_odd:=odds_ok ho;have c1:∀(ds:List D) (lo hi:Option Int),slD (.tup ds) lo hi=some (.val (.tup (y4 ds lo hi))):=λ_ _ _=>rfl
 -- the line with a thing otherwise
 have A1:=jd (y4 (N l) none (some at_)) [odd] (by have:=y0 (N l) none (some at_);rw[j1]at this;simp;omega);have A2:=jd (y4 (N l) none (some at_)++[odd]) (y4 (N l) (some (at_+1)) none) (by
  have:=y0 (N l) none (some at_);have:=y0 (N l) (some (at_+1)) none;rw[j1]at *;simp;omega)
 generalize hline:y4 (N l) none (some at_)++[odd]++y4 (N l) (some (at_+1)) none=line at A2;have vA:okD (.tup line):=by
  have a:=y0 (N l) none (some at_);have b:=y0 (N l) (some (at_+1)) none;rw[j1]at a b;refine JQ (by rw[<- hline];simp;omega) λd hd=>?_
  rw[<- hline]at hd;rcases mem_append.mp hd with hd|hd
  ·rcases mem_append.mp hd with hd|hd
   ·exact N_fn d (YS hd)
   ·rw[mem_singleton]at hd;subst hd;exact Qb ok_odd
  ·exact N_fn d (YS hd)
 have A3:=jd (N l) [.int 0] (by rw[j1];simp;omega);obtain⟨x,hx,ex⟩:=pick (ds:=[.tup line,.tup (N l++[.int 0]),.tup (y4 (N l) (some 1) none),.lst (N l),.non,.tup []]) (r:=(j:Int)) (by omega) (by simp;omega);have ok_x:okD x:=by
  simp only[mem_cons,mem_nil_iff,or_false]at hx;rcases hx with rfl|rfl|rfl|rfl|rfl|rfl
  ·exact vA
  ·refine JQ (by simp[j1];omega) λd hd=>?_
   rcases mem_append.mp hd with hd|hd
   ·exact N_fn d hd
   ·rw[mem_singleton]at hd;subst hd;rfl
  ·exact JQ (by have:=y0 (N l) (some 1) none;rw[j1]at this;omega) λd hd=>N_fn d (YS hd)
  ·trivial
  ·trivial
  ·exact JQ (by simp) λd hd=>by cases hd
 have B1:=jd (y4 (T ls) none (some sp)) [x] (by have:=y0 (T ls) none (some sp);simp;omega);have B2:=jd (y4 (T ls) none (some sp)++[x]) (y4 (T ls) (some (sp+1)) none) (by
  have:=y0 (T ls) none (some sp);have:=y0 (T ls) (some (sp+1)) none;simp;omega)
 generalize hbent:y4 (T ls) none (some sp)++[x]++y4 (T ls) (some (sp+1)) none=bent at B2;have S3:ok3 (.tup (T ls)):=yn (by omega) (Qj M);have bent_ok:ok3 (.tup bent):=by
  have a:=y0 (T ls) none (some sp);have b:=y0 (T ls) (some (sp+1)) none;refine yn (by rw[<- hbent];simp;omega) λd hd=>?_
  rw[<- hbent]at hd;rcases mem_append.mp hd with hd|hd
  ·rcases mem_append.mp hd with hd|hd
   ·exact Qj M d (YS hd)
   ·rw[mem_singleton]at hd;subst hd;exact ok_x
  ·exact Qj M d (YS hd)
 have G3:ok3 (tN g):=yn (by rw[j1];omega) Qi;have C1:=jd (N g) [odd] (by rw[j1];simp;omega);have C2:=jd (N g).reverse (N g) (by rw[List.length_reverse,j1];omega);have C3:=mul13 (T ls) (by omega);have D1:=W7 [.tup [.tup bent,tN g],.tup [.tup bent,tN g],.tup [.tup bent,tN g],.tup [.tup (T ls),.tup (N g++[odd])],.tup [.tup (T ls),.tup ((N g).reverse++N g)],.tup [.tup (T ls)]] [.lst [.tup (T ls),tN g],.tup [.lst (T ls),tN g],.tup [.tup (T ls),.lst (N g)],.tup [.tup [],.tup []],.non,.int 0,.tup [.tup (replicate 13 (T ls)).flatten,tN g]] (by simp);obtain⟨y,hy,ey⟩:=pick (ds:=[.tup [.tup bent,tN g],.tup [.tup bent,tN g],.tup [.tup bent,tN g],.tup [.tup (T ls),.tup (N g++[odd])],.tup [.tup (T ls),.tup ((N g).reverse++N g)],.tup [.tup (T ls)]]++[.lst [.tup (T ls),tN g],.tup [.lst (T ls),tN g],.tup [.tup (T ls),.lst (N g)],.tup [.tup [],.tup []],.non,.int 0,.tup [.tup (replicate 13 (T ls)).flatten,tN g]]) r50 (by simpa using r51);have ok_y:ok4 y:=by
  have n3:ok3 (.tup []):=yn (by simp) λd hd=>by cases hd
  simp only[List.cons_append,nil_append,mem_cons,mem_nil_iff,or_false]at hy;rcases hy with rfl|rfl|rfl|rfl|rfl|rfl|rfl|rfl|rfl|rfl|rfl|rfl|rfl
  ·exact yD bent_ok G3
  ·exact yD bent_ok G3
  ·exact yD bent_ok G3
  ·refine yD S3 (yn (by simp[j1];omega) λd hd=>?_)
   rcases mem_append.mp hd with hd|hd
   ·exact Qi d hd
   ·rw[mem_singleton]at hd;subst hd;exact ok_odd
  ·refine yD S3 (yn (by simp[j1];omega) λd hd=>?_)
   rcases mem_append.mp hd with hd|hd
   ·exact Qi d (List.mem_reverse.mp hd)
   ·exact Qi d hd
  ·exact⟨by simp[cap],λd hd=>by rw[mem_singleton]at hd;subst hd;exact S3⟩
  ·trivial
  ·exact yD trivial G3
  ·exact yD S3 trivial
  ·exact yD n3 n3
  ·trivial
  ·trivial
  ·exact yD (yn (by simp;omega) λd hd=>Qj M d (rep_mem hd)) G3
 refine⟨y,p5,?_,hp5,ok_y⟩;exact nm_run e1 i0 e2 e3 eo el A1 A2 A3 e4 ej ex B1 B2 C1 C2 C3 D1 e5 ey
end My
namespace My
open PySem L2 DV SM
theorem uc(n k:Nat)(hn:n<=100)(hk:k<=100):ok3 (.tup (replicate n (.tup (replicate k (.int 0))))) :=
 yn (by rw[List.length_replicate];omega) λd hd=>by
  rw[eq_of_mem_replicate hd];exact JQ (by rw[List.length_replicate];omega) λd hd=>by rw[eq_of_mem_replicate hd];rfl
theorem ud:ok3 (.tup []):=yn (by simp) λd hd=>by cases hd
theorem g1_ok(x:Int):ok3 (.tup [.int x]):=yn (by simp) λd hd=>by rw[mem_singleton]at hd;subst hd;trivial
abbrev one:D:=.tup [.tup [.int 0,.int 0]]
abbrev ths:List D:=[.tup [one,.tup []],.tup [one,.tup [.int 0]],.tup [.tup [.tup [.int 0]],.tup []],.tup [.tup [.tup [.int 0,.int 0,.int 0,.int 0]],.tup []],.tup [.tup (replicate 12 (.tup [.int 0,.int 0])),.tup [.int 11]],.tup [.tup (replicate 13 (.tup [.int 0,.int 0])),.tup []]]
theorem ths_ok:∀d∈ths++[.tup [.tup [],.tup []]],ok4 d:=by
 intro d hd;simp only[ths,List.cons_append,nil_append,mem_cons,mem_nil_iff,or_false]at hd;rcases hd with rfl|rfl|rfl|rfl|rfl|rfl|rfl
 ·exact yD (uc 1 2 (by omega) (by omega)) ud
 ·exact yD (uc 1 2 (by omega) (by omega)) (g1_ok 0)
 ·exact yD (uc 1 1 (by omega) (by omega)) ud
 ·exact yD (uc 1 4 (by omega) (by omega)) ud
 ·exact yD (uc 12 2 (by omega) (by omega)) (g1_ok 11)
 ·exact yD (uc 13 2 (by omega) (by omega)) ud
 ·exact yD ud ud
theorem e_ths{E:zL}(h:E[1]?=some (.val one)):dE yX (.lst (.cons (.tup (.cons (.var 1) (.cons (.tup .nil) .nil))) (.cons (.tup (.cons (.var 1) (.cons (.tup (.cons (.c (.int 0)) .nil)) .nil))) (.cons (.tup (.cons (.tup (.cons (.tup (.cons (.c (.int 0)) .nil)) .nil)) (.cons (.tup .nil) .nil))) (.cons (.tup (.cons (.tup (.cons (.tup (.cons (.c (.int 0)) (.cons (.c (.int 0)) (.cons (.c (.int 0)) (.cons (.c (.int 0)) .nil))))) .nil)) (.cons (.tup .nil) .nil))) (.cons (.tup (.cons (.bin .mul (.var 1) (.c (.int 12))) (.cons (.tup (.cons (.c (.int 11)) .nil)) .nil))) (.cons (.tup (.cons (.bin .mul (.var 1) (.c (.int 13))) (.cons (.tup .nil) .nil))) .nil))))))) E=.ok (.own ths,E):=by
 have tp2:∀{a b:Ex} {r1 r2:R},dE yX a E=.ok (r1,E)->dE yX b E=.ok (r2,E)->dE yX (.tup (.cons a (.cons b .nil))) E=.ok (.val (.tup [r1.d,r2.d]),E):=λh1 h2=>yr (zB h1 (zB h2 zR)) rfl JN
 have tp1:∀{a:Ex} {r1:R},dE yX a E=.ok (r1,E)->dE yX (.tup (.cons a .nil)) E=.ok (.val (.tup [r1.d]),E):=λh1=>yr (zB h1 zR) rfl ya
 have n0:dE yX (.tup .nil) E=.ok (.val (.tup []),E):=yr zR rfl JM;have m1:∀n:Nat,n<=100->dE yX (.bin .mul (.var 1) (.c (.int (n:Nat)))) E=.ok (.val (.tup (replicate n (.tup [.int 0,.int 0]))),E):=λn hn=>yY (zD h) x_c (Za (.tup [.int 0,.int 0]) n (by omega))
 have z4:dE yX (.tup (.cons (.c (.int 0)) (.cons (.c (.int 0)) (.cons (.c (.int 0)) (.cons (.c (.int 0)) .nil))))) E=.ok (.val (.tup [.int 0,.int 0,.int 0,.int 0]),E):=yr (zB x_c (zB x_c (zB x_c (zB x_c zR)))) rfl (by simp[cap]);exact ZY (zB (tp2 (zD h) n0) (zB (tp2 (zD h) (tp1 x_c)) (zB (tp2 (tp1 (tp1 x_c)) n0) (zB (tp2 (tp1 z4) n0) (zB (tp2 (m1 12 (by omega)) (tp1 x_c)) (zB (tp2 (m1 13 (by omega)) n0) zR)))))) rfl (by simp[cap])
theorem uG{E E1:zL}{a:Ex}{d:D}(h:dE yX a E=.ok (.val d,E1))(ok:ok4 d):dS yX (.sIf (.tNot (.tE (.call 0 (.ev a .nil)))) (.bOne (.sRet (.c (.bl false)))) .bNil) E=.ok (.nx,E1) :=
 jO (yf (t_E (j0 (F:=jC) rfl h (e_right ok))) rfl) jP
def InC(v t:D)(E:zL):Prop:=∃s3 s4 s5 s6 s7,E=[.val v,.val one,.val t,s3,s4,s5,s6,s7]/\Jy s4=true/\Jy s5=true/\Jy s6=true/\Jy s7=true
theorem cell_ok(v t:D)(c:Int)(s3 s5 s6 s7:DV.Slot)(h5:Jy s5=true)(h6:Jy s6=true)(h7:Jy s7=true):∃E2,dB yX W4 [.val v,.val one,.val t,s3,.val (.int c),s5,s6,s7]=.ok (.nx,E2)/\InC v t E2:=by
 obtain⟨p,e1,hp⟩:=Zb c;obtain⟨m,ls,g,p1,e2,hp1,M⟩:=WW hp;have e3:=wP (mD ls g) (mD_ok M);rw[mD_good M]at e3;obtain⟨E3,f1,p2,t7,rfl,hp2,q7⟩:=wx (tg:=gN 7) (body:=dB yX QU) (λ_ E=>∃p t7,E=[.val v,.val one,.val t,s3,.val (.int c),.own p,.val (mD ls g),t7]/\Pen p/\Jy t7=true) (DV.zP 0 5) 0 [.val v,.val one,.val t,s3,.val (.int c),.own p1,.val (mD ls g),s7] ⟨p1,s7,rfl,hp1,h7⟩
  (λi d q E ⟨p,t7,hE,hp,q7⟩=>by
   obtain⟨x,p',e,hp',ok⟩:=WX M hp;refine⟨[.val v,.val one,.val t,s3,.val (.int c),.own p,.val (mD ls g),.val d],[.val v,.val one,.val t,s3,.val (.int c),.own p',.val (mD ls g),.val d],?_,zp (uG (uC (F:=zr) rfl rfl (zD rfl) e rfl) ok),p',.val d,rfl,hp',rfl⟩;subst hE;cases t7<;>first|rfl|(cases q7))
 refine⟨[.val v,.val one,.val t,s3,.val (.int c),.own p2,.val (mD ls g),t7],?_,s3,.val (.int c),.own p2,.val (mD ls g),t7,rfl,rfl,rfl,rfl,q7⟩;refine zX (E1:=[.val v,.val one,.val t,s3,.val (.int c),.own p,s6,s7]) (yz (j0 (F:=yW) rfl (zD rfl) e1) (QY rfl h5 rfl)) ?_;refine zX (E1:=[.val v,.val one,.val t,s3,.val (.int c),.own p1,.val (mD ls g),s7]) (yz (uC (F:=yH) rfl rfl x_c e2 rfl) (QY rfl h6 rfl)) ?_;refine zX (jO (t_E (jz (r:=.val (.bl false)) (j0 (F:=zm) rfl (zD rfl) e3) x_c rfl)) jP) ?_;exact zp (QX (tg:=.n 7) (j:=5) (zB x_c zR) rfl ⟨by decide,by decide⟩ f1)
theorem math33(ns:List Int)(hns:ns.length<=63):∃outs,m_law [.val (.lst (ns.map D.int))]=.ok (.val (.bl true),outs):=by
 obtain⟨c,e2⟩:=Yj ns;have hcut:y4 (ns.map D.int) (some 1) (some 6)=((ns.drop (HT.sIx ns.length 0 (some 1))).take (HT.sIx ns.length ns.length (some 6)-HT.sIx ns.length 0 (some 1))).map D.int:=by
  unfold y4;simp[List.map_drop,List.map_take]
 generalize hk:(ns.drop (HT.sIx ns.length 0 (some 1))).take (HT.sIx ns.length ns.length (some 6)-HT.sIx ns.length 0 (some 1))=k at hcut;have hkl:k.length<=63:=by rw[<- hk];simp;omega
 have c1:slD (.lst (ns.map D.int)) (some 1) (some 6)=some (.own (k.map D.int)):=by simp only[slD,hcut]
 have c2:=W7 [.int c] (k.map D.int) (by simp;omega);generalize hv:D.lst (ns.map D.int)=v at e2 c1;have c3:=W7 ths [.tup [.tup [],.tup []]] (by simp);obtain⟨E1,f0,s3,rfl,_⟩:=wx (tg:=gN 3) (body:=dB yX QV) (λ_ E=>∃s3,E=[.val v,.val one,.val (.lst ths),s3,.emp,.emp,.emp,.emp]/\Jy s3=true) (ths++[.tup [.tup [],.tup []]]) 0 [.val v,.val one,.val (.lst ths),.emp,.emp,.emp,.emp,.emp] ⟨.emp,rfl,rfl⟩
  (λi d q E ⟨s3,hE,q3⟩=>by
   refine⟨[.val v,.val one,.val (.lst ths),.val d,.emp,.emp,.emp,.emp],_,?_,zp (uG (zD rfl) (ths_ok d (mem_of_getElem? q))),.val d,rfl,rfl⟩;subst hE;cases s3<;>first|rfl|(cases q3))
 obtain⟨E',f1,u3,u4,u5,u6,u7,rfl,_⟩:=wx (tg:=gN 4) (body:=dB yX W4) (λ_ E=>InC v (.lst ths) E) ([.int c]++k.map D.int) 0 [.val v,.val one,.val (.lst ths),s3,.emp,.emp,.emp,.emp] ⟨_,_,_,_,_,rfl,rfl,rfl,rfl,rfl⟩
  (λi d q E ⟨s3,s4,s5,s6,s7,hE,h4,h5,h6,h7⟩=>by
   obtain⟨x,rfl⟩:∃x:Int,d=.int x:=by
    have:=mem_of_getElem? q;rcases mem_append.mp this with m|m
    ·exact⟨c,mem_singleton.mp m⟩
    ·obtain⟨x,_,rfl⟩:=mem_map.mp m;exact⟨x,rfl⟩
   obtain⟨E2,f1,f2⟩:=cell_ok v (.lst ths) x s3 s5 s6 s7 h5 h6 h7;refine⟨[.val v,.val one,.val (.lst ths),s3,.val (.int x),s5,s6,s7],E2,?_,f1,f2⟩;subst hE;cases s4<;>first|rfl|(cases h4))
 refine⟨_,yZ (r:=.val (.bl true)) (E1:=[.val v,.val one,.val (.lst ths),u3,u4,u5,u6,u7]) ?_ rfl⟩;refine zX (E1:=[.val v,.val one,.emp,.emp,.emp,.emp,.emp,.emp]) (yz (yr (zB (yr (zB x_c (zB x_c zR)) rfl JN) zR) rfl ya) rfl) ?_;refine zX (E1:=[.val v,.val one,.own ths,.emp,.emp,.emp,.emp,.emp]) (yz (e_ths rfl) rfl) ?_;have z1:dE yX (.lst (.cons (.tup (.cons (.tup .nil) (.cons (.tup .nil) .nil))) .nil)) [.val v,.val one,.val (.lst ths),.emp,.emp,.emp,.emp,.emp]=.ok (.own [.tup [.tup [],.tup []]],[.val v,.val one,.val (.lst ths),.emp,.emp,.emp,.emp,.emp]):=ZY (zB (yr (zB (yr zR rfl JM) (zB (yr zR rfl JM) zR)) rfl JN) zR) rfl ya;have z2:dE yX (.bin .add (.var 2) (.lst (.cons (.tup (.cons (.tup .nil) (.cons (.tup .nil) .nil))) .nil))) [.val v,.val one,.own ths,.emp,.emp,.emp,.emp,.emp]=.ok (.own (ths++[.tup [.tup [],.tup []]]),[.val v,.val one,.val (.lst ths),.emp,.emp,.emp,.emp,.emp]):=yY (WO rfl rfl) z1 c3;refine zX (E1:=[.val v,.val one,.val (.lst ths),s3,.emp,.emp,.emp,.emp]) (zBZ (tg:=.n 3) z2 rfl f0) ?_;exact zX (zBZ (tg:=.n 4) (yY (ZY (zB (ZZ (F:=yJ) rfl (zD rfl) x_c e2) zR) rfl ya) (x_sl (zD rfl) (o_S x_c) (o_S x_c) c1) c2) rfl f1) (zp (yK x_c))
end My
namespace My
open PySem L2 DV
theorem txt_lk{K:PySem.W.Frag}{h:Heap}{mg:Str->Option Value}(X:K.In h)(G:h.Ns mainGlobals mg)(e:J2 K=wants):Txt K mg :=
 have e1:=congrArg (λx:lkT=>x.1) e;have e2:=congrArg (λx:lkT=>x.2.1) e;have e3:=congrArg (λx:lkT=>x.2.2.1) e
 {n_all:=JJ X G (ix 0 e3),n_bool:=JJ X G (ix 1 e3),n_int:=JJ X G (ix 2 e3),n_isinstance:=JJ X G (ix 3 e3),n_len:=JJ X G (ix 4 e3),n_list:=JJ X G (ix 5 e3),n_max:=JJ X G (ix 6 e3),n_min:=JJ X G (ix 7 e3),n_range:=JJ X G (ix 8 e3),n_set:=JJ X G (ix 9 e3),n_sorted:=JJ X G (ix 10 e3),n_tuple:=JJ X G (ix 11 e3),n_zip:=JJ X G (ix 12 e3),c_LEAST_SIGNS:=ct_at X G (ix 0 e2),c_MOST_SIGNS:=ct_at X G (ix 1 e2),c_MOST_STANDS:=ct_at X G (ix 2 e2),f_is_whole:=wD X G (ix 0 e1),f_is_whole_within:=wD X G (ix 1 e1),f_all_within:=wD X G (ix 2 e1),f_steps_good:=wD X G (ix 3 e1),f_rising_stands:=wD X G (ix 4 e1),f_machine_good:=wD X G (ix 5 e1),f__law_cell_at:=wD X G (ix 6 e1),f__law_next:=wD X G (ix 7 e1),f__law_pen_of:=wD X G (ix 8 e1),f__law_draw:=wD X G (ix 9 e1),f__law_whole:=wD X G (ix 10 e1),f__law_machine_by:=wD X G (ix 11 e1),f__law_machine_good:=wD X G (ix 12 e1),f__law_no_machine:=wD X G (ix 13 e1),f__law_right:=wD X G (ix 14 e1),f_law:=wD X G (ix 15 e1),cl:=cl_at X G (congrArg (λx:lkT=>x.2.2.2) e)}
end My
end
open PySem PySem.W PyProof.Rows
set_option maxRecDepth 100000 in
set_option maxHeartbeats 0 in
theorem PySem.Challenge.cw_throwruns_k33_machines_looked_at_holds : PySem.Challenge.rw_throwruns_k33_machines_looked_at.Holds := by
 w_on;refine holds_law My.hz λsaid=>?_
 refine holds_open (q:=My.q) (loose:=My.ls) (Xt:=λs=>xlAt My.q [] s&&recOk (RowW.records (OpenLaw.row PySem.Challenge.rw_throwruns_k33_machines_looked_at).toRowW) s) (XP:=XL My.q []) (Yf:=λs=>My.J2 (DV.wd s.heap My.as)) (Ya:=λ_=>My.wants) (YP:=(DV.uB My.as My.lkT My.J2 My.wants).says) (N:=1186) My.hl (DV.uB My.as My.lkT My.J2 My.wants).of (DV.uB My.as My.lkT My.J2 My.wants).keeps (λs e=>xl_of s (Bool.and_eq_true_iff.mp e).1) XL.keeps (by rfl) (by rfl) (by rfl) (λs e=>recFacts_of (Bool.and_eq_true_iff.mp e).2) ?h4 ?h5 ?h6 ⟨rfl,rfl,rfl,rfl,rfl,by decide +kernel⟩ ?hw ?hc
 case h4=>rfl
 case h5=>first|assumption|decide +kernel
 case h6=>decide +kernel
 case hw=>w_witness2
 case hc=>exact DV.walkE (l:=PySem.Challenge.rw_throwruns_k33_machines_looked_at) (x:="_law_script") My.math33 rfl rfl λw K mg fa h KX e G hmg=>My.law_fd hmg (My.txt_lk KX G e)
