import PyProof.Rows.All
import Wide.All
import OpenK.AllK
import Wide.FinOn
import Lean
import PyProof.EqAt
import PyProof.EqKinds
import PyProof.TupleCall
import PyProof.ExcArgsOwn
import PyProof.ExcAttrAll.ValueError
import OpenK.KOwn
import KE.KIsAll
import PyProof.Rows.CatchOwn
import PyProof.RulesDel
import PyProof.ExcBaseAll.ValueError
import PyProof.NeKinds
import PyProof.Rows.CountFlat
import PyProof.ReprRoads
import PyProof.CallFns
import PyProof.ZipIter
import PyProof.WalksMore
import PyProof.EnumStmt
import PyProof.EnumMake
import PyProof.P3In
import PyProof.MinMaxWalk
import PySem.Challenge.RW_throwruns_k26_rows_turned
set_option Elab.async false
set_option linter.all false
set_option maxRecDepth 100000
set_option maxHeartbeats 0
theorem DV.nf {P : Prop} (h : false = true) : P := absurd h Bool.false_ne_true
open List (mem_filter mem_range filterMap_cons mem_cons_self mem_cons_of_mem mem_cons mem_append mem_append_left getElem?_set_self getElem?_set_ne mem_filterMap mem_append_right append_nil nodup_cons of_mem_zip replicate length length_take getElem?_map mem_of_getElem? length_append length_map zip_cons_cons length_cons length_nil size_toArray filterMap_map length_drop map_cons all_cons any_cons reverse_cons replicate_succ flatten_cons foldl append_assoc forIn_cons sublist_cons_self nodup_append nil_append perm_append_comm sublist_append_right perm_middle eq_of_mem_replicate lookup_cons all_eq_true mem_nil_iff getD_eq_getElem?_getD getElem?_eq_getElem getElem_toArray getElem_mem range_succ toArray length_range mem_map map_map isEmpty_iff mem_singleton set_set)
open Nat (lt_of_lt_of_le lt_irrefl ne_of_lt le_trans le_refl zero_le lt_succ_self lt_succ_of_lt not_lt le_succ zero_add)
open PySem.W (clsIn typeIn findIn specialIn takesIn nsIn codeIn keepIn fnOf excIn instObj methodObj hideAll hideAll_get of_hideAll plainGet emptyDict mroIn cellsFrom_some codeRec_of looks_findIn looks_mroIn kitOne kitCls kia_one mg_of)
open PySem.Heap (lt_size get?_push_of_some get?_push_size size_push get?_update_other)
noncomputable section
namespace L2
open PySem
def wS (s : Stmt) : Arguments := match s with
 | .FunctionDef _ a _ _ _ _ _ _ _ _ => a
 | _ => { posonlyargs := [],args := [],vararg := none,kwonlyargs := [],kw_defaults := [],kwarg := none,defaults := [] }
def yT (s : Stmt) : List Stmt := match s with
 | .FunctionDef _ _ b _ _ _ _ _ _ _ => b
 | _ => []
def zW (s : Stmt) : Scope := match s with
 | .FunctionDef _ _ _ _ _ _ sc _ _ _ => sc
 | _ => { kind := .function,names := [],isGenerator := false,isCoroutine := false }
end L2
namespace DV
open PySem L2
abbrev VB : List Value := [.type "ValueError",.type "Exception",.type "BaseException",.type "object"]
def xIn (K : PySem.W.Frag) (c : Str) (C T : Addr) : Bool := (match clsIn K C with | some cd => cd.name == c && cd.mro == [.ref C,.ref T,.type "ValueError",.type "Exception",.type "BaseException",.type "object"] | none => false)
 && typeIn K (.ref C) == some (.type "type") && findIn K (.ref C) "__getattribute__" == some (some (.builtin "BaseException.__getattribute__")) && findIn K (.ref C) "__getattr__" == some none
 && findIn K (.ref C) "__class__" == some (some (.builtin "object.__class__")) && specialIn K (.builtin "object.__class__") "__get__" == some (some (.builtin "getset_descriptor.__get__")) && takesIn K (.builtin "object.__class__") == some true && !(C == T)
def tIn (K : PySem.W.Frag) (T : Addr) : Bool := (match clsIn K T with | some cd => cd.mro == (.ref T :: VB) | none => false) && typeIn K (.ref T) == some (.type "type")
def wf (h : Heap) : List Addr → PySem.W.Frag
 | [] => []
 | a :: as => match h.get? a with
  | some o => (a,o) :: wf h as
  | none => wf h as
def FvT : Type := Bool × Str × Str × Arguments × FuncBody × Scope × Addr × List (Str × Addr) × Value × Addr
def fvOf (b : Bool) (fd : FuncData) : FvT := (b,fd.name,fd.qualname,fd.params,fd.body,fd.scope,fd.globals,fd.closure,fd.defaults,fd.builtins)
def yi (K : PySem.W.Frag) (n : Str) : Option FvT := match nsIn K mainGlobals n with
 | some (some (.ref a)) => (match K.lookup a with
  | some ⟨_,_,.func fd,_⟩ => some (fvOf (codeIn K fd.code n && keepIn K (.ref a)) fd)
  | _ => none)
 | _ => none
def yn (n : Str) (st : Stmt) : Option FvT := some (fvOf true (fnOf n n (wS st) (yT st) (zW st) .none .none .none .none none .none .none))
def vk (K : PySem.W.Frag) (n : Str) : Option Int := match nsIn K mainGlobals n with
 | some (some (.int i _)) => some i
 | _ => none
def yg (K : PySem.W.Frag) (n : Str) : Bool := match nsIn K mainGlobals n with
 | some none => true
 | _ => false
def wF (K : PySem.W.Frag) (n : Str) : Option Addr := match nsIn K mainGlobals n with
 | some (some (.ref a)) => some a
 | _ => none
def GH (K : PySem.W.Frag) : Bool := match K.lookup sysModules with
 | some o => (match o.data with | .dict _ _ => true | _ => false)
 | none => false
def zBy (K : PySem.W.Frag) (cl rs : List Str) : Bool :=
 (cl.isEmpty || (match wF K "ThrowError" with
  | some T => tIn K T && cl.all fun c => (match wF K c with | some C => xIn K c C T | none => false)
  | none => false)) &&
 (rs.all fun c => (match wF K c with | some C => excIn K C VB "ValueError.__new__" | none => false)) && GH K
end DV
namespace My
open PySem L2 DV
def top (i : Nat) : Stmt := PySem.Challenge.pw_throwruns_k26_rows_turned.main.body.getD i (.Pass ⟨0,0,0,0⟩)
abbrev Y0 : Stmt := top 11
abbrev jE : Stmt := top 12
abbrev Jy : Stmt := top 16
abbrev Y1 : Stmt := top 17
abbrev Y2 : Stmt := top 18
abbrev Y3 : Stmt := top 20
abbrev JV : Stmt := top 21
abbrev Z6 : Stmt := top 22
abbrev wG : Stmt := top 24
abbrev Jz : Stmt := top 25
abbrev wg : Stmt := top 26
abbrev J0 : Stmt := top 27
abbrev JW : Stmt := top 28
abbrev wH : Stmt := top 29
abbrev wI : Stmt := top 30
abbrev wj : Stmt := top 31
abbrev wk : Stmt := top 32
abbrev wJ : Stmt := top 33
abbrev jj : Stmt := top 34
abbrev JX : Stmt := top 35
abbrev s_law : Stmt := top 36
def cl_ : List Str := ["NoDie","NoRow","NoNumber","NoLine","NoMachine","NoPaper","NoText","TooGreat"]
def rs_ : List Str := ["NoDie","NoRow","NoNumber","NoLine","NoMachine","NoPaper"]
def lkT : Type := List (Option FvT) × List (Option Int) × List Bool × Bool
def Wy (K : PySem.W.Frag) : lkT := ([yi K "is_whole",yi K "is_whole_within",yi K "sign_good",yi K "row_good",yi K "need_row",yi K "turns_of",yi K "least_turn",yi K "turn_to",yi K "_law_cell_at",yi K "_law_next",yi K "_law_pen_of",yi K "_law_draw",yi K "_law_whole",yi K "_law_kind_of",yi K "_law_refused",yi K "_law_row_of",yi K "_law_no_row",yi K "_law_told_of",yi K "_law_turns_of",yi K "_law_right",yi K "law"],[vk K "MOST_SIGNS",vk K "MOST_THROWS"],[yg K "ValueError",yg K "all",yg K "bool",yg K "enumerate",yg K "int",yg K "isinstance",yg K "len",yg K "list",yg K "max",yg K "min",yg K "range",yg K "repr",yg K "sorted",yg K "tuple"],zBy K cl_ rs_)
def Wz : lkT := ([yn "is_whole" Y0,yn "is_whole_within" jE,yn "sign_good" Jy,yn "row_good" Y1,yn "need_row" Y2,yn "turns_of" Y3,yn "least_turn" JV,yn "turn_to" Z6,yn "_law_cell_at" wG,yn "_law_next" Jz,yn "_law_pen_of" wg,yn "_law_draw" J0,yn "_law_whole" JW,yn "_law_kind_of" wH,yn "_law_refused" wI,yn "_law_row_of" wj,yn "_law_no_row" wk,yn "_law_told_of" wJ,yn "_law_turns_of" jj,yn "_law_right" JX,yn "law" s_law],[some 3,some 20],[true,true,true,true,true,true,true,true,true,true,true,true,true,true],true)
def q0 : Program := PySem.Challenge.pw_throwruns_k26_rows_turned
def isLaw : Stmt → Bool
 | .FunctionDef f .. => f == "law"
 | _ => false
def q : Program := { q0 with main := { q0.main with body := q0.main.body.filter isLaw } }
def nameOf : Stmt → List Str
 | .FunctionDef f .. => [f]
 | .ClassDef f .. => [f]
 | .Assign [.Name x _] _ _ => [x]
 | _ => []
def ls : List Str := (q0.main.body.flatMap nameOf).filter (· != "law")
def as : List Addr := [1,2,3,15,22,23,24,25,28,35,36,37,40,47,48,49,52,59,60,61,64,71,72,73,76,83,84,85,88,95,96,97,100,107,109,110,112,113,114,115,116,119,126,128,129,131,132,133,134,135,138,140,141,143,144,145,147,148,150,151,152,154,155,157,158,159,162,163,164,166,167,169,170,171,174,175,176,178,179,181,182,183,185,186,188,189,190,192,193,195,196,197,199,200,202,203,204,206,207,209,210,211,213,214,216,217,218,220,221,223,224,225,227,228,230,231,232,234,235,237,238,239,241,242,244,245,246,248,249,251,252,253,255,256,258,259,260,262,263,265,266,267,270,271,272,274,275,277,278]
end My
section
open PySem PySem.W PyProof.Rows
theorem My.ht : ∀ (w : World) (os : OsState),(topFrom treeTable (OpenLaw.row PySem.Challenge.rw_throwruns_k26_rows_turned).toRowW.prog w 5434 ⟨boot_heap w.params,#[],boot_drawn,boot_toks,os⟩).map (fun s => (openSeen My.q My.ls (importedModules (OpenLaw.row PySem.Challenge.rw_throwruns_k26_rows_turned).toRowW.prog.main.body) (fun s => xlAt My.q [] s && recOk (RowW.records (OpenLaw.row PySem.Challenge.rw_throwruns_k26_rows_turned).toRowW) s) true s,My.Wy (DV.wf s.heap My.as))) = some (openGood My.q My.ls,My.Wz) := by
 intro w os
 kernel_rfl
theorem My.ho : opening (OpenLaw.row PySem.Challenge.rw_throwruns_k26_rows_turned).toRowW.prog = plainProg (OpenLaw.row PySem.Challenge.rw_throwruns_k26_rows_turned).toRowW.prog.main.scope.names := by kernel_rfl
theorem My.hf : ∀ s,fenceModules? (OpenLaw.row PySem.Challenge.rw_throwruns_k26_rows_turned).toRowW.prog s = some s := by
 intro s
 kernel_rfl
theorem My.hl : LeftO (OpenLaw.row PySem.Challenge.rw_throwruns_k26_rows_turned).toRowW.prog My.q My.ls (fun s => xlAt My.q [] s && recOk (RowW.records (OpenLaw.row PySem.Challenge.rw_throwruns_k26_rows_turned).toRowW) s) (fun s => My.Wy (DV.wf s.heap My.as)) (fun _ => My.Wz) 5434 := by
 intro w;obtain ⟨s,hs,hv⟩ := Option.map_eq_some_iff.mp (boot_open My.ho (N := 5434) rfl My.hf w);unfold openEnds;rw [hs];obtain ⟨h,g,d,t,os⟩ := s;have h1 : h = boot_heap w.params := congrArg Prod.fst hv;have h2 : g = #[] := congrArg (fun x => x.2.1) hv;have h3 : d = boot_drawn := congrArg (fun x => x.2.2.1) hv;have h4 : t = boot_toks := congrArg (fun x => x.2.2.2) hv;subst h1;subst h2;subst h3;subst h4;exact My.ht w os
end
namespace L2
open PySem PySem.Spec PyProof.Rows
abbrev Key := Sum Int Str
def keyIs : Key → Value → Bool
 | .inl k,v => Value.isInt k v
 | .inr x,v => Value.isStrOf x v
def keyH (w : World) : Key → Int
 | .inl k => hashInt k
 | .inr x => hashStr w x
theorem zz : ∀ {k : Key} {v : Value},keyIs k v = true → (∃ i t,k = Sum.inl i ∧ v = Value.int i t) ∨ (∃ x t,k = Sum.inr x ∧ v = Value.str x t)
 | .inl i,v,h => by
  obtain ⟨t,e⟩ := Value.isInt_shape (k := i) (v := v) h;exact .inl ⟨i,t,rfl,e⟩
 | .inr x,v,h => by
  obtain ⟨t,e⟩ := Value.isStrOf_shape (x := x) (v := v) h;exact .inr ⟨x,t,rfl,e⟩
theorem key_ll (a b : Int) : decide ((Sum.inl a : Key) = Sum.inl b) = (a == b) := by
 by_cases e : a = b
 ·subst e; simp
 ·have h : ¬ (Sum.inl a : Key) = Sum.inl b := fun q => e (Sum.inl.inj q)
  rw [decide_eq_false h];exact (beq_eq_false_iff_ne.mpr e).symm
theorem key_rr (a b : Str) : decide ((Sum.inr a : Key) = Sum.inr b) = decide (a = b) := by
 by_cases e : a = b
 ·subst e; simp
 ·have h : ¬ (Sum.inr a : Key) = Sum.inr b := fun q => e (Sum.inr.inj q)
  rw [decide_eq_false h,decide_eq_false e]
theorem key_lr (a : Int) (b : Str) : decide ((Sum.inl a : Key) = Sum.inr b) = false := decide_eq_false (fun q => nomatch q)
theorem key_rl (a : Str) (b : Int) : decide ((Sum.inr a : Key) = Sum.inl b) = false := decide_eq_false (fun q => nomatch q)
def W0 (prog : Program) (w : World) : PySem.KeyKind prog w Key where
 is := keyIs
 hash := keyH w
 inj := fun v a b ha hb => by
  rcases zz ha with ⟨i,t,rfl,rfl⟩ | ⟨x,t,rfl,rfl⟩
  ·rcases zz hb with ⟨j,u,rfl,e⟩ | ⟨y,u,rfl,e⟩
   ·injection e with e1 _; rw [e1]
   ·exact nomatch e
  ·rcases zz hb with ⟨j,u,rfl,e⟩ | ⟨y,u,rfl,e⟩
   ·exact nomatch e
   ·injection e with e1 _; rw [e1]
 byValue := fun k v h => by
  rcases zz h with ⟨i,t,rfl,rfl⟩ | ⟨x,t,rfl,rfl⟩ <;> rfl
 pyHash := fun hv h => by
  rcases zz hv with ⟨i,t,rfl,rfl⟩ | ⟨x,t,rfl,rfl⟩
  ·exact wpAny_pyHash_int h
  ·exact wpAny_pyHash_str h
 eqBool := fun hu hv h => by
  rcases zz hu with ⟨i,t,rfl,rfl⟩ | ⟨x,t,rfl,rfl⟩
  ·rcases zz hv with ⟨j,u,rfl,rfl⟩ | ⟨y,u,rfl,rfl⟩
   ·rw [key_ll] at h; exact wpAny_eqBool_int h
   ·rw [key_lr] at h; exact SeqAt.EqAt.int_str i t y u _ _ _ _ h
  ·rcases zz hv with ⟨j,u,rfl,rfl⟩ | ⟨y,u,rfl,rfl⟩
   ·rw [key_rl] at h; exact SeqAt.EqAt.str_int x t j u _ _ _ _ h
   ·rw [key_rr] at h; exact wpAny_eqBool_str h
 «strs» := fun k x t v h => by
  rcases zz h with ⟨i,u,rfl,e⟩ | ⟨y,u,rfl,e⟩
  ·exact nomatch e
  ·injection e with e1 _
   subst e1;cases v <;> rfl
end L2
namespace L2
open PySem PySem.Spec PyProof.Rows
inductive V where
 | non | bl (b : Bool) | int (i : Int) | str (x : Str) | byt (b : Array UInt8) | flt (b : UInt64) | ref (a : Addr) | ty (n : String)
 deriving DecidableEq
def zw : V → Value → Prop
 | .non,u => u = Value.none
 | .bl b,u => u = Value.bool b
 | .int i,u => ∃ t,u = Value.int i t
 | .str x,u => ∃ t,u = Value.str x t
 | .byt b,u => ∃ t,u = Value.bytes b t
 | .flt b,u => ∃ t,u = Value.float b t
 | .ref a,u => u = Value.ref a
 | .ty n,u => u = Value.type n
abbrev zb : List V → List Value → Prop := Paired zw
theorem zb.length {xs : List V} {us : List Value} (r : zb xs us) : xs.length = us.length := Paired.length r
theorem zb.get : ∀ {xs : List V} {us : List Value} {i : Nat} {x : V},zb xs us → xs[i]? = some x → ∃ u,us[i]? = some u ∧ zw x u
 | _,_,_,_,.nil,e => by simp at e
 | _,_,0,_,.cons r _,e => by simp at e; subst e; exact ⟨_,rfl,r⟩
 | _,_,i + 1,x,.cons _ t,e => by
  obtain ⟨u,h1,h2⟩ := zb.get (i := i) (x := x) t (by simpa using e);exact ⟨u,by simpa using h1,h2⟩
theorem zb.set {x : V} {u : Value} (r : zw x u) : ∀ {xs : List V} {us : List Value} (i : Nat),zb xs us → zb (xs.set i x) (us.set i u)
 | _,_,_,.nil => .nil
 | _,_,0,.cons _ t => .cons r t
 | _,_,i + 1,.cons q t => .cons q (zb.set r i t)
theorem zb.append : ∀ {xs ys : List V} {us ws : List Value},zb xs us → zb ys ws → zb (xs ++ ys) (us ++ ws)
 | _,_,_,_,.nil,s => s
 | _,_,_,_,.cons r t,s => .cons r (zb.append t s)
theorem zb.take : ∀ {xs : List V} {us : List Value} (n : Nat),zb xs us → zb (xs.take n) (us.take n)
 | _,_,0,_ => .nil
 | _,_,_ + 1,.nil => .nil
 | _,_,n + 1,.cons r t => .cons r (zb.take n t)
theorem zb.drop : ∀ {xs : List V} {us : List Value} (n : Nat),zb xs us → zb (xs.drop n) (us.drop n)
 | _,_,0,r => r
 | _,_,_ + 1,.nil => .nil
 | _,_,n + 1,.cons _ t => zb.drop n t
def RelO : Option V → Option Value → Prop
 | some v,some u => zw v u
 | none,none => True
 | _,_ => False
def KV {κ : Type} : List (κ × V) → List (κ × Value) → Prop := Paired fun (p : κ × V) (q : κ × Value) => p.1 = q.1 ∧ zw p.2 q.2
def kV : Key → V
 | .inl i => .int i
 | .inr x => .str x
inductive HO where
 /-- a list -/
 | lst (xs : List V)
 /-- a tuple (never changes) -/
 | tup (xs : List V)
 /-- a dict whose keys are ints and texts; one whose keys are tuples of ints and texts (the empty one is both) -/
 | dK (kvs : List (Key × V)) | dT (kvs : List (List Key × V))
 /-- a set of ints: its members,its size -/
 | set (S : Int → Bool) (n : Nat)
 /-- an instance of the class at C,its dict at dx,its attributes -/
 | ins (C dx : Addr) (fs : List (Str × V))
 /-- the dict of the instance at x -/
 | own (x : Addr)
 /-- the dict of an exception -/
 | xd (fs : List (Str × V))
 /-- a bound method,f of x -/
 | met (f x : Addr)
 /-- a range object lo,lo + 1,.. below hi -/
 | rng (lo hi : Int)
 /-- a thing that is known to the object (the script; a dict while a loop walks it): read,never written while it is so -/
 | frz (o : Obj) (u : HO)
 /-- a code object's table -/
 | tbl (ps : Array Value)
 /-- any other thing,by what is true of its one object (a def of one's own: SetO a S n := HO.ext fun h => ..) -/
 | ext (φ : Heap → Prop)
abbrev Hp := Addr → Option HO
def upd (H : Hp) (a : Addr) (o : HO) : Hp := fun b => if b = a then some o else H b
theorem yK {H : Hp} {a : Addr} {o : HO} : upd H a o a = some o := by unfold upd; rw [if_pos rfl]
theorem zY {H : Hp} {a b : Addr} {o : HO} (h : b ≠ a) : upd H a o b = H b := by unfold upd; rw [if_neg h]
theorem jF {H : Hp} {a b : Addr} {o : HO} (h : H a = some o) (h' : H b = none) : a ≠ b := by
 intro e; subst e; rw [h] at h'; cases h'
section
variable (P : Program) (w : World)
def jG (H : Hp) (h : Heap) (a : Addr) : HO → Prop
 | .lst xs => xs.length ≤ sizeLine ∧ ∃ (its : List Value) (n : Nat),zb xs its ∧ h.get? a = some { cls := .type "list",data := .seq its.toArray n }
 | .tup xs => xs.length ≤ sizeLine ∧ ∃ its : List Value,zb xs its ∧ IsTup h a its.toArray
 | .dK kvs => kvs.length ≤ sizeLine ∧ (a == sysModules) = false ∧ ∃ vs,KV kvs vs ∧ h.DictOf (W0 P w) a vs
 | .dT kvs => kvs.length ≤ sizeLine ∧ (a == sysModules) = false ∧ ∃ xs : List (List Key × Addr × Value),
   Paired (fun (p : List Key × V) (q : List Key × Addr × Value) => p.1 = q.1 ∧ H q.2.1 = some (.tup (p.1.map kV)) ∧ zw p.2 q.2.2) kvs xs ∧
   ∃ o es ep,h.get? a = some o ∧ o.ExactDict ∧ o.data = .dict es ep ∧ es.toList = xs.map (entryOfKey (tupleKind (W0 P w))) ∧ (xs.map (·.1)).Nodup
 | .set S n => h.SetOf (intKind P w) a S n
 | .ins C dx fs => H dx = some (.own a) ∧ fs.length ≤ 1000 ∧ dx ≠ a ∧ h.get? a = some (instObj C dx) ∧
   ∃ mA,h.Ns1 dx mA ∧ (∀ f,RelO (fs.lookup f) (mA f)) ∧ PySem.Within mA (fs.map (·.1))
 | .own _ => ∃ o,h.get? a = some o
 | .xd fs => ∃ mA,h.Ns1 a mA ∧ ∀ f,RelO (fs.lookup f) (mA f)
 | .rng lo hi => ∃ t u v,h.get? a = some { cls := .type "range",data := .fields #[.int lo t,.int hi u,.int 1 v] }
 | .frz o u => h.get? a = some o ∧ jG H h a u
 | .tbl ps => h.get? a = some { cls := .none,data := .fields ps }
 | .met f x => h.get? a = some (methodObj (.ref f) (.ref x))
 | .ext φ => φ h ∧ (∃ o,h.get? a = some o) ∧ ∀ h1 h2 : Heap,φ h1 → (∀ o,h1.get? a = some o → h2.get? a = some o) → φ h2
def HOk (H : Hp) (h : Heap) : Prop := ∀ a o,H a = some o → jG P w H h a o
end
section
variable {P : Program} {w : World} {H H' : Hp} {h h' : Heap} {a : Addr} {o : HO}
theorem jG.lt (x : jG P w H h a o) : a < h.objs.size := by
 cases o with
 | lst xs => obtain ⟨_,_,_,_,e⟩ := x; exact lt_size e
 | tup xs => obtain ⟨_,_,_,p⟩ := x; exact p.lt
 | dK kvs => obtain ⟨_,_,_,_,o,_,_,e,_⟩ := x; exact lt_size e
 | dT kvs => obtain ⟨_,_,_,_,o,_,_,e,_⟩ := x; exact lt_size e
 | set S n => obtain ⟨o,_,_,_,e,_⟩ := x; exact lt_size e
 | ins C dx fs => obtain ⟨_,_,_,e,_⟩ := x; exact lt_size e
 | own y => obtain ⟨_,e⟩ := x; exact lt_size e
 | xd fs => obtain ⟨_,⟨_,_,_,e,_⟩,_⟩ := x; exact lt_size e
 | rng lo hi => obtain ⟨_,_,_,e⟩ := x; exact lt_size e
 | frz ob u => obtain ⟨e,_⟩ := x; exact lt_size e
 | tbl ps => exact lt_size (show h.get? a = some _ from x)
 | met f y => exact lt_size (show h.get? a = some _ from x)
 | ext φ => obtain ⟨_,⟨_,e⟩,_⟩ := x; exact lt_size e
theorem Paired.mapP {α β : Type} {F G : α → β → Prop} : ∀ {l₁ : List α} {l₂ : List β},Paired F l₁ l₂ → (∀ a b,F a b → G a b) → Paired G l₁ l₂
 | _,_,.nil,_ => .nil
 | _,_,.cons r t,f => .cons (f _ _ r) (Paired.mapP t f)
theorem jG.stay (x : jG P w H h a o) (k : ∀ b u,(b = a ∨ H b = some (.own a)) → h.get? b = some u → h'.get? b = some u)
  (ho : ∀ b,H b = some (.own a) → H' b = some (.own a)) (ht : ∀ b xs,H b = some (.tup xs) → H' b = some (.tup xs)) : jG P w H' h' a o := by
 induction o with
 | lst xs => obtain ⟨z,its,n,r,e⟩ := x; exact ⟨z,its,n,r,k _ _ (.inl rfl) e⟩
 | tup xs => obtain ⟨z,its,r,ob,e,c⟩ := x; exact ⟨z,its,r,ob,k _ _ (.inl rfl) e,c⟩
 | dK kvs => obtain ⟨z,y,vs,r,ob,es,ep,e,c⟩ := x; exact ⟨z,y,vs,r,ob,es,ep,k _ _ (.inl rfl) e,c⟩
 | dT kvs =>
  obtain ⟨z,y,xs,r,ob,es,ep,e,c⟩ := x;exact ⟨z,y,xs,Paired.mapP r fun p q z => ⟨z.1,ht _ _ z.2.1,z.2.2⟩,ob,es,ep,k _ _ (.inl rfl) e,c⟩
 | set S n => obtain ⟨ob,es,ep,t,e,c⟩ := x; exact ⟨ob,es,ep,t,k _ _ (.inl rfl) e,c⟩
 | ins C dx fs =>
  obtain ⟨d,z,ne,e,mA,⟨od,es,ep,e2,c⟩,r⟩ := x;exact ⟨ho _ d,z,ne,k _ _ (.inl rfl) e,mA,⟨od,es,ep,k _ _ (.inr d) e2,c⟩,r⟩
 | own y => obtain ⟨ob,e⟩ := x; exact ⟨ob,k _ _ (.inl rfl) e⟩
 | xd fs => obtain ⟨mA,⟨od,es,ep,e,c⟩,r⟩ := x; exact ⟨mA,⟨od,es,ep,k _ _ (.inl rfl) e,c⟩,r⟩
 | rng lo hi => obtain ⟨t,u,v,e⟩ := x; exact ⟨t,u,v,k _ _ (.inl rfl) e⟩
 | frz ob u ih => obtain ⟨e,q⟩ := x; exact ⟨k _ _ (.inl rfl) e,ih q⟩
 | tbl ps =>
  have e : h.get? a = some { cls := .none,data := .fields ps } := x;show h'.get? a = some { cls := .none,data := .fields ps };exact k a _ (.inl rfl) e
 | met f y =>
  have e : h.get? a = some (methodObj (.ref f) (.ref y)) := x;show h'.get? a = some (methodObj (.ref f) (.ref y));exact k a _ (.inl rfl) e
 | ext φ => obtain ⟨p,⟨o,e⟩,st⟩ := x; exact ⟨st _ _ p fun o q => k _ _ (.inl rfl) q,⟨o,k _ _ (.inl rfl) e⟩,st⟩
theorem HOk.lt (x : HOk P w H h) (e : H a = some o) : a < h.objs.size := (x a o e).lt
theorem HOk.fresh (x : HOk P w H h) (e : h.objs.size ≤ a) : H a = none := by
 cases q : H a with
 | none => rfl
 | some u => exact absurd (lt_of_lt_of_le (x.lt q) e) (lt_irrefl _)
theorem HOk.kept (x : HOk P w H h) (k : ∀ b u,h.get? b = some u → h'.get? b = some u) : HOk P w H h' := fun a o e =>
 (x a o e).stay (fun b u _ q => k b u q) (fun _ q => q) fun _ _ q => q
theorem HOk.laid (x : HOk P w H h) (k : ∀ b u,h.get? b = some u → h'.get? b = some u) (hp : h.objs.size ≤ a) (new : jG P w (upd H a o) h' a o) : HOk P w (upd H a o) h' := fun b u e => by
 have hn := x.fresh hp;by_cases hb : b = a
 ·subst hb; rw [yK] at e; cases e; exact new
 ·rw [zY hb] at e
  exact (x b u e).stay (fun c v _ q => k c v q) (fun c q => by rw [zY (jF q hn)]; exact q) fun c xs q => by rw [zY (jF q hn)]; exact q
end
def Rd (H : Hp) (a : Addr) (u : HO) : Prop := H a = some u ∨ ∃ o,H a = some (.frz o u)
theorem Rd.of {H : Hp} {a : Addr} {u : HO} (h : H a = some u) : Rd H a u := .inl h
theorem Rd.ok {P : Program} {w : World} {H : Hp} {h : Heap} {a : Addr} {u : HO} (r : Rd H a u) (x : HOk P w H h) : jG P w H h a u := by
 rcases r with r | ⟨o,r⟩
 ·exact x a u r
 ·obtain ⟨_,q⟩ := x a _ r
  exact q
def Mut : Option HO → Prop
 | some (.lst _) => True
 | some (.dK _) => True
 | some (.dT _) => True
 | some (.set _ _) => True
 | some (.ins _ _ _) => True
 | some (.ext _) => True
 | _ => False
section
variable {P : Program} {w : World} {H : Hp} {h h' : Heap} {x e : Addr} {o' : HO}
theorem HOk.write (ok : HOk P w H h) (mu : Mut (H x)) (he : e = x ∨ H e = some (.own x)) (k : ∀ b u,b ≠ e → h.get? b = some u → h'.get? b = some u) (heo : ∃ u,h'.get? e = some u)
  (new : jG P w (upd H x o') h' x o') : HOk P w (upd H x o') h' := fun b u q => by
 have nown : ∀ c y,H c = some (.own y) → c ≠ x := fun c y r z => by subst z; rw [r] at mu; exact mu
 have ntup : ∀ c xs,H c = some (.tup xs) → c ≠ x := fun c xs r z => by subst z; rw [r] at mu; exact mu
 by_cases hb : b = x
 ·subst hb; rw [yK] at q; cases q; exact new
 ·rw [zY hb] at q
  by_cases hbe : b = e
  ·have q' : H b = some (.own x) := by
    rcases he with z | z
    ·exact absurd (hbe.trans z) hb
    ·rw [hbe]; exact z
   rw [q] at q'; cases q';obtain ⟨v,hv⟩ := heo;exact ⟨v,by rw [hbe]; exact hv⟩
  ·refine (ok b u q).stay (fun c v hc r => k c v ?_ r) (fun c r => by rw [zY (nown c b r)]; exact r) fun c xs r => by rw [zY (ntup c xs r)]; exact r
   rcases hc with rfl | hc
   ·exact hbe
   ·rintro rfl
    rcases he with z | z
    ·exact nown c b hc z
    ·rw [hc] at z; cases z; exact hb rfl
end
structure Un (fs ex : List Addr) (H H' : Hp) (h h' : Heap) : Prop where
 keep : ∀ b o,h.get? b = some o → H b = none → b ∉ fs → b ∉ ex → h'.get? b = some o
 slot : ∀ b o,h.get? b = some o → H b = none → b ∈ fs → b ∉ ex → ∃ sl,h'.get? b = some { o with slots := sl }
 free : ∀ b o,h.get? b = some o → H b = none → b ∉ ex → H' b = none
 there : ∀ b o,h.get? b = some o → b ∉ ex → ∃ o',h'.get? b = some o'
 tups : ∀ b xs,H b = some (.tup xs) → H' b = some (.tup xs)
 frzs : ∀ b o u,H b = some (.frz o u) → H' b = some (.frz o u)
 tbls : ∀ b ps,H b = some (.tbl ps) → ∃ more,H' b = some (.tbl (ps ++ more))
section
variable {fs fs' ex ex' : List Addr} {H H1 H2 : Hp} {h h1 h2 h' : Heap} {a x e : Addr} {o : HO}
theorem Un.any (u : Un fs ex H H1 h h1) {b : Addr} {ob : Obj} (q : h.get? b = some ob) (n : H b = none) (hx : b ∉ ex) : ∃ sl,h1.get? b = some { ob with slots := sl } := by
 by_cases hb : b ∈ fs
 ·exact u.slot b ob q n hb hx
 ·exact ⟨ob.slots,u.keep b ob q n hb hx⟩
theorem Un.trans (a : Un fs ex H H1 h h1) (b : Un fs ex H1 H2 h1 h2) : Un fs ex H H2 h h2 where
 keep := fun c ob q n hc hx => b.keep c ob (a.keep c ob q n hc hx) (a.free c ob q n hx) hc hx
 slot := fun c ob q n hc hx => by
  obtain ⟨sl,e1⟩ := a.slot c ob q n hc hx;obtain ⟨sl',e2⟩ := b.slot c _ e1 (a.free c ob q n hx) hc hx;exact ⟨sl',e2⟩
 free := fun c ob q n hx => by
  obtain ⟨o',e1⟩ := a.there c ob q hx;exact b.free c o' e1 (a.free c ob q n hx) hx
 there := fun c ob q hx => by
  obtain ⟨o',e1⟩ := a.there c ob q hx;exact b.there c o' e1 hx
 tups := fun c xs q => b.tups c xs (a.tups c xs q)
 frzs := fun c ob xs q => b.frzs c ob xs (a.frzs c ob xs q)
 tbls := fun c ps q => by
  obtain ⟨m1,e1⟩ := a.tbls c ps q;obtain ⟨m2,e2⟩ := b.tbls c _ e1;exact ⟨m1 ++ m2,by rw [e2,Array.append_assoc]⟩
theorem Un.kept (k : ∀ b u,h.get? b = some u → h'.get? b = some u) : Un fs ex H H h h' :=
 ⟨fun b ob q _ _ _ => k b ob q,fun b ob q _ _ _ => ⟨ob.slots,k b ob q⟩,fun _ _ _ n _ => n,fun b ob q _ => ⟨ob,k b ob q⟩,fun _ _ q => q,fun _ _ _ q => q,fun _ ps q => ⟨#[],by rw [q]; simp⟩⟩
theorem Un.refl : Un fs ex H H h h := Un.kept fun _ _ q => q
theorem Un.laid (k : ∀ b u,h.get? b = some u → h'.get? b = some u) (hp : h.objs.size ≤ a) (hn : H a = none) : Un fs ex H (upd H a o) h h' where
 keep := fun b u q _ _ _ => k b u q
 slot := fun b u q _ _ _ => ⟨u.slots,k b u q⟩
 free := fun b u q n _ => by rw [zY (ne_of_lt (lt_of_lt_of_le (lt_size q) hp))]; exact n
 there := fun b u q _ => ⟨u,k b u q⟩
 tups := fun b xs q => by rw [zY (jF q hn)]; exact q
 frzs := fun b u xs q => by rw [zY (jF q hn)]; exact q
 tbls := fun b ps q => ⟨#[],by rw [zY (jF q hn),q]; simp⟩
theorem Un.write (mu : Mut (H x)) (he : e = x ∨ H e = some (.own x)) (k : ∀ b u,b ≠ e → h.get? b = some u → h'.get? b = some u) (heo : ∃ u,h'.get? e = some u) : Un fs ex H (upd H x o) h h' := by
 have hx : ∀ b,H b = none → b ≠ x := fun b n z => by subst z; rw [n] at mu; exact mu
 have hb : ∀ b,H b = none → b ≠ e := fun b n z => by
  subst z;rcases he with r | r
  ·exact hx b n r
  ·rw [n] at r; cases r
 have hm : ∀ b u,H b = some u → ¬ Mut (some u) → b ≠ x := fun b u q nm z => by subst z; rw [q] at mu; exact nm mu
 refine ⟨fun b u q n _ _ => k b u (hb b n) q,fun b u q n _ _ => ⟨u.slots,k b u (hb b n) q⟩,fun b u q n _ => by rw [zY (hx b n)]; exact n,fun b u q _ => ?_,
  fun b xs q => by rw [zY (hm b _ q fun z => z)]; exact q,fun b u xs q => by rw [zY (hm b _ q fun z => z)]; exact q,fun b ps q => ⟨#[],by rw [zY (hm b _ q fun z => z),q]; simp⟩⟩
 by_cases hbe : b = e
 ·subst hbe; exact heo
 ·exact ⟨u,k b u hbe q⟩
theorem Un.mono (u : Un fs ex H H1 h h1) (hs : ∀ b ∈ fs,b ∈ fs') (hx : ∀ b ∈ ex,b ∈ ex') : Un fs' ex' H H1 h h1 :=
 ⟨fun b ob q n hb he => u.keep b ob q n (fun z => hb (hs b z)) fun z => he (hx b z),fun _ _ q n _ he => u.any q n fun z => he (hx _ z),fun b ob q n he => u.free b ob q n fun z => he (hx b z),fun b ob q he => u.there b ob q fun z => he (hx b z),u.tups,u.frzs,u.tbls⟩
end
def trk (h : Heap) (H : Hp) : List Addr := (List.range h.objs.size).filter fun a => (H a).isSome
def zAX (h : Heap) (H : Hp) : Heap := hideAll h (trk h H)
theorem GI (h : Heap) (H : Hp) : (zAX h H).objs.size = h.objs.size := PySem.W.hideAll_size _ _
theorem zAY {h : Heap} {H : Hp} {b : Addr} {o : Obj} (e : h.get? b = some o) (n : H b = none) : (zAX h H).get? b = some o :=
 hideAll_get _ e fun hm => by
  have q : (H b).isSome = true := (mem_filter.mp hm).2;rw [n] at q; simp at q
theorem of_hidT {h : Heap} {H : Hp} {b : Addr} {o : Obj} (e : (zAX h H).get? b = some o) : h.get? b = some o ∧ H b = none := by
 have e' : h.get? b = some o := of_hideAll (trk h H) e;refine ⟨e',?_⟩;cases q : H b with
 | none => rfl
 | some x =>
  have hm : b ∈ trk h H := mem_filter.mpr ⟨mem_range.mpr (lt_size e'),by simp [q]⟩;have z : (zAX h H).get? b = none := PySem.W.hideAll_none (trk h H) hm;rw [z] at e; cases e
def allNews (g h : Heap) (L : Addr) : List (Addr × Obj) := (List.range h.objs.size).filterMap fun a => if a = L ∨ (g.get? a).isSome = true then none else (h.get? a).map fun o => (a,o)
def JI (g h : Heap) (L d : Addr) : List (Addr × Obj) := (allNews g h L).filter fun p => decide (p.1 ≠ d)
end L2
namespace L2
open PySem PySem.Spec PyProof.Rows
structure Mod (K : PySem.W.Frag) (mg : Str → Option Value) (base : Heap) : Prop where
 kin : K.In base
 glob : base.Ns mainGlobals mg
 blt : ∃ mb,base.Ns builtinsNs mb ∧ ∀ x : Str,x ≠ "__name__" → mb x = bootBuiltins x
 nolimit : base.NoLimit
structure Cx where
 prog : Program
 w : World
 K : PySem.W.Frag
 mg : Str → Option Value
 base : Heap
 A : Around
 N : List Str
 s₀ : Shared
 H₀ : Hp
 env : Env
 outer : List Env
 stack : List Env
 ex : List Addr
 fn : Str → Bool
 calm : Bool
 pn : List (Addr × Obj)
 xe : Value → Shared → Prop
def frs (l : List Env) : List Addr := l.filterMap (·.frame)
abbrev Cx.fs (X : Cx) : List Addr := frs X.outer
def Vis (sc : Scope) (x : Str) : Prop := sc.names.lookup x = some .local ∨ sc.names.lookup x = some .cell ∨ sc.names.lookup x = some .free
def Loc (sc : Scope) (x : Str) : Prop := sc.names.lookup x = some .local ∨ sc.names.lookup x = some .cell
def Look (env : Env) (h : Heap) (m : Str → Option Value) (x : Str) (u : Value) : Prop :=
 (env.kindOf x = some .local ∧ m x = some u) ∨ ((env.kindOf x = some .cell ∨ env.kindOf x = some .free) ∧ ∃ c,env.cells.lookup x = some c ∧ h.IsCell c (some u))
structure Cx.Ok (X : Cx) : Prop where
 mod : Mod X.K X.mg X.base
 kind : X.env.scope.kind = .function
 glob : X.env.globals = mainGlobals
 blt : X.env.builtins = builtinsNs
 above : X.s₀.heap.objs.size ≤ X.env.locals
 inj : ∀ x y c,X.env.cells.lookup x = some c → X.env.cells.lookup y = some c → x = y
 has : ∀ x,(X.env.kindOf x = some .cell ∨ X.env.kindOf x = some .free) → ∃ c,X.env.cells.lookup x = some c
 cab : ∀ x c,X.fn x = true → X.env.cells.lookup x = some c → X.s₀.heap.objs.size ≤ c
 hd : X.calm = true → X.A.handled = none
 frames : X.A.frames = some X.stack
 stk : X.stack = X.outer ∨ (X.stack = X.env :: X.outer ∧ X.env.frame = some X.env.locals)
 exf : ∀ b ∈ X.ex,b ≠ X.env.locals ∧ ∀ x c,X.env.cells.lookup x = some c → c ≠ b
 bs : ∀ b o,X.base.get? b = some o → X.s₀.heap.get? b = some o ∧ X.H₀ b = none
 bsz : X.base.objs.size ≤ X.s₀.heap.objs.size
 noex : ∀ b o,X.base.get? b = some o → b ∉ X.ex
 exfs : ∀ b ∈ X.ex,b ∉ X.fs
 funs : X.s₀.heap.FunFrames X.base X.outer
 frf : ∀ b ∈ X.fs,X.H₀ b = none
structure Inv (X : Cx) (pins : List (Addr × Obj)) (σ : List (Option V)) (H : Hp) (s : Shared) : Prop where
 ok : X.Ok
 os : s.os = X.s₀.os
 bare : AllBare s.gens
 base : Un X.fs X.ex X.H₀ H X.s₀.heap s.heap
 loc : ∃ m,s.heap.Ns X.env.locals m ∧ ∀ (i : Nat) (x : Str) (v : V),X.N[i]? = some x → σ[i]? = some (some v) → Vis X.env.scope x → ∃ u,zw v u ∧ Look X.env s.heap m x u
 cell : ∀ x c,X.env.cells.lookup x = some c → ∃ v,s.heap.IsCell c v
 free : H X.env.locals = none
 freeC : ∀ x c,X.env.cells.lookup x = some c → H c = none
 pin : ∀ p ∈ X.pn ++ pins,s.heap.get? p.1 = some p.2 ∧ H p.1 = none ∧ p.1 ≠ X.env.locals ∧ p.1 ∉ X.fs ∧ ∀ v,p.2.data ≠ .cell v
 hok : HOk X.prog X.w H s.heap
 len : σ.length = X.N.length
section
variable {X : Cx} {pins : List (Addr × Obj)} {σ : List (Option V)} {H H' : Hp} {s : Shared} {h' : Heap}
theorem Cx.Ok.nofr (ok : X.Ok) {b : Addr} {o : Obj} (e : X.base.get? b = some o) : b ∉ X.fs := fun hb => by
 have := (ok.funs.mem hb).1;rw [e] at this; cases this
theorem Inv.bs (I : Inv X pins σ H s) : ∀ b o,X.base.get? b = some o → s.heap.get? b = some o ∧ H b = none := fun b o e =>
 ⟨I.base.keep b o (I.ok.bs b o e).1 (I.ok.bs b o e).2 (I.ok.nofr e) (I.ok.noex b o e),I.base.free b o (I.ok.bs b o e).1 (I.ok.bs b o e).2 (I.ok.noex b o e)⟩
theorem Inv.bk (I : Inv X pins σ H s) : ∀ b o,X.base.get? b = some o → s.heap.get? b = some o := fun b o e => (I.bs b o e).1
theorem Inv.mod (I : Inv X pins σ H s) : Mod X.K X.mg X.base := I.ok.mod
theorem Inv.kIn (I : Inv X pins σ H s) : X.K.In s.heap := I.ok.mod.kin.keeps I.bk
theorem Inv.nolimit (I : Inv X pins σ H s) : s.heap.NoLimit := I.ok.mod.nolimit.keeps I.bk
theorem Inv.fr (I : Inv X pins σ H s) : ∃ m,Fr X.base X.env.locals s.heap m :=
 let ⟨m,hn,_⟩ := I.loc
 ⟨m,hn,I.bk,le_trans I.ok.bsz I.ok.above⟩
theorem Inv.lt (I : Inv X pins σ H s) : X.env.locals < s.heap.objs.size := let ⟨_,hn,_⟩ := I.loc; hn.lt
theorem Inv.sz (I : Inv X pins σ H s) : X.s₀.heap.objs.size ≤ s.heap.objs.size := le_trans I.ok.above (Nat.le_of_lt I.lt)
theorem Inv.nofs (I : Inv X pins σ H s) {a : Addr} (h : s.heap.objs.size ≤ a) : a ∉ X.fs := fun hb => by
 obtain ⟨_,o,ho,_⟩ := I.ok.funs.mem hb;exact absurd (lt_of_lt_of_le (lt_size ho) (le_trans I.sz h)) (lt_irrefl _)
theorem Inv.cne (I : Inv X pins σ H s) : ∀ x c,X.env.cells.lookup x = some c → c ≠ X.env.locals := fun x c e z => by
 obtain ⟨v,o,ho,hd⟩ := I.cell x c e;obtain ⟨m,⟨o',es,ep,ho',hd',_⟩,_⟩ := I.loc;rw [z,ho'] at ho; cases ho; rw [hd'] at hd; cases hd
theorem Inv.funs (I : Inv X pins σ H s) : s.heap.FunFrames X.base X.outer := by
 have all : ∀ (l : List Env),(∀ b ∈ frs l,b ∈ X.fs) → X.s₀.heap.FunFrames X.base l → s.heap.FunFrames X.base l := by
  intro l
  induction l with
  | nil => intro _ _; trivial
  | cons env r ih =>
   intro hs hl;obtain ⟨hk,⟨L,o,hf,hn,ho,hd⟩,hr⟩ := hl;have hL : L ∈ X.fs := hs L (by unfold frs; rw [filterMap_cons,hf]; exact mem_cons_self);obtain ⟨sl,e⟩ := I.base.slot L o ho (I.ok.frf L hL) hL fun z => I.ok.exfs L z hL
   exact ⟨hk,⟨L,_,hf,hn,e,hd⟩,ih (fun b hb => hs b (by unfold frs; rw [filterMap_cons,hf]; exact mem_cons_of_mem _ hb)) hr⟩
 exact all X.outer (fun _ hb => hb) I.ok.funs
theorem Inv.stack (I : Inv X pins σ H s) : s.heap.FunFrames X.base X.stack := by
 rcases I.ok.stk with e | ⟨e,hf⟩
 ·rw [e]; exact I.funs
 ·rw [e]
  obtain ⟨m,hn,_⟩ := I.loc;refine .cons (by rw [I.ok.kind]; decide) hf hn ?_ I.funs;exact Heap.get?_none_of_le (le_trans I.ok.bsz I.ok.above)
theorem Inv.stkSub (I : Inv X pins σ H s) : ∀ b ∈ frs X.stack,b ∈ X.env.locals :: X.fs := fun b hb => by
 rcases I.ok.stk with e | ⟨e,hf⟩
 ·rw [e] at hb; exact mem_cons_of_mem _ hb
 ·rw [e] at hb
  unfold frs at hb;rw [filterMap_cons,hf] at hb;exact hb
theorem Inv.stkFree (I : Inv X pins σ H s) : ∀ b ∈ frs X.stack,H b = none := fun b hb => by
 rcases mem_cons.mp (I.stkSub b hb) with e | hb
 ·rw [e]; exact I.free
 ·obtain ⟨_,o,ho,_⟩ := I.ok.funs.mem hb
  exact I.base.free b o ho (I.ok.frf b hb) fun z => I.ok.exfs b z hb
theorem Inv.step {g' : Array GenState} {t' : Nat} {d' : Drawn} {ch : List Addr} (I : Inv X pins σ H s)
  (hch : ∀ b ∈ ch,(b ∈ X.ex ∨ X.s₀.heap.objs.size ≤ b) ∧ b ≠ X.env.locals ∧ (∀ x c,X.env.cells.lookup x = some c → c ≠ b) ∧ ∀ p ∈ X.pn ++ pins,p.1 ≠ b)
  (keep : ∀ b o,b ≠ X.env.locals → b ∉ X.fs → b ∉ ch → s.heap.get? b = some o → H b = none → h'.get? b = some o)
  (slot : ∀ b o,b ≠ X.env.locals → b ∈ X.fs → b ∉ ch → s.heap.get? b = some o → H b = none → ∃ sl,h'.get? b = some { o with slots := sl }) (free : ∀ b o,b ∉ ch → s.heap.get? b = some o → H b = none → H' b = none)
  (there : ∀ b o,b ∉ ch → s.heap.get? b = some o → ∃ o',h'.get? b = some o')
  (tups : ∀ b xs,H b = some (.tup xs) → H' b = some (.tup xs)) (frzs : ∀ b o u,H b = some (.frz o u) → H' b = some (.frz o u)) (tbls : ∀ b ps,H b = some (.tbl ps) → ∃ more,H' b = some (.tbl (ps ++ more)))
  (ns : ∀ m,s.heap.Ns X.env.locals m → h'.Ns X.env.locals m) (hok : HOk X.prog X.w H' h') (hg : AllBare g') :
  Inv X pins σ H' { s with heap := h',gens := g',drawn := d',toks := t' } := by
 have neL : ∀ b o,X.s₀.heap.get? b = some o → b ≠ X.env.locals := fun b o e => ne_of_lt (lt_of_lt_of_le (lt_size e) I.ok.above)
 have neC : ∀ b o,X.s₀.heap.get? b = some o → b ∉ X.ex → b ∉ ch := fun b o e hx hb => by
  rcases (hch b hb).1 with z | z
  ·exact hx z
  ·exact absurd (lt_of_lt_of_le (lt_size e) z) (lt_irrefl _)
 have cellK : ∀ x c,X.env.cells.lookup x = some c → ∀ v,s.heap.IsCell c v → h'.IsCell c v := fun x c e v ⟨o,ho,hd⟩ => by
  have nch : c ∉ ch := fun z => (hch c z).2.2.1 x c e rfl
  by_cases hc : c ∈ X.fs
  ·obtain ⟨sl,q⟩ := slot c o (I.cne x c e) hc nch ho (I.freeC x c e)
   exact ⟨_,q,hd⟩
  ·exact ⟨o,keep c o (I.cne x c e) hc nch ho (I.freeC x c e),hd⟩
 refine ⟨I.ok,I.os,hg,⟨fun b o e n hb hx => ?_,fun b o e n hb hx => ?_,fun b o e n hx => ?_,fun b o e hx => ?_,fun b xs e => tups b xs (I.base.tups b xs e),fun b o xs e => frzs b o xs (I.base.frzs b o xs e),fun b ps e => ?_⟩,?_,fun x c e => ?_,?_,fun x c e => ?_,fun p hp => ?_,hok,I.len⟩
 ·exact keep b o (neL b o e) hb (neC b o e hx) (I.base.keep b o e n hb hx) (I.base.free b o e n hx)
 ·obtain ⟨sl,e1⟩ := I.base.slot b o e n hb hx
  obtain ⟨sl',e2⟩ := slot b _ (neL b o e) hb (neC b o e hx) e1 (I.base.free b o e n hx);exact ⟨sl',e2⟩
 ·obtain ⟨o',e1⟩ := I.base.there b o e hx
  exact free b o' (neC b o e hx) e1 (I.base.free b o e n hx)
 ·obtain ⟨o',e1⟩ := I.base.there b o e hx
  exact there b o' (neC b o e hx) e1
 ·obtain ⟨m1,e1⟩ := I.base.tbls b ps e
  obtain ⟨m2,e2⟩ := tbls b _ e1;exact ⟨m1 ++ m2,by rw [e2,Array.append_assoc]⟩
 ·obtain ⟨m,hn,hl⟩ := I.loc
  refine ⟨m,ns m hn,fun i x v e1 e2 e3 => ?_⟩;obtain ⟨u,r,l⟩ := hl i x v e1 e2 e3;refine ⟨u,r,?_⟩;rcases l with l | ⟨k,c,e,z⟩
  ·exact .inl l
  ·exact .inr ⟨k,c,e,cellK x c e _ z⟩
 ·obtain ⟨v,z⟩ := I.cell x c e
  exact ⟨v,cellK x c e v z⟩
 ·obtain ⟨m,⟨o,_,_,ho,_⟩,_⟩ := I.loc
  exact free _ o (fun z => (hch _ z).2.1 rfl) ho I.free
 ·obtain ⟨v,o,ho,hd⟩ := I.cell x c e
  exact free c o (fun z => (hch c z).2.2.1 x c e rfl) ho (I.freeC x c e)
 ·obtain ⟨e,n,ne,nf,d⟩ := I.pin p hp
  have nch : p.1 ∉ ch := fun z => (hch p.1 z).2.2.2 p hp rfl
  exact ⟨keep p.1 p.2 ne nf nch e n,free p.1 p.2 nch e n,ne,nf,d⟩
theorem Inv.un {t' : Nat} (I : Inv X pins σ H s) (u : Un X.fs [] H H' s.heap h') (hok : HOk X.prog X.w H' h') : Inv X pins σ H' { s with heap := h',toks := t' } := by
 obtain ⟨m,⟨o,es,ep,ho,r⟩,_⟩ := id I.loc;obtain ⟨sl,hL⟩ := u.any ho I.free (by simp);exact I.step (g' := s.gens) (d' := s.drawn) (ch := []) (fun _ z => nomatch z) (fun b o _ hb _ e n => u.keep b o e n hb (by simp)) (fun b o _ hb _ e n => u.slot b o e n hb (by simp)) (fun b o _ e n => u.free b o e n (by simp)) (fun b o _ e => u.there b o e (by simp)) u.tups u.frzs u.tbls (fun m' hm => by
  obtain ⟨o',es',ep',ho',r'⟩ := hm;rw [ho] at ho'; cases ho';exact ⟨_,es',ep',hL,r'⟩) hok I.bare
theorem Inv.call {g' : Array GenState} {t' : Nat} {d' : Drawn} {ch : List Addr} (I : Inv X pins σ H s) (u : Un (frs X.stack) ch H H' s.heap h') (hok : HOk X.prog X.w H' h') (hg : AllBare g')
  (hch : ∀ b ∈ ch,(b ∈ X.ex ∨ X.s₀.heap.objs.size ≤ b) ∧ b ≠ X.env.locals ∧ (∀ x c,X.env.cells.lookup x = some c → c ≠ b) ∧ ∀ p ∈ X.pn ++ pins,p.1 ≠ b) :
  Inv X pins σ H' { s with heap := h',gens := g',drawn := d',toks := t' } := by
 obtain ⟨m,⟨o,es,ep,ho,r⟩,_⟩ := id I.loc;obtain ⟨sl,hL⟩ := u.any ho I.free fun z => (hch _ z).2.1 rfl
 exact I.step (ch := ch) hch (fun b o hL hb hc e n => u.keep b o e n (fun z => (mem_cons.mp (I.stkSub b z)).elim hL hb) hc) (fun b o _ _ hc e n => u.any e n hc) (fun b o hc e n => u.free b o e n hc) (fun b o hc e => u.there b o e hc) u.tups u.frzs u.tbls (fun m' hm => by
  obtain ⟨o',es',ep',ho',r'⟩ := hm;rw [ho] at ho'; cases ho';exact ⟨_,es',ep',hL,r'⟩) hok hg
theorem Inv.turned {t' : Nat} {it : Addr} (I : Inv X pins σ H s) (k : ∀ b o,b ≠ it → s.heap.get? b = some o → h'.get? b = some o) (hn : H it = none) (hL : it ≠ X.env.locals)
  (h1 : it ∈ X.ex ∨ X.s₀.heap.objs.size ≤ it) (h2 : ∀ x c,X.env.cells.lookup x = some c → c ≠ it) (h3 : ∀ p ∈ X.pn ++ pins,p.1 ≠ it) : Inv X pins σ H { s with heap := h',toks := t' } := by
 have nit : ∀ b u,H b = some u → b ≠ it := fun b u e z => by rw [z,hn] at e; cases e
 refine I.step (g' := s.gens) (d' := s.drawn) (ch := [it]) (fun b hb => ?_) (fun b o _ _ hc e _ => k b o (fun z => hc (by simp [z])) e) (fun b o _ _ hc e _ => ⟨o.slots,k b o (fun z => hc (by simp [z])) e⟩) (fun _ _ _ _ n => n)
  (fun b o hc e => ⟨o,k b o (fun z => hc (by simp [z])) e⟩) (fun _ _ e => e) (fun _ _ _ e => e) (fun b ps e => ⟨#[],by rw [e]; simp⟩) (fun m hm => ?_) (fun b u e => ?_) I.bare
 ·have e : b = it := by simpa using hb
  subst e;exact ⟨h1,hL,h2,h3⟩
 ·obtain ⟨o,es,ep,ho,r⟩ := hm
  exact ⟨o,es,ep,k _ o (Ne.symm hL) ho,r⟩
 ·refine (I.hok b u e).stay (fun c v hc q => k c v ?_ q) (fun _ q => q) fun _ _ q => q
  rcases hc with z | z
  ·rw [z]; exact nit b u e
  ·exact nit c _ z
theorem Inv.tok (I : Inv X pins σ H s) (t : Nat) : Inv X pins σ H { s with toks := t } := I.un (h' := s.heap) (t' := t) Un.refl I.hok
theorem Inv.kept {t' : Nat} (I : Inv X pins σ H s) (k : ∀ b u,s.heap.get? b = some u → h'.get? b = some u) : Inv X pins σ H { s with heap := h',toks := t' } := I.un (Un.kept k) (I.hok.kept k)
theorem Inv.laid {a : Addr} {o : HO} {t' : Nat} (I : Inv X pins σ H s) (k : ∀ b u,s.heap.get? b = some u → h'.get? b = some u) (hp : s.heap.objs.size ≤ a) (new : jG X.prog X.w (upd H a o) h' a o) :
  Inv X pins σ (upd H a o) { s with heap := h',toks := t' } := I.un (Un.laid k hp (I.hok.fresh hp)) (I.hok.laid k hp new)
theorem Inv.write {x e : Addr} {o : HO} {t' : Nat} (I : Inv X pins σ H s) (mu : Mut (H x)) (he : e = x ∨ H e = some (.own x)) (k : ∀ b u,b ≠ e → s.heap.get? b = some u → h'.get? b = some u) (heo : ∃ u,h'.get? e = some u)
  (new : jG X.prog X.w (upd H x o) h' x o) : Inv X pins σ (upd H x o) { s with heap := h',toks := t' } := I.un (Un.write mu he k heo) (I.hok.write mu he k heo new)
theorem Inv.weak {σ' : List (Option V)} (I : Inv X pins σ H s) (hl : σ'.length = σ.length) (w : ∀ (i : Nat) v,σ'[i]? = some (some v) → σ[i]? = some (some v)) : Inv X pins σ' H s :=
 ⟨I.ok,I.os,I.bare,I.base,let ⟨m,hn,hl'⟩ := I.loc; ⟨m,hn,fun i x v e1 e2 e3 => hl' i x v e1 (w i v e2) e3⟩,I.cell,I.free,I.freeC,I.pin,I.hok,hl.trans I.len⟩
theorem Inv.pins_of {pins' : List (Addr × Obj)} (I : Inv X pins σ H s) (h : ∀ p ∈ pins',s.heap.get? p.1 = some p.2 ∧ H p.1 = none ∧ p.1 ≠ X.env.locals ∧ p.1 ∉ X.fs ∧ ∀ v,p.2.data ≠ .cell v) : Inv X pins' σ H s :=
 ⟨I.ok,I.os,I.bare,I.base,I.loc,I.cell,I.free,I.freeC,fun p hp => (mem_append.mp hp).elim (fun z => I.pin p (mem_append_left _ z)) (h p),I.hok,I.len⟩
theorem ZH {N : List Str} (hN : N.Nodup) {i j : Nat} {x : Str} (a : N[i]? = some x) (b : N[j]? = some x) : i = j := by
 obtain ⟨h1,e1⟩ := List.getElem?_eq_some_iff.mp a;obtain ⟨h2,e2⟩ := List.getElem?_eq_some_iff.mp b;exact (List.getElem_inj hN).mp (e1.trans e2.symm)
theorem Z7 {M : Model} {A : Around} {E : Value → Shared → Prop} {i : Nat} {x : Str} {v : V} {u : Value} {Q : Unit → Shared → Prop} (I : Inv X pins σ H s) (hN : X.N.Nodup) (hi : X.N[i]? = some x) (hx : Loc X.env.scope x) (r : zw v u)
  (h : ∀ s',Inv X pins (σ.set i (some v)) H s' → (∃ a,Heap.SameBut a s.heap s'.heap ∧ (a = X.env.locals ∨ X.env.cells.lookup x = some a)) → Q () s') (hf : X.fn x = true ∨ X.env.scope.names.lookup x = some .local := by first | exact .inl rfl | exact .inr rfl | assumption) : wpAny M A (storeName X.env x u) Q E s := by
 obtain ⟨m,hn,hl⟩ := id I.loc;have hcls : (X.env.scope.kind == .class || (X.env.scope.kind == .module && X.env.locals != X.env.globals)) = false := by rw [I.ok.kind]; rfl
 have hiσ : i < σ.length := by rw [I.len]; exact (List.getElem?_eq_some_iff.mp hi).1
 have cne := I.cne;have tracked : ∀ {a : Addr} {h' : Heap},(∃ o,s.heap.get? a = some o ∧ H a = none) → Heap.SameBut a s.heap h' → HOk X.prog X.w H h' := fun {a h'} ha hs b ob e => by
  obtain ⟨_,_,hfree⟩ := ha;refine (I.hok b ob e).stay (fun c w' hc q => (hs.2 c ?_).trans q) (fun _ q => q) fun _ _ q => q
  rintro rfl
  rcases hc with rfl | hc
  ·rw [hfree] at e; cases e
  ·rw [hfree] at hc; cases hc
 rcases hx with hk | hk
 ·refine wpAny_storeName_local hk hn (fun h' hn' hs => ?_) hcls
  obtain ⟨oL,_,_,hoL,_⟩ := id hn;refine h _ ⟨I.ok,I.os,I.bare,⟨fun b o e n hb hx => ?_,fun b o e n hb hx => ?_,I.base.free,fun b o e hx => ?_,I.base.tups,I.base.frzs,I.base.tbls⟩,⟨_,hn',fun j y v' e1 e2 e3 => ?_⟩,fun y c e => ?_,I.free,I.freeC,fun p hp => ?_,tracked ⟨oL,hoL,I.free⟩ hs,by simpa using I.len⟩ ⟨_,hs,.inl rfl⟩
  ·exact (hs.2 b (ne_of_lt (lt_of_lt_of_le (lt_size e) I.ok.above))).trans (I.base.keep b o e n hb hx)
  ·obtain ⟨sl,e1⟩ := I.base.slot b o e n hb hx
   exact ⟨sl,(hs.2 b (ne_of_lt (lt_of_lt_of_le (lt_size e) I.ok.above))).trans e1⟩
  ·obtain ⟨o',e1⟩ := I.base.there b o e hx
   exact ⟨o',(hs.2 b (ne_of_lt (lt_of_lt_of_le (lt_size e) I.ok.above))).trans e1⟩
  ·by_cases hj : j = i
   ·subst hj
    rw [hi] at e1; cases e1;rw [getElem?_set_self hiσ] at e2;cases e2;exact ⟨u,r,.inl ⟨hk,by simp⟩⟩
   ·rw [getElem?_set_ne (Ne.symm hj)] at e2
    obtain ⟨u',r',q⟩ := hl j y v' e1 e2 e3;refine ⟨u',r',?_⟩;rcases q with ⟨k,e⟩ | ⟨k,c,e,z⟩
    ·refine .inl ⟨k,?_⟩
     have : y ≠ x := fun e => hj (ZH hN e1 (e ▸ hi))
     simp [this,e]
    ·exact .inr ⟨k,c,e,z.sameBut hs (cne y c e)⟩
  ·obtain ⟨w',z⟩ := I.cell y c e
   exact ⟨w',z.sameBut hs (cne y c e)⟩
  ·obtain ⟨e,n,ne,nf,d⟩ := I.pin p hp
   exact ⟨(hs.2 p.1 ne).trans e,n,ne,nf,d⟩
 ·have hfn : X.fn x = true := by
   rcases hf with z | z
   ·exact z
   ·rw [z] at hk; cases hk
  obtain ⟨c,hc⟩ := I.ok.has x (.inl hk);obtain ⟨w',z⟩ := I.cell x c hc;refine wpAny_storeName_cell I.ok.kind hk hc z (fun h' hc' hs => ?_);obtain ⟨oc,hoc,hocd⟩ := id z;refine h { s with heap := h' } ⟨I.ok,I.os,I.bare,⟨fun b o e n hb hx => ?_,fun b o e n hb hx => ?_,I.base.free,fun b o e hx => ?_,I.base.tups,I.base.frzs,I.base.tbls⟩,⟨m,hn.sameBut hs (Ne.symm (cne x c hc)),fun j y v' e1 e2 e3 => ?_⟩,fun y c' e => ?_,I.free,I.freeC,fun p hp => ?_,tracked ⟨oc,hoc,I.freeC x c hc⟩ hs,by simpa using I.len⟩ ⟨c,hs,.inr hc⟩
  ·exact (hs.2 b (ne_of_lt (lt_of_lt_of_le (lt_size e) (I.ok.cab x c hfn hc)))).trans (I.base.keep b o e n hb hx)
  ·obtain ⟨sl,e1⟩ := I.base.slot b o e n hb hx
   exact ⟨sl,(hs.2 b (ne_of_lt (lt_of_lt_of_le (lt_size e) (I.ok.cab x c hfn hc)))).trans e1⟩
  ·obtain ⟨o',e1⟩ := I.base.there b o e hx
   exact ⟨o',(hs.2 b (ne_of_lt (lt_of_lt_of_le (lt_size e) (I.ok.cab x c hfn hc)))).trans e1⟩
  ·by_cases hj : j = i
   ·subst hj
    rw [hi] at e1; cases e1;rw [getElem?_set_self hiσ] at e2;cases e2;exact ⟨u,r,.inr ⟨.inl hk,c,hc,hc'⟩⟩
   ·rw [getElem?_set_ne (Ne.symm hj)] at e2
    obtain ⟨u',r',q⟩ := hl j y v' e1 e2 e3;refine ⟨u',r',?_⟩;rcases q with q | ⟨k,c',e,z'⟩
    ·exact .inl q
    ·refine .inr ⟨k,c',e,z'.sameBut hs ?_⟩
     rintro rfl
     exact hj (ZH hN e1 (I.ok.inj _ _ _ e hc ▸ hi))
  ·by_cases hcc : c' = c
   ·subst hcc; exact ⟨_,hc'⟩
   ·obtain ⟨w2,z2⟩ := I.cell y c' e
    exact ⟨w2,z2.sameBut hs hcc⟩
  ·obtain ⟨e,n,ne,nf,d⟩ := I.pin p hp
   refine ⟨(hs.2 p.1 ?_).trans e,n,ne,nf,d⟩;intro q;rw [q,hoc] at e;have q' : oc = p.2 := Option.some.inj e;exact d w' (by rw [← q']; exact hocd)
theorem jz {M : Model} {A : Around} {E : Value → Shared → Prop} {i : Nat} {x : Str} {v : V} {u : Value} {Q : Unit → Shared → Prop} (I : Inv X pins σ H s) (hN : X.N.Nodup) (hi : X.N[i]? = some x) (hx : Loc X.env.scope x) (r : zw v u)
  (h : ∀ s',Inv X pins (σ.set i (some v)) H s' → Q () s') (hf : X.fn x = true ∨ X.env.scope.names.lookup x = some .local := by first | exact .inl rfl | exact .inr rfl | assumption) : wpAny M A (storeName X.env x u) Q E s :=
 Z7 I hN hi hx r (fun s' I' _ => h s' I') hf
theorem Inv.call' {s' : Shared} {ch : List Addr} (I : Inv X pins σ H s) (ho : s'.os = s.os) (u : Un (frs X.stack) ch H H' s.heap s'.heap) (hok : HOk X.prog X.w H' s'.heap) (hg : AllBare s'.gens)
  (hch : ∀ b ∈ ch,(b ∈ X.ex ∨ X.s₀.heap.objs.size ≤ b) ∧ b ≠ X.env.locals ∧ (∀ x c,X.env.cells.lookup x = some c → c ≠ b) ∧ ∀ p ∈ X.pn ++ pins,p.1 ≠ b) : Inv X pins σ H' s' := by
 obtain ⟨h',g',d',t',o'⟩ := s';have e : o' = s.os := ho;subst e;exact I.call (g' := g') (t' := t') (d' := d') u hok hg hch
end
abbrev XK := Value → Option Addr → Hp → Prop
abbrev St := List (Option V)
abbrev VK := V → Hp → Prop
abbrev TE := St → Hp → VK → Prop
abbrev TT := St → Hp → (Bool → Hp → Prop) → Prop
abbrev TA := St → Hp → (List V → Hp → Prop) → Prop
structure Ends where
 nx : St → Hp → Prop
 rt : VK
 bk : St → Hp → Prop := fun _ _ => False
 ct : St → Hp → Prop := fun _ _ => False
abbrev TS := Ends → St → Hp → Prop
def EP (X : Cx) (pins : List (Addr × Obj)) (σ : St) (Q : VK) (u : Value) (s' : Shared) : Prop := ∃ v H',Inv X pins σ H' s' ∧ zw v u ∧ Q v H'
def TP (X : Cx) (pins : List (Addr × Obj)) (σ : St) (Q : Bool → Hp → Prop) (b : Bool) (s' : Shared) : Prop := ∃ H',Inv X pins σ H' s' ∧ Q b H'
def AP (X : Cx) (pins : List (Addr × Obj)) (σ : St) (Q : List V → Hp → Prop) (us : List Value) (s' : Shared) : Prop := ∃ vs H',Inv X pins σ H' s' ∧ zb vs us ∧ Q vs H'
def SP (X : Cx) (pins : List (Addr × Obj)) (D : Ends) (f : Flow) (s' : Shared) : Prop :=
 match f with
 | .next => ∃ σ' H',Inv X pins σ' H' s' ∧ D.nx σ' H'
 | .brk => ∃ σ' H',Inv X pins σ' H' s' ∧ D.bk σ' H'
 | .cont => ∃ σ' H',Inv X pins σ' H' s' ∧ D.ct σ' H'
 | .ret u => ∃ v σ' H',Inv X pins σ' H' s' ∧ zw v u ∧ D.rt v H'
def PE (X : Cx) (e : Expr) (t : TE) : Prop :=
 ∀ (pins : List (Addr × Obj)) (s : Shared) (σ : St) (H : Hp) (Q : VK),Inv X pins σ H s → t σ H Q → wpAny (model X.prog X.w) X.A (eval e X.env) (EP X pins σ Q) X.xe s
def PT (X : Cx) (e : Expr) (t : TT) : Prop :=
 ∀ (pins : List (Addr × Obj)) (s : Shared) (σ : St) (H : Hp) (Q : Bool → Hp → Prop),Inv X pins σ H s → t σ H Q → wpAny (model X.prog X.w) X.A (isTrue e X.env (eval e X.env)) (TP X pins σ Q) X.xe s
def PW (X : Cx) (e : Expr) (t : TT) : Prop :=
 ∀ (whole : Sem Value) (pins : List (Addr × Obj)) (s : Shared) (σ : St) (H : Hp) (Q : Bool → Hp → Prop),Inv X pins σ H s → t σ H Q → wpAny (model X.prog X.w) X.A (isTrue e X.env whole) (TP X pins σ Q) X.xe s
theorem PW.pt {X : Cx} {e : Expr} {t : TT} (h : PW X e t) : PT X e t := h _
def PA (X : Cx) (es : List Expr) (t : TA) : Prop :=
 ∀ (pos : Pos) (pins : List (Addr × Obj)) (s : Shared) (σ : St) (H : Hp) (Q : List V → Hp → Prop),Inv X pins σ H s → t σ H Q → wpAny (model X.prog X.w) X.A (spliced (backTo pos (starEach es X.env))) (AP X pins σ Q) X.xe s
def PS (X : Cx) (st : Stmt) (t : TS) : Prop :=
 ∀ (pins : List (Addr × Obj)) (s : Shared) (σ : St) (H : Hp) (D : Ends),Inv X pins σ H s → t D σ H → wpAny (model X.prog X.w) X.A (exec st X.env) (SP X pins D) X.xe s
def PSs (X : Cx) (st : List Stmt) (t : TS) : Prop :=
 ∀ (pins : List (Addr × Obj)) (s : Shared) (σ : St) (H : Hp) (D : Ends),Inv X pins σ H s → t D σ H → wpAny (model X.prog X.w) X.A (execs st X.env) (SP X pins D) X.xe s
theorem thn {α : Type} {t : Sem α} {Q Q' : α → Shared → Prop} {M : Model} {A : Around} {E : Value → Shared → Prop} {s : Shared} (h : wpAny M A t Q E s) (hQ : ∀ a s,Q a s → Q' a s) : wpAny M A t Q' E s := wpAny_mono h hQ fun _ _ x => x
end L2
namespace L2
open PySem PySem.Spec PyProof.Rows
section
variable {X : Cx}
theorem bin {a b : Expr} {ta tb : TE} (ha : PE X a ta) (hb : PE X b tb) {pins : List (Addr × Obj)} {s : Shared} {σ : St} {H : Hp} {R : V → V → Hp → Prop} (I : Inv X pins σ H s) (h : ta σ H fun x H1 => tb σ H1 fun y H2 => R x y H2)
  {α : Type} {Q : α → Shared → Prop} {f : Value → Value → Sem α}
  (hf : ∀ v u s2 x y H2,Inv X pins σ H2 s2 → zw x v → zw y u → R x y H2 → wpAny (model X.prog X.w) X.A (f v u) Q X.xe s2) :
  wpAny (model X.prog X.w) X.A (eval a X.env) (fun v s₁ => wpAny (model X.prog X.w) X.A (eval b X.env) (fun u s₂ => wpAny (model X.prog X.w) X.A (f v u) Q X.xe s₂) X.xe s₁) X.xe s := by
 refine thn (ha pins s σ H _ I h) fun v s1 ⟨x,H1,I1,r1,q1⟩ => ?_
 refine thn (hb pins s1 σ H1 _ I1 q1) fun u s2 ⟨y,H2,I2,r2,q2⟩ => ?_
 exact hf v u s2 x y H2 I2 r1 r2 q2
def GJ (i : Nat) : TE := fun σ H Q => ∃ v,σ[i]? = some (some v) ∧ Q v H
def tC (v : V) : TE := fun _ H Q => Q v H
theorem pe_var {i : Nat} {x : Str} {pos : Pos} (hN : X.N[i]? = some x) (hv : Vis X.env.scope x) (hd : (x == ("__debug__" : Str)) = false := by decide) (hcd : (x == ("__classdict__" : Str)) = false := by decide) : PE X (.Name x pos) (GJ i) := by
 intro pins s σ H Q I h;obtain ⟨v,e,h⟩ := h;obtain ⟨m,hn,hl⟩ := I.loc;obtain ⟨u,r,l⟩ := hl i x v hN e hv;have fin : EP X pins σ Q u s := ⟨v,H,I,r,h⟩;rcases l with ⟨hk,hm⟩ | ⟨hk,c,hc,hcell⟩
 ·exact wpAny_Name (wpAny_loadName_local I.ok.kind hk hn hm fin) hd
 ·rcases hk with hk | hk
  ·exact wpAny_Name (wpAny_loadName_cell I.ok.kind hk hc hcell fin) hd
  ·exact wpAny_Name (wpAny_loadName_free I.ok.kind hk hc hcell fin hcd) hd
theorem GK {i j pos} : PE X (.Constant (.int i) j pos) (tC (.int i)) := fun _ _ _ H _ I h => wpAny_Constant_int ⟨.int i,H,I.tok _,⟨_,rfl⟩,h⟩
theorem pe_bl {b j pos} : PE X (.Constant (.bool b) j pos) (tC (.bl b)) := fun _ _ _ H _ I h => Constant_bool ⟨.bl b,H,I,rfl,h⟩
theorem pe_non {j pos} : PE X (.Constant .none j pos) (tC .non) := fun _ _ _ H _ I h => Constant_none ⟨.non,H,I,rfl,h⟩
theorem pe_str {x j pos} : PE X (.Constant (.str x) j pos) (tC (.str x)) := fun _ _ _ H _ I h => Calls.Constant_str ⟨.str x,H,I.tok _,⟨_,rfl⟩,h⟩
def Gl (X : Cx) (x : Str) : Prop := X.env.kindOf x = some .globalImplicit
theorem ZI {E : Value → Shared → Prop} {pins : List (Addr × Obj)} {s : Shared} {σ : St} {H : Hp} {x : Str} {u : Value} {pos : Pos} {Q : Value → Shared → Prop} (I : Inv X pins σ H s) (hg : Gl X x) (hm : X.mg x = some u) (h : Q u s)
  (hd : (x == ("__debug__" : Str)) = false := by decide) : wpAny (model X.prog X.w) X.A (eval (.Name x pos) X.env) Q E s :=
 Calls.Name_function_global I.ok.kind hg (Calls.loadGlobal_global (by rw [I.ok.glob]; exact I.mod.glob.keeps I.bk) hm h) hd
theorem Z8 {E : Value → Shared → Prop} {pins : List (Addr × Obj)} {s : Shared} {σ : St} {H : Hp} {x : Str} {u : Value} {pos : Pos} {Q : Value → Shared → Prop} (I : Inv X pins σ H s) (hg : Gl X x) (hm : X.mg x = none) (hv : bootBuiltins x = some u) (h : Q u s)
  (hn : x ≠ "__name__" := by decide) (hd : (x == ("__debug__" : Str)) = false := by decide) : wpAny (model X.prog X.w) X.A (eval (.Name x pos) X.env) Q E s := by
 obtain ⟨mb,h1,h2⟩ := I.mod.blt;exact Calls.Name_function_global I.ok.kind hg (Calls.loadGlobal_builtin (by rw [I.ok.glob]; exact I.mod.glob.keeps I.bk) hm (by rw [I.ok.blt]; exact h1.keeps I.bk) ((h2 x hn).trans hv) h) hd
theorem GL {x : Str} {v : V} {u : Value} {pos : Pos} (hg : Gl X x) (hm : X.mg x = some u) (r : zw v u) (hd : (x == ("__debug__" : Str)) = false := by decide) : PE X (.Name x pos) (tC v) :=
 fun _ _ _ H _ I h => ZI I hg hm ⟨v,H,I,r,h⟩ hd
theorem GM {x : Str} {v : V} {u : Value} {pos : Pos} (hg : Gl X x) (hm : X.mg x = none) (hv : bootBuiltins x = some u) (r : zw v u) (hn : x ≠ "__name__" := by decide) (hd : (x == ("__debug__" : Str)) = false := by decide) : PE X (.Name x pos) (tC v) :=
 fun _ _ _ H _ I h => Z8 I hg hm hv ⟨v,H,I,r,h⟩ hn hd
variable {a b : Expr} {ta tb : TE} {pos : Pos}
def tB (t : TE) : TT := fun σ H Q => t σ H fun x H1 => ∃ c,x = .bl c ∧ Q c H1
theorem pt_val {e : Expr} {t : TE} (h : PE X e t) (he : ∀ whole,isTrue e X.env whole = (do let v ← whole; standAt e.pos; holding [v] (truthy v)) := by intro _; rfl) : PT X e (tB t) := by
 intro pins s σ H Q I hw;refine isTrue_plain (thn (h pins s σ H _ I hw) fun v s1 ⟨x,H1,I1,r1,q1⟩ => ?_) (he _);obtain ⟨d,rfl,q⟩ := q1;cases r1;exact wpAny_truthy_bool ⟨H1,I1,q⟩
variable {tA tB' : TT} {JI : List Expr}
def tAnd (t u : TT) : TT := fun σ H Q => t σ H fun c H1 => if c = true then u σ H1 Q else Q false H1
def tOr (t u : TT) : TT := fun σ H Q => t σ H fun c H1 => if c = true then Q true H1 else u σ H1 Q
def tNot (t : TT) : TT := fun σ H Q => t σ H fun c H1 => Q (!c) H1
theorem pw_and1 (ha : PT X a tA) : PW X (.BoolOp .And [a] pos) tA := by
 intro wh pins s σ H Q I h;refine isTrue_and (thn (ha pins s σ H Q I h) fun c s1 e => ?_);cases c with
 | true => exact isTrue_and_nil e
 | false => exact e
theorem pw_or1 (ha : PT X a tA) : PW X (.BoolOp .Or [a] pos) tA := by
 intro wh pins s σ H Q I h;refine isTrue_or (thn (ha pins s σ H Q I h) fun c s1 e => ?_);cases c with
 | false => exact isTrue_or_nil e
 | true => exact e
theorem pw_and (ha : PT X a tA) (hb : PW X (.BoolOp .And (b :: JI) pos) tB') : PW X (.BoolOp .And (a :: b :: JI) pos) (tAnd tA tB') := by
 intro wh pins s σ H Q I h;refine isTrue_and (thn (ha pins s σ H _ I h) fun c s1 ⟨H1,I1,q1⟩ => ?_);cases c with
 | true => exact hb wh pins s1 σ H1 Q I1 q1
 | false => exact ⟨H1,I1,q1⟩
theorem pw_or (ha : PT X a tA) (hb : PW X (.BoolOp .Or (b :: JI) pos) tB') : PW X (.BoolOp .Or (a :: b :: JI) pos) (tOr tA tB') := by
 intro wh pins s σ H Q I h;refine isTrue_or (thn (ha pins s σ H _ I h) fun c s1 ⟨H1,I1,q1⟩ => ?_);cases c with
 | true => exact ⟨H1,I1,q1⟩
 | false => exact hb wh pins s1 σ H1 Q I1 q1
theorem pt_not (ha : PT X a tA) : PT X (.UnaryOp .Not a pos) (tNot tA) := by
 intro pins s σ H Q I h;exact isTrue_not (ha pins s σ H (fun c H1 => Q (!c) H1) I h)
def tAndV (ta tb : TE) : TE := fun σ H Q => ta σ H fun x H1 => ∃ c,x = .bl c ∧ if c = true then tb σ H1 Q else Q (.bl false) H1
def tNotV (ta : TE) : TE := fun σ H Q => ta σ H fun x H1 => ∃ c,x = .bl c ∧ Q (.bl (!c)) H1
theorem pe_one {op} {t : TE} (h : PE X a t) : PE X (.BoolOp op [a] pos) t := fun pins s σ H Q I hw => BoolOp_one (h pins s σ H Q I hw)
theorem pe_and (ha : PE X a ta) (hb : PE X (.BoolOp .And (b :: JI) pos) tb) : PE X (.BoolOp .And (a :: b :: JI) pos) (tAndV ta tb) := by
 intro pins s σ H Q I h;refine BoolOp_and (thn (ha pins s σ H _ I h) fun v s1 ⟨x,H1,I1,r1,q1⟩ => ?_);obtain ⟨c,rfl,q1⟩ := q1;cases r1;refine wpAny_truthy_bool ?_;cases c with
 | true => exact hb pins s1 σ H1 Q I1 q1
 | false => exact ⟨.bl false,H1,I1,rfl,q1⟩
theorem pe_not (ha : PE X a ta) : PE X (.UnaryOp .Not a pos) (tNotV ta) := by
 intro pins s σ H Q I h;refine UnaryOp_ (thn (ha pins s σ H _ I h) fun v s1 ⟨x,H1,I1,r1,q1⟩ => ?_);obtain ⟨c,rfl,q1⟩ := q1;cases r1;exact not_of (wpAny_truthy_bool ⟨.bl (!c),H1,I1,rfl,q1⟩)
end
end L2
namespace L2
open PySem PySem.Spec PyProof.Rows
def SqL (K : PySem.W.Frag) (H : Hp) (a : Addr) (xs : List V) : Prop :=
 Rd H a (.lst xs) ∨
  ∃ (o : Obj) (its : Array Value) (n : Nat),K.lookup a = some o ∧ o.cls = .type "list" ∧ o.dict = none ∧ o.data = .seq its n ∧ its.size ≤ sizeLine ∧ zb xs its.toList
def SqT (K : PySem.W.Frag) (H : Hp) (a : Addr) (xs : List V) : Prop :=
 Rd H a (.tup xs) ∨
  ∃ (o : Obj) (its : Array Value) (n : Nat),K.lookup a = some o ∧ o.cls = .type "tuple" ∧ o.data = .seq its n ∧ its.size ≤ sizeLine ∧ zb xs its.toList
def absV : Value → Option V
 | .none => some .non
 | .bool b => some (.bl b)
 | .int i _ => some (.int i)
 | .str x _ => some (.str x)
 | .bytes b _ => some (.byt b)
 | .float b _ => some (.flt b)
 | .ref a => some (.ref a)
 | .type n => some (.ty n)
 | _ => none
theorem zw.abs {x : V} {u : Value} (r : zw x u) : absV u = some x := by
 cases x with
 | non => cases r; rfl
 | bl _ => cases r; rfl
 | int _ => obtain ⟨t,rfl⟩ := r; rfl
 | str _ => obtain ⟨t,rfl⟩ := r; rfl
 | byt _ => obtain ⟨t,rfl⟩ := r; rfl
 | flt _ => obtain ⟨t,rfl⟩ := r; rfl
 | ref _ => cases r; rfl
 | ty _ => cases r; rfl
theorem zw.inj {x y : V} {u : Value} (r : zw x u) (q : zw y u) : x = y := Option.some.inj (r.abs.symm.trans q.abs)
theorem zb.inj : ∀ {xs ys : List V} {us : List Value},zb xs us → zb ys us → xs = ys
 | _,_,_,.nil,.nil => rfl
 | _,_,_,.cons r t,.cons r' t' => by rw [r.inj r',zb.inj t t']
section
variable {X : Cx} {pins : List (Addr × Obj)} {σ : St} {H : Hp} {s : Shared} {a : Addr} {xs ys : List V}
theorem SqL.of {K : PySem.W.Frag} (h : H a = some (.lst xs)) : SqL K H a xs := .inl (.inl h)
theorem SqT.of {K : PySem.W.Frag} (h : H a = some (.tup xs)) : SqT K H a xs := .inl (.inl h)
theorem Inv.list (I : Inv X pins σ H s) (h : SqL X.K H a xs) : ∃ its : List Value,zb xs its ∧ PlainL s.heap a its.toArray ∧ xs.length ≤ sizeLine := by
 rcases h with h | ⟨o,its,n,hk,hc,hd,hs,hz,r⟩
 ·obtain ⟨z,its,n,r,e⟩ := h.ok I.hok
  exact ⟨its,r,⟨_,n,e,rfl,rfl,rfl⟩,z⟩
 ·refine ⟨its.toList,r,⟨o,n,I.kIn a o hk,hc,hd,by simpa using hs⟩,?_⟩
  have e := r.length;simp only [Array.length_toList] at e;omega
theorem Inv.tuple (I : Inv X pins σ H s) (h : SqT X.K H a xs) : ∃ its : List Value,zb xs its ∧ IsTup s.heap a its.toArray ∧ xs.length ≤ sizeLine := by
 rcases h with h | ⟨o,its,n,hk,hc,hs,hz,r⟩
 ·obtain ⟨z,its,r,p⟩ := h.ok I.hok
  exact ⟨its,r,p,z⟩
 ·refine ⟨its.toList,r,⟨o,I.kIn a o hk,hc,n,by simpa using hs⟩,?_⟩
  have e := r.length;simp only [Array.length_toList] at e;omega
theorem Inv.list_inj (I : Inv X pins σ H s) (h : SqL X.K H a xs) (h' : SqL X.K H a ys) : xs = ys := by
 obtain ⟨its,r,⟨o,n,e,_,_,d⟩,_⟩ := I.list h;obtain ⟨its',r',⟨o',n',e',_,_,d'⟩,_⟩ := I.list h';rw [e] at e'; cases e';rw [d] at d';injection d' with d1 _
 have : its = its' := by simpa using congrArg Array.toList d1
 subst this;exact r.inj r'
theorem Inv.tuple_inj (I : Inv X pins σ H s) (h : SqT X.K H a xs) (h' : SqT X.K H a ys) : xs = ys := by
 obtain ⟨its,r,⟨o,e,_,n,d⟩,_⟩ := I.tuple h;obtain ⟨its',r',⟨o',e',_,n',d'⟩,_⟩ := I.tuple h';rw [e] at e'; cases e';rw [d] at d';injection d' with d1 _
 have : its = its' := by simpa using congrArg Array.toList d1
 subst this;exact r.inj r'
end
abbrev Cx.wish (X : Cx) (E : Value → Shared → Prop) : Cx := { X with xe := E }
abbrev Cx.nox (X : Cx) : Cx := X.wish fun _ _ => False
theorem Cx.Ok.wish {X : Cx} (ok : X.Ok) (E : Value → Shared → Prop) : (X.wish E).Ok :=
 ⟨ok.mod,ok.kind,ok.glob,ok.blt,ok.above,ok.inj,ok.has,ok.cab,ok.hd,ok.frames,ok.stk,ok.exf,ok.bs,ok.bsz,ok.noex,ok.exfs,ok.funs,ok.frf⟩
theorem Cx.Ok.unwish {X : Cx} {E : Value → Shared → Prop} (ok : (X.wish E).Ok) : X.Ok :=
 ⟨ok.mod,ok.kind,ok.glob,ok.blt,ok.above,ok.inj,ok.has,ok.cab,ok.hd,ok.frames,ok.stk,ok.exf,ok.bs,ok.bsz,ok.noex,ok.exfs,ok.funs,ok.frf⟩
section
variable {X : Cx} {pins : List (Addr × Obj)} {σ : St} {H : Hp} {s : Shared} {E : Value → Shared → Prop}
theorem Inv.wish (I : Inv X pins σ H s) (E : Value → Shared → Prop) : Inv (X.wish E) pins σ H s := ⟨I.ok.wish E,I.os,I.bare,I.base,I.loc,I.cell,I.free,I.freeC,I.pin,I.hok,I.len⟩
theorem Inv.unwish (I : Inv (X.wish E) pins σ H s) : Inv X pins σ H s := ⟨I.ok.unwish,I.os,I.bare,I.base,I.loc,I.cell,I.free,I.freeC,I.pin,I.hok,I.len⟩
theorem SP.unwish {D : Ends} {f : Flow} {s' : Shared} (h : SP (X.wish E) pins D f s') : SP X pins D f s' := by
 cases f with
 | next => obtain ⟨σ',H',I,q⟩ := h; exact ⟨σ',H',I.unwish,q⟩
 | brk => obtain ⟨σ',H',I,q⟩ := h; exact ⟨σ',H',I.unwish,q⟩
 | cont => obtain ⟨σ',H',I,q⟩ := h; exact ⟨σ',H',I.unwish,q⟩
 | ret u => obtain ⟨v,σ',H',I,r,q⟩ := h; exact ⟨v,σ',H',I.unwish,r,q⟩
theorem PE.nox {e : Expr} {t : TE} (h : PE X.nox e t) : PE X e t := fun pins s σ H Q I hw =>
 wpAny_mono (h pins s σ H Q (I.wish _) hw) (fun _ _ ⟨v,H',I',r,q⟩ => ⟨v,H',I'.unwish,r,q⟩) fun _ _ z => False.elim z
theorem PT.nox {e : Expr} {t : TT} (h : PT X.nox e t) : PT X e t := fun pins s σ H Q I hw =>
 wpAny_mono (h pins s σ H Q (I.wish _) hw) (fun _ _ ⟨H',I',q⟩ => ⟨H',I'.unwish,q⟩) fun _ _ z => False.elim z
theorem PSs.nox {st : List Stmt} {t : TS} (h : PSs X.nox st t) : PSs X st t := fun pins s σ H D I hw =>
 wpAny_mono (h pins s σ H D (I.wish _) hw) (fun _ _ q => q.unwish) fun _ _ z => False.elim z
end
section
variable {X : Cx} {st : Stmt} {JI : List Stmt} {t u : TS} {e : Expr} {te : TE} {pos : Pos}
def tNext : TS := fun D σ H => D.nx σ H
def tSeq (t u : TS) : TS := fun D σ H => t { D with nx := u D } σ H
theorem pss_nil : PSs X [] tNext := fun _ _ σ H _ I h => wpAny_execs_nil ⟨σ,H,I,h⟩
theorem zAZ (h1 : PS X st t) (h2 : PSs X JI u) : PSs X (st :: JI) (tSeq t u) := by
 intro pins s σ H D I h;refine wpAny_execs_cons (thn (h1 pins s σ H { D with nx := u D } I h) fun f s1 q => ?_)
 cases f with
 | next =>
  obtain ⟨σ',H',I',q⟩ := q;exact h2 pins s1 σ' H' D I' q
 | ret v => exact q
 | brk => exact q
 | cont => exact q
theorem pss_one (h1 : PS X st t) : PSs X [st] t := by
 intro pins s σ H D I h;refine wpAny_execs_cons (thn (h1 pins s σ H D I h) fun f s1 q => ?_);cases f with
 | next => exact wpAny_execs_nil q
 | ret v => exact q
 | brk => exact q
 | cont => exact q
theorem Inv.quiet {pins : List (Addr × Obj)} {σ : St} {H : Hp} {s : Shared} (I : Inv X pins σ H s) : interactive X.env = false := by simp [interactive,I.ok.kind]
def tDrop (te : TE) : TS := fun D σ H => te σ H fun _ H1 => D.nx σ H1
theorem GN (he : PE X e te) (hs : swapsWith e none pos.line X.env = pure false := by rfl) : PS X (.Expr e pos) (tDrop te) := by
 intro pins s σ H D I h;exact wpAny_Expr_any (thn (he pins s σ H _ I h) fun v s1 ⟨x,H1,I1,r1,q1⟩ => ⟨σ,H1,I1,q1⟩) I.quiet hs
def tRet (te : TE) : TS := fun D σ H => te σ H D.rt
theorem ps_ret (he : PE X e te) : PS X (.Return (some e) pos) (tRet te) := by
 intro pins s σ H D I h;exact wpAny_Return_some (thn (he pins s σ H _ I h) fun v s1 ⟨x,H1,I1,r1,q1⟩ => ⟨x,σ,H1,I1,r1,q1⟩)
def tIfS (c : TT) (t u : TS) : TS := fun D σ H => c σ H fun b H1 => if b = true then t D σ H1 else u D σ H1
theorem ps_if {c : Expr} {a b : List Stmt} {tc : TT} (hc : PT X c tc) (ha : PSs X a t) (hb : PSs X b u) : PS X (.If c a b pos) (tIfS tc t u) := by
 intro pins s σ H D I h;refine wpAny_If (thn (hc pins s σ H _ I h) fun d s1 ⟨H1,I1,q1⟩ => ?_);cases d with
 | true => exact ha pins s1 σ H1 D I1 q1
 | false => exact hb pins s1 σ H1 D I1 q1
def tNever : TS := fun _ _ _ => False
theorem zAa : PS X st tNever := fun _ _ _ _ _ _ h => h.elim
end
abbrev TG := V → St → Hp → (St → Hp → Prop) → Prop
abbrev TGs := List V → St → Hp → (St → Hp → Prop) → Prop
def PG (X : Cx) (target : Expr) (t : TG) : Prop :=
 ∀ (pins : List (Addr × Obj)) (s : Shared) (σ : St) (H : Hp) (v : V) (u : Value) (Q : St → Hp → Prop),Inv X pins σ H s → zw v u → t v σ H Q →
  wpAny (model X.prog X.w) X.A (assign target X.env u) (fun _ s' => ∃ σ' H',Inv X pins σ' H' s' ∧ Q σ' H') X.xe s
def PGs (X : Cx) (ts : List Expr) (t : TGs) : Prop :=
 ∀ (pins : List (Addr × Obj)) (s : Shared) (σ : St) (H : Hp) (vs : List V) (us : List Value) (Q : St → Hp → Prop),Inv X pins σ H s → zb vs us → t vs σ H Q →
  wpAny (model X.prog X.w) X.A (assignInOrder ((assignEach ts X.env).map (·.2)) us) (fun _ s' => ∃ σ' H',Inv X pins σ' H' s' ∧ Q σ' H') X.xe s
abbrev TSet := V → V → V → Hp → (Hp → Prop) → Prop
def PSet (X : Cx) (t : TSet) : Prop :=
 ∀ (pins : List (Addr × Obj)) (s : Shared) (σ : St) (H : Hp) (o i v : V) (ov iv u : Value) (Q : Hp → Prop),Inv X pins σ H s → zw o ov → zw i iv → zw v u → t o i v H Q →
  wpAny (model X.prog X.w) X.A (setItem ov iv u) (fun _ s' => ∃ H',Inv X pins σ H' s' ∧ Q H') X.xe s
section
variable {X : Cx} {pos : Pos}
def W1 (i : Nat) : TG := fun v σ H Q => Q (σ.set i (some v)) H
theorem GO {i : Nat} {x : Str} (hN : X.N.Nodup) (hi : X.N[i]? = some x) (hx : Loc X.env.scope x) (hf : X.fn x = true ∨ X.env.scope.names.lookup x = some .local := by first | exact .inl rfl | exact .inr rfl | assumption) : PG X (.Name x pos) (W1 i) := by
 intro pins s σ H v u Q I r h;exact wpAny_assign_Name (jz I hN hi hx r (fun s' I' => ⟨_,H,I',h⟩) hf)
def gNil : TGs := fun vs σ H Q => vs = [] ∧ Q σ H
def gCons (t : TG) (u : TGs) : TGs := fun vs σ H Q => ∃ v r,vs = v :: r ∧ t v σ H fun σ' H' => u r σ' H' Q
theorem pgs_nil : PGs X [] gNil := by
 intro pins s σ H vs us Q I r h;obtain ⟨e,h⟩ := h;subst e;cases r;exact assignInOrder_nil ⟨σ,H,I,h⟩
theorem zAb {e : Expr} {es : List Expr} {t : TG} {u : TGs} (h1 : PG X e t) (h2 : PGs X es u)
  (hs : (assignEach (e :: es) X.env).map (·.2) = assign e X.env :: (assignEach es X.env).map (·.2) := by rfl) : PGs X (e :: es) (gCons t u) := by
 intro pins s σ H vs us Q I r h;obtain ⟨v,vr,e1,h⟩ := h;subst e1;cases r with
 | cons r rr =>
  rw [hs];refine assignInOrder_cons (thn (h1 pins s σ H _ _ _ I r h) fun _ s1 ⟨σ1,H1,I1,q1⟩ => ?_);exact h2 pins s1 σ1 H1 _ _ Q I1 rr q1
def gTup (K : PySem.W.Frag) (n : Nat) (t : TGs) : TG := fun v σ H Q => ∃ a xs,v = .ref a ∧ SqT K H a xs ∧ xs.length = n ∧ t xs σ H Q
theorem pg_tup {es : List Expr} {k : Nat} {t : TGs} {n : Nat} (hc : X.calm = true) (h : PGs X es t)
  (hn : (assignEach es X.env).length = n := by rfl) (hst : (assignEach es X.env).findIdx? (·.1) = none := by rfl) : PG X (.Tuple es k pos) (gTup X.K n t) := by
 intro pins s σ H v u Q I r hw;obtain ⟨a,xs,e1,hq,hl,hw⟩ := hw;subst e1;cases r;obtain ⟨its,rv,ht,hz⟩ := I.tuple hq;refine assign_Tuple_tuple (I.ok.hd hc) ht (by simp [hn,← hl,rv.length]) hst fun h' hx => ?_
 have I1 : Inv X pins σ H { s with heap := h' } := I.kept (t' := s.toks) fun b o e => hx b o (ne_of_lt (lt_size e)) e
 exact h pins _ σ H xs _ Q I1 (by simpa using rv) hw
def gSub (to ti : TE) (t : TSet) : TG := fun v σ H Q => to σ H fun o H1 => ti σ H1 fun i H2 => t o i v H2 fun H3 => Q σ H3
theorem pg_sub {o i : Expr} {to ti : TE} {t : TSet} (ho : PE X o to) (hi : PE X i ti) (hs : PSet X t)
  (ha : ∀ v,assign (.Subscript o i pos) X.env v = (do
   let ov ← holding [v] (eval o X.env)
   let iv ← holding [v,ov] (eval i X.env)
   standAt pos
   holding [v,ov,iv] (setItem ov iv v)
   release [v,ov,iv] []) := by intro _; rfl) : PG X (.Subscript o i pos) (gSub to ti t) := by
 intro pins s σ H v u Q I r h;rw [ha];refine wpAny_bind (wpAny_holding (thn (ho pins s σ H _ I h) fun ov s1 ⟨x,H1,I1,r1,q1⟩ => ?_));refine wpAny_bind (wpAny_holding (thn (hi pins s1 σ H1 _ I1 q1) fun iv s2 ⟨y,H2,I2,r2,q2⟩ => ?_));refine wpAny_bind (wpAny_standAt (wpAny_bind (wpAny_holding (thn (hs pins s2 σ H2 x y v ov iv u _ I2 r1 r2 r q2) fun _ s3 ⟨H3,I3,q3⟩ => ?_))));exact wpAny_release ⟨σ,H3,I3,q3⟩
def tAsg (te : TE) (g : TG) : TS := fun D σ H => te σ H fun x H1 => g x σ H1 D.nx
theorem ps_asg {tg e : Expr} {te : TE} {g : TG} (he : PE X e te) (hg : PG X tg g) (hs : swapsWithSole [tg] e pos.line X.env = pure false := by rfl) (hw : swappedStores [tg] e X.env = pure none := by rfl)
  (h1 : (assignEach [tg] X.env).map (·.2) = [assign tg X.env] := by rfl) : PS X (.Assign [tg] e pos) (tAsg te g) := by
 intro pins s σ H D I h;refine wpAny_Assign_stores (thn (he pins s σ H _ I h) fun v s1 ⟨x,H1,I1,r1,q1⟩ => ?_) hs hw;rw [h1];exact thn (hg pins s1 σ H1 x v _ I1 r1 q1) fun _ s2 q => q
theorem ps_set {i : Nat} {x : Str} {e : Expr} {te : TE} {pos' : Pos} (hN : X.N.Nodup) (hi : X.N[i]? = some x) (hx : Loc X.env.scope x) (he : PE X e te) (hs : swapsWith e (some (.Name x pos')) pos.line X.env = pure false := by rfl) (hf : X.fn x = true ∨ X.env.scope.names.lookup x = some .local := by first | exact .inl rfl | exact .inr rfl | assumption) :
  PS X (.Assign [.Name x pos'] e pos) (tAsg te (W1 i)) := by
 intro pins s σ H D I h;refine wpAny_Assign_Name (thn (he pins s σ H _ I h) fun v s1 ⟨y,H1,I1,r1,q1⟩ => ?_) hs;exact jz I1 hN hi hx r1 (fun s2 I2 => ⟨_,H1,I2,q1⟩) hf
def tPar (i j : Nat) (ta : TA) : TS := fun D σ H => ta σ H fun vs H1 => ∃ v w,vs = [v,w] ∧ D.nx ((σ.set i (some v)).set j (some w)) H1
theorem ps_par {i j : Nat} {x y : Str} {a b : Expr} {ta : TA} {px py pt : Pos} {kt k2 pt2} (hc : X.calm = true) (hN : X.N.Nodup) (hi : X.N[i]? = some x) (hj : X.N[j]? = some y) (hij : i ≠ j)
  (hx : X.env.scope.names.lookup x = some .local) (hy : X.env.scope.names.lookup y = some .local) (ha : PA X [a,b] ta)
  (hw : swappedStores [.Tuple [.Name x px,.Name y py] kt pt] (.Tuple [a,b] k2 pt2) X.env = pure (some [x,y]))
  (hs : swapsWithSole [.Tuple [.Name x px,.Name y py] kt pt] (.Tuple [a,b] k2 pt2) pos.line X.env = pure false := by rfl) :
  PS X (.Assign [.Tuple [.Name x px,.Name y py] kt pt] (.Tuple [a,b] k2 pt2) pos) (tPar i j ta) := by
 intro pins s σ H D I h;rw [exec_Assign_arm];refine wpAny_bind (wpAny_standAt ?_);rw [hs];refine wpAny_bind (wpAny_pure ?_);rw [if_neg (by decide)];refine wpAny_bind (Tuple_ (thn (ha _ pins s σ H _ I h) fun us s1 ⟨vs,H1,I1,r1,q1⟩ => ?_));obtain ⟨v,w,e1,q1⟩ := q1;subst e1;obtain ⟨u1,u2,rfl,rv,rw'⟩ : ∃ u1 u2,us = [u1,u2] ∧ zw v u1 ∧ zw w u2 := by
  cases r1 with
  | cons p q =>
   cases q with
   | cons p' q' =>
    cases q';exact ⟨_,_,rfl,p,p'⟩
 refine wpAny_newObj_type ?_ (by show 2 ≤ sizeLine; decide);have I2 : Inv X pins σ H1 { s1 with heap := s1.heap.push { cls := .type "tuple",data := .seq [u1,u2].toArray } } := I1.kept (t' := s1.toks) fun b o e => get?_push_of_some _ e
 rw [hw];refine wpAny_bind (wpAny_pure ?_);show wpAny (model X.prog X.w) X.A (do rule "assign.swapped-stores"; let items ← unpackItems (.ref s1.heap.objs.size) 2 none; assignInOrder [fun v => bindName X.env y v,fun v => bindName X.env x v] items.reverse; pure Flow.next) _ _ _;refine wpAny_bind (wpAny_rule (wpAny_bind (unpackItems_tuple (items := #[u1,u2]) (I.ok.hd hc) (IsTup.new s1.heap _) fun h' hx' => ?_)));have I3 := I2.kept (h' := h') (t' := s1.toks) fun b o e => hx' b o (ne_of_lt (lt_size e)) e
 show wpAny _ _ (assignInOrder [fun v => bindName X.env y v,fun v => bindName X.env x v] [u2,u1] >>= fun _ => pure Flow.next) _ _ _
 refine wpAny_bind (assignInOrder_cons (wpAny_bindName (jz I3 hN hj (.inl hy) rw' (fun s2 I4 => ?_) (.inr hy))));refine assignInOrder_cons (wpAny_bindName (jz I4 hN hi (.inl hx) rv (fun s3 I5 => assignInOrder_nil (wpAny_pure ?_)) (.inr hx)));rw [List.set_comm _ _ (Ne.symm hij)] at I5;exact ⟨_,H1,I5,q1⟩
end
section
variable {X : Cx} {pos : Pos}
def zBz (c : TT) (tb : TS) : TS := fun D σ H => ∃ W : Nat → St → Hp → Prop,(∃ m,W m σ H) ∧ ∀ m σ H,W m σ H →
 c σ H fun b H1 => if b = true then ∃ N : St → Hp → Prop,(∀ σ' H',N σ' H' → ∃ m',m' < m ∧ W m' σ' H') ∧ tb { D with nx := N,ct := N,bk := D.nx } σ H1 else D.nx σ H1
theorem zAc {c : Expr} {body : List Stmt} {tc : TT} {tb : TS} (hp : PassesOwn (model X.prog X.w) X.A X.env X.xe) (hc : PT X c tc) (hb : PSs X body tb) : PS X (.While c body [] pos) (zBz tc tb) := by
 intro pins s σ H D I h;obtain ⟨W,⟨m0,w0⟩,turn⟩ := h;refine wpAny_While (codeAny_whileLoop (fun n s' => ∃ σ' H',Inv X pins σ' H' s' ∧ W n σ' H') ?_ m0 ⟨σ,H,I,w0⟩)
 rintro n s1 ⟨σ1,H1,I1,w1⟩
 refine wpAny_passesOwn hp (thn (hc pins s1 σ1 H1 _ I1 (turn n σ1 H1 w1)) fun b s2 ⟨H2,I2,q2⟩ => ?_);cases b with
 | true =>
  obtain ⟨N,hN,q2⟩ := q2;rw [if_pos rfl];refine wpAny_passesOwn hp (thn (hb pins s2 σ1 H2 _ I2 q2) fun f s3 q3 => ?_);cases f with
  | next =>
   obtain ⟨σ3,H3,I3,n3⟩ := q3;obtain ⟨m',hm,w3⟩ := hN σ3 H3 n3;exact ⟨m',hm,σ3,H3,I3,w3⟩
  | cont =>
   obtain ⟨σ3,H3,I3,n3⟩ := q3;obtain ⟨m',hm,w3⟩ := hN σ3 H3 n3;exact ⟨m',hm,σ3,H3,I3,w3⟩
  | brk => exact q3
  | ret v => exact q3
 | false =>
  rw [if_neg Bool.false_ne_true];exact wpAny_execs_nil ⟨σ1,H2,I2,q2⟩
end
structure It where
 go : Nat → Hp → Prop
 yld : Nat → Hp → V → Hp → Prop
 stop : Nat → Hp → Prop
def GB (X : Cx) (pins : List (Addr × Obj)) (H : Hp) (b : Addr) : Prop :=
 H b = none ∧ b ≠ X.env.locals ∧ b ∉ X.fs ∧ (b ∈ X.ex ∨ X.s₀.heap.objs.size ≤ b) ∧ (∀ x c,X.env.cells.lookup x = some c → c ≠ b) ∧ ∀ p ∈ X.pn ++ pins,p.1 ≠ b
theorem Inv.fpOk {X : Cx} {pins : List (Addr × Obj)} {σ : St} {H H' : Hp} {s : Shared} {b : Addr} (I : Inv X pins σ H s) (hb : s.heap.objs.size ≤ b) (hn : H' b = none) : GB X pins H' b := by
 refine ⟨hn,Nat.ne_of_gt (lt_of_lt_of_le I.lt hb),I.nofs hb,.inr (le_trans I.sz hb),fun x c e z => ?_,fun p hp z => ?_⟩
 ·obtain ⟨v,q⟩ := I.cell x c e
  exact absurd (lt_of_lt_of_le q.lt (by rw [z]; exact hb)) (lt_irrefl _)
 ·exact absurd (lt_of_lt_of_le (lt_size (I.pin p hp).1) (by rw [z]; exact hb)) (lt_irrefl _)
structure Turn (P : Program) (w : World) (K : PySem.W.Frag) (tg : Expr) (J : It) (fp : List Addr) (it : Addr) (tn : Nat → Heap → Prop) : Prop where
 mem : it ∈ fp
 obj : ∀ i h,tn i h → ∀ b ∈ fp,∃ o,h.get? b = some o ∧ ∀ v,o.data ≠ .cell v
 keep : ∀ i h h',tn i h → (∀ b ∈ fp,∀ o,h.get? b = some o → h'.get? b = some o) → tn i h'
 item : ∀ (X : Cx),X.prog = P → X.w = w → X.K = K → X.calm = true → ∀ (i : Nat) (pins : List (Addr × Obj)) (s : Shared) (σ : St) (H : Hp) (E : Value → Shared → Prop),Inv X pins σ H s → (∀ b ∈ fp,GB X pins H b) → tn i s.heap → J.go i H →
  wpAny (model P w) X.A (pyNext (.ref it)) (fun r s1 => ∃ u,r = some u ∧
   wpAny (model P w) X.A (letOwnedTupleGo tg (.ref it) u) (fun _ s2 => ∃ x H',Inv X pins σ H' s2 ∧ zw x u ∧ J.yld i H x H' ∧ tn (i + 1) s2.heap ∧ ∀ b ∈ fp,H' b = none) E s1) E s
 done : ∀ (X : Cx),X.prog = P → X.w = w → X.K = K → X.calm = true → ∀ (i : Nat) (pins : List (Addr × Obj)) (s : Shared) (σ : St) (H : Hp) (E : Value → Shared → Prop),Inv X pins σ H s → (∀ b ∈ fp,GB X pins H b) → tn i s.heap → J.stop i H →
  wpAny (model P w) X.A (pyNext (.ref it)) (fun r s1 => r = none ∧ Inv X pins σ H s1) E s
 self : ∀ (A : Around) (i : Nat) (s : Shared) (Q : Value → Shared → Prop) (E : Value → Shared → Prop),tn i s.heap → Q (.ref it) s → wpAny (model P w) A (pyIter (.ref it)) Q E s
abbrev TI := St → Hp → (It → Hp → Prop) → Prop
def PIE (X : Cx) (pins : List (Addr × Obj)) (σ : St) (tg : Expr) (R : It → Hp → Prop) (itv : Value) (s2 : Shared) : Prop :=
 ∃ (it : Addr) (fp : List Addr) (tn : Nat → Heap → Prop) (J : It) (H' : Hp),itv = .ref it ∧ Inv X pins σ H' s2 ∧ Turn X.prog X.w X.K tg J fp it tn ∧ tn 0 s2.heap ∧ (∀ b ∈ fp,GB X pins H' b) ∧ R J H'
def PI (X : Cx) (tg iter : Expr) (wi : TI) : Prop :=
 ∀ (pins : List (Addr × Obj)) (s : Shared) (σ : St) (H : Hp) (R : It → Hp → Prop),Inv X pins σ H s → wi σ H R →
  wpAny (model X.prog X.w) X.A (eval iter X.env) (fun v s1 => wpAny (model X.prog X.w) X.A (pyIter v) (PIE X pins σ tg R) X.xe s1) X.xe s
theorem ZJ {M : Model} {A : Around} {E : Value → Shared → Prop} {s : Shared} {tg : Expr} {it : Addr} {u : Value} {o : Obj} {n : String} {vs : Array Value} {Q : Unit → Shared → Prop} (ho : s.heap.get? it = some o) (hc : o.cls = .type n) (hd : o.data = .fields vs)
  (hn : ["enumerate","zip","dict_itemiterator","dict_reverseitemiterator","odict_iterator","itertools.zip_longest","itertools.pairwise"].contains n = false) (hQ : Q () s) : wpAny M A (letOwnedTupleGo tg (.ref it) u) Q E s := by
 unfold letOwnedTupleGo
 cases tg <;> first
  | exact wpAny_pure hQ
  | (cases u <;> first
    | exact wpAny_pure hQ
    | (refine wpAny_bind (wpAny_load ho ?_)
       rw [hc,hd];show wpAny M A (if (["enumerate","zip","dict_itemiterator","dict_reverseitemiterator","odict_iterator","itertools.zip_longest","itertools.pairwise"].contains n && vs[0]? == some (rawInt _)) = true then _ else _) Q E s;rw [if_neg (by intro h; rw [hn,Bool.false_and] at h; cases h)];exact wpAny_pure hQ))
def Itl (K : PySem.W.Frag) (a : Addr) : It :=
 ⟨fun i H => ∃ xs x,SqL K H a xs ∧ xs[i]? = some x,fun i H x H' => H' = H ∧ ∀ xs,SqL K H a xs → xs[i]? = some x,fun i H => ∃ xs,SqL K H a xs ∧ xs.length ≤ i⟩
def Itt (K : PySem.W.Frag) (a : Addr) : It :=
 ⟨fun i H => ∃ xs x,SqT K H a xs ∧ xs[i]? = some x,fun i H x H' => H' = H ∧ ∀ xs,SqT K H a xs → xs[i]? = some x,fun i H => ∃ xs,SqT K H a xs ∧ xs.length ≤ i⟩
def Itr (lo : Int) (n : Nat) : It := ⟨fun i _ => i < n,fun i H x H' => H' = H ∧ x = .int (lo + i),fun i _ => n ≤ i⟩
theorem GP {P : Program} {w : World} {K : PySem.W.Frag} {tg : Expr} (a it : Addr) : Turn P w K tg (Itl K a) [it] it (fun i h => h.IsListIter it a i) where
 mem := by simp
 obj := fun i h st b hb => by
  have e : b = it := by simpa using hb
  subst e;obtain ⟨o,e,c,d⟩ := st;exact ⟨o,e,fun v z => by rw [d] at z; cases z⟩
 keep := fun i h h' st k => st.at fun o e => k it (by simp) o e
 item := by
  intro X hP hw hK hc i pins s σ H E I hf st hg;subst hP hw hK;obtain ⟨xs,x,hq,hx⟩ := hg;obtain ⟨its,rv,p,hz⟩ := I.list hq;obtain ⟨u,hu,ru⟩ := rv.get hx;obtain ⟨f0,f1,f2,f3,f4,f5⟩ := hf it (by simp);refine wpAny_pyNext_list_item st p.isList (x := u) (by simpa using hu) fun h' st' sb => ?_
  have I1 : Inv X pins σ H { s with heap := h' } := I.turned (t' := s.toks) (fun b o hb e => (sb.2 b hb).trans e) f0 f1 f3 f4 f5
  obtain ⟨o,e,c,d⟩ := id st';exact ⟨u,rfl,ZJ (s := { s with heap := h' }) e c d (by decide) ⟨x,H,I1,ru,⟨rfl,fun ys hy => by rw [I.list_inj hy hq]; exact hx⟩,st',fun b hb => (hf b hb).1⟩⟩
 done := by
  intro X hP hw hK hc i pins s σ H E I hf st hg;subst hP hw hK;obtain ⟨xs,hq,hx⟩ := hg;obtain ⟨its,rv,p,hz⟩ := I.list hq;obtain ⟨f0,f1,f2,f3,f4,f5⟩ := hf it (by simp);have hl := rv.length;exact wpAny_pyNext_list_end (I.ok.hd hc) st p.isList (by simp; omega) fun h' eb => ⟨rfl,I.turned (t' := s.toks) (fun b o hb e => eb b o hb e) f0 f1 f3 f4 f5⟩
 self := fun _ _ _ _ _ st h => wpAny_pyIter_listiter st h
theorem uh {P : Program} {w : World} {K : PySem.W.Frag} {tg : Expr} (a it : Addr) : Turn P w K tg (Itt K a) [it] it (fun i h => h.IsTupleIter it a i) where
 mem := by simp
 obj := fun i h st b hb => by
  have e : b = it := by simpa using hb
  subst e;obtain ⟨o,e,c,d⟩ := st;exact ⟨o,e,fun v z => by rw [d] at z; cases z⟩
 keep := fun i h h' st k => st.at fun o e => k it (by simp) o e
 item := by
  intro X hP hw hK hc i pins s σ H E I hf st hg;subst hP hw hK;obtain ⟨xs,x,hq,hx⟩ := hg;obtain ⟨its,rv,p,hz⟩ := I.tuple hq;obtain ⟨u,hu,ru⟩ := rv.get hx;obtain ⟨f0,f1,f2,f3,f4,f5⟩ := hf it (by simp);refine wpAny_pyNext_tuple_item st (show s.heap.IsTuple a its.toArray from p) (x := u) (by simpa using hu) fun h' st' sb => ?_
  have I1 : Inv X pins σ H { s with heap := h' } := I.turned (t' := s.toks) (fun b o hb e => (sb.2 b hb).trans e) f0 f1 f3 f4 f5
  obtain ⟨o,e,c,d⟩ := id st';exact ⟨u,rfl,ZJ (s := { s with heap := h' }) e c d (by decide) ⟨x,H,I1,ru,⟨rfl,fun ys hy => by rw [I.tuple_inj hy hq]; exact hx⟩,st',fun b hb => (hf b hb).1⟩⟩
 done := by
  intro X hP hw hK hc i pins s σ H E I hf st hg;subst hP hw hK;obtain ⟨xs,hq,hx⟩ := hg;obtain ⟨its,rv,p,hz⟩ := I.tuple hq;obtain ⟨f0,f1,f2,f3,f4,f5⟩ := hf it (by simp);have hl := rv.length;exact wpAny_pyNext_tuple_end (I.ok.hd hc) st (show s.heap.IsTuple a its.toArray from p) (by simp; omega) fun h' eb => ⟨rfl,I.turned (t' := s.toks) (fun b o hb e => eb b o hb e) f0 f1 f3 f4 f5⟩
 self := fun _ _ _ _ _ st h => wpAny_pyIter_tupleiter st h
theorem ui {P : Program} {w : World} {K : PySem.W.Frag} {tg : Expr} (it : Addr) (lo : Int) (n : Nat) : Turn P w K tg (Itr lo n) [it] it (fun i h => IsRangeIter h it (lo + (i : Nat) * 1) ((n : Int) - (i : Nat)) 1) where
 mem := by simp
 obj := fun i h st b hb => by
  have e : b = it := by simpa using hb
  subst e;exact ⟨_,st,fun v z => by
   have z' : Data.fields _ = Data.cell v := z;cases z'⟩
 keep := fun i h h' st k => k it (by simp) _ st
 item := by
  intro X hP hw hK hc i pins s σ H E I hf st hg;subst hP hw hK;obtain ⟨f0,f1,f2,f3,f4,f5⟩ := hf it (by simp);have W := Walks.range (prog := X.prog) (w := X.w) (I.ok.hd hc) it lo 1 n;refine W.item i s _ _ hg st fun v h' tk hv st' kk => ?_
  obtain ⟨t,rfl⟩ := hv;have I1 : Inv X pins σ H { s with heap := h',toks := tk } := I.turned (fun b o hb e => kk b o (by simpa using hb) e) f0 f1 f3 f4 f5
  refine ⟨_,rfl,ZJ (s := { s with heap := h',toks := tk }) (n := "range_iterator") st' rfl rfl (by decide) ⟨.int (lo + i),H,I1,⟨t,?_⟩,⟨rfl,rfl⟩,st',fun b hb => (hf b hb).1⟩⟩
  rw [Int.mul_one]
 done := by
  intro X hP hw hK hc i pins s σ H E I hf st hg;subst hP hw hK;obtain ⟨f0,f1,f2,f3,f4,f5⟩ := hf it (by simp);exact wpAny_pyNext_range_end (I.ok.hd hc) st (by have : n ≤ i := hg; omega) fun h' eb => ⟨rfl,I.turned (t' := s.toks) (fun b o hb e => eb b o hb e) f0 f1 f3 f4 f5⟩
 self := fun _ _ _ _ _ st h => wpAny_pyIter_rangeiter st h
end L2
namespace L2
open PySem PySem.Spec PyProof.Rows
section
variable {X : Cx} {tg : Expr}
def iList (K : PySem.W.Frag) (tl : TE) : TI := fun σ H R => tl σ H fun x H1 => ∃ a,x = .ref a ∧ (∃ xs,SqL K H1 a xs) ∧ R (Itl K a) H1
def iTup (K : PySem.W.Frag) (tl : TE) : TI := fun σ H R => tl σ H fun x H1 => ∃ a,x = .ref a ∧ (∃ xs,SqT K H1 a xs) ∧ R (Itt K a) H1
theorem GQ {l : Expr} {tl : TE} (hl : PE X l tl) : PI X tg l (iList X.K tl) := by
 intro pins s σ H R I h;refine thn (hl pins s σ H _ I h) fun v s1 ⟨x,H1,I1,r1,q1⟩ => ?_
 obtain ⟨a,e,⟨xs,hq⟩,q⟩ := q1;subst e;cases r1;obtain ⟨its,rv,p,hz⟩ := I1.list hq;refine wpAny_pyIter_list p.isList ?_;refine ⟨s1.heap.objs.size,[s1.heap.objs.size],_,_,H1,rfl,I1.kept (t' := s1.toks) fun b o e => get?_push_of_some _ e,GP a _,⟨_,get?_push_size _ rfl,rfl,rfl⟩,fun b hb => ?_,q⟩;have e : b = s1.heap.objs.size := by simpa using hb
 subst e;exact I1.fpOk (le_refl _) (I1.hok.fresh (le_refl _))
theorem pi_tup {l : Expr} {tl : TE} (hl : PE X l tl) : PI X tg l (iTup X.K tl) := by
 intro pins s σ H R I h;refine thn (hl pins s σ H _ I h) fun v s1 ⟨x,H1,I1,r1,q1⟩ => ?_
 obtain ⟨a,e,⟨xs,hq⟩,q⟩ := q1;subst e;cases r1;obtain ⟨its,rv,p,hz⟩ := I1.tuple hq;refine wpAny_pyIter_tuple (show s1.heap.IsTuple a its.toArray from p) ?_;refine ⟨s1.heap.objs.size,[s1.heap.objs.size],_,_,H1,rfl,I1.kept (t' := s1.toks) fun b o e => get?_push_of_some _ e,uh a _,⟨_,get?_push_size _ rfl,rfl,rfl⟩,fun b hb => ?_,q⟩;have e : b = s1.heap.objs.size := by simpa using hb
 subst e;exact I1.fpOk (le_refl _) (I1.hok.fresh (le_refl _))
theorem zAd {pins : List (Addr × Obj)} {σ : St} {H : Hp} {s : Shared} {R : It → Hp → Prop} {E : Value → Shared → Prop} {lo hi : Int} {t u v : Tok} {tk : Nat} (I : Inv X pins σ H s) (h1 : -(2 ^ 62) ≤ lo) (h2 : lo < 2 ^ 62) (h3 : -(2 ^ 62) ≤ hi) (h4 : hi < 2 ^ 62)
  (q : R (Itr lo (hi - lo).toNat) H) : wpAny (model X.prog X.w) X.A (pyIter (.ref s.heap.objs.size)) (PIE X pins σ tg R) E { s with heap := s.heap.push { cls := .type "range",data := .fields #[.int lo t,.int hi u,.int 1 v] },toks := tk } := by
 refine wpAny_pyIter_range (IsRange.new ..) (small_one h1 h2 h3 h4) ?_;have I1 : Inv X pins σ H { s with heap := s.heap.push { cls := .type "range",data := .fields #[.int lo t,.int hi u,.int 1 v] },toks := tk } := I.kept fun b o e => get?_push_of_some _ e
 refine ⟨(s.heap.push { cls := .type "range",data := .fields #[.int lo t,.int hi u,.int 1 v] }).objs.size,[(s.heap.push { cls := .type "range",data := .fields #[.int lo t,.int hi u,.int 1 v] }).objs.size],_,_,H,rfl,
  I1.kept (t' := tk) fun b o e => get?_push_of_some _ e,ui _ lo (hi - lo).toNat,?_,fun b hb => ?_,q⟩
 ·have e1 : lo + ((0 : Nat) : Int) * 1 = lo := by simp
  have e2 : (((hi - lo).toNat : Nat) : Int) - ((0 : Nat) : Int) = Builtin.Range.rangeSize lo hi 1 := by rw [rangeSize_one]; split <;> omega
  show IsRangeIter _ _ (lo + ((0 : Nat) : Int) * 1) ((((hi - lo).toNat : Nat) : Int) - ((0 : Nat) : Int)) 1
  rw [e1,e2];exact get?_push_size _ rfl
 ·have e : b = (s.heap.push { cls := .type "range",data := .fields #[.int lo t,.int hi u,.int 1 v] }).objs.size := by simpa using hb
  subst e;exact I1.fpOk (le_refl _) (I1.hok.fresh (le_refl _))
def iRng1 (ta : TA) : TI := fun σ H R => ta σ H fun vs H1 => ∃ j : Int,vs = [.int j] ∧ -(2 ^ 62) ≤ j ∧ j < 2 ^ 62 ∧ R (Itr 0 j.toNat) H1
theorem Z9 {a : Expr} {ta : TA} {p pos : Pos} (hg : Gl X "range") (hm : X.mg "range" = none) (ha : PA X [a] ta) (hs : starEach [a] X.env = [(false,eval a X.env)] := by rfl) : PI X tg (.Call (.Name "range" p) [a] [] pos) (iRng1 ta) := by
 intro pins s σ H R I h;refine Call_ (Z8 I hg hm boot_range (PyProof.Rows.callWith_type1 (thn (ha pos pins s σ H _ I h) fun us s1 ⟨vs,H1,I1,r1,q1⟩ => ?_) hs rfl));obtain ⟨j,e,q1,q2,q⟩ := q1;subst e;cases r1 with
 | cons r rr =>
  cases rr;obtain ⟨t,rfl⟩ := r;exact call_range_1 (zAd I1 (by omega) (by omega) q1 q2 (by simpa using q))
def tFor (wi : TI) (g : TG) (tb : TS) : TS := fun D σ H => wi σ H fun J H1 => ∃ W : Nat → Nat → St → Hp → Prop,(∃ m,W 0 m σ H1) ∧ ∀ i m σ H,W i m σ H →
 (J.stop i H ∧ D.nx σ H) ∨ (J.go i H ∧ ∃ N : St → Hp → Prop,(∀ σ' H',N σ' H' → ∃ m',m' < m ∧ W (i + 1) m' σ' H') ∧ ∀ x H',J.yld i H x H' → g x σ H' fun σ2 H2 => tb { D with nx := N,ct := N,bk := D.nx } σ2 H2)
def WA (fp : List Addr) (h : Heap) : List (Addr × Obj) := fp.filterMap fun b => (h.get? b).map fun o => (b,o)
theorem j0 {fp : List Addr} {h : Heap} {b : Addr} {o : Obj} (hb : b ∈ fp) (e : h.get? b = some o) : (b,o) ∈ WA fp h := mem_filterMap.mpr ⟨b,hb,by rw [e]; rfl⟩
theorem GR {fp : List Addr} {h : Heap} {p : Addr × Obj} (hp : p ∈ WA fp h) : p.1 ∈ fp ∧ h.get? p.1 = some p.2 := by
 obtain ⟨b,hb,e⟩ := mem_filterMap.mp hp;cases q : h.get? b with
 | none => rw [q] at e; cases e
 | some o =>
  rw [q] at e;have e' : (b,o) = p := Option.some.inj e;subst e';exact ⟨hb,q⟩
theorem Inv.pinned {pins : List (Addr × Obj)} {σ : St} {H : Hp} {s : Shared} {fp : List Addr} (I : Inv X pins σ H s) (hf : ∀ b ∈ fp,GB X pins H b) (ho : ∀ b ∈ fp,∃ o,s.heap.get? b = some o ∧ ∀ v,o.data ≠ .cell v) : Inv X (pins ++ WA fp s.heap) σ H s :=
 I.pins_of fun p hp => (mem_append.mp hp).elim (fun z => I.pin p (mem_append_right _ z)) fun z => by
  obtain ⟨hb,e⟩ := GR z;obtain ⟨f0,f1,f2,_⟩ := hf p.1 hb;obtain ⟨o,e',d⟩ := ho p.1 hb;rw [e] at e'; cases e';exact ⟨e,f0,f1,f2,d⟩
theorem Inv.unpinned {pins pl : List (Addr × Obj)} {σ : St} {H : Hp} {s : Shared} (I : Inv X (pins ++ pl) σ H s) : Inv X pins σ H s := I.pins_of fun p hp => I.pin p (mem_append_right _ (mem_append_left _ hp))
theorem GS {iter : Expr} {body : List Stmt} {wi : TI} {g : TG} {tb : TS} {pos : Pos} (hp : PassesOwn (model X.prog X.w) X.A X.env X.xe) (hc : X.calm = true) (hi : PI X tg iter wi) (hg : PG X tg g) (hb : PSs X body tb)
  (hs : ∀ x,foldedSetIterable iter X.env x = pure x := by intro _; rfl) : PS X (.For tg iter body [] pos) (tFor wi g tb) := by
 intro pins s σ H D I h;refine wpAny_For (thn (hi pins s σ H _ I h) fun v s1 h1 => thn h1 fun itv s2 h2 => ?_) hs;obtain ⟨it,fp,tn,J,H2,e,I2,T,st2,f2,W,⟨m0,w0⟩,turn⟩ := h2;subst e
 -- what stays true of the iterator's objects through the loop
 have stat : ∀ {H' : Hp},(∀ b ∈ fp,H' b = none) → ∀ b ∈ fp,GB X pins H' b := fun hn b hb => ⟨hn b hb,(f2 b hb).2⟩
 refine codeAny_forLoop_any (fun n s' => ∃ i σ' H',Inv X pins σ' H' s' ∧ tn i s'.heap ∧ (∀ b ∈ fp,H' b = none) ∧ W i n σ' H') ?_ m0 ⟨0,σ,H2,I2,st2,fun b hb => (f2 b hb).1,w0⟩
 rintro n s3 ⟨i,σ3,H3,I3,st3,fr3,w3⟩
 rcases turn i n σ3 H3 w3 with ⟨stop,qn⟩ | ⟨go,N,hN,step⟩
 ·refine wpAny_passesOwn hp (thn (T.done X rfl rfl rfl hc i pins s3 σ3 H3 X.xe I3 (stat fr3) st3 stop) fun r s4 ⟨hr,I4⟩ => ?_)
  subst hr;exact wpAny_execs_nil ⟨σ3,H3,I4,qn⟩
 ·refine wpAny_passesOwn hp (thn (T.item X rfl rfl rfl hc i pins s3 σ3 H3 X.xe I3 (stat fr3) st3 go) fun r s4 ⟨u,hr,h4⟩ => ?_)
  subst hr;refine wpAny_passesOwn hp (thn h4 fun _ s5 ⟨x,H5,I5,r5,y5,st5,fr5⟩ => ?_);have I5' := I5.pinned (stat fr5) (T.obj _ _ st5);refine wpAny_passesOwn hp (thn (hg _ s5 σ3 H5 x u _ I5' r5 (step x H5 y5)) fun _ s6 ⟨σ6,H6,I6,q6⟩ => ?_);refine wpAny_passesOwn hp (thn (hb _ s6 σ6 H6 _ I6 q6) fun f s7 q7 => ?_);have again : ∀ {σ7 : St} {H7 : Hp},Inv X (pins ++ WA fp s5.heap) σ7 H7 s7 → N σ7 H7 → ∃ m,m < n ∧ ∃ i σ' H',Inv X pins σ' H' s7 ∧ tn i s7.heap ∧ (∀ b ∈ fp,H' b = none) ∧ W i m σ' H' := fun {σ7 H7} I7 n7 => by
   obtain ⟨m',hm,w7⟩ := hN σ7 H7 n7;refine ⟨m',hm,i + 1,σ7,H7,I7.unpinned,T.keep _ _ _ st5 fun b hb o e => (I7.pin (b,o) (mem_append_right _ (mem_append_right _ (j0 hb e)))).1,fun b hb => ?_,w7⟩;obtain ⟨o,e,d⟩ := T.obj _ _ st5 b hb;exact (I7.pin (b,o) (mem_append_right _ (mem_append_right _ (j0 hb e)))).2.1
  cases f with
  | next => obtain ⟨σ7,H7,I7,n7⟩ := q7; exact again I7 n7
  | cont => obtain ⟨σ7,H7,I7,n7⟩ := q7; exact again I7 n7
  | brk => obtain ⟨σ7,H7,I7,q7⟩ := q7; exact ⟨σ7,H7,I7.unpinned,q7⟩
  | ret v => obtain ⟨x7,σ7,H7,I7,r7,q7⟩ := q7; exact ⟨x7,σ7,H7,I7.unpinned,r7,q7⟩
end
theorem zAe {K : PySem.W.Frag} {a : Addr} {xs : List V} {g : TG} {tb : TS} {D : Ends} {σ : St} {H : Hp} (Pv : Nat → St → Hp → Prop) (h0 : Pv 0 σ H) (hl : ∀ i σ H,i ≤ xs.length → Pv i σ H → SqL K H a xs)
  (hs : ∀ i x σ H,xs[i]? = some x → Pv i σ H → g x σ H fun σ2 H2 => tb { D with nx := Pv (i + 1),ct := Pv (i + 1),bk := D.nx } σ2 H2) (hd : ∀ σ H,Pv xs.length σ H → D.nx σ H) :
  ∃ W : Nat → Nat → St → Hp → Prop,(∃ m,W 0 m σ H) ∧ ∀ i m σ H,W i m σ H →
   ((Itl K a).stop i H ∧ D.nx σ H) ∨ ((Itl K a).go i H ∧ ∃ N : St → Hp → Prop,(∀ σ' H',N σ' H' → ∃ m',m' < m ∧ W (i + 1) m' σ' H') ∧ ∀ x H',(Itl K a).yld i H x H' → g x σ H' fun σ2 H2 => tb { D with nx := N,ct := N,bk := D.nx } σ2 H2) := by
 refine ⟨fun i m σ H => m = xs.length - i ∧ i ≤ xs.length ∧ Pv i σ H,⟨xs.length,by simp,zero_le _,h0⟩,?_⟩
 rintro i m σ H ⟨rfl,hi,p⟩
 have q := hl i σ H hi p;by_cases hlt : i < xs.length
 ·refine .inr ⟨⟨xs,xs[i],q,by simp [hlt]⟩,Pv (i + 1),fun σ' H' p' => ⟨xs.length - (i + 1),by omega,rfl,hlt,p'⟩,fun x H' y => ?_⟩
  obtain ⟨e,y⟩ := y;subst e;exact hs i x σ _ (y xs q) p
 ·have e : i = xs.length := by omega
  subst e;exact .inl ⟨⟨xs,q,le_refl _⟩,hd σ H p⟩
theorem GT {lo : Int} {n : Nat} {g : TG} {tb : TS} {D : Ends} {σ : St} {H : Hp} (Pv : Nat → St → Hp → Prop) (h0 : Pv 0 σ H)
  (hs : ∀ i σ H,i < n → Pv i σ H → g (.int (lo + i)) σ H fun σ2 H2 => tb { D with nx := Pv (i + 1),ct := Pv (i + 1),bk := D.nx } σ2 H2) (hd : ∀ σ H,Pv n σ H → D.nx σ H) :
  ∃ W : Nat → Nat → St → Hp → Prop,(∃ m,W 0 m σ H) ∧ ∀ i m σ H,W i m σ H →
   ((Itr lo n).stop i H ∧ D.nx σ H) ∨ ((Itr lo n).go i H ∧ ∃ N : St → Hp → Prop,(∀ σ' H',N σ' H' → ∃ m',m' < m ∧ W (i + 1) m' σ' H') ∧ ∀ x H',(Itr lo n).yld i H x H' → g x σ H' fun σ2 H2 => tb { D with nx := N,ct := N,bk := D.nx } σ2 H2) := by
 refine ⟨fun i m σ H => m = n - i ∧ i ≤ n ∧ Pv i σ H,⟨n,by simp,zero_le _,h0⟩,?_⟩
 rintro i m σ H ⟨rfl,hi,p⟩
 by_cases hlt : i < n
 ·refine .inr ⟨hlt,Pv (i + 1),fun σ' H' p' => ⟨n - (i + 1),by omega,rfl,hlt,p'⟩,fun x H' y => ?_⟩
  obtain ⟨e,y⟩ := y;subst e y;exact hs i σ _ hlt p
 ·have e : i = n := by omega
  subst e;exact .inl ⟨le_refl _,hd σ H p⟩
end L2
namespace L2
open PySem PySem.Spec PyProof.Rows
abbrev R2 := V → V → Hp → VK → Prop
def OpR (X : Cx) (f : Value → Value → Sem Value) (r : R2) : Prop :=
 ∀ (pins : List (Addr × Obj)) (s : Shared) (σ : St) (H : Hp) (x y : V) (v u : Value) (Q : VK),Inv X pins σ H s → zw x v → zw y u → r x y H Q →
  wpAny (model X.prog X.w) X.A (f v u) (EP X pins σ Q) X.xe s
def UnR (X : Cx) (f : Value → Sem Value) (r : V → Hp → VK → Prop) : Prop :=
 ∀ (pins : List (Addr × Obj)) (s : Shared) (σ : St) (H : Hp) (x : V) (v : Value) (Q : VK),Inv X pins σ H s → zw x v → r x H Q →
  wpAny (model X.prog X.w) X.A (f v) (EP X pins σ Q) X.xe s
def yb (X : Cx) (f : Value) (r : List V → Hp → VK → Prop) : Prop :=
 ∀ (pins : List (Addr × Obj)) (s : Shared) (σ : St) (H : Hp) (xs : List V) (us : List Value) (Q : VK),Inv X pins σ H s → zb xs us → r xs H Q →
  wpAny (model X.prog X.w) X.A (call f us) (EP X pins σ Q) X.xe s
def tOp (r : R2) (ta tb : TE) : TE := fun σ H Q => ta σ H fun x H1 => tb σ H1 fun y H2 => r x y H2 Q
def tUn (r : V → Hp → VK → Prop) (ta : TE) : TE := fun σ H Q => ta σ H fun x H1 => r x H1 Q
def rI (C : Int → Int → Prop) (g : Int → Int → V) : R2 := fun x y H Q => ∃ i j,x = .int i ∧ y = .int j ∧ C i j ∧ Q (g i j) H
def rI0 (g : Int → Int → V) : R2 := fun x y H Q => ∃ i j,x = .int i ∧ y = .int j ∧ Q (g i j) H
def rU (g : Int → V) : V → Hp → VK → Prop := fun x H Q => ∃ i,x = .int i ∧ Q (g i) H
section
variable {X : Cx} {a b c : Expr} {ta tb tc : TE} {pos : Pos}
theorem binT (ha : PE X a ta) (hb : PE X b tb) {pins : List (Addr × Obj)} {s : Shared} {σ : St} {H : Hp} {R : V → V → Hp → Prop} (I : Inv X pins σ H s)
  (h : ta σ H fun x H1 => tb σ H1 fun y H2 => R x y H2) {Q : Value → Shared → Prop} {f : Value → Value → Sem Value}
  (hf : ∀ v u s2 x y H2,Inv X pins σ H2 s2 → zw x v → zw y u → R x y H2 → wpAny (model X.prog X.w) X.A (f v u) Q X.xe s2) :
  wpAny (model X.prog X.w) X.A (eval a X.env) (fun v s₁ => wpAny (model X.prog X.w) X.A (eval b X.env) (fun u s₂ => wpAny (model X.prog X.w) X.A (f v u) Q X.xe s₂) X.xe s₁) X.xe s := by
 refine thn (ha pins s σ H _ I h) fun v s1 ⟨x,H1,I1,r1,q1⟩ => ?_
 refine thn (hb pins s1 σ H1 _ I1 q1) fun u s2 ⟨y,H2,I2,r2,q2⟩ => ?_
 exact hf v u s2 x y H2 I2 r1 r2 q2
theorem pe_op {op : Operator} {r : R2} (ho : OpR X (binaryOp op) r) (ha : PE X a ta) (hb : PE X b tb) : PE X (.BinOp a op b pos) (tOp r ta tb) := by
 intro pins s σ H Q I h;exact wpAny_BinOp (binT ha hb I h fun v u s2 x y H2 I2 rx ry q => ho pins s2 σ H2 x y v u Q I2 rx ry q)
theorem pe_un {op : UnaryOp} {r : V → Hp → VK → Prop} (ho : UnR X (unaryOp op) r) (ha : PE X a ta) : PE X (.UnaryOp op a pos) (tUn r ta) := by
 intro pins s σ H Q I h;exact UnaryOp_ (thn (ha pins s σ H _ I h) fun v s1 ⟨x,H1,I1,r1,q1⟩ => ho pins s1 σ H1 x v Q I1 r1 q1)
theorem opI {f : Value → Value → Sem Value} {C : Int → Int → Prop} {g : Int → Int → Int}
  (rule : ∀ (i j : Int) (t u : Tok) (s : Shared) (Q : Value → Shared → Prop) (E : Value → Shared → Prop),C i j → Q (.int (g i j) s.toks) { s with toks := s.toks + 1 } → wpAny (model X.prog X.w) X.A (f (.int i t) (.int j u)) Q E s) :
  OpR X f (rI C fun i j => .int (g i j)) := by
 intro pins s σ H x y v u Q I rx ry h;obtain ⟨i,j,rfl,rfl,hc,q⟩ := h;obtain ⟨t,rfl⟩ := rx;obtain ⟨t',rfl⟩ := ry;exact rule i j t t' s _ _ hc ⟨.int (g i j),H,I.tok _,⟨_,rfl⟩,q⟩
theorem opI0 {f : Value → Value → Sem Value} {g : Int → Int → Int}
  (rule : ∀ (i j : Int) (t u : Tok) (s : Shared) (Q : Value → Shared → Prop) (E : Value → Shared → Prop),Q (.int (g i j) s.toks) { s with toks := s.toks + 1 } → wpAny (model X.prog X.w) X.A (f (.int i t) (.int j u)) Q E s) :
  OpR X f (rI0 fun i j => .int (g i j)) := by
 intro pins s σ H x y v u Q I rx ry h;obtain ⟨i,j,rfl,rfl,q⟩ := h;obtain ⟨t,rfl⟩ := rx;obtain ⟨t',rfl⟩ := ry;exact rule i j t t' s _ _ ⟨.int (g i j),H,I.tok _,⟨_,rfl⟩,q⟩
theorem opB0 {f : Value → Value → Sem Value} {g : Int → Int → Bool}
  (rule : ∀ (i j : Int) (t u : Tok) (s : Shared) (Q : Value → Shared → Prop) (E : Value → Shared → Prop),Q (.bool (g i j)) s → wpAny (model X.prog X.w) X.A (f (.int i t) (.int j u)) Q E s) :
  OpR X f (rI0 fun i j => .bl (g i j)) := by
 intro pins s σ H x y v u Q I rx ry h;obtain ⟨i,j,rfl,rfl,q⟩ := h;obtain ⟨t,rfl⟩ := rx;obtain ⟨t',rfl⟩ := ry;exact rule i j t t' s _ _ ⟨.bl (g i j),H,I,rfl,q⟩
def CPow (i j : Int) : Prop := 0 ≤ j ∧ j ≤ 1000000 ∧ i.natAbs < 2 ^ 64
def CMul (i j : Int) : Prop := (-(2 ^ 64) < i ∧ i < 2 ^ 64) ∨ (-(2 ^ 64) < j ∧ j < 2 ^ 64)
theorem CMul.ok {i j : Int} (h : CMul i j) : IntMulOk i j := by
 rcases h with ⟨h1,h2⟩ | ⟨h1,h2⟩
 ·exact .of_left (intBits_le_64 h1 h2)
 ·exact .of_right (intBits_le_64 h1 h2)
theorem op_add : OpR X (binaryOp .Add) (rI0 fun i j => .int (i + j)) := opI0 fun _ _ _ _ _ _ _ q => add_int q
theorem op_sub : OpR X (binaryOp .Sub) (rI0 fun i j => .int (i - j)) := opI0 fun _ _ _ _ _ _ _ q => sub_int q
theorem op_mod : OpR X (binaryOp .Mod) (rI (fun _ j => 0 < j) fun i j => .int (i % j)) := opI fun i j _ _ _ _ _ hc q => by
 have h1 : (0 : Int) < j := hc;exact mod_int' (by omega) (by rw [Int.fmod_eq_emod_of_nonneg i (by omega)]; exact q)
theorem op_pow : OpR X (binaryOp .Pow) (rI CPow fun i j => .int (i ^ j.toNat)) := opI fun _ _ _ _ _ _ _ hc q => pow_int_small hc.1 hc.2.1 hc.2.2 q
theorem unI {f : Value → Sem Value} {g : Int → Int}
  (rule : ∀ (i : Int) (t : Tok) (s : Shared) (Q : Value → Shared → Prop) (E : Value → Shared → Prop),Q (.int (g i) s.toks) { s with toks := s.toks + 1 } → wpAny (model X.prog X.w) X.A (f (.int i t)) Q E s) :
  UnR X f (rU fun i => .int (g i)) := by
 intro pins s σ H x v Q I rx h;obtain ⟨i,rfl,q⟩ := h;obtain ⟨t,rfl⟩ := rx;exact rule i t s _ _ ⟨.int (g i),H,I.tok _,⟨_,rfl⟩,q⟩
theorem zB0 : UnR X (unaryOp .USub) (rU fun i => .int (-i)) := unI fun _ _ _ _ _ q => neg_int q
end
def scal : V → V → Bool
 | .non,.non => true | .non,.int _ => true | .int _,.non => true | .non,.bl _ => true | .bl _,.non => true | .non,.str _ => true | .str _,.non => true
 | .int _,.int _ => true | .bl _,.bl _ => true | .str _,.str _ => true | .byt _,.byt _ => true
 | .int _,.str _ => true | .str _,.int _ => true | .bl _,.str _ => true | .str _,.bl _ => true
 | _,_ => false
def rEq : R2 := fun x y H Q => scal x y = true ∧ Q (.bl (decide (x = y))) H
def rNe : R2 := fun x y H Q => scal x y = true ∧ Q (.bl (!decide (x = y))) H
theorem GU {i j : Int} : decide (V.int i = V.int j) = (i == j) := by
 rw [Bool.eq_iff_iff];simp
theorem zB1 {i j : Bool} : decide (V.bl i = V.bl j) = (i == j) := by
 rw [Bool.eq_iff_iff];simp
theorem GV {i j : Str} : decide (V.str i = V.str j) = (i == j) := by
 rw [Bool.eq_iff_iff];simp
theorem GW {i j : Array UInt8} : decide (V.byt i = V.byt j) = (i.toList == j.toList) := by
 rw [Bool.eq_iff_iff];cases i;cases j;simp
section
variable {X : Cx} {a b c : Expr} {ta tb tc : TE} {pos : Pos}
theorem zm {pins : List (Addr × Obj)} {σ : St} {H : Hp} {s : Shared} {Q : VK} {k k' : Bool} (I : Inv X pins σ H s) (q : Q (.bl k) H) (e : k = k') : EP X pins σ Q (.bool k') s := by
 subst e;exact ⟨.bl k,H,I,rfl,q⟩
theorem op_eq : OpR X (compareOp .Eq) rEq := by
 intro pins s σ H x y v u Q I rx ry h;obtain ⟨hs,q⟩ := h;cases x with
 | non =>
  cases rx;cases y with
  | non => cases ry; exact PySem.EqNone.eq_none_none (zm I q (by simp))
  | bl j => cases ry; exact PySem.EqNone.eq_none_bool (zm I q (by simp))
  | int j => obtain ⟨t',rfl⟩ := ry; exact PySem.EqNone.eq_none_int (zm I q (by simp))
  | str j => obtain ⟨t',rfl⟩ := ry; exact PySem.EqNone.eq_none_str (zm I q (by simp))
  | _ => exact absurd (show false = true from hs) Bool.false_ne_true
 | bl i =>
  cases rx;cases y with
  | non => cases ry; exact PySem.EqNone.eq_bool_none (zm I q (by simp))
  | bl j => cases ry; exact eq_bool (zm I q zB1)
  | str j => obtain ⟨t',rfl⟩ := ry; exact PySem.EqMixed.eq_bool_str (zm I q (by simp))
  | _ => exact absurd (show false = true from hs) Bool.false_ne_true
 | int i =>
  obtain ⟨t,rfl⟩ := rx;cases y with
  | non => cases ry; exact PySem.EqNone.eq_int_none (zm I q (by simp))
  | int j => obtain ⟨t',rfl⟩ := ry; exact eq_int (zm I q GU)
  | str j => obtain ⟨t',rfl⟩ := ry; exact PySem.EqMixed.eq_int_str (zm I q (by simp))
  | _ => exact absurd (show false = true from hs) Bool.false_ne_true
 | str i =>
  obtain ⟨t,rfl⟩ := rx;cases y with
  | non => cases ry; exact PySem.EqNone.eq_str_none (zm I q (by simp))
  | bl j => cases ry; exact PySem.EqMixed.eq_str_bool (zm I q (by simp))
  | int j => obtain ⟨t',rfl⟩ := ry; exact PySem.EqMixed.eq_str_int (zm I q (by simp))
  | str j => obtain ⟨t',rfl⟩ := ry; exact eq_str (zm I q GV)
  | _ => exact absurd (show false = true from hs) Bool.false_ne_true
 | byt i =>
  obtain ⟨t,rfl⟩ := rx;cases y with
  | byt j => obtain ⟨t',rfl⟩ := ry; exact PySem.W.eq_bytes (zm I q GW)
  | _ => exact absurd (show false = true from hs) Bool.false_ne_true
 | _ => cases y <;> exact absurd (show false = true from hs) Bool.false_ne_true
theorem op_ne : OpR X (compareOp .NotEq) rNe := by
 intro pins s σ H x y v u Q I rx ry h;obtain ⟨hs,q⟩ := h;cases x with
 | non =>
  cases rx;cases y with
  | non => cases ry; exact PySem.EqNone.ne_none_none (zm I q (by simp))
  | bl j => cases ry; exact PySem.EqNone.ne_none_bool (zm I q (by simp))
  | int j => obtain ⟨t',rfl⟩ := ry; exact PySem.EqNone.ne_none_int (zm I q (by simp))
  | str j => obtain ⟨t',rfl⟩ := ry; exact PySem.EqNone.ne_none_str (zm I q (by simp))
  | _ => exact absurd (show false = true from hs) Bool.false_ne_true
 | bl i =>
  cases rx;cases y with
  | non => cases ry; exact PySem.EqNone.ne_bool_none (zm I q (by simp))
  | bl j => cases ry; exact ne_bool (zm I q (congrArg not zB1))
  | str j => obtain ⟨t',rfl⟩ := ry; exact PySem.EqMixed.ne_bool_str (zm I q (by simp))
  | _ => exact absurd (show false = true from hs) Bool.false_ne_true
 | int i =>
  obtain ⟨t,rfl⟩ := rx;cases y with
  | non => cases ry; exact PySem.EqNone.ne_int_none (zm I q (by simp))
  | int j => obtain ⟨t',rfl⟩ := ry; exact ne_int (zm I q (congrArg not GU))
  | str j => obtain ⟨t',rfl⟩ := ry; exact PySem.EqMixed.ne_int_str (zm I q (by simp))
  | _ => exact absurd (show false = true from hs) Bool.false_ne_true
 | str i =>
  obtain ⟨t,rfl⟩ := rx;cases y with
  | non => cases ry; exact PySem.EqNone.ne_str_none (zm I q (by simp))
  | bl j => cases ry; exact PySem.EqMixed.ne_str_bool (zm I q (by simp))
  | int j => obtain ⟨t',rfl⟩ := ry; exact PySem.EqMixed.ne_str_int (zm I q (by simp))
  | str j => obtain ⟨t',rfl⟩ := ry; exact ne_str (zm I q (congrArg not GV))
  | _ => exact absurd (show false = true from hs) Bool.false_ne_true
 | byt i =>
  obtain ⟨t,rfl⟩ := rx;cases y with
  | byt j => obtain ⟨t',rfl⟩ := ry; exact PySem.W.ne_bytes (zm I q (congrArg not GW))
  | _ => exact absurd (show false = true from hs) Bool.false_ne_true
 | _ => cases y <;> exact absurd (show false = true from hs) Bool.false_ne_true
theorem op_lt : OpR X (compareOp .Lt) (rI0 fun i j => .bl (decide (i < j))) := opB0 fun _ _ _ _ _ _ _ q => lt_int q
theorem op_le : OpR X (compareOp .LtE) (rI0 fun i j => .bl (decide (i ≤ j))) := opB0 fun _ _ _ _ _ _ _ q => le_int q
theorem op_gt : OpR X (compareOp .Gt) (rI0 fun i j => .bl (decide (j < i))) := opB0 fun _ _ _ _ _ _ _ q => gt_int q
theorem op_ge : OpR X (compareOp .GtE) (rI0 fun i j => .bl (decide (j ≤ i))) := opB0 fun _ _ _ _ _ _ _ q => ge_int q
theorem OpR.or {f : Value → Value → Sem Value} {r r' : R2} (h : OpR X f r) (h' : OpR X f r') : OpR X f (fun x y H Q => r x y H Q ∨ r' x y H Q) := by
 intro pins s σ H x y v u Q I rx ry q;rcases q with q | q
 ·exact h pins s σ H x y v u Q I rx ry q
 ·exact h' pins s σ H x y v u Q I rx ry q
theorem pe_cmpR {op : CmpOp} {r : R2} (ho : OpR X (compareOp op) r) (ha : PE X a ta) (hb : PE X b tb) (hm : behindInMarks op b = false) : PE X (.Compare a [op] [b] pos) (tOp r ta tb) := by
 intro pins s σ H Q I h;exact wpAny_Compare1 (binT ha hb I h fun v u s2 x y H2 I2 rx ry q => ho pins s2 σ H2 x y v u Q I2 rx ry q) hm
def tTest (t : TE) : TT := fun σ H Q => t σ H fun x H' => ∃ k,x = .bl k ∧ Q k H'
theorem pt_cmpR {op : CmpOp} {r : R2} (ho : OpR X (compareOp op) r) (ha : PE X a ta) (hb : PE X b tb) (hm : behindInMarks op b = false) : PT X (.Compare a [op] [b] pos) (tTest (tOp r ta tb)) := by
 intro pins s σ H Q I h;refine wpAny_isTrue_Compare1 (thn (ha pins s σ H _ I h) fun v s1 ⟨x,H1,I1,r1,q1⟩ => thn (hb pins s1 σ H1 _ I1 q1) fun u s2 ⟨y,H2,I2,r2,q2⟩ =>
  thn (ho pins s2 σ H2 x y v u _ I2 r1 r2 q2) fun c s3 ⟨z,H3,I3,r3,k,e,q3⟩ => ?_) hm
 subst e;cases r3;exact wpAny_truthy_bool ⟨H3,I3,q3⟩
def GX (r r' : R2) (ta tb tc : TE) : TE := fun σ H Q => ta σ H fun x H1 => tb σ H1 fun y H2 => r x y H2 fun z H3 => ∃ k,z = .bl k ∧
 (if k = true then tc σ H3 fun w' H4 => r' y w' H4 Q else Q (.bl false) H3)
theorem zAf {op op' : CmpOp} {r r' : R2} (ho : OpR X (compareOp op) r) (ho' : OpR X (compareOp op') r') (ha : PE X a ta) (hb : PE X b tb) (hc : PE X c tc)
  (hm : lastMarks [op,op'] [b,c] = false := by with_unfolding_all rfl) : PE X (.Compare a [op,op'] [b,c] pos) (GX r r' ta tb tc) := by
 intro pins s σ H Q I h;refine Compare_chain (thn (ha pins s σ H _ I h) fun v s1 ⟨x,H1,I1,r1,q1⟩ => chain_link (thn (hb pins s1 σ H1 _ I1 q1) fun u s2 ⟨y,H2,I2,r2,q2⟩ =>
  thn (ho pins s2 σ H2 x y v u _ I2 r1 r2 q2) fun d s3 ⟨z,H3,I3,r3,k,e,q3⟩ => ?_)) hm
 subst e;cases r3;refine wpAny_truthy_bool ?_;cases k with
 | false => exact ite_ff ⟨.bl false,H3,I3,rfl,q3⟩
 | true => exact ite_tt (chain_last (thn (hc pins s3 σ H3 _ I3 q3) fun w' s4 ⟨z',H4,I4,r4,q4⟩ => ho' pins s4 σ H4 y z' u w' Q I4 r2 r4 q4))
theorem zAg {op op' : CmpOp} {r r' : R2} (ho : OpR X (compareOp op) r) (ho' : OpR X (compareOp op') r') (ha : PE X a ta) (hb : PE X b tb) (hc : PE X c tc)
  (hm : lastMarks [op,op'] [b,c] = false := by with_unfolding_all rfl) : PT X (.Compare a [op,op'] [b,c] pos) (tTest (GX r r' ta tb tc)) := by
 intro pins s σ H Q I h;refine isTrue_chain (thn (ha pins s σ H _ I h) fun v s1 ⟨x,H1,I1,r1,q1⟩ => test_link (thn (hb pins s1 σ H1 _ I1 q1) fun u s2 ⟨y,H2,I2,r2,q2⟩ =>
  thn (ho pins s2 σ H2 x y v u _ I2 r1 r2 q2) fun d s3 ⟨z,H3,I3,r3,k,e,q3⟩ => ?_)) hm
 subst e;cases r3;refine wpAny_truthy_bool ?_;cases k with
 | false =>
  obtain ⟨k',e',q'⟩ := q3;cases e';exact ite_ff ⟨H3,I3,q'⟩
 | true =>
  refine ite_tt (test_last (thn (hc pins s3 σ H3 _ I3 q3) fun w' s4 ⟨z',H4,I4,r4,q4⟩ => thn (ho' pins s4 σ H4 y z' u w' _ I4 r2 r4 q4) fun d' s5 ⟨z2,H5,I5,r5,k2,e2,q5⟩ => ?_));subst e2;cases r5;exact wpAny_truthy_bool ⟨H5,I5,q5⟩
theorem vm : (sizeLine : Nat) < 2 ^ 63 := by rw [sizeLine_eq]; decide
theorem Ym {x : V} {us : List Value} (r : zb [x] us) : ∃ u,us = [u] ∧ zw x u := by
 cases r with
 | cons r1 r2 => cases r2; exact ⟨_,rfl,r1⟩
theorem zAh {x y : V} {us : List Value} (r : zb [x,y] us) : ∃ u w',us = [u,w'] ∧ zw x u ∧ zw y w' := by
 cases r with
 | cons r1 r2 =>
  cases r2 with
  | cons r3 r4 => cases r4; exact ⟨_,_,rfl,r1,r3⟩
theorem GY (hc : X.calm = true) : yb X (.builtin "max") (fun xs H Q => ∃ i j,xs = [.int i,.int j] ∧ Q (.int (if j > i then j else i)) H) := by
 intro pins s σ H xs us Q I r h;obtain ⟨i,j,rfl,q⟩ := h;obtain ⟨u,w',rfl,⟨t,rfl⟩,⟨t',rfl⟩⟩ := zAh r;refine max_two_ints (I.ok.hd hc) fun h' tk k => ⟨_,H,I.kept k,?_,q⟩
 by_cases hj : j > i
 ·rw [if_pos hj,if_pos hj]; exact ⟨_,rfl⟩
 ·rw [if_neg hj,if_neg hj]; exact ⟨_,rfl⟩
theorem GZ (hc : X.calm = true) : yb X (.builtin "min") (fun xs H Q => ∃ i j,xs = [.int i,.int j] ∧ Q (.int (if j < i then j else i)) H) := by
 intro pins s σ H xs us Q I r h;obtain ⟨i,j,rfl,q⟩ := h;obtain ⟨u,w',rfl,⟨t,rfl⟩,⟨t',rfl⟩⟩ := zAh r;refine min_two_ints (I.ok.hd hc) fun h' tk k => ⟨_,H,I.kept k,?_,q⟩
 by_cases hj : j < i
 ·rw [if_pos hj,if_pos hj]; exact ⟨_,rfl⟩
 ·rw [if_neg hj,if_neg hj]; exact ⟨_,rfl⟩
theorem Ga : yb X (.type "int") (fun xs H Q => (∃ i,xs = [.int i] ∧ Q (.int i) H) ∨ ∃ k,xs = [.bl k] ∧ Q (.int (if k then 1 else 0)) H) := by
 intro pins s σ H xs us Q I r h;rcases h with ⟨i,rfl,q⟩ | ⟨k,rfl,q⟩
 ·obtain ⟨u,rfl,t,rfl⟩ := Ym r
  exact call_int_int ⟨.int i,H,I,⟨_,rfl⟩,q⟩
 ·obtain ⟨u,rfl,r1⟩ := Ym r
  cases r1;exact call_int_bool ⟨.int (if k then 1 else 0),H,I.tok _,⟨_,rfl⟩,q⟩
end
end L2
namespace L2
open PySem PySem.Spec PyProof.Rows
structure ObjM (h : Heap) (x dx C : Addr) (mA : Str → Option Value) : Prop where
 obj : h.get? x = some (instObj C dx)
 ns : h.Ns1 dx mA
 ne : dx ≠ x
section
variable {prog : Program} {w : World} {A : Around} {E : Value → Shared → Prop} {s : Shared} {K : PySem.W.Frag} {x dx C f : Addr} {mA : Str → Option Value} {name : Str} {v : Value}
end
section
variable {P : Program} {w : World} {H H' : Hp} {h h' : Heap} {a C dx : Addr} {fs fs' : List (Str × V)}
end
structure Cls (K : PySem.W.Frag) (C : Addr) : Prop where
 pg : plainGet K C Str.empty = true
 hd : PySem.W.hasDictIn K C = true
 po : PySem.W.plainOver K C = true
 sa : findIn K (.ref C) "__setattr__" = some (some (.builtin "object.__setattr__"))
theorem Cls.get {K : PySem.W.Frag} {C : Addr} (c : Cls K C) (f : Str) : plainGet K C f = true := c.pg
structure Con (K : PySem.W.Frag) (C : Addr) (f : Str) (v : V) (u : Value) : Prop where
 at_ : findIn K (.ref C) f = some (some u)
 rel : zw v u
 get : specialIn K u "__get__" = some none
 cp : PySem.W.copiedNames.contains f = false
structure Meth (K : PySem.W.Frag) (C : Addr) (m : Str) (f : Addr) : Prop where
 at_ : findIn K (.ref C) m = some (some (.ref f))
 fn : PySem.W.isFn K (.ref f) = true
 kp : keepIn K (.ref f) = true
section
variable {X : Cx} {pins : List (Addr × Obj)} {σ : St} {H : Hp} {s : Shared} {a C dx : Addr} {fs : List (Str × V)} {f : Str} {v : V} {A : Around} {E : Value → Shared → Prop}
theorem Inv.made (I : Inv X pins σ H s) : Inv X pins σ (upd (upd H s.heap.objs.size (.own (s.heap.objs.size + 1))) (s.heap.objs.size + 1) (.ins C s.heap.objs.size []))
  { s with heap := (s.heap.push emptyDict).push (instObj C s.heap.objs.size) } := by
 have e1 : (s.heap.push emptyDict).get? s.heap.objs.size = some emptyDict := get?_push_size s.heap rfl;have e2 : ((s.heap.push emptyDict).push (instObj C s.heap.objs.size)).get? (s.heap.objs.size + 1) = some (instObj C s.heap.objs.size) := by
  have := get?_push_size (s.heap.push emptyDict) (o := instObj C s.heap.objs.size) rfl
  rwa [size_push] at this
 have e3 : (s.heap.push emptyDict).Ns s.heap.objs.size (fun _ => none) := ⟨emptyDict,#[],_,e1,rfl,(fun e he => absurd he (by simp)),fun _ => rfl⟩;have I1 := I.laid (a := s.heap.objs.size) (o := .own (s.heap.objs.size + 1)) (h' := s.heap.push emptyDict) (t' := s.toks) (fun b u q => get?_push_of_some _ q) (le_refl _) ⟨_,e1⟩;refine I1.laid (a := s.heap.objs.size + 1) (o := .ins C s.heap.objs.size []) (t' := s.toks) (fun b u q => get?_push_of_some _ q) (Nat.le_of_eq (size_push _ _)) ?_;have ne : s.heap.objs.size ≠ s.heap.objs.size + 1 := ne_of_lt (lt_succ_self _);refine ⟨by rw [zY ne,yK],zero_le _,ne,e2,fun _ => none,(Heap.Ns1.of_empty e3).at fun o q => get?_push_of_some _ q,fun _ => True.intro,fun y hy => absurd rfl hy⟩
end
section
variable {X : Cx} {o e value : Expr} {f : Str} {pos pos' tpos : Pos} {ta tv : TE}
end
section
variable {X : Cx} {pins : List (Addr × Obj)} {σ : St} {H : Hp} {s : Shared} {A : Around} {E : Value → Shared → Prop} {Q : Value → Shared → Prop} {c : Value} {b : Bool}
inductive TyOf (K : PySem.W.Frag) (H : Hp) : V → Value → Prop where
 | non : TyOf K H .non (.type "NoneType")
 | bl (x : Bool) : TyOf K H (.bl x) (.type "bool")
 | int (i : Int) : TyOf K H (.int i) (.type "int")
 | str (x : Str) : TyOf K H (.str x) (.type "str")
 | flt (x : UInt64) : TyOf K H (.flt x) (.type "float")
 | lst {a : Addr} {xs : List V} (e : H a = some (.lst xs)) : TyOf K H (.ref a) (.type "list")
 | frz {a : Addr} {o : Obj} {xs : List V} (e : H a = some (.frz o (.lst xs))) : TyOf K H (.ref a) (.type "list")
 | tup {a : Addr} {xs : List V} (e : H a = some (.tup xs)) : TyOf K H (.ref a) (.type "tuple")
 | dK {a : Addr} {kvs : List (Key × V)} (e : H a = some (.dK kvs)) : TyOf K H (.ref a) (.type "dict")
 | dT {a : Addr} {kvs : List (List Key × V)} (e : H a = some (.dT kvs)) : TyOf K H (.ref a) (.type "dict")
 | ins {a C dx : Addr} {fs : List (Str × V)} (e : H a = some (.ins C dx fs)) (cl : Cls K C) (ha : findIn K (.ref C) "__class__" = some (some (.builtin "object.__class__")))
   (hn : specialIn K (.builtin "object.__class__") "__get__" = some (some (.builtin "getset_descriptor.__get__"))) (htk : takesIn K (.builtin "object.__class__") = some true)
   (hm : mroIn K C (.type "object") = some true) : TyOf K H (.ref a) (.ref C)
end
end L2
namespace L2
open PySem PySem.Spec PyProof.Rows
structure Room (k : Nat) (A : Around) : Prop where
 hd : A.handled = none
 gd : A.guards = some []
 dp : A.depth + 3 * k + 5 < recursionLimit
 un : A.units + 16 * k + 200 < cLine
theorem Room.mono {j k : Nat} {A : Around} (r : Room k A) (h : j ≤ k) : Room j A := ⟨r.hd,r.gd,by have := r.dp; omega,by have := r.un; omega⟩
theorem Room.deeper {k : Nat} {A : Around} (r : Room (k + 1) A) (env : Env) : Room k (A.deeper env) :=
 ⟨r.hd,r.gd,by have := r.dp; show A.depth + 1 + 3 * k + 5 < _; omega,by have := r.un; show A.units + 3 + 16 * k + 200 < _; omega⟩
theorem Room.in1 {k : Nat} {A : Around} (r : Room (k + 1) A) : Room k A.in1 :=
 ⟨r.hd,r.gd,by have := r.dp; show A.depth + 3 * k + 5 < _; omega,by have := r.un; show A.units + 1 + 16 * k + 200 < _; omega⟩
theorem Room.depth {k : Nat} {A : Around} (r : Room k A) : A.depth < recursionLimit := by have := r.dp; omega
theorem Room.units {k : Nat} {A : Around} (r : Room k A) : A.units + 64 < cLine := by have := r.un; omega
def tNil : TA := fun _ H Q => Q [] H
def zAi (ta : TE) (tr : TA) : TA := fun σ H Q => ta σ H fun x H1 => tr σ H1 fun xs H2 => Q (x :: xs) H2
section
variable {X : Cx} {e : Expr} {es : List Expr} {te : TE} {t : TA} {pos : Pos}
theorem JY : PA X [] tNil := fun _ _ _ _ H Q I h => Calls.spliced_nil ⟨[],H,I,.nil,h⟩
theorem yc (ha : PE X e te) (hr : PA X es t) (hs : starEach (e :: es) X.env = (false,eval e X.env) :: starEach es X.env := by rfl) : PA X (e :: es) (zAi te t) := by
 intro pos pins s σ H Q I h;rw [hs];show wpAny _ _ (spliced ((false,eval e X.env) :: backTo pos (starEach es X.env))) _ _ s;refine Calls.spliced_cons (thn (ha pins s σ H _ I h) fun u s1 ⟨x,H1,I1,r1,q1⟩ => ?_);exact thn (hr pos pins s1 σ H1 _ I1 q1) fun us s2 ⟨xs,H2,I2,r2,q2⟩ => ⟨x :: xs,H2,I2,.cons r1 r2,q2⟩
def tTup (t : TA) : TE := fun σ H Q => t σ H fun xs H1 => xs.length ≤ sizeLine ∧ ∀ p,H1 p = none → Q (.ref p) (upd H1 p (.tup xs))
def tLst (t : TA) : TE := fun σ H Q => t σ H fun xs H1 => xs.length ≤ sizeLine ∧ ∀ p,H1 p = none → Q (.ref p) (upd H1 p (.lst xs))
theorem pe_tup {x1} (h : PA X es t) : PE X (.Tuple es x1 pos) (tTup t) := by
 intro pins s σ H Q I hq;refine wpAny_Tuple_spliced (thn (h pos pins s σ H _ I hq) fun us s1 ⟨xs,H1,I1,r,z,q⟩ => ⟨by rw [← r.length]; exact z,?_⟩);have hf : H1 s1.heap.objs.size = none := I1.hok.fresh (le_refl _);refine ⟨.ref s1.heap.objs.size,upd H1 s1.heap.objs.size (.tup xs),I1.laid (t' := s1.toks) (fun b u e => get?_push_of_some _ e) (le_refl _) ?_,rfl,q _ hf⟩;exact ⟨z,us,r,⟨_,get?_push_size _ rfl,rfl,_,rfl⟩⟩
theorem pe_lst (h : PA X es t) : PE X (.List es pos) (tLst t) := by
 intro pins s σ H Q I hq;refine wpAny_List_spliced (thn (h pos pins s σ H _ I hq) fun us s1 ⟨xs,H1,I1,r,z,q⟩ => ⟨by rw [← r.length]; exact z,?_⟩);have hf : H1 s1.heap.objs.size = none := I1.hok.fresh (le_refl _);refine ⟨.ref s1.heap.objs.size,upd H1 s1.heap.objs.size (.lst xs),I1.laid (t' := s1.toks) (fun b u e => get?_push_of_some _ e) (le_refl _) ?_,rfl,q _ hf⟩;exact ⟨z,us,0,r,get?_push_size _ rfl⟩
end
abbrev Sp := List V → Hp → VK → XK → Prop
abbrev CXT := List Env → Hp → Shared → XK → Value → Shared → Prop
structure Env0 (P : Program) (w : World) (K : PySem.W.Frag) (mg : Str → Option Value) (base : Heap) (A : Around) (outer : List Env) (s : Shared) (H : Hp) : Prop where
 frames : A.frames = some outer
 mod : Mod K mg base
 bs : ∀ b o,base.get? b = some o → s.heap.get? b = some o ∧ H b = none
 bsz : base.objs.size ≤ s.heap.objs.size
 funs : s.heap.FunFrames base outer
 frf : ∀ b ∈ frs outer,H b = none
 hok : HOk P w H s.heap
 bare : AllBare s.gens
def CE (outer : List Env) (P : Program) (w : World) (H : Hp) (s : Shared) (Q : VK) (u : Value) (s' : Shared) : Prop :=
 ∃ v H',s'.os = s.os ∧ AllBare s'.gens ∧ Un (frs outer) [] H H' s.heap s'.heap ∧ HOk P w H' s'.heap ∧ zw v u ∧ Q v H'
def CR (CX : CXT) (outer : List Env) (P : Program) (w : World) (H : Hp) (s : Shared) (Q : VK) (E : XK) (r : Result) (s' : Shared) : Prop :=
 match r with
 | .ok (.ret u) => CE outer P w H s Q u s'
 | .ok _ => False
 | .error e => CX outer H s E e s'
structure FnOk (P : Program) (w : World) (K : PySem.W.Frag) (mg : Str → Option Value) (base : Heap) (CX : CXT) (k : Nat) (f : Addr) (fd : FuncData) (ps : List Str) (sp : Sp) : Prop where
 len : ∀ vs H Q E,sp vs H Q E → vs.length = ps.length
 run : ∀ (A : Around) (outer : List Env) (s : Shared) (H : Hp) (args : Args) (us : List Value) (vs : List V) (Q : VK) (E : XK),Room k A → Env0 P w K mg base A outer s H → BindsTo s fd args (ps.zip us) → zb vs us → sp vs H Q E →
  codeAny (model P w) A (.call (.ref f) args) (CR CX outer P w H s Q E) s
theorem FnOk.mono {P : Program} {w : World} {K : PySem.W.Frag} {mg : Str → Option Value} {base : Heap} {CX : CXT} {j k : Nat} {f : Addr} {fd : FuncData} {ps : List Str} {sp : Sp} (F : FnOk P w K mg base CX j f fd ps sp) (h : j ≤ k) :
  FnOk P w K mg base CX k f fd ps sp := ⟨F.len,fun A outer s H args us vs Q E hr => F.run A outer s H args us vs Q E (hr.mono h)⟩
theorem FnOk.imp {P : Program} {w : World} {K : PySem.W.Frag} {mg : Str → Option Value} {base : Heap} {CX : CXT} {k : Nat} {f : Addr} {fd : FuncData} {ps : List Str} {sp sp' : Sp} (F : FnOk P w K mg base CX k f fd ps sp)
  (h : ∀ vs H Q E,sp' vs H Q E → sp vs H Q E) : FnOk P w K mg base CX k f fd ps sp' :=
 ⟨fun vs H Q E q => F.len vs H Q E (h _ _ _ _ q),fun A outer s H args us vs Q E hr he hb hv hs => F.run A outer s H args us vs Q E hr he hb hv (h _ _ _ _ hs)⟩
theorem Env0.in1 {P : Program} {w : World} {K : PySem.W.Frag} {mg : Str → Option Value} {base : Heap} {A : Around} {outer : List Env} {s : Shared} {H : Hp} (e : Env0 P w K mg base A outer s H) :
  Env0 P w K mg base A.in1 outer s H := ⟨e.frames,e.mod,e.bs,e.bsz,e.funs,e.frf,e.hok,e.bare⟩
section
variable {X : Cx} {pins : List (Addr × Obj)} {σ : St} {H : Hp} {s s' : Shared}
theorem Inv.env0 (I : Inv X pins σ H s) : Env0 X.prog X.w X.K X.mg X.base X.A X.stack s H :=
 ⟨I.ok.frames,I.ok.mod,I.bs,le_trans I.ok.bsz I.sz,I.stack,I.stkFree,I.hok,I.bare⟩
theorem Inv.after {Q : VK} {u : Value} (I : Inv X pins σ H s) (h : CE X.stack X.prog X.w H s Q u s') : EP X pins σ Q u s' := by
 obtain ⟨v,H',os,bare,un,hok,r,q⟩ := h;obtain ⟨hh,g,d,t,os'⟩ := s';obtain rfl : os' = s.os := os;exact ⟨v,H',I.call (h' := hh) (g' := g) (d' := d) (t' := t) (ch := []) un hok bare (fun b z => absurd z (by simp)),r,q⟩
end
def J2 (K : PySem.W.Frag) (fd : FuncData) (ps : List Str) (ds : List Value) : Prop :=
 ∀ (s : Shared) (us : List Value),K.In s.heap → (us ++ ds).length = ps.length → BindsTo s fd ⟨us,[]⟩ (ps.zip (us ++ ds))
theorem J2.all {K : PySem.W.Frag} {fd : FuncData} {ps : List Str} (h : ∀ us : List Value,us.length = ps.length → bindArgs fd ⟨us,[]⟩ = pure (ps.zip us)) : J2 K fd ps [] := fun s us _ hl => by
 rw [append_nil] at hl ⊢;exact .of_eq (h us hl)
section
variable {X : Cx} {CX : CXT} {k : Nat} {f C : Addr} {fd : FuncData} {ps : List Str} {sp : Sp} {dvs : List V} {ds : List Value} {E : XK} {x m : Str} {p pos apos : Pos} {e o : Expr} {es : List Expr} {ta : TE} {t : TA}
structure Mk (K : PySem.W.Frag) (C f : Addr) : Prop where
 makes : PySem.W.makesIn K C = true
 init : findIn K (.ref C) "__init__" = some (some (.ref f))
 fn : PySem.W.isFn K (.ref f) = true
 kp : keepIn K (.ref C) = true
end
section
variable {X : Cx} {CX : CXT} {k : Nat} {f C : Addr} {fd : FuncData} {ps ks : List Str} {sp : Sp} {E : XK} {x m : Str} {p pos apos kpos : Pos} {e o : Expr} {es : List Expr} {kws : List Keyword} {te ta : TE} {t tk : TA} {nm : Option Str}
structure KBinds (K : PySem.W.Frag) (fd : FuncData) (ps ks : List Str) (g : List Value → List Value → List Value) (gV : List V → List V → List V) : Prop where
 to : ∀ (s : Shared) (us ws : List Value),K.In s.heap → (g us ws).length = ps.length → BindsTo s fd ⟨us,ks.zip ws⟩ (ps.zip (g us ws))
 rel : ∀ {vs : List V} {us : List Value} {zs : List V} {ws : List Value},zb vs us → zb zs ws → zb (gV vs zs) (g us ws)
variable {g : List Value → List Value → List Value} {gV : List V → List V → List V}
end
structure FnScope (N P : List Str) (sc : Scope) : Prop where
 kind : sc.kind = .function
 co : sc.isCoroutine = false
 gen : sc.isGenerator = false
 nd : N.Nodup
 pre : N.take P.length = P
 par : ∀ x ∈ P,sc.names.lookup x = some .local ∨ sc.names.lookup x = some .cell
 nofree : ∀ y ∈ sc.names,y.2 ≠ .free
theorem WB {kindOf : Str → Option NameKind} {x : Str} : ∀ {binds : List (Str × Value)} {m : Str → Option Value},(∀ v,(x,v) ∉ binds) → bindL kindOf binds m x = m x
 | [],_,_ => rfl
 | (n,v) :: r,m,h => by
  unfold bindL;rw [WB fun w hw => h w (mem_cons_of_mem _ hw)];split
  ·have : x ≠ n := by rintro rfl; exact h v mem_cons_self
   simp [this]
  ·rfl
theorem WC {kindOf : Str → Option NameKind} {x : Str} : ∀ {binds : List (Str × Value)} {m : Str → Option Value},(∀ v,(x,v) ∉ binds) → bindC kindOf binds m x = m x
 | [],_,_ => rfl
 | (n,v) :: r,m,h => by
  unfold bindC;rw [WC fun w hw => h w (mem_cons_of_mem _ hw)];split
  ·rfl
  ·have : x ≠ n := by rintro rfl; exact h v mem_cons_self
   simp [this]
theorem WD {kindOf : Str → Option NameKind} {x : Str} {v : Value} : ∀ {P : List Str} {vs : List Value} {i : Nat} {m : Str → Option Value},P.Nodup → P[i]? = some x → vs[i]? = some v → kindOf x = some .local →
  bindL kindOf (P.zip vs) m x = some v
 | [],_,_,_,_,h,_,_ => by simp at h
 | _ :: _,[],_,_,_,_,h,_ => by simp at h
 | p :: P,w :: vs,0,m,nd,h1,h2,hk => by
  simp at h1 h2; subst h1; subst h2
  show bindL kindOf ((p,w) :: P.zip vs) m p = _
  unfold bindL;rw [WB fun v hv => (nodup_cons.mp nd).1 (of_mem_zip hv).1,if_pos hk];simp
 | p :: P,w :: vs,i + 1,m,nd,h1,h2,hk => by
  show bindL kindOf ((p,w) :: P.zip vs) m x = _
  unfold bindL;exact WD (i := i) (nodup_cons.mp nd).2 (by simpa using h1) (by simpa using h2) hk
theorem WE {kindOf : Str → Option NameKind} {x : Str} {v : Value} : ∀ {P : List Str} {vs : List Value} {i : Nat} {m : Str → Option Value},P.Nodup → P[i]? = some x → vs[i]? = some v → kindOf x ≠ some .local →
  bindC kindOf (P.zip vs) m x = some v
 | [],_,_,_,_,h,_,_ => by simp at h
 | _ :: _,[],_,_,_,_,h,_ => by simp at h
 | p :: P,w :: vs,0,m,nd,h1,h2,hk => by
  simp at h1 h2; subst h1; subst h2
  show bindC kindOf ((p,w) :: P.zip vs) m p = _
  unfold bindC;rw [WC fun v hv => (nodup_cons.mp nd).1 (of_mem_zip hv).1,if_neg hk];simp
 | p :: P,w :: vs,i + 1,m,nd,h1,h2,hk => by
  show bindC kindOf ((p,w) :: P.zip vs) m x = _
  unfold bindC;exact WE (i := i) (nodup_cons.mp nd).2 (by simpa using h1) (by simpa using h2) hk
def yy (N : List Str) (vs : List V) : St := vs.map some ++ replicate (N.length - vs.length) none
def zAj (CX : CXT) (P : Program) (w : World) (K : PySem.W.Frag) (mg : Str → Option Value) (base : Heap) (N : List Str) (qual : Str) (scope : Scope) (f : Addr) (cd : Value) (A : Around) (outer : List Env) (s : Shared) (H : Hp) (E : XK) : Cx where
 prog := P
 w := w
 K := K
 mg := mg
 base := base
 A := A.deeper (envOfC qual scope s.heap.objs.size f cd)
 N := N
 s₀ := s
 H₀ := H
 env := envOfC qual scope s.heap.objs.size f cd
 outer := outer
 stack := envOfC qual scope s.heap.objs.size f cd :: outer
 ex := []
 calm := true
 fn := fun _ => true
 pn := []
 xe := fun e s' => wpAny (model P w) (A.deeper (envOfC qual scope s.heap.objs.size f cd)) (leaving (envOfC qual scope s.heap.objs.size f cd) e) (fun _ s'' => CX outer H s E e s'') (fun e' s'' => CX outer H s E e' s'') s'
theorem vn {sc : Scope} {n : Nat} {x : Str} (h : sc.names.lookup x = some .cell) : ∃ c,(cellsFrom n sc.names []).lookup x = some c := by
 have q := cellsFrom_some sc.names n [] (.inl h);exact Option.isSome_iff_exists.mp q
theorem WF {CX : CXT} {P : Program} {w : World} {K : PySem.W.Frag} {mg : Str → Option Value} {base : Heap} {N ps : List Str} {qual : Str} {scope : Scope} {f : Addr} {cd : Value} {A : Around} {outer : List Env} {s s1 : Shared} {H : Hp} {E : XK} {us : List Value} {vs : List V}
  (S : FnScope N ps scope) (hd : A.handled = none) (e0 : Env0 P w K mg base A outer s H) (hl : vs.length = ps.length) (r : zb vs us)
  (x : InCallC s s.heap.objs.size (bindL (envOfC qual scope s.heap.objs.size f cd).kindOf (ps.zip us) fun _ => none) (cellsFrom (s.heap.objs.size + 1) scope.names []) (bindC (envOfC qual scope s.heap.objs.size f cd).kindOf (ps.zip us) fun _ => none) s1) :
  Inv (zAj CX P w K mg base N qual scope f cd A outer s H E) [] (yy N vs) H s1 := by
 have hpl : ps.length ≤ N.length := by have := congrArg length S.pre; rw [length_take] at this; omega
 obtain ⟨h1,tk,rfl,hk⟩ := x.done;have noA : ∀ b : Addr,b ∉ (zAj CX P w K mg base N qual scope f cd A outer s H E).ex := fun b z => absurd (show b ∈ ([] : List Addr) from z) (by simp)
 refine ⟨⟨e0.mod,S.kind,rfl,rfl,le_refl _,fun y z c h1 h2 => ?_,fun y hy => ?_,fun y c _ h => ?_,fun _ => hd,Around.frames_deeper e0.frames,.inr ⟨rfl,rfl⟩,fun b z => absurd z (noA b),e0.bs,e0.bsz,fun b _ _ => noA b,fun b z => absurd z (noA b),e0.funs,e0.frf⟩,
  rfl,e0.bare,Un.kept hk,⟨_,x.toInCall.ns,fun i y v h1 h2 h3 => ?_⟩,fun y c h => ⟨_,x.cell y c h⟩,e0.hok.fresh (le_refl _),fun y c h => ?_,fun p hp => absurd (show p ∈ ([] : List (Addr × Obj)) from hp) (by simp),e0.hok.kept hk,?_⟩
 ·exact name_of_addr x.apart (PySem.mem_of_lookup h1) (PySem.mem_of_lookup h2)
 ·have hy : scope.names.lookup y = some .cell ∨ scope.names.lookup y = some .free := hy
  rcases hy with hy | hy
  ·exact vn hy
  ·exact absurd rfl (S.nofree _ (PySem.mem_of_lookup hy))
 ·exact Nat.le_of_lt (x.above y c (PySem.mem_of_lookup h))
 ·have hi : i < vs.length := by
   unfold yy at h2;by_cases hi : i < vs.length
   ·exact hi
   ·rw [List.getElem?_append_right (by simpa using hi)] at h2
    rw [List.getElem?_replicate] at h2;split at h2 <;> cases h2
  have ha : vs[i]? = some v := by
   unfold yy at h2;rw [List.getElem?_append_left (by simpa using hi),getElem?_map] at h2;cases e : vs[i]? with
   | none => rw [e] at h2; cases h2
   | some a => rw [e] at h2; cases h2; rfl
  obtain ⟨u,hu,rv⟩ := r.get ha;have hp : ps[i]? = some y := by
   rw [← S.pre,List.getElem?_take_of_lt (by omega)]; exact h1
  have ndP : ps.Nodup := by rw [← S.pre]; exact S.nd.sublist (List.take_sublist _ _)
  refine ⟨u,rv,?_⟩;rcases S.par y (mem_of_getElem? hp) with k | k
  ·exact .inl ⟨k,WD ndP hp hu k⟩
  ·obtain ⟨c,e⟩ := vn (n := s.heap.objs.size + 1) k
   refine .inr ⟨.inl k,c,e,?_⟩;have q := x.cell y c e;rw [WE ndP hp hu (by show scope.names.lookup y ≠ _; rw [k]; decide)] at q;exact q
 ·exact e0.hok.fresh (Nat.le_of_lt (x.above y c (PySem.mem_of_lookup h)))
 ·unfold yy
  show _ = N.length
  rw [length_append,length_map,List.length_replicate];omega
theorem fn_of {CX : CXT} {P : Program} {w : World} {K : PySem.W.Frag} {mg : Str → Option Value} {base : Heap} {k : Nat} {f : Addr} {name qual : Str} {params : Arguments} {body : List Stmt} {scope : Scope} {dV kV doc pm cdv ct oc : Value} {an od : Option Addr}
  {osl : Array (Option Value)} {N ps : List Str} {sp : Sp} (lk : K.lookup f = some ⟨oc,od,.func (fnOf name qual params body scope dV kV doc pm an cdv ct),osl⟩) (hcd : codeIn K cdv qual = true) (S : FnScope N ps scope)
  (len : ∀ vs H Q E,sp vs H Q E → vs.length = ps.length)
  (hbody : ∀ (A : Around) (outer : List Env) (s : Shared) (H : Hp) (vs : List V) (Q : VK) (E : XK),Room k (A.deeper (envOfC qual scope s.heap.objs.size f cdv)) → sp vs H Q E →
   ∃ t,PSs (zAj CX P w K mg base N qual scope f cdv A outer s H E) body t ∧ t { nx := fun _ H' => Q .non H',rt := Q } (yy N vs) H) :
  FnOk P w K mg base CX (k + 1) f (fnOf name qual params body scope dV kV doc pm an cdv ct) ps sp := by
 refine ⟨len,fun A outer s H args us vs Q E hr e0 hb r hsp => ?_⟩;have hl := len _ _ _ _ hsp;have KX : K.In s.heap := e0.mod.kin.keeps fun b o e => (e0.bs b o e).1
 have lim : s.heap.NoLimit := e0.mod.nolimit.keeps fun b o e => (e0.bs b o e).1
 have hkind : ∀ y ∈ ps.zip us,scope.names.lookup y.1 = some .local ∨ (scope.names.lookup y.1 = some .cell ∧ ((cellsFrom (s.heap.objs.size + 1) scope.names []).lookup y.1).isSome = true) := fun ⟨n,v⟩ hy => by
  rcases S.par n (of_mem_zip hy).1 with q | q
  ·exact .inl q
  ·exact .inr ⟨q,cellsFrom_some _ _ _ (.inl q)⟩
 refine codeAny_call_function hr.depth (KX _ _ lk) rfl S.co S.gen rfl (codeRec_of KX hcd) (hb _ _ _ _ ?_);refine wpAny_newFunctionEnv_cells S.kind hkind fun env he s1 x => ?_
 subst he;refine ⟨lim.keeps x.toInCall.keep,codeAny_func ?_⟩;obtain ⟨t,ht,hq⟩ := hbody A outer s H vs Q E (hr.deeper _) hsp;have I : Inv (zAj CX P w K mg base N qual scope f cdv A outer s H E) [] (yy N vs) H s1 := WF S hr.hd e0 hl r x;refine wpAny_mono (ht [] s1 (yy N vs) H _ I hq) (fun fl s' hs => ?_) fun e s' hs => hs
 have fin : ∀ {σ' : St} {H' : Hp} {v : V} {u : Value},Inv (zAj CX P w K mg base N qual scope f cdv A outer s H E) [] σ' H' s' → zw v u → Q v H' → CE outer P w H s Q u s' :=
  fun {σ' H' v u} J rv q => ⟨v,H',J.os,J.bare,J.base,J.hok,rv,q⟩
 cases fl with
 | ret u =>
  obtain ⟨v,σ',H',J,rv,q⟩ := hs;exact fin J rv q
 | next =>
  obtain ⟨σ',H',J,q⟩ := hs;exact fin (v := V.non) (u := Value.none) J rfl q
 | brk =>
  obtain ⟨_,_,_,q⟩ := hs;exact False.elim q
 | cont =>
  obtain ⟨_,_,_,q⟩ := hs;exact False.elim q
end L2
namespace L2
open PySem PySem.Spec PyProof.Rows
section
variable {X : Cx} {x : Str} {p pos : Pos} {e : Expr} {es : List Expr} {t : TA} {id T : String} {r : List V → Hp → VK → Prop}
def tCB (r : List V → Hp → VK → Prop) (t : TA) : TE := fun σ H Q => t σ H fun vs H1 => r vs H1 Q
theorem Jo (hc : yb X (.builtin id) r) (hg : Gl X x) (hm : X.mg x = none) (hv : bootBuiltins x = some (.builtin id)) (ha : PA X (e :: es) t) (hn : x ≠ "__name__" := by decide) (hdb : (x == ("__debug__" : Str)) = false := by decide)
  (he : starEach (e :: es) X.env = (false,eval e X.env) :: starEach es X.env := by rfl) (hpl : (backTo pos (starEach es X.env)).any (·.1) = false := by rfl) : PE X (.Call (.Name x p) (e :: es) [] pos) (tCB r t) := by
 intro pins s σ H Q I h;refine wpAny_Call_Name_kw (Z8 I hg hm hv ?_ hn hdb);exact PyProof.Rows.callWith_builtin1 (thn (ha pos pins s σ H _ I h) fun us s1 ⟨vs,H1,I1,r1,q1⟩ => hc pins s1 σ H1 vs us Q I1 r1 q1) he hpl
theorem Gb (hc : yb X (.type T) r) (hg : Gl X x) (hm : X.mg x = none) (hv : bootBuiltins x = some (.type T)) (ha : PA X (e :: es) t) (hn : x ≠ "__name__" := by decide) (hdb : (x == ("__debug__" : Str)) = false := by decide)
  (he : starEach (e :: es) X.env = (false,eval e X.env) :: starEach es X.env := by rfl) (hpl : (backTo pos (starEach es X.env)).any (·.1) = false := by rfl) : PE X (.Call (.Name x p) (e :: es) [] pos) (tCB r t) := by
 intro pins s σ H Q I h;refine wpAny_Call_Name_kw (Z8 I hg hm hv ?_ hn hdb);exact PyProof.Rows.callWith_type1 (thn (ha pos pins s σ H _ I h) fun us s1 ⟨vs,H1,I1,r1,q1⟩ => hc pins s1 σ H1 vs us Q I1 r1 q1) he hpl
end
end L2
namespace HT
open PySem PyProof.Rows
def lexLt : List Int → List Int → Bool
 | [],[] => false
 | [],_ :: _ => true
 | _ :: _,[] => false
 | x :: xs,y :: ys => if x = y then lexLt xs ys else decide (x < y)
theorem uj (x y : Int) (xs ys : List Int) : lexLt (x :: xs) (y :: ys) = if x = y then lexLt xs ys else decide (x < y) := rfl
theorem ZK : lexLt [] [] = false := rfl
theorem Yn (y : Int) (ys : List Int) : lexLt [] (y :: ys) = true := rfl
theorem Yo (x : Int) (xs : List Int) : lexLt (x :: xs) [] = false := rfl
theorem zAk (A : Around) (s : Shared) (a : Int) (t : Tok) (c : Int) (u : Tok) : ∃ e,SeqAt.EqAt A s (.int a t) (.int c u) e ∧ (e = true ↔ a = c) :=
 ⟨(a == c),SeqAt.EqAt.int_int a t c u,by simp⟩
theorem zAl (A : Around) (s : Shared) (a : Int) (t : Tok) (c : Int) (u : Tok) (prog : Program) (w : World) (E : Value → Shared → Prop) (Q : Value → Shared → Prop) (h : Q (.bool (decide (a < c))) s) :
  wpAny (model prog w) A (richCompare .Lt (.int a t) (.int c u)) Q E s :=
 (PyProof.Rows.lt_int h : wpAny (model prog w) A (compareOp .Lt (.int a t) (.int c u)) Q E s)
section
open PySem.SeqAt
open PySem.AutoSeq1 (wpAny_loadPart')
open PySem.MeetsSeq PySem.MeetsSeq2 PySem.MeetsSeq3
theorem ZL (l b : Addr) (items items2 : Array Value) (n n2 : Nat) (dd dd2 : Option Addr) (sl sl2 : Array (Option Value)) (ns ms : List Int) (hi : IntsAre items.toList ns) (hj : IntsAre items2.toList ms) :
  Meets (Builtin.«tuple.__lt__» ⟨[.ref l,.ref b],[]⟩)
   (fun _ R s => s.heap.get? l = some { cls := .type "tuple",dict := dd,data := .seq items n,slots := sl } ∧ s.heap.get? b = some { cls := .type "tuple",dict := dd2,data := .seq items2 n2,slots := sl2 } ∧
    R (.ok (.ret (.bool (lexLt ns ms)))) s) :=
 .of_wp fun prog w A R s h => by
  obtain ⟨hp,g,d,tk,os⟩ := s; obtain ⟨hl,hb,h⟩ := h;have f2 := AutoSeq1.sub_tuple_tuple;have z1 : items.size = ns.length := by rw [← hi.length]; simp
  have z2 : items2.size = ms.length := by rw [← hj.length]; simp
  wp_walk using wpAny_loadPart' hl,wpAny_loadPart' hb,wpAny_forIn_list _ (fun JI b s' => b.1 = none ∧ s' = ⟨hp,g,d,tk,os⟩ ∧ ∃ (vs ws : List Value) (ns' ms' : List Int),JI = vs.zip ws ∧
   IntsAre vs ns' ∧ IntsAre ws ms' ∧ ns'.length + items2.size = ms'.length + items.size ∧ R (.ok (.ret (.bool (lexLt ns' ms')))) ⟨hp,g,d,tk,os⟩) _
  case turn =>
   rintro ⟨y,x⟩ JI b s' ⟨hb',rfl,vs,ws,ns',ms',hz,hvi,hwi,hlen,hR⟩
   cases hvi with
   | nil => rw [List.zip_nil_left] at hz; cases hz
   | cons a t hvi' =>
    cases hwi with
    | nil => rw [List.zip_nil_right] at hz; cases hz
    | cons c u hwi' =>
     rw [zip_cons_cons] at hz;injection hz with hyx hrest
     injection hyx with hy hx
     subst hy hx;rw [uj] at hR;simp only [length_cons] at hlen;obtain ⟨e,he,hiff⟩ := zAk A.in1 ⟨hp,g,d,tk,os⟩ a t c u;refine wpAny_bind (he prog w _ _ ?_);cases e with
     | true =>
      rw [if_pos (hiff.mp rfl)] at hR
      wp_walk
      exact ⟨rfl,rfl,_,_,_,_,hrest,hvi',hwi',by omega,hR⟩
     | false =>
      rw [if_neg (fun q => absurd (hiff.mpr q) Bool.false_ne_true)] at hR;have hri := zAl A.in1 ⟨hp,g,d,tk,os⟩ a t c u prog w
      wp_walk using hri
      exact ⟨_,rfl,by simpa using hR⟩
  case fin =>
   rintro ⟨b1,b2⟩ s' ⟨hb',rfl,vs,ws,ns',ms',hz,hvi,hwi,hlen,hR⟩
   simp only at hb';subst hb';have hv : lexLt ns' ms' = decide (items.size < items2.size) := by
    cases hvi with
    | nil =>
     cases hwi with
     | nil =>
      simp only [length_nil] at hlen;rw [ZK];exact (decide_eq_false (by omega)).symm
     | cons c u hw =>
      simp only [length_nil,length_cons] at hlen;rw [Yn];exact (decide_eq_true (by omega)).symm
    | cons a t hv =>
     cases hwi with
     | nil =>
      simp only [length_nil,length_cons] at hlen;rw [Yo];exact (decide_eq_false (by omega)).symm
     | cons c u hw =>
      rw [zip_cons_cons] at hz;cases hz
   rw [hv] at hR
   wp_walk
   exact ⟨_,rfl,by simpa [Builtin.Tuple.tupleCompareSizes] using hR⟩
  case h =>
   exact ⟨rfl,rfl,items.toList,items2.toList,ns,ms,rfl,hi,hj,by omega,h⟩
end
section
variable {prog : Program} {w : World} {A : Around} {E : Value → Shared → Prop} {s : Shared}
theorem lt_tupInts {l b : Addr} {items items2 : Array Value} {ns ms : List Int} {Q : Value → Shared → Prop} (hl : IsTup s.heap l items) (hb : IsTup s.heap b items2) (hi : IntsAre items.toList ns) (hj : IntsAre items2.toList ms)
  (hu : A.units < cLine) (h : Q (.bool (lexLt ns ms)) s) : wpAny (model prog w) A (compareOp .Lt (.ref l) (.ref b)) Q E s := by
 obtain ⟨⟨cls,dd,data,sl⟩,ho,hc,n,hd⟩ := id hl;obtain ⟨⟨cls2,dd2,data2,sl2⟩,ho2,hc2,n2,hd2⟩ := id hb;simp only at hc hd hc2 hd2;subst hc hd hc2 hd2;exact richCompare_meets_room (op := .Lt) ⟨_,ho,rfl⟩ ⟨_,ho2,rfl⟩ PySem.F.slot_tuple_lt PySem.F.entry_tuple_lt (PySem.F.args_tuple_lt_2 _ _) (ZL l b items items2 n n2 dd dd2 sl sl2 ns ms hi hj)
  ⟨ho,ho2,show Value.bool (lexLt ns ms) ≠ Value.notImplemented ∧ Q (.bool (lexLt ns ms)) s from ⟨(fun x => nomatch x),h⟩⟩ hu
theorem cat_tup {t b : Addr} {vs ws : List Value} {Q : Value → Shared → Prop} (ht : IsTup s.heap t vs.toArray) (hb : IsTup s.heap b ws.toArray) (hv : vs ≠ [])
  (h1 : ws = [] → Q (.ref t) s) (h2 : ws ≠ [] → Q (.ref s.heap.objs.size) { s with heap := s.heap.push { cls := .type "tuple",data := .seq (vs ++ ws).toArray } })
  (hsz : vs.length + ws.length ≤ sizeLine) : wpAny (model prog w) A (binaryOp .Add (.ref t) (.ref b)) Q E s := by
 obtain ⟨⟨cls,dd,data,sl⟩,ho,hc,n,hd⟩ := id ht;obtain ⟨⟨cls2,dd2,data2,sl2⟩,ho2,hc2,n2,hd2⟩ := id hb;simp only at hc hd hc2 hd2;subst hc hd hc2 hd2;have e : vs.toArray ++ ws.toArray = (vs ++ ws).toArray := by simp
 by_cases hw : ws = []
 ·exact concat_meets ⟨_,ho,rfl⟩ ⟨_,ho2,rfl⟩ noFill_tuple_add seq_tuple_add PySem.F.slot_tuple_add PySem.F.entry_tuple_add (PySem.F.args_tuple_add_2 _ _)
   (tuple_addW1 t b vs.toArray ws.toArray n n2 dd dd2 sl sl2 (by simpa using hv) (by simp [hw])) ⟨ho,ho2,h1 hw⟩
 ·refine concat_meets ⟨_,ho,rfl⟩ ⟨_,ho2,rfl⟩ noFill_tuple_add seq_tuple_add PySem.F.slot_tuple_add PySem.F.entry_tuple_add (PySem.F.args_tuple_add_2 _ _)
   (tuple_addW2 t b vs.toArray ws.toArray n n2 dd dd2 sl sl2 (by simpa using hv) (by simpa using hw) (by rw [size_toArray,size_toArray]; exact hsz)) ⟨ho,ho2,?_⟩
  rw [e];exact h2 hw
def sIx (n d : Nat) : Option Int → Nat
 | none => d
 | some v => if v < 0 then (v + (n : Int)).toNat else min v.toNat n
theorem sIx_nat (n d k : Nat) : sIx n d (some (k : Int)) = min k n := by
 show (if (k : Int) < 0 then ((k : Int) + (n : Int)).toNat else min (k : Int).toNat n) = min k n
 rw [if_neg (by omega),Int.toNat_natCast]
theorem sIx_le (n d : Nat) (hd : d ≤ n) (o : Option Int) : sIx n d o ≤ n := by
 cases o with
 | none => exact hd
 | some v =>
  show (if v < 0 then (v + (n : Int)).toNat else min v.toNat n) ≤ n
  by_cases hv : v < 0
  ·rw [if_pos hv]; omega
  ·rw [if_neg hv]; exact Nat.min_le_right _ _
theorem Gc (v : Int) (n d : Nat) : (if v < 0 then max (v + (n : Int)) 0 else min v (n : Int)) = ((sIx n d (some v) : Nat) : Int) := by
 show (if v < 0 then max (v + (n : Int)) 0 else min v (n : Int)) = (((if v < 0 then (v + (n : Int)).toNat else min v.toNat n) : Nat) : Int)
 by_cases hv : v < 0
 ·simp only [if_pos hv]; omega
 ·simp only [if_neg hv]; omega
theorem uk (lo hi : Option Int) (n : Nat) : Builtin.Slice.sliceAdjust lo hi 1 (n : Int) = (((sIx n 0 lo : Nat) : Int),((sIx n n hi : Nat) : Int)) := by
 have h1 : ¬ ((1 : Int) < 0) := by omega
 unfold Builtin.Slice.sliceAdjust;simp only [h1,if_false];refine Prod.ext ?_ ?_
 ·cases lo with
  | none => rfl
  | some v => exact Gc v n 0
 ·cases hi with
  | none => rfl
  | some v => exact Gc v n n
theorem ul (i j : Nat) : Builtin.Slice.slicePlaces (i : Int) (j : Int) 1 = j - i := by
 unfold Builtin.Slice.slicePlaces;have h1 : (1 : Int) > 0 := by omega
 simp only [h1,if_true,Int.ediv_one];split <;> omega
theorem slicePart_ {v : Value} {o : Option Int} {Q : Option Int → Shared → Prop} (p : IsPart v o) (h : Q o s) : wpAny (model prog w) A (Builtin.Slice.slicePartIndex v) Q E s := by
 cases p with
 | none => exact slicePart_none h
 | int i t => exact slicePart_int h
theorem sliceApplied_gen {sl : Addr} {vl vu : Value} {lo hi : Option Int} {n : Nat} {Q : Int × Int × Nat → Shared → Prop} (hs : s.heap.IsSliceOf sl vl vu .none) (pl : IsPart vl lo) (pu : IsPart vu hi)
  (h : Q (((sIx n 0 lo : Nat) : Int),1,sIx n n hi - sIx n 0 lo) s) : wpAny (model prog w) A (Builtin.Slice.sliceApplied (.ref sl) (pure (n : Int))) Q E s := by
 obtain ⟨os,hos,hcs,hds⟩ := id hs;unfold Builtin.Slice.sliceApplied Builtin.Slice.sliceFields;refine wpAny_bind (wpAny_bind (wpAny_field hos hds (x := vl) rfl (wpAny_bind (wpAny_field hos hds (x := vu) rfl (wpAny_bind (wpAny_field hos hds (x := .none) rfl (wpAny_pure ?_)))))));refine wpAny_bind (slicePart_none ?_);show wpAny _ _ (if ((1 : Int) == 0) = true then _ else _) _ _ s;rw [if_neg (by decide)];refine wpAny_bind (slicePart_ pl (wpAny_bind (slicePart_ pu (wpAny_bind (wpAny_pure ?_)))));show wpAny _ _ (match Builtin.Slice.sliceAdjust lo hi 1 (n : Int) with | (lo,hi) => pure (lo,(1 : Int),Builtin.Slice.slicePlaces lo hi 1)) _ _ s
 rw [uk lo hi n];show wpAny _ _ (pure (((sIx n 0 lo : Nat) : Int),(1 : Int),Builtin.Slice.slicePlaces ((sIx n 0 lo : Nat) : Int) ((sIx n n hi : Nat) : Int) 1)) _ _ s;rw [ul];exact wpAny_pure h
theorem zAm (xs : Array Value) (i k : Nat) : ((List.range k).filterMap fun (m : Nat) => xs[((i : Int) + (m : Int) * 1).toNat]?).toArray = ((xs.toList.drop i).take k).toArray := by
 have e : (fun (m : Nat) => xs[((i : Int) + (m : Int) * 1).toNat]?) = fun m => xs[i + m]? := by
  funext m
  have : ((i : Int) + (m : Int) * 1).toNat = i + m := by omega
  rw [this]
 rw [e];have := pick_run xs i k;rw [filterMap_map] at this;have e2 : ((fun x => xs[x]?) ∘ fun x => i + x) = fun m => xs[i + m]? := rfl
 rw [e2] at this;rw [this]
theorem getItem_tuple_cut {t sl : Addr} {items : Array Value} {vl vu : Value} {lo hi : Option Int} {Q : Value → Shared → Prop} (ht : IsTup s.heap t items) (hs : s.heap.IsSliceOf sl vl vu .none) (pl : IsPart vl lo) (pu : IsPart vu hi)
  (hw : ¬ (sIx items.size 0 lo = 0 ∧ sIx items.size items.size hi = items.size))
  (h : Q (.ref s.heap.objs.size) { s with heap := s.heap.push { cls := .type "tuple",data := .seq ((items.toList.drop (sIx items.size 0 lo)).take (sIx items.size items.size hi - sIx items.size 0 lo)).toArray } })
  (hsz : items.size ≤ sizeLine) : wpAny (model prog w) A (getItem (.ref t) (.ref sl)) Q E s := by
 have htake : sizeOk (.seq ((items.toList.drop (sIx items.size 0 lo)).take (sIx items.size items.size hi - sIx items.size 0 lo)).toArray) := by
  show ((items.toList.drop (sIx items.size 0 lo)).take (sIx items.size items.size hi - sIx items.size 0 lo)).toArray.size ≤ sizeLine
  rw [size_toArray,length_take,length_drop,Array.length_toList];omega
 have hj : sIx items.size items.size hi ≤ items.size := sIx_le _ _ (le_refl _) hi;obtain ⟨os,hos,hcs,hds⟩ := id hs;have hTs : s.TypeIs (.ref sl) "slice" := ⟨os,hos,hcs⟩;unfold getItem
 try with_reducible refine wpAny_holding ?_
 first | refine wpAny_bind (wpAny_pure ?_) | skip
 refine wpAny_bind (wpAny_sequenceKey ht.typeIs (by decide) ?_);refine wpAny_bind (wpAny_callSpecial?_slot (name := Str.ofString "__getitem__") ht.typeIs PyProof.Rows.slot_tuple_getitem
  (wpAny_call_entry PyProof.Rows.slot_tuple_getitem ht.typeIs entry_tuple_getitem ?_ (args_tuple_getitem _ _)))
 show wpAny _ _ (Builtin.Tuple.tupleItemsOf (.ref t) >>= _) _ _ s
 refine wpAny_bind (tupleItemsOf_ ht ?_);refine wpAny_bind (wpAny_typeOf hTs ?_);rw [if_pos (by decide)];refine wpAny_bind (sliceApplied_gen hs pl pu ?_);have hno : ¬ ((((sIx items.size 0 lo : Nat) : Int) == 0 && (1 : Int) == 1 && (sIx items.size items.size hi - sIx items.size 0 lo) == items.size) = true) := by
  intro q;rw [Bool.and_eq_true,Bool.and_eq_true] at q;have q1 : ((sIx items.size 0 lo : Nat) : Int) = 0 := eq_of_beq q.1.1;have q2 : sIx items.size items.size hi - sIx items.size 0 lo = items.size := eq_of_beq q.2;exact hw ⟨by omega,by omega⟩
 show wpAny _ _ (if (((sIx items.size 0 lo : Nat) : Int) == 0 && (1 : Int) == 1 && (sIx items.size items.size hi - sIx items.size 0 lo) == items.size) = true then _ else _) _ _ s
 rw [if_neg hno,zAm]
 first
  | exact wpAny_bind (m := Builtin.Tuple.tupleExact _) (wpAny_newObj_type (wpAny_pure ⟨_,rfl,wpAny_pure h⟩) htake)
  | exact wpAny_bind (m := Builtin.Tuple.tupleExact _) (wpAny_newObj_type (wpAny_bind (wpAny_pure (wpAny_pure ⟨_,rfl,wpAny_pure h⟩))) htake)
  | exact wpAny_bind (wpAny_bind (m := Builtin.Tuple.tupleExact _) (wpAny_newObj_type (wpAny_pure (wpAny_pure ⟨_,rfl,wpAny_pure h⟩)) htake))
  | exact wpAny_bind (wpAny_bind (m := Builtin.Tuple.tupleExact _) (wpAny_newObj_type (wpAny_pure ⟨_,rfl,wpAny_pure h⟩) htake))
end
end HT
namespace L2
open PySem PySem.Spec PyProof.Rows
abbrev TO := St → Hp → (Option Int → Hp → Prop) → Prop
def PO (X : Cx) (e : Option Expr) (t : TO) : Prop :=
 ∀ (pins : List (Addr × Obj)) (s : Shared) (σ : St) (H : Hp) (Q : Option Int → Hp → Prop),Inv X pins σ H s → t σ H Q →
  wpAny (model X.prog X.w) X.A (evalPart e X.env) (fun u s' => ∃ o H',Inv X pins σ H' s' ∧ IsPart u o ∧ Q o H') X.xe s
def tNoPart : TO := fun _ H Q => Q none H
def tPart (t : TE) : TO := fun σ H Q => t σ H fun x H1 => ∃ i,x = .int i ∧ Q (some i) H1
theorem um {ns : List Int} : ∀ {us : List Value},zb (ns.map V.int) us → IntsAre us ns := by
 induction ns with
 | nil => intro us r; rw [List.map_nil] at r; cases r; exact .nil
 | cons n ns ih =>
  intro us r;rw [map_cons] at r;cases r with
  | cons r1 r2 =>
   obtain ⟨t,e⟩ := r1;subst e;exact .cons n t (ih r2)
section
variable {X : Cx} {e : Expr} {te : TE} {lo hi : Option Expr} {tl th : TO} {pos p2 : Pos}
theorem po_none : PO X none tNoPart := by
 intro pins s σ H Q I h;rw [evalPart_none];exact wpAny_pure ⟨none,H,I,.none,h⟩
theorem po_some (h : PE X e te) : PO X (some e) (tPart te) := by
 intro pins s σ H Q I hw;rw [evalPart_some];refine thn (h pins s σ H _ I hw) fun u s1 ⟨x,H1,I1,r1,q1⟩ => ?_
 obtain ⟨i,rfl,q⟩ := q1;obtain ⟨t,rfl⟩ := r1;exact ⟨some i,H1,I1,.int i t,q⟩
def SlR (X : Cx) (r : V → Option Int → Option Int → Hp → VK → Prop) : Prop :=
 ∀ (pins : List (Addr × Obj)) (s : Shared) (σ : St) (H : Hp) (x : V) (v vl vu : Value) (lo hi : Option Int) (sl : Addr) (Q : VK),Inv X pins σ H s → zw x v → s.heap.IsSliceOf sl vl vu .none → IsPart vl lo → IsPart vu hi → r x lo hi H Q →
  ∃ T id,typeLookup (.type T) "__getitem__" = pure (some (.builtin id)) ∧ s.TypeIs v T ∧ wpAny (model X.prog X.w) X.A (getItem v (.ref sl)) (EP X pins σ Q) X.xe s
theorem SlR.or {r r' : V → Option Int → Option Int → Hp → VK → Prop} (h : SlR X r) (h' : SlR X r') : SlR X (fun x lo hi H Q => r x lo hi H Q ∨ r' x lo hi H Q) := by
 intro pins s σ H x v vl vu lo hi sl Q I rx hs pl pu q;rcases q with q | q
 ·exact h pins s σ H x v vl vu lo hi sl Q I rx hs pl pu q
 ·exact h' pins s σ H x v vl vu lo hi sl Q I rx hs pl pu q
def tSl (r : V → Option Int → Option Int → Hp → VK → Prop) (te : TE) (tl th : TO) : TE := fun σ H Q => te σ H fun x H1 => tl σ H1 fun l H2 => th σ H2 fun u H3 => r x l u H3 Q
theorem zAn {r : V → Option Int → Option Int → Hp → VK → Prop} (hr : SlR X r) (he : PE X e te) (hl : PO X lo tl) (hu : PO X hi th) : PE X (.Subscript e (.Slice lo hi none p2) pos) (tSl r te tl th) := by
 intro pins s σ H Q I h;refine Subscript_ (thn (he pins s σ H _ I h) fun v s1 ⟨x,H1,I1,r1,q1⟩ => ?_);refine wpAny_Slice (thn (hl pins s1 σ H1 _ I1 q1) fun vl s2 ⟨l,H2,I2,pl,q2⟩ => thn (hu pins s2 σ H2 _ I2 q2) fun vu s3 ⟨u,H3,I3,pu,q3⟩ => ?_);rw [evalPart_none];refine wpAny_pure ?_;have I4 : Inv X pins σ H3 { s3 with heap := s3.heap.push { cls := .type "slice",data := .fields #[vl,vu,.none] } } := I3.kept (t' := s3.toks) fun b ob q => get?_push_of_some _ q
 obtain ⟨T,id,hT,ht,hg⟩ := hr pins { s3 with heap := s3.heap.push { cls := .type "slice",data := .fields #[vl,vu,.none] } } σ H3 x v vl vu l u s3.heap.objs.size Q I4 r1 (Heap.IsSliceOf.new ..) pl pu q3
 show wpAny (model X.prog X.w) X.A (subscriptTail e (.Slice lo hi none p2) v (.ref s3.heap.objs.size)) (EP X pins σ Q) X.xe { s3 with heap := s3.heap.push { cls := .type "slice",data := .fields #[vl,vu,.none] } }
 exact tail_any (ops := [.ref s3.heap.objs.size,v]) ht hT hg (by with_unfolding_all rfl)
def zAo (xs : List V) (lo hi : Option Int) : List V := (xs.drop (HT.sIx xs.length 0 lo)).take (HT.sIx xs.length xs.length hi - HT.sIx xs.length 0 lo)
theorem J3 (xs : List V) (lo hi : Option Int) : (zAo xs lo hi).length ≤ xs.length := by
 unfold zAo;rw [length_take,length_drop];omega
def rSlT (K : PySem.W.Frag) : V → Option Int → Option Int → Hp → VK → Prop := fun x lo hi H Q => ∃ a xs,x = .ref a ∧ SqT K H a xs ∧
 ¬ (HT.sIx xs.length 0 lo = 0 ∧ HT.sIx xs.length xs.length hi = xs.length) ∧ ∀ p,H p = none → Q (.ref p) (upd H p (.tup (zAo xs lo hi)))
theorem sl_tup : SlR X (rSlT X.K) := by
 intro pins s σ H x v vl vu lo hi sl Q I rx hs pl pu h;obtain ⟨a,xs,rfl,hx,hw,q⟩ := h;cases rx;obtain ⟨its,r,ht,hz⟩ := I.tuple hx;have hlen : its.toArray.size = xs.length := by rw [size_toArray]; exact r.length.symm
 refine ⟨"tuple",_,PyProof.Rows.slot_tuple_getitem.lookup,ht.typeIs,?_⟩;refine HT.getItem_tuple_cut ht hs pl pu (by rw [hlen]; exact hw) ?_ (by rw [hlen]; exact hz);rw [hlen];refine ⟨.ref s.heap.objs.size,_,I.laid (t' := s.toks) (o := .tup (zAo xs lo hi)) (fun b ob q => get?_push_of_some _ q) (le_refl _) ?_,rfl,q _ (I.hok.fresh (le_refl _))⟩;exact ⟨le_trans (J3 xs lo hi) hz,_,(r.drop (HT.sIx xs.length 0 lo)).take (HT.sIx xs.length xs.length hi - HT.sIx xs.length 0 lo),IsTup.new _ _⟩
def rCatT (K : PySem.W.Frag) : R2 := fun x y H Q => ∃ a b xs ys,x = .ref a ∧ y = .ref b ∧ SqT K H a xs ∧ SqT K H b ys ∧ xs ≠ [] ∧ xs.length + ys.length ≤ sizeLine ∧
 (ys = [] → Q (.ref a) H) ∧ (ys ≠ [] → ∀ p,H p = none → Q (.ref p) (upd H p (.tup (xs ++ ys))))
theorem zb.nil_iff {xs : List V} {us : List Value} (r : zb xs us) : us = [] ↔ xs = [] := by
 cases r with
 | nil => simp
 | cons _ _ => simp
theorem op_catT : OpR X (binaryOp .Add) (rCatT X.K) := by
 intro pins s σ H x y v u Q I rx ry h;obtain ⟨a,b,xs,ys,rfl,rfl,ha,hb,hx,hz,q1,q2⟩ := h;cases rx;cases ry;obtain ⟨its,r1,p1,_⟩ := I.tuple ha;obtain ⟨its2,r2,p2,_⟩ := I.tuple hb;refine HT.cat_tup p1 p2 (fun z => hx (r1.nil_iff.mp z)) (fun z => ⟨.ref a,H,I,rfl,q1 (r2.nil_iff.mp z)⟩) (fun z => ?_) (by rw [← r1.length,← r2.length]; exact hz);refine ⟨.ref s.heap.objs.size,_,I.laid (t' := s.toks) (o := .tup (xs ++ ys)) (fun b ob q => get?_push_of_some _ q) (le_refl _) ?_,rfl,q2 (fun w => z (r2.nil_iff.mpr w)) _ (I.hok.fresh (le_refl _))⟩;exact ⟨by rw [length_append]; exact hz,_,r1.append r2,IsTup.new _ _⟩
end
end L2
namespace L2
open PySem PySem.Spec PyProof.Rows
def ixN (n : Nat) (i : Int) : Option Nat := if 0 ≤ i then (if i < n then some i.toNat else none) else if -(n : Int) ≤ i then some (i + n).toNat else none
def atI {α : Type} (xs : List α) (i : Int) : Option α := (ixN xs.length i).bind fun j => xs[j]?
theorem Gd {n : Nat} {i : Int} {j : Nat} (h : ixN n i = some j) : seqIndex? i n = some j ∧ j < n ∧ -(n : Int) ≤ i ∧ i < n := by
 unfold ixN at h;by_cases h0 : 0 ≤ i
 ·rw [if_pos h0] at h
  by_cases h1 : i < n
  ·rw [if_pos h1] at h
   have e : i.toNat = j := Option.some.inj h;exact ⟨by rw [seqIndex_of h0 h1,e],by omega,by omega,h1⟩
  ·rw [if_neg h1] at h; cases h
 ·rw [if_neg h0] at h
  by_cases h1 : -(n : Int) ≤ i
  ·rw [if_pos h1] at h
   have e : (i + n).toNat = j := Option.some.inj h;exact ⟨by rw [seqIndex_neg (by omega) h1,e],by omega,h1,by omega⟩
  ·rw [if_neg h1] at h; cases h
theorem Ge {α : Type} {xs : List α} {i : Int} {v : α} (h : atI xs i = some v) : ∃ j,seqIndex? i xs.length = some j ∧ xs[j]? = some v ∧ j < xs.length ∧ -(xs.length : Int) ≤ i ∧ i < xs.length := by
 unfold atI at h;cases e : ixN xs.length i with
 | none => rw [e] at h; cases h
 | some j =>
  rw [e] at h;obtain ⟨h1,h2,h3,h4⟩ := Gd e;exact ⟨j,h1,h,h2,h3,h4⟩
def ZM (b : Expr) : Prop := ∀ o i,subscripted b false o i = operate [o,i] (getItem o i)
def IxR (X : Cx) (r : R2) : Prop :=
 ∀ (value slice : Expr) (pins : List (Addr × Obj)) (s : Shared) (σ : St) (H : Hp) (x y : V) (v u : Value) (Q : VK),Inv X pins σ H s → zw x v → zw y u → r x y H Q →
  subscripted slice false v u = operate [v,u] (getItem v u) → wpAny (model X.prog X.w) X.A (subscriptTail value slice v u) (EP X pins σ Q) X.xe s
def MtR (X : Cx) (id : String) (r : V → List V → Hp → VK → Prop) : Prop :=
 ∀ (pins : List (Addr × Obj)) (s : Shared) (σ : St) (H : Hp) (x : V) (xs : List V) (v : Value) (us : List Value) (Q : VK),Inv X pins σ H s → zw x v → zb xs us → r x xs H Q →
  wpAny (model X.prog X.w) X.A (call (.builtin id) (v :: us)) (EP X pins σ Q) X.xe s
section
variable {X : Cx} {a b : Expr} {ta tb : TE} {pos : Pos}
theorem IxR.or {r r' : R2} (h : IxR X r) (h' : IxR X r') : IxR X (fun x y H Q => r x y H Q ∨ r' x y H Q) := by
 intro value slice pins s σ H x y v u Q I rx ry q hs;rcases q with q | q
 ·exact h value slice pins s σ H x y v u Q I rx ry q hs
 ·exact h' value slice pins s σ H x y v u Q I rx ry q hs
theorem MtR.or {id : String} {r r' : V → List V → Hp → VK → Prop} (h : MtR X id r) (h' : MtR X id r') : MtR X id (fun x xs H Q => r x xs H Q ∨ r' x xs H Q) := by
 intro pins s σ H x xs v us Q I rx rs q;rcases q with q | q
 ·exact h pins s σ H x xs v us Q I rx rs q
 ·exact h' pins s σ H x xs v us Q I rx rs q
theorem pe_ix {r : R2} (hr : IxR X r) (ha : PE X a ta) (hb : PE X b tb) (hs : ZM b) : PE X (.Subscript a b pos) (tOp r ta tb) := by
 intro pins s σ H Q I h;exact Subscript_ (binT ha hb I h fun v u s2 x y H2 I2 rx ry q => hr a b pins s2 σ H2 x y v u Q I2 rx ry q (hs _ _))
def rIxL (K : PySem.W.Frag) : R2 := fun x y H Q => ∃ p xs i v,x = .ref p ∧ y = .int i ∧ SqL K H p xs ∧ atI xs i = some v ∧ Q v H
def rIxT (K : PySem.W.Frag) : R2 := fun x y H Q => ∃ p xs i v,x = .ref p ∧ y = .int i ∧ SqT K H p xs ∧ atI xs i = some v ∧ Q v H
theorem Gf : IxR X (rIxL X.K) := by
 intro value slice pins s σ H x y v u Q I rx ry h hs;obtain ⟨p,xs,i,z,rfl,rfl,hq,he,q⟩ := h;cases rx;obtain ⟨t,rfl⟩ := ry;obtain ⟨its,r,pl,hz⟩ := I.list hq;obtain ⟨j,h1,h2,h3,h4,h5⟩ := Ge he;obtain ⟨w,ew,rw'⟩ := r.get h2;have hl := r.length;have hn := vm;have fin : EP X pins σ Q w s := ⟨z,H,I,rw',q⟩;by_cases h0 : 0 ≤ i
 ·have hj : i.toNat = j := by
   rw [seqIndex_of h0 h5] at h1;exact Option.some.inj h1
  exact item_listR pl.isList h0 (by omega) (by rw [hj]; simpa using ew) fin hs
 ·have hj : (i + (its.toArray.size : Int)).toNat = j := by
   rw [seqIndex_neg (by omega) h4] at h1;rw [size_toArray,← hl];exact Option.some.inj h1
  exact subscriptTail_builtinR (x := w) pl.isList.typeIs slot_list_getitem.lookup
   (wpAny_getItem_list_neg (Q := fun r s' => r = w ∧ EP X pins σ Q r s') pl.isList (by omega) (by rw [size_toArray] <;> omega) (by omega) (by rw [hj]; simpa using ew) ⟨rfl,fin⟩) hs
theorem ix_tup : IxR X (rIxT X.K) := by
 intro value slice pins s σ H x y v u Q I rx ry h hs;obtain ⟨p,xs,i,z,rfl,rfl,hq,he,q⟩ := h;cases rx;obtain ⟨t,rfl⟩ := ry;obtain ⟨its,r,pl,hz⟩ := I.tuple hq;obtain ⟨j,h1,h2,h3,h4,h5⟩ := Ge he;obtain ⟨w,ew,rw'⟩ := r.get h2;have hl := r.length;have hn := vm;have fin : EP X pins σ Q w s := ⟨z,H,I,rw',q⟩;exact subscriptTail_builtinR (x := w) pl.typeIs slot_tuple_getitem.lookup
  (getItem_tuple (j := j) (Q := fun r s' => r = w ∧ EP X pins σ Q r s') pl (by omega) (by omega) (by rw [size_toArray,← hl]; exact h1) (by simpa using ew) ⟨rfl,fin⟩) hs
theorem uo (its : List Value) (n j : Nat) (u : Value) : Obj.mapSeq (·.setIfInBounds j u) { cls := .type "list",data := .seq its.toArray n } = { cls := .type "list",data := .seq (its.set j u).toArray n } := by
 simp [Obj.mapSeq]
theorem Inv.lst {pins : List (Addr × Obj)} {σ : St} {H : Hp} {s : Shared} {p : Addr} {xs : List V} (I : Inv X pins σ H s) (h : H p = some (.lst xs)) :
  ∃ (its : List Value) (n : Nat),zb xs its ∧ s.heap.get? p = some { cls := .type "list",data := .seq its.toArray n } ∧ xs.length ≤ sizeLine := by
 obtain ⟨z,its,n,r,e⟩ := I.hok p _ h;exact ⟨its,n,r,e,z⟩
theorem Inv.lstUpd {pins : List (Addr × Obj)} {σ : St} {H : Hp} {s : Shared} {p : Addr} {xs ys : List V} {its its' : List Value} {n n' : Nat} {f : Obj → Obj} (I : Inv X pins σ H s) (h : H p = some (.lst xs))
  (ho : s.heap.get? p = some { cls := .type "list",data := .seq its.toArray n }) (hf : f { cls := .type "list",data := .seq its.toArray n } = { cls := .type "list",data := .seq its'.toArray n' }) (r : zb ys its') (hz : ys.length ≤ sizeLine) (t : Nat) :
  Inv X pins σ (upd H p (.lst ys)) { s with heap := s.heap.update p f,toks := t } := by
 have e : (s.heap.update p f).get? p = some { cls := .type "list",data := .seq its'.toArray n' } := by
  rw [Heap.get?_update_self f ho (by rw [hf] <;> rfl),hf]
 refine I.write (x := p) (e := p) (by rw [h]; trivial) (.inl rfl) (fun b u hb q => (get?_update_other _ _ (Ne.symm hb)).trans q) ⟨_,e⟩ ?_;exact ⟨hz,its',n',r,e⟩
def rSetL : V → V → V → Hp → (Hp → Prop) → Prop := fun o i v H Q => ∃ p xs k j,o = .ref p ∧ i = .int k ∧ H p = some (.lst xs) ∧ ixN xs.length k = some j ∧ Q (upd H p (.lst (xs.set j v)))
theorem zAp : PSet X rSetL := by
 intro pins s σ H o i v ov iv u Q I ro ri rv h;obtain ⟨p,xs,k,j,rfl,rfl,hp,hj,q⟩ := h;cases ro;obtain ⟨t,rfl⟩ := ri;obtain ⟨its,n,r,ho,hz⟩ := I.lst hp;obtain ⟨h1,h2,h3,h4⟩ := Gd hj;have hl := r.length;have hn := vm;have I' : Inv X pins σ (upd H p (.lst (xs.set j v))) { s with heap := s.heap.update p (Obj.mapSeq (·.setIfInBounds j u)) } :=
  I.lstUpd hp ho (uo its n j u) (r.set rv j) (by rw [List.length_set]; exact hz) s.toks
 by_cases h0 : 0 ≤ k
 ·have hk : k.toNat = j := by
   rw [seqIndex_of h0 h4] at h1;exact Option.some.inj h1
  exact PySem.W.ki_setAt ho h0 (by omega) (by rw [size_toArray,← hl]; exact h4) (by rw [hk]; exact ⟨_,I',q⟩)
 ·have hk : (k + (its.toArray.size : Int)).toNat = j := by
   rw [seqIndex_neg (by omega) h3] at h1;rw [size_toArray,← hl];exact Option.some.inj h1
  exact PySem.W.ki_setBack ho (by omega) (by rw [size_toArray,← hl]; exact h3) (by omega) (by rw [hk]; exact ⟨_,I',q⟩)
theorem WG (lo hi : Option Int) (n : Nat) : (sliceBounds lo hi none n).1 = ((HT.sIx n 0 lo : Nat) : Int) ∧ (sliceBounds lo hi none n).2.1 = ((HT.sIx n n hi : Nat) : Int) ∧ (sliceBounds lo hi none n).2.2 = 1 := by
 refine ⟨?_,?_,rfl⟩
 ·cases lo with
  | none => simp [sliceBounds,HT.sIx]
  | some i =>
   simp only [sliceBounds,HT.sIx,Option.getD_none,show (1 : Int) > 0 by decide,if_true];by_cases h : i < 0
   ·simp only [h,if_true] <;> omega
   ·simp only [h,if_false] <;> omega
 ·cases hi with
  | none => simp [sliceBounds,HT.sIx]
  | some i =>
   simp only [sliceBounds,HT.sIx,Option.getD_none,show (1 : Int) > 0 by decide,if_true];by_cases h : i < 0
   ·simp only [h,if_true] <;> omega
   ·simp only [h,if_false] <;> omega
theorem ZN (its : List Value) (lo hi : Option Int) : slicePick its.toArray lo hi none = ((its.drop (HT.sIx its.length 0 lo)).take (HT.sIx its.length its.length hi - HT.sIx its.length 0 lo)).toArray := by
 obtain ⟨h1,h2,h3⟩ := WG lo hi its.toArray.size;unfold slicePick;rw [h1,h2,h3];simp only [sliceRange_one,pick_run,size_toArray] <;> rfl
def rSlL (K : PySem.W.Frag) : V → Option Int → Option Int → Hp → VK → Prop := fun x lo hi H Q => ∃ a xs,x = .ref a ∧ SqL K H a xs ∧ ∀ p,H p = none → Q (.ref p) (upd H p (.lst (zAo xs lo hi)))
theorem sl_list : SlR X (rSlL X.K) := by
 intro pins s σ H x v vl vu lo hi sl Q I rx hs pl pu h;obtain ⟨a,xs,rfl,hx,q⟩ := h;cases rx;obtain ⟨its,r,ht,hz⟩ := I.list hx;have hlen := r.length;refine ⟨"list",_,slot_list_getitem.lookup,ht.isList.typeIs,?_⟩;refine wpAny_getItem_list_slice ht.isList hs pl pu .none (by simp) ?_ (by rw [size_toArray] <;> omega);rw [ZN,← hlen];refine ⟨.ref s.heap.objs.size,_,I.laid (t' := s.toks) (o := .lst (zAo xs lo hi)) (fun b ob q => get?_push_of_some _ q) (le_refl _) ?_,rfl,q _ (I.hok.fresh (le_refl _))⟩;exact ⟨le_trans (J3 xs lo hi) hz,_,0,(r.drop (HT.sIx xs.length 0 lo)).take (HT.sIx xs.length xs.length hi - HT.sIx xs.length 0 lo),get?_push_size _ rfl⟩
def wD : V → Bool
 | .non => true
 | .bl _ => true
 | .int _ => true
 | .str _ => true
 | _ => false
def eqV : V → V → Bool
 | .non,.non => true
 | .bl a,.bl b => a == b
 | .bl a,.int b => (if a then 1 else 0) == b
 | .int a,.bl b => a == (if b then 1 else 0)
 | .int a,.int b => a == b
 | .str a,.str b => a == b
 | _,_ => false
theorem Gg {A : Around} {s : Shared} {y x : V} {u v : Value} (ry : zw y u) (rx : zw x v) (fy : wD y = true) (fx : wD x = true) : SeqAt.EqAt A s u v (eqV y x) := by
 cases y with
 | non =>
  cases ry;cases x with
  | non => cases rx; exact SeqAt.EqAt.same _
  | bl b => cases rx; exact SeqAt.EqAt.none_bool b
  | int b => obtain ⟨t,rfl⟩ := rx; exact SeqAt.EqAt.none_int b t
  | str b => obtain ⟨t,rfl⟩ := rx; exact SeqAt.EqAt.none_str b t
  | _ => exact absurd (show false = true from fx) Bool.false_ne_true
 | bl a =>
  cases ry;cases x with
  | non => cases rx; exact SeqAt.EqAt.bool_none a
  | bl b => cases rx; exact SeqAt.EqAt.bool_bool a b
  | int b => obtain ⟨t,rfl⟩ := rx; exact SeqAt.EqAt.bool_int a b t
  | str b => obtain ⟨t,rfl⟩ := rx; exact SeqAt.EqAt.bool_str a b t
  | _ => exact absurd (show false = true from fx) Bool.false_ne_true
 | int a =>
  obtain ⟨t',rfl⟩ := ry;cases x with
  | non => cases rx; exact SeqAt.EqAt.int_none a t'
  | bl b => cases rx; exact SeqAt.EqAt.int_bool a t' b
  | int b => obtain ⟨t,rfl⟩ := rx; exact SeqAt.EqAt.int_int a t' b t
  | str b => obtain ⟨t,rfl⟩ := rx; exact SeqAt.EqAt.int_str a t' b t
  | _ => exact absurd (show false = true from fx) Bool.false_ne_true
 | str a =>
  obtain ⟨t',rfl⟩ := ry;cases x with
  | non => cases rx; exact SeqAt.EqAt.str_none a t'
  | bl b => cases rx; exact SeqAt.EqAt.str_bool a t' b
  | int b => obtain ⟨t,rfl⟩ := rx; exact SeqAt.EqAt.str_int a t' b t
  | str b => obtain ⟨t,rfl⟩ := rx; exact SeqAt.EqAt.str_str a t' b t
  | _ => exact absurd (show false = true from fx) Bool.false_ne_true
 | _ => exact absurd (show false = true from fy) Bool.false_ne_true
def eqU (x : V) (u : Value) : Bool := match u with
 | .none => eqV .non x
 | .bool b => eqV (.bl b) x
 | .int i _ => eqV (.int i) x
 | .str z _ => eqV (.str z) x
 | _ => false
theorem zB2 {x y : V} {u : Value} (r : zw y u) (f : wD y = true) : eqU x u = eqV y x := by
 cases y with
 | non => cases r; rfl
 | bl b => cases r; rfl
 | int i => obtain ⟨t,rfl⟩ := r; rfl
 | str z => obtain ⟨t,rfl⟩ := r; rfl
 | _ => exact absurd (show false = true from f) Bool.false_ne_true
theorem J4 {x : V} : ∀ {xs : List V} {us : List Value},zb xs us → xs.all wD = true → us.any (eqU x) = xs.any fun y => eqV y x
 | _,_,.nil,_ => rfl
 | y :: xs,u :: us,.cons r t,f => by
  rw [all_cons,Bool.and_eq_true] at f;rw [any_cons,any_cons,zB2 r f.1,J4 t f.2]
theorem wm {A : Around} {s : Shared} {x : V} {v : Value} (rx : zw x v) (fx : wD x = true) : ∀ {xs : List V} {us : List Value},zb xs us → xs.all wD = true → ∀ u ∈ us,SeqAt.EqAt A s u v (eqU x u)
 | _,_,.nil,_ => fun u hu => by cases hu
 | y :: xs,u :: us,.cons r t,f => fun u' hu => by
  rw [all_cons,Bool.and_eq_true] at f;rcases mem_cons.mp hu with rfl | hu
  ·rw [zB2 r f.1]; exact Gg r rx f.1 fx
  ·exact wm rx fx t f.2 u' hu
def inV (x : V) (xs : List V) : Bool := xs.any fun y => eqV y x
def rIn (K : PySem.W.Frag) (neg : Bool) : R2 := fun x y H Q => ∃ p xs,y = .ref p ∧ (SqL K H p xs ∨ SqT K H p xs) ∧ wD x = true ∧ xs.all wD = true ∧ Q (.bl (if neg then !inV x xs else inV x xs)) H
theorem WH : OpR X (compareOp .In) (rIn X.K false) := by
 intro pins s σ H x y v u Q I rx ry h;obtain ⟨p,xs,rfl,hq,fx,fs,q⟩ := h;cases ry;rcases hq with hq | hq
 ·obtain ⟨its,r,pl,hz⟩ := I.list hq
  refine SeqAt.in_listAt (eqU x) pl.isList (fun w hw => wm rx fx r fs w (by simpa using hw)) ⟨.bl _,H,I,rfl,?_⟩;rw [show its.toArray.any (eqU x) = its.any (eqU x) by simp,J4 r fs];exact q
 ·obtain ⟨its,r,pl,hz⟩ := I.tuple hq
  refine SeqAt.in_tupleAt (eqU x) pl (fun w hw => wm rx fx r fs w (by simpa using hw)) ⟨.bl _,H,I,rfl,?_⟩;rw [show its.toArray.any (eqU x) = its.any (eqU x) by simp,J4 r fs];exact q
theorem JZ : OpR X (compareOp .NotIn) (rIn X.K true) := by
 intro pins s σ H x y v u Q I rx ry h;obtain ⟨p,xs,rfl,hq,fx,fs,q⟩ := h;cases ry;rcases hq with hq | hq
 ·obtain ⟨its,r,pl,hz⟩ := I.list hq
  refine SeqAt.notIn_listAt (eqU x) pl.isList (fun w hw => wm rx fx r fs w (by simpa using hw)) ⟨.bl _,H,I,rfl,?_⟩;rw [show its.toArray.any (eqU x) = its.any (eqU x) by simp,J4 r fs];exact q
 ·obtain ⟨its,r,pl,hz⟩ := I.tuple hq
  refine SeqAt.notIn_tupleAt (eqU x) pl (fun w hw => wm rx fx r fs w (by simpa using hw)) ⟨.bl _,H,I,rfl,?_⟩;rw [show its.toArray.any (eqU x) = its.any (eqU x) by simp,J4 r fs];exact q
theorem WI : yb X (.builtin "len") (fun xs H Q => ∃ p ys,xs = [.ref p] ∧ (SqL X.K H p ys ∨ SqT X.K H p ys) ∧ Q (.int ys.length) H) := by
 intro pins s σ H xs us Q I r h;obtain ⟨p,ys,rfl,hq,q⟩ := h;obtain ⟨u,rfl,rx⟩ := Ym r;cases rx;have hn := vm;rcases hq with hq | hq
 ·obtain ⟨its,r',pl,hz⟩ := I.list hq
  have hlen := r'.length;exact Calls.call_len_list pl.isList (by simp only [size_toArray] <;> omega) ⟨.int ys.length,H,I.tok _,⟨s.toks + 1,by rw [size_toArray,hlen]⟩,q⟩
 ·obtain ⟨its,r',pl,hz⟩ := I.tuple hq
  have hlen := r'.length;exact len_tuple pl (by simp only [size_toArray] <;> omega) ⟨.int ys.length,H,I.tok _,⟨s.toks + 1,by rw [size_toArray,hlen]⟩,q⟩
theorem yb.or {f : Value} {r r' : List V → Hp → VK → Prop} (h : yb X f r) (h' : yb X f r') : yb X f (fun xs H Q => r xs H Q ∨ r' xs H Q) := by
 intro pins s σ H xs us Q I rs q;rcases q with q | q
 ·exact h pins s σ H xs us Q I rs q
 ·exact h' pins s σ H xs us Q I rs q
theorem WJ : yb X (.type "list") (fun xs H Q => ∃ p ys,xs = [.ref p] ∧ (SqL X.K H p ys ∨ SqT X.K H p ys) ∧ ∀ l,H l = none → Q (.ref l) (upd H l (.lst ys))) := by
 intro pins s σ H xs us Q I r h;obtain ⟨p,ys,rfl,hq,q⟩ := h;obtain ⟨u,rfl,rx⟩ := Ym r;cases rx;have fin : ∀ (its : List Value),zb ys its → ys.length ≤ sizeLine → ∀ (h' : Heap) (c' : Nat),(∀ b o',s.heap.get? b = some o' → h'.get? b = some o') →
   h'.get? s.heap.objs.size = some { cls := .type "list",dict := none,data := .seq its.toArray c',slots := #[] } → EP X pins σ Q (.ref s.heap.objs.size) { s with heap := h' } := fun its r' hz h' c' kp e =>
  ⟨.ref s.heap.objs.size,_,I.laid (t' := s.toks) kp (le_refl _) (show jG X.prog X.w _ h' _ (.lst ys) from ⟨hz,its,c',r',e⟩),rfl,q _ (I.hok.fresh (le_refl _))⟩
 rcases hq with hq | hq
 ·obtain ⟨its,r',pl,hz⟩ := I.list hq
  have hlen := r'.length;obtain ⟨o,ho,hc,n,hd⟩ := pl.isList;exact call_list_seq p (.inl rfl) ho hc hd (fun h' c' kp e => fin its r' hz h' c' kp e) (by simp only [size_toArray] <;> omega)
 ·obtain ⟨its,r',pl,hz⟩ := I.tuple hq
  have hlen := r'.length;obtain ⟨o,ho,hc,n,hd⟩ := pl;exact call_list_seq p (.inr rfl) ho hc hd (fun h' c' kp e => fin its r' hz h' c' kp e) (by simp only [size_toArray] <;> omega)
theorem ZO : yb X (.type "tuple") (fun xs H Q => ∃ p ys,xs = [.ref p] ∧ ((SqL X.K H p ys ∧ ∀ l,H l = none → Q (.ref l) (upd H l (.tup ys))) ∨ (SqT X.K H p ys ∧ Q (.ref p) H))) := by
 intro pins s σ H xs us Q I r h;obtain ⟨p,ys,rfl,h⟩ := h;obtain ⟨u,rfl,rx⟩ := Ym r;cases rx;rcases h with ⟨hq,q⟩ | ⟨hq,q⟩
 ·obtain ⟨its,r',pl,hz⟩ := I.list hq
  have hlen := r'.length;refine call_tuple_list pl.isList (fun h' kp => ?_) (by simp only [size_toArray] <;> omega);have I1 : Inv X pins σ H { s with heap := h' } := I.kept (t' := s.toks) kp
  have I2 : Inv X pins σ (upd H h'.objs.size (.tup ys)) { s with heap := h'.push { cls := .type "tuple",data := .seq its.toArray } } :=
   I1.laid (t' := s.toks) (fun b o e => get?_push_of_some _ e) (le_refl _) (show jG X.prog X.w _ _ _ (.tup ys) from ⟨hz,its,r',IsTup.new _ _⟩)
  exact ⟨.ref h'.objs.size,_,I2,rfl,q _ (I1.hok.fresh (le_refl _))⟩
 ·obtain ⟨its,r',pl,hz⟩ := I.tuple hq
  exact call_tuple_same pl ⟨.ref p,H,I,rfl,q⟩
def tyV (K : PySem.W.Frag) (T : String) (x : V) (H : Hp) : Prop := match x with
 | .str _ => T = "str"
 | .int _ => T = "int"
 | .ref p => (T = "list" ∧ ∃ xs,SqL K H p xs) ∨ (T = "tuple" ∧ ∃ o,K.lookup p = some o ∧ o.cls = .type "tuple" ∧ o.dict = none) ∨
   (T = "dict" ∧ ((∃ kvs,H p = some (.dK kvs)) ∨ ∃ kvs,H p = some (.dT kvs))) ∨ (T = "set" ∧ ∃ S n,H p = some (.set S n))
 | _ => False
theorem tyV_is {pins : List (Addr × Obj)} {σ : St} {H : Hp} {s : Shared} {T : String} {x : V} {v : Value} (I : Inv X pins σ H s) (r : zw x v) (ty : tyV X.K T x H) :
  s.TypeIs v T ∧ ∀ a,v = .ref a → ∃ ob,s.heap.get? a = some ob ∧ ob.dict = none := by
 cases x with
 | str z =>
  obtain ⟨t,rfl⟩ := r;cases (show T = "str" from ty);exact ⟨typeIs_str s z t,fun _ e => nomatch e⟩
 | int i =>
  obtain ⟨t,rfl⟩ := r;cases (show T = "int" from ty);exact ⟨typeIs_int s i t,fun _ e => nomatch e⟩
 | ref p =>
  cases r;rcases ty with ⟨rfl,xs,hq⟩ | ⟨rfl,o,hk,hc,hd⟩ | ⟨rfl,hk⟩ | ⟨rfl,S,n,hk⟩
  ·obtain ⟨its,_,pl,_⟩ := I.list hq
   refine ⟨pl.isList.typeIs,fun a e => ?_⟩;cases e;obtain ⟨o,n,e,c,hd,_⟩ := pl;exact ⟨o,e,hd⟩
  ·refine ⟨⟨o,I.kIn p o hk,hc⟩,fun a e => ?_⟩
   cases e;exact ⟨o,I.kIn _ o hk,hd⟩
  ·have z : ∃ o,s.heap.get? p = some o ∧ o.ExactDict := by
    rcases hk with ⟨kvs,hk⟩ | ⟨kvs,hk⟩
    ·obtain ⟨_,_,_,_,o,_,_,e,ex,_⟩ := I.hok p _ hk
     exact ⟨o,e,ex⟩
    ·obtain ⟨_,_,_,_,o,_,_,e,ex,_⟩ := I.hok p _ hk
     exact ⟨o,e,ex⟩
   obtain ⟨o,e,ex⟩ := z;refine ⟨⟨o,e,ex.1⟩,fun a e2 => ?_⟩;cases e2;exact ⟨o,e,ex.2.1⟩
  ·obtain ⟨o,_,_,_,e,ex,_⟩ := I.hok p _ hk
   refine ⟨⟨o,e,ex.1⟩,fun a e2 => ?_⟩;cases e2;exact ⟨o,e,ex.2.1⟩
 | _ => exact False.elim ty
def tBM (K : PySem.W.Frag) (T : String) (r : V → List V → Hp → VK → Prop) (to : TE) (t : TA) : TE := fun σ H Q => to σ H fun x H1 => tyV K T x H1 ∧ t σ H1 fun xs H2 => r x xs H2 Q
variable {o e : Expr} {es : List Expr} {to : TE} {t : TA} {name : Str} {apos cpos : Pos} {T id : String} {r : V → List V → Hp → VK → Prop}
theorem pe_bm (pa : PlainAttrs T) (slot : Slot T name id) (hty : typeOf (.builtin id) = pure (.type "method_descriptor")) (hm : MtR X id r) (ho : PE X o to) (ha : PA X (e :: es) t)
  (hbase : attributeBase o name X.env (eval o X.env) = eval o X.env := by rfl)
  (hfew : ((backTo cpos (starEach (e :: es) X.env)).all (fun x => !x.1) && (backToKw cpos (keywordEach [] X.env)).all (fun x => x.1.isSome)
   && decide ((e :: es).length + ([] : List Keyword).length + (if ([] : List Keyword).isEmpty then 0 else 1) < 30)) = true := by rfl)
  (hline : (apos.endLine == cpos.line) = true := by rfl) (hs : starEach (e :: es) X.env = (false,eval e X.env) :: starEach es X.env := by rfl) (hplain : (backTo cpos (starEach es X.env)).any (·.1) = false := by rfl) :
  PE X (.Call (.Attribute o name apos) (e :: es) [] cpos) (tBM X.K T r to t) := by
 intro pins s σ H Q I h;refine wpAny_Call_method_late hbase hfew hline rfl (thn (ho pins s σ H _ I h) fun v s1 ⟨x,H1,I1,r1,ty,q1⟩ => ?_);obtain ⟨h1,h2⟩ := tyV_is I1 r1 ty;refine ⟨T,id,pa,slot,hty,h1,h2,?_⟩;have hA := ha cpos pins s1 σ H1 _ I1 q1;rw [hs] at hA ⊢;refine Calls.callWith_builtin (by show (false || (backTo cpos (starEach es X.env)).any (·.1)) = false; rw [hplain] <;> rfl) (Calls.evalArgs_plain ?_);exact thn hA fun us s2 ⟨vs,H2,I2,r2,q2⟩ => hm pins s2 σ H2 x vs v us Q I2 r1 r2 q2
end
end L2
namespace L2
open PySem PySem.Spec PyProof.Rows
def MtM (X : Cx) (id : String) (r : V → List V → Hp → VK → Prop) : Prop :=
 ∀ (pins : List (Addr × Obj)) (s : Shared) (σ : St) (H : Hp) (x : V) (xs : List V) (v : Value) (us : List Value) (Q : VK),Inv X pins σ H s → zw x v → zb xs us → r x xs H Q →
  wpAny (model X.prog X.w) X.A (call (.builtin id) (v :: us)) (EP X pins σ Q) X.xe s
theorem zb.one : ∀ {x : V} {us : List Value},zb [x] us → ∃ u,us = [u] ∧ zw x u
 | _,_,.cons r .nil => ⟨_,rfl,r⟩
theorem zb.zero : ∀ {us : List Value},zb [] us → us = []
 | _,.nil => rfl
theorem zb.dropLast {xs : List V} {us : List Value} (h : zb xs us) : zb xs.dropLast us.dropLast := by
 induction h with
 | nil => exact .nil
 | cons r t ih =>
  cases t with
  | nil => exact .nil
  | cons q t' => exact .cons r ih
theorem zb.eraseIdx : ∀ {xs : List V} {us : List Value} (i : Nat),zb xs us → zb (xs.eraseIdx i) (us.eraseIdx i)
 | _,_,_,.nil => .nil
 | _,_,0,.cons _ t => t
 | _,_,i + 1,.cons r t => .cons r (zb.eraseIdx i t)
theorem zb.reverse {xs : List V} {us : List Value} (h : zb xs us) : zb xs.reverse us.reverse := by
 induction h with
 | nil => exact .nil
 | cons r t ih => rw [reverse_cons,reverse_cons]; exact zb.append ih (.cons r .nil)
theorem zb.rep {xs : List V} {us : List Value} (h : zb xs us) : ∀ k : Nat,zb (replicate k xs).flatten (replicate k us).flatten
 | 0 => .nil
 | k + 1 => by
  rw [replicate_succ,replicate_succ,flatten_cons,flatten_cons];exact zb.append h (zb.rep h k)
theorem YA (its : List Value) : ∀ (k : Nat) (acc : List Value),
  foldl (fun x1 x2 => x1 ++ x2) acc.toArray (replicate k its.toArray) = (acc ++ (replicate k its).flatten).toArray
 | 0,acc => by simp
 | k + 1,acc => by
  have e : acc.toArray ++ its.toArray = (acc ++ its).toArray := by simp
  have e2 : (acc ++ its) ++ (replicate k its).flatten = acc ++ (replicate (k + 1) its).flatten := by
   rw [replicate_succ,flatten_cons,append_assoc]
  rw [← e2,← YA its k (acc ++ its),← e,replicate_succ,List.foldl_cons]
section
variable {X : Cx} {pins : List (Addr × Obj)} {σ : St} {H : Hp} {s : Shared} {l b : Addr} {xs ys zs : List V}
theorem Inv.lset {its its' : List Value} {n : Nat} {f : Array Value → Array Value} {t' : Nat} (I : Inv X pins σ H s) (hH : H l = some (.lst xs))
  (e : s.heap.get? l = some { cls := .type "list",data := .seq its.toArray n }) (hf : f its.toArray = its'.toArray) (hv : zb ys its') (hz : ys.length ≤ sizeLine) :
  Inv X pins σ (upd H l (.lst ys)) { s with heap := s.heap.update l (Obj.mapSeq f),toks := t' } := by
 have q := PySem.IsL.update e f;rw [hf] at q;refine I.write (x := l) (e := l) (by rw [hH]; exact trivial) (.inl rfl) (fun b' u hb hu => (get?_update_other s.heap (Obj.mapSeq f) (Ne.symm hb)).trans hu) ⟨_,q⟩ ?_;exact ⟨hz,its',_,hv,q⟩
theorem Inv.lnew {its : List Value} {t' : Nat} (I : Inv X pins σ H s) (hv : zb ys its) (hz : ys.length ≤ sizeLine) :
  Inv X pins σ (upd H s.heap.objs.size (.lst ys)) { s with heap := s.heap.push { cls := .type "list",data := .seq its.toArray },toks := t' } :=
 I.laid (fun _ _ q => get?_push_of_some _ q) (le_refl _) ⟨hz,its,0,hv,get?_push_size _ rfl⟩
theorem Inv.fresh (I : Inv X pins σ H s) : H s.heap.objs.size = none := I.hok.fresh (le_refl _)
theorem Inv.lstM (I : Inv X pins σ H s) (hH : H l = some (.lst xs)) : xs.length ≤ sizeLine ∧ ∃ (its : List Value) (n : Nat),zb xs its ∧ xs.length = its.length ∧ s.heap.get? l = some { cls := .type "list",data := .seq its.toArray n } := by
 obtain ⟨z,its,n,r,e⟩ := I.hok l _ hH;exact ⟨z,its,n,r,r.length,e⟩
theorem zAq {n : Nat} (h : n ≤ sizeLine) : Builtin.List.listTooLong n = false := by
 unfold Builtin.List.listTooLong;exact decide_eq_false (by omega)
end
section
variable {X : Cx}
def Gh : V → List V → Hp → VK → Prop := fun x vs H Q => ∃ l xs y,x = .ref l ∧ vs = [y] ∧ H l = some (.lst xs) ∧ xs.length < sizeLine ∧ Q .non (upd H l (.lst (xs ++ [y])))
theorem WK : MtM X "list.append" Gh := by
 intro pins s σ H x vs v us Q I rx rv h;obtain ⟨l,xs,y,rfl,rfl,hH,hz,q⟩ := h;cases rx;obtain ⟨u,rfl,ru⟩ := rv.one;obtain ⟨z,its,n,r,hl,e⟩ := I.lstM hH;refine call_meets F.slot_list_append ⟨_,e,rfl⟩ F.entry_list_append (F.args_list_append_2 _ _) (PySem.list_append l its.toArray n u (by rw [size_toArray]; omega)) ⟨e,?_⟩;refine ⟨.non,_,I.lset (its' := its ++ [u]) hH e (by simp) (r.append (.cons ru .nil)) ?_,rfl,q⟩;rw [length_append,List.length_singleton];omega
theorem W2 {α : Type} (xs : List α) (k : Nat) : (replicate k xs).flatten.length = k * xs.length := by
 induction k with
 | zero => simp
 | succ k ih => rw [replicate_succ,flatten_cons,length_append,ih,Nat.succ_mul,Nat.add_comm]
end
section
variable {prog : Program} {w : World} {A : Around} {E : Value → Shared → Prop} {s : Shared}
end
section
variable {X : Cx}
end
end L2
namespace Att
open PySem PySem.W PySem.Calls PyProof.Rows
theorem YB {P : Params} {h : Heap} : ∀ (ns : List Int) (vs : List Value),WellAll P h vs (ns.map WData.int) → IntsAre vs ns := by
 intro ns
 induction ns with
 | nil =>
  intro vs w;rw [List.map_nil] at w;cases w;exact .nil
 | cons n ns ih =>
  intro vs w;rw [map_cons] at w;cases w with
  | cons a b =>
   cases a;exact .cons _ _ (ih _ b)
theorem Gi {l : OpenLaw} {n : Nat} (hn : l.most = some n) {P : Params} {h : Heap} {args : List WData} {vals : List Value}
  (hpre : l.row.toRowW.claim.pre args = true) (hwl : WellAll P h vals args) :
  ∃ a vs ns,vals = [Value.ref a] ∧ args = [WData.list (ns.map WData.int)] ∧ h.get? a = some { cls := .type "list",data := .seq vs.toArray } ∧ IntsAre vs ns ∧ ns.length ≤ n := by
 have hsh : WShape.hasAll [] args [.list .int] = true := (pre_splitW hpre).1;have hc : l.pre.holds [] { args := args } = true := (pre_splitW hpre).2;obtain ⟨d,r,rfl,h1,h2⟩ := hasAllW_cons hsh;obtain rfl := hasAllW_nil h2;obtain ⟨xs,rfl,h3⟩ := hasW_list h1;obtain ⟨ns,rfl⟩ := items_int h3;have hlen : ns.length ≤ n := by
  unfold OpenLaw.pre at hc;have h4 : (WTm.not (.lt (.lit (.int (n : Int))) (.len (.arg 0)))).holds [] { args := [.list (ns.map .int)] } = true := by
   have h4 := (holds_andW hc).1;rw [hn] at h4;exact h4
  have h5 := condW_of h4 (w_not (w_lt w_lit (w_len_list (w_arg rfl))));rw [length_map] at h5;refine Nat.le_of_not_lt fun q => ?_
  have q' : (n : Int) < ((ns.length : Nat) : Int) := by omega
  first
   | (rw [decide_eq_true q'] at h5; exact absurd h5 (by decide))
   | (simp at h5; omega)
 cases hwl with
 | cons w1 w2 =>
  cases w2;cases w1 with
  | list ho hall => exact ⟨_,_,ns,rfl,rfl,ho,YB ns _ hall,hlen⟩
theorem Gj (l : OpenLaw) (args : List WData) : l.row.toRowW.claim.post args (.bool true) args = true :=
 postW_of (r := l.row.toRowW) (X := (true == true))
  (show WShape.has [] (.bool true) .bool = true by first | rfl | decide | simp [WShape.has,WShape.arms,WShape.armsAll])
  (show (WTm.eq .res (.lit (.bool true))).value [] { args := args,res := some (.bool true),after := args } = some (.bool (true == true)) from w_eq_bool (w_res rfl) w_lit) rfl
theorem attach_call {l : OpenLaw} {n : Nat} {q : Program} {loose : List Str} {XP : (Str → Option Value) → Heap → Prop} {YP : World → Heap → Prop} {d : DefRec}
  (hn : l.most = some n) (hdf : d.params.defaults = [])
  (call : ∀ (w : World) (s₀ s₁ : Shared) (mg mb : Str → Option Value) (fa : Addr) (o : Obj) (pm cd doc : Value) (a : Addr) (vs : List Value) (ns : List Int),
   Ground q loose [] XP w s₀ mg mb s₁.heap → YP w s₁.heap →
   s₁.heap.get? fa = some o → o.data = .func (docDef d.name d.params d.body d.scope pm cd doc) → s₁.heap.CodeRec cd d.name → mg d.name = some (.ref fa) →
   s₁.heap.get? a = some { cls := .type "list",data := .seq vs.toArray } → IntsAre vs ns → ns.length ≤ n → s₁.gens = #[] →
   codeAny (model l.prog w) callerA (.call (.ref fa) ⟨[.ref a],[]⟩) (fun r s' => r = .ok (.ret (.bool true)) ∧ OldK s₁.heap s'.heap ∧ s'.os = s₁.os ∧ AllBare s'.gens) s₁) :
  WalkO q loose XP YP l.row.toRowW d [] (fun f vs => PySem.call f vs) := by
 intro w s₀ s₁ mg mb G Y fa o pm cd doc dV kV ho hd hcd hD hmg hg args vals as hpre hlay hrd hwl hlo;obtain rfl : dV = .none := Dflts.none hD hdf;obtain rfl : kV = .none := Dflts.noKw hD;obtain ⟨a,vs,ns,rfl,rfl,hobj,hints,hlen⟩ := Gi hn hpre hwl;refine enter_call (codeAny_mono (call w s₀ s₁ mg mb fa o pm cd doc a vs ns G Y ho (fd_plain hd) hcd hmg hobj hints hlen hg) fun r s' hq => ?_);obtain ⟨rfl,h2,h3,h4⟩ := hq;exact ⟨.inl ⟨.bool true,.bool true,[],rfl,fun _ => rfl,.bool true,Gj l _,fun _ => ⟨List.Pairwise.nil,fun _ hm => (nomatch hm)⟩⟩,h2,h3,h4⟩
section
variable {prog : Program} {w : World} {A : Around} {E : Value → Shared → Prop} {s : Shared} {K : Frag}
end
end Att
namespace L2
open PySem PySem.Spec PyProof.Rows
theorem WL : ∀ {vs : List Value} {ns : List Int},IntsAre vs ns → zb (ns.map V.int) vs
 | _,_,.nil => .nil
 | _,_,.cons n t h => .cons ⟨t,rfl⟩ (WL h)
def Only (H : Hp) : Prop := ∀ b,H b = none ∨ ∃ o xs,H b = some (.frz o (.lst xs))
theorem zAr {P : Program} {w : World} {K : PySem.W.Frag} {mg mb : Str → Option Value} {CX : CXT} {k : Nat} {fa a : Addr} {fd : FuncData} {x : Str} {sp : Sp} {s₁ : Shared} {vs : List Value} {ns : List Int}
  (KX : K.In s₁.heap) (hns : s₁.heap.Ns mainGlobals mg) (hb : s₁.heap.Ns builtinsNs mb) (hbb : ∀ x : Str,x ≠ "__name__" → mb x = bootBuiltins x) (hlim : s₁.heap.NoLimit) (hg : s₁.gens = #[])
  (ha : s₁.heap.get? a = some { cls := .type "list",data := .seq vs.toArray }) (hi : IntsAre vs ns) (hl : ns.length ≤ sizeLine) (hr : Room k callerA)
  (F : ∀ base : Heap,K.In base → base.Ns mainGlobals mg → FnOk P w K mg base CX k fa fd [x] sp) (hbind : ∀ (s : Shared) (u : Value),BindsTo s fd ⟨[u],[]⟩ [(x,u)])
  (hsp : ∀ H : Hp,Only H → SqL K H a (ns.map V.int) → sp [.ref a] H (fun v _ => v = .bl true) fun _ _ _ => False)
  (hCX : ∀ H e s',CX [] H s₁ (fun _ _ _ => False) e s' → False) :
  codeAny (model P w) callerA (.call (.ref fa) ⟨[.ref a],[]⟩) (fun r s' => r = .ok (.ret (.bool true)) ∧ OldK s₁.heap s'.heap ∧ s'.os = s₁.os ∧ AllBare s'.gens) s₁ := by
 have rv := WL hi;have lenV := hi.length
 -- from an abstract heap in which nothing but the script may be tracked
 have core : ∀ H : Hp,Only H → SqL K H a (ns.map V.int) → HOk P w H s₁.heap → (∀ b,H b ≠ none → b = a) → (H a ≠ none → K.lookup a = none) →
   codeAny (model P w) callerA (.call (.ref fa) ⟨[.ref a],[]⟩) (fun r s' => r = .ok (.ret (.bool true)) ∧ OldK s₁.heap s'.heap ∧ s'.os = s₁.os ∧ AllBare s'.gens) s₁ := by
  intro H hO hS hok hA hK;have base_of : ∀ {b : Addr} {o : Obj},s₁.heap.get? b = some o → H b = none → (zAX s₁.heap H).get? b = some o := fun e n => zAY e n
  have noA : ∀ {b : Addr} {o : Obj} {es : Array DictEntry} {ep : Nat},s₁.heap.get? b = some o → o.data = .dict es ep → H b = none := fun {b o es ep} e d => by
   cases q : H b with
   | none => rfl
   | some u =>
    have e' : b = a := hA b (by rw [q]; simp);subst e';rw [ha] at e; cases e;have d' : Data.seq vs.toArray _ = Data.dict es ep := d;cases d'
  have nsK : ∀ {b : Addr} {m : Str → Option Value},s₁.heap.Ns b m → (zAX s₁.heap H).Ns b m := fun {b m} ⟨o,es,ep,e,d,r⟩ => ⟨o,es,ep,base_of e (noA e d),d,r⟩
  have hKb : K.In (zAX s₁.heap H) := fun b o e => base_of (KX b o e) (by
   cases q : H b with
   | none => rfl
   | some u =>
    have e' : b = a := hA b (by rw [q]; simp);subst e';rw [hK (by rw [q]; simp)] at e; cases e)
  have hM : Mod K mg (zAX s₁.heap H) := ⟨hKb,nsK hns,⟨mb,nsK hb,hbb⟩,let ⟨mc,h1,h2⟩ := hlim; ⟨mc,nsK h1,h2⟩⟩;have e0 : Env0 P w K mg (zAX s₁.heap H) callerA [] s₁ H := ⟨rfl,hM,fun b o e => of_hidT e,Nat.le_of_eq (GI _ _),trivial,fun b hb => absurd (show b ∈ ([] : List Addr) from hb) (by simp),hok,.of_eq hg⟩;refine codeAny_mono ((F _ hKb (nsK hns)).run callerA [] s₁ H ⟨[.ref a],[]⟩ [.ref a] [.ref a] _ _ hr e0 (hbind s₁ (.ref a)) (.cons rfl .nil) (hsp H hO hS)) fun r s' h => ?_
  cases r with
  | error e => exact (hCX H e s' h).elim
  | ok fl =>
   cases fl with
   | next => exact False.elim h
   | brk => exact False.elim h
   | cont => exact False.elim h
   | ret u =>
    obtain ⟨v,H',os,bare,un,hok',r',q⟩ := h;have q' : v = .bl true := q;subst q';obtain rfl : u = Value.bool true := r';refine ⟨rfl,OldK.of_keep fun b o e => ?_,os,bare⟩;cases q : H b with
    | none => exact un.keep b o e q (by intro z; exact absurd (show b ∈ ([] : List Addr) from z) (by simp)) (by simp)
    | some u =>
     rcases hO b with z | ⟨ob,xs,z⟩
     ·rw [q] at z; cases z
     ·have z2 := un.frzs b ob _ z
      obtain ⟨e1,_⟩ := hok b _ z;obtain ⟨e2,_⟩ := hok' b _ z2;rw [e] at e1; cases e1;exact e2
 cases hk : K.lookup a with
 | some o =>
  -- the script is one of the module's own objects
  have e := KX a o hk;rw [ha] at e;cases e;refine core (fun _ => none) (fun _ => .inl rfl) (.inr ⟨_,vs.toArray,_,hk,rfl,rfl,rfl,by rw [size_toArray,lenV]; exact hl,by simpa using rv⟩) (fun b u z => by have z' : (none : Option HO) = some u := z; cases z') (fun b z => absurd rfl z) fun z => absurd rfl z
 | none =>
  refine core (fun b => if b = a then some (.frz { cls := .type "list",data := .seq vs.toArray } (.lst (ns.map V.int))) else none) (fun b => ?_) (.inl (.inr ⟨{ cls := .type "list",data := .seq vs.toArray },if_pos rfl⟩)) (fun b u z => ?_) (fun b z => ?_) fun _ => hk
  ·by_cases hb : b = a
   ·exact .inr ⟨_,_,if_pos hb⟩
   ·exact .inl (if_neg hb)
  ·by_cases hb : b = a
   ·have z' := (if_pos hb).symm.trans z
    cases z';subst hb;exact ⟨ha,by rw [length_map]; exact hl,vs,_,rv,ha⟩
   ·have z' := (if_neg hb).symm.trans z
    cases z'
  ·by_cases hb : b = a
   ·exact hb
   ·exact absurd (if_neg hb) z
end L2
namespace L2
open PySem PySem.Spec PyProof.Rows
end L2
namespace L2
open PySem PySem.Spec PyProof.Rows
abbrev CX0 : CXT := fun _ _ _ _ _ _ => False
abbrev E0 : XK := fun _ _ _ => False
structure Fun (K : PySem.W.Frag) (x qual : Str) (st : Stmt) (f : Addr) (fd : FuncData) : Prop where
 ex : ∃ (oc : Value) (od : Option Addr) (kV doc pm : Value) (an : Option Addr) (cdv ct : Value) (osl : Array (Option Value)),
  fd = fnOf x qual (wS st) (yT st) (zW st) .none kV doc pm an cdv ct ∧ K.lookup f = some ⟨oc,od,.func fd,osl⟩ ∧ codeIn K cdv qual = true
 kp : keepIn K (.ref f) = true
section
variable {P : Program} {w : World} {K : PySem.W.Frag} {mg : Str → Option Value} {base : Heap}
theorem Fun.ok {x qual : Str} {st : Stmt} {f : Addr} {fd : FuncData} {N ps : List Str} {k : Nat} {sp : Sp} (F : Fun K x qual st f fd) (S : FnScope N ps (zW st)) (len : ∀ vs H Q E,sp vs H Q E → vs.length = ps.length)
  (hbody : ∀ (cdv : Value) (A : Around) (outer : List Env) (s : Shared) (H : Hp) (vs : List V) (Q : VK) (E : XK),Room k (A.deeper (envOfC qual (zW st) s.heap.objs.size f cdv)) → sp vs H Q E →
   ∃ t,PSs (zAj CX0 P w K mg base N qual (zW st) f cdv A outer s H E).nox (yT st) t ∧ t { nx := fun _ H' => Q .non H',rt := Q } (yy N vs) H) : FnOk P w K mg base CX0 (k + 1) f fd ps sp := by
 obtain ⟨oc,od,kV,doc,pm,an,cdv,ct,osl,rfl,lk,hcd⟩ := F.ex;refine fn_of lk hcd S len fun A outer s H vs Q E hr hsp => ?_
 obtain ⟨t,h,q⟩ := hbody cdv A outer s H vs Q E hr hsp;exact ⟨t,h.nox,q⟩
theorem Fun.binds {x qual : Str} {st : Stmt} {f : Addr} {fd : FuncData} {ps : List Str} (F : Fun K x qual st f fd)
  (h : ∀ (kV doc pm : Value) (an : Option Addr) (cdv ct : Value) (us : List Value),us.length = ps.length → bindArgs (fnOf x qual (wS st) (yT st) (zW st) .none kV doc pm an cdv ct) ⟨us,[]⟩ = pure (ps.zip us)) : J2 K fd ps [] := by
 obtain ⟨oc,od,kV,doc,pm,an,cdv,ct,osl,rfl,lk,hcd⟩ := F.ex;exact .all (h kV doc pm an cdv ct)
theorem zB3 {x qual : Str} {st : Stmt} {f : Addr} {oc : Value} {od an : Option Addr} {osl : Array (Option Value)} {kV doc pm cdv ct : Value} (l : K.lookup f = some ⟨oc,od,.func (fnOf x qual (wS st) (yT st) (zW st) .none kV doc pm an cdv ct),osl⟩)
  (c : codeIn K cdv qual = true) (k : keepIn K (.ref f) = true) : Fun K x qual st f (fnOf x qual (wS st) (yT st) (zW st) .none kV doc pm an cdv ct) := ⟨⟨oc,od,kV,doc,pm,an,cdv,ct,osl,rfl,l,c⟩,k⟩
end
section
variable {X : Cx}
end
theorem iteF {A B : Prop} (h : B) : if false = true then A else B := by
 rw [if_neg Bool.false_ne_true];exact h
theorem iteT {A B : Prop} (h : A) : if true = true then A else B := by
 rw [if_pos rfl];exact h
def JJ (H H' : Hp) : Prop := ∀ b o,H b = some o → H' b = some o
theorem JJ.refl (H : Hp) : JJ H H := fun _ _ h => h
theorem JJ.trans {H H1 H2 : Hp} (a : JJ H H1) (b : JJ H1 H2) : JJ H H2 := fun c o h => b c o (a c o h)
theorem JJ.free {H H' : Hp} (e : JJ H H') {l : Addr} (h : H' l = Option.none) : H l = Option.none := by
 cases q : H l with
 | none => rfl
 | some o =>
  rw [e l o q] at h;cases h
theorem JJ.seq {K : PySem.W.Frag} {H H' : Hp} {a : Addr} {xs : List V} (e : JJ H H') (h : SqL K H a xs) : SqL K H' a xs := by
 rcases h with (h | ⟨o,h⟩) | h
 ·exact .inl (.inl (e _ _ h))
 ·exact .inl (.inr ⟨o,e _ _ h⟩)
 ·exact .inr h
end L2
namespace DV
open PySem L2 PyProof.Rows
def ExO (C a : Addr) : HO := .ext fun h => ∃ o,h.get? a = some o ∧ o.cls = .ref C
theorem Gm {P : Program} {w : World} {H : Hp} {h : Heap} {C a : Addr} {o : Obj} (e : h.get? a = some o) (c : o.cls = .ref C) : jG P w H h a (ExO C a) :=
 ⟨⟨o,e,c⟩,⟨o,e⟩,fun h1 h2 ⟨o1,e1,c1⟩ k => ⟨o1,k o1 e1,c1⟩⟩
theorem vo {P : Program} {w : World} {H : Hp} {h : Heap} {a : Addr} {o : HO} (x : jG P w H h a o) : ∃ u,h.get? a = some u := by
 cases o with
 | lst xs => obtain ⟨_,_,_,_,e⟩ := x; exact ⟨_,e⟩
 | tup xs => obtain ⟨_,_,_,o,e,_⟩ := x; exact ⟨_,e⟩
 | dK kvs => obtain ⟨_,_,_,_,o,_,_,e,_⟩ := x; exact ⟨_,e⟩
 | dT kvs => obtain ⟨_,_,_,_,o,_,_,e,_⟩ := x; exact ⟨_,e⟩
 | set S n => obtain ⟨o,_,_,_,e,_⟩ := x; exact ⟨_,e⟩
 | ins C dx fs => obtain ⟨_,_,_,e,_⟩ := x; exact ⟨_,e⟩
 | own y => exact x
 | xd fs => obtain ⟨_,⟨_,_,_,e,_⟩,_⟩ := x; exact ⟨_,e⟩
 | rng lo hi => obtain ⟨_,_,_,e⟩ := x; exact ⟨_,e⟩
 | frz ob u => obtain ⟨e,_⟩ := x; exact ⟨_,e⟩
 | tbl ps => exact ⟨_,(show h.get? a = some _ from x)⟩
 | met f y => exact ⟨_,(show h.get? a = some _ from x)⟩
 | ext φ => obtain ⟨_,e,_⟩ := x; exact e
def zAQ (B : Heap) (H : Hp) (g : Heap) (fs : List Addr) (h : Heap) : Prop := ∀ b o,h.get? b = some o → ((∃ o',g.get? b = some o') ∨ H b ≠ none) → b ∉ fs → B.get? b = some o
def Flies (l : List Env) (H : Hp) (g : Heap) (a C : Addr) (h : Heap) : Prop := ∃ B t,Heap.FlyingW B l a (.ref C) (.ref t) h ∧ zAQ B H g (frs l) h
def CXx (P : Program) (w : World) : CXT := fun outer H s E e s' => ∃ a C H',e = .ref a ∧ s'.os = s.os ∧ AllBare s'.gens ∧ Un (frs outer) [] H H' s.heap s'.heap ∧ HOk P w H' s'.heap ∧ H' a = none ∧ Flies outer H' s.heap a C s'.heap ∧ E (.ref C) none H'
section
variable {P : Program} {w : World} {fs : List Addr} {H H' : Hp} {g h h' B : Heap} {L : Addr}
theorem un_on (u : Un fs [] H H' g h) (ok : HOk P w H' h) (kb : zAQ B H' g (L :: fs) h) (st : B.StaysIn h') (hL : g.get? L = none) (hf : ∀ b ∈ fs,∀ o,h.get? b = some o → ∃ sl,h'.get? b = some { o with slots := sl }) : Un fs [] H H' g h' where
 keep := fun b o e n hb hx => st b o (kb b o (u.keep b o e n hb hx) (.inl ⟨o,e⟩) fun z => by
  rcases mem_cons.mp z with rfl | z
  ·rw [hL] at e; cases e
  ·exact hb z)
 slot := fun b o e n hb hx => by
  obtain ⟨sl,q⟩ := u.slot b o e n hb hx;obtain ⟨sl',q'⟩ := hf b hb _ q;exact ⟨sl',q'⟩
 free := u.free
 there := fun b o e hx => by
  obtain ⟨o',q⟩ := u.there b o e hx;by_cases hb : b ∈ fs
  ·obtain ⟨sl,q'⟩ := hf b hb _ q; exact ⟨_,q'⟩
  ·exact ⟨o',st b o' (kb b o' q (.inl ⟨o,e⟩) fun z => by
    rcases mem_cons.mp z with rfl | z
    ·rw [hL] at e; cases e
    ·exact hb z)⟩
 tups := u.tups
 frzs := u.frzs
 tbls := u.tbls
theorem Gn (ok : HOk P w H' h) (kb : zAQ B H' g (L :: fs) h) (st : B.StaysIn h') (hn : ∀ b ∈ L :: fs,H' b = none) : HOk P w H' h' := fun a o e => by
 refine (ok a o e).stay (fun b u hb q => ?_) (fun _ q => q) fun _ _ q => q
 have ht : H' b ≠ none := by
  rcases hb with rfl | hb
  ·rw [e]; exact fun z => by cases z
  ·rw [hb]; exact fun z => by cases z
 exact st b u (kb b u q (.inr ht) fun z => ht (hn b z))
theorem Go (u : Un fs [] H H' g h) (ok : HOk P w H' h) (kb : zAQ B H' g (L :: fs) h) (st : B.StaysIn h') (hL : g.get? L = none) (hn : ∀ b ∈ L :: fs,H' b = none) : zAQ B H' g fs h' := fun b o e hb nf => by
 have nL : b ∉ L :: fs := fun z => by
  rcases mem_cons.mp z with rfl | z
  ·rcases hb with ⟨o',q⟩ | q
   ·rw [hL] at q; cases q
   ·exact q (hn _ (mem_cons_self))
  ·exact nf z
 have : ∃ o1,h.get? b = some o1 := by
  rcases hb with ⟨o',q⟩ | q
  ·exact u.there b o' q (by simp)
  ·obtain ⟨x,hx⟩ := Option.ne_none_iff_exists'.mp q
   exact vo (ok b x hx)
 obtain ⟨o1,q1⟩ := this;have q2 := kb b o1 q1 hb nL;have q3 := st b o1 q2;rw [e] at q3; cases q3;exact q2
end
section
variable {P : Program} {w : World} {K : PySem.W.Frag} {mg : Str → Option Value} {base : Heap} {N : List Str} {qual : Str} {scope : Scope} {f : Addr} {cd : Value} {A : Around} {outer : List Env} {s : Shared} {H : Hp} {E : XK}
abbrev cxC (c : Bool) (P : Program) (w : World) (K : PySem.W.Frag) (mg : Str → Option Value) (base : Heap) (N : List Str) (qual : Str) (scope : Scope) (f : Addr) (cd : Value) (A : Around) (outer : List Env) (s : Shared) (H : Hp) (E : XK) : Cx :=
 { zAj (CXx P w) P w K mg base N qual scope f cd A outer s H E with calm := c }
variable {c : Bool}
abbrev cxX (P : Program) (w : World) (K : PySem.W.Frag) (mg : Str → Option Value) (base : Heap) (N : List Str) (qual : Str) (scope : Scope) (f : Addr) (cd : Value) (A : Around) (outer : List Env) (s : Shared) (H : Hp) (E : XK) : Cx :=
 zAj (CXx P w) P w K mg base N qual scope f cd A outer s H E
variable {pins : List (Addr × Obj)} {σ : L2.St} {H' : Hp} {s' s1 : Shared} {a C : Addr}
theorem W3 : frs (envOfC qual scope s.heap.objs.size f cd :: outer) = s.heap.objs.size :: frs outer := rfl
theorem uq (I : Inv (cxC c P w K mg base N qual scope f cd A outer s H E) pins σ H' s') (u : Un (frs outer) [] H H' s.heap s'.heap) (hn : H' a = none)
  (hf : ∃ B t,Heap.FlyingW B (cxC c P w K mg base N qual scope f cd A outer s H E).stack a (.ref C) (.ref t) s'.heap ∧ zAQ B H' s.heap (frs (cxC c P w K mg base N qual scope f cd A outer s H E).stack) s'.heap) (hE : E (.ref C) none H') :
  (cxC c P w K mg base N qual scope f cd A outer s H E).xe (.ref a) s' := by
 obtain ⟨B,t,fl,kb⟩ := hf;have hL : s.heap.get? s.heap.objs.size = none := Heap.get?_none_of_le (le_refl _);have hN : ∀ b ∈ s.heap.objs.size :: frs outer,H' b = none := fun b hb => I.stkFree b (by show b ∈ frs (envOfC qual scope s.heap.objs.size f cd :: outer); rw [W3]; exact hb)
 have kb' : zAQ B H' s.heap (s.heap.objs.size :: frs outer) s'.heap := kb;refine wpAny_leaves_onW (base := B) I.ok.frames rfl fl fun h' fl' sl => ?_
 have st : B.StaysIn h' := fl'.1;have hfs : ∀ b ∈ frs outer,∀ o,s'.heap.get? b = some o → ∃ sl,h'.get? b = some { o with slots := sl } := fun b hb o e => by
  obtain ⟨_,o',q,nd⟩ := I.funs.mem hb;rw [e] at q; cases q;exact sl b o e nd
 exact ⟨a,C,H',rfl,I.os,I.bare,un_on u I.hok kb' st hL hfs,Gn I.hok kb' st hN,hn,⟨B,t,fl',Go u I.hok kb' st hL hN⟩,hE⟩
theorem W4 (I : Inv (cxC c P w K mg base N qual scope f cd A outer s H E) pins σ H' s1) (hx : Heap.MadeExcOf s1.heap s'.heap a (.ref C) []) (hs : s' = { s1 with heap := s'.heap }) (hn : H' a = none) (hE : E (.ref C) none H') :
  (cxC c P w K mg base N qual scope f cd A outer s H E).xe (.ref a) s' := by
 have u : Un (frs outer) [] H H' s.heap s1.heap := I.base;have hL : s.heap.get? s.heap.objs.size = none := Heap.get?_none_of_le (le_refl _);have hN : ∀ b ∈ s.heap.objs.size :: frs outer,H' b = none := fun b hb => I.stkFree b (by show b ∈ frs (envOfC qual scope s.heap.objs.size f cd :: outer); rw [W3]; exact hb)
 have kb : zAQ (hideAll s1.heap (s.heap.objs.size :: frs outer)) H' s.heap (s.heap.objs.size :: frs outer) s1.heap := fun b o e _ nf => hideAll_get _ e nf
 have hin : ∀ env ∈ (envOfC qual scope s.heap.objs.size f cd :: outer),∀ b,env.frame = some b → b ∈ s.heap.objs.size :: frs outer := fun env he b hb => by
  rw [← W3 (qual := qual) (scope := scope) (f := f) (cd := cd)];exact mem_filterMap.mpr ⟨env,he,hb⟩
 have hstk : s1.heap.FunFrames base (envOfC qual scope s.heap.objs.size f cd :: outer) := I.stack;refine wpAny_leaves_madeW (base := hideAll s1.heap (s.heap.objs.size :: frs outer)) (h := s1.heap) I.ok.frames rfl (fun b o q => of_hideAll _ q) (PySem.W.funFrames_hide hstk hin) hx fun h' t x1 x2 x3 x4 => ?_
 have st := x1.1;have hfs : ∀ b ∈ frs outer,∀ o,s1.heap.get? b = some o → ∃ sl,h'.get? b = some { o with slots := sl } := fun b hb o e => by
  obtain ⟨_,o',q,nd⟩ := I.funs.mem hb;rw [e] at q; cases q;exact x4 b o (hx.keeps b o e) nd
 have os : s'.os = s1.os := by rw [hs]
 have ge : s'.gens = s1.gens := by rw [hs]
 refine ⟨a,C,H',rfl,os.trans I.os,?_,un_on u I.hok kb st hL hfs,Gn I.hok kb st hN,hn,⟨_,t,x1,Go u I.hok kb st hL hN⟩,hE⟩;show AllBare s'.gens;rw [ge]; exact I.bare
end
end DV
namespace DV
open PySem L2 PyProof.Rows
structure RoomN (k : Nat) (A : Around) : Prop where
 gd : A.guards = some []
 dp : A.depth + 3 * k + 5 < recursionLimit
 un : A.units + 16 * k + 200 < cLine
theorem RoomN.mono {j k : Nat} {A : Around} (r : RoomN k A) (h : j ≤ k) : RoomN j A := ⟨r.gd,by have := r.dp; omega,by have := r.un; omega⟩
theorem RoomN.deeper {k : Nat} {A : Around} (r : RoomN (k + 1) A) (env : Env) : RoomN k (A.deeper env) :=
 ⟨r.gd,by have := r.dp; show A.depth + 1 + 3 * k + 5 < _; omega,by have := r.un; show A.units + 3 + 16 * k + 200 < _; omega⟩
theorem RoomN.depth {k : Nat} {A : Around} (r : RoomN k A) : A.depth < recursionLimit := by have := r.dp; omega
theorem RoomN.room {k : Nat} {A : Around} (r : RoomN k A) (h : A.handled = none) : Room k A := ⟨h,r.gd,r.dp,r.un⟩
theorem zAs {k : Nat} {A : Around} (r : Room k A) : RoomN k A := ⟨r.gd,r.dp,r.un⟩
section
variable {X : Cx} {pins : List (Addr × Obj)} {σ : L2.St} {H : Hp} {s : Shared}
theorem JK (I : Inv X pins σ H s) (A' : Around) (c : Bool) (E : Value → Shared → Prop) (hd : c = true → A'.handled = none) (fr : A'.frames = some X.stack) : Inv { X with A := A',calm := c,xe := E } pins σ H s :=
 ⟨⟨I.ok.mod,I.ok.kind,I.ok.glob,I.ok.blt,I.ok.above,I.ok.inj,I.ok.has,I.ok.cab,hd,fr,I.ok.stk,I.ok.exf,I.ok.bs,I.ok.bsz,I.ok.noex,I.ok.exfs,I.ok.funs,I.ok.frf⟩,I.os,I.bare,I.base,I.loc,I.cell,I.free,I.freeC,I.pin,I.hok,I.len⟩
end
abbrev cxN (c : Bool) (P : Program) (w : World) (K : PySem.W.Frag) (mg : Str → Option Value) (base : Heap) (N : List Str) (qual : Str) (scope : Scope) (f : Addr) (cd : Value) (A : Around) (outer : List Env) (s : Shared) (H : Hp) (E : XK) : Cx :=
 cxC c P w K mg base N qual scope f cd A outer s H E
structure FnOkN (c : Bool) (P : Program) (w : World) (K : PySem.W.Frag) (mg : Str → Option Value) (base : Heap) (k : Nat) (f : Addr) (fd : FuncData) (ps : List Str) (sp : Sp) : Prop where
 len : ∀ vs H Q E,sp vs H Q E → vs.length = ps.length
 run : ∀ (A : Around) (outer : List Env) (s : Shared) (H : Hp) (args : Args) (us : List Value) (vs : List V) (Q : VK) (E : XK),(c = true → A.handled = none) → RoomN k A → Env0 P w K mg base A outer s H → BindsTo s fd args (ps.zip us) → zb vs us → sp vs H Q E →
  codeAny (model P w) A (.call (.ref f) args) (CR (CXx P w) outer P w H s Q E) s
section
variable {c : Bool} {P : Program} {w : World} {K : PySem.W.Frag} {mg : Str → Option Value} {base : Heap}
theorem FnOkN.mono {j k : Nat} {f : Addr} {fd : FuncData} {ps : List Str} {sp : Sp} (F : FnOkN c P w K mg base j f fd ps sp) (h : j ≤ k) : FnOkN c P w K mg base k f fd ps sp :=
 ⟨F.len,fun A outer s H args us vs Q E hd hr => F.run A outer s H args us vs Q E hd (hr.mono h)⟩
theorem FnOkN.fn {k : Nat} {f : Addr} {fd : FuncData} {ps : List Str} {sp : Sp} (F : FnOkN c P w K mg base k f fd ps sp) : FnOk P w K mg base (CXx P w) k f fd ps sp :=
 ⟨F.len,fun A outer s H args us vs Q E hr => F.run A outer s H args us vs Q E (fun _ => hr.hd) (zAs hr)⟩
theorem fn_ofN {k : Nat} {f : Addr} {name qual : Str} {params : Arguments} {body : List Stmt} {scope : Scope} {dV kV doc pm cdv ct oc : Value} {an od : Option Addr}
  {osl : Array (Option Value)} {N ps : List Str} {sp : Sp} (lk : K.lookup f = some ⟨oc,od,.func (fnOf name qual params body scope dV kV doc pm an cdv ct),osl⟩) (hcd : codeIn K cdv qual = true) (S : FnScope N ps scope)
  (len : ∀ vs H Q E,sp vs H Q E → vs.length = ps.length)
  (hbody : ∀ (A : Around) (outer : List Env) (s : Shared) (H : Hp) (vs : List V) (Q : VK) (E : XK),(c = true → A.handled = none) → RoomN k (A.deeper (envOfC qual scope s.heap.objs.size f cdv)) → sp vs H Q E →
   ∃ t,PSs (cxN c P w K mg base N qual scope f cdv A outer s H E) body t ∧ t { nx := fun _ H' => Q .non H',rt := Q } (yy N vs) H) :
  FnOkN c P w K mg base (k + 1) f (fnOf name qual params body scope dV kV doc pm an cdv ct) ps sp := by
 refine ⟨len,fun A outer s H args us vs Q E hd hr e0 hb r hsp => ?_⟩;have hl := len _ _ _ _ hsp;have KX : K.In s.heap := e0.mod.kin.keeps fun b o e => (e0.bs b o e).1
 have lim : s.heap.NoLimit := e0.mod.nolimit.keeps fun b o e => (e0.bs b o e).1
 have hkind : ∀ y ∈ ps.zip us,scope.names.lookup y.1 = some .local ∨ (scope.names.lookup y.1 = some .cell ∧ ((cellsFrom (s.heap.objs.size + 1) scope.names []).lookup y.1).isSome = true) := fun ⟨n,v⟩ hy => by
  rcases S.par n (of_mem_zip hy).1 with q | q
  ·exact .inl q
  ·exact .inr ⟨q,cellsFrom_some _ _ _ (.inl q)⟩
 refine codeAny_call_function hr.depth (KX _ _ lk) rfl S.co S.gen rfl (codeRec_of KX hcd) (hb _ _ _ _ ?_);refine wpAny_newFunctionEnv_cells S.kind hkind fun env he s1 x => ?_
 subst he;refine ⟨lim.keeps x.toInCall.keep,codeAny_func ?_⟩;obtain ⟨t,ht,hq⟩ := hbody A outer s H vs Q E hd (hr.deeper _) hsp;have e1 : Env0 P w K mg base { A with handled := none } outer s H := ⟨e0.frames,e0.mod,e0.bs,e0.bsz,e0.funs,e0.frf,e0.hok,e0.bare⟩
 have I0 : Inv (zAj (CXx P w) P w K mg base N qual scope f cdv { A with handled := none } outer s H E) [] (yy N vs) H s1 := WF S rfl e1 hl r x
 have I : Inv (cxN c P w K mg base N qual scope f cdv A outer s H E) [] (yy N vs) H s1 := JK I0 (A.deeper (envOfC qual scope s.heap.objs.size f cdv)) c _ hd (Around.frames_deeper e0.frames);refine wpAny_mono (ht [] s1 (yy N vs) H _ I hq) (fun fl s' hs => ?_) fun e s' hs => hs
 have fin : ∀ {σ' : L2.St} {H' : Hp} {v : V} {u : Value},Inv (cxN c P w K mg base N qual scope f cdv A outer s H E) [] σ' H' s' → zw v u → Q v H' → CE outer P w H s Q u s' :=
  fun {σ' H' v u} J rv q => ⟨v,H',J.os,J.bare,J.base,J.hok,rv,q⟩
 cases fl with
 | ret u =>
  obtain ⟨v,σ',H',J,rv,q⟩ := hs;exact fin J rv q
 | next =>
  obtain ⟨σ',H',J,q⟩ := hs;exact fin (v := V.non) (u := Value.none) J rfl q
 | brk =>
  obtain ⟨_,_,_,q⟩ := hs;exact False.elim q
 | cont =>
  obtain ⟨_,_,_,q⟩ := hs;exact False.elim q
end
structure Exn where
 cls : Str
 made : Bool
 deriving Inhabited
def RelX (X : Cx) (pins : List (Addr × Obj)) (σ : L2.St) (x : Exn) (H : Hp) (e : Value) (s : Shared) : Prop := ∃ a C,e = .ref a ∧ X.mg x.cls = some (.ref C) ∧ H a = none ∧
 ((x.made = true ∧ ∃ s1,Inv X pins σ H s1 ∧ s = { s1 with heap := s.heap } ∧ Heap.MadeExcOf s1.heap s.heap a (.ref C) []) ∨
  (x.made = false ∧ ∃ sc Hc,Inv X pins σ Hc sc ∧ Un (frs X.stack) [] Hc H sc.heap s.heap ∧ Flies X.stack H sc.heap a C s.heap))
def XE (X : Cx) (σ : L2.St) (H : Hp) (x : Exn) : Prop := ∀ (pins : List (Addr × Obj)) (s : Shared) (e : Value),Inv X pins σ H s → RelX X pins σ x H e s → X.xe e s
def EX (X : Cx) (σ : L2.St) : XK := fun c _ H' => ∃ x C,c = .ref C ∧ X.mg x.cls = some (.ref C) ∧ x.made = false ∧ XE X σ H' x
section
variable {X : Cx} {pins : List (Addr × Obj)} {σ : L2.St} {H : Hp} {s s' : Shared} {e : Value}
theorem pass_x (I : Inv X pins σ H s) (h : CXx X.prog X.w X.stack H s (EX X σ) e s') : X.xe e s' := by
 obtain ⟨a,C,H',rfl,os,bare,un,hok,hn,fl,x,C',ec,hm,hmd,k⟩ := h;cases ec;have I' : Inv X pins σ H' s' := I.call' (ch := []) os un hok bare (fun b z => absurd z (by simp));exact k pins s' _ I' ⟨a,C,rfl,hm,hn,.inr ⟨hmd,s,H,I,un,fl⟩⟩
theorem run_fnN {c : Bool} {k : Nat} {f : Addr} {fd : FuncData} {ps : List Str} {sp : Sp} {Q : VK} {us : List Value} {vs : List V} (F : FnOkN c X.prog X.w X.K X.mg X.base k f fd ps sp) (hd : c = true → X.A.handled = none) (hr : RoomN k X.A) (hb : J2 X.K fd ps [])
  (I : Inv X pins σ H s) (r : zb vs us) (h : sp vs H Q (EX X σ)) : wpAny (model X.prog X.w) X.A (call (.ref f) us) (EP X pins σ Q) X.xe s := by
 have hl : us.length = ps.length := by rw [← r.length]; exact F.len _ _ _ _ h
 have hbd := hb s us I.kIn (by rw [append_nil]; exact hl);rw [append_nil] at hbd;refine wpAny_call (codeAny_mono (F.run X.A X.stack s H ⟨us,[]⟩ us vs Q (EX X σ) hd hr I.env0 hbd r h) fun r s' hq => ?_);cases r with
 | error e => exact pass_x I hq
 | ok fl =>
  cases fl with
  | ret u => exact I.after hq
  | next => exact False.elim hq
  | brk => exact False.elim hq
  | cont => exact False.elim hq
end
section
variable {X : Cx} {c : Bool} {k : Nat} {f : Addr} {fd : FuncData} {ps : List Str} {sp : Sp} {x : Str} {p pos : Pos} {e : Expr} {es : List Expr} {t : TA}
theorem zAt (F : FnOkN c X.prog X.w X.K X.mg X.base k f fd ps sp) (hdl : c = true → X.A.handled = none) (hr : RoomN k X.A) (hg : Gl X x) (hm : X.mg x = some (.ref f)) (hk : keepIn X.K (.ref f) = true) (hb : J2 X.K fd ps [])
  (ha : PA X (e :: es) t) (hdb : (x == ("__debug__" : Str)) = false := by decide) (he : starEach (e :: es) X.env = (false,eval e X.env) :: starEach es X.env := by rfl) (hpl : (backTo pos (starEach es X.env)).any (·.1) = false := by rfl) :
  PE X (.Call (.Name x p) (e :: es) [] pos) (fun σ H Q => t σ H fun vs H1 => sp vs H1 Q (EX X σ)) := by
 intro pins s σ H Q I h;refine wpAny_Call_Name_kw (ZI I hg hm ?_ hdb);refine PySem.W.callWith_K (h₀ := X.base) I.ok.mod.kin hk (thn (ha pos pins s σ H _ I h) fun us s1 ⟨vs,H1,I1,r,q⟩ => ⟨I1.kIn,?_⟩) he hpl;exact run_fnN F hdl hr hb I1 r q
end
theorem zAu {c : Bool} {P : Program} {w : World} {K : PySem.W.Frag} {mg : Str → Option Value} {base : Heap} {N : List Str} {qual : Str} {scope : Scope} {f : Addr} {cd : Value} {A : Around} {outer : List Env} {s : Shared} {H H' : Hp} {E : XK} {σ : L2.St} {x : Exn}
  (hE : ∀ C,mg x.cls = some (.ref C) → E (.ref C) none H') : XE (cxN c P w K mg base N qual scope f cd A outer s H E) σ H' x := by
 intro pins s' e I ⟨a,C,he,hm,hn,h⟩;subst he;have sw : ∀ {H1 : Hp} {s1 : Shared},Inv (cxN c P w K mg base N qual scope f cd A outer s H E) pins σ H1 s1 → Inv (cxX P w K mg base N qual scope f cd { A with handled := none } outer s H E) pins σ H1 s1 := fun J => JK J _ true _ (fun _ => rfl) J.ok.frames
 rcases h with ⟨_,s1,I1,hs,hx⟩ | ⟨_,sc,Hc,Ic,un,fl⟩
 ·exact W4 I1 hx hs hn (hE C hm)
 ·obtain ⟨B,t,f1,f2⟩ := fl
  refine uq I I.base hn ⟨B,t,f1,fun b o q z nf => f2 b o q ?_ nf⟩ (hE C hm);rcases z with ⟨o',z⟩ | z
  ·exact .inl (Ic.base.there b o' z (by show b ∉ ([] : List Addr); simp))
  ·exact .inr z
end DV
namespace DV
open PySem L2 PyProof.Rows PySem.Spec
open PySem.W (Frag Looks)
structure XCls (K : Frag) (c : Str) (C T : Addr) : Prop where
 cd : ∃ cd,clsIn K C = some cd ∧ cd.name = c ∧ cd.mro = [.ref C,.ref T,.type "ValueError",.type "Exception",.type "BaseException",.type "object"]
 ty : typeIn K (.ref C) = some (.type "type")
 ga : findIn K (.ref C) "__getattribute__" = some (some (.builtin "BaseException.__getattribute__"))
 gn : findIn K (.ref C) "__getattr__" = some none
 gc : findIn K (.ref C) "__class__" = some (some (.builtin "object.__class__"))
 sp : specialIn K (.builtin "object.__class__") "__get__" = some (some (.builtin "getset_descriptor.__get__"))
 tk : takesIn K (.builtin "object.__class__") = some true
section
open Builtin Builtin.ObjectAttr Builtin.Getset_descriptor
variable {K : Frag} {c : Str} {C T x : Addr} {h : Heap} {ox : Obj} {M : Model}
theorem XCls.mro (F : XCls K c C T) (b : Value) : mroIn K C b = some ([Value.ref C,.ref T,.type "ValueError",.type "Exception",.type "BaseException",.type "object"].contains b) := by
 obtain ⟨cd,h1,_,h3⟩ := F.cd;unfold mroIn;rw [h1,Option.bind_some,h3]; rfl
theorem typ (e : h.get? x = some ox) (ec : ox.cls = .ref C) : Looks M h (typeOf (.ref x)) (.ref C) := ec ▸ (Looks.ld e).andThen .now
theorem zAv (F : XCls K c C T) (X : K.In h) : Looks M h (find (.ref x) (.ref C) "__class__") (.bind (.builtin "getset_descriptor.__get__") (.builtin "object.__class__")) := by
 have l3 : Looks M h (takesStores (.builtin "object.__class__")) true := PySem.W.looks_takesIn X F.tk;have l4 : Looks M h (dataDescriptor? (some (.builtin "object.__class__")) (some (.builtin "getset_descriptor.__get__"))) (some (.builtin "getset_descriptor.__get__",.builtin "object.__class__")) := l3.andThen .now;exact (looks_findIn X F.gc).andThen ((PySem.W.looks_specialIn X F.sp).andThen (l4.andThen (Looks.tag .now)))
end
section
open Builtin Builtin.ObjectAttr Builtin.Getset_descriptor
variable {K : Frag} {c : Str} {C T x : Addr} {ox : Obj} {prog : Program} {w : World} {A : Around} {E : Value → Shared → Prop} {s : Shared}
theorem cls_get {R : Result → Shared → Prop} (F : XCls K c C T) (X : K.In s.heap) (e : s.heap.get? x = some ox) (ec : ox.cls = .ref C) (hq : R (.ok (.ret (.ref C))) s) :
  codeAny (model prog w) A (.call (.builtin "getset_descriptor.__get__") ⟨[.builtin "object.__class__",.ref x,.ref C],[]⟩) R s := by
 obtain ⟨hh,gs,dr,tt,os⟩ := s;have ty : Looks (model prog w) hh (typeOf (.ref x)) (.ref C) := typ e ec;have sb : Looks (model prog w) hh (isSubtype (.ref C) (.type "object")) true := looks_mroIn X (by rw [F.mro]; rfl);refine codeAny_call_builtin PySem.W.KF.slot_gs.plain PySem.W.KF.entry_gs (PySem.W.KF.slot_gs.check _ _ _ _ _ _ _ _ PySem.W.KF.type_class (PySem.W.KF.args_gs _ _ _) ?_);unfold Builtin.«getset_descriptor.__get__»;unfold descrGet;rw [PySem.W.dga_obj];refine wpAny_bind (wpAny_pure ?_);unfold descrGetter descrCheckInstance descrNameAndClass isInstance;simp only [PySem.W.KF.owner_class]
 repeat lk
 refine ⟨Code.quiet_builtin _ (by decide +kernel),?_⟩;refine codeAny_builtin PySem.W.KF.entry_class ?_;unfold Builtin.«object.__class__»;unfold shownTypeOf
 repeat lk
 exact hq
theorem Gp {tk : Tok} {Q : Fin → Shared → Prop} (F : XCls K c C T) (X : K.In s.heap) (e : s.heap.get? x = some ox) (ec : ox.cls = .ref C) (hq : Q (.done (.ret (.ref C))) s) :
  wpAny (model prog w) A (Builtin.«object.__getattribute__» ⟨[.ref x,.str "__class__" tk],[]⟩) Q E s := by
 obtain ⟨hh,gs,dr,tt,os⟩ := s;have ty : Looks (model prog w) hh (typeOf (.ref x)) (.ref C) := typ e ec;have fd : Looks (model prog w) hh (find (.ref x) (.ref C) "__class__") _ := zAv F X;have go : ∀ Q',Q' (.done (.ret (.ref C))) (⟨hh,gs,dr,tt,os⟩ : Shared) → wpAny (model prog w) A (bindTo (.builtin "getset_descriptor.__get__") (.builtin "object.__class__") (.ref x) (.ref C)) Q' E ⟨hh,gs,dr,tt,os⟩ := fun Q' q => by
  unfold bindTo;refine wpAny_bind (wpAny_call (cls_get F X e ec ?_));exact wpAny_pure q
 refine wpAny_bind (wpAny_pure ?_);refine wpAny_bind (wpAny_pure ?_);refine wpAny_bind (ty.at ?_);refine wpAny_bind (fd.at ?_);exact go _ hq
theorem Gq {nameV : Value} {M : Model} {Q : Unit → Shared → Prop} (F : XCls K c C T) (X : K.In s.heap) (e : s.heap.get? x = some ox) (ec : ox.cls = .ref C) (hq : Q () s) :
  wpAny M A (checkBuiltinCall "BaseException.__getattribute__" ⟨[.ref x,nameV],[]⟩) Q E s := by
 obtain ⟨hh,gs,dr,tt,os⟩ := s;have ty : Looks M hh (typeOf (.ref x)) (.ref C) := typ e ec;have sb : Looks M hh (isSubtype (.ref C) (.type "BaseException")) true := looks_mroIn X (by rw [F.mro]; rfl);have inst : Looks M hh (isInstance (.ref x) (.type "BaseException")) true := ty.andThen sb;have k1 : builtinKind "BaseException.__getattribute__" = some .slot := by decide +kernel
 have k2 : splitId "BaseException.__getattribute__" = some ("BaseException","__getattribute__") := by decide +kernel
 have k3 := PySem.F.args_bexc_ga (.ref x) nameV;simp only [checkBuiltinCall,k1,k2];refine wpAny_bind (inst.at ?_)
 repeat (any_goals (first | assumption | wp_step))
theorem zAw {tk : Tok} {R : Result → Shared → Prop} (F : XCls K c C T) (X : K.In s.heap) (e : s.heap.get? x = some ox) (ec : ox.cls = .ref C) (hq : R (.ok (.ret (.ref C))) s) :
  codeAny (model prog w) A (.call (.builtin "BaseException.__getattribute__") ⟨[.ref x,.str "__class__" tk],[]⟩) R s :=
 codeAny_call_builtin PySem.F.attr_ValueError.ga.plain PySem.F.entry_bexc_ga (Gq F X e ec (Gp F X e ec hq))
theorem zAx {Q : Option Value → Shared → Prop} (F : XCls K c C T) (X : K.In s.heap) (e : s.heap.get? x = some ox) (ec : ox.cls = .ref C) (hq : Q (some (.ref C)) { s with toks := s.toks + 1 }) :
  wpAny (model prog w) A (getAttr? (.ref x) "__class__") Q E s := by
 obtain ⟨hh,gs,dr,tt,os⟩ := s;have ty : Looks (model prog w) hh (typeOf (.ref x)) (.ref C) := typ e ec;have l1 : Looks (model prog w) hh (typeLookup (.ref C) "__getattribute__") _ := looks_findIn X F.ga;have l2 : Looks (model prog w) hh (typeLookup (.ref C) "__getattr__") _ := looks_findIn X F.gn;have b1 := PySem.F.attr_ValueError.ga.bind (.ref x);unfold getAttr? getAttrBy?;refine wpAny_bind (wpAny_mkText (wpAny_bind (wpAny_attempt ?_)));unfold getAttrBy;refine wpAny_holding (wpAny_bind (ty.at (wpAny_bind (l1.at ?_))));have ne : (Value.builtin "BaseException.__getattribute__" == Value.builtin "object.__getattribute__") = false := by decide +kernel
 dsimp only;rw [ne,Bool.and_false,if_neg (by decide)];unfold getAttrByItsOwn hookBefore;refine wpAny_bind (l2.at ?_);refine wpAny_bind (wpAny_attempt (wpAny_holding ?_));unfold callGetattribute;rw [if_neg (by decide +kernel)];unfold boundAndCalled;rw [b1];refine wpAny_bind (wpAny_pure (wpAny_call (zAw F X e ec ?_)));exact wpAny_pure (wpAny_pure hq)
end
end DV
namespace DV
open PySem L2 PyProof.Rows PySem.Spec
open PySem.W (Frag Looks)
structure TCls (K : Frag) (T : Addr) : Prop where
 cd : ∃ cd,clsIn K T = some cd ∧ cd.mro = .ref T :: VB
 ty : typeIn K (.ref T) = some (.type "type")
section
variable {K : Frag} {c y : Str} {C Y T x : Addr} {h : Heap} {ox : Obj} {M : Model}
theorem TCls.mro (F : TCls K T) (b : Value) : mroIn K T b = some ((Value.ref T :: VB).contains b) := by
 obtain ⟨cd,h1,h3⟩ := F.cd;unfold mroIn;rw [h1,Option.bind_some,h3]; rfl
theorem Gr {cd : ClassData} (X : K.In h) (e : clsIn K C = some cd) : Looks M h (isType (.ref C)) true := by
 unfold clsIn at e;split at e
 ·rename_i ho
  intro A Q E s k q;unfold isType loadHead;exact wpAny_bind (wpAny_loadPart (k _ _ (X _ _ ho)) (wpAny_pure q))
 ·cases e
theorem not_tup {cd : ClassData} {tp : Addr} {dd : Option Addr} {its : List Value} {n : Nat} {sl : Array (Option Value)} (X : K.In h) (e : clsIn K C = some cd) (ht : h.get? tp = some ⟨.type "tuple",dd,.seq its.toArray n,sl⟩) : (Value.ref C == .ref tp) = false := by
 refine Bool.eq_false_iff.mpr fun q => ?_
 obtain rfl : C = tp := Value.ref.inj (beq_iff_eq.mp q);unfold clsIn at e;split at e
 ·rename_i ho; have z := (X _ _ ho).symm.trans ht; cases z
 ·cases e
theorem kit_exc (F : XCls K c C T) : PySem.W.KitX K (.ref x) (.ref C) (fun h => ∃ o,h.get? x = some o ∧ o.cls = .ref C) where
 ty := fun M h X ⟨o,e,ec⟩ => typ e ec
 it := fun M h X _ => let ⟨_,e,_⟩ := F.cd; Gr X e
 ne := fun h tp dd its n sl X ht => let ⟨_,e,_⟩ := F.cd; not_tup X e ht
 ca := fun X ⟨o,e,ec⟩ q => zAx F X e ec q
theorem kit_own (F : XCls K c C T) (G : XCls K y Y T) (hY : Y ≠ T) (he : c = y → C = Y) : kitOne K (.ref C) (.ref Y) = some (c == y) := by
 obtain ⟨cd,h1,h2,h3⟩ := F.cd;obtain ⟨cy,g1,g2,g3⟩ := G.cd;unfold kitOne;by_cases e : C = Y
 ·subst e
  rw [h1] at g1; cases g1;rw [if_pos (by simp),← h2,← g2]; simp
 ·have ne : (c == y) = false := by
   cases q : c == y with
   | false => rfl
   | true => exact absurd (he (by simpa using q)) e
  rw [if_neg (by simpa using e),ne];unfold kitCls;dsimp only;rw [if_pos (by rw [g1,G.ty]; rfl)];show mroIn K C (.ref Y) = _;rw [F.mro];have e1 : (Value.ref Y == Value.ref C) = false := by simpa using fun z : Y = C => e z.symm
  have e2 : (Value.ref Y == Value.ref T) = false := by simpa using hY
  simp only [List.contains_cons,e1,e2];rfl
theorem kit_val (F : XCls K c C T) : kitOne K (.ref C) (.type "ValueError") = some true := by
 unfold kitOne;rw [if_neg (by simp)];unfold kitCls;dsimp only;rw [if_pos (by decide +kernel)];show mroIn K C _ = _;rw [F.mro]; rfl
theorem W5 {A : Around} {E : Value → Shared → Prop} {s : Shared} {Q : Bool → Shared → Prop} (F : XCls K c C T) (G : TCls K T) (X : K.In s.heap) (e : s.heap.get? x = some ox) (ec : ox.cls = .ref C) (hq : Q true s) : wpAny M A (excMatches (.ref x) (.ref T)) Q E s := by
 obtain ⟨hh,gs,dr,tt,os⟩ := s;obtain ⟨cd,g1,g2⟩ := G.cd;have ty : Looks M hh (typeOf (.ref x)) (.ref C) := typ e ec;have tT : Looks M hh (typeOf (.ref T)) (.type "type") := PySem.W.looks_typeIn X G.ty;have nt : Looks M hh (isInstance (.ref T) (.type "tuple")) false := tT.andThen (Looks.of_pure tc_notTuple);have iT : Looks M hh (isType (.ref T)) true := Gr X g1;have sT : Looks M hh (isSubtype (.ref T) (.type "BaseException")) true := looks_mroIn X (by rw [G.mro]; rfl);have sC : Looks M hh (isSubtype (.ref C) (.ref T)) true := looks_mroIn X (by rw [F.mro]; simp);unfold excMatches isExcClass;refine wpAny_bind (nt.at ?_);refine wpAny_bind (wpAny_pure ?_);refine wpAny_bind ?_;rw [forIn_cons];refine wpAny_bind (wpAny_bind (wpAny_bind (iT.at ?_)));refine sT.at ?_;refine wpAny_pure ?_;refine wpAny_pure ?_;refine wpAny_bind (ty.at ?_);refine wpAny_bind ?_;rw [forIn_cons];refine wpAny_bind (wpAny_bind (sC.at ?_));refine wpAny_pure (wpAny_pure ?_);exact wpAny_pure hq
theorem own_at {newId : String} {bmB : List Value} (X : K.In h) (q : excIn K C bmB newId = true) :
  ∃ bm N nm q bs hdct sn sub ab col dd k0 k1 k2 k3 k5 mN,h.get? C = some (excClassObj nm q C N bs bm hdct sn sub ab col dd k0 k1 k2 k3 k5 newId) ∧ h.Ns N mN ∧ mN "__init__" = none ∧ OwnTail h bmB bm := by
 unfold excIn at q;split at q
 ·rename_i dd cd sl ho
  split at q
  ·rename_i C' bm a0 a1 a2 a3 id a5 hm hs
   simp only [Bool.and_eq_true,beq_iff_eq,Bool.not_eq_true'] at q;obtain ⟨⟨⟨⟨⟨q1,q2⟩,q3⟩,q4⟩,q5⟩,q6⟩ := q;subst q1 q2;obtain ⟨l⟩ := sl;have hs' : l = [a0,a1,a2,a3,some (.builtin id),a5] := hs;subst hs';obtain ⟨nm,bs,mro,ns,qn,hd,sn,sub,ab,col,del⟩ := cd;cases hm;cases q3;exact ⟨bm,ns,nm,qn,bs,hd,sn,sub,ab,col,dd,a0,a1,a2,a3,a5,_,X _ _ ho,.of_isNs (PySem.W.isNs_of_in X q5),PySem.W.nsMap_none_of_in X q5 q6,PySem.W.tail_of_in X q4⟩
  ·cases q
 ·cases q
end
end DV
namespace DV
open PySem L2
inductive D where
 | non
 | bl (b : Bool)
 | int (i : Int)
 | str (x : Str)
 | tup (ds : List D)
 | lst (ds : List D)
 | fn (x : Str)
 | dic
 | exn (c : Str)
 deriving Inhabited
mutual
def Rep (K : PySem.W.Frag) (mg : Str → Option Value) (H : Hp) : D → V → Prop
 | .non,v => v = .non
 | .bl b,v => v = .bl b
 | .int i,v => v = .int i
 | .str x,v => v = .str x
 | .tup ds,v => ∃ a xs,v = .ref a ∧ SqT K H a xs ∧ Reps K mg H ds xs
 | .lst ds,v => ∃ a xs,v = .ref a ∧ SqL K H a xs ∧ Reps K mg H ds xs
 | .fn x,v => ∃ f,v = .ref f ∧ mg x = some (.ref f)
 | .dic,v => ∃ a,v = .ref a ∧ H a = some (.dK [])
 | .exn c,v => ∃ a C,v = .ref a ∧ mg c = some (.ref C) ∧ H a = some (ExO C a)
def Reps (K : PySem.W.Frag) (mg : Str → Option Value) (H : Hp) : List D → List V → Prop
 | [],vs => vs = []
 | d :: ds,vs => ∃ v r,vs = v :: r ∧ Rep K mg H d v ∧ Reps K mg H ds r
end
section
variable {K : PySem.W.Frag} {mg : Str → Option Value} {H H' : Hp}
theorem zk {a : Addr} {xs : List V} (e : JJ H H') (h : SqT K H a xs) : SqT K H' a xs := by
 rcases h with (h | ⟨o,h⟩) | h
 ·exact .inl (.inl (e _ _ h))
 ·exact .inl (.inr ⟨o,e _ _ h⟩)
 ·exact .inr h
mutual
theorem Rep.mono (e : JJ H H') : ∀ {d : D} {v : V},Rep K mg H d v → Rep K mg H' d v
 | .non,_,h => by simpa only [Rep] using h
 | .bl _,_,h => by simpa only [Rep] using h
 | .int _,_,h => by simpa only [Rep] using h
 | .str _,_,h => by simpa only [Rep] using h
 | .tup ds,_,h => by
  simp only [Rep] at h ⊢;obtain ⟨a,xs,h1,h2,h3⟩ := h;exact ⟨a,xs,h1,zk e h2,Reps.mono e h3⟩
 | .lst ds,_,h => by
  simp only [Rep] at h ⊢;obtain ⟨a,xs,h1,h2,h3⟩ := h;exact ⟨a,xs,h1,e.seq h2,Reps.mono e h3⟩
 | .fn _,_,h => by simpa only [Rep] using h
 | .dic,_,h => by
  simp only [Rep] at h ⊢;obtain ⟨a,h1,h2⟩ := h;exact ⟨a,h1,e _ _ h2⟩
 | .exn _,_,h => by
  simp only [Rep] at h ⊢;obtain ⟨a,C,h1,h2,h3⟩ := h;exact ⟨a,C,h1,h2,e _ _ h3⟩
theorem Reps.mono (e : JJ H H') : ∀ {ds : List D} {vs : List V},Reps K mg H ds vs → Reps K mg H' ds vs
 | [],_,h => by simpa only [Reps] using h
 | d :: ds,_,h => by
  simp only [Reps] at h ⊢;obtain ⟨v,r,h1,h2,h3⟩ := h;exact ⟨v,r,h1,Rep.mono e h2,Reps.mono e h3⟩
end
theorem Reps.length : ∀ {ds : List D} {vs : List V},Reps K mg H ds vs → vs.length = ds.length
 | [],_,h => by simp only [Reps] at h; subst h; rfl
 | d :: ds,_,h => by
  simp only [Reps] at h;obtain ⟨v,r,rfl,h2,h3⟩ := h;simp [Reps.length h3]
theorem Reps.nil : Reps K mg H [] [] := by simp only [Reps]
theorem Reps.cons {d : D} {v : V} {ds : List D} {vs : List V} (h : Rep K mg H d v) (t : Reps K mg H ds vs) : Reps K mg H (d :: ds) (v :: vs) := by
 simp only [Reps]; exact ⟨v,vs,rfl,h,t⟩
theorem Reps.get : ∀ {ds : List D} {vs : List V} {i : Nat} {v : V},Reps K mg H ds vs → vs[i]? = some v → ∃ d,ds[i]? = some d ∧ Rep K mg H d v
 | [],_,_,_,h,e => by simp only [Reps] at h; subst h; simp at e
 | d :: ds,_,i,v,h,e => by
  simp only [Reps] at h;obtain ⟨v',r,rfl,h2,h3⟩ := h;cases i with
  | zero => simp at e; subst e; exact ⟨d,rfl,h2⟩
  | succ i => simp at e; obtain ⟨d',q1,q2⟩ := Reps.get h3 e; exact ⟨d',by simpa using q1,q2⟩
theorem Reps.get' : ∀ {ds : List D} {vs : List V} {i : Nat} {d : D},Reps K mg H ds vs → ds[i]? = some d → ∃ v,vs[i]? = some v ∧ Rep K mg H d v
 | [],_,_,_,h,e => by simp at e
 | d :: ds,_,i,d',h,e => by
  simp only [Reps] at h;obtain ⟨v',r,rfl,h2,h3⟩ := h;cases i with
  | zero => simp at e; subst e; exact ⟨v',rfl,h2⟩
  | succ i => simp at e; obtain ⟨v,q1,q2⟩ := Reps.get' h3 e; exact ⟨v,by simpa using q1,q2⟩
theorem Reps.append : ∀ {ds es : List D} {vs ws : List V},Reps K mg H ds vs → Reps K mg H es ws → Reps K mg H (ds ++ es) (vs ++ ws)
 | [],_,_,_,h,g => by simp only [Reps] at h; subst h; exact g
 | d :: ds,_,_,_,h,g => by
  simp only [Reps] at h;obtain ⟨v',r,rfl,h2,h3⟩ := h;exact Reps.cons h2 (Reps.append h3 g)
theorem Reps.set : ∀ {ds : List D} {vs : List V} (i : Nat) {d : D} {v : V},Reps K mg H ds vs → Rep K mg H d v → Reps K mg H (ds.set i d) (vs.set i v)
 | [],_,_,_,_,h,g => by simp only [Reps] at h; subst h; exact Reps.nil
 | d :: ds,_,i,_,_,h,g => by
  simp only [Reps] at h;obtain ⟨v',r,rfl,h2,h3⟩ := h;cases i with
  | zero => exact Reps.cons g h3
  | succ i => exact Reps.cons h2 (Reps.set i h3 g)
theorem Reps.take : ∀ {ds : List D} {vs : List V} (n : Nat),Reps K mg H ds vs → Reps K mg H (ds.take n) (vs.take n)
 | [],_,_,h => by simp only [Reps] at h; subst h; simp [Reps.nil]
 | d :: ds,_,n,h => by
  simp only [Reps] at h;obtain ⟨v',r,rfl,h2,h3⟩ := h;cases n with
  | zero => exact Reps.nil
  | succ n => exact Reps.cons h2 (Reps.take n h3)
theorem Reps.drop : ∀ {ds : List D} {vs : List V} (n : Nat),Reps K mg H ds vs → Reps K mg H (ds.drop n) (vs.drop n)
 | [],_,_,h => by simp only [Reps] at h; subst h; simp [Reps.nil]
 | d :: ds,_,n,h => by
  simp only [Reps] at h;obtain ⟨v',r,rfl,h2,h3⟩ := h;cases n with
  | zero => exact Reps.cons h2 h3
  | succ n => exact Reps.drop n h3
theorem Reps.flatten {ds : List D} {vs : List V} (h : Reps K mg H ds vs) : ∀ n : Nat,Reps K mg H (replicate n ds).flatten (replicate n vs).flatten
 | 0 => Reps.nil
 | n + 1 => by simp only [replicate_succ,flatten_cons]; exact h.append (Reps.flatten h n)
end
open Classical in
def Hm (M : Addr → Prop) (H : Hp) : Hp := fun b => if M b then none else H b
section
variable {M M' : Addr → Prop} {H H' : Hp} {b : Addr} {o : HO}
theorem zM : Hm M H b = some o ↔ ¬ M b ∧ H b = some o := by
 unfold Hm;by_cases h : M b
 ·simp [h]
 ·simp [h]
theorem zE : JJ (Hm M H) H := fun b o h => (zM.mp h).2
theorem yz (h : ∀ b,M' b → M b) : JJ (Hm M H) (Hm M' H) := fun b o e => zM.mpr ⟨fun x => (zM.mp e).1 (h b x),(zM.mp e).2⟩
end
inductive Slot where
 | emp
 | val (d : D)
 | own (ds : List D)
 | par (ds : List D)
 deriving Inhabited
abbrev zQ := List Slot
inductive R where
 | val (d : D)
 | own (ds : List D)
 deriving Inhabited
def R.slot : R → Slot
 | .val d => .val d
 | .own ds => .own ds
def R.d : R → D
 | .val d => d
 | .own ds => .lst ds
def Slot.list? : Slot → Option (List D)
 | .own ds => some ds
 | .par ds => some ds
 | _ => none
abbrev Fz := List (Option V × Slot)
def Ww : Option V × Slot → Option Addr
 | (some (.ref a),.own _) => some a
 | (some (.ref a),.par _) => some a
 | _ => none
def zx (Z : Fz) : List Addr := Z.filterMap Ww
def Mo (M : Addr → Prop) (Z : Fz) : Addr → Prop := fun b => M b ∨ b ∈ zx Z
theorem zV (Z T : Fz) : zx (Z ++ T) = zx Z ++ zx T := List.filterMap_append
theorem zU (o : Option V) (d : D) (Z : Fz) : zx ((o,.val d) :: Z) = zx Z := by
 unfold zx;rw [List.filterMap_cons_none];cases o with
 | none => rfl
 | some v => cases v <;> rfl
theorem wn (a : Addr) (ds : List D) (Z : Fz) : zx ((some (.ref a),.own ds) :: Z) = a :: zx Z := rfl
theorem z3 (o : Option V) (Z : Fz) : zx ((o,.emp) :: Z) = zx Z := by
 unfold zx;rw [List.filterMap_cons_none];cases o with
 | none => rfl
 | some v => cases v <;> rfl
theorem yX (M : Addr → Prop) (T Z : Fz) : Mo M (T ++ Z) = Mo (Mo M T) Z := by
 funext b
 apply propext;simp only [Mo,zV,mem_append];constructor
 ·rintro (h | h | h)
  ·exact .inl (.inl h)
  ·exact .inl (.inr h)
  ·exact .inr h
 ·rintro ((h | h) | h)
  ·exact .inl h
  ·exact .inr (.inl h)
  ·exact .inr (.inr h)
theorem W6 {M : Addr → Prop} {T Z : Fz} (p : T.Perm Z) : Mo M T = Mo M Z := by
 funext b
 apply propext;simp only [Mo,zx];rw [(p.filterMap Ww).mem_iff]
theorem Ja (M : Addr → Prop) (o : Option V) (d : D) (Z : Fz) : Mo M ((o,.val d) :: Z) = Mo M Z := by unfold Mo; rw [zU]
theorem Gs (M : Addr → Prop) (o : Option V) (Z : Fz) : Mo M ((o,.emp) :: Z) = Mo M Z := by unfold Mo; rw [z3]
structure FR (K : PySem.W.Frag) (mg : Str → Option Value) (M : Addr → Prop) (H : Hp) (Z : Fz) : Prop where
 val : ∀ o d,(o,Slot.val d) ∈ Z → ∃ v,o = some v ∧ Rep K mg (Hm (Mo M Z) H) d v
 own : ∀ o s ds,(o,s) ∈ Z → s.list? = some ds → ∃ a xs,o = some (.ref a) ∧ H a = some (.lst xs) ∧ ¬ M a ∧ Reps K mg (Hm (Mo M Z) H) ds xs
 nd : (zx Z).Nodup
 mal : ∀ b,M b → ∃ o,H b = some o
structure Step (M : Addr → Prop) (H : Hp) (Z : Fz) (H' : Hp) (Z' : Fz) : Prop where
 same : JJ (Hm (Mo M Z) H) (Hm (Mo M Z') H')
 keep : ∀ b o,M b → H b = some o → H' b = some o
section
variable {K : PySem.W.Frag} {mg : Str → Option Value} {M : Addr → Prop} {H H' H1 H2 : Hp} {Z Z' T Z1 Z2 : Fz}
theorem Step.refl : Step M H Z H Z := ⟨JJ.refl _,fun _ _ _ h => h⟩
theorem Step.trans (a : Step M H Z H1 Z1) (b : Step M H1 Z1 H2 Z2) : Step M H Z H2 Z2 :=
 ⟨a.same.trans b.same,fun x o m h => b.keep x o m (a.keep x o m h)⟩
theorem wo (h : ∀ b,b ∈ zx Z → b ∈ zx Z') : ∀ b,Mo M Z b → Mo M Z' b := fun b q => q.elim .inl fun q => .inr (h b q)
theorem Step.weak (a : Step M H Z H' Z') (h : ∀ b,b ∈ zx T → b ∈ zx Z') : Step M H Z H' T :=
 ⟨a.same.trans (yz (wo h)),a.keep⟩
theorem Step.left (a : Step M H Z H' Z') (h : ∀ b,b ∈ zx Z → b ∈ zx T) : Step M H T H' Z' :=
 ⟨(yz (wo h)).trans a.same,a.keep⟩
theorem zB (h : T.Sublist Z) : ∀ b,b ∈ zx T → b ∈ zx Z := fun b q => (h.filterMap Ww).subset q
theorem zA (h : T.Perm Z) : ∀ b,b ∈ zx T → b ∈ zx Z := fun b q => (h.filterMap Ww).subset q
theorem FR.perm (h : FR K mg M H Z) (p : Z.Perm T) : FR K mg M H T where
 val := fun o d q => by rw [← W6 p]; exact h.val o d (p.mem_iff.mpr q)
 own := fun o s ds q e => by rw [← W6 p]; exact h.own o s ds (p.mem_iff.mpr q) e
 nd := (p.filterMap Ww).nodup_iff.mp h.nd
 mal := h.mal
theorem FR.sub (h : FR K mg M H Z) (p : T.Sublist Z) : FR K mg M H T where
 val := fun o d q => by
  obtain ⟨v,e,r⟩ := h.val o d (p.subset q);exact ⟨v,e,r.mono (yz (wo (zB p)))⟩
 own := fun o s ds q e => by
  obtain ⟨a,xs,e1,e2,e3,r⟩ := h.own o s ds (p.subset q) e;exact ⟨a,xs,e1,e2,e3,r.mono (yz (wo (zB p)))⟩
 nd := h.nd.sublist (p.filterMap Ww)
 mal := h.mal
theorem FR.tail {x : Option V × Slot} (h : FR K mg M H (x :: Z)) : FR K mg M H Z := h.sub (sublist_cons_self _ _)
theorem yo {o : Option V} {s : Slot} {ds : List D} {a : Addr} (h : (o,s) ∈ Z) (e : s.list? = some ds) (ho : o = some (.ref a)) : a ∈ zx Z := by
 subst ho;refine mem_filterMap.mpr ⟨_,h,?_⟩;cases s <;> simp [Slot.list?] at e <;> rfl
theorem W7 {a : Addr} (h : a ∈ zx Z) : ∃ s ds,(some (V.ref a),s) ∈ Z ∧ Slot.list? s = some ds := by
 obtain ⟨⟨o,s⟩,h1,h2⟩ := mem_filterMap.mp h;unfold Ww at h2;split at h2
 ·rename_i e; cases e; cases h2; exact ⟨_,_,h1,rfl⟩
 ·rename_i e; cases e; cases h2; exact ⟨_,_,h1,rfl⟩
 ·cases h2
theorem FR.ownAt (h : FR K mg M H Z) {a : Addr} (e : a ∈ zx Z) : ∃ xs,H a = some (.lst xs) ∧ ¬ M a := by
 obtain ⟨s,ds,h1,h2⟩ := W7 e;obtain ⟨a',xs,e1,e2,e3,_⟩ := h.own _ s ds h1 h2;cases e1;exact ⟨xs,e2,e3⟩
theorem FR.moAl (h : FR K mg M H Z) (b : Addr) (e : Mo M Z b) : ∃ o,H b = some o := by
 rcases e with e | e
 ·exact h.mal b e
 ·obtain ⟨xs,q,_⟩ := h.ownAt e
  exact ⟨_,q⟩
theorem FR.inner (h : FR K mg M H (T ++ Z)) : FR K mg (Mo M T) H Z where
 val := fun o d q => by rw [← yX]; exact h.val o d (mem_append_right _ q)
 own := fun o s ds q e => by
  obtain ⟨a,xs,e1,e2,e3,r⟩ := h.own o s ds (mem_append_right _ q) e;refine ⟨a,xs,e1,e2,fun m => ?_,by rw [← yX]; exact r⟩;rcases m with m | m
  ·exact e3 m
  ·have nd := h.nd
   rw [zV] at nd;exact (nodup_append.mp nd).2.2 a m a (yo q e e1) rfl
 nd := by
  have nd := h.nd;rw [zV] at nd;exact (nodup_append.mp nd).2.1
 mal := fun b q => by
  rcases q with q | q
  ·exact h.mal b q
  ·obtain ⟨xs,q,_⟩ := h.ownAt (a := b) (by rw [zV]; exact mem_append_left _ q)
   exact ⟨_,q⟩
theorem FR.outer (h : FR K mg M H (T ++ Z)) (g : FR K mg (Mo M T) H' Z') (st : Step (Mo M T) H Z H' Z') : FR K mg M H' (T ++ Z') where
 val := fun o d q => by
  rw [yX];rcases mem_append.mp q with q | q
  ·obtain ⟨v,e,r⟩ := h.val o d (mem_append_left _ q)
   rw [yX] at r;exact ⟨v,e,r.mono st.same⟩
  ·exact g.val o d q
 own := fun o s ds q e => by
  rw [yX];rcases mem_append.mp q with q | q
  ·obtain ⟨a,xs,e1,e2,e3,r⟩ := h.own o s ds (mem_append_left _ q) e
   rw [yX] at r;exact ⟨a,xs,e1,st.keep a _ (.inr (yo q e e1)) e2,e3,r.mono st.same⟩
  ·obtain ⟨a,xs,e1,e2,e3,r⟩ := g.own o s ds q e
   exact ⟨a,xs,e1,e2,fun m => e3 (.inl m),r⟩
 nd := by
  rw [zV];have nd := h.nd;rw [zV] at nd;refine nodup_append.mpr ⟨(nodup_append.mp nd).1,g.nd,fun a ha b hb e => ?_⟩;subst e;obtain ⟨xs,_,q⟩ := g.ownAt hb;exact q (.inr ha)
 mal := fun b q => g.mal b (.inl q)
theorem Step.outer (st : Step (Mo M T) H Z H' Z') : Step M H (T ++ Z) H' (T ++ Z') :=
 ⟨by rw [yX,yX]; exact st.same,fun b o m h => st.keep b o (.inl m) h⟩
theorem yL {p : Addr} {o : HO} (hp : H p = none) : JJ H (upd H p o) := fun b u e => by
 rw [zY (fun q => by subst q; rw [hp] at e; cases e)]; exact e
theorem FR.grow (h : FR K mg M H Z) {p : Addr} {o : HO} (hp : H p = none) : FR K mg M (upd H p o) Z where
 val := fun o' d q => by
  obtain ⟨v,e,r⟩ := h.val o' d q;exact ⟨v,e,r.mono fun b u x => zM.mpr ⟨(zM.mp x).1,yL hp b u (zM.mp x).2⟩⟩
 own := fun o' s ds q e => by
  obtain ⟨a,xs,e1,e2,e3,r⟩ := h.own o' s ds q e;exact ⟨a,xs,e1,yL hp _ _ e2,e3,r.mono fun b u x => zM.mpr ⟨(zM.mp x).1,yL hp b u (zM.mp x).2⟩⟩
 nd := h.nd
 mal := fun b q => by obtain ⟨u,e⟩ := h.mal b q; exact ⟨u,yL hp _ _ e⟩
theorem Step.grow {p : Addr} {o : HO} (hp : H p = none) : Step M H Z (upd H p o) Z :=
 ⟨fun b u x => zM.mpr ⟨(zM.mp x).1,yL hp b u (zM.mp x).2⟩,fun b u _ e => yL hp b u e⟩
theorem FR.add (h : FR K mg M H Z) {v : V} {d : D} (r : Rep K mg (Hm (Mo M Z) H) d v) : FR K mg M H ((some v,.val d) :: Z) where
 val := fun o d' q => by
  rw [Ja];rcases mem_cons.mp q with q | q
  ·cases q; exact ⟨v,rfl,r⟩
  ·exact h.val o d' q
 own := fun o s ds q e => by
  rw [Ja];rcases mem_cons.mp q with q | q
  ·cases q; cases e
  ·exact h.own o s ds q e
 nd := by rw [zU]; exact h.nd
 mal := h.mal
theorem Step.add {v : Option V} {d : D} (st : Step M H Z H' Z') : Step M H Z H' ((v,.val d) :: Z') := by
 refine ⟨?_,st.keep⟩;rw [Ja]; exact st.same
theorem wq (h : FR K mg M H Z) {p : Addr} (hp : H p = none) : ¬ Mo M Z p := fun q => by
 obtain ⟨o,e⟩ := h.moAl p q;rw [hp] at e; cases e
theorem jR (h : FR K mg M H Z) {p : Addr} {ds : List D} {xs : List V} (hp : H p = none) : JJ (Hm (Mo M Z) H) (Hm (Mo M ((some (.ref p),.own ds) :: Z)) (upd H p (.lst xs))) := fun b u x => by
 obtain ⟨h1,h2⟩ := zM.mp x;refine zM.mpr ⟨fun q => ?_,yL hp _ _ h2⟩;rcases q with q | q
 ·exact h1 (.inl q)
 ·rw [wn] at q
  rcases mem_cons.mp q with q | q
  ·subst q; rw [hp] at h2; cases h2
  ·exact h1 (.inr q)
theorem FR.newOwn (h : FR K mg M H Z) {p : Addr} {ds : List D} {xs : List V} (hp : H p = none) (r : Reps K mg (Hm (Mo M Z) H) ds xs) : FR K mg M (upd H p (.lst xs)) ((some (.ref p),.own ds) :: Z) where
 val := fun o d q => by
  rcases mem_cons.mp q with q | q
  ·cases q
  ·obtain ⟨v,e,r⟩ := h.val o d q
   exact ⟨v,e,r.mono (jR h hp)⟩
 own := fun o s ds' q e => by
  rcases mem_cons.mp q with q | q
  ·cases q; cases e
   exact ⟨p,xs,rfl,yK,fun m => wq h hp (.inl m),r.mono (jR h hp)⟩
  ·obtain ⟨a,ys,e1,e2,e3,r⟩ := h.own o s ds' q e
   exact ⟨a,ys,e1,yL hp _ _ e2,e3,r.mono (jR h hp)⟩
 nd := by
  rw [wn];exact nodup_cons.mpr ⟨fun q => wq h hp (.inr q),h.nd⟩
 mal := fun b q => by obtain ⟨u,e⟩ := h.mal b q; exact ⟨u,yL hp _ _ e⟩
theorem Step.newOwn (h : FR K mg M H Z) {p : Addr} {ds : List D} {xs : List V} (hp : H p = none) : Step M H Z (upd H p (.lst xs)) ((some (.ref p),.own ds) :: Z) :=
 ⟨jR h hp,fun b u _ e => yL hp b u e⟩
theorem FR.newTup (h : FR K mg M H Z) {p : Addr} {ds : List D} {xs : List V} (hp : H p = none) (r : Reps K mg (Hm (Mo M Z) H) ds xs) : FR K mg M (upd H p (.tup xs)) ((some (.ref p),.val (.tup ds)) :: Z) := by
 refine (h.grow hp).add ?_;simp only [Rep];refine ⟨p,xs,rfl,SqT.of (zM.mpr ⟨wq h hp,yK⟩),r.mono fun b u x => zM.mpr ⟨(zM.mp x).1,yL hp b u (zM.mp x).2⟩⟩
theorem Step.newVal {p : Addr} {o : HO} {v : Option V} {d : D} (hp : H p = none) : Step M H Z (upd H p o) ((v,.val d) :: Z) := (Step.grow hp).add
theorem FR.frz {o : Option V} {r : R} (h : FR K mg M H ((o,r.slot) :: Z)) : FR K mg M H ((o,.val r.d) :: Z) := by
 cases r with
 | val d => exact h
 | own ds =>
  obtain ⟨a,xs,e1,e2,e3,rr⟩ := h.own o (.own ds) ds mem_cons_self rfl;subst e1;have hn : ¬ Mo M Z a := fun q => by
   rcases q with q | q
   ·exact e3 q
   ·exact (nodup_cons.mp h.nd).1 q
  refine h.tail.add ?_;simp only [R.d,Rep];exact ⟨a,xs,rfl,SqL.of (zM.mpr ⟨hn,e2⟩),rr.mono (yz (wo (zB (sublist_cons_self _ _))))⟩
theorem Step.frz {o : Option V} {r : R} (h : Step M H Z H' ((o,r.slot) :: Z')) : Step M H Z H' ((o,.val r.d) :: Z') := by
 cases r with
 | val d => exact h
 | own ds =>
  refine h.weak fun b q => ?_
  rw [zU] at q;exact (zB (sublist_cons_self _ _)) b q
theorem ZP : ∀ (σ : St) (E : zQ) (i : Nat) (o : Option V) (s : Slot),(σ.set i o).zip (E.set i s) = (σ.zip E).set i (o,s)
 | [],_,_,_,_ => by simp
 | _ :: _,[],_,_,_ => by simp
 | x :: σ,y :: E,0,o,s => by simp
 | x :: σ,y :: E,i + 1,o,s => by simp [ZP σ E i o s]
theorem za {α : Type} (x : α) : ∀ (l : List α) (i : Nat),i < l.length → (l.set i x).Perm (x :: l.eraseIdx i)
 | [],_,h => by simp at h
 | y :: l,0,_ => List.Perm.refl _
 | y :: l,i + 1,h => by
  have ih := za x l i (by simpa using h);simp only [List.set_cons_succ,List.eraseIdx_cons_succ];exact (ih.cons y).trans (List.Perm.swap x y _)
theorem FR.put (h : FR K mg M H (((o : Option V),s) :: Z)) {i : Nat} (hi : i < Z.length) : FR K mg M H (Z.set i (o,s)) :=
 (h.sub ((List.eraseIdx_sublist Z i).cons_cons (o,s))).perm (za _ _ _ hi).symm
theorem Step.put {o : Option V} {s : Slot} (h : Step M H Z H' ((o,s) :: Z')) {i : Nat} (hi : i < Z'.length) : Step M H Z H' (Z'.set i (o,s)) := by
 refine h.weak fun b q => ?_
 exact zB ((List.eraseIdx_sublist Z' i).cons_cons (o,s)) b (zA (za _ _ _ hi) b q)
end
end DV
namespace DV
open PySem L2
inductive Out (α : Type) where
 | stuck
 | ok (a : α)
 | exc (x : Exn) (E : zQ)
 deriving Inhabited
abbrev ME := zQ → Out (R × zQ)
abbrev MA := zQ → Out (List R × zQ)
abbrev MT := zQ → Out (Bool × zQ)
def PKp (σ : St) (E : zQ) (σ' : St) (E' : zQ) : Prop := ∀ (i : Nat) ds,E[i]? = some (.par ds) → (∃ ds',E'[i]? = some (.par ds')) ∧ σ'[i]? = σ[i]?
theorem PKp.refl {σ : St} {E : zQ} : PKp σ E σ E := fun i ds h => ⟨⟨ds,h⟩,rfl⟩
theorem PKp.trans {σ σ1 σ2 : St} {E E1 E2 : zQ} (a : PKp σ E σ1 E1) (b : PKp σ1 E1 σ2 E2) : PKp σ E σ2 E2 := fun i ds h => by
 obtain ⟨⟨ds1,h1⟩,e1⟩ := a i ds h;obtain ⟨h2,e2⟩ := b i ds1 h1;exact ⟨h2,e2.trans e1⟩
structure Got (K : PySem.W.Frag) (mg : Str → Option Value) (M : Addr → Prop) (σ : St) (E : zQ) (H : Hp) (T0 : Fz) (σ' : St) (E' : zQ) (H' : Hp) (T : Fz) : Prop where
 len : E'.length = σ'.length
 fr : FR K mg M H' (T ++ (T0 ++ σ'.zip E'))
 st : Step M H (T0 ++ σ.zip E) H' (T ++ (T0 ++ σ'.zip E'))
 pk : PKp σ E σ' E'
def Gu (vs : List V) (rs : List R) : Fz := (vs.zip rs).map fun p => (some p.1,p.2.slot)
def KM (X : Cx) (M : Addr → Prop) (σ : St) (E : zQ) (H : Hp) (T0 : Fz) (Q : VK) : Out (R × zQ) → Prop
 | .stuck => False
 | .ok (r,E') => ∀ v H',Got X.K X.mg M σ E H T0 σ E' H' [(some v,r.slot)] → Q v H'
 | .exc x E' => ∀ H',Got X.K X.mg M σ E H T0 σ E' H' [] → XE X σ H' x
def KT (X : Cx) (M : Addr → Prop) (σ : St) (E : zQ) (H : Hp) (T0 : Fz) (Q : Bool → Hp → Prop) : Out (Bool × zQ) → Prop
 | .stuck => False
 | .ok (b,E') => ∀ H',Got X.K X.mg M σ E H T0 σ E' H' [] → Q b H'
 | .exc x E' => ∀ H',Got X.K X.mg M σ E H T0 σ E' H' [] → XE X σ H' x
def KA (X : Cx) (M : Addr → Prop) (σ : St) (E : zQ) (H : Hp) (T0 : Fz) (Q : List V → Hp → Prop) : Out (List R × zQ) → Prop
 | .stuck => False
 | .ok (rs,E') => ∀ vs H',vs.length = rs.length → Got X.K X.mg M σ E H T0 σ E' H' (Gu vs rs) → Q vs H'
 | .exc x E' => ∀ H',Got X.K X.mg M σ E H T0 σ E' H' [] → XE X σ H' x
def tM (X : Cx) (m : ME) : TE := fun σ H Q => ∃ M E,E.length = σ.length ∧ FR X.K X.mg M H (σ.zip E) ∧ KM X M σ E H [] Q (m E)
def tMT (X : Cx) (m : MT) : TT := fun σ H Q => ∃ M E,E.length = σ.length ∧ FR X.K X.mg M H (σ.zip E) ∧ KT X M σ E H [] Q (m E)
def tMA (X : Cx) (m : MA) : TA := fun σ H Q => ∃ M E,E.length = σ.length ∧ FR X.K X.mg M H (σ.zip E) ∧ KA X M σ E H [] Q (m E)
abbrev EOk (X : Cx) (e : Expr) (m : ME) : Prop := PE X e (tM X m)
abbrev TOk (X : Cx) (e : Expr) (m : MT) : Prop := PT X e (tMT X m)
abbrev AOk (X : Cx) (es : List Expr) (m : MA) : Prop := PA X es (tMA X m)
theorem zn {X : Cx} {e : Expr} {t t' : TE} (h : PE X e t) (i : ∀ σ H Q,t' σ H Q → t σ H Q) : PE X e t' := fun pins s σ H Q I q => h pins s σ H Q I (i σ H Q q)
theorem WM {X : Cx} {e : Expr} {t t' : TT} (h : PT X e t) (i : ∀ σ H Q,t' σ H Q → t σ H Q) : PT X e t' := fun pins s σ H Q I q => h pins s σ H Q I (i σ H Q q)
theorem zB4 {X : Cx} {e : Expr} {t t' : TT} (h : PW X e t) (i : ∀ σ H Q,t' σ H Q → t σ H Q) : PW X e t' := fun wh pins s σ H Q I q => h wh pins s σ H Q I (i σ H Q q)
theorem WN {X : Cx} {e : List Expr} {t t' : TA} (h : PA X e t) (i : ∀ σ H Q,t' σ H Q → t σ H Q) : PA X e t' := fun p pins s σ H Q I q => h p pins s σ H Q I (i σ H Q q)
theorem jH {X : Cx} {e : Stmt} {t t' : TS} (h : PS X e t) (i : ∀ D σ H,t' D σ H → t D σ H) : PS X e t' := fun pins s σ H D I q => h pins s σ H D I (i D σ H q)
theorem Gv {X : Cx} {e : List Stmt} {t t' : TS} (h : PSs X e t) (i : ∀ D σ H,t' D σ H → t D σ H) : PSs X e t' := fun pins s σ H D I q => h pins s σ H D I (i D σ H q)
section
variable {X : Cx} {K : PySem.W.Frag} {mg : Str → Option Value} {M : Addr → Prop} {σ σ' σ1 σ2 : St} {E E' E1 E2 : zQ} {H H' H1 H2 : Hp} {T0 T T1 T2 : Fz} {Q : VK}
theorem swapP {α : Type} (A B C : List α) : (A ++ (B ++ ([] ++ C))).Perm (B ++ (A ++ C)) := by
 rw [nil_append,← append_assoc,← append_assoc];exact (perm_append_comm).append_right _
theorem wu {α : Type} {l : List α} {i : Nat} {x : α} (h : l[i]? = some x) : l.set i x = l := by
 obtain ⟨hi,rfl⟩ := List.getElem?_eq_some_iff.mp h;exact List.set_getElem_self hi
theorem Got.outer (h : FR K mg M H (T0 ++ σ.zip E)) (g : Got K mg (Mo M T0) σ E H [] σ' E' H' T) : Got K mg M σ E H T0 σ' E' H' T where
 len := g.len
 fr := by
  have q := FR.outer h g.fr g.st;exact q.perm (swapP _ _ _)
 st := by
  have q := Step.outer g.st;refine q.weak fun b hb => ?_
  exact zA (swapP _ _ _).symm b hb
 pk := g.pk
theorem Got.trans (a : Got K mg M σ E H T0 σ1 E1 H1 T1) (b : Got K mg M σ1 E1 H1 (T1 ++ T0) σ2 E2 H2 T2) : Got K mg M σ E H T0 σ2 E2 H2 (T2 ++ T1) where
 len := b.len
 fr := by
  have q := b.fr;rw [append_assoc] at q;rw [append_assoc];exact q
 st := by
  have q := b.st;rw [append_assoc,append_assoc] at q;rw [append_assoc];exact a.st.trans q
 pk := a.pk.trans b.pk
theorem Got.drop (a : Got K mg M σ E H T0 σ1 E1 H1 (T2 ++ T1)) : Got K mg M σ E H T0 σ1 E1 H1 T1 where
 len := a.len
 fr := a.fr.sub (by rw [append_assoc]; exact sublist_append_right _ _)
 st := a.st.weak (zB (by rw [append_assoc]; exact sublist_append_right _ _))
 pk := a.pk
theorem Got.dropAll (a : Got K mg M σ E H T0 σ1 E1 H1 T1) : Got K mg M σ E H T0 σ1 E1 H1 [] where
 len := a.len
 fr := a.fr.sub (sublist_append_right _ _)
 st := a.st.weak (zB (sublist_append_right _ _))
 pk := a.pk
theorem Got.trans' (a : Got K mg M σ E H [] σ1 E1 H1 T1) (b : Got K mg M σ1 E1 H1 T1 σ2 E2 H2 T2) : Got K mg M σ E H [] σ2 E2 H2 (T2 ++ T1) := a.trans (by rw [append_nil]; exact b)
theorem Got.refl (hl : E.length = σ.length) (h : FR K mg M H (T0 ++ σ.zip E)) : Got K mg M σ E H T0 σ E H [] := ⟨hl,h,Step.refl,PKp.refl⟩
theorem Got.more (a : Got K mg M σ E H [] σ1 E1 H1 T1) (f : FR K mg M H2 (T ++ σ1.zip E1)) (s : Step M H1 (σ1.zip E1) H2 (T ++ σ1.zip E1)) : Got K mg M σ E H [] σ1 E1 H2 T where
 len := a.len
 fr := f
 st := (a.st.weak (zB (sublist_append_right _ _))).trans s
 pk := a.pk
theorem Got.frame (a : Got K mg M σ E H [] σ1 E1 H1 T1) : FR K mg M H1 (σ1.zip E1) := a.fr.sub (sublist_append_right _ _)
theorem Y4 (v : V) (r : R) (vs : List V) (rs : List R) : Gu (v :: vs) (r :: rs) = (some v,r.slot) :: Gu vs rs := rfl
theorem Gw : ∀ {vs : List V} {rs : List R} {Z : Fz},vs.length = rs.length → FR K mg M H (Gu vs rs ++ Z) → Reps K mg (Hm (Mo M Z) H) (rs.map R.d) vs
 | [],[],Z,_,h => Reps.nil
 | v :: vs,r :: rs,Z,hl,h => by
  rw [Y4,List.cons_append] at h;refine Reps.cons ?_ (Gw (by simpa using hl) h.tail);obtain ⟨v',e,q⟩ := h.frz.val (some v) r.d mem_cons_self;cases e;refine q.mono (yz (wo fun b hb => ?_));rw [zU,zV];exact mem_append_right _ hb
theorem Got.reps {vs : List V} {rs : List R} (hl : vs.length = rs.length) (a : Got K mg M σ E H [] σ1 E1 H1 (Gu vs rs)) : Reps K mg (Hm (Mo M (σ1.zip E1)) H1) (rs.map R.d) vs := Gw hl a.fr
theorem Got.rep {v : V} {r : R} (a : Got K mg M σ E H [] σ1 E1 H1 [(some v,r.slot)]) : Rep K mg (Hm (Mo M (σ1.zip E1)) H1) r.d v := by
 have q := Got.reps (vs := [v]) (rs := [r]) rfl a;simp only [List.map,Reps] at q;obtain ⟨v',r',e,h,_⟩ := q;cases e; exact h
theorem zt {m : ME} (hl : E.length = σ.length) (h : FR X.K X.mg M H (T0 ++ σ.zip E))
  (k : KM X M σ E H T0 Q (m E)) : tM X m σ H Q := by
 refine ⟨Mo M T0,E,hl,h.inner,?_⟩;cases e : m E with
 | stuck => rw [e] at k; exact k
 | ok a => rw [e] at k; exact fun v H' g => k v H' (g.outer h)
 | exc x E' => rw [e] at k; exact fun H' g => k H' (g.outer h)
theorem wT {m : MT} {Q : Bool → Hp → Prop} (hl : E.length = σ.length) (h : FR X.K X.mg M H (T0 ++ σ.zip E))
  (k : KT X M σ E H T0 Q (m E)) : tMT X m σ H Q := by
 refine ⟨Mo M T0,E,hl,h.inner,?_⟩;cases e : m E with
 | stuck => rw [e] at k; exact k
 | ok a => rw [e] at k; exact fun H' g => k H' (g.outer h)
 | exc x E' => rw [e] at k; exact fun H' g => k H' (g.outer h)
theorem JL {m : MA} {Q : List V → Hp → Prop} (hl : E.length = σ.length) (h : FR X.K X.mg M H (T0 ++ σ.zip E))
  (k : KA X M σ E H T0 Q (m E)) : tMA X m σ H Q := by
 refine ⟨Mo M T0,E,hl,h.inner,?_⟩;cases e : m E with
 | stuck => rw [e] at k; exact k
 | ok a => rw [e] at k; exact fun vs H' hv g => k vs H' hv (g.outer h)
 | exc x E' => rw [e] at k; exact fun H' g => k H' (g.outer h)
def eC (d : D) : ME := fun E => .ok (.val d,E)
def flat : D → Bool
 | .non | .bl _ | .int _ | .str _ => true
 | _ => false
def flV : D → V
 | .bl b => .bl b
 | .int i => .int i
 | .str x => .str x
 | _ => .non
theorem vq {d : D} (h : flat d = true) : Rep K mg H d (flV d) := by
 cases d <;> simp [flat] at h <;> simp [Rep,flV]
theorem Got.flat (a : Got K mg M σ E H [] σ1 E1 H1 T1) {d : D} (h : flat d = true) : Got K mg M σ E H [] σ1 E1 H1 [(some (flV d),.val d)] :=
 a.more (a.frame.add (vq h)) Step.refl.add
theorem ok_c {e : Expr} {d : D} (h : PE X e (tC (flV d))) (hf : flat d = true := by rfl) : EOk X e (eC d) := zn h fun σ H Q ⟨M,E,hl,f,k⟩ =>
 k (flV d) H ((Got.refl (T0 := []) hl f).flat hf)
theorem ok_int {i j pos} : EOk X (.Constant (.int i) j pos) (eC (.int i)) := ok_c GK
theorem ok_bl {b j pos} : EOk X (.Constant (.bool b) j pos) (eC (.bl b)) := ok_c pe_bl
theorem ok_non {j pos} : EOk X (.Constant .none j pos) (eC .non) := ok_c pe_non
theorem ok_str {x j pos} : EOk X (.Constant (.str x) j pos) (eC (.str x)) := ok_c pe_str
def GC (i : Nat) : ME := fun E => match E[i]? with
 | some (.val d) => .ok (.val d,E)
 | some (.own ds) => .ok (.val (.lst ds),E.set i (.val (.lst ds)))
 | _ => .stuck
theorem wU {i : Nat} {s : Slot} (hl : E.length = σ.length) (h : E[i]? = some s) : ∃ o,σ[i]? = some o ∧ (σ.zip E)[i]? = some (o,s) := by
 have hi : i < E.length := (List.getElem?_eq_some_iff.mp h).1;have : i < σ.length := hl ▸ hi;refine ⟨σ[i],by simp [this],?_⟩;rw [List.getElem?_zip_eq_some];exact ⟨by simp [this],h⟩
theorem jk {i : Nat} {s : Slot} (hl : E.length = σ.length) (h : E[i]? = some s) : ∃ o,σ[i]? = some o ∧ (o,s) ∈ σ.zip E := by
 obtain ⟨o,h1,h2⟩ := wU hl h;exact ⟨o,h1,mem_of_getElem? h2⟩
theorem zy {i : Nat} {o : Option V} (s : Slot) (h : σ[i]? = some o) : σ.zip (E.set i s) = (σ.zip E).set i (o,s) := by
 rw [← ZP];congr 1;have hi : i < σ.length := (List.getElem?_eq_some_iff.mp h).1;apply List.ext_getElem?;intro j;by_cases e : i = j
 ·subst e; rw [getElem?_set_self hi,h]
 ·rw [getElem?_set_ne e]
theorem zB5 {i : Nat} {s : Slot} {ds0 : List D} (h : E[i]? = some s) (hs : ∀ ds,s ≠ .par ds) (o : Slot) : PKp σ E σ (E.set i o) := fun j ds e => by
 have ne : i ≠ j := fun q => by subst q; rw [h] at e; exact hs ds (Option.some.inj e)
 exact ⟨⟨ds,by rw [getElem?_set_ne ne]; exact e⟩,rfl⟩
theorem ok_var (i : Nat) {x : Str} {pos : Pos} (h : PE X (.Name x pos) (GJ i)) : EOk X (.Name x pos) (GC i) := zn h fun σ H Q ⟨M,E,hl,f,k⟩ => by
 unfold GC at k;cases e : E[i]? with
 | none => rw [e] at k; exact k.elim
 | some sl =>
 rw [e] at k;cases sl with
 | emp => exact k.elim
 | par ds => exact k.elim
 | val d =>
  obtain ⟨o,h1,h2⟩ := jk hl e;obtain ⟨v,rfl,r⟩ := f.val o d h2;exact ⟨v,h1,k v H ⟨hl,f.add r,Step.refl.add,PKp.refl⟩⟩
 | own ds =>
  obtain ⟨o,h1,h2⟩ := wU hl e;obtain ⟨a,xs,rfl,q1,q2,q3⟩ := f.own o (.own ds) ds (mem_of_getElem? h2) rfl;refine ⟨.ref a,h1,k _ H ?_⟩;have hlt : i < (σ.zip E).length := (List.getElem?_eq_some_iff.mp h2).1;have p : (σ.zip E).Perm ((some (.ref a),R.slot (.own ds)) :: (σ.zip E).eraseIdx i) := by
   have := za (some (V.ref a),Slot.own ds) (σ.zip E) i hlt;rw [wu h2] at this;exact this
  have f1 := (f.perm p).frz;have f2 : FR X.K X.mg M H ((σ.zip E).set i (some (.ref a),.val (.lst ds))) := f1.perm (za _ _ _ hlt).symm;rw [← zy (.val (.lst ds)) h1] at f2;have r := f1.val _ _ mem_cons_self;obtain ⟨v,ev,rr⟩ := r;cases ev;have em : Mo M ((some (V.ref a),Slot.val (R.own ds).d) :: (σ.zip E).eraseIdx i) = Mo M (σ.zip (E.set i (.val (.lst ds)))) := by
   rw [zy (.val (.lst ds)) h1];exact (W6 (za _ _ _ hlt)).symm
  rw [em] at rr;refine ⟨by simp [hl],f2.add rr,?_,?_⟩
  ·refine Step.add ?_
   refine Step.weak Step.refl fun b hb => ?_
   refine zA p.symm b ?_;rw [nil_append,zy (.val (.lst ds)) h1] at hb;have hb' := zA (za _ _ _ hlt) b hb;rw [zU] at hb';exact zB (sublist_cons_self _ _) b hb'
  ·exact zB5 (ds0 := []) e (fun ds' q => by cases q) _
end
def zR : Expr → Bool
 | .Starred _ _ => true
 | _ => false
def yY : List Expr → Bool
 | [] => true
 | e :: es => !zR e && yY es
theorem zN {e : Expr} {es : List Expr} {env : Env} (h : zR e = false) : starEach (e :: es) env = (false,eval e env) :: starEach es env := by
 cases e <;> first | rfl | (cases h)
theorem star1 {a : Expr} {env : Env} (ha : zR a = false) : starEach [a] env = [(false,eval a env)] := by
 rw [zN ha]; rfl
def yR : Expr → Bool
 | .Set _ _ _ => false
 | _ => true
theorem jI {e : Expr} {env : Env} (h : yR e = true) : ∀ x,foldedSetIterable e env x = pure x := by
 intro x;cases e <;> first | rfl | (cases h)
def wV : Expr → Bool
 | .ListComp _ _ _ _ => false
 | .SetComp _ _ _ _ => false
 | .DictComp _ _ _ _ _ => false
 | _ => true
theorem ZQ {e : Expr} {t : Option Expr} {l : Nat} {env : Env} (h : wV e = true) : swapsWith e t l env = pure false := by
 cases e <;> first | rfl | (cases h)
def zB6 : Expr → Bool
 | .UnaryOp .Not _ _ => false
 | .BoolOp _ _ _ => false
 | .IfExp _ _ _ _ => false
 | .Compare _ _ _ _ => false
 | _ => true
theorem test_of {e : Expr} {env : Env} (h : zB6 e = true) : ∀ whole,isTrue e env whole = (do let v ← whole; standAt e.pos; holding [v] (truthy v)) := by
 intro x;cases e <;> first | rfl | (cases h) | skip;rename_i op _ _;cases op <;> first | rfl | (cases h)
def WO : Expr → Bool
 | .Slice _ _ _ _ => false
 | _ => true
theorem WP {env : Env} : ∀ {es : List Expr},yY es = true → (starEach es env).any (·.1) = false
 | [],_ => rfl
 | e :: es,h => by
  simp only [yY,Bool.and_eq_true,Bool.not_eq_true'] at h;rw [zN h.1];simp [WP h.2]
theorem zAy (pos : Pos) (l : List (Bool × Sem Value)) : (backTo pos l).any (·.1) = l.any (·.1) := by
 unfold backTo;rw [List.any_map];rfl
theorem jJ {env : Env} {es : List Expr} {pos : Pos} (h : yY es = true) : (backTo pos (starEach es env)).any (·.1) = false := by
 rw [zAy,WP h]
end DV
namespace L2
open PySem PySem.Spec PyProof.Rows
section
variable {X : Cx}
def zB7 (K : PySem.W.Frag) : R2 := fun x y H Q => ∃ a b xs ys,x = .ref a ∧ y = .ref b ∧ SqT K H a xs ∧ SqT K H b ys ∧ xs.length + ys.length ≤ sizeLine ∧
 (xs = [] → Q (.ref b) H) ∧ (xs ≠ [] → ys = [] → Q (.ref a) H) ∧ (xs ≠ [] → ys ≠ [] → ∀ p,H p = none → Q (.ref p) (upd H p (.tup (xs ++ ys))))
theorem zAz : OpR X (binaryOp .Add) (zB7 X.K) := by
 intro pins s σ H x y v u Q I rx ry h;obtain ⟨a,b,xs,ys,rfl,rfl,ha,hb,hz,q0,q1,q2⟩ := h;cases rx;cases ry;obtain ⟨its,r1,p1,_⟩ := I.tuple ha;obtain ⟨its2,r2,p2,_⟩ := I.tuple hb;by_cases hx : xs = []
 ·have hi : its = [] := r1.nil_iff.mpr hx
  obtain ⟨⟨cls,dd,data,sl⟩,ho,hc,n,hd⟩ := id p1;obtain ⟨⟨cls2,dd2,data2,sl2⟩,ho2,hc2,n2,hd2⟩ := id p2;simp only at hc hd hc2 hd2;subst hc hd hc2 hd2;exact concat_meets ⟨_,ho,rfl⟩ ⟨_,ho2,rfl⟩ noFill_tuple_add seq_tuple_add PySem.F.slot_tuple_add PySem.F.entry_tuple_add (PySem.F.args_tuple_add_2 _ _)
   (tuple_addW0 a b its.toArray its2.toArray n n2 dd dd2 sl sl2 (by simp [hi])) ⟨ho,ho2,⟨.ref b,H,I,rfl,q0 hx⟩⟩
 ·exact op_catT pins s σ H (.ref a) (.ref b) (.ref a) (.ref b) Q I rfl rfl ⟨a,b,xs,ys,rfl,rfl,ha,hb,hx,hz,q1 hx,q2 hx⟩
def rCatL (K : PySem.W.Frag) : R2 := fun x y H Q => ∃ l b xs zs,x = .ref l ∧ y = .ref b ∧ SqL K H l xs ∧ SqL K H b zs ∧ xs.length + zs.length ≤ sizeLine ∧ ∀ p,H p = none → Q (.ref p) (upd H p (.lst (xs ++ zs)))
theorem op_catL : OpR X (binaryOp .Add) (rCatL X.K) := by
 intro pins s σ H x y v u Q I rx ry h;obtain ⟨l,b,xs,zs,rfl,rfl,hH,hB,hz,q⟩ := h;cases rx;cases ry;obtain ⟨its,r,pl,_⟩ := I.list hH;obtain ⟨its2,r2,pl2,_⟩ := I.list hB;have hl := r.length;have hl2 := r2.length;obtain ⟨⟨cls,dd,data,sl⟩,n,ho,hc,hdd,hd⟩ := pl;obtain ⟨⟨cls2,dd2,data2,sl2⟩,n2,ho2,hc2,hdd2,hd2⟩ := pl2;simp only at hc hd hc2 hd2;subst hc hd hc2 hd2;refine concat_meets ⟨_,ho,rfl⟩ ⟨_,ho2,rfl⟩ noFill_list_add seq_list_add PySem.F.slot_list_add PySem.F.entry_list_add (PySem.F.args_list_add_2 _ _) (list_addW l b its.toArray its2.toArray n n2 dd dd2 sl sl2 (by rw [size_toArray,size_toArray]; omega)) ⟨ho,ho2,?_⟩;have ea : its.toArray ++ its2.toArray = (its ++ its2).toArray := by simp
 rw [ea];exact ⟨.ref _,_,I.lnew (t' := s.toks) (r.append r2) (by rw [length_append]; omega),rfl,q _ I.fresh⟩
theorem wW {prog : Program} {w : World} {A : Around} {E : Value → Shared → Prop} {s : Shared} {t sl : Addr} {items : Array Value} {vl vu : Value} {lo hi : Option Int} {Q : Value → Shared → Prop} (ht : IsTup s.heap t items) (hs : s.heap.IsSliceOf sl vl vu .none) (pl : IsPart vl lo) (pu : IsPart vu hi)
  (h1 : HT.sIx items.size 0 lo = 0) (h2 : HT.sIx items.size items.size hi = items.size)
  (h : Q (.ref t) s) : wpAny (model prog w) A (getItem (.ref t) (.ref sl)) Q E s := by
 obtain ⟨os,hos,hcs,hds⟩ := id hs;have hTs : s.TypeIs (.ref sl) "slice" := ⟨os,hos,hcs⟩;unfold getItem
 try with_reducible refine wpAny_holding ?_
 first | refine wpAny_bind (wpAny_pure ?_) | skip
 refine wpAny_bind (wpAny_sequenceKey ht.typeIs (by decide) ?_);refine wpAny_bind (wpAny_callSpecial?_slot (name := Str.ofString "__getitem__") ht.typeIs PyProof.Rows.slot_tuple_getitem
  (wpAny_call_entry PyProof.Rows.slot_tuple_getitem ht.typeIs entry_tuple_getitem ?_ (args_tuple_getitem _ _)))
 show wpAny _ _ (Builtin.Tuple.tupleItemsOf (.ref t) >>= _) _ _ s
 refine wpAny_bind (tupleItemsOf_ ht ?_);refine wpAny_bind (wpAny_typeOf hTs ?_);rw [if_pos (by decide)];refine wpAny_bind (HT.sliceApplied_gen hs pl pu ?_);have hyes : (((HT.sIx items.size 0 lo : Nat) : Int) == 0 && (1 : Int) == 1 && (HT.sIx items.size items.size hi - HT.sIx items.size 0 lo) == items.size) = true := by
  rw [h1,h2]; simp
 show wpAny _ _ (if (((HT.sIx items.size 0 lo : Nat) : Int) == 0 && (1 : Int) == 1 && (HT.sIx items.size items.size hi - HT.sIx items.size 0 lo) == items.size) = true then _ else _) _ _ s
 rw [if_pos hyes];unfold Builtin.Tuple.tupleIsExact;refine wpAny_bind (wpAny_bind (wpAny_typeOf ht.typeIs (wpAny_pure ?_)));rw [if_pos (by decide)];exact wpAny_bind (wpAny_rule (wpAny_pure ⟨_,rfl,wpAny_pure h⟩))
def rSlTT (K : PySem.W.Frag) : V → Option Int → Option Int → Hp → VK → Prop := fun x lo hi H Q => ∃ a xs,x = .ref a ∧ SqT K H a xs ∧
 ((HT.sIx xs.length 0 lo = 0 ∧ HT.sIx xs.length xs.length hi = xs.length) → Q (.ref a) H) ∧
 (¬ (HT.sIx xs.length 0 lo = 0 ∧ HT.sIx xs.length xs.length hi = xs.length) → ∀ p,H p = none → Q (.ref p) (upd H p (.tup (zAo xs lo hi))))
theorem sl_tupT : SlR X (rSlTT X.K) := by
 intro pins s σ H x v vl vu lo hi sl Q I rx hs pl pu h;obtain ⟨a,xs,rfl,hx,q1,q2⟩ := h;by_cases hw : HT.sIx xs.length 0 lo = 0 ∧ HT.sIx xs.length xs.length hi = xs.length
 ·cases rx
  obtain ⟨its,r,ht,hz⟩ := I.tuple hx;have hlen : its.toArray.size = xs.length := by rw [size_toArray]; exact r.length.symm
  refine ⟨"tuple",_,PyProof.Rows.slot_tuple_getitem.lookup,ht.typeIs,?_⟩;exact wW ht hs pl pu (by rw [hlen]; exact hw.1) (by rw [hlen]; exact hw.2) ⟨.ref a,H,I,rfl,q1 hw⟩
 ·exact sl_tup pins s σ H (.ref a) v vl vu lo hi sl Q I rx hs pl pu ⟨a,xs,rfl,hx,hw,q2 hw⟩
theorem WQ : ∀ bs : List Bool,(List.range bs.length).all (fun i => bs.getD i false) = bs.all id
 | [] => rfl
 | b :: bs => by
  rw [length_cons,List.range_succ_eq_map,all_cons,all_cons,List.all_map,← WQ bs];rfl
theorem zA0 (hc : X.calm = true) : yb X (.builtin "all") (fun xs H Q => ∃ (p : Addr) (bs : List Bool),xs = [.ref p] ∧ SqL X.K H p (bs.map V.bl) ∧ Q (.bl (bs.all id)) H) := by
 intro pins s σ H xs us Q I r h;obtain ⟨p,bs,rfl,hq,q⟩ := h;obtain ⟨u,rfl,rx⟩ := Ym r;cases rx;obtain ⟨its,rv,pl,hz⟩ := I.list hq;have hlen := rv.length;refine call_all_walk (wpAny_pyIter_list pl.isList ?_);have hp : p < s.heap.objs.size := by obtain ⟨o,n,e,_⟩ := pl; exact lt_size e
 have hk : ∀ b o,s.heap.get? b = some o → (s.heap.push { cls := .type "list_iterator",data := .fields #[.ref p,.int 0 0] }).get? b = some o := fun b o e => get?_push_of_some _ e
 have htr : ∀ (i : Nat) (v : Value),its.toArray[i]? = some v → v = Value.bool (bs.getD i false) := fun i v hv => by
  have hv' : its[i]? = some v := by simpa using hv
  have hi : i < its.length := (List.getElem?_eq_some_iff.mp hv').1;have hx : i < (bs.map V.bl).length := by rw [hlen]; exact hi
  obtain ⟨u',e1,e2⟩ := rv.get (i := i) (x := (bs.map V.bl)[i]) (by simp [hx]);rw [hv'] at e1; cases e1;rw [length_map] at hx;rw [List.getElem_map] at e2;have : v = .bool (bs[i]) := e2;rw [this]; simp [hx]
 refine ⟨s.heap.objs.size,[s.heap.objs.size,p],[s.heap.objs.size],its.toArray.size,_,_,fun i => bs.getD i false,rfl,
  Walks.list (by show X.A.handled = none; exact I.ok.hd hc) _ p (ne_of_lt hp) its.toArray,⟨⟨_,get?_push_size _ rfl,rfl,rfl⟩,?_⟩,?_,?_⟩
 ·obtain ⟨o,e,c⟩ := pl.isList
  exact ⟨o,hk _ _ e,c⟩
 ·intro i v s' Q' E' hv hQ
  rw [htr i v hv];exact wpAny_truthy_bool hQ
 ·intro h' tk kp
  have e : (List.range its.toArray.size).all (fun i => bs.getD i false) = bs.all id := by
   rw [size_toArray,← hlen,length_map,WQ]
  rw [e];exact ⟨.bl (bs.all id),H,I.kept (t' := tk) fun b o eb => kp b o (fun m => by
   have : b = s.heap.objs.size := by simpa using m
   subst this;exact absurd (lt_size eb) (lt_irrefl _)) (hk b o eb),rfl,q⟩
theorem Jj : fillsNumberSlot (.type "tuple") "mul" = pure false :=
 PySem.fillsNumberSlot_seq (id := "tuple.__mul__") (r := some (.builtin "tuple.__rmul__")) F.slot_tuple_mul.lookup (by decide +kernel) F.slot_tuple_rmul.lookup (by decide +kernel)
theorem WR : seqRepeat? (.type "tuple") = pure (some (.builtin "tuple.__mul__")) := by
 unfold seqRepeat?;rw [PySem.seqSlot_of (T := "tuple") (name := "__mul__") (id := "tuple.__mul__") F.slot_tuple_mul.lookup (by decide +kernel),PySem.seqSlot_of (T := "tuple") (name := "__rmul__") (id := "tuple.__rmul__") F.slot_tuple_rmul.lookup (by decide +kernel)];rfl
theorem Yp (a : Int) (t : Tok) (l : Addr) (items : Array Value) (n : Nat) (dd : Option Addr) (sl : Array (Option Value)) :
  Meets (Builtin.«int.__rmul__» ⟨[.int a t,.ref l],[]⟩) (fun _ R s => s.heap.get? l = some { cls := .type "tuple",dict := dd,data := .seq items n,slots := sl } ∧ R (.ok (.ret Value.notImplemented)) s) :=
 .of_wp fun prog w A R s h => by obtain ⟨hp,g,d,tk,os⟩ := s; obtain ⟨hl,h⟩ := h; wp_walk; exact ⟨_,rfl,h⟩
theorem Yq {prog : Program} {w : World} {A : Around} {E : Value → Shared → Prop} {s : Shared} {l : Addr} {items : Array Value} {k : Int} {t : Tok} {Q : Value → Shared → Prop} (hl : IsTup s.heap l items) (h1 : -(2 ^ 63) ≤ k) (h2 : k < 2 ^ 63)
  (hz : (items.size : Int) * k ≤ sizeLine) (q0 : items.isEmpty = true ∨ k = 1 → Q (.ref l) s)
  (q1 : k ≤ 0 → Q (.ref s.heap.objs.size) { s with heap := s.heap.push { cls := .type "tuple",data := .seq #[] } })
  (q2 : Q (.ref s.heap.objs.size) { s with heap := s.heap.push { cls := .type "tuple",data := .seq ((replicate k.toNat items).foldl (· ++ ·) #[]) } })
  (hfit : sizeOk (.seq ((replicate k.toNat items).foldl (· ++ ·) #[]))) :
  wpAny (model prog w) A (call (.builtin "tuple.__mul__") [.ref l,.int k t]) Q E s := by
 refine wpAny_call_entry F.slot_tuple_mul hl.typeIs F.entry_tuple_mul ?_ (F.args_tuple_mul_2 _ _);show wpAny _ _ (asIndex (.int k t) >>= _) _ _ s;refine wpAny_bind (wpAny_of_eq (a := k) rfl ?_);dsimp only;rw [if_neg (by simp only [Bool.or_eq_true,decide_eq_true_eq]; omega)];refine wpAny_bind (tupleItemsOf_ hl ?_);by_cases e1 : (items.isEmpty || k == 1) = true
 ·rw [if_pos e1]
  unfold Builtin.Tuple.tupleIsExact;refine wpAny_bind (wpAny_bind (wpAny_typeOf hl.typeIs (wpAny_pure ?_)));rw [if_pos (by decide)];refine wpAny_bind (wpAny_rule (wpAny_pure ⟨_,rfl,q0 ?_⟩));rw [Bool.or_eq_true,beq_iff_eq] at e1;exact e1
 ·rw [if_neg e1]
  by_cases e2 : (decide (k ≤ 0) || items.isEmpty) = true
  ·rw [if_pos e2]
   have hk : k ≤ 0 := by
    simp only [Bool.or_eq_true,decide_eq_true_eq,beq_iff_eq,not_or] at e1 e2;rcases e2 with e2 | e2
    ·exact e2
    ·exact absurd e2 e1.1
   exact wpAny_bind (m := Builtin.Tuple.tupleExact _) (wpAny_newObj_type (wpAny_pure ⟨_,rfl,q1 hk⟩) (by show (#[] : Array Value).size ≤ sizeLine; simp))
  ·rw [if_neg e2]
   have hs : sizeLine = 16777216 := sizeLine_eq;rw [if_neg (by rw [hs] at hz; omega),if_neg (by unfold Builtin.Tuple.tupleTooMany; simp only [decide_eq_true_eq]; omega)];exact wpAny_bind (m := Builtin.Tuple.tupleExact _) (wpAny_newObj_type (wpAny_pure ⟨_,rfl,q2⟩) hfit)
def rRepT (K : PySem.W.Frag) : R2 := fun x y H Q => ∃ l k xs,x = .ref l ∧ y = .int k ∧ SqT K H l xs ∧ -(2 ^ 63) ≤ k ∧ k < 2 ^ 63 ∧ xs.length * k.toNat ≤ sizeLine ∧
 (xs = [] ∨ k = 1 → Q (.ref l) H) ∧ (∀ p,H p = none → Q (.ref p) (upd H p (.tup (replicate k.toNat xs).flatten)))
theorem op_repT : OpR X (binaryOp .Mult) (rRepT X.K) := by
 intro pins s σ H x y v u Q I rx ry h;obtain ⟨l,k,xs,rfl,rfl,hH,h1,h2,hz,q0,q⟩ := h;cases rx;obtain ⟨t,rfl⟩ := ry;obtain ⟨its,r,pt,_⟩ := I.tuple hH;have hl := r.length;obtain ⟨⟨cls,dd,data,sl⟩,ho,hc,n,hd⟩ := id pt;simp only at hc hd;subst hc hd;have hnew : foldl (fun x1 x2 => x1 ++ x2) #[] (replicate k.toNat its.toArray) = (replicate k.toNat its).flatten.toArray := by
  have := YA its k.toNat [];rw [nil_append] at this;exact this
 have hlen : (replicate k.toNat its).flatten.length ≤ sizeLine := by rw [W2,Nat.mul_comm,← hl]; exact hz
 have hzz : ((its.toArray.size : Nat) : Int) * k ≤ (sizeLine : Nat) := by
  rw [size_toArray,← hl];by_cases hk : 0 ≤ k
  ·obtain ⟨m,rfl⟩ := Int.eq_ofNat_of_zero_le hk
   have : xs.length * m ≤ sizeLine := by simpa using hz
   exact_mod_cast this
  ·have : (xs.length : Int) * k ≤ 0 := Int.mul_nonpos_of_nonneg_of_nonpos (Int.natCast_nonneg _) (by omega)
   omega
 refine wpAny_binaryOp_repeat_ref (T := "tuple") (U := "int") (by decide) ⟨_,ho,rfl⟩ (fun s' => typeIs_int s' k t) Jj F.fills_int_mul F.slot_int_rmul WR F.slot_int_index.lookup
  (call_meets F.slot_int_rmul (typeIs_int s k t) F.entry_int_rmul (F.args_int_rmul_2 _ _) (Yp k t l its.toArray n dd sl) ⟨ho,rfl,⟨_,ho,rfl⟩,?_⟩)
 refine Yq pt h1 h2 hzz (fun e => ⟨.ref l,H,I,rfl,q0 ?_⟩) (fun e => ?_) ?_ ?_
 ·rcases e with e | e
  ·left
   have : its = [] := by simpa using e
   exact r.nil_iff.mp this
  ·right; exact e
 ·have ek : k.toNat = 0 := by omega
  have q' := q s.heap.objs.size I.fresh;rw [ek] at q';exact ⟨.ref s.heap.objs.size,_,I.laid (t' := s.toks) (o := .tup []) (fun b ob q => get?_push_of_some _ q) (le_refl _) ⟨zero_le _,[],.nil,IsTup.new _ _⟩,rfl,q'⟩
 ·rw [hnew]
  exact ⟨.ref s.heap.objs.size,_,I.laid (t' := s.toks) (o := .tup (replicate k.toNat xs).flatten) (fun b ob q => get?_push_of_some _ q) (le_refl _) ⟨by rw [W2,Nat.mul_comm]; exact hz,_,r.rep k.toNat,IsTup.new _ _⟩,rfl,q _ I.fresh⟩
 ·rw [hnew]
  show (replicate k.toNat its).flatten.toArray.size ≤ sizeLine
  rw [size_toArray]; exact hlen
end
end L2
namespace DV
open PySem L2
def cap : Nat := 1000000
theorem jd {n : Nat} (h : n ≤ cap) : n ≤ sizeLine := le_trans h (by rw [sizeLine_eq]; decide)
abbrev Kt (K : PySem.W.Frag) (mg : Str → Option Value) (M : Addr → Prop) (H : Hp) (Z : Fz) (res : R) (Q : VK) : Prop :=
 ∀ v H',FR K mg M H' ((some v,res.slot) :: Z) → Step M H Z H' ((some v,res.slot) :: Z) → Q v H'
def ROk (K : PySem.W.Frag) (mg : Str → Option Value) (rel : R2) (f : D → D → Option R) : Prop :=
 ∀ (M : Addr → Prop) (H : Hp) (Z : Fz) (x y : V) (d1 d2 : D) (res : R) (Q : VK),FR K mg M H Z → Rep K mg (Hm (Mo M Z) H) d1 x → Rep K mg (Hm (Mo M Z) H) d2 y → f d1 d2 = some res → Kt K mg M H Z res Q → rel x y H Q
def COk (K : PySem.W.Frag) (mg : Str → Option Value) (rel : List V → Hp → VK → Prop) (f : List D → Option R) : Prop :=
 ∀ (M : Addr → Prop) (H : Hp) (Z : Fz) (xs : List V) (ds : List D) (res : R) (Q : VK),FR K mg M H Z → Reps K mg (Hm (Mo M Z) H) ds xs → f ds = some res → Kt K mg M H Z res Q → rel xs H Q
section
variable {X : Cx} {K : PySem.W.Frag} {mg : Str → Option Value} {M : Addr → Prop} {H H' : Hp} {Z : Fz} {Q : VK} {σ : St}
theorem Kt.flat {d : D} (k : Kt K mg M H Z (.val d) Q) (f : FR K mg M H Z) (h : flat d = true) : Q (flV d) H := k _ _ (f.add (vq h)) Step.refl.add
theorem Kt.rep {d : D} {v : V} (k : Kt K mg M H Z (.val d) Q) (f : FR K mg M H Z) (h : Rep K mg (Hm (Mo M Z) H) d v) : Q v H := k _ _ (f.add h) Step.refl.add
theorem Kt.tup {ds : List D} {xs : List V} {p : Addr} (k : Kt K mg M H Z (.val (.tup ds)) Q) (f : FR K mg M H Z) (hp : H p = none) (h : Reps K mg (Hm (Mo M Z) H) ds xs) : Q (.ref p) (upd H p (.tup xs)) := k _ _ (f.newTup hp h) (Step.newVal hp)
theorem Kt.own {ds : List D} {xs : List V} {p : Addr} (k : Kt K mg M H Z (.own ds) Q) (f : FR K mg M H Z) (hp : H p = none) (h : Reps K mg (Hm (Mo M Z) H) ds xs) : Q (.ref p) (upd H p (.lst xs)) := k _ _ (f.newOwn hp h) (Step.newOwn f hp)
def Yl (f : D → D → Option R) (a b : ME) : ME := fun E => match a E with
 | .stuck => .stuck
 | .exc x E1 => .exc x E1
 | .ok (r1,E1) => match b E1 with
  | .stuck => .stuck
  | .exc x E2 => .exc x E2
  | .ok (r2,E2) => match f r1.d r2.d with
   | some r => .ok (r,E2)
   | none => .stuck
theorem ZR {rel : R2} {f : D → D → Option R} {a b : ME} (hr : ROk X.K X.mg rel f) {H : Hp} {Q : VK} (h : tM X (Yl f a b) σ H Q) : tOp rel (tM X a) (tM X b) σ H Q := by
 obtain ⟨M,E,hl,fr,k⟩ := h;unfold Yl at k;refine zt (T0 := []) hl fr ?_;cases ea : a E with
 | stuck => rw [ea] at k; exact k
 | exc x E1 => rw [ea] at k; exact fun H' g => k H' g
 | ok p =>
  obtain ⟨r1,E1⟩ := p;rw [ea] at k;intro x H1 g1;refine zt (T0 := [(some x,r1.slot)]) g1.len g1.fr ?_;dsimp only at k;cases eb : b E1 with
  | stuck => rw [eb] at k; exact k
  | exc x E2 => rw [eb] at k; exact fun H' g => k H' (g1.trans' g).dropAll
  | ok p =>
   obtain ⟨r2,E2⟩ := p;rw [eb] at k;intro y H2 g2;have g := g1.trans' g2;have rp := Got.reps (vs := [y,x]) (rs := [r2,r1]) rfl g;simp only [List.map,Reps] at rp;obtain ⟨y',_,e1,ry,x',_,e2,rx,_⟩ := rp;cases e1; cases e2;dsimp only at k;cases ef : f r1.d r2.d with
   | none => rw [ef] at k; exact k.elim
   | some r =>
    rw [ef] at k;exact hr M H2 _ x y r1.d r2.d r Q g.frame rx ry ef fun v H' f' s' => k v H' (g.more (T := [(some v,r.slot)]) f' s')
theorem ur {op : Operator} {rel : R2} {f : D → D → Option R} {a b : Expr} {ma mb : ME} {pos : Pos} (ho : OpR X (binaryOp op) rel) (hr : ROk X.K X.mg rel f) (ha : EOk X a ma) (hb : EOk X b mb) : EOk X (.BinOp a op b pos) (Yl f ma mb) :=
 zn (pe_op ho ha hb) fun σ H Q h => ZR hr h
theorem wK {op : CmpOp} {rel : R2} {f : D → D → Option R} {a b : Expr} {ma mb : ME} {pos : Pos} (ho : OpR X (compareOp op) rel) (hr : ROk X.K X.mg rel f) (hm : behindInMarks op b = false) (ha : EOk X a ma) (hb : EOk X b mb) : EOk X (.Compare a [op] [b] pos) (Yl f ma mb) :=
 zn (pe_cmpR ho ha hb hm) fun σ H Q h => ZR hr h
theorem ok_ix {rel : R2} {f : D → D → Option R} {a b : Expr} {ma mb : ME} {pos : Pos} (ho : IxR X rel) (hr : ROk X.K X.mg rel f) (hs : ZM b) (ha : EOk X a ma) (hb : EOk X b mb) : EOk X (.Subscript a b pos) (Yl f ma mb) :=
 zn (pe_ix ho ha hb hs) fun σ H Q h => ZR hr h
def tT (m : ME) : MT := fun E => match m E with
 | .stuck => .stuck
 | .exc x E1 => .exc x E1
 | .ok (.val (.bl b),E1) => .ok (b,E1)
 | _ => .stuck
theorem Gy {m : ME} {H : Hp} {Q : Bool → Hp → Prop} (h : tMT X (tT m) σ H Q) : tM X m σ H fun x H' => ∃ k,x = .bl k ∧ Q k H' := by
 obtain ⟨M,E,hl,fr,k⟩ := h;refine ⟨M,E,hl,fr,?_⟩;unfold tT at k;cases e : m E with
 | stuck => rw [e] at k; exact k
 | exc x E1 => rw [e] at k; exact k
 | ok p =>
  obtain ⟨r,E1⟩ := p;rw [e] at k;cases r with
  | own ds => exact k.elim
  | val d =>
   cases d with
   | bl b =>
    intro v H' g;have rp := g.rep;simp only [R.d,Rep] at rp;exact ⟨b,rp,k H' g.dropAll⟩
   | _ => exact k.elim
theorem ok_test {e : Expr} {m : ME} (h : EOk X e m) (he : ∀ whole,isTrue e X.env whole = (do let v ← whole; standAt e.pos; holding [v] (truthy v)) := by intro _; rfl) : TOk X e (tT m) :=
 WM (pt_val h he) fun σ H Q q => Gy q
theorem y0 {op : CmpOp} {rel : R2} {f : D → D → Option R} {a b : Expr} {ma mb : ME} {pos : Pos} (ho : OpR X (compareOp op) rel) (hr : ROk X.K X.mg rel f) (hm : behindInMarks op b = false) (ha : EOk X a ma) (hb : EOk X b mb) : TOk X (.Compare a [op] [b] pos) (tT (Yl f ma mb)) :=
 WM (pt_cmpR ho ha hb hm) fun σ H Q h => ZR hr (Gy h)
def JM (a b : MT) : MT := fun E => match a E with
 | .ok (true,E1) => b E1
 | o => o
def GD (a b : MT) : MT := fun E => match a E with
 | .ok (false,E1) => b E1
 | o => o
def Jk (a : MT) : MT := fun E => match a E with
 | .stuck => .stuck
 | .exc x E1 => .exc x E1
 | .ok (b,E1) => .ok (!b,E1)
theorem and_run {a b : MT} {H : Hp} {Q : Bool → Hp → Prop} (h : tMT X (JM a b) σ H Q) : tAnd (tMT X a) (tMT X b) σ H Q := by
 obtain ⟨M,E,hl,fr,k⟩ := h;unfold JM at k;refine wT (T0 := []) hl fr ?_;cases ea : a E with
 | stuck => rw [ea] at k; exact k
 | exc x E1 => rw [ea] at k; exact k
 | ok p =>
  obtain ⟨c,E1⟩ := p;rw [ea] at k;intro H1 g1;cases c with
  | false => exact iteF (k H1 g1)
  | true =>
   refine iteT ?_;refine wT (T0 := []) g1.len g1.fr ?_;dsimp only at k;cases eb : b E1 with
   | stuck => rw [eb] at k; exact k
   | exc x E2 => rw [eb] at k; exact fun H' g => k H' (g1.trans' g)
   | ok p => rw [eb] at k; exact fun H' g => k H' (g1.trans' g)
theorem or_run {a b : MT} {H : Hp} {Q : Bool → Hp → Prop} (h : tMT X (GD a b) σ H Q) : tOr (tMT X a) (tMT X b) σ H Q := by
 obtain ⟨M,E,hl,fr,k⟩ := h;unfold GD at k;refine wT (T0 := []) hl fr ?_;cases ea : a E with
 | stuck => rw [ea] at k; exact k
 | exc x E1 => rw [ea] at k; exact k
 | ok p =>
  obtain ⟨c,E1⟩ := p;rw [ea] at k;intro H1 g1;cases c with
  | true => exact iteT (k H1 g1)
  | false =>
   refine iteF ?_;refine wT (T0 := []) g1.len g1.fr ?_;dsimp only at k;cases eb : b E1 with
   | stuck => rw [eb] at k; exact k
   | exc x E2 => rw [eb] at k; exact fun H' g => k H' (g1.trans' g)
   | ok p => rw [eb] at k; exact fun H' g => k H' (g1.trans' g)
theorem not_run {a : MT} {H : Hp} {Q : Bool → Hp → Prop} (h : tMT X (Jk a) σ H Q) : tNot (tMT X a) σ H Q := by
 obtain ⟨M,E,hl,fr,k⟩ := h;unfold Jk at k;refine wT (T0 := []) hl fr ?_;cases ea : a E with
 | stuck => rw [ea] at k; exact k
 | exc x E1 => rw [ea] at k; exact k
 | ok p => rw [ea] at k; exact k
abbrev WOk (X : Cx) (e : Expr) (m : MT) : Prop := PW X e (tMT X m)
theorem wk_and1 {a : Expr} {m : MT} {pos : Pos} (h : TOk X a m) : WOk X (.BoolOp .And [a] pos) m := pw_and1 h
theorem wk_or1 {a : Expr} {m : MT} {pos : Pos} (h : TOk X a m) : WOk X (.BoolOp .Or [a] pos) m := pw_or1 h
theorem zB8 {a b : Expr} {JI : List Expr} {ma mb : MT} {pos : Pos} (ha : TOk X a ma) (hb : WOk X (.BoolOp .And (b :: JI) pos) mb) : WOk X (.BoolOp .And (a :: b :: JI) pos) (JM ma mb) := zB4 (pw_and ha hb) fun σ H Q => and_run
theorem wk_or {a b : Expr} {JI : List Expr} {ma mb : MT} {pos : Pos} (ha : TOk X a ma) (hb : WOk X (.BoolOp .Or (b :: JI) pos) mb) : WOk X (.BoolOp .Or (a :: b :: JI) pos) (GD ma mb) := zB4 (pw_or ha hb) fun σ H Q => or_run
theorem tk_w {e : Expr} {m : MT} (h : WOk X e m) : TOk X e m := h.pt
theorem tk_not {a : Expr} {m : MT} {pos : Pos} (h : TOk X a m) : TOk X (.UnaryOp .Not a pos) (Jk m) := WM (pt_not h) fun σ H Q => not_run
def Gz (a : ME) : ME := fun E => match a E with
 | .ok (.val (.bl b),E1) => .ok (.val (.bl (!b)),E1)
 | .exc x E1 => .exc x E1
 | _ => .stuck
def GE (a b : ME) : ME := fun E => match a E with
 | .ok (.val (.bl true),E1) => b E1
 | .ok (.val (.bl false),E1) => .ok (.val (.bl false),E1)
 | .exc x E1 => .exc x E1
 | _ => .stuck
def eOr (a b : ME) : ME := fun E => match a E with
 | .ok (.val (.bl false),E1) => b E1
 | .ok (.val (.bl true),E1) => .ok (.val (.bl true),E1)
 | .exc x E1 => .exc x E1
 | _ => .stuck
theorem zA1 {a : ME} {H : Hp} {Q : VK} (h : tM X (Gz a) σ H Q) : tNotV (tM X a) σ H Q := by
 obtain ⟨M,E,hl,fr,k⟩ := h;unfold Gz at k;refine zt (T0 := []) hl fr ?_;cases ea : a E with
 | stuck => rw [ea] at k; exact k
 | exc x E1 => rw [ea] at k; exact k
 | ok p =>
  obtain ⟨r,E1⟩ := p;rw [ea] at k;cases r with
  | own ds => exact k.elim
  | val d =>
   cases d with
   | bl b =>
    intro v H' g;have rp := g.rep;simp only [R.d,Rep] at rp;exact ⟨b,rp,k _ H' (g.flat (d := .bl (!b)) rfl)⟩
   | _ => exact k.elim
theorem zA2 {a b : ME} {H : Hp} {Q : VK} (h : tM X (GE a b) σ H Q) : tAndV (tM X a) (tM X b) σ H Q := by
 obtain ⟨M,E,hl,fr,k⟩ := h;unfold GE at k;refine zt (T0 := []) hl fr ?_;cases ea : a E with
 | stuck => rw [ea] at k; exact k
 | exc x E1 => rw [ea] at k; exact k
 | ok p =>
  obtain ⟨r,E1⟩ := p;rw [ea] at k;cases r with
  | own ds => exact k.elim
  | val d =>
   cases d with
   | bl c =>
    intro v H' g;have rp := g.rep;simp only [R.d,Rep] at rp;refine ⟨c,rp,?_⟩;cases c with
    | false => exact iteF (k _ H' (g.flat (d := .bl false) rfl))
    | true =>
     refine iteT (zt (T0 := []) g.len g.frame ?_);dsimp only at k;cases eb : b E1 with
     | stuck => rw [eb] at k; exact k
     | exc x E2 => rw [eb] at k; exact fun H'' g' => k H'' (g.dropAll.trans' g')
     | ok p => rw [eb] at k; exact fun v'' H'' g' => k v'' H'' (g.dropAll.trans' g')
   | _ => exact k.elim
theorem ok_not {a : Expr} {m : ME} {pos : Pos} (h : EOk X a m) : EOk X (.UnaryOp .Not a pos) (Gz m) := zn (pe_not h) fun σ H Q => zA1
theorem zB9 {a b : Expr} {JI : List Expr} {ma mb : ME} {pos : Pos} (ha : EOk X a ma) (hb : EOk X (.BoolOp .And (b :: JI) pos) mb) : EOk X (.BoolOp .And (a :: b :: JI) pos) (GE ma mb) := zn (pe_and ha hb) fun σ H Q => zA2
theorem ok_one {a : Expr} {op : BoolOp} {m : ME} {pos : Pos} (h : EOk X a m) : EOk X (.BoolOp op [a] pos) m := pe_one h
def zAR : MA := fun E => .ok ([],E)
def Jl (a : ME) (m : MA) : MA := fun E => match a E with
 | .stuck => .stuck
 | .exc x E1 => .exc x E1
 | .ok (r,E1) => match m E1 with
  | .stuck => .stuck
  | .exc x E2 => .exc x E2
  | .ok (rs,E2) => .ok (r :: rs,E2)
theorem ak_nil : AOk X [] zAR := WN JY fun σ H Q ⟨M,E,hl,fr,k⟩ => k [] H rfl (Got.refl (T0 := []) hl fr)
theorem Got.perm {K : PySem.W.Frag} {mg : Str → Option Value} {M : Addr → Prop} {σ σ1 : St} {E E1 : zQ} {H H1 : Hp} {T0 T T' : Fz} (a : Got K mg M σ E H T0 σ1 E1 H1 T) (p : T.Perm T') : Got K mg M σ E H T0 σ1 E1 H1 T' where
 len := a.len
 fr := a.fr.perm (p.append_right _)
 st := a.st.weak (zA (p.append_right _).symm)
 pk := a.pk
theorem zA3 {a : ME} {m : MA} {H : Hp} {Q : List V → Hp → Prop} (h : tMA X (Jl a m) σ H Q) : zAi (tM X a) (tMA X m) σ H Q := by
 obtain ⟨M,E,hl,fr,k⟩ := h;unfold Jl at k;refine zt (T0 := []) hl fr ?_;cases ea : a E with
 | stuck => rw [ea] at k; exact k
 | exc x E1 => rw [ea] at k; exact k
 | ok p =>
  obtain ⟨r1,E1⟩ := p;rw [ea] at k;intro x H1 g1;refine JL (T0 := [(some x,r1.slot)]) g1.len g1.fr ?_;dsimp only at k;cases eb : m E1 with
  | stuck => rw [eb] at k; exact k
  | exc x E2 => rw [eb] at k; exact fun H' g => k H' (g1.trans' g).dropAll
  | ok p =>
   obtain ⟨rs,E2⟩ := p;rw [eb] at k;intro vs H2 hv g2;refine k (x :: vs) H2 (by simp [hv]) ?_;rw [Y4];exact (g1.trans' g2).perm (perm_append_comm)
theorem ak_cons {e : Expr} {es : List Expr} {a : ME} {m : MA} (ha : EOk X e a) (hm : AOk X es m) (hs : zR e = false := by rfl) : AOk X (e :: es) (Jl a m) := WN (yc ha hm (zN hs)) fun σ H Q => zA3
def eCB (f : List D → Option R) (m : MA) : ME := fun E => match m E with
 | .stuck => .stuck
 | .exc x E1 => .exc x E1
 | .ok (rs,E1) => match f (rs.map R.d) with
  | some r => .ok (r,E1)
  | none => .stuck
theorem vt {rel : List V → Hp → VK → Prop} {f : List D → Option R} {m : MA} (hr : COk X.K X.mg rel f) {H : Hp} {Q : VK} (h : tM X (eCB f m) σ H Q) : tCB rel (tMA X m) σ H Q := by
 obtain ⟨M,E,hl,fr,k⟩ := h;unfold eCB at k;refine JL (T0 := []) hl fr ?_;cases ea : m E with
 | stuck => rw [ea] at k; exact k
 | exc x E1 => rw [ea] at k; exact k
 | ok p =>
  obtain ⟨rs,E1⟩ := p;rw [ea] at k;intro vs H1 hv g;have rp := Got.reps hv g;dsimp only at k;cases ef : f (rs.map R.d) with
  | none => rw [ef] at k; exact k.elim
  | some r =>
   rw [ef] at k;exact hr M H1 _ vs _ r Q g.frame rp ef fun v H' f' s' => k v H' (g.more (T := [(some v,r.slot)]) f' s')
def zAS (m : MA) : ME := eCB (fun ds => if ds.length ≤ cap then some (.val (.tup ds)) else none) m
def zAT (m : MA) : ME := eCB (fun ds => if ds.length ≤ cap then some (.own ds) else none) m
theorem ok_tup {es : List Expr} {m : MA} {x1 : Nat} {pos : Pos} (h : AOk X es m) : EOk X (.Tuple es x1 pos) (zAS m) :=
 zn (pe_tup h) fun σ H Q q => vt (rel := fun xs H1 Q => xs.length ≤ sizeLine ∧ ∀ p,H1 p = none → Q (.ref p) (upd H1 p (.tup xs))) (fun M H Z xs ds res Q f r e k => by
  split at e
  ·rename_i hc
   cases e;exact ⟨by rw [r.length]; exact jd hc,fun p hp => k.tup f hp r⟩
  ·cases e) q
theorem ok_lst {es : List Expr} {m : MA} {pos : Pos} (h : AOk X es m) : EOk X (.List es pos) (zAT m) :=
 zn (pe_lst h) fun σ H Q q => vt (rel := fun xs H1 Q => xs.length ≤ sizeLine ∧ ∀ p,H1 p = none → Q (.ref p) (upd H1 p (.lst xs))) (fun M H Z xs ds res Q f r e k => by
  split at e
  ·rename_i hc
   cases e;exact ⟨by rw [r.length]; exact jd hc,fun p hp => k.own f hp r⟩
  ·cases e) q
theorem j1 {f : List D → Option R} {m : MA} {rel : List V → Hp → VK → Prop} {id : String} {x : Str} {p pos : Pos} {e : Expr} {es : List Expr} (hc : yb X (.builtin id) rel) (hr : COk X.K X.mg rel f) (hg : Gl X x) (hm : X.mg x = none) (hv : bootBuiltins x = some (.builtin id)) (ha : AOk X (e :: es) m) (hn : x ≠ "__name__" := by decide) (hdb : (x == ("__debug__" : Str)) = false := by decide)
  (he : zR e = false := by rfl) (hpl : yY es = true := by rfl) : EOk X (.Call (.Name x p) (e :: es) [] pos) (eCB f m) :=
 zn (Jo hc hg hm hv ha hn hdb (zN he) (jJ hpl)) fun σ H Q q => vt hr q
theorem YC {f : List D → Option R} {m : MA} {rel : List V → Hp → VK → Prop} {T : String} {x : Str} {p pos : Pos} {e : Expr} {es : List Expr} (hc : yb X (.type T) rel) (hr : COk X.K X.mg rel f) (hg : Gl X x) (hm : X.mg x = none) (hv : bootBuiltins x = some (.type T)) (ha : AOk X (e :: es) m) (hn : x ≠ "__name__" := by decide) (hdb : (x == ("__debug__" : Str)) = false := by decide)
  (he : zR e = false := by rfl) (hpl : yY es = true := by rfl) : EOk X (.Call (.Name x p) (e :: es) [] pos) (eCB f m) :=
 zn (Gb hc hg hm hv ha hn hdb (zN he) (jJ hpl)) fun σ H Q q => vt hr q
end
end DV
namespace DV
open PySem L2
section
variable {X : Cx} {K : PySem.W.Frag} {mg : Str → Option Value}
theorem zG {H : Hp} {i : Int} {v : V} (h : Rep K mg H (.int i) v) : v = .int i := by simpa only [Rep] using h
theorem yI {H : Hp} {i : Bool} {v : V} (h : Rep K mg H (.bl i) v) : v = .bl i := by simpa only [Rep] using h
theorem y4 {H : Hp} {i : Str} {v : V} (h : Rep K mg H (.str i) v) : v = .str i := by simpa only [Rep] using h
theorem yd {H : Hp} {v : V} (h : Rep K mg H .non v) : v = .non := by simpa only [Rep] using h
theorem zO {H : Hp} {ds : List D} {v : V} (h : Rep K mg H (.tup ds) v) : ∃ a xs,v = .ref a ∧ SqT K H a xs ∧ Reps K mg H ds xs := by simpa only [Rep] using h
theorem zH {H : Hp} {ds : List D} {v : V} (h : Rep K mg H (.lst ds) v) : ∃ a xs,v = .ref a ∧ SqL K H a xs ∧ Reps K mg H ds xs := by simpa only [Rep] using h
theorem zP {H : Hp} {d : D} {v : V} (hf : flat d = true) (h : Rep K mg H d v) : v = flV d := by
 cases d <;> simp [flat] at hf <;> simpa only [Rep,flV] using h
def W8 : D → D → Option R
 | .int i,.int j => some (.val (.int (i + j)))
 | .tup a,.tup b => if a.length + b.length ≤ cap then some (.val (.tup (a ++ b))) else none
 | .lst a,.lst b => if a.length + b.length ≤ cap then some (.own (a ++ b)) else none
 | _,_ => none
def rAddD (K : PySem.W.Frag) : R2 := fun x y H Q => rI0 (fun i j => .int (i + j)) x y H Q ∨ (zB7 K x y H Q ∨ rCatL K x y H Q)
theorem op_addD : OpR X (binaryOp .Add) (rAddD X.K) := op_add.or (zAz.or op_catL)
theorem ro_add : ROk K mg (rAddD K) W8 := by
 intro M H Z x y d1 d2 res Q f r1 r2 e k;cases d1 with
 | int i =>
  cases d2 with
  | int j =>
   cases e;exact .inl ⟨i,j,zG r1,zG r2,k.flat f rfl⟩
  | _ => cases e
 | tup a =>
  cases d2 with
  | tup b =>
   simp only [W8] at e;split at e
   ·rename_i hc
    cases e;obtain ⟨p,xs,rfl,h1,h2⟩ := zO r1;obtain ⟨q,ys,rfl,h3,h4⟩ := zO r2;have l1 := h2.length;have l2 := h4.length;refine .inr (.inl ⟨p,q,xs,ys,rfl,rfl,zk zE h1,zk zE h3,by rw [l1,l2]; exact jd hc,fun e => ?_,fun _ e => ?_,fun _ _ p' hp => k.tup f hp (h2.append h4)⟩)
    ·subst e
     have : a = [] := by simpa using l1.symm
     subst this;exact k.rep f (by simpa using r2)
    ·subst e
     have : b = [] := by simpa using l2.symm
     subst this;exact k.rep f (by simpa using r1)
   ·cases e
  | _ => cases e
 | lst a =>
  cases d2 with
  | lst b =>
   simp only [W8] at e;split at e
   ·rename_i hc
    cases e;obtain ⟨p,xs,rfl,h1,h2⟩ := zH r1;obtain ⟨q,ys,rfl,h3,h4⟩ := zH r2;have l1 := h2.length;have l2 := h4.length;exact .inr (.inr ⟨p,q,xs,ys,rfl,rfl,zE.seq h1,zE.seq h3,by rw [l1,l2]; exact jd hc,fun p' hp => k.own f hp (h2.append h4)⟩)
   ·cases e
  | _ => cases e
 | _ => cases e
def zAU (C : Int → Int → Bool) (g : Int → Int → D) : D → D → Option R
 | .int i,.int j => if C i j = true then some (.val (g i j)) else none
 | _,_ => none
theorem G0 {C : Int → Int → Bool} {P : Int → Int → Prop} {g : Int → Int → D} {gv : Int → Int → V} (hC : ∀ i j,C i j = true → P i j) (hg : ∀ i j,flat (g i j) = true ∧ flV (g i j) = gv i j) : ROk K mg (rI P gv) (zAU C g) := by
 intro M H Z x y d1 d2 res Q f r1 r2 e k;cases d1 with
 | int i =>
  cases d2 with
  | int j =>
   simp only [zAU] at e;split at e
   ·rename_i hc
    cases e;refine ⟨i,j,zG r1,zG r2,hC i j hc,?_⟩;have := k.flat f (hg i j).1;rw [(hg i j).2] at this;exact this
   ·cases e
  | _ => cases e
 | _ => cases e
def zCA (g : Int → Int → D) : D → D → Option R
 | .int i,.int j => some (.val (g i j))
 | _,_ => none
theorem YD {g : Int → Int → D} {gv : Int → Int → V} (hg : ∀ i j,flat (g i j) = true ∧ flV (g i j) = gv i j) : ROk K mg (rI0 gv) (zCA g) := by
 intro M H Z x y d1 d2 res Q f r1 r2 e k;cases d1 with
 | int i =>
  cases d2 with
  | int j =>
   cases e;refine ⟨i,j,zG r1,zG r2,?_⟩;have := k.flat f (hg i j).1;rw [(hg i j).2] at this;exact this
  | _ => cases e
 | _ => cases e
abbrev subD := zCA fun i j => .int (i - j)
theorem ro_sub : ROk K mg (rI0 fun i j => .int (i - j)) subD := YD fun _ _ => ⟨rfl,rfl⟩
def Big : Nat := 2 ^ 4000
theorem G1 {n : Nat} (h : n < Big) : n.log2 < 4000 := by
 by_cases h0 : n = 0
 ·subst h0; decide +kernel
 ·exact (Nat.log2_lt h0).mpr h
theorem vv {i : Int} (h : i.natAbs < Big) : Builtin.Int.intBits i ≤ 4000 := by
 unfold Builtin.Int.intBits;split
 ·exact zero_le _
 ·exact G1 h
theorem big_mul {i j : Int} (h1 : i.natAbs < Big) (h2 : j.natAbs < Big) : IntMulOk i j := by
 have b1 := vv h1;have b2 := vv h2;unfold IntMulOk;have : Builtin.Int.intTooBig (((Builtin.Int.intBits i : Nat) : Int) + (Builtin.Int.intBits j : Nat)) = false := by
  unfold Builtin.Int.intTooBig bitsLine;simp only [decide_eq_false_iff_not];have : (2 ^ 27 : Nat) = 134217728 := by decide
  omega
 rw [this,Bool.and_false];decide
def CDivB (i j : Int) : Prop := 0 < j ∧ (j < 1073741824 ∨ j.natAbs < Big)
theorem zA4 : OpR X (binaryOp .FloorDiv) (rI CDivB fun i j => .int (i / j)) := opI fun i j _ _ _ _ _ hc q => by
 have h1 : (0 : Int) < j := hc.1;refine PyProof.Rows.floordiv_int (by omega) (by rw [Int.fdiv_eq_ediv_of_nonneg i (by omega)]; exact q) (.inl ?_);rcases hc.2 with h | h
 ·exact PyProof.noPylong_small (by omega)
 ·exact PyProof.noPylong_of_log2 (lt_of_lt_of_le (G1 h) (by decide))
def CMulB (i j : Int) : Prop := CMul i j ∨ (i.natAbs < Big ∧ j.natAbs < Big)
theorem op_mulB : OpR X (binaryOp .Mult) (rI CMulB fun i j => .int (i * j)) := opI fun _ _ _ _ _ _ _ hc q => PyProof.Rows.mul_int q (by
 rcases hc with h | h
 ·exact h.ok
 ·exact big_mul h.1 h.2)
abbrev zA5 := zAU (fun _ j => decide (0 < j ∧ (j < 1073741824 ∨ j.natAbs < Big))) fun i j => .int (i / j)
theorem ro_fdiv : ROk K mg (rI CDivB fun i j => .int (i / j)) zA5 := G0 (fun i j h => (of_decide_eq_true h : 0 < j ∧ (j < 1073741824 ∨ j.natAbs < Big))) fun _ _ => ⟨rfl,rfl⟩
abbrev modD := zAU (fun _ j => decide (0 < j)) fun i j => .int (i % j)
theorem ro_mod : ROk K mg (rI (fun _ j => 0 < j) fun i j => .int (i % j)) modD := G0 (fun i j h => of_decide_eq_true h) fun _ _ => ⟨rfl,rfl⟩
abbrev powD := zAU (fun i j => decide (0 ≤ j ∧ j ≤ 1000000 ∧ i.natAbs < 2 ^ 64)) fun i j => .int (i ^ j.toNat)
theorem ro_pow : ROk K mg (rI CPow fun i j => .int (i ^ j.toNat)) powD := G0 (fun i j h => (of_decide_eq_true h : 0 ≤ j ∧ j ≤ 1000000 ∧ i.natAbs < 2 ^ 64)) fun _ _ => ⟨rfl,rfl⟩
def Z3 : D → D → Option R
 | .int i,.int j => if ((-(2 ^ 64) < i ∧ i < 2 ^ 64) ∨ (-(2 ^ 64) < j ∧ j < 2 ^ 64)) ∨ (i.natAbs < Big ∧ j.natAbs < Big) then some (.val (.int (i * j))) else none
 | .tup a,.int k => if -(2 ^ 63) ≤ k ∧ k < 2 ^ 63 ∧ a.length * k.toNat ≤ cap then some (.val (.tup (replicate k.toNat a).flatten)) else none
 | _,_ => none
def rMulD (K : PySem.W.Frag) : R2 := fun x y H Q => rI CMulB (fun i j => .int (i * j)) x y H Q ∨ rRepT K x y H Q
theorem op_mulD : OpR X (binaryOp .Mult) (rMulD X.K) := op_mulB.or op_repT
theorem ro_mul : ROk K mg (rMulD K) Z3 := by
 intro M H Z x y d1 d2 res Q f r1 r2 e k;cases d1 with
 | int i =>
  cases d2 with
  | int j =>
   simp only [Z3] at e;split at e
   ·rename_i hc
    cases e;exact .inl ⟨i,j,zG r1,zG r2,hc,k.flat f rfl⟩
   ·cases e
  | _ => cases e
 | tup a =>
  cases d2 with
  | int n =>
   simp only [Z3] at e;split at e
   ·rename_i hc
    cases e;obtain ⟨p,xs,rfl,h1,h2⟩ := zO r1;have l1 := h2.length;refine .inr ⟨p,n,xs,rfl,zG r2,zk zE h1,hc.1,hc.2.1,by rw [l1]; exact jd hc.2.2,fun e => ?_,fun p' hp => k.tup f hp (h2.flatten _)⟩;refine k.rep f ?_;rcases e with e | e
    ·subst e
     have : a = [] := by simpa using l1.symm
     subst this;simpa using r1
    ·subst e
     simpa using r1
   ·cases e
  | _ => cases e
 | _ => cases e
abbrev ltD := zCA fun i j => .bl (decide (i < j))
theorem ro_lt : ROk K mg (rI0 fun i j => .bl (decide (i < j))) ltD := YD fun _ _ => ⟨rfl,rfl⟩
abbrev leD := zCA fun i j => .bl (decide (i ≤ j))
theorem ro_le : ROk K mg (rI0 fun i j => .bl (decide (i ≤ j))) leD := YD fun _ _ => ⟨rfl,rfl⟩
abbrev gtD := zCA fun i j => .bl (decide (j < i))
theorem ro_gt : ROk K mg (rI0 fun i j => .bl (decide (j < i))) gtD := YD fun _ _ => ⟨rfl,rfl⟩
abbrev geD := zCA fun i j => .bl (decide (j ≤ i))
theorem ro_ge : ROk K mg (rI0 fun i j => .bl (decide (j ≤ i))) geD := YD fun _ _ => ⟨rfl,rfl⟩
def eqF : D → D → Option R
 | .int i,.int j => some (.val (.bl (decide (i = j))))
 | .bl i,.bl j => some (.val (.bl (decide (i = j))))
 | .str i,.str j => some (.val (.bl (decide (i = j))))
 | _,_ => none
def neF : D → D → Option R
 | .int i,.int j => some (.val (.bl (!decide (i = j))))
 | .bl i,.bl j => some (.val (.bl (!decide (i = j))))
 | .str i,.str j => some (.val (.bl (!decide (i = j))))
 | _,_ => none
theorem vint {i j : Int} : decide (V.int i = V.int j) = decide (i = j) := by simp
theorem vbl {i j : Bool} : decide (V.bl i = V.bl j) = decide (i = j) := by simp
theorem vstr {i j : Str} : decide (V.str i = V.str j) = decide (i = j) := by simp
theorem ro_eq : ROk K mg rEq eqF := by
 intro M H Z x y d1 d2 res Q f r1 r2 e k;cases d1 <;> cases d2 <;> cases e
 ·rw [yI r1,yI r2]; refine ⟨rfl,?_⟩; rw [vbl]; exact k.flat f rfl
 ·rw [zG r1,zG r2]; refine ⟨rfl,?_⟩; rw [vint]; exact k.flat f rfl
 ·rw [y4 r1,y4 r2]; refine ⟨rfl,?_⟩; rw [vstr]; exact k.flat f rfl
theorem ro_ne : ROk K mg rNe neF := by
 intro M H Z x y d1 d2 res Q f r1 r2 e k;cases d1 <;> cases d2 <;> cases e
 ·rw [yI r1,yI r2]; refine ⟨rfl,?_⟩; rw [vbl]; exact k.flat f rfl
 ·rw [zG r1,zG r2]; refine ⟨rfl,?_⟩; rw [vint]; exact k.flat f rfl
 ·rw [y4 r1,y4 r2]; refine ⟨rfl,?_⟩; rw [vstr]; exact k.flat f rfl
def inF (neg : Bool) (d : D) : D → Option R
 | .tup ds => if flat d = true ∧ ds.all flat = true then some (.val (.bl (if neg then !inV (flV d) (ds.map flV) else inV (flV d) (ds.map flV)))) else none
 | .lst ds => if flat d = true ∧ ds.all flat = true then some (.val (.bl (if neg then !inV (flV d) (ds.map flV) else inV (flV d) (ds.map flV)))) else none
 | _ => none
theorem YE {H : Hp} : ∀ {ds : List D} {xs : List V},ds.all flat = true → Reps K mg H ds xs → xs = ds.map flV
 | [],_,_,h => by simp only [Reps] at h; subst h; rfl
 | d :: ds,_,hf,h => by
  simp only [Reps] at h;obtain ⟨v,r,rfl,h1,h2⟩ := h;simp only [all_cons,Bool.and_eq_true] at hf;rw [zP hf.1 h1,YE hf.2 h2]; rfl
theorem zu {d : D} (h : flat d = true) : wD (flV d) = true := by cases d <;> simp [flat] at h <;> rfl
theorem YF : ∀ {ds : List D},ds.all flat = true → (ds.map flV).all wD = true
 | [],_ => rfl
 | d :: ds,h => by
  simp only [all_cons,Bool.and_eq_true] at h;simp only [map_cons,all_cons,Bool.and_eq_true];exact ⟨zu h.1,YF h.2⟩
theorem ro_in {neg : Bool} : ROk K mg (rIn K neg) (inF neg) := by
 intro M H Z x y d1 d2 res Q f r1 r2 e k;cases d2 with
 | tup ds =>
  simp only [inF] at e;split at e
  ·rename_i hc
   cases e;obtain ⟨p,xs,rfl,h1,h2⟩ := zO r2;rw [zP hc.1 r1];have := YE hc.2 h2;subst this;exact ⟨p,_,rfl,.inr (zk zE h1),zu hc.1,YF hc.2,k.flat f rfl⟩
  ·cases e
 | lst ds =>
  simp only [inF] at e;split at e
  ·rename_i hc
   cases e;obtain ⟨p,xs,rfl,h1,h2⟩ := zH r2;rw [zP hc.1 r1];have := YE hc.2 h2;subst this;exact ⟨p,_,rfl,.inl (zE.seq h1),zu hc.1,YF hc.2,k.flat f rfl⟩
  ·cases e
 | _ => cases e
def ixD : D → D → Option R
 | .tup ds,.int i => (atI ds i).map .val
 | .lst ds,.int i => (atI ds i).map .val
 | _,_ => none
theorem Jp {H : Hp} {ds : List D} {xs : List V} {i : Int} {d : D} (h : Reps K mg H ds xs) (e : atI ds i = some d) : ∃ v,atI xs i = some v ∧ Rep K mg H d v := by
 unfold atI at e ⊢;have hl := h.length;rw [hl];cases hj : ixN ds.length i with
 | none => rw [hj] at e; cases e
 | some j =>
  rw [hj] at e;exact h.get' e
theorem ro_ix : ROk K mg (fun x y H Q => rIxL K x y H Q ∨ rIxT K x y H Q) ixD := by
 intro M H Z x y d1 d2 res Q f r1 r2 e k;cases d1 with
 | tup ds =>
  cases d2 with
  | int i =>
   simp only [ixD] at e;cases ea : atI ds i with
   | none => rw [ea] at e; cases e
   | some d =>
    rw [ea] at e; cases e;obtain ⟨p,xs,rfl,h1,h2⟩ := zO r1;obtain ⟨v,e1,e2⟩ := Jp h2 ea;exact .inr ⟨p,xs,i,v,rfl,zG r2,zk zE h1,e1,k.rep f e2⟩
  | _ => cases e
 | lst ds =>
  cases d2 with
  | int i =>
   simp only [ixD] at e;cases ea : atI ds i with
   | none => rw [ea] at e; cases e
   | some d =>
    rw [ea] at e; cases e;obtain ⟨p,xs,rfl,h1,h2⟩ := zH r1;obtain ⟨v,e1,e2⟩ := Jp h2 ea;exact .inl ⟨p,xs,i,v,rfl,zG r2,zE.seq h1,e1,k.rep f e2⟩
  | _ => cases e
 | _ => cases e
theorem ix_both : IxR X (fun x y H Q => rIxL X.K x y H Q ∨ rIxT X.K x y H Q) := Gf.or ix_tup
def lenD : List D → Option R
 | [.tup ds] => some (.val (.int ds.length))
 | [.lst ds] => some (.val (.int ds.length))
 | _ => none
theorem wE {H : Hp} {d : D} {xs : List V} (h : Reps K mg H [d] xs) : ∃ v,xs = [v] ∧ Rep K mg H d v := by
 simp only [Reps] at h;obtain ⟨v,r,rfl,h1,rfl⟩ := h;exact ⟨v,rfl,h1⟩
theorem reps2 {H : Hp} {d e : D} {xs : List V} (h : Reps K mg H [d,e] xs) : ∃ v w,xs = [v,w] ∧ Rep K mg H d v ∧ Rep K mg H e w := by
 simp only [Reps] at h;obtain ⟨v,r,rfl,h1,w,r',rfl,h2,rfl⟩ := h;exact ⟨v,w,rfl,h1,h2⟩
theorem co_len : COk K mg (fun xs H Q => ∃ p ys,xs = [.ref p] ∧ (SqL K H p ys ∨ SqT K H p ys) ∧ Q (.int ys.length) H) lenD := by
 intro M H Z xs ds res Q f r e k
 match ds,e with
 | [.tup ds],e =>
  cases e;obtain ⟨v,rfl,h⟩ := wE r;obtain ⟨p,ys,rfl,h1,h2⟩ := zO h;refine ⟨p,ys,rfl,.inr (zk zE h1),?_⟩;rw [h2.length]; exact k.flat f rfl
 | [.lst ds],e =>
  cases e;obtain ⟨v,rfl,h⟩ := wE r;obtain ⟨p,ys,rfl,h1,h2⟩ := zH h;refine ⟨p,ys,rfl,.inl (zE.seq h1),?_⟩;rw [h2.length]; exact k.flat f rfl
def G2 : List D → Option R
 | [.int i,.int j] => some (.val (.int (if j > i then j else i)))
 | _ => none
theorem co_max : COk K mg (fun xs H Q => ∃ i j,xs = [.int i,.int j] ∧ Q (.int (if j > i then j else i)) H) G2 := by
 intro M H Z xs ds res Q f r e k
 match ds,e with
 | [.int i,.int j],e =>
  cases e;obtain ⟨v,w,rfl,h1,h2⟩ := reps2 r;exact ⟨i,j,by rw [zG h1,zG h2],k.flat f rfl⟩
def intF : List D → Option R
 | [.int i] => some (.val (.int i))
 | [.bl b] => some (.val (.int (if b then 1 else 0)))
 | _ => none
theorem co_int : COk K mg (fun xs H Q => (∃ i,xs = [.int i] ∧ Q (.int i) H) ∨ ∃ k,xs = [.bl k] ∧ Q (.int (if k then 1 else 0)) H) intF := by
 intro M H Z xs ds res Q f r e k
 match ds,e with
 | [.int i],e =>
  cases e;obtain ⟨v,rfl,h1⟩ := wE r;exact .inl ⟨i,by rw [zG h1],k.flat f rfl⟩
 | [.bl b],e =>
  cases e;obtain ⟨v,rfl,h1⟩ := wE r;exact .inr ⟨b,by rw [yI h1],k.flat f rfl⟩
def zCB : List D → Option R
 | [.lst ds] => some (.val (.tup ds))
 | [.tup ds] => some (.val (.tup ds))
 | _ => none
theorem zA6 : COk K mg (fun xs H Q => ∃ p ys,xs = [.ref p] ∧ ((SqL K H p ys ∧ ∀ l,H l = none → Q (.ref l) (upd H l (.tup ys))) ∨ (SqT K H p ys ∧ Q (.ref p) H))) zCB := by
 intro M H Z xs ds res Q f r e k
 match ds,e with
 | [.lst ds],e =>
  cases e;obtain ⟨v,rfl,h⟩ := wE r;obtain ⟨p,ys,rfl,h1,h2⟩ := zH h;exact ⟨p,ys,rfl,.inl ⟨zE.seq h1,fun l hl => k.tup f hl h2⟩⟩
 | [.tup ds],e =>
  cases e;obtain ⟨v,rfl,h⟩ := wE r;have h' := h;obtain ⟨p,ys,rfl,h1,h2⟩ := zO h;exact ⟨p,ys,rfl,.inr ⟨zk zE h1,k.rep f h'⟩⟩
def listD : List D → Option R
 | [.lst ds] => some (.own ds)
 | [.tup ds] => some (.own ds)
 | _ => none
theorem co_list : COk K mg (fun xs H Q => ∃ p ys,xs = [.ref p] ∧ (SqL K H p ys ∨ SqT K H p ys) ∧ ∀ l,H l = none → Q (.ref l) (upd H l (.lst ys))) listD := by
 intro M H Z xs ds res Q f r e k
 match ds,e with
 | [.lst ds],e =>
  cases e;obtain ⟨v,rfl,h⟩ := wE r;obtain ⟨p,ys,rfl,h1,h2⟩ := zH h;exact ⟨p,ys,rfl,.inl (zE.seq h1),fun l hl => k.own f hl h2⟩
 | [.tup ds],e =>
  cases e;obtain ⟨v,rfl,h⟩ := wE r;obtain ⟨p,ys,rfl,h1,h2⟩ := zO h;exact ⟨p,ys,rfl,.inr (zk zE h1),fun l hl => k.own f hl h2⟩
def ye : List D → Option (List Bool)
 | [] => some []
 | .bl b :: ds => (ye ds).map (b :: ·)
 | _ => none
theorem j5 {H : Hp} : ∀ {ds : List D} {xs : List V} {bs : List Bool},ye ds = some bs → Reps K mg H ds xs → xs = bs.map V.bl
 | [],_,_,e,h => by cases e; simp only [Reps] at h; subst h; rfl
 | d :: ds,_,bs,e,h => by
  simp only [Reps] at h;obtain ⟨v,r,rfl,h1,h2⟩ := h;cases d with
  | bl b =>
   simp only [ye] at e;cases eb : ye ds with
   | none => rw [eb] at e; cases e
   | some cs =>
    rw [eb] at e; cases e;rw [yI h1,j5 eb h2]; rfl
  | _ => cases e
def allD : List D → Option R
 | [.lst ds] => (ye ds).map fun bs => .val (.bl (bs.all id))
 | _ => none
theorem co_all : COk K mg (fun xs H Q => ∃ (p : Addr) (bs : List Bool),xs = [.ref p] ∧ SqL K H p (bs.map V.bl) ∧ Q (.bl (bs.all id)) H) allD := by
 intro M H Z xs ds res Q f r e k
 match ds,e with
 | [.lst ds],e =>
  simp only [allD] at e;cases eb : ye ds with
  | none => rw [eb] at e; cases e
  | some bs =>
   rw [eb] at e; cases e;obtain ⟨v,rfl,h⟩ := wE r;obtain ⟨p,ys,rfl,h1,h2⟩ := zH h;have := j5 eb h2;subst this;exact ⟨p,bs,rfl,zE.seq h1,k.flat f rfl⟩
end
end DV
namespace DV
open PySem L2
abbrev MO := zQ → Out (Option Int × zQ)
def tMO (X : Cx) (m : MO) : TO := fun σ H Q => ∃ M E,E.length = σ.length ∧ FR X.K X.mg M H (σ.zip E) ∧ match m E with
 | .stuck => False
 | .ok (b,E') => ∀ H',Got X.K X.mg M σ E H [] σ E' H' [] → Q b H'
 | .exc x E' => ∀ H',Got X.K X.mg M σ E H [] σ E' H' [] → XE X σ H' x
section
variable {X : Cx} {K : PySem.W.Frag} {mg : Str → Option Value} {σ : St} {M : Addr → Prop} {E : zQ} {H : Hp} {T0 : Fz}
theorem G3 {m : MO} {Q : Option Int → Hp → Prop} (hl : E.length = σ.length) (h : FR X.K X.mg M H (T0 ++ σ.zip E))
  (k : match m E with | .stuck => False | .ok (b,E') => ∀ H',Got X.K X.mg M σ E H T0 σ E' H' [] → Q b H' | .exc x E' => ∀ H',Got X.K X.mg M σ E H T0 σ E' H' [] → XE X σ H' x) : tMO X m σ H Q := by
 refine ⟨Mo M T0,E,hl,h.inner,?_⟩;cases e : m E with
 | stuck => rw [e] at k; exact k
 | ok a => rw [e] at k; exact fun H' g => k H' (g.outer h)
 | exc x E' => rw [e] at k; exact fun H' g => k H' (g.outer h)
abbrev OOk (X : Cx) (e : Option Expr) (m : MO) : Prop := PO X e (tMO X m)
theorem zCC {e : Option Expr} {t t' : TO} (h : PO X e t) (i : ∀ σ H Q,t' σ H Q → t σ H Q) : PO X e t' := fun pins s σ H Q I q => h pins s σ H Q I (i σ H Q q)
def oNone : MO := fun E => .ok (none,E)
def zA7 (m : ME) : MO := fun E => match m E with
 | .ok (.val (.int i),E1) => .ok (some i,E1)
 | .exc x E1 => .exc x E1
 | _ => .stuck
theorem oo_none : OOk X none oNone := zCC po_none fun σ H Q ⟨M,E,hl,fr,k⟩ => k H (Got.refl (T0 := []) hl fr)
theorem oo_some {e : Expr} {m : ME} (h : EOk X e m) : OOk X (some e) (zA7 m) := zCC (po_some h) fun σ H Q ⟨M,E,hl,fr,k⟩ => by
 unfold zA7 at k;refine zt (T0 := []) hl fr ?_;cases ea : m E with
 | stuck => rw [ea] at k; exact k
 | exc x E1 => rw [ea] at k; exact k
 | ok p =>
  obtain ⟨r,E1⟩ := p;rw [ea] at k;cases r with
  | own ds => exact k.elim
  | val d =>
   cases d with
   | int i =>
    intro v H' g;exact ⟨i,zG g.rep,k H' g.dropAll⟩
   | _ => exact k.elim
def eSl (f : D → Option Int → Option Int → Option R) (a : ME) (lo hi : MO) : ME := fun E => match a E with
 | .stuck => .stuck
 | .exc x E1 => .exc x E1
 | .ok (r,E1) => match lo E1 with
  | .stuck => .stuck
  | .exc x E2 => .exc x E2
  | .ok (l,E2) => match hi E2 with
   | .stuck => .stuck
   | .exc x E3 => .exc x E3
   | .ok (u,E3) => match f r.d l u with
    | some r => .ok (r,E3)
    | none => .stuck
def Z4 (ds : List D) (lo hi : Option Int) : List D := (ds.drop (HT.sIx ds.length 0 lo)).take (HT.sIx ds.length ds.length hi - HT.sIx ds.length 0 lo)
def slD : D → Option Int → Option Int → Option R
 | .tup ds,lo,hi => some (.val (.tup (Z4 ds lo hi)))
 | .lst ds,lo,hi => some (.own (Z4 ds lo hi))
 | _,_,_ => none
theorem vw {ds : List D} {xs : List V} (h : Reps K mg H ds xs) (lo hi : Option Int) : Reps K mg H (Z4 ds lo hi) (zAo xs lo hi) := by
 unfold Z4 zAo;rw [h.length];exact (h.drop _).take _
theorem sl_run {a : ME} {lo hi : MO} {Q : VK} (h : tM X (eSl slD a lo hi) σ H Q) : tSl (fun x l u H Q => rSlTT X.K x l u H Q ∨ rSlL X.K x l u H Q) (tM X a) (tMO X lo) (tMO X hi) σ H Q := by
 obtain ⟨M,E,hl,fr,k⟩ := h;unfold eSl at k;refine zt (T0 := []) hl fr ?_;cases ea : a E with
 | stuck => rw [ea] at k; exact k
 | exc x E1 => rw [ea] at k; exact fun H' g => k H' g
 | ok p =>
  obtain ⟨r1,E1⟩ := p;rw [ea] at k;intro x H1 g1;refine G3 (T0 := [(some x,r1.slot)]) g1.len g1.fr ?_;dsimp only at k;cases eb : lo E1 with
  | stuck => rw [eb] at k; exact k
  | exc x E2 => rw [eb] at k; exact fun H' g => k H' (g1.trans' g).dropAll
  | ok p =>
   obtain ⟨l,E2⟩ := p;rw [eb] at k;intro H2 g2;have g12 := g1.trans' g2;refine G3 (T0 := [(some x,r1.slot)]) g12.len g12.fr ?_;dsimp only at k;cases ec : hi E2 with
   | stuck => rw [ec] at k; exact k
   | exc x E3 => rw [ec] at k; exact fun H' g => k H' (g12.trans' g).dropAll
   | ok p =>
    obtain ⟨u,E3⟩ := p;rw [ec] at k;intro H3 g3;have g := g12.trans' g3;have rx := g.rep;dsimp only at k;have f := g.frame;cases ed : r1.d with
    | tup ds =>
     rw [ed] at k rx;have k' : Kt X.K X.mg M H3 (σ.zip E3) (.val (.tup (Z4 ds l u))) Q := fun v H' f' s' => k v H' (g.more (T := [(some v,_)]) f' s')
     obtain ⟨p,xs,rfl,h1,h2⟩ := zO rx;refine .inl ⟨p,xs,rfl,zk zE h1,fun hw => k'.rep f ?_,fun _ p' hp => k'.tup f hp (vw h2 l u)⟩;have : Z4 ds l u = ds := by
      have hl := h2.length;rw [hl] at hw;unfold Z4;rw [hw.1,hw.2];simp
     rw [this]; exact rx
    | lst ds =>
     rw [ed] at k rx;have k' : Kt X.K X.mg M H3 (σ.zip E3) (.own (Z4 ds l u)) Q := fun v H' f' s' => k v H' (g.more (T := [(some v,_)]) f' s')
     obtain ⟨p,xs,rfl,h1,h2⟩ := zH rx;exact .inr ⟨p,xs,rfl,zE.seq h1,fun p' hp => k'.own f hp (vw h2 l u)⟩
    | _ => rw [ed] at k; exact k.elim
theorem ok_sl {a : Expr} {lo hi : Option Expr} {ma : ME} {ml mh : MO} {p2 pos : Pos} (ha : EOk X a ma) (hl : OOk X lo ml) (hh : OOk X hi mh) : EOk X (.Subscript a (.Slice lo hi none p2) pos) (eSl slD ma ml mh) :=
 zn (zAn (sl_tupT.or sl_list) ha hl hh) fun σ H Q => sl_run
def tyD : D → Option String
 | .non => some "NoneType"
 | .bl _ => some "bool"
 | .int _ => some "int"
 | .str _ => some "str"
 | .tup _ => some "tuple"
 | .lst _ => some "list"
 | .dic => some "dict"
 | .fn _ => none
 | .exn _ => none
def WS (t T : String) : Bool := t == T || (t == "bool" && T == "int")
theorem zA8 {T : String} (hk : ∀ t ∈ ["NoneType","bool","int","str","tuple","list","dict"],kitOne X.K (.type t) (.type T) = some (WS t T)) :
  yb X (.builtin "isinstance") (fun xs H Q => ∃ x d t,xs = [x,.ty T] ∧ Rep X.K X.mg H d x ∧ tyD d = some t ∧ Q (.bl (WS t T)) H) := by
 intro pins s σ H xs us Q I r h;obtain ⟨x,d,t,rfl,rd,et,q⟩ := h;obtain ⟨u,w',rfl,rx,ry⟩ := zAh r;cases (show w' = Value.type T from ry);have fin : ∀ tk,EP X pins σ Q (.bool (WS t T)) { s with toks := tk } := fun tk => ⟨.bl _,H,I.tok tk,rfl,q⟩
 cases d with
 | non => cases et; rw [yd rd] at rx; cases (show u = Value.none from rx); exact kia_one PySem.W.kitx_none I.kIn True.intro (hk _ (by simp)) (fun z => nomatch z) fin
 | bl b => cases et; rw [yI rd] at rx; cases (show u = Value.bool b from rx); exact kia_one PySem.W.kitx_bool I.kIn True.intro (hk _ (by simp)) (fun z => nomatch z) fin
 | int i => cases et; rw [zG rd] at rx; obtain ⟨t,q⟩ := (show ∃ t,u = Value.int i t from rx); cases q; exact kia_one PySem.W.kitx_int I.kIn True.intro (hk _ (by simp)) (fun z => nomatch z) fin
 | str y => cases et; rw [y4 rd] at rx; obtain ⟨t,q⟩ := (show ∃ t,u = Value.str y t from rx); cases q; exact kia_one PySem.W.kitx_str I.kIn True.intro (hk _ (by simp)) (fun z => nomatch z) fin
 | tup ds =>
  cases et;obtain ⟨a,xs,rfl,h1,_⟩ := zO rd;cases (show u = Value.ref a from rx);obtain ⟨its,_,p,_⟩ := I.tuple h1;obtain ⟨o,e1,e2,_⟩ := p;exact kia_one PySem.W.kitx_tuple I.kIn ⟨o,e1,e2⟩ (hk _ (by simp)) (fun z => nomatch z) fin
 | lst ds =>
  cases et;obtain ⟨a,xs,rfl,h1,_⟩ := zH rd;cases (show u = Value.ref a from rx);obtain ⟨its,_,p,_⟩ := I.list h1;obtain ⟨o,n,e1,e2,_⟩ := p;exact kia_one PySem.W.kitx_list I.kIn ⟨o,e1,e2⟩ (hk _ (by simp)) (fun z => nomatch z) fin
 | dic =>
  cases et;simp only [Rep] at rd;obtain ⟨a,rfl,e⟩ := rd;cases (show u = Value.ref a from rx);obtain ⟨_,_,vs,_,p⟩ := (show jG X.prog X.w H s.heap a (.dK []) from I.hok a _ e);obtain ⟨o,es,ep,h1,h2,_⟩ := p;exact kia_one PySem.W.kitx_dict I.kIn ⟨o,h1,h2.1⟩ (hk _ (by simp)) (fun z => nomatch z) fin
 | fn x => cases et
 | exn x => cases et
def eIs (T : String) (m : ME) : ME := fun E => match m E with
 | .stuck => .stuck
 | .exc x E1 => .exc x E1
 | .ok (r,E1) => match tyD r.d with
  | some t => .ok (.val (.bl (WS t T)),E1)
  | none => .stuck
theorem ok_is {T : String} {a : Expr} {m : ME} {x : Str} {p p1 pos : Pos} (hk : ∀ t ∈ ["NoneType","bool","int","str","tuple","list","dict"],kitOne X.K (.type t) (.type T) = some (WS t T)) (hg : Gl X "isinstance") (hm : X.mg "isinstance" = none)
  (hgT : Gl X x) (hmT : X.mg x = none) (hvT : bootBuiltins x = some (.type T)) (ha : EOk X a m) (hv : bootBuiltins "isinstance" = some (.builtin "isinstance")) (hn : x ≠ "__name__" := by decide) (hd : (x == ("__debug__" : Str)) = false := by decide)
  (he : zR a = false := by rfl) :
  EOk X (.Call (.Name "isinstance" p) [a,.Name x p1] [] pos) (eIs T m) := by
 refine zn (Jo (zA8 hk) hg hm hv (yc ha (yc (GM (v := .ty T) hgT hmT hvT rfl hn hd) JY (zN rfl)) (zN he)) (by decide) (by decide) (zN he) (jJ rfl)) fun σ H Q ⟨M,E,hl,fr,k⟩ => ?_
 unfold eIs at k;refine zt (T0 := []) hl fr ?_;cases ea : m E with
 | stuck => rw [ea] at k; exact k
 | exc x E1 => rw [ea] at k; exact k
 | ok pr =>
  obtain ⟨r,E1⟩ := pr;rw [ea] at k;intro v H' g;dsimp only at k;cases et : tyD r.d with
  | none => rw [et] at k; exact k.elim
  | some t =>
   rw [et] at k;exact ⟨v,r.d,t,rfl,g.rep.mono zE,et,k _ H' (g.flat (d := .bl (WS t T)) rfl)⟩
inductive Fl where
 | nx
 | ret (r : R)
 | bk
 | ct
 deriving Inhabited
abbrev MS := zQ → Out (Fl × zQ)
def KS (X : Cx) (M : Addr → Prop) (σ : St) (E : zQ) (H : Hp) (T0 : Fz) (D : Ends) : Out (Fl × zQ) → Prop
 | .stuck => False
 | .ok (.nx,E') => ∀ σ' H',Got X.K X.mg M σ E H T0 σ' E' H' [] → D.nx σ' H'
 | .ok (.bk,E') => ∀ σ' H',Got X.K X.mg M σ E H T0 σ' E' H' [] → D.bk σ' H'
 | .ok (.ct,E') => ∀ σ' H',Got X.K X.mg M σ E H T0 σ' E' H' [] → D.ct σ' H'
 | .ok (.ret r,E') => ∀ v σ' H',Got X.K X.mg M σ E H T0 σ' E' H' [(some v,r.slot)] → D.rt v H'
 | .exc x E' => ∀ σ' H',Got X.K X.mg M σ E H T0 σ' E' H' [] → XE X σ' H' x
def tS (X : Cx) (m : MS) : TS := fun D σ H => ∃ M E,E.length = σ.length ∧ FR X.K X.mg M H (σ.zip E) ∧ KS X M σ E H [] D (m E)
abbrev SOk (X : Cx) (st : Stmt) (m : MS) : Prop := PS X st (tS X m)
abbrev vx (X : Cx) (st : List Stmt) (m : MS) : Prop := PSs X st (tS X m)
theorem YG {m : MS} {D : Ends} (hl : E.length = σ.length) (h : FR X.K X.mg M H (T0 ++ σ.zip E))
  (k : KS X M σ E H T0 D (m E)) : tS X m D σ H := by
 refine ⟨Mo M T0,E,hl,h.inner,?_⟩;cases e : m E with
 | stuck => rw [e] at k; exact k
 | ok a =>
  obtain ⟨fl,E'⟩ := a;rw [e] at k;cases fl with
  | nx => exact fun σ' H' g => k σ' H' (g.outer h)
  | bk => exact fun σ' H' g => k σ' H' (g.outer h)
  | ct => exact fun σ' H' g => k σ' H' (g.outer h)
  | ret r => exact fun v σ' H' g => k v σ' H' (g.outer h)
 | exc x E' => rw [e] at k; exact fun σ' H' g => k σ' H' (g.outer h)
def zAV : MS := fun E => .ok (.nx,E)
def vz (a b : MS) : MS := fun E => match a E with
 | .ok (.nx,E1) => b E1
 | o => o
theorem sk_nil : vx X [] zAV := Gv pss_nil fun D σ H ⟨M,E,hl,fr,k⟩ => k σ H (Got.refl (T0 := []) hl fr)
theorem sk_one {st : Stmt} {m : MS} (h : SOk X st m) : vx X [st] m := pss_one h
theorem seq_run {a b : MS} {D : Ends} (h : tS X (vz a b) D σ H) : tSeq (tS X a) (tS X b) D σ H := by
 obtain ⟨M,E,hl,fr,k⟩ := h;unfold vz at k;refine YG (T0 := []) hl fr ?_;cases ea : a E with
 | stuck => rw [ea] at k; exact k
 | exc x E1 => rw [ea] at k; exact k
 | ok p =>
  obtain ⟨fl,E1⟩ := p;rw [ea] at k;cases fl with
  | bk => exact k
  | ct => exact k
  | ret r => exact k
  | nx =>
   intro σ1 H1 g1;refine YG (T0 := []) g1.len g1.fr ?_;dsimp only at k;cases eb : b E1 with
   | stuck => rw [eb] at k; exact k
   | exc x E2 => rw [eb] at k; exact fun σ' H' g => k σ' H' (g1.trans' g)
   | ok p =>
    obtain ⟨fl2,E2⟩ := p;rw [eb] at k;cases fl2 with
    | nx => exact fun σ' H' g => k σ' H' (g1.trans' g)
    | bk => exact fun σ' H' g => k σ' H' (g1.trans' g)
    | ct => exact fun σ' H' g => k σ' H' (g1.trans' g)
    | ret r => exact fun v σ' H' g => k v σ' H' (g1.trans' g)
theorem sk_cons {st : Stmt} {JI : List Stmt} {a b : MS} (h1 : SOk X st a) (h2 : vx X JI b) : vx X (st :: JI) (vz a b) := Gv (zAZ h1 h2) fun D σ H => seq_run
def sIf (c : MT) (a b : MS) : MS := fun E => match c E with
 | .ok (true,E1) => a E1
 | .ok (false,E1) => b E1
 | .exc x E1 => .exc x E1
 | .stuck => .stuck
theorem tS_go {m : MS} {D : Ends} {σ1 : St} {E1 : zQ} {H1 : Hp} (g1 : Got X.K X.mg M σ E H [] σ1 E1 H1 [])
  (k : match m E1 with
   | .stuck => False
   | .ok (.nx,E') => ∀ σ' H',Got X.K X.mg M σ E H [] σ' E' H' [] → D.nx σ' H'
   | .ok (.bk,E') => ∀ σ' H',Got X.K X.mg M σ E H [] σ' E' H' [] → D.bk σ' H'
   | .ok (.ct,E') => ∀ σ' H',Got X.K X.mg M σ E H [] σ' E' H' [] → D.ct σ' H'
   | .ok (.ret r,E') => ∀ v σ' H',Got X.K X.mg M σ E H [] σ' E' H' [(some v,r.slot)] → D.rt v H'
   | .exc x E' => ∀ σ' H',Got X.K X.mg M σ E H [] σ' E' H' [] → XE X σ' H' x) : tS X m D σ1 H1 := by
 refine YG (T0 := []) g1.len g1.fr ?_;cases eb : m E1 with
 | stuck => rw [eb] at k; exact k
 | exc x E2 => rw [eb] at k; exact fun σ' H' g => k σ' H' (g1.trans' g)
 | ok p =>
  obtain ⟨fl2,E2⟩ := p;rw [eb] at k;cases fl2 with
  | nx => exact fun σ' H' g => k σ' H' (g1.trans' g)
  | bk => exact fun σ' H' g => k σ' H' (g1.trans' g)
  | ct => exact fun σ' H' g => k σ' H' (g1.trans' g)
  | ret r => exact fun v σ' H' g => k v σ' H' (g1.trans' g)
theorem sif_run {c : MT} {a b : MS} {D : Ends} (h : tS X (sIf c a b) D σ H) : tIfS (tMT X c) (tS X a) (tS X b) D σ H := by
 obtain ⟨M,E,hl,fr,k⟩ := h;unfold sIf at k;refine wT (T0 := []) hl fr ?_;cases ea : c E with
 | stuck => rw [ea] at k; exact k
 | exc x E1 => rw [ea] at k; exact fun H' g => k σ H' g
 | ok p =>
  obtain ⟨t,E1⟩ := p;rw [ea] at k;intro H1 g1;cases t with
  | true => exact iteT (tS_go g1 k)
  | false => exact iteF (tS_go g1 k)
theorem sk_if {c : Expr} {a b : List Stmt} {mc : MT} {ma mb : MS} {pos : Pos} (hc : TOk X c mc) (ha : vx X a ma) (hb : vx X b mb) : SOk X (.If c a b pos) (sIf mc ma mb) := jH (ps_if hc ha hb) fun D σ H => sif_run
def Jq (i : Nat) (r : R) (E : zQ) : Out zQ := match E[i]? with
 | none => .stuck
 | some (.par _) => .stuck
 | some _ => .ok (E.set i r.slot)
def sSet (i : Nat) (m : ME) : MS := fun E => match m E with
 | .stuck => .stuck
 | .exc x E1 => .exc x E1
 | .ok (r,E1) => match Jq i r E1 with
  | .ok E2 => .ok (.nx,E2)
  | _ => .stuck
theorem ZS {σ1 : St} {E1 E2 : zQ} {H1 : Hp} {i : Nat} {r : R} {v : V} (g : Got K mg M σ E H T0 σ1 E1 H1 [(some v,r.slot)]) (e : Jq i r E1 = .ok E2) : Got K mg M σ E H T0 (σ1.set i (some v)) E2 H1 [] := by
 unfold Jq at e;cases e1 : E1[i]? with
 | none => rw [e1] at e; cases e
 | some sl =>
  rw [e1] at e;have hne : ∀ ds,sl ≠ .par ds := fun ds q => by subst q; cases e
  have e2 : E2 = E1.set i r.slot := by
   cases sl with
   | par ds => exact absurd rfl (hne ds)
   | _ => cases e; rfl
  subst e2;have hi : i < E1.length := (List.getElem?_eq_some_iff.mp e1).1;have hl := g.len;have hz : i < (σ1.zip E1).length := by rw [List.length_zip]; omega
  have hT : T0 ++ ((σ1.set i (some v)).zip (E1.set i r.slot)) = (T0 ++ σ1.zip E1).set (T0.length + i) (some v,r.slot) := by
   rw [ZP,List.set_append_right _ _ (by omega)];congr 2;omega
  have hz2 : T0.length + i < (T0 ++ σ1.zip E1).length := by rw [length_append]; omega
  refine ⟨by simp [hl],?_,?_,?_⟩
  ·show FR K mg M H1 (T0 ++ ((σ1.set i (some v)).zip (E1.set i r.slot)))
   rw [hT];exact FR.put g.fr hz2
  ·show Step M H _ H1 (T0 ++ ((σ1.set i (some v)).zip (E1.set i r.slot)))
   rw [hT];exact Step.put g.st hz2
  ·refine g.pk.trans fun j ds q => ?_
   have ne : i ≠ j := fun z => by subst z; rw [e1] at q; exact hne ds (Option.some.inj q)
   exact ⟨⟨ds,by rw [getElem?_set_ne ne]; exact q⟩,by rw [getElem?_set_ne ne]⟩
theorem G4 {i : Nat} {m : ME} {D : Ends} (h : tS X (sSet i m) D σ H) : tAsg (tM X m) (W1 i) D σ H := by
 obtain ⟨M,E,hl,fr,k⟩ := h;unfold sSet at k;refine zt (T0 := []) hl fr ?_;cases ea : m E with
 | stuck => rw [ea] at k; exact k
 | exc x E1 => rw [ea] at k; exact fun H' g => k σ H' g
 | ok p =>
  obtain ⟨r,E1⟩ := p;rw [ea] at k;intro v H' g;dsimp only at k;cases ep : Jq i r E1 with
  | stuck => rw [ep] at k; exact k.elim
  | exc _ _ => rw [ep] at k; exact k.elim
  | ok E2 =>
   rw [ep] at k;exact k _ H' (ZS g ep)
theorem zCD {i : Nat} {x : Str} {e : Expr} {m : ME} {pos pos' : Pos} (hN : X.N.Nodup) (hi : X.N[i]? = some x) (hx : Loc X.env.scope x) (he : EOk X e m) (hs : swapsWith e (some (.Name x pos')) pos.line X.env = pure false := by rfl)
  (hf : X.fn x = true ∨ X.env.scope.names.lookup x = some .local := by first | exact .inl rfl | exact .inr rfl | assumption) : SOk X (.Assign [.Name x pos'] e pos) (sSet i m) :=
 jH (ps_set hN hi hx he hs hf) fun D σ H => G4
def sRet (m : ME) : MS := fun E => match m E with
 | .stuck => .stuck
 | .exc x E1 => .exc x E1
 | .ok (r,E1) => .ok (.ret r,E1)
theorem ret_run {m : ME} {D : Ends} (h : tS X (sRet m) D σ H) : tRet (tM X m) D σ H := by
 obtain ⟨M,E,hl,fr,k⟩ := h;unfold sRet at k;refine zt (T0 := []) hl fr ?_;cases ea : m E with
 | stuck => rw [ea] at k; exact k
 | exc x E1 => rw [ea] at k; exact fun H' g => k σ H' g
 | ok p => rw [ea] at k; exact fun v H' g => k v σ H' g
theorem sk_ret {e : Expr} {m : ME} {pos : Pos} (he : EOk X e m) : SOk X (.Return (some e) pos) (sRet m) := jH (ps_ret he) fun D σ H => ret_run
def zA9 (i : Nat) : ME := fun E => match E[i]? with
 | some (.own ds) => .ok (.own ds,E.set i .emp)
 | some (.val d) => .ok (.val d,E)
 | _ => .stuck
theorem ok_move (i : Nat) {x : Str} {pos : Pos} (h : PE X (.Name x pos) (GJ i)) : EOk X (.Name x pos) (zA9 i) := zn h fun σ H Q ⟨M,E,hl,f,k⟩ => by
 unfold zA9 at k;cases e : E[i]? with
 | none => rw [e] at k; exact k.elim
 | some sl =>
 rw [e] at k;cases sl with
 | emp => exact k.elim
 | par ds => exact k.elim
 | val d =>
  obtain ⟨o,h1,h2⟩ := jk hl e;obtain ⟨v,rfl,r⟩ := f.val o d h2;exact ⟨v,h1,k v H ⟨hl,f.add r,Step.refl.add,PKp.refl⟩⟩
 | own ds =>
  obtain ⟨o,h1,h2⟩ := wU hl e;obtain ⟨a,xs,rfl,q1,q2,q3⟩ := f.own o (.own ds) ds (mem_of_getElem? h2) rfl;refine ⟨.ref a,h1,k _ H ?_⟩;have hlt : i < (σ.zip E).length := (List.getElem?_eq_some_iff.mp h2).1;have p : (σ.zip E).Perm ((some (.ref a),R.slot (.own ds)) :: (σ.zip E).eraseIdx i) := by
   have := za (some (V.ref a),Slot.own ds) (σ.zip E) i hlt;rw [wu h2] at this;exact this
  have ez : σ.zip (E.set i .emp) = (σ.zip E).set i (some (.ref a),.emp) := zy .emp h1;have p2 : ((some (V.ref a),R.slot (.own ds)) :: σ.zip (E.set i .emp)).Perm ((some (V.ref a),Slot.emp) :: ((some (V.ref a),R.slot (.own ds)) :: (σ.zip E).eraseIdx i)) := by
   rw [ez];exact ((za _ _ _ hlt).cons _).trans (List.Perm.swap _ _ _)
  have f1 := f.perm p;have f2 : FR X.K X.mg M H ((some (V.ref a),Slot.emp) :: ((some (V.ref a),R.slot (.own ds)) :: (σ.zip E).eraseIdx i)) := {
   val := fun o d q => by
    rw [Gs];rcases mem_cons.mp q with q | q
    ·cases q
    ·exact f1.val o d q
   own := fun o s ds' q e' => by
    rw [Gs];rcases mem_cons.mp q with q | q
    ·cases q; cases e'
    ·exact f1.own o s ds' q e'
   nd := by rw [z3]; exact f1.nd
   mal := f1.mal }
  refine ⟨by simp [hl],f2.perm p2.symm,?_,zB5 (ds0 := []) e (fun ds' q => by cases q) _⟩;refine Step.weak Step.refl fun b hb => ?_
  have hb' := zA p2 b hb;rw [z3] at hb';exact zA p.symm b hb'
def sDrop (m : ME) : MS := fun E => match m E with
 | .stuck => .stuck
 | .exc x E1 => .exc x E1
 | .ok (_,E1) => .ok (.nx,E1)
theorem zBA {m : ME} {D : Ends} (h : tS X (sDrop m) D σ H) : tDrop (tM X m) D σ H := by
 obtain ⟨M,E,hl,fr,k⟩ := h;unfold sDrop at k;refine zt (T0 := []) hl fr ?_;cases ea : m E with
 | stuck => rw [ea] at k; exact k
 | exc x E1 => rw [ea] at k; exact fun H' g => k σ H' g
 | ok p => rw [ea] at k; exact fun v H' g => k σ H' g.dropAll
theorem sk_drop {e : Expr} {m : ME} {pos : Pos} (he : EOk X e m) (hs : swapsWith e none pos.line X.env = pure false := by rfl) : SOk X (.Expr e pos) (sDrop m) := jH (GN he hs) fun D σ H => zBA
end
end DV
namespace DV
open PySem L2
theorem yw {α β : Type} {f : α → Option β} {x y : α} (h : f y = f x) : ∀ {l : List α} {i : Nat},l[i]? = some x → (l.set i y).filterMap f = l.filterMap f
 | [],_,e => by simp at e
 | a :: l,0,e => by
  simp at e; subst e
  simp only [List.set_cons_zero,filterMap_cons,h]
 | a :: l,i + 1,e => by
  simp at e
  simp only [List.set_cons_succ,filterMap_cons,yw h e]
section
variable {X : Cx} {K : PySem.W.Frag} {mg : Str → Option Value} {σ : St} {M : Addr → Prop} {E : zQ} {H : Hp} {T0 Z : Fz}
def Slot.put : Slot → List D → Slot
 | .own _,es => .own es
 | .par _,es => .par es
 | s,_ => s
theorem ZT {p : Addr} {s : Slot} {ds es : List D} (hs : s.list? = some ds) : Ww (some (.ref p),s.put es) = Ww (some (.ref p),s) ∧ (s.put es).list? = some es := by
 cases s <;> simp [Slot.list?] at hs <;> exact ⟨rfl,rfl⟩
theorem FR.mut (h : FR K mg M H Z) {i : Nat} {p : Addr} {s : Slot} {ds es : List D} {ys : List V} (hi : Z[i]? = some (some (.ref p),s)) (hs : s.list? = some ds) (r : Reps K mg (Hm (Mo M Z) H) es ys) :
  FR K mg M (upd H p (.lst ys)) (Z.set i (some (.ref p),s.put es)) ∧ Step M H Z (upd H p (.lst ys)) (Z.set i (some (.ref p),s.put es)) := by
 have eo : zx (Z.set i (some (.ref p),s.put es)) = zx Z := yw (ZT hs).1 hi;have em : Mo M (Z.set i (some (.ref p),s.put es)) = Mo M Z := by unfold Mo; rw [eo]
 have hp : p ∈ zx Z := yo (mem_of_getElem? hi) hs rfl;obtain ⟨xs0,hH,hM⟩ := h.ownAt hp;have ehm : Hm (Mo M Z) (upd H p (.lst ys)) = Hm (Mo M Z) H := by
  funext b
  unfold Hm;by_cases hb : Mo M Z b
  ·simp [hb]
  ·have : b ≠ p := fun e => hb (by subst e; exact .inr hp)
   simp [hb,zY this]
 have mem : ∀ {q : Option V × Slot},q ∈ Z.set i (some (.ref p),s.put es) → q = (some (.ref p),s.put es) ∨ q ∈ Z := fun {q} hq => (List.mem_or_eq_of_mem_set hq).symm
 have hlt : i < Z.length := (List.getElem?_eq_some_iff.mp hi).1;have nd2 : (zx (Z.eraseIdx i)).Nodup ∧ p ∉ zx (Z.eraseIdx i) := by
  have pz : Z.Perm ((some (.ref p),s) :: Z.eraseIdx i) := by
   have := za (some (V.ref p),s) Z i hlt;rw [wu hi] at this;exact this
  have nd := (pz.filterMap Ww).nodup_iff.mp h.nd;have e : List.filterMap Ww ((some (V.ref p),s) :: Z.eraseIdx i) = p :: zx (Z.eraseIdx i) := by
   cases s <;> simp [Slot.list?] at hs <;> rfl
  rw [e] at nd;exact ⟨(nodup_cons.mp nd).2,(nodup_cons.mp nd).1⟩
 have pz2 : (Z.set i (some (.ref p),s.put es)).Perm ((some (.ref p),s.put es) :: Z.eraseIdx i) := za _ _ _ hlt;refine ⟨⟨fun o d q => ?_,fun o s' ds' q e => ?_,by rw [eo]; exact h.nd,fun b q => ?_⟩,⟨by rw [em,ehm]; exact JJ.refl _,fun b o m e => ?_⟩⟩
 ·rw [em,ehm]
  rcases mem q with q | q
  ·exfalso
   cases s <;> simp [Slot.list?] at hs <;> cases q
  ·exact h.val o d q
 ·rw [em,ehm]
  rcases mem_cons.mp (pz2.mem_iff.mp q) with q' | q'
  ·cases q'
   rw [(ZT (p := p) hs).2] at e;cases e;exact ⟨p,ys,rfl,yK,hM,r⟩
  ·have q'' : (o,s') ∈ Z := (List.eraseIdx_sublist Z i).subset q'
   obtain ⟨a,xs,e1,e2,e3,rr⟩ := h.own o s' ds' q'' e;have ne : a ≠ p := fun z => by
    subst z;exact nd2.2 (yo q' e e1)
   exact ⟨a,xs,e1,by rw [zY ne]; exact e2,e3,rr⟩
 ·obtain ⟨o,e⟩ := h.mal b q
  by_cases z : b = p
  ·subst z; exact ⟨_,yK⟩
  ·exact ⟨o,by rw [zY z]; exact e⟩
 ·have ne : b ≠ p := fun z => hM (by subst z; exact m)
  rw [zY ne]; exact e
theorem Got.mut {σ1 : St} {E1 : zQ} {H1 : Hp} {T : Fz} (g : Got K mg M σ E H [] σ1 E1 H1 T) {i : Nat} {s : Slot} {ds es : List D} {ys : List V} (hi : E1[i]? = some s) (hs : s.list? = some ds) (r : Reps K mg (Hm (Mo M (σ1.zip E1)) H1) es ys) :
  ∃ p,σ1[i]? = some (some (.ref p)) ∧ Got K mg M σ E H [] σ1 (E1.set i (s.put es)) (upd H1 p (.lst ys)) [] := by
 obtain ⟨o,h1,h2⟩ := wU g.len hi;obtain ⟨p,xs,rfl,_⟩ := g.frame.own o s ds (mem_of_getElem? h2) hs;refine ⟨p,h1,?_⟩;obtain ⟨f,st⟩ := FR.mut g.frame h2 hs r;have e := zy (E := E1) (s.put es) h1;rw [← e] at f st;refine ⟨by simp [g.len],f,(g.st.weak (zB (sublist_append_right _ _))).trans st,g.pk.trans fun j ds' q => ?_⟩;by_cases ej : i = j
 ·subst ej
  rw [hi] at q; cases q;have hlt : i < E1.length := (List.getElem?_eq_some_iff.mp hi).1;exact ⟨⟨es,by rw [getElem?_set_self hlt]; rfl⟩,rfl⟩
 ·exact ⟨⟨ds',by rw [getElem?_set_ne ej]; exact q⟩,rfl⟩
theorem G5 {i : Nat} {s : Slot} (hl : E.length = σ.length) (f : FR K mg M H (σ.zip E)) (h : E[i]? = some s) (hs : s ≠ .emp) : ∃ v,σ[i]? = some (some v) := by
 obtain ⟨o,h1,h2⟩ := jk hl h;cases s with
 | emp => exact absurd rfl hs
 | val d => obtain ⟨v,rfl,_⟩ := f.val o d h2; exact ⟨v,h1⟩
 | own ds => obtain ⟨a,_,rfl,_⟩ := f.own o _ ds h2 rfl; exact ⟨_,h1⟩
 | par ds => obtain ⟨a,_,rfl,_⟩ := f.own o _ ds h2 rfl; exact ⟨_,h1⟩
def wv : Option Slot → Bool
 | none => true
 | some .emp => true
 | _ => false
theorem W9 {o : Option Slot} (h : wv o = false) : ∃ s,o = some s ∧ s ≠ .emp := by
 cases o with
 | none => cases h
 | some s => cases s <;> simp [wv] at h <;> exact ⟨_,rfl,by intro q; cases q⟩
def ixS : Slot → Int → Option D
 | .own ds,i => atI ds i
 | .par ds,i => atI ds i
 | .val (.lst ds),i => atI ds i
 | _,_ => none
def eIxO (i : Nat) (m : ME) : ME := fun E => if wv E[i]? = true then .stuck else match m E with
 | .stuck => .stuck
 | .exc x E1 => .exc x E1
 | .ok (.val (.int k),E1) => match E1[i]? with
  | some s => match ixS s k with
   | some d => .ok (.val d,E1)
   | none => .stuck
  | none => .stuck
 | _ => .stuck
theorem ixO_run {i : Nat} {m : ME} {Q : VK} (h : tM X (eIxO i m) σ H Q) : tOp (rIxL X.K) (GJ i) (tM X m) σ H Q := by
 obtain ⟨M,E,hl,fr,k⟩ := h;unfold eIxO at k;cases em : wv E[i]? with
 | true => rw [em] at k; exact k.elim
 | false =>
  rw [em] at k;obtain ⟨s,hs1,hs2⟩ := W9 em;obtain ⟨v,hv⟩ := G5 hl fr hs1 hs2;refine ⟨v,hv,?_⟩;refine zt (T0 := []) hl fr ?_;simp only [Bool.false_eq_true,if_false] at k;cases ea : m E with
  | stuck => rw [ea] at k; exact k
  | exc x E1 => rw [ea] at k; exact k
  | ok p =>
   obtain ⟨r,E1⟩ := p;rw [ea] at k;cases r with
   | own ds => exact k.elim
   | val d =>
    cases d with
    | int n =>
     intro y H' g;dsimp only at k;cases e1 : E1[i]? with
     | none => rw [e1] at k; exact k.elim
     | some s1 =>
      rw [e1] at k;dsimp only at k;cases e2 : ixS s1 n with
      | none => rw [e2] at k; exact k.elim
      | some d =>
       rw [e2] at k;have f := g.frame;have fin : ∀ {w : V},Rep X.K X.mg (Hm (Mo M (σ.zip E1)) H') d w → Q w H' := fun {w} rw' => k w H' (g.more (T := [(some w,.val d)]) (f.add rw') Step.refl.add)
       obtain ⟨o,h1,h2⟩ := jk g.len e1;have ho : o = some v := by rw [hv] at h1; exact (Option.some.inj h1).symm
       subst ho;have key : ∀ {ds : List D},s1.list? = some ds → atI ds n = some d → rIxL X.K v y H' Q := fun {ds} hl1 ha => by
        obtain ⟨a,xs,ev,q1,_,q3⟩ := f.own _ s1 ds h2 hl1;cases ev;obtain ⟨w,a1,a2⟩ := Jp q3 ha;exact ⟨a,xs,n,w,rfl,zG g.rep,SqL.of q1,a1,fin a2⟩
       cases s1 with
       | emp => cases e2
       | own ds => exact key rfl e2
       | par ds => exact key rfl e2
       | val dd =>
        cases dd with
        | lst ds =>
         obtain ⟨v',ev,rr⟩ := f.val _ _ h2;cases ev;obtain ⟨a,xs,rfl,q1,q2⟩ := zH rr;obtain ⟨w,a1,a2⟩ := Jp q2 e2;exact ⟨a,xs,n,w,rfl,zG g.rep,zE.seq q1,a1,fin a2⟩
        | _ => cases e2
    | _ => exact k.elim
theorem ok_ixO (i : Nat) {x : Str} {b : Expr} {m : ME} {p pos : Pos} (hv : PE X (.Name x p) (GJ i)) (hb : EOk X b m) (hs : ZM b) : EOk X (.Subscript (.Name x p) b pos) (eIxO i m) :=
 zn (pe_ix Gf hv hb hs) fun σ H Q => ixO_run
def Y5 (i : Nat) (mi mv : ME) : MS := fun E => if wv E[i]? = true then .stuck else match mv E with
 | .stuck => .stuck
 | .exc x E1 => .exc x E1
 | .ok (r,E1) => match mi E1 with
  | .stuck => .stuck
  | .exc x E2 => .exc x E2
  | .ok (.val (.int k),E2) => match E2[i]? with
   | none => .stuck
   | some s => match s.list? with
    | none => .stuck
    | some ds => match ixN ds.length k with
     | none => .stuck
     | some j => .ok (.nx,E2.set i (s.put (ds.set j r.d)))
  | _ => .stuck
theorem G6 {i : Nat} {mi mv : ME} {D : Ends} (h : tS X (Y5 i mi mv) D σ H) : tAsg (tM X mv) (gSub (GJ i) (tM X mi) rSetL) D σ H := by
 obtain ⟨M,E,hl,fr,k⟩ := h;unfold Y5 at k;cases em : wv E[i]? with
 | true => rw [em] at k; exact k.elim
 | false =>
  rw [em] at k;obtain ⟨s,hs1,hs2⟩ := W9 em;obtain ⟨v,hv⟩ := G5 hl fr hs1 hs2;refine zt (T0 := []) hl fr ?_;simp only [Bool.false_eq_true,if_false] at k;cases ea : mv E with
  | stuck => rw [ea] at k; exact k
  | exc x E1 => rw [ea] at k; exact fun H' g => k σ H' g
  | ok p =>
   obtain ⟨r,E1⟩ := p;rw [ea] at k;intro y H1 g1;refine ⟨v,hv,?_⟩;refine zt (T0 := [(some y,r.slot)]) g1.len g1.fr ?_;dsimp only at k;cases eb : mi E1 with
   | stuck => rw [eb] at k; exact k
   | exc x E2 => rw [eb] at k; exact fun H' g => k σ H' (g1.trans' g).dropAll
   | ok p =>
    obtain ⟨r2,E2⟩ := p;rw [eb] at k;cases r2 with
    | own ds => exact k.elim
    | val d =>
     cases d with
     | int n =>
      intro z H2 g2;have g := g1.trans' g2;dsimp only at k;cases e1 : E2[i]? with
      | none => rw [e1] at k; exact k.elim
      | some s1 =>
       rw [e1] at k;dsimp only at k;cases e2 : s1.list? with
       | none => rw [e2] at k; exact k.elim
       | some ds =>
        rw [e2] at k;dsimp only at k;cases e3 : ixN ds.length n with
        | none => rw [e3] at k; exact k.elim
        | some j =>
         rw [e3] at k;have rp := Got.reps (vs := [z,y]) (rs := [.val (.int n),r]) rfl g;simp only [List.map,Reps] at rp;obtain ⟨z',_,q1,rz,y',_,q2,ry,_⟩ := rp;cases q1; cases q2;obtain ⟨o,h1,h2⟩ := jk g.len e1;obtain ⟨a,xs,ev,w1,_,w3⟩ := g.frame.own _ s1 ds h2 e2;subst ev;have ev : v = .ref a := by rw [hv] at h1; exact Option.some.inj (Option.some.inj h1)
         subst ev;obtain ⟨p,hp,g'⟩ := g.mut e1 e2 (w3.set j ry);have ep : p = a := by rw [h1] at hp; cases hp; rfl
         subst ep;exact ⟨p,xs,n,j,rfl,zG rz,w1,by rw [w3.length]; exact e3,k σ _ g'⟩
     | _ => exact k.elim
theorem zBB (i : Nat) {x : Str} {b e : Expr} {mi mv : ME} {p p1 pos : Pos} (hv : PE X (.Name x p) (GJ i)) (hb : EOk X b mi) (he : EOk X e mv)
  (ha : ∀ v,assign (.Subscript (.Name x p) b p1) X.env v = (do
   let ov ← holding [v] (eval (.Name x p) X.env)
   let iv ← holding [v,ov] (eval b X.env)
   standAt p1
   holding [v,ov,iv] (setItem ov iv v)
   release [v,ov,iv] []) := by intro _; rfl) (hs : swapsWithSole [.Subscript (.Name x p) b p1] e pos.line X.env = pure false := by rfl) : SOk X (.Assign [.Subscript (.Name x p) b p1] e pos) (Y5 i mi mv) :=
 jH (ps_asg he (pg_sub hv hb zAp ha) hs) fun D σ H => G6
def sApp (i : Nat) (m : ME) : MS := fun E => match E[i]? with
 | none => .stuck
 | some s0 => match s0.list? with
  | none => .stuck
  | some _ => match m E with
   | .stuck => .stuck
   | .exc x E1 => .exc x E1
   | .ok (r,E1) => match E1[i]? with
    | none => .stuck
    | some s => match s.list? with
     | none => .stuck
     | some ds => if ds.length < cap then .ok (.nx,E1.set i (s.put (ds ++ [r.d]))) else .stuck
theorem app_run {i : Nat} {m : ME} {D : Ends} (h : tS X (sApp i m) D σ H) : tDrop (tBM X.K "list" Gh (GJ i) (zAi (tM X m) tNil)) D σ H := by
 obtain ⟨M,E,hl,fr,k⟩ := h;unfold sApp at k;cases e0 : E[i]? with
 | none => rw [e0] at k; exact k.elim
 | some s0 =>
  rw [e0] at k;dsimp only at k;cases e00 : s0.list? with
  | none => rw [e00] at k; exact k.elim
  | some ds0 =>
   rw [e00] at k;obtain ⟨o,h1,h2⟩ := jk hl e0;obtain ⟨a,xs,ev,w1,_,w3⟩ := fr.own _ s0 ds0 h2 e00;subst ev;refine ⟨.ref a,h1,.inl ⟨rfl,xs,SqL.of w1⟩,?_⟩;refine zt (T0 := []) hl fr ?_;dsimp only at k;cases ea : m E with
   | stuck => rw [ea] at k; exact k
   | exc x E1 => rw [ea] at k; exact fun H' g => k σ H' g
   | ok p =>
    obtain ⟨r,E1⟩ := p;rw [ea] at k;intro y H1 g;dsimp only at k;cases e1 : E1[i]? with
    | none => rw [e1] at k; exact k.elim
    | some s =>
     rw [e1] at k;dsimp only at k;cases e2 : s.list? with
     | none => rw [e2] at k; exact k.elim
     | some ds =>
      rw [e2] at k;dsimp only at k;by_cases hc : ds.length < cap
      ·rw [if_pos hc] at k
       obtain ⟨o,h1',h2'⟩ := jk g.len e1;obtain ⟨a',ys,ev,q1,_,q3⟩ := g.frame.own _ s ds h2' e2;subst ev;have ea' : a' = a := by rw [h1] at h1'; cases h1'; rfl
       subst ea';obtain ⟨p,hp,g'⟩ := g.mut e1 e2 (q3.append (Reps.cons g.rep Reps.nil));have ep : p = a' := by rw [h1] at hp; cases hp; rfl
       subst ep;exact ⟨p,ys,y,rfl,rfl,q1,by rw [q3.length]; exact lt_of_lt_of_le hc (jd (le_refl _)),k σ _ g'⟩
      ·rw [if_neg hc] at k; exact k.elim
theorem sk_app (i : Nat) {x : Str} {e : Expr} {m : ME} {p apos cpos pos : Pos} (hv : PE X (.Name x p) (GJ i)) (he : EOk X e m)
  (hbase : attributeBase (.Name x p) "append" X.env (eval (.Name x p) X.env) = eval (.Name x p) X.env := by rfl)
  (hfew : ((backTo cpos (starEach (e :: []) X.env)).all (fun x => !x.1) && (backToKw cpos (keywordEach [] X.env)).all (fun x => x.1.isSome)
   && decide ((e :: ([] : List Expr)).length + ([] : List Keyword).length + (if ([] : List Keyword).isEmpty then 0 else 1) < 30)) = true := by rfl)
  (hline : (apos.endLine == cpos.line) = true := by rfl) (hs : starEach (e :: []) X.env = (false,eval e X.env) :: starEach [] X.env := by rfl) (hplain : (backTo cpos (starEach [] X.env)).any (·.1) = false := by rfl)
  (hsw : swapsWith (.Call (.Attribute (.Name x p) "append" apos) [e] [] cpos) none pos.line X.env = pure false := by rfl) : SOk X (.Expr (.Call (.Attribute (.Name x p) "append" apos) [e] [] cpos) pos) (sApp i m) :=
 jH (GN (pe_bm PySem.F.plainAttrs_list PySem.F.slot_list_append PySem.F.type_list_append WK hv (yc he JY hs) hbase hfew hline hs hplain) hsw) fun D σ H => app_run
end
end DV
namespace DV
open PySem L2
section
variable {X : Cx} {K : PySem.W.Frag} {mg : Str → Option Value} {σ : St} {M : Addr → Prop} {E : zQ} {H : Hp} {T0 Z : Fz}
abbrev MG := D → zQ → Out zQ
def GOk (X : Cx) (g : TG) (tg : MG) : Prop := ∀ (M : Addr → Prop) (σ : St) (E : zQ) (H : Hp) (T0 : Fz) (x : V) (d : D) (E' : zQ) (Q : St → Hp → Prop),E.length = σ.length → FR X.K X.mg M H ((some x,.val d) :: (T0 ++ σ.zip E)) → tg d E = .ok E' →
 (∀ σ',Got X.K X.mg M σ E H T0 σ' E' H [] → Q σ' H) → g x σ H Q
def gN (i : Nat) : MG := fun d E => Jq i (.val d) E
theorem go_name (i : Nat) : GOk X (W1 i) (gN i) := fun M σ E H T0 x d E' Q hl f e k =>
 k _ (ZS (σ1 := σ) (E1 := E) (H1 := H) (r := .val d) (v := x) ⟨hl,f,Step.refl.add,PKp.refl⟩ e)
def gNs : List Nat → List D → zQ → Out zQ
 | [],[],E => .ok E
 | i :: is,d :: ds,E => match Jq i (.val d) E with
  | .ok E1 => gNs is ds E1
  | _ => .stuck
 | _,_,_ => .stuck
def gT (is : List Nat) : MG := fun d E => match d with
 | .tup ds => gNs is ds E
 | _ => .stuck
def YH : List Nat → TGs
 | [] => gNil
 | i :: is => gCons (W1 i) (YH is)
theorem YI : ∀ (is : List Nat) (ds : List D) (xs : List V) {M : Addr → Prop} {σ0 σ : St} {E0 E E' : zQ} {H : Hp} {T0 : Fz} {a : Addr} {ts : List D} {Q : St → Hp → Prop},
  Got X.K X.mg M σ0 E0 H T0 σ E H [] → Reps X.K X.mg (Hm (Mo M (T0 ++ σ.zip E)) H) ds xs → gNs is ds E = .ok E' → (∀ σ',Got X.K X.mg M σ0 E0 H T0 σ' E' H [] → Q σ' H) → YH is xs σ H Q
 | [],[],xs,M,σ0,σ,E0,E,E',H,T0,a,ts,Q,g,r,e,k => by
  cases e;simp only [Reps] at r;exact ⟨r,k σ g⟩
 | [],d :: ds,xs,M,σ0,σ,E0,E,E',H,T0,a,ts,Q,g,r,e,k => by cases e
 | i :: is,[],xs,M,σ0,σ,E0,E,E',H,T0,a,ts,Q,g,r,e,k => by cases e
 | i :: is,d :: ds,xs,M,σ0,σ,E0,E,E',H,T0,a,ts,Q,g,r,e,k => by
  simp only [Reps] at r;obtain ⟨x,JI,rfl,rx,rr⟩ := r;simp only [gNs] at e;cases e1 : Jq i (.val d) E with
  | stuck => rw [e1] at e; cases e
  | exc _ _ => rw [e1] at e; cases e
  | ok E1 =>
   rw [e1] at e;refine ⟨x,JI,rfl,?_⟩;have g1 : Got X.K X.mg M σ0 E0 H T0 σ E H [(some x,R.slot (.val d))] := ⟨g.len,g.fr.add rx,g.st.add,g.pk⟩;have g2 := ZS g1 e1;refine YI is ds JI (a := a) (ts := ts) g2 (rr.mono ?_) e k;refine yz (wo fun b hb => ?_);have st := g2.fr
   -- the stored slot is a value: it zx nothing
   unfold Jq at e1;cases e2 : E[i]? with
   | none => rw [e2] at e1; cases e1
   | some sl =>
    rw [e2] at e1;have e3 : E1 = E.set i (.val d) := by cases sl <;> cases e1 <;> rfl
    subst e3;have hi : i < E.length := (List.getElem?_eq_some_iff.mp e2).1;have hz : i < (σ.zip E).length := by rw [List.length_zip]; have := g.len; omega
    rw [ZP] at hb;rw [zV] at hb ⊢;rcases mem_append.mp hb with hb | hb
    ·exact mem_append_left _ hb
    ·refine mem_append_right _ ?_
     have := zA (za _ _ _ hz) b hb;rw [zU] at this;exact zB (List.eraseIdx_sublist _ _) b this
theorem go_tup {n : Nat} (is : List Nat) (hn : is.length = n) : GOk X (gTup X.K n (YH is)) (gT is) := fun M σ E H T0 x d E' Q hl f e k => by
 cases d with
 | tup ds =>
  obtain ⟨v,ev,r⟩ := f.val _ _ mem_cons_self;cases ev;obtain ⟨a,xs,rfl,h1,h2⟩ := zO r;rw [Ja] at h2;have hlen : ds.length = is.length := by
   have : ∀ (is : List Nat) (ds : List D) (E E' : zQ),gNs is ds E = .ok E' → ds.length = is.length := by
    intro is
    induction is with
    | nil => intro ds E E' h; cases ds with | nil => rfl | cons d ds => cases h
    | cons i is ih =>
     intro ds E E' h;cases ds with
     | nil => cases h
     | cons d ds =>
      simp only [gNs] at h;cases e1 : Jq i (.val d) E with
      | ok E1 => rw [e1] at h; simp [ih ds E1 E' h]
      | stuck => rw [e1] at h; cases h
      | exc _ _ => rw [e1] at h; cases h
   exact this is ds E E' e
  refine ⟨a,xs,rfl,zk zE h1,by rw [h2.length,hlen,hn],?_⟩;exact YI is ds xs (a := a) (ts := []) (Got.refl hl f.tail) h2 e k
 | _ => cases e
def Jb (tg : MG) (body : MS) : List D → zQ → Out (Fl × zQ)
 | [],E => .ok (.nx,E)
 | d :: ds,E => match tg d E with
  | .ok E1 => match body E1 with
   | .ok (.nx,E2) => Jb tg body ds E2
   | .ok (.ct,E2) => Jb tg body ds E2
   | .ok (.bk,E2) => .ok (.nx,E2)
   | .ok (.ret r,E2) => .ok (.ret r,E2)
   | .exc x E2 => .exc x E2
   | .stuck => .stuck
  | _ => .stuck
def Fin (X : Cx) (M : Addr → Prop) (σ : St) (E : zQ) (H : Hp) (D : Ends) (o : Out (Fl × zQ)) : Prop := match o with
 | .stuck => False
 | .ok (.nx,E') => ∀ σ' H',Got X.K X.mg M σ E H [] σ' E' H' [] → D.nx σ' H'
 | .ok (.bk,E') => ∀ σ' H',Got X.K X.mg M σ E H [] σ' E' H' [] → D.bk σ' H'
 | .ok (.ct,E') => ∀ σ' H',Got X.K X.mg M σ E H [] σ' E' H' [] → D.ct σ' H'
 | .ok (.ret r,E') => ∀ v σ' H',Got X.K X.mg M σ E H [] σ' E' H' [(some v,r.slot)] → D.rt v H'
 | .exc x E' => ∀ σ' H',Got X.K X.mg M σ E H [] σ' E' H' [] → XE X σ' H' x
theorem Got.dropT {K : PySem.W.Frag} {mg : Str → Option Value} {M : Addr → Prop} {σ σ1 : St} {E E1 : zQ} {H H1 : Hp} {T T' : Fz} (a : Got K mg M σ E H [] σ1 E1 H1 (T ++ T')) : Got K mg M σ E H [] σ1 E1 H1 T where
 len := a.len
 fr := a.fr.sub (by rw [append_assoc]; exact (sublist_append_right _ _).append_left _)
 st := a.st.weak (zB (by rw [append_assoc]; exact (sublist_append_right _ _).append_left _))
 pk := a.pk
theorem ZU {tg : MG} {body : MS} {g : TG} {D : Ends} {d : DV.D} {ds : List DV.D} {σ1 : St} {E1 : zQ} {H1 : Hp} {T : Fz} {x : V} {P : St → Hp → Prop} (hg : GOk X g tg)
  (g1 : Got X.K X.mg M σ E H [] σ1 E1 H1 T) (rx : Rep X.K X.mg (Hm (Mo M (T ++ σ1.zip E1)) H1) d x) (fin : Fin X M σ E H D (Jb tg body (d :: ds) E1))
  (next : ∀ σ2 E2 H2,Got X.K X.mg M σ E H [] σ2 E2 H2 T → Step M H1 (T ++ σ1.zip E1) H2 (T ++ σ2.zip E2) → Fin X M σ E H D (Jb tg body ds E2) → P σ2 H2) :
  g x σ1 H1 fun σ2 H2 => tS X body { D with nx := P,ct := P,bk := D.nx } σ2 H2 := by
 simp only [Jb] at fin;cases e1 : tg d E1 with
 | stuck => rw [e1] at fin; exact fin.elim
 | exc _ _ => rw [e1] at fin; exact fin.elim
 | ok E2 =>
  rw [e1] at fin;dsimp only at fin;refine hg M σ1 E1 H1 T x d E2 _ g1.len (g1.fr.add rx) e1 fun σ2 g2 => ?_
  have g12 := g1.trans' g2;refine YG (T0 := T) g2.len g2.fr ?_;cases e2 : body E2 with
  | stuck => rw [e2] at fin; exact fin
  | exc y E3 => rw [e2] at fin; exact fun σ' H' g' => fin σ' H' (g12.trans' g').dropAll
  | ok p =>
   obtain ⟨fl,E3⟩ := p;rw [e2] at fin;cases fl with
   | nx => exact fun σ' H' g' => next σ' E3 H' (g12.trans' g') (g2.st.trans g'.st) fin
   | ct => exact fun σ' H' g' => next σ' E3 H' (g12.trans' g') (g2.st.trans g'.st) fin
   | bk => exact fun σ' H' g' => fin σ' H' (g12.trans' g').dropAll
   | ret r => exact fun v σ' H' g' => fin v σ' H' (g12.trans' g').dropT
def sForL (m : ME) (tg : MG) (body : MS) : MS := fun E => match m E with
 | .stuck => .stuck
 | .exc x E1 => .exc x E1
 | .ok (r,E1) => match r.d with
  | .lst ds => Jb tg body ds E1
  | _ => .stuck
theorem G7 {m : MS} {D : Ends} (h : tS X m D σ H) : ∃ M E,E.length = σ.length ∧ FR X.K X.mg M H (σ.zip E) ∧ Fin X M σ E H D (m E) := h
theorem zBC {m : ME} {tg : MG} {g : TG} {body : MS} {D : Ends} (hg : GOk X g tg) (h : tS X (sForL m tg body) D σ H) : tFor (iList X.K (tM X m)) g (tS X body) D σ H := by
 obtain ⟨M,E,hl,fr,k⟩ := G7 h;unfold sForL at k;refine zt (T0 := []) hl fr ?_;cases ea : m E with
 | stuck => rw [ea] at k; exact k
 | exc x E1 => rw [ea] at k; exact fun H' g => k σ H' g
 | ok p =>
  obtain ⟨r,E1⟩ := p;rw [ea] at k;intro v H1 g0;have g1 : Got X.K X.mg M σ E H [] σ E1 H1 [(some v,.val r.d)] := ⟨g0.len,g0.fr.frz,g0.st.frz,g0.pk⟩;dsimp only at k;cases ed : r.d with
  | lst ds =>
   rw [ed] at k g1;have rl := g0.rep;rw [ed] at rl;obtain ⟨a,xs,rfl,q1,q2⟩ := zH rl;refine ⟨a,rfl,⟨xs,zE.seq q1⟩,?_⟩;have em : ∀ (σ' : St) (E' : zQ),Mo M ([(some (V.ref a),Slot.val (.lst ds))] ++ σ'.zip E') = Mo M (σ'.zip E') := fun σ' E' => Ja _ _ _ _
   refine zAe (K := X.K) (a := a) (xs := xs) (fun i σ1 H2 => ∃ E2,Got X.K X.mg M σ E H [] σ1 E2 H2 [(some (.ref a),.val (.lst ds))] ∧ SqL X.K (Hm (Mo M (σ1.zip E2)) H2) a xs ∧ Reps X.K X.mg (Hm (Mo M (σ1.zip E2)) H2) ds xs ∧ Fin X M σ E H D (Jb tg body (ds.drop i) E2))
    ⟨E1,g1,q1,q2,k⟩ (fun i σ' H' _ ⟨E2,_,q,_⟩ => zE.seq q) ?_ ?_
   ·rintro i x σ1 H2 hx ⟨E2,g2,s2,r2,fin⟩
    obtain ⟨d,hd,rx⟩ := r2.get hx;have ed : ds.drop i = d :: ds.drop (i + 1) := by
     obtain ⟨hi,rfl⟩ := List.getElem?_eq_some_iff.mp hd;exact List.drop_eq_getElem_cons hi
    rw [ed] at fin;refine ZU hg g2 (by rw [em]; exact rx) fin fun σ3 E3 H3 g3 st fin3 => ?_
    have sm := st.same;rw [em,em] at sm;exact ⟨E3,g3,sm.seq s2,r2.mono sm,fin3⟩
   ·rintro σ1 H2 ⟨E2,g2,s2,r2,fin⟩
    rw [r2.length,List.drop_length] at fin;exact fin σ1 H2 g2.dropAll
  | _ => rw [ed] at k; exact k.elim
def zT (lo : Int) : Nat → List D
 | 0 => []
 | n + 1 => .int lo :: zT (lo + 1) n
theorem z8 (lo : Int) : ∀ n,(zT lo n).length = n
 | 0 => rfl
 | n + 1 => by simp [zT,z8 (lo + 1) n]
theorem jS : ∀ (n i : Nat) (lo : Int),i < n → (zT lo n).drop i = .int (lo + i) :: (zT lo n).drop (i + 1)
 | 0,_,_,h => by omega
 | n + 1,0,lo,_ => by simp [zT]
 | n + 1,i + 1,lo,h => by
  have := jS n i (lo + 1) (by omega);simp only [zT,List.drop_succ_cons];rw [this];congr 2;omega
def sForR1 (m : MA) (tg : MG) (body : MS) : MS := fun E => match m E with
 | .stuck => .stuck
 | .exc x E1 => .exc x E1
 | .ok ([r],E1) => match r.d with
  | .int j => if -(2 ^ 62) ≤ j ∧ j < 2 ^ 62 then Jb tg body (zT 0 j.toNat) E1 else .stuck
  | _ => .stuck
 | _ => .stuck
theorem vA {tg : MG} {g : TG} {body : MS} {D : Ends} (hg : GOk X g tg) {lo : Int} {n : Nat} {E1 : zQ} {H1 : Hp} (g1 : Got X.K X.mg M σ E H [] σ E1 H1 []) (fin : Fin X M σ E H D (Jb tg body (zT lo n) E1)) :
  ∃ W : Nat → Nat → St → Hp → Prop,(∃ m,W 0 m σ H1) ∧ ∀ i m σ H,W i m σ H →
   ((Itr lo n).stop i H ∧ D.nx σ H) ∨ ((Itr lo n).go i H ∧ ∃ N : St → Hp → Prop,(∀ σ' H',N σ' H' → ∃ m',m' < m ∧ W (i + 1) m' σ' H') ∧ ∀ x H',(Itr lo n).yld i H x H' → g x σ H' fun σ2 H2 => tS X body { D with nx := N,ct := N,bk := D.nx } σ2 H2) := by
 refine GT (fun i σ1 H2 => ∃ E2,Got X.K X.mg M σ E H [] σ1 E2 H2 [] ∧ Fin X M σ E H D (Jb tg body ((zT lo n).drop i) E2)) ⟨E1,g1,fin⟩ ?_ ?_
 ·rintro i σ1 H2 hi ⟨E2,g2,fin⟩
  rw [jS n i lo hi] at fin;exact ZU hg g2 (by simp only [Rep]) fin fun σ3 E3 H3 g3 st fin3 => ⟨E3,g3,fin3⟩
 ·rintro σ1 H2 ⟨E2,g2,fin⟩
  rw [List.drop_of_length_le (by rw [z8]; exact le_refl _)] at fin;exact fin σ1 H2 g2
theorem G8 {m : MA} {tg : MG} {g : TG} {body : MS} {D : Ends} (hg : GOk X g tg) (h : tS X (sForR1 m tg body) D σ H) : tFor (iRng1 (tMA X m)) g (tS X body) D σ H := by
 obtain ⟨M,E,hl,fr,k⟩ := G7 h;unfold sForR1 at k;refine JL (T0 := []) hl fr ?_;cases ea : m E with
 | stuck => rw [ea] at k; exact k
 | exc x E1 => rw [ea] at k; exact fun H' g => k σ H' g
 | ok p =>
  obtain ⟨rs,E1⟩ := p;rw [ea] at k
  match rs,k with
  | [r],k =>
   intro vs H1 hv g1;have rp := Got.reps hv g1;dsimp only at k;cases ed : r.d with
   | int j =>
    rw [ed] at k;simp only [List.map,ed] at rp;obtain ⟨v,rfl,h1⟩ := wE rp;dsimp only at k;by_cases hc : -(2 ^ 62) ≤ j ∧ j < 2 ^ 62
    ·rw [if_pos hc] at k
     exact ⟨j,by rw [zG h1],hc.1,hc.2,vA hg g1.dropAll k⟩
    ·rw [if_neg hc] at k; exact k.elim
   | _ => rw [ed] at k; exact k.elim
  | [],k => exact k.elim
  | _ :: _ :: _,k => exact k.elim
theorem sk_forL {tgt iter : Expr} {body : List Stmt} {m : ME} {g : TG} {tg : MG} {mb : MS} {pos : Pos} (hp : PassesOwn (model X.prog X.w) X.A X.env X.xe) (hc : X.calm = true) (hi : EOk X iter m) (hg : PG X tgt g) (ho : GOk X g tg) (hb : vx X body mb)
  (hs : ∀ x,foldedSetIterable iter X.env x = pure x := by intro _; rfl) : SOk X (.For tgt iter body [] pos) (sForL m tg mb) := jH (GS hp hc (GQ hi) hg hb hs) fun D σ H => zBC ho
theorem zBD {tgt a : Expr} {body : List Stmt} {m : MA} {g : TG} {tg : MG} {mb : MS} {p cpos pos : Pos} (hp : PassesOwn (model X.prog X.w) X.A X.env X.xe) (hc : X.calm = true) (hgl : Gl X "range") (hm : X.mg "range" = none) (ha : AOk X [a] m) (hg : PG X tgt g) (ho : GOk X g tg) (hb : vx X body mb)
  (hst : zR a = false := by rfl) (hs : ∀ x,foldedSetIterable (.Call (.Name "range" p) [a] [] cpos) X.env x = pure x := by intro _; rfl) : SOk X (.For tgt (.Call (.Name "range" p) [a] [] cpos) body [] pos) (sForR1 m tg mb) :=
 jH (GS hp hc (Z9 hgl hm ha (star1 hst)) hg hb hs) fun D σ H => G8 ho
end
end DV
namespace DV
open PySem L2
section
variable {X : Cx} {K : PySem.W.Frag} {mg : Str → Option Value} {σ : St} {M : Addr → Prop} {E : zQ} {H H' : Hp} {T0 Z T : Fz}
theorem zBE {o : Option V} {s s' : Slot} {ds : List D} (h : s.list? = some ds) (h' : s'.list? = some ds) : Ww (o,s') = Ww (o,s) := by
 cases s <;> simp [Slot.list?] at h <;> cases s' <;> simp [Slot.list?] at h' <;> (cases o with | none => rfl | some v => cases v <;> rfl)
theorem Jr {o : Option V} {s s' : Slot} {ds : List D} (h : s.list? = some ds) (h' : s'.list? = some ds) : zx ((o,s') :: Z) = zx ((o,s) :: Z) := by
 unfold zx;rw [filterMap_cons,filterMap_cons,zBE h h']
theorem FR.lab {o : Option V} {s s' : Slot} {ds : List D} (f : FR K mg M H ((o,s) :: Z)) (h : s.list? = some ds) (h' : s'.list? = some ds) : FR K mg M H ((o,s') :: Z) := by
 have em : Mo M ((o,s') :: Z) = Mo M ((o,s) :: Z) := by unfold Mo; rw [Jr h h']
 refine ⟨fun o' d q => ?_,fun o' t es q e => ?_,by rw [Jr h h']; exact f.nd,f.mal⟩
 ·rw [em]
  rcases mem_cons.mp q with q | q
  ·cases q; cases h'
  ·exact f.val o' d (mem_cons_of_mem _ q)
 ·rw [em]
  rcases mem_cons.mp q with q | q
  ·cases q
   rw [h'] at e; cases e;exact f.own o s ds mem_cons_self h
  ·exact f.own o' t es (mem_cons_of_mem _ q) e
theorem WT {o : Option V} {s1 s2 : Slot} {i : Nat} (hi : Z[i]? = some (o,s2)) : ((o,s1) :: (T ++ Z)).Perm ((o,s2) :: (T ++ Z.set i (o,s1))) := by
 have hlt : i < Z.length := (List.getElem?_eq_some_iff.mp hi).1;have p1 : Z.Perm ((o,s2) :: Z.eraseIdx i) := by
  have := za (o,s2) Z i hlt;rw [wu hi] at this;exact this
 have p2 : (Z.set i (o,s1)).Perm ((o,s1) :: Z.eraseIdx i) := za _ _ _ hlt;refine ((p1.append_left T).cons _).trans ?_;refine List.Perm.trans ?_ ((p2.append_left T).cons _).symm;have a : (T ++ (o,s2) :: Z.eraseIdx i).Perm ((o,s2) :: (T ++ Z.eraseIdx i)) := perm_middle;have b : (T ++ (o,s1) :: Z.eraseIdx i).Perm ((o,s1) :: (T ++ Z.eraseIdx i)) := perm_middle;exact ((a.cons _).trans (List.Perm.swap _ _ _)).trans (b.cons _).symm
inductive AR where
 | tmp (d : D)
 | ln (i : Nat)
 deriving Inhabited
def AR.slot : AR → Slot
 | .tmp d => .val d
 | .ln _ => .emp
def zi (vs : List V) (as : List AR) : Fz := (vs.map some).zip (as.map AR.slot)
def AV (σ : St) : List AR → List V → Prop
 | [],vs => vs = []
 | .tmp _ :: as,vs => ∃ v r,vs = v :: r ∧ AV σ as r
 | .ln i :: as,vs => ∃ v r,vs = v :: r ∧ σ[i]? = some (some v) ∧ AV σ as r
theorem AV.length : ∀ {as : List AR} {vs : List V},AV σ as vs → vs.length = as.length
 | [],_,h => by simp only [AV] at h; subst h; rfl
 | .tmp _ :: as,_,h => by simp only [AV] at h; obtain ⟨v,r,rfl,h⟩ := h; simp [AV.length h]
 | .ln i :: as,_,h => by simp only [AV] at h; obtain ⟨v,r,rfl,_,h⟩ := h; simp [AV.length h]
def zJ : List AR → zQ → Out (List Slot × zQ)
 | [],E => .ok ([],E)
 | .tmp d :: as,E => match zJ as E with
  | .ok (ss,E') => .ok (.val d :: ss,E')
  | _ => .stuck
 | .ln i :: as,E => match E[i]? with
  | none => .stuck
  | some s => match s.list? with
   | none => .stuck
   | some ds => match zJ as (E.set i .emp) with
    | .ok (ss,E') => .ok (.par ds :: ss,E')
    | _ => .stuck
def zI : List AR → List Slot → zQ → zQ → Out zQ
 | [],[],_,E => .ok E
 | .tmp _ :: as,_ :: ss,E0,E => zI as ss E0 E
 | .ln i :: as,s' :: ss,E0,E => match E0[i]? with
  | none => .stuck
  | some s => match s.list?,s'.list?,E[i]? with
   | some _,some ds,some .emp => zI as ss E0 (E.set i (s.put ds))
   | _,_,_ => .stuck
 | _,_,_,_ => .stuck
theorem YJ : ∀ (as : List AR) {vs : List V} {E E' : zQ} {ss : List Slot} {T : Fz},E.length = σ.length → AV σ as vs → zJ as E = .ok (ss,E') → FR K mg M H (T ++ (zi vs as ++ σ.zip E)) →
  FR K mg M H (T ++ ((vs.map some).zip ss ++ σ.zip E')) ∧ (∀ b,b ∈ zx (T ++ (zi vs as ++ σ.zip E)) ↔ b ∈ zx (T ++ ((vs.map some).zip ss ++ σ.zip E'))) ∧ ss.length = as.length ∧ E'.length = σ.length
 | [],vs,E,E',ss,T,hl,av,e,f => by
  cases e;simp only [AV] at av; subst av;exact ⟨f,fun b => Iff.rfl,rfl,hl⟩
 | .tmp d :: as,vs,E,E',ss,T,hl,av,e,f => by
  simp only [AV] at av;obtain ⟨v,r,rfl,av⟩ := av;simp only [zJ] at e;cases e1 : zJ as E with
  | stuck => rw [e1] at e; cases e
  | exc _ _ => rw [e1] at e; cases e
  | ok p =>
   obtain ⟨ss1,E1⟩ := p;rw [e1] at e; cases e;have f1 : FR K mg M H ((T ++ [(some v,.val d)]) ++ (zi r as ++ σ.zip E)) := by
    rw [append_assoc]; exact f
   obtain ⟨g1,g2,g3,g4⟩ := YJ as hl av e1 f1;refine ⟨by rw [append_assoc] at g1; exact g1,fun b => ?_,by simp [g3],g4⟩;have := g2 b;rw [append_assoc,append_assoc] at this;exact this
 | .ln i :: as,vs,E,E',ss,T,hl,av,e,f => by
  simp only [AV] at av;obtain ⟨v,r,rfl,hv,av⟩ := av;simp only [zJ] at e;cases e0 : E[i]? with
  | none => rw [e0] at e; cases e
  | some s =>
   rw [e0] at e;dsimp only at e;cases e2 : s.list? with
   | none => rw [e2] at e; cases e
   | some ds =>
    rw [e2] at e;dsimp only at e;cases e1 : zJ as (E.set i .emp) with
    | stuck => rw [e1] at e; cases e
    | exc _ _ => rw [e1] at e; cases e
    | ok p =>
     obtain ⟨ss1,E1⟩ := p;rw [e1] at e; cases e;obtain ⟨o,h1,h2⟩ := wU hl e0;have ho : o = some v := by rw [hv] at h1; exact (Option.some.inj h1).symm
     subst ho;have ez : σ.zip (E.set i .emp) = (σ.zip E).set i (some v,.emp) := zy .emp hv;have pA : (T ++ (((some v,Slot.emp) :: zi r as) ++ σ.zip E)).Perm ((some v,s) :: (T ++ (zi r as ++ σ.zip (E.set i .emp)))) := by
      rw [ez];have a : (T ++ (((some v,Slot.emp) :: zi r as) ++ σ.zip E)).Perm ((some v,Slot.emp) :: ((T ++ zi r as) ++ σ.zip E)) := by
       rw [append_assoc];exact perm_middle
      refine a.trans ((WT h2).trans ?_);rw [append_assoc]
     have f1 := (f.perm pA).lab e2 (s' := .par ds) rfl;have f2 : FR K mg M H ((((some v,Slot.par ds)) :: T) ++ (zi r as ++ σ.zip (E.set i .emp))) := f1;obtain ⟨g1,g2,g3,g4⟩ := YJ as (by simp [hl]) av e1 f2;have pB : (((some v,Slot.par ds) :: T) ++ ((r.map some).zip ss1 ++ σ.zip E')).Perm (T ++ (((some v,Slot.par ds) :: (r.map some).zip ss1) ++ σ.zip E')) := perm_middle.symm;refine ⟨g1.perm pB,fun b => ?_,by simp [g3],g4⟩;have x1 : b ∈ zx (T ++ (((some v,Slot.emp) :: zi r as) ++ σ.zip E)) ↔ b ∈ zx ((some v,s) :: (T ++ (zi r as ++ σ.zip (E.set i .emp)))) := (pA.filterMap Ww).mem_iff;have x2 : zx ((some v,Slot.par ds) :: (T ++ (zi r as ++ σ.zip (E.set i .emp)))) = zx ((some v,s) :: (T ++ (zi r as ++ σ.zip (E.set i .emp)))) := Jr e2 rfl;have x3 := g2 b;have x4 : b ∈ zx (((some v,Slot.par ds) :: T) ++ ((r.map some).zip ss1 ++ σ.zip E')) ↔ b ∈ zx (T ++ (((some v,Slot.par ds) :: (r.map some).zip ss1) ++ σ.zip E')) := (pB.filterMap Ww).mem_iff;refine x1.trans ?_;rw [← x2];exact x3.trans x4
theorem ZV : ∀ (as : List AR) {vs : List V} {E0 E E' : zQ} {ss : List Slot} {T : Fz},E.length = σ.length → AV σ as vs → zI as ss E0 E = .ok E' → FR K mg M H (T ++ ((vs.map some).zip ss ++ σ.zip E)) →
  FR K mg M H (T ++ σ.zip E') ∧ (∀ b,b ∈ zx (T ++ σ.zip E') → b ∈ zx (T ++ ((vs.map some).zip ss ++ σ.zip E))) ∧ E'.length = σ.length
 | [],vs,E0,E,E',ss,T,hl,av,e,f => by
  cases ss with
  | cons _ _ => cases e
  | nil =>
   cases e;simp only [AV] at av; subst av;exact ⟨f,fun b q => q,hl⟩
 | .tmp d :: as,vs,E0,E,E',ss,T,hl,av,e,f => by
  simp only [AV] at av;obtain ⟨v,r,rfl,av⟩ := av;cases ss with
  | nil => cases e
  | cons s ss =>
   simp only [zI] at e;have sub : (T ++ ((r.map some).zip ss ++ σ.zip E)).Sublist (T ++ (((some v,s) :: (r.map some).zip ss) ++ σ.zip E)) := (sublist_cons_self _ _).append_left _;obtain ⟨g1,g2,g3⟩ := ZV as hl av e (f.sub sub);exact ⟨g1,fun b q => zB sub b (g2 b q),g3⟩
 | .ln i :: as,vs,E0,E,E',ss,T,hl,av,e,f => by
  simp only [AV] at av;obtain ⟨v,r,rfl,hv,av⟩ := av;cases ss with
  | nil => cases e
  | cons s' ss =>
   simp only [zI] at e;cases e0 : E0[i]? with
   | none => rw [e0] at e; cases e
   | some s =>
    rw [e0] at e;dsimp only at e;cases e1 : s.list? with
    | none => rw [e1] at e; cases e
    | some ds0 =>
     cases e2 : s'.list? with
     | none => rw [e1,e2] at e; cases e
     | some ds =>
      cases e3 : E[i]? with
      | none => rw [e1,e2,e3] at e; cases e
      | some se =>
       rw [e1,e2,e3] at e;cases se with
       | emp =>
        dsimp only at e;obtain ⟨o,h1,h2⟩ := wU hl e3;have ho : o = some v := by rw [hv] at h1; exact (Option.some.inj h1).symm
        subst ho;have ez : σ.zip (E.set i (s.put ds)) = (σ.zip E).set i (some v,s.put ds) := zy _ hv;have hp : (s.put ds).list? = some ds := (ZT (p := 0) e1).2;have pA : (T ++ (((some v,s') :: (r.map some).zip ss) ++ σ.zip E)).Perm ((some v,s') :: ((T ++ (r.map some).zip ss) ++ σ.zip E)) := by
         rw [append_assoc];exact perm_middle
        have f1 := (f.perm pA).lab e2 hp;have pB : ((some v,s.put ds) :: ((T ++ (r.map some).zip ss) ++ σ.zip E)).Perm ((some v,Slot.emp) :: ((T ++ (r.map some).zip ss) ++ σ.zip (E.set i (s.put ds)))) := by
         rw [ez]; exact WT h2
        have f2 := (f1.perm pB).tail;rw [append_assoc] at f2;obtain ⟨g1,g2,g3⟩ := ZV as (by simp [hl]) av e f2;refine ⟨g1,fun b q => ?_,g3⟩;have q1 := g2 b q;rw [← append_assoc] at q1;have q2 : b ∈ zx ((some v,Slot.emp) :: ((T ++ (r.map some).zip ss) ++ σ.zip (E.set i (s.put ds)))) := zB (sublist_cons_self _ _) b q1;have q3 := zA pB.symm b q2;rw [Jr e2 hp] at q3;exact zA pA.symm b q3
       | _ => cases e
def vB : List AR → List Nat
 | [] => []
 | .tmp _ :: as => vB as
 | .ln i :: as => i :: vB as
theorem ZW : ∀ (as : List AR) {E E' : zQ} {ss : List Slot},zJ as E = .ok (ss,E') → ∀ (k : Nat),k ∉ vB as → E'[k]? = E[k]?
 | [],E,E',ss,e,k,h => by cases e; rfl
 | .tmp d :: as,E,E',ss,e,k,h => by
  simp only [zJ] at e;cases e1 : zJ as E with
  | stuck => rw [e1] at e; cases e
  | exc _ _ => rw [e1] at e; cases e
  | ok p =>
   obtain ⟨ss1,E1⟩ := p;rw [e1] at e; cases e;exact ZW as e1 k h
 | .ln i :: as,E,E',ss,e,k,h => by
  simp only [zJ] at e;cases e0 : E[i]? with
  | none => rw [e0] at e; cases e
  | some s =>
   rw [e0] at e;dsimp only at e;cases e2 : s.list? with
   | none => rw [e2] at e; cases e
   | some ds =>
    rw [e2] at e;dsimp only at e;cases e1 : zJ as (E.set i .emp) with
    | stuck => rw [e1] at e; cases e
    | exc _ _ => rw [e1] at e; cases e
    | ok p =>
     obtain ⟨ss1,E1⟩ := p;rw [e1] at e; cases e;simp only [vB,mem_cons,not_or] at h;rw [ZW as e1 k h.2,getElem?_set_ne (fun q => h.1 q.symm)]
theorem Js : ∀ (as : List AR) {E0 E E' : zQ} {ss : List Slot},zI as ss E0 E = .ok E' → ∀ (k : Nat),E'[k]? = E[k]? ∨ ∃ (s : Slot) (ds : List D),E0[k]? = some s ∧ E'[k]? = some (s.put ds)
 | [],E0,E,E',ss,e,k => by
  cases ss with
  | cons _ _ => cases e
  | nil => cases e; exact .inl rfl
 | .tmp d :: as,E0,E,E',ss,e,k => by
  cases ss with
  | nil => cases e
  | cons s ss => exact Js as e k
 | .ln i :: as,E0,E,E',ss,e,k => by
  cases ss with
  | nil => cases e
  | cons s' ss =>
   simp only [zI] at e;cases e0 : E0[i]? with
   | none => rw [e0] at e; cases e
   | some s =>
    rw [e0] at e;dsimp only at e;cases e1 : s.list? with
    | none => rw [e1] at e; cases e
    | some ds0 =>
     cases e2 : s'.list? with
     | none => rw [e1,e2] at e; cases e
     | some ds =>
      cases e3 : E[i]? with
      | none => rw [e1,e2,e3] at e; cases e
      | some se =>
       rw [e1,e2,e3] at e;cases se with
       | emp =>
        dsimp only at e;rcases Js as e k with q | q
        ·by_cases ek : i = k
         ·subst ek
          have hlt : i < E.length := (List.getElem?_eq_some_iff.mp e3).1;rw [getElem?_set_self hlt] at q;exact .inr ⟨s,ds,e0,q⟩
         ·rw [getElem?_set_ne ek] at q
          exact .inl q
        ·exact .inr q
       | _ => cases e
theorem YK : ∀ (as : List AR) {E0 E E' : zQ} {ss : List Slot},zI as ss E0 E = .ok E' → ∀ (k : Nat),k ∈ vB as → ∃ (s : Slot) (ds : List D),E0[k]? = some s ∧ E'[k]? = some (s.put ds)
 | [],E0,E,E',ss,e,k,h => by cases h
 | .tmp d :: as,E0,E,E',ss,e,k,h => by
  cases ss with
  | nil => cases e
  | cons s ss => exact YK as e k h
 | .ln i :: as,E0,E,E',ss,e,k,h => by
  cases ss with
  | nil => cases e
  | cons s' ss =>
   simp only [zI] at e;cases e0 : E0[i]? with
   | none => rw [e0] at e; cases e
   | some s =>
    rw [e0] at e;dsimp only at e;cases e1 : s.list? with
    | none => rw [e1] at e; cases e
    | some ds0 =>
     cases e2 : s'.list? with
     | none => rw [e1,e2] at e; cases e
     | some ds =>
      cases e3 : E[i]? with
      | none => rw [e1,e2,e3] at e; cases e
      | some se =>
       rw [e1,e2,e3] at e;cases se with
       | emp =>
        dsimp only at e;by_cases ek : i = k
        ·subst ek
         rcases Js as e i with q | q
         ·have hlt : i < E.length := (List.getElem?_eq_some_iff.mp e3).1
          rw [getElem?_set_self hlt] at q;exact ⟨s,ds,e0,q⟩
         ·exact q
        ·simp only [vB,mem_cons] at h
         rcases h with h | h
         ·exact absurd h.symm ek
         ·exact YK as e k h
       | _ => cases e
theorem G9 {as : List AR} {E1 E2 E3 : zQ} {ss outs : List Slot} (h1 : zJ as E1 = .ok (ss,E2)) (h2 : zI as outs E1 E2 = .ok E3) : PKp σ E1 σ E3 := fun k ds e => by
 refine ⟨?_,rfl⟩;by_cases hk : k ∈ vB as
 ·obtain ⟨s,es,q1,q2⟩ := YK as h2 k hk
  rw [e] at q1; cases q1;exact ⟨es,q2⟩
 ·rcases Js as h2 k with q | ⟨s,es,q1,q2⟩
  ·rw [q,ZW as h1 k hk]; exact ⟨ds,e⟩
  ·rw [e] at q1; cases q1
   exact ⟨es,q2⟩
abbrev MF := List Slot → Out (R × List Slot)
def spM (K : PySem.W.Frag) (mg : Str → Option Value) (n : Nat) (F : MF) : Sp := fun vs H Q XQ => vs.length = n ∧ ∃ (M : Addr → Prop) (ss : List Slot),ss.length = vs.length ∧ FR K mg M H ((vs.map some).zip ss) ∧ match F ss with
 | .stuck => False
 | .ok (r,outs) => ∀ v H',outs.length = vs.length → FR K mg M H' ((some v,r.slot) :: (vs.map some).zip outs) → Step M H ((vs.map some).zip ss) H' ((some v,r.slot) :: (vs.map some).zip outs) → Q v H'
 | .exc x _ => ∀ C H',mg x.cls = some (.ref C) → FR K mg M H' [] → Step M H ((vs.map some).zip ss) H' [] → XQ (.ref C) none H'
inductive Arg where
 | ev (m : ME)
 | lend (i : Nat)
def zj : List Arg → zQ → Out (List AR × zQ)
 | [],E => .ok ([],E)
 | .ev m :: as,E => match m E with
  | .stuck => .stuck
  | .exc x E1 => .exc x E1
  | .ok (r,E1) => match zj as E1 with
   | .ok (ars,E2) => .ok (.tmp r.d :: ars,E2)
   | .exc x E2 => .exc x E2
   | .stuck => .stuck
 | .lend i :: as,E => if wv E[i]? = true then .stuck else match zj as E with
  | .ok (ars,E2) => .ok (.ln i :: ars,E2)
  | .exc x E2 => .exc x E2
  | .stuck => .stuck
def tArgs (X : Cx) (as : List Arg) : TA := fun σ H Q => ∃ M E,E.length = σ.length ∧ FR X.K X.mg M H (σ.zip E) ∧ match zj as E with
 | .stuck => False
 | .ok (ars,E') => ∀ vs H',AV σ ars vs → Got X.K X.mg M σ E H [] σ E' H' (zi vs ars) → Q vs H'
 | .exc x E' => ∀ H',Got X.K X.mg M σ E H [] σ E' H' [] → XE X σ H' x
abbrev zCE (X : Cx) (es : List Expr) (as : List Arg) : Prop := PA X es (tArgs X as)
theorem YL {as : List Arg} {Q : List V → Hp → Prop} (hl : E.length = σ.length) (h : FR X.K X.mg M H (T0 ++ σ.zip E))
  (k : match zj as E with | .stuck => False | .ok (ars,E') => ∀ vs H',AV σ ars vs → Got X.K X.mg M σ E H T0 σ E' H' (zi vs ars) → Q vs H' | .exc x E' => ∀ H',Got X.K X.mg M σ E H T0 σ E' H' [] → XE X σ H' x) : tArgs X as σ H Q := by
 refine ⟨Mo M T0,E,hl,h.inner,?_⟩;cases e : zj as E with
 | stuck => rw [e] at k; exact k
 | ok a => rw [e] at k; exact fun vs H' av g => k vs H' av (g.outer h)
 | exc x E' => rw [e] at k; exact fun H' g => k H' (g.outer h)
theorem ga_nil : zCE X [] [] := WN JY fun σ H Q ⟨M,E,hl,fr,k⟩ => k [] H (by simp only [AV]) (Got.refl (T0 := []) hl fr)
theorem ga_ev {e : Expr} {es : List Expr} {m : ME} {as : List Arg} (he : EOk X e m) (hr : zCE X es as) (hs : zR e = false := by rfl) : zCE X (e :: es) (.ev m :: as) := WN (yc he hr (zN hs)) fun σ H Q ⟨M,E,hl,fr,k⟩ => by
 simp only [zj] at k;refine zt (T0 := []) hl fr ?_;cases ea : m E with
 | stuck => rw [ea] at k; exact k
 | exc x E1 => rw [ea] at k; exact k
 | ok p =>
  obtain ⟨r1,E1⟩ := p;rw [ea] at k;intro x H1 g0;have g1 : Got X.K X.mg M σ E H [] σ E1 H1 [(some x,.val r1.d)] := ⟨g0.len,g0.fr.frz,g0.st.frz,g0.pk⟩;refine YL (T0 := [(some x,.val r1.d)]) g1.len g1.fr ?_;dsimp only at k;cases eb : zj as E1 with
  | stuck => rw [eb] at k; exact k
  | exc x E2 => rw [eb] at k; exact fun H' g => k H' (g1.trans' g).dropAll
  | ok p =>
   obtain ⟨ars,E2⟩ := p;rw [eb] at k;intro vs H2 av g2;refine k (x :: vs) H2 (by simp only [AV]; exact ⟨x,vs,rfl,av⟩) ?_;exact (g1.trans' g2).perm (perm_append_comm)
theorem ga_lend {x : Str} {p : Pos} {es : List Expr} {i : Nat} {as : List Arg} (hv : PE X (.Name x p) (GJ i)) (hr : zCE X es as)  : zCE X (.Name x p :: es) (.lend i :: as) := WN (yc hv hr (zN rfl)) fun σ H Q ⟨M,E,hl,fr,k⟩ => by
 simp only [zj] at k;cases em : wv E[i]? with
 | true => rw [em] at k; exact k.elim
 | false =>
  rw [em] at k;simp only [Bool.false_eq_true,if_false] at k;obtain ⟨s,hs1,hs2⟩ := W9 em;obtain ⟨v,hv⟩ := G5 hl fr hs1 hs2;refine ⟨v,hv,?_⟩;refine YL (T0 := []) hl fr ?_;cases eb : zj as E with
  | stuck => rw [eb] at k; exact k
  | exc x E2 => rw [eb] at k; exact k
  | ok p =>
   obtain ⟨ars,E2⟩ := p;rw [eb] at k;intro vs H2 av g2;refine k (v :: vs) H2 (by simp only [AV]; exact ⟨v,vs,rfl,hv,av⟩) ?_;have em2 : Mo M ((some v,Slot.emp) :: (zi vs ars ++ ([] ++ σ.zip E2))) = Mo M (zi vs ars ++ ([] ++ σ.zip E2)) := Gs _ _ _;refine ⟨g2.len,⟨fun o d q => ?_,fun o t ds q e => ?_,?_,g2.fr.mal⟩,⟨?_,g2.st.keep⟩,g2.pk⟩
   ·show ∃ v',_ ∧ Rep X.K X.mg (Hm (Mo M ((some v,Slot.emp) :: (zi vs ars ++ ([] ++ σ.zip E2)))) H2) d v'
    rw [em2];rcases mem_cons.mp q with q | q
    ·cases q
    ·exact g2.fr.val o d q
   ·show ∃ a xs,_ ∧ _ ∧ _ ∧ Reps X.K X.mg (Hm (Mo M ((some v,Slot.emp) :: (zi vs ars ++ ([] ++ σ.zip E2)))) H2) ds xs
    rw [em2];rcases mem_cons.mp q with q | q
    ·cases q; cases e
    ·exact g2.fr.own o t ds q e
   ·show (zx ((some v,Slot.emp) :: (zi vs ars ++ ([] ++ σ.zip E2)))).Nodup
    rw [z3]; exact g2.fr.nd
   ·show JJ _ (Hm (Mo M ((some v,Slot.emp) :: (zi vs ars ++ ([] ++ σ.zip E2)))) H2)
    rw [em2]; exact g2.st.same
def YM : List AR → Bool
 | [] => true
 | .tmp _ :: as => YM as
 | .ln _ :: _ => false
theorem Y6 : ∀ {as : List AR} {E E' : zQ} {ss : List Slot},YM as = true → zJ as E = .ok (ss,E') → E' = E
 | [],E,E',ss,_,e => by cases e; rfl
 | .tmp d :: as,E,E',ss,h,e => by
  simp only [zJ] at e;cases q : zJ as E with
  | stuck => rw [q] at e; cases e
  | exc _ _ => rw [q] at e; cases e
  | ok p => obtain ⟨s1,E1⟩ := p; rw [q] at e; cases e; exact Y6 (as := as) h q
 | .ln i :: as,E,E',ss,h,e => by cases h
def jK (F : MF) (as : List Arg) : ME := fun E => match zj as E with
 | .stuck => .stuck
 | .exc x E1 => .exc x E1
 | .ok (ars,E1) => match zJ ars E1 with
  | .ok (ss,E2) => match F ss with
   | .ok (r,outs) => match zI ars outs E1 E2 with
    | .ok E3 => .ok (r,E3)
    | _ => .stuck
   | .exc x _ => if YM ars = true then .exc ⟨x.cls,false⟩ E1 else .stuck
   | .stuck => .stuck
  | _ => .stuck
theorem zBF {F : MF} {n : Nat} {ars : List AR} {E1 E2 E3 : zQ} {ss outs : List Slot} {r : R} {vs : List V} {H1 : Hp} {Q : VK} {XQ : XK} (hn : ars.length = n) (e1 : zJ ars E1 = .ok (ss,E2)) (e2 : F ss = .ok (r,outs)) (e3 : zI ars outs E1 E2 = .ok E3)
  (av : AV σ ars vs) (g : Got K mg M σ E H [] σ E1 H1 (zi vs ars)) (k : ∀ v H',Got K mg M σ E H [] σ E3 H' [(some v,r.slot)] → Q v H') : spM K mg n F vs H1 Q XQ := by
 obtain ⟨f1,o1,l1,l2⟩ := YJ (T := []) ars g.len av e1 g.fr;have f1' : FR K mg M H1 (σ.zip E2 ++ (vs.map some).zip ss) := FR.perm (T := σ.zip E2 ++ (vs.map some).zip ss) (Z := (vs.map some).zip ss ++ σ.zip E2) f1 perm_append_comm;have hlen := av.length;refine ⟨hlen.trans hn,Mo M (σ.zip E2),ss,l1.trans hlen.symm,f1'.inner,?_⟩;rw [e2];intro v H' ol f2 s2;have f3 := FR.outer f1' f2 s2;have s3 := Step.outer s2;have p : (σ.zip E2 ++ ((some v,r.slot) :: (vs.map some).zip outs)).Perm ([(some v,r.slot)] ++ ((vs.map some).zip outs ++ σ.zip E2)) := by
  refine perm_append_comm.trans ?_;exact List.Perm.refl _
 obtain ⟨f4,o4,l4⟩ := ZV ars l2 av e3 (f3.perm p);refine k v H' ⟨l4,f4,?_,g.pk.trans (G9 e1 e3)⟩;have st1 : Step M H (σ.zip E) H1 (σ.zip E2 ++ (vs.map some).zip ss) := g.st.weak fun b hb => (o1 b).mpr (zA (T := σ.zip E2 ++ (vs.map some).zip ss) (Z := (vs.map some).zip ss ++ σ.zip E2) perm_append_comm b hb)
 have st2 := st1.trans s3;exact st2.weak fun b hb => zA p.symm b (o4 b hb)
theorem zBG {F : MF} {n : Nat} {ars : List AR} {E1 E2 : zQ} {ss outs : List Slot} {x : Exn} {vs : List V} {H1 : Hp} {Q : VK} {XQ : XK} (hn : ars.length = n) (hl : YM ars = true) (e1 : zJ ars E1 = .ok (ss,E2)) (e2 : F ss = .exc x outs)
  (av : AV σ ars vs) (g : Got K mg M σ E H [] σ E1 H1 (zi vs ars)) (k : ∀ C H',mg x.cls = some (.ref C) → Got K mg M σ E H [] σ E1 H' [] → XQ (.ref C) none H') : spM K mg n F vs H1 Q XQ := by
 obtain ⟨f1,o1,l1,l2⟩ := YJ (T := []) ars g.len av e1 g.fr;have f1' : FR K mg M H1 (σ.zip E2 ++ (vs.map some).zip ss) := FR.perm (T := σ.zip E2 ++ (vs.map some).zip ss) (Z := (vs.map some).zip ss ++ σ.zip E2) f1 perm_append_comm;have hlen := av.length;refine ⟨hlen.trans hn,Mo M (σ.zip E2),ss,l1.trans hlen.symm,f1'.inner,?_⟩;rw [e2];intro C H' hm f2 s2;have f3 := FR.outer f1' f2 s2;have s3 := Step.outer s2;rw [append_nil] at f3 s3;have st1 : Step M H (σ.zip E) H1 (σ.zip E2 ++ (vs.map some).zip ss) := g.st.weak fun b hb => (o1 b).mpr (zA (T := σ.zip E2 ++ (vs.map some).zip ss) (Z := (vs.map some).zip ss ++ σ.zip E2) perm_append_comm b hb)
 obtain rfl := Y6 hl e1;exact k C H' hm ⟨g.len,f3,st1.trans s3,g.pk⟩
theorem yj : ∀ (as : List Arg) {E E' : zQ} {ars : List AR},zj as E = .ok (ars,E') → ars.length = as.length
 | [],E,E',ars,e => by cases e; rfl
 | .ev m :: as,E,E',ars,e => by
  simp only [zj] at e;cases ea : m E with
  | stuck => rw [ea] at e; cases e
  | exc _ _ => rw [ea] at e; cases e
  | ok p =>
   obtain ⟨r,E1⟩ := p;rw [ea] at e;dsimp only at e;cases eb : zj as E1 with
   | stuck => rw [eb] at e; cases e
   | exc _ _ => rw [eb] at e; cases e
   | ok p => obtain ⟨a,b⟩ := p; rw [eb] at e; cases e; simp [yj as eb]
 | .lend i :: as,E,E',ars,e => by
  simp only [zj] at e;split at e
  ·cases e
  ·cases eb : zj as E with
   | stuck => rw [eb] at e; cases e
   | exc _ _ => rw [eb] at e; cases e
   | ok p => obtain ⟨a,b⟩ := p; rw [eb] at e; cases e; simp [yj as eb]
theorem zBH {F : MF} {n : Nat} {as : List Arg} {Q : VK} (hn : as.length = n) (h : tM X (jK F as) σ H Q) : tArgs X as σ H fun vs H1 => spM X.K X.mg n F vs H1 Q (EX X σ) := by
 obtain ⟨M,E,hl,fr,k⟩ := h;unfold jK at k;refine YL (T0 := []) hl fr ?_;cases ea : zj as E with
 | stuck => rw [ea] at k; exact k
 | exc x E1 => rw [ea] at k; exact k
 | ok p =>
  obtain ⟨ars,E1⟩ := p;rw [ea] at k;intro vs H1 av g;dsimp only at k;cases e1 : zJ ars E1 with
  | stuck => rw [e1] at k; exact k.elim
  | exc _ _ => rw [e1] at k; exact k.elim
  | ok p =>
   obtain ⟨ss,E2⟩ := p;rw [e1] at k;dsimp only at k;cases e2 : F ss with
   | stuck => rw [e2] at k; exact k.elim
   | exc x o =>
    rw [e2] at k;dsimp only at k;cases hl : YM ars with
    | false => rw [hl] at k; exact k.elim
    | true =>
     rw [hl] at k;exact zBG ((yj as ea).trans hn) hl e1 e2 av g fun C H' hm g' => ⟨⟨x.cls,false⟩,C,rfl,hm,rfl,k H' g'⟩
   | ok p =>
    obtain ⟨r,outs⟩ := p;rw [e2] at k;dsimp only at k;cases e3 : zI ars outs E1 E2 with
    | stuck => rw [e3] at k; exact k.elim
    | exc _ _ => rw [e3] at k; exact k.elim
    | ok E3 =>
     rw [e3] at k;exact zBF ((yj as ea).trans hn) e1 e2 e3 av g k
inductive Mask : Fz → Fz → Prop
 | nil (Z : Fz) : Mask Z []
 | keep {z : Option V × Slot} {Z W : Fz} : Mask Z W → Mask (z :: Z) (z :: W)
 | skip {z : Option V × Slot} {Z W : Fz} : Mask Z W → Mask (z :: Z) W
 | extra {o : Option V} {Z W : Fz} : Mask Z W → Mask Z ((o,.emp) :: W)
theorem Mask.emp {z : Option V × Slot} {o : Option V} {Z W : Fz} (h : Mask Z W) : Mask (z :: Z) ((o,.emp) :: W) := .skip (.extra h)
theorem Mask.sub : ∀ {Z W : Fz},Mask Z W → (zx W).Sublist (zx Z)
 | _,_,.nil Z => by simp [zx]
 | _,_,.keep (z := z) (Z := Z) (W := W) h => by
  have e : ∀ W : Fz,zx (z :: W) = zx [z] ++ zx W := fun W => zV [z] W
  rw [e Z,e W];exact h.sub.append_left _
 | _,_,.skip (z := z) (Z := Z) (W := W) h => by
  have e : ∀ W : Fz,zx (z :: W) = zx [z] ++ zx W := fun W => zV [z] W
  rw [e Z];exact h.sub.trans (sublist_append_right _ _)
 | _,_,.extra (Z := Z) (W := W) h => by
  rw [z3];exact h.sub
theorem Mask.mem : ∀ {Z W : Fz},Mask Z W → ∀ o s,s ≠ Slot.emp → (o,s) ∈ W → (o,s) ∈ Z
 | _,_,.nil Z,o,s,hs,h => by cases h
 | _,_,.keep h,o,s,hs,q => by
  rcases mem_cons.mp q with q | q
  ·subst q; exact mem_cons_self
  ·exact mem_cons_of_mem _ (h.mem o s hs q)
 | _,_,.skip h,o,s,hs,q => mem_cons_of_mem _ (h.mem o s hs q)
 | _,_,.extra h,o,s,hs,q => by
  rcases mem_cons.mp q with q | q
  ·cases q; exact absurd rfl hs
  ·exact h.mem o s hs q
theorem FR.mask {Z W : Fz} (f : FR K mg M H Z) (h : Mask Z W) : FR K mg M H W where
 val := fun o d q => by
  obtain ⟨v,e,r⟩ := f.val o d (h.mem o _ (by intro z; cases z) q);exact ⟨v,e,r.mono (yz (wo fun b hb => h.sub.subset hb))⟩
 own := fun o s ds q e => by
  obtain ⟨a,xs,e1,e2,e3,r⟩ := f.own o s ds (h.mem o s (by intro z; subst z; cases e) q) e;exact ⟨a,xs,e1,e2,e3,r.mono (yz (wo fun b hb => h.sub.subset hb))⟩
 nd := f.nd.sublist h.sub
 mal := f.mal
def zl : List Slot → zQ → List Slot
 | [],_ => []
 | .par _ :: ss,s :: E => s :: zl ss E
 | _ :: ss,_ :: E => .emp :: zl ss E
 | _ :: ss,[] => .emp :: zl ss []
def fnM (N : Nat) (body : MS) : MF := fun ss => match body (ss ++ replicate (N - ss.length) .emp) with
 | .ok (.ret r,E') => .ok (r,zl ss E')
 | .ok (.nx,E') => .ok (.val .non,zl ss E')
 | .exc x E' => .exc x (zl ss E')
 | _ => .stuck
theorem zg : ∀ (ss : List Slot) (E : zQ),(zl ss E).length = ss.length
 | [],_ => rfl
 | .par _ :: ss,s :: E => by simp [zl,zg ss E]
 | .emp :: ss,s :: E => by simp [zl,zg ss E]
 | .val _ :: ss,s :: E => by simp [zl,zg ss E]
 | .own _ :: ss,s :: E => by simp [zl,zg ss E]
 | .par _ :: ss,[] => by simp [zl,zg ss []]
 | .emp :: ss,[] => by simp [zl,zg ss []]
 | .val _ :: ss,[] => by simp [zl,zg ss []]
 | .own _ :: ss,[] => by simp [zl,zg ss []]
theorem Jt : ∀ (ss : List Slot) (vs : List (Option V)) (σ : St) (E : zQ),E.length = σ.length → vs.length = ss.length → (∀ (i : Nat) ds,ss[i]? = some (.par ds) → σ[i]? = vs[i]?) → Mask (σ.zip E) (vs.zip (zl ss E))
 | [],vs,σ,E,_,_,_ => by
  simp only [zl,List.zip_nil_right];exact .nil _
 | s :: ss,[],σ,E,_,h,_ => by simp at h
 | s :: ss,v :: vs,[],y :: E,h,_,_ => by simp at h
 | s :: ss,v :: vs,x :: σ,[],h,_,_ => by simp at h
 | s :: ss,v :: vs,[],[],h1,h2,h4 => by
  have ih := Jt ss vs [] [] rfl (by simpa using h2) fun i ds e => by
   have := h4 (i + 1) ds (by simpa using e);simpa using this
  cases s <;> exact .extra ih
 | s :: ss,v :: vs,x :: σ,y :: E,h1,h2,h4 => by
  have ih := Jt ss vs σ E (by simpa using h1) (by simpa using h2) fun i ds e => by
   have := h4 (i + 1) ds (by simpa using e);simpa using this
  cases s with
  | par ds =>
   have e := h4 0 ds rfl;simp at e;subst e;simp only [zl,zip_cons_cons];exact .keep ih
  | emp => simp only [zl,zip_cons_cons]; exact .emp ih
  | val d => simp only [zl,zip_cons_cons]; exact .emp ih
  | own ds => simp only [zl,zip_cons_cons]; exact .emp ih
theorem vC : ∀ n : Nat,(replicate n (none : Option V)).zip (replicate n Slot.emp) = replicate n (none,Slot.emp)
 | 0 => rfl
 | n + 1 => by simp [replicate_succ,vC n]
theorem ZX (n : Nat) : zx (replicate n ((none : Option V),Slot.emp)) = [] := by
 induction n with
 | zero => rfl
 | succ n ih => rw [replicate_succ,z3,ih]
theorem FR.emps (f : FR K mg M H Z) (n : Nat) : FR K mg M H (Z ++ replicate n (none,.emp)) := by
 have eo : zx (Z ++ replicate n (none,Slot.emp)) = zx Z := by rw [zV,ZX,append_nil]
 have em : Mo M (Z ++ replicate n (none,Slot.emp)) = Mo M Z := by unfold Mo; rw [eo]
 refine ⟨fun o d q => ?_,fun o s ds q e => ?_,by rw [eo]; exact f.nd,f.mal⟩
 ·rw [em]
  rcases mem_append.mp q with q | q
  ·exact f.val o d q
  ·have := eq_of_mem_replicate q; cases this
 ·rw [em]
  rcases mem_append.mp q with q | q
  ·exact f.own o s ds q e
  ·have := eq_of_mem_replicate q; cases this; cases e
theorem body_ok {N : List Str} {n : Nat} {body : MS} {vs : List V} {Q : VK} {XQ : XK} (hx : ∀ x σ' H',(∀ C,X.mg x.cls = some (.ref C) → XQ (.ref C) none H') → XE X σ' H' x) (h : spM X.K X.mg n (fnM N.length body) vs H Q XQ) : tS X body { nx := fun _ H' => Q .non H',rt := Q } (L2.yy N vs) H := by
 obtain ⟨hv,M,ss,hl,f,k⟩ := h;have e0 : (L2.yy N vs).zip (ss ++ replicate (N.length - ss.length) Slot.emp) = (vs.map some).zip ss ++ replicate (N.length - ss.length) (none,.emp) := by
  unfold L2.yy;rw [List.zip_append (by simp [hl]),hl,vC]
 have hE : (ss ++ replicate (N.length - ss.length) Slot.emp).length = (L2.yy N vs).length := by
  unfold L2.yy;simp [hl]
 have f0 : FR X.K X.mg M H ((L2.yy N vs).zip (ss ++ replicate (N.length - ss.length) Slot.emp)) := by rw [e0]; exact f.emps _
 have eo : ∀ b,b ∈ zx ((L2.yy N vs).zip (ss ++ replicate (N.length - ss.length) Slot.emp)) → b ∈ zx ((vs.map some).zip ss) := fun b hb => by
  rw [e0,zV,ZX,append_nil] at hb;exact hb
 refine ⟨M,ss ++ replicate (N.length - ss.length) Slot.emp,hE,f0,?_⟩;unfold fnM at k;have fin : ∀ {σ' : St} {E' : zQ} {H' : Hp} {v : V} {r : R},Got X.K X.mg M (L2.yy N vs) (ss ++ replicate (N.length - ss.length) Slot.emp) H [] σ' E' H' [(some v,r.slot)] →
   (∀ v H',(zl ss E').length = vs.length → FR X.K X.mg M H' ((some v,r.slot) :: (vs.map some).zip (zl ss E')) → Step M H ((vs.map some).zip ss) H' ((some v,r.slot) :: (vs.map some).zip (zl ss E')) → Q v H') → Q v H' := fun {σ' E' H' v r} g kk => by
  have mk : Mask (σ'.zip E') ((vs.map some).zip (zl ss E')) := Jt ss _ σ' E' g.len (by simp [hl]) fun i ds e => by
   have hi : i < ss.length := (List.getElem?_eq_some_iff.mp e).1;have e1 : (ss ++ replicate (N.length - ss.length) Slot.emp)[i]? = some (.par ds) := by rw [List.getElem?_append_left hi]; exact e
   have := (g.pk i ds e1).2;rw [this];unfold L2.yy;rw [List.getElem?_append_left (by simp; omega)]
  refine kk v H' (by rw [zg,hl]) (g.fr.mask (.keep mk)) ?_;exact (g.st.weak fun b hb => (Mask.keep mk).sub.subset hb).left eo
 cases eb : body (ss ++ replicate (N.length - ss.length) Slot.emp) with
 | stuck => rw [eb] at k; exact k
 | exc x E' =>
  rw [eb] at k;intro σ' H' g;refine hx x σ' H' fun C hm => k C H' hm (g.fr.sub (List.nil_sublist _)) ?_
  exact (g.st.weak fun b hb => by cases hb).left eo
 | ok p =>
  obtain ⟨fl,E'⟩ := p;rw [eb] at k;cases fl with
  | bk => exact k.elim
  | ct => exact k.elim
  | ret r => exact fun v σ' H' g => fin g k
  | nx => exact fun σ' H' g => fin (r := .val .non) (g.flat (d := .non) rfl) k
end
section
variable {P : Program} {w : World} {K : PySem.W.Frag} {mg : Str → Option Value} {base : Heap}
theorem fn_ok {c : Bool} {x qual : Str} {st : Stmt} {f : Addr} {fd : FuncData} {N ps : List Str} {k : Nat} {body : MS} (F : Fun K x qual st f fd) (S : FnScope N ps (zW st))
  (hb : ∀ (cdv : Value) (A : Around) (outer : List Env) (s : Shared) (H : Hp) (E : XK),(c = true → A.handled = none) → RoomN k (A.deeper (PyProof.Rows.envOfC qual (zW st) s.heap.objs.size f cdv)) →
   vx (cxN c P w K mg base N qual (zW st) f cdv A outer s H E) (yT st) body) : FnOkN c P w K mg base (k + 1) f fd ps (spM K mg ps.length (fnM N.length body)) := by
 obtain ⟨oc,od,kV,doc,pm,an,cdv,ct,osl,rfl,lk,hcd⟩ := F.ex;exact fn_ofN lk hcd S (fun vs H Q E h => h.1) fun A outer s H vs Q E hd hr h => ⟨_,hb cdv A outer s H E hd hr,body_ok (X := cxN c P w K mg base N qual (zW st) f cdv A outer s H E) (fun x σ' H' hE => zAu hE) h⟩
end
section
variable {X : Cx} {k : Nat} {f : Addr} {fd : FuncData} {ps : List Str} {F : MF} {x : Str} {p pos : Pos} {e : Expr} {es : List Expr} {as : List Arg}
theorem ok_call {c : Bool} (G : FnOkN c X.prog X.w X.K X.mg X.base k f fd ps (spM X.K X.mg ps.length F)) (hd : c = true → X.A.handled = none) (hr : RoomN k X.A) (hg : Gl X x) (hm : X.mg x = some (.ref f)) (hk : keepIn X.K (.ref f) = true) (hb : J2 X.K fd ps []) (ha : zCE X (e :: es) as) (hn : as.length = ps.length := by rfl)
  (hdb : (x == ("__debug__" : Str)) = false := by decide) (he : zR e = false := by rfl) (hpl : yY es = true := by rfl) : EOk X (.Call (.Name x p) (e :: es) [] pos) (jK F as) :=
 zn (zAt G hd hr hg hm hk hb ha hdb (zN he) (jJ hpl)) fun σ H Q => zBH hn
end
end DV
namespace DV
open PySem L2
section
variable {X : Cx} {σ : St} {H : Hp}
theorem ok_dic {pos : Pos} (h : PE X (.Dict [] [] pos) (fun _ H Q => ∀ p,H p = none → Q (.ref p) (upd H p (.dK [])))) : EOk X (.Dict [] [] pos) (eC .dic) := zn h fun σ H Q ⟨M,E,hl,fr,k⟩ => fun p hp => by
 refine k _ _ ((Got.refl (T0 := []) hl fr).more (T := [(some (.ref p),.val .dic)]) ((fr.grow hp).add ?_) (Step.newVal hp));simp only [Rep];exact ⟨p,rfl,zM.mpr ⟨wq fr hp,yK⟩⟩
end
end DV
namespace L2
open PySem PySem.Spec PyProof.Rows
theorem Inv.big {X : Cx} {pins : List (Addr × Obj)} {σ : St} {H : Hp} {s : Shared} (I : Inv X pins σ H s) : sysModules < s.heap.objs.size := by
 have h : mainGlobals < s.heap.objs.size := (I.mod.glob.keeps I.bk).lt;exact Nat.lt_trans (by decide) h
theorem pe_dicK {X : Cx} {pos : Pos} : PE X (.Dict [] [] pos) (fun _ H Q => ∀ p,H p = none → Q (.ref p) (upd H p (.dK []))) := fun pins s σ H Q I h =>
 wpAny_Dict_empty ⟨.ref s.heap.objs.size,_,I.laid (a := s.heap.objs.size) (o := .dK []) (t' := s.toks) (fun _ _ q => get?_push_of_some _ q) (le_refl _)
  ⟨zero_le _,beq_eq_false_iff_ne.mpr (Ne.symm (ne_of_lt I.big)),[],.nil,Heap.DictOf.new s.heap⟩,rfl,h _ (I.hok.fresh (le_refl _))⟩
def cxB (X : Cx) (N : List Str) (scope : Scope) (cl : List (Str × Addr)) (C : Addr) (ex : List Addr) (s : Shared) (H : Hp) : Cx :=
 { X with N := N,s₀ := s,H₀ := H,env := compEnvC scope cl C X.env,outer := X.stack,ex := ex,fn := fun y => scope.names.lookup y == some NameKind.cell,pn := [] }
theorem wX {prog : Program} {w : World} {A : Around} {R : Result → Shared → Prop} {s : Shared} {elt target iter : Expr} {ifs : List Expr} {scope : Scope} {pos : Pos} {it acc : Value} {env : Env} (I : Nat → Shared → Prop)
  (turn : ∀ n s,I n s → wpAny (model prog w) A (pyNext it) (fun r s₁ => match r with
   | none => R (.ok .next) s₁
   | some v => wpAny (model prog w) A (letOwnedTupleGo target it v) (fun _ s₁ => wpAny (model prog w) A (assign target env v) (fun _ s₂ =>
     wpAny (model prog w) A (forIn ifs true fun c r => if r = true then do let ok ← isTrue c env (eval c env); pure (ForInStep.yield ok) else pure (ForInStep.yield r)) (fun ok s₃ =>
      if ok = true then wpAny (model prog w) A (eval elt env) (fun x s₄ =>
       wpAny (model prog w) A (call (.builtin "list.append") [acc,x]) (fun _ s₅ => ∃ m,m < n ∧ I m s₅) (notedBy (model prog w) A env fun e s' => R (.error e) s') s₄) (notedBy (model prog w) A env fun e s' => R (.error e) s') s₃
      else ∃ m,m < n ∧ I m s₃) (notedBy (model prog w) A env fun e s' => R (.error e) s') s₂) (notedBy (model prog w) A env fun e s' => R (.error e) s') s₁) (notedBy (model prog w) A env fun e s' => R (.error e) s') s₁) (notedBy (model prog w) A env fun e s' => R (.error e) s') s)
  (n : Nat) (h : I n s) :
  codeAny (model prog w) A (.compLoop (.ListComp elt [⟨target,iter,ifs,0⟩] scope pos) 0 it acc env) R s := by
 refine codeAny_loop rfl I (fun n s hI => ?_) n h;show wpAny _ A ((compTurn (.ListComp elt [⟨target,iter,ifs,0⟩] scope pos) 0 it acc env).onRaise (fun x => do noteFrame x env; theTreesLotGoes x)) _ _ s;refine wpAny_noted ?_;rw [compTurn_list];refine wpAny_bind (wpAny_standAt (wpAny_bind (wpAny_mono (turn n s hI) (fun r s₁ h₁ => ?_) fun _ _ h' => h')));cases r with
 | none => exact wpAny_pure h₁
 | some v =>
  refine wpAny_bind (wpAny_mono h₁ (fun _ s₁' h₁' => ?_) fun _ _ h' => h');refine wpAny_bind (wpAny_mono h₁' (fun _ s₂ h₂ => wpAny_bind (wpAny_mono h₂ (fun ok s₃ h₃ => ?_) fun _ _ h' => h')) fun _ _ h' => h');cases ok with
  | false => exact wpAny_pure ⟨rfl,h₃⟩
  | true =>
   exact wpAny_bind (wpAny_bind (wpAny_mono h₃ (fun x s₄ h₄ => wpAny_bind (wpAny_mono h₄ (fun _ s₅ h₅ => wpAny_pure (wpAny_pure ⟨rfl,h₅⟩)) fun _ _ h' => h')) fun _ _ h' => h'))
def zCF (X : Cx) (ifs : List Expr) (t : TT) : Prop := ∀ (pins : List (Addr × Obj)) (s : Shared) (σ : St) (H : Hp) (Q : Bool → Hp → Prop),Inv X pins σ H s → t σ H Q →
 wpAny (model X.prog X.w) X.A (forIn ifs true fun c r => if r = true then do let ok ← isTrue c X.env (eval c X.env); pure (ForInStep.yield ok) else pure (ForInStep.yield r)) (TP X pins σ Q) X.xe s
theorem pif_nil {X : Cx} : zCF X [] (fun σ H Q => Q true H) := fun pins s σ H Q I h => wpAny_tests_nil ⟨H,I,h⟩
theorem pif_one {X : Cx} {c : Expr} {t : TT} (h : PT X c t) : zCF X [c] t := fun pins s σ H Q I q => wpAny_tests_one (h pins s σ H Q I q)
def yB (nl : Nat) (caps : List Nat) (σ : St) : St := replicate nl none ++ caps.map fun j => (σ[j]?).getD none
def zBI (nl : Nat) (caps : List Nat) (wi : TI) (g : TG) (tt : TT) (te : TE) : TE := fun σ H Q => wi σ H fun J H1 => ∀ D,H1 D = none → ∃ W : Nat → Nat → St → Hp → Prop,(∃ m,W 0 m (yB nl caps σ) (upd H1 D (.lst []))) ∧ ∀ i m σ' H',W i m σ' H' →
 (J.stop i H' ∧ Q (.ref D) H') ∨ (J.go i H' ∧ ∃ Nx : St → Hp → Prop,(∀ σ'' H'',Nx σ'' H'' → ∃ m',m' < m ∧ W (i + 1) m' σ'' H'') ∧ ∀ x H'',J.yld i H' x H'' → g x σ' H'' fun σ2 H2 =>
  tt σ2 H2 fun b H3 => if b = true then te σ2 H3 fun y H4 => ∃ ys,H4 D = some (.lst ys) ∧ ys.length < sizeLine ∧ Nx σ2 (upd H4 D (.lst (ys ++ [y]))) else Nx σ2 H3)
theorem wL {env : Env} : ∀ {names : List (Str × NameKind)} {x : Str} {k : NameKind},(names.map fun (n,k) => if (k == NameKind.free && env.scope.kind == .function && env.kindOf n == some .cell) then (n,NameKind.cell) else (n,k)).lookup x = some k →
  ∃ k0,names.lookup x = some k0 ∧ (k = k0 ∨ (k0 = .free ∧ k = .cell))
 | [],_,_,h => by simp at h
 | (n,k1) :: r,x,k,h => by
  have ih := @wL env r x k;rw [map_cons] at h;by_cases hc : (k1 == NameKind.free && env.scope.kind == .function && env.kindOf n == some .cell) = true
  ·simp only [hc,if_true] at h
   cases hx : x == n with
   | true =>
    simp only [lookup_cons,hx] at h ⊢;cases h;refine ⟨k1,rfl,.inr ⟨?_,rfl⟩⟩;simp only [Bool.and_eq_true,beq_iff_eq] at hc;exact hc.1.1
   | false => simp only [lookup_cons,hx] at h ⊢; exact ih h
  ·have hc' : (k1 == NameKind.free && env.scope.kind == .function && env.kindOf n == some .cell) = false := by simpa using hc
   simp only [hc',Bool.false_eq_true,if_false] at h;cases hx : x == n with
   | true => simp only [lookup_cons,hx] at h ⊢; cases h; exact ⟨k1,rfl,.inl rfl⟩
   | false => simp only [lookup_cons,hx] at h ⊢; exact ih h
theorem Jd {env : Env} : ∀ {names : List (Str × NameKind)} {x : Str},names.lookup x = some .free → env.scope.kind = .function → env.kindOf x = some .cell →
  (names.map fun (n,k) => if (k == NameKind.free && env.scope.kind == .function && env.kindOf n == some .cell) then (n,NameKind.cell) else (n,k)).lookup x = some .cell
 | [],_,h,_,_ => by simp at h
 | (n,k1) :: r,x,h,hk,hc => by
  have ih := @Jd env r x;rw [map_cons];cases hx : x == n with
  | true =>
   have : x = n := by simpa using hx
   subst this;simp only [lookup_cons,hx] at h;cases h;have : (NameKind.free == NameKind.free && env.scope.kind == .function && env.kindOf x == some .cell) = true := by simp [hk,hc]
   simp only [this,if_true,lookup_cons,hx]
  | false =>
   simp only [lookup_cons,hx] at h;by_cases hcc : (k1 == NameKind.free && env.scope.kind == .function && env.kindOf n == some .cell) = true
   ·simp only [hcc,if_true,lookup_cons,hx]; exact ih h hk hc
   ·have hcc' : (k1 == NameKind.free && env.scope.kind == .function && env.kindOf n == some .cell) = false := by simpa using hcc
    simp only [hcc',Bool.false_eq_true,if_false,lookup_cons,hx]; exact ih h hk hc
def GF (env : Env) : List (Str × NameKind) → List (Str × Addr) → List (Str × Addr)
 | [],cs => cs
 | (n,k) :: r,cs => if k == .free then GF env r ((n,(env.cells.lookup n).getD 0) :: cs) else GF env r cs
theorem JN {env : Env} : ∀ (names : List (Str × NameKind)) (cs : List (Str × Addr)),(∀ y ∈ names,y.2 = .free → ∃ c,env.cells.lookup y.1 = some c) →
  (forIn names cs (fun x r => if (x.snd == NameKind.free) = true then do
    let c ← cellOf env x.fst
    pure (ForInStep.yield ((x.fst,c) :: r))
   else pure (ForInStep.yield r)) : Sem (List (Str × Addr))) = pure (GF env names cs)
 | [],cs,_ => by rfl
 | (n,k) :: r,cs,h => by
  rw [forIn_cons];dsimp only;by_cases hk : (k == NameKind.free) = true
  ·obtain ⟨c,hc⟩ := h (n,k) mem_cons_self (by simpa using hk)
   have ec : cellOf env n = pure c := by unfold cellOf; rw [hc]
   rw [if_pos hk,ec];show (forIn r ((n,c) :: cs) _ : Sem (List (Str × Addr))) = _;rw [JN r _ fun y hy => h y (mem_cons_of_mem _ hy)]
   conv => rhs; unfold GF
   rw [if_pos hk,hc];rfl
  ·rw [if_neg hk]
   show (forIn r cs _ : Sem (List (Str × Addr))) = _
   rw [JN r _ fun y hy => h y (mem_cons_of_mem _ hy)]
   conv => rhs; unfold GF
   rw [if_neg hk]
theorem jT {env : Env} : ∀ (names : List (Str × NameKind)) (cs : List (Str × Addr)) (x : Str),(∀ y ∈ names,y.2 = .free → ∃ c,env.cells.lookup y.1 = some c) → (∀ c,cs.lookup x = some c → env.cells.lookup x = some c) →
  (∀ c,(GF env names cs).lookup x = some c → env.cells.lookup x = some c) ∧ (((∃ c,cs.lookup x = some c) ∨ ∃ y ∈ names,y.1 = x ∧ y.2 = .free) → ∃ c,(GF env names cs).lookup x = some c)
 | [],cs,x,_,hcs => ⟨hcs,fun h => h.elim id fun ⟨y,hy,_⟩ => by cases hy⟩
 | (n,k) :: r,cs,x,h,hcs => by
  unfold GF;by_cases hk : (k == NameKind.free) = true
  ·rw [if_pos hk]
   obtain ⟨c,hc⟩ := h (n,k) mem_cons_self (by simpa using hk);have ih := jT r ((n,(env.cells.lookup n).getD 0) :: cs) x (fun y hy => h y (mem_cons_of_mem _ hy)) (fun c' e => by
    rw [lookup_cons] at e;cases hx : x == n with
    | true =>
     have : x = n := by simpa using hx
     subst this;rw [hx] at e;simp only [hc,Option.getD_some] at e;rw [hc]; exact e
    | false => rw [hx] at e; exact hcs c' e)
   refine ⟨ih.1,fun q => ih.2 ?_⟩;rcases q with ⟨c',q⟩ | ⟨y,hy,q1,q2⟩
   ·left
    rw [lookup_cons];cases hx : x == n with
    | true => exact ⟨_,rfl⟩
    | false => exact ⟨c',q⟩
   ·rcases mem_cons.mp hy with hy | hy
    ·subst hy
     left
     have q1 : n = x := q1;subst q1;exact ⟨(env.cells.lookup n).getD 0,by rw [lookup_cons,beq_self_eq_true]⟩
    ·right; exact ⟨y,hy,q1,q2⟩
  ·rw [if_neg hk]
   have ih := jT r cs x (fun y hy => h y (mem_cons_of_mem _ hy)) hcs;refine ⟨ih.1,fun q => ih.2 ?_⟩;rcases q with q | ⟨y,hy,q1,q2⟩
   ·exact .inl q
   ·rcases mem_cons.mp hy with hy | hy
    ·subst hy
     exact absurd (by simpa using q2) hk
    ·exact .inr ⟨y,hy,q1,q2⟩
theorem YN : ∀ (names : List (Str × NameKind)) (h : Heap) (acc : List (Str × Addr)) (x : Str) (c : Addr),(cellsFrom h.objs.size names acc).lookup x = some c →
  acc.lookup x = some c ∨ ((x,NameKind.cell) ∈ names ∧ h.objs.size ≤ c ∧ (pushCells h names).IsCell c none)
 | [],h,acc,x,c,e => .inl e
 | (n,k) :: r,h,acc,x,c,e => by
  unfold cellsFrom at e;unfold pushCells;split at e
  ·rename_i hk
   rw [if_pos hk];have sz : (h.push { cls := .type "cell",data := .cell none }).objs.size = h.objs.size + 1 := size_push ..;rw [← sz] at e;rcases YN r (h.push { cls := .type "cell",data := .cell none }) _ x c e with q | ⟨q1,q2,q3⟩
   ·rw [lookup_cons] at q
    cases hx : x == n with
    | true =>
     rw [hx] at q; cases q;have hx' : x = n := by simpa using hx
     have hk' : k = .cell := by simpa using hk
     subst hx'; subst hk';exact .inr ⟨mem_cons_self,le_refl _,⟨_,pushCells_keeps _ _ _ _ (get?_push_size _ rfl),rfl⟩⟩
    | false => rw [hx] at q; exact .inl q
   ·exact .inr ⟨mem_cons_of_mem _ q1,by rw [sz] at q2; omega,q3⟩
  ·rename_i hk
   rw [if_neg hk];rcases YN r h acc x c e with q | ⟨q1,q2,q3⟩
   ·exact .inl q
   ·exact .inr ⟨mem_cons_of_mem _ q1,q2,q3⟩
theorem ZY : ∀ (names : List (Str × NameKind)) (n : Nat) (acc : List (Str × Addr)) (x : Str),(x,NameKind.cell) ∉ names → (cellsFrom n names acc).lookup x = acc.lookup x
 | [],n,acc,x,_ => rfl
 | (y,k) :: r,n,acc,x,h => by
  simp only [mem_cons,not_or] at h;unfold cellsFrom;split
  ·rename_i hk
   rw [ZY r _ _ x h.2,lookup_cons];cases hx : x == y with
   | true =>
    have hx' : x = y := by simpa using hx
    have hk' : k = .cell := by simpa using hk
    subst hx'; subst hk';exact absurd rfl h.1
   | false => rfl
  ·exact ZY r _ _ x h.2
theorem QA : ∀ (names : List (Str × NameKind)) (n : Nat) (acc : List (Str × Addr)) (x : Str) (c : Addr),(x,NameKind.cell) ∈ names → (cellsFrom n names acc).lookup x = some c → n ≤ c
 | [],_,_,_,_,h,_ => by cases h
 | (y,k) :: r,n,acc,x,c,h,e => by
  unfold cellsFrom at e;by_cases hr : (x,NameKind.cell) ∈ r
  ·split at e
   ·exact Nat.le_of_succ_le (QA r _ _ x c hr e)
   ·exact QA r _ _ x c hr e
  ·rcases mem_cons.mp h with q | q
   ·cases q
    rw [if_pos (by rfl),ZY r _ _ _ hr,lookup_cons,beq_self_eq_true] at e;cases e; exact le_refl _
   ·exact absurd q hr
theorem QB : ∀ (names : List (Str × NameKind)) (n : Nat) (acc : List (Str × Addr)),(∀ x y c,acc.lookup x = some c → acc.lookup y = some c → x = y) → (∀ x c,acc.lookup x = some c → c < n) →
  ∀ x y c,(cellsFrom n names acc).lookup x = some c → (cellsFrom n names acc).lookup y = some c → x = y
 | [],n,acc,hi,_,x,y,c,e1,e2 => hi x y c e1 e2
 | (z,k) :: r,n,acc,hi,hb,x,y,c,e1,e2 => by
  unfold cellsFrom at e1 e2;split at e1
  ·refine QB r (n + 1) ((z,n) :: acc) (fun x y c e1 e2 => ?_) (fun x c e => ?_) x y c e1 (by rename_i hk; rwa [if_pos hk] at e2)
   ·rw [lookup_cons] at e1 e2
    cases hx : x == z with
    | true =>
     rw [hx] at e1; cases e1;have hx' : x = z := by simpa using hx
     cases hy : y == z with
     | true =>
      have hy' : y = z := by simpa using hy
      rw [hx',hy']
     | false => rw [hy] at e2; exact absurd (hb y _ e2) (lt_irrefl _)
    | false =>
     rw [hx] at e1;cases hy : y == z with
     | true => rw [hy] at e2; cases e2; exact absurd (hb x _ e1) (lt_irrefl _)
     | false => rw [hy] at e2; exact hi x y c e1 e2
   ·rw [lookup_cons] at e
    cases hx : x == z with
    | true => rw [hx] at e; cases e; exact lt_succ_self _
    | false => rw [hx] at e; exact lt_succ_of_lt (hb x c e)
  ·exact QB r n acc hi hb x y c e1 (by rename_i hk; rwa [if_neg hk] at e2)
theorem Jm {M : Model} {A : Around} {E : Value → Shared → Prop} {s : Shared} {scope : Scope} {globals : Addr} {cl : List (Str × Addr)} {qual : Str} {env : Env} {Q : Env → Shared → Prop}
  (hQ : Q (newEnv scope s.heap.objs.size globals (cellsFrom (s.heap.objs.size + 1) scope.names cl) qual none .none (some env) builtinsNs) { s with heap := pushCells (s.heap.push { cls := .type "dict",data := .dict #[] }) scope.names }) :
  wpAny M A (newFunctionEnv scope globals cl [] qual none .none (some env)) Q E s := by
 simp only [newFunctionEnv,Option.isSome_some,if_true];refine wpAny_bind (wpAny_alloc ?_);refine wpAny_bind (wpAny_layCells _ (fun name kind cells => by cases hkc : kind == NameKind.cell <;> simp [hkc]) _ _ _ _ ?_);rw [show ({ s with heap := s.heap.push { cls := .type "dict",data := .dict #[] } } : Shared).heap.objs.size = s.heap.objs.size + 1 from size_push ..]
 rw [List.forIn_nil];exact wpAny_bind (wpAny_pure (wpAny_pure hQ))
section
variable {X : Cx} {elt target iter : Expr} {ifs : List Expr} {scope : Scope} {pos : Pos} {nl : Nat} {caps : List Nat} {N' : List Str}
theorem WU {wi : TI} {g : TG} {tt : TT} {te : TE} {use : Option (Value → Sem Unit)} {QQ : Value → Shared → Prop} {pins : List (Addr × Obj)} {s : Shared} {σ : St} {H : Hp} {Q : VK} {p0 : Pos} (hx : ∀ e s,¬ X.xe e s) (hc : X.calm = true) (hkind : scope.kind = .function) (hnames : ∀ y ∈ scope.names,y.2 = .local → scope.names.lookup y.1 = some .local) (hcell : ∀ y ∈ scope.names,y.2 = .cell → scope.names.lookup y.1 = some .cell)
  (hfree : (scope.names.all fun y => y.2 != .free || X.env.kindOf y.1 == some .cell) = true)
  (hlen : N'.length = nl + caps.length) (hcap : ∀ (i j : Nat),caps[i]? = some j → ∃ x,N'[nl + i]? = some x ∧ X.N[j]? = some x ∧ scope.names.lookup x = some .free)
  (hi : PI X target iter wi) (hg : ∀ cl C ex s H,PG (cxB X N' scope cl C ex s H) target g) (ht : ∀ cl C ex s H,zCF (cxB X N' scope cl C ex s H) ifs tt) (he : ∀ cl C ex s H,PE (cxB X N' scope cl C ex s H) elt te)
  (hs : ∀ x,foldedSetIterable iter X.env x = pure x) (I : Inv X pins σ H s) (h : zBI nl caps wi g tt te σ H Q)
  (hfin : ∀ (D C : Addr) (H5 : Hp) (s6 : Shared) (m6 : Str → Option Value),Inv X pins σ H5 s6 → GB X pins H5 C → s6.heap.Ns C m6 → Q (.ref D) H5 → compPost (model X.prog X.w) X.A X.xe use QQ (.ref D) C (.ok .next) s6) :
  wpAny (model X.prog X.w) X.A (comprehension (.ListComp elt [⟨target,iter,ifs,0⟩] scope pos) scope X.env p0 (newList []) false (eval iter X.env) use) QQ X.xe s := by
 have hfr : ∀ y ∈ scope.names,y.2 = .free → X.env.kindOf y.1 = some .cell := fun y hy e => by
  have := all_eq_true.mp hfree y hy;rw [e] at this;simpa using this
 have hcl : ∀ y ∈ scope.names,y.2 = .free → ∃ c,X.env.cells.lookup y.1 = some c := fun y hy e => I.ok.has y.1 (.inl (hfr y hy e))
 have hclos : closureFor scope X.env = pure (GF X.env scope.names []) := by
  simp only [closureFor];rw [JN scope.names [] hcl];rfl
 have cl1 : ∀ x c,(GF X.env scope.names []).lookup x = some c → X.env.cells.lookup x = some c := fun x c e => (jT scope.names [] x hcl (fun _ z => by cases z)).1 c e
 have cl2 : ∀ x,(∃ y ∈ scope.names,y.1 = x ∧ y.2 = .free) → ∃ c,(GF X.env scope.names []).lookup x = some c := fun x q => (jT scope.names [] x hcl (fun _ z => by cases z)).2 (.inr q)
 generalize GF X.env scope.names [] = cl at hclos cl1 cl2;refine wpAny_comprehension_free (use := use) rfl hs hclos hkind hnames (thn (hi pins s σ H _ I h) fun xv s1 h1 => thn h1 fun itv s2 h2 => ?_);obtain ⟨it,fp,tn,J,H2,e,I2,T,st2,f2,turn⟩ := h2;subst e;refine wpAny_newObj_type (Jm ?_) (by show (#[] : Array Value).size ≤ sizeLine; simp);dsimp only;generalize hH3 : s2.heap.push { cls := .type "list",dict := none,data := .seq ([] : List Value).toArray } = h3;have hC : h3.objs.size = s2.heap.objs.size + 1 := by rw [← hH3,size_push]
 have hD : H2 s2.heap.objs.size = none := I2.hok.fresh (le_refl _);obtain ⟨W,⟨m0,w0⟩,step⟩ := turn s2.heap.objs.size hD
 -- the state at the block's entry
 have I3 : Inv X pins σ (upd H2 s2.heap.objs.size (.lst [])) { s2 with heap := h3 } := by
  rw [← hH3];exact I2.laid (t' := s2.toks) (fun b o q => get?_push_of_some _ q) (le_refl _) ⟨zero_le _,[],0,.nil,get?_push_size _ rfl⟩
 have hcfr : ∀ x,scope.names.lookup x = some .free → (x,NameKind.cell) ∉ scope.names := fun x e z => by
  have := hcell _ z rfl;rw [e] at this; cases this
 have szp : (h3.push { cls := .type "dict",data := .dict #[] }).objs.size = h3.objs.size + 1 := size_push ..;have cw : ∀ x c,(cellsFrom (h3.objs.size + 1) scope.names cl).lookup x = some c → cl.lookup x = some c ∨ ((x,NameKind.cell) ∈ scope.names ∧ h3.objs.size + 1 ≤ c ∧ (pushCells (h3.push { cls := .type "dict",data := .dict #[] }) scope.names).IsCell c none) := fun x c e => by
  rw [← szp] at e ⊢;exact YN _ _ _ x c e
 have cfr : ∀ x,scope.names.lookup x = some .free → (cellsFrom (h3.objs.size + 1) scope.names cl).lookup x = cl.lookup x := fun x e => ZY _ _ _ x (hcfr x e)
 have chas : ∀ x,scope.names.lookup x = some .cell → ∃ c,(cellsFrom (h3.objs.size + 1) scope.names cl).lookup x = some c := fun x e => by
  have := cellsFrom_some scope.names (h3.objs.size + 1) cl (x := x) (.inl e);exact Option.isSome_iff_exists.mp this
 have clt : ∀ x c,cl.lookup x = some c → c < h3.objs.size := fun x c e => by
  obtain ⟨v,q⟩ := I3.cell x c (cl1 x c e);exact q.lt
 have cinj := QB scope.names (h3.objs.size + 1) cl (fun x y c e1 e2 => I.ok.inj x y c (cl1 x c e1) (cl1 y c e2)) fun x c e => lt_succ_of_lt (clt x c e)
 have hns₁ : (pushCells (h3.push { cls := .type "dict",data := .dict #[] }) scope.names).Ns h3.objs.size fun _ => none := (Heap.Ns.new h3 (.type "dict")).keeps (pushCells_keeps _ _)
 have old : ∀ b o,h3.get? b = some o → (pushCells (h3.push { cls := .type "dict",data := .dict #[] }) scope.names).get? b = some o := fun b o e => pushCells_keeps _ _ b o (get?_push_of_some _ e)
 generalize hh1 : pushCells (h3.push { cls := .type "dict",data := .dict #[] }) scope.names = h₁ at hns₁ old cw ⊢;generalize hcs : cellsFrom (h3.objs.size + 1) scope.names cl = cs at cw cfr chas cinj ⊢;have fpD : ∀ b ∈ fp,b ≠ s2.heap.objs.size := fun b hb z => by
  obtain ⟨o,e,_⟩ := T.obj 0 s2.heap st2 b hb;subst z;exact absurd (lt_size e) (lt_irrefl _)
 have fp3 : ∀ b ∈ fp,upd H2 s2.heap.objs.size (.lst []) b = none := fun b hb => by rw [zY (fpD b hb)]; exact (f2 b hb).1
 have fpC : ∀ b ∈ fp,b ≠ h3.objs.size := fun b hb z => by
  obtain ⟨o,e,_⟩ := T.obj 0 s2.heap st2 b hb;have q : b < s2.heap.objs.size := lt_size e;rw [z,hC] at q;exact absurd q (not_lt.mpr (le_succ _))
 have hCn : upd H2 s2.heap.objs.size (.lst []) h3.objs.size = none := I3.hok.fresh (le_refl _);have fpok : ∀ b ∈ fp,(b ∈ X.ex ∨ X.s₀.heap.objs.size ≤ b) ∧ b ≠ X.env.locals ∧ (∀ x c,X.env.cells.lookup x = some c → c ≠ b) ∧ ∀ p ∈ X.pn ++ pins,p.1 ≠ b := fun b hb => by
  obtain ⟨_,q2,_,q4,q5,q6⟩ := f2 b hb;exact ⟨q4,q2,q5,q6⟩
 have fpH : ∀ b ∈ fp,b < h3.objs.size := fun b hb => by
  obtain ⟨o,e,_⟩ := T.obj 0 s2.heap st2 b hb;have q : b < s2.heap.objs.size := lt_size e;rw [hC]; exact lt_succ_of_lt q
 have fpcs : ∀ b ∈ fp,∀ x c,cs.lookup x = some c → c ≠ b := fun b hb x c e => by
  rcases cw x c e with q | ⟨_,q,_⟩
  ·exact (fpok b hb).2.2.1 x c (cl1 x c q)
  ·intro z; subst z
   exact absurd (lt_of_lt_of_le (fpH _ hb) (Nat.le_of_succ_le q)) (lt_irrefl _)
 let Y : Cx := cxB X N' scope cs h3.objs.size fp { s2 with heap := h3 } (upd H2 s2.heap.objs.size (.lst []))
 have kindY : ∀ x k,Y.env.kindOf x = some k → ∃ k0,scope.names.lookup x = some k0 ∧ (k = k0 ∨ (k0 = .free ∧ k = .cell)) := fun x k e => wL e
 have okY : Y.Ok := {
  mod := I.ok.mod
  kind := hkind
  glob := I.ok.glob
  blt := I.ok.blt
  above := le_refl _
  inj := cinj
  has := fun x q => by
   have : scope.names.lookup x = some .cell ∨ scope.names.lookup x = some .free := by
    rcases q with q | q
    ·obtain ⟨k0,e,z⟩ := kindY x _ q
     rcases z with z | z
     ·subst z; exact .inl e
     ·rw [z.1] at e; exact .inr e
    ·obtain ⟨k0,e,z⟩ := kindY x _ q
     rcases z with z | z
     ·subst z; exact .inr e
     ·rw [z.1] at e; exact .inr e
   rcases this with q | q
   ·exact chas x q
   ·obtain ⟨c,e⟩ := cl2 x ⟨(x,.free),PySem.mem_of_lookup q,rfl,rfl⟩
    exact ⟨c,by show cs.lookup x = _; rw [cfr x q]; exact e⟩
  cab := fun x c z e => by
   have z : scope.names.lookup x = some .cell := by
    have z : (scope.names.lookup x == some NameKind.cell) = true := z;simpa using z
   have e : cs.lookup x = some c := e;rw [← hcs] at e;exact le_trans (le_succ _) (QA _ _ _ x c (PySem.mem_of_lookup z) e)
  hd := I.ok.hd
  frames := I.ok.frames
  stk := .inl rfl
  exf := fun b hb => ⟨fpC b hb,fpcs b hb⟩
  bs := fun b o e => I3.bs b o e
  bsz := le_trans I.ok.bsz I3.sz
  noex := fun b o e hb => by
   obtain ⟨q,_⟩ := fpok b hb;rcases q with q | q
   ·exact I.ok.noex b o e q
   ·exact absurd (lt_of_lt_of_le (lt_size e) I.ok.bsz) (not_lt.mpr q)
  exfs := fun b hb z => by
   have := I2.stkSub b z;rcases mem_cons.mp this with q | q
   ·exact (fpok b hb).2.1 q
   ·exact (f2 b hb).2.2.1 q
  funs := I3.stack
  frf := I3.stkFree }
 have keep1 : ∀ b o,h3.get? b = some o → h₁.get? b = some o := old;have lenY : (yB nl caps σ).length = N'.length := by unfold yB; simp [hlen]
 have IY : Inv Y [] (yB nl caps σ) (upd H2 s2.heap.objs.size (.lst [])) { s2 with heap := h₁ } := {
  ok := okY
  os := rfl
  bare := I3.bare
  base := Un.kept keep1
  loc := by
   refine ⟨_,hns₁,fun i x v e1 e2 e3 => ?_⟩;have e1 : N'[i]? = some x := e1;have hi : nl ≤ i := by
    by_cases z : nl ≤ i
    ·exact z
    ·unfold yB at e2
     rw [List.getElem?_append_left (by simp; omega),List.getElem?_replicate] at e2;split at e2 <;> cases e2
   unfold yB at e2;rw [List.getElem?_append_right (by simpa using hi),List.length_replicate,getElem?_map] at e2;cases ej : caps[i - nl]? with
   | none => rw [ej] at e2; cases e2
   | some j =>
    rw [ej] at e2;simp only [Option.map_some,Option.some.injEq] at e2;obtain ⟨x',c1,c2,c3⟩ := hcap (i - nl) j ej;have ex : x' = x := by
     rw [show nl + (i - nl) = i by omega,e1] at c1;exact (Option.some.inj c1).symm
    subst ex;have e4 : σ[j]? = some (some v) := by
     cases z : σ[j]? with
     | none => rw [z] at e2; cases e2
     | some o => rw [z] at e2; simp at e2; rw [e2]
    have kx : X.env.kindOf x' = some .cell := hfr (x',.free) (PySem.mem_of_lookup c3) rfl;obtain ⟨mm,_,lk⟩ := I3.loc;obtain ⟨u,ru,lu⟩ := lk j x' v c2 e4 (.inr (.inl kx));refine ⟨u,ru,?_⟩;rcases lu with ⟨z,_⟩ | ⟨_,c,d1,d2⟩
    ·rw [kx] at z; cases z
    ·obtain ⟨c',d3⟩ := cl2 x' ⟨(x',.free),PySem.mem_of_lookup c3,rfl,rfl⟩
     have : c' = c := by have := cl1 x' c' d3; rw [d1] at this; exact (Option.some.inj this).symm
     subst this;exact .inr ⟨.inl (Jd c3 I.ok.kind kx),c',by show cs.lookup _ = _; rw [cfr x' c3]; exact d3,d2.keeps old⟩
  cell := fun x c e => by
   rcases cw x c e with e | ⟨_,_,q⟩
   ·obtain ⟨v,q⟩ := I3.cell x c (cl1 x c e)
    exact ⟨v,q.keeps old⟩
   ·exact ⟨_,q⟩
  free := hCn
  freeC := fun x c e => by
   rcases cw x c e with e | ⟨_,q,_⟩
   ·exact I3.freeC x c (cl1 x c e)
   ·exact I3.hok.fresh (le_trans (le_succ _) q)
  pin := fun p hp => absurd (show p ∈ ([] : List (Addr × Obj)) from hp) (by simp)
  hok := I3.hok.kept old
  len := lenY }
 have st1 : tn 0 h₁ := T.keep 0 s2.heap h₁ st2 fun b hb o e => old b o (by rw [← hH3]; exact get?_push_of_some _ e)
 have fpY : ∀ {H' : Hp},(∀ b ∈ fp,H' b = none) → ∀ b ∈ fp,GB Y [] H' b := fun hn b hb =>
  ⟨hn b hb,fpC b hb,okY.exfs b hb,.inl hb,fpcs b hb,fun p hp => absurd (show p ∈ ([] : List (Addr × Obj)) from hp) (by simp)⟩
 have hA : Y.A = X.A := rfl;have noE : ∀ {E' : Value → Shared → Prop} {e : Value} {s : Shared},X.xe e s → E' e s := fun q => absurd q (hx _ _)
 have fin : ∀ s₄ : Shared,s₄ = { s2 with heap := h₁ } →
   codeAny (model X.prog X.w) X.A (.compLoop (.ListComp elt [⟨target,iter,ifs,0⟩] scope pos) 0 (.ref it) (.ref s2.heap.objs.size) Y.env)
    (compPost (model X.prog X.w) X.A X.xe use QQ (.ref s2.heap.objs.size) h3.objs.size) s₄ := by
  rintro s₄ rfl
  refine wX (fun n s' => ∃ i σ' H',Inv Y [] σ' H' s' ∧ tn i s'.heap ∧ (∀ b ∈ fp,H' b = none) ∧ W i n σ' H') ?_ m0 ⟨0,yB nl caps σ,_,IY,st1,fp3,w0⟩
  rintro n s5 ⟨i,σ5,H5,I5,st5,fr5,w5⟩
  rcases step i n σ5 H5 w5 with ⟨stop,q⟩ | ⟨go,Nx,hN,turn⟩
  ·refine wpAny_mono (T.done Y rfl rfl rfl hc i [] s5 σ5 H5 (fun _ _ => False) I5 (fpY fr5) st5 stop) (fun r s6 ⟨hr,I6⟩ => ?_) (fun _ _ z => z.elim)
   subst hr;obtain ⟨m6,n6,_⟩ := I6.loc;have u : Un (frs X.stack) fp (upd H2 s2.heap.objs.size (.lst [])) H5 h3 s6.heap := I6.base;have I7 : Inv X pins σ H5 s6 := I3.call' (s' := s6) (ch := fp) I6.os u I6.hok I6.bare fpok;exact hfin _ _ H5 s6 m6 I7 (I3.fpOk (le_refl _) I6.free) n6 q
  ·refine wpAny_mono (T.item Y rfl rfl rfl hc i [] s5 σ5 H5 (fun _ _ => False) I5 (fpY fr5) st5 go) (fun r s6 ⟨u,hr,h6⟩ => ?_) (fun _ _ z => z.elim)
   subst hr;refine wpAny_mono h6 (fun _ s7 ⟨x,H7,I7,r7,y7,st7,fr7⟩ => ?_) (fun _ _ z => z.elim);have I7' := I7.pinned (fpY fr7) (T.obj _ _ st7);refine wpAny_mono (hg _ _ _ _ _ _ s7 σ5 H7 x u _ I7' r7 (turn x H7 y7)) (fun _ s8 ⟨σ8,H8,I8,q8⟩ => ?_) (fun _ _ z => noE z);refine wpAny_mono (ht _ _ _ _ _ _ s8 σ8 H8 _ I8 q8) (fun b s9 ⟨H9,I9,q9⟩ => ?_) (fun _ _ z => noE z);have again : ∀ {σ7 : St} {H' : Hp} {s' : Shared},Inv Y ([] ++ WA fp s7.heap) σ7 H' s' → Nx σ7 H' → ∃ m,m < n ∧ ∃ i σ' H',Inv Y [] σ' H' s' ∧ tn i s'.heap ∧ (∀ b ∈ fp,H' b = none) ∧ W i m σ' H' := fun {σ7 H' s'} I' n7 => by
    obtain ⟨m',hm,w7⟩ := hN σ7 H' n7;refine ⟨m',hm,i + 1,σ7,H',I'.unpinned,T.keep _ _ _ st7 fun b hb o e => (I'.pin (b,o) (mem_append_right _ (mem_append_right _ (j0 hb e)))).1,fun b hb => ?_,w7⟩;obtain ⟨o,e,d⟩ := T.obj _ _ st7 b hb;exact (I'.pin (b,o) (mem_append_right _ (mem_append_right _ (j0 hb e)))).2.1
   cases b with
   | false =>
    rw [if_neg Bool.false_ne_true] at q9 ⊢;exact again I9 q9
   | true =>
    rw [if_pos rfl] at q9 ⊢;refine wpAny_mono (he _ _ _ _ _ _ s9 σ8 H9 _ I9 q9) (fun y s10 ⟨vy,H10,I10,r10,ys,hy,hz,n10⟩ => ?_) (fun _ _ z => noE z);have ap := WK (X := Y) _ s10 σ8 H10 (.ref s2.heap.objs.size) [vy] (.ref s2.heap.objs.size) [y] (fun v H' => Nx σ8 H') I10 rfl (.cons r10 .nil) ⟨_,ys,vy,rfl,rfl,hy,hz,n10⟩;refine wpAny_mono ap (fun _ s11 ⟨v11,H11,I11,_,n11⟩ => ?_) (fun _ _ z => noE z);exact again I11 n11
 exact codeAny_compStart_list (fin _ rfl) (T.self X.A 0 _ _ _ st1 (fin _ rfl))
theorem pe_comp {wi : TI} {g : TG} {tt : TT} {te : TE} (hx : ∀ e s,¬ X.xe e s) (hc : X.calm = true) (hkind : scope.kind = .function) (hnames : ∀ y ∈ scope.names,y.2 = .local → scope.names.lookup y.1 = some .local) (hcell : ∀ y ∈ scope.names,y.2 = .cell → scope.names.lookup y.1 = some .cell)
  (hfree : (scope.names.all fun y => y.2 != .free || X.env.kindOf y.1 == some .cell) = true)
  (hlen : N'.length = nl + caps.length) (hcap : ∀ (i j : Nat),caps[i]? = some j → ∃ x,N'[nl + i]? = some x ∧ X.N[j]? = some x ∧ scope.names.lookup x = some .free)
  (hi : PI X target iter wi) (hg : ∀ cl C ex s H,PG (cxB X N' scope cl C ex s H) target g) (ht : ∀ cl C ex s H,zCF (cxB X N' scope cl C ex s H) ifs tt) (he : ∀ cl C ex s H,PE (cxB X N' scope cl C ex s H) elt te)
  (hs : ∀ x,foldedSetIterable iter X.env x = pure x := by intro _; rfl) : PE X (.ListComp elt [⟨target,iter,ifs,0⟩] scope pos) (zBI nl caps wi g tt te) := by
 intro pins s σ H Q I h;rw [eval_ListComp];refine WU (use := none) hx hc hkind hnames hcell hfree hlen hcap hi hg ht he hs I h fun D C H5 s6 m6 I7 f n6 q => ?_
 refine ⟨m6,n6,fun h' hs' => ?_⟩;obtain ⟨f1,f2,f3,f4,f5,f6⟩ := f;exact ⟨.ref D,H5,I7.turned (it := C) (t' := s6.toks) (fun b o hb e => hs'.extBut b o hb e) f1 (fun z => f2 z) f4 f5 f6,rfl,q⟩
theorem ps_setC {i : Nat} {y : Str} {py spos : Pos} {wi : TI} {g : TG} {tt : TT} {te : TE} (hN : X.N.Nodup) (hi' : X.N[i]? = some y) (hy : Loc X.env.scope y) (hf : X.fn y = true ∨ X.env.scope.names.lookup y = some .local) (hx : ∀ e s,¬ X.xe e s) (hc : X.calm = true) (hkind : scope.kind = .function) (hnames : ∀ y ∈ scope.names,y.2 = .local → scope.names.lookup y.1 = some .local) (hcell : ∀ y ∈ scope.names,y.2 = .cell → scope.names.lookup y.1 = some .cell)
  (hfree : (scope.names.all fun y => y.2 != .free || X.env.kindOf y.1 == some .cell) = true)
  (hlen : N'.length = nl + caps.length) (hcap : ∀ (i j : Nat),caps[i]? = some j → ∃ x,N'[nl + i]? = some x ∧ X.N[j]? = some x ∧ scope.names.lookup x = some .free)
  (hi : PI X target iter wi) (hg : ∀ cl C ex s H,PG (cxB X N' scope cl C ex s H) target g) (ht : ∀ cl C ex s H,zCF (cxB X N' scope cl C ex s H) ifs tt) (he : ∀ cl C ex s H,PE (cxB X N' scope cl C ex s H) elt te)
  (hs : ∀ x,foldedSetIterable iter X.env x = pure x) (hsw : swapsWith (.ListComp elt [⟨target,iter,ifs,0⟩] scope pos) (some (.Name y py)) spos.line X.env = pure true) :
  PS X (.Assign [.Name y py] (.ListComp elt [⟨target,iter,ifs,0⟩] scope pos) spos) (tAsg (zBI nl caps wi g tt te) (W1 i)) := by
 intro pins s σ H D I h;rw [exec_Assign_Name_used _ _ _ _ hsw];refine wpAny_bind (wpAny_standAt (wpAny_bind ?_));show wpAny _ X.A (do let _ ← comprehension (.ListComp elt [⟨target,iter,ifs,0⟩] scope pos) scope X.env _ (newList []) false (eval iter X.env) (some (assign (.Name y py) X.env))) _ _ s;refine wpAny_bind (wpAny_mono (WU (use := some (assign (.Name y py) X.env)) (QQ := fun _ s' => SP X pins D .next s') hx hc hkind hnames hcell hfree hlen hcap hi hg ht he hs I h fun Da C H5 s6 m6 I7 f n6 q => ?_) (fun _ s' hq => wpAny_pure (wpAny_pure hq)) fun _ _ e => e);obtain ⟨f1,f2,f3,f4,f5,f6⟩ := f;show wpAny _ X.A (assign (.Name y py) X.env (.ref Da)) _ _ s6;refine wpAny_assign_Name (Z7 I7 hN hi' hy (v := .ref Da) rfl (fun s7 I8 ⟨a,sb,ha⟩ => ?_) hf);have hne : C ≠ a := by
  rcases ha with ha | ha
  ·rw [ha]; exact f2
  ·exact fun z => f5 y a ha z.symm
 refine ⟨m6,n6.sameBut sb hne,fun h' hs' => ?_⟩;exact ⟨_,H5,I8.turned (it := C) (t' := s7.toks) (fun b o hb e => hs'.extBut b o hb e) f1 (fun z => f2 z) f4 f5 f6,q⟩
end
end L2
namespace DV
open PySem L2
section
variable {X : Cx} {K : PySem.W.Frag} {mg : Str → Option Value} {σ : St} {M : Addr → Prop} {E : zQ} {H : Hp} {T0 Z T : Fz}
structure ItOk (K : PySem.W.Frag) (mg : Str → Option Value) (J : It) (ds : List D) (Iv : Hp → Prop) : Prop where
 mono : ∀ H H',JJ H H' → Iv H → Iv H'
 go : ∀ i Hh H,JJ Hh H → Iv Hh → i < ds.length → J.go i H
 yld : ∀ i Hh H x H',JJ Hh H → Iv Hh → i < ds.length → J.yld i H x H' → ∃ d,ds[i]? = some d ∧ ((H' = H ∧ Rep K mg Hh d x) ∨ ∃ q xs es,H q = none ∧ H' = upd H q (.tup xs) ∧ x = .ref q ∧ d = .tup es ∧ Reps K mg Hh es xs)
 stop : ∀ i Hh H,JJ Hh H → Iv Hh → ds.length ≤ i → J.stop i H
abbrev MI := zQ → Out (List D × zQ)
def tMI (X : Cx) (m : MI) : TI := fun σ H R => ∃ M E,E.length = σ.length ∧ FR X.K X.mg M H (σ.zip E) ∧ match m E with
 | .stuck => False
 | .ok (ds,E') => ∀ J Iv H',ItOk X.K X.mg J ds Iv → Iv (Hm (Mo M (σ.zip E')) H') → Got X.K X.mg M σ E H [] σ E' H' [] → R J H'
 | .exc x E' => ∀ H',Got X.K X.mg M σ E H [] σ E' H' [] → XE X σ H' x
abbrev IOk (X : Cx) (tg e : Expr) (m : MI) : Prop := PI X tg e (tMI X m)
theorem uA {tg e : Expr} {t t' : TI} (h : PI X tg e t) (i : ∀ σ H R,t' σ H R → t σ H R) : PI X tg e t' := fun pins s σ H R I q => h pins s σ H R I (i σ H R q)
def iL (m : ME) : MI := fun E => match m E with
 | .stuck => .stuck
 | .exc x E1 => .exc x E1
 | .ok (r,E1) => match r.d with
  | .lst ds => .ok (ds,E1)
  | _ => .stuck
def iT (m : ME) : MI := fun E => match m E with
 | .stuck => .stuck
 | .exc x E1 => .exc x E1
 | .ok (r,E1) => match r.d with
  | .tup ds => .ok (ds,E1)
  | _ => .stuck
theorem it_list {a : Addr} {xs : List V} {ds : List D} : ItOk K mg (Itl K a) ds (fun H => SqL K H a xs ∧ Reps K mg H ds xs) where
 mono := fun H H' s h => ⟨s.seq h.1,h.2.mono s⟩
 go := fun i Hh H s h hi => ⟨xs,xs[i]'(by rw [h.2.length]; exact hi),s.seq h.1,by simp⟩
 yld := fun i Hh H x H' s h hi y => by
  obtain ⟨e,y⟩ := y;obtain ⟨d,h1,h2⟩ := h.2.get (y xs (s.seq h.1));exact ⟨d,h1,.inl ⟨e,h2⟩⟩
 stop := fun i Hh H s h hi => ⟨xs,s.seq h.1,by rw [h.2.length]; exact hi⟩
theorem it_tup {a : Addr} {xs : List V} {ds : List D} : ItOk K mg (Itt K a) ds (fun H => SqT K H a xs ∧ Reps K mg H ds xs) where
 mono := fun H H' s h => ⟨zk s h.1,h.2.mono s⟩
 go := fun i Hh H s h hi => ⟨xs,xs[i]'(by rw [h.2.length]; exact hi),zk s h.1,by simp⟩
 yld := fun i Hh H x H' s h hi y => by
  obtain ⟨e,y⟩ := y;obtain ⟨d,h1,h2⟩ := h.2.get (y xs (zk s h.1));exact ⟨d,h1,.inl ⟨e,h2⟩⟩
 stop := fun i Hh H s h hi => ⟨xs,zk s h.1,by rw [h.2.length]; exact hi⟩
theorem WV : ∀ (n i : Nat) (lo : Int),i < n → (zT lo n)[i]? = some (.int (lo + i)) := fun n i lo h => by
 have := jS n i lo h;have e : ((zT lo n).drop i)[0]? = some (.int (lo + i)) := by rw [this]; rfl
 rw [List.getElem?_drop] at e;simpa using e
theorem it_rng {lo : Int} {n : Nat} : ItOk K mg (Itr lo n) (zT lo n) (fun _ => True) where
 mono := fun _ _ _ h => h
 go := fun i Hh H s h hi => by rw [z8] at hi; exact hi
 yld := fun i Hh H x H' s h hi y => by
  obtain ⟨e,y⟩ := y;rw [z8] at hi;exact ⟨_,WV n i lo hi,.inl ⟨e,by rw [y]; simp only [Rep]⟩⟩
 stop := fun i Hh H s h hi => by rw [z8] at hi; exact hi
theorem io_list {tg e : Expr} {m : ME} (h : EOk X e m) : IOk X tg e (iL m) := uA (GQ h) fun σ H R ⟨M,E,hl,fr,k⟩ => by
 unfold iL at k;refine zt (T0 := []) hl fr ?_;cases ea : m E with
 | stuck => rw [ea] at k; exact k
 | exc x E1 => rw [ea] at k; exact k
 | ok p =>
  obtain ⟨r,E1⟩ := p;rw [ea] at k;intro v H1 g;dsimp only at k;cases ed : r.d with
  | lst ds =>
   rw [ed] at k;have rl := g.rep;rw [ed] at rl;obtain ⟨a,xs,rfl,q1,q2⟩ := zH rl;exact ⟨a,rfl,⟨xs,zE.seq q1⟩,k _ _ H1 it_list ⟨q1,q2⟩ g.dropAll⟩
  | _ => rw [ed] at k; exact k.elim
theorem io_tup {tg e : Expr} {m : ME} (h : EOk X e m) : IOk X tg e (iT m) := uA (pi_tup h) fun σ H R ⟨M,E,hl,fr,k⟩ => by
 unfold iT at k;refine zt (T0 := []) hl fr ?_;cases ea : m E with
 | stuck => rw [ea] at k; exact k
 | exc x E1 => rw [ea] at k; exact k
 | ok p =>
  obtain ⟨r,E1⟩ := p;rw [ea] at k;intro v H1 g;dsimp only at k;cases ed : r.d with
  | tup ds =>
   rw [ed] at k;have rl := g.rep;rw [ed] at rl;obtain ⟨a,xs,rfl,q1,q2⟩ := zO rl;exact ⟨a,rfl,⟨xs,zk zE q1⟩,k _ _ H1 it_tup ⟨q1,q2⟩ g.dropAll⟩
  | _ => rw [ed] at k; exact k.elim
def iR1 (m : MA) : MI := fun E => match m E with
 | .stuck => .stuck
 | .exc x E1 => .exc x E1
 | .ok ([r],E1) => match r.d with
  | .int j => if -(2 ^ 62) ≤ j ∧ j < 2 ^ 62 then .ok (zT 0 j.toNat,E1) else .stuck
  | _ => .stuck
 | _ => .stuck
theorem io_r1 {tg a : Expr} {m : MA} {p cpos : Pos} (hgl : Gl X "range") (hm : X.mg "range" = none) (ha : AOk X [a] m) (hst : zR a = false := by rfl) : IOk X tg (.Call (.Name "range" p) [a] [] cpos) (iR1 m) := uA (Z9 hgl hm ha (star1 hst)) fun σ H R ⟨M,E,hl,fr,k⟩ => by
 unfold iR1 at k;refine JL (T0 := []) hl fr ?_;cases ea : m E with
 | stuck => rw [ea] at k; exact k
 | exc x E1 => rw [ea] at k; exact k
 | ok p =>
  obtain ⟨rs,E1⟩ := p;rw [ea] at k
  match rs,k with
  | [r],k =>
   intro vs H1 hv g1;have rp := Got.reps hv g1;dsimp only at k;cases ed : r.d with
   | int j =>
    rw [ed] at k;simp only [List.map,ed] at rp;obtain ⟨v,rfl,h1⟩ := wE rp;dsimp only at k;by_cases hc : -(2 ^ 62) ≤ j ∧ j < 2 ^ 62
    ·rw [if_pos hc] at k
     exact ⟨j,by rw [zG h1],hc.1,hc.2,k _ _ H1 it_rng trivial g1.dropAll⟩
    ·rw [if_neg hc] at k; exact k.elim
   | _ => rw [ed] at k; exact k.elim
  | [],k => exact k.elim
  | _ :: _ :: _,k => exact k.elim
def wY (tg : MG) (tt : MT) (el : ME) : List D → zQ → List D → Out (List D × zQ)
 | [],E,acc => .ok (acc,E)
 | d :: ds,E,acc => match tg d E with
  | .ok E1 => match tt E1 with
   | .ok (true,E2) => match el E2 with
    | .ok (r,E3) => if acc.length < cap then wY tg tt el ds E3 (acc ++ [r.d]) else .stuck
    | _ => .stuck
   | .ok (false,E2) => wY tg tt el ds E2 acc
   | _ => .stuck
  | _ => .stuck
def JO (E : zQ) : List Nat → Out (List AR)
 | [] => .ok []
 | j :: js => match E[j]? with
  | some (.val d) => match JO E js with
   | .ok as => .ok (.tmp d :: as)
   | _ => .stuck
  | some s => match s.list? with
   | some _ => match JO E js with
    | .ok as => .ok (.ln j :: as)
    | _ => .stuck
   | none => .stuck
  | none => .stuck
def Yr (nl : Nat) (caps : List Nat) (mi : MI) (tg : MG) (tt : MT) (el : ME) : ME := fun E => match mi E with
 | .stuck => .stuck
 | .exc x E1 => .exc x E1
 | .ok (ds,E1) => match JO E1 caps with
  | .ok ars => match zJ ars E1 with
   | .ok (ss,E2) => match wY tg tt el ds (replicate nl .emp ++ ss) [] with
    | .ok (res,Eb) => match zI ars ((zl (replicate nl .emp ++ ss) Eb).drop nl) E1 E2 with
     | .ok E3 => .ok (.own res,E3)
     | _ => .stuck
    | _ => .stuck
   | _ => .stuck
  | _ => .stuck
def QC : MT := fun E => .ok (true,E)
abbrev IfOk (X : Cx) (ifs : List Expr) (m : MT) : Prop := zCF X ifs (tMT X m)
theorem ZZ {ifs : List Expr} {t t' : TT} (h : zCF X ifs t) (i : ∀ σ H Q,t' σ H Q → t σ H Q) : zCF X ifs t' := fun pins s σ H Q I q => h pins s σ H Q I (i σ H Q q)
theorem QD : IfOk X [] QC := ZZ pif_nil fun σ H Q ⟨M,E,hl,fr,k⟩ => k H (Got.refl (T0 := []) hl fr)
theorem QE {c : Expr} {m : MT} (h : TOk X c m) : IfOk X [c] m := pif_one h
theorem QF : ∀ (js : List Nat) {as : List AR} {T : Fz},E.length = σ.length → JO E js = .ok as → FR K mg M H (T ++ σ.zip E) →
  ∃ vs,AV σ as vs ∧ vs.map some = js.map (fun j => (σ[j]?).getD none) ∧ FR K mg M H (T ++ (zi vs as ++ σ.zip E)) ∧ ∀ b,b ∈ zx (T ++ (zi vs as ++ σ.zip E)) → b ∈ zx (T ++ σ.zip E)
 | [],as,T,hl,e,f => by
  cases e;exact ⟨[],by simp only [AV],rfl,f,fun b q => q⟩
 | j :: js,as,T,hl,e,f => by
  simp only [JO] at e;cases ej : E[j]? with
  | none => rw [ej] at e; cases e
  | some s =>
   rw [ej] at e;obtain ⟨o,h1,h2⟩ := jk hl ej;have lnk : ∀ {ds : List D},s.list? = some ds → (match JO E js with | .ok as => Out.ok (AR.ln j :: as) | _ => .stuck) = .ok as → ∃ vs,AV σ as vs ∧ vs.map some = (j :: js).map (fun j => (σ[j]?).getD none) ∧ FR K mg M H (T ++ (zi vs as ++ σ.zip E)) ∧ ∀ b,b ∈ zx (T ++ (zi vs as ++ σ.zip E)) → b ∈ zx (T ++ σ.zip E) := fun {ds} hs e => by
    cases ec : JO E js with
    | stuck => rw [ec] at e; cases e
    | exc _ _ => rw [ec] at e; cases e
    | ok as1 =>
     rw [ec] at e; cases e;obtain ⟨a,xs,ev,_⟩ := f.own o s ds (mem_append_right _ h2) hs;subst ev;obtain ⟨vs,q1,q2,q3,q4⟩ := QF js hl ec f;have p : (T ++ (((some (V.ref a),Slot.emp) :: zi vs as1) ++ σ.zip E)).Perm ((some (V.ref a),Slot.emp) :: (T ++ (zi vs as1 ++ σ.zip E))) := perm_middle;have fe : FR K mg M H ((some (V.ref a),Slot.emp) :: (T ++ (zi vs as1 ++ σ.zip E))) := q3.mask (.extra (by
      have : ∀ W : Fz,Mask W W := by
       intro W
       induction W with
       | nil => exact .nil _
       | cons x W ih => exact .keep ih
      exact this _))
     refine ⟨.ref a :: vs,by simp only [AV]; exact ⟨_,vs,rfl,h1,q1⟩,by simp [h1,q2],fe.perm p.symm,fun b hb => ?_⟩;have := zA p b hb;rw [z3] at this;exact q4 b this
   cases s with
   | emp => cases e
   | own ds => exact lnk rfl e
   | par ds => exact lnk rfl e
   | val d =>
    dsimp only at e;cases ec : JO E js with
    | stuck => rw [ec] at e; cases e
    | exc _ _ => rw [ec] at e; cases e
    | ok as1 =>
     rw [ec] at e; cases e;obtain ⟨v,ev,r⟩ := f.val o d (mem_append_right _ h2);subst ev;obtain ⟨vs,q1,q2,q3,q4⟩ := QF js hl ec f;obtain ⟨v',ev',r'⟩ := q3.val (some v) d (mem_append_right _ (mem_append_right _ h2));cases ev';have p : (T ++ (((some v,Slot.val d) :: zi vs as1) ++ σ.zip E)).Perm ((some v,Slot.val d) :: (T ++ (zi vs as1 ++ σ.zip E))) := perm_middle;refine ⟨v :: vs,by simp only [AV]; exact ⟨v,vs,rfl,q1⟩,by simp [h1,q2],(q3.add r').perm p.symm,fun b hb => ?_⟩;have := zA p b hb;rw [zU] at this;exact q4 b this
theorem QG (n : Nat) (Z : Fz) : zx (replicate n ((none : Option V),Slot.emp) ++ Z) = zx Z := by rw [zV,ZX,nil_append]
theorem FR.emps0 (f : FR K mg M H Z) (n : Nat) : FR K mg M H (replicate n (none,.emp) ++ Z) := (f.emps n).perm perm_append_comm
end
end DV
namespace DV
open PySem L2
def tN (K : PySem.W.Frag) (mg : Str → Option Value) (m : ME) : TE := fun σ H Q => ∃ M E,E.length = σ.length ∧ FR K mg M H (σ.zip E) ∧ match m E with
 | .ok (r,E') => ∀ v H',Got K mg M σ E H [] σ E' H' [(some v,r.slot)] → Q v H'
 | _ => False
def tNT (K : PySem.W.Frag) (mg : Str → Option Value) (m : MT) : TT := fun σ H Q => ∃ M E,E.length = σ.length ∧ FR K mg M H (σ.zip E) ∧ match m E with
 | .ok (b,E') => ∀ H',Got K mg M σ E H [] σ E' H' [] → Q b H'
 | _ => False
section
variable {X : Cx} {K : PySem.W.Frag} {mg : Str → Option Value} {σ : St} {M : Addr → Prop} {E : zQ} {H : Hp} {T0 Z T : Fz}
theorem tN_M {m : ME} {Q : VK} (h : tN X.K X.mg m σ H Q) : tM X m σ H Q := by
 obtain ⟨M,E,hl,fr,k⟩ := h;refine ⟨M,E,hl,fr,?_⟩;cases e : m E with
 | stuck => rw [e] at k; exact k
 | exc x E1 => rw [e] at k; exact k.elim
 | ok p => rw [e] at k; exact k
theorem tNT_M {m : MT} {Q : Bool → Hp → Prop} (h : tNT X.K X.mg m σ H Q) : tMT X m σ H Q := by
 obtain ⟨M,E,hl,fr,k⟩ := h;refine ⟨M,E,hl,fr,?_⟩;cases e : m E with
 | stuck => rw [e] at k; exact k
 | exc x E1 => rw [e] at k; exact k.elim
 | ok p => rw [e] at k; exact k
theorem tN_run {m : ME} {r : R} {E' : zQ} {Q : VK} (hl : E.length = σ.length) (h : FR K mg M H (T0 ++ σ.zip E)) (e : m E = .ok (r,E')) (k : ∀ v H',Got K mg M σ E H T0 σ E' H' [(some v,r.slot)] → Q v H') : tN K mg m σ H Q := by
 refine ⟨Mo M T0,E,hl,h.inner,?_⟩;rw [e];exact fun v H' g => k v H' (g.outer h)
theorem tNT_run {m : MT} {b : Bool} {E' : zQ} {Q : Bool → Hp → Prop} (hl : E.length = σ.length) (h : FR K mg M H (T0 ++ σ.zip E)) (e : m E = .ok (b,E')) (k : ∀ H',Got K mg M σ E H T0 σ E' H' [] → Q b H') : tNT K mg m σ H Q := by
 refine ⟨Mo M T0,E,hl,h.inner,?_⟩;rw [e];exact fun H' g => k H' (g.outer h)
theorem QH {ars : List AR} {E1 E2 E3 : zQ} {ss outs : List Slot} {r : R} {vs : List V} {v : V} {H1 H' : Hp} (e1 : zJ ars E1 = .ok (ss,E2)) (e3 : zI ars outs E1 E2 = .ok E3)
  (av : AV σ ars vs) (f1' : FR K mg M H1 (σ.zip E2 ++ (vs.map some).zip ss)) (st1 : Step M H (σ.zip E) H1 (σ.zip E2 ++ (vs.map some).zip ss)) (l2 : E2.length = σ.length) (pk : PKp σ E σ E1)
  (f2 : FR K mg (Mo M (σ.zip E2)) H' ((some v,r.slot) :: (vs.map some).zip outs)) (s2 : Step (Mo M (σ.zip E2)) H1 ((vs.map some).zip ss) H' ((some v,r.slot) :: (vs.map some).zip outs)) : Got K mg M σ E H [] σ E3 H' [(some v,r.slot)] := by
 have f3 := FR.outer f1' f2 s2;have s3 := Step.outer s2;have p : (σ.zip E2 ++ ((some v,r.slot) :: (vs.map some).zip outs)).Perm ([(some v,r.slot)] ++ ((vs.map some).zip outs ++ σ.zip E2)) := by
  refine perm_append_comm.trans ?_;exact List.Perm.refl _
 obtain ⟨f4,o4,l4⟩ := ZV ars l2 av e3 (f3.perm p);refine ⟨l4,f4,?_,pk.trans (G9 e1 e3)⟩;have st2 := st1.trans s3;exact st2.weak fun b hb => zA p.symm b (o4 b hb)
theorem ww : ∀ (n : Nat) {Z W : Fz},Mask Z W → Mask Z (W.drop n)
 | 0,_,_,h => h
 | n + 1,_,_,.nil Z => by simp only [List.drop_nil]; exact .nil _
 | n + 1,_,_,.keep h => .skip (ww n h)
 | n + 1,_,_,.skip h => .skip (ww (n + 1) h)
 | n + 1,_,_,.extra h => ww n h
theorem WW {α β : Type} : ∀ (n : Nat) (l : List α) (m : List β),(l.zip m).drop n = (l.drop n).zip (m.drop n)
 | 0,_,_ => rfl
 | n + 1,[],_ => by simp
 | n + 1,_ :: _,[] => by simp
 | n + 1,_ :: l,_ :: m => by simp [WW n l m]
theorem yld_got {J : It} {ds : List D} {Iv : Hp → Prop} {σ0 σ' : St} {E0 E' : zQ} {H1 H' H'' : Hp} {Da : Addr} {acc : List D} {i : Nat} {x : V} (it : ItOk K mg J ds Iv) (hlt : i < ds.length) (gb : Got K mg M σ0 E0 H1 [] σ' E' H' [(some (.ref Da),.own acc)]) (ivb : Iv (Hm (Mo M ((some (.ref Da),Slot.own acc) :: σ'.zip E')) H')) (y : J.yld i H' x H'') :
  ∃ d,ds[i]? = some d ∧ Got K mg M σ0 E0 H1 [] σ' E' H'' [(some (.ref Da),.own acc)] ∧ Iv (Hm (Mo M ((some (.ref Da),Slot.own acc) :: σ'.zip E')) H'') ∧ Rep K mg (Hm (Mo M ((some (.ref Da),Slot.own acc) :: σ'.zip E')) H'') d x := by
 obtain ⟨d,hd,h⟩ := it.yld i _ _ x _ zE ivb hlt y;rcases h with ⟨rfl,rx⟩ | ⟨q,xs,es,hq,rfl,rfl,rfl,rs⟩
 ·exact ⟨d,hd,gb,ivb,rx⟩
 ·have f : FR K mg M H' ((some (.ref Da),Slot.own acc) :: σ'.zip E') := gb.fr
  have f1 := f.newTup hq rs;have s1 : Step M H' ((some (.ref Da),Slot.own acc) :: σ'.zip E') (upd H' q (.tup xs)) ((some (.ref q),.val (.tup es)) :: ((some (.ref Da),Slot.own acc) :: σ'.zip E')) := Step.newVal hq;obtain ⟨v,ev,rv⟩ := f1.val _ _ mem_cons_self;cases ev;have sm := s1.same;rw [Ja] at rv sm;have s2 : Step M H' ((some (.ref Da),Slot.own acc) :: σ'.zip E') (upd H' q (.tup xs)) ((some (.ref Da),Slot.own acc) :: σ'.zip E') := ⟨sm,s1.keep⟩;exact ⟨_,hd,⟨gb.len,f1.tail,gb.st.trans s2,gb.pk⟩,it.mono _ _ sm ivb,rv⟩
theorem uB {nl : Nat} {caps : List Nat} {mi : MI} {tg : MG} {tt : MT} {el : ME} {g : TG} {Q : VK} (ho : GOk X g tg) (h : tM X (Yr nl caps mi tg tt el) σ H Q) : zBI nl caps (tMI X mi) g (tNT X.K X.mg tt) (tN X.K X.mg el) σ H Q := by
 obtain ⟨M,E,hl,fr,k⟩ := h;unfold Yr at k;refine ⟨M,E,hl,fr,?_⟩;cases ei : mi E with
 | stuck => rw [ei] at k; exact k
 | exc x E1 => rw [ei] at k; exact k
 | ok p =>
  obtain ⟨ds,E1⟩ := p;rw [ei] at k;intro J Iv H1 it iv g1 D hD;dsimp only at k;cases ec : JO E1 caps with
  | stuck => rw [ec] at k; exact k.elim
  | exc _ _ => rw [ec] at k; exact k.elim
  | ok ars =>
   rw [ec] at k;dsimp only at k;cases el1 : zJ ars E1 with
   | stuck => rw [el1] at k; exact k.elim
   | exc _ _ => rw [el1] at k; exact k.elim
   | ok p =>
    obtain ⟨ss,E2⟩ := p;rw [el1] at k;dsimp only at k;cases em : wY tg tt el ds (replicate nl .emp ++ ss) [] with
    | stuck => rw [em] at k; exact k.elim
    | exc _ _ => rw [em] at k; exact k.elim
    | ok p =>
     obtain ⟨res,Eb⟩ := p;rw [em] at k;dsimp only at k;cases eb : zI ars ((zl (replicate nl .emp ++ ss) Eb).drop nl) E1 E2 with
     | stuck => rw [eb] at k; exact k.elim
     | exc _ _ => rw [eb] at k; exact k.elim
     | ok E3 =>
      rw [eb] at k;obtain ⟨vs,av,evs,f1,o1⟩ := QF (T := []) caps g1.len ec g1.fr;obtain ⟨f2,o2,l2,l3⟩ := YJ (T := []) ars g1.len av el1 f1;have hv := av.length;have f2' : FR X.K X.mg M H1 (σ.zip E2 ++ (vs.map some).zip ss) := FR.perm (T := σ.zip E2 ++ (vs.map some).zip ss) (Z := (vs.map some).zip ss ++ σ.zip E2) f2 perm_append_comm;have osub : ∀ b,b ∈ zx (σ.zip E2 ++ (vs.map some).zip ss) → b ∈ zx (σ.zip E1) := fun b hb =>
       o1 b ((o2 b).mpr (zA (T := σ.zip E2 ++ (vs.map some).zip ss) (Z := (vs.map some).zip ss ++ σ.zip E2) perm_append_comm b hb))
      have st1 : Step M H (σ.zip E) H1 (σ.zip E2 ++ (vs.map some).zip ss) := g1.st.weak osub;have eσ : yB nl caps σ = replicate nl none ++ vs.map some := by unfold L2.yB; rw [evs]
      rw [eσ];have ez : (replicate nl (none : Option V) ++ vs.map some).zip (replicate nl Slot.emp ++ ss) = replicate nl (none,.emp) ++ (vs.map some).zip ss := by
       rw [List.zip_append (by simp),vC]
      have f4 : FR X.K X.mg (Mo M (σ.zip E2)) H1 ((replicate nl (none : Option V) ++ vs.map some).zip (replicate nl Slot.emp ++ ss)) := by
       rw [ez]; exact (FR.inner f2').emps0 nl
      have oo : zx ((replicate nl (none : Option V) ++ vs.map some).zip (replicate nl Slot.emp ++ ss)) = zx ((vs.map some).zip ss) := by rw [ez,QG]
      generalize hσ0 : replicate nl (none : Option V) ++ vs.map some = σ0 at f4 oo ⊢;generalize hE0 : replicate nl Slot.emp ++ ss = E0 at f4 oo em eb ⊢;have hl0 : E0.length = σ0.length := by rw [← hσ0,← hE0]; simp [l2,hv]
      have f5 := f4.newOwn (ds := []) (xs := []) hD Reps.nil;have s5 := Step.newOwn (ds := []) (xs := []) f4 hD;have iv5 : Iv (Hm (Mo (Mo M (σ.zip E2)) ((some (.ref D),Slot.own []) :: σ0.zip E0)) (upd H1 D (.lst []))) := by
       refine it.mono _ _ s5.same (it.mono _ _ (yz fun b hb => ?_) iv);rcases hb with hb | hb
       ·rcases hb with hb | hb
        ·exact .inl hb
        ·exact .inr (osub b (by rw [zV]; exact mem_append_left _ hb))
       ·rw [oo] at hb
        exact .inr (osub b (by rw [zV]; exact mem_append_right _ hb))
      refine ⟨fun i m σ' H' => m = ds.length - i ∧ i ≤ ds.length ∧ ∃ E' acc,Got X.K X.mg (Mo M (σ.zip E2)) σ0 E0 H1 [] σ' E' H' [(some (.ref D),.own acc)] ∧ Iv (Hm (Mo (Mo M (σ.zip E2)) ((some (.ref D),Slot.own acc) :: σ'.zip E')) H') ∧ wY tg tt el (ds.drop i) E' acc = .ok (res,Eb),
       ⟨ds.length,by simp,zero_le _,E0,[],⟨hl0,f5,s5,PKp.refl⟩,iv5,em⟩,?_⟩
      rintro i m σ' H' ⟨rfl,hi,E',acc,gb,ivb,cm⟩
      by_cases hlt : i < ds.length
      ·refine .inr ⟨it.go i _ H' zE ivb hlt,fun σ'' H'' => (i + 1 ≤ ds.length ∧ ∃ E' acc,Got X.K X.mg (Mo M (σ.zip E2)) σ0 E0 H1 [] σ'' E' H'' [(some (.ref D),.own acc)] ∧ Iv (Hm (Mo (Mo M (σ.zip E2)) ((some (.ref D),Slot.own acc) :: σ''.zip E')) H'') ∧ wY tg tt el (ds.drop (i + 1)) E' acc = .ok (res,Eb)),
        fun σ'' H'' q => ⟨ds.length - (i + 1),by omega,rfl,q⟩,fun x H'' y => ?_⟩
       obtain ⟨d,hd,gb,ivb,rx⟩ := yld_got it hlt gb ivb y;have ed : ds.drop i = d :: ds.drop (i + 1) := by
        obtain ⟨hi',rfl⟩ := List.getElem?_eq_some_iff.mp hd;exact List.drop_eq_getElem_cons hi'
       rw [ed] at cm;simp only [wY] at cm;cases e1 : tg d E' with
       | stuck => rw [e1] at cm; cases cm
       | exc _ _ => rw [e1] at cm; cases cm
       | ok Ea =>
        rw [e1] at cm;dsimp only at cm;refine ho _ σ' E' _ [(some (.ref D),.own acc)] x d Ea _ gb.len (gb.fr.add rx) e1 fun σ2 ga => ?_
        have g2 := gb.trans' ga;cases e2 : tt Ea with
        | stuck => rw [e2] at cm; cases cm
        | exc _ _ => rw [e2] at cm; cases cm
        | ok p =>
         obtain ⟨b,Eb2⟩ := p;rw [e2] at cm;refine tNT_run ga.len ga.fr e2 fun H3 gt => ?_
         have g3 := g2.trans' gt;have iv3 := it.mono _ _ (ga.st.same.trans gt.st.same) ivb;cases b with
         | false =>
          refine iteF ⟨hlt,Eb2,acc,g3,iv3,cm⟩
         | true =>
          refine iteT ?_;dsimp only at cm;cases e3 : el Eb2 with
          | stuck => rw [e3] at cm; cases cm
          | exc _ _ => rw [e3] at cm; cases cm
          | ok p =>
           obtain ⟨r,Ec⟩ := p;rw [e3] at cm;dsimp only at cm;by_cases hcap : acc.length < cap
           ·rw [if_pos hcap] at cm
            refine tN_run g3.len g3.fr e3 fun yv H4 ge => ?_
            have g4 := g3.trans' ge;have fz : FR X.K X.mg (Mo M (σ.zip E2)) H4 ((some yv,.val r.d) :: ((some (.ref D),Slot.own acc) :: σ2.zip Ec)) := g4.fr.frz;obtain ⟨yv',ey,ry⟩ := fz.val _ _ mem_cons_self;cases ey;rw [Ja] at ry;have fo := fz.tail;obtain ⟨a,ys,ea,ha,_,rys⟩ := fo.own _ _ acc mem_cons_self rfl;cases ea;refine ⟨ys,ha,by rw [rys.length]; exact lt_of_lt_of_le hcap (jd (le_refl _)),hlt,Ec,acc ++ [r.d],?_⟩;obtain ⟨fm,sm⟩ := FR.mut (i := 0) (s := .own acc) fo rfl rfl (rys.append (Reps.cons ry Reps.nil));have fm' : FR X.K X.mg (Mo M (σ.zip E2)) (upd H4 D (.lst (ys ++ [yv]))) ((some (.ref D),Slot.own (acc ++ [r.d])) :: σ2.zip Ec) := fm;have sm' : Step (Mo M (σ.zip E2)) H4 ((some (.ref D),Slot.own acc) :: σ2.zip Ec) (upd H4 D (.lst (ys ++ [yv]))) ((some (.ref D),Slot.own (acc ++ [r.d])) :: σ2.zip Ec) := sm;have sz : Step (Mo M (σ.zip E2)) H3 ((some (.ref D),Slot.own acc) :: σ2.zip Eb2) H4 ((some (.ref D),Slot.own acc) :: σ2.zip Ec) := ge.st.weak (zB (sublist_cons_self _ _));have sz0 : Step (Mo M (σ.zip E2)) H1 (σ0.zip E0) H4 ((some (.ref D),Slot.own acc) :: σ2.zip Ec) := g4.st.weak (zB (sublist_cons_self _ _));exact ⟨⟨g4.len,fm',sz0.trans sm',g4.pk⟩,it.mono _ _ (sz.same.trans sm'.same) iv3,cm⟩
           ·rw [if_neg hcap] at cm; cases cm
      ·have ei2 : i = ds.length := by omega
       subst ei2;rw [List.drop_length] at cm;simp only [wY] at cm;cases cm;refine .inl ⟨it.stop _ _ H' zE ivb (le_refl _),k _ H' ?_⟩;have mk0 : Mask (σ'.zip Eb) (σ0.zip (zl E0 Eb)) := Jt E0 σ0 σ' Eb gb.len (hl0.symm) fun j ds' e => (gb.pk j ds' e).2
       have mk : Mask (σ'.zip Eb) ((vs.map some).zip ((zl E0 Eb).drop nl)) := by
        have := ww nl mk0;have e : (σ0.zip (zl E0 Eb)).drop nl = (vs.map some).zip ((zl E0 Eb).drop nl) := by
         rw [WW,← hσ0];congr 1;rw [List.drop_left' (by simp)]
        rw [e] at this;exact this
       refine QH (r := .own res) el1 eb av f2' st1 l3 g1.pk (gb.fr.mask (.keep mk)) ?_;refine (gb.st.weak fun b hb => (Mask.keep mk).sub.subset hb).left fun b hb => ?_
       show b ∈ zx _
       rw [nil_append,oo] at hb;exact hb
end
section
variable {X : Cx} {elt target iter : Expr} {ifs : List Expr} {scope : Scope} {pos : Pos}
theorem ok_comp {mi : MI} {tg : MG} {tt : MT} {el : ME} {g : TG} (nl : Nat) (caps : List Nat) (N' : List Str) (hx : ∀ e s,¬ X.xe e s) (hc : X.calm = true) (hkind : scope.kind = .function) (hnames : ∀ y ∈ scope.names,y.2 = .local → scope.names.lookup y.1 = some .local) (hcell : ∀ y ∈ scope.names,y.2 = .cell → scope.names.lookup y.1 = some .cell)
  (hfree : (scope.names.all fun y => y.2 != .free || X.env.kindOf y.1 == some .cell) = true)
  (hlen : N'.length = nl + caps.length) (hcap : ∀ (i j : Nat),caps[i]? = some j → ∃ x,N'[nl + i]? = some x ∧ X.N[j]? = some x ∧ scope.names.lookup x = some .free)
  (hi : IOk X target iter mi) (hg : ∀ cl C ex s H,PG (cxB X N' scope cl C ex s H) target g) (ho : GOk X g tg) (ht : ∀ cl C ex s H,IfOk (cxB X N' scope cl C ex s H) ifs tt) (he : ∀ cl C ex s H,EOk (cxB X N' scope cl C ex s H) elt el)
  (hs : ∀ x,foldedSetIterable iter X.env x = pure x := by intro _; rfl) : EOk X (.ListComp elt [⟨target,iter,ifs,0⟩] scope pos) (Yr nl caps mi tg tt el) :=
 zn (pe_comp (te := tN X.K X.mg el) (tt := tNT X.K X.mg tt) hx hc hkind hnames hcell hfree hlen hcap hi hg (fun cl C ex s H => ZZ (ht cl C ex s H) fun σ H Q q => tNT_M (X := cxB X N' scope cl C ex s _) q) (fun cl C ex s H => zn (he cl C ex s H) fun σ H Q q => tN_M (X := cxB X N' scope cl C ex s _) q) hs) fun σ H Q => uB ho
theorem sk_comp {mi : MI} {tg : MG} {tt : MT} {el : ME} {g : TG} {i : Nat} {y : Str} {py spos : Pos} (nl : Nat) (caps : List Nat) (N' : List Str) (hN : X.N.Nodup) (hi' : X.N[i]? = some y) (hy : Loc X.env.scope y) (hf : X.fn y = true ∨ X.env.scope.names.lookup y = some .local) (hx : ∀ e s,¬ X.xe e s) (hc : X.calm = true) (hkind : scope.kind = .function) (hnames : ∀ y ∈ scope.names,y.2 = .local → scope.names.lookup y.1 = some .local) (hcell : ∀ y ∈ scope.names,y.2 = .cell → scope.names.lookup y.1 = some .cell)
  (hfree : (scope.names.all fun y => y.2 != .free || X.env.kindOf y.1 == some .cell) = true)
  (hlen : N'.length = nl + caps.length) (hcap : ∀ (i j : Nat),caps[i]? = some j → ∃ x,N'[nl + i]? = some x ∧ X.N[j]? = some x ∧ scope.names.lookup x = some .free)
  (hi : IOk X target iter mi) (hg : ∀ cl C ex s H,PG (cxB X N' scope cl C ex s H) target g) (ho : GOk X g tg) (ht : ∀ cl C ex s H,IfOk (cxB X N' scope cl C ex s H) ifs tt) (he : ∀ cl C ex s H,EOk (cxB X N' scope cl C ex s H) elt el)
  (hs : ∀ x,foldedSetIterable iter X.env x = pure x) (hsw : swapsWith (.ListComp elt [⟨target,iter,ifs,0⟩] scope pos) (some (.Name y py)) spos.line X.env = pure true) :
  SOk X (.Assign [.Name y py] (.ListComp elt [⟨target,iter,ifs,0⟩] scope pos) spos) (sSet i (Yr nl caps mi tg tt el)) :=
 jH (ps_setC (te := tN X.K X.mg el) (tt := tNT X.K X.mg tt) hN hi' hy hf hx hc hkind hnames hcell hfree hlen hcap hi hg (fun cl C ex s H => ZZ (ht cl C ex s H) fun σ H Q q => tNT_M (X := cxB X N' scope cl C ex s _) q) (fun cl C ex s H => zn (he cl C ex s H) fun σ H Q q => tN_M (X := cxB X N' scope cl C ex s _) q) hs hsw) fun D σ H h => uB ho (G4 h)
end
end DV
namespace DV
open PySem L2
theorem mem7 {P : String → Prop} (h1 : P "NoneType") (h2 : P "bool") (h3 : P "int") (h4 : P "str") (h5 : P "tuple") (h6 : P "list") (h7 : P "dict") : ∀ t ∈ ["NoneType","bool","int","str","tuple","list","dict"],P t := by
 intro t ht;simp only [mem_cons,mem_nil_iff,or_false] at ht;rcases ht with rfl | rfl | rfl | rfl | rfl | rfl | rfl <;> assumption
abbrev Kit (K : PySem.W.Frag) (T : String) : Prop := ∀ t ∈ ["NoneType","bool","int","str","tuple","list","dict"],kitOne K (.type t) (.type T) = some (WS t T)
theorem kit_int (K : PySem.W.Frag) : Kit K "int" := mem7 rfl rfl rfl rfl rfl rfl rfl
theorem zBJ (K : PySem.W.Frag) : Kit K "bool" := mem7 rfl rfl rfl rfl rfl rfl rfl
theorem QI (K : PySem.W.Frag) : Kit K "tuple" := mem7 rfl rfl rfl rfl rfl rfl rfl
theorem zBK (K : PySem.W.Frag) : Kit K "list" := mem7 rfl rfl rfl rfl rfl rfl rfl
theorem kit_str (K : PySem.W.Frag) : Kit K "str" := mem7 rfl rfl rfl rfl rfl rfl rfl
theorem zBL (K : PySem.W.Frag) : Kit K "dict" := mem7 rfl rfl rfl rfl rfl rfl rfl
theorem jU : bootBuiltins "isinstance" = some (.builtin "isinstance") := by decide +kernel
theorem bt_len : bootBuiltins "len" = some (.builtin "len") := by decide +kernel
theorem bt_max : bootBuiltins "max" = some (.builtin "max") := by decide +kernel
theorem bt_min : bootBuiltins "min" = some (.builtin "min") := by decide +kernel
theorem bt_all : bootBuiltins "all" = some (.builtin "all") := by decide +kernel
theorem zCG : bootBuiltins "int" = some (.type "int") := by decide +kernel
theorem bt_bool : bootBuiltins "bool" = some (.type "bool") := by decide +kernel
theorem uC : bootBuiltins "tuple" = some (.type "tuple") := by decide +kernel
theorem QJ : bootBuiltins "list" = some (.type "list") := by decide +kernel
theorem bt_str : bootBuiltins "str" = some (.type "str") := by decide +kernel
theorem bt_dict : bootBuiltins "dict" = some (.type "dict") := by decide +kernel
section
variable {X : Cx} {K : PySem.W.Frag} {mg : Str → Option Value} {σ : St} {H : Hp}
def eNeg (a : ME) : ME := fun E => match a E with
 | .ok (.val (.int i),E1) => .ok (.val (.int (-i)),E1)
 | .exc x E1 => .exc x E1
 | _ => .stuck
theorem ok_neg {a : Expr} {m : ME} {pos : Pos} (h : EOk X a m) : EOk X (.UnaryOp .USub a pos) (eNeg m) := zn (pe_un zB0 h) fun σ H Q ⟨M,E,hl,fr,k⟩ => by
 unfold eNeg at k;refine zt (T0 := []) hl fr ?_;cases ea : m E with
 | stuck => rw [ea] at k; exact k
 | exc x E1 => rw [ea] at k; exact k
 | ok p =>
  obtain ⟨r,E1⟩ := p;rw [ea] at k;cases r with
  | own ds => exact k.elim
  | val d =>
   cases d with
   | int i =>
    intro v H' g;exact ⟨i,zG g.rep,k _ H' (g.flat (d := .int (-i)) rfl)⟩
   | _ => exact k.elim
def je (p p' : Int → Int → Bool) (a b c : ME) : ME := fun E => match a E with
 | .stuck => .stuck
 | .exc x E1 => .exc x E1
 | .ok (.val (.int i),E1) => match b E1 with
  | .stuck => .stuck
  | .exc x E2 => .exc x E2
  | .ok (.val (.int j),E2) => if p i j = true then match c E2 with
    | .stuck => .stuck
    | .exc x E3 => .exc x E3
    | .ok (.val (.int k),E3) => .ok (.val (.bl (p' j k)),E3)
    | _ => .stuck
   else .ok (.val (.bl false),E2)
  | _ => .stuck
 | _ => .stuck
theorem WX {p p' : Int → Int → Bool} {a b c : ME} {Q : VK} (h : tM X (je p p' a b c) σ H Q) : GX (rI0 fun i j => .bl (p i j)) (rI0 fun i j => .bl (p' i j)) (tM X a) (tM X b) (tM X c) σ H Q := by
 obtain ⟨M,E,hl,fr,k⟩ := h;unfold je at k;refine zt (T0 := []) hl fr ?_;cases ea : a E with
 | stuck => rw [ea] at k; exact k
 | exc x E1 => rw [ea] at k; exact k
 | ok q =>
  obtain ⟨r,E1⟩ := q;rw [ea] at k;cases r with
  | own ds => exact k.elim
  | val d =>
   cases d with
   | int i =>
    intro x H1 g1;have g1' := g1.dropAll;refine zt (T0 := []) g1'.len g1'.fr ?_;dsimp only at k;cases eb : b E1 with
    | stuck => rw [eb] at k; exact k
    | exc x E2 => rw [eb] at k; exact fun H' g => k H' (g1'.trans' g)
    | ok q =>
     obtain ⟨r2,E2⟩ := q;rw [eb] at k;cases r2 with
     | own ds => exact k.elim
     | val d2 =>
      cases d2 with
      | int j =>
       intro y H2 g2;have g12 := (g1'.trans' g2).dropAll;refine ⟨i,j,zG g1.rep,zG g2.rep,p i j,rfl,?_⟩;dsimp only at k;cases ep : p i j with
       | false =>
        rw [ep] at k;exact iteF (k _ H2 (g12.flat (d := .bl false) rfl))
       | true =>
        rw [ep] at k;simp only [if_true] at k;refine iteT (zt (T0 := []) g12.len g12.fr ?_);cases ec : c E2 with
        | stuck => rw [ec] at k; exact k
        | exc x E3 => rw [ec] at k; exact fun H' g => k H' (g12.trans' g)
        | ok q =>
         obtain ⟨r3,E3⟩ := q;rw [ec] at k;cases r3 with
         | own ds => exact k.elim
         | val d3 =>
          cases d3 with
          | int n =>
           intro w H3 g3;exact ⟨j,n,zG g2.rep,zG g3.rep,k _ H3 ((g12.trans' g3).flat (d := .bl (p' j n)) rfl)⟩
          | _ => exact k.elim
      | _ => exact k.elim
   | _ => exact k.elim
theorem zBM {op op' : CmpOp} {p p' : Int → Int → Bool} {a b c : Expr} {ma mb mc : ME} {pos : Pos} (ho : OpR X (compareOp op) (rI0 fun i j => .bl (p i j))) (ho' : OpR X (compareOp op') (rI0 fun i j => .bl (p' i j))) (ha : EOk X a ma) (hb : EOk X b mb) (hc : EOk X c mc)
  (hm : lastMarks [op,op'] [b,c] = false := by with_unfolding_all rfl) : EOk X (.Compare a [op,op'] [b,c] pos) (je p p' ma mb mc) := zn (zAf ho ho' ha hb hc hm) fun σ H Q => WX
theorem QK {op op' : CmpOp} {p p' : Int → Int → Bool} {a b c : Expr} {ma mb mc : ME} {pos : Pos} (ho : OpR X (compareOp op) (rI0 fun i j => .bl (p i j))) (ho' : OpR X (compareOp op') (rI0 fun i j => .bl (p' i j))) (ha : EOk X a ma) (hb : EOk X b mb) (hc : EOk X c mc)
  (hm : lastMarks [op,op'] [b,c] = false := by with_unfolding_all rfl) : TOk X (.Compare a [op,op'] [b,c] pos) (tT (je p p' ma mb mc)) := WM (zAg ho ho' ha hb hc hm) fun σ H Q q => WX (Gy q)
abbrev ltB : Int → Int → Bool := fun i j => decide (i < j)
abbrev leB : Int → Int → Bool := fun i j => decide (i ≤ j)
abbrev gtB : Int → Int → Bool := fun i j => decide (j < i)
abbrev geB : Int → Int → Bool := fun i j => decide (j ≤ i)
def QL (X : Cx) (scope : Scope) : List Nat → List Str → Prop
 | [],[] => True
 | j :: js,x :: xs => X.N[j]? = some x ∧ scope.names.lookup x = some .free ∧ QL X scope js xs
 | _,_ => False
theorem QM {scope : Scope} {loc : List Str} : ∀ {caps : List Nat} {capn : List Str},QL X scope caps capn → capn.length = caps.length ∧ ∀ (i j : Nat),caps[i]? = some j → ∃ x,capn[i]? = some x ∧ X.N[j]? = some x ∧ scope.names.lookup x = some .free
 | [],[],h => ⟨rfl,fun i j e => by simp at e⟩
 | [],_ :: _,h => h.elim
 | _ :: _,[],h => h.elim
 | j :: js,x :: xs,h => by
  obtain ⟨h1,h2,h3⟩ := h;obtain ⟨i1,i2⟩ := QM (loc := loc) h3;refine ⟨by simp [i1],fun i k e => ?_⟩;cases i with
  | zero => simp at e; subst e; exact ⟨x,rfl,h1,h2⟩
  | succ i => simp at e; obtain ⟨y,q⟩ := i2 i k e; exact ⟨y,by simpa using q⟩
theorem ok_lc {elt target iter : Expr} {ifs : List Expr} {scope : Scope} {pos : Pos} {mi : MI} {tg : MG} {tt : MT} {el : ME} {g : TG} {nl : Nat} {caps : List Nat} (loc capn : List Str) (hnl : loc.length = nl) (hx : ∀ e s,¬ X.xe e s) (hc : X.calm = true) (hkind : scope.kind = .function) (hnames : ∀ y ∈ scope.names,y.2 = .local → scope.names.lookup y.1 = some .local) (hcell : ∀ y ∈ scope.names,y.2 = .cell → scope.names.lookup y.1 = some .cell)
  (hfree : (scope.names.all fun y => y.2 != .free || X.env.kindOf y.1 == some .cell) = true) (hcap : QL X scope caps capn)
  (hi : IOk X target iter mi) (hg : ∀ cl C ex s H,PG (cxB X (loc ++ capn) scope cl C ex s H) target g) (ho : GOk X g tg) (ht : ∀ cl C ex s H,IfOk (cxB X (loc ++ capn) scope cl C ex s H) ifs tt) (he : ∀ cl C ex s H,EOk (cxB X (loc ++ capn) scope cl C ex s H) elt el)
  (hs : ∀ x,foldedSetIterable iter X.env x = pure x := by intro _; rfl) : EOk X (.ListComp elt [⟨target,iter,ifs,0⟩] scope pos) (Yr nl caps mi tg tt el) := by
 obtain ⟨c1,c2⟩ := QM (loc := loc) hcap;refine ok_comp nl caps (loc ++ capn) hx hc hkind hnames hcell hfree (by simp [hnl,c1]) (fun i j e => ?_) hi hg ho ht he hs;obtain ⟨x,q1,q2,q3⟩ := c2 i j e;refine ⟨x,?_,q2,q3⟩;rw [List.getElem?_append_right (by omega),hnl,Nat.add_sub_cancel_left];exact q1
theorem sk_lc {elt target iter : Expr} {ifs : List Expr} {scope : Scope} {pos : Pos} {mi : MI} {tg : MG} {tt : MT} {el : ME} {g : TG} {nl : Nat} {caps : List Nat} {i : Nat} {y : Str} {py spos : Pos} (loc capn : List Str) (hN : X.N.Nodup) (hi' : X.N[i]? = some y) (hy : Loc X.env.scope y) (hf : X.fn y = true ∨ X.env.scope.names.lookup y = some .local) (hnl : loc.length = nl) (hx : ∀ e s,¬ X.xe e s) (hc : X.calm = true) (hkind : scope.kind = .function) (hnames : ∀ y ∈ scope.names,y.2 = .local → scope.names.lookup y.1 = some .local) (hcell : ∀ y ∈ scope.names,y.2 = .cell → scope.names.lookup y.1 = some .cell)
  (hfree : (scope.names.all fun y => y.2 != .free || X.env.kindOf y.1 == some .cell) = true) (hcap : QL X scope caps capn)
  (hi : IOk X target iter mi) (hg : ∀ cl C ex s H,PG (cxB X (loc ++ capn) scope cl C ex s H) target g) (ho : GOk X g tg) (ht : ∀ cl C ex s H,IfOk (cxB X (loc ++ capn) scope cl C ex s H) ifs tt) (he : ∀ cl C ex s H,EOk (cxB X (loc ++ capn) scope cl C ex s H) elt el)
  (hs : ∀ x,foldedSetIterable iter X.env x = pure x) (hsw : swapsWith (.ListComp elt [⟨target,iter,ifs,0⟩] scope pos) (some (.Name y py)) spos.line X.env = pure true) :
  SOk X (.Assign [.Name y py] (.ListComp elt [⟨target,iter,ifs,0⟩] scope pos) spos) (sSet i (Yr nl caps mi tg tt el)) := by
 obtain ⟨c1,c2⟩ := QM (loc := loc) hcap;refine sk_comp nl caps (loc ++ capn) hN hi' hy hf hx hc hkind hnames hcell hfree (by simp [hnl,c1]) (fun i j e => ?_) hi hg ho ht he hs hsw;obtain ⟨x,q1,q2,q3⟩ := c2 i j e;refine ⟨x,?_,q2,q3⟩;rw [List.getElem?_append_right (by omega),hnl,Nat.add_sub_cancel_left];exact q1
end
section
variable (P : Program) (w : World) (K : PySem.W.Frag) (mg : Str → Option Value) (base : Heap)
def Ju (x : Str) (st : Stmt) (ps : List Str) : Prop := ∃ (a : Addr) (fd : FuncData),mg x = some (.ref a) ∧ Fun K x x st a fd ∧ J2 K fd ps []
def FOk (c : Bool) (x : Str) (k : Nat) (ps : List Str) (F : MF) : Prop := ∃ (a : Addr) (fd : FuncData),mg x = some (.ref a) ∧ keepIn K (.ref a) = true ∧ J2 K fd ps [] ∧ FnOkN c P w K mg base k a fd ps (spM K mg ps.length F)
end
end DV
namespace DV
open PySem L2
section
variable {X : Cx} {n : Nat}
end
end DV
namespace DV
open PySem L2
mutual
def deq : D → D → Bool
 | .tup a,d => match d with
  | .tup b => deqs a b
  | _ => false
 | .lst a,d => match d with
  | .lst b => deqs a b
  | _ => false
 | a,d => match d with
  | .tup _ => false
  | .lst _ => false
  | b => eqV (flV a) (flV b)
def deqs : List D → List D → Bool
 | [],[] => true
 | a :: as,b :: bs => deq a b && deqs as bs
 | [],_ :: _ => false
 | _ :: _,[] => false
end
def eqb : Nat → D → Bool
 | _,.non => true
 | _,.bl _ => true
 | _,.int _ => true
 | _,.str _ => true
 | n + 1,.tup ds => ds.all (eqb n)
 | n + 1,.lst ds => ds.all (eqb n)
 | _,_ => false
theorem jV : ∀ (a b : List D),deqs a b = ((List.range (min a.length b.length)).all (fun j => deq (a.getD j .non) (b.getD j .non)) && a.length == b.length)
 | [],[] => by simp [deqs]
 | [],_ :: _ => by simp [deqs]
 | _ :: _,[] => by simp [deqs]
 | a :: as,b :: bs => by
  simp only [deqs,jV as bs,length_cons];have e : min (as.length + 1) (bs.length + 1) = min as.length bs.length + 1 := by omega
  rw [e,List.range_succ_eq_map,all_cons,List.all_map];simp [Function.comp_def,Bool.and_assoc]
section
variable {X : Cx} {pins : List (Addr × Obj)} {σ : St} {H : Hp} {s : Shared}
theorem yx {d : D} (h : eqb 0 d = true) : flat d = true := by cases d <;> first | rfl | (simp [eqb] at h)
theorem uD {v : V} (h : wD v = true) : eqV v v = true := by cases v <;> simp [wD] at h <;> simp [eqV]
theorem j6 {a b : D} (ha : flat a = true) (hb : flat b = true) : deq a b = eqV (flV a) (flV b) := by
 cases a <;> cases b <;> first | (simp [flat] at ha; done) | (simp [flat] at hb; done) | simp [deq]
theorem ze {n : Nat} {d : D} (h : eqb n d = true) : flat d = true ∨ (∃ m ds,n = m + 1 ∧ d = .tup ds ∧ ∀ e ∈ ds,eqb m e = true) ∨ (∃ m ds,n = m + 1 ∧ d = .lst ds ∧ ∀ e ∈ ds,eqb m e = true) := by
 cases d with
 | tup ds =>
  cases n with
  | zero => simp [eqb] at h
  | succ m => exact .inr (.inl ⟨m,ds,rfl,rfl,by simpa [eqb] using h⟩)
 | lst ds =>
  cases n with
  | zero => simp [eqb] at h
  | succ m => exact .inr (.inr ⟨m,ds,rfl,rfl,by simpa [eqb] using h⟩)
 | fn x => cases n <;> simp [eqb] at h
 | dic => cases n <;> simp [eqb] at h
 | exn x => cases n <;> simp [eqb] at h
 | _ => exact .inl rfl
theorem uE (I : Inv X pins σ H s) : ∀ (n : Nat) (d e : D) (x : V),eqb n d = true → eqb n e = true → Rep X.K X.mg H d x → Rep X.K X.mg H e x → deq d e = true := by
 intro n
 induction n with
 | zero =>
  intro d e x hd he rd re;have fd := yx hd;have fe := yx he;rw [j6 fd fe,← zP fd rd,← zP fe re];exact uD (by rw [zP fd rd]; exact zu fd)
 | succ n ih =>
  intro d e x hd he rd re;have seq : ∀ (ds es : List D) (xs : List V),(∀ e ∈ ds,eqb n e = true) → (∀ e ∈ es,eqb n e = true) → Reps X.K X.mg H ds xs → Reps X.K X.mg H es xs → deqs ds es = true := by
   intro ds
   induction ds with
   | nil =>
    intro es xs _ _ r1 r2;simp only [Reps] at r1; subst r1;cases es with
    | nil => rfl
    | cons e es => simp only [Reps] at r2; obtain ⟨v,r,q,_⟩ := r2; cases q
   | cons d ds ihd =>
    intro es xs h1 h2 r1 r2;simp only [Reps] at r1;obtain ⟨v,r,rfl,a1,a2⟩ := r1;cases es with
    | nil => simp only [Reps] at r2; cases r2
    | cons e es =>
     simp only [Reps] at r2;obtain ⟨v',r',q,b1,b2⟩ := r2;cases q;simp only [deqs,Bool.and_eq_true];exact ⟨ih d e v (h1 d mem_cons_self) (h2 e mem_cons_self) a1 b1,ihd es r (fun z hz => h1 z (mem_cons_of_mem _ hz)) (fun z hz => h2 z (mem_cons_of_mem _ hz)) a2 b2⟩
  have isRef : ∀ {d : D} {a : Addr},flat d = true → Rep X.K X.mg H d (.ref a) → False := fun {d a} fd r => by
   have := zP fd r;cases d <;> simp [flat] at fd <;> cases this
  have kinds : ∀ {a : Addr} {xs ys : List V},SqT X.K H a xs → SqL X.K H a ys → False := fun {a xs ys} h1 h2 => by
   obtain ⟨i1,_,⟨o,e1,c1,_⟩,_⟩ := I.tuple h1;obtain ⟨i2,_,⟨o2,n2,e2,c2,_⟩,_⟩ := I.list h2;rw [e1] at e2; cases e2;rw [c1] at c2; simp at c2
  rcases ze hd with fd | ⟨m,ds,em,rfl,hds⟩ | ⟨m,ds,em,rfl,hds⟩
  ·rcases ze he with fe | ⟨m,es,em,rfl,hes⟩ | ⟨m,es,em,rfl,hes⟩
   ·rw [j6 fd fe,← zP fd rd,← zP fe re]
    exact uD (by rw [zP fd rd]; exact zu fd)
   ·obtain ⟨a,xs,rfl,_,_⟩ := zO re
    exact (isRef fd rd).elim
   ·obtain ⟨a,xs,rfl,_,_⟩ := zH re
    exact (isRef fd rd).elim
  ·cases em
   obtain ⟨a,xs,rfl,q1,q2⟩ := zO rd;rcases ze he with fe | ⟨m,es,em,rfl,hes⟩ | ⟨m,es,em,rfl,hes⟩
   ·exact (isRef fe re).elim
   ·cases em
    obtain ⟨b,ys,e,p1,p2⟩ := zO re;cases e;have := I.tuple_inj q1 p1; subst this;simp only [deq]; exact seq ds es xs hds hes q2 p2
   ·obtain ⟨b,ys,e,p1,p2⟩ := zH re
    cases e;exact (kinds q1 p1).elim
  ·cases em
   obtain ⟨a,xs,rfl,q1,q2⟩ := zH rd;rcases ze he with fe | ⟨m,es,em,rfl,hes⟩ | ⟨m,es,em,rfl,hes⟩
   ·exact (isRef fe re).elim
   ·obtain ⟨b,ys,e,p1,p2⟩ := zO re
    cases e;exact (kinds p1 q1).elim
   ·cases em
    obtain ⟨b,ys,e,p1,p2⟩ := zH re;cases e;have := I.list_inj q1 p1; subst this;simp only [deq]; exact seq ds es xs hds hes q2 p2
theorem jl {ds : List D} {xs : List V} {us : List Value} (r : Reps X.K X.mg H ds xs) (v : zb xs us) {j : Nat} (h : j < us.length) : j < ds.length ∧ ∃ x,Rep X.K X.mg H (ds.getD j .non) x ∧ zw x us[j] := by
 have l1 := r.length;have l2 := v.length;have hd : j < ds.length := by omega
 refine ⟨hd,?_⟩;obtain ⟨x,q1,q2⟩ := r.get' (i := j) (d := ds[j]) (by simp [hd]);obtain ⟨u,e1,e2⟩ := v.get q1;have : us[j] = u := by
  have := List.getElem?_eq_some_iff.mp e1;exact this.2
 refine ⟨x,?_,by rw [this]; exact e2⟩;rw [getD_eq_getElem?_getD,getElem?_eq_getElem hd];exact q2
theorem eqAt_ft {A : Around} {d : D} {x : V} {u : Value} {b : Addr} {its : Array Value} (hd : flat d = true) (rx : zw x u) (ex : x = flV d) (hb : s.heap.IsTuple b its) (hu : A.units < cLine) : SeqAt.EqAt A s u (.ref b) false := by
 subst ex;cases d with
 | non => cases rx; exact SeqAt.EqAt.none_tuple hb hu
 | bl c => cases rx; exact SeqAt.EqAt.bool_tuple c hb hu
 | int i => obtain ⟨t,rfl⟩ := rx; exact SeqAt.EqAt.int_tuple i t hb hu
 | str z => obtain ⟨t,rfl⟩ := rx; exact SeqAt.EqAt.str_tuple z t hb hu
 | _ => simp [flat] at hd
theorem eqAt_fl {A : Around} {d : D} {x : V} {u : Value} {b : Addr} {its : Array Value} (hd : flat d = true) (rx : zw x u) (ex : x = flV d) (hb : s.heap.IsList b its) (hu : A.units < cLine) : SeqAt.EqAt A s u (.ref b) false := by
 subst ex;cases d with
 | non => cases rx; exact SeqAt.EqAt.none_list hb hu
 | bl c => cases rx; exact SeqAt.EqAt.bool_list c hb hu
 | int i => obtain ⟨t,rfl⟩ := rx; exact SeqAt.EqAt.int_list i t hb hu
 | str z => obtain ⟨t,rfl⟩ := rx; exact SeqAt.EqAt.str_list z t hb hu
 | _ => simp [flat] at hd
theorem eqAt_tf {A : Around} {d : D} {x : V} {u : Value} {b : Addr} {its : Array Value} (hd : flat d = true) (rx : zw x u) (ex : x = flV d) (hb : s.heap.IsTuple b its) (hu : A.units < cLine) : SeqAt.EqAt A s (.ref b) u false := by
 subst ex;cases d with
 | non => cases rx; exact SeqAt.EqAt.tuple_none hb hu
 | bl c => cases rx; exact SeqAt.EqAt.tuple_bool c hb hu
 | int i => obtain ⟨t,rfl⟩ := rx; exact SeqAt.EqAt.tuple_int i t hb hu
 | str z => obtain ⟨t,rfl⟩ := rx; exact SeqAt.EqAt.tuple_str z t hb hu
 | _ => simp [flat] at hd
theorem eqAt_lf {A : Around} {d : D} {x : V} {u : Value} {b : Addr} {its : Array Value} (hd : flat d = true) (rx : zw x u) (ex : x = flV d) (hb : s.heap.IsList b its) (hu : A.units < cLine) : SeqAt.EqAt A s (.ref b) u false := by
 subst ex;cases d with
 | non => cases rx; exact SeqAt.EqAt.list_none hb hu
 | bl c => cases rx; exact SeqAt.EqAt.list_bool c hb hu
 | int i => obtain ⟨t,rfl⟩ := rx; exact SeqAt.EqAt.list_int i t hb hu
 | str z => obtain ⟨t,rfl⟩ := rx; exact SeqAt.EqAt.list_str z t hb hu
 | _ => simp [flat] at hd
theorem QN {d : D} {ds : List D} (h : flat d = true) : deq d (.tup ds) = false := by cases d <;> simp [flat] at h <;> simp [deq]
theorem QO {d : D} {ds : List D} (h : flat d = true) : deq d (.lst ds) = false := by cases d <;> simp [flat] at h <;> simp [deq]
theorem QP {d : D} {ds : List D} (h : flat d = true) : deq (.tup ds) d = false := by cases d <;> simp [flat] at h <;> simp [deq]
theorem QR {d : D} {ds : List D} (h : flat d = true) : deq (.lst ds) d = false := by cases d <;> simp [flat] at h <;> simp [deq]
theorem eqAtD (I : Inv X pins σ H s) : ∀ (n : Nat) (A : Around) (d e : D) (x y : V) (u v : Value),eqb n d = true → eqb n e = true → Rep X.K X.mg H d x → Rep X.K X.mg H e y → zw x u → zw y v → A.units + n < cLine → SeqAt.EqAt A s u v (deq d e) := by
 intro n
 induction n with
 | zero =>
  intro A d e x y u v hd he rd re rx ry hu;have fd := yx hd;have fe := yx he;rw [j6 fd fe,← zP fd rd,← zP fe re];exact Gg rx ry (by rw [zP fd rd]; exact zu fd) (by rw [zP fe re]; exact zu fe)
 | succ n ih =>
  intro A d e x y u v hd he rd re rx ry hu;have hu0 : A.units < cLine := by omega
  have item : ∀ {ds es : List D} {xs ys : List V} {us vs : List Value},(∀ e ∈ ds,eqb n e = true) → (∀ e ∈ es,eqb n e = true) → Reps X.K X.mg H ds xs → Reps X.K X.mg H es ys → zb xs us → zb ys vs →
    ∀ j (h1 : j < us.toArray.size) (h2 : j < vs.toArray.size),SeqAt.EqAt A.in1 s us.toArray[j] vs.toArray[j] (deq (ds.getD j .non) (es.getD j .non)) := by
   intro ds es xs ys us vs k1 k2 r1 r2 v1 v2 j h1 h2;have h1' : j < us.length := by simpa using h1
   have h2' : j < vs.length := by simpa using h2
   obtain ⟨l1,x1,a1,b1⟩ := jl r1 v1 h1';obtain ⟨l2,x2,a2,b2⟩ := jl r2 v2 h2';rw [getElem_toArray,getElem_toArray];have m1 : ds.getD j .non ∈ ds := by rw [getD_eq_getElem?_getD,getElem?_eq_getElem l1]; exact getElem_mem l1
   have m2 : es.getD j .non ∈ es := by rw [getD_eq_getElem?_getD,getElem?_eq_getElem l2]; exact getElem_mem l2
   exact ih A.in1 _ _ x1 x2 _ _ (k1 _ m1) (k2 _ m2) a1 a2 b1 b2 (by show A.units + 1 + n < cLine; omega)
  rcases ze hd with fd | ⟨m,ds,em,rfl,hds⟩ | ⟨m,ds,em,rfl,hds⟩
  ·have ex := zP fd rd
   rcases ze he with fe | ⟨m,es,em,rfl,hes⟩ | ⟨m,es,em,rfl,hes⟩
   ·rw [j6 fd fe,← zP fd rd,← zP fe re]
    exact Gg rx ry (by rw [zP fd rd]; exact zu fd) (by rw [zP fe re]; exact zu fe)
   ·obtain ⟨b,ys,rfl,p1,p2⟩ := zO re
    cases ry;obtain ⟨its,_,pl,_⟩ := I.tuple p1;rw [QN fd]; exact eqAt_ft fd rx ex pl hu0
   ·obtain ⟨b,ys,rfl,p1,p2⟩ := zH re
    cases ry;obtain ⟨its,_,pl,_⟩ := I.list p1;rw [QO fd]; exact eqAt_fl fd rx ex pl.isList hu0
  ·cases em
   obtain ⟨a,xs,rfl,q1,q2⟩ := zO rd;cases rx;obtain ⟨us,v1,pl1,_⟩ := I.tuple q1;rcases ze he with fe | ⟨m,es,em,rfl,hes⟩ | ⟨m,es,em,rfl,hes⟩
   ·rw [QP fe]; exact eqAt_tf fe ry (zP fe re) pl1 hu0
   ·cases em
    obtain ⟨b,ys,rfl,p1,p2⟩ := zO re;cases ry;obtain ⟨vs,v2,pl2,_⟩ := I.tuple p1;by_cases hab : a = b
    ·subst hab
     rw [uE I (n + 1) _ _ _ hd he rd re];exact SeqAt.EqAt.same _
    ·have q := SeqAt.EqAt.of_refs hab (SeqAt.RcAt.tuples pl1 pl2 hu0 (item hds hes q2 p2 v1 v2))
     simp only [deq];rw [jV];have l1 : us.toArray.size = ds.length := by rw [size_toArray,← v1.length,q2.length]
     have l2 : vs.toArray.size = es.length := by rw [size_toArray,← v2.length,p2.length]
     rw [l1,l2] at q;exact q
   ·obtain ⟨b,ys,rfl,p1,p2⟩ := zH re
    cases ry;obtain ⟨vs,v2,pl2,_⟩ := I.list p1;simp only [deq];exact SeqAt.EqAt.tuple_list pl1 pl2.isList hu0
  ·cases em
   obtain ⟨a,xs,rfl,q1,q2⟩ := zH rd;cases rx;obtain ⟨us,v1,pl1,_⟩ := I.list q1;rcases ze he with fe | ⟨m,es,em,rfl,hes⟩ | ⟨m,es,em,rfl,hes⟩
   ·rw [QR fe]; exact eqAt_lf fe ry (zP fe re) pl1.isList hu0
   ·obtain ⟨b,ys,rfl,p1,p2⟩ := zO re
    cases ry;obtain ⟨vs,v2,pl2,_⟩ := I.tuple p1;simp only [deq];exact SeqAt.EqAt.list_tuple pl1.isList pl2 hu0
   ·cases em
    obtain ⟨b,ys,rfl,p1,p2⟩ := zH re;cases ry;obtain ⟨vs,v2,pl2,_⟩ := I.list p1;have l1 : us.toArray.size = ds.length := by rw [size_toArray,← v1.length,q2.length]
    have l2 : vs.toArray.size = es.length := by rw [size_toArray,← v2.length,p2.length]
    by_cases hab : a = b
    ·subst hab
     rw [uE I (n + 1) _ _ _ hd he rd re];exact SeqAt.EqAt.same _
    ·simp only [deq]
     rw [jV];by_cases hl : ds.length = es.length
     ·have q := SeqAt.EqAt.of_refs hab (SeqAt.RcAt.lists pl1.isList pl2.isList (by rw [l1,l2,hl]) hu0 (item hds hes q2 p2 v1 v2))
      rw [l1] at q;rw [hl] at q ⊢;simpa using q
     ·have q := SeqAt.EqAt.of_refs hab (SeqAt.RcAt.lists_lengths (A := A) pl1.isList pl2.isList (by rw [l1,l2]; simpa using hl) hu0)
      have e : (ds.length == es.length) = false := by simpa using hl
      rw [e,Bool.and_false];exact q
theorem rcAt_V {A : Around} {y x : V} {u v : Value} (ry : zw y u) (rx : zw x v) (fy : wD y = true) (fx : wD x = true) : SeqAt.RcAt A s u v (eqV y x) := by
 cases y with
 | non =>
  cases ry;cases x with
  | non => cases rx; exact SeqAt.RcAt.none_none
  | bl b => cases rx; exact SeqAt.RcAt.none_bool  b
  | int b => obtain ⟨t2,rfl⟩ := rx; exact SeqAt.RcAt.none_int  b t2
  | str b => obtain ⟨t2,rfl⟩ := rx; exact SeqAt.RcAt.none_str  b t2
  | _ => exact absurd (show false = true from fx) Bool.false_ne_true
 | bl a =>
  cases ry;cases x with
  | non => cases rx; exact SeqAt.RcAt.bool_none a
  | bl b => cases rx; exact SeqAt.RcAt.bool_bool a b
  | int b => obtain ⟨t2,rfl⟩ := rx; exact SeqAt.RcAt.bool_int a b t2
  | str b => obtain ⟨t2,rfl⟩ := rx; exact SeqAt.RcAt.bool_str a b t2
  | _ => exact absurd (show false = true from fx) Bool.false_ne_true
 | int a =>
  obtain ⟨t,rfl⟩ := ry;cases x with
  | non => cases rx; exact SeqAt.RcAt.int_none a t
  | bl b => cases rx; exact SeqAt.RcAt.int_bool a t b
  | int b => obtain ⟨t2,rfl⟩ := rx; exact SeqAt.RcAt.int_int a t b t2
  | str b => obtain ⟨t2,rfl⟩ := rx; exact SeqAt.RcAt.int_str a t b t2
  | _ => exact absurd (show false = true from fx) Bool.false_ne_true
 | str a =>
  obtain ⟨t,rfl⟩ := ry;cases x with
  | non => cases rx; exact SeqAt.RcAt.str_none a t
  | bl b => cases rx; exact SeqAt.RcAt.str_bool a t b
  | int b => obtain ⟨t2,rfl⟩ := rx; exact SeqAt.RcAt.str_int a t b t2
  | str b => obtain ⟨t2,rfl⟩ := rx; exact SeqAt.RcAt.str_str a t b t2
  | _ => exact absurd (show false = true from fx) Bool.false_ne_true
 | _ => exact absurd (show false = true from fy) Bool.false_ne_true
theorem rcNe_V {A : Around} {y x : V} {u v : Value} (ry : zw y u) (rx : zw x v) (fy : wD y = true) (fx : wD x = true) : SeqAt.RcNeAt A s u v (!eqV y x) := by
 cases y with
 | non =>
  cases ry;cases x with
  | non => cases rx; exact SeqAt.RcNeAt.none_none
  | bl b => cases rx; exact SeqAt.RcNeAt.none_bool  b
  | int b => obtain ⟨t2,rfl⟩ := rx; exact SeqAt.RcNeAt.none_int  b t2
  | str b => obtain ⟨t2,rfl⟩ := rx; exact SeqAt.RcNeAt.none_str  b t2
  | _ => exact absurd (show false = true from fx) Bool.false_ne_true
 | bl a =>
  cases ry;cases x with
  | non => cases rx; exact SeqAt.RcNeAt.bool_none a
  | bl b => cases rx; exact SeqAt.RcNeAt.bool_bool a b
  | int b => obtain ⟨t2,rfl⟩ := rx; exact SeqAt.RcNeAt.bool_int a b t2
  | str b => obtain ⟨t2,rfl⟩ := rx; exact SeqAt.RcNeAt.bool_str a b t2
  | _ => exact absurd (show false = true from fx) Bool.false_ne_true
 | int a =>
  obtain ⟨t,rfl⟩ := ry;cases x with
  | non => cases rx; exact SeqAt.RcNeAt.int_none a t
  | bl b => cases rx; exact SeqAt.RcNeAt.int_bool a t b
  | int b => obtain ⟨t2,rfl⟩ := rx; exact SeqAt.RcNeAt.int_int a t b t2
  | str b => obtain ⟨t2,rfl⟩ := rx; exact SeqAt.RcNeAt.int_str a t b t2
  | _ => exact absurd (show false = true from fx) Bool.false_ne_true
 | str a =>
  obtain ⟨t,rfl⟩ := ry;cases x with
  | non => cases rx; exact SeqAt.RcNeAt.str_none a t
  | bl b => cases rx; exact SeqAt.RcNeAt.str_bool a t b
  | int b => obtain ⟨t2,rfl⟩ := rx; exact SeqAt.RcNeAt.str_int a t b t2
  | str b => obtain ⟨t2,rfl⟩ := rx; exact SeqAt.RcNeAt.str_str a t b t2
  | _ => exact absurd (show false = true from fx) Bool.false_ne_true
 | _ => exact absurd (show false = true from fy) Bool.false_ne_true
theorem rc_ft {A : Around} {d : D} {x : V} {u : Value} {b : Addr} {its : Array Value} (hd : flat d = true) (rx : zw x u) (ex : x = flV d) (hb : s.heap.IsTuple b its) (hu : A.units < cLine) : SeqAt.RcAt A s u (.ref b) false := by
 subst ex;cases d with
 | non => cases rx; exact SeqAt.RcAt.none_tuple hb hu
 | bl c => cases rx; exact SeqAt.RcAt.bool_tuple c hb hu
 | int c => obtain ⟨t,rfl⟩ := rx; exact SeqAt.RcAt.int_tuple c t hb hu
 | str c => obtain ⟨t,rfl⟩ := rx; exact SeqAt.RcAt.str_tuple c t hb hu
 | _ => simp [flat] at hd
theorem rc_fl {A : Around} {d : D} {x : V} {u : Value} {b : Addr} {its : Array Value} (hd : flat d = true) (rx : zw x u) (ex : x = flV d) (hb : s.heap.IsList b its) (hu : A.units < cLine) : SeqAt.RcAt A s u (.ref b) false := by
 subst ex;cases d with
 | non => cases rx; exact SeqAt.RcAt.none_list hb hu
 | bl c => cases rx; exact SeqAt.RcAt.bool_list c hb hu
 | int c => obtain ⟨t,rfl⟩ := rx; exact SeqAt.RcAt.int_list c t hb hu
 | str c => obtain ⟨t,rfl⟩ := rx; exact SeqAt.RcAt.str_list c t hb hu
 | _ => simp [flat] at hd
theorem rc_tf {A : Around} {d : D} {x : V} {u : Value} {b : Addr} {its : Array Value} (hd : flat d = true) (rx : zw x u) (ex : x = flV d) (hb : s.heap.IsTuple b its) (hu : A.units < cLine) : SeqAt.RcAt A s (.ref b) u false := by
 subst ex;cases d with
 | non => cases rx; exact SeqAt.RcAt.tuple_none hb hu
 | bl c => cases rx; exact SeqAt.RcAt.tuple_bool c hb hu
 | int c => obtain ⟨t,rfl⟩ := rx; exact SeqAt.RcAt.tuple_int c t hb hu
 | str c => obtain ⟨t,rfl⟩ := rx; exact SeqAt.RcAt.tuple_str c t hb hu
 | _ => simp [flat] at hd
theorem rc_lf {A : Around} {d : D} {x : V} {u : Value} {b : Addr} {its : Array Value} (hd : flat d = true) (rx : zw x u) (ex : x = flV d) (hb : s.heap.IsList b its) (hu : A.units < cLine) : SeqAt.RcAt A s (.ref b) u false := by
 subst ex;cases d with
 | non => cases rx; exact SeqAt.RcAt.list_none hb hu
 | bl c => cases rx; exact SeqAt.RcAt.list_bool c hb hu
 | int c => obtain ⟨t,rfl⟩ := rx; exact SeqAt.RcAt.list_int c t hb hu
 | str c => obtain ⟨t,rfl⟩ := rx; exact SeqAt.RcAt.list_str c t hb hu
 | _ => simp [flat] at hd
theorem rn_ft {A : Around} {d : D} {x : V} {u : Value} {b : Addr} {its : Array Value} (hd : flat d = true) (rx : zw x u) (ex : x = flV d) (hb : s.heap.IsTuple b its) (hu : A.units < cLine) : SeqAt.RcNeAt A s u (.ref b) true := by
 subst ex;cases d with
 | non => cases rx; exact SeqAt.RcNeAt.none_tuple hb hu
 | bl c => cases rx; exact SeqAt.RcNeAt.bool_tuple c hb hu
 | int c => obtain ⟨t,rfl⟩ := rx; exact SeqAt.RcNeAt.int_tuple c t hb hu
 | str c => obtain ⟨t,rfl⟩ := rx; exact SeqAt.RcNeAt.str_tuple c t hb hu
 | _ => simp [flat] at hd
theorem rn_fl {A : Around} {d : D} {x : V} {u : Value} {b : Addr} {its : Array Value} (hd : flat d = true) (rx : zw x u) (ex : x = flV d) (hb : s.heap.IsList b its) (hu : A.units < cLine) : SeqAt.RcNeAt A s u (.ref b) true := by
 subst ex;cases d with
 | non => cases rx; exact SeqAt.RcNeAt.none_list hb hu
 | bl c => cases rx; exact SeqAt.RcNeAt.bool_list c hb hu
 | int c => obtain ⟨t,rfl⟩ := rx; exact SeqAt.RcNeAt.int_list c t hb hu
 | str c => obtain ⟨t,rfl⟩ := rx; exact SeqAt.RcNeAt.str_list c t hb hu
 | _ => simp [flat] at hd
theorem rn_tf {A : Around} {d : D} {x : V} {u : Value} {b : Addr} {its : Array Value} (hd : flat d = true) (rx : zw x u) (ex : x = flV d) (hb : s.heap.IsTuple b its) (hu : A.units < cLine) : SeqAt.RcNeAt A s (.ref b) u true := by
 subst ex;cases d with
 | non => cases rx; exact SeqAt.RcNeAt.tuple_none hb hu
 | bl c => cases rx; exact SeqAt.RcNeAt.tuple_bool c hb hu
 | int c => obtain ⟨t,rfl⟩ := rx; exact SeqAt.RcNeAt.tuple_int c t hb hu
 | str c => obtain ⟨t,rfl⟩ := rx; exact SeqAt.RcNeAt.tuple_str c t hb hu
 | _ => simp [flat] at hd
theorem rn_lf {A : Around} {d : D} {x : V} {u : Value} {b : Addr} {its : Array Value} (hd : flat d = true) (rx : zw x u) (ex : x = flV d) (hb : s.heap.IsList b its) (hu : A.units < cLine) : SeqAt.RcNeAt A s (.ref b) u true := by
 subst ex;cases d with
 | non => cases rx; exact SeqAt.RcNeAt.list_none hb hu
 | bl c => cases rx; exact SeqAt.RcNeAt.list_bool c hb hu
 | int c => obtain ⟨t,rfl⟩ := rx; exact SeqAt.RcNeAt.list_int c t hb hu
 | str c => obtain ⟨t,rfl⟩ := rx; exact SeqAt.RcNeAt.list_str c t hb hu
 | _ => simp [flat] at hd
theorem rcAtD (I : Inv X pins σ H s) (n : Nat) (A : Around) (d e : D) (x y : V) (u v : Value) (hd : eqb n d = true) (he : eqb n e = true) (rd : Rep X.K X.mg H d x) (re : Rep X.K X.mg H e y) (rx : zw x u) (ry : zw y v) (hu : A.units + n < cLine) : SeqAt.RcAt A s u v (deq d e) := by
 have hu0 : A.units < cLine := by omega
 have item : ∀ {m : Nat} {ds es : List D} {xs ys : List V} {us vs : List Value},n = m + 1 → (∀ e ∈ ds,eqb m e = true) → (∀ e ∈ es,eqb m e = true) → Reps X.K X.mg H ds xs → Reps X.K X.mg H es ys → zb xs us → zb ys vs →
   ∀ j (h1 : j < us.toArray.size) (h2 : j < vs.toArray.size),SeqAt.EqAt A.in1 s us.toArray[j] vs.toArray[j] (deq (ds.getD j .non) (es.getD j .non)) := by
  intro m ds es xs ys us vs hm k1 k2 r1 r2 v1 v2 j h1 h2;have h1' : j < us.length := by simpa using h1
  have h2' : j < vs.length := by simpa using h2
  obtain ⟨l1,x1,a1,b1⟩ := jl r1 v1 h1';obtain ⟨l2,x2,a2,b2⟩ := jl r2 v2 h2';rw [getElem_toArray,getElem_toArray];have m1 : ds.getD j .non ∈ ds := by rw [getD_eq_getElem?_getD,getElem?_eq_getElem l1]; exact getElem_mem l1
  have m2 : es.getD j .non ∈ es := by rw [getD_eq_getElem?_getD,getElem?_eq_getElem l2]; exact getElem_mem l2
  exact eqAtD I m A.in1 _ _ x1 x2 _ _ (k1 _ m1) (k2 _ m2) a1 a2 b1 b2 (by show A.units + 1 + m < cLine; omega)
 rcases ze hd with fd | ⟨m,ds,em,rfl,hds⟩ | ⟨m,ds,em,rfl,hds⟩
 ·have ex := zP fd rd
  rcases ze he with fe | ⟨m,es,em,rfl,hes⟩ | ⟨m,es,em,rfl,hes⟩
  ·rw [j6 fd fe,← zP fd rd,← zP fe re]
   exact rcAt_V rx ry (by rw [zP fd rd]; exact zu fd) (by rw [zP fe re]; exact zu fe)
  ·obtain ⟨b,ys,rfl,p1,p2⟩ := zO re
   cases ry;obtain ⟨its,_,pl,_⟩ := I.tuple p1;rw [QN fd]; exact rc_ft fd rx ex pl hu0
  ·obtain ⟨b,ys,rfl,p1,p2⟩ := zH re
   cases ry;obtain ⟨its,_,pl,_⟩ := I.list p1;rw [QO fd]; exact rc_fl fd rx ex pl.isList hu0
 ·obtain ⟨a,xs,rfl,q1,q2⟩ := zO rd
  cases rx;obtain ⟨us,v1,pl1,_⟩ := I.tuple q1;rcases ze he with fe | ⟨m',es,em',rfl,hes⟩ | ⟨m',es,em',rfl,hes⟩
  ·rw [QP fe]; exact rc_tf fe ry (zP fe re) pl1 hu0
  ·have : m = m' := by omega
   subst this;obtain ⟨b,ys,rfl,p1,p2⟩ := zO re;cases ry;obtain ⟨vs,v2,pl2,_⟩ := I.tuple p1;have q := SeqAt.RcAt.tuples pl1 pl2 hu0 (item em hds hes q2 p2 v1 v2);simp only [deq];rw [jV];have l1 : us.toArray.size = ds.length := by rw [size_toArray,← v1.length,q2.length]
   have l2 : vs.toArray.size = es.length := by rw [size_toArray,← v2.length,p2.length]
   rw [l1,l2] at q;exact q
  ·obtain ⟨b,ys,rfl,p1,p2⟩ := zH re
   cases ry;obtain ⟨vs,v2,pl2,_⟩ := I.list p1;simp only [deq];exact SeqAt.RcAt.tuple_list pl1 pl2.isList hu0
 ·obtain ⟨a,xs,rfl,q1,q2⟩ := zH rd
  cases rx;obtain ⟨us,v1,pl1,_⟩ := I.list q1;rcases ze he with fe | ⟨m',es,em',rfl,hes⟩ | ⟨m',es,em',rfl,hes⟩
  ·rw [QR fe]; exact rc_lf fe ry (zP fe re) pl1.isList hu0
  ·obtain ⟨b,ys,rfl,p1,p2⟩ := zO re
   cases ry;obtain ⟨vs,v2,pl2,_⟩ := I.tuple p1;simp only [deq];exact SeqAt.RcAt.list_tuple pl1.isList pl2 hu0
  ·have : m = m' := by omega
   subst this;obtain ⟨b,ys,rfl,p1,p2⟩ := zH re;cases ry;obtain ⟨vs,v2,pl2,_⟩ := I.list p1;have l1 : us.toArray.size = ds.length := by rw [size_toArray,← v1.length,q2.length]
   have l2 : vs.toArray.size = es.length := by rw [size_toArray,← v2.length,p2.length]
   simp only [deq];rw [jV];by_cases hl : ds.length = es.length
   ·have q := SeqAt.RcAt.lists pl1.isList pl2.isList (by rw [l1,l2,hl]) hu0 (item em hds hes q2 p2 v1 v2)
    rw [l1] at q;rw [hl] at q ⊢;simpa using q
   ·have q := SeqAt.RcAt.lists_lengths (A := A) pl1.isList pl2.isList (by rw [l1,l2]; simpa using hl) hu0
    have e : (ds.length == es.length) = false := by simpa using hl
    rw [e,Bool.and_false];exact q
theorem rcNeD (I : Inv X pins σ H s) (n : Nat) (A : Around) (d e : D) (x y : V) (u v : Value) (hd : eqb n d = true) (he : eqb n e = true) (rd : Rep X.K X.mg H d x) (re : Rep X.K X.mg H e y) (rx : zw x u) (ry : zw y v) (hu : A.units + n < cLine) : SeqAt.RcNeAt A s u v (!deq d e) := by
 have hu0 : A.units < cLine := by omega
 have item : ∀ {m : Nat} {ds es : List D} {xs ys : List V} {us vs : List Value},n = m + 1 → (∀ e ∈ ds,eqb m e = true) → (∀ e ∈ es,eqb m e = true) → Reps X.K X.mg H ds xs → Reps X.K X.mg H es ys → zb xs us → zb ys vs →
   ∀ j (h1 : j < us.toArray.size) (h2 : j < vs.toArray.size),SeqAt.EqAt A.in1 s us.toArray[j] vs.toArray[j] (deq (ds.getD j .non) (es.getD j .non)) := by
  intro m ds es xs ys us vs hm k1 k2 r1 r2 v1 v2 j h1 h2;have h1' : j < us.length := by simpa using h1
  have h2' : j < vs.length := by simpa using h2
  obtain ⟨l1,x1,a1,b1⟩ := jl r1 v1 h1';obtain ⟨l2,x2,a2,b2⟩ := jl r2 v2 h2';rw [getElem_toArray,getElem_toArray];have m1 : ds.getD j .non ∈ ds := by rw [getD_eq_getElem?_getD,getElem?_eq_getElem l1]; exact getElem_mem l1
  have m2 : es.getD j .non ∈ es := by rw [getD_eq_getElem?_getD,getElem?_eq_getElem l2]; exact getElem_mem l2
  exact eqAtD I m A.in1 _ _ x1 x2 _ _ (k1 _ m1) (k2 _ m2) a1 a2 b1 b2 (by show A.units + 1 + m < cLine; omega)
 rcases ze hd with fd | ⟨m,ds,em,rfl,hds⟩ | ⟨m,ds,em,rfl,hds⟩
 ·have ex := zP fd rd
  rcases ze he with fe | ⟨m,es,em,rfl,hes⟩ | ⟨m,es,em,rfl,hes⟩
  ·rw [j6 fd fe,← zP fd rd,← zP fe re]
   exact rcNe_V rx ry (by rw [zP fd rd]; exact zu fd) (by rw [zP fe re]; exact zu fe)
  ·obtain ⟨b,ys,rfl,p1,p2⟩ := zO re
   cases ry;obtain ⟨its,_,pl,_⟩ := I.tuple p1;rw [QN fd]; exact rn_ft fd rx ex pl hu0
  ·obtain ⟨b,ys,rfl,p1,p2⟩ := zH re
   cases ry;obtain ⟨its,_,pl,_⟩ := I.list p1;rw [QO fd]; exact rn_fl fd rx ex pl.isList hu0
 ·obtain ⟨a,xs,rfl,q1,q2⟩ := zO rd
  cases rx;obtain ⟨us,v1,pl1,_⟩ := I.tuple q1;rcases ze he with fe | ⟨m',es,em',rfl,hes⟩ | ⟨m',es,em',rfl,hes⟩
  ·rw [QP fe]; exact rn_tf fe ry (zP fe re) pl1 hu0
  ·have : m = m' := by omega
   subst this;obtain ⟨b,ys,rfl,p1,p2⟩ := zO re;cases ry;obtain ⟨vs,v2,pl2,_⟩ := I.tuple p1;have q := SeqAt.RcNeAt.tuples pl1 pl2 hu0 (item em hds hes q2 p2 v1 v2);simp only [deq];rw [jV];have l1 : us.toArray.size = ds.length := by rw [size_toArray,← v1.length,q2.length]
   have l2 : vs.toArray.size = es.length := by rw [size_toArray,← v2.length,p2.length]
   rw [l1,l2] at q;exact q
  ·obtain ⟨b,ys,rfl,p1,p2⟩ := zH re
   cases ry;obtain ⟨vs,v2,pl2,_⟩ := I.list p1;simp only [deq];exact SeqAt.RcNeAt.tuple_list pl1 pl2.isList hu0
 ·obtain ⟨a,xs,rfl,q1,q2⟩ := zH rd
  cases rx;obtain ⟨us,v1,pl1,_⟩ := I.list q1;rcases ze he with fe | ⟨m',es,em',rfl,hes⟩ | ⟨m',es,em',rfl,hes⟩
  ·rw [QR fe]; exact rn_lf fe ry (zP fe re) pl1.isList hu0
  ·obtain ⟨b,ys,rfl,p1,p2⟩ := zO re
   cases ry;obtain ⟨vs,v2,pl2,_⟩ := I.tuple p1;simp only [deq];exact SeqAt.RcNeAt.list_tuple pl1.isList pl2 hu0
  ·have : m = m' := by omega
   subst this;obtain ⟨b,ys,rfl,p1,p2⟩ := zH re;cases ry;obtain ⟨vs,v2,pl2,_⟩ := I.list p1;have l1 : us.toArray.size = ds.length := by rw [size_toArray,← v1.length,q2.length]
   have l2 : vs.toArray.size = es.length := by rw [size_toArray,← v2.length,p2.length]
   simp only [deq];rw [jV];by_cases hl : ds.length = es.length
   ·have q := SeqAt.RcNeAt.lists pl1.isList pl2.isList (by rw [l1,l2,hl]) hu0 (item em hds hes q2 p2 v1 v2)
    rw [l1] at q;rw [hl] at q ⊢;simpa using q
   ·have q := SeqAt.RcNeAt.lists_lengths (A := A) pl1.isList pl2.isList (by rw [l1,l2]; simpa using hl) hu0
    have e : (ds.length == es.length) = false := by simpa using hl
    rw [e,Bool.and_false];exact q
end
section
variable {X : Cx} {K : PySem.W.Frag} {mg : Str → Option Value}
def rEqD (K : PySem.W.Frag) (mg : Str → Option Value) (neg : Bool) : R2 := fun x y H Q => ∃ d e,eqb 20 d = true ∧ eqb 20 e = true ∧ Rep K mg H d x ∧ Rep K mg H e y ∧ Q (.bl (if neg then !deq d e else deq d e)) H
theorem zCH (hu : X.A.units + 20 < cLine) : OpR X (compareOp .Eq) (rEqD X.K X.mg false) := by
 intro pins s σ H x y v u Q I rx ry h;obtain ⟨d,e,h1,h2,r1,r2,q⟩ := h;exact rcAtD I 20 X.A d e x y v u h1 h2 r1 r2 rx ry hu X.prog X.w _ _ ⟨.bl (deq d e),H,I,rfl,q⟩
theorem zCI (hu : X.A.units + 20 < cLine) : OpR X (compareOp .NotEq) (rEqD X.K X.mg true) := by
 intro pins s σ H x y v u Q I rx ry h;obtain ⟨d,e,h1,h2,r1,r2,q⟩ := h;exact rcNeD I 20 X.A d e x y v u h1 h2 r1 r2 rx ry hu X.prog X.w _ _ ⟨.bl (!deq d e),H,I,rfl,q⟩
def eqDD (neg : Bool) (d e : D) : Option R := if eqb 20 d = true ∧ eqb 20 e = true then some (.val (.bl (if neg then !deq d e else deq d e))) else none
theorem zCJ {neg : Bool} : ROk K mg (rEqD K mg neg) (eqDD neg) := by
 intro M H Z x y d1 d2 res Q f r1 r2 e k;unfold eqDD at e;split at e
 ·rename_i hc
  cases e;exact ⟨d1,d2,hc.1,hc.2,r1.mono zE,r2.mono zE,k.flat f rfl⟩
 ·cases e
end
end DV
namespace L2
open PySem PySem.Spec PyProof.Rows
section
variable {X : Cx}
theorem Jv {ns : List Int} {its : List Value} (rv : zb (ns.map V.int) its) (i : Nat) (v : Value) (hv : its.toArray[i]? = some v) : ∃ t,v = .int (ns.getD i 0) t := by
 have hv' : its[i]? = some v := by simpa using hv
 have hi : i < its.length := (List.getElem?_eq_some_iff.mp hv').1;have hl := rv.length;have hx : i < (ns.map V.int).length := by rw [hl]; exact hi
 obtain ⟨u',e1,e2⟩ := rv.get (i := i) (x := (ns.map V.int)[i]) (by simp [hx]);rw [hv'] at e1; cases e1;rw [length_map] at hx;rw [List.getElem_map] at e2;obtain ⟨t,e⟩ := (show ∃ t,v = .int (ns[i]) t from e2);exact ⟨t,by rw [e]; simp [hx]⟩
def zBN (ns : List Int) : Int := ns.getD (argBest (fun i j => decide (ns.getD i 0 > ns.getD j 0)) (ns.length - 1)) 0
def QS (ns : List Int) : Int := ns.getD (argBest (fun i j => decide (ns.getD i 0 < ns.getD j 0)) (ns.length - 1)) 0
theorem QT (hc : X.calm = true) : yb X (.builtin "max") (fun xs H Q => ∃ (p : Addr) (ns : List Int),xs = [.ref p] ∧ SqL X.K H p (ns.map V.int) ∧ 0 < ns.length ∧ Q (.int (zBN ns)) H) := by
 intro pins s σ H xs us Q I r h;obtain ⟨p,ns,rfl,hq,hpos,q⟩ := h;obtain ⟨u,rfl,rx⟩ := Ym r;cases rx;obtain ⟨its,rv,pl,hz⟩ := I.list hq;have hlen : its.length = ns.length := by rw [← rv.length,length_map]
 have hp : p < s.heap.objs.size := by obtain ⟨o,n,e,_⟩ := pl; exact lt_size e
 have hk : ∀ b o,s.heap.get? b = some o → (s.heap.push { cls := .type "list_iterator",data := .fields #[.ref p,.int 0 0] }).get? b = some o := fun b o e => get?_push_of_some _ e
 refine call_max_walk (wpAny_pyIter_list pl.isList ?_);refine ⟨s.heap.objs.size,[s.heap.objs.size,p],[s.heap.objs.size],its.toArray.size,_,_,_,rfl,
  Walks.list (by show X.A.handled = none; exact I.ok.hd hc) _ p (ne_of_lt hp) its.toArray,⟨⟨_,get?_push_size _ rfl,rfl,rfl⟩,?_⟩,?_,?_,CmpOf.ints_gt (fun i => ns.getD i 0) (Jv rv),?_⟩
 ·obtain ⟨o,e,c⟩ := pl.isList
  exact ⟨o,hk _ _ e,c⟩
 ·intro b hb
  rw [size_push];rcases mem_cons.mp hb with rfl | hb
  ·exact lt_succ_self _
  ·have : b = p := by simpa using hb
   subst this; exact lt_succ_of_lt hp
 ·rw [size_toArray,hlen]; exact hpos
 ·intro v h' tk hP kp
  obtain ⟨t,e⟩ := Jv rv _ v hP;subst e;rw [size_toArray,hlen];exact ⟨.int (zBN ns),H,I.kept (t' := tk) fun b o eb => kp b o (fun m => by
   have : b = s.heap.objs.size := by simpa using m
   subst this;exact absurd (lt_size eb) (lt_irrefl _)) (hk b o eb),⟨_,rfl⟩,q⟩
theorem QU (hc : X.calm = true) : yb X (.builtin "min") (fun xs H Q => ∃ (p : Addr) (ns : List Int),xs = [.ref p] ∧ SqL X.K H p (ns.map V.int) ∧ 0 < ns.length ∧ Q (.int (QS ns)) H) := by
 intro pins s σ H xs us Q I r h;obtain ⟨p,ns,rfl,hq,hpos,q⟩ := h;obtain ⟨u,rfl,rx⟩ := Ym r;cases rx;obtain ⟨its,rv,pl,hz⟩ := I.list hq;have hlen : its.length = ns.length := by rw [← rv.length,length_map]
 have hp : p < s.heap.objs.size := by obtain ⟨o,n,e,_⟩ := pl; exact lt_size e
 have hk : ∀ b o,s.heap.get? b = some o → (s.heap.push { cls := .type "list_iterator",data := .fields #[.ref p,.int 0 0] }).get? b = some o := fun b o e => get?_push_of_some _ e
 refine call_min_walk (wpAny_pyIter_list pl.isList ?_);refine ⟨s.heap.objs.size,[s.heap.objs.size,p],[s.heap.objs.size],its.toArray.size,_,_,_,rfl,
  Walks.list (by show X.A.handled = none; exact I.ok.hd hc) _ p (ne_of_lt hp) its.toArray,⟨⟨_,get?_push_size _ rfl,rfl,rfl⟩,?_⟩,?_,?_,CmpOf.ints_lt (fun i => ns.getD i 0) (Jv rv),?_⟩
 ·obtain ⟨o,e,c⟩ := pl.isList
  exact ⟨o,hk _ _ e,c⟩
 ·intro b hb
  rw [size_push];rcases mem_cons.mp hb with rfl | hb
  ·exact lt_succ_self _
  ·have : b = p := by simpa using hb
   subst this; exact lt_succ_of_lt hp
 ·rw [size_toArray,hlen]; exact hpos
 ·intro v h' tk hP kp
  obtain ⟨t,e⟩ := Jv rv _ v hP;subst e;rw [size_toArray,hlen];exact ⟨.int (QS ns),H,I.kept (t' := tk) fun b o eb => kp b o (fun m => by
   have : b = s.heap.objs.size := by simpa using m
   subst this;exact absurd (lt_size eb) (lt_irrefl _)) (hk b o eb),⟨_,rfl⟩,q⟩
theorem ut (a : Int) (t : Tok) (l : Addr) (its : Array Value) (n : Nat) (dd : Option Addr) (sl : Array (Option Value)) :
  Meets (Builtin.«int.__rmul__» ⟨[.int a t,.ref l],[]⟩) (fun _ R s => s.heap.get? l = some { cls := .type "list",dict := dd,data := .seq its n,slots := sl } ∧ R (.ok (.ret Value.notImplemented)) s) :=
 .of_wp fun prog w A R s h => by
  obtain ⟨hp,g,d,tk,os⟩ := s;obtain ⟨hl,h⟩ := h
  wp_walk
  exact ⟨_,rfl,h⟩
theorem QV (l : Addr) (its : Array Value) (n : Nat) (dd : Option Addr) (sl : Array (Option Value)) (k : Int) (u : Tok) (h0 : ¬(!Builtin.List.listFitsIndex k) = true) (h1 : ¬its.size * k.toNat > (2 ^ 63 - 1) / 8) (h2 : ¬Builtin.List.listTooLong (its.size * k.toNat) = true) :
  Meets (Builtin.«list.__mul__» ⟨[.ref l,.int k u],[]⟩) (fun _ R s => s.heap.get? l = some { cls := .type "list",dict := dd,data := .seq its n,slots := sl } ∧
   R (.ok (.ret (Value.ref s.heap.objs.size))) { s with heap := s.heap.push { cls := Value.type "list",data := Data.seq (foldl (fun a b => a ++ b) #[] (replicate (if its.isEmpty = true then 0 else k.toNat) its)) },toks := s.toks }) :=
 .of_wp fun prog w A R s h => by
  obtain ⟨hp,g,d,tk,os⟩ := s;obtain ⟨hl,h⟩ := h;have fits := AutoListH.joined_fits h2
  wp_walk
  refine wpAny_ite_false (decide_eq_false (not_lt.mpr fits)) ?_
  wp_walk
  exact ⟨_,rfl,h⟩
def rRepL (K : PySem.W.Frag) : R2 := fun x y H Q => ∃ l k xs,x = .ref l ∧ y = .int k ∧ SqL K H l xs ∧ -(2 ^ 63) ≤ k ∧ k < 2 ^ 63 ∧ xs.length * k.toNat ≤ sizeLine ∧
 ∀ p,H p = none → Q (.ref p) (upd H p (.lst (replicate k.toNat xs).flatten))
theorem op_repL : OpR X (binaryOp .Mult) (rRepL X.K) := by
 intro pins s σ H x y v u Q I rx ry h;obtain ⟨l,k,xs,rfl,rfl,hH,h1,h2,hz,q⟩ := h;cases rx;obtain ⟨t,rfl⟩ := ry;obtain ⟨its,r,pl,_⟩ := I.list hH;have hl := r.length;obtain ⟨⟨cls,dd,data,sl⟩,n,ho,hc,hdd,hd⟩ := pl;simp only at hc hd;subst hc hd;have hlen : its.toArray.size * k.toNat ≤ sizeLine := by rw [size_toArray,← hl]; exact hz
 have c1 : ¬ its.toArray.size * k.toNat > (2 ^ 63 - 1) / 8 := by
  have : (sizeLine : Nat) ≤ (2 ^ 63 - 1) / 8 := by decide
  omega
 have c2 : ¬ (!Builtin.List.listFitsIndex k) = true := by rw [fitsIndex_both h1 h2]; exact Bool.false_ne_true
 have c3 : ¬ Builtin.List.listTooLong (its.toArray.size * k.toNat) = true := by rw [zAq hlen]; exact Bool.false_ne_true
 have hnew : foldl (fun a b => a ++ b) #[] (replicate (if its.toArray.isEmpty = true then 0 else k.toNat) its.toArray) = (replicate k.toNat its).flatten.toArray := by
  have f0 : ∀ m : Nat,foldl (fun a b => a ++ b) #[] (replicate m its.toArray) = (replicate m its).flatten.toArray := fun m => by
   have := YA its m [];rw [nil_append] at this;exact this
  rw [f0];cases its with
  | nil => simp
  | cons a r' => rw [if_neg (by simp)]
 refine wpAny_binaryOp_repeat_ref (T := "list") (U := "int") (by decide) ⟨_,ho,rfl⟩ (fun s' => typeIs_int s' k t) noFill_list_mul F.fills_int_mul F.slot_int_rmul repeat_list F.slot_int_index.lookup
  (call_meets F.slot_int_rmul (typeIs_int s k t) F.entry_int_rmul (F.args_int_rmul_2 _ _) (ut k t l its.toArray n dd sl) ⟨ho,rfl,⟨_,ho,rfl⟩,?_⟩)
 refine call_meets F.slot_list_mul ⟨_,ho,rfl⟩ F.entry_list_mul (F.args_list_mul_2 _ _) (QV l its.toArray n dd sl k t c2 c1 c3) ⟨ho,?_⟩;rw [hnew];exact ⟨.ref _,_,I.lnew (t' := s.toks) (r.rep k.toNat) (by rw [W2,Nat.mul_comm]; exact hz),rfl,q _ I.fresh⟩
def isV : V → V → Option Bool
 | .non,.non => some true
 | .non,.bl _ => some false
 | .bl _,.non => some false
 | .bl a,.bl b => some (a == b)
 | .non,.int _ => some false
 | .int _,.non => some false
 | .non,.str _ => some false
 | .str _,.non => some false
 | .ref _,.non => some false
 | .non,.ref _ => some false
 | .ref _,.bl _ => some false
 | .bl _,.ref _ => some false
 | .int _,.bl _ => some false
 | .bl _,.int _ => some false
 | .str _,.bl _ => some false
 | .bl _,.str _ => some false
 | _,_ => none
theorem QW {x y : V} {u v : Value} {b : Bool} (h : isV x y = some b) (rx : zw x u) (ry : zw y v) : isSame u v = pure b := by
 cases x <;> cases y <;> simp [isV] at h <;> subst h <;> first
  | (cases rx; cases ry; rfl)
  | (rename_i a b; cases rx; cases ry; cases a <;> cases b <;> rfl)
  | (cases rx; obtain ⟨t,rfl⟩ := ry; rfl)
  | (obtain ⟨t,rfl⟩ := rx; cases ry; rfl)
theorem op_is : OpR X (compareOp .Is) (fun x y H Q => ∃ b,isV x y = some b ∧ Q (.bl b) H) := by
 intro pins s σ H x y v u Q I rx ry h;obtain ⟨b,hb,q⟩ := h;show wpAny _ _ (isSame v u >>= fun c => pure (Value.bool c)) _ _ _;rw [QW hb rx ry];exact wpAny_pure ⟨.bl b,H,I,rfl,q⟩
theorem uF : OpR X (compareOp .IsNot) (fun x y H Q => ∃ b,isV x y = some b ∧ Q (.bl (!b)) H) := by
 intro pins s σ H x y v u Q I rx ry h;obtain ⟨b,hb,q⟩ := h;show wpAny _ _ (isSame v u >>= fun c => pure (Value.bool (!c))) _ _ _;rw [QW hb rx ry];exact wpAny_pure ⟨.bl (!b),H,I,rfl,q⟩
end
end L2
namespace L2
open PySem PySem.Spec PyProof.Rows
def evens {α : Type} : List α → List α
 | [] => []
 | [a] => [a]
 | a :: _ :: r => a :: evens r
theorem Je {α : Type} : ∀ xs : List α,(evens xs).length = (xs.length + 1) / 2
 | [] => by simp [evens]
 | [a] => by simp [evens]
 | a :: _ :: r => by
  simp only [evens,length_cons,Je r];omega
theorem JP {α : Type} : ∀ (xs : List α),(List.range ((xs.length + 1) / 2)).filterMap (fun k => xs[2 * k]?) = evens xs
 | [] => by simp [evens]
 | [a] => by simp [evens,range_succ]
 | a :: b :: r => by
  have e : ((a :: b :: r).length + 1) / 2 = (r.length + 1) / 2 + 1 := by simp only [length_cons]; omega
  rw [e,List.range_succ_eq_map,filterMap_cons];simp only [Nat.mul_zero,List.getElem?_cons_zero,filterMap_map,evens];congr 1;rw [← JP r];congr 1
theorem uG {α : Type} (xs : List α) : (List.range xs.length).filterMap (fun k => xs[xs.length - 1 - k]?) = xs.reverse := by
 have key : ∀ m,m ≤ xs.length → (List.range m).filterMap (fun k => xs[xs.length - 1 - k]?) = xs.reverse.take m := by
  intro m
  induction m with
  | zero => intro _; simp
  | succ m ih =>
   intro hm;rw [range_succ,List.filterMap_append,ih (by omega),List.take_add_one];congr 1;rw [List.getElem?_reverse (by omega)];have h : xs.length - 1 - m < xs.length := by omega
   simp [getElem?_eq_getElem h]
 rw [key _ (le_refl _)];rw [show xs.length = xs.reverse.length by simp,List.take_length]
theorem wx {α β : Type} {f g : α → Option β} : ∀ {l : List α},(∀ x ∈ l,f x = g x) → l.filterMap f = l.filterMap g
 | [],_ => rfl
 | a :: l,h => by
  rw [filterMap_cons,filterMap_cons,h a mem_cons_self,wx fun x hx => h x (mem_cons_of_mem _ hx)]
theorem neg1 : (- -1 : Int) = 1 := rfl
def yM {α : Type} (k : Bool) (xs : List α) : List α := if k then evens xs else xs.reverse
def z9 (k : Bool) : Int := if k then 2 else -1
theorem jm {α : Type} (k : Bool) (xs : List α) : (yM k xs).length ≤ xs.length := by
 cases k
 ·simp [yM]
 ·simp [yM,Je]; omega
theorem zb.evens : ∀ {xs : List V} {us : List Value},zb xs us → zb (evens xs) (L2.evens us)
 | _,_,.nil => .nil
 | _,_,.cons a .nil => .cons a .nil
 | _,_,.cons a (.cons b r) => .cons a (zb.evens r)
theorem zb.rev {xs : List V} {us : List Value} (r : zb xs us) : zb xs.reverse us.reverse := by
 induction r with
 | nil => exact .nil
 | cons a r ih => rw [reverse_cons,reverse_cons]; exact ih.append (.cons a .nil)
theorem zb.step (k : Bool) {xs : List V} {us : List Value} (r : zb xs us) : zb (yM k xs) (yM k us) := by
 cases k
 ·simp only [yM,Bool.false_eq_true,if_false]; exact r.rev
 ·simp only [yM,if_true]; exact r.evens
theorem vD (k : Bool) (n : Nat) : Builtin.Slice.sliceAdjust none none (z9 k) (n : Int) = (if k then ((0 : Int),(n : Int)) else ((n : Int) - 1,-1)) := by
 cases k
 ·simp [Builtin.Slice.sliceAdjust,z9]
 ·simp [Builtin.Slice.sliceAdjust,z9]
theorem vE (k : Bool) (xs : Array Value) : ((List.range (Builtin.Slice.slicePlaces (if k then (0 : Int) else (xs.size : Int) - 1) (if k then (xs.size : Int) else -1) (z9 k))).filterMap fun (m : Nat) => xs[((if k then (0 : Int) else (xs.size : Int) - 1) + (m : Int) * z9 k).toNat]?) = yM k xs.toList := by
 cases k
 ·have e : Builtin.Slice.slicePlaces ((xs.size : Int) - 1) (-1) (-1) = xs.size := by
   simp only [Builtin.Slice.slicePlaces];rw [if_neg (by decide)];by_cases h : (xs.size : Int) - 1 > -1
   ·rw [if_pos h,neg1,Int.ediv_one]; omega
   ·rw [if_neg h]; omega
  simp only [z9,yM,Bool.false_eq_true,if_false,e];rw [← uG xs.toList];rw [Array.length_toList];refine wx fun m hm => ?_
  have hm : m < xs.size := by simpa using hm
  rw [show (((xs.size : Int) - 1) + (m : Int) * -1).toNat = xs.size - 1 - m by omega];simp
 ·have e : Builtin.Slice.slicePlaces (0 : Int) (xs.size : Int) 2 = (xs.size + 1) / 2 := by
   simp only [Builtin.Slice.slicePlaces];rw [if_pos (by decide)];by_cases h : (0 : Int) < (xs.size : Int)
   ·rw [if_pos h]; omega
   ·rw [if_neg h]; omega
  simp only [z9,yM,if_true,e];rw [← JP xs.toList];rw [Array.length_toList];refine wx fun m hm => ?_
  rw [show ((0 : Int) + (m : Int) * 2).toNat = 2 * m by omega];simp
section
variable {prog : Program} {w : World} {A : Around} {E : Value → Shared → Prop} {s : Shared}
theorem WY (k : Bool) {sl : Addr} {t : Tok} {n : Nat} {Q : Int × Int × Nat → Shared → Prop} (hs : s.heap.IsSliceOf sl .none .none (.int (z9 k) t))
  (h : Q ((if k then (0 : Int) else (n : Int) - 1),z9 k,Builtin.Slice.slicePlaces (if k then (0 : Int) else (n : Int) - 1) (if k then (n : Int) else -1) (z9 k)) s) : wpAny (model prog w) A (Builtin.Slice.sliceApplied (.ref sl) (pure (n : Int))) Q E s := by
 obtain ⟨os,o1,o2,o3⟩ := id hs;unfold Builtin.Slice.sliceApplied;unfold Builtin.Slice.sliceFields;refine wpAny_bind (wpAny_bind (wpAny_field o1 o3 (x := .none) rfl ?_));refine wpAny_bind (wpAny_field o1 o3 (x := .none) rfl ?_);refine wpAny_bind (wpAny_field o1 o3 (x := .int (z9 k) t) rfl (wpAny_pure ?_));refine wpAny_bind (HT.slicePart_ (.int (z9 k) t) ?_);show wpAny _ _ (if (z9 k == 0) = true then _ else _) _ _ s;rw [if_neg (by cases k <;> decide)];refine wpAny_bind (HT.slicePart_ .none ?_);refine wpAny_bind (HT.slicePart_ .none ?_);refine wpAny_bind (wpAny_pure ?_);show wpAny _ _ (match Builtin.Slice.sliceAdjust none none (z9 k) (n : Int) with | (lo,hi) => pure (lo,z9 k,Builtin.Slice.slicePlaces lo hi (z9 k))) _ _ s
 rw [vD k n];cases k <;> exact wpAny_pure h
theorem wy (k : Bool) {a sl : Addr} {t : Tok} {its : Array Value} {Q : Value → Shared → Prop} (ht : IsTup s.heap a its) (hs : s.heap.IsSliceOf sl .none .none (.int (z9 k) t)) (hz : its.size ≤ sizeLine)
  (h : Q (.ref s.heap.objs.size) { s with heap := s.heap.push { cls := .type "tuple",data := .seq (yM k its.toList).toArray } }) : wpAny (model prog w) A (getItem (.ref a) (.ref sl)) Q E s := by
 obtain ⟨os,o1,o2,o3⟩ := id hs;have ts : s.TypeIs (.ref sl) "slice" := ⟨os,o1,o2⟩;have hfit : sizeOk (.seq (yM k its.toList).toArray) := by
  show (yM k its.toList).toArray.size ≤ sizeLine
  have h1 := jm k its.toList;have h2 : its.toList.length = its.size := Array.length_toList;rw [size_toArray]; omega
 unfold getItem
 try with_reducible refine wpAny_holding ?_
 first | refine wpAny_bind (wpAny_pure ?_) | skip
 refine wpAny_bind (wpAny_sequenceKey ht.typeIs (by decide) ?_);refine wpAny_bind (wpAny_callSpecial?_slot (name := Str.ofString "__getitem__") ht.typeIs PyProof.Rows.slot_tuple_getitem
  (wpAny_call_entry PyProof.Rows.slot_tuple_getitem ht.typeIs entry_tuple_getitem ?_ (args_tuple_getitem _ _)))
 show wpAny _ _ (Builtin.Tuple.tupleItemsOf (.ref a) >>= _) _ _ s
 refine wpAny_bind (tupleItemsOf_ ht ?_);refine wpAny_bind (wpAny_typeOf ts ?_);rw [if_pos (by decide)];refine wpAny_bind (WY k hs ?_);have hno : ¬ (((if k then (0 : Int) else (its.size : Int) - 1) == 0 && z9 k == 1 && (Builtin.Slice.slicePlaces (if k then (0 : Int) else (its.size : Int) - 1) (if k then (its.size : Int) else -1) (z9 k)) == its.size) = true) := by
  intro q;rw [Bool.and_eq_true,Bool.and_eq_true] at q;have q1 := q.1.2;cases k <;> simp [z9] at q1
 show wpAny _ _ (if ((if k then (0 : Int) else (its.size : Int) - 1) == 0 && z9 k == 1 && (Builtin.Slice.slicePlaces (if k then (0 : Int) else (its.size : Int) - 1) (if k then (its.size : Int) else -1) (z9 k)) == its.size) = true then _ else _) _ _ s
 rw [if_neg hno,vE]
 first
  | exact wpAny_bind (m := Builtin.Tuple.tupleExact _) (wpAny_newObj_type (wpAny_pure ⟨_,rfl,wpAny_pure h⟩) hfit)
  | exact wpAny_bind (wpAny_bind (m := Builtin.Tuple.tupleExact _) (wpAny_newObj_type (wpAny_pure ⟨_,rfl,wpAny_pure h⟩) hfit))
end
theorem Ys (k : Bool) (its : Array Value) : slicePick its none none (some (z9 k)) = (yM k its.toList).toArray := by
 unfold slicePick;congr 1;cases k
 ·simp only [z9,sliceBounds,Option.getD_some,Bool.false_eq_true,if_false,yM,sliceRange]
  simp only [show ¬ ((-1 : Int) > 0) by decide,if_false];have e : (if (its.size : Int) - 1 > -1 then ((its.size : Int) - 1 - -1 - -1 - 1) / (- -1) else 0).toNat = its.size := by
   by_cases h : (its.size : Int) - 1 > -1
   ·rw [if_pos h,neg1,Int.ediv_one]; omega
   ·rw [if_neg h]; omega
  rw [e,filterMap_map,← uG its.toList,Array.length_toList];refine wx fun m hm => ?_
  have hm : m < its.size := by simpa using hm
  show its[(((its.size : Int) - 1) + -1 * (m : Int)).toNat]? = _
  rw [show (((its.size : Int) - 1) + -1 * (m : Int)).toNat = its.size - 1 - m by omega];simp
 ·simp only [z9,sliceBounds,Option.getD_some,if_true,yM,sliceRange]
  simp only [show ((2 : Int) > 0) by decide,if_true];have e : (if (0 : Int) < (its.size : Int) then ((its.size : Int) - 0 + 2 - 1) / 2 else 0).toNat = (its.size + 1) / 2 := by
   by_cases h : (0 : Int) < (its.size : Int)
   ·rw [if_pos h]; omega
   ·rw [if_neg h]; omega
  rw [e,filterMap_map,← JP its.toList,Array.length_toList];refine wx fun m hm => ?_
  show its[((0 : Int) + 2 * (m : Int)).toNat]? = _
  rw [show ((0 : Int) + 2 * (m : Int)).toNat = 2 * m by omega];simp
section
variable {X : Cx} {e st : Expr} {te : TE} {pos p2 : Pos}
def rStep (K : PySem.W.Frag) (k : Bool) : V → Hp → VK → Prop := fun x H Q => ∃ a xs,x = .ref a ∧ ((SqT K H a xs ∧ ∀ p,H p = none → Q (.ref p) (upd H p (.tup (yM k xs)))) ∨ (SqL K H a xs ∧ ∀ p,H p = none → Q (.ref p) (upd H p (.lst (yM k xs)))))
theorem pe_step (k : Bool) (he : PE X e te) (hst : PE X st (tC (.int (z9 k)))) : PE X (.Subscript e (.Slice none none (some st) p2) pos) (fun σ H Q => te σ H fun x H1 => rStep X.K k x H1 Q) := by
 intro pins s σ H Q I h;refine Subscript_ (thn (he pins s σ H _ I h) fun v s1 ⟨x,H1,I1,r1,q1⟩ => ?_);refine wpAny_Slice ?_;rw [evalPart_none];refine wpAny_pure ?_;refine wpAny_pure ?_;rw [evalPart_some];refine thn (hst pins s1 σ H1 (fun z H' => z = .int (z9 k) ∧ rStep X.K k x H' Q) I1 ⟨rfl,q1⟩) fun vs s2 ⟨z,H2,I2,rz,ez,q2⟩ => ?_
 subst ez;obtain ⟨t,rfl⟩ := rz;have I3 : Inv X pins σ H2 { s2 with heap := s2.heap.push { cls := .type "slice",data := .fields #[.none,.none,.int (z9 k) t] } } := I2.kept (t' := s2.toks) fun b ob q => get?_push_of_some _ q
 have hsl : (s2.heap.push { cls := .type "slice",data := .fields #[.none,.none,.int (z9 k) t] }).IsSliceOf s2.heap.objs.size .none .none (.int (z9 k) t) := Heap.IsSliceOf.new ..;generalize hs3 : s2.heap.push { cls := .type "slice",data := .fields #[.none,.none,.int (z9 k) t] } = h3 at I3 hsl;obtain ⟨a,xs,rfl,q3⟩ := q2;cases r1;rcases q3 with ⟨hx,q⟩ | ⟨hx,q⟩
 ·obtain ⟨its,r,ht,hz⟩ := I3.tuple hx
  have hlen := r.length;refine tail_any (ops := [.ref a,.ref s2.heap.objs.size]) ht.typeIs PyProof.Rows.slot_tuple_getitem.lookup (wy k ht hsl (by rw [size_toArray]; omega) ?_) (by with_unfolding_all rfl)
  exact ⟨.ref _,_,I3.laid (t' := s2.toks) (o := .tup (yM k xs)) (fun b ob q => get?_push_of_some _ q) (le_refl _) ⟨le_trans (jm k xs) hz,_,r.step k,IsTup.new _ _⟩,rfl,q _ (I3.hok.fresh (le_refl _))⟩
 ·obtain ⟨its,r,ht,hz⟩ := I3.list hx
  have hlen := r.length;refine tail_any (ops := [.ref a,.ref s2.heap.objs.size]) ht.isList.typeIs slot_list_getitem.lookup (wpAny_getItem_list_slice ht.isList hsl .none .none (.int (z9 k) t) (by cases k <;> simp [z9]) ?_ (by rw [size_toArray]; omega)) (by with_unfolding_all rfl)
  rw [Ys];exact ⟨.ref _,_,I3.laid (t' := s2.toks) (o := .lst (yM k xs)) (fun b ob q => get?_push_of_some _ q) (le_refl _) ⟨le_trans (jm k xs) hz,_,0,r.step k,get?_push_size _ rfl⟩,rfl,q _ (I3.hok.fresh (le_refl _))⟩
end
end L2
namespace DV
open PySem PySem.W PyProof.Rows
variable {κ : Nat → Int}
def ev (κ : Nat → Int) {α : Type} : KasT α → α
 | .ret a => a
 | .ask i j k => ev κ (k (decide (κ i < κ j)))
theorem JQ {α β : Type} (f : α → KasT β) : ∀ t : KasT α,ev κ (t.bind f) = ev κ (f (ev κ t))
 | .ret a => rfl
 | .ask i j k => by simp only [KasT.bind,ev]; exact JQ f _
def Kp (κ : Nat → Int) (p : Array Nat) (t : Nat) : Int := κ (p.getD t 0)
theorem wz (p : Array Nat) (t : Nat) : p.getD t 0 = (p[t]?).getD 0 := by simp
theorem QX {p : Array Nat} {i j : Nat} (hj : j ≤ p.size) (t : Nat) : Kp κ (kas_rev p i j) t = if i ≤ t ∧ t < j then Kp κ p (i + j - 1 - t) else Kp κ p t := by
 unfold Kp kas_rev;rw [wz,getElem?_mirror_all hj];split <;> rw [wz]
theorem Kp_bub {p : Array Nat} {k d : Nat} (hk : k < p.size) (hd : d ≤ k) (t : Nat) : Kp κ (bubble p k d) t = if t = k - d then Kp κ p k else if k - d < t ∧ t ≤ k then Kp κ p (t - 1) else Kp κ p t := by
 unfold Kp;rw [wz,getElem?_bubble hk d hd];by_cases h1 : t = k - d
 ·rw [if_pos h1,if_pos h1,wz p k]
 ·rw [if_neg h1,if_neg h1]
  by_cases h2 : k - d < t ∧ t ≤ k
  ·rw [if_pos h2,if_pos h2,wz p (t - 1)]
  ·rw [if_neg h2,if_neg h2,wz p t]
def Srt (κ : Nat → Int) (p : Array Nat) (m : Nat) : Prop := ∀ i,0 < i → i < m → Kp κ p (i - 1) ≤ Kp κ p i
def Dsc (κ : Nat → Int) (p : Array Nat) (m : Nat) : Prop := ∀ i,0 < i → i < m → Kp κ p i ≤ Kp κ p (i - 1)
theorem Srt.le {p : Array Nat} {m : Nat} (h : Srt κ p m) : ∀ (d i : Nat),i + d < m → Kp κ p i ≤ Kp κ p (i + d)
 | 0,i,_ => Int.le_refl _
 | d + 1,i,hi => by
  have h1 := Srt.le h d i (by omega);have h2 := h (i + (d + 1)) (by omega) hi;rw [show i + (d + 1) - 1 = i + d by omega] at h2;omega
theorem Srt.le' {p : Array Nat} {m i j : Nat} (h : Srt κ p m) (hij : i ≤ j) (hj : j < m) : Kp κ p i ≤ Kp κ p j := by
 have := h.le (j - i) i (by omega)
 rwa [show i + (j - i) = j by omega] at this
theorem Srt.same {p q : Array Nat} {m : Nat} (h : Srt κ p m) (e : ∀ t,Kp κ q t = Kp κ p t) : Srt κ q m := fun i h0 hi => by rw [e,e]; exact h i h0 hi
theorem Dsc.same {p q : Array Nat} {m : Nat} (h : Dsc κ p m) (e : ∀ t,Kp κ q t = Kp κ p t) : Dsc κ q m := fun i h0 hi => by rw [e,e]; exact h i h0 hi
theorem jW (p : Array Nat) (i j : Nat) : (kas_rev p i j).size = p.size := mirror_size _ _ _ _
theorem w6 (p : Array Nat) (i j : Nat) : (kas_rev p i j).Perm p := mirror_perm _ _ _ _
theorem QY (p : Array Nat) : ∀ (f n : Nat),n ≤ ev κ (kas_asc p f n) ∧ ev κ (kas_asc p f n) ≤ n + f ∧ (∀ i,n ≤ i → i < ev κ (kas_asc p f n) → Kp κ p (i - 1) ≤ Kp κ p i) ∧
  (ev κ (kas_asc p f n) < n + f → Kp κ p (ev κ (kas_asc p f n)) < Kp κ p (ev κ (kas_asc p f n) - 1))
 | 0,n => ⟨le_refl _,le_refl _,fun i h1 h2 => by simp only [kas_asc,ev] at h2; omega,fun h => by simp only [kas_asc,ev] at h; omega⟩
 | f + 1,n => by
  simp only [kas_asc,ev];by_cases hc : κ (p.getD n 0) < κ (p.getD (n - 1) 0)
  ·rw [decide_eq_true hc]
   simp only [if_true,ev];exact ⟨le_refl _,by omega,fun i h1 h2 => by omega,fun _ => hc⟩
  ·rw [decide_eq_false hc]
   simp only [Bool.false_eq_true,if_false];obtain ⟨h1,h2,h3,h4⟩ := QY p f (n + 1);refine ⟨by omega,by omega,fun i hi hm => ?_,fun h => h4 (by omega)⟩;by_cases he : i = n
   ·subst he; exact Int.not_lt.mp hc
   ·exact h3 i (by omega) hm
theorem Za {p : Array Nat} {i j : Nat} (hj : j ≤ p.size) (he : ∀ t,i ≤ t → t < j → Kp κ p t = Kp κ p (j - 1)) (t : Nat) : Kp κ (kas_rev p i j) t = Kp κ p t := by
 rw [QX hj];split
 ·rename_i h
  rw [he t h.1 h.2,he (i + j - 1 - t) (by omega) (by omega)]
 ·rfl
theorem Zb : ∀ (f : Nat) (p : Array Nat) (n q : Nat),1 ≤ n → n + f ≤ p.size → Dsc κ p n → q < n → (∀ t,n - (q + 1) ≤ t → t < n → Kp κ p t = Kp κ p (n - 1)) →
  ∃ p' m q',ev κ (kas_desc f p n q) = (p',m,q') ∧ p'.size = p.size ∧ p'.Perm p ∧ n ≤ m ∧ m ≤ n + f ∧ Dsc κ p' m ∧ q' < m ∧ (∀ t,m - (q' + 1) ≤ t → t < m → Kp κ p' t = Kp κ p' (m - 1))
 | 0,p,n,q,h1,hs,hd,hq,he => ⟨p,n,q,rfl,rfl,Array.Perm.refl _,le_refl _,le_refl _,hd,hq,he⟩
 | f + 1,p,n,q,h1,hs,hd,hq,he => by
  simp only [kas_desc,ev];by_cases hc : κ (p.getD n 0) < κ (p.getD (n - 1) 0)
  ·rw [decide_eq_true hc]
   simp only [if_true];have hc' : Kp κ p n < Kp κ p (n - 1) := hc;by_cases hq0 : q > 0
   ·rw [if_pos hq0]
    have e : ∀ t,Kp κ (kas_rev p (n - (q + 1)) n) t = Kp κ p t := Za (by omega) he;obtain ⟨p',m,q',a1,a2,a3,a4,a5,a6,a7,a8⟩ := Zb f (kas_rev p (n - (q + 1)) n) (n + 1) 0 (by omega) (by rw [jW]; omega) (fun i h0 hi => by
     rw [e,e];by_cases hin : i = n
     ·subst hin; omega
     ·exact hd i h0 (by omega)) (by omega) (fun t ht1 ht2 => by
     have : t = n := by omega
     subst this; rfl)
    exact ⟨p',m,q',a1,by rw [a2,jW],a3.trans (w6 _ _ _),by omega,by omega,a6,a7,a8⟩
   ·rw [if_neg hq0]
    obtain ⟨p',m,q',a1,a2,a3,a4,a5,a6,a7,a8⟩ := Zb f p (n + 1) 0 (by omega) (by omega) (fun i h0 hi => by
     by_cases hin : i = n
     ·subst hin; omega
     ·exact hd i h0 (by omega)) (by omega) (fun t ht1 ht2 => by
     have : t = n := by omega
     subst this; rfl)
    exact ⟨p',m,q',a1,a2,a3,by omega,by omega,a6,a7,a8⟩
  ·rw [decide_eq_false hc]
   simp only [Bool.false_eq_true,if_false,ev];by_cases hc2 : κ (p.getD (n - 1) 0) < κ (p.getD n 0)
   ·rw [decide_eq_true hc2]
    simp only [if_true,ev];exact ⟨p,n,q,rfl,rfl,Array.Perm.refl _,le_refl _,by omega,hd,hq,he⟩
   ·rw [decide_eq_false hc2]
    simp only [Bool.false_eq_true,if_false];have eq : Kp κ p n = Kp κ p (n - 1) := Int.le_antisymm (Int.not_lt.mp hc2) (Int.not_lt.mp hc);obtain ⟨p',m,q',a1,a2,a3,a4,a5,a6,a7,a8⟩ := Zb f p (n + 1) (q + 1) (by omega) (by omega) (fun i h0 hi => by
     by_cases hin : i = n
     ·subst hin; omega
     ·exact hd i h0 (by omega)) (by omega) (fun t ht1 ht2 => by
     rw [show n + 1 - 1 = n by omega];by_cases htn : t = n
     ·subst htn; rfl
     ·rw [eq]; exact he t (by omega) (by omega))
    exact ⟨p',m,q',a1,a2,a3,by omega,by omega,a6,a7,a8⟩
theorem uH (m nrem : Nat) (p : Array Nat) (hm : 1 ≤ m) (hmn : m ≤ nrem) (hs : nrem ≤ p.size) (hd : Dsc κ p m) :
  ∃ k p',ev κ (kas_tail3 m nrem p) = (k,p') ∧ p'.size = p.size ∧ p'.Perm p ∧ 1 ≤ k ∧ k ≤ nrem ∧ Srt κ p' k := by
 unfold kas_tail3;rw [JQ];simp only [ev];obtain ⟨a1,a2,a3,a4⟩ := QY (κ := κ) (kas_rev p 0 m) (nrem - m) m;refine ⟨_,_,rfl,jW _ _ _,w6 _ _ _,by omega,by omega,fun i h0 hi => ?_⟩;by_cases him : i < m
 ·rw [QX (by omega),QX (by omega),if_pos (by omega),if_pos (by omega)]
  have := hd (0 + m - 1 - (i - 1)) (by omega) (by omega);rw [show 0 + m - 1 - (i - 1) - 1 = 0 + m - 1 - i by omega] at this;exact this
 ·exact a3 i (by omega) hi
theorem YO (n nrem : Nat) (p : Array Nat) (hn : 1 ≤ n) (hnr : n + 1 ≤ nrem) (hs : nrem ≤ p.size) (hd : Dsc κ p (n + 1)) :
  ∃ k p',ev κ (kas_descPart n nrem p) = (k,p') ∧ p'.size = p.size ∧ p'.Perm p ∧ 1 ≤ k ∧ k ≤ nrem ∧ Srt κ p' k := by
 unfold kas_descPart;rw [JQ];obtain ⟨p',m,q',a1,a2,a3,a4,a5,a6,a7,a8⟩ := Zb (κ := κ) (nrem - (n + 1)) p (n + 1) 0 (by omega) (by omega) hd (by omega) (fun t h1 h2 => by
  have : t = n := by omega
  subst this; rfl)
 rw [a1];dsimp only;by_cases hq : q' > 0
 ·rw [if_pos hq]
  have e : ∀ t,Kp κ (kas_rev p' (m - (q' + 1)) m) t = Kp κ p' t := Za (by omega) a8;obtain ⟨k,p2,b1,b2,b3,b4,b5,b6⟩ := uH (κ := κ) m nrem (kas_rev p' (m - (q' + 1)) m) (by omega) (by omega) (by rw [jW]; omega) (a6.same e);exact ⟨k,p2,b1,by rw [b2,jW,a2],b3.trans ((w6 _ _ _).trans a3),b4,b5,b6⟩
 ·rw [if_neg hq]
  obtain ⟨k,p2,b1,b2,b3,b4,b5,b6⟩ := uH (κ := κ) m nrem p' (by omega) (by omega) (by omega) a6;exact ⟨k,p2,b1,by rw [b2,a2],b3.trans a3,b4,b5,b6⟩
theorem uI (nrem : Nat) (p : Array Nat) (h1 : 1 ≤ nrem) (hs : nrem ≤ p.size) :
  ∃ k p',ev κ (kas_count nrem p) = (k,p') ∧ p'.size = p.size ∧ p'.Perm p ∧ 1 ≤ k ∧ k ≤ nrem ∧ Srt κ p' k := by
 unfold kas_count;rw [JQ];obtain ⟨a1,a2,a3,a4⟩ := QY (κ := κ) p (nrem - 1) 1;generalize ev κ (kas_asc p (nrem - 1) 1) = n at a1 a2 a3 a4;have hS : Srt κ p n := fun i h0 hi => a3 i (by omega) hi
 by_cases hn : n = nrem
 ·rw [if_pos (by simp [hn])]
  exact ⟨n,p,rfl,rfl,Array.Perm.refl _,a1,by omega,hS⟩
 ·rw [if_neg (by simp [hn])]
  have hlt := a4 (by omega);by_cases hn1 : n > 1
  ·rw [if_pos hn1]
   simp only [ev];by_cases hc : κ (p.getD 0 0) < κ (p.getD (n - 1) 0)
   ·rw [decide_eq_true hc]
    simp only [if_true,ev];exact ⟨n,p,rfl,rfl,Array.Perm.refl _,a1,by omega,hS⟩
   ·rw [decide_eq_false hc]
    simp only [Bool.false_eq_true,if_false];have hle : Kp κ p (n - 1) ≤ Kp κ p 0 := Int.not_lt.mp hc;have eqs : ∀ t,0 ≤ t → t < n → Kp κ p t = Kp κ p (n - 1) := fun t _ ht => by
     have := hS.le' (i := 0) (j := t) (by omega) ht;have := hS.le' (i := t) (j := n - 1) (by omega) (by omega);omega
    have e : ∀ t,Kp κ (kas_rev p 0 n) t = Kp κ p t := Za (by omega) eqs;obtain ⟨k,p2,b1,b2,b3,b4,b5,b6⟩ := YO (κ := κ) n nrem (kas_rev p 0 n) (by omega) (by omega) (by rw [jW]; omega) (fun i h0 hi => by
     rw [e,e];by_cases hin : i = n
     ·subst hin; omega
     ·rw [eqs i (by omega) (by omega),eqs (i - 1) (by omega) (by omega)]; exact Int.le_refl _)
    exact ⟨k,p2,b1,by rw [b2,jW],b3.trans (w6 _ _ _),b4,b5,b6⟩
  ·rw [if_neg hn1]
   have hn0 : n = 1 := by omega
   subst hn0;obtain ⟨k,p2,b1,b2,b3,b4,b5,b6⟩ := YO (κ := κ) 1 nrem p (by omega) (by omega) (by omega) (fun i h0 hi => by
    have : i = 1 := by omega
    subst this; omega)
   exact ⟨k,p2,b1,b2,b3,b4,b5,b6⟩
theorem Zc (p : Array Nat) (k : Nat) (hS : Srt κ p k) : ∀ (f l r : Nat),r - l ≤ f → l ≤ r → r ≤ k → (∀ i,i < l → Kp κ p i ≤ Kp κ p k) → (∀ i,r ≤ i → i < k → Kp κ p k < Kp κ p i) →
  ev κ (kas_place p k f l r) ≤ k ∧ (∀ i,i < ev κ (kas_place p k f l r) → Kp κ p i ≤ Kp κ p k) ∧ (∀ i,ev κ (kas_place p k f l r) ≤ i → i < k → Kp κ p k < Kp κ p i)
 | 0,l,r,hf,hlr,hr,h1,h2 => by
  simp only [kas_place,ev];exact ⟨by omega,h1,fun i hi hk => h2 i (by omega) hk⟩
 | f + 1,l,r,hf,hlr,hr,h1,h2 => by
  unfold kas_place;by_cases hge : l ≥ r
  ·rw [if_pos hge]
   simp only [ev];exact ⟨by omega,h1,fun i hi hk => h2 i (by omega) hk⟩
  ·rw [if_neg hge]
   simp only [ev];by_cases hc : κ (p.getD k 0) < κ (p.getD ((l + r) / 2) 0)
   ·rw [decide_eq_true hc]
    simp only [if_true];refine Zc p k hS f l ((l + r) / 2) (by omega) (by omega) (by omega) h1 fun i hi hk => ?_
    have := hS.le' (i := (l + r) / 2) (j := i) hi hk;have hc' : Kp κ p k < Kp κ p ((l + r) / 2) := hc;omega
   ·rw [decide_eq_false hc]
    simp only [Bool.false_eq_true,if_false];refine Zc p k hS f ((l + r) / 2 + 1) r (by omega) (by omega) hr (fun i hi => ?_) h2;have := hS.le' (i := i) (j := (l + r) / 2) (by omega) (by omega);have hc' : Kp κ p ((l + r) / 2) ≤ Kp κ p k := Int.not_lt.mp hc;omega
theorem zCK : ∀ (f : Nat) (p : Array Nat) (k : Nat),1 ≤ k → k + f ≤ p.size → Srt κ p k → (ev κ (kas_bin f p k)).size = p.size ∧ (ev κ (kas_bin f p k)).Perm p ∧ Srt κ (ev κ (kas_bin f p k)) (k + f)
 | 0,p,k,h1,hs,hS => ⟨rfl,Array.Perm.refl _,hS⟩
 | f + 1,p,k,h1,hs,hS => by
  simp only [kas_bin];rw [JQ];obtain ⟨a1,a2,a3⟩ := Zc (κ := κ) p k hS k 0 k (by omega) (by omega) (by omega) (fun i hi => by omega) (fun i hi hk => by omega);generalize ev κ (kas_place p k k 0 k) = l at a1 a2 a3;have hK := fun t => Kp_bub (κ := κ) (p := p) (k := k) (d := k - l) (by omega) (by omega) t
  have hkl : k - (k - l) = l := by omega
  rw [hkl] at hK;obtain ⟨b1,b2,b3⟩ := zCK f (bubble p k (k - l)) (k + 1) (by omega) (by rw [bubble_size]; omega) (fun i h0 hi => by
   rw [hK,hK];by_cases c1 : i = l
   ·rw [if_neg (by omega),if_neg (by omega),if_pos c1]
    exact a2 (i - 1) (by omega)
   ·rw [if_neg c1]
    by_cases c2 : i - 1 = l
    ·rw [if_pos c2,if_pos (by omega)]
     rw [c2];exact Int.le_of_lt (a3 l (le_refl _) (by omega))
    ·rw [if_neg c2]
     by_cases c3 : l < i ∧ i ≤ k
     ·rw [if_pos c3,if_pos (by omega)]
      exact hS (i - 1) (by omega) (by omega)
     ·rw [if_neg c3,if_neg (by omega)]
      exact hS i h0 (by omega))
  refine ⟨by rw [b1,bubble_size],b2.trans (bubble_perm _ _ _),?_⟩;rw [show k + (f + 1) = k + 1 + f by omega];exact b3
theorem ev_sort (n : Nat) (hn : 1 ≤ n) : (ev κ (kas_sort n)).size = n ∧ (ev κ (kas_sort n)).Perm (toArray (List.range n)) ∧ Srt κ (ev κ (kas_sort n)) n := by
 unfold kas_sort;rw [JQ];have hs : (toArray (List.range n)).size = n := by simp
 obtain ⟨k,p,a1,a2,a3,a4,a5,a6⟩ := uI (κ := κ) n (toArray (List.range n)) hn (by omega);rw [a1];dsimp only;by_cases hk : k < n
 ·rw [if_pos hk]
  have hm : max k 1 = k := by omega
  rw [hm];obtain ⟨b1,b2,b3⟩ := zCK (κ := κ) (n - k) p k a4 (by rw [a2,hs]; omega) a6;exact ⟨by rw [b1,a2,hs],b2.trans a3,by rw [show k + (n - k) = n by omega] at b3; exact b3⟩
 ·rw [if_neg hk]
  have : k = n := by omega
  subst this;exact ⟨by show p.size = _; rw [a2,hs],a3,a6⟩
def Z5 (n : Nat) (κ : Nat → Int) {α : Type} : KasT α → Prop
 | .ret _ => True
 | .ask i j k => i < n ∧ j < n ∧ Z5 n κ (k (decide (κ i < κ j)))
theorem jL {n : Nat} {α β : Type} (f : α → KasT β) : ∀ t : KasT α,Z5 n κ t → Z5 n κ (f (ev κ t)) → Z5 n κ (t.bind f)
 | .ret a,_,h => h
 | .ask i j k,h1,h2 => by
  simp only [KasT.bind,Z5];exact ⟨h1.1,h1.2.1,jL f _ h1.2.2 h2⟩
theorem zCL {n : Nat} {α : Type} {cmp : Nat → Nat → (Bool → Shared → Prop) → Shared → Prop} {Q : α → Shared → Prop} {s : Shared} (hc : ∀ i j C,i < n → j < n → C (decide (κ i < κ j)) s → cmp i j C s) : ∀ t : KasT α,Z5 n κ t → Q (ev κ t) s → t.kasWp cmp Q s
 | .ret a,_,h => h
 | .ask i j k,o,h => hc i j _ o.1 o.2.1 (zCL hc (k (decide (κ i < κ j))) o.2.2 h)
def Bd (n : Nat) (p : Array Nat) : Prop := 0 < n ∧ ∀ x ∈ p,x < n
theorem Bd.at {n : Nat} {p : Array Nat} (h : Bd n p) (t : Nat) : p.getD t 0 < n := by
 rw [wz];cases e : p[t]? with
 | none => exact h.1
 | some x => exact h.2 x (Array.mem_of_getElem? e)
theorem Bd.perm {n : Nat} {p q : Array Nat} (h : Bd n p) (e : q.Perm p) : Bd n q := ⟨h.1,fun x hx => h.2 x (e.mem_iff.mp hx)⟩
theorem Bd.rev {n : Nat} {p : Array Nat} (h : Bd n p) (i j : Nat) : Bd n (kas_rev p i j) := h.perm (w6 _ _ _)
theorem QZ {n : Nat} {p : Array Nat} (h : Bd n p) : ∀ (f m : Nat),Z5 n κ (kas_asc p f m)
 | 0,m => trivial
 | f + 1,m => by
  simp only [kas_asc,Z5];refine ⟨h.at _,h.at _,?_⟩;split
  ·trivial
  ·exact QZ h f (m + 1)
theorem Zd {n : Nat} : ∀ (f : Nat) (p : Array Nat) (m q : Nat),Bd n p → Z5 n κ (kas_desc f p m q) ∧ Bd n (ev κ (kas_desc f p m q)).1
 | 0,p,m,q,h => ⟨trivial,h⟩
 | f + 1,p,m,q,h => by
  simp only [kas_desc,Z5,ev];by_cases hc : κ (p.getD m 0) < κ (p.getD (m - 1) 0)
  ·rw [decide_eq_true hc]
   simp only [if_true];by_cases hq : q > 0
   ·rw [if_pos hq]
    have := Zd f (kas_rev p (m - (q + 1)) m) (m + 1) 0 (h.rev _ _);exact ⟨⟨h.at _,h.at _,this.1⟩,this.2⟩
   ·rw [if_neg hq]
    have := Zd f p (m + 1) 0 h;exact ⟨⟨h.at _,h.at _,this.1⟩,this.2⟩
  ·rw [decide_eq_false hc]
   simp only [Bool.false_eq_true,if_false,Z5,ev];by_cases hc2 : κ (p.getD (m - 1) 0) < κ (p.getD m 0)
   ·rw [decide_eq_true hc2]
    simp only [if_true,Z5,ev];exact ⟨⟨h.at _,h.at _,h.at _,h.at _,trivial⟩,h⟩
   ·rw [decide_eq_false hc2]
    simp only [Bool.false_eq_true,if_false];have := Zd f p (m + 1) (q + 1) h;exact ⟨⟨h.at _,h.at _,h.at _,h.at _,this.1⟩,this.2⟩
theorem uJ {n : Nat} {p : Array Nat} (h : Bd n p) (m nrem : Nat) : Z5 n κ (kas_tail3 m nrem p) := by
 unfold kas_tail3;exact jL _ _ (QZ (h.rev _ _) _ _) trivial
theorem YQ {n : Nat} {p : Array Nat} (h : Bd n p) (m nrem : Nat) : Z5 n κ (kas_descPart m nrem p) := by
 unfold kas_descPart;have d := Zd (κ := κ) (nrem - (m + 1)) p (m + 1) 0 h;refine jL _ _ d.1 ?_;split
 ·exact uJ (d.2.rev _ _) _ _
 ·exact uJ d.2 _ _
theorem zBO {n : Nat} {p : Array Nat} (h : Bd n p) (nrem : Nat) : Z5 n κ (kas_count nrem p) := by
 unfold kas_count;refine jL _ _ (QZ h _ _) ?_;split
 ·trivial
 ·split
  ·refine ⟨h.at _,h.at _,?_⟩
   dsimp only;split
   ·trivial
   ·exact YQ (h.rev _ _) _ _
  ·exact YQ h _ _
theorem Ze {n : Nat} {p : Array Nat} (h : Bd n p) (k : Nat) : ∀ (f l r : Nat),Z5 n κ (kas_place p k f l r)
 | 0,l,r => trivial
 | f + 1,l,r => by
  unfold kas_place;split
  ·trivial
  ·refine ⟨h.at _,h.at _,?_⟩
   dsimp only;split
   ·exact Ze h k f _ _
   ·exact Ze h k f _ _
theorem zCM {n : Nat} : ∀ (f : Nat) (p : Array Nat) (k : Nat),Bd n p → Z5 n κ (kas_bin f p k)
 | 0,p,k,h => trivial
 | f + 1,p,k,h => by
  unfold kas_bin;exact jL _ _ (Ze h k _ _ _) (zCM f _ _ (h.perm (bubble_perm _ _ _)))
theorem ok_sort (n : Nat) (hn : 1 ≤ n) : Z5 n κ (kas_sort n) := by
 have hb : Bd n (toArray (List.range n)) := ⟨hn,fun x hx => by simpa using hx⟩;unfold kas_sort;refine jL _ _ (zBO hb n) ?_;split
 ·obtain ⟨k,p,a1,a2,a3,a4,a5,a6⟩ := uI (κ := κ) n (toArray (List.range n)) hn (by simp)
  rw [a1];exact zCM _ _ _ (hb.perm a3)
 ·trivial
theorem WZ {p : Array Nat} (h : Srt κ p p.size) : p.toList.Pairwise (fun i j => κ i ≤ κ j) := by
 rw [List.pairwise_iff_getElem];intro i j hi hj hij;have hi' : i < p.size := by simpa using hi
 have hj' : j < p.size := by simpa using hj
 have := h.le' (i := i) (j := j) (by omega) hj';unfold Kp at this;rw [wz,wz,Array.getElem?_eq_getElem hi',Array.getElem?_eq_getElem hj'] at this;simpa using this
end DV
namespace L2
open PySem PySem.Spec PyProof.Rows PySem.W
section
variable {prog : Program} {w : World} {A : Around} {E : Value → Shared → Prop} {s : Shared} {κ : Nat → Int}
def YR (κ : Nat → Int) (n : Nat) (p : List Nat) : Prop := p.Perm (List.range n) ∧ p.Pairwise (fun i j => κ i ≤ κ j)
theorem vF {a : Addr} {vs : List Value} {n : Nat} {P : PySem.Fin → Shared → Prop} {kd : SortKind} (hob : s.heap.get? a = some (seqObj "list" vs.toArray n)) (h64 : vs.length < 64)
  (hk : ∀ (h6 : Heap),(∀ b o,b ≠ a → s.heap.get? b = some o → h6.get? b = some o) → 2 ≤ vs.length → wpAny (model prog w) A (keyKind' vs.toArray) (fun k s' => s' = { s with heap := h6 } ∧ k = kd) (fun _ _ => False) { s with heap := h6 })
  (hc : ∀ (h6 : Heap),(∀ b o,b ≠ a → s.heap.get? b = some o → h6.get? b = some o) → ∀ i j C,i < vs.length → j < vs.length → C (decide (κ i < κ j)) { s with heap := h6 } → kas_ask prog w A kd vs i j C { s with heap := h6 })
  (h : ∀ p : List Nat,YR κ vs.length p → P (.done (.ret .none)) { s with heap := sortedHeap s.heap a vs (p.map fun i => vs.getD i Value.none).toArray }) :
  wpAny (model prog w) A (Builtin.«list.sort» ⟨[.ref a],[]⟩) P E s := by
 have alt : a < s.heap.objs.size := lt_size hob;obtain ⟨e1,hob1⟩ : ∃ e1,(s.heap.update a (Obj.mapSeq fun _ => (#[] : Array Value))).get? a = some (seqObj "list" #[] e1) := ⟨_,get?_update_seq hob fun _ => #[]⟩;have hob6 : (((s.heap.update a (Obj.mapSeq fun _ => (#[] : Array Value))).push (seqObj "tuple" vs.toArray 0)).push (seqObj "list" #[] 0)).get? a = some (seqObj "list" #[] e1) := get?_push_of_some _ (get?_push_of_some _ hob1);have keep6 : ∀ b o,b ≠ a → s.heap.get? b = some o → (((s.heap.update a (Obj.mapSeq fun _ => (#[] : Array Value))).push (seqObj "tuple" vs.toArray 0)).push (seqObj "list" #[] 0)).get? b = some o := fun b o hb e =>
  get?_push_of_some _ (get?_push_of_some _ (by rw [Heap.get?_update_ne _ _ _ _ hb]; exact e))
 rw [list_sort_plain];refine wpAny_bind (listItems_at hob rfl ?_);refine wpAny_bind (listUpdate_at hob rfl ?_ (by rw [size_toArray,sizeLine_eq]; omega) (zero_le _));refine wpAny_bind (seqEpoch_at hob1 rfl (wpAny_bind (wpAny_newTuple ?_ (by show vs.length ≤ _; rw [sizeLine_eq]; omega))));refine wpAny_bind (wpAny_newList (wpAny_holding ?_) (zero_le _));show wpAny (model prog w) A _ P E { s with heap := (((s.heap.update a (Obj.mapSeq fun _ => (#[] : Array Value))).push (seqObj "tuple" vs.toArray 0)).push (seqObj "list" #[] 0)) }
 dsimp only;have fin : ∀ (st : SortSt) (p : List Nat),YR κ vs.length p → (arrOf st).map (·.2) = (p.map fun i => vs.getD i Value.none).toArray → failedOf st = none →
   wpAny (model prog w) A (do
    let touched := (← seqEpoch a) != e1
    Builtin.List.listUpdate (.ref a) fun _ => (arrOf st).map (·.2)
    if let some e := failedOf st then rule "list.sort.comparison-raised"; throw e
    if touched then rule "list.sort.modified"; raiseError "ValueError" "list modified during sort"
    ret .none) P E { s with heap := (((s.heap.update a (Obj.mapSeq fun _ => (#[] : Array Value))).push (seqObj "tuple" vs.toArray 0)).push (seqObj "list" #[] 0)) } := by
  intro st p hp ha hf;have hsz : (p.map fun i => vs.getD i Value.none).toArray.size ≤ sizeLine + 1 := by
   rw [size_toArray,length_map,hp.1.length_eq,length_range,sizeLine_eq]; omega
  rw [ha,hf];refine wpAny_bind (seqEpoch_at hob6 rfl (wpAny_bind (listUpdate_at hob6 rfl ?_ (zero_le _) hsz)));simp only [bne_self_eq_false,Bool.false_eq_true,if_false];exact wpAny_pure (h p hp)
 by_cases h2 : vs.length < 2
 ·have h2' : vs.toArray.size < 2 := by rw [size_toArray]; exact h2
  rw [if_pos h2',if_pos h2'];refine wpAny_bind (wpAny_pure ?_);rw [StateT.run_pure];refine wpAny_bind (wpAny_pure ?_);dsimp only;refine fin (SortSt.mk' general' (vs.toArray.zip vs.toArray) #[] 7 none) (List.range vs.length) ⟨List.Perm.refl _,?_⟩ ?_ rfl
  ·match vs,h2 with
   | [],_ => exact .nil
   | [v],_ => exact List.pairwise_singleton _ _
  ·show ((vs.toArray.zip vs.toArray).map (·.2)) = _
   match vs,h2 with
   | [],_ => simp
   | [v],_ => simp [range_succ]
 ·have h2' : ¬ vs.toArray.size < 2 := by rw [size_toArray]; exact h2
  rw [if_neg h2',if_neg h2'];refine wpAny_bind (wpAny_mono (hk _ keep6 (by omega)) (fun k s' ⟨es,ek⟩ => ?_) fun _ _ x => x.elim);subst es ek;obtain ⟨r1,r2,r3⟩ := DV.ev_sort (κ := κ) vs.length (by omega);have ask := DV.zCL (Q := fun p s' => s' = { s with heap := (((s.heap.update a (Obj.mapSeq fun _ => (#[] : Array Value))).push (seqObj "tuple" vs.toArray 0)).push (seqObj "list" #[] 0)) } ∧ p = DV.ev κ (kas_sort vs.length)) (hc _ keep6) (kas_sort vs.length) (DV.ok_sort vs.length (by omega)) ⟨rfl,rfl⟩
  refine wpAny_bind (wpAny_mono (kat_run (Q := fun st' s' => ∃ p : Array Nat,arrOf st' = p.map (kas_item (vs.toArray.zip vs.toArray)) ∧ failedOf st' = none ∧ s' = { s with heap := (((s.heap.update a (Obj.mapSeq fun _ => (#[] : Array Value))).push (seqObj "tuple" vs.toArray 0)).push (seqObj "list" #[] 0)) } ∧ p = DV.ev κ (kas_sort vs.length))
   rfl (by omega) h64 (fun p st' s' _ a2 a3 a4 => ⟨p,a2,a3,a4⟩) ask) ?_ fun _ _ e => e)
  rintro ⟨⟨⟩,st'⟩ s' ⟨p,har,hf,es,ep⟩
  subst es;dsimp only;refine fin st' p.toList ⟨?_,?_⟩ (kat_snds rfl har) hf
  ·rw [ep]
   have := r2.toList;simpa using this
  ·rw [ep]
   exact DV.WZ (by rw [r1]; exact r3)
theorem Zf {l : Addr} {vs : List Value} {Q : Value → Shared → Prop} {kd : SortKind} (hl : s.heap.IsList l vs.toArray) (h64 : vs.length < 64)
  (hk : ∀ (h6 : Heap),(∀ b o,s.heap.get? b = some o → h6.get? b = some o) → 2 ≤ vs.length → wpAny (model prog w) A.in1.in1 (keyKind' vs.toArray) (fun k s' => s' = { s with heap := h6 } ∧ k = kd) (fun _ _ => False) { s with heap := h6 })
  (hc : ∀ (h6 : Heap),(∀ b o,s.heap.get? b = some o → h6.get? b = some o) → ∀ i j C,i < vs.length → j < vs.length → C (decide (κ i < κ j)) { s with heap := h6 } → kas_ask prog w A.in1.in1 kd vs i j C { s with heap := h6 })
  (h : ∀ p : List Nat,YR κ vs.length p → Q (.ref (s.heap.objs.size + 1)) { s with heap := sortedAll s.heap vs (p.map fun i => vs.getD i Value.none).toArray }) :
  wpAny (model prog w) A (call (.builtin "sorted") [.ref l]) Q E s := by
 refine Calls.call_function_entry kind_sorted plain_sorted entry_sorted (args_sorted1 _) ?_;unfold Builtin.«sorted»;refine wpAny_bind (m := checkCount "sorted" 1 1 _) (wpAny_pure (wpAny_bind (collect_list hl ?_ (by rw [sizeLine_eq]; omega))));refine wpAny_bind (wpAny_newList ?_ (by rw [sizeLine_eq]; omega));have z1 : ((s.heap.push (seqObj "list" #[] 0)).update s.heap.objs.size (Obj.mapSeq (· ++ vs.toArray))).objs.size = s.heap.objs.size + 1 := by rw [Heap.size_update,size_push']
 generalize hh : (s.heap.push (seqObj "list" #[] 0)).update s.heap.objs.size (Obj.mapSeq (· ++ vs.toArray)) = g1 at z1 ⊢;have old1 : ∀ b o,s.heap.get? b = some o → g1.get? b = some o := fun b o q => by
  have hlt : b < s.heap.objs.size := lt_size q;rw [← hh,Heap.get?_update_ne _ _ _ _ (ne_of_lt hlt)];exact get?_push_of_some _ q
 have hobj : (g1.push (seqObj "list" vs.toArray 0)).get? (s.heap.objs.size + 1) = some (seqObj "list" vs.toArray 0) := by rw [← z1]; exact get?_push_size _ rfl
 show wpAny _ _ _ _ _ { s with heap := g1.push (seqObj "list" vs.toArray 0) }
 rw [z1];have old2 : ∀ h6 : Heap,(∀ b o,b ≠ s.heap.objs.size + 1 → (g1.push (seqObj "list" vs.toArray 0)).get? b = some o → h6.get? b = some o) → ∀ b o,s.heap.get? b = some o → h6.get? b = some o := fun h6 k6 b o q =>
  k6 b o (ne_of_lt (lt_succ_of_lt (lt_size q))) (get?_push_of_some _ (old1 b o q))
 refine wpAny_bind (wpAny_holding (wpAny_call_entry slot_list_sort ⟨_,hobj,rfl⟩ entry_list_sort (vF (s := { s with heap := g1.push (seqObj "list" vs.toArray 0) }) (κ := κ) (kd := kd) hobj h64 (fun h6 k6 => hk h6 (old2 h6 k6)) (fun h6 k6 => hc h6 (old2 h6 k6)) fun p hp => ⟨_,rfl,?_⟩) (args_list_sort _)))
 refine wpAny_pure ⟨_,rfl,?_⟩;have := h p hp;unfold sortedAll at this;rw [hh] at this;exact this
end
end L2
namespace DV
open PySem L2 PyProof.Rows PySem.W
def tlt : List D → List D → Option Bool
 | [],[] => some false
 | [],_ :: _ => some true
 | _ :: _,[] => some false
 | p :: ps,q :: qs => if deq p q = true then tlt ps qs else match p,q with
  | .int i,.int j => some (decide (i < j))
  | _,_ => none
def Qa : D → List D
 | .tup es => es
 | _ => []
def Qb (ds : List D) (i j : Nat) : Option Bool := tlt (Qa (ds.getD i .non)) (Qa (ds.getD j .non))
def rkD (ds : List D) (i : Nat) : Int := (((List.range ds.length).filter fun k => Qb ds k i == some true).length : Nat)
structure SortOk (ds : List D) : Prop where
 few : ds.length < 64
 tups : ∀ d ∈ ds,∃ es,d = .tup es ∧ (∀ e ∈ es,eqb 18 e = true) ∧ (2 ≤ ds.length → ∃ i r,es = .int i :: r)
 lt : ∀ i j,i < ds.length → j < ds.length → Qb ds i j = some (decide (rkD ds i < rkD ds j))
 one : ∀ i j,i < ds.length → j < ds.length → rkD ds i = rkD ds j → ds.getD i .non = ds.getD j .non
def Yt (ds : List D) : List D := ((List.range ds.length).mergeSort fun i j => decide (rkD ds i ≤ rkD ds j)).map fun i => ds.getD i .non
theorem Zg {ds : List D} (ok : SortOk ds) {p : List Nat} (hp : YR (rkD ds) ds.length p) : p.map (fun i => ds.getD i .non) = Yt ds := by
 unfold Yt;have m1 : ((List.range ds.length).mergeSort fun i j => decide (rkD ds i ≤ rkD ds j)).Perm (List.range ds.length) := List.mergeSort_perm _ _;have m2 := List.pairwise_mergeSort (le := fun i j => decide (rkD ds i ≤ rkD ds j)) (fun a b c h1 h2 => by simp at h1 h2 ⊢; omega) (fun a b => by simp; omega) (List.range ds.length);generalize (List.range ds.length).mergeSort (fun i j => decide (rkD ds i ≤ rkD ds j)) = q at m1 m2;have e : (p.map fun i => (rkD ds i,ds.getD i .non)) = q.map fun i => (rkD ds i,ds.getD i .non) := by
  refine List.Perm.eq_of_pairwise (le := fun a b => a.1 ≤ b.1) ?_ ?_ ?_ ((hp.1.trans m1.symm).map _)
  ·intro a b ha hb h1 h2
   obtain ⟨i,hi,rfl⟩ := mem_map.mp ha;obtain ⟨j,hj,rfl⟩ := mem_map.mp hb;have hi' : i < ds.length := by simpa using hp.1.mem_iff.mp hi
   have hj' : j < ds.length := by simpa using m1.mem_iff.mp hj
   have er : rkD ds i = rkD ds j := Int.le_antisymm h1 h2;rw [er,ok.one i j hi' hj' er]
  ·exact List.pairwise_map.mpr hp.2
  ·exact List.pairwise_map.mpr (m2.imp fun h => by simpa using h)
 have := congrArg (List.map Prod.snd) e;rw [map_map,map_map] at this;exact this
section
variable {X : Cx} {pins : List (Addr × Obj)} {σ : L2.St} {H : Hp} {s : Shared} {prog : Program} {w : World} {A : Around}
theorem Qc (I : Inv X pins σ H s) {bb fin : Bool} {Q : Bool → Shared → Prop} (hu : A.units + 18 < cLine) : ∀ (ds es : List D) (xs ys : List V) (us vs : List Value) (i : Nat) (b : Bool),(∀ e ∈ ds,eqb 18 e = true) → (∀ e ∈ es,eqb 18 e = true) →
  Reps X.K X.mg H ds xs → Reps X.K X.mg H es ys → zb xs us → zb ys vs → fin = decide (us.length < vs.length) → tlt ds es = some b → Q b s → KatLex prog w A bb fin Q (us.zip vs) i s
 | [],[],xs,ys,us,vs,i,b,_,_,r1,r2,v1,v2,hf,ht,hq => by
  simp only [Reps] at r1 r2;subst r1 r2;cases v1; cases v2;cases ht;subst hf;exact hq
 | [],e :: es,xs,ys,us,vs,i,b,_,_,r1,r2,v1,v2,hf,ht,hq => by
  simp only [Reps] at r1 r2;subst r1;obtain ⟨y,r,rfl,_,_⟩ := r2;cases v1;cases v2 with
  | cons a c =>
   cases ht;subst hf;exact hq
 | d :: ds,[],xs,ys,us,vs,i,b,_,_,r1,r2,v1,v2,hf,ht,hq => by
  simp only [Reps] at r1 r2;subst r2;obtain ⟨y,r,rfl,_,_⟩ := r1;cases v2;cases v1 with
  | cons a c =>
   cases ht;subst hf;exact hq
 | d :: ds,e :: es,xs,ys,us,vs,i,b,h1,h2,r1,r2,v1,v2,hf,ht,hq => by
  simp only [Reps] at r1 r2;obtain ⟨x,xr,rfl,rx,rxs⟩ := r1;obtain ⟨y,yr,rfl,ry,rys⟩ := r2;cases v1 with
  | cons a1 c1 =>
   cases v2 with
   | cons a2 c2 =>
    rw [zip_cons_cons];refine kat_cons ?_;refine eqAtD I 18 A d e x y _ _ (h1 d mem_cons_self) (h2 e mem_cons_self) rx ry a1 a2 hu prog w _ _ ?_;simp only [tlt] at ht;cases hd : deq d e with
    | true =>
     rw [hd,if_pos rfl] at ht;exact kat_yes (Qc I hu ds es _ _ _ _ (i + 1) b (fun z hz => h1 z (mem_cons_of_mem _ hz)) (fun z hz => h2 z (mem_cons_of_mem _ hz)) rxs rys c1 c2 (by rw [hf]; simp) ht hq)
    | false =>
     rw [hd,if_neg (by simp)] at ht;refine kat_no ?_;cases d with
     | int m =>
      cases e with
      | int n =>
       cases ht;rw [zG rx] at a1;rw [zG ry] at a2;obtain ⟨t1,rfl⟩ := a1;obtain ⟨t2,rfl⟩ := a2;cases bb && i == 0 with
       | true => exact oneLt_int hq
       | false => exact kat_one _ _ (lt_int hq)
      | _ => cases ht
     | _ => cases ht
theorem Wa (hu : X.A.units + 40 < cLine) : yb X (.builtin "sorted") (fun xs H Q => ∃ (l : Addr) (ys : List V) (ds : List D),xs = [.ref l] ∧ SqL X.K H l ys ∧ Reps X.K X.mg H ds ys ∧ SortOk ds ∧ ∀ p : List Nat,YR (rkD ds) ds.length p → ∀ q,H q = none → Q (.ref q) (upd H q (.lst (p.map fun i => ys.getD i .non)))) := by
 intro pins s σ H xs us Q I r h;obtain ⟨l,ys,ds,rfl,hq,rd,ok,q⟩ := h;obtain ⟨u,rfl,rx⟩ := Ym r;cases rx;obtain ⟨vs,rv,pl,hz⟩ := I.list hq;have l1 := rd.length;have l2 := rv.length
 -- the items: where they stand,what they hold
 have item : ∀ (h6 : Heap),(∀ b o,s.heap.get? b = some o → h6.get? b = some o) → ∀ i,i < vs.length → ∃ a o n xs us es,vs.getD i Value.none = .ref a ∧ h6.get? a = some o ∧ o.cls = .type "tuple" ∧ o.data = .seq us n ∧ ds.getD i .non = .tup es ∧ (∀ e ∈ es,eqb 18 e = true) ∧ Reps X.K X.mg H es xs ∧ zb xs us.toList ∧ (2 ≤ ds.length → ∃ k r,es = .int k :: r) := by
  intro h6 k6 i hi;obtain ⟨hd,x,rep,rel⟩ := jl rd rv hi;have em : ds.getD i .non ∈ ds := by rw [getD_eq_getElem?_getD,getElem?_eq_getElem hd]; exact getElem_mem hd
  obtain ⟨es,e1,e2,e3⟩ := ok.tups _ em;rw [e1] at rep;obtain ⟨a,zs,rfl,q1,q2⟩ := zO rep;obtain ⟨its,rz,⟨o,g1,g2,n,g3⟩,_⟩ := I.tuple q1;refine ⟨a,o,n,zs,its.toArray,es,?_,k6 _ _ g1,g2,g3,e1,e2,q2,by simpa using rz,e3⟩;rw [getD_eq_getElem?_getD,getElem?_eq_getElem hi];exact rel
 refine Zf (κ := rkD ds) (kd := tuples' (Value.type "int" != Value.type "tuple")) pl.isList (by have := ok.few; omega) (fun h6 k6 h2 => ?_) (fun h6 k6 i j C hi hj hC => ?_) fun p hp => ?_
 ·-- the kind of the keys
  have tups : ∀ (ws : List Value),(∀ v ∈ ws,∃ (a : Addr) (o : Obj) (us : Array Value) (n : Nat) (k : Int) (t : Tok),v = .ref a ∧ h6.get? a = some o ∧ o.cls = .type "tuple" ∧ o.data = .seq us n ∧ us[0]? = some (.int k t)) → ∃ fs : List Value,KatTups h6 ws fs ∧ fs.length = ws.length ∧ ∀ v ∈ fs,∃ k t,v = .int k t := by
   intro ws
   induction ws with
   | nil => exact fun _ => ⟨[],trivial,rfl,fun v h => by cases h⟩
   | cons v ws ih =>
    intro hh;obtain ⟨fs,f1,f2,f3⟩ := ih fun z hz => hh z (mem_cons_of_mem _ hz)
    obtain ⟨a,o,us,n,k,t,rfl,g1,g2,g3,g4⟩ := hh v mem_cons_self;refine ⟨.int k t :: fs,KatTups.cons g1 g2 g3 g4 f1,by simp [f2],fun z hz => ?_⟩;rcases mem_cons.mp hz with hz | hz
    ·exact ⟨k,t,hz⟩
    ·exact f3 z hz
  obtain ⟨fs,f1,f2,f3⟩ := tups vs fun v hv => by
   obtain ⟨i,hi,rfl⟩ := List.getElem_of_mem hv;obtain ⟨a,o,n,zs,us,es0,g0,g1,g2,g3,_,_,g4,g5,g6⟩ := item h6 k6 i hi;obtain ⟨k,es,rfl⟩ := g6 (by omega);rw [getD_eq_getElem?_getD,getElem?_eq_getElem hi] at g0;simp only [Reps] at g4;obtain ⟨z,zr,rfl,z1,_⟩ := g4;rw [zG z1] at g5;cases hus : us.toList with
   | nil => rw [hus] at g5; cases g5
   | cons v0 vr =>
    rw [hus] at g5;cases g5 with
    | cons a1 _ =>
     obtain ⟨t,rfl⟩ := a1;refine ⟨a,o,us,n,k,t,g0,g1,g2,g3,?_⟩;rw [← Array.getElem?_toList,hus]; rfl
  exact kat_kind (s := { s with heap := h6 }) f1 (by omega) (fun v hv => by obtain ⟨k,t,rfl⟩ := f3 v hv; exact Looks.of_pure rfl) rfl ⟨rfl,rfl⟩
 ·have I6 : Inv X pins σ H { s with heap := h6 } := I.kept (t' := s.toks) k6
  obtain ⟨a,o,n,zs,us,es,g0,g1,g2,g3,g4,g5,g6,g7,_⟩ := item h6 k6 i hi;obtain ⟨a',o',n',zs',us',es',g0',g1',g2',g3',g4',g5',g6',g7',_⟩ := item h6 k6 j hj;unfold kas_ask;rw [g0,g0'];refine kat_lt (s := { s with heap := h6 }) g1 g3 g1' g3' ?_
  have hlt := ok.lt i j (by omega) (by omega);unfold Qb at hlt;rw [g4,g4'] at hlt;exact Qc (s := { s with heap := h6 }) I6 (by show X.A.units + 1 + 1 + 18 < cLine; omega) es es' zs zs' us.toList us'.toList 0 _ g5 g5' g6 g6' g7 g7' (by simp) hlt hC
 ·have hp' : YR (rkD ds) ds.length p := by rw [show ds.length = vs.length by omega]; exact hp
  obtain ⟨e,he⟩ := sortedAll_at s.heap vs (p.map fun i => vs.getD i Value.none).toArray;have fr : H (s.heap.objs.size + 1) = none := I.hok.fresh (le_succ _);have hvals : zb (p.map fun i => ys.getD i .non) (p.map fun i => vs.getD i Value.none) := by
   have hb : ∀ i ∈ p,i < vs.length := fun i hi => by simpa using hp.1.mem_iff.mp hi
   clear hp hp' he q
   induction p with
   | nil => exact .nil
   | cons i p ih =>
    rw [map_cons,map_cons];refine .cons ?_ (ih fun z hz => hb z (mem_cons_of_mem _ hz));have hi := hb i mem_cons_self;have hy : i < ys.length := by omega
    obtain ⟨u,e1,e2⟩ := rv.get (i := i) (x := ys[i]) (by simp [hy]);rw [getD_eq_getElem?_getD,getD_eq_getElem?_getD,e1,getElem?_eq_getElem hy];exact e2
  have hlen : (p.map fun i => ys.getD i .non).length ≤ sizeLine := by
   rw [length_map,hp.1.length_eq,length_range,sizeLine_eq]; have := ok.few; omega
  refine ⟨.ref (s.heap.objs.size + 1),_,I.laid (t' := s.toks) (o := .lst (p.map fun i => ys.getD i .non)) (fun b o eb => sortedAll_old eb) (le_succ _) ⟨hlen,_,e,hvals,he⟩,rfl,q p hp' _ fr⟩
end
end DV
namespace L2
open PySem PySem.Spec PyProof.Rows
section
variable {prog : Program} {w : World} {A : Around} {R : Result → Shared → Prop} {I : Addr} {fp wr : List Addr} {n : Nat} {P : Nat → Value → Prop} {St : Nat → Heap → Prop}
end
section
variable {prog : Program} {w : World} {A : Around} {E : Value → Shared → Prop} {s : Shared}
end
section
variable {X : Cx} {e d : Expr} {te td : TE} {p pos kp : Pos}
end
end L2
namespace DV
open PySem L2
section
variable {X : Cx} {K : PySem.W.Frag} {mg : Str → Option Value}
theorem vG {f : Value} {r r' : List V → Hp → VK → Prop} (h : yb X f r) (h' : yb X f r') : yb X f (fun xs H Q => r xs H Q ∨ r' xs H Q) := by
 intro pins s σ H xs us Q I rv q;rcases q with q | q
 ·exact h pins s σ H xs us Q I rv q
 ·exact h' pins s σ H xs us Q I rv q
def eqG (d e : D) : Option R := match eqF d e with
 | some r => some r
 | none => eqDD false d e
def neG (d e : D) : Option R := match neF d e with
 | some r => some r
 | none => eqDD true d e
theorem zCN : ROk K mg (fun x y H Q => rEq x y H Q ∨ rEqD K mg false x y H Q) eqG := by
 intro M H Z x y d1 d2 res Q f r1 r2 e k;unfold eqG at e;cases h : eqF d1 d2 with
 | some r => rw [h] at e; cases e; exact .inl (ro_eq M H Z x y d1 d2 res Q f r1 r2 h k)
 | none => rw [h] at e; exact .inr (zCJ M H Z x y d1 d2 res Q f r1 r2 e k)
theorem zCO : ROk K mg (fun x y H Q => rNe x y H Q ∨ rEqD K mg true x y H Q) neG := by
 intro M H Z x y d1 d2 res Q f r1 r2 e k;unfold neG at e;cases h : neF d1 d2 with
 | some r => rw [h] at e; cases e; exact .inl (ro_ne M H Z x y d1 d2 res Q f r1 r2 h k)
 | none => rw [h] at e; exact .inr (zCJ M H Z x y d1 d2 res Q f r1 r2 e k)
def isD : D → D → Option Bool
 | .non,.non => some true
 | .bl a,.bl b => some (a == b)
 | .non,.bl _ => some false
 | .bl _,.non => some false
 | .non,.int _ => some false
 | .int _,.non => some false
 | .non,.str _ => some false
 | .str _,.non => some false
 | .int _,.bl _ => some false
 | .bl _,.int _ => some false
 | .str _,.bl _ => some false
 | .bl _,.str _ => some false
 | .tup _,.non => some false
 | .lst _,.non => some false
 | .tup _,.bl _ => some false
 | .lst _,.bl _ => some false
 | _,_ => none
def isG (neg : Bool) (d e : D) : Option R := (isD d e).map fun b => .val (.bl (if neg then !b else b))
theorem zCP {H : Hp} {d e : D} {x y : V} {b : Bool} (h : isD d e = some b) (rx : Rep K mg H d x) (ry : Rep K mg H e y) : isV x y = some b := by
 cases d <;> cases e <;> simp only [isD] at h <;> first
  | (cases h; done)
  | (cases h; rw [yd rx,yd ry]; rfl)
  | (cases h; rw [yI rx,yI ry]; rfl)
  | (cases h; rw [yd rx,yI ry]; rfl)
  | (cases h; rw [yI rx,yd ry]; rfl)
  | (cases h; rw [yd rx,zG ry]; rfl)
  | (cases h; rw [zG rx,yd ry]; rfl)
  | (cases h; rw [yd rx,y4 ry]; rfl)
  | (cases h; rw [y4 rx,yd ry]; rfl)
  | (cases h; rw [zG rx,yI ry]; rfl)
  | (cases h; rw [yI rx,zG ry]; rfl)
  | (cases h; rw [y4 rx,yI ry]; rfl)
  | (cases h; rw [yI rx,y4 ry]; rfl)
  | (cases h; obtain ⟨a,xs,rfl,_⟩ := zO rx; rw [yd ry]; rfl)
  | (cases h; obtain ⟨a,xs,rfl,_⟩ := zH rx; rw [yd ry]; rfl)
  | (cases h; obtain ⟨a,xs,rfl,_⟩ := zO rx; rw [yI ry]; rfl)
  | (cases h; obtain ⟨a,xs,rfl,_⟩ := zH rx; rw [yI ry]; rfl)
theorem ro_is : ROk K mg (fun x y H Q => ∃ b,isV x y = some b ∧ Q (.bl b) H) (isG false) := by
 intro M H Z x y d1 d2 res Q f r1 r2 e k;unfold isG at e;cases h : isD d1 d2 with
 | none => rw [h] at e; cases e
 | some b => rw [h] at e; cases e; exact ⟨b,zCP h r1 r2,k.flat f rfl⟩
theorem uK : ROk K mg (fun x y H Q => ∃ b,isV x y = some b ∧ Q (.bl (!b)) H) (isG true) := by
 intro M H Z x y d1 d2 res Q f r1 r2 e k;unfold isG at e;cases h : isD d1 d2 with
 | none => rw [h] at e; cases e
 | some b => rw [h] at e; cases e; exact ⟨b,zCP h r1 r2,k.flat f rfl⟩
def uL (d e : D) : Option R := match Z3 d e with
 | some r => some r
 | none => match d,e with
  | .lst a,.int k => if -(2 ^ 63) ≤ k ∧ k < 2 ^ 63 ∧ a.length * k.toNat ≤ cap then some (.own (replicate k.toNat a).flatten) else none
  | _,_ => none
theorem ro_mulG : ROk K mg (fun x y H Q => rMulD K x y H Q ∨ rRepL K x y H Q) uL := by
 intro M H Z x y d1 d2 res Q f r1 r2 e k;unfold uL at e;cases h : Z3 d1 d2 with
 | some r => rw [h] at e; cases e; exact .inl (ro_mul M H Z x y d1 d2 res Q f r1 r2 h k)
 | none =>
  rw [h] at e;cases d1 with
  | lst a =>
   cases d2 with
   | int n =>
    dsimp only at e;split at e
    ·rename_i hc
     cases e;obtain ⟨p,xs,rfl,h1,h2⟩ := zH r1;rw [zG r2];exact .inr ⟨p,n,xs,rfl,rfl,zE.seq h1,hc.1,hc.2.1,by rw [h2.length]; exact jd hc.2.2,fun q hq => k.own f hq (h2.flatten _)⟩
    ·cases e
   | _ => cases e
  | _ => cases e
def yt : List D → Option (List Int)
 | [] => some []
 | .int i :: ds => (yt ds).map (i :: ·)
 | _ :: _ => none
theorem jM {H : Hp} : ∀ {ds : List D} {xs : List V} {ns : List Int},yt ds = some ns → Reps K mg H ds xs → xs = ns.map V.int
 | [],_,_,e,h => by cases e; simp only [Reps] at h; subst h; rfl
 | d :: ds,_,ns,e,h => by
  simp only [Reps] at h;obtain ⟨v,r,rfl,h1,h2⟩ := h;cases d with
  | int i =>
   simp only [yt] at e;cases eb : yt ds with
   | none => rw [eb] at e; cases e
   | some cs =>
    rw [eb] at e; cases e;rw [zG h1,jM eb h2]; rfl
  | _ => cases e
def GG : List D → Option R
 | [.int i,.int j] => G2 [.int i,.int j]
 | [.lst ds] => match yt ds with
  | some ns => if 0 < ns.length then some (.val (.int (zBN ns))) else none
  | none => none
 | _ => none
theorem co_maxG : COk K mg (fun xs H Q => (∃ i j,xs = [.int i,.int j] ∧ Q (.int (if j > i then j else i)) H) ∨ ∃ (p : Addr) (ns : List Int),xs = [.ref p] ∧ SqL K H p (ns.map V.int) ∧ 0 < ns.length ∧ Q (.int (zBN ns)) H) GG := by
 intro M H Z xs ds res Q f r e k
 match ds,e with
 | [.int i,.int j],e => exact .inl (co_max M H Z xs _ res Q f r e k)
 | [.lst ds],e =>
  simp only [GG] at e;cases hi : yt ds with
  | none => rw [hi] at e; cases e
  | some ns =>
   rw [hi] at e;dsimp only at e;split at e
   ·rename_i hp
    cases e;obtain ⟨v,rfl,h⟩ := wE r;obtain ⟨p,ys,rfl,h1,h2⟩ := zH h;rw [jM hi h2] at h1;exact .inr ⟨p,ns,rfl,zE.seq h1,hp,k.flat f rfl⟩
   ·cases e
def minG : List D → Option R
 | [.int i,.int j] => some (.val (.int (if j < i then j else i)))
 | [.lst ds] => match yt ds with
  | some ns => if 0 < ns.length then some (.val (.int (QS ns))) else none
  | none => none
 | _ => none
theorem co_minG : COk K mg (fun xs H Q => (∃ i j,xs = [.int i,.int j] ∧ Q (.int (if j < i then j else i)) H) ∨ ∃ (p : Addr) (ns : List Int),xs = [.ref p] ∧ SqL K H p (ns.map V.int) ∧ 0 < ns.length ∧ Q (.int (QS ns)) H) minG := by
 intro M H Z xs ds res Q f r e k
 match ds,e with
 | [.int i,.int j],e =>
  cases e;obtain ⟨v,v',rfl,h1,h2⟩ := reps2 r;exact .inl ⟨i,j,by rw [zG h1,zG h2],k.flat f rfl⟩
 | [.lst ds],e =>
  simp only [minG] at e;cases hi : yt ds with
  | none => rw [hi] at e; cases e
  | some ns =>
   rw [hi] at e;dsimp only at e;split at e
   ·rename_i hp
    cases e;obtain ⟨v,rfl,h⟩ := wE r;obtain ⟨p,ys,rfl,h1,h2⟩ := zH h;rw [jM hi h2] at h1;exact .inr ⟨p,ns,rfl,zE.seq h1,hp,k.flat f rfl⟩
   ·cases e
open Classical in
def sortG : List D → Option R
 | [.lst ds] => if SortOk ds then some (.own (Yt ds)) else none
 | _ => none
theorem YS {H : Hp} {ds : List D} {ys : List V} (r : Reps K mg H ds ys) : ∀ p : List Nat,(∀ i ∈ p,i < ds.length) → Reps K mg H (p.map fun i => ds.getD i .non) (p.map fun i => ys.getD i .non)
 | [],_ => Reps.nil
 | i :: p,hb => by
  have hi := hb i mem_cons_self;have hy : i < ys.length := by rw [r.length]; exact hi
  obtain ⟨v,e1,e2⟩ := r.get' (i := i) (d := ds[i]) (by simp [hi]);refine Reps.cons ?_ (YS r p fun z hz => hb z (mem_cons_of_mem _ hz));show Rep K mg H (ds.getD i .non) (ys.getD i .non);rw [getD_eq_getElem?_getD,getD_eq_getElem?_getD,e1,getElem?_eq_getElem hi];exact e2
open Classical in
theorem zBP : COk K mg (fun xs H Q => ∃ (l : Addr) (ys : List V) (ds : List D),xs = [.ref l] ∧ SqL K H l ys ∧ Reps K mg H ds ys ∧ SortOk ds ∧ ∀ p : List Nat,YR (rkD ds) ds.length p → ∀ q,H q = none → Q (.ref q) (upd H q (.lst (p.map fun i => ys.getD i .non)))) sortG := by
 intro M H Z xs ds res Q f r e k
 match ds,e with
 | [.lst ds],e =>
  have e' : (if SortOk ds then some (R.own (Yt ds)) else none) = some res := e;by_cases ok : SortOk ds
  ·rw [if_pos ok] at e'
   cases e';obtain ⟨v,rfl,h⟩ := wE r;obtain ⟨p,ys,rfl,h1,h2⟩ := zH h;refine ⟨p,ys,ds,rfl,zE.seq h1,h2.mono zE,ok,fun pl hp q hq => k.own f hq ?_⟩;rw [← Zg ok hp];exact YS h2 pl fun i hi => by simpa using hp.1.mem_iff.mp hi
  ·rw [if_neg ok] at e'; cases e'
end
end DV
namespace DV
open PySem L2
section
variable {X : Cx} {σ : St} {H : Hp}
def eUn (f : D → Option R) (m : ME) : ME := fun E => match m E with
 | .stuck => .stuck
 | .exc x E1 => .exc x E1
 | .ok (r,E1) => match f r.d with
  | some r' => .ok (r',E1)
  | none => .stuck
theorem eUn_run {rel : V → Hp → VK → Prop} {f : D → Option R} {m : ME} {Q : VK} (hr : ∀ (M : Addr → Prop) (H : Hp) (Z : Fz) (x : V) (d : D) (res : R) (Q : VK),FR X.K X.mg M H Z → Rep X.K X.mg (Hm (Mo M Z) H) d x → f d = some res → Kt X.K X.mg M H Z res Q → rel x H Q)
  (h : tM X (eUn f m) σ H Q) : tM X m σ H fun x H1 => rel x H1 Q := by
 obtain ⟨M,E,hl,fr,k⟩ := h;unfold eUn at k;refine zt (T0 := []) hl fr ?_;cases ea : m E with
 | stuck => rw [ea] at k; exact k
 | exc x E1 => rw [ea] at k; exact k
 | ok p =>
  obtain ⟨r,E1⟩ := p;rw [ea] at k;intro v H1 g;dsimp only at k;cases ef : f r.d with
  | none => rw [ef] at k; exact k.elim
  | some res =>
   rw [ef] at k;exact hr M H1 _ v r.d res Q g.frame g.rep ef fun v' H' f' s' => k v' H' (g.more (T := [(some v',res.slot)]) f' s')
def zBQ (k : Bool) : D → Option R
 | .tup ds => some (.val (.tup (yM k ds)))
 | .lst ds => some (.own (yM k ds))
 | _ => none
theorem Reps.evens {K : PySem.W.Frag} {mg : Str → Option Value} {H : Hp} : ∀ {ds : List D} {xs : List V},Reps K mg H ds xs → Reps K mg H (L2.evens ds) (L2.evens xs)
 | [],_,h => by simp only [Reps] at h; subst h; simp only [L2.evens]; exact Reps.nil
 | [d],_,h => by
  simp only [Reps] at h;obtain ⟨v,r,rfl,h1,rfl⟩ := h;simp only [L2.evens]; exact Reps.cons h1 Reps.nil
 | d :: e :: ds,_,h => by
  simp only [Reps] at h;obtain ⟨v,r,rfl,h1,v',r',rfl,h2,h3⟩ := h;simp only [L2.evens]; exact Reps.cons h1 (Reps.evens h3)
theorem Reps.rev {K : PySem.W.Frag} {mg : Str → Option Value} {H : Hp} : ∀ {ds : List D} {xs : List V},Reps K mg H ds xs → Reps K mg H ds.reverse xs.reverse
 | [],_,h => by simp only [Reps] at h; subst h; exact Reps.nil
 | d :: ds,_,h => by
  simp only [Reps] at h;obtain ⟨v,r,rfl,h1,h2⟩ := h;rw [reverse_cons,reverse_cons];exact (Reps.rev h2).append (Reps.cons h1 Reps.nil)
theorem Reps.step {K : PySem.W.Frag} {mg : Str → Option Value} {H : Hp} (k : Bool) {ds : List D} {xs : List V} (h : Reps K mg H ds xs) : Reps K mg H (yM k ds) (yM k xs) := by
 cases k
 ·simp only [yM,Bool.false_eq_true,if_false]; exact h.rev
 ·simp only [yM,if_true]; exact h.evens
theorem ok_step (k : Bool) {e st : Expr} {m : ME} {p2 pos : Pos} (he : EOk X e m) (hst : PE X st (tC (.int (z9 k)))) : EOk X (.Subscript e (.Slice none none (some st) p2) pos) (eUn (zBQ k) m) :=
 zn (pe_step k he hst) fun σ H Q => eUn_run fun M H Z x d res Q f r e kk => by
  cases d with
  | tup ds =>
   cases e;obtain ⟨a,xs,rfl,h1,h2⟩ := zO r;exact ⟨a,xs,rfl,.inl ⟨zk zE h1,fun p hp => kk.tup f hp (h2.step k)⟩⟩
  | lst ds =>
   cases e;obtain ⟨a,xs,rfl,h1,h2⟩ := zH r;exact ⟨a,xs,rfl,.inr ⟨zE.seq h1,fun p hp => kk.own f hp (h2.step k)⟩⟩
  | _ => cases e
def sPar (i j : Nat) (m : MA) : MS := fun E => match m E with
 | .stuck => .stuck
 | .exc x E1 => .exc x E1
 | .ok ([r1,r2],E1) => match gNs [i,j] [r1.d,r2.d] E1 with
  | .ok E2 => .ok (.nx,E2)
  | _ => .stuck
 | _ => .stuck
theorem zBR {i j : Nat} {m : MA} {D : Ends} (h : tS X (sPar i j m) D σ H) : tPar i j (tMA X m) D σ H := by
 obtain ⟨M,E,hl,fr,k⟩ := h;unfold sPar at k;refine JL (T0 := []) hl fr ?_;cases ea : m E with
 | stuck => rw [ea] at k; exact k
 | exc x E1 => rw [ea] at k; exact fun H' g => k σ H' g
 | ok p =>
  obtain ⟨rs,E1⟩ := p;rw [ea] at k
  match rs,k with
  | [r1,r2],k =>
   intro vs H1 hv g;dsimp only at k;cases eg : gNs [i,j] [r1.d,r2.d] E1 with
   | stuck => rw [eg] at k; exact k.elim
   | exc _ _ => rw [eg] at k; exact k.elim
   | ok E2 =>
    rw [eg] at k
    match vs,hv with
    | [v,w],_ =>
     have rp := Got.reps rfl g;have g0 := g.dropAll;have q := YI (X := X) [i,j] [r1.d,r2.d] [v,w] (a := 0) (ts := []) (Q := D.nx) (Got.refl (T0 := []) g0.len g0.fr) rp eg fun σ' g' => k σ' H1 (g0.trans' g')
     obtain ⟨v1,rr,e1,v2,rr2,e2,e3,q⟩ := q;cases e1; cases e2;exact ⟨v,w,rfl,q⟩
  | [],k => exact k.elim
  | [_],k => exact k.elim
  | _ :: _ :: _ :: _,k => exact k.elim
theorem sk_any {st : Stmt} : SOk X st (fun _ => .stuck) := jH zAa fun D σ H ⟨M,E,hl,fr,k⟩ => k
end
end DV
namespace DV
open PySem L2
section
variable {X : Cx} {pins : List (Addr × Obj)} {σ : L2.St} {H : Hp} {s : Shared}
theorem Qd (I : Inv X pins σ H s) {a : Addr} (h : s.heap.get? a = none) : H a = none := by
 cases q : H a with
 | none => rfl
 | some o => obtain ⟨u,e⟩ := vo (I.hok a o q); rw [h] at e; cases e
def sRaise (c : Str) : MS := fun E => .exc ⟨c,true⟩ E
theorem zBS {c : Str} {C : Addr} {np cpos pos : Pos} (hc : X.calm = true) (hg : Gl X c) (hm : X.mg c = some (.ref C)) (q : excIn X.K C VB "ValueError.__new__" = true) (hd : (c == ("__debug__" : Str)) = false) : SOk X (.Raise (some (.Call (.Name c np) [] [] cpos)) none pos) (sRaise c) := by
 intro pins s σ H D I ⟨M,E,hl,fr,k⟩;have k' : XE X σ H ⟨c,true⟩ := k σ H (Got.refl (T0 := []) hl fr);obtain ⟨bm,N,nm,qn,bs,hdct,sn,sub,ab,col,dd,k0,k1,k2,k3,k5,mN,hC,hN,hni,T⟩ := own_at I.kIn q;refine wpAny_Raise_call_subT (nm := nm) (q := qn) (C := C) (N := N) (bs := bs) (bm := bm) (hdct := hdct) (sn := sn) (sub := sub) (ab := ab) (col := col) (dd := dd) (k0 := k0) (k1 := k1) (k2 := k2) (k3 := k3) (k5 := k5) PySem.F.excBase_ValueError (T.hasType (by decide +kernel)) (I.ok.hd hc) rfl hni (ZI I hg hm ⟨rfl,?_⟩ hd);refine wpAny_pure ⟨rfl,zero_le _,hC,hN,T,fun h' e hx => ?_⟩;refine k' pins _ _ (I.kept hx.keeps) ⟨e,C,rfl,hm,Qd I hx.new,.inl ⟨rfl,s,I,rfl,hx⟩⟩
theorem Qe {A : Around} {M : Model} {E : Value → Shared → Prop} {i : Nat} {x : Str} {v : V} {Q : Unit → Shared → Prop} (I : Inv X pins σ H s) (hN : X.N.Nodup) (hi : X.N[i]? = some x) (hx : X.env.scope.names.lookup x = some .local) (hv : σ[i]? = some (some v))
  (h : ∀ s',Inv X pins (σ.set i none) H s' → Q () s') : wpAny M A (unbindName X.env x) Q E s := by
 obtain ⟨m,hn,hl⟩ := id I.loc;have hcls : (X.env.scope.kind == .class || (X.env.scope.kind == .module && X.env.locals != X.env.globals)) = false := by rw [I.ok.kind]; rfl
 obtain ⟨u,_,lk⟩ := hl i x v hi hv (.inl hx);have hm : m x = some u := by
  rcases lk with ⟨_,e⟩ | ⟨z,_⟩
  ·exact e
  ·have z' : X.env.scope.names.lookup x = some .cell ∨ X.env.scope.names.lookup x = some .free := z
   rcases z' with z' | z' <;> (rw [hx] at z'; cases z')
 refine wpAny_unbindName_local hx hn hm hcls fun h' u' hn' hs => ?_
 obtain ⟨oL,_,_,hoL,_⟩ := id hn;have keep : ∀ b,b ≠ X.env.locals → h'.get? b = s.heap.get? b := fun b hb => hs.2 b hb
 have neL : ∀ b o,X.s₀.heap.get? b = some o → b ≠ X.env.locals := fun b o e => ne_of_lt (lt_of_lt_of_le (lt_size e) I.ok.above)
 refine h _ ⟨I.ok,I.os,I.bare,⟨fun b o e n hb hx => (keep b (neL b o e)).trans (I.base.keep b o e n hb hx),fun b o e n hb hx => ?_,I.base.free,fun b o e hx => ?_,I.base.tups,I.base.frzs,I.base.tbls⟩,⟨_,hn',fun j y v' e1 e2 e3 => ?_⟩,fun y c e => ?_,I.free,I.freeC,fun p hp => ?_,fun b o e => ?_,by simpa using I.len⟩
 ·obtain ⟨sl,q⟩ := I.base.slot b o e n hb hx
  exact ⟨sl,(keep b (neL b o e)).trans q⟩
 ·obtain ⟨o',q⟩ := I.base.there b o e hx
  exact ⟨o',(keep b (neL b o e)).trans q⟩
 ·have hiσ : i < σ.length := (List.getElem?_eq_some_iff.mp hv).1
  have hj : j ≠ i := fun z => by
   subst z;rw [getElem?_set_self hiσ] at e2;cases e2
  rw [getElem?_set_ne (Ne.symm hj)] at e2;obtain ⟨u2,r2,q⟩ := hl j y v' e1 e2 e3;refine ⟨u2,r2,?_⟩;rcases q with ⟨k,e⟩ | ⟨k,c,e,z⟩
  ·have ny : y ≠ x := fun e => hj (ZH hN e1 (e ▸ hi))
   exact .inl ⟨k,by simp [ny,e]⟩
  ·exact .inr ⟨k,c,e,z.sameBut hs (I.cne y c e)⟩
 ·obtain ⟨w',z⟩ := I.cell y c e
  exact ⟨w',z.sameBut hs (I.cne y c e)⟩
 ·obtain ⟨e,n,ne,nf,d⟩ := I.pin p hp
  exact ⟨(keep p.1 ne).trans e,n,ne,nf,d⟩
 ·refine (I.hok b o e).stay (fun c w' hc q => (keep c fun z => ?_).trans q) (fun _ q => q) fun _ _ q => q
  subst z;rcases hc with rfl | hc
  ·rw [I.free] at e; cases e
  ·rw [I.free] at hc; cases hc
theorem Qf {sc : Shared} {Hc : Hp} {B : Heap} {a C : Addr} {t : Value} {h6 : Heap} (I : Inv X pins σ H s) (Ic : Inv X pins σ Hc sc) (un : Un (frs X.stack) [] Hc H sc.heap s.heap) (fl : Heap.FlyingW B X.stack a (.ref C) t s.heap) (kb : zAQ B H sc.heap (frs X.stack) s.heap) (hn : H a = none)
  (fl6 : Heap.FlyingW B X.stack a (.ref C) t h6) (sl : s.heap.UpToSlots h6) : Inv X pins σ (upd H a (ExO C a)) { s with heap := h6 } := by
 obtain ⟨oe,vs,he,hec,hed,_⟩ := fl.first;have naf : a ∉ frs X.stack := fun z => by
  obtain ⟨_,o,q,nd⟩ := I.stack.mem z;rw [he] at q; cases q;exact nd vs hed
 have nac : sc.heap.get? a = none := by
  cases q : sc.heap.get? a with
  | none => rfl
  | some o =>
   have := kb a oe he (.inl ⟨o,q⟩) naf;rw [fl.2.1] at this; cases this
 have kb' : zAQ B H sc.heap (a :: frs X.stack) s.heap := fun b o e z nf => kb b o e z fun q => nf (mem_cons_of_mem _ q)
 have hN : ∀ b ∈ a :: frs X.stack,H b = none := fun b hb => by
  rcases mem_cons.mp hb with rfl | hb
  ·exact hn
  ·exact I.stkFree b hb
 have hfs : ∀ b ∈ frs X.stack,∀ o,s.heap.get? b = some o → ∃ sl,h6.get? b = some { o with slots := sl } := fun b hb o e => by
  obtain ⟨_,o',q,nd⟩ := I.stack.mem hb;rw [e] at q; cases q;exact sl b o e nd
 have u6 := un_on un I.hok kb' fl6.1 nac hfs;have ok6 : HOk X.prog X.w H h6 := Gn I.hok kb' fl6.1 hN;obtain ⟨o6,e6,c6⟩ := fl6.there;have ne : ∀ {b : Addr} {o : HO},H b = some o → b ≠ a := fun {b o} e z => by subst z; rw [hn] at e; cases e
 refine Ic.call' (s' := { s with heap := h6 }) (ch := []) (I.os.trans Ic.os.symm) ?_ (fun b o e => ?_) I.bare (fun b z => absurd z (by simp))
 ·exact ⟨u6.keep,u6.slot,fun b o e n hx => by
   have : b ≠ a := fun z => by subst z; rw [nac] at e; cases e
   rw [zY this]; exact u6.free b o e n hx,u6.there,fun b xs e => by have q := u6.tups b xs e; rw [zY (ne q)]; exact q,fun b o u e => by have q := u6.frzs b o u e; rw [zY (ne q)]; exact q,fun b ps e => by obtain ⟨m,q⟩ := u6.tbls b ps e; exact ⟨m,by rw [zY (ne q)]; exact q⟩⟩
 ·by_cases hb : b = a
  ·subst hb
   rw [yK] at e; cases e;exact Gm e6 c6
  ·rw [zY hb] at e
   exact (ok6 b o e).stay (fun c w' _ q => q) (fun c q => by rw [zY (ne q)]; exact q) fun c xs q => by rw [zY (ne q)]; exact q
abbrev trX (X : Cx) (pn : List (Addr × Obj)) (E : Value → Shared → Prop) : Cx := { X with pn := pn,xe := E }
abbrev hdX (X : Cx) (a : Addr) : Cx := { X with A := X.A.mark (some (.ref a)),calm := false,xe := fun _ _ => False }
theorem inv_tr (I : Inv X pins σ H s) (E : Value → Shared → Prop) : Inv (trX X (X.pn ++ pins) E) [] σ H s :=
 ⟨⟨I.ok.mod,I.ok.kind,I.ok.glob,I.ok.blt,I.ok.above,I.ok.inj,I.ok.has,I.ok.cab,I.ok.hd,I.ok.frames,I.ok.stk,I.ok.exf,I.ok.bs,I.ok.bsz,I.ok.noex,I.ok.exfs,I.ok.funs,I.ok.frf⟩,I.os,I.bare,I.base,I.loc,I.cell,I.free,I.freeC,fun p hp => I.pin p (by simpa using hp),I.hok,I.len⟩
theorem j7 {pins' : List (Addr × Obj)} {E : Value → Shared → Prop} (I : Inv (trX X (X.pn ++ pins) E) pins' σ H s) : Inv X pins σ H s :=
 ⟨⟨I.ok.mod,I.ok.kind,I.ok.glob,I.ok.blt,I.ok.above,I.ok.inj,I.ok.has,I.ok.cab,I.ok.hd,I.ok.frames,I.ok.stk,I.ok.exf,I.ok.bs,I.ok.bsz,I.ok.noex,I.ok.exfs,I.ok.funs,I.ok.frf⟩,I.os,I.bare,I.base,I.loc,I.cell,I.free,I.freeC,fun p hp => I.pin p (mem_append_left _ hp),I.hok,I.len⟩
theorem Zh {pins' : List (Addr × Obj)} {E : Value → Shared → Prop} {D : Ends} {f : Flow} {s' : Shared} (h : SP (trX X (X.pn ++ pins) E) pins' D f s') : SP X pins D f s' := by
 cases f with
 | next => obtain ⟨σ',H',I,q⟩ := h; exact ⟨σ',H',j7 I,q⟩
 | brk => obtain ⟨σ',H',I,q⟩ := h; exact ⟨σ',H',j7 I,q⟩
 | cont => obtain ⟨σ',H',I,q⟩ := h; exact ⟨σ',H',j7 I,q⟩
 | ret u => obtain ⟨v,σ',H',I,r,q⟩ := h; exact ⟨v,σ',H',j7 I,r,q⟩
theorem zCQ (I : Inv X pins σ H s) (a : Addr) : Inv (hdX X a) pins σ H s := JK I _ false _ (fun z => by cases z) I.ok.frames
theorem zBT {a : Addr} (I : Inv (hdX X a) pins σ H s) (hd : X.calm = true → X.A.handled = none) : Inv X pins σ H s :=
 ⟨⟨I.ok.mod,I.ok.kind,I.ok.glob,I.ok.blt,I.ok.above,I.ok.inj,I.ok.has,I.ok.cab,hd,I.ok.frames,I.ok.stk,I.ok.exf,I.ok.bs,I.ok.bsz,I.ok.noex,I.ok.exfs,I.ok.funs,I.ok.frf⟩,I.os,I.bare,I.base,I.loc,I.cell,I.free,I.freeC,I.pin,I.hok,I.len⟩
def sTry (cl : List Str) (i : Nat) (b h : MS) : MS := fun E => match b E with
 | .exc x E1 => if (!x.made && cl.contains x.cls) = true then (match Jq i (.val (.exn x.cls)) E1 with
   | .ok E2 => (match h E2 with
    | .ok (.ret r,E3) => .ok (.ret r,E3)
    | _ => .stuck)
   | _ => .stuck) else .stuck
 | o => o
theorem sk_try {body suite : List Stmt} {b0 : Stmt} {n t : Str} {i : Nat} {T : Addr} {np hp pos : Pos} {mb mh : MS} {cl : List Str} (hst : X.stack = X.env :: X.outer ∧ X.env.frame = some X.env.locals) (hN : X.N.Nodup) (hi : X.N[i]? = some n) (hx : X.env.scope.names.lookup n = some .local)
  (hg : Gl X t) (hd : (t == ("__debug__" : Str)) = false) (hm : X.mg t = some (.ref T)) (hT : TCls X.K T) (hcl : ∀ c ∈ cl,∃ C,X.mg c = some (.ref C) ∧ XCls X.K c C T)
  (hb : ∀ pn E,vx (trX X pn E) body mb) (hh : ∀ a,vx (hdX X a) (b0 :: suite) mh) :
  SOk X (.Try body [.ExceptHandler (some (.Name t np)) (some n) (b0 :: suite) hp] [] [] pos) (sTry cl i mb mh) := by
 intro pins s σ H D I ⟨M,E,hl,fr,k⟩;rw [arm_exec_Try];refine wpAny_bind (wpAny_standAt (wpAny_tryStmt_except ?_));unfold sTry at k;refine wpAny_mono (hb (X.pn ++ pins) _ [] s σ H D (inv_tr I _) ⟨M,E,hl,fr,?_⟩) (fun f s1 q => ?_) fun _ _ z => z
 ·cases eb : mb E with
  | stuck => rw [eb] at k; exact k
  | ok p =>
   rw [eb] at k;obtain ⟨fl,E1⟩ := p;cases fl <;> exact k
  | exc x E1 =>
   rw [eb] at k;dsimp only at k;intro σ1 H1 g;intro pins' s1 e I1 ⟨a,C,he,hmx,hn,rel⟩;subst he;cases hq : (!x.made && cl.contains x.cls) with
   | false => rw [hq] at k; exact k.elim
   | true =>
   rw [hq] at k;simp only [Bool.and_eq_true,Bool.not_eq_true'] at hq;obtain ⟨hmd,hin⟩ := hq;rcases rel with ⟨z,_⟩ | ⟨_,sc,Hc,Ic,un,B,tt,fl,kb⟩
   ·rw [hmd] at z; cases z
   obtain ⟨C',hmc,FC⟩ := hcl x.cls (by simpa using hin);have ec : C = C' := by
    have z : X.mg x.cls = some (.ref C) := hmx;rw [hmc] at z; cases z; rfl
   subst ec;have J1 : Inv X pins σ1 H1 s1 := j7 I1;have Jc : Inv X pins σ1 Hc sc := j7 Ic;have hfr : X.A.frames = some (X.env :: X.outer) := by rw [← hst.1]; exact J1.ok.frames
   have fl' : Heap.FlyingW B (X.env :: X.outer) a (.ref C) (.ref tt) s1.heap := by rw [← hst.1]; exact fl
   refine wpAny_looks_onW hfr hst.2 fl' fun h4 held sl4 => ?_
   refine wpAny_landsW held fun h5 fl5 sl5 => ?_
   have fl5' : Heap.FlyingW B X.stack a (.ref C) (.ref tt) h5 := by rw [hst.1]; exact fl5
   have J5 := Qf J1 Jc un fl kb hn fl5' (sl4.trans sl5);obtain ⟨o5,e5,c5⟩ := fl5.there;refine wpAny_handleBy_cons (codeAny_handlers_test ?_) (by intro z; cases z);refine ZI (X := hdX X a) (zCQ J5 a) hg hm ?_ hd;refine W5 FC hT J5.kIn e5 c5 ?_;refine codeAny_handlers_suite_as ?_;refine PyProof.Rows.lands_againW fl5 fun h6 fl6 sl6 => ?_
   have fl6' : Heap.FlyingW B X.stack a (.ref C) (.ref tt) h6 := by rw [hst.1]; exact fl6
   have J6 := Qf J1 Jc un fl kb hn fl6' ((sl4.trans sl5).trans sl6);have g2 : Got X.K X.mg M σ E H [] σ1 E1 (upd H1 a (ExO C a)) [(some (.ref a),R.slot (.val (.exn x.cls)))] := by
    refine g.more (T := [(some (.ref a),.val (.exn x.cls))]) ((g.frame.grow hn).add ?_) (Step.newVal hn);simp only [Rep];exact ⟨a,C,rfl,hmx,zM.mpr ⟨wq g.frame hn,yK⟩⟩
   cases ep : Jq i (.val (.exn x.cls)) E1 with
   | stuck => rw [ep] at k; exact k.elim
   | exc _ _ => rw [ep] at k; exact k.elim
   | ok E2 =>
   rw [ep] at k;dsimp only at k;have g3 := ZS g2 ep;refine jz (i := i) (v := .ref a) J6 hN hi (.inl hx) rfl (fun s7 J7 => ?_) (.inr hx);refine wpAny_mono (hh a pins s7 (σ1.set i (some (.ref a))) (upd H1 a (ExO C a)) { D with nx := fun _ _ => False,bk := fun _ _ => False,ct := fun _ _ => False } (zCQ J7 a) (YG (T0 := []) g3.len g3.fr ?_)) (fun f s8 q => ?_) fun _ _ z => z.elim
   ·cases eh : mh E2 with
    | stuck => rw [eh] at k; exact k.elim
    | exc _ _ => rw [eh] at k; exact k.elim
    | ok p =>
     obtain ⟨fl,E3⟩ := p;rw [eh] at k;cases fl with
     | nx => exact k.elim
     | bk => exact k.elim
     | ct => exact k.elim
     | ret r => exact fun v σ' H' g4 => k v σ' H' (g3.trans' g4)
   ·cases f with
    | next => obtain ⟨_,_,_,z⟩ := q; exact z.elim
    | brk => obtain ⟨_,_,_,z⟩ := q; exact z.elim
    | cont => obtain ⟨_,_,_,z⟩ := q; exact z.elim
    | ret u =>
     obtain ⟨v,σ3,H3,J8,ru,dr⟩ := q;have J8' := zBT J8 I.ok.hd;refine wpAny_bind (wpAny_bindName (jz (i := i) (v := .non) J8' hN hi (.inl hx) rfl (fun s9 J9 => ?_) (.inr hx)));unfold unbindBehindTheSuite;refine wpAny_onRaise ?_;refine Qe (v := .non) J9 hN hi hx ?_ fun s10 J10 => ⟨v,_,H3,J10,ru,dr⟩
     have : i < σ3.length := by rw [J8.len]; exact (List.getElem?_eq_some_iff.mp hi).1
     rw [getElem?_set_self this]
 ·cases f with
  | next => exact wpAny_execs_nil (Zh q)
  | brk => exact Zh q
  | cont => exact Zh q
  | ret u => exact Zh q
end
end DV
namespace DV
open PySem L2
section
variable {X : Cx} {σ : L2.St} {H : Hp}
theorem uM {cl : List Str} {v : V} {cv : Value} {b : Str → Bool} (rv : ∀ u,zw v u → u = cv) (hk : ∀ c ∈ cl,∃ C T,X.mg c = some (.ref C) ∧ XCls X.K c C T ∧ kitOne X.K (.ref C) cv = some (b c)) :
  yb X (.builtin "isinstance") (fun xs H Q => ∃ x c,xs = [x,v] ∧ Rep X.K X.mg H (.exn c) x ∧ c ∈ cl ∧ Q (.bl (b c)) H) := by
 intro pins s σ H xs us Q I r h;obtain ⟨x,c,rfl,rd,hc,q⟩ := h;obtain ⟨u,w',rfl,rx,ry⟩ := zAh r;obtain rfl := rv w' ry;simp only [Rep] at rd;obtain ⟨a,C,rfl,hm,ha⟩ := rd;obtain ⟨C',T,hm',F,kq⟩ := hk c hc;rw [hm] at hm'; cases hm';cases (show u = Value.ref a from rx);obtain ⟨φ,_,_⟩ := (show jG X.prog X.w H s.heap a (ExO C a) from I.hok a _ ha);exact kia_one (kit_exc F) I.kIn φ kq (fun z => nomatch z) fun tk => ⟨.bl _,H,I.tok tk,rfl,q⟩
def eIsX (cl : List Str) (b : Str → Bool) (m : ME) : ME := fun E => match m E with
 | .stuck => .stuck
 | .exc x E1 => .exc x E1
 | .ok (.val (.exn c),E1) => if cl.contains c = true then .ok (.val (.bl (b c)),E1) else .stuck
 | _ => .stuck
theorem Qg {cl : List Str} {v : V} {b : Str → Bool} {m : ME} {Q : VK} (h : tM X (eIsX cl b m) σ H Q) : tM X m σ H fun x H1 => ∃ y c,[x,v] = [y,v] ∧ Rep X.K X.mg H1 (.exn c) y ∧ c ∈ cl ∧ Q (.bl (b c)) H1 := by
 obtain ⟨M,E,hl,fr,k⟩ := h;unfold eIsX at k;refine zt (T0 := []) hl fr ?_;cases ea : m E with
 | stuck => rw [ea] at k; exact k
 | exc x E1 => rw [ea] at k; exact k
 | ok pr =>
  obtain ⟨r,E1⟩ := pr;rw [ea] at k;cases r with
  | own ds => exact k.elim
  | val d =>
   cases d with
   | exn c =>
    dsimp only at k;intro v H' g;cases hc : cl.contains c with
    | false => rw [hc] at k; exact k.elim
    | true =>
     rw [hc] at k;exact ⟨v,c,rfl,g.rep.mono zE,by simpa using hc,k _ H' (g.flat (d := .bl (b c)) rfl)⟩
   | _ => exact k.elim
theorem ok_isC {cl : List Str} {y : Str} {Y T : Addr} {a : Expr} {m : ME} {p p1 pos : Pos} (hcl : ∀ c ∈ cl,∃ C,X.mg c = some (.ref C) ∧ XCls X.K c C T) (hy : X.mg y = some (.ref Y)) (FY : XCls X.K y Y T) (hYT : Y ≠ T) (hg : Gl X "isinstance") (hm : X.mg "isinstance" = none)
  (hgY : Gl X y) (ha : EOk X a m) (hv : bootBuiltins "isinstance" = some (.builtin "isinstance")) (hd : (y == ("__debug__" : Str)) = false) (he : zR a = false) :
  EOk X (.Call (.Name "isinstance" p) [a,.Name y p1] [] pos) (eIsX cl (· == y) m) :=
 zn (Jo (uM (cl := cl) (v := .ref Y) (cv := .ref Y) (b := (· == y)) (fun u h => h) fun c hc => by
  obtain ⟨C,h1,h2⟩ := hcl c hc;exact ⟨C,T,h1,h2,kit_own h2 FY hYT fun e => by subst e; rw [h1] at hy; cases hy; rfl⟩) hg hm hv (yc ha (yc (GL (v := .ref Y) hgY hy rfl hd) JY (zN rfl)) (zN he)) (by decide) (by decide) (zN he) (jJ rfl)) fun σ H Q h => Qg h
theorem ok_isV {cl : List Str} {T : Addr} {a : Expr} {m : ME} {p p1 pos : Pos} (hcl : ∀ c ∈ cl,∃ C,X.mg c = some (.ref C) ∧ XCls X.K c C T) (hg : Gl X "isinstance") (hm : X.mg "isinstance" = none)
  (hgV : Gl X "ValueError") (hmV : X.mg "ValueError" = none) (hvV : bootBuiltins "ValueError" = some (.type "ValueError")) (ha : EOk X a m) (hv : bootBuiltins "isinstance" = some (.builtin "isinstance")) (he : zR a = false) :
  EOk X (.Call (.Name "isinstance" p) [a,.Name "ValueError" p1] [] pos) (eIsX cl (fun _ => true) m) :=
 zn (Jo (uM (cl := cl) (v := .ty "ValueError") (cv := .type "ValueError") (b := fun _ => true) (fun u h => h) fun c hc => by
  obtain ⟨C,h1,h2⟩ := hcl c hc;exact ⟨C,T,h1,h2,kit_val h2⟩) hg hm hv (yc ha (yc (GM (v := .ty "ValueError") hgV hmV hvV rfl (by decide) (by decide)) JY (zN rfl)) (zN he)) (by decide) (by decide) (zN he) (jJ rfl)) fun σ H Q h => Qg h
end
section
variable {X : Cx} {σ : L2.St} {H : Hp}
def Wb (k : Bool) : Value → Bool
 | .bool b => b == k
 | _ => false
def zCR (k : Int) : Value → Bool
 | .int b _ => b == k
 | _ => false
theorem JR : ∀ {bs : List Bool} {us : List Value},zb (bs.map V.bl) us → us = bs.map Value.bool
 | [],_,.nil => rfl
 | b :: bs,_,.cons r t => by
  cases (show _ = Value.bool b from r);rw [JR t]; rfl
theorem w8 : ∀ {ns : List Int} {us : List Value},zb (ns.map V.int) us → ∀ u ∈ us,∃ i t,u = .int i t
 | [],_,.nil,_,h => by cases h
 | n :: ns,_,.cons r t,u,h => by
  rcases mem_cons.mp h with rfl | h
  ·obtain ⟨tk,e⟩ := r; exact ⟨n,tk,e⟩
  ·exact w8 t u h
theorem jn (k : Int) : ∀ {ns : List Int} {us : List Value},zb (ns.map V.int) us → us.countP (zCR k) = ns.count k
 | [],_,.nil => rfl
 | n :: ns,_,.cons r t => by
  obtain ⟨tk,e⟩ := r;subst e;rw [List.countP_cons,List.count_cons,jn k t]; rfl
theorem zBU : MtM X "list.count" (fun x vs H Q => ∃ l,x = .ref l ∧ ((∃ (bs : List Bool) (k : Bool),vs = [.bl k] ∧ SqL X.K H l (bs.map V.bl) ∧ Q (.int (bs.count k : Nat)) H) ∨ (∃ (ns : List Int) (k : Int),vs = [.int k] ∧ SqL X.K H l (ns.map V.int) ∧ Q (.int (ns.count k : Nat)) H))) := by
 intro pins s σ H x vs v us Q I rx rv h;obtain ⟨l,rfl,h⟩ := h;cases rx;rcases h with ⟨bs,k,rfl,hs,q⟩ | ⟨ns,k,rfl,hs,q⟩
 ·obtain ⟨u,rfl,ru⟩ := rv.one
  cases (show u = Value.bool k from ru);obtain ⟨its,r,p,_⟩ := I.list hs;obtain ⟨⟨c0,dd,dt,sl⟩,n,e,ec,ed,es⟩ := p;dsimp only at ec ed es;subst ec ed es;have hb := JR r;subst hb;refine call_meets PySem.F.slot_list_count ⟨_,e,rfl⟩ PySem.F.entry_list_count (PySem.F.args_list_count_2 _ _) (SeqAt.list_countAt l _ n none sl (.bool k) (Wb k)) ⟨e,fun y hy => ?_,?_⟩
  ·have hy' : y ∈ bs.map Value.bool := by simpa using hy
   obtain ⟨b,_,rfl⟩ := mem_map.mp hy';exact SeqAt.EqAt.bool_bool b k
  ·have : (bs.map Value.bool).countP (Wb k) = bs.count k := by rw [List.countP_map,List.count]; rfl
   rw [show (bs.map Value.bool).toArray.toList = bs.map Value.bool from rfl,this];exact ⟨.int _,H,I.tok _,⟨_,rfl⟩,q⟩
 ·obtain ⟨u,rfl,ru⟩ := rv.one
  obtain ⟨tk,eu⟩ := (show ∃ t,u = Value.int k t from ru);subst eu;obtain ⟨its,r,p,_⟩ := I.list hs;obtain ⟨⟨c0,dd,dt,sl⟩,n,e,ec,ed,es⟩ := p;dsimp only at ec ed es;subst ec ed es;refine call_meets PySem.F.slot_list_count ⟨_,e,rfl⟩ PySem.F.entry_list_count (PySem.F.args_list_count_2 _ _) (SeqAt.list_countAt l _ n none sl (.int k tk) (zCR k)) ⟨e,fun y hy => ?_,?_⟩
  ·obtain ⟨i,t,rfl⟩ := w8 r y (by simpa using hy)
   exact SeqAt.EqAt.int_int i t k tk
  ·rw [show its.toArray.toList = its from rfl,jn k r]
   exact ⟨.int _,H,I.tok _,⟨_,rfl⟩,q⟩
theorem zBV : MtM X "list.index" (fun x vs H Q => ∃ l,x = .ref l ∧ ∃ (bs : List Bool) (k : Bool) (j : Nat),vs = [.bl k] ∧ SqL X.K H l (bs.map V.bl) ∧ bs.findIdx? (· == k) = some j ∧ j < 1000000 ∧ Q (.int (j : Nat)) H) := by
 intro pins s σ H x vs v us Q I rx rv h;obtain ⟨l,rfl,bs,k,j,rfl,hs,hj,hj2,q⟩ := h;cases rx;obtain ⟨u,rfl,ru⟩ := rv.one;cases (show u = Value.bool k from ru);obtain ⟨its,r,p,_⟩ := I.list hs;obtain ⟨⟨c0,dd,dt,sl⟩,n,e,ec,ed,es⟩ := p;dsimp only at ec ed es;subst ec ed es;have hb := JR r;subst hb;obtain ⟨h1,h2,h3⟩ := List.findIdx?_eq_some_iff_getElem.mp hj;refine call_meets PySem.F.slot_list_index ⟨_,e,rfl⟩ PySem.F.entry_list_index (PySem.F.args_list_index_2 _ _) (SeqAt.list_indexAt l _ n none sl (.bool k) (Wb k) j (by simpa using h1) (by omega) ?_ ?_) ⟨e,fun y hy => ?_,⟨.int _,H,I.tok _,⟨_,rfl⟩,q⟩⟩
 ·simpa [Wb] using h2
 ·intro m hm hlt
  have := h3 m hlt;simpa [Wb] using this
 ·have hy' : y ∈ bs.map Value.bool := by simpa using hy
  obtain ⟨b,_,rfl⟩ := mem_map.mp hy';exact SeqAt.EqAt.bool_bool b k
def eMet (f : D → D → Option R) (a b : ME) : ME := fun E => match a E with
 | .stuck => .stuck
 | .exc x E1 => .exc x E1
 | .ok (r1,E1) => match r1.d with
  | .lst _ => (match b E1 with
   | .stuck => .stuck
   | .exc x E2 => .exc x E2
   | .ok (r2,E2) => match f r1.d r2.d with
    | some r => .ok (r,E2)
    | none => .stuck)
  | _ => .stuck
def cntD : D → D → Option R
 | .lst ds,.bl k => (ye ds).map fun bs => .val (.int (bs.count k : Nat))
 | .lst ds,.int k => (yt ds).map fun ns => .val (.int (ns.count k : Nat))
 | _,_ => none
def idxD : D → D → Option R
 | .lst ds,.bl k => (ye ds).bind fun bs => match bs.findIdx? (· == k) with
  | some j => if j < 1000000 then some (.val (.int (j : Nat))) else none
  | none => none
 | _,_ => none
theorem Qh {f : D → D → Option R} {rel : V → List V → Hp → VK → Prop} {a b : ME} {Q : VK} (hr : ROk X.K X.mg (fun x y H Q => rel x [y] H Q) f) (h : tM X (eMet f a b) σ H Q) : tBM X.K "list" rel (tM X a) (zAi (tM X b) tNil) σ H Q := by
 obtain ⟨M,E,hl,fr,k⟩ := h;unfold eMet at k;refine zt (T0 := []) hl fr ?_;cases ea : a E with
 | stuck => rw [ea] at k; exact k
 | exc x E1 => rw [ea] at k; exact k
 | ok p =>
  obtain ⟨r1,E1⟩ := p;rw [ea] at k;intro x H1 g1;dsimp only at k;cases ed : r1.d with
  | lst ds =>
   rw [ed] at k;have rx := g1.rep;rw [ed] at rx;obtain ⟨l,xs,ex,hs,_⟩ := zH rx;subst ex;refine ⟨(show tyV X.K "list" (.ref l) H1 from .inl ⟨rfl,xs,zE.seq hs⟩),?_⟩;refine zt (T0 := [(some (.ref l),r1.slot)]) g1.len g1.fr ?_;dsimp only at k;cases eb : b E1 with
   | stuck => rw [eb] at k; exact k
   | exc x E2 => rw [eb] at k; exact fun H' g => k H' (g1.trans' g).dropAll
   | ok p =>
    obtain ⟨r2,E2⟩ := p;rw [eb] at k;intro y H2 g2;have g := g1.trans' g2;have rp := Got.reps (vs := [y,.ref l]) (rs := [r2,r1]) rfl g;simp only [List.map,Reps] at rp;obtain ⟨y',_,e1,ry,x',_,e2,rx,_⟩ := rp;cases e1; cases e2;dsimp only at k;cases ef : f (.lst ds) r2.d with
    | none => rw [ef] at k; exact k.elim
    | some r =>
     rw [ef] at k;rw [ed] at rx;exact hr M H2 _ (.ref l) y (.lst ds) r2.d r Q g.frame rx ry ef fun v H' f' s' => k v H' (g.more (T := [(some v,r.slot)]) f' s')
  | _ => rw [ed] at k; exact k.elim
theorem ro_cnt {K : PySem.W.Frag} {mg : Str → Option Value} : ROk K mg (fun x y H Q => ∃ l,x = .ref l ∧ ((∃ (bs : List Bool) (k : Bool),[y] = [.bl k] ∧ SqL K H l (bs.map V.bl) ∧ Q (.int (bs.count k : Nat)) H) ∨ (∃ (ns : List Int) (k : Int),[y] = [.int k] ∧ SqL K H l (ns.map V.int) ∧ Q (.int (ns.count k : Nat)) H))) cntD := by
 intro M H Z x y d1 d2 res Q f r1 r2 e k;cases d1 with
 | lst ds =>
  obtain ⟨l,xs,rfl,hs,rs⟩ := zH r1;refine ⟨l,rfl,?_⟩;cases d2 with
  | bl b =>
   simp only [cntD] at e;cases eb : ye ds with
   | none => rw [eb] at e; cases e
   | some bs =>
    rw [eb] at e; cases e;rw [j5 eb rs] at hs;exact .inl ⟨bs,b,by rw [yI r2],zE.seq hs,k.flat f rfl⟩
  | int i =>
   simp only [cntD] at e;cases eb : yt ds with
   | none => rw [eb] at e; cases e
   | some ns =>
    rw [eb] at e; cases e;rw [jM eb rs] at hs;exact .inr ⟨ns,i,by rw [zG r2],zE.seq hs,k.flat f rfl⟩
  | _ => cases e
 | _ => cases e
theorem ro_idx {K : PySem.W.Frag} {mg : Str → Option Value} : ROk K mg (fun x y H Q => ∃ l,x = .ref l ∧ ∃ (bs : List Bool) (k : Bool) (j : Nat),[y] = [.bl k] ∧ SqL K H l (bs.map V.bl) ∧ bs.findIdx? (· == k) = some j ∧ j < 1000000 ∧ Q (.int (j : Nat)) H) idxD := by
 intro M H Z x y d1 d2 res Q f r1 r2 e k;cases d1 with
 | lst ds =>
  obtain ⟨l,xs,rfl,hs,rs⟩ := zH r1;refine ⟨l,rfl,?_⟩;cases d2 with
  | bl b =>
   simp only [idxD] at e;cases eb : ye ds with
   | none => rw [eb] at e; cases e
   | some bs =>
    rw [eb,Option.bind_some] at e;cases ej : bs.findIdx? (· == b) with
    | none => rw [ej] at e; cases e
    | some j =>
     rw [ej] at e;dsimp only at e;split at e
     ·rename_i hj
      cases e;rw [j5 eb rs] at hs;exact ⟨bs,b,j,by rw [yI r2],zE.seq hs,ej,hj,k.flat f rfl⟩
     ·cases e
  | _ => cases e
 | _ => cases e
theorem ok_cnt {o e : Expr} {a b : ME} {apos cpos : Pos} (ho : EOk X o a) (he : EOk X e b) (hbase : attributeBase o "count" X.env (eval o X.env) = eval o X.env) (hs : zR e = false) (hline : (apos.endLine == cpos.line) = true)
  (hfew : ((backTo cpos (starEach (e :: []) X.env)).all (fun x => !x.1) && (backToKw cpos (keywordEach [] X.env)).all (fun x => x.1.isSome) && decide ((e :: ([] : List Expr)).length + ([] : List Keyword).length + (if ([] : List Keyword).isEmpty then 0 else 1) < 30)) = true) :
  EOk X (.Call (.Attribute o "count" apos) [e] [] cpos) (eMet cntD a b) :=
 zn (pe_bm PySem.F.plainAttrs_list PySem.F.slot_list_count PySem.F.type_list_count zBU ho (yc he JY (zN hs)) hbase hfew hline (zN hs) rfl) fun σ H Q h => Qh ro_cnt h
end
end DV
namespace DV
open PySem L2
section
variable {X : Cx} {σ : L2.St} {H : Hp} {K : PySem.W.Frag} {mg : Str → Option Value} {M : Addr → Prop} {E E1 : zQ} {T0 : Fz}
def whN (c : MT) (b : MS) : Nat → MS
 | 0 => fun _ => .stuck
 | n + 1 => fun E => match c E with
  | .stuck => .stuck
  | .exc x E1 => .exc x E1
  | .ok (false,E1) => .ok (.nx,E1)
  | .ok (true,E1) => match b E1 with
   | .ok (.nx,E2) => whN c b n E2
   | .ok (.ct,E2) => whN c b n E2
   | .ok (.bk,E2) => .ok (.nx,E2)
   | o => o
theorem whN_run {c : MT} {b : MS} {D : Ends} {n : Nat} (h : tS X (whN c b n) D σ H) : zBz (tMT X c) (tS X b) D σ H := by
 refine ⟨fun m σ H => tS X (whN c b m) D σ H,⟨n,h⟩,fun m σ H h => ?_⟩;cases m with
 | zero => obtain ⟨M,E,hl,fr,k⟩ := h; exact k.elim
 | succ m =>
  obtain ⟨M,E,hl,fr,k⟩ := h;unfold whN at k;refine wT (T0 := []) hl fr ?_;cases ec : c E with
  | stuck => rw [ec] at k; exact k
  | exc x E1 => rw [ec] at k; exact fun H' g => k σ H' g
  | ok p =>
   obtain ⟨t,E1⟩ := p;rw [ec] at k;intro H1 g1;cases t with
   | false => exact iteF (k σ H1 g1)
   | true =>
    refine iteT ⟨fun σ' H' => tS X (whN c b m) D σ' H',fun σ' H' q => ⟨m,lt_succ_self m,q⟩,?_⟩;refine YG (T0 := []) g1.len g1.fr ?_;dsimp only at k;cases eb : b E1 with
    | stuck => rw [eb] at k; exact k
    | exc x E2 => rw [eb] at k; exact fun σ' H' g => k σ' H' (g1.trans' g)
    | ok p =>
     obtain ⟨fl,E2⟩ := p;rw [eb] at k;cases fl with
     | ret r => exact fun v σ' H' g => k v σ' H' (g1.trans' g)
     | bk => exact fun σ' H' g => k σ' H' (g1.trans' g)
     | nx => exact fun σ' H' g => go g1 g k
     | ct => exact fun σ' H' g => go g1 g k
where
 go {c : MT} {b : MS} {D : Ends} {n : Nat} {M : Addr → Prop} {σ σ1 σ' : L2.St} {E E1 E2 : zQ} {H H1 H' : Hp} (g1 : Got X.K X.mg M σ E H [] σ1 E1 H1 []) (g : Got X.K X.mg M σ1 E1 H1 [] σ' E2 H' [])
  (k : match whN c b n E2 with
   | .stuck => False
   | .ok (.nx,E') => ∀ σ' H',Got X.K X.mg M σ E H [] σ' E' H' [] → D.nx σ' H'
   | .ok (.bk,E') => ∀ σ' H',Got X.K X.mg M σ E H [] σ' E' H' [] → D.bk σ' H'
   | .ok (.ct,E') => ∀ σ' H',Got X.K X.mg M σ E H [] σ' E' H' [] → D.ct σ' H'
   | .ok (.ret r,E') => ∀ v σ' H',Got X.K X.mg M σ E H [] σ' E' H' [(some v,r.slot)] → D.rt v H'
   | .exc x E' => ∀ σ' H',Got X.K X.mg M σ E H [] σ' E' H' [] → XE X σ' H' x) : tS X (whN c b n) D σ' H' := by
  have gg := g1.trans' g;refine YG (T0 := []) gg.len gg.fr ?_;cases e : whN c b n E2 with
  | stuck => rw [e] at k; exact k
  | exc x E3 => rw [e] at k; exact fun σ3 H3 g3 => k σ3 H3 (gg.trans' g3)
  | ok p =>
   obtain ⟨fl,E3⟩ := p;rw [e] at k;cases fl with
   | nx => exact fun σ3 H3 g3 => k σ3 H3 (gg.trans' g3)
   | bk => exact fun σ3 H3 g3 => k σ3 H3 (gg.trans' g3)
   | ct => exact fun σ3 H3 g3 => k σ3 H3 (gg.trans' g3)
   | ret r => exact fun v σ3 H3 g3 => k v σ3 H3 (gg.trans' g3)
def sWhile (c : MT) (b : MS) : MS := whN c b 1000000
theorem zBW {c : Expr} {body : List Stmt} {mc : MT} {mb : MS} {pos : Pos} (hp : PassesOwn (model X.prog X.w) X.A X.env X.xe) (hc : TOk X c mc) (hb : vx X body mb) : SOk X (.While c body [] pos) (sWhile mc mb) :=
 jH (zAc hp hc hb) fun D σ H h => whN_run h
end
end DV
namespace DV
open PySem L2
mutual
def pyD : D → Option PyData
 | .non => some .none
 | .bl b => some (.bool b)
 | .int i => some (.int i)
 | .str x => some (.str x)
 | .tup ds => (pyDs ds).map .tuple
 | .lst ds => (pyDs ds).map .list
 | .dic => some (.dict [])
 | _ => none
def pyDs : List D → Option (List PyData)
 | [] => some []
 | d :: ds => match pyD d,pyDs ds with
  | some x,some xs => some (x :: xs)
  | _,_ => none
end
section
variable {X : Cx} {σ : L2.St} {pins : List (Addr × Obj)} {H : Hp} {s : Shared}
def Qi (K : PySem.W.Frag) : Prop := ∃ o es n,K.lookup sysModules = some o ∧ o.data = .dict es n
theorem sm_ne (I : Inv X pins σ H s) (S : Qi X.K) {a : Addr} {o : Obj} {vs : Array Value} {n : Nat} (e1 : s.heap.get? a = some o) (e2 : o.data = .seq vs n) : sysModules ≠ a := by
 obtain ⟨p,es,m,q1,q2⟩ := S;intro e;have := I.kIn _ _ q1;rw [e,e1] at this;cases this;rw [q2] at e2; cases e2
mutual
theorem jX (I : Inv X pins σ H s) (S : Qi X.K) : ∀ {d : D} {v : V} {u : Value} {x : PyData},Rep X.K X.mg H d v → zw v u → pyD d = some x → ∃ as,Reads s.heap u x as ∧ sysModules ∉ as
 | .non,v,u,x,r,rv,e => by cases e; rw [yd r] at rv; cases (show u = Value.none from rv); exact ⟨_,.none,by simp⟩
 | .bl b,v,u,x,r,rv,e => by cases e; rw [yI r] at rv; cases (show u = Value.bool b from rv); exact ⟨_,.bool b,by simp⟩
 | .int i,v,u,x,r,rv,e => by cases e; rw [zG r] at rv; obtain ⟨t,q⟩ := (show ∃ t,u = Value.int i t from rv); subst q; exact ⟨_,.int i t,by simp⟩
 | .str y,v,u,x,r,rv,e => by cases e; rw [y4 r] at rv; obtain ⟨t,q⟩ := (show ∃ t,u = Value.str y t from rv); subst q; exact ⟨_,.str y t,by simp⟩
 | .tup ds,v,u,x,r,rv,e => by
  obtain ⟨a,xs,rfl,h1,h2⟩ := zO r;cases (show u = Value.ref a from rv);obtain ⟨its,r1,p,_⟩ := I.tuple h1;obtain ⟨o,e1,e2,n,e3⟩ := p;simp only [pyD] at e;cases eq : pyDs ds with
  | none => rw [eq] at e; cases e
  | some ys =>
   rw [eq] at e; cases e;obtain ⟨as,q,z⟩ := readss_of I S h2 r1 eq;exact ⟨_,.tuple e1 e2 e3 (by simpa using q),z⟩
 | .lst ds,v,u,x,r,rv,e => by
  obtain ⟨a,xs,rfl,h1,h2⟩ := zH r;cases (show u = Value.ref a from rv);obtain ⟨its,r1,p,_⟩ := I.list h1;obtain ⟨o,n,e1,e2,_,e3⟩ := p;simp only [pyD] at e;cases eq : pyDs ds with
  | none => rw [eq] at e; cases e
  | some ys =>
   rw [eq] at e; cases e;obtain ⟨as,q,z⟩ := readss_of I S h2 r1 eq;exact ⟨_,.list e1 e2 e3 (by simpa using q),fun hm => (mem_cons.mp hm).elim (sm_ne I S e1 e3) z⟩
 | .fn y,v,u,x,r,rv,e => by cases e
 | .dic,v,u,x,r,rv,e => by
  cases e;simp only [Rep] at r;obtain ⟨a,rfl,h1⟩ := r;cases (show u = Value.ref a from rv);obtain ⟨_,hS,vs,kv,o,es,ep,g1,g2,g3,_,g5,_⟩ : (([] : List (Key × V)).length ≤ sizeLine) ∧ (a == sysModules) = false ∧ ∃ vs,KV [] vs ∧ s.heap.DictOf (W0 X.prog X.w) a vs := I.hok a _ h1;cases kv;have e0 : es.toList = [] := by cases h : es.toList with | nil => rfl | cons y ys => rw [h] at g5; cases g5
  refine ⟨_,.dict g1 g2.1 g3 (kvs := []) (by rw [e0]; exact .nil) (by rw [e0]; exact .nil),fun hm => ?_⟩;rcases mem_cons.mp hm with hm | hm
  ·exact beq_eq_false_iff_ne.mp hS hm.symm
  ·cases hm
 | .exn y,v,u,x,r,rv,e => by cases e
theorem readss_of (I : Inv X pins σ H s) (S : Qi X.K) : ∀ {ds : List D} {vs : List V} {us : List Value} {xs : List PyData},Reps X.K X.mg H ds vs → zb vs us → pyDs ds = some xs → ∃ as,ReadsAll s.heap us xs as ∧ sysModules ∉ as
 | [],vs,us,xs,r,rv,e => by
  cases e;simp only [Reps] at r; subst r;cases rv;exact ⟨_,.nil,by simp⟩
 | d :: ds,vs,us,xs,r,rv,e => by
  simp only [Reps] at r;obtain ⟨v,vs',rfl,r1,r2⟩ := r;cases rv with
  | cons p q =>
   simp only [pyDs] at e;cases e1 : pyD d with
   | none => rw [e1] at e; cases e
   | some x =>
    cases e2 : pyDs ds with
    | none => rw [e1,e2] at e; cases e
    | some ys =>
     rw [e1,e2] at e; cases e;obtain ⟨as,a1,z1⟩ := jX I S r1 p e1;obtain ⟨bs,a2,z2⟩ := readss_of I S r2 q e2;exact ⟨_,.cons a1 a2,fun hm => (mem_append.mp hm).elim z1 z2⟩
end
def Wc (d : D) : Option R := match pyD d with
 | some x => if x.showable = true ∧ x.depth ≤ 60 ∧ x.shown.length ≤ cap then some (.val (.str x.shown)) else none
 | none => none
theorem uu (S : Qi X.K) (hg : X.A.guards = some []) (hu : X.A.units + 64 < cLine) : yb X (.builtin "repr") (fun xs H Q => ∃ x d r,xs = [x] ∧ Rep X.K X.mg H d x ∧ Wc d = some r ∧ ∃ t,r = .val (.str t) ∧ Q (.str t) H) := by
 intro pins s σ H xs us Q I rv h;obtain ⟨x,d,r,rfl,rd,er,t,rfl,q⟩ := h;obtain ⟨u,rfl,ru⟩ := rv.one;unfold Wc at er;cases ep : pyD d with
 | none => rw [ep] at er; cases er
 | some p =>
  rw [ep] at er;dsimp only at er;split at er
  ·rename_i hc
   cases er;obtain ⟨as,rs,z⟩ := jX I S rd ru ep;have fin : ∀ h' tk tk2,(∀ b o,s.heap.get? b = some o → h'.get? b = some o) → EP X pins σ Q (.str p.shown tk) { s with heap := h',toks := tk2 } := fun h' tk tk2 hk => ⟨.str _,H,I.kept (t' := tk2) hk,⟨_,rfl⟩,q⟩
   have fin0 : EP X pins σ Q (.str p.shown s.toks) { s with toks := s.toks + 1 } := ⟨.str _,H,I.tok _,⟨_,rfl⟩,q⟩
   cases rs with
   | none => exact PySem.P.repr_of_none fin0
   | bool b => exact PySem.P.repr_of_bool fin0
   | int i t =>
    have hi : (decide (i.natAbs.log2 < 1920)) = true := hc.1;exact PySem.P.repr_of_int (of_decide_eq_true hi) fin0
   | str y t => exact PySem.P.repr_of_str fin0 (jd hc.2.2)
   | list h1 h2 h3 h4 => exact repr_of_reads' (.list h1 h2 h3 h4) hc.1 (fun _ => z) hg (by have := hc.2.1; omega) (fun _ _ e => e) (fun h' u tk hk => fin h' u tk hk) (jd hc.2.2)
   | tuple h1 h2 h3 h4 => exact repr_of_reads' (.tuple h1 h2 h3 h4) hc.1 (fun _ => z) hg (by have := hc.2.1; omega) (fun _ _ e => e) (fun h' u tk hk => fin h' u tk hk) (jd hc.2.2)
   | dict h1 h2 h3 h4 h5 => exact repr_of_reads' (.dict h1 h2 h3 h4 h5) hc.1 (fun _ => z) hg (by have := hc.2.1; omega) (fun _ _ e => e) (fun h' u tk hk => fin h' u tk hk) (jd hc.2.2)
  ·cases er
def reprG : List D → Option R
 | [d] => Wc d
 | _ => none
theorem co_repr {K : PySem.W.Frag} {mg : Str → Option Value} : COk K mg (fun xs H Q => ∃ x d r,xs = [x] ∧ Rep K mg H d x ∧ Wc d = some r ∧ ∃ t,r = .val (.str t) ∧ Q (.str t) H) reprG := by
 intro M H Z xs ds res Q f r e k
 match ds,e with
 | [d],e =>
  simp only [Reps] at r;obtain ⟨v,r',rfl,r1,rfl⟩ := r;have e' := e;replace e' : Wc d = some res := e';unfold Wc at e';cases ep : pyD d with
  | none => rw [ep] at e'; cases e'
  | some p =>
   rw [ep] at e';dsimp only at e';split at e'
   ·cases e'
    exact ⟨v,d,_,rfl,r1.mono zE,e,_,rfl,k.flat f rfl⟩
   ·cases e'
end
end DV
namespace L2
open PySem PySem.Spec PyProof.Rows
section
variable {X : Cx} {pins : List (Addr × Obj)} {σ : List (Option V)} {H : Hp} {s : Shared} {h' : Heap}
theorem Inv.turnLay {t' : Nat} {fp : List Addr} {q : Addr} {xs : List V} (I : Inv X pins σ H s) (hf : ∀ b ∈ fp,GB X pins H b) (k : ∀ b o,b ∉ fp → s.heap.get? b = some o → h'.get? b = some o) (hq : s.heap.objs.size ≤ q) (new : jG X.prog X.w (upd H q (.tup xs)) h' q (.tup xs)) : Inv X pins σ (upd H q (.tup xs)) { s with heap := h',toks := t' } := by
 have hn : H q = none := I.hok.fresh hq;have nq : ∀ b u,H b = some u → b ≠ q := fun b u e z => by rw [z,hn] at e; cases e
 have nf : ∀ b u,H b = some u → b ∉ fp := fun b u e z => by rw [(hf b z).1] at e; cases e
 refine I.step (g' := s.gens) (d' := s.drawn) (ch := fp) (fun b hb => ?_) (fun b o _ _ hc e _ => k b o hc e) (fun b o _ _ hc e _ => ⟨o.slots,k b o hc e⟩) (fun b o _ e n => ?_) (fun b o hc e => ⟨o,k b o hc e⟩)
  (fun b ys e => ?_) (fun b o u e => ?_) (fun b ps e => ⟨#[],?_⟩) (fun m hm => ?_) (fun b u e => ?_) I.bare
 ·obtain ⟨_,f1,_,f3,f4,f5⟩ := hf b hb
  exact ⟨f3,f1,f4,f5⟩
 ·have : b ≠ q := fun z => by subst z; exact absurd (lt_of_lt_of_le (lt_size e) hq) (lt_irrefl _)
  rw [zY this]; exact n
 ·rw [zY (nq b _ e)]; exact e
 ·rw [zY (nq b _ e)]; exact e
 ·rw [zY (nq b _ e),e]; simp
 ·obtain ⟨o,es,ep,ho,r⟩ := hm
  exact ⟨o,es,ep,k _ o (fun z => (hf _ z).2.1 rfl) ho,r⟩
 ·by_cases hb : b = q
  ·subst hb; rw [yK] at e; cases e; exact new
  ·rw [zY hb] at e
   refine (I.hok b u e).stay (fun c v hc q' => k c v ?_ q') (fun c q' => ?_) fun c ys q' => ?_
   ·rcases hc with z | z
    ·rw [z]; exact nf b u e
    ·exact nf c _ z
   ·rw [zY (nq c _ q')]; exact q'
   ·rw [zY (nq c _ q')]; exact q'
theorem Inv.turnL {t' : Nat} {fp : List Addr} (I : Inv X pins σ H s) (hf : ∀ b ∈ fp,GB X pins H b) (k : ∀ b o,b ∉ fp → s.heap.get? b = some o → h'.get? b = some o) : Inv X pins σ H { s with heap := h',toks := t' } := by
 have nf : ∀ b u,H b = some u → b ∉ fp := fun b u e z => by rw [(hf b z).1] at e; cases e
 refine I.step (g' := s.gens) (d' := s.drawn) (ch := fp) (fun b hb => ?_) (fun b o _ _ hc e _ => k b o hc e) (fun b o _ _ hc e _ => ⟨o.slots,k b o hc e⟩) (fun _ _ _ _ n => n) (fun b o hc e => ⟨o,k b o hc e⟩)
  (fun _ _ e => e) (fun _ _ _ e => e) (fun b ps e => ⟨#[],by rw [e]; simp⟩) (fun m hm => ?_) (fun b u e => ?_) I.bare
 ·obtain ⟨_,f1,_,f3,f4,f5⟩ := hf b hb
  exact ⟨f3,f1,f4,f5⟩
 ·obtain ⟨o,es,ep,ho,r⟩ := hm
  exact ⟨o,es,ep,k _ o (fun z => (hf _ z).2.1 rfl) ho,r⟩
 ·refine (I.hok b u e).stay (fun c v hc q' => k c v ?_ q') (fun _ q => q) fun _ _ q => q
  rcases hc with z | z
  ·rw [z]; exact nf b u e
  ·exact nf c _ z
end
end L2
namespace DV
open PySem
section
variable {prog : Program} {w : World} {A : Around} {E : Value → Shared → Prop} {s : Shared}
theorem st_iter {α : Type} {Q : α → Shared → Prop} (hh : A.handled = none) (hE : ∀ h' e,(∀ b o,s.heap.get? b = some o → h'.get? b = some o) → (∃ o,h'.get? e = some o ∧ o.cls = .type "StopIteration") → E (.ref e) { s with heap := h' }) : wpAny (model prog w) A.in1 (Builtin.SmallTypes.stopIteration : Sem α) Q E s := by
 unfold Builtin.SmallTypes.stopIteration;refine wpAny_bind ?_;unfold newExc newTuple;refine wpAny_bind (wpAny_newObj_type ?_ (by size_fits));refine wpAny_bind (m := firstArgMember _ _) (wpAny_of_eq (a := Value.none) rfl ?_);refine wpAny_newObj_type ?_ (by size_fits);unfold raiseNew;have hh' : A.in1.handled = none := hh;refine wpAny_bind (wpAny_handled ?_);rw [hh'];refine wpAny_bind (wpAny_pure (wpAny_throw ?_));exact hE _ _ (fun b o eb => get?_push_of_some _ (get?_push_of_some _ eb)) ⟨_,get?_push_size _ rfl,rfl⟩
theorem sp_tup {it t : Addr} {i : Nat} {items : Array Value} {Q : Option Value → Shared → Prop} (hh : A.handled = none) (hit : s.heap.IsTupleIter it t i) (ht : s.heap.IsTuple t items)
  (h1 : ∀ x,items[i]? = some x → ∀ h',h'.IsTupleIter it t (i + 1) → Heap.SameBut it s.heap h' → Q (some x) { s with heap := h' })
  (h2 : items[i]? = none → ∀ h' e,Heap.ExtBut it s.heap h' → (∃ o,h'.get? e = some o ∧ o.cls = .type "StopIteration") → E (.ref e) { s with heap := h' }) :
  wpAny (model prog w) A (callSpecial? (.ref it) (Str.ofString "__next__")) Q E s := by
 have ⟨o,ho,hc,hd⟩ := id hit;obtain ⟨u,hu,_,n,du⟩ := ht;refine wpAny_callSpecial?_slot hit.typeIs F.slot_tuple_iterator_next (wpAny_call_entry F.slot_tuple_iterator_next hit.typeIs F.entry_tuple_iterator_next ?_ (F.args_tuple_iterator_next_1 _));refine wpAny_bind (m := field (.ref it) 0) (wpAny_field ho hd (x := .ref t) rfl ?_);have nn : ¬ (Value.ref t == Value.none) = true := Bool.false_ne_true;simp only [nn,Bool.false_eq_true,if_false];refine wpAny_bind (m := field (.ref it) 1) (wpAny_field ho hd (x := .int i 0) rfl ?_);refine wpAny_bind (m := seqItems? (.ref t)) (wpAny_seqItems hu du ?_);cases hx : items[i]? with
 | some x =>
  simp only [Int.toNat_natCast,hx];refine wpAny_bind (wpAny_setField ho hd (by simp) (wpAny_pure ⟨x,rfl,h1 x hx _ ?_ (Heap.SameBut.update ..)⟩));exact ⟨_,Heap.get?_update_self _ ho (Obj.isFreed_of_fields (Obj.data_mapFields hd _)),(Obj.cls_mapFields ..).trans hc,by rw [Obj.data_mapFields hd]; simp [rawInt]⟩
 | none =>
  simp only [Int.toNat_natCast,hx];refine wpAny_bind (wpAny_rule (wpAny_bind (wpAny_setField ho hd (by simp) ?_)));refine st_iter hh fun h' e k q => h2 hx h' e (fun b o nb eb => k b o ?_) q
  exact (Heap.SameBut.update ..).extBut b o nb eb
structure Src (prog : Program) (w : World) (A : Around) (it l : Addr) (items : Array Value) (st : Nat → Heap → Prop) : Prop where
 keep : ∀ {i : Nat} {h h' : Heap},st i h → (∀ b,b = it ∨ b = l → ∀ o,h.get? b = some o → h'.get? b = some o) → st i h'
 lt : ∀ {i : Nat} {h : Heap},st i h → it < h.objs.size
 next : ∀ {i : Nat} {s : Shared} {Q : Value → Shared → Prop} {E : Value → Shared → Prop},st i s.heap → (∀ x,items[i]? = some x → ∀ h',st (i + 1) h' → Heap.SameBut it s.heap h' → Q x { s with heap := h' }) →
  (items[i]? = none → ∀ h' e,Heap.ExtBut it s.heap h' → (∃ o,h'.get? e = some o ∧ o.cls = .type "StopIteration") → E (.ref e) { s with heap := h' }) → wpAny (model prog w) A (Builtin.SmallTypes.nextOf (.ref it)) Q E s
theorem src_tup (hh : A.handled = none) {it t : Addr} (ne : t ≠ it) (items : Array Value) : Src prog w A it t items (fun i h => h.IsTupleIter it t i ∧ h.IsTuple t items) where
 keep := fun st k => ⟨st.1.at fun o e => k it (.inl rfl) o e,st.2.at fun o e => k t (.inr rfl) o e⟩
 lt := fun st => by obtain ⟨⟨o,e,_⟩,_⟩ := st; exact lt_size e
 next := fun {i s Q E} st h1 h2 => by
  unfold Builtin.SmallTypes.nextOf;exact wpAny_bind (sp_tup hh st.1 st.2 (fun x hx h' a b => wpAny_pure (h1 x hx h' ⟨a,st.2.extBut b.extBut ne⟩ b)) h2)
theorem zBX (hh : A.handled = none) {it t : Addr} (ne : t ≠ it) (items : Array Value) : Src prog w A it t items (fun i h => h.IsListIter it t i ∧ h.IsList t items) where
 keep := fun st k => ⟨st.1.at fun o e => k it (.inl rfl) o e,st.2.at fun o e => k t (.inr rfl) o e⟩
 lt := fun st => by obtain ⟨⟨o,e,_⟩,_⟩ := st; exact lt_size e
 next := fun {i s Q E} st h1 h2 => by
  cases hx : items[i]? with
  | some x => exact wpAny_nextOf_list_item st.1 st.2 hx fun h' a b => h1 x hx h' ⟨a,st.2.extBut b.extBut ne⟩ b
  | none => exact wpAny_nextOf_list_end hh st.1 st.2 hx (h2 hx)
end
end DV
namespace DV
open PySem
abbrev itO (c : String) (l : Addr) : Obj := { cls := .type c,data := .fields #[.ref l,.int 0 0] }
structure Zp (h h' : Heap) (c1 c2 : String) (l1 l2 : Addr) : Prop where
 z : IsZip h' (h.objs.size + 4) (h.objs.size + 2) (h.objs.size + 3) .none
 a : IsPair h' (h.objs.size + 2) (.ref h.objs.size) (.ref (h.objs.size + 1))
 b : IsPair h' (h.objs.size + 3) .none .none
 i1 : h'.get? h.objs.size = some (itO c1 l1)
 i2 : h'.get? (h.objs.size + 1) = some (itO c2 l2)
 kp : ∀ c o,h.get? c = some o → h'.get? c = some o
section
variable {prog : Program} {w : World} {A : Around} {E : Value → Shared → Prop} {s : Shared}
def SqO (h : Heap) (t : Bool) (l : Addr) (xs : Array Value) : Prop := if t then h.IsTuple l xs else h.IsList l xs
end
end DV
namespace DV
open PySem L2 PySem.Spec PyProof.Rows
def SqH (K : PySem.W.Frag) (H : Hp) (t : Bool) (a : Addr) (xs : List V) : Prop := if t then SqT K H a xs else SqL K H a xs
section
variable {X : Cx} {pins : List (Addr × Obj)} {σ : L2.St} {H : Hp} {s : Shared} {a b : Addr} {xs ys : List V}
theorem vH {t : Bool} (I : Inv X pins σ H s) (h : SqH X.K H t a xs) : ∃ its : List Value,zb xs its ∧ SqO s.heap t a its.toArray := by
 cases t with
 | true =>
  obtain ⟨its,r,p,_⟩ := I.tuple h;exact ⟨its,r,p⟩
 | false =>
  obtain ⟨its,r,p,_⟩ := I.list h;exact ⟨its,r,p.isList⟩
theorem sqh_inj {t : Bool} (I : Inv X pins σ H s) (h : SqH X.K H t a xs) (h' : SqH X.K H t a ys) : xs = ys := by
 cases t with
 | true => exact I.tuple_inj h h'
 | false => exact I.list_inj h h'
theorem zCS {t : Bool} (I : Inv X pins σ H s) (h : SqH X.K H t a xs) (f : GB X pins H b) : a ≠ b := by
 intro z;subst z;have key : ∀ o,X.K.lookup a = some o → False := fun o hk => by
  have hb := I.ok.mod.kin a o hk;have e := I.ok.bs a o hb;rcases f.2.2.2.1 with q | q
  ·exact I.ok.noex a o hb q
  ·exact absurd (lt_of_lt_of_le (lt_size e.1) q) (lt_irrefl _)
 have key2 : ∀ u,Rd H a u → False := fun u r => by
  rcases r with r | ⟨o,r⟩ <;> rw [f.1] at r <;> cases r
 cases t with
 | true =>
  rcases h with h | ⟨o,its,n,hk,_⟩
  ·exact key2 _ h
  ·exact key o hk
 | false =>
  rcases h with h | ⟨o,its,n,hk,_⟩
  ·exact key2 _ h
  ·exact key o hk
end
def ItA (t : Bool) (h : Heap) (it l : Addr) (i : Nat) : Prop := if t then h.IsTupleIter it l i else h.IsListIter it l i
theorem zCT {t : Bool} {h h' : Heap} {it l : Addr} {i : Nat} (x : ItA t h it l i) (k : ∀ o,h.get? it = some o → h'.get? it = some o) : ItA t h' it l i := by
 cases t with
 | true => exact Heap.IsTupleIter.at x k
 | false => exact Heap.IsListIter.at x k
theorem Qj {t : Bool} {h : Heap} {it l : Addr} {i : Nat} (x : ItA t h it l i) : ∃ o,h.get? it = some o ∧ ∀ v,o.data ≠ .cell v := by
 cases t with
 | true => obtain ⟨o,e,c,d⟩ := x; exact ⟨o,e,fun v z => by rw [d] at z; cases z⟩
 | false => obtain ⟨o,e,c,d⟩ := x; exact ⟨o,e,fun v z => by rw [d] at z; cases z⟩
theorem srcA {prog : Program} {w : World} {A : Around} (hh : A.handled = none) (t : Bool) {it l : Addr} (ne : l ≠ it) (items : Array Value) : Src prog w A it l items (fun i h => ItA t h it l i ∧ SqO h t l items) := by
 cases t with
 | true => exact src_tup hh ne items
 | false => exact zBX hh ne items
structure Five (z TI TO i1 i2 : Addr) : Prop where
 a1 : TI ≠ z
 a2 : TO ≠ z
 a3 : i1 ≠ z
 a4 : i2 ≠ z
 a5 : TI ≠ TO
 a6 : TI ≠ i1
 a7 : TI ≠ i2
 a8 : TO ≠ i1
 a9 : TO ≠ i2
 a10 : i1 ≠ i2
end DV
namespace DV
open PySem L2 PySem.Spec PyProof.Rows
section
variable {X : Cx} {K : PySem.W.Frag} {mg : Str → Option Value} {σ : L2.St} {H : Hp}
theorem w9 {t : Bool} {a : Addr} {xs : List V} {H H' : Hp} (e : JJ H H') (h : SqH K H t a xs) : SqH K H' t a xs := by
 cases t with
 | true => exact zk e h
 | false => exact e.seq h
end
end DV
namespace DV
open PySem L2
section
variable {X : Cx}
def seqD : Bool → D → Option (List D)
 | true,.tup ds => some ds
 | false,.lst ds => some ds
 | _,_ => none
theorem rep_seq {K : PySem.W.Frag} {mg : Str → Option Value} {H : Hp} {t : Bool} {d : D} {ds : List D} {v : V} (e : seqD t d = some ds) (r : Rep K mg H d v) : ∃ a xs,v = .ref a ∧ SqH K H t a xs ∧ Reps K mg H ds xs := by
 cases t with
 | true =>
  cases d with
  | tup es => cases e; exact zO r
  | _ => cases e
 | false =>
  cases d with
  | lst es => cases e; exact zH r
  | _ => cases e
end
end DV
namespace DV
open PySem L2
section
variable {X : Cx} {K : PySem.W.Frag} {mg : Str → Option Value} {σ : L2.St} {M : Addr → Prop} {E : zQ} {H : Hp}
theorem zBY {J : It} {ds : List D} {Iv : Hp → Prop} {σ0 σ' : L2.St} {E0 E' : zQ} {H1 H' H'' : Hp} {i : Nat} {x : V} (it : ItOk K mg J ds Iv) (hlt : i < ds.length) (gb : Got K mg M σ0 E0 H1 [] σ' E' H' []) (ivb : Iv (Hm (Mo M (σ'.zip E')) H')) (y : J.yld i H' x H'') :
  ∃ d,ds[i]? = some d ∧ Got K mg M σ0 E0 H1 [] σ' E' H'' [] ∧ Iv (Hm (Mo M (σ'.zip E')) H'') ∧ Rep K mg (Hm (Mo M (σ'.zip E')) H'') d x := by
 obtain ⟨d,hd,h⟩ := it.yld i _ _ x _ zE ivb hlt y;rcases h with ⟨rfl,rx⟩ | ⟨q,xs,es,hq,rfl,rfl,rfl,rs⟩
 ·exact ⟨d,hd,gb,ivb,rx⟩
 ·have f : FR K mg M H' (σ'.zip E') := gb.fr
  have f1 := f.newTup hq rs;have s1 : Step M H' (σ'.zip E') (upd H' q (.tup xs)) ((some (.ref q),.val (.tup es)) :: σ'.zip E') := Step.newVal hq;obtain ⟨v,ev,rv⟩ := f1.val _ _ mem_cons_self;cases ev;have sm := s1.same;rw [Ja] at rv sm;have s2 : Step M H' (σ'.zip E') (upd H' q (.tup xs)) (σ'.zip E') := ⟨sm,s1.keep⟩;exact ⟨_,hd,⟨gb.len,f1.tail,gb.st.trans s2,gb.pk⟩,it.mono _ _ sm ivb,rv⟩
def sForI (mi : MI) (tg : MG) (body : MS) : MS := fun E => match mi E with
 | .stuck => .stuck
 | .exc x E1 => .exc x E1
 | .ok (ds,E1) => Jb tg body ds E1
theorem zBZ {mi : MI} {tg : MG} {g : TG} {body : MS} {D : Ends} (hg : GOk X g tg) (h : tS X (sForI mi tg body) D σ H) : tFor (tMI X mi) g (tS X body) D σ H := by
 obtain ⟨M,E,hl,fr,k⟩ := G7 h;unfold sForI at k;refine ⟨M,E,hl,fr,?_⟩;cases ei : mi E with
 | stuck => rw [ei] at k; exact k
 | exc x E1 => rw [ei] at k; exact fun H' g => k σ H' g
 | ok p =>
  obtain ⟨ds,E1⟩ := p;rw [ei] at k;intro J Iv H1 it iv g1;refine ⟨fun i m σ1 H2 => m = ds.length - i ∧ i ≤ ds.length ∧ ∃ E2,Got X.K X.mg M σ E H [] σ1 E2 H2 [] ∧ Iv (Hm (Mo M (σ1.zip E2)) H2) ∧ Fin X M σ E H D (Jb tg body (ds.drop i) E2),⟨ds.length,by simp,zero_le _,E1,g1,iv,k⟩,?_⟩
  rintro i m σ1 H2 ⟨rfl,hi,E2,g2,iv2,fin⟩
  by_cases hlt : i < ds.length
  ·refine .inr ⟨it.go i _ H2 zE iv2 hlt,fun σ3 H3 => i + 1 ≤ ds.length ∧ ∃ E3,Got X.K X.mg M σ E H [] σ3 E3 H3 [] ∧ Iv (Hm (Mo M (σ3.zip E3)) H3) ∧ Fin X M σ E H D (Jb tg body (ds.drop (i + 1)) E3),fun σ3 H3 q => ⟨ds.length - (i + 1),by omega,rfl,q⟩,fun x H3 y => ?_⟩
   obtain ⟨d,hd,g3,iv3,rx⟩ := zBY it hlt g2 iv2 y;have ed : ds.drop i = d :: ds.drop (i + 1) := by
    obtain ⟨hi',rfl⟩ := List.getElem?_eq_some_iff.mp hd;exact List.drop_eq_getElem_cons hi'
   rw [ed] at fin;exact ZU hg g3 rx fin fun σ4 E4 H4 g4 st fin4 => ⟨hlt,E4,g4,it.mono _ _ st.same iv3,fin4⟩
  ·have e : i = ds.length := by omega
   subst e;rw [List.drop_length] at fin;exact .inl ⟨it.stop _ _ H2 zE iv2 (le_refl _),fin σ1 H2 g2⟩
theorem sk_forI {tgt iter : Expr} {body : List Stmt} {mi : MI} {g : TG} {tg : MG} {mb : MS} {pos : Pos} (hp : PassesOwn (model X.prog X.w) X.A X.env X.xe) (hc : X.calm = true) (hi : IOk X tgt iter mi) (hg : PG X tgt g) (ho : GOk X g tg) (hb : vx X body mb)
  (hs : ∀ x,foldedSetIterable iter X.env x = pure x := by intro _; rfl) : SOk X (.For tgt iter body [] pos) (sForI mi tg mb) := jH (GS hp hc hi hg hb hs) fun D σ H => zBZ ho
end
end DV
namespace DV
open PySem L2 PySem.Spec PyProof.Rows
section
variable {prog : Program} {w : World} {A : Around} {E : Value → Shared → Prop} {s : Shared}
theorem en_next {e it l : Addr} {k : Nat} {items : Array Value} {st : Nat → Heap → Prop} {old : Value} {Q : Value → Shared → Prop} (S : Src prog w A it l items st) (ne : e ≠ it) (nl : l ≠ e) (he : IsEnum s.heap e it k old) (h1 : st k s.heap)
  (hQ : ∀ x,items[k]? = some x → ∀ h',IsEnumOut h' e it ((k : Int) + 1) x s.heap.objs.size → st (k + 1) h' → IsPair h' s.heap.objs.size (.int k s.toks) x → (∀ b o,b ≠ e → b ≠ it → s.heap.get? b = some o → h'.get? b = some o) → Q (.ref s.heap.objs.size) { s with heap := h',toks := s.toks + 1 })
  (hE : items[k]? = none → ∀ h' x,Heap.ExtBut it s.heap h' → (∃ o,h'.get? x = some o ∧ o.cls = .type "StopIteration") → E (.ref x) { s with heap := h' }) :
  wpAny (model prog w) A (Builtin.«enumerate.__next__» ⟨[.ref e],[]⟩) (fun fin s' => ∃ v,fin = .done (.ret v) ∧ Q v s') E s := by
 obtain ⟨hp,g,d,tk,os⟩ := s;refine wpAny_bind (m := field (.ref e) 2) (wpAny_field he rfl (x := .ref it) rfl (wpAny_bind (S.next h1 (fun x hx g1 s1 b1 => ?_) hE)));have b1 : Heap.SameBut it hp g1 := b1;have e1 : IsEnum g1 e it k old := (b1.2 e ne).trans he;refine wpAny_bind (m := field (.ref e) 3) (wpAny_field e1 rfl (x := rawInt k) rfl ?_);refine wpAny_bind (m := field (.ref e) 4) (wpAny_field e1 rfl (x := .none) rfl ?_);refine wpAny_bind (m := mkInt k) (wpAny_mkInt ?_);refine wpAny_bind (m := setField (.ref e) 3 (rawInt ((k : Int) + 1))) (wpAny_setField_rec e1 (by simp) fun g2 e2 b2 => ?_);have b2 : Heap.SameBut e g1 g2 := b2;have e2 : IsEnum g2 e it ((k : Int) + 1) old := e2;refine wpAny_bind (m := setField (.ref e) 4 .none) (wpAny_setField_rec e2 (by simp) fun g3 e3 b3 => ?_);have b3 : Heap.SameBut e g2 g3 := b3;have e3 : IsEnum g3 e it ((k : Int) + 1) old := e3;refine wpAny_bind (m := newTuple [.int k tk,x]) (wpAny_newTuple ?_);have sz : g3.objs.size = hp.objs.size := by rw [b3.1,b2.1,b1.1]
 have el : e < hp.objs.size := lt_size he;have e4 : IsEnum (g3.push { cls := .type "tuple",data := .seq #[.int k tk,x] }) e it ((k : Int) + 1) old := get?_push_of_some _ e3;have p4 : IsPair (g3.push { cls := .type "tuple",data := .seq #[.int k tk,x] }) hp.objs.size (.int k tk) x := by rw [← sz]; exact get?_push_size _ rfl
 have k4 : ∀ b o,b ≠ e → g1.get? b = some o → (g3.push { cls := .type "tuple",data := .seq #[.int k tk,x] }).get? b = some o := fun b o nb q => get?_push_of_some _ (b3.extBut b o nb (b2.extBut b o nb q))
 generalize g3.push { cls := .type "tuple",data := .seq #[.int k tk,x] } = g4 at e4 p4 k4;refine wpAny_bind (m := Builtin.SmallTypes.ownedTupleIsFree (.ref e)) ?_;rw [sz];unfold Builtin.SmallTypes.ownedTupleIsFree;refine wpAny_bind (wpAny_field e4 rfl (x := .none) rfl (wpAny_pure ?_));simp only [if_true];refine wpAny_bind (wpAny_rule (wpAny_bind (wpAny_field e4 rfl (x := old) rfl (wpAny_bind (wpAny_setField_rec e4 (by simp) fun g5 e5 b5 => ?_)))));have b5 : Heap.SameBut e g4 g5 := b5;have e5 : IsEnum g5 e it ((k : Int) + 1) x := e5;refine wpAny_bind (m := Builtin.SmallTypes.ownedTupleHandOut (.ref e) (.ref hp.objs.size)) ?_;unfold Builtin.SmallTypes.ownedTupleHandOut;refine wpAny_bind (wpAny_setField_rec e5 (by simp) fun g6 e6 b6 => ?_);have b6 : Heap.SameBut e g5 g6 := b6;have e6 : IsEnumOut g6 e it ((k : Int) + 1) x hp.objs.size := e6;refine wpAny_setField_rec e6 (by simp) fun g7 e7 b7 => ?_
 have b7 : Heap.SameBut e g6 g7 := b7;have e7 : IsEnumOut g7 e it ((k : Int) + 1) x hp.objs.size := e7;have up : ∀ b o,b ≠ e → g4.get? b = some o → g7.get? b = some o := fun b o nb q => b7.extBut b o nb (b6.extBut b o nb (b5.extBut b o nb q))
 refine wpAny_bind (wpAny_letGo (wpAny_pure ⟨_,rfl,hQ x hx g7 e7 (S.keep s1 fun b hb o q => ?_) (up _ _ (Nat.ne_of_gt el) p4) fun b o nb ni q => up b o nb (k4 b o nb (b1.extBut b o ni q))⟩));have nb : b ≠ e := by rcases hb with rfl | rfl; exact ne.symm; exact nl
 exact up b o nb (k4 b o nb q)
theorem Wd {e it l : Addr} {k : Nat} {items : Array Value} {st : Nat → Heap → Prop} {old : Value} {Q : Option Value → Shared → Prop} (S : Src prog w A.in1 it l items st) (ne : e ≠ it) (nl : l ≠ e) (he : IsEnum s.heap e it k old) (h1 : st k s.heap)
  (hQ : ∀ x,items[k]? = some x → ∀ h',IsEnumOut h' e it ((k : Int) + 1) x s.heap.objs.size → st (k + 1) h' → IsPair h' s.heap.objs.size (.int k s.toks) x → (∀ b o,b ≠ e → b ≠ it → s.heap.get? b = some o → h'.get? b = some o) → Q (some (.ref s.heap.objs.size)) { s with heap := h',toks := s.toks + 1 })
  (hE : items[k]? = none → ∀ h',(∀ b o,b ≠ it → s.heap.get? b = some o → h'.get? b = some o) → Q none { s with heap := h' }) : wpAny (model prog w) A (pyNext (.ref e)) Q E s := by
 have hT : s.TypeIs (.ref e) "enumerate" := ⟨_,he,rfl⟩;unfold pyNext;refine wpAny_bind (wpAny_attempt (wpAny_callSpecial?_slot hT F.slot_enumerate_next (wpAny_call_entry F.slot_enumerate_next hT F.entry_enumerate_next (en_next S ne nl he h1 (fun x hx h' a1 a2 a3 a4 => ?_) fun hx h' y hk q => ?_) (F.args_enumerate_next_1 _))))
 ·exact wpAny_pure (hQ x hx h' a1 a2 a3 a4)
 ·obtain ⟨o,ho,hc⟩ := q
  exact wpAny_bind (wpAny_isInstance (T := "StopIteration") (b := true) ⟨o,ho,hc⟩ isSubtype_stop (wpAny_pure (hE hx h' fun b o nb e => hk b o nb e)))
end
def Ite (K : PySem.W.Frag) (t : Bool) (a : Addr) : It :=
 ⟨fun i H => ∃ xs,SqH K H t a xs ∧ i < xs.length,
  fun i H x H' => ∃ q u,(∀ xs,SqH K H t a xs → xs[i]? = some u) ∧ H q = none ∧ H' = upd H q (.tup [.int i,u]) ∧ x = .ref q,
  fun i H => ∃ xs,SqH K H t a xs ∧ xs.length ≤ i⟩
def ESt (e it : Addr) (t : Bool) (a : Addr) (i : Nat) (h : Heap) : Prop := (∃ old,IsEnum h e it i old) ∧ ItA t h it a i
theorem Qk {P : Program} {w : World} {K : PySem.W.Frag} {elts : List Expr} {x1} {pos : Pos} {e it : Addr} (ne : e ≠ it) (t : Bool) (a : Addr) : Turn P w K (.Tuple elts x1 pos) (Ite K t a) [e,it] e (ESt e it t a) where
 mem := by simp
 obj := fun i h st c hc => by
  obtain ⟨⟨old,he⟩,h1⟩ := st;simp only [mem_cons,mem_nil_iff,or_false] at hc;rcases hc with rfl | rfl
  ·exact ⟨_,he,fun v z => by cases z⟩
  ·exact Qj h1
 keep := fun i h h' st k => by
  obtain ⟨⟨old,he⟩,h1⟩ := st;exact ⟨⟨old,k e (by simp) _ he⟩,zCT h1 fun o q => k it (by simp) o q⟩
 item := by
  intro X hP hw hK hc i pins s σ H E I hf st hg;subst hP hw hK;obtain ⟨⟨old,he⟩,h1⟩ := st;obtain ⟨xs,q1,l1⟩ := hg;obtain ⟨us,r1,p1⟩ := vH I q1;have na : ∀ c ∈ [e,it],a ≠ c := fun c hc => zCS I q1 (hf c hc)
  have hh : X.A.in1.handled = none := I.ok.hd hc;obtain ⟨u,eu⟩ : ∃ u,xs[i]? = some u := ⟨_,getElem?_eq_getElem l1⟩;obtain ⟨u',eu',ru⟩ := r1.get eu;refine Wd (srcA hh t (na it (by simp)) us.toArray) ne (na e (by simp)) he ⟨h1,p1⟩ (fun x hx h' o1 s1 pq kk => ?_) (fun hx => ?_)
  ·have ex : x = u' := by simp [eu'] at hx; exact hx.symm
   subst ex;refine ⟨_,rfl,wpAny_letOwnedTupleGo_enum o1 fun h2 z2 b2 => ?_⟩;have lt : ∀ {c o},s.heap.get? c = some o → s.heap.objs.size ≠ c := fun q => Nat.ne_of_gt (lt_size q)
   have pq2 : IsPair h2 s.heap.objs.size (.int i s.toks) x := b2.extBut _ _ (lt he) pq;have k2 : ∀ c o,c ∉ [e,it] → s.heap.get? c = some o → h2.get? c = some o := fun c o hc q => b2.extBut _ _ (fun z => hc (by simp [z])) (kk c o (fun z => hc (by simp [z])) (fun z => hc (by simp [z])) q)
   have new : jG X.prog X.w (upd H s.heap.objs.size (.tup [.int i,u])) h2 s.heap.objs.size (.tup [.int i,u]) := ⟨by simp [sizeLine_eq],[.int i s.toks,x],.cons ⟨_,rfl⟩ (.cons ru .nil),⟨_,pq2,rfl,_,rfl⟩⟩;have I2 := I.turnLay (t' := s.toks + 1) hf k2 (le_refl _) new;have fresh : H s.heap.objs.size = none := I.hok.fresh (le_refl _);refine ⟨.ref s.heap.objs.size,_,I2,rfl,⟨_,u,fun zs hz => by rw [sqh_inj I hz q1]; exact eu,fresh,rfl,rfl⟩,⟨⟨_,by have := z2; simpa using this⟩,zCT s1.1 fun o q => b2.extBut _ _ ne.symm q⟩,fun c hc => ?_⟩;have : c ≠ s.heap.objs.size := fun q => by
    obtain ⟨o,e⟩ : ∃ o,s.heap.get? c = some o := by
     simp only [mem_cons,mem_nil_iff,or_false] at hc;rcases hc with rfl | rfl
     ·exact ⟨_,he⟩
     ·obtain ⟨o,e,_⟩ := Qj h1; exact ⟨o,e⟩
    exact lt e q.symm
   rw [zY this];exact (hf c hc).1
  ·exfalso
   simp [eu'] at hx
 done := by
  intro X hP hw hK hc i pins s σ H E I hf st hg;subst hP hw hK;obtain ⟨⟨old,he⟩,h1⟩ := st;obtain ⟨xs,q1,l1⟩ := hg;obtain ⟨us,r1,p1⟩ := vH I q1;have na : ∀ c ∈ [e,it],a ≠ c := fun c hc => zCS I q1 (hf c hc)
  have hh : X.A.in1.handled = none := I.ok.hd hc;have e1 := r1.length;refine Wd (srcA hh t (na it (by simp)) us.toArray) ne (na e (by simp)) he ⟨h1,p1⟩ (fun x hx => ?_) (fun hx h' kk => ⟨rfl,?_⟩)
  ·exfalso
   simp at hx
   have a1 := (List.getElem?_eq_some_iff.mp hx).1;omega
  ·exact I.turnL (t' := s.toks) hf fun c o hc q => kk c o (fun z => hc (by simp [z])) q
 self := fun _ _ _ _ _ st h => by
  obtain ⟨⟨old,he⟩,_⟩ := st;exact wpAny_pyIter_enum he h
end DV
namespace DV
open PySem L2 PySem.Spec PyProof.Rows
open AutoSeq1 (wpAny_loadPart')
abbrev enH (h : Heap) (c : String) (l : Addr) : Heap := (h.push (itO c l)).push { cls := .type "enumerate",data := .fields #[.none,.bool false,.ref h.objs.size,rawInt 0,.none,.none] }
theorem en_newT (l : Addr) (items : Array Value) (n : Nat) (dd : Option Addr) (sl : Array (Option Value)) :
  Meets (Builtin.«enumerate.__new__» ⟨[.type "enumerate",.ref l],[]⟩) (fun _ R s => s.heap.get? l = some { cls := .type "tuple",dict := dd,data := .seq items n,slots := sl } ∧ R (.ok (.ret (.ref (s.heap.push (itO "tuple_iterator" l)).objs.size))) { s with heap := enH s.heap "tuple_iterator" l }) :=
 .of_wp fun prog w A R s h => by
  obtain ⟨hp,g,d,tk,os⟩ := s; obtain ⟨hl,h⟩ := h;have hs := sub_enumerate;have a1 : Heap.IsTuple (Shared.heap ⟨hp,g,d,tk,os⟩) l items := ⟨_,hl,rfl,n,rfl⟩
  wp_walk using wpAny_loadPart' hl
  refine wpAny_stack_any fun st => wpAny_pure ?_
  split
  ·rename_i c _ _ _ _ _
   cases (c == Value.type "enumerate") <;> (wp_walk using wpAny_loadPart' hl,wpAny_pyIter_tuple a1; exact ⟨_,rfl,h⟩)
  ·wp_walk using wpAny_loadPart' hl,wpAny_pyIter_tuple a1; exact ⟨_,rfl,h⟩
section
variable {prog : Program} {w : World} {A : Around} {E : Value → Shared → Prop} {s : Shared}
structure En (h h' : Heap) (c : String) (l : Addr) : Prop where
 e : IsEnum h' (h.objs.size + 1) h.objs.size 0 .none
 i : h'.get? h.objs.size = some (itO c l)
 kp : ∀ b o,h.get? b = some o → h'.get? b = some o
theorem en_call {t : Bool} {l : Addr} {xs : Array Value} {Q : Value → Shared → Prop} (h1 : SqO s.heap t l xs) (h : ∀ h',(IsEnum h' (s.heap.objs.size + 1) s.heap.objs.size 0 .none) → ItA t h' s.heap.objs.size l 0 → (∀ b o,s.heap.get? b = some o → h'.get? b = some o) → Q (.ref (s.heap.objs.size + 1)) { s with heap := h' }) : wpAny (model prog w) A (call (.type "enumerate") [.ref l]) Q E s := by
 cases t with
 | false =>
  exact call_enumerate_list h1 fun h' a b c k => h h' a b k
 | true =>
  obtain ⟨⟨cl,dd,da,sl⟩,e,c,n,d⟩ := (h1 : s.heap.IsTuple l xs);simp only at c d;subst c d;refine callType_new F.called_enumerate (by decide) (F.typeCall_enumerate_1 _) (F.newCall_enumerate_1 _) (fun obj => F.args_object_init_2 obj _) F.entry_enumerate_new (en_newT l xs n dd sl) ⟨e,?_⟩;have hz : (s.heap.push (itO "tuple_iterator" l)).objs.size = s.heap.objs.size + 1 := size_push ..;have g1 : (enH s.heap "tuple_iterator" l).get? (s.heap.push (itO "tuple_iterator" l)).objs.size = some _ := get?_push_size _ rfl;rw [hz] at g1;show _ ∧ _;rw [hz];exact ⟨⟨_,g1,rfl⟩,h _ g1 ⟨_,get?_push_of_some _ (get?_push_size _ rfl),rfl,rfl⟩ fun b o x => get?_push_of_some _ (get?_push_of_some _ x)⟩
end
section
variable {X : Cx} {K : PySem.W.Frag} {mg : Str → Option Value} {σ : L2.St} {H : Hp}
def iEnum (K : PySem.W.Frag) (t : Bool) (ta : TA) : TI := fun σ H R => ta σ H fun vs H1 => ∃ a xs,vs = [.ref a] ∧ SqH K H1 t a xs ∧ R (Ite K t a) H1
theorem bt_enum : bootBuiltins "enumerate" = some (.type "enumerate") := by decide +kernel
theorem pi_enum {t : Bool} {e : Expr} {ta : TA} {elts : List Expr} {x1} {tp p pos : Pos} (hg : Gl X "enumerate") (hm : X.mg "enumerate" = none) (ha : PA X [e] ta) (hs : starEach [e] X.env = [(false,eval e X.env)] := by rfl) :
  PI X (.Tuple elts x1 tp) (.Call (.Name "enumerate" p) [e] [] pos) (iEnum X.K t ta) := by
 intro pins s σ H R I h;refine Call_ (Z8 I hg hm bt_enum (PyProof.Rows.callWith_type1 (thn (ha pos pins s σ H _ I h) fun us s1 ⟨vs,H1,I1,r1,q1⟩ => ?_) hs rfl));obtain ⟨a,xs,ev,qa,q⟩ := q1;subst ev;cases r1 with
 | cons r rr =>
  cases rr;cases r;obtain ⟨u1,v1,p1⟩ := vH I1 qa;refine en_call p1 fun h' z0 z1 kp => ?_
  refine wpAny_pyIter_enum (s := { s1 with heap := h' }) z0 ?_
  have fr : ∀ c,s1.heap.objs.size ≤ c → GB X pins H1 c := fun c hc => I1.fpOk hc (I1.hok.fresh hc)
  have nn : s1.heap.objs.size + 1 ≠ s1.heap.objs.size := fun z => by have := Nat.succ_ne_self s1.heap.objs.size; exact this z
  refine ⟨_,[s1.heap.objs.size + 1,s1.heap.objs.size],_,_,H1,rfl,I1.kept (t' := s1.toks) kp,Qk nn t a,⟨⟨_,z0⟩,z1⟩,fun c hc => ?_,q⟩;simp only [mem_cons,mem_nil_iff,or_false] at hc;rcases hc with rfl | rfl
  ·exact fr _ (le_succ _)
  ·exact fr _ (le_refl _)
def Ql : Nat → List D → List D
 | _,[] => []
 | n,d :: ds => .tup [.int (n : Int),d] :: Ql (n + 1) ds
theorem Jw : ∀ (ds : List D) (n : Nat),(Ql n ds).length = ds.length
 | [],_ => rfl
 | d :: ds,n => by simp [Ql,Jw ds]
theorem Zi : ∀ (ds : List D) (n i : Nat) (d : D),ds[i]? = some d → (Ql n ds)[i]? = some (.tup [.int ((n + i : Nat) : Int),d])
 | [],_,_,_,h => by simp at h
 | e :: ds,n,0,d,h => by simp at h; subst h; simp [Ql]
 | e :: ds,n,i + 1,d,h => by
  simp only [List.getElem?_cons_succ] at h;have := Zi ds (n + 1) i d h;simp only [Ql,List.getElem?_cons_succ];rw [this,show n + 1 + i = n + (i + 1) by omega]
theorem it_enum {t : Bool} {a : Addr} {xs : List V} {ds : List D} : ItOk K mg (Ite K t a) (Ql 0 ds) (fun H => SqH K H t a xs ∧ Reps K mg H ds xs) where
 mono := fun H H' s h => ⟨w9 s h.1,h.2.mono s⟩
 go := fun i Hh H s h hi => by
  rw [Jw] at hi;exact ⟨xs,w9 s h.1,by rw [h.2.length]; omega⟩
 yld := fun i Hh H x H' s h hi y => by
  obtain ⟨q,u,h1,hq,rfl,rfl⟩ := y;have e1 := h1 xs (w9 s h.1);obtain ⟨d,g1,r1⟩ := h.2.get e1;refine ⟨_,Zi ds 0 i d g1,.inr ⟨q,[.int (i : Int),u],[.int ((0 + i : Nat) : Int),d],hq,rfl,rfl,rfl,Reps.cons (by rw [zero_add]; simp only [Rep]) (Reps.cons r1 Reps.nil)⟩⟩
 stop := fun i Hh H s h hi => by
  rw [Jw] at hi;exact ⟨xs,w9 s h.1,by rw [h.2.length]; omega⟩
def iE (t : Bool) (m : MA) : MI := fun E => match m E with
 | .stuck => .stuck
 | .exc x E1 => .exc x E1
 | .ok ([r],E1) => match seqD t r.d with
  | some ds => .ok (Ql 0 ds,E1)
  | none => .stuck
 | _ => .stuck
theorem io_enum {t : Bool} {a : Expr} {m : MA} {elts : List Expr} {x1} {tp p cpos : Pos} (hgl : Gl X "enumerate") (hm : X.mg "enumerate" = none) (ha : AOk X [a] m) (hst : zR a = false := by rfl) :
  IOk X (.Tuple elts x1 tp) (.Call (.Name "enumerate" p) [a] [] cpos) (iE t m) := uA (pi_enum hgl hm ha (star1 hst)) fun σ H R ⟨M,E,hl,fr,k⟩ => by
 unfold iE at k;refine JL (T0 := []) hl fr ?_;cases ea : m E with
 | stuck => rw [ea] at k; exact k
 | exc x E1 => rw [ea] at k; exact k
 | ok p =>
  obtain ⟨rs,E1⟩ := p;rw [ea] at k
  match rs,k with
  | [r],k =>
   intro vs H1 hv g1;have rp := Got.reps hv g1;dsimp only at k;cases ed : seqD t r.d with
   | none => rw [ed] at k; exact k.elim
   | some ds =>
    rw [ed] at k;simp only [List.map] at rp;obtain ⟨v,rfl,h1⟩ := wE rp;obtain ⟨c,xs,rfl,c1,c2⟩ := rep_seq ed h1;exact ⟨c,xs,rfl,w9 zE c1,k _ _ H1 it_enum ⟨c1,c2⟩ g1.dropAll⟩
  | [],k => exact k.elim
  | _ :: _ :: _,k => exact k.elim
end
end DV
namespace PySem
open Sem (wp)
open AutoSeq1 (wpAny_loadPart')
section
variable {prog : Program} {w : World} {A : Around} {E : Value → Shared → Prop} {s : Shared}
end
end PySem
namespace L2
open PySem PySem.Spec PyProof.Rows
section
variable {X : Cx}
end
end L2
namespace DV
open PySem L2
section
variable {X : Cx}
end
end DV
namespace DV
open PySem L2
section
variable {X : Cx} {K : PySem.W.Frag} {mg : Str → Option Value} {σ σ1 : St} {M : Addr → Prop} {E E1 : zQ} {H H1 : Hp}
end
end DV
namespace DV
open PySem L2
mutual
/-- no list within -/
def nol : D → Bool
 | .non => true
 | .bl _ => true
 | .int _ => true
 | .str _ => true
 | .fn _ => true
 | .tup ds => nols ds
 | _ => false
def nols : List D → Bool
 | [] => true
 | d :: ds => nol d && nols ds
end
def zCU : Slot → Bool
 | .own ds => nols ds
 | .par ds => nols ds
 | _ => true
open Classical in
def zBa (i : Nat) (t : MT) : MT := fun E => match E[i]? with
 | some (.own ds) => if (E.set i .emp).all zCU = true then (match t (E.set i (.val (.lst ds))) with
  | .ok (b,E1) => if E1 = E.set i (.val (.lst ds)) then .ok (b,E) else .stuck
  | _ => .stuck) else .stuck
 | some (.val _) => t E
 | _ => .stuck
section
variable {X : Cx} {K : PySem.W.Frag} {mg : Str → Option Value} {P P' : Addr → Prop} {H : Hp} {a : Addr} {xs : List V}
mutual
theorem rep_nol (ha : H a = some (.lst xs)) (hp : ∀ b,P' b → P b ∨ b = a) : ∀ (d : D) (v : V),nol d = true → Rep K mg (Hm P H) d v → Rep K mg (Hm P' H) d v
 | .non,v,_,h => h
 | .bl _,v,_,h => h
 | .int _,v,_,h => h
 | .str _,v,_,h => h
 | .fn _,v,_,h => h
 | .tup ds,v,n,h => by
  simp only [Rep] at h ⊢;obtain ⟨c,ys,e,s,r⟩ := h;refine ⟨c,ys,e,?_,reps_nol ha hp ds ys n r⟩;rcases s with (s | ⟨o,s⟩) | s
  ·obtain ⟨s1,s2⟩ := zM.mp s
   refine .inl (.inl (zM.mpr ⟨fun q => ?_,s2⟩));rcases hp c q with q | q
   ·exact s1 q
   ·subst q; rw [ha] at s2; cases s2
  ·obtain ⟨s1,s2⟩ := zM.mp s
   refine .inl (.inr ⟨o,zM.mpr ⟨fun q => ?_,s2⟩⟩);rcases hp c q with q | q
   ·exact s1 q
   ·subst q; rw [ha] at s2; cases s2
  ·exact .inr s
 | .lst _,v,n,h => by cases n
 | .dic,v,n,h => by cases n
 | .exn _,v,n,h => by cases n
theorem reps_nol (ha : H a = some (.lst xs)) (hp : ∀ b,P' b → P b ∨ b = a) : ∀ (ds : List D) (vs : List V),nols ds = true → Reps K mg (Hm P H) ds vs → Reps K mg (Hm P' H) ds vs
 | [],vs,_,h => h
 | d :: ds,vs,n,h => by
  simp only [Reps] at h ⊢;obtain ⟨v,r,e,h1,h2⟩ := h;obtain ⟨n1,n2⟩ := Bool.and_eq_true_iff.mp n;exact ⟨v,r,e,rep_nol ha hp d v n1 h1,reps_nol ha hp ds r n2 h2⟩
end
theorem ok_bor (i : Nat) {e : Expr} {t : MT} (h : TOk X e t) : TOk X e (zBa i t) := WM h fun σ H Q ⟨M,E,hl,f,k⟩ => by
 unfold zBa at k;cases ei : E[i]? with
 | none => rw [ei] at k; exact k.elim
 | some sl =>
 rw [ei] at k;cases sl with
 | emp => exact k.elim
 | par ds => exact k.elim
 | val d => exact ⟨M,E,hl,f,k⟩
 | own ds =>
  dsimp only at k;by_cases hb : (E.set i .emp).all zCU = true
  ·rw [if_pos hb] at k
   obtain ⟨o,h1,h2⟩ := wU hl ei;obtain ⟨a,xs,rfl,q1,q2,q3⟩ := f.own o (.own ds) ds (mem_of_getElem? h2) rfl;have hlt : i < (σ.zip E).length := (List.getElem?_eq_some_iff.mp h2).1;have p : (σ.zip E).Perm ((some (.ref a),R.slot (.own ds)) :: (σ.zip E).eraseIdx i) := by
    have := za (some (V.ref a),Slot.own ds) (σ.zip E) i hlt;rw [wu h2] at this;exact this
   have f1 := (f.perm p).frz;have f2 : FR X.K X.mg M H ((σ.zip E).set i (some (.ref a),.val (.lst ds))) := f1.perm (za _ _ _ hlt).symm;have ez : σ.zip (E.set i (.val (.lst ds))) = (σ.zip E).set i (some (.ref a),.val (.lst ds)) := zy (.val (.lst ds)) h1;rw [← ez] at f2;have pz : (σ.zip (E.set i (.val (.lst ds)))).Perm ((some (.ref a),Slot.val (.lst ds)) :: (σ.zip E).eraseIdx i) := by rw [ez]; exact za _ _ _ hlt
   -- what the one zx and the other
   have oz : ∀ b,b ∈ zx (σ.zip E) ↔ b = a ∨ b ∈ zx (σ.zip (E.set i (.val (.lst ds)))) := fun b => by
    constructor
    ·intro q
     have q := zA p b q;rcases mem_cons.mp (show b ∈ a :: zx ((σ.zip E).eraseIdx i) from q) with q | q
     ·exact .inl q
     ·exact .inr (zA pz.symm b (by rw [zU]; exact q))
    ·intro q
     rcases q with q | q
     ·subst q; exact yo (mem_of_getElem? h2) rfl rfl
     ·have q := zA pz b q
      rw [zU] at q;exact zA p.symm b (mem_cons_of_mem a q)
   have na : ¬ Mo M (σ.zip (E.set i (.val (.lst ds)))) a := fun q => by
    rcases q with q | q
    ·exact q2 q
    ·have q := zA pz a q
     rw [zU] at q;have nd : (zx ((some (V.ref a),Slot.own ds) :: (σ.zip E).eraseIdx i)).Nodup := (p.filterMap Ww).nodup_iff.mp f.nd;exact (nodup_cons.mp nd).1 q
   have mo : ∀ b,Mo M (σ.zip E) b → Mo M (σ.zip (E.set i (.val (.lst ds)))) b ∨ b = a := fun b q => by
    rcases q with q | q
    ·exact .inl (.inl q)
    ·rcases (oz b).mp q with q | q
     ·exact .inr q
     ·exact .inl (.inr q)
   have mo' : ∀ b,Mo M (σ.zip (E.set i (.val (.lst ds)))) b → Mo M (σ.zip E) b := fun b q => by
    rcases q with q | q
    ·exact .inl q
    ·exact .inr ((oz b).mpr (.inr q))
   refine ⟨M,E.set i (.val (.lst ds)),by simp [hl],f2,?_⟩;cases et : t (E.set i (.val (.lst ds))) with
   | stuck => rw [et] at k; exact k.elim
   | exc x E1 => rw [et] at k; exact k.elim
   | ok pr =>
    obtain ⟨b,E1⟩ := pr;rw [et] at k;dsimp only at k;by_cases hE : E1 = E.set i (.val (.lst ds))
    ·rw [if_pos hE] at k
     subst hE;intro H' g;refine k H' ⟨hl,?_,?_,PKp.refl⟩
     ·have ha : H' a = some (.lst xs) := (zM.mp (g.st.same a _ (zM.mpr ⟨na,q1⟩))).2
      have sm : JJ (Hm (Mo M (σ.zip E)) H) (Hm (Mo M (σ.zip E)) H') := fun c u x => by
       obtain ⟨x1,x2⟩ := zM.mp x;exact zM.mpr ⟨x1,(zM.mp (g.st.same c u (zM.mpr ⟨fun q => x1 (mo' c q),x2⟩))).2⟩
      refine ⟨fun o d q => ?_,fun o s es q es' => ?_,f.nd,g.fr.mal⟩
      ·obtain ⟨v,e1,r⟩ := f.val o d q
       exact ⟨v,e1,r.mono sm⟩
      ·obtain ⟨c,ys,e1,e2,e3,r⟩ := f.own o s es q es'
       by_cases hc : c = a
       ·subst hc
        rw [e2] at q1;cases q1;exact ⟨c,_,e1,ha,e3,r.mono sm⟩
       ·-- another one's list
        subst e1;obtain ⟨j,hj⟩ := List.getElem?_of_mem q;replace hj : (σ.zip E)[j]? = some (some (.ref c),s) := hj;have hij : j ≠ i := fun q => by
         subst q;rw [hj] at h2;cases h2;exact hc rfl
        have hj' : (σ.zip (E.set i (.val (.lst ds))))[j]? = some (some (.ref c),s) := by
         rw [ez,getElem?_set_ne (Ne.symm hij)]; exact hj
        have nb : nols es = true := by
         have hEj : (E.set i .emp)[j]? = some s := by
          rw [getElem?_set_ne (Ne.symm hij)];exact (List.getElem?_zip_eq_some.mp hj).2
         have := all_eq_true.mp hb s (mem_of_getElem? hEj);cases s with
         | emp => cases es'
         | val d => cases es'
         | own ds' => cases es'; exact this
         | par ds' => cases es'; exact this
        obtain ⟨c',ys',e1',e2',e3',r'⟩ := g.fr.own _ s es (mem_of_getElem? hj') es';cases e1';exact ⟨c,ys',rfl,e2',e3',reps_nol ha mo es ys' nb r'⟩
     ·refine ⟨fun c u x => ?_,g.st.keep⟩
      obtain ⟨x1,x2⟩ := zM.mp x;exact zM.mpr ⟨x1,(zM.mp (g.st.same c u (zM.mpr ⟨fun q => x1 (mo' c q),x2⟩))).2⟩
    ·rw [if_neg hE] at k; exact k.elim
  ·rw [if_neg hb] at k; exact k.elim
def zBb (mi : MI) (tg : MG) (body : MS) : MS := fun E => match mi E with
 | .exc x E1 => .exc x E1
 | _ => (match sForI mi tg body E with
  | .exc _ _ => .stuck
  | o => o)
theorem ps_forX {tg iter : Expr} {body : List Stmt} {wi : TI} {pos : Pos} (hi : PI X tg iter wi) (hs : ∀ x,foldedSetIterable iter X.env x = pure x) : PS X (.For tg iter body [] pos) (fun D σ H => wi σ H fun _ _ => False) := by
 intro pins s σ H D I h;refine wpAny_For (thn (hi pins s σ H _ I h) fun v s1 h1 => thn h1 fun itv s2 h2 => ?_) hs;obtain ⟨it,fp,tn,J,H2,e,I2,T,st2,f2,f⟩ := h2;exact f.elim
end
end DV
namespace DV
open PySem L2
def We : D → Option (List Int)
 | .tup ds => yt ds
 | _ => none
def yk : List D → Option (List (List Int))
 | [] => some []
 | d :: ds => match We d,yk ds with
  | some a,some as => some (a :: as)
  | _,_ => none
def pyI (a : List Int) : PyData := .tuple (a.map PyData.int)
theorem Wf : ∀ {ds : List D} {a : List Int},yt ds = some a → pyDs ds = some (a.map PyData.int)
 | [],a,e => by cases e; rfl
 | d :: ds,a,e => by
  cases d with
  | int i =>
   simp only [yt] at e;cases h : yt ds with
   | none => rw [h] at e; cases e
   | some b => rw [h] at e; cases e; simp only [pyDs,pyD,Wf h]; rfl
  | _ => cases e
theorem Jx {d : D} {a : List Int} (e : We d = some a) : pyD d = some (pyI a) := by
 cases d with
 | tup ds => simp only [pyD,Wf (show yt ds = some a from e)]; rfl
 | _ => cases e
theorem j8 : ∀ {ds : List D} {as : List (List Int)},yk ds = some as → pyDs ds = some (as.map pyI)
 | [],as,e => by cases e; rfl
 | d :: ds,as,e => by
  simp only [yk] at e;cases h : We d with
  | none => rw [h] at e; cases e
  | some a =>
   cases h2 : yk ds with
   | none => rw [h,h2] at e; cases e
   | some bs => rw [h,h2] at e; cases e; simp only [pyDs,Jx h,j8 h2]; rfl
theorem JA : ∀ a : List Int,PyData.canLayAll0 (a.map PyData.int) = true
 | [] => rfl
 | i :: a => by simp only [map_cons,PyData.canLayAll0,PyData.canLay0,JA a]; rfl
theorem JB : ∀ as : List (List Int),PyData.canLayAll0 (as.map pyI) = true
 | [] => rfl
 | a :: as => by simp only [map_cons,PyData.canLayAll0,JB as,pyI,PyData.canLay0,JA a]; rfl
theorem uN : ∀ a : List Int,PyData.depthAll (a.map PyData.int) ≤ 1
 | [] => by simp [PyData.depthAll]
 | i :: a => by have := uN a; simp only [map_cons,PyData.depthAll,PyData.depth]; omega
theorem vI (a : List Int) : (pyI a).depth ≤ 2 := by
 have := uN a;simp only [pyI,PyData.depth]; omega
theorem uO : ∀ a b : List Int,PyData.eqvAll (a.map PyData.int) (b.map PyData.int) = decide (a = b)
 | [],[] => rfl
 | [],_ :: _ => rfl
 | _ :: _,[] => rfl
 | i :: a,j :: b => by
  simp only [map_cons,PyData.eqvAll,PyData.eqv,uO a b,List.cons.injEq,Bool.decide_and];rfl
theorem vJ (a b : List Int) : PyData.eqv (pyI a) (pyI b) = decide (a = b) := by
 simp only [pyI,PyData.eqv,uO]
theorem vK (a : List Int) : ∀ as : List (List Int),(as.map pyI).any (fun y => PyData.eqv y (pyI a)) = as.contains a
 | [] => rfl
 | b :: as => by
  rw [map_cons,any_cons,vK a as,vJ,List.contains_cons];congr 1;by_cases h : b = a
  ·subst h; simp
  ·have : ¬ a = b := fun e => h e.symm
   simp [h,this]
def inT (neg : Bool) (d : D) : D → Option R
 | .lst ds => match We d,yk ds with
  | some a,some as => some (.val (.bl (if neg then !as.contains a else as.contains a)))
  | _,_ => none
 | _ => none
def inG (neg : Bool) (d e : D) : Option R := match inF neg d e with
 | some r => some r
 | none => inT neg d e
def rInT (K : PySem.W.Frag) (mg : Str → Option Value) (neg : Bool) : R2 := fun x y H Q => ∃ d ds a as,Rep K mg H d x ∧ Rep K mg H (.lst ds) y ∧ We d = some a ∧ yk ds = some as ∧ Q (.bl (if neg then !as.contains a else as.contains a)) H
section
variable {X : Cx} {σ : L2.St} {pins : List (Addr × Obj)} {H : Hp} {s : Shared} {K : PySem.W.Frag} {mg : Str → Option Value}
theorem zCV (S : Qi X.K) (hu : X.A.units + 20 < cLine) : OpR X (compareOp .In) (rInT X.K X.mg false) := by
 intro pins s σ H x y v u Q I rx ry h;obtain ⟨d,ds,a,as,r1,r2,e1,e2,q⟩ := h;obtain ⟨bs,rd,_⟩ := jX I S r1 rx (Jx e1);obtain ⟨cs,rl,_⟩ := jX I S r2 ry (x := .list (as.map pyI)) (by simp only [pyD,j8 e2]; rfl);refine SeqAt.in_list_reads rl rd (JB as) (by simp only [pyI,PyData.canLay0,JA]) (by have := vI a; have := Nat.min_le_right (PyData.depthAll (as.map pyI)) (pyI a).depth; omega) ⟨.bl _,H,I,rfl,?_⟩;rw [vK]; exact q
theorem Qm (S : Qi X.K) (hu : X.A.units + 20 < cLine) : OpR X (compareOp .NotIn) (rInT X.K X.mg true) := by
 intro pins s σ H x y v u Q I rx ry h;obtain ⟨d,ds,a,as,r1,r2,e1,e2,q⟩ := h;obtain ⟨bs,rd,_⟩ := jX I S r1 rx (Jx e1);obtain ⟨cs,rl,_⟩ := jX I S r2 ry (x := .list (as.map pyI)) (by simp only [pyD,j8 e2]; rfl);refine SeqAt.notIn_list_reads rl rd (JB as) (by simp only [pyI,PyData.canLay0,JA]) (by have := vI a; have := Nat.min_le_right (PyData.depthAll (as.map pyI)) (pyI a).depth; omega) ⟨.bl _,H,I,rfl,?_⟩;rw [vK]; exact q
theorem uP {neg : Bool} : ROk K mg (fun x y H Q => rIn K neg x y H Q ∨ rInT K mg neg x y H Q) (inG neg) := by
 intro M H Z x y d1 d2 res Q f r1 r2 e k;unfold inG at e;cases h : inF neg d1 d2 with
 | some r => rw [h] at e; cases e; exact .inl (ro_in M H Z x y d1 d2 res Q f r1 r2 h k)
 | none =>
  rw [h] at e;cases d2 with
  | lst ds =>
   replace e : (match We d1,yk ds with
    | some a,some as => some (R.val (.bl (if neg then !as.contains a else as.contains a)))
    | _,_ => none) = some res := e
   cases ha : We d1 with
   | none => rw [ha] at e; cases e
   | some a =>
    cases hs : yk ds with
    | none => rw [ha,hs] at e; cases e
    | some as =>
     rw [ha,hs] at e;cases e;exact .inr ⟨d1,ds,a,as,r1.mono zE,r2.mono zE,ha,hs,k.flat f rfl⟩
  | _ => cases e
def idxT : D → D → Option R
 | .lst ds,d => match We d,yk ds with
  | some a,some as => (match as.findIdx? (· == a) with
   | some j => if j < 1000000 then some (.val (.int (j : Nat))) else none
   | none => none)
  | _,_ => none
 | _,_ => none
def idxG (d e : D) : Option R := match idxD d e with
 | some r => some r
 | none => idxT d e
def rIdxT (K : PySem.W.Frag) (mg : Str → Option Value) (x : V) (vs : List V) (H : Hp) (Q : VK) : Prop := ∃ y d ds a as j,vs = [y] ∧ Rep K mg H d y ∧ Rep K mg H (.lst ds) x ∧ We d = some a ∧ yk ds = some as ∧ as.findIdx? (· == a) = some j ∧ j < 1000000 ∧ Q (.int (j : Nat)) H
theorem Qn (S : Qi X.K) (hu : X.A.units + 20 < cLine) : MtM X "list.index" (rIdxT X.K X.mg) := by
 intro pins s σ H x vs v us Q I rx rv h;obtain ⟨y,d,ds,a,as,j,rfl,r1,r2,e1,e2,hj,hj2,q⟩ := h;obtain ⟨u,rfl,ru⟩ := rv.one;obtain ⟨bs,rd,_⟩ := jX I S r1 ru (Jx e1);obtain ⟨l,xs,rfl,hs,rs⟩ := zH r2;cases rx;obtain ⟨its,r,p,_⟩ := I.list hs;obtain ⟨⟨c0,dd,dt,sl⟩,n,e,ec,ed,es⟩ := p;dsimp only at ec ed es;subst ec ed es;obtain ⟨cs,rl,_⟩ := readss_of I S rs r (j8 e2);have hm := SeqAt.readsAll_map _ _ _ (JB as) rl;have hlen : its.length = as.length := by have := congrArg length hm; simpa using this
 have at_ : ∀ m (h : m < its.length) (h' : m < as.length),SeqAt.readOf s.heap its[m] = pyI as[m] := fun m h h' => by
  have h1 : (its.map (SeqAt.readOf s.heap))[m]'(by simpa using h) = (as.map pyI)[m]'(by simpa using h') := by simp only [hm]
  simpa using h1
 obtain ⟨h1,h2,h3⟩ := List.findIdx?_eq_some_iff_getElem.mp hj;refine call_meets PySem.F.slot_list_index ⟨_,e,rfl⟩ PySem.F.entry_list_index (PySem.F.args_list_index_2 _ _) (SeqAt.list_indexAt l _ n none sl u (fun y => PyData.eqv (SeqAt.readOf s.heap y) (pyI a)) j (by simpa [hlen] using h1) (by omega) ?_ ?_) ⟨e,SeqAt.items_eqAt (by simpa using rl) rd (JB as) (by simp only [pyI,PyData.canLay0,JA]) (by have := vI a; have := Nat.min_le_right (PyData.depthAll (as.map pyI)) (pyI a).depth; omega),⟨.int _,H,I.tok _,⟨_,rfl⟩,q⟩⟩
 ·have := at_ j (by omega) h1
  show PyData.eqv (SeqAt.readOf s.heap its[j]) (pyI a) = true
  rw [this,vJ];simpa using h2
 ·intro m hm' hlt
  have hm2 : m < its.length := by simpa using hm'
  have := at_ m hm2 (by omega);show PyData.eqv (SeqAt.readOf s.heap its[m]) (pyI a) = false;rw [this,vJ];have := h3 m hlt;simpa using this
theorem MtM.or {id : String} {r r' : V → List V → Hp → VK → Prop} (h : MtM X id r) (h' : MtM X id r') : MtM X id (fun x vs H Q => r x vs H Q ∨ r' x vs H Q) := by
 intro pins s σ H x vs v us Q I rx rv q;rcases q with q | q
 ·exact h pins s σ H x vs v us Q I rx rv q
 ·exact h' pins s σ H x vs v us Q I rx rv q
theorem ro_idxG : ROk K mg (fun x y H Q => (∃ l,x = .ref l ∧ ∃ (bs : List Bool) (k : Bool) (j : Nat),[y] = [.bl k] ∧ SqL K H l (bs.map V.bl) ∧ bs.findIdx? (· == k) = some j ∧ j < 1000000 ∧ Q (.int (j : Nat)) H) ∨ rIdxT K mg x [y] H Q) idxG := by
 intro M H Z x y d1 d2 res Q f r1 r2 e k;unfold idxG at e;cases h : idxD d1 d2 with
 | some r => rw [h] at e; cases e; exact .inl (ro_idx M H Z x y d1 d2 res Q f r1 r2 h k)
 | none =>
  rw [h] at e;cases d1 with
  | lst ds =>
   replace e : (match We d2,yk ds with
    | some a,some as => (match as.findIdx? (· == a) with
     | some j => if j < 1000000 then some (R.val (.int (j : Nat))) else none
     | none => none)
    | _,_ => none) = some res := e
   cases ha : We d2 with
   | none => rw [ha] at e; cases e
   | some a =>
    cases hs : yk ds with
    | none => rw [ha,hs] at e; cases e
    | some as =>
     rw [ha,hs] at e;dsimp only at e;cases hj : as.findIdx? (· == a) with
     | none => rw [hj] at e; cases e
     | some j =>
      rw [hj] at e;dsimp only at e;split at e
      ·rename_i hl
       cases e;exact .inr ⟨y,d2,ds,a,as,j,rfl,r2.mono zE,r1.mono zE,ha,hs,hj,hl,k.flat f rfl⟩
      ·cases e
  | _ => cases e
theorem ok_idxG {o e : Expr} {a b : ME} {apos cpos : Pos} (S : Qi X.K) (hu : X.A.units + 20 < cLine) (ho : EOk X o a) (he : EOk X e b) (hbase : attributeBase o "index" X.env (eval o X.env) = eval o X.env) (hs : zR e = false) (hline : (apos.endLine == cpos.line) = true)
  (hfew : ((backTo cpos (starEach (e :: []) X.env)).all (fun x => !x.1) && (backToKw cpos (keywordEach [] X.env)).all (fun x => x.1.isSome) && decide ((e :: ([] : List Expr)).length + ([] : List Keyword).length + (if ([] : List Keyword).isEmpty then 0 else 1) < 30)) = true) :
  EOk X (.Call (.Attribute o "index" apos) [e] [] cpos) (eMet idxG a b) :=
 zn (pe_bm PySem.F.plainAttrs_list PySem.F.slot_list_index PySem.F.type_list_index (MtM.or zBV (Qn S hu)) ho (yc he JY (zN hs)) hbase hfew hline (zN hs) rfl) fun σ H Q h => Qh ro_idxG h
end
end DV
namespace DV
open PySem L2 PyProof.Rows PySem.Calls
section
variable {prog : Program} {w : World} {A : Around} {R : Result → Shared → Prop} {I : Addr} {fp wr : List Addr} {n : Nat} {P : Nat → Value → Prop} {St : Nat → Heap → Prop} {J : Heap → Prop}
def CmpJ (prog : Program) (w : World) (A : Around) (op : CmpOp) (P : Nat → Value → Prop) (bt : Nat → Nat → Bool) (J : Heap → Prop) : Prop :=
 ∀ i j vi vj (s : Shared) (Q : Value → Shared → Prop) (E : Value → Shared → Prop),J s.heap → P i vi → P j vj → Q (.bool (bt i j)) s → wpAny (model prog w) A (richCompare op vi vj) Q E s
theorem Qo (W : Walks prog w A.in1 I fp wr n P St) (bt : Nat → Nat → Bool) (hcmp : CmpJ prog w A.in1 .Lt P bt J) (S : Addr) (hSf : S ∉ fp) (hJ : ∀ h h' : Heap,J h → (∀ b o,b ∉ wr → b ≠ S → h.get? b = some o → h'.get? b = some o) → J h') :
  ∀ (k j : Nat) (s : Shared) (vb : Value) (c : Nat),n - (j + 1) = k → j + 1 ≤ n → St (j + 1) s.heap → J s.heap → P (argBest bt j) vb →
  s.heap.get? S = some { cls := .type "list",dict := none,data := .seq #[vb,vb] c,slots := #[] } →
  (∀ v h' tk,P (argBest bt (n - 1)) v → (∀ b o,b ∉ wr → b ≠ S → s.heap.get? b = some o → h'.get? b = some o) → R (.ok (.ret v)) { s with heap := h',toks := tk }) →
  codeAny (model prog w) A (.builtin "min.loop" ⟨[.ref I,.none,.ref S],[]⟩) R s := by
 have hSw : S ∉ wr := fun h => hSf (W.sub _ h)
 have hname : (toString "min" ++ toString ".loop" : String) = "min.loop" := by decide
 intro k
 induction k with
 | zero =>
  intro j s vb c hk hj hst hJs hPb hS hR;have hin : j + 1 = n := by omega
  refine codeAny_builtin F.entry_min_loop ?_;rw [Around.under_plainId F.plain_min_loop _];show wpAny _ A.in1 (seqItems? (.ref S) >>= _) _ _ s;refine wpAny_bind (wpAny_seqItems hS rfl ?_);show wpAny _ A.in1 (tryCatch (pyNext (.ref I)) _ >>= _) _ _ s;refine wpAny_bind (wpAny_tryCatch (W.done s _ _ (hin ▸ hst) fun h' tk hk' => ?_));have hS' := hk' S _ hSw hS;show wpAny _ A.in1 (updateSeq S (fun _ => #[]) >>= _) _ _ _;refine wpAny_bind ?_;refine wpAny_updateSeq hS' rfl (wpAny_bind (wpAny_letGo (wpAny_pure ?_)));refine hR vb _ tk (by rw [← hin]; exact hPb) fun b o hbw hbS e => (get?_update_other _ _ (Ne.symm hbS)).trans (hk' b o hbw e)
 | succ k ih =>
  intro j s vb c hk hj hst hJs hPb hS hR;have hlt : j + 1 < n := by omega
  refine codeAny_builtin F.entry_min_loop ?_;rw [Around.under_plainId F.plain_min_loop _];show wpAny _ A.in1 (seqItems? (.ref S) >>= _) _ _ s;refine wpAny_bind (wpAny_seqItems hS rfl ?_);show wpAny _ A.in1 (tryCatch (pyNext (.ref I)) _ >>= _) _ _ s;refine wpAny_bind (wpAny_tryCatch (W.item (j + 1) s _ _ hlt hst fun v h' tk hP hst' hk' => ?_));have hS' := hk' S _ hSw hS;have hJ1 : J h' := hJ s.heap h' hJs fun b o hbw _ e => hk' b o hbw e
  show wpAny _ A.in1 (tryCatch (holding [v,v] (richCompare .Lt v vb >>= _)) _ >>= _) _ _ _
  refine wpAny_bind (wpAny_tryCatch (wpAny_holding (wpAny_bind (hcmp (j + 1) (argBest bt j) v vb _ _ _ hJ1 hP hPb ?_))));refine wpAny_bind (wpAny_holding (wpAny_truthy_bool ?_));refine wpAny_bind (wpAny_letGo (wpAny_pure ?_));cases hb : bt (j + 1) (argBest bt j) with
  | true =>
   simp only [if_true];refine wpAny_bind ?_;refine wpAny_updateSeq hS' rfl (wpAny_bind (wpAny_letGo ?_));rw [hname];refine wpAny_pure ⟨plainId_quiet F.plain_min_loop _,ih (j + 1) _ v _ (by omega) hlt (W.frame _ _ _ hst' fun b hbf o e => ?_) (hJ h' _ hJ1 fun b o _ hbS e => (get?_update_other _ _ (Ne.symm hbS)).trans e) (by simp only [argBest,hb,if_true]; exact hP) (Heap.get?_update_self _ hS' rfl)
    fun v' h'' tk'' hP' hk'' => ?_⟩
   ·exact (get?_update_other _ _ (fun h : S = b => hSf (by rw [h]; exact hbf))).trans e
   ·exact hR v' h'' tk'' hP' fun b o hbw hbS e => hk'' b o hbw hbS ((get?_update_other _ _ (Ne.symm hbS)).trans (hk' b o hbw e))
  | false =>
   simp only [Bool.false_eq_true,if_false];refine wpAny_bind (wpAny_letGo ?_);rw [hname];refine wpAny_pure ⟨plainId_quiet F.plain_min_loop _,ih (j + 1) _ vb c (by omega) hlt hst' hJ1 (by simp only [argBest,hb,Bool.false_eq_true,if_false]; exact hPb) hS' fun v' h'' tk'' hP' hk'' => ?_⟩;exact hR v' h'' tk'' hP' fun b o hbw hbS e => hk'' b o hbw hbS (hk' b o hbw e)
theorem uv (W : Walks prog w A.in1 I fp wr n P St) (bt : Nat → Nat → Bool) (hcmp : CmpJ prog w A.in1 .Lt P bt J) (S : Addr) (hSf : S ∉ fp) (hJ : ∀ h h' : Heap,J h → (∀ b o,b ∉ wr → b ≠ S → h.get? b = some o → h'.get? b = some o) → J h') (hn : 0 < n) {s : Shared} {c : Nat} (hst : St 0 s.heap) (hJs : J s.heap)
  (hS : s.heap.get? S = some { cls := .type "list",dict := none,data := .seq #[] c,slots := #[] })
  (hR : ∀ v h' tk,P (argBest bt (n - 1)) v → (∀ b o,b ∉ wr → b ≠ S → s.heap.get? b = some o → h'.get? b = some o) → R (.ok (.ret v)) { s with heap := h',toks := tk }) :
  codeAny (model prog w) A (.builtin "min.loop" ⟨[.ref I,.none,.ref S],[]⟩) R s := by
 have hSw : S ∉ wr := fun h => hSf (W.sub _ h)
 have hname : (toString "min" ++ toString ".loop" : String) = "min.loop" := by decide
 refine codeAny_builtin F.entry_min_loop ?_;rw [Around.under_plainId F.plain_min_loop _];show wpAny _ A.in1 (seqItems? (.ref S) >>= _) _ _ s;refine wpAny_bind (wpAny_seqItems hS rfl ?_);show wpAny _ A.in1 (tryCatch (pyNext (.ref I)) _ >>= _) _ _ s;refine wpAny_bind (wpAny_tryCatch (W.item 0 s _ _ hn hst fun v h' tk hP hst' hk' => ?_));have hS' := hk' S _ hSw hS;have hJ1 : J h' := hJ s.heap h' hJs fun b o hbw _ e => hk' b o hbw e
 show wpAny _ A.in1 (updateSeq S (fun _ => #[v,v]) >>= _) _ _ _
 refine wpAny_bind ?_;refine wpAny_updateSeq hS' rfl ?_;rw [hname];refine wpAny_pure ⟨plainId_quiet F.plain_min_loop _,Qo W bt hcmp S hSf hJ _ 0 _ v _ rfl hn (W.frame _ _ _ hst' fun b hbf o e => ?_) (hJ h' _ hJ1 fun b o _ hbS e => (get?_update_other _ _ (Ne.symm hbS)).trans e) hP (Heap.get?_update_self _ hS' rfl) fun v' h'' tk'' hP' hk'' => ?_⟩
 ·exact (get?_update_other _ _ (fun h : S = b => hSf (by rw [h]; exact hbf))).trans e
 ·exact hR v' h'' tk'' hP' fun b o hbw hbS e => hk'' b o hbw hbS ((get?_update_other _ _ (Ne.symm hbS)).trans (hk' b o hbw e))
end
section
variable {prog : Program} {w : World} {A : Around} {E : Value → Shared → Prop} {s : Shared}
theorem Yu {x : Value} {Q : Value → Shared → Prop}
  (h : wpAny (model prog w) A.in1 (pyIter x) (fun it s₂ => ∃ (I : Addr) (fp wr : List Addr) (n : Nat) (P : Nat → Value → Prop) (St : Nat → Heap → Prop) (bt : Nat → Nat → Bool) (J : Heap → Prop),it = .ref I ∧ Walks prog w A.in1 I fp wr n P St ∧ St 0 s₂.heap ∧ (∀ b ∈ fp,b < s₂.heap.objs.size) ∧ 0 < n ∧ CmpJ prog w A.in1 .Lt P bt J ∧ J s₂.heap ∧
   (∀ S,s₂.heap.objs.size ≤ S → ∀ h h' : Heap,J h → (∀ b o,b ∉ wr → b ≠ S → h.get? b = some o → h'.get? b = some o) → J h') ∧
   ∀ v h' tk,P (argBest bt (n - 1)) v → (∀ b o,b ∉ wr → s₂.heap.get? b = some o → h'.get? b = some o) → Q v { s₂ with heap := h',toks := tk }) E s) :
  wpAny (model prog w) A (call (.builtin "min") [x]) Q E s := by
 have hname : (toString "min" ++ toString ".loop" : String) = "min.loop" := by decide
 refine call_function_tree F.kind_min F.plain_min F.entry_min (F.args_min1 _) ?_;show wpAny _ A.in1 (Builtin.Builtins.bindParams "min" ["key","default"] 0 ⟨[],[]⟩ >>= _) _ _ s;refine wpAny_bind (wpAny_of_eq (show Builtin.Builtins.bindParams "min" ["key","default"] 0 ⟨[],[]⟩ = pure [none,none] from rfl) ?_);refine wpAny_bind (wpAny_pure ?_);refine wpAny_bind (wpAny_mono h (fun it s₂ h₂ => ?_) fun _ _ e => e);obtain ⟨I,fp,wr,n,P,St,bt,J,rfl,W,hst,hfp,hn,hcmp,hJs,hJ,hQ⟩ := h₂;refine wpAny_bind (wpAny_newObj_type ?_);have hSf : s₂.heap.objs.size ∉ fp := fun hm => lt_irrefl _ (hfp _ hm)
 rw [hname];refine wpAny_pure ⟨plainId_quiet F.plain_min_loop _,uv W bt hcmp s₂.heap.objs.size hSf (hJ _ (le_refl _)) hn (W.frame _ _ _ hst fun b _ o e => get?_push_of_some _ e) (hJ _ (le_refl _) _ _ hJs fun b o _ _ e => get?_push_of_some _ e) (get?_push_size _ rfl) fun v h' tk hP hk => ?_⟩;exact hQ v h' tk hP fun b o hbw e => hk b o hbw (ne_of_lt (lt_size e)) (get?_push_of_some _ e)
end
def zo (as : List (List Int)) : Nat := argBest (fun i j => HT.lexLt (as.getD i []) (as.getD j [])) (as.length - 1)
theorem YT : ∀ {ds : List D} {as : List (List Int)},yk ds = some as → as.length = ds.length
 | [],as,e => by cases e; rfl
 | d :: ds,as,e => by
  simp only [yk] at e;cases h : We d with
  | none => rw [h] at e; cases e
  | some a =>
   cases h2 : yk ds with
   | none => rw [h,h2] at e; cases e
   | some bs => rw [h,h2] at e; cases e; simp [YT h2]
theorem Wg : ∀ {ds : List D} {as : List (List Int)},yk ds = some as → ∀ i,i < ds.length → We (ds.getD i .non) = some (as.getD i [])
 | [],as,e,i,h => by simp at h
 | d :: ds,as,e,i,h => by
  simp only [yk] at e;cases h1 : We d with
  | none => rw [h1] at e; cases e
  | some a =>
   cases h2 : yk ds with
   | none => rw [h1,h2] at e; cases e
   | some bs =>
    rw [h1,h2] at e; cases e;cases i with
    | zero => exact h1
    | succ i => exact Wg h2 i (by simpa using h)
section
variable {X : Cx} {σ : L2.St} {pins : List (Addr × Obj)} {H : Hp} {s : Shared} {K : PySem.W.Frag} {mg : Str → Option Value}
def rMinT (K : PySem.W.Frag) (mg : Str → Option Value) (xs : List V) (H : Hp) (Q : VK) : Prop := ∃ (p : Addr) (ys : List V) (ds : List D) (as : List (List Int)),xs = [.ref p] ∧ SqL K H p ys ∧ Reps K mg H ds ys ∧ yk ds = some as ∧ 0 < ds.length ∧ Q (ys.getD (zo as) .non) H
theorem j9 (bt : Nat → Nat → Bool) : ∀ k,argBest bt k ≤ k
 | 0 => le_refl _
 | k + 1 => by
  have := j9 bt k;simp only [argBest]; split <;> omega
theorem Qp (hc : X.calm = true) (hu : X.A.units + 20 < cLine) : yb X (.builtin "min") (rMinT X.K X.mg) := by
 intro pins s σ H xs us Q I r h;obtain ⟨p,ys,ds,as,rfl,hq,rd,ht,hpos,q⟩ := h;obtain ⟨u,rfl,rx⟩ := Ym r;cases rx;obtain ⟨its,rv,pl,hz⟩ := I.list hq;have l1 := rd.length;have l2 := rv.length;have l3 := YT ht;have hlen : its.length = ds.length := by omega
 have hp : p < s.heap.objs.size := by obtain ⟨o,n,e,_⟩ := pl; exact lt_size e
 have hk : ∀ b o,s.heap.get? b = some o → (s.heap.push { cls := .type "list_iterator",data := .fields #[.ref p,.int 0 0] }).get? b = some o := fun b o e => get?_push_of_some _ e
 have item : ∀ i v,its.toArray[i]? = some v → ∃ a us,v = .ref a ∧ IsTup s.heap a us ∧ IntsAre us.toList (as.getD i []) := fun i v e => by
  have e' : its[i]? = some v := by simpa using e
  obtain ⟨hi,ev⟩ := List.getElem?_eq_some_iff.mp e';obtain ⟨hd,x,rep,rel⟩ := jl rd rv hi;rw [ev] at rel;have hti := Wg ht i hd;cases hdi : ds.getD i .non with
  | tup es =>
   rw [hdi] at hti rep;obtain ⟨a,zs,rfl,q1,q2⟩ := zO rep;cases (show v = Value.ref a from rel);obtain ⟨js,rz,tp,_⟩ := I.tuple q1;rw [jM hti q2] at rz;exact ⟨a,js.toArray,rfl,tp,by simpa using um rz⟩
  | _ => rw [hdi] at hti; cases hti
 refine Yu (wpAny_pyIter_list pl.isList ?_);refine ⟨s.heap.objs.size,[s.heap.objs.size,p],[s.heap.objs.size],its.toArray.size,_,_,(fun i j => HT.lexLt (as.getD i []) (as.getD j [])),(fun h => ∀ b o,s.heap.get? b = some o → h.get? b = some o),rfl,
  Walks.list (by show X.A.handled = none; exact I.ok.hd hc) _ p (ne_of_lt hp) its.toArray,⟨⟨_,get?_push_size _ rfl,rfl,rfl⟩,?_⟩,?_,?_,?_,hk,?_,?_⟩
 ·obtain ⟨o,e,c⟩ := pl.isList
  exact ⟨o,hk _ _ e,c⟩
 ·intro b hb
  rw [size_push];rcases mem_cons.mp hb with rfl | hb
  ·exact lt_succ_self _
  ·have : b = p := by simpa using hb
   subst this; exact lt_succ_of_lt hp
 ·rw [size_toArray,hlen]; exact hpos
 ·intro i j vi vj s' Q' E' hJ hi hj hq'
  obtain ⟨a,ua,rfl,⟨oa,ga,ca⟩,ia⟩ := item i vi hi;obtain ⟨b,ub,rfl,⟨ob,gb,cb⟩,ib⟩ := item j vj hj;exact HT.lt_tupInts ⟨oa,hJ _ _ ga,ca⟩ ⟨ob,hJ _ _ gb,cb⟩ ia ib (by show X.A.units + 1 < cLine; omega) hq'
 ·intro S hS h h' hj hk' b o e
  have hb := lt_size e;rw [size_push] at hS;exact hk' b o (fun m => ne_of_lt hb (by simpa using m)) (ne_of_lt (lt_of_lt_of_le hb (le_trans (le_succ _) hS))) (hj b o e)
 ·intro v h' tk hP kp
  have e' : its[zo as]? = some v := by
   have : its.toArray[argBest (fun i j => HT.lexLt (as.getD i []) (as.getD j [])) (its.toArray.size - 1)]? = some v := hP;rw [size_toArray,show its.length = as.length by omega] at this;simpa [zo] using this
  obtain ⟨hi,ev⟩ := List.getElem?_eq_some_iff.mp e';have hy : zo as < ys.length := by omega
  obtain ⟨u,e1,e2⟩ := rv.get (i := zo as) (x := ys[zo as]) (by simp [hy]);rw [e'] at e1;cases e1;exact ⟨ys.getD (zo as) .non,H,I.kept (t' := tk) fun b o eb => kp b o (fun m => by
   have : b = s.heap.objs.size := by simpa using m
   subst this;exact absurd (lt_size eb) (lt_irrefl _)) (hk b o eb),by rw [getD_eq_getElem?_getD,getElem?_eq_getElem hy]; exact e2,q⟩
def minT : List D → Option R
 | [.lst ds] => match yk ds with
  | some as => if 0 < ds.length then some (.val (ds.getD (zo as) .non)) else none
  | none => none
 | _ => none
def minH (ds : List D) : Option R := match minG ds with
 | some r => some r
 | none => minT ds
theorem co_minH : COk K mg (fun xs H Q => ((∃ i j,xs = [.int i,.int j] ∧ Q (.int (if j < i then j else i)) H) ∨ ∃ (p : Addr) (ns : List Int),xs = [.ref p] ∧ SqL K H p (ns.map V.int) ∧ 0 < ns.length ∧ Q (.int (QS ns)) H) ∨ rMinT K mg xs H Q) minH := by
 intro M H Z xs ds res Q f r e k;unfold minH at e;cases h : minG ds with
 | some z => rw [h] at e; cases e; exact .inl (co_minG M H Z xs ds res Q f r h k)
 | none =>
  rw [h] at e
  match ds,e with
  | [.lst ds],e =>
   replace e : (match yk ds with
    | some as => if 0 < ds.length then some (R.val (ds.getD (zo as) .non)) else none
    | none => none) = some res := e
   cases ht : yk ds with
   | none => rw [ht] at e; cases e
   | some as =>
    rw [ht] at e;dsimp only at e;split at e
    ·rename_i hp
     cases e;obtain ⟨v,rfl,hv⟩ := wE r;obtain ⟨p,ys,rfl,h1,h2⟩ := zH hv;have l := YT ht;have hl : zo as < ds.length := by
      have := j9 (fun i j => HT.lexLt (as.getD i []) (as.getD j [])) (as.length - 1);unfold zo; omega
     obtain ⟨v,e1,e2⟩ := h2.get' (i := zo as) (d := ds[zo as]) (by simp [hl]);refine .inr ⟨p,ys,ds,as,rfl,zE.seq h1,h2.mono zE,ht,hp,?_⟩;rw [getD_eq_getElem?_getD,e1];refine k.rep f ?_;show Rep _ _ _ (ds.getD (zo as) .non) v;rw [getD_eq_getElem?_getD,getElem?_eq_getElem hl];exact e2
    ·cases e
end
end DV
namespace DV
open PySem L2
inductive Op2 where
 | add | sub | mul | fdiv | mod | pow
def Op2.op : Op2 → Operator
 | .add => .Add | .sub => .Sub | .mul => .Mult | .fdiv => .FloorDiv | .mod => .Mod | .pow => .Pow
def Op2.f : Op2 → D → D → Option R
 | .add => W8 | .sub => subD | .mul => uL | .fdiv => zA5 | .mod => modD | .pow => powD
inductive Cp where
 | lt | le | gt | ge | eq | ne | inn | nin | is | isn
def Cp.op : Cp → CmpOp
 | .lt => .Lt | .le => .LtE | .gt => .Gt | .ge => .GtE | .eq => .Eq | .ne => .NotEq | .inn => .In | .nin => .NotIn | .is => .Is | .isn => .IsNot
def Cp.f : Cp → D → D → Option R
 | .lt => ltD | .le => leD | .gt => gtD | .ge => geD | .eq => eqG | .ne => neG | .inn => inG false | .nin => inG true | .is => isG false | .isn => isG true
def Cp.isI : Cp → Bool
 | .lt | .le | .gt | .ge => true
 | _ => false
def Cp.b : Cp → Int → Int → Bool
 | .lt => ltB | .le => leB | .gt => gtB | _ => geB
inductive Bi where
 | len | max | all | int | tuple | list | min | sorted | repr
def Bi.nm : Bi → Str
 | .len => "len" | .max => "max" | .all => "all" | .int => "int" | .tuple => "tuple" | .list => "list" | .min => "min" | .sorted => "sorted" | .repr => "repr"
def Bi.f : Bi → List D → Option R
 | .len => lenD | .max => GG | .all => allD | .int => intF | .tuple => zCB | .list => listD | .min => minH | .sorted => sortG | .repr => reprG
inductive Ty where
 | int | bool | tuple | list | str | dict
def Ty.s : Ty → String
 | .int => "int" | .bool => "bool" | .tuple => "tuple" | .list => "list" | .str => "str" | .dict => "dict"
def Ty.nm : Ty → Str
 | .int => "int" | .bool => "bool" | .tuple => "tuple" | .list => "list" | .str => "str" | .dict => "dict"
inductive Tg where
 | n (i : Nat)
 | t (is : List Nat)
def Tg.m : Tg → MG
 | .n i => gN i
 | .t is => gT is
mutual
inductive Ex where
 | c (d : D) | gl (d : D) | var (i : Nat) | mov (i : Nat)
 | bin (o : Op2) (a b : Ex) | cmp (o : Cp) (a b : Ex) | chain (o o' : Cp) (a b c : Ex)
 | neg (a : Ex) | not (a : Ex) | and (a b : Ex)
 | tup (as : Ax) | lst (as : Ax) | dic
 | ix (a b : Ex) | ixO (i : Nat) (b : Ex) | sl (a : Ex) (l h : Ox)
 | comp (nl : Nat) (loc capn : List Str) (caps : List Nat) (it : Ix) (tg : Tg) (tt : Tx) (el : Ex)
 | is (T : Ty) (a : Ex) | cB (b : Bi) (as : Ax) | call (k : Nat) (as : Gx)
 | stp (k : Bool) (a : Ex)
 | isC (cl : List Str) (y : Str) (a : Ex) | isV (cl : List Str) (a : Ex) | cnt (a b : Ex) | idx (a b : Ex)
inductive Tx where
 | tAnd (a b : Tx) | tOr (a b : Tx) | tNot (a : Tx) | tE (a : Ex) | tBor (i : Nat) (a : Tx) | tTr
inductive Ax where
 | nil | cons (a : Ex) (as : Ax)
inductive Gx where
 | nil | ev (a : Ex) (as : Gx) | lend (i : Nat) (as : Gx)
inductive Ox where
 | oN | oS (a : Ex)
inductive Ix where
 | iL (a : Ex) | iT (a : Ex) | iR1 (as : Ax) | iE (t1 : Bool) (as : Ax)
end
mutual
inductive Sx where
 | sIf (t : Tx) (a b : Bx) | sSet (i : Nat) (a : Ex) | sRet (a : Ex) | sDrop (a : Ex) | sIx (i : Nat) (b a : Ex) | sApp (i : Nat) (a : Ex)
 | sForL (a : Ex) (tg : Tg) (b : Bx) | sForR1 (as : Ax) (tg : Tg) (b : Bx) | sForI (it : Ix) (tg : Tg) (b : Bx)
 | sAny | sPar (i j : Nat) (as : Ax)
 | sRaise (c : Str) | sTry (cl : List Str) (b : Bx) (i : Nat) (h : Bx)
 | sWhile (t : Tx) (b : Bx)
inductive Bx where
 | bNil | bOne (s : Sx) | bSeq (s : Sx) (b : Bx)
end
structure FI where
 x : Str
 n : Nat
 lv : Nat
 wild : Bool
 F : MF
def fiF (fs : List FI) (k : Nat) : MF := match fs[k]? with
 | some i => i.F
 | none => fun _ => .stuck
def fiX (fs : List FI) (k : Nat) : Str := match fs[k]? with
 | some i => i.x
 | none => ""
def uQ (m : ME) : ME := fun E => match m E with
 | .exc _ _ => .stuck
 | o => o
def Wh (m : MS) : MS := fun E => match m E with
 | .exc _ _ => .stuck
 | o => o
theorem Qq {m : ME} {E : zQ} {p : R × zQ} (h : m E = .ok p) : uQ m E = .ok p := by simp only [uQ,h]
theorem vL {m : MS} {E : zQ} {p : Fl × zQ} (h : m E = .ok p) : Wh m E = .ok p := by simp only [Wh,h]
theorem no_E {X : Cx} {e : Expr} {m : ME} (h : EOk X.nox e m) : EOk X e (uQ m) := zn h.nox fun σ H Q ⟨M,E,hl,fr,k⟩ => by
 unfold uQ at k;refine ⟨M,E,hl,fr,?_⟩;cases e : m E with
 | stuck => rw [e] at k; exact k
 | exc x E1 => rw [e] at k; exact k.elim
 | ok p => rw [e] at k; exact k
theorem no_S {X : Cx} {st : Stmt} {m : MS} (h : SOk X.nox st m) : SOk X st (Wh m) := fun pins s σ H D I ⟨M,E,hl,fr,k⟩ => by
 refine wpAny_mono (h pins s σ H D (I.wish _) ⟨M,E,hl,fr,?_⟩) (fun _ _ q => q.unwish) fun _ _ z => False.elim z
 unfold Wh at k;cases e : m E with
 | stuck => rw [e] at k; exact k
 | exc x E1 => rw [e] at k; exact k.elim
 | ok p =>
  rw [e] at k;obtain ⟨fl,E1⟩ := p;cases fl <;> exact k
theorem sk_forN {X : Cx} {st : Stmt} {mi : MI} {tg : MG} {body : MS} (h1 : PS X st (fun D σ H => tMI X mi σ H fun _ _ => False)) (h2 : SOk X st (Wh (sForI mi tg body))) : SOk X st (zBb mi tg body) := fun pins s σ H D I ⟨M,E,hl,fr,k⟩ => by
 unfold zBb at k;cases e : mi E with
 | exc x E1 => rw [e] at k; exact h1 pins s σ H D I ⟨M,E,hl,fr,by rw [e]; exact fun H' g => k σ H' g⟩
 | stuck => rw [e] at k; exact h2 pins s σ H D I ⟨M,E,hl,fr,k⟩
 | ok p => rw [e] at k; exact h2 pins s σ H D I ⟨M,E,hl,fr,k⟩
theorem no_set {i : Nat} {m : ME} : Wh (sSet i m) = sSet i (uQ m) := by
 funext E
 simp only [Wh,sSet,uQ];cases m E with
 | stuck => rfl
 | exc x E1 => rfl
 | ok p =>
  obtain ⟨r,E1⟩ := p;dsimp only;cases Jq i r E1 <;> rfl
mutual
def dE (fs : List FI) : Ex → ME
 | .c d => eC d
 | .gl d => eC d
 | .var i => GC i
 | .mov i => zA9 i
 | .bin o a b => Yl o.f (dE fs a) (dE fs b)
 | .cmp o a b => Yl o.f (dE fs a) (dE fs b)
 | .chain o o' a b c => je o.b o'.b (dE fs a) (dE fs b) (dE fs c)
 | .neg a => eNeg (dE fs a)
 | .not a => Gz (dE fs a)
 | .and a b => GE (dE fs a) (dE fs b)
 | .tup as => zAS (dA fs as)
 | .lst as => zAT (dA fs as)
 | .dic => eC .dic
 | .ix a b => Yl ixD (dE fs a) (dE fs b)
 | .ixO i b => eIxO i (dE fs b)
 | .sl a l h => eSl slD (dE fs a) (dO fs l) (dO fs h)
 | .comp nl _ _ caps it tg tt el => uQ (Yr nl caps (dI fs it) tg.m (dT fs tt) (dE fs el))
 | .is T a => eIs T.s (dE fs a)
 | .cB b as => eCB b.f (dA fs as)
 | .call k as => jK (fiF fs k) (dG fs as)
 | .stp k a => eUn (zBQ k) (dE fs a)
 | .isC cl y a => eIsX cl (· == y) (dE fs a)
 | .isV cl a => eIsX cl (fun _ => true) (dE fs a)
 | .cnt a b => eMet cntD (dE fs a) (dE fs b)
 | .idx a b => eMet idxG (dE fs a) (dE fs b)
def dT (fs : List FI) : Tx → MT
 | .tAnd a b => JM (dT fs a) (dT fs b)
 | .tOr a b => GD (dT fs a) (dT fs b)
 | .tNot a => Jk (dT fs a)
 | .tE a => tT (dE fs a)
 | .tBor i a => zBa i (dT fs a)
 | .tTr => QC
def dA (fs : List FI) : Ax → MA
 | .nil => zAR
 | .cons a as => Jl (dE fs a) (dA fs as)
def dG (fs : List FI) : Gx → List Arg
 | .ev a as => .ev (dE fs a) :: dG fs as
 | .lend i as => .lend i :: dG fs as
 | .nil => []
def dO (fs : List FI) : Ox → MO
 | .oN => oNone
 | .oS a => zA7 (dE fs a)
def dI (fs : List FI) : Ix → MI
 | .iL a => iL (dE fs a)
 | .iT a => iT (dE fs a)
 | .iR1 as => iR1 (dA fs as)
 | .iE t1 as => iE t1 (dA fs as)
end
mutual
def dS (fs : List FI) : Sx → MS
 | .sIf t a b => sIf (dT fs t) (dB fs a) (dB fs b)
 | .sSet i a => sSet i (dE fs a)
 | .sRet a => sRet (dE fs a)
 | .sDrop a => sDrop (dE fs a)
 | .sIx i b a => Y5 i (dE fs b) (dE fs a)
 | .sApp i a => sApp i (dE fs a)
 | .sPar i j as => sPar i j (dA fs as)
 | .sForL a tg b => Wh (sForL (dE fs a) tg.m (dB fs b))
 | .sForI it tg b => zBb (dI fs it) tg.m (dB fs b)
 | .sForR1 a tg b => Wh (sForR1 (dA fs a) tg.m (dB fs b))
 | .sAny => fun _ => .stuck
 | .sRaise c => DV.sRaise c
 | .sTry cl b i h => DV.sTry cl i (dB fs b) (dB fs h)
 | .sWhile t b => Wh (DV.sWhile (dT fs t) (dB fs b))
def dB (fs : List FI) : Bx → MS
 | .bNil => zAV
 | .bOne s => dS fs s
 | .bSeq s b => vz (dS fs s) (dB fs b)
end
structure Sg where
 N : List Str
 sc : Scope
 top : Bool
 cs : List (Str × D)
 fs : List FI
 bs : List Str
 lv : Nat
 calm : Bool
 cl : List Str
 rs : List Str
 oc : List Str
def kIs (sg : Sg) (x : Str) (k : NameKind) : Bool := sg.sc.names.lookup x == some k
def vis (sg : Sg) (i : Nat) (x : Str) : Bool := sg.N[i]? == some x && (kIs sg x .local || (kIs sg x .cell || kIs sg x .free)) && (!(x == ("__debug__" : Str)) && !(x == ("__classdict__" : Str)))
def glb (sg : Sg) (x : Str) : Bool := kIs sg x .globalImplicit && !(x == ("__debug__" : Str))
def locd (sg : Sg) (i : Nat) (x : Str) : Bool := sg.N[i]? == some x && (kIs sg x .local || (kIs sg x .cell && (sg.top || sg.oc.contains x)))
def cIs : D → Const → Bool
 | .non,.none => true
 | .bl b,.bool c => b == c
 | .int i,.int j => i == j
 | .str x,.str y => x == y
 | _,_ => false
def feq : D → D → Bool
 | .non,.non => true
 | .bl b,.bl c => b == c
 | .int i,.int j => i == j
 | .str x,.str y => x == y
 | _,_ => false
def geq : D → D → Bool
 | .tup [.int a,.int b],.tup [.int c,.int d] => a == c && b == d
 | d,e => feq d e
def gIs (sg : Sg) (x : Str) (d : D) : Bool := match sg.cs.lookup x with
 | some d' => geq d d'
 | none => false
def fIs (sg : Sg) (k : Nat) (x : Str) : Bool := match sg.fs[k]? with
 | some i => i.x == x
 | none => false
def fArg (sg : Sg) (n : Nat) (k : Nat) : Bool := match sg.fs[k]? with
 | some i => i.n == n && decide (i.lv ≤ sg.lv) && (sg.calm || i.wild)
 | none => false
def bIn (sg : Sg) (x : Str) : Bool := sg.bs.contains x
def gLen : Gx → Nat
 | .ev _ as => gLen as + 1
 | .lend _ as => gLen as + 1
 | .nil => 0
def uR : Tg → Sg → Expr → Bool
 | .n i,sg,e => match e with
  | .Name x _ => locd sg i x
  | _ => false
 | .t is,sg,e => match e with
  | .Tuple es _ _ => all2 sg is es
  | _ => false
where all2 (sg : Sg) : List Nat → List Expr → Bool
 | [],[] => true
 | i :: is,e :: es => (match e with | .Name x _ => locd sg i x | _ => false) && all2 sg is es
 | _,_ => false
def relab (scope : Scope) (sc : Scope) : Scope := { scope with names := scope.names.map fun (n,k) => if (k == NameKind.free && sc.kind == .function && sc.names.lookup n == some .cell) then (n,NameKind.cell) else (n,k) }
def capB (sg : Sg) (scope : Scope) : List Nat → List Str → Bool
 | [],[] => true
 | j :: js,x :: xs => sg.N[j]? == some x && scope.names.lookup x == some .free && capB sg scope js xs
 | _,_ => false
def Wx (sg : Sg) (N : List Str) (scope : Scope) : Sg := { sg with N := N,sc := relab scope sg.sc,top := false,oc := (scope.names.filter fun y => y.2 == .cell).map Prod.fst }
def Qr (sg : Sg) (nl : Nat) (loc capn : List Str) (caps : List Nat) (scope : Scope) : Bool :=
 loc.length == nl && scope.kind == .function && decide (loc ++ capn).Nodup && scope.names.all (fun y => y.2 != .local || scope.names.lookup y.1 == some .local) && scope.names.all (fun y => y.2 != .cell || scope.names.lookup y.1 == some .cell)
  && scope.names.all (fun y => y.2 != .free || sg.sc.names.lookup y.1 == some .cell) && capB sg scope caps capn
def isCmp : Ex → Bool
 | .cmp _ _ _ => true
 | .chain _ _ _ _ _ => true
 | _ => false
def stIs : Bool → Expr → Bool
 | true,e => match e with
  | .Constant (.int i) _ _ => i == 2
  | _ => false
 | false,e => match e with
  | .UnaryOp .USub (.Constant (.int i) _ _) _ => i == 1
  | _ => false
def swB (sg : Sg) (x : Str) (px : Pos) (scope : Scope) (vp : Pos) : Bool := kIs sg x .local && px.line == vp.line && !(scope.names.any fun y => y.1 == x && (y.2 == .local || y.2 == .cell))
def setOk (sg : Sg) (x : Str) (px : Pos) (a : Ex) (v : Expr) : Bool := match v with
 | .ListComp _ _ scope vp => sg.sc.kind == .function && (!swB sg x px scope vp || (match a with | .comp _ _ _ _ _ _ _ _ => true | _ => false))
 | v => wV v
def Qs (sg : Sg) (i j : Nat) (x y : Str) (px py : Pos) (a b : Expr) : Bool :=
 sg.sc.kind == .function && sg.N[i]? == some x && sg.N[j]? == some y && i != j && kIs sg x .local && kIs sg y .local && py.line == px.line && !(x == y) && !zR a && !zR b && !([a,b].all (foldedForSure 8)) && !([a,b].all (constantsAlone 8))
def isTr : Tx → Bool
 | .tTr => true
 | _ => false
def chkZ : Ix → Expr → Bool
 | .iE _ _,e => match e with
  | .Tuple _ _ _ => true
  | _ => false
 | _,_ => true
mutual
def z6 : Ex → Sg → Expr → Bool
 | .c d,_,e => match e with
  | .Constant k _ _ => cIs d k
  | _ => false
 | .gl d,sg,e => match e with
  | .Name x _ => glb sg x && gIs sg x d
  | _ => false
 | .var i,sg,e => match e with
  | .Name x _ => vis sg i x
  | _ => false
 | .mov i,sg,e => match e with
  | .Name x _ => vis sg i x
  | _ => false
 | .bin o a b,sg,e => match e with
  | .BinOp x op y _ => op == o.op && (z6 a sg x && z6 b sg y)
  | _ => false
 | .cmp o a b,sg,e => match e with
  | .Compare x [op] [y] _ => op == o.op && yR y && (z6 a sg x && z6 b sg y)
  | _ => false
 | .chain o o' a b c,sg,e => match e with
  | .Compare x [op,op'] [y,z] _ => op == o.op && op' == o'.op && o.isI && o'.isI && yR z && (z6 a sg x && (z6 b sg y && z6 c sg z))
  | _ => false
 | .neg a,sg,e => match e with
  | .UnaryOp .USub x _ => z6 a sg x
  | _ => false
 | .not a,sg,e => match e with
  | .UnaryOp .Not x _ => z6 a sg x
  | _ => false
 | .and a b,sg,e => match e with
  | .BoolOp .And (x :: y :: r) p => z6 a sg x && (match r with | [] => z6 b sg y | z :: r' => z6 b sg (.BoolOp .And (y :: z :: r') p))
  | _ => false
 | .tup as,sg,e => match e with
  | .Tuple es _ _ => chkA as sg es
  | _ => false
 | .lst as,sg,e => match e with
  | .List es _ => chkA as sg es
  | _ => false
 | .dic,_,e => match e with
  | .Dict [] [] _ => true
  | _ => false
 | .ix a b,sg,e => match e with
  | .Subscript x y _ => WO y && (z6 a sg x && z6 b sg y)
  | _ => false
 | .ixO i b,sg,e => match e with
  | .Subscript (.Name x _) y _ => vis sg i x && WO y && z6 b sg y
  | _ => false
 | .sl a l h,sg,e => match e with
  | .Subscript x (.Slice lo hi none _) _ => z6 a sg x && (chkO l sg lo && chkO h sg hi)
  | _ => false
 | .comp nl loc capn caps it tg tt el,sg,e => match e with
  | .ListComp elt [⟨target,iter,ifs,0⟩] scope _ => sg.calm && (Qr sg nl loc capn caps scope && yR iter && ((chkZ it target && chkI it sg iter) && (uR tg (Wx sg (loc ++ capn) scope) target && ((match ifs with | [] => isTr tt | c :: cs => cs.isEmpty && chkT tt (Wx sg (loc ++ capn) scope) c) && z6 el (Wx sg (loc ++ capn) scope) elt))))
  | _ => false
 | .is T a,sg,e => match e with
  | .Call (.Name f _) [x,.Name y _] [] _ => f == "isinstance" && y == T.nm && glb sg "isinstance" && bIn sg "isinstance" && glb sg T.nm && bIn sg T.nm && !zR x && z6 a sg x
  | _ => false
 | .cB b as,sg,e => match e with
  | .Call (.Name f _) (x :: es) [] _ => sg.calm && (f == b.nm && glb sg b.nm && bIn sg b.nm && yY (x :: es) && chkA as sg (x :: es))
  | _ => false
 | .call k as,sg,e => match e with
  | .Call (.Name f _) (x :: es) [] _ => glb sg f && fIs sg k f && fArg sg (gLen as) k && yY (x :: es) && chkG as sg (x :: es)
  | _ => false
 | .stp k a,sg,e => match e with
  | .Subscript x (.Slice none none (some st) _) _ => stIs k st && z6 a sg x
  | _ => false
 | .isC cl y a,sg,e => match e with
  | .Call (.Name f _) [x,.Name z _] [] _ => f == "isinstance" && z == y && glb sg "isinstance" && bIn sg "isinstance" && glb sg y && (cl == sg.cl && sg.cl.contains y) && !zR x && z6 a sg x
  | _ => false
 | .isV cl a,sg,e => match e with
  | .Call (.Name f _) [x,.Name z _] [] _ => f == "isinstance" && z == "ValueError" && glb sg "isinstance" && bIn sg "isinstance" && glb sg "ValueError" && bIn sg "ValueError" && (cl == sg.cl && !sg.cl.isEmpty) && !zR x && z6 a sg x
  | _ => false
 | .cnt a b,sg,e => match e with
  | .Call (.Attribute (.Name x p) m ap) [v] [] cp => m == "count" && ap.endLine == cp.line && !zR v && (z6 a sg (.Name x p) && z6 b sg v)
  | _ => false
 | .idx a b,sg,e => match e with
  | .Call (.Attribute (.Name x p) m ap) [v] [] cp => m == "index" && ap.endLine == cp.line && !zR v && (z6 a sg (.Name x p) && z6 b sg v)
  | _ => false
def chkT : Tx → Sg → Expr → Bool
 | .tAnd a b,sg,e => match e with
  | .BoolOp .And (x :: y :: r) p => chkT a sg x && (match r with | [] => chkT b sg y | z :: r' => chkT b sg (.BoolOp .And (y :: z :: r') p))
  | _ => false
 | .tOr a b,sg,e => match e with
  | .BoolOp .Or (x :: y :: r) p => chkT a sg x && (match r with | [] => chkT b sg y | z :: r' => chkT b sg (.BoolOp .Or (y :: z :: r') p))
  | _ => false
 | .tNot a,sg,e => match e with
  | .UnaryOp .Not x _ => chkT a sg x
  | _ => false
 | .tE a,sg,e => (zB6 e || isCmp a) && z6 a sg e
 | .tBor _ a,sg,e => chkT a sg e
 | .tTr,_,_ => false
def chkA : Ax → Sg → List Expr → Bool
 | .nil,_,es => es.isEmpty
 | .cons a as,sg,es => match es with
  | x :: r => !zR x && (z6 a sg x && chkA as sg r)
  | [] => false
def chkG : Gx → Sg → List Expr → Bool
 | .nil,_,es => es.isEmpty
 | .ev a as,sg,es => match es with
  | x :: r => !zR x && (z6 a sg x && chkG as sg r)
  | [] => false
 | .lend i as,sg,es => match es with
  | .Name x _ :: r => vis sg i x && chkG as sg r
  | _ => false
def chkO : Ox → Sg → Option Expr → Bool
 | .oN,_,o => o.isNone
 | .oS a,sg,o => match o with
  | some e => z6 a sg e
  | none => false
def chkI : Ix → Sg → Expr → Bool
 | .iL a,sg,e => z6 a sg e
 | .iT a,sg,e => z6 a sg e
 | .iR1 as,sg,e => match e with
  | .Call (.Name f _) [x] [] _ => f == "range" && glb sg "range" && bIn sg "range" && !zR x && chkA as sg [x]
  | _ => false
 | .iE t1 as,sg,e => match e with
  | .Call (.Name f _) [x] [] _ => f == "enumerate" && glb sg "enumerate" && bIn sg "enumerate" && !zR x && chkA as sg [x]
  | _ => false
end
mutual
def chkS : Sx → Sg → Stmt → Bool
 | .sIf t a b,sg,e => match e with
  | .If c x y _ => chkT t sg c && (chkB a sg x && chkB b sg y)
  | _ => false
 | .sSet i a,sg,e => match e with
  | .Assign [.Name x px] v _ => locd sg i x && setOk sg x px a v && z6 a sg v
  | _ => false
 | .sAny,_,_ => true
 | .sRaise c,sg,e => match e with
  | .Raise (some (.Call (.Name x _) [] [] _)) none _ => sg.calm && (x == c && glb sg c && sg.rs.contains c)
  | _ => false
 | .sWhile t b,sg,e => match e with
  | .While c body [] _ => chkT t sg c && chkB b sg body
  | _ => false
 | .sTry cl b i h,sg,e => match e with
  | .Try body [.ExceptHandler (some (.Name t _)) (some n) (b0 :: suite) _] [] [] _ => t == "ThrowError" && glb sg "ThrowError" && (cl == sg.cl && !sg.cl.isEmpty) && sg.top && (sg.N[i]? == some n && kIs sg n .local) && (chkB b sg body && chkB h { sg with calm := false } (b0 :: suite))
  | _ => false
 | .sPar i j as,sg,e => match e with
  | .Assign [.Tuple [.Name x px,.Name y py] _ _] (.Tuple [a,b] _ _) _ => sg.calm && (Qs sg i j x y px py a b && chkA as sg [a,b])
  | _ => false
 | .sRet a,sg,e => match e with
  | .Return (some v) _ => z6 a sg v
  | _ => false
 | .sDrop a,sg,e => match e with
  | .Expr v _ => wV v && z6 a sg v
  | _ => false
 | .sIx i b a,sg,e => match e with
  | .Assign [.Subscript (.Name x _) y _] v _ => vis sg i x && WO y && wV v && (z6 b sg y && z6 a sg v)
  | _ => false
 | .sApp i a,sg,e => match e with
  | .Expr (.Call (.Attribute (.Name x _) m ap) [v] [] cp) _ => m == "append" && ap.endLine == cp.line && vis sg i x && !zR v && z6 a sg v
  | _ => false
 | .sForL a tg b,sg,e => match e with
  | .For t it body [] _ => sg.calm && (yR it && uR tg sg t && (z6 a sg it && chkB b sg body))
  | _ => false
 | .sForI ix tg b,sg,e => match e with
  | .For t it body [] _ => sg.calm && (yR it && uR tg sg t && ((chkZ ix t && chkI ix sg it) && chkB b sg body))
  | _ => false
 | .sForR1 as tg b,sg,e => match e with
  | .For t (.Call (.Name f _) [x] [] _) body [] _ => sg.calm && (f == "range" && glb sg "range" && bIn sg "range" && !zR x && uR tg sg t && (chkA as sg [x] && chkB b sg body))
  | _ => false
def chkB : Bx → Sg → List Stmt → Bool
 | .bNil,_,l => l.isEmpty
 | .bOne a,sg,l => match l with
  | [s] => chkS a sg s
  | _ => false
 | .bSeq a b,sg,l => match l with
  | s :: r => chkS a sg s && chkB b sg r
  | _ => false
end
structure SgOk (X : Cx) (sg : Sg) : Prop where
 N : X.N = sg.N
 sc : X.env.scope = sg.sc
 fn : sg.top = true → ∀ x,X.fn x = true
 oc : ∀ x ∈ sg.oc,X.env.scope.names.lookup x = some .cell → X.fn x = true
 calm : sg.calm = true → X.calm = true
 hd : sg.calm = true → X.A.handled = none
 stk : sg.top = true → X.stack = X.env :: X.outer ∧ X.env.frame = some X.env.locals
 nd : X.N.Nodup
 cs : ∀ x d,sg.cs.lookup x = some d → ∃ u v,X.mg x = some u ∧ zw v u ∧ ∀ H,Rep X.K X.mg H d v
 fs : ∀ i ∈ sg.fs,∃ f fd ps,X.mg i.x = some (.ref f) ∧ keepIn X.K (.ref f) = true ∧ J2 X.K fd ps [] ∧ ps.length = i.n ∧ FnOkN (!i.wild) X.prog X.w X.K X.mg X.base i.lv f fd ps (spM X.K X.mg i.n i.F)
 bs : ∀ x ∈ sg.bs,X.mg x = none
 room : RoomN sg.lv X.A
 cl : sg.cl ≠ [] → ∃ T,X.mg "ThrowError" = some (.ref T) ∧ TCls X.K T ∧ ∀ c ∈ sg.cl,∃ C,X.mg c = some (.ref C) ∧ XCls X.K c C T ∧ C ≠ T
 rs : ∀ c ∈ sg.rs,∃ C,X.mg c = some (.ref C) ∧ excIn X.K C VB "ValueError.__new__" = true
 sm : Qi X.K
section
variable {X : Cx} {sg : Sg}
theorem jN (G : SgOk X sg) {x : Str} {k : NameKind} (h : kIs sg x k = true) : X.env.scope.names.lookup x = some k := by
 rw [G.sc]; simpa [kIs] using h
theorem yS (G : SgOk X sg) {x : Str} (h : glb sg x = true) : Gl X x ∧ (x == ("__debug__" : Str)) = false := by
 simp only [glb,Bool.and_eq_true,Bool.not_eq_true'] at h;exact ⟨jN G h.1,h.2⟩
theorem Y7 (G : SgOk X sg) {x : Str} {i : Nat} {pos : Pos} (h : vis sg i x = true) : PE X (.Name x pos) (GJ i) := by
 simp only [vis,Bool.and_eq_true,Bool.or_eq_true,Bool.not_eq_true'] at h;refine pe_var (by rw [G.N]; simpa using h.1.1) ?_ h.2.1 h.2.2;rcases h.1.2 with q | q | q
 ·exact .inl (jN G q)
 ·exact .inr (.inl (jN G q))
 ·exact .inr (.inr (jN G q))
theorem vM (G : SgOk X sg) {x : Str} {i : Nat} (h : locd sg i x = true) : X.N[i]? = some x ∧ Loc X.env.scope x ∧ (X.fn x = true ∨ X.env.scope.names.lookup x = some .local) := by
 simp only [locd,Bool.and_eq_true,Bool.or_eq_true] at h;refine ⟨by rw [G.N]; simpa using h.1,?_⟩;rcases h.2 with q | q
 ·exact ⟨.inl (jN G q),.inr (jN G q)⟩
 ·refine ⟨.inr (jN G q.1),.inl ?_⟩
  rcases q.2 with q2 | q2
  ·exact G.fn q2 x
  ·exact G.oc x (by simpa using q2) (jN G q.1)
theorem JC (G : SgOk X sg) {x : Str} (h : bIn sg x = true) : X.mg x = none := G.bs x (by simpa [bIn] using h)
theorem feq_of {d d' : D} (h : feq d d' = true) : d = d' := by
 cases d <;> cases d' <;> simp [feq] at h <;> first | rfl | (subst h; rfl)
theorem geq_of {d d' : D} (h : geq d d' = true) : d = d' := by
 unfold geq at h;split at h
 ·obtain ⟨h1,h2⟩ := Bool.and_eq_true_iff.mp h
  have := beq_iff_eq.mp h1;have := beq_iff_eq.mp h2
  subst_vars; rfl
 ·exact feq_of h
theorem ok_glR {x : Str} {d : D} {u : Value} {v : V} {pos : Pos} (hg : Gl X x) (hm : X.mg x = some u) (r : zw v u) (hr : ∀ H,Rep X.K X.mg H d v) (hd : (x == ("__debug__" : Str)) = false) : EOk X (.Name x pos) (eC d) :=
 zn (GL hg hm r hd) fun σ H Q ⟨M,E,hl,fr,k⟩ => k _ H ((Got.refl (T0 := []) hl fr).more (T := [(some v,.val d)]) (FR.add fr (hr _)) Step.refl.add)
theorem fIs_of {k : Nat} {x : Str} (h : fIs sg k x = true) : ∃ i,sg.fs[k]? = some i ∧ i.x = x := by
 unfold fIs at h;split at h
 ·rename_i i e; exact ⟨i,e,by simpa using h⟩
 ·cases h
theorem fArg_of {k n : Nat} (h : fArg sg n k = true) : ∃ i,sg.fs[k]? = some i ∧ i.n = n ∧ i.lv ≤ sg.lv ∧ (sg.calm || i.wild) = true := by
 unfold fArg at h;split at h
 ·rename_i i e
  simp only [Bool.and_eq_true,decide_eq_true_eq,beq_iff_eq] at h;exact ⟨i,e,h.1.1,h.1.2,by simpa using h.2⟩
 ·cases h
theorem hd_of (G : SgOk X sg) {b : Bool} (h : (sg.calm || b) = true) : (!b) = true → X.A.handled = none := fun hb => G.hd (by
 cases b with
 | true => cases hb
 | false => simpa using h)
theorem fiF_of {fs : List FI} {k : Nat} {i : FI} (h : fs[k]? = some i) : fiF fs k = i.F ∧ fiX fs k = i.x := by
 unfold fiF fiX; rw [h]; exact ⟨rfl,rfl⟩
theorem Y8 {b : Expr} (h : WO b = true) : ZM b := by
 intro o i;cases b <;> first | rfl | (cases h)
theorem Wi (es : List Expr) (is : List Nat) (G : SgOk X sg) (h : uR.all2 sg is es = true) : PGs X es (YH is) ∧ (assignEach es X.env).length = is.length ∧ (assignEach es X.env).findIdx? (·.1) = none := by
 induction es generalizing is with
 | nil =>
  cases is with
  | nil => exact ⟨pgs_nil,rfl,rfl⟩
  | cons i is => cases h
 | cons e es ih =>
  cases is with
  | nil => cases h
  | cons i is =>
   simp only [uR.all2,Bool.and_eq_true] at h;obtain ⟨h1,h2⟩ := h;cases e with
   | Name x pos =>
    obtain ⟨q1,q2,q3⟩ := vM G h1;obtain ⟨i1,i2,i3⟩ := ih is h2;refine ⟨zAb (GO G.nd q1 q2 q3) i1 rfl,?_,?_⟩
    ·show (assignEach es X.env).length + 1 = _
     rw [i2]; rfl
    ·show List.findIdx? _ ((false,_) :: assignEach es X.env) = none
     simp only [List.findIdx?_cons,i3]; rfl
   | _ => cases h1
def gOf (K : PySem.W.Frag) : Tg → TG
 | .n i => W1 i
 | .t is => gTup K is.length (YH is)
theorem ZJ (tg : Tg) : GOk X (gOf X.K tg) tg.m := by
 cases tg with
 | n i => exact go_name i
 | t is => exact go_tup is rfl
theorem Qt {tg : Tg} {t : Expr} (hcm : sg.calm = true) (G : SgOk X sg) (h : uR tg sg t = true) : PG X t (gOf X.K tg) := by
 cases tg with
 | n i =>
  simp only [uR] at h;cases t with
  | Name x pos =>
   obtain ⟨q1,q2,q3⟩ := vM G h;exact GO G.nd q1 q2 q3
  | _ => cases h
 | t is =>
  simp only [uR] at h;cases t with
  | Tuple es k pos =>
   obtain ⟨q1,q2,q3⟩ := Wi es is G h;exact pg_tup (G.calm hcm) q1 q2 q3
  | _ => cases h
theorem uS (G : SgOk X sg) {N : List Str} {scope : Scope} (hn : N.Nodup) (hcell : ∀ y ∈ scope.names,y.2 = .cell → scope.names.lookup y.1 = some .cell) {cl C ex s H} : SgOk (cxB X N scope cl C ex s H) (Wx sg N scope) where
 N := rfl
 sc := by
  show relabel scope X.env = relab scope sg.sc
  rw [← G.sc]; rfl
 fn := fun h => by cases h
 oc := fun x h _ => by
  obtain ⟨y,hy,rfl⟩ := mem_map.mp (show x ∈ (scope.names.filter fun y => y.2 == .cell).map Prod.fst from h);obtain ⟨q1,q2⟩ := mem_filter.mp hy;show (scope.names.lookup y.1 == some NameKind.cell) = true;rw [hcell y q1 (by simpa using q2)]; rfl
 calm := G.calm
 hd := G.hd
 stk := fun h => by cases h
 nd := hn
 cs := G.cs
 fs := G.fs
 bs := G.bs
 room := G.room
 cl := G.cl
 rs := G.rs
 sm := G.sm
theorem yN (G : SgOk X sg) : SgOk X.nox sg := ⟨G.N,G.sc,G.fn,G.oc,G.calm,G.hd,G.stk,G.nd,G.cs,G.fs,G.bs,G.room,G.cl,G.rs,G.sm⟩
theorem tr_ok (G : SgOk X sg) (pn : List (Addr × Obj)) (E : Value → Shared → Prop) : SgOk (trX X pn E) sg := ⟨G.N,G.sc,G.fn,G.oc,G.calm,G.hd,G.stk,G.nd,G.cs,G.fs,G.bs,G.room,G.cl,G.rs,G.sm⟩
theorem hd_ok (G : SgOk X sg) (a : Addr) : SgOk (hdX X a) { sg with calm := false } := ⟨G.N,G.sc,G.fn,G.oc,fun h => by (cases h),fun h => by (cases h),G.stk,G.nd,G.cs,G.fs,G.bs,⟨G.room.gd,G.room.dp,G.room.un⟩,G.cl,G.rs,G.sm⟩
end
section
open Bool
theorem kit_of (K : PySem.W.Frag) (T : Ty) : Kit K T.s := by
 cases T
 ·exact kit_int K
 ·exact zBJ K
 ·exact QI K
 ·exact zBK K
 ·exact kit_str K
 ·exact zBL K
theorem bt_of (T : Ty) : bootBuiltins T.nm = some (.type T.s) := by
 cases T
 ·exact zCG
 ·exact bt_bool
 ·exact uC
 ·exact QJ
 ·exact bt_str
 ·exact bt_dict
theorem nm_of (T : Ty) : T.nm ≠ "__name__" := by cases T <;> decide +kernel
theorem bin_of {X : Cx} {o : Op2} {a b : Expr} {ma mb : ME} {pos : Pos} (ha : EOk X a ma) (hb : EOk X b mb) : EOk X (.BinOp a o.op b pos) (Yl o.f ma mb) := by
 cases o
 ·exact ur op_addD ro_add ha hb
 ·exact ur op_sub ro_sub ha hb
 ·exact ur (op_mulD.or op_repL) ro_mulG ha hb
 ·exact ur zA4 ro_fdiv ha hb
 ·exact ur op_mod ro_mod ha hb
 ·exact ur op_pow ro_pow ha hb
theorem wM {X : Cx} {sg : Sg} (G : SgOk X sg) : X.A.units + 20 < cLine := by have := G.room.un; omega
theorem room40 {X : Cx} {sg : Sg} (G : SgOk X sg) : X.A.units + 40 < cLine := by have := G.room.un; omega
theorem bt_repr : bootBuiltins "repr" = some (.builtin "repr") := by decide +kernel
theorem room64 {X : Cx} {sg : Sg} (G : SgOk X sg) : X.A.units + 64 < cLine := by have := G.room.un; omega
theorem Qu : bootBuiltins "sorted" = some (.builtin "sorted") := by decide +kernel
theorem zZ {op : CmpOp} {b : Expr} (h : yR b = true) : behindInMarks op b = false := by
 cases b <;> first | rfl | (cases h)
theorem cmp_of {X : Cx} {sg : Sg} (G : SgOk X sg) {o : Cp} {a b : Expr} {ma mb : ME} {pos : Pos} (hn : yR b = true) (ha : EOk X a ma) (hb : EOk X b mb) : EOk X (.Compare a [o.op] [b] pos) (Yl o.f ma mb) := by
 cases o
 ·exact wK op_lt ro_lt (zZ hn) ha hb
 ·exact wK op_le ro_le (zZ hn) ha hb
 ·exact wK op_gt ro_gt (zZ hn) ha hb
 ·exact wK op_ge ro_ge (zZ hn) ha hb
 ·exact wK (op_eq.or (zCH (wM G))) zCN (zZ hn) ha hb
 ·exact wK (op_ne.or (zCI (wM G))) zCO (zZ hn) ha hb
 ·exact wK (WH.or (zCV G.sm (wM G))) (uP (neg := false)) (zZ hn) ha hb
 ·exact wK (JZ.or (Qm G.sm (wM G))) (uP (neg := true)) (zZ hn) ha hb
 ·exact wK op_is ro_is (zZ hn) ha hb
 ·exact wK uF uK (zZ hn) ha hb
theorem cmpT_of {X : Cx} {sg : Sg} (G : SgOk X sg) {o : Cp} {a b : Expr} {ma mb : ME} {pos : Pos} (hn : yR b = true) (ha : EOk X a ma) (hb : EOk X b mb) : TOk X (.Compare a [o.op] [b] pos) (tT (Yl o.f ma mb)) := by
 cases o
 ·exact y0 op_lt ro_lt (zZ hn) ha hb
 ·exact y0 op_le ro_le (zZ hn) ha hb
 ·exact y0 op_gt ro_gt (zZ hn) ha hb
 ·exact y0 op_ge ro_ge (zZ hn) ha hb
 ·exact y0 (op_eq.or (zCH (wM G))) zCN (zZ hn) ha hb
 ·exact y0 (op_ne.or (zCI (wM G))) zCO (zZ hn) ha hb
 ·exact y0 (WH.or (zCV G.sm (wM G))) (uP (neg := false)) (zZ hn) ha hb
 ·exact y0 (JZ.or (Qm G.sm (wM G))) (uP (neg := true)) (zZ hn) ha hb
 ·exact y0 op_is ro_is (zZ hn) ha hb
 ·exact y0 uF uK (zZ hn) ha hb
theorem Qv {o o' : CmpOp} {b c : Expr} (h : yR c = true) : lastMarks [o,o'] [b,c] = false := zZ h
theorem uT {X : Cx} {o : Cp} (h : o.isI = true) : OpR X (compareOp o.op) (rI0 fun i j => .bl (o.b i j)) := by
 cases o <;> first | exact op_lt | exact op_le | exact op_gt | exact op_ge | (cases h)
theorem bi_of {X : Cx} {sg : Sg} (hcm : sg.calm = true) (G : SgOk X sg) (b : Bi) {x : Expr} {es : List Expr} {m : MA} {p pos : Pos} (hg : Gl X b.nm) (hm : X.mg b.nm = none) (hs : yY (x :: es) = true) (ha : AOk X (x :: es) m) : EOk X (.Call (.Name b.nm p) (x :: es) [] pos) (eCB b.f m) := by
 have h1 : zR x = false := by simp only [yY,Bool.and_eq_true,Bool.not_eq_true'] at hs; exact hs.1
 have h2 : yY es = true := by simp only [yY,Bool.and_eq_true,Bool.not_eq_true'] at hs; exact hs.2
 cases b with
 | len => exact j1 WI co_len hg hm bt_len ha (by decide +kernel) (by decide +kernel) h1 h2
 | max => exact j1 (vG (GY (G.calm hcm)) (QT (G.calm hcm))) co_maxG hg hm bt_max ha (by decide +kernel) (by decide +kernel) h1 h2
 | all => exact j1 (zA0 (G.calm hcm)) co_all hg hm bt_all ha (by decide +kernel) (by decide +kernel) h1 h2
 | int => exact YC Ga co_int hg hm zCG ha (by decide +kernel) (by decide +kernel) h1 h2
 | tuple => exact YC ZO zA6 hg hm uC ha (by decide +kernel) (by decide +kernel) h1 h2
 | list => exact YC WJ co_list hg hm QJ ha (by decide +kernel) (by decide +kernel) h1 h2
 | min => exact j1 (vG (vG (GZ (G.calm hcm)) (QU (G.calm hcm))) (Qp (G.calm hcm) (wM G))) co_minH hg hm bt_min ha (by decide +kernel) (by decide +kernel) h1 h2
 | sorted => exact j1 (Wa (room40 G)) zBP hg hm Qu ha (by decide +kernel) (by decide +kernel) h1 h2
 | repr => exact j1 (uu G.sm G.room.gd (room64 G)) co_repr hg hm bt_repr ha (by decide +kernel) (by decide +kernel) h1 h2
theorem Qw (fs : List FI) : ∀ as : Gx,(dG fs as).length = gLen as
 | .nil => rfl
 | .ev a as => congrArg (· + 1) (Qw fs as)
 | .lend i as => congrArg (· + 1) (Qw fs as)
theorem call_ok {X : Cx} {sg : Sg} (G : SgOk X sg) {k : Nat} {as : Gx} {f : Str} {x : Expr} {es : List Expr} {p pos : Pos} (h1 : glb sg f = true) (h2 : fIs sg k f = true) (h3 : fArg sg (gLen as) k = true) (h4 : yY (x :: es) = true) (ha : zCE X (x :: es) (dG sg.fs as)) : EOk X (.Call (.Name f p) (x :: es) [] pos) (jK (fiF sg.fs k) (dG sg.fs as)) := by
 obtain ⟨g1,g2⟩ := yS G h1;obtain ⟨i,e1,e2⟩ := fIs_of h2;obtain ⟨i',e1',e3,e4,e5⟩ := fArg_of h3;rw [e1] at e1'; cases e1';obtain ⟨a,fd,ps,m1,m2,m3,m4,m5⟩ := G.fs i (mem_of_getElem? e1);rw [(fiF_of e1).1];subst e2;simp only [yY,Bool.and_eq_true,Bool.not_eq_true'] at h4;rw [← m4] at m5;exact ok_call m5 (hd_of G e5) (G.room.mono e4) g1 m1 m2 m3 ha (by rw [Qw,m4,e3]) g2 h4.1 h4.2
theorem Qx {X : Cx} {sg : Sg} (G : SgOk X sg) {scope : Scope} : ∀ {caps : List Nat} {capn : List Str},capB sg scope caps capn = true → QL X scope caps capn
 | [],[],_ => trivial
 | [],_ :: _,h => by cases h
 | _ :: _,[],h => by cases h
 | j :: js,x :: xs,h => by
  simp only [capB,Bool.and_eq_true] at h;exact ⟨by rw [G.N]; simpa using h.1.1,by simpa using h.1.2,Qx G h.2⟩
end
section
theorem set_of {x : Str} {p p1 : Pos} {b : Expr} {env : Env} (h : WO b = true) : ∀ v,assign (.Subscript (.Name x p) b p1) env v = (do
   let ov ← holding [v] (eval (.Name x p) env)
   let iv ← holding [v,ov] (eval b env)
   standAt p1
   holding [v,ov,iv] (setItem ov iv v)
   release [v,ov,iv] []) := by
 intro v;cases b <;> first | rfl | (cases h)
theorem Qy {t e : Expr} {l : Nat} {env : Env} (h : wV e = true) : swapsWithSole [t] e l env = pure false := by
 show swapsWith e (some t) l env = pure false
 exact ZQ h
theorem st_of {X : Cx} {k : Bool} {st : Expr} (h : stIs k st = true) : PE X st (tC (.int (z9 k))) := by
 cases k with
 | true =>
  simp only [stIs] at h;split at h
  ·have := beq_iff_eq.mp h; subst this
   exact GK
  ·cases h
 | false =>
  simp only [stIs] at h;split at h
  ·have := beq_iff_eq.mp h; subst this
   exact zn (pe_un zB0 GK) fun σ H Q q => ⟨1,rfl,q⟩
  ·cases h
theorem Qz {X : Cx} {sg : Sg} (G : SgOk X sg) (h : (sg.sc.kind == ScopeKind.function) = true) : X.env.blockKind = .function := by
 have : X.env.scope.kind = .function := by rw [G.sc]; exact beq_iff_eq.mp h
 unfold Env.blockKind;rw [this]; rfl
theorem zCW {X : Cx} {sg : Sg} (G : SgOk X sg) (hk : (sg.sc.kind == ScopeKind.function) = true) {el : Expr} {gs : List Comprehension} {scope : Scope} {vp px : Pos} {x : Str} {l : Nat} : swapsWith (.ListComp el gs scope vp) (some (.Name x px)) l X.env = pure (swB sg x px scope vp) := by
 show (pure (X.env.blockKind == .function && X.env.kindOf x == some .local && px.line == vp.line && !(scope.names.any fun (n,k) => n == x && (k == .local || k == .cell))) : Sem Bool) = _
 rw [Qz G hk];unfold swB kIs Env.kindOf;rw [G.sc];simp
theorem sw_par0 {env : Env} {x y : Str} {px py p p2 : Pos} {a b : Expr} {kt k2 : Nat} (hk : env.blockKind = .function) (hx : env.kindOf x = some .local) (hy : env.kindOf y = some .local) (hl : py.line = px.line) (hxy : (x == y) = false) (ha : zR a = false) (hb : zR b = false) (hf : [a,b].all (foldedForSure 8) = false) (hc : [a,b].all (constantsAlone 8) = false) :
  swappedStores [.Tuple [.Name x px,.Name y py] kt p] (.Tuple [a,b] k2 p2) env = pure (some [x,y]) := by
 have sa : ∀ e : Expr,(match e with | .Starred _ _ => true | _ => false) = zR e := fun e => by cases e <;> rfl
 have e1 : ([Expr.Name x px,Expr.Name y py].filterMap fun
  | .Name id pos => if env.kindOf id == some .local && pos.line == px.line then some id else none
  | _ => none) = [x,y] := by simp [hx,hy,hl]
 have e2 : [x,y].eraseDups.length = 2 := by
  have : y ≠ x := fun z => by subst z; simp at hxy
  have h2 : (y == x) = false := by simpa using this
  simp [List.eraseDups,List.eraseDupsBy,List.eraseDupsBy.loop,h2]
 have e3 : ([a,b].any fun | .Starred .. => true | _ => false) = false := by
  simp only [any_cons,List.any_nil,Bool.or_false];rw [sa,sa,ha,hb]; rfl
 show (if !(2 == 2 || 2 == 3) || 2 != 2 || env.blockKind != .function then pure none else if ([a,b].any fun | .Starred .. => true | _ => false) then pure none else
  (let names := ([Expr.Name x px,Expr.Name y py].filterMap fun
  | .Name id pos => if env.kindOf id == some .local && pos.line == px.line then some id else none
  | _ => none)
  if names.length != 2 || names.eraseDups.length != names.length then pure none else if [a,b].all (foldedForSure 8) then pure none else if [a,b].all (constantsAlone 8) then (do unsupported "assign.tuple-of-constant-expressions:order-of-the-stores"; pure (some names)) else pure (some names)) : Sem (Option (List Str))) = _
 rw [hk,e3,e1,hf,hc];simp [e2]
theorem sw_par {X : Cx} {sg : Sg} (G : SgOk X sg) {i j : Nat} {x y : Str} {px py p p2 : Pos} {a b : Expr} {kt k2 : Nat} (h : Qs sg i j x y px py a b = true) : swappedStores [.Tuple [.Name x px,.Name y py] kt p] (.Tuple [a,b] k2 p2) X.env = pure (some [x,y]) := by
 unfold Qs at h;simp only [Bool.and_eq_true,Bool.not_eq_true',beq_iff_eq,bne_iff_ne] at h;obtain ⟨⟨⟨⟨⟨⟨⟨⟨⟨⟨⟨kk,_⟩,_⟩,_⟩,l1⟩,l2⟩,ln⟩,xy⟩,sa⟩,sb⟩,f1⟩,f2⟩ := h;exact sw_par0 (Qz G (by rw [kk]; rfl)) (jN G l1) (jN G l2) ln xy sa sb f1 f2
theorem zCX {X : Cx} {op : BoolOp} {vs : List Expr} {p : Pos} {m : MT} (h : TOk X (.BoolOp op vs p) m) : WOk X (.BoolOp op vs p) m := fun wh => h
theorem Q0 {e : Expr} {env : Env} {cpos : Pos} (h : zR e = false) : ((backTo cpos (starEach (e :: []) env)).all (fun x => !x.1) && (backToKw cpos (keywordEach [] env)).all (fun x => x.1.isSome)
   && decide ((e :: ([] : List Expr)).length + ([] : List Keyword).length + (if ([] : List Keyword).isEmpty then 0 else 1) < 30)) = true := by
 rw [zN h]; rfl
theorem zK {a b : Bool} (h : (a && b) = true) : a = true ∧ b = true := by simpa using h
theorem nst {a : Bool} (h : (!a) = true) : a = false := by simpa using h
theorem Zj : bootBuiltins "ValueError" = some (.type "ValueError") := by decide +kernel
mutual
theorem sE : ∀ (t : Ex) {X : Cx} {sg : Sg} {e : Expr},SgOk X sg → z6 t sg e = true → EOk X e (dE sg.fs t)
 | .c d,X,sg,e,G,h => by
  cases e with
  | Constant k w1 w2 =>
   replace h : (cIs d k) = true := h;unfold cIs at h;split at h
   ·exact ok_non
   ·have := (beq_iff_eq.mp h); subst this; exact ok_bl
   ·have := (beq_iff_eq.mp h); subst this; exact ok_int
   ·have := (beq_iff_eq.mp h); subst this; exact ok_str
   ·cases h
  | _ => exact nf h
 | .gl d,X,sg,e,G,h => by
  cases e with
  | Name x w1 =>
   replace h : (glb sg x && gIs sg x d) = true := h;obtain ⟨h1,h2⟩ := zK h;obtain ⟨g1,g2⟩ := yS G h1;unfold gIs at h2;split at h2
   ·rename_i d' e
    have := geq_of h2; subst this;obtain ⟨u,v,q1,q2,q3⟩ := G.cs x d e;exact ok_glR g1 q1 q2 q3 g2
   ·cases h2
  | _ => exact nf h
 | .var i,X,sg,e,G,h => by
  cases e with
  | Name x w1 =>
   replace h : (vis sg i x) = true := h;exact ok_var i (Y7 G h)
  | _ => exact nf h
 | .mov i,X,sg,e,G,h => by
  cases e with
  | Name x w1 =>
   replace h : (vis sg i x) = true := h;exact ok_move i (Y7 G h)
  | _ => exact nf h
 | .bin o a b,X,sg,e,G,h => by
  cases e with
  | BinOp x op y w1 =>
   replace h : (op == o.op && (z6 a sg x && z6 b sg y)) = true := h;obtain ⟨h1,h2⟩ := zK h;obtain ⟨h2,h3⟩ := zK h2;have := beq_iff_eq.mp h1; subst this;exact bin_of (sE a G h2) (sE b G h3)
  | _ => exact nf h
 | .cmp o a b,X,sg,e,G,h => by
  cases e with
  | Compare x v1 v2 w1 =>
   cases v1 with
   | cons op v3 =>
    cases v3 with
    | nil =>
     cases v2 with
     | cons y v4 =>
      cases v4 with
      | nil =>
       replace h : (op == o.op && yR y && (z6 a sg x && z6 b sg y)) = true := h;obtain ⟨h1,h2⟩ := zK h;obtain ⟨h1,h0⟩ := zK h1;obtain ⟨h2,h3⟩ := zK h2;have := beq_iff_eq.mp h1; subst this;exact cmp_of G h0 (sE a G h2) (sE b G h3)
      | _ => exact nf h
     | _ => exact nf h
    | _ => exact nf h
   | _ => exact nf h
  | _ => exact nf h
 | .chain o o' a b c,X,sg,e,G,h => by
  cases e with
  | Compare x v5 v6 w1 =>
   cases v5 with
   | cons op v7 =>
    cases v7 with
    | cons op' v8 =>
     cases v8 with
     | nil =>
      cases v6 with
      | cons y v9 =>
       cases v9 with
       | cons z v10 =>
        cases v10 with
        | nil =>
         replace h : (op == o.op && op' == o'.op && o.isI && o'.isI && yR z && (z6 a sg x && (z6 b sg y && z6 c sg z))) = true := h;obtain ⟨h1,h2⟩ := zK h;obtain ⟨h1,k5⟩ := zK h1;obtain ⟨h1,k4⟩ := zK h1;obtain ⟨h1,k3⟩ := zK h1;obtain ⟨k1,k2⟩ := zK h1;obtain ⟨h2,h3⟩ := zK h2;obtain ⟨h3,h4⟩ := zK h3;have := beq_iff_eq.mp k1; subst this;have := beq_iff_eq.mp k2; subst this;exact zBM (uT k3) (uT k4) (sE a G h2) (sE b G h3) (sE c G h4) (Qv k5)
        | _ => exact nf h
       | _ => exact nf h
      | _ => exact nf h
     | _ => exact nf h
    | _ => exact nf h
   | _ => exact nf h
  | _ => exact nf h
 | .neg a,X,sg,e,G,h => by
  cases e with
  | UnaryOp v11 x w1 =>
   cases v11 with
   | USub =>
    replace h : (z6 a sg x) = true := h;exact ok_neg (sE a G h)
   | _ => exact nf h
  | _ => exact nf h
 | .not a,X,sg,e,G,h => by
  cases e with
  | UnaryOp v12 x w1 =>
   cases v12 with
   | Not =>
    replace h : (z6 a sg x) = true := h;exact ok_not (sE a G h)
   | _ => exact nf h
  | _ => exact nf h
 | .and a b,X,sg,e,G,h => by
  cases e with
  | BoolOp v13 v14 p =>
   cases v13 with
   | And =>
    cases v14 with
    | cons x v15 =>
     cases v15 with
     | cons y r =>
      replace h : (z6 a sg x && _) = true := h;obtain ⟨h1,h2⟩ := zK h;cases r with
      | nil => exact zB9 (sE a G h1) (ok_one (sE b G h2))
      | cons z r' => exact zB9 (sE a G h1) (sE b G h2)
     | _ => exact nf h
    | _ => exact nf h
   | _ => exact nf h
  | _ => exact nf h
 | .tup as,X,sg,e,G,h => by
  cases e with
  | Tuple es w1 w2 =>
   replace h : (chkA as sg es) = true := h;exact ok_tup (sA as G h)
  | _ => exact nf h
 | .lst as,X,sg,e,G,h => by
  cases e with
  | List es w1 =>
   replace h : (chkA as sg es) = true := h;exact ok_lst (sA as G h)
  | _ => exact nf h
 | .dic,X,sg,e,G,h => by
  cases e with
  | Dict v19 v20 w1 =>
   cases v19 with
   | nil =>
    cases v20 with
    | nil =>
     replace h : (true) = true := h;exact ok_dic pe_dicK
    | _ => exact nf h
   | _ => exact nf h
  | _ => exact nf h
 | .ix a b,X,sg,e,G,h => by
  cases e with
  | Subscript x y w1 =>
   replace h : (WO y && (z6 a sg x && z6 b sg y)) = true := h;obtain ⟨h1,h2⟩ := zK h;obtain ⟨h2,h3⟩ := zK h2;exact ok_ix ix_both ro_ix (Y8 h1) (sE a G h2) (sE b G h3)
  | _ => exact nf h
 | .ixO i b,X,sg,e,G,h => by
  cases e with
  | Subscript v21 y w2 =>
   cases v21 with
   | Name x w1 =>
    replace h : (vis sg i x && WO y && z6 b sg y) = true := h;obtain ⟨h1,h2⟩ := zK h;obtain ⟨h1,h3⟩ := zK h1;exact ok_ixO i (Y7 G h1) (sE b G h2) (Y8 h3)
   | _ => exact nf h
  | _ => exact nf h
 | .sl a l hh,X,sg,e,G,h => by
  cases e with
  | Subscript x v27 w2 =>
   cases v27 with
   | Slice lo hi v28 w1 =>
    cases v28 with
    | none =>
     replace h : (z6 a sg x && (chkO l sg lo && chkO hh sg hi)) = true := h;obtain ⟨h1,h2⟩ := zK h;obtain ⟨h2,h3⟩ := zK h2;exact ok_sl (sE a G h1) (sO l G h2) (sO hh G h3)
    | _ => exact nf h
   | _ => exact nf h
  | _ => exact nf h
 | .comp nl loc capn caps it tg tt el,X,sg,e,G,h => by
  cases e with
  | ListComp elt v29 scope w1 =>
   cases v29 with
   | cons v30 v31 =>
    cases v30 with
    | mk target iter ifs v32 =>
     cases v32 with
     | ofNat v33 =>
      cases v33 with
      | zero =>
       cases v31 with
       | nil =>
        replace h : (sg.calm && (Qr sg nl loc capn caps scope && yR iter && ((chkZ it target && chkI it sg iter) && (uR tg (Wx sg (loc ++ capn) scope) target && (_ && z6 el (Wx sg (loc ++ capn) scope) elt))))) = true := h;obtain ⟨hcm,h⟩ := zK h;obtain ⟨h1,h2⟩ := zK h;obtain ⟨h1,k9⟩ := zK h1;unfold Qr at h1;obtain ⟨h1,k7⟩ := zK h1;obtain ⟨h1,k6⟩ := zK h1;obtain ⟨h1,k5⟩ := zK h1;obtain ⟨h1,k4⟩ := zK h1;obtain ⟨h1,k3⟩ := zK h1;obtain ⟨k1,k2⟩ := zK h1;obtain ⟨q1,q2⟩ := zK h2;obtain ⟨q0,q1⟩ := zK q1;obtain ⟨q2,q3⟩ := zK q2;obtain ⟨q3,q4⟩ := zK q3;have nd : (loc ++ capn).Nodup := of_decide_eq_true k3;have kc : ∀ y ∈ scope.names,y.2 = .cell → scope.names.lookup y.1 = some .cell := fun y hy hc => by
         have := all_eq_true.mp k5 y hy;rw [hc] at this;simpa using this
        have I : ∀ cl C ex s H,SgOk (cxB X.nox (loc ++ capn) scope cl C ex s H) (Wx sg (loc ++ capn) scope) := fun _ _ _ _ _ => uS (yN G) nd kc
        refine no_E (ok_lc (X := X.nox) loc capn (beq_iff_eq.mp k1) (fun e s z => z) (G.calm hcm) (beq_iff_eq.mp k2) (fun y hy hl => ?_) (fun y hy hc => ?_) (by rw [show X.env.kindOf = fun n => X.env.scope.names.lookup n from rfl,G.sc]; exact k6) (Qx (yN G) k7) (sI it (yN G) q1 q0) (g := gOf X.K tg) (fun cl C ex s H => Qt (sg := Wx sg (loc ++ capn) scope) hcm (I cl C ex s H) q2) (ZJ tg) (fun cl C ex s H => ?_) (fun cl C ex s H => sE (sg := Wx sg (loc ++ capn) scope) el (I cl C ex s H) q4) (jI k9))
        ·have := all_eq_true.mp k4 y hy
         rw [hl] at this;simpa using this
        ·exact kc y hy hc
        ·cases ifs with
         | nil =>
          cases tt <;> first | (cases q3; done) | skip;exact QD
         | cons c cs =>
          obtain ⟨q3,q5⟩ := zK q3;have := isEmpty_iff.mp q3; subst this;exact QE (sT (sg := Wx sg (loc ++ capn) scope) tt (I cl C ex s H) q5)
       | _ => exact nf h
      | _ => exact nf h
     | _ => exact nf h
   | _ => exact nf h
  | _ => exact nf h
 | .is T a,X,sg,e,G,h => by
  cases e with
  | Call v34 v35 v36 w3 =>
   cases v34 with
   | Name f w1 =>
    cases v35 with
    | cons x v37 =>
     cases v37 with
     | cons v38 v39 =>
      cases v38 with
      | Name y w2 =>
       cases v39 with
       | nil =>
        cases v36 with
        | nil =>
         replace h : (f == "isinstance" && y == T.nm && glb sg "isinstance" && bIn sg "isinstance" && glb sg T.nm && bIn sg T.nm && !zR x && z6 a sg x) = true := h;obtain ⟨h1,h2⟩ := zK h;obtain ⟨h1,k7⟩ := zK h1;obtain ⟨h1,k6⟩ := zK h1;obtain ⟨h1,k5⟩ := zK h1;obtain ⟨h1,k4⟩ := zK h1;obtain ⟨h1,k3⟩ := zK h1;obtain ⟨k1,k2⟩ := zK h1;have := beq_iff_eq.mp k1; subst this;have := beq_iff_eq.mp k2; subst this;exact ok_is (kit_of _ T) (yS G k3).1 (JC G k4) (yS G k5).1 (JC G k6) (bt_of T) (sE a G h2) jU (nm_of T) (yS G k5).2 (nst k7)
        | _ => exact nf h
       | _ => exact nf h
      | _ => exact nf h
     | _ => exact nf h
    | _ => exact nf h
   | _ => exact nf h
  | _ => exact nf h
 | .cB b as,X,sg,e,G,h => by
  cases e with
  | Call v40 v41 v42 w2 =>
   cases v40 with
   | Name f w1 =>
    cases v41 with
    | cons x es =>
     cases v42 with
     | nil =>
      replace h : (sg.calm && (f == b.nm && glb sg b.nm && bIn sg b.nm && yY (x :: es) && chkA as sg (x :: es))) = true := h;obtain ⟨hcm,h⟩ := zK h;obtain ⟨h1,h2⟩ := zK h;obtain ⟨h1,k4⟩ := zK h1;obtain ⟨h1,k3⟩ := zK h1;obtain ⟨k1,k2⟩ := zK h1;have := beq_iff_eq.mp k1; subst this;exact bi_of hcm G b (yS G k2).1 (JC G k3) k4 (sA as G h2)
     | _ => exact nf h
    | _ => exact nf h
   | _ => exact nf h
  | _ => exact nf h
 | .call k as,X,sg,e,G,h => by
  cases e with
  | Call v43 v44 v45 w2 =>
   cases v43 with
   | Name f w1 =>
    cases v44 with
    | cons x es =>
     cases v45 with
     | nil =>
      replace h : (glb sg f && fIs sg k f && fArg sg (gLen as) k && yY (x :: es) && chkG as sg (x :: es)) = true := h;obtain ⟨h1,h2⟩ := zK h;obtain ⟨h1,k4⟩ := zK h1;obtain ⟨h1,k3⟩ := zK h1;obtain ⟨k1,k2⟩ := zK h1;exact call_ok G k1 k2 k3 k4 (sG as G h2)
     | _ => exact nf h
    | _ => exact nf h
   | _ => exact nf h
  | _ => exact nf h
 | .stp k a,X,sg,e,G,h => by
  cases e with
  | Subscript x v46 w2 =>
   cases v46 with
   | Slice v47 v48 v49 w1 =>
    cases v47 with
    | none =>
     cases v48 with
     | none =>
      cases v49 with
      | some st =>
       replace h : (stIs k st && z6 a sg x) = true := h;obtain ⟨h1,h2⟩ := zK h;exact ok_step k (sE a G h2) (st_of h1)
      | _ => exact nf h
     | _ => exact nf h
    | _ => exact nf h
   | _ => exact nf h
  | _ => exact nf h
 | .isC cl y a,X,sg,e,G,h => by
  cases e with
  | Call v200 v201 v202 w1 =>
   cases v200 with
   | Name f w2 =>
    cases v201 with
    | cons x v203 =>
     cases v203 with
     | cons v204 v205 =>
      cases v204 with
      | Name z w3 =>
       cases v205 with
       | nil =>
        cases v202 with
        | nil =>
         replace h : (f == "isinstance" && z == y && glb sg "isinstance" && bIn sg "isinstance" && glb sg y && (cl == sg.cl && sg.cl.contains y) && !zR x && z6 a sg x) = true := h;obtain ⟨h,h2⟩ := zK h;obtain ⟨h,k7⟩ := zK h;obtain ⟨h,k6⟩ := zK h;obtain ⟨h,k5⟩ := zK h;obtain ⟨h,k4⟩ := zK h;obtain ⟨h,k3⟩ := zK h;obtain ⟨k1,k2⟩ := zK h;obtain ⟨k10,k8⟩ := zK k6;have := beq_iff_eq.mp k1; subst this;have := beq_iff_eq.mp k2; subst this;have ecl : cl = sg.cl := by simpa using k10
         subst ecl;have hy : z ∈ sg.cl := by simpa using k8
         obtain ⟨T,t1,t2,t3⟩ := G.cl (List.ne_nil_of_mem hy);obtain ⟨Y,y1,y2,y3⟩ := t3 z hy;exact ok_isC (fun c hc => let ⟨C,c1,c2,_⟩ := t3 c hc; ⟨C,c1,c2⟩) y1 y2 y3 (yS G k3).1 (JC G k4) (yS G k5).1 (sE a G h2) jU (yS G k5).2 (nst k7)
        | _ => exact nf h
       | _ => exact nf h
      | _ => exact nf h
     | _ => exact nf h
    | _ => exact nf h
   | _ => exact nf h
  | _ => exact nf h
 | .isV cl a,X,sg,e,G,h => by
  cases e with
  | Call v200 v201 v202 w1 =>
   cases v200 with
   | Name f w2 =>
    cases v201 with
    | cons x v203 =>
     cases v203 with
     | cons v204 v205 =>
      cases v204 with
      | Name z w3 =>
       cases v205 with
       | nil =>
        cases v202 with
        | nil =>
         replace h : (f == "isinstance" && z == "ValueError" && glb sg "isinstance" && bIn sg "isinstance" && glb sg "ValueError" && bIn sg "ValueError" && (cl == sg.cl && !sg.cl.isEmpty) && !zR x && z6 a sg x) = true := h;obtain ⟨h,h2⟩ := zK h;obtain ⟨h,k7⟩ := zK h;obtain ⟨h,k6⟩ := zK h;obtain ⟨h,k9⟩ := zK h;obtain ⟨h,k5⟩ := zK h;obtain ⟨h,k4⟩ := zK h;obtain ⟨h,k3⟩ := zK h;obtain ⟨k1,k2⟩ := zK h;obtain ⟨k10,k8⟩ := zK k6;have := beq_iff_eq.mp k1; subst this;have := beq_iff_eq.mp k2; subst this;have ecl : cl = sg.cl := by simpa using k10
         subst ecl;obtain ⟨T,t1,t2,t3⟩ := G.cl (fun z => by rw [z] at k8; cases k8);exact ok_isV (T := T) (fun c hc => let ⟨C,c1,c2,_⟩ := t3 c hc; ⟨C,c1,c2⟩) (yS G k3).1 (JC G k4) (yS G k5).1 (JC G k9) Zj (sE a G h2) jU (nst k7)
        | _ => exact nf h
       | _ => exact nf h
      | _ => exact nf h
     | _ => exact nf h
    | _ => exact nf h
   | _ => exact nf h
  | _ => exact nf h
 | .cnt a b,X,sg,e,G,h => by
  cases e with
  | Call v200 v201 v202 cp =>
   cases v200 with
   | Attribute v206 m ap =>
    cases v206 with
    | Name x p =>
     cases v201 with
     | cons v v203 =>
      cases v203 with
      | nil =>
       cases v202 with
       | nil =>
        replace h : (m == "count" && ap.endLine == cp.line && !zR v && (z6 a sg (.Name x p) && z6 b sg v)) = true := h;obtain ⟨h,h2⟩ := zK h;obtain ⟨h2,h3⟩ := zK h2;obtain ⟨h,k3⟩ := zK h;obtain ⟨k1,k2⟩ := zK h;have := beq_iff_eq.mp k1; subst this;exact ok_cnt (sE a G h2) (sE b G h3) rfl (nst k3) k2 (Q0 (nst k3))
       | _ => exact nf h
      | _ => exact nf h
     | _ => exact nf h
    | _ => exact nf h
   | _ => exact nf h
  | _ => exact nf h
 | .idx a b,X,sg,e,G,h => by
  cases e with
  | Call v200 v201 v202 cp =>
   cases v200 with
   | Attribute v206 m ap =>
    cases v206 with
    | Name x p =>
     cases v201 with
     | cons v v203 =>
      cases v203 with
      | nil =>
       cases v202 with
       | nil =>
        replace h : (m == "index" && ap.endLine == cp.line && !zR v && (z6 a sg (.Name x p) && z6 b sg v)) = true := h;obtain ⟨h,h2⟩ := zK h;obtain ⟨h2,h3⟩ := zK h2;obtain ⟨h,k3⟩ := zK h;obtain ⟨k1,k2⟩ := zK h;have := beq_iff_eq.mp k1; subst this;exact ok_idxG G.sm (wM G) (sE a G h2) (sE b G h3) rfl (nst k3) k2 (Q0 (nst k3))
       | _ => exact nf h
      | _ => exact nf h
     | _ => exact nf h
    | _ => exact nf h
   | _ => exact nf h
  | _ => exact nf h
theorem sT : ∀ (t : Tx) {X : Cx} {sg : Sg} {e : Expr},SgOk X sg → chkT t sg e = true → TOk X e (dT sg.fs t)
 | .tAnd a b,X,sg,e,G,h => by
  cases e with
  | BoolOp v59 v60 p =>
   cases v59 with
   | And =>
    cases v60 with
    | cons x v61 =>
     cases v61 with
     | cons y r =>
      replace h : (chkT a sg x && _) = true := h;obtain ⟨h1,h2⟩ := zK h;cases r with
      | nil => exact tk_w (zB8 (sT a G h1) (wk_and1 (sT b G h2)))
      | cons z r' => exact tk_w (zB8 (sT a G h1) (zCX (sT b G h2)))
     | _ => exact nf h
    | _ => exact nf h
   | _ => exact nf h
  | _ => exact nf h
 | .tOr a b,X,sg,e,G,h => by
  cases e with
  | BoolOp v62 v63 p =>
   cases v62 with
   | Or =>
    cases v63 with
    | cons x v64 =>
     cases v64 with
     | cons y r =>
      replace h : (chkT a sg x && _) = true := h;obtain ⟨h1,h2⟩ := zK h;cases r with
      | nil => exact tk_w (wk_or (sT a G h1) (wk_or1 (sT b G h2)))
      | cons z r' => exact tk_w (wk_or (sT a G h1) (zCX (sT b G h2)))
     | _ => exact nf h
    | _ => exact nf h
   | _ => exact nf h
  | _ => exact nf h
 | .tNot a,X,sg,e,G,h => by
  cases e with
  | UnaryOp v65 x w1 =>
   cases v65 with
   | Not =>
    replace h : (chkT a sg x) = true := h;exact tk_not (sT a G h)
   | _ => exact nf h
  | _ => exact nf h
 | .tE a,X,sg,e,G,h => by
  obtain ⟨h1,h2⟩ := zK h;rcases Bool.or_eq_true _ _ |>.mp h1 with h1 | h1
  ·exact ok_test (sE a G h2) (test_of h1)
  ·cases a with
   | cmp o a b =>
    cases e with
    | Compare x v66 v67 w1 =>
     cases v66 with
     | cons op v68 =>
      cases v68 with
      | nil =>
       cases v67 with
       | cons y v69 =>
        cases v69 with
        | nil =>
         replace h2 : (op == o.op && yR y && (z6 a sg x && z6 b sg y)) = true := h2;obtain ⟨h1,k1⟩ := zK h2;obtain ⟨h1,h0⟩ := zK h1;obtain ⟨k2,k3⟩ := zK k1;have := beq_iff_eq.mp h1; subst this;exact cmpT_of G h0 (sE a G k2) (sE b G k3)
        | _ => exact absurd h2 Bool.false_ne_true
       | _ => exact absurd h2 Bool.false_ne_true
      | _ => exact absurd h2 Bool.false_ne_true
     | _ => exact absurd h2 Bool.false_ne_true
    | _ => exact absurd h2 Bool.false_ne_true
   | chain o o' a b c =>
    cases e with
    | Compare x v70 v71 w1 =>
     cases v70 with
     | cons op v72 =>
      cases v72 with
      | cons op' v73 =>
       cases v73 with
       | nil =>
        cases v71 with
        | cons y v74 =>
         cases v74 with
         | cons z v75 =>
          cases v75 with
          | nil =>
           replace h2 : (op == o.op && op' == o'.op && o.isI && o'.isI && yR z && (z6 a sg x && (z6 b sg y && z6 c sg z))) = true := h2;obtain ⟨h1,j2⟩ := zK h2;obtain ⟨h1,k5⟩ := zK h1;obtain ⟨h1,k4⟩ := zK h1;obtain ⟨h1,k3⟩ := zK h1;obtain ⟨k1,k2⟩ := zK h1;obtain ⟨j2,j3⟩ := zK j2;obtain ⟨j3,j4⟩ := zK j3;have := beq_iff_eq.mp k1; subst this;have := beq_iff_eq.mp k2; subst this;exact QK (uT k3) (uT k4) (sE a G j2) (sE b G j3) (sE c G j4) (Qv k5)
          | _ => exact absurd h2 Bool.false_ne_true
         | _ => exact absurd h2 Bool.false_ne_true
        | _ => exact absurd h2 Bool.false_ne_true
       | _ => exact absurd h2 Bool.false_ne_true
      | _ => exact absurd h2 Bool.false_ne_true
     | _ => exact absurd h2 Bool.false_ne_true
    | _ => exact absurd h2 Bool.false_ne_true
   | _ => cases h1
 | .tBor i a,X,sg,e,G,h => ok_bor i (sT a G h)
 | .tTr,X,sg,e,G,h => absurd h Bool.false_ne_true
theorem sA : ∀ (t : Ax) {X : Cx} {sg : Sg} {e : List Expr},SgOk X sg → chkA t sg e = true → AOk X e (dA sg.fs t)
 | .nil,X,sg,e,G,h => by
  have := isEmpty_iff.mp h; subst this;exact ak_nil
 | .cons a as,X,sg,e,G,h => by
  cases e with
  | cons x r =>
   replace h : (!zR x && (z6 a sg x && chkA as sg r)) = true := h;obtain ⟨h1,h2⟩ := zK h;obtain ⟨h2,h3⟩ := zK h2;exact ak_cons (sE a G h2) (sA as G h3) (nst h1)
  | _ => exact nf h
theorem sG : ∀ (t : Gx) {X : Cx} {sg : Sg} {e : List Expr},SgOk X sg → chkG t sg e = true → zCE X e (dG sg.fs t)
 | .nil,X,sg,e,G,h => by
  have := isEmpty_iff.mp h; subst this;exact ga_nil
 | .ev a as,X,sg,e,G,h => by
  cases e with
  | cons x r =>
   replace h : (!zR x && (z6 a sg x && chkG as sg r)) = true := h;obtain ⟨h1,h2⟩ := zK h;obtain ⟨h2,h3⟩ := zK h2;exact ga_ev (sE a G h2) (sG as G h3) (nst h1)
  | _ => exact nf h
 | .lend i as,X,sg,e,G,h => by
  cases e with
  | cons v76 r =>
   cases v76 with
   | Name x w1 =>
    replace h : (vis sg i x && chkG as sg r) = true := h;obtain ⟨h1,h2⟩ := zK h;exact ga_lend (Y7 G h1) (sG as G h2)
   | _ => exact nf h
  | _ => exact nf h
theorem sO : ∀ (t : Ox) {X : Cx} {sg : Sg} {e : Option Expr},SgOk X sg → chkO t sg e = true → OOk X e (dO sg.fs t)
 | .oN,X,sg,e,G,h => by
  cases e with
  | none => exact oo_none
  | some e => cases h
 | .oS a,X,sg,e,G,h => by
  cases e with
  | none => cases h
  | some e => exact oo_some (sE a G h)
theorem sI : ∀ (t : Ix) {X : Cx} {sg : Sg} {tg e : Expr},SgOk X sg → chkI t sg e = true → chkZ t tg = true → IOk X tg e (dI sg.fs t)
 | .iL a,X,sg,tg,e,G,h,hz => by
  exact io_list (sE a G h)
 | .iT a,X,sg,tg,e,G,h,hz => by
  exact io_tup (sE a G h)
 | .iR1 as,X,sg,tg,e,G,h,hz => by
  cases e with
  | Call v77 v78 v79 w2 =>
   cases v77 with
   | Name f w1 =>
    cases v78 with
    | cons x v80 =>
     cases v80 with
     | nil =>
      cases v79 with
      | nil =>
       replace h : (f == "range" && glb sg "range" && bIn sg "range" && !zR x && chkA as sg [x]) = true := h;obtain ⟨h1,h2⟩ := zK h;obtain ⟨h1,k4⟩ := zK h1;obtain ⟨h1,k3⟩ := zK h1;obtain ⟨k1,k2⟩ := zK h1;have := beq_iff_eq.mp k1; subst this;exact io_r1 (yS G k2).1 (JC G k3) (sA as G h2) (nst k4)
      | _ => exact nf h
     | _ => exact nf h
    | _ => exact nf h
   | _ => exact nf h
  | _ => exact nf h
 | .iE t1 as,X,sg,tg,e,G,h,hz => by
  cases e with
  | Call v77 v78 v79 w2 =>
   cases v77 with
   | Name f w1 =>
    cases v78 with
    | cons x v80 =>
     cases v80 with
     | nil =>
      cases v79 with
      | nil =>
       replace h : (f == "enumerate" && glb sg "enumerate" && bIn sg "enumerate" && !zR x && chkA as sg [x]) = true := h;obtain ⟨h1,h2⟩ := zK h;obtain ⟨h1,k4⟩ := zK h1;obtain ⟨h1,k3⟩ := zK h1;obtain ⟨k1,k2⟩ := zK h1;have := beq_iff_eq.mp k1; subst this;cases tg with
       | Tuple tE tX tP => exact io_enum (yS G k2).1 (JC G k3) (sA as G h2) (nst k4)
       | _ => exact absurd hz Bool.false_ne_true
      | _ => exact nf h
     | _ => exact nf h
    | _ => exact nf h
   | _ => exact nf h
  | _ => exact nf h
end
theorem zBc {X : Cx} {sg : Sg} (G : SgOk X sg) {i : Nat} {x : Str} {px spos : Pos} {nl : Nat} {loc capn : List Str} {caps : List Nat} {it : Ix} {tg : Tg} {tt : Tx} {el : Ex} {v : Expr} (hi : X.N[i]? = some x) (hx : Loc X.env.scope x) (hf : X.fn x = true ∨ X.env.scope.names.lookup x = some .local)
  (hsw : swapsWith v (some (.Name x px)) spos.line X.env = pure true) (h : z6 (.comp nl loc capn caps it tg tt el) sg v = true) : SOk X (.Assign [.Name x px] v spos) (sSet i (dE sg.fs (.comp nl loc capn caps it tg tt el))) := by
 cases v with
 | ListComp elt v86 scope w1 =>
  cases v86 with
  | cons v87 v88 =>
   cases v87 with
   | mk target iter ifs v89 =>
    cases v89 with
    | ofNat v90 =>
     cases v90 with
     | zero =>
      cases v88 with
      | nil =>
       replace h : (sg.calm && (Qr sg nl loc capn caps scope && yR iter && ((chkZ it target && chkI it sg iter) && (uR tg (Wx sg (loc ++ capn) scope) target && (_ && z6 el (Wx sg (loc ++ capn) scope) elt))))) = true := h;obtain ⟨hcm,h⟩ := zK h;obtain ⟨h1,h2⟩ := zK h;obtain ⟨h1,k9⟩ := zK h1;unfold Qr at h1;obtain ⟨h1,k7⟩ := zK h1;obtain ⟨h1,k6⟩ := zK h1;obtain ⟨h1,k5⟩ := zK h1;obtain ⟨h1,k4⟩ := zK h1;obtain ⟨h1,k3⟩ := zK h1;obtain ⟨k1,k2⟩ := zK h1;obtain ⟨q1,q2⟩ := zK h2;obtain ⟨q0,q1⟩ := zK q1;obtain ⟨q2,q3⟩ := zK q2;obtain ⟨q3,q4⟩ := zK q3;have nd : (loc ++ capn).Nodup := of_decide_eq_true k3;have kc : ∀ y ∈ scope.names,y.2 = .cell → scope.names.lookup y.1 = some .cell := fun y hy hc => by
        have := all_eq_true.mp k5 y hy;rw [hc] at this;simpa using this
       have I : ∀ cl C ex s H,SgOk (cxB X.nox (loc ++ capn) scope cl C ex s H) (Wx sg (loc ++ capn) scope) := fun _ _ _ _ _ => uS (yN G) nd kc
       refine no_set ▸ no_S (sk_lc (X := X.nox) loc capn G.nd hi hx hf (beq_iff_eq.mp k1) (fun e s z => z) (G.calm hcm) (beq_iff_eq.mp k2) (fun y hy hl => ?_) (fun y hy hc => ?_) (by rw [show X.env.kindOf = fun n => X.env.scope.names.lookup n from rfl,G.sc]; exact k6) (Qx (yN G) k7) (sI it (yN G) q1 q0) (g := gOf X.K tg) (fun cl C ex s H => Qt (sg := Wx sg (loc ++ capn) scope) hcm (I cl C ex s H) q2) (ZJ tg) (fun cl C ex s H => ?_) (fun cl C ex s H => sE (sg := Wx sg (loc ++ capn) scope) el (I cl C ex s H) q4) (jI k9) hsw)
       ·have := all_eq_true.mp k4 y hy
        rw [hl] at this;simpa using this
       ·exact kc y hy hc
       ·cases ifs with
        | nil =>
         cases tt <;> first | (cases q3; done) | skip;exact QD
        | cons c cs =>
         obtain ⟨q3,q5⟩ := zK q3;have := isEmpty_iff.mp q3; subst this;exact QE (sT (sg := Wx sg (loc ++ capn) scope) tt (I cl C ex s H) q5)
      | _ => exact nf h
     | _ => exact nf h
    | _ => exact nf h
  | _ => exact nf h
 | _ => exact nf h
mutual
theorem sS : ∀ (t : Sx) {X : Cx} {sg : Sg} {e : Stmt},SgOk X sg → chkS t sg e = true → SOk X e (dS sg.fs t)
 | .sIf t a b,X,sg,e,G,h => by
  cases e with
  | If c x y w1 =>
   replace h : (chkT t sg c && (chkB a sg x && chkB b sg y)) = true := h;obtain ⟨h1,h2⟩ := zK h;obtain ⟨h2,h3⟩ := zK h2;exact sk_if (sT t G h1) (sB a G h2) (sB b G h3)
  | _ => exact nf h
 | .sSet i a,X,sg,e,G,h => by
  cases e with
  | Assign v91 v w1 =>
   cases v91 with
   | cons v92 v93 =>
    cases v92 with
    | Name x px =>
     cases v93 with
     | nil =>
      replace h : (locd sg i x && setOk sg x px a v && z6 a sg v) = true := h;obtain ⟨h1,h2⟩ := zK h;obtain ⟨h1,h3⟩ := zK h1;obtain ⟨q1,q2,q3⟩ := vM G h1;unfold setOk at h3;split at h3
      ·obtain ⟨k1,k2⟩ := zK h3
       rename_i el gs scope vp;cases hb : swB sg _ _ scope vp with
       | false => exact zCD G.nd q1 q2 (sE a G h2) (by rw [zCW G k1,hb]) q3
       | true =>
        rw [hb] at k2;cases a with
        | comp nl loc capn caps it tg tt el' => exact zBc G q1 q2 q3 (by rw [zCW G k1,hb]) h2
        | _ => cases k2
      ·exact zCD G.nd q1 q2 (sE a G h2) (ZQ h3) q3
     | _ => exact nf h
    | _ => exact nf h
   | _ => exact nf h
  | _ => exact nf h
 | .sAny,X,sg,e,G,h => by
  exact sk_any
 | .sPar i j as,X,sg,e,G,h => by
  cases e with
  | Assign v97 v98 w5 =>
   cases v97 with
   | cons v99 v100 =>
    cases v99 with
    | Tuple v101 w1 w2 =>
     cases v101 with
     | cons v102 v103 =>
      cases v102 with
      | Name x px =>
       cases v103 with
       | cons v104 v105 =>
        cases v104 with
        | Name y py =>
         cases v105 with
         | nil =>
          cases v100 with
          | nil =>
           cases v98 with
           | Tuple v106 w3 w4 =>
            cases v106 with
            | cons a v107 =>
             cases v107 with
             | cons b v108 =>
              cases v108 with
              | nil =>
               replace h : (sg.calm && (Qs sg i j x y px py a b && chkA as sg [a,b])) = true := h;obtain ⟨hcm,h⟩ := zK h;obtain ⟨h1,h2⟩ := zK h;have h1' := h1;unfold Qs at h1;simp only [Bool.and_eq_true,Bool.not_eq_true',beq_iff_eq,bne_iff_ne] at h1;obtain ⟨⟨⟨⟨⟨⟨⟨⟨⟨⟨⟨_,n1⟩,n2⟩,n3⟩,l1⟩,l2⟩,_⟩,_⟩,_⟩,_⟩,_⟩,_⟩ := h1;exact jH (ps_par (G.calm hcm) G.nd (by rw [G.N]; exact n1) (by rw [G.N]; exact n2) n3 (jN G l1) (jN G l2) (sA as G h2) (sw_par G h1') (Qy rfl)) fun D σ H => zBR
              | _ => exact nf h
             | _ => exact nf h
            | _ => exact nf h
           | _ => exact nf h
          | _ => exact nf h
         | _ => exact nf h
        | _ => exact nf h
       | _ => exact nf h
      | _ => exact nf h
     | _ => exact nf h
    | _ => exact nf h
   | _ => exact nf h
  | _ => exact nf h
 | .sRet a,X,sg,e,G,h => by
  cases e with
  | Return v109 w1 =>
   cases v109 with
   | some v =>
    replace h : (z6 a sg v) = true := h;exact sk_ret (sE a G h)
   | _ => exact nf h
  | _ => exact nf h
 | .sDrop a,X,sg,e,G,h => by
  cases e with
  | Expr v w1 =>
   replace h : (wV v && z6 a sg v) = true := h;obtain ⟨h1,h2⟩ := zK h;exact sk_drop (sE a G h2) (ZQ h1)
  | _ => exact nf h
 | .sIx i b a,X,sg,e,G,h => by
  cases e with
  | Assign v110 v w3 =>
   cases v110 with
   | cons v111 v112 =>
    cases v111 with
    | Subscript v113 y w2 =>
     cases v113 with
     | Name x w1 =>
      cases v112 with
      | nil =>
       replace h : (vis sg i x && WO y && wV v && (z6 b sg y && z6 a sg v)) = true := h;obtain ⟨h1,h2⟩ := zK h;obtain ⟨h1,h0⟩ := zK h1;obtain ⟨h1,h4⟩ := zK h1;obtain ⟨h2,h3⟩ := zK h2;exact zBB i (Y7 G h1) (sE b G h2) (sE a G h3) (set_of h4) (Qy h0)
      | _ => exact nf h
     | _ => exact nf h
    | _ => exact nf h
   | _ => exact nf h
  | _ => exact nf h
 | .sApp i a,X,sg,e,G,h => by
  cases e with
  | Expr v114 w2 =>
   cases v114 with
   | Call v115 v116 v117 cp =>
    cases v115 with
    | Attribute v118 m ap =>
     cases v118 with
     | Name x w1 =>
      cases v116 with
      | cons v v119 =>
       cases v119 with
       | nil =>
        cases v117 with
        | nil =>
         replace h : (m == "append" && ap.endLine == cp.line && vis sg i x && !zR v && z6 a sg v) = true := h;obtain ⟨h1,h2⟩ := zK h;obtain ⟨h1,k4⟩ := zK h1;obtain ⟨h1,k3⟩ := zK h1;obtain ⟨k1,k2⟩ := zK h1;have := beq_iff_eq.mp k1; subst this;exact sk_app i (Y7 G k3) (sE a G h2) rfl (Q0 (nst k4)) k2 (zN (nst k4)) rfl rfl
        | _ => exact nf h
       | _ => exact nf h
      | _ => exact nf h
     | _ => exact nf h
    | _ => exact nf h
   | _ => exact nf h
  | _ => exact nf h
 | .sForL a tg b,X,sg,e,G,h => by
  cases e with
  | For t it body v120 w1 =>
   cases v120 with
   | nil =>
    replace h : (sg.calm && (yR it && uR tg sg t && (z6 a sg it && chkB b sg body))) = true := h;obtain ⟨hcm,h⟩ := zK h;obtain ⟨h1,h2⟩ := zK h;obtain ⟨h1,h0⟩ := zK h1;obtain ⟨h2,h3⟩ := zK h2;exact no_S (sk_forL (X := X.nox) PassesOwn.never (G.calm hcm) (sE a (yN G) h2) (Qt hcm (yN G) h0) (ZJ tg) (sB b (yN G) h3) (jI h1))
   | _ => exact nf h
  | _ => exact nf h
 | .sForI ix tg b,X,sg,e,G,h => by
  cases e with
  | For t it body v120 w1 =>
   cases v120 with
   | nil =>
    replace h : (sg.calm && (yR it && uR tg sg t && ((chkZ ix t && chkI ix sg it) && chkB b sg body))) = true := h;obtain ⟨hcm,h⟩ := zK h;obtain ⟨h1,h2⟩ := zK h;obtain ⟨h1,h0⟩ := zK h1;obtain ⟨h2,h3⟩ := zK h2;obtain ⟨h4,h2⟩ := zK h2;exact sk_forN (ps_forX (sI ix G h2 h4) (jI h1)) (no_S (sk_forI (X := X.nox) PassesOwn.never (G.calm hcm) (sI ix (yN G) h2 h4) (Qt hcm (yN G) h0) (ZJ tg) (sB b (yN G) h3) (jI h1)))
   | _ => exact nf h
  | _ => exact nf h
 | .sForR1 as tg b,X,sg,e,G,h => by
  cases e with
  | For t v122 body v123 w3 =>
   cases v122 with
   | Call v124 v125 v126 w2 =>
    cases v124 with
    | Name f w1 =>
     cases v125 with
     | cons x v127 =>
      cases v127 with
      | nil =>
       cases v126 with
       | nil =>
        cases v123 with
        | nil =>
         replace h : (sg.calm && (f == "range" && glb sg "range" && bIn sg "range" && !zR x && uR tg sg t && (chkA as sg [x] && chkB b sg body))) = true := h;obtain ⟨hcm,h⟩ := zK h;obtain ⟨h1,h2⟩ := zK h;obtain ⟨h1,k5⟩ := zK h1;obtain ⟨h1,k4⟩ := zK h1;obtain ⟨h1,k3⟩ := zK h1;obtain ⟨k1,k2⟩ := zK h1;obtain ⟨h2,h3⟩ := zK h2;have := beq_iff_eq.mp k1; subst this;exact no_S (zBD (X := X.nox) PassesOwn.never (G.calm hcm) (yS (yN G) k2).1 (JC (yN G) k3) (sA as (yN G) h2) (Qt hcm (yN G) k5) (ZJ tg) (sB b (yN G) h3) (nst k4) (jI rfl))
        | _ => exact nf h
       | _ => exact nf h
      | _ => exact nf h
     | _ => exact nf h
    | _ => exact nf h
   | _ => exact nf h
  | _ => exact nf h
 | .sWhile t b,X,sg,e,G,h => by
  cases e with
  | While c body v200 w1 =>
   cases v200 with
   | nil =>
    replace h : (chkT t sg c && chkB b sg body) = true := h;obtain ⟨h1,h2⟩ := zK h;exact no_S (zBW (X := X.nox) PassesOwn.never (sT t (yN G) h1) (sB b (yN G) h2))
   | _ => exact nf h
  | _ => exact nf h
 | .sRaise c,X,sg,e,G,h => by
  cases e with
  | Raise v200 v201 w1 =>
   cases v200 with
   | some v202 =>
    cases v202 with
    | Call v203 v204 v205 w2 =>
     cases v203 with
     | Name x w3 =>
      cases v204 with
      | nil =>
       cases v205 with
       | nil =>
        cases v201 with
        | none =>
         replace h : (sg.calm && (x == c && glb sg c && sg.rs.contains c)) = true := h;obtain ⟨hcm,h⟩ := zK h;obtain ⟨h,k3⟩ := zK h;obtain ⟨k1,k2⟩ := zK h;have := beq_iff_eq.mp k1; subst this;obtain ⟨C,c1,c2⟩ := G.rs x (by simpa using k3);exact zBS (G.calm hcm) (yS G k2).1 c1 c2 (yS G k2).2
        | _ => exact nf h
       | _ => exact nf h
      | _ => exact nf h
     | _ => exact nf h
    | _ => exact nf h
   | _ => exact nf h
  | _ => exact nf h
 | .sTry cl b i hb,X,sg,e,G,h => by
  cases e with
  | Try body v200 v201 v202 w1 =>
   cases v200 with
   | cons v203 v204 =>
    cases v203 with
    | ExceptHandler v205 v206 v207 w2 =>
     cases v205 with
     | some v208 =>
      cases v208 with
      | Name t w3 =>
       cases v206 with
       | some n =>
        cases v207 with
        | cons b0 suite =>
         cases v204 with
         | nil =>
          cases v201 with
          | nil =>
           cases v202 with
           | nil =>
            replace h : (t == "ThrowError" && glb sg "ThrowError" && (cl == sg.cl && !sg.cl.isEmpty) && sg.top && (sg.N[i]? == some n && kIs sg n .local) && (chkB b sg body && chkB hb { sg with calm := false } (b0 :: suite))) = true := h
            obtain ⟨h,h2⟩ := zK h;obtain ⟨h2,h3⟩ := zK h2;obtain ⟨h,k5⟩ := zK h;obtain ⟨h,k4⟩ := zK h;obtain ⟨h,k3⟩ := zK h;obtain ⟨k1,k2⟩ := zK h;obtain ⟨k3,k6⟩ := zK k3;obtain ⟨k5,k7⟩ := zK k5;have := beq_iff_eq.mp k1; subst this;have ecl : cl = sg.cl := by simpa using k3
            subst ecl;obtain ⟨T,t1,t2,t3⟩ := G.cl (fun z => by rw [z] at k6; cases k6);exact sk_try (G.stk k4) G.nd (by rw [G.N]; simpa using k5) (jN G k7) (yS G k2).1 (yS G k2).2 t1 t2 (fun c hc => let ⟨C,c1,c2,_⟩ := t3 c hc; ⟨C,c1,c2⟩) (fun pn E => sB b (tr_ok G pn E) h2) (fun a => sB (sg := { sg with calm := false }) hb (hd_ok G a) h3)
           | _ => exact nf h
          | _ => exact nf h
         | _ => exact nf h
        | _ => exact nf h
       | _ => exact nf h
      | _ => exact nf h
     | _ => exact nf h
   | _ => exact nf h
  | _ => exact nf h
theorem sB : ∀ (t : Bx) {X : Cx} {sg : Sg} {e : List Stmt},SgOk X sg → chkB t sg e = true → vx X e (dB sg.fs t)
 | .bNil,X,sg,e,G,h => by
  have := isEmpty_iff.mp h; subst this;exact sk_nil
 | .bOne a,X,sg,e,G,h => by
  cases e with
  | cons s v135 =>
   cases v135 with
   | nil =>
    replace h : (chkS a sg s) = true := h;exact sk_one (sS a G h)
   | _ => exact nf h
  | _ => exact nf h
 | .bSeq a b,X,sg,e,G,h => by
  cases e with
  | cons s r =>
   replace h : (chkS a sg s && chkB b sg r) = true := h;obtain ⟨h1,h2⟩ := zK h;exact sk_cons (sS a G h1) (sB b G h2)
  | _ => exact nf h
end
end
def ClOk (K : PySem.W.Frag) (mg : Str → Option Value) (cl rs : List Str) : Prop :=
 (cl ≠ [] → ∃ T,mg "ThrowError" = some (.ref T) ∧ TCls K T ∧ ∀ c ∈ cl,∃ C,mg c = some (.ref C) ∧ XCls K c C T ∧ C ≠ T) ∧ (∀ c ∈ rs,∃ C,mg c = some (.ref C) ∧ excIn K C VB "ValueError.__new__" = true) ∧ Qi K
theorem def_ok {P : Program} {w : World} {K : PySem.W.Frag} {mg : Str → Option Value} {base : Heap} {x : Str} {st : Stmt} {ps N : List Str} {n lv : Nat} {cs : List (Str × D)} {fs : List FI} {bs : List Str} {c : Bool} {cl rs : List Str} (t : Bx) (T : Ju K mg x st ps) (S : FnScope N ps (zW st)) (hn : N.length = n)
  (hcs : ∀ x d,cs.lookup x = some d → ∃ u v,mg x = some u ∧ zw v u ∧ ∀ H,Rep K mg H d v)
  (hfs : ∀ i ∈ fs,∃ f fd ps,mg i.x = some (.ref f) ∧ keepIn K (.ref f) = true ∧ J2 K fd ps [] ∧ ps.length = i.n ∧ FnOkN (!i.wild) P w K mg base i.lv f fd ps (spM K mg i.n i.F))
  (hbs : ∀ x ∈ bs,mg x = none) (hcl : ClOk K mg cl rs) (h : chkB t ⟨N,zW st,true,cs,fs,bs,lv,c,cl,rs,[]⟩ (yT st) = true) : FOk P w K mg base c x (lv + 1) ps (fnM n (dB fs t)) := by
 obtain ⟨a,fd,hm,F,bnd⟩ := T;subst hn;refine ⟨a,fd,hm,F.kp,bnd,fn_ok F S fun cdv A outer s H E hd hr => ?_⟩;exact sB (sg := ⟨N,zW st,true,cs,fs,bs,lv,c,cl,rs,[]⟩) t ⟨rfl,rfl,fun _ _ => rfl,(fun x h => by cases h),id,hd,fun _ => ⟨rfl,rfl⟩,S.nd,hcs,hfs,hbs,hr,hcl.1,hcl.2.1,hcl.2.2⟩ h
end DV
namespace DV
open PySem L2
def zBd (K : PySem.W.Frag) (mg : Str → Option Value) (cs : List (Str × D)) : Prop := ∀ x d,cs.lookup x = some d → ∃ u v,mg x = some u ∧ zw v u ∧ ∀ H,Rep K mg H d v
def BsOk (mg : Str → Option Value) (bs : List Str) : Prop := ∀ x ∈ bs,mg x = none
def FsOk (P : Program) (w : World) (K : PySem.W.Frag) (mg : Str → Option Value) (base : Heap) (fs : List FI) : Prop :=
 ∀ i ∈ fs,∃ f fd ps,mg i.x = some (.ref f) ∧ keepIn K (.ref f) = true ∧ J2 K fd ps [] ∧ ps.length = i.n ∧ FnOkN (!i.wild) P w K mg base i.lv f fd ps (spM K mg i.n i.F)
section
variable {P : Program} {w : World} {K : PySem.W.Frag} {mg : Str → Option Value} {base : Heap}
theorem cs_nil : zBd K mg [] := fun x d h => by cases h
theorem cs_put {x : Str} {d : D} {cs : List (Str × D)} (h : ∃ u v,mg x = some u ∧ zw v u ∧ ∀ H,Rep K mg H d v) (t : zBd K mg cs) : zBd K mg ((x,d) :: cs) := fun y d' e => by
 rw [lookup_cons] at e;cases hy : y == x with
 | true =>
  rw [hy] at e;cases e;have : y = x := by simpa using hy
  subst this;exact h
 | false => rw [hy] at e; exact t y d' e
theorem Q1 {x : Str} {i : Int} {cs : List (Str × D)} (h : ∃ t,mg x = some (.int i t)) (t : zBd K mg cs) : zBd K mg ((x,.int i) :: cs) := by
 obtain ⟨k,h⟩ := h;exact cs_put ⟨_,.int i,h,⟨_,rfl⟩,fun H => by simp only [Rep]⟩ t
theorem bs_nil : BsOk mg [] := fun x h => by cases h
theorem yO {x : Str} {bs : List Str} (h : mg x = none) (t : BsOk mg bs) : BsOk mg (x :: bs) := fun y e => by
 rcases mem_cons.mp e with e | e
 ·subst e; exact h
 ·exact t y e
theorem yF : FsOk P w K mg base [] := fun x h => by cases h
theorem zd {x : Str} {n lv : Nat} {F : MF} {fs : List FI} {ps : List Str} {wl : Bool} (h : FOk P w K mg base (!wl) x lv ps F) (hl : ps.length = n) (t : FsOk P w K mg base fs) : FsOk P w K mg base (⟨x,n,lv,wl,F⟩ :: fs) := fun i e => by
 rcases mem_cons.mp e with e | e
 ·subst e
  subst hl;obtain ⟨a,fd,h1,h2,h3,h4⟩ := h;exact ⟨a,fd,ps,h1,h2,h3,rfl,h4⟩
 ·exact t i e
theorem def_at {x : Str} {st : Stmt} {ps N : List Str} {n lv : Nat} {cs : List (Str × D)} {fs : List FI} {bs : List Str} {cl rs : List Str} (t : Bx) {a : Addr} {fd : FuncData} (F : Fun K x x st a fd) (S : FnScope N ps (zW st)) (hn : N.length = n)
  (hcs : zBd K mg cs) (hfs : FsOk P w K mg base fs) (hbs : BsOk mg bs) (hcl : ClOk K mg cl rs) (h : chkB t ⟨N,zW st,true,cs,fs,bs,lv,true,cl,rs,[]⟩ (yT st) = true) : FnOk P w K mg base (CXx P w) (lv + 1) a fd ps (spM K mg ps.length (fnM n (dB fs t))) := by
 subst hn;refine (fn_ok (c := true) F S fun cdv A outer s H E hd hr => ?_).fn;exact sB (sg := ⟨N,zW st,true,cs,fs,bs,lv,true,cl,rs,[]⟩) t ⟨rfl,rfl,fun _ _ => rfl,(fun x h => by cases h),id,hd,fun _ => ⟨rfl,rfl⟩,S.nd,hcs,hfs,hbs,hr,hcl.1,hcl.2.1,hcl.2.2⟩ h
def scP (N P : List Str) (sc : Scope) : Prop := sc.kind = .function ∧ sc.isCoroutine = false ∧ sc.isGenerator = false ∧ N.Nodup ∧ N.take P.length = P ∧ (∀ x ∈ P,sc.names.lookup x = some .local ∨ sc.names.lookup x = some .cell) ∧ ∀ y ∈ sc.names,y.2 ≠ .free
instance scD (N P : List Str) (sc : Scope) : Decidable (scP N P sc) := by unfold scP; infer_instance
theorem sc_of {N P : List Str} {sc : Scope} (h : scP N P sc) : FnScope N P sc := ⟨h.1,h.2.1,h.2.2.1,h.2.2.2.1,h.2.2.2.2.1,h.2.2.2.2.2.1,h.2.2.2.2.2.2⟩
theorem zv {x : Str} {st : Stmt} {ps : List Str} {lv : Nat} {cs : List (Str × D)} {fs : List FI} {bs : List Str} {c : Bool} {cl rs : List Str} (t : Bx) (N : List Str) (T : Ju K mg x st ps)
  (hcs : zBd K mg cs) (hfs : FsOk P w K mg base fs) (hbs : BsOk mg bs) (hcl : ClOk K mg cl rs) (h : (decide (scP N ps (zW st)) && chkB t ⟨N,zW st,true,cs,fs,bs,lv,c,cl,rs,[]⟩ (yT st)) = true) : FOk P w K mg base c x (lv + 1) ps (fnM N.length (dB fs t)) :=
 def_ok t T (sc_of (of_decide_eq_true (Bool.and_eq_true_iff.mp h).1)) rfl hcs hfs hbs hcl (Bool.and_eq_true_iff.mp h).2
theorem def_atB {x : Str} {st : Stmt} {ps : List Str} {lv : Nat} {cs : List (Str × D)} {fs : List FI} {bs : List Str} {cl rs : List Str} (t : Bx) (N : List Str) {a : Addr} {fd : FuncData} (F : Fun K x x st a fd)
  (hcs : zBd K mg cs) (hfs : FsOk P w K mg base fs) (hbs : BsOk mg bs) (hcl : ClOk K mg cl rs) (h : (decide (scP N ps (zW st)) && chkB t ⟨N,zW st,true,cs,fs,bs,lv,true,cl,rs,[]⟩ (yT st)) = true) : FnOk P w K mg base (CXx P w) (lv + 1) a fd ps (spM K mg ps.length (fnM N.length (dB fs t))) :=
 def_at t F (sc_of (of_decide_eq_true (Bool.and_eq_true_iff.mp h).1)) rfl hcs hfs hbs hcl (Bool.and_eq_true_iff.mp h).2
theorem Q2 {c : Str} {C T : Addr} (h : xIn K c C T = true) : XCls K c C T ∧ C ≠ T := by
 unfold xIn at h;simp only [Bool.and_eq_true,beq_iff_eq,Bool.not_eq_true'] at h;obtain ⟨⟨⟨⟨⟨⟨⟨h1,h2⟩,h3⟩,h4⟩,h5⟩,h6⟩,h7⟩,h8⟩ := h;refine ⟨⟨?_,h2,h3,h4,h5,h6,h7⟩,by simpa using h8⟩;cases e : clsIn K C with
 | none => rw [e] at h1; cases h1
 | some cd =>
  rw [e] at h1;simp only [Bool.and_eq_true,beq_iff_eq] at h1;exact ⟨cd,rfl,h1.1,h1.2⟩
theorem tcls_of {T : Addr} (h : tIn K T = true) : TCls K T := by
 unfold tIn at h;simp only [Bool.and_eq_true,beq_iff_eq] at h;obtain ⟨h1,h2⟩ := h;refine ⟨?_,h2⟩;cases e : clsIn K T with
 | none => rw [e] at h1; cases h1
 | some cd => rw [e] at h1; exact ⟨cd,rfl,by simpa using h1⟩
def spLaw (K : PySem.W.Frag) : Sp := fun vs H Q _ => ∃ (a : Addr) (ns : List Int),vs = [.ref a] ∧ SqL K H a (ns.map V.int) ∧ ns.length ≤ 63 ∧ ∀ H',Q (.bl true) H'
theorem Wj {H : Hp} : ∀ ns : List Int,Reps K mg H (ns.map D.int) (ns.map V.int)
 | [] => Reps.nil
 | n :: ns => Reps.cons (by simp only [Rep]) (Wj ns)
theorem law_imp {F : MF} (hm : ∀ ns : List Int,ns.length ≤ 63 → ∃ outs,F [.val (.lst (ns.map D.int))] = .ok (.val (.bl true),outs)) (vs : List V) (H : Hp) (Q : VK) (E : XK) (h : spLaw K vs H Q E) : spM K mg 1 F vs H Q E := by
 obtain ⟨a,ns,rfl,hS,hl,k⟩ := h;obtain ⟨outs,hF⟩ := hm ns hl;have em : ∀ b,¬ Mo (fun _ => False) [(some (V.ref a),Slot.val (.lst (ns.map D.int)))] b := by
  intro b q;rcases q with q | q
  ·exact q
  ·rw [zU] at q; cases q
 have sm : JJ H (Hm (Mo (fun _ => False) [(some (V.ref a),Slot.val (.lst (ns.map D.int)))]) H) := fun b o q => zM.mpr ⟨em b,q⟩
 refine ⟨rfl,fun _ => False,[.val (.lst (ns.map D.int))],rfl,⟨?_,?_,?_,?_⟩,?_⟩
 ·intro o d q
  have q' := mem_singleton.mp q
  cases q';refine ⟨_,rfl,?_⟩;simp only [Rep];exact ⟨a,_,rfl,sm.seq hS,Wj ns⟩
 ·intro o s ds q e
  have q' := mem_singleton.mp q
  cases q';cases e
 ·show (zx [(some (V.ref a),Slot.val (.lst (ns.map D.int)))]).Nodup
  rw [zU]; exact List.nodup_nil
 ·intro b q; cases q
 ·rw [hF]
  intro v H' _ fr _;obtain ⟨v',e,r⟩ := fr.val (some v) (.bl true) mem_cons_self;cases e;simp only [Rep] at r;subst r;exact k H'
end
theorem jo {E : zQ} : zl [] E = [] := rfl
theorem wZ {ds : List D} {ss : List Slot} {s : Slot} {E : zQ} : zl (.par ds :: ss) (s :: E) = s :: zl ss E := rfl
theorem jp {d : D} {ss : List Slot} {s : Slot} {E : zQ} : zl (.val d :: ss) (s :: E) = .emp :: zl ss E := rfl
theorem wa {d : List D} {ss : List Slot} {s : Slot} {E : zQ} : zl (.own d :: ss) (s :: E) = .emp :: zl ss E := rfl
theorem wb {ss : List Slot} {s : Slot} {E : zQ} : zl (.emp :: ss) (s :: E) = .emp :: zl ss E := rfl
theorem Wk {tg : MG} {tt : MT} {el : ME} (I : Nat → zQ → List D → Prop) : ∀ (ds : List D) (k : Nat) (E : zQ) (acc : List D),I k E acc → acc.length + ds.length ≤ cap →
  (∀ i d,ds[i]? = some d → ∀ E acc,I (k + i) E acc → acc.length < cap → ∃ E1 E2 r E3,tg d E = .ok E1 ∧ tt E1 = .ok (true,E2) ∧ el E2 = .ok (r,E3) ∧ I (k + i + 1) E3 (acc ++ [r.d])) →
  ∃ res E',wY tg tt el ds E acc = .ok (res,E') ∧ I (k + ds.length) E' res
 | [],k,E,acc,h,hc,step => ⟨acc,E,rfl,h⟩
 | d :: ds,k,E,acc,h,hc,step => by
  simp only [length_cons] at hc;obtain ⟨E1,E2,r,E3,h1,h2,h3,h4⟩ := step 0 d rfl E acc h (by omega);obtain ⟨res,E',q1,q2⟩ := Wk I ds (k + 1) E3 (acc ++ [r.d]) h4 (by simp; omega) fun i d' e E acc h hl => by
   have := step (i + 1) d' (by simpa using e) E acc (by rw [show k + (i + 1) = k + 1 + i by omega]; exact h) hl;rw [show k + (i + 1) = k + 1 + i by omega] at this;exact this
  refine ⟨res,E',?_,?_⟩
  ·simp only [wY,h1,h2,h3]
   rw [if_pos (by omega)];exact q1
  ·rw [length_cons,show k + (ds.length + 1) = k + 1 + ds.length by omega]; exact q2
theorem wA {tg : MG} {body : MS} (I : Nat → zQ → Prop) : ∀ (ds : List D) (k : Nat) (E : zQ),I k E →
  (∀ i d,ds[i]? = some d → ∀ E,I (k + i) E → ∃ E1 E2,tg d E = .ok E1 ∧ body E1 = .ok (.nx,E2) ∧ I (k + i + 1) E2) →
  ∃ E',Jb tg body ds E = .ok (.nx,E') ∧ I (k + ds.length) E'
 | [],k,E,h,step => ⟨E,rfl,h⟩
 | d :: ds,k,E,h,step => by
  obtain ⟨E1,E2,h1,h2,h4⟩ := step 0 d rfl E h;obtain ⟨E',q1,q2⟩ := wA I ds (k + 1) E2 h4 fun i d' e E h => by
   have := step (i + 1) d' (by simpa using e) E (by rw [show k + (i + 1) = k + 1 + i by omega]; exact h);rw [show k + (i + 1) = k + 1 + i by omega] at this;exact this
  refine ⟨E',?_,?_⟩
  ·simp only [Jb,h1,h2]
   exact q1
  ·rw [length_cons,show k + (ds.length + 1) = k + 1 + ds.length by omega]; exact q2
theorem uU : ∀ (n : Nat) (lo : Int) (i : Nat) (d : D),(zT lo n)[i]? = some d → i < n ∧ d = .int (lo + i)
 | 0,_,_,_,h => by simp [zT] at h
 | n + 1,lo,0,d,h => by
  simp [zT] at h;exact ⟨by omega,by rw [← h]; simp⟩
 | n + 1,lo,i + 1,d,h => by
  simp only [zT,List.getElem?_cons_succ] at h;obtain ⟨h1,h2⟩ := uU n (lo + 1) i d h;refine ⟨by omega,?_⟩;rw [h2];congr 1
  push_cast
  omega
theorem uV : ∀ (n : Nat) (lo : Int),(zT lo n).length = n
 | 0,_ => rfl
 | n + 1,lo => by simp [zT,uV n]
def yh : Slot → Bool
 | .par _ => false
 | _ => true
theorem uW : ∀ (vs : List D) (E : zQ),zJ (vs.map AR.tmp) E = .ok (vs.map Slot.val,E)
 | [],_ => rfl
 | d :: vs,E => by simp only [map_cons,zJ,uW vs E]
theorem uX : ∀ (vs : List D) (outs : List Slot) (E0 E : zQ),outs.length = vs.length → zI (vs.map AR.tmp) outs E0 E = .ok E
 | [],[],_,_,_ => rfl
 | [],_ :: _,_,_,h => by cases h
 | _ :: _,[],_,_,h => by cases h
 | d :: vs,s :: outs,E0,E,h => by simp only [map_cons,zI]; exact uX vs outs E0 E (by simpa using h)
end DV
namespace DV
open PySem L2
theorem Wl {vs : List D} {tg : MG} {tt : MT} {el : ME} {nl : Nat} (pat : D → List DV.Slot) (f : D → Bool) (g : D → D) : ∀ (ds : List D),
  (∀ d ∈ ds,∀ S : List DV.Slot,S.length = nl → (∀ s ∈ S,yh s = true) → tg d (S ++ vs.map Slot.val) = .ok (pat d ++ vs.map Slot.val)) →
  (∀ d ∈ ds,(pat d).length = nl ∧ ∀ s ∈ pat d,yh s = true) →
  (∀ d ∈ ds,tt (pat d ++ vs.map Slot.val) = .ok (f d,pat d ++ vs.map Slot.val)) →
  (∀ d ∈ ds,f d = true → ∃ r,el (pat d ++ vs.map Slot.val) = .ok (r,pat d ++ vs.map Slot.val) ∧ r.d = g d) →
  ∀ (S : List DV.Slot) (acc : List D),S.length = nl → (∀ s ∈ S,yh s = true) → acc.length + ds.length ≤ cap → ∃ S',S'.length = nl ∧ wY tg tt el ds (S ++ vs.map Slot.val) acc = .ok (acc ++ (ds.filter f).map g,S' ++ vs.map Slot.val)
 | [],_,_,_,_,S,acc,hS,_,_ => ⟨S,hS,by simp [wY]⟩
 | d :: ds,h1,h2,h3,h4,S,acc,hS,hn,hc => by
  have m := mem_cons_self (a := d) (l := ds);have r1 := h1 d m S hS hn;have r3 := h3 d m;have r2 := h2 d m;simp only [length_cons] at hc;have go := Wl pat f g ds (fun z hz => h1 z (mem_cons_of_mem _ hz)) (fun z hz => h2 z (mem_cons_of_mem _ hz)) (fun z hz => h3 z (mem_cons_of_mem _ hz)) (fun z hz => h4 z (mem_cons_of_mem _ hz)) (pat d);cases hf : f d with
  | false =>
   rw [hf] at r3;obtain ⟨S',l',e'⟩ := go acc r2.1 r2.2 (by omega);refine ⟨S',l',?_⟩;simp only [wY,r1,r3,e',List.filter_cons,hf];simp
  | true =>
   rw [hf] at r3;obtain ⟨r,r4,r5⟩ := h4 d m hf;obtain ⟨S',l',e'⟩ := go (acc ++ [r.d]) r2.1 r2.2 (by simp; omega);refine ⟨S',l',?_⟩;simp only [wY,r1,r3,r4];rw [if_pos (by omega),e',r5];simp [List.filter_cons,hf]
theorem zBe {vs : List D} {tg : MG} {tt : MT} {el : ME} {nl : Nat} {caps : List Nat} (pat : D → List DV.Slot) (f : D → Bool) (g : D → D) (ds : List D)
  (h1 : ∀ d ∈ ds,∀ S : List DV.Slot,S.length = nl → (∀ s ∈ S,yh s = true) → tg d (S ++ vs.map Slot.val) = .ok (pat d ++ vs.map Slot.val))
  (h2 : ∀ d ∈ ds,(pat d).length = nl ∧ ∀ s ∈ pat d,yh s = true)
  (h3 : ∀ d ∈ ds,tt (pat d ++ vs.map Slot.val) = .ok (f d,pat d ++ vs.map Slot.val))
  (h4 : ∀ d ∈ ds,f d = true → ∃ r,el (pat d ++ vs.map Slot.val) = .ok (r,pat d ++ vs.map Slot.val) ∧ r.d = g d) (hc : ds.length ≤ cap)
  {mi : MI} {E E1 : zQ} (hi : mi E = .ok (ds,E1)) (hcap : JO E1 caps = .ok (vs.map AR.tmp)) : Yr nl caps mi tg tt el E = .ok (.own ((ds.filter f).map g),E1) := by
 obtain ⟨S',l',e'⟩ := Wl (vs := vs) (tg := tg) (tt := tt) (el := el) (nl := nl) pat f g ds h1 h2 h3 h4 (replicate nl .emp) [] (by simp) (fun s hs => by rw [(List.mem_replicate.mp hs).2]; rfl) (by simpa using hc);simp only [Yr,hi,hcap,uW,e'];rw [uX vs _ _ _ (by rw [length_drop,zg]; simp)];simp
theorem gN_ok1 {a : D} {S : List DV.Slot} {R : List DV.Slot} (hS : S.length = 1) (hn : ∀ s ∈ S,yh s = true) : gN 0 a (S ++ R) = .ok ([.val a] ++ R) := by
 match S,hS,hn with
 | [x],_,hn =>
  have hx := hn x (by simp);cases x <;> first | (cases hx; done) | rfl
end DV
namespace DV
open PySem L2
theorem YU {h : Heap} : ∀ as : List Addr,(wf h as).In h
 | [],a,o,e => by cases e
 | b :: as,a,o,e => by
  unfold wf at e;cases hb : h.get? b with
  | none =>
   rw [hb] at e;exact YU as a o e
  | some o' =>
   rw [hb] at e;replace e : (match a == b with | true => some o' | false => List.lookup a (wf h as)) = some o := e
   cases hab : a == b with
   | true =>
    rw [hab] at e;cases e;have := eq_of_beq hab;subst this;exact hb
   | false =>
    rw [hab] at e;exact YU as a o e
def uY (as : List Addr) (α : Type) (L : PySem.W.Frag → α) (v : α) : PySem.W.Hook :=
 ⟨α,fun s => L (wf s.heap as),fun _ => v,fun _ h => ∃ K : PySem.W.Frag,K.In h ∧ L K = v,fun _ s e => ⟨_,YU as,e⟩,fun _ _ _ ⟨K,x,e⟩ k => ⟨K,x.keeps k,e⟩⟩
theorem zBf {K : PySem.W.Frag} {n : Str} {st : Stmt} (e : yi K n = yn n st) : ∃ (f : Addr) (oc : Value) (od : Option Addr) (kV dc pm : Value) (an : Option Addr) (cd ct : Value) (sl : Array (Option Value)),
  nsIn K mainGlobals n = some (some (.ref f)) ∧ K.lookup f = some ⟨oc,od,.func (fnOf n n (wS st) (yT st) (zW st) .none kV dc pm an cd ct),sl⟩ ∧ codeIn K cd n = true ∧ keepIn K (.ref f) = true := by
 unfold yi at e;split at e
 ·rename_i a ha
  split at e
  ·rename_i oc od fd sl hl
   have e := Option.some.inj e;unfold fvOf at e;injection e with e1 e
   injection e with e2 e
   injection e with e3 e
   injection e with e4 e
   injection e with e5 e
   injection e with e6 e
   injection e with e7 e
   injection e with e8 e
   injection e with e9 e10
   obtain ⟨k,p⟩ := zK e1;cases fd;simp only at e2 e3 e4 e5 e6 e7 e8 e9 e10;subst e2 e3 e4 e5 e6 e7 e8 e9 e10;exact ⟨_,_,_,_,_,_,_,_,_,_,ha,hl,k,p⟩
  ·cases e
 ·cases e
def nth {α : Type} : List α → Nat → Option α
 | [],_ => none
 | a :: _,0 => some a
 | _ :: l,n + 1 => nth l n
theorem ix {α : Type} {l l' : List α} (n : Nat) (h : l = l') : nth l n = nth l' n := congrArg (fun l => nth l n) h
section
variable {K : PySem.W.Frag} {h : Heap} {mg : Str → Option Value}
theorem y6 {n : Str} {st : Stmt} {ps : List Str} (X : K.In h) (G : h.Ns mainGlobals mg) (e : some (yi K n) = some (yn n st))
  (b : ∀ (kV doc pm : Value) (an : Option Addr) (cdv ct : Value) (us : List Value),us.length = ps.length → bindArgs (fnOf n n (wS st) (yT st) (zW st) .none kV doc pm an cdv ct) ⟨us,[]⟩ = pure (ps.zip us) := by intro _ _ _ _ _ _ us hl; first | exact (match us,hl with | [_],_ => rfl) | exact (match us,hl with | [_,_],_ => rfl) | exact (match us,hl with | [_,_,_],_ => rfl) | exact (match us,hl with | [_,_,_,_],_ => rfl) | exact (match us,hl with | [_,_,_,_,_],_ => rfl) | exact (match us,hl with | [],_ => rfl)) : Ju K mg n st ps := by
 obtain ⟨f,oc,od,kV,dc,pm,an,cd,ct,sl,a,l,k,p⟩ := zBf (Option.some.inj e);exact ⟨_,_,mg_of X G a,zB3 (st := st) l k p,(zB3 (st := st) l k p).binds b⟩
theorem ct_at {n : Str} {i : Int} (X : K.In h) (G : h.Ns mainGlobals mg) (e : some (vk K n) = some (some i)) : ∃ t,mg n = some (.int i t) := by
 have e := Option.some.inj e;unfold vk at e;split at e
 ·rename_i j t hj
  cases e;exact ⟨_,mg_of X G hj⟩
 ·cases e
theorem JD {n : Str} (X : K.In h) (G : h.Ns mainGlobals mg) (e : some (yg K n) = some true) : mg n = none := by
 have e := Option.some.inj e;unfold yg at e;split at e
 ·rename_i hj
  exact PySem.W.mg_none_of X G hj
 ·cases e
theorem vN {n : Str} {a : Addr} (X : K.In h) (G : h.Ns mainGlobals mg) (e : wF K n = some a) : mg n = some (.ref a) := by
 unfold wF at e;split at e
 ·rename_i b hb
  cases e;exact mg_of X G hb
 ·cases e
theorem sm_at (e : GH K = true) : Qi K := by
 unfold GH at e;cases h : K.lookup sysModules with
 | none => rw [h] at e; cases e
 | some o =>
  rw [h] at e;dsimp only at e;cases hd : o.data with
  | dict es n => exact ⟨o,es,n,h,hd⟩
  | _ => rw [hd] at e; cases e
theorem cl_at {cl rs : List Str} (X : K.In h) (G : h.Ns mainGlobals mg) (e : zBy K cl rs = true) : ClOk K mg cl rs := by
 obtain ⟨e,e3⟩ := zK e;obtain ⟨e1,e2⟩ := zK e;refine ⟨fun hc => ?_,fun c hc => ?_,sm_at e3⟩
 ·cases cl with
  | nil => exact absurd rfl hc
  | cons c0 cs =>
   replace e1 : (match wF K "ThrowError" with
    | some T => tIn K T && (c0 :: cs).all fun c => (match wF K c with | some C => xIn K c C T | none => false)
    | none => false) = true := e1
   cases hT : wF K "ThrowError" with
   | none => rw [hT] at e1; cases e1
   | some T =>
    rw [hT] at e1;obtain ⟨t1,t2⟩ := zK e1;refine ⟨T,vN X G hT,tcls_of t1,fun c hc => ?_⟩;have q := all_eq_true.mp t2 c hc;cases hC : wF K c with
    | none => rw [hC] at q; cases q
    | some C =>
     rw [hC] at q;exact ⟨C,vN X G hC,(Q2 q).1,(Q2 q).2⟩
 ·have q := all_eq_true.mp e2 c hc
  cases hC : wF K c with
  | none => rw [hC] at q; cases q
  | some C =>
   rw [hC] at q;exact ⟨C,vN X G hC,q⟩
end
theorem walkE {l : PySem.W.OpenLaw} {q : Program} {loose : List Str} {XP : (Str → Option Value) → Heap → Prop} {d : DefRec} {as : List Addr} {α : Type} {L : PySem.W.Frag → α} {v : α} {x : Str} {F : MF} (hm : ∀ ns : List Int,ns.length ≤ 63 → ∃ outs,F [.val (.lst (ns.map D.int))] = .ok (.val (.bl true),outs))
  (hn : l.most = some 63) (hdf : d.params.defaults = [])
  (Gk : ∀ (w : World) (K : PySem.W.Frag) (mg : Str → Option Value) (fa : Addr) (h : Heap),K.In h → L K = v → h.Ns mainGlobals mg → mg d.name = some (.ref fa) →
   ∃ fd : FuncData,(∀ (s : Shared) (u : Value),BindsTo s fd ⟨[u],[]⟩ [(x,u)]) ∧ ∀ base : Heap,FnOk l.prog w K mg base (CXx l.prog w) 40 fa fd [x] (spM K mg 1 F)) :
  PySem.W.WalkO q loose XP (uY as α L v).says l.row.toRowW d [] (fun f vs => PySem.call f vs) := by
 refine Att.attach_call hn hdf fun w s₀ s₁ mg mb fa o pm cd doc a vs ns G Y ho hd hcd hmg hobj hints hlen hg => ?_
 obtain ⟨K,KX,e⟩ := Y;obtain ⟨fd,hb,hF⟩ := Gk w K mg fa _ KX e G.T.g hmg;exact zAr (sp := spLaw K) (k := 40) KX G.T.g G.T.b G.T.builtins G.T.nolimit hg hobj hints (le_trans hlen (by decide)) ⟨rfl,rfl,by decide,by decide⟩ (fun base _ _ => (hF base).imp (law_imp hm)) hb (fun H hO hS => ⟨a,ns,rfl,hS,hlen,fun _ => rfl⟩) fun H e s' ⟨_,_,_,_,_,_,_,_,_,_,z⟩ => z
end DV
namespace My
open PySem L2 DV
def cs_ : List (Str × D) := [("MOST_SIGNS",.int 3),("MOST_THROWS",.int 20)]
def bs_ : List Str := ["ValueError","all","bool","enumerate","int","isinstance","len","list","max","min","range","repr","sorted","tuple"]
def Y9 : Bx :=
  (.bOne (.sRet (.and (.is .int (.var 0)) (.not (.is .bool (.var 0))))))
def vO : List FI := []
def JS : MF := fnM 1 (dB vO Y9)
def yC : Bx :=
  (.bOne (.sRet (.and (.call 0 (.ev (.var 0) .nil)) (.chain .le .le (.var 1) (.var 0) (.var 2)))))
def yP : List FI := [⟨"is_whole",1,1,false,JS⟩]
def zh : MF := fnM 3 (dB yP yC)
def YV : Bx :=
  (.bOne (.sRet (.call 0 (.ev (.var 0) (.ev (.c (.int 0)) (.ev (.bin .sub (.gl (.int 3)) (.c (.int 1))) .nil))))))
def Wm : List FI := [⟨"is_whole_within",3,2,false,zh⟩]
def jY : MF := fnM 1 (dB Wm YV)
def ZA : Bx :=
  (.bSeq (.sIf (.tOr (.tNot (.tE (.is .tuple (.var 0)))) (.tE (.cmp .gt (.cB .len (.cons (.var 0) .nil)) (.gl (.int 20))))) (.bOne (.sRet (.c (.bl false)))) .bNil)
  (.bOne (.sRet (.cB .all (.cons (.comp 1 ["sign"] [] [] (.iT (.var 0)) (.n 0) .tTr (.call 0 (.ev (.var 0) .nil))) .nil)))))
def YW : List FI := [⟨"sign_good",1,3,false,jY⟩]
def jO : MF := fnM 1 (dB YW ZA)
def ZB : Bx :=
  (.bOne (.sIf (.tNot (.tE (.call 0 (.ev (.var 0) .nil)))) (.bOne (.sRaise "NoRow")) .bNil))
def vP : List FI := [⟨"row_good",1,4,false,jO⟩]
def zc : MF := fnM 1 (dB vP ZB)
def ZC : Bx :=
  (.bOne (.sRet (.comp 1 ["t"] ["row"] [0] (.iR1 (.cons (.cB .max (.cons (.cB .len (.cons (.var 0) .nil)) (.cons (.c (.int 1)) .nil))) .nil)) (.n 0) .tTr (.bin .add (.sl (.var 1) (.oS (.var 0)) .oN) (.sl (.var 1) .oN (.oS (.var 0)))))))
def vQ : List FI := []
def yU : MF := fnM 1 (dB vQ ZC)
def Jf : Bx :=
  (.bSeq (.sDrop (.call 1 (.ev (.var 0) .nil)))
  (.bOne (.sRet (.cB .min (.cons (.call 0 (.ev (.var 0) .nil)) .nil)))))
def Zk : List FI := [⟨"turns_of",1,1,false,yU⟩,⟨"need_row",1,5,false,zc⟩]
def yJ : MF := fnM 1 (dB Zk Jf)
abbrev YX : Bx :=
  (.bOne (.sIf (.tE (.cmp .eq (.var 3) (.var 1))) (.bOne (.sRet (.var 2))) .bNil))
def Wn : Bx :=
  (.bSeq (.sDrop (.call 1 (.ev (.var 0) .nil)))
  (.bSeq (.sDrop (.call 1 (.ev (.var 1) .nil)))
  (.bSeq (.sForI (.iE false (.cons (.call 0 (.ev (.var 0) .nil)) .nil)) (.t [2,3])
  YX)
  (.bOne (.sRet (.c .non))))))
def ZD : List FI := [⟨"turns_of",1,1,false,yU⟩,⟨"need_row",1,5,false,zc⟩]
def jP : MF := fnM 4 (dB ZD Wn)
def y8 : Bx :=
  (.bSeq (.sIf (.tE (.cmp .lt (.var 1) (.cB .len (.cons (.var 0) .nil)))) (.bOne (.sRet (.ix (.var 0) (.var 1)))) .bNil)
  (.bOne (.sRet (.c (.int 0)))))
def jq : List FI := []
def yG : MF := fnM 2 (dB jq y8)
def wc : Bx :=
  (.bSeq (.sSet 0 (.bin .mod (.bin .add (.var 0) (.c (.int 7919))) (.c (.int 2147483647))))
  (.bOne (.sRet (.bin .mod (.bin .add (.bin .add (.bin .mul (.var 0) (.var 0)) (.bin .mul (.c (.int 48271)) (.var 0))) (.c (.int 12345))) (.c (.int 2147483629))))))
def Jg : List FI := []
def jZ : MF := fnM 1 (dB Jg wc)
def ja : Bx :=
  (.bSeq (.sSet 1 (.cB .max (.cons (.var 0) (.cons (.bin .sub (.c (.int 0)) (.var 0)) .nil))))
  (.bOne (.sRet (.lst (.cons (.var 1) (.cons (.cB .int (.cons (.cmp .ge (.var 1) (.bin .pow (.c (.int 10)) (.c (.int 18)))) .nil)) (.cons (.bin .mod (.var 1) (.c (.int 1000003))) .nil)))))))
def wN : List FI := []
def yQ : MF := fnM 2 (dB wN ja)
def jb : Bx :=
  (.bSeq (.sIf (.tE (.cmp .eq (.ixO 0 (.c (.int 1))) (.c (.int 1)))) (.bSeq (.sSet 2 (.bin .mod (.ixO 0 (.c (.int 0))) (.var 1)))
  (.bSeq (.sIx 0 (.c (.int 0)) (.bin .fdiv (.ixO 0 (.c (.int 0))) (.var 1)))
  (.bOne (.sRet (.var 2))))) .bNil)
  (.bSeq (.sIx 0 (.c (.int 2)) (.call 0 (.ev (.bin .add (.call 0 (.ev (.ixO 0 (.c (.int 2))) .nil)) (.c (.int 7))) .nil)))
  (.bOne (.sRet (.bin .mod (.bin .fdiv (.ixO 0 (.c (.int 2))) (.c (.int 64))) (.var 1))))))
def jr : List FI := [⟨"_law_next",1,1,false,jZ⟩]
def zS : MF := fnM 3 (dB jr jb)
def Jh : Bx :=
  (.bOne (.sRet (.and (.is .int (.var 0)) (.not (.is .bool (.var 0))))))
def Zl : List FI := []
def yZ : MF := fnM 1 (dB Zl Jh)
def wO : Bx :=
  (.bSeq (.sSet 1 (.lst (.cons (.isC cl_ "NoDie" (.var 0)) (.cons (.isC cl_ "NoRow" (.var 0)) (.cons (.isC cl_ "NoNumber" (.var 0)) (.cons (.isC cl_ "NoLine" (.var 0)) .nil))))))
  (.bSeq (.sSet 1 (.bin .add (.var 1) (.lst (.cons (.isC cl_ "NoMachine" (.var 0)) (.cons (.isC cl_ "NoPaper" (.var 0)) (.cons (.isC cl_ "NoText" (.var 0)) (.cons (.isC cl_ "TooGreat" (.var 0)) .nil)))))))
  (.bSeq (.sIf (.tOr (.tNot (.tE (.isV cl_ (.var 0)))) (.tE (.cmp .ne (.cnt (.var 1) (.c (.bl true))) (.c (.int 1))))) (.bOne (.sRet (.c (.str "other")))) .bNil)
  (.bOne (.sRet (.ix (.lst (.cons (.c (.str "die")) (.cons (.c (.str "row")) (.cons (.c (.str "number")) (.cons (.c (.str "line")) (.cons (.c (.str "machine")) (.cons (.c (.str "paper")) (.cons (.c (.str "text")) (.cons (.c (.str "great")) .nil))))))))) (.idx (.var 1) (.c (.bl true)))))))))
def YY : List FI := []
def yW : MF := fnM 2 (dB YY wO)
def wP : Bx :=
  (.bSeq (.sSet 1 (.call 0 (.ev (.var 0) .nil)))
  (.bSeq (.sIf (.tE (.cmp .eq (.var 1) (.c (.str "great")))) (.bOne .sAny) .bNil)
  (.bOne (.sRet (.tup (.cons (.var 1) .nil))))))
def YZ : List FI := [⟨"_law_kind_of",1,1,true,yW⟩]
def yH : MF := fnM 2 (dB YZ wP)
abbrev yp : Bx :=
  (.bSeq (.sSet 6 (.call 0 (.lend 0 (.ev (.var 1) .nil))))
  (.bSeq (.sIf (.tAnd (.tBor 3 (.tE (.cmp .ne (.var 3) (.lst .nil)))) (.tE (.cmp .gt (.call 0 (.lend 0 (.ev (.var 4) .nil))) (.c (.int 0))))) (.bOne (.sSet 6 (.ixO 3 (.neg (.c (.int 1)))))) .bNil)
  (.bOne (.sApp 3 (.var 6)))))
def JE : Bx :=
  (.bSeq (.sSet 3 (.lst .nil))
  (.bSeq (.sSet 4 (.bin .add (.c (.int 1)) (.call 0 (.lend 0 (.ev (.c (.int 4)) .nil)))))
  (.bSeq (.sForR1 (.cons (.call 0 (.lend 0 (.ev (.bin .add (.var 2) (.c (.int 1))) .nil))) .nil) (.n 5)
  yp)
  (.bOne (.sRet (.cB .tuple (.cons (.var 3) .nil)))))))
def zp : List FI := [⟨"_law_draw",2,2,false,zS⟩]
def yD : MF := fnM 7 (dB zp JE)
def JF : Bx :=
  (.bSeq (.sSet 2 (.call 0 (.lend 0 (.ev (.bin .add (.cB .len (.cons (.var 1) .nil)) (.c (.int 1))) .nil))))
  (.bSeq (.sSet 3 (.ix (.lst (.cons (.c (.int 3)) (.cons (.neg (.c (.int 1))) (.cons (.c (.bl true)) (.cons (.c .non) (.cons (.c (.str "1")) (.cons (.tup (.cons (.c (.int 1)) .nil)) (.cons (.bin .pow (.c (.int 10)) (.c (.int 30))) (.cons (.c (.bl false)) .nil))))))))) (.call 0 (.lend 0 (.ev (.c (.int 8)) .nil)))))
  (.bSeq (.sSet 4 (.lst (.cons (.bin .add (.bin .add (.sl (.var 1) .oN (.oS (.var 2))) (.tup (.cons (.var 3) .nil))) (.sl (.var 1) (.oS (.bin .add (.var 2) (.c (.int 1)))) .oN)) (.cons (.bin .add (.bin .add (.sl (.var 1) .oN (.oS (.var 2))) (.tup (.cons (.var 3) .nil))) (.sl (.var 1) (.oS (.bin .add (.var 2) (.c (.int 1)))) .oN)) (.cons (.cB .list (.cons (.var 1) .nil)) (.cons (.tup (.cons (.var 1) .nil)) (.cons (.bin .mul (.tup (.cons (.c (.int 0)) .nil)) (.c (.int 21))) .nil)))))))
  (.bOne (.sRet (.ix (.bin .add (.var 4) (.lst (.cons (.c .non) (.cons (.c (.int 0)) (.cons .dic (.cons (.c (.str "01")) .nil)))))) (.call 0 (.lend 0 (.ev (.c (.int 9)) .nil)))))))))
def wQ : List FI := [⟨"_law_draw",2,2,false,zS⟩]
def yl : MF := fnM 5 (dB wQ JF)
def wR : Bx :=
  (.bOne (.sTry cl_ (.bSeq (.sIf (.tE (.cmp .eq (.var 0) (.c (.int 0)))) (.bOne (.sRet (.call 1 (.ev (.var 1) .nil)))) .bNil)
  (.bOne (.sRet (.call 0 (.ev (.var 1) (.ev (.var 2) .nil)))))) 3
  (.bOne (.sRet (.call 2 (.ev (.var 3) .nil))))))
def yq : List FI := [⟨"turn_to",2,6,false,jP⟩,⟨"least_turn",1,6,false,yJ⟩,⟨"_law_refused",1,2,true,yH⟩]
def zF : MF := fnM 4 (dB yq wR)
abbrev jQ : Bx :=
  (.bSeq (.sApp 1 (.var 2))
  (.bOne (.sSet 2 (.bin .add (.sl (.var 2) (.oS (.c (.int 1))) .oN) (.sl (.var 2) .oN (.oS (.c (.int 1))))))))
def jt : Bx :=
  (.bSeq (.sSet 1 (.lst (.cons (.var 0) .nil)))
  (.bSeq (.sSet 2 (.bin .add (.sl (.var 0) (.oS (.c (.int 1))) .oN) (.sl (.var 0) .oN (.oS (.c (.int 1))))))
  (.bSeq (.sWhile (.tE (.cmp .ne (.var 2) (.var 0)))
  jQ)
  (.bOne (.sRet (.mov 1))))))
def yf : List FI := []
def yA : MF := fnM 3 (dB yf jt)
def Ji : Bx :=
  (.bSeq (.sSet 2 (.cB .repr (.cons (.tup (.cons (.var 0) (.cons (.var 1) .nil))) .nil)))
  (.bSeq (.sPar 3 4 (.cons (.call 2 (.ev (.c (.int 0)) (.ev (.var 0) (.ev (.c .non) .nil)))) (.cons (.call 2 (.ev (.c (.int 1)) (.ev (.var 0) (.ev (.var 1) .nil)))) .nil)))
  (.bSeq (.sSet 5 (.call 1 (.ev (.var 0) .nil)))
  (.bSeq (.sIf (.tOr (.tE (.cmp .ne (.cB .repr (.cons (.tup (.cons (.var 0) (.cons (.var 1) .nil))) .nil)) (.var 2))) (.tOr (.tNot (.tE (.is .tuple (.var 3)))) (.tE (.cmp .ne (.var 3) (.ix (.cB .sorted (.cons (.var 5) .nil)) (.c (.int 0))))))) (.bOne (.sRet (.c (.bl false)))) .bNil)
  (.bSeq (.sIf (.tNot (.tE (.cB .all (.cons (.comp 1 ["_law_sign"] [] [] (.iT (.var 3)) (.n 0) .tTr (.call 0 (.ev (.var 0) .nil))) .nil)))) (.bOne (.sRet (.c (.bl false)))) .bNil)
  (.bSeq (.sIf (.tE (.cmp .nin (.var 1) (.var 5))) (.bOne (.sRet (.cmp .is (.var 4) (.c .non)))) .bNil)
  (.bOne (.sRet (.and (.call 0 (.ev (.var 4) .nil)) (.cmp .eq (.var 4) (.idx (.var 5) (.var 1))))))))))))
def ym : List FI := [⟨"_law_whole",1,1,false,yZ⟩,⟨"_law_turns_of",1,1,false,yA⟩,⟨"_law_told_of",3,7,false,zF⟩]
def ya : MF := fnM 6 (dB ym Ji)
abbrev vR : Bx :=
  (.bOne (.sIf (.tNot (.tE (.call 2 (.ev (.var 1) (.ev (.var 2) .nil))))) (.bOne (.sRet (.c (.bl false)))) .bNil))
abbrev vS : Bx :=
  (.bSeq (.sSet 8 (.call 4 (.lend 4 (.ev (.bin .add (.cB .len (.cons (.var 1) .nil)) (.c (.int 1))) .nil))))
  (.bOne (.sForL (.lst (.cons (.bin .add (.sl (.var 1) (.oS (.var 8)) .oN) (.sl (.var 1) .oN (.oS (.var 8)))) (.cons (.stp false (.var 1)) (.cons (.sl (.var 1) (.oS (.c (.int 1))) .oN) (.cons (.call 3 (.lend 4 (.ev (.c (.int 3)) (.ev (.c (.int 20)) .nil)))) (.cons (.var 5) .nil)))))) (.n 2)
  vR)))
abbrev Zm : Bx :=
  (.bSeq (.sSet 4 (.call 5 (.ev (.var 3) .nil)))
  (.bSeq (.sSet 5 (.call 3 (.lend 4 (.ev (.c (.int 3)) (.ev (.c (.int 20)) .nil)))))
  (.bSeq (.sSet 6 (.call 3 (.lend 4 (.ev (.c (.int 2)) (.ev (.c (.int 5)) .nil)))))
  (.bSeq (.sSet 7 (.bin .mul (.var 6) (.call 4 (.lend 4 (.ev (.c (.int 5)) .nil)))))
  (.bSeq (.sForL (.lst (.cons (.var 5) (.cons (.var 7) (.cons (.var 6) .nil)))) (.n 1)
  vS)
  (.bSeq (.sSet 9 (.call 1 (.lend 4 (.ev (.var 5) .nil))))
  (.bSeq (.sIf (.tOr (.tE (.cmp .ne (.call 0 (.ev (.c (.int 0)) (.ev (.var 9) (.ev (.c .non) .nil)))) (.tup (.cons (.c (.str "row")) .nil)))) (.tE (.cmp .ne (.call 0 (.ev (.c (.int 1)) (.ev (.var 9) (.ev (.var 5) .nil)))) (.tup (.cons (.c (.str "row")) .nil))))) (.bOne (.sRet (.c (.bl false)))) .bNil)
  (.bOne (.sIf (.tE (.cmp .ne (.call 0 (.ev (.c (.int 1)) (.ev (.var 5) (.ev (.var 9) .nil)))) (.tup (.cons (.c (.str "row")) .nil)))) (.bOne (.sRet (.c (.bl false)))) .bNil)))))))))
abbrev Zn : Bx :=
  (.bOne (.sIf (.tNot (.tE (.call 2 (.ev (.var 1) (.ev (.var 2) .nil))))) (.bOne (.sRet (.c (.bl false)))) .bNil))
def t_law : Bx :=
  (.bSeq (.sForL (.lst (.cons (.tup (.cons (.tup .nil) (.cons (.tup .nil) .nil))) (.cons (.tup (.cons (.tup (.cons (.c (.int 0)) .nil)) (.cons (.tup .nil) .nil))) (.cons (.tup (.cons (.tup .nil) (.cons (.tup (.cons (.c (.int 0)) .nil)) .nil))) (.cons (.tup (.cons (.tup (.cons (.c (.int 1)) .nil)) (.cons (.tup (.cons (.c (.int 1)) .nil)) .nil))) (.cons (.tup (.cons (.tup (.cons (.c (.int 0)) (.cons (.c (.int 1)) .nil))) (.cons (.tup (.cons (.c (.int 1)) (.cons (.c (.int 0)) .nil))) .nil))) (.cons (.tup (.cons (.bin .mul (.tup (.cons (.c (.int 2)) .nil)) (.c (.int 20))) (.cons (.bin .mul (.tup (.cons (.c (.int 2)) .nil)) (.c (.int 20))) .nil))) .nil))))))) (.t [1,2])
  Zn)
  (.bSeq (.sForL (.bin .add (.lst (.cons (.call 6 (.ev (.var 0) (.ev (.c (.int 0)) .nil))) .nil)) (.sl (.var 0) (.oS (.c (.int 1))) (.oS (.c (.int 10))))) (.n 3)
  Zm)
  (.bOne (.sRet (.c (.bl true))))))
def jf : List FI := [⟨"_law_told_of",3,7,false,zF⟩,⟨"_law_no_row",2,3,false,yl⟩,⟨"_law_right",2,8,false,ya⟩,⟨"_law_row_of",3,3,false,yD⟩,⟨"_law_draw",2,2,false,zS⟩,⟨"_law_pen_of",1,1,false,yQ⟩,⟨"_law_cell_at",2,1,false,yG⟩]
def m_law : MF := fnM 10 (dB jf t_law)
structure Txt (K : PySem.W.Frag) (mg : Str → Option Value) : Prop where
 n_ValueError : mg "ValueError" = none
 n_all : mg "all" = none
 n_bool : mg "bool" = none
 n_enumerate : mg "enumerate" = none
 n_int : mg "int" = none
 n_isinstance : mg "isinstance" = none
 n_len : mg "len" = none
 n_list : mg "list" = none
 n_max : mg "max" = none
 n_min : mg "min" = none
 n_range : mg "range" = none
 n_repr : mg "repr" = none
 n_sorted : mg "sorted" = none
 n_tuple : mg "tuple" = none
 c_MOST_SIGNS : ∃ t,mg "MOST_SIGNS" = some (.int 3 t)
 c_MOST_THROWS : ∃ t,mg "MOST_THROWS" = some (.int 20 t)
 f_is_whole : Ju K mg "is_whole" Y0 ["thing"]
 f_is_whole_within : Ju K mg "is_whole_within" jE ["thing","low","high"]
 f_sign_good : Ju K mg "sign_good" Jy ["thing"]
 f_row_good : Ju K mg "row_good" Y1 ["thing"]
 f_need_row : Ju K mg "need_row" Y2 ["thing"]
 f_turns_of : Ju K mg "turns_of" Y3 ["row"]
 f_least_turn : Ju K mg "least_turn" JV ["row"]
 f_turn_to : Ju K mg "turn_to" Z6 ["row","other"]
 f__law_cell_at : Ju K mg "_law_cell_at" wG ["_law_script","_law_k"]
 f__law_next : Ju K mg "_law_next" Jz ["_law_seed"]
 f__law_pen_of : Ju K mg "_law_pen_of" wg ["_law_cell"]
 f__law_draw : Ju K mg "_law_draw" J0 ["_law_pen","_law_many"]
 f__law_whole : Ju K mg "_law_whole" JW ["_law_found"]
 f__law_kind_of : Ju K mg "_law_kind_of" wH ["_law_e"]
 f__law_refused : Ju K mg "_law_refused" wI ["_law_e"]
 f__law_row_of : Ju K mg "_law_row_of" wj ["_law_pen","_law_signs","_law_most"]
 f__law_no_row : Ju K mg "_law_no_row" wk ["_law_pen","_law_row"]
 f__law_told_of : Ju K mg "_law_told_of" wJ ["_law_way","_law_one","_law_other"]
 f__law_turns_of : Ju K mg "_law_turns_of" jj ["_law_row"]
 f__law_right : Ju K mg "_law_right" JX ["_law_one","_law_other"]
 f_law : Ju K mg "law" s_law ["_law_script"]
 cl : ClOk K mg cl_ rs_
section
variable {P : Program} {w : World} {K : PySem.W.Frag} {mg : Str → Option Value} {base : Heap}
theorem y9 (T : Txt K mg) : zBd K mg cs_ := (Q1 T.c_MOST_SIGNS (Q1 T.c_MOST_THROWS cs_nil))
theorem jA (T : Txt K mg) : BsOk mg bs_ := (yO T.n_ValueError (yO T.n_all (yO T.n_bool (yO T.n_enumerate (yO T.n_int (yO T.n_isinstance (yO T.n_len (yO T.n_list (yO T.n_max (yO T.n_min (yO T.n_range (yO T.n_repr (yO T.n_sorted (yO T.n_tuple bs_nil))))))))))))))
theorem vT (T : Txt K mg) : FOk P w K mg base true "is_whole" 1 ["thing"] JS := zv Y9 ["thing"] T.f_is_whole (y9 T) yF (jA T) T.cl (by decide +kernel)
theorem JG (T : Txt K mg) : FOk P w K mg base true "is_whole_within" 2 ["thing","low","high"] zh := zv yC ["thing","low","high"] T.f_is_whole_within (y9 T) (zd (vT T) rfl yF) (jA T) T.cl (by decide +kernel)
theorem Wo (T : Txt K mg) : FOk P w K mg base true "sign_good" 3 ["thing"] jY := zv YV ["thing"] T.f_sign_good (y9 T) (zd (JG T) rfl yF) (jA T) T.cl (by decide +kernel)
theorem vU (T : Txt K mg) : FOk P w K mg base true "row_good" 4 ["thing"] jO := zv ZA ["thing"] T.f_row_good (y9 T) (zd (Wo T) rfl yF) (jA T) T.cl (by decide +kernel)
theorem Yb (T : Txt K mg) : FOk P w K mg base true "need_row" 5 ["thing"] zc := zv ZB ["thing"] T.f_need_row (y9 T) (zd (vU T) rfl yF) (jA T) T.cl (by decide +kernel)
theorem Yc (T : Txt K mg) : FOk P w K mg base true "turns_of" 1 ["row"] yU := zv ZC ["row"] T.f_turns_of (y9 T) yF (jA T) T.cl (by decide +kernel)
theorem Zo (T : Txt K mg) : FOk P w K mg base true "least_turn" 6 ["row"] yJ := zv Jf ["row"] T.f_least_turn (y9 T) (zd (Yc T) rfl (zd (Yb T) rfl yF)) (jA T) T.cl (by decide +kernel)
theorem uw (T : Txt K mg) : FOk P w K mg base true "turn_to" 6 ["row","other"] jP := zv Wn ["row","other","t","turned"] T.f_turn_to (y9 T) (zd (Yc T) rfl (zd (Yb T) rfl yF)) (jA T) T.cl (by decide +kernel)
theorem Yd (T : Txt K mg) : FOk P w K mg base true "_law_cell_at" 1 ["_law_script","_law_k"] yG := zv y8 ["_law_script","_law_k"] T.f__law_cell_at (y9 T) yF (jA T) T.cl (by decide +kernel)
theorem Wp (T : Txt K mg) : FOk P w K mg base true "_law_next" 1 ["_law_seed"] jZ := zv wc ["_law_seed"] T.f__law_next (y9 T) yF (jA T) T.cl (by decide +kernel)
theorem Yv (T : Txt K mg) : FOk P w K mg base true "_law_pen_of" 1 ["_law_cell"] yQ := zv ja ["_law_cell","_law_left"] T.f__law_pen_of (y9 T) yF (jA T) T.cl (by decide +kernel)
theorem ju (T : Txt K mg) : FOk P w K mg base true "_law_draw" 2 ["_law_pen","_law_many"] zS := zv jb ["_law_pen","_law_many","_law_found"] T.f__law_draw (y9 T) (zd (Wp T) rfl yF) (jA T) T.cl (by decide +kernel)
theorem Zq (T : Txt K mg) : FOk P w K mg base true "_law_whole" 1 ["_law_found"] yZ := zv Jh ["_law_found"] T.f__law_whole (y9 T) yF (jA T) T.cl (by decide +kernel)
theorem Ye (T : Txt K mg) : FOk P w K mg base false "_law_kind_of" 1 ["_law_e"] yW := zv wO ["_law_e","_law_marks"] T.f__law_kind_of (y9 T) yF (jA T) T.cl (by decide +kernel)
theorem Yg (T : Txt K mg) : FOk P w K mg base false "_law_refused" 2 ["_law_e"] yH := zv wP ["_law_e","_law_kind"] T.f__law_refused (y9 T) (zd (Ye T) rfl yF) (jA T) T.cl (by decide +kernel)
theorem Yw (T : Txt K mg) : FOk P w K mg base true "_law_row_of" 3 ["_law_pen","_law_signs","_law_most"] yD := zv JE ["_law_pen","_law_signs","_law_most","_law_found","_law_often","_law_turn","_law_sign"] T.f__law_row_of (y9 T) (zd (ju T) rfl yF) (jA T) T.cl (by decide +kernel)
theorem Yx (T : Txt K mg) : FOk P w K mg base true "_law_no_row" 3 ["_law_pen","_law_row"] yl := zv JF ["_law_pen","_law_row","_law_spot","_law_odd","_law_some"] T.f__law_no_row (y9 T) (zd (ju T) rfl yF) (jA T) T.cl (by decide +kernel)
theorem jv (T : Txt K mg) : FOk P w K mg base true "_law_told_of" 7 ["_law_way","_law_one","_law_other"] zF := zv wR ["_law_way","_law_one","_law_other","_law_e"] T.f__law_told_of (y9 T) (zd (uw T) rfl (zd (Zo T) rfl (zd (Yg T) rfl yF))) (jA T) T.cl (by decide +kernel)
theorem Jn (T : Txt K mg) : FOk P w K mg base true "_law_turns_of" 1 ["_law_row"] yA := zv jt ["_law_row","_law_found","_law_here"] T.f__law_turns_of (y9 T) yF (jA T) T.cl (by decide +kernel)
theorem Zr (T : Txt K mg) : FOk P w K mg base true "_law_right" 8 ["_law_one","_law_other"] ya := zv Ji ["_law_one","_law_other","_law_kept","_law_found","_law_told","_law_turns"] T.f__law_right (y9 T) (zd (Zq T) rfl (zd (Jn T) rfl (zd (jv T) rfl yF))) (jA T) T.cl (by decide +kernel)
end
theorem law_fd {P : Program} {w : World} {K : PySem.W.Frag} {mg : Str → Option Value} {fa : Addr} (hfa : mg "law" = some (.ref fa)) (T : Txt K mg) : ∃ fd : FuncData,(∀ (s : Shared) (u : Value),BindsTo s fd ⟨[u],[]⟩ [("_law_script",u)]) ∧ ∀ base : Heap,FnOk P w K mg base (CXx P w) 40 fa fd ["_law_script"] (spM K mg 1 m_law) := by
 obtain ⟨a,fd,hm,F,bnd⟩ := T.f_law;have e := hfa.symm.trans hm;cases e;refine ⟨fd,?_,fun base => (def_atB (P := P) (w := w) (base := base) (fs := jf) (lv := 8) t_law ["_law_script","_law_one","_law_other","_law_cell","_law_pen","_law_row","_law_part","_law_again","_law_at","_law_bad"] F (y9 T) (zd (jv T) rfl (zd (Yx T) rfl (zd (Zr T) rfl (zd (Yw T) rfl (zd (ju T) rfl (zd (Yv T) rfl (zd (Yd T) rfl yF))))))) (jA T) T.cl (by decide +kernel)).mono (by decide)⟩;obtain ⟨oc,od,kV,doc,pm,an,cdv,ct,osl,rfl,lk,hcd⟩ := F.ex;exact fun s u => .of_eq rfl
end My
namespace DV
open PySem L2
section
variable {fs : List FI} {E E1 E2 E3 : zQ}
theorem x_c {d : D} : dE fs (.c d) E = .ok (.val d,E) := by simp only [dE,eC]
theorem x_gl {d : D} : dE fs (.gl d) E = .ok (.val d,E) := by simp only [dE,eC]
theorem zD {i : Nat} {d : D} (h : E[i]? = some (.val d)) : dE fs (.var i) E = .ok (.val d,E) := by simp only [dE,GC,h]
theorem Q3 {i : Nat} {ds : List D} (h : E[i]? = some (.own ds)) (h' : E.set i (.val (.lst ds)) = E1) : dE fs (.var i) E = .ok (.val (.lst ds),E1) := by simp only [dE,GC,h,h']
theorem x_movO {i : Nat} {ds : List D} (h : E[i]? = some (.own ds)) (h' : E.set i .emp = E1) : dE fs (.mov i) E = .ok (.own ds,E1) := by simp only [dE,zA9,h,h']
theorem jw {o : Op2} {a b : _} {r1 r2 r : R} (h1 : dE fs a E = .ok (r1,E1)) (h2 : dE fs b E1 = .ok (r2,E2)) (h3 : o.f r1.d r2.d = some r) : dE fs (.bin o a b) E = .ok (r,E2) := by simp only [dE,Yl,h1,h2,h3]
theorem yu {o : Cp} {a b : _} {r1 r2 r : R} (h1 : dE fs a E = .ok (r1,E1)) (h2 : dE fs b E1 = .ok (r2,E2)) (h3 : o.f r1.d r2.d = some r) : dE fs (.cmp o a b) E = .ok (r,E2) := by simp only [dE,Yl,h1,h2,h3]
theorem x_ix {a b : _} {r1 r2 r : R} (h1 : dE fs a E = .ok (r1,E1)) (h2 : dE fs b E1 = .ok (r2,E2)) (h3 : ixD r1.d r2.d = some r) : dE fs (.ix a b) E = .ok (r,E2) := by simp only [dE,Yl,h1,h2,h3]
theorem x_stp {k : Bool} {a : _} {r r' : R} (h1 : dE fs a E = .ok (r,E1)) (h2 : zBQ k r.d = some r') : dE fs (.stp k a) E = .ok (r',E1) := by simp only [dE,eUn,h1,h2]
theorem ux {b : Bi} {as : _} {rs : List R} {r : R} (h1 : dA fs as E = .ok (rs,E1)) (h2 : b.f (rs.map R.d) = some r) : dE fs (.cB b as) E = .ok (r,E1) := by simp only [dE,eCB,h1,h2]
theorem yV {as : _} {rs : List R} {ds : List D} (h1 : dA fs as E = .ok (rs,E1)) (h2 : rs.map R.d = ds) (h3 : ds.length ≤ cap) : dE fs (.tup as) E = .ok (.val (.tup ds),E1) := by
 subst h2;simp only [dE,zAS,eCB,h1];rw [if_pos h3]
theorem Yy {as : _} {rs : List R} {ds : List D} (h1 : dA fs as E = .ok (rs,E1)) (h2 : rs.map R.d = ds) (h3 : ds.length ≤ cap) : dE fs (.lst as) E = .ok (.own ds,E1) := by
 subst h2;simp only [dE,zAT,eCB,h1];rw [if_pos h3]
theorem zAW {a l u : _} {r r' : R} {lo hi : Option Int} {E3 : zQ} (h1 : dE fs a E = .ok (r,E1)) (h2 : dO fs l E1 = .ok (lo,E2)) (h3 : dO fs u E2 = .ok (hi,E3)) (h4 : slD r.d lo hi = some r') : dE fs (.sl a l u) E = .ok (r',E3) := by simp only [dE,eSl,h1,h2,h3,h4]
theorem zq {k : Nat} {a : _} {F : MF} {r r' : R} {o : Slot} (h0 : fiF fs k = F) (h1 : dE fs a E = .ok (r,E1)) (h2 : F [.val r.d] = .ok (r',[o])) : dE fs (.call k (.ev a .nil)) E = .ok (r',E1) := by
 subst h0;simp only [dE,dG,jK,zj,h1,zJ,h2,zI]
theorem Zs {k : Nat} {a b : _} {F : MF} {r r2 r' : R} {o o2 : Slot} (h0 : fiF fs k = F) (h1 : dE fs a E = .ok (r,E1)) (h1' : dE fs b E1 = .ok (r2,E2)) (h2 : F [.val r.d,.val r2.d] = .ok (r',[o,o2])) : dE fs (.call k (.ev a (.ev b .nil))) E = .ok (r',E2) := by
 subst h0;simp only [dE,dG,jK,zj,h1,h1',zJ,h2,zI]
theorem Zt {k i : Nat} {a : _} {F : MF} {r r' : R} {p p' : List D} {o : Slot} (h0 : fiF fs k = F) (hE : E[i]? = some (.own p)) (h1 : dE fs a E = .ok (r,E)) (h2 : F [.par p,.val r.d] = .ok (r',[.par p',o])) (h3 : E.set i (.own p') = E1) : dE fs (.call k (.lend i (.ev a .nil))) E = .ok (r',E1) := by
 subst h0 h3;have hi : i < E.length := (List.getElem?_eq_some_iff.mp hE).1;have hs : (E.set i .emp)[i]? = some .emp := by simp [hi]
 simp only [dE,dG,jK,zj,hE,wv,Bool.false_eq_true,if_false,h1,zJ,Slot.list?,h2,zI,hs,Slot.put,set_set]
theorem Zu {k i : Nat} {a b : _} {F : MF} {r r2 r' : R} {p p' : List D} {o o2 : Slot} (h0 : fiF fs k = F) (hE : E[i]? = some (.own p)) (h1 : dE fs a E = .ok (r,E)) (h1' : dE fs b E = .ok (r2,E)) (h2 : F [.par p,.val r.d,.val r2.d] = .ok (r',[.par p',o,o2])) (h3 : E.set i (.own p') = E1) : dE fs (.call k (.lend i (.ev a (.ev b .nil)))) E = .ok (r',E1) := by
 subst h0 h3;have hi : i < E.length := (List.getElem?_eq_some_iff.mp hE).1;have hs : (E.set i .emp)[i]? = some .emp := by simp [hi]
 simp only [dE,dG,jK,zj,hE,wv,Bool.false_eq_true,if_false,h1,h1',zJ,Slot.list?,h2,zI,hs,Slot.put,set_set]
theorem jx {k : Nat} {a b c : _} {F : MF} {r r2 r3 r' : R} {o o2 o3 : Slot} (h0 : fiF fs k = F) (h1 : dE fs a E = .ok (r,E1)) (h1' : dE fs b E1 = .ok (r2,E2)) (h1'' : dE fs c E2 = .ok (r3,E3)) (h2 : F [.val r.d,.val r2.d,.val r3.d] = .ok (r',[o,o2,o3])) : dE fs (.call k (.ev a (.ev b (.ev c .nil)))) E = .ok (r',E3) := by
 subst h0;simp only [dE,dG,jK,zj,h1,h1',h1'',zJ,h2,zI]
theorem jg {n : Nat} {body : MS} {ss o : List Slot} {r : R} (h : body (ss ++ replicate (n - ss.length) .emp) = .ok (.ret r,E1)) (ho : zl ss E1 = o) : fnM n body ss = .ok (r,o) := by
 subst ho;simp only [fnM,h]
theorem f_nx {n : Nat} {body : MS} {ss o : List Slot} (h : body (ss ++ replicate (n - ss.length) .emp) = .ok (.nx,E1)) (ho : zl ss E1 = o) : fnM n body ss = .ok (.val .non,o) := by
 subst ho;simp only [fnM,h]
theorem zX : dA fs .nil E = .ok ([],E) := by simp only [dA,zAR]
theorem zC {a as : _} {r : R} {rs : List R} (h1 : dE fs a E = .ok (r,E1)) (h2 : dA fs as E1 = .ok (rs,E2)) : dA fs (.cons a as) E = .ok (r :: rs,E2) := by simp only [dA,Jl,h1,h2]
theorem o_N : dO fs .oN E = .ok (none,E) := by simp only [dO,oNone]
theorem o_S {a : _} {i : Int} (h : dE fs a E = .ok (.val (.int i),E1)) : dO fs (.oS a) E = .ok (some i,E1) := by simp only [dO,zA7,h]
theorem t_E {a : _} {b : Bool} (h : dE fs a E = .ok (.val (.bl b),E1)) : dT fs (.tE a) E = .ok (b,E1) := by simp only [dT,tT,h]
theorem t_or {a b : _} {c : Bool} (h1 : dT fs a E = .ok (false,E1)) (h2 : dT fs b E1 = .ok (c,E2)) : dT fs (.tOr a b) E = .ok (c,E2) := by simp only [dT,GD,h1,h2]
theorem Wq {a : _} {b c : Bool} (h1 : dT fs a E = .ok (b,E1)) (h2 : (!b) = c) : dT fs (.tNot a) E = .ok (c,E1) := by subst h2; simp only [dT,Jk,h1]
theorem jB {i : Nat} {a : _} {r : R} (h1 : dE fs a E = .ok (r,E1)) (h2 : Jq i r E1 = .ok E2) : dS fs (.sSet i a) E = .ok (.nx,E2) := by simp only [dS,sSet,h1,h2]
theorem wd {t a b : _} {o : Out (Fl × zQ)} (h1 : dT fs t E = .ok (false,E1)) (h2 : dB fs b E1 = o) : dS fs (.sIf t a b) E = o := by subst h2; simp only [dS,sIf,h1]
theorem vV {t a b : _} {o : Out (Fl × zQ)} (h1 : dT fs t E = .ok (true,E1)) (h2 : dB fs a E1 = o) : dS fs (.sIf t a b) E = o := by subst h2; simp only [dS,sIf,h1]
theorem jh {a : _} {r : R} (h1 : dE fs a E = .ok (r,E1)) : dS fs (.sRet a) E = .ok (.ret r,E1) := by simp only [dS,sRet,h1]
theorem ZE {a : _} {r : R} (h1 : dE fs a E = .ok (r,E1)) : dS fs (.sDrop a) E = .ok (.nx,E1) := by simp only [dS,sDrop,h1]
theorem s_par {i j : Nat} {as : _} {r1 r2 : R} (h1 : dA fs as E = .ok ([r1,r2],E1)) (h2 : gNs [i,j] [r1.d,r2.d] E1 = .ok E2) : dS fs (.sPar i j as) E = .ok (.nx,E2) := by simp only [dS,sPar,h1,h2]
theorem uZ {a b : _} {tg : Tg} {r : R} {ds : List D} {p : Fl × zQ} (h1 : dE fs a E = .ok (r,E1)) (h2 : r.d = .lst ds) (h3 : Jb tg.m (dB fs b) ds E1 = .ok p) : dS fs (.sForL a tg b) E = .ok p := by simp only [dS]; exact vL (by simp only [sForL,h1,h2,h3])
theorem s_forR1 {a b : _} {tg : Tg} {r : R} {j : Int} {p : Fl × zQ} (h1 : dA fs a E = .ok ([r],E1)) (h2 : r.d = .int j) (hj : -1000000 ≤ j ∧ j ≤ 1000000) (h3 : Jb tg.m (dB fs b) (zT 0 j.toNat) E1 = .ok p) : dS fs (.sForR1 a tg b) E = .ok p := by
 simp only [dS];refine vL ?_;simp only [sForR1,h1,h2];rw [if_pos ⟨by omega,by omega⟩,h3]
theorem i_T {a : _} {r : R} {ds : List D} (h1 : dE fs a E = .ok (r,E1)) (h2 : r.d = .tup ds) : dI fs (.iT a) E = .ok (ds,E1) := by simp only [dI,iT,h1,h2]
theorem i_R1 {a : _} {r : R} {j : Int} (h1 : dA fs a E = .ok ([r],E1)) (h2 : r.d = .int j) (hj : -1000000 ≤ j ∧ j ≤ 1000000) : dI fs (.iR1 a) E = .ok (zT 0 j.toNat,E1) := by
 simp only [dI,iR1,h1,h2];rw [if_pos ⟨by omega,by omega⟩]
theorem we : dB fs .bNil E = .ok (.nx,E) := by simp only [dB,zAV]
theorem z7 {s : _} {o : Out (Fl × zQ)} (h : dS fs s E = o) : dB fs (.bOne s) E = o := by simp only [dB,h]
theorem zf {s b : _} {o : Out (Fl × zQ)} (h : dS fs s E = .ok (.nx,E1)) (h2 : dB fs b E1 = o) : dB fs (.bSeq s b) E = o := by simp only [dB,vz,h,h2]
theorem zBg {s b : _} {r : R} (h : dS fs s E = .ok (.ret r,E1)) : dB fs (.bSeq s b) E = .ok (.ret r,E1) := by simp only [dB,vz,h]
theorem zBh {s b : _} {x : Exn} (h : dS fs s E = .exc x E1) : dB fs (.bSeq s b) E = .exc x E1 := by simp only [dB,vz,h]
theorem vW {a : _} {x : Exn} (h : dE fs a E = .exc x E1) : dS fs (.sDrop a) E = .exc x E1 := by simp only [dS,sDrop,h]
theorem zCY {a : _} {x : Exn} (h : dE fs a E = .exc x E1) : dS fs (.sRet a) E = .exc x E1 := by simp only [dS,sRet,h]
theorem s_raise {c : Str} : dS fs (.sRaise c) E = .exc ⟨c,true⟩ E := by simp only [dS,DV.sRaise]
theorem zBi {k : Nat} {a : _} {F : MF} {r : R} {x : Exn} {o : List Slot} (h0 : fiF fs k = F) (h1 : dE fs a E = .ok (r,E1)) (h2 : F [.val r.d] = .exc x o) : dE fs (.call k (.ev a .nil)) E = .exc ⟨x.cls,false⟩ E1 := by
 subst h0;simp only [dE,dG,jK,zj,h1,zJ,h2,YM,if_true]
theorem zBj {k : Nat} {a b : _} {F : MF} {r r2 : R} {x : Exn} {o : List Slot} (h0 : fiF fs k = F) (h1 : dE fs a E = .ok (r,E1)) (h1' : dE fs b E1 = .ok (r2,E2)) (h2 : F [.val r.d,.val r2.d] = .exc x o) : dE fs (.call k (.ev a (.ev b .nil))) E = .exc ⟨x.cls,false⟩ E2 := by
 subst h0;simp only [dE,dG,jK,zj,h1,h1',zJ,h2,YM,if_true]
theorem zCZ {cl : List Str} {b hb : _} {i : Nat} {p : Fl × zQ} (h : dB fs b E = .ok p) : dS fs (.sTry cl b i hb) E = .ok p := by simp only [dS,DV.sTry,h]
theorem zCa {cl : List Str} {b hb : _} {i : Nat} {c : Str} {r : R} (h : dB fs b E = .exc ⟨c,false⟩ E1) (hc : cl.contains c = true) (hp : Jq i (.val (.exn c)) E1 = .ok E2) (hh : dB fs hb E2 = .ok (.ret r,E3)) : dS fs (.sTry cl b i hb) E = .ok (.ret r,E3) := by
 simp only [dS,DV.sTry,h,hc,hp,hh,Bool.not_false,Bool.and_self,if_true]
theorem yE {d : D} : [d].length ≤ cap := by simp only [List.length_singleton,cap]; omega
theorem JT : ([] : List D).length ≤ cap := by simp only [length_nil,cap]; omega
theorem jC {d e : D} : [d,e].length ≤ cap := by simp only [length_cons,length_nil,cap]; omega
theorem x_comp {nl : Nat} {xs ys : List Str} {caps : List Nat} {it tt el : _} {tg : Tg} {ds rs : List D} {vs : List D} (pat : D → List DV.Slot) (f : D → Bool) (g : D → D) (hi : dI fs it E = .ok (ds,E1)) (hcap : JO E1 caps = .ok (vs.map AR.tmp))
  (h1 : ∀ d ∈ ds,∀ S : List DV.Slot,S.length = nl → (∀ s ∈ S,yh s = true) → tg.m d (S ++ vs.map Slot.val) = .ok (pat d ++ vs.map Slot.val))
  (h2 : ∀ d ∈ ds,(pat d).length = nl ∧ ∀ s ∈ pat d,yh s = true)
  (h3 : ∀ d ∈ ds,dT fs tt (pat d ++ vs.map Slot.val) = .ok (f d,pat d ++ vs.map Slot.val))
  (h4 : ∀ d ∈ ds,f d = true → ∃ r,dE fs el (pat d ++ vs.map Slot.val) = .ok (r,pat d ++ vs.map Slot.val) ∧ r.d = g d) (hc : ds.length ≤ cap) (hr : (ds.filter f).map g = rs) : dE fs (.comp nl xs ys caps it tg tt el) E = .ok (.own rs,E1) := by
 subst hr;simp only [dE];exact Qq <| zBe pat f g ds h1 h2 h3 h4 hc hi hcap
theorem Q4 {xs ys : List Str} {caps : List Nat} {it el : _} {ds rs : List D} {vs : List D} (g : D → D) (hi : dI fs it E = .ok (ds,E1)) (hcap : JO E1 caps = .ok (vs.map AR.tmp))
  (h4 : ∀ d ∈ ds,∃ r,dE fs el (.val d :: vs.map Slot.val) = .ok (r,.val d :: vs.map Slot.val) ∧ r.d = g d) (hc : ds.length ≤ cap) (hr : ds.map g = rs) : dE fs (.comp 1 xs ys caps it (.n 0) .tTr el) E = .ok (.own rs,E1) := by
 refine x_comp (fun d => [.val d]) (fun _ => true) g hi hcap (fun d hd S hS hn => gN_ok1 hS hn) (fun d hd => ⟨rfl,fun s hs => ?_⟩) (fun d hd => ?_) (fun d hd _ => h4 d hd) hc ?_
 ·rw [mem_singleton] at hs; subst hs; rfl
 ·simp only [dT,QC]
 ·rw [List.filter_eq_self.mpr (fun _ _ => rfl),hr]
end
end DV
namespace SM
open PySem L2 DV
def ends (w o k : Nat) : Nat → List Nat
 | 0 => 1 :: replicate k 0
 | n + 1 => (o * (ends w o k n).sum) :: ((ends w o k n).dropLast.map (w * ·))
def U (w o k n : Nat) : Nat := (ends w o k n).sum
def F (w o k m : Nat) : Nat → Nat
 | 0 => 0
 | r + 1 => F w o k m r + w ^ r * o * U w o k (m - 1 - r)
def wt (die : List Nat) (row : List Nat) : Nat := row.foldl (fun a x => a * die.getD x 0) 1
def stp (s : Nat) (p : Nat × Nat) (x : Nat) : Nat × Nat := (max p.1 (if x = s then p.2 + 1 else 0),if x = s then p.2 + 1 else 0)
def stt (s : Nat) (row : List Nat) : Nat × Nat := row.foldl (stp s) (0,0)
def Die (die : List Nat) : Prop := (die.length = 2 ∨ die.length = 3) ∧ ∀ x ∈ die,1 ≤ x ∧ x ≤ 9
theorem inner {die : List Nat} (hd : Die die) {s : Nat} (hs : s < die.length) (k : Nat) (g : Nat → Nat) (r : List Nat) :
  ((List.range die.length).map fun x => if (stt s (r ++ [x])).1 ≤ k then wt die (r ++ [x]) * g (stt s (r ++ [x])).2 else 0).sum = if (stt s r).1 ≤ k then wt die r * ((die.sum - die.getD s 0) * g 0 + if (stt s r).2 + 1 ≤ k then die.getD s 0 * g ((stt s r).2 + 1) else 0) else 0 := by
 have e1 : ∀ x,stt s (r ++ [x]) = stp s (stt s r) x := fun x => by simp [stt]
 have e2 : ∀ x,wt die (r ++ [x]) = wt die r * die.getD x 0 := fun x => by simp [wt]
 simp only [e1,e2];generalize stt s r = p;generalize wt die r = t;obtain ⟨m,h⟩ := p;have hm : ∀ a : Nat,max m (a + 1) ≤ k ↔ m ≤ k ∧ a + 1 ≤ k := fun a => by omega
 match die,hd with
 | [a,b],hd =>
  simp only [length_cons,length_nil] at hs;have : s = 0 ∨ s = 1 := by omega
  rcases this with rfl | rfl <;> by_cases c1 : m ≤ k <;> by_cases c2 : h + 1 ≤ k <;> simp [range_succ,stp,hm,c1,c2,Nat.mul_add,Nat.mul_assoc] <;> omega
 | [a,b,c],hd =>
  simp only [length_cons,length_nil] at hs;have : s = 0 ∨ s = 1 ∨ s = 2 := by omega
  have x1 : a + (b + c) - b = a + c := by omega
  have x2 : a + (b + c) - c = a + b := by omega
  rcases this with rfl | rfl | rfl <;> by_cases c1 : m ≤ k <;> by_cases c2 : h + 1 ≤ k <;> simp [range_succ,stp,hm,c1,c2,Nat.mul_add,Nat.add_mul,Nat.mul_assoc,x1,x2] <;> omega
 | [],hd => simp [Die] at hd
 | [_],hd => simp [Die] at hd
 | _ :: _ :: _ :: _ :: _,hd => simp [Die] at hd
end SM
namespace SM
open PySem L2 DV
end SM
namespace SM
open PySem L2 DV
def tot (es : List (List Nat)) : Nat := (es.map List.sum).sum
def al (ws : List Nat) (k : Nat) : Nat → List (List Nat)
 | 0 => ws.map fun w => w :: replicate (k - 1) 0
 | n + 1 => List.zipWith (fun w e => (w * (tot (al ws k n) - e.sum)) :: e.dropLast.map (w * ·)) ws (al ws k n)
def A (ws : List Nat) (n k : Nat) : Nat := if n = 0 then 1 else if k = 0 then 0 else tot (al ws k (n - 1))
end SM
namespace DV
open PySem L2
section
variable {fs : List FI} {E E1 E2 E3 E4 E5 : zQ}
theorem uc {n : Nat} {body : MS} {ss o : List DV.Slot} {x : Exn} (h : body (ss ++ replicate (n - ss.length) .emp) = .exc x E1) (ho : zl ss E1 = o) : fnM n body ss = .exc x o := by
 subst ho;simp only [fnM,h]
theorem zBk {k : Nat} {a : _} {F : MF} {r : R} {z : Str} {y : Bool} {o : List DV.Slot} (h0 : fiF fs k = F) (h1 : dE fs a E = .ok (r,E1)) (h2 : F [.val r.d] = .exc ⟨z,y⟩ o) : dE fs (.call k (.ev a .nil)) E = .exc ⟨z,false⟩ E1 := zBi h0 h1 h2
theorem x_cX2 {k : Nat} {a b : _} {F : MF} {r r2 : R} {z : Str} {y : Bool} {o : List DV.Slot} (h0 : fiF fs k = F) (h1 : dE fs a E = .ok (r,E1)) (h1' : dE fs b E1 = .ok (r2,E2)) (h2 : F [.val r.d,.val r2.d] = .exc ⟨z,y⟩ o) : dE fs (.call k (.ev a (.ev b .nil))) E = .exc ⟨z,false⟩ E2 := zBj h0 h1 h1' h2
theorem jc {k i : Nat} {a : _} {F : MF} {r r' : R} {p p' : List D} {o : DV.Slot} (h0 : fiF fs k = F) (hE : E[i]? = some (.par p)) (h1 : dE fs a E = .ok (r,E)) (h2 : F [.par p,.val r.d] = .ok (r',[.par p',o])) (h3 : E.set i (.par p') = E1) : dE fs (.call k (.lend i (.ev a .nil))) E = .ok (r',E1) := by
 subst h0 h3;have hi : i < E.length := (List.getElem?_eq_some_iff.mp hE).1;have hs : (E.set i .emp)[i]? = some .emp := by simp [hi]
 simp only [dE,dG,jK,zj,hE,wv,Bool.false_eq_true,if_false,h1,zJ,Slot.list?,h2,zI,hs,Slot.put,set_set]
theorem x_neg {a : _} {i : Int} (h : dE fs a E = .ok (.val (.int i),E1)) : dE fs (.neg a) E = .ok (.val (.int (-i)),E1) := by simp only [dE,eNeg,h]
theorem x_and1 {a b : _} {o : Out (R × zQ)} (h : dE fs a E = .ok (.val (.bl true),E1)) (h1 : dE fs b E1 = o) : dE fs (.and a b) E = o := by subst h1; simp only [dE,GE,h]
theorem x_is {T : Ty} {a : _} {r : R} {t : String} {v : Bool} (h : dE fs a E = .ok (r,E1)) (ht : tyD r.d = some t) (hv : WS t T.s = v) : dE fs (.is T a) E = .ok (.val (.bl v),E1) := by subst hv; simp only [dE,eIs,h,ht]
theorem x_ixO {i : Nat} {b : _} {ds : List D} {k : Int} {d : D} (h : E[i]? = some (.own ds)) (h1 : dE fs b E = .ok (.val (.int k),E)) (hx : atI ds k = some d) : dE fs (.ixO i b) E = .ok (.val d,E) := by
 simp only [dE,eIxO,h,wv,Bool.false_eq_true,if_false,h1,ixS,hx]
theorem zCb {a b : _} {o : Out (Bool × zQ)} (h1 : dT fs a E = .ok (true,E1)) (h2 : dT fs b E1 = o) : dT fs (.tAnd a b) E = o := by subst h2; simp only [dT,JM,h1]
theorem t_and0 {a b : _} (h1 : dT fs a E = .ok (false,E1)) : dT fs (.tAnd a b) E = .ok (false,E1) := by simp only [dT,JM,h1]
theorem s_app {i : Nat} {a : _} {r : R} {ds ds0 : List D} (h0 : E[i]? = some (.own ds0)) (h1 : dE fs a E = .ok (r,E1)) (h2 : E1[i]? = some (.own ds)) (hl : ds.length < cap) (h3 : E1.set i (.own (ds ++ [r.d])) = E2) : dS fs (.sApp i a) E = .ok (.nx,E2) := by
 subst h3;simp only [dS,sApp,h0,Slot.list?,h1,h2,Slot.put];rw [if_pos hl]
end
theorem put_ok {i : Nat} {E : zQ} {s : DV.Slot} (r : R) (h : E[i]? = some s) (hs : yh s = true) : Jq i r E = .ok (E.set i r.slot) := by
 simp only [Jq,h];cases s <;> first | rfl | (cases hs)
theorem Yh {i : Nat} {E E1 : zQ} {s : DV.Slot} {r : R} (h : E[i]? = some s) (hs : yh s = true) (e : E.set i r.slot = E1) : Jq i r E = .ok E1 := by
 rw [put_ok r h hs,e]
theorem ne_int (x y : Int) : neG (.int x) (.int y) = some (.val (.bl (!decide (x = y)))) := by simp [neG,neF]
theorem eq_int (x y : Int) : eqG (.int x) (.int y) = some (.val (.bl (decide (x = y)))) := by simp [eqG,eqF]
theorem eq_str (t : Str) : eqG (.str t) (.str t) = some (.val (.bl true)) := by simp [eqG,eqF]
theorem ne_str (t : Str) : neG (.str t) (.str t) = some (.val (.bl false)) := by simp [neG,neF]
theorem Q5 (a b : List D) (h : a.length + b.length ≤ 100000) : W8 (.lst a) (.lst b) = some (.own (a ++ b)) := by
 simp only [W8]; rw [if_pos (by simp only [cap]; omega)]
theorem vX (a b : List D) (h : a.length + b.length ≤ 100000) : W8 (.tup a) (.tup b) = some (.val (.tup (a ++ b))) := by
 simp only [W8]; rw [if_pos (by simp only [cap]; omega)]
theorem rep_one (x : D) (k : Nat) : (replicate k [x]).flatten = replicate k x := by
 induction k with
 | zero => rfl
 | succ k ih => rw [replicate_succ,flatten_cons,ih,replicate_succ]; rfl
theorem zBl (d : D) (n : Nat) (h : n ≤ 1000) : Z3 (.tup [d]) (.int n) = some (.val (.tup (replicate n d))) := by
 simp only [Z3];rw [if_pos ⟨by omega,by omega,by simp only [List.length_singleton,Int.toNat_natCast,cap]; omega⟩,Int.toNat_natCast,rep_one]
theorem Q6 {x y : D} {r : R} (e : Z3 x y = some r) : uL x y = some r := by simp only [uL,e]
theorem ud (d : D) (n : Nat) (h : n ≤ 1000) : uL (.tup [d]) (.int n) = some (.val (.tup (replicate n d))) := by
 exact Q6 (zBl d n h)
theorem zCc {ds : List D} {k : Nat} {d : D} (h : ds[k]? = some d) : atI ds (k : Int) = some d := by
 obtain ⟨hk,e⟩ := List.getElem?_eq_some_iff.mp h;have : (k : Int) < ds.length := by omega
 simp [atI,ixN,this,h]
theorem atI_end (ds : List D) (d : D) : atI (ds ++ [d]) (-1) = some d := by
 have h1 : ¬ (0 : Int) ≤ -1 := by decide
 have h2 : -(((ds ++ [d]).length : Nat) : Int) ≤ -1 := by simp; omega
 have h3 : (-1 + (((ds ++ [d]).length : Nat) : Int)).toNat = ds.length := by simp; omega
 unfold atI ixN;rw [if_neg h1,if_pos h2,h3];simp
theorem Q7 (ds : List D) (i : Int) : ixD (.lst ds) (.int i) = (atI ds i).map .val := rfl
theorem pick {ds : List D} {r : Int} (h0 : 0 ≤ r) (h1 : r < ds.length) : ∃ d,d ∈ ds ∧ ixD (.lst ds) (.int r) = some (.val d) := by
 obtain ⟨k,rfl⟩ := Int.eq_ofNat_of_zero_le h0;have hk : k < ds.length := by omega
 refine ⟨ds[k],getElem_mem hk,?_⟩;rw [Q7,zCc (getElem?_eq_getElem hk)]; rfl
theorem Wr (f : D → Bool) : ∀ ds : List D,ye (ds.map fun d => D.bl (f d)) = some (ds.map f)
 | [] => rfl
 | d :: ds => by simp only [map_cons,ye,Wr f ds]; rfl
theorem all_map (f : D → Bool) (ds : List D) : (ds.map f).all id = ds.all f := by simp [List.all_map]
theorem zCd {f : D → Bool} {ds : List D} {b : Bool} (h : ds.all f = b) : allD [.lst (ds.map fun d => D.bl (f d))] = some (.val (.bl b)) := by
 subst h;simp [allD,Wr,all_map]
theorem zBm (ds : List D) (k : Nat) (h : k ≤ ds.length) : Z4 ds (some (k : Int)) none = ds.drop k := by
 unfold Z4;rw [HT.sIx_nat];simp only [HT.sIx];rw [show min k ds.length = k by omega,List.take_of_length_le (by simp)]
theorem pow30 : powD (.int 10) (.int 30) = some (.val (.int (10 ^ 30))) := by
 simp [powD,zAU]
def N (l : List Nat) : List D := l.map fun n : Nat => D.int (n : Int)
theorem ji (l : List Nat) : (N l).length = l.length := by simp [N]
theorem uy {l : List Nat} {d : D} (h : d ∈ N l) : ∃ n ∈ l,d = .int (n : Nat) := by
 obtain ⟨n,hn,rfl⟩ := mem_map.mp h;exact ⟨n,hn,rfl⟩
theorem N_get {l : List Nat} {k n : Nat} (h : l[k]? = some n) : (N l)[k]? = some (.int (n : Nat)) := by simp [N,h]
theorem zBn (a b : List Nat) : N (a ++ b) = N a ++ N b := by simp [N]
theorem N_rep (k n : Nat) : N (replicate k n) = replicate k (.int (n : Nat)) := by simp [N]
theorem ints_N (n : Nat) : zT 0 n = N (List.range n) := by
 have key : ∀ n k : Nat,zT (k : Int) n = N (List.range' k n) := by
  intro n
  induction n with
  | zero => intro k; rfl
  | succ n ih =>
   intro k;have := ih (k + 1);rw [List.range'_succ];show D.int (k : Int) :: zT ((k : Int) + 1) n = D.int (k : Int) :: N (List.range' (k + 1) n);rw [← this]; simp
 rw [List.range_eq_range'];exact key n 0
end DV
namespace DV
open PySem L2
section
variable {fs : List FI} {E E1 E2 E3 : zQ}
theorem zCe {it b : _} {tg : Tg} {ds : List D} {p : Fl × zQ} (h1 : dI fs it E = .ok (ds,E1)) (h3 : Jb tg.m (dB fs b) ds E1 = .ok p) : dS fs (.sForI it tg b) E = .ok p := by
 simp only [dS,zBb,h1,sForI,h3]
theorem i_E {t : Bool} {as : _} {r : R} {ds : List D} (h1 : dA fs as E = .ok ([r],E1)) (h2 : seqD t r.d = some ds) : dI fs (.iE t as) E = .ok (Ql 0 ds,E1) := by
 simp only [dI,iE,h1,h2]
end
end DV
namespace DV
open PySem L2
section
variable {fs : List FI} {E E1 E2 E3 E4 E5 E6 : zQ}
theorem t_bor {i : Nat} {t : _} {ds : List D} {b : Bool} (h : E[i]? = some (.own ds)) (hb : (E.set i .emp).all zCU = true) (h1 : E.set i (.val (.lst ds)) = E1) (h2 : dT fs t E1 = .ok (b,E1)) : dT fs (.tBor i t) E = .ok (b,E) := by
 subst h1;simp only [dT,zBa,h,hb,if_true,h2]
end
end DV
namespace DV
open PySem L2
section
variable {fs : List FI} {E E1 E2 E3 E4 E5 E6 : zQ}
theorem x_compI {xs ys : List Str} {caps : List Nat} {it el : _} {ds rs : List D} {ars : List AR} {ss : List DV.Slot} (hi : dI fs it E = .ok (ds,E1)) (hcap : JO E1 caps = .ok ars) (hl : zJ ars E1 = .ok (ss,E2))
  (h4 : ∀ (i : Nat) (d : D),ds[i]? = some d → ∃ r,dE fs el (.val d :: ss) = .ok (r,.val d :: ss) ∧ rs[i]? = some r.d) (hn : rs.length = ds.length) (hc : ds.length ≤ cap) (hb : ∀ x : DV.Slot,zI ars ((zl (.emp :: ss) (x :: ss)).drop 1) E1 E2 = .ok E1) : dE fs (.comp 1 xs ys caps it (.n 0) .tTr el) E = .ok (.own rs,E1) := by
 obtain ⟨res,E',e1,e2,x,e3,_⟩ := Wk (tg := gN 0) (tt := QC) (el := dE fs el) (fun k E acc => acc = rs.take k ∧ ∃ x,E = x :: ss ∧ yh x = true) ds 0 (.emp :: ss) [] ⟨rfl,.emp,rfl,rfl⟩ (by simpa using hc) (fun i d q E acc ⟨ha,x,hE,hx⟩ _ => by
  rw [zero_add] at ha ⊢;obtain ⟨r,e,er⟩ := h4 i d q;refine ⟨.val d :: ss,.val d :: ss,r,.val d :: ss,?_,rfl,e,?_,.val d,rfl,rfl⟩
  ·subst hE; cases x <;> first | rfl | (cases hx)
  ·rw [ha,List.take_add_one,er]; rfl)
 rw [zero_add,← hn,List.take_length] at e2;subst e2 e3;simp only [dE];refine Qq ?_;have e1' : wY (gN 0) QC (dE fs el) ds (replicate 1 .emp ++ ss) [] = .ok (res,x :: ss) := e1;have hb' : zI ars ((zl (replicate 1 .emp ++ ss) (x :: ss)).drop 1) E1 E2 = .ok E1 := hb x;simp only [Yr,hi,hcap,hl,Tg.m,dT,e1',hb']
end
theorem Ws {tg : MG} {body : MS} (I : Nat → zQ → Prop) (p : Nat → Bool) (r : Nat → R) : ∀ (ds : List D) (k : Nat) (E : zQ),I k E →
  (∀ i d,ds[i]? = some d → ∀ E,I (k + i) E → ∃ E1 E2,tg d E = .ok E1 ∧ ((p (k + i) = true ∧ body E1 = .ok (.ret (r (k + i)),E2)) ∨ (p (k + i) = false ∧ body E1 = .ok (.nx,E2) ∧ I (k + i + 1) E2))) →
  (∃ i E',i < ds.length ∧ p (k + i) = true ∧ (∀ j,j < i → p (k + j) = false) ∧ DV.Jb tg body ds E = .ok (.ret (r (k + i)),E')) ∨ ((∀ i,i < ds.length → p (k + i) = false) ∧ ∃ E',DV.Jb tg body ds E = .ok (.nx,E') ∧ I (k + ds.length) E')
 | [],k,E,h,step => .inr ⟨fun i hi => absurd hi (Nat.not_lt_zero i),E,rfl,h⟩
 | d :: ds,k,E,h,step => by
  obtain ⟨E1,E2,h1,h2 | ⟨h2,h3,h4⟩⟩ := step 0 d rfl E h
  ·exact .inl ⟨0,E2,by simp,h2.1,fun j hj => absurd hj (Nat.not_lt_zero j),by simp only [DV.Jb,h1,h2.2]⟩
  ·have ih := Ws I p r ds (k + 1) E2 h4 fun i d' e E h => by
    have := step (i + 1) d' (by simpa using e) E (by rw [show k + (i + 1) = k + 1 + i by omega]; exact h);rw [show k + (i + 1) = k + 1 + i by omega] at this;exact this
   rcases ih with ⟨i,E',hi,q1,q2,q3⟩ | ⟨q1,E',q2,q3⟩
   ·refine .inl ⟨i + 1,E',by simp; omega,by rw [show k + (i + 1) = k + 1 + i by omega]; exact q1,fun j hj => ?_,?_⟩
    ·cases j with
     | zero => exact h2
     | succ j => rw [show k + (j + 1) = k + 1 + j by omega]; exact q2 j (by omega)
    ·rw [show k + (i + 1) = k + 1 + i by omega]
     simp only [DV.Jb,h1,h3];exact q3
   ·refine .inr ⟨fun j hj => ?_,E',?_,?_⟩
    ·cases j with
     | zero => exact h2
     | succ j => rw [show k + (j + 1) = k + 1 + j by omega]; exact q1 j (by simp at hj; omega)
    ·simp only [DV.Jb,h1,h3]; exact q2
    ·rw [length_cons,show k + (ds.length + 1) = k + 1 + ds.length by omega]; exact q3
theorem ne_tups {a b : List D} (h1 : ∀ d ∈ a,eqb 19 d = true) (h2 : ∀ d ∈ b,eqb 19 d = true) : neG (.tup a) (.tup b) = some (.val (.bl (!deqs a b))) := by
 have e : neF (.tup a) (.tup b) = none := rfl;simp only [neG,e,eqDD];rw [if_pos ⟨by simp only [eqb,all_eq_true]; exact h1,by simp only [eqb,all_eq_true]; exact h2⟩];rfl
end DV
namespace TM
open PySem L2 DV PyProof.Rows
theorem Zv : ∀ a : List Int,HT.lexLt a a = false
 | [] => rfl
 | x :: a => by simp only [HT.lexLt,if_true,Zv a]
theorem Zw : ∀ a b : List Int,HT.lexLt a b = false → HT.lexLt b a = false → a = b
 | [],[],_,_ => rfl
 | [],_ :: _,h,_ => by cases h
 | _ :: _,[],_,h => by cases h
 | x :: a,y :: b,h1,h2 => by
  simp only [HT.lexLt] at h1 h2;by_cases e : x = y
  ·subst e
   simp only [if_true] at h1 h2;rw [Zw a b h1 h2]
  ·rw [if_neg e] at h1
   rw [if_neg (fun h => e h.symm)] at h2;simp at h1 h2;omega
theorem Yi : ∀ a b c : List Int,HT.lexLt a b = true → HT.lexLt b c = true → HT.lexLt a c = true
 | [],[],_,h,_ => by cases h
 | [],_ :: _,[],_,h => by cases h
 | [],_ :: _,_ :: _,_,_ => rfl
 | _ :: _,[],_,h,_ => by cases h
 | _ :: _,_ :: _,[],_,h => by cases h
 | x :: a,y :: b,z :: c,h1,h2 => by
  simp only [HT.lexLt] at h1 h2 ⊢;by_cases e : x = y
  ·subst e
   rw [if_pos rfl] at h1;by_cases f : x = z
   ·subst f
    rw [if_pos rfl] at h2 ⊢;exact Yi a b c h1 h2
   ·rw [if_neg f] at h2 ⊢
    exact h2
  ·rw [if_neg e] at h1
   simp at h1
   by_cases f : y = z
   ·subst f
    rw [if_neg e];simpa using h1
   ·rw [if_neg f] at h2
    simp at h2
    rw [if_neg (by omega)];simp; omega
theorem ZF {f : Nat → List Int} : ∀ (k i : Nat),i ≤ k → HT.lexLt (f i) (f (argBest (fun i j => HT.lexLt (f i) (f j)) k)) = false
 | 0,i,h => by
  have : i = 0 := by omega
  subst this;exact Zv _
 | k + 1,i,h => by
  simp only [argBest];have ih := ZF (f := f) k;by_cases c : HT.lexLt (f (k + 1)) (f (argBest (fun i j => HT.lexLt (f i) (f j)) k)) = true
  ·rw [if_pos c]
   by_cases e : i = k + 1
   ·subst e; exact Zv _
   ·have h1 := ih i (by omega)
    cases h2 : HT.lexLt (f i) (f (k + 1)) with
    | false => rfl
    | true =>
     have := Yi _ _ _ h2 c;rw [h1] at this; cases this
  ·rw [if_neg c]
   by_cases e : i = k + 1
   ·subst e; simpa using c
   ·exact ih i (by omega)
abbrev tD (a : List Int) : D := .tup (a.map D.int)
theorem ue : ∀ a b : List Int,tlt (a.map D.int) (b.map D.int) = some (HT.lexLt a b)
 | [],[] => rfl
 | [],_ :: _ => rfl
 | _ :: _,[] => rfl
 | x :: a,y :: b => by
  have e : deq (.int x) (.int y) = decide (x = y) := by simp only [deq,flV,eqV]; rfl
  simp only [map_cons,tlt,e,HT.lexLt];by_cases h : x = y
  ·subst h
   simp only [decide_true,if_true];exact ue a b
  ·simp only [h,decide_false,Bool.false_eq_true,if_false]
theorem Wt {p q : Nat → Bool} : ∀ (l : List Nat) (x : Nat),(∀ k,p k = true → q k = true) → x ∈ l → q x = true → p x = false → l.countP p < l.countP q
 | [],x,_,h,_,_ => by cases h
 | y :: l,x,hpq,h,h1,h2 => by
  have mono : l.countP p ≤ l.countP q := List.countP_mono_left fun k _ => hpq k
  rw [List.countP_cons,List.countP_cons];rcases mem_cons.mp h with rfl | h
  ·rw [h1,h2]; simp; omega
  ·have ih := Wt l x hpq h h1 h2
   cases hp : p y with
   | true => rw [hpq y hp]; simp; omega
   | false =>
    cases q y <;> simp <;> omega
section
variable {L : List (List Int)}
theorem gd (i : Nat) (h : i < L.length) : (L.map tD).getD i .non = tD (L.getD i []) := by
 rw [getD_eq_getElem?_getD,getD_eq_getElem?_getD,getElem?_map,getElem?_eq_getElem h]; rfl
theorem Wu (i j : Nat) (hi : i < L.length) (hj : j < L.length) : Qb (L.map tD) i j = some (HT.lexLt (L.getD i []) (L.getD j [])) := by
 unfold Qb;rw [gd i hi,gd j hj];exact ue _ _
theorem Zx (i : Nat) (hi : i < L.length) : rkD (L.map tD) i = (((List.range L.length).countP fun k => HT.lexLt (L.getD k []) (L.getD i [])) : Nat) := by
 unfold rkD;rw [length_map,← List.countP_eq_length_filter];congr 1;refine List.countP_congr fun k hk => ?_
 rw [Wu k i (mem_range.mp hk) hi];cases HT.lexLt (L.getD k []) (L.getD i []) <;> simp
theorem rk_lt (i j : Nat) (hi : i < L.length) (hj : j < L.length) (h : HT.lexLt (L.getD i []) (L.getD j []) = true) : rkD (L.map tD) i < rkD (L.map tD) j := by
 rw [Zx i hi,Zx j hj];have := Wt (p := fun k => HT.lexLt (L.getD k []) (L.getD i [])) (q := fun k => HT.lexLt (L.getD k []) (L.getD j [])) (List.range L.length) i (fun k hk => Yi _ _ _ hk h) (mem_range.mpr hi) h (Zv _);omega
theorem uf (i j : Nat) (hi : i < L.length) (hj : j < L.length) : HT.lexLt (L.getD i []) (L.getD j []) = decide (rkD (L.map tD) i < rkD (L.map tD) j) := by
 cases h : HT.lexLt (L.getD i []) (L.getD j []) with
 | true => exact (decide_eq_true (rk_lt i j hi hj h)).symm
 | false =>
  refine (decide_eq_false ?_).symm;cases h2 : HT.lexLt (L.getD j []) (L.getD i []) with
  | true => have := rk_lt j i hj hi h2; omega
  | false =>
   have e := Zw _ _ h h2;rw [Zx i hi,Zx j hj,e]; omega
theorem sort_ok (h64 : L.length < 64) (h2 : 2 ≤ L.length → ∀ a ∈ L,a ≠ []) : SortOk (L.map tD) where
 few := by simpa using h64
 tups := fun d hd => by
  obtain ⟨a,ha,rfl⟩ := mem_map.mp hd;refine ⟨a.map D.int,rfl,fun e he => ?_,fun hl => ?_⟩
  ·obtain ⟨x,_,rfl⟩ := mem_map.mp he; rfl
  ·have := h2 (by simpa using hl) a ha
   cases a with
   | nil => exact absurd rfl this
   | cons x r => exact ⟨x,r.map D.int,rfl⟩
 lt := fun i j hi hj => by
  rw [length_map] at hi hj;rw [Wu i j hi hj,uf i j hi hj]
 one := fun i j hi hj e => by
  rw [length_map] at hi hj;rw [gd i hi,gd j hj];have a1 := uf i j hi hj;have a2 := uf j i hj hi;rw [e] at a1 a2;have q := Zw (L.getD i []) (L.getD j []) (by rw [a1]; simp) (by rw [a2]; simp);rw [q]
theorem uz (h0 : 0 < L.length) : ∃ i,i < L.length ∧ (Yt (L.map tD))[0]? = some (tD (L.getD i [])) ∧ ∀ j,j < L.length → HT.lexLt (L.getD j []) (L.getD i []) = false := by
 unfold Yt;have m1 : ((List.range (L.map tD).length).mergeSort fun i j => decide (rkD (L.map tD) i ≤ rkD (L.map tD) j)).Perm (List.range (L.map tD).length) := List.mergeSort_perm _ _;have m2 := List.pairwise_mergeSort (le := fun i j => decide (rkD (L.map tD) i ≤ rkD (L.map tD) j)) (fun a b c h1 h2 => by simp at h1 h2 ⊢; omega) (fun a b => by simp; omega) (List.range (L.map tD).length);generalize (List.range (L.map tD).length).mergeSort (fun i j => decide (rkD (L.map tD) i ≤ rkD (L.map tD) j)) = q at m1 m2;have hl : q.length = L.length := by rw [m1.length_eq]; simp
 cases q with
 | nil => simp at hl; omega
 | cons i q =>
  have hi : i < L.length := by
   have := m1.mem_iff.mp (mem_cons_self (a := i) (l := q));simpa using this
  refine ⟨i,hi,?_,fun j hj => ?_⟩
  ·simp only [map_cons,List.getElem?_cons_zero]
   rw [gd i hi]
  ·rw [uf j i hj hi]
   refine decide_eq_false ?_;have hm : j ∈ i :: q := m1.mem_iff.mpr (by simpa using hj);rcases mem_cons.mp hm with rfl | hm
   ·omega
   ·have := (List.pairwise_cons.mp m2).1 j hm
    simp at this
    omega
end
def R1 (l : List Nat) : List Nat := l.drop 1 ++ l.take 1
def it (rs : List Nat) : Nat → List Nat
 | 0 => rs
 | t + 1 => R1 (it rs t)
theorem Q8 (rs : List Nat) : ∀ t,t ≤ rs.length → it rs t = rs.drop t ++ rs.take t
 | 0,_ => by simp [it]
 | t + 1,h => by
  have ht : t < rs.length := by omega
  simp only [it,Q8 rs t (by omega),R1];have e : rs.take (t + 1) = rs.take t ++ [rs[t]] := by rw [List.take_add_one,getElem?_eq_getElem ht]; rfl
  have e2 : rs.drop t = rs[t] :: rs.drop (t + 1) := List.drop_eq_getElem_cons ht;rw [e,e2];simp only [List.cons_append,List.drop_succ_cons,List.drop_zero,List.take_succ_cons,List.take_zero,append_assoc]
theorem ug (rs : List Nat) : ∀ t,(it rs t).length = rs.length
 | 0 => rfl
 | t + 1 => by
  have := ug rs t;simp only [it,R1,length_append,length_drop,length_take]; omega
theorem zCf (rs : List Nat) : ∀ t x,x ∈ it rs t → x ∈ rs
 | 0,x,h => h
 | t + 1,x,h => by
  simp only [it,R1] at h;refine zCf rs t x ?_;rcases mem_append.mp h with h | h
  ·exact List.mem_of_mem_drop h
  ·exact List.mem_of_mem_take h
def mT (rs : List Nat) : Nat := max rs.length 1
theorem it_full (rs : List Nat) : it rs (mT rs) = rs := by
 unfold mT;by_cases h : rs.length = 0
 ·have : rs = [] := List.length_eq_zero_iff.mp h
  subst this; rfl
 ·rw [show max rs.length 1 = rs.length by omega,Q8 rs _ (le_refl _)]; simp
theorem zCg (rs : List Nat) (p : Nat) (hp : it rs p = rs) : ∀ u,it rs (p + u) = it rs u
 | 0 => hp
 | u + 1 => by
  have : it rs (p + (u + 1)) = R1 (it rs (p + u)) := rfl;rw [this,zCg rs p hp u]; rfl
theorem zCh (rs : List Nat) (p : Nat) (h0 : 0 < p) (hp : it rs p = rs) : ∀ t,∃ u,u < p ∧ u ≤ t ∧ it rs u = it rs t := by
 intro t
 induction t using Nat.strongRecOn with
 | _ t ih =>
  by_cases h : t < p
  ·exact ⟨t,h,le_refl _,rfl⟩
  ·obtain ⟨u,h1,h2,h3⟩ := ih (t - p) (by omega)
   refine ⟨u,h1,by omega,?_⟩;rw [h3];have := zCg rs p hp (t - p);rw [show p + (t - p) = t by omega] at this;exact this.symm
theorem per_ex (rs : List Nat) : ∃ p,0 < p ∧ p ≤ mT rs ∧ it rs p = rs ∧ ∀ q,0 < q → q < p → it rs q ≠ rs := by
 have base : ∀ k,(∃ p,0 < p ∧ p ≤ k ∧ it rs p = rs) → ∃ p,0 < p ∧ p ≤ k ∧ it rs p = rs ∧ ∀ q,0 < q → q < p → it rs q ≠ rs := by
  intro k
  induction k with
  | zero => rintro ⟨p,h1,h2,_⟩; omega
  | succ k ih =>
   intro ⟨p,h1,h2,h3⟩;by_cases c : ∃ p,0 < p ∧ p ≤ k ∧ it rs p = rs
   ·obtain ⟨p,q1,q2,q3⟩ := ih c
    exact ⟨p,q1,by omega,q3⟩
   ·refine ⟨p,h1,h2,h3,fun q hq hqp e => c ⟨q,hq,by omega,e⟩⟩
 exact base _ ⟨mT rs,by unfold mT; omega,le_refl _,it_full rs⟩
def zs (l : List Nat) : List Int := l.map fun (n : Nat) => (n : Int)
theorem Q9 : ∀ {a b : List Nat},zs a = zs b → a = b
 | [],[],_ => rfl
 | [],_ :: _,h => by cases h
 | _ :: _,[],h => by cases h
 | x :: a,y :: b,h => by
  simp only [zs,map_cons,List.cons.injEq] at h;have e : x = y := by omega
  rw [e,Q9 h.2]
theorem tD_zs (l : List Nat) : tD (zs l) = .tup (N l) := by
 simp only [tD,zs,N,map_map]; rfl
theorem vY (rs : List Nat) (p : Nat) (h0 : 0 < p) (hm : p ≤ mT rs) (hp : it rs p = rs) :
  (Yt (((List.range p).map fun t => zs (it rs t)).map tD))[0]? = some (tD (zs (it rs (zo ((List.range (mT rs)).map fun t => zs (it rs t)))))) := by
 obtain ⟨i,hi,e1,e2⟩ := uz (L := (List.range p).map fun t => zs (it rs t)) (by simpa using h0);rw [e1];have gp : ∀ n j,j < n → ((List.range n).map fun t => zs (it rs t)).getD j [] = zs (it rs j) := fun n j hj => by
  rw [getD_eq_getElem?_getD,getElem?_map,List.getElem?_range hj]; rfl
 have hip : i < p := by simpa using hi
 rw [gp p i hip] at e2 ⊢;have m0 : 0 < mT rs := by omega
 have hb := ZF (f := fun t => ((List.range (mT rs)).map fun t => zs (it rs t)).getD t []) (mT rs - 1);have hl : zo ((List.range (mT rs)).map fun t => zs (it rs t)) < mT rs := by
  have := j9 (fun i j => HT.lexLt (((List.range (mT rs)).map fun t => zs (it rs t)).getD i []) (((List.range (mT rs)).map fun t => zs (it rs t)).getD j [])) (mT rs - 1);unfold zo;simp only [length_map,length_range];omega
 have ed : argBest (fun i j => HT.lexLt (((List.range (mT rs)).map fun t => zs (it rs t)).getD i []) (((List.range (mT rs)).map fun t => zs (it rs t)).getD j [])) (mT rs - 1) = zo ((List.range (mT rs)).map fun t => zs (it rs t)) := by
  unfold zo; simp only [length_map,length_range]
 have h1 := hb i (by omega);rw [ed,gp _ i (by omega),gp _ _ hl] at h1;obtain ⟨u,hu,_,eu⟩ := zCh rs p h0 hp (zo ((List.range (mT rs)).map fun t => zs (it rs t)));have h2 := e2 u (by simpa using hu);rw [gp p u hu,eu] at h2;rw [Zw _ _ h1 h2]
end TM
namespace DV
open PySem L2
def smD : Nat → D → Prop
 | _,.non => True
 | _,.bl _ => True
 | _,.dic => True
 | _,.int i => i.natAbs < 2 ^ 100
 | _,.str x => x = "1"
 | n + 1,.tup ds => ds.length ≤ 21 ∧ ∀ d ∈ ds,smD n d
 | n + 1,.lst ds => ds.length ≤ 21 ∧ ∀ d ∈ ds,smD n d
 | _,_ => False
def rpB : Nat → Nat
 | 0 => 40
 | n + 1 => 21 * (rpB n + 2) + 10
theorem zCi (n : Nat) : 40 ≤ rpB n := by
 cases n with
 | zero => exact le_refl _
 | succ n => have := zCi n; simp only [rpB]; omega
theorem zBo {i : Int} (h : i.natAbs < 2 ^ 100) : (PyData.int i).showable = true := by
 have : i.natAbs.log2 < 1920 := by
  by_cases c : i.natAbs = 0
  ·rw [c]; decide
  ·rw [Nat.log2_lt c]
   exact lt_of_lt_of_le h (Nat.pow_le_pow_right (by omega) (by omega))
 simp only [PyData.showable,decide_eq_true_eq];exact this
theorem len_int {i : Int} (h : i.natAbs < 2 ^ 100) : ((PyData.int i).shown).length ≤ 40 := by
 have e := int_text_length_le10 (a := i) (k := 39) (by omega) (Nat.lt_trans h (by decide +kernel));simp only [PyData.shown];rw [ofString_length];exact e
theorem Yj (M : Nat) : ∀ (ts : List Str) (k : Nat) (acc : Str),(∀ t ∈ ts,t.length ≤ M) → (textFrom k acc ts).length ≤ acc.length + ts.length * (M + 2)
 | [],k,acc,_ => by simp [textFrom]
 | t :: ts,k,acc,h => by
  have ih := Yj M ts (k + 1) (acc ++ (if k > 0 then ", " else "" : String) ++ t) (fun x hx => h x (mem_cons_of_mem _ hx));have h1 := h t mem_cons_self;have e : ((if k > 0 then ", " else "" : String) : Str).length ≤ 2 := by split <;> decide +kernel
  simp only [textFrom];simp only [strLen_append] at ih;have : (t :: ts).length * (M + 2) = ts.length * (M + 2) + (M + 2) := by rw [length_cons,Nat.succ_mul]
  omega
theorem zAA (M : Nat) : ∀ ts : List Str,(∀ t ∈ ts,t.length ≤ M) → (Str.join ", " ts).length ≤ ts.length * (M + 2)
 | [],_ => by rw [show (Str.join ", " ([] : List Str)).length = 0 by decide +kernel]; omega
 | [t],h => by
  have h1 := h t mem_cons_self;show t.length ≤ _;simp; omega
 | t :: u :: ts,h => by
  have ih := zAA M (u :: ts) (fun x hx => h x (mem_cons_of_mem _ hx));have h1 := h t mem_cons_self;show (t ++ ", " ++ Str.join ", " (u :: ts)).length ≤ _;have e2 : ((", " : String) : Str).length = 2 := by decide +kernel
  rw [strLen_append,strLen_append,e2];have : (t :: u :: ts).length * (M + 2) = (u :: ts).length * (M + 2) + (M + 2) := by rw [length_cons,Nat.succ_mul]
  omega
theorem jy : ∀ xs : List PyData,PyData.shownAll xs = xs.map PyData.shown
 | [] => by simp [PyData.shownAll]
 | x :: xs => by simp [PyData.shownAll,jy xs]
structure Rp (n : Nat) (x : PyData) : Prop where
 sh : x.showable = true
 dp : x.depth ≤ n + 2
 ln : x.shown.length ≤ rpB n
theorem rps {n : Nat} : ∀ (ds : List D),(∀ d ∈ ds,∃ x,pyD d = some x ∧ Rp n x) → ∃ xs,pyDs ds = some xs ∧ xs.length = ds.length ∧ PyData.showableAll xs = true ∧ PyData.depthAll xs ≤ n + 2 ∧ ∀ x ∈ xs,x.shown.length ≤ rpB n
 | [],_ => ⟨[],rfl,rfl,rfl,by simp [PyData.depthAll],fun x h => by cases h⟩
 | d :: ds,h => by
  obtain ⟨x,e1,h1⟩ := h d mem_cons_self;obtain ⟨xs,e2,q1,q2,q3,q4⟩ := rps ds (fun y hy => h y (mem_cons_of_mem _ hy));refine ⟨x :: xs,by simp only [pyDs,e1,e2],by simp [q1],?_,?_,fun y hy => ?_⟩
  ·simp only [PyData.showableAll,h1.sh,q2]; rfl
  ·have := h1.dp; simp only [PyData.depthAll]; omega
  ·rcases mem_cons.mp hy with rfl | hy
   ·exact h1.ln
   ·exact q4 y hy
theorem sm_py : ∀ (n : Nat) (d : D),smD n d → ∃ x,pyD d = some x ∧ Rp n x := by
 have low : ∀ (n : Nat) (d : D),smD n d → (∀ ds,d ≠ .tup ds) → (∀ ds,d ≠ .lst ds) → ∃ x,pyD d = some x ∧ Rp n x := by
  intro n d h h1 h2;have b := zCi n;cases d with
  | non =>
   have e : (PyData.none).shown.length = 4 := by decide +kernel
   exact ⟨.none,rfl,rfl,by simp [PyData.depth],by omega⟩
  | bl v =>
   have e : (PyData.bool v).shown.length ≤ 5 := by cases v <;> decide +kernel
   exact ⟨.bool v,rfl,rfl,by simp [PyData.depth],by omega⟩
  | int i =>
   have h' : i.natAbs < 2 ^ 100 := by simpa [smD] using h
   have e := len_int h';exact ⟨.int i,rfl,zBo h',by simp [PyData.depth],by omega⟩
  | str x =>
   have h' : x = "1" := by simpa [smD] using h
   subst h';have e : (PyData.str "1").shown.length ≤ 5 := by decide +kernel
   exact ⟨.str "1",rfl,rfl,by simp [PyData.depth],by omega⟩
  | dic =>
   have e : (PyData.dict []).shown.length ≤ 5 := by decide +kernel
   exact ⟨.dict [],rfl,rfl,by simp [PyData.depth,PyData.depthAll,PyData.depthKv],by omega⟩
  | tup ds => exact absurd rfl (h1 ds)
  | lst ds => exact absurd rfl (h2 ds)
  | fn x => simp [smD] at h
  | exn x => simp [smD] at h
 intro n
 induction n with
 | zero =>
  intro d h;refine low 0 d h (fun ds e => ?_) (fun ds e => ?_) <;> (subst e; simp [smD] at h)
 | succ n ih =>
  intro d h;by_cases ht : ∃ ds,d = .tup ds
  ·obtain ⟨ds,rfl⟩ := ht
   simp only [smD] at h;obtain ⟨xs,e,q1,q2,q3,q4⟩ := rps ds (fun y hy => ih y (h.2 y hy));refine ⟨.tuple xs,by simp only [pyD,e]; rfl,by simp only [PyData.showable]; exact q2,by simp only [PyData.depth]; omega,?_⟩;simp only [PyData.shown,jy,tupleText,strLen_append];have j := zAA (rpB n) (xs.map PyData.shown) (fun t ht => by obtain ⟨y,hy,rfl⟩ := mem_map.mp ht; exact q4 y hy);have e1 : (("(" : Str)).length = 1 := by decide +kernel
   have e2 : ((if (xs.map PyData.shown).length == 1 then ",)" else ")" : String) : Str).length ≤ 2 := by split <;> decide +kernel
   rw [length_map] at j;have := Nat.mul_le_mul_right (rpB n + 2) (show xs.length ≤ 21 by omega);simp only [rpB];omega
  ·by_cases hl : ∃ ds,d = .lst ds
   ·obtain ⟨ds,rfl⟩ := hl
    simp only [smD] at h;obtain ⟨xs,e,q1,q2,q3,q4⟩ := rps ds (fun y hy => ih y (h.2 y hy));refine ⟨.list xs,by simp only [pyD,e]; rfl,by simp only [PyData.showable]; exact q2,by simp only [PyData.depth]; omega,?_⟩;simp only [PyData.shown,jy,listText,strLen_append];have j := Yj (rpB n) (xs.map PyData.shown) 0 "[" (fun t ht => by obtain ⟨y,hy,rfl⟩ := mem_map.mp ht; exact q4 y hy);have e1 : (("[" : Str)).length = 1 := by decide +kernel
    have e2 : (("]" : Str)).length = 1 := by decide +kernel
    rw [length_map] at j;have := Nat.mul_le_mul_right (rpB n + 2) (show xs.length ≤ 21 by omega);simp only [rpB];omega
   ·exact low (n + 1) d h (fun ds e => ht ⟨ds,e⟩) (fun ds e => hl ⟨ds,e⟩)
theorem sm_repr {d : D} (h : smD 3 d) : ∃ t,Wc d = some (.val (.str t)) := by
 obtain ⟨x,e,r⟩ := sm_py 3 d h;refine ⟨x.shown,?_⟩;unfold Wc;rw [e];have h1 := r.dp;have h2 := r.ln;have e3 : rpB 3 = 394516 := by decide
 dsimp only;rw [if_pos ⟨r.sh,by omega,by rw [e3] at h2; simp only [cap]; omega⟩]
end DV
namespace My
open PySem L2 DV SM
def isFn : D → Bool
 | .fn _ => true
 | .exn _ => true
 | _ => false
def isW : D → Bool
 | .int _ => true
 | _ => false
def zAB (lo hi : Int) : D → Bool
 | .int i => decide (lo ≤ i) && decide (i ≤ hi)
 | _ => false
def okD : D → Prop
 | .tup ds => ds.length ≤ cap ∧ ∀ d ∈ ds,isFn d = false
 | .fn _ => False
 | .exn _ => False
 | _ => True
theorem u0 (d : D) (h : isFn d = false) : JS [.val d] = .ok (.val (.bl (isW d)),[.emp]) := by
 cases d <;> first | rfl | (cases h)
theorem JU (d : D) (lo hi : Int) (h : isFn d = false) : zh [.val d,.val (.int lo),.val (.int hi)] = .ok (.val (.bl (zAB lo hi d)),[.emp,.emp,.emp]) := by
 have e := u0 d h;cases d with
 | int i =>
  simp [zh,yC,yP,fnM,dB,dS,dE,dG,dT,dA,dI,dO,sRet,sIf,vz,zAV,sSet,Jq,R.slot,GE,eOr,Gz,jK,zj,GC,eC,zJ,fiF,fiX,R.d,zI,je,Cp.b,Cp.f,Op2.f,Bi.f,Ty.s,jp,jo,wZ,wa,wb,GD,JM,Jk,tT,Yl,eCB,Jl,zAR,zAS,zAT,Wh,uQ,Tg.m,eqG,eqF,neG,neF,GG,G2,uL,Z3,e,isW,zAB];by_cases h1 : lo ≤ i <;> simp [h1,jp,jo]
 | _ => first | (cases h; done) | simp [zh,yC,yP,fnM,dB,dS,dE,dG,dT,dA,dI,dO,sRet,sIf,vz,zAV,sSet,Jq,R.slot,GE,eOr,Gz,jK,zj,GC,eC,zJ,fiF,fiX,R.d,zI,je,Cp.b,Cp.f,Op2.f,Bi.f,Ty.s,jp,jo,wZ,wa,wb,GD,JM,Jk,tT,Yl,eCB,Jl,zAR,zAS,zAT,Wh,uQ,Tg.m,eqG,eqF,neG,neF,GG,G2,uL,Z3,e,isW,zAB]
def nxt (s : Int) : Int := ((s + 7919) % 2147483647 * ((s + 7919) % 2147483647) + 48271 * ((s + 7919) % 2147483647) + 12345) % 2147483629
theorem vZ (s : Int) : jZ [.val (.int s)] = .ok (.val (.int (nxt s)),[.emp]) := by
 have h1 : 0 ≤ (s + 7919) % 2147483647 := Int.emod_nonneg _ (by decide);have h2 : (s + 7919) % 2147483647 < 2147483647 := Int.emod_lt_of_pos _ (by decide);have h3 : -18446744073709551616 < (s + 7919) % 2147483647 ∧ (s + 7919) % 2147483647 < 18446744073709551616 := by omega
 simp [jZ,wc,Jg,fnM,dB,dS,dE,dG,dT,dA,dI,dO,sRet,sIf,vz,zAV,sSet,Jq,R.slot,GE,eOr,Gz,jK,zj,GC,eC,zJ,fiF,fiX,R.d,zI,je,Cp.b,Cp.f,Op2.f,Bi.f,Ty.s,jp,jo,wZ,wa,wb,GD,JM,Jk,tT,Yl,eCB,Jl,zAR,zAS,zAT,Wh,uQ,Tg.m,eqG,eqF,neG,neF,GG,G2,uL,Z3,W8,Z3,modD,zAU,nxt,h3]
def Pen (p : List D) : Prop := ∃ l f s : Int,p = [.int l,.int f,.int s]
theorem z4 (p : List D) (hp : Pen p) (m : Int) (h0 : 0 < m) (h1 : m < 1073741824) : ∃ r p',zS [.par p,.val (.int m)] = .ok (.val (.int r),[.par p',.emp]) ∧ 0 ≤ r ∧ r < m ∧ Pen p' := by
 obtain ⟨l,f,s,rfl⟩ := hp;by_cases hf : f = 1
 ·refine ⟨l % m,[.int (l / m),.int f,.int s],?_,Int.emod_nonneg _ (by omega),Int.emod_lt_of_pos _ h0,_,_,_,rfl⟩
  simp [zS,jb,jr,fnM,dB,dS,dE,dG,dT,dA,dI,dO,sRet,sIf,vz,zAV,sSet,Jq,R.slot,GE,eOr,Gz,jK,zj,GC,eC,zJ,fiF,fiX,R.d,zI,je,Cp.b,Cp.f,Op2.f,Bi.f,Ty.s,jp,jo,wZ,wa,wb,GD,JM,Jk,tT,Yl,eCB,Jl,zAR,zAS,zAT,Wh,uQ,Tg.m,eqG,eqF,neG,neF,GG,G2,uL,Z3,eIxO,wv,ixS,atI,ixN,eqF,hf,modD,zA5,zAU,h0,h1,Y5,Slot.list?,Slot.put]
 ·refine ⟨nxt (nxt s + 7) / 64 % m,[.int l,.int f,.int (nxt (nxt s + 7))],?_,Int.emod_nonneg _ (by omega),Int.emod_lt_of_pos _ h0,_,_,_,rfl⟩
  simp [zS,jb,jr,fnM,dB,dS,dE,dG,dT,dA,dI,dO,sRet,sIf,vz,zAV,sSet,Jq,R.slot,GE,eOr,Gz,jK,zj,GC,eC,zJ,fiF,fiX,R.d,zI,je,Cp.b,Cp.f,Op2.f,Bi.f,Ty.s,jp,jo,wZ,wa,wb,GD,JM,Jk,tT,Yl,eCB,Jl,zAR,zAS,zAT,Wh,uQ,Tg.m,eqG,eqF,neG,neF,GG,G2,uL,Z3,eIxO,wv,ixS,atI,ixN,eqF,hf,modD,zA5,W8,zAU,h0,h1,Y5,Slot.list?,Slot.put,vZ]
theorem Zy (c : Int) : ∃ p,yQ [.val (.int c)] = .ok (.own p,[.emp]) ∧ Pen p := by
 refine ⟨[.int (if 0 - c > c then 0 - c else c),.int (if decide (10 ^ 18 ≤ (if 0 - c > c then 0 - c else c)) = true then 1 else 0),.int ((if 0 - c > c then 0 - c else c) % 1000003)],?_,_,_,_,rfl⟩;simp [yQ,ja,wN,fnM,dB,dS,dE,dG,dT,dA,dI,dO,sRet,sIf,vz,zAV,sSet,Jq,R.slot,GE,eOr,Gz,jK,zj,GC,eC,zJ,fiF,fiX,R.d,zI,je,Cp.b,Cp.f,Op2.f,Bi.f,Ty.s,jp,jo,wZ,wa,wb,GD,JM,Jk,tT,Yl,eCB,Jl,zAR,zAS,zAT,Wh,uQ,Tg.m,eqG,eqF,neG,neF,GG,G2,uL,Z3,G2,subD,zCA,intF,geD,powD,modD,zAU,cap]
theorem Yz (ns : List Int) : ∃ c,yG [.val (.lst (ns.map .int)),.val (.int 0)] = .ok (.val (.int c),[.emp,.emp]) := by
 cases ns with
 | nil => exact ⟨0,rfl⟩
 | cons n ns => 
  refine ⟨n,?_⟩;have : (0 : Int) < ns.length + 1 := by omega
  simp [yG,y8,jq,fnM,dB,dS,dE,dG,dT,dA,dI,dO,sRet,sIf,vz,zAV,sSet,Jq,R.slot,GE,eOr,Gz,jK,zj,GC,eC,zJ,fiF,fiX,R.d,zI,je,Cp.b,Cp.f,Op2.f,Bi.f,Ty.s,jp,jo,wZ,wa,wb,GD,JM,Jk,tT,Yl,eCB,Jl,zAR,zAS,zAT,Wh,uQ,Tg.m,eqG,eqF,neG,neF,GG,G2,uL,Z3,lenD,ltD,zCA,ixD,atI,ixN,this]
end My
namespace My
open PySem L2 DV SM
section
variable {fs : List FI} {E E1 E2 E3 E4 : zQ}
theorem s_while {t b : _} {p : Fl × zQ} (h : DV.whN (dT fs t) (dB fs b) 1000000 E = .ok p) : dS fs (.sWhile t b) E = .ok p := by
 simp only [dS]; exact vL (by simp only [DV.sWhile]; exact h)
end
end My
namespace My
open PySem L2 DV SM
abbrev O1 : List DV.Slot := [.emp]
abbrev O2 : List DV.Slot := [.emp,.emp]
abbrev O3 : List DV.Slot := [.emp,.emp,.emp]
theorem zAC (a b : Nat) : W8 (.int a) (.int b) = some (.val (.int ((a + b : Nat) : Int))) := by simp [W8]
theorem zCj (a b : Nat) : gtD (.int (a : Int)) (.int (b : Int)) = some (.val (.bl (decide (b < a)))) := by
 show some (R.val (D.bl (decide ((b : Int) < a)))) = _
 congr 3; simp
theorem eq_nat (a b : Nat) : eqG (.int (a : Int)) (.int (b : Int)) = some (.val (.bl (decide (a = b)))) := by
 rw [eq_int]; congr 3; simp [Int.natCast_inj]
theorem zAD (l : List Int) : yt (l.map D.int) = some l := by
 induction l with
 | nil => rfl
 | cons a l ih => simp only [map_cons,yt,ih]; rfl
theorem va (l : List Nat) : yt (N l) = some (l.map fun (n : Nat) => (n : Int)) := by
 have : N l = (l.map fun (n : Nat) => (n : Int)).map D.int := by simp [N]
 rw [this,zAD]
end My
namespace My
open PySem L2 DV TM
def Wv : D → Bool
 | .tup ds => decide (ds.length ≤ 20) && ds.all (zAB 0 2)
 | _ => false
theorem vc (d : D) (h : isFn d = false) : jY [.val d] = .ok (.val (.bl (zAB 0 2 d)),[.emp]) :=
 jg (z7 (jh (jx (F := zh) rfl (zD rfl) x_c (jw x_gl x_c rfl) (JU d 0 2 h)))) rfl
theorem ZG (d : D) (h : okD d) : jO [.val d] = .ok (.val (.bl (Wv d)),[.emp]) := by
 cases d with
 | tup ds =>
  have g := zCj ds.length 20;have l1 : dE YW (.cB .len (.cons (.var 0) .nil)) [.val (.tup ds)] = .ok (.val (.int ds.length),[.val (.tup ds)]) := ux (zC (zD rfl) zX) rfl;by_cases c : ds.length ≤ 20
  ·have e : Wv (.tup ds) = ds.all (zAB 0 2) := by simp [Wv,c]
   rw [decide_eq_false (by omega)] at g;rw [e];exact jg (zf (wd (t_or (Wq (t_E (b := true) rfl) rfl) (t_E (yu l1 x_gl g))) we) (z7 (jh (ux (zC (Q4 (vs := []) (fun d => .bl (zAB 0 2 d)) (i_T (zD rfl) rfl) rfl (fun d hd => ⟨_,zq (F := jY) rfl (zD rfl) (vc d (h.2 d hd)),rfl⟩) h.1 rfl) zX) (zCd rfl))))) rfl
  ·have e : Wv (.tup ds) = false := by simp [Wv,c]
   rw [decide_eq_true (by omega)] at g;rw [e];exact jg (zBg (vV (t_or (Wq (t_E (b := true) rfl) rfl) (t_E (yu l1 x_gl g))) (z7 (jh x_c)))) rfl
 | fn x => cases h
 | exn x => cases h
 | _ => rfl
structure Row (rs : List Nat) : Prop where
 len : rs.length ≤ 20
 le : ∀ x ∈ rs,x ≤ 2
abbrev zL (rs : List Nat) : D := .tup (N rs)
theorem N_fn {l : List Nat} : ∀ d ∈ N l,isFn d = false := fun d hd => by
 obtain ⟨n,_,rfl⟩ := uy hd; rfl
theorem row_ok {rs : List Nat} (h : Row rs) : okD (zL rs) := ⟨by rw [ji]; simp [cap]; have := h.len; omega,N_fn⟩
theorem row_B {rs : List Nat} (h : Row rs) : Wv (zL rs) = true := by
 have a : (N rs).all (zAB 0 2) = true := by
  rw [all_eq_true];intro d hd;obtain ⟨x,hx,rfl⟩ := uy hd;have := h.le x hx;simp [zAB]; omega
 simp only [Wv,ji,a,decide_eq_true h.len,Bool.and_self]
theorem wB {rs : List Nat} (h : Row rs) : zc [.val (zL rs)] = .ok (.val .non,[.emp]) := by
 have e := ZG _ (row_ok h);rw [row_B h] at e;exact f_nx (z7 (wd (Wq (t_E (zq (F := jO) rfl (zD rfl) e)) rfl) we)) rfl
theorem n_row (d : D) (h : okD d) (hb : Wv d = false) : zc [.val d] = .exc ⟨"NoRow",true⟩ O1 := by
 have e := ZG d h;rw [hb] at e;exact uc (z7 (vV (Wq (t_E (zq (F := jO) rfl (zD rfl) e)) rfl) (z7 s_raise))) rfl
theorem row_it {rs : List Nat} (h : Row rs) (t : Nat) : Row (it rs t) := ⟨by rw [ug]; exact h.len,fun x hx => h.le x (zCf rs t x hx)⟩
abbrev tL (rs : List Nat) (n : Nat) : List D := (List.range n).map fun t => zL (it rs t)
theorem zBp {fs : List FI} {E : zQ} {a : _} {n : Nat} (hn : n ≤ 1000) (h : dE fs a E = .ok (.val (.int (n : Nat)),E)) : dI fs (.iR1 (.cons a .nil)) E = .ok (N (List.range n),E) := by
 have := i_R1 (fs := fs) (E := E) (a := .cons a .nil) (j := (n : Int)) (zC h zX) rfl ⟨by omega,by omega⟩;rw [Int.toNat_natCast,ints_N] at this;exact this
theorem max_1 (n : Nat) : GG [.int (n : Nat),.int 1] = some (.val (.int ((max n 1 : Nat) : Int))) := by
 simp only [GG,G2];congr 3;split <;> omega
theorem N_drop (l : List Nat) (t : Nat) : (N l).drop t = N (l.drop t) := by simp [N,List.map_drop]
theorem N_take (l : List Nat) (t : Nat) : (N l).take t = N (l.take t) := by simp [N,List.map_take]
theorem cut_to (ds : List D) (t : Nat) (h : t ≤ ds.length) : Z4 ds none (some (t : Int)) = ds.take t := by
 unfold Z4;have h1 : HT.sIx ds.length 0 none = 0 := rfl;rw [HT.sIx_nat,h1];simp [Nat.min_eq_left h]
theorem cut_toL (ds : List D) (t : Nat) (h : ds.length < t) : Z4 ds none (some (t : Int)) = ds := by
 unfold Z4;have h1 : HT.sIx ds.length 0 none = 0 := rfl;rw [HT.sIx_nat,h1,show min t ds.length = ds.length by omega];simp
theorem zAE (ds : List D) (k : Nat) (h : ds.length < k) : Z4 ds (some (k : Int)) none = [] := by
 unfold Z4;rw [HT.sIx_nat];simp only [HT.sIx];rw [show min k ds.length = ds.length by omega];simp
theorem sl_f (rs : List Nat) (t : Nat) : slD (zL rs) (some (t : Int)) none = some (.val (zL (rs.drop t))) := by
 simp only [slD];by_cases h : t ≤ rs.length
 ·rw [zBm _ t (by rw [ji]; exact h),N_drop]
 ·rw [zAE _ t (by rw [ji]; omega),List.drop_of_length_le (by omega)]; rfl
theorem sl_t (rs : List Nat) (t : Nat) : slD (zL rs) none (some (t : Int)) = some (.val (zL (rs.take t))) := by
 simp only [slD];by_cases h : t ≤ rs.length
 ·rw [cut_to _ t (by rw [ji]; exact h),N_take]
 ·rw [cut_toL _ t (by rw [ji]; omega),List.take_of_length_le (by omega)]
theorem vd {a b : List Nat} (h : a.length + b.length ≤ 1000) : W8 (zL a) (zL b) = some (.val (zL (a ++ b))) := by
 rw [vX _ _ (by simp only [ji]; omega),← zBn]
theorem zBq {rs : List Nat} (h : Row rs) : 1 ≤ mT rs ∧ mT rs ≤ 20 := by have := h.len; unfold mT; omega
theorem ve (rs : List Nat) : lenD [zL rs] = some (.val (.int (rs.length : Nat))) := by simp only [lenD,ji]
theorem vf {rs : List Nat} (h : Row rs) : yU [.val (zL rs)] = .ok (.own (tL rs (mT rs)),[.emp]) := by
 have hm := zBq h;have hl := h.len;refine jg (z7 (jh (x_compI (zBp (n := mT rs) (by omega) (ux (zC (ux (zC (zD rfl) zX) (ve rs)) (zC x_c zX)) (max_1 rs.length))) rfl rfl (fun i d q => ?_) (by simp [ji]) (by rw [ji]; simp [cap]; omega) (fun _ => rfl)))) rfl;have hi : i < mT rs := by have := (List.getElem?_eq_some_iff.mp q).1; simpa [ji] using this
 have ed : d = .int (i : Nat) := by
  rw [N_get (k := i) (n := i) (by simp [hi])] at q;exact (Option.some.inj q).symm
 subst ed;have hi2 : i ≤ rs.length := by unfold mT at hi; omega
 have e : rs.drop i ++ rs.take i = it rs i := (Q8 rs i hi2).symm;refine ⟨.val (zL (it rs i)),?_,by simp [hi,R.d]⟩;rw [← e];exact jw (zAW (zD rfl) (o_S (zD rfl)) o_N (sl_f rs i)) (zAW (zD rfl) o_N (o_S (zD rfl)) (sl_t rs i)) (vd (by simp; omega))
theorem wC (f : Nat → List Nat) : ∀ l : List Nat,yk (l.map fun t => zL (f t)) = some (l.map fun t => zs (f t))
 | [] => rfl
 | t :: l => by
  have e : We (zL (f t)) = some (zs (f t)) := by
   show yt (N (f t)) = _
   rw [va]; rfl
  simp only [map_cons,yk,e,wC f l]
abbrev lz (rs : List Nat) : Nat := zo ((List.range (mT rs)).map fun t => zs (it rs t))
theorem lz_lt (rs : List Nat) : lz rs < mT rs := by
 have := j9 (fun i j => HT.lexLt (((List.range (mT rs)).map fun t => zs (it rs t)).getD i []) (((List.range (mT rs)).map fun t => zs (it rs t)).getD j [])) (mT rs - 1);have h0 : 1 ≤ mT rs := by unfold mT; omega
 unfold lz zo;simp only [length_map,length_range];omega
theorem zBr (rs : List Nat) : minH [.lst (tL rs (mT rs))] = some (.val (zL (it rs (lz rs)))) := by
 have h0 : 1 ≤ mT rs := by unfold mT; omega
 have hz := lz_lt rs;have e1 : minG [.lst (tL rs (mT rs))] = none := by
  obtain ⟨m,hm⟩ : ∃ m,mT rs = m + 1 := ⟨mT rs - 1,by omega⟩;rw [hm];simp only [tL,List.range_succ_eq_map,map_cons,minG,yt]
 simp only [minH,e1,minT,tL,wC];rw [if_pos (by simp; omega)];rw [getD_eq_getElem?_getD,getElem?_map,List.getElem?_range hz];rfl
theorem e_least {rs : List Nat} (h : Row rs) : yJ [.val (zL rs)] = .ok (.val (zL (it rs (lz rs))),[.emp]) :=
 jg (zf (ZE (zq (F := zc) rfl (zD rfl) (wB h))) (z7 (jh (ux (zC (zq (F := yU) rfl (zD rfl) (vf h)) zX) (zBr rs))))) rfl
theorem zAF : ∀ a b : List Nat,deqs (N a) (N b) = decide (a = b)
 | [],[] => rfl
 | [],_ :: _ => rfl
 | _ :: _,[] => rfl
 | x :: a,y :: b => by
  have e : deq (.int (x : Nat)) (.int (y : Nat)) = decide (x = y) := by
   have : deq (.int (x : Nat)) (.int (y : Nat)) = decide ((x : Int) = y) := by simp only [deq,flV,eqV]; rfl
   rw [this]; simp [Int.natCast_inj]
  show (deq (.int (x : Nat)) (.int (y : Nat)) && deqs (N a) (N b)) = _
  rw [e,zAF a b];simp
theorem Zz (l : List Nat) : ∀ d ∈ N l,eqb 19 d = true := fun d hd => by
 obtain ⟨x,_,rfl⟩ := uy hd; rfl
theorem zAG (a b : List Nat) : neG (zL a) (zL b) = some (.val (.bl (!decide (a = b)))) := by rw [ne_tups (Zz a) (Zz b),zAF]
theorem eq_row (a b : List Nat) : eqG (zL a) (zL b) = some (.val (.bl (decide (a = b)))) := by
 have e : eqF (zL a) (zL b) = none := rfl;simp only [eqG,e,eqDD];rw [if_pos ⟨by simp only [eqb,all_eq_true]; exact Zz a,by simp only [eqb,all_eq_true]; exact Zz b⟩];simp only [deq,zAF,Bool.false_eq_true,if_false]
def fnd (rs os : List Nat) : Option Nat := (List.range (mT rs)).find? fun t => decide (it rs t = os)
def fD : Option Nat → D
 | some t => .int (t : Nat)
 | none => .non
theorem zAH {p : Nat → Bool} {n i : Nat} (h : i < n) (h1 : p i = true) (h2 : ∀ j,j < i → p j = false) : (List.range n).find? p = some i := by
 rw [List.find?_range_eq_some];exact ⟨h1,by simpa using h,fun j hj => by simpa using h2 j hj⟩
theorem zAI {p : Nat → Bool} {n : Nat} (h : ∀ i,i < n → p i = false) : (List.range n).find? p = none := by
 rw [List.find?_eq_none];intro x hx;rw [h x (mem_range.mp hx)]; decide
theorem zAJ {rs os : List Nat} (h : Row rs) (ho : Row os) : jP [.val (zL rs),.val (zL os)] = .ok (.val (fD (fnd rs os)),O2) := by
 have len : (Ql 0 (tL rs (mT rs))).length = mT rs := by rw [Jw]; simp
 have st := Ws (tg := gT [2,3]) (body := dB ZD YX) (fun i E => ∃ s2 s3,E = [.val (zL rs),.val (zL os),s2,s3] ∧ yh s2 = true ∧ yh s3 = true) (fun t => decide (it rs t = os)) (fun i => .val (.int (i : Nat))) (Ql 0 (tL rs (mT rs))) 0 [.val (zL rs),.val (zL os),.emp,.emp] ⟨_,_,rfl,rfl,rfl⟩ (fun i d q E ⟨s2,s3,hE,h2,h3⟩ => by
  rw [zero_add];have hi : i < mT rs := by
   have := (List.getElem?_eq_some_iff.mp q).1
   rwa [len] at this
  have ed : d = .tup [.int (i : Nat),zL (it rs i)] := by
   rw [Zi _ 0 i (zL (it rs i)) (by simp [hi]),zero_add] at q;exact (Option.some.inj q).symm
  subst ed;have eq := eq_row (it rs i) os;have tg : gT [2,3] (.tup [.int (i : Nat),zL (it rs i)]) [.val (zL rs),.val (zL os),s2,s3] = .ok [.val (zL rs),.val (zL os),.val (.int (i : Nat)),.val (zL (it rs i))] := by
   cases s2 <;> first | (cases h2; done) | (cases s3 <;> first | rfl | (cases h3))
  subst hE;refine ⟨_,[.val (zL rs),.val (zL os),.val (.int (i : Nat)),.val (zL (it rs i))],tg,?_⟩;cases hb : decide (it rs i = os) with
  | true =>
   rw [hb] at eq;exact .inl ⟨rfl,z7 (vV (t_E (yu (zD rfl) (zD rfl) eq)) (z7 (jh (zD rfl))))⟩
  | false =>
   rw [hb] at eq;exact .inr ⟨rfl,z7 (wd (t_E (yu (zD rfl) (zD rfl) eq)) we),_,_,rfl,rfl,rfl⟩)
 have out2 : ∀ {a b : D} (E : zQ),zl [.val a,.val b] E = O2 := fun E => by
  match E with
  | [] => rfl
  | [_] => rfl
  | _ :: _ :: _ => rfl
 have n1 := wB h;have n2 := wB ho;rw [len] at st;rcases st with ⟨i,E',hi,h1,h2,f⟩ | ⟨h1,E',f,s2,s3,hE,_⟩
 ·simp only [zero_add] at h1 h2 f
  rw [show fnd rs os = some i from zAH hi h1 h2];exact jg (zf (ZE (zq (F := zc) rfl (zD rfl) n1)) (zf (ZE (zq (F := zc) rfl (zD rfl) n2)) (zBg (zCe (i_E (zC (zq (F := yU) rfl (zD rfl) (vf h)) zX) rfl) f)))) (out2 _)
 ·simp only [zero_add] at h1
  rw [show fnd rs os = none from zAI h1];exact jg (zf (ZE (zq (F := zc) rfl (zD rfl) n1)) (zf (ZE (zq (F := zc) rfl (zD rfl) n2)) (zf (zCe (i_E (zC (zq (F := yU) rfl (zD rfl) (vf h)) zX) rfl) f) (z7 (jh x_c))))) (out2 _)
theorem zCk {c : MT} {b : MS} (mk : Nat → zQ) (q : Nat) (hc : ∀ i,i < q → c (mk i) = .ok (true,mk i)) (hq : c (mk q) = .ok (false,mk q)) (hb : ∀ i,i < q → b (mk i) = .ok (.nx,mk (i + 1))) : ∀ n k,k ≤ q → q - k < n → whN c b n (mk k) = .ok (.nx,mk q)
 | 0,k,_,h => by omega
 | n + 1,k,hk,h => by
  by_cases e : k = q
  ·subst e; simp only [whN,hq]
  ·simp only [whN,hc k (by omega),hb k (by omega)]
   exact zCk mk q hc hq hb n (k + 1) (by omega) (by omega)
theorem vg {rs : List Nat} (h : Row rs) : ∃ p,0 < p ∧ p ≤ mT rs ∧ it rs p = rs ∧ yA [.val (zL rs)] = .ok (.own (tL rs p),[.emp]) := by
 obtain ⟨p,p0,pm,pe,pn⟩ := per_ex rs;have hm := zBq h;refine ⟨p,p0,pm,pe,?_⟩;have step : ∀ {fs : List FI} {E : zQ} {i t : Nat},E[i]? = some (.val (zL (it rs t))) → dE fs (.bin .add (.sl (.var i) (.oS (.c (.int 1))) .oN) (.sl (.var i) .oN (.oS (.c (.int 1))))) E = .ok (.val (zL (it rs (t + 1))),E) := fun {fs E i t} hE => by
  have l := ug rs t;have hl := h.len;exact jw (zAW (zD hE) (o_S x_c) o_N (sl_f (it rs t) 1)) (zAW (zD hE) o_N (o_S x_c) (sl_t (it rs t) 1)) (vd (by simp; omega))
 have w := zCk (c := dT yf (.tE (.cmp .ne (.var 2) (.var 0)))) (b := dB yf jQ) (fun i => [.val (zL rs),.own (tL rs (i + 1)),.val (zL (it rs (i + 1)))]) (p - 1)
  (fun i hi => t_E (yu (zD rfl) (zD rfl) (by
   show neG (zL (it rs (i + 1))) (zL rs) = _
   rw [zAG,decide_eq_false (pn (i + 1) (by omega) (by omega))]; rfl)))
  (t_E (yu (zD rfl) (zD rfl) (by
   show neG (zL (it rs (p - 1 + 1))) (zL rs) = _
   rw [show p - 1 + 1 = p by omega,zAG,decide_eq_true pe]; rfl)))
  (fun i hi => by
   have e : tL rs (i + 1 + 1) = tL rs (i + 1) ++ [zL (it rs (i + 1))] := by simp only [tL]; rw [range_succ (n := i + 1),List.map_append]; rfl
   rw [e];exact zf (s_app rfl (zD rfl) rfl (by simp [cap]; omega) rfl) (z7 (jB (step (i := 2) (t := i + 1) rfl) rfl))) 1000000 0 (by omega) (by omega)
 rw [show p - 1 + 1 = p by omega] at w;exact jg (zf (jB (Yy (zC (zD rfl) zX) rfl yE) rfl) (zf (jB (step (i := 0) (t := 0) rfl) rfl) (zf (s_while w) (z7 (jh (x_movO rfl rfl)))))) rfl
end My
namespace My
open PySem L2 DV TM
theorem zBs : yW [.val (.exn "NoRow")] = .ok (.val (.str "row"),[.emp]) := rfl
abbrev rm : D := .tup [.str "row"]
theorem zAK : yH [.val (.exn "NoRow")] = .ok (.val rm,[.emp]) :=
 jg (zf (jB (zq (F := yW) rfl (zD rfl) zBs) rfl) (zf (wd (t_E (yu (zD rfl) x_c rfl)) we) (z7 (jh (yV (zC (zD rfl) zX) rfl yE))))) rfl
theorem told0 {rs : List Nat} (h : Row rs) (x : D) : zF [.val (.int 0),.val (zL rs),.val x] = .ok (.val (zL (it rs (lz rs))),O3) :=
 jg (z7 (zCZ (zBg (vV (t_E (yu (zD rfl) x_c rfl)) (z7 (jh (zq (F := yJ) rfl (zD rfl) (e_least h)))))))) rfl
theorem told1 {rs os : List Nat} (h : Row rs) (ho : Row os) : zF [.val (.int 1),.val (zL rs),.val (zL os)] = .ok (.val (fD (fnd rs os)),O3) :=
 jg (z7 (zCZ (zf (wd (t_E (yu (zD rfl) x_c rfl)) we) (z7 (jh (Zs (F := jP) rfl (zD rfl) (zD rfl) (zAJ h ho))))))) rfl
theorem bad0 {d : D} (h : okD d) (hb : Wv d = false) (x : D) : zF [.val (.int 0),.val d,.val x] = .ok (.val rm,O3) := by
 have lt : yJ [.val d] = .exc ⟨"NoRow",false⟩ O1 := uc (zBh (vW (zBk (F := zc) rfl (zD rfl) (n_row d h hb)))) rfl;have q : dS yq (.sIf (.tE (.cmp .eq (.var 0) (.c (.int 0)))) (.bOne (.sRet (.call 1 (.ev (.var 1) .nil)))) .bNil) [.val (.int 0),.val d,.val x,.emp] = .exc ⟨"NoRow",false⟩ [.val (.int 0),.val d,.val x,.emp] := vV (t_E (yu (zD rfl) x_c rfl)) (z7 (zCY (zBk (F := yJ) rfl (zD rfl) lt)));exact jg (z7 (zCa (zBh q) rfl rfl (z7 (jh (zq (F := yH) rfl (zD rfl) zAK))))) rfl
theorem bad_x {a b : D} (h : jP [.val a,.val b] = .exc ⟨"NoRow",false⟩ O2) : zF [.val (.int 1),.val a,.val b] = .ok (.val rm,O3) := by
 have q : dB yq (.bSeq (.sIf (.tE (.cmp .eq (.var 0) (.c (.int 0)))) (.bOne (.sRet (.call 1 (.ev (.var 1) .nil)))) .bNil) (.bOne (.sRet (.call 0 (.ev (.var 1) (.ev (.var 2) .nil)))))) [.val (.int 1),.val a,.val b,.emp] = .exc ⟨"NoRow",false⟩ [.val (.int 1),.val a,.val b,.emp] := zf (wd (t_E (yu (zD rfl) x_c rfl)) we) (z7 (zCY (x_cX2 (F := jP) rfl (zD rfl) (zD rfl) h)));exact jg (z7 (zCa q rfl rfl (z7 (jh (zq (F := yH) rfl (zD rfl) zAK))))) rfl
theorem bad1 {d : D} (h : okD d) (hb : Wv d = false) (x : D) : zF [.val (.int 1),.val d,.val x] = .ok (.val rm,O3) :=
 bad_x (uc (zBh (vW (zBk (F := zc) rfl (zD rfl) (n_row d h hb)))) rfl)
theorem bad2 {rs : List Nat} (hr : Row rs) {d : D} (h : okD d) (hb : Wv d = false) : zF [.val (.int 1),.val (zL rs),.val d] = .ok (.val rm,O3) :=
 bad_x (uc (zf (ZE (zq (F := zc) rfl (zD rfl) (wB hr))) (zBh (vW (zBk (F := zc) rfl (zD rfl) (n_row d h hb))))) rfl)
theorem tL_eq (rs : List Nat) (p : Nat) : tL rs p = ((List.range p).map fun t => zs (it rs t)).map tD := by
 rw [map_map];refine List.map_congr_left fun t _ => ?_
 exact (tD_zs (it rs t)).symm
open Classical in
theorem zAL {rs : List Nat} (h : Row rs) {p : Nat} (p0 : 0 < p) (pm : p ≤ mT rs) : sortG [.lst (tL rs p)] = some (.own (Yt (tL rs p))) := by
 have hm := zBq h;have ok : SortOk (tL rs p) := by
  rw [tL_eq];refine sort_ok (by simp; omega) (fun h2 a ha e => ?_);obtain ⟨t,_,rfl⟩ := mem_map.mp ha;have l := ug rs t;have z : (it rs t).length = 0 := by
   have := congrArg length e;simpa [zs] using this
  have : 2 ≤ p := by simpa using h2
  unfold mT at pm;omega
 show (if SortOk (tL rs p) then some (R.own (Yt (tL rs p))) else none) = _
 rw [if_pos ok]
theorem zAM {rs : List Nat} {p : Nat} (p0 : 0 < p) (pm : p ≤ mT rs) (pe : it rs p = rs) : ixD (.lst (Yt (tL rs p))) (.int 0) = some (.val (zL (it rs (lz rs)))) := by
 have := vY rs p p0 pm pe;rw [← tL_eq,tD_zs] at this;rw [Q7,show (0 : Int) = ((0 : Nat) : Int) from rfl,zCc this]; rfl
theorem zBt (rs os : List Nat) (p : Nat) : inG true (zL os) (.lst (tL rs p)) = some (.val (.bl (!((List.range p).map fun t => zs (it rs t)).contains (zs os)))) := by
 have e1 : inF true (zL os) (.lst (tL rs p)) = none := by simp [inF,flat]
 have e2 : We (zL os) = some (zs os) := by
  show yt (N os) = _
  rw [va]; rfl
 simp only [inG,e1,inT,e2,tL,wC,if_true]
theorem x_idx {fs : List FI} {E E1 E2 : zQ} {a b : _} {r1 r2 r : R} {ds : List D} (h1 : dE fs a E = .ok (r1,E1)) (hd : r1.d = .lst ds) (h2 : dE fs b E1 = .ok (r2,E2)) (h3 : idxG (.lst ds) r2.d = some r) : dE fs (.idx a b) E = .ok (r,E2) := by
 simp only [dE,eMet,h1,hd,h2,h3]
theorem zBu (rs os : List Nat) (p : Nat) (hp : p ≤ 1000) {i : Nat} (hi : i < p) (h1 : it rs i = os) (h2 : ∀ j,j < i → it rs j ≠ os) : idxG (.lst (tL rs p)) (zL os) = some (.val (.int (i : Nat))) := by
 have e2 : We (zL os) = some (zs os) := by
  show yt (N os) = _
  rw [va]; rfl
 have f : ((List.range p).map fun t => zs (it rs t)).findIdx? (· == zs os) = some i := by
  rw [List.findIdx?_eq_some_iff_getElem];refine ⟨by simpa using hi,by simp [h1],fun j hj => ?_⟩;have := h2 j hj;simp only [List.getElem_map,List.getElem_range,beq_iff_eq];intro e;exact this (Q9 e)
 have e1 : idxD (.lst (tL rs p)) (zL os) = none := rfl;simp only [idxG,e1,idxT,e2,tL,wC,f];rw [if_pos (by omega)]
theorem JH (rs os : List Nat) (p : Nat) : ((List.range p).map fun t => zs (it rs t)).contains (zs os) = true ↔ ∃ t,t < p ∧ it rs t = os := by
 rw [List.contains_iff_mem,mem_map];constructor
 ·rintro ⟨t,ht,e⟩
  exact ⟨t,mem_range.mp ht,Q9 e⟩
 ·rintro ⟨t,ht,e⟩
  exact ⟨t,mem_range.mpr ht,by rw [e]⟩
theorem sm_rows {rs os : List Nat} (h : Row rs) (ho : Row os) : smD 3 (.tup [zL rs,zL os]) := by
 have one : ∀ {l : List Nat},Row l → smD 2 (zL l) := fun {l} hl => by
  simp only [smD];refine ⟨by rw [ji]; have := hl.len; omega,fun d hd => ?_⟩;obtain ⟨x,hx,rfl⟩ := uy hd;have := hl.le x hx;simp only [smD,Int.natAbs_natCast];exact Nat.lt_of_le_of_lt this (by decide)
 simp only [smD];refine ⟨by simp,fun d hd => ?_⟩;simp only [mem_cons,mem_nil_iff,or_false] at hd;rcases hd with rfl | rfl
 ·have := one h; simpa [smD] using this
 ·have := one ho; simpa [smD] using this
theorem Yk (i : Int) : yZ [.val (.int i)] = .ok (.val (.bl true),[.emp]) := rfl
theorem zAN {rs os : List Nat} (h : Row rs) (ho : Row os) : ya [.val (zL rs),.val (zL os)] = .ok (.val (.bl true),O2) := by
 obtain ⟨t,rp⟩ := sm_repr (sm_rows h ho);obtain ⟨p,p0,pm,pe,lt⟩ := vg h;have hm := zBq h;have sr := zAL h p0 pm;have fx := zAM p0 pm pe;have ne1 := zAG (it rs (lz rs)) (it rs (lz rs));rw [decide_eq_true rfl] at ne1;have ni := zBt rs os p;have hit := row_it h (lz rs);have al : allD [.lst ((N (it rs (lz rs))).map fun d => D.bl ((fun _ => true) d))] = some (.val (.bl true)) := zCd (by simp);have cp : (N (it rs (lz rs))).length ≤ cap := by rw [ji]; have := hit.len; simp [cap]; omega
 have a0 : dE ym (.cB .repr (.cons (.tup (.cons (.var 0) (.cons (.var 1) .nil))) .nil)) [.val (zL rs),.val (zL os),.emp,.emp,.emp,.emp] = .ok (.val (.str t),[.val (zL rs),.val (zL os),.emp,.emp,.emp,.emp]) := ux (zC (yV (zC (zD rfl) (zC (zD rfl) zX)) rfl jC) zX) rp;have a1 : ∀ d4 : D,dS ym (.sIf (.tOr (.tE (.cmp .ne (.cB .repr (.cons (.tup (.cons (.var 0) (.cons (.var 1) .nil))) .nil)) (.var 2))) (.tOr (.tNot (.tE (.is .tuple (.var 3)))) (.tE (.cmp .ne (.var 3) (.ix (.cB .sorted (.cons (.var 5) .nil)) (.c (.int 0))))))) (.bOne (.sRet (.c (.bl false)))) .bNil) [.val (zL rs),.val (zL os),.val (.str t),.val (zL (it rs (lz rs))),.val d4,.own (tL rs p)] = .ok (.nx,[.val (zL rs),.val (zL os),.val (.str t),.val (zL (it rs (lz rs))),.val d4,.val (.lst (tL rs p))]) := fun d4 =>
  wd (t_or (t_E (yu (ux (zC (yV (zC (zD rfl) (zC (zD rfl) zX)) rfl jC) zX) rp) (zD rfl) (ne_str t))) (t_or (Wq (t_E (x_is (zD rfl) rfl rfl)) rfl) (t_E (yu (zD rfl) (x_ix (ux (zC (Q3 rfl rfl) zX) sr) x_c fx) ne1)))) we
 have a2 : ∀ d4 : D,dS ym (.sIf (.tNot (.tE (.cB .all (.cons (.comp 1 ["_law_sign"] [] [] (.iT (.var 3)) (.n 0) .tTr (.call 0 (.ev (.var 0) .nil))) .nil)))) (.bOne (.sRet (.c (.bl false)))) .bNil) [.val (zL rs),.val (zL os),.val (.str t),.val (zL (it rs (lz rs))),.val d4,.val (.lst (tL rs p))] = .ok (.nx,[.val (zL rs),.val (zL os),.val (.str t),.val (zL (it rs (lz rs))),.val d4,.val (.lst (tL rs p))]) := fun d4 =>
  wd (Wq (t_E (ux (zC (Q4 (vs := []) (fun d => .bl ((fun _ => true) d)) (i_T (zD rfl) rfl) rfl (fun d hd => by
   obtain ⟨x,_,rfl⟩ := uy hd;exact ⟨_,zq (F := yZ) rfl (zD rfl) (Yk x),rfl⟩) cp rfl) zX) al)) rfl) we
 by_cases c : ∃ t,t < mT rs ∧ it rs t = os
 ·have key : ∃ i,i < mT rs ∧ it rs i = os ∧ ∀ j,j < i → it rs j ≠ os := by
   obtain ⟨t,ht,e⟩ := c
   induction t using Nat.strongRecOn with
   | _ t ih =>
    by_cases d : ∃ j,j < t ∧ it rs j = os
    ·obtain ⟨j,hj,ej⟩ := d
     exact ih j hj (by omega) ej
    ·exact ⟨t,ht,e,fun j hj ej => d ⟨j,hj,ej⟩⟩
  obtain ⟨i,hi,e,hn⟩ := key;have hip : i < p := by
   obtain ⟨u,u1,u2,u3⟩ := zCh rs p p0 pe i;by_cases d : u = i
   ·omega
   ·exact absurd (u3.trans e) (hn u (by omega))
  rw [(JH rs os p).mpr ⟨i,hip,e⟩] at ni;have ix := zBu rs os p (by omega) hip e hn;have t1 := told1 h ho;rw [show fnd rs os = some i from zAH hi (decide_eq_true e) (fun j hj => decide_eq_false (hn j hj))] at t1;have eq : eqG (.int (i : Nat)) (.int (i : Nat)) = some (.val (.bl true)) := by rw [eq_nat,decide_eq_true rfl]
  refine jg (E1 := [.val (zL rs),.val (zL os),.val (.str t),.val (zL (it rs (lz rs))),.val (.int (i : Nat)),.val (.lst (tL rs p))]) ?_ rfl;exact zf (jB a0 rfl) (zf (s_par (zC (jx (F := zF) rfl x_c (zD rfl) x_c (told0 h _)) (zC (jx (F := zF) rfl x_c (zD rfl) (zD rfl) t1) zX)) rfl) (zf (jB (zq (F := yA) rfl (zD rfl) lt) rfl) (zf (a1 _) (zf (a2 _) (zf (wd (t_E (yu (zD rfl) (zD rfl) ni)) we) (z7 (jh (x_and1 (zq (F := yZ) rfl (zD rfl) (Yk _)) (yu (zD rfl) (x_idx (zD rfl) rfl (zD rfl) ix) eq)))))))))
 ·have nc : ((List.range p).map fun t => zs (it rs t)).contains (zs os) = false := by
   cases hcn : ((List.range p).map fun t => zs (it rs t)).contains (zs os) with
   | false => rfl
   | true =>
    obtain ⟨t,ht,e⟩ := (JH rs os p).mp hcn;exact absurd ⟨t,by omega,e⟩ c
  rw [nc] at ni;have t1 := told1 h ho;rw [show fnd rs os = none from zAI (fun i hi => decide_eq_false (fun e => c ⟨i,hi,e⟩))] at t1;refine jg (E1 := [.val (zL rs),.val (zL os),.val (.str t),.val (zL (it rs (lz rs))),.val .non,.val (.lst (tL rs p))]) ?_ rfl;exact zf (jB a0 rfl) (zf (s_par (zC (jx (F := zF) rfl x_c (zD rfl) x_c (told0 h _)) (zC (jx (F := zF) rfl x_c (zD rfl) (zD rfl) t1) zX)) rfl) (zf (jB (zq (F := yA) rfl (zD rfl) lt) rfl) (zf (a1 _) (zf (a2 _) (zBg (vV (t_E (yu (zD rfl) (zD rfl) ni)) (z7 (jh (yu (zD rfl) x_c rfl)))))))))
end My
namespace My
open PySem L2 DV TM
theorem eqb_L (l : List Nat) : eqb 20 (.lst (N l)) = true := by
 simp only [eqb,all_eq_true];intro d hd;obtain ⟨k,_,rfl⟩ := uy hd;rfl
theorem ne_nil (l : List Nat) : neG (.lst (N l)) (.lst []) = some (.val (.bl (!decide (l = [])))) := by
 cases l with
 | nil => rfl
 | cons a l =>
  have e : neF (.lst (N (a :: l))) (.lst []) = none := rfl;simp only [neG,e,eqDD];rw [if_pos ⟨eqb_L _,rfl⟩];rfl
theorem gt_0 (n : Nat) : gtD (.int (n : Nat)) (.int 0) = some (.val (.bl (decide (0 < n)))) := zCj n 0
theorem pen_bor {p : List D} (hp : Pen p) : nols p = true := by obtain ⟨a,b,c,rfl⟩ := hp; rfl
abbrev RW (p : List D) (s m : Nat) (l : List Nat) (o : Nat) (s5 s6 : DV.Slot) : zQ := [.par p,.val (.int s),.val (.int m),.own (N l),.val (.int o),s5,s6]
theorem zBv {p : List D} (hp : Pen p) {s m : Nat} (hs : 0 < s ∧ s ≤ 3) (l : List Nat) (hl : ∀ x ∈ l,x < s) (hn : l.length ≤ 20) {o : Nat} (ho : 0 < o ∧ o ≤ 4) (s5 s6 : DV.Slot) (h6 : yh s6 = true) (h5 : zCU s5 = true) :
  ∃ p' x t6,dB zp yp (RW p s m l o s5 s6) = .ok (.nx,RW p' s m (l ++ [x]) o s5 t6) ∧ Pen p' ∧ x < s ∧ yh t6 = true := by
 obtain ⟨r,p1,e1,l1,u1,hp1⟩ := z4 p hp (s : Nat) (by omega) (by omega);obtain ⟨r,rfl⟩ := Int.eq_ofNat_of_zero_le l1;have a1 : dS zp (.sSet 6 (.call 0 (.lend 0 (.ev (.var 1) .nil)))) (RW p s m l o s5 s6) = .ok (.nx,RW p1 s m l o s5 (.val (.int (r : Nat)))) := jB (jc (F := zS) rfl rfl (zD rfl) e1 rfl) (Yh rfl h6 rfl);have app : ∀ (p : List D) (x : Nat),dS zp (.sApp 3 (.var 6)) (RW p s m l o s5 (.val (.int (x : Nat)))) = .ok (.nx,RW p s m (l ++ [x]) o s5 (.val (.int (x : Nat)))) := fun p x => by
  have e : N (l ++ [x]) = N l ++ [.int (x : Nat)] := zBn l [x];show _ = Out.ok (Fl.nx,[DV.Slot.par p,.val (.int s),.val (.int m),.own (N (l ++ [x])),.val (.int o),s5,.val (.int (x : Nat))]);rw [e];exact s_app rfl (zD rfl) rfl (by rw [ji]; simp [cap]; omega) rfl
 have ne := ne_nil l;have bb : ((RW p1 s m l o s5 (.val (.int (r : Nat)))).set 3 .emp).all zCU = true := by
  show [DV.Slot.par p1,.val (.int s),.val (.int m),.emp,.val (.int o),s5,.val (.int (r : Nat))].all zCU = true
  have b0 : zCU (.par p1) = true := pen_bor hp1;rw [all_eq_true];intro x hx;simp only [mem_cons,mem_nil_iff,or_false] at hx;rcases hx with rfl | rfl | rfl | rfl | rfl | rfl | rfl <;> first | rfl | assumption
 have tb : dT zp (.tBor 3 (.tE (.cmp .ne (.var 3) (.lst .nil)))) (RW p1 s m l o s5 (.val (.int (r : Nat)))) = .ok (!decide (l = []),RW p1 s m l o s5 (.val (.int (r : Nat)))) :=
  t_bor rfl bb rfl (t_E (yu (zD rfl) (Yy zX rfl JT) ne))
 by_cases c : l = []
 ·rw [decide_eq_true c] at tb
  exact ⟨p1,r,.val (.int (r : Nat)),zf a1 (zf (wd (t_and0 tb) we) (z7 (app p1 r))),hp1,by omega,rfl⟩
 ·rw [decide_eq_false c] at tb
  obtain ⟨q,p2,e2,l2,u2,hp2⟩ := z4 p1 hp1 (o : Nat) (by omega) (by omega);obtain ⟨q,rfl⟩ := Int.eq_ofNat_of_zero_le l2;have g := gt_0 q;have tq : dT zp (.tE (.cmp .gt (.call 0 (.lend 0 (.ev (.var 4) .nil))) (.c (.int 0)))) (RW p1 s m l o s5 (.val (.int (r : Nat)))) = .ok (decide (0 < q),RW p2 s m l o s5 (.val (.int (r : Nat)))) := t_E (yu (jc (F := zS) rfl rfl (zD rfl) e2 rfl) x_c g);by_cases d : 0 < q
  ·rw [decide_eq_true d] at tq
   obtain ⟨k,y,rfl⟩ : ∃ k y,l = k ++ [y] := ⟨l.dropLast,l.getLast c,(List.dropLast_concat_getLast c).symm⟩;have al : atI (N (k ++ [y])) (-1) = some (.int (y : Nat)) := by rw [zBn]; exact atI_end _ _
   exact ⟨p2,y,.val (.int (y : Nat)),zf a1 (zf (vV (zCb tb tq) (z7 (jB (x_ixO rfl (x_neg x_c) al) rfl))) (z7 (app p2 y))),hp2,hl y (by simp),rfl⟩
  ·rw [decide_eq_false d] at tq
   exact ⟨p2,r,.val (.int (r : Nat)),zf a1 (zf (wd (zCb tb tq) we) (z7 (app p2 r))),hp2,by omega,rfl⟩
theorem Z0 (p : List D) (hp : Pen p) {s m : Nat} (hs : 0 < s ∧ s ≤ 3) (hm : m ≤ 20) : ∃ rs p',yD [.par p,.val (.int s),.val (.int m)] = .ok (.val (zL rs),[.par p',.emp,.emp]) ∧ Pen p' ∧ rs.length ≤ m ∧ ∀ x ∈ rs,x < s := by
 obtain ⟨a,p1,e1,l1,u1,hp1⟩ := z4 p hp 4 (by decide) (by decide);obtain ⟨a,rfl⟩ := Int.eq_ofNat_of_zero_le l1;have ad : W8 (.int 1) (.int (a : Nat)) = some (.val (.int ((1 + a : Nat) : Int))) := zAC 1 a;obtain ⟨n,p2,e2,l2,u2,hp2⟩ := z4 p1 hp1 ((m : Int) + 1) (by omega) (by omega);obtain ⟨n,rfl⟩ := Int.eq_ofNat_of_zero_le l2;obtain ⟨E',f1,p3,l,s5,s6,hE,hp3,hl,hx,h5,h6,h5'⟩ := wA (tg := gN 5) (body := dB zp yp) (fun i E => ∃ p l s5 s6,E = RW p s m l (1 + a) s5 s6 ∧ Pen p ∧ l.length = i ∧ (∀ x ∈ l,x < s) ∧ yh s5 = true ∧ yh s6 = true ∧ zCU s5 = true) (DV.zT 0 n) 0 (RW p2 s m [] (1 + a) .emp .emp) ⟨p2,[],.emp,.emp,rfl,hp2,rfl,(fun x h => by cases h),rfl,rfl,rfl⟩ (fun i d q E ⟨p,l,s5,s6,hE,hp,hl,hx,h5,h6,h5'⟩ => by
  obtain ⟨hi,rfl⟩ := uU _ _ _ _ q;obtain ⟨p',x,t6,e,hp',hxs,ht⟩ := zBv hp (m := m) hs l hx (by omega) (o := 1 + a) (by omega) (.val (.int (0 + (i : Int)))) s6 h6 rfl;refine ⟨RW p s m l (1 + a) (.val (.int (0 + (i : Int)))) s6,_,?_,e,p',l ++ [x],_,t6,rfl,hp',by simp [hl],fun y hy => ?_,rfl,ht,rfl⟩
  ·subst hE; cases s5 <;> first | rfl | (cases h5)
  ·rcases mem_append.mp hy with hy | hy
   ·exact hx y hy
   ·rw [mem_singleton] at hy; subst hy; exact hxs)
 rw [uV] at hl;subst hE;refine ⟨l,p3,?_,hp3,by omega,hx⟩;exact jg (zf (jB (Yy zX rfl JT) rfl) (zf (jB (jw x_c (jc (F := zS) rfl rfl x_c e1 rfl) ad) rfl) (zf (s_forR1 (j := (n : Int)) (zC (jc (F := zS) rfl rfl (jw (zD rfl) x_c rfl) e2 rfl) zX) rfl ⟨by omega,by omega⟩ (by rw [Int.toNat_natCast]; exact f1)) (z7 (jh (ux (zC (Q3 rfl rfl) zX) rfl)))))) rfl
def odd8 : List D := [.int 3,.int (-1),.bl true,.non,.str "1",.tup [.int 1],.int (10 ^ 30),.bl false]
theorem odd8_ok : ∀ d ∈ odd8,isFn d = false ∧ zAB 0 2 d = false := by
 intro d hd;simp only [odd8,mem_cons,mem_nil_iff,or_false] at hd;rcases hd with rfl | rfl | rfl | rfl | rfl | rfl | rfl | rfl <;> exact ⟨rfl,by simp [zAB]⟩
theorem zBw (p : List D) (hp : Pen p) {rs : List Nat} (h : Row rs) : ∃ d p',yl [.par p,.val (zL rs)] = .ok (.val d,[.par p',.emp]) ∧ Pen p' ∧ okD d ∧ Wv d = false := by
 have hl := h.len;obtain ⟨k,p1,e1,l1,u1,hp1⟩ := z4 p hp ((rs.length : Int) + 1) (by omega) (by omega);obtain ⟨k,rfl⟩ := Int.eq_ofNat_of_zero_le l1;obtain ⟨r,p2,e2,l2,u2,hp2⟩ := z4 p1 hp1 8 (by decide) (by decide);obtain ⟨x,hx,hi⟩ := pick (ds := odd8) l2 u2;have ox := odd8_ok x hx;obtain ⟨q,p3,e3,l3,u3,hp3⟩ := z4 p2 hp2 9 (by decide) (by decide);have c1 := sl_t rs k;have c2 := sl_f rs (k + 1);have c3 := vX (N (rs.take k)) [x] (by simp [ji]; omega);have c4 := vX (N (rs.take k) ++ [x]) (N (rs.drop (k + 1))) (by simp [ji]; omega);have ak : W8 (.int (k : Nat)) (.int 1) = some (.val (.int ((k + 1 : Nat) : Int))) := zAC k 1;have m4 := ud (.int 0) 21 (by omega);have b1 : okD (.tup (N (rs.take k) ++ [x] ++ N (rs.drop (k + 1)))) ∧ Wv (.tup (N (rs.take k) ++ [x] ++ N (rs.drop (k + 1)))) = false := by
  constructor
  ·refine ⟨by simp [ji,cap]; omega,fun d hd => ?_⟩
   simp only [mem_append,mem_singleton] at hd;rcases hd with (hd | rfl) | hd
   ·exact N_fn d hd
   ·exact ox.1
   ·exact N_fn d hd
  ·simp [Wv,ox.2]
 generalize N (rs.take k) ++ [x] ++ N (rs.drop (k + 1)) = bt at b1 c4;have b2 : okD (.tup [zL rs]) ∧ Wv (.tup [zL rs]) = false := ⟨⟨yE,fun d hd => by rw [mem_singleton] at hd; subst hd; rfl⟩,rfl⟩;have b3 : okD (.tup (replicate 21 (.int 0))) ∧ Wv (.tup (replicate 21 (.int 0))) = false := ⟨⟨by simp [cap],fun d hd => by rw [eq_of_mem_replicate hd]; rfl⟩,by simp [Wv]⟩;have c5 := Q5 [.tup bt,.tup bt,.lst (N rs),.tup [zL rs],.tup (replicate 21 (.int 0))] [.non,.int 0,.dic,.str "01"] (by simp);obtain ⟨d,hd,hg⟩ := pick (ds := [.tup bt,.tup bt,.lst (N rs),.tup [zL rs],.tup (replicate 21 (.int 0)),.non,.int 0,.dic,.str "01"]) l3 u3;have c50 : [D.tup bt,.tup bt,.lst (N rs),.tup [zL rs],.tup (replicate 21 (.int 0))].length ≤ cap := by simp only [length_cons,length_nil,cap]; omega
 refine ⟨d,p3,?_,hp3,?_⟩
 ·have bd : ∀ E : zQ,E[1]? = some (.val (zL rs)) → E[2]? = some (.val (.int (k : Nat))) → E[3]? = some (.val x) → dE wQ (.bin .add (.bin .add (.sl (.var 1) .oN (.oS (.var 2))) (.tup (.cons (.var 3) .nil))) (.sl (.var 1) (.oS (.bin .add (.var 2) (.c (.int 1)))) .oN)) E = .ok (.val (.tup bt),E) := fun E g1 g2 g3 =>
   jw (jw (zAW (zD g1) o_N (o_S (zD g2)) c1) (yV (zC (zD g3) zX) rfl yE) c3) (zAW (zD g1) (o_S (jw (zD g2) x_c ak)) o_N c2) c4
  refine jg (E1 := [.par p3,.val (zL rs),.val (.int (k : Nat)),.val x,.val (.lst [.tup bt,.tup bt,.lst (N rs),.tup [zL rs],.tup (replicate 21 (.int 0))])]) ?_ rfl;refine zf (jB (jc (F := zS) rfl rfl (jw (ux (zC (zD rfl) zX) (ve rs)) x_c rfl) e1 rfl) rfl) ?_;refine zf (jB (x_ix (Yy (ds := odd8) (zC x_c (zC (x_neg x_c) (zC x_c (zC x_c (zC x_c (zC (yV (zC x_c zX) rfl yE) (zC (jw x_c x_c pow30) (zC x_c zX)))))))) rfl (by simp [odd8,cap])) (jc (F := zS) rfl rfl x_c e2 rfl) hi) rfl) ?_;refine zf (jB (Yy (zC (bd _ rfl rfl rfl) (zC (bd _ rfl rfl rfl) (zC (ux (zC (zD rfl) zX) rfl) (zC (yV (zC (zD rfl) zX) rfl yE) (zC (jw (r1 := .val (.tup [.int 0])) (r2 := .val (.int ((21 : Nat) : Int))) (yV (zC x_c zX) rfl yE) x_c m4) zX))))) rfl c50) rfl) ?_;exact z7 (jh (x_ix (jw (Q3 rfl rfl) (Yy (zC x_c (zC x_c (zC rfl (zC x_c zX)))) rfl (by simp [cap])) c5) (jc (F := zS) rfl rfl x_c e3 rfl) hg))
 ·simp only [mem_cons,mem_nil_iff,or_false] at hd
  rcases hd with rfl | rfl | rfl | rfl | rfl | rfl | rfl | rfl | rfl
  ·exact b1
  ·exact b1
  ·exact ⟨trivial,rfl⟩
  ·exact b2
  ·exact b3
  all_goals exact ⟨trivial,rfl⟩
abbrev E10 (v s1 s2 s3 s4 s5 s6 s7 s8 s9 : DV.Slot) : zQ := [v,s1,s2,s3,s4,s5,s6,s7,s8,s9]
def P0 : List D := [.tup [zL [],zL []],.tup [zL [0],zL []],.tup [zL [],zL [0]],.tup [zL [1],zL [1]],.tup [zL [0,1],zL [1,0]],.tup [.tup (replicate 20 (.int 2)),.tup (replicate 20 (.int 2))]]
theorem zAO : Row (replicate 20 2) := ⟨by simp,fun x hx => by rw [eq_of_mem_replicate hx]; omega⟩
theorem jD {l : List Nat} (h : l.length ≤ 20) (h2 : ∀ x ∈ l,x ≤ 2) : Row l := ⟨h,h2⟩
theorem P0_ok : ∀ d ∈ P0,∃ rs os,d = .tup [zL rs,zL os] ∧ Row rs ∧ Row os := by
 intro d hd;simp only [P0,mem_cons,mem_nil_iff,or_false] at hd;rcases hd with rfl | rfl | rfl | rfl | rfl | rfl
 ·exact ⟨[],[],rfl,jD (by decide) (by decide),jD (by decide) (by decide)⟩
 ·exact ⟨[0],[],rfl,jD (by decide) (by decide),jD (by decide) (by decide)⟩
 ·exact ⟨[],[0],rfl,jD (by decide) (by decide),jD (by decide) (by decide)⟩
 ·exact ⟨[1],[1],rfl,jD (by decide) (by decide),jD (by decide) (by decide)⟩
 ·exact ⟨[0,1],[1,0],rfl,jD (by decide) (by decide),jD (by decide) (by decide)⟩
 ·exact ⟨replicate 20 2,replicate 20 2,by simp only [zL,N_rep]; rfl,zAO,zAO⟩
theorem GA (v : DV.Slot) : ∃ t1 t2,DV.Jb (gT [1,2]) (dB jf Zn) P0 (E10 v .emp .emp .emp .emp .emp .emp .emp .emp .emp) = .ok (.nx,E10 v t1 t2 .emp .emp .emp .emp .emp .emp .emp) ∧ yh t1 = true ∧ yh t2 = true := by
 obtain ⟨E',f1,t1,t2,hE,q1,q2⟩ := wA (tg := gT [1,2]) (body := dB jf Zn) (fun _ E => ∃ t1 t2,E = E10 v t1 t2 .emp .emp .emp .emp .emp .emp .emp ∧ yh t1 = true ∧ yh t2 = true) P0 0 (E10 v .emp .emp .emp .emp .emp .emp .emp .emp .emp) ⟨_,_,rfl,rfl,rfl⟩ (fun i d q E ⟨t1,t2,hE,q1,q2⟩ => by
  obtain ⟨rs,os,rfl,h,ho⟩ := P0_ok d (mem_of_getElem? q);refine ⟨E10 v (.val (zL rs)) (.val (zL os)) .emp .emp .emp .emp .emp .emp .emp,E10 v (.val (zL rs)) (.val (zL os)) .emp .emp .emp .emp .emp .emp .emp,?_,?_,_,_,rfl,rfl,rfl⟩
  ·subst hE
   cases t1 <;> first | (cases q1; done) | (cases t2 <;> first | rfl | (cases q2))
  ·exact z7 (wd (Wq (t_E (Zs (F := ya) rfl (zD rfl) (zD rfl) (zAN h ho))) rfl) we))
 subst hE;exact ⟨t1,t2,f1,q1,q2⟩
theorem loop1 {rs : List Nat} (h : Row rs) (v s2 s3 s4 s5 s6 s7 s8 s9 : DV.Slot) (h2 : yh s2 = true) (ds : List D) (hd : ∀ d ∈ ds,∃ os,d = zL os ∧ Row os) :
  ∃ t2,DV.Jb (gN 2) (dB jf vR) ds (E10 v (.val (zL rs)) s2 s3 s4 s5 s6 s7 s8 s9) = .ok (.nx,E10 v (.val (zL rs)) t2 s3 s4 s5 s6 s7 s8 s9) ∧ yh t2 = true := by
 obtain ⟨E',f1,t2,hE,q2⟩ := wA (tg := gN 2) (body := dB jf vR) (fun _ E => ∃ t2,E = E10 v (.val (zL rs)) t2 s3 s4 s5 s6 s7 s8 s9 ∧ yh t2 = true) ds 0 (E10 v (.val (zL rs)) s2 s3 s4 s5 s6 s7 s8 s9) ⟨_,rfl,h2⟩ (fun i d q E ⟨t2,hE,q2⟩ => by
  obtain ⟨os,rfl,ho⟩ := hd d (mem_of_getElem? q);refine ⟨E10 v (.val (zL rs)) (.val (zL os)) s3 s4 s5 s6 s7 s8 s9,E10 v (.val (zL rs)) (.val (zL os)) s3 s4 s5 s6 s7 s8 s9,?_,?_,_,rfl,rfl⟩
  ·subst hE; cases t2 <;> first | rfl | (cases q2)
  ·exact z7 (wd (Wq (t_E (Zs (F := ya) rfl (zD rfl) (zD rfl) (zAN h ho))) rfl) we))
 exact ⟨t2,by rw [f1,hE],q2⟩
theorem N_rev (l : List Nat) : yM false (N l) = N l.reverse := by simp [yM,N]
theorem zBx {a b c d e : D} : [a,b,c,d,e].length ≤ cap := by simp only [length_cons,length_nil,cap]; omega
theorem zAP {a b c : D} : [a,b,c].length ≤ cap := by simp only [length_cons,length_nil,cap]; omega
theorem vh {rs os : List Nat} (h : Row rs) (hl : os.length ≤ 20) (hm : ∀ x ∈ os,x ∈ rs) : Row os := ⟨hl,fun x hx => h.le x (hm x hx)⟩
theorem loop2 {row : List Nat} (hr : Row row) (v s2 s3 s6 s7 s8 s9 : DV.Slot) (h2 : yh s2 = true) (h8 : yh s8 = true) (p : List D) (hp : Pen p) (ds : List D) (hd : ∀ d ∈ ds,∃ os,d = zL os ∧ Row os) (s1 : DV.Slot) (h1 : yh s1 = true) :
  ∃ t1 t2 t8 p',DV.Jb (gN 1) (dB jf vS) ds (E10 v s1 s2 s3 (.own p) (.val (zL row)) s6 s7 s8 s9) = .ok (.nx,E10 v t1 t2 s3 (.own p') (.val (zL row)) s6 s7 t8 s9) ∧ yh t1 = true ∧ yh t2 = true ∧ yh t8 = true ∧ Pen p' := by
 obtain ⟨E',f1,t1,t2,t8,p',hE,q1,q2,q8,hp'⟩ := wA (tg := gN 1) (body := dB jf vS) (fun _ E => ∃ t1 t2 t8 p',E = E10 v t1 t2 s3 (.own p') (.val (zL row)) s6 s7 t8 s9 ∧ yh t1 = true ∧ yh t2 = true ∧ yh t8 = true ∧ Pen p') ds 0 (E10 v s1 s2 s3 (.own p) (.val (zL row)) s6 s7 s8 s9) ⟨_,_,_,_,rfl,h1,h2,h8,hp⟩ (fun i d q E ⟨t1,t2,t8,p,hE,q1,q2,q8,hp⟩ => by
  obtain ⟨rs,rfl,h⟩ := hd d (mem_of_getElem? q);have hl := h.len;obtain ⟨a,p1,e1,l1,u1,hp1⟩ := z4 p hp ((rs.length : Int) + 1) (by omega) (by omega);obtain ⟨a,rfl⟩ := Int.eq_ofNat_of_zero_le l1;obtain ⟨os,p2,e2,hp2,ol,ox⟩ := Z0 p1 hp1 (s := 3) (m := 20) (by omega) (by omega);have ho : Row os := ⟨ol,fun x hx => by have := ox x hx; omega⟩;have st : zBQ false (zL rs) = some (.val (zL rs.reverse)) := by
   show some (R.val (.tup (yM false (N rs)))) = _
   rw [N_rev]
  obtain ⟨u2,g,qu⟩ := loop1 h v t2 s3 (.own p2) (.val (zL row)) s6 s7 (.val (.int (a : Nat))) s9 q2 [zL (rs.drop a ++ rs.take a),zL rs.reverse,zL (rs.drop 1),zL os,zL row] (fun d hd => by
   simp only [mem_cons,mem_nil_iff,or_false] at hd;rcases hd with rfl | rfl | rfl | rfl | rfl
   ·exact ⟨_,rfl,vh h (by simp; omega) (fun x hx => by
     rcases mem_append.mp hx with hx | hx
     ·exact List.mem_of_mem_drop hx
     ·exact List.mem_of_mem_take hx)⟩
   ·exact ⟨_,rfl,vh h (by simpa using hl) (fun x hx => by simpa using hx)⟩
   ·exact ⟨_,rfl,vh h (by simp; omega) (fun x hx => List.mem_of_mem_drop hx)⟩
   ·exact ⟨_,rfl,ho⟩
   ·exact ⟨_,rfl,hr⟩)
  refine ⟨E10 v (.val (zL rs)) t2 s3 (.own p) (.val (zL row)) s6 s7 t8 s9,E10 v (.val (zL rs)) u2 s3 (.own p2) (.val (zL row)) s6 s7 (.val (.int (a : Nat))) s9,?_,?_,_,_,_,_,rfl,rfl,qu,rfl,hp2⟩
  ·subst hE; cases t1 <;> first | rfl | (cases q1)
  ·refine zf (jB (Zt (F := zS) rfl rfl (jw (ux (zC (zD rfl) zX) (ve rs)) x_c rfl) e1 rfl) (Yh rfl q8 rfl)) ?_
   exact z7 (uZ (Yy (ds := [zL (rs.drop a ++ rs.take a),zL rs.reverse,zL (rs.drop 1),zL os,zL row]) (zC (jw (zAW (zD rfl) (o_S (zD rfl)) o_N (sl_f rs a)) (zAW (zD rfl) o_N (o_S (zD rfl)) (sl_t rs a)) (vd (by simp; omega))) (zC (x_stp (zD rfl) st) (zC (zAW (zD rfl) (o_S x_c) o_N (sl_f rs 1)) (zC (Zu (F := yD) rfl rfl x_c x_c e2 rfl) (zC (zD rfl) zX))))) rfl zBx) rfl g))
 exact ⟨t1,t2,t8,p',by rw [f1,hE],q1,q2,q8,hp'⟩
theorem flat_N (k : Nat) (l : List Nat) : (replicate k (N l)).flatten = N (replicate k l).flatten := by
 induction k with
 | zero => rfl
 | succ k ih => simp only [replicate_succ,flatten_cons,ih,zBn]
theorem mul_row (l : List Nat) (k : Nat) (h : l.length ≤ 5) (hk : k ≤ 4) : uL (zL l) (.int (k : Nat)) = some (.val (zL (replicate k l).flatten)) := by
 have h1 : l.length * k ≤ 5 * 4 := Nat.mul_le_mul h hk;have e : Z3 (zL l) (.int (k : Nat)) = some (.val (zL (replicate k l).flatten)) := by
  simp only [Z3,zL,ji,Int.toNat_natCast];rw [if_pos ⟨by omega,by omega,by simp only [cap]; omega⟩,flat_N]
 exact Q6 e
theorem mul_Row {l : List Nat} {k : Nat} (h : l.length ≤ 5) (hk : k ≤ 4) (hx : ∀ x ∈ l,x ≤ 2) : Row (replicate k l).flatten := by
 refine ⟨?_,fun x hxx => ?_⟩
 ·have h1 : k * l.length ≤ 4 * 5 := Nat.mul_le_mul hk h
  rw [List.length_flatten];simp;omega
 ·obtain ⟨y,hy,hx'⟩ := List.mem_flatten.mp hxx
  rw [eq_of_mem_replicate hy] at hx';exact hx x hx'
def InC (v : D) (E : zQ) : Prop := ∃ s1 s2 s3 s4 s5 s6 s7 s8 s9,E = E10 (.val v) s1 s2 s3 s4 s5 s6 s7 s8 s9 ∧ yh s1 = true ∧ yh s2 = true ∧ yh s3 = true ∧ yh s4 = true ∧ yh s5 = true ∧ yh s6 = true ∧ yh s7 = true ∧ yh s8 = true ∧ yh s9 = true
theorem cell_ok (v : D) (c : Int) (s1 s2 s4 s5 s6 s7 s8 s9 : DV.Slot) (h1 : yh s1 = true) (h2 : yh s2 = true) (h4 : yh s4 = true) (h5 : yh s5 = true) (h6 : yh s6 = true) (h7 : yh s7 = true) (h8 : yh s8 = true) (h9 : yh s9 = true) :
  ∃ E',dB jf Zm (E10 (.val v) s1 s2 (.val (.int c)) s4 s5 s6 s7 s8 s9) = .ok (.nx,E') ∧ InC v E' := by
 obtain ⟨p0,e0,hp0⟩ := Zy c;obtain ⟨row,p1,e1,hp1,rl,rx⟩ := Z0 p0 hp0 (s := 3) (m := 20) (by omega) (by omega);have hr : Row row := ⟨rl,fun x hx => by have := rx x hx; omega⟩;obtain ⟨part,p2,e2,hp2,ql,qx⟩ := Z0 p1 hp1 (s := 2) (m := 5) (by omega) (by omega);have hq : Row part := ⟨by omega,fun x hx => by have := qx x hx; omega⟩;obtain ⟨k,p3,e3,l3,u3,hp3⟩ := z4 p2 hp2 5 (by decide) (by decide);obtain ⟨k,rfl⟩ := Int.eq_ofNat_of_zero_le l3;have mr := mul_row part k ql (by omega);have ha : Row (replicate k part).flatten := mul_Row ql (by omega) hq.le;obtain ⟨t1,t2,t8,p4,g,q1,q2,q8,hp4⟩ := loop2 hr (.val v) s2 (.val (.int c)) (.val (zL part)) (.val (zL (replicate k part).flatten)) s8 s9 h2 h8 p3 hp3 [zL row,zL (replicate k part).flatten,zL part] (fun d hd => by
  simp only [mem_cons,mem_nil_iff,or_false] at hd;rcases hd with rfl | rfl | rfl
  ·exact ⟨_,rfl,hr⟩
  ·exact ⟨_,rfl,ha⟩
  ·exact ⟨_,rfl,hq⟩) s1 h1
 obtain ⟨bd,p5,e5,hp5,k5,z5⟩ := zBw p4 hp4 hr;refine ⟨E10 (.val v) t1 t2 (.val (.int c)) (.own p5) (.val (zL row)) (.val (zL part)) (.val (zL (replicate k part).flatten)) t8 (.val bd),?_,_,_,_,_,_,_,_,_,_,rfl,q1,q2,rfl,rfl,rfl,rfl,rfl,q8,rfl⟩;refine zf (jB (zq (F := yQ) rfl (zD rfl) e0) (Yh rfl h4 rfl)) ?_;refine zf (jB (Zu (F := yD) rfl rfl x_c x_c e1 rfl) (Yh rfl h5 rfl)) ?_;refine zf (jB (Zu (F := yD) rfl rfl x_c x_c e2 rfl) (Yh rfl h6 rfl)) ?_;refine zf (jB (jw (zD rfl) (Zt (F := zS) rfl rfl x_c e3 rfl) mr) (Yh rfl h7 rfl)) ?_;refine zf (uZ (Yy (ds := [zL row,zL (replicate k part).flatten,zL part]) (zC (zD rfl) (zC (zD rfl) (zC (zD rfl) zX))) rfl zAP) rfl g) ?_;refine zf (jB (Zt (F := yl) rfl rfl (zD rfl) e5 rfl) (Yh rfl h9 rfl)) ?_;refine zf (wd (t_or (t_E (yu (jx (F := zF) rfl x_c (zD rfl) x_c (bad0 k5 z5 _)) (yV (zC x_c zX) rfl yE) rfl)) (t_E (yu (jx (F := zF) rfl x_c (zD rfl) (zD rfl) (bad1 k5 z5 _)) (yV (zC x_c zX) rfl yE) rfl))) we) ?_;exact z7 (wd (t_E (yu (jx (F := zF) rfl x_c (zD rfl) (zD rfl) (bad2 hr k5 z5)) (yV (zC x_c zX) rfl yE) rfl)) we)
theorem math26 (ns : List Int) (hns : ns.length ≤ 63) : ∃ outs,m_law [.val (.lst (ns.map D.int))] = .ok (.val (.bl true),outs) := by
 obtain ⟨c,e2⟩ := Yz ns;have hcut : Z4 (ns.map D.int) (some 1) (some 10) = ((ns.drop (HT.sIx ns.length 0 (some 1))).take (HT.sIx ns.length ns.length (some 10) - HT.sIx ns.length 0 (some 1))).map D.int := by
  unfold Z4; simp [List.map_drop,List.map_take]
 generalize hk : (ns.drop (HT.sIx ns.length 0 (some 1))).take (HT.sIx ns.length ns.length (some 10) - HT.sIx ns.length 0 (some 1)) = k at hcut;have hkl : k.length ≤ 63 := by rw [← hk]; simp; omega
 have c1 : slD (.lst (ns.map D.int)) (some 1) (some 10) = some (.own (k.map D.int)) := by simp only [slD,hcut]
 have c2 := Q5 [.int c] (k.map D.int) (by simp; omega);generalize hv : D.lst (ns.map D.int) = v at e2 c1;obtain ⟨w1,w2,f0,g1,g2⟩ := GA (.val v);obtain ⟨E',f1,u1,u2,u3,u4,u5,u6,u7,u8,u9,hE,_⟩ := wA (tg := gN 3) (body := dB jf Zm) (fun _ E => InC v E) ([.int c] ++ k.map D.int) 0 (E10 (.val v) w1 w2 .emp .emp .emp .emp .emp .emp .emp) ⟨_,_,_,_,_,_,_,_,_,rfl,g1,g2,rfl,rfl,rfl,rfl,rfl,rfl,rfl⟩
  (fun i d q E ⟨s1,s2,s3,s4,s5,s6,s7,s8,s9,hE,h1,h2,h3,h4,h5,h6,h7,h8,h9⟩ => by
   obtain ⟨x,rfl⟩ : ∃ x : Int,d = .int x := by
    have := mem_of_getElem? q;rcases mem_append.mp this with m | m
    ·exact ⟨c,mem_singleton.mp m⟩
    ·obtain ⟨x,_,rfl⟩ := mem_map.mp m; exact ⟨x,rfl⟩
   obtain ⟨E2,f1,f2⟩ := cell_ok v x s1 s2 s4 s5 s6 s7 s8 s9 h1 h2 h4 h5 h6 h7 h8 h9;refine ⟨E10 (.val v) s1 s2 (.val (.int x)) s4 s5 s6 s7 s8 s9,E2,?_,f1,f2⟩;subst hE; cases s3 <;> first | rfl | (cases h3))
 subst hE;have m4 := ud (.int 2) 20 (by omega);have tw : dE jf (.bin .mul (.tup (.cons (.c (.int 2)) .nil)) (.c (.int 20))) (E10 (.val v) .emp .emp .emp .emp .emp .emp .emp .emp .emp) = .ok (.val (.tup (replicate 20 (.int 2))),E10 (.val v) .emp .emp .emp .emp .emp .emp .emp .emp .emp) := jw (r1 := .val (.tup [.int 2])) (r2 := .val (.int ((20 : Nat) : Int))) (yV (zC x_c zX) rfl yE) x_c m4;refine ⟨_,jg (r := .val (.bl true)) (E1 := E10 (.val v) u1 u2 u3 u4 u5 u6 u7 u8 u9) ?_ rfl⟩;show dB jf (.bSeq (.sForL _ _ Zn) (.bSeq (.sForL _ _ Zm) (.bOne _))) (E10 (.val v) .emp .emp .emp .emp .emp .emp .emp .emp .emp) = _;exact zf (uZ (Yy (ds := P0) (zC (yV (zC (yV zX rfl JT) (zC (yV zX rfl JT) zX)) rfl jC) (zC (yV (zC (yV (zC x_c zX) rfl yE) (zC (yV zX rfl JT) zX)) rfl jC) (zC (yV (zC (yV zX rfl JT) (zC (yV (zC x_c zX) rfl yE) zX)) rfl jC) (zC (yV (zC (yV (zC x_c zX) rfl yE) (zC (yV (zC x_c zX) rfl yE) zX)) rfl jC) (zC (yV (zC (yV (zC x_c (zC x_c zX)) rfl jC) (zC (yV (zC x_c (zC x_c zX)) rfl jC) zX)) rfl jC) (zC (yV (zC tw (zC tw zX)) rfl jC) zX)))))) rfl (by simp [P0,cap])) rfl f0) (zf (uZ (jw (Yy (zC (Zs (F := yG) rfl (zD rfl) x_c e2) zX) rfl yE) (zAW (zD rfl) (o_S x_c) (o_S x_c) c1) c2) rfl f1) (z7 (jh x_c)))
end My
namespace My
open PySem L2 DV
theorem txt_lk {K : PySem.W.Frag} {h : Heap} {mg : Str → Option Value} (X : K.In h) (G : h.Ns mainGlobals mg) (e : Wy K = Wz) : Txt K mg :=
 have e1 := congrArg (fun x : lkT => x.1) e;have e2 := congrArg (fun x : lkT => x.2.1) e;have e3 := congrArg (fun x : lkT => x.2.2.1) e
 { n_ValueError := JD X G (ix 0 e3),n_all := JD X G (ix 1 e3),n_bool := JD X G (ix 2 e3),n_enumerate := JD X G (ix 3 e3),n_int := JD X G (ix 4 e3),n_isinstance := JD X G (ix 5 e3),n_len := JD X G (ix 6 e3),n_list := JD X G (ix 7 e3),n_max := JD X G (ix 8 e3),n_min := JD X G (ix 9 e3),n_range := JD X G (ix 10 e3),n_repr := JD X G (ix 11 e3),n_sorted := JD X G (ix 12 e3),n_tuple := JD X G (ix 13 e3),c_MOST_SIGNS := ct_at X G (ix 0 e2),c_MOST_THROWS := ct_at X G (ix 1 e2),f_is_whole := y6 X G (ix 0 e1),f_is_whole_within := y6 X G (ix 1 e1),f_sign_good := y6 X G (ix 2 e1),f_row_good := y6 X G (ix 3 e1),f_need_row := y6 X G (ix 4 e1),f_turns_of := y6 X G (ix 5 e1),f_least_turn := y6 X G (ix 6 e1),f_turn_to := y6 X G (ix 7 e1),f__law_cell_at := y6 X G (ix 8 e1),f__law_next := y6 X G (ix 9 e1),f__law_pen_of := y6 X G (ix 10 e1),f__law_draw := y6 X G (ix 11 e1),f__law_whole := y6 X G (ix 12 e1),f__law_kind_of := y6 X G (ix 13 e1),f__law_refused := y6 X G (ix 14 e1),f__law_row_of := y6 X G (ix 15 e1),f__law_no_row := y6 X G (ix 16 e1),f__law_told_of := y6 X G (ix 17 e1),f__law_turns_of := y6 X G (ix 18 e1),f__law_right := y6 X G (ix 19 e1),f_law := y6 X G (ix 20 e1),cl := cl_at X G (congrArg (fun x : lkT => x.2.2.2) e) }
end My
end
open PySem PySem.W PyProof.Rows
set_option maxRecDepth 100000 in
set_option maxHeartbeats 0 in
theorem PySem.Challenge.cw_throwruns_k26_rows_turned_holds : PySem.Challenge.rw_throwruns_k26_rows_turned.Holds := by
 w_on; o_law
 refine holds_open (q := My.q) (loose := My.ls) (Xt := fun s => xlAt My.q [] s && recOk (RowW.records (OpenLaw.row PySem.Challenge.rw_throwruns_k26_rows_turned).toRowW) s) (XP := XL My.q []) (Yf := fun s => My.Wy (DV.wf s.heap My.as)) (Ya := fun _ => My.Wz) (YP := (DV.uY My.as My.lkT My.Wy My.Wz).says) (N := 5434) My.hl (DV.uY My.as My.lkT My.Wy My.Wz).of (DV.uY My.as My.lkT My.Wy My.Wz).keeps (fun s e => xl_of s (Bool.and_eq_true_iff.mp e).1) XL.keeps (by rfl) (by rfl) (by rfl) (fun s e => recFacts_of (Bool.and_eq_true_iff.mp e).2) ?h4 ?h5 ?h6 ⟨rfl,rfl,rfl,rfl,rfl,by decide +kernel⟩ ?hw ?hc
 case h4 => rfl
 case h5 => first | assumption | decide +kernel
 case h6 => decide +kernel
 case hw => w_witness2
 case hc => exact DV.walkE (l := PySem.Challenge.rw_throwruns_k26_rows_turned) (x := "_law_script") My.math26 rfl rfl fun w K mg fa h KX e G hmg => My.law_fd hmg (My.txt_lk KX G e)
