import PyProof.Rows.All
import Wide.All
import OpenK.AllK
import Wide.FinOn
import KE.KStateDown
import HandS.ForMost
import HandS.Defaults
import HandS.Exc
import HandS.ExcOwn
import HandS.ExcCtx
import HandS.ClsMeth
import HandS.HeadHook1
import HandS.HeadHook2
import HandS.Head2
import HandS.IsInst
import HandS.Evl
import HandS.Star
import HandS.Property
import HandS.Deep
import HandS.Conv
import HandS.TryOnly
import HandS.TryMany
import HandS.WordsExc
import HandS.ExcInit
import HandS.MakeKw
import HandS.Flow
import KE.KDictKeyed
import HandS.CallSlots
import HandS.ExcIs
import HandS.ExcField
import HandS.FStr
import HandS.FStrTup
import HandS.MakeKwOnly
import KE.KDictLaws
import HandS.DictComp
import HandS.Zip
import KE.KDictWalk
import KE.KOwnIter
import HandS.IterVal
import HandS.TupAny
import HandS.RaiseFrom
import KE.KExcIs
import HandS.Dict
import HandS.HotCalls
import PySem.Challenge.RW_whomayname_k06_book_levels_and_rules
set_option Elab.async false
set_option linter.all false
set_option maxRecDepth 100000
set_option maxHeartbeats 4000000
namespace HH
open PySem PySem.Spec PyProof.Rows L2
abbrev Fr := PySem.W.Frag
/-- a def: its address, name, qualified name, statement, defaults -/
structure FF where
  a : Addr
  nm : Str
  q : Str
  st : Stmt
  ds : List V
  ks : List (Str × V)
abbrev Ob8 : Type := Option (Str × Str × Addr × Addr × List (Str × Addr) × Scope × Arguments × FuncBody)
def fO (K : Fr) (a : Addr) : Ob8 := match K.lookup a with
  | some ⟨_, _, .func z, _⟩ => some (z.qualname, z.name, z.globals, z.builtins, z.closure, z.scope, z.params, z.body)
  | _ => none
def FF.val (d : FF) : Ob8 := some (d.q, d.nm, mainGlobals, builtinsNs, [], defScope d.st, defArgs d.st, .stmts (defBody d.st))
def FF.ok (K : Fr) (d : FF) : Bool := PySem.W.keepIn K (.ref d.a) && match K.lookup d.a with
  | some ⟨_, _, .func z, _⟩ => PySem.W.codeIn K z.code d.q && (He.dflB K z.defaults d.ds && He.kwdB K z.kwdefaults d.ks)
  | _ => false
theorem two {a b : Bool} (h : (a && b) = true) : a = true ∧ b = true := by
  cases a <;> cases b <;> first | exact ⟨rfl, rfl⟩ | cases h
theorem FF.get {K : Fr} {d : FF} (e : fO K d.a = d.val) (c : d.ok K = true) : ∃ fd, FunD K d.nm d.q (defArgs d.st) (defBody d.st) (defScope d.st) d.ds d.ks d.a fd := by
  obtain ⟨hk, hc⟩ := two c
  cases lk : K.lookup d.a with
  | none => rw [lk] at hc; cases hc
  | some o =>
    rcases o with ⟨oc, od, dt, sl⟩
    unfold fO at e
    rw [lk] at hc e
    cases dt with
    | func z =>
      have e : (some (z.qualname, z.name, z.globals, z.builtins, z.closure, z.scope, z.params, z.body) : Ob8) = d.val := e
      have hc : (PySem.W.codeIn K z.code d.q && (He.dflB K z.defaults d.ds && He.kwdB K z.kwdefaults d.ks)) = true := hc
      obtain ⟨c1, c2⟩ := two hc
      obtain ⟨c3, c4⟩ := two c2
      unfold FF.val at e
      rcases z with ⟨z1, z2, z3, z4, z5, z6, z7, z8, z9, z10, z11, z12, z13, z14, z15⟩
      dsimp only at e c1 c3 c4
      simp only [Option.some.injEq, Prod.mk.injEq] at e
      rcases e with ⟨e1, e2, e3, e4, e5, e6, e7, e8⟩
      rw [e1, e2, e3, e4, e5, e6, e7, e8] at lk
      exact ⟨_, ⟨oc, od, z8, z9, z10, z11, z12, z13, z14, sl, rfl, lk, c1, He.dflB_ok c3, He.kwdB_ok c4⟩, hk⟩
    | _ => cases hc
theorem fun_of {K : Fr} {x q : Str} {st : Stmt} {f : Addr} {fd : FuncData} (F : FunD K x q (defArgs st) (defBody st) (defScope st) [] [] f fd) : L2.Fun K x q st f fd := by
  obtain ⟨oc, od, dV, kV, doc, pm, an, cdv, ct, osl, e, lk, c, d, _⟩ := F.ex
  rcases d with ⟨_, rfl⟩ | ⟨h, _⟩
  · exact ⟨⟨oc, od, kV, doc, pm, an, cdv, ct, osl, e, lk, c⟩, F.kp⟩
  · exact absurd rfl h
def recB (K : Fr) (p : Addr) (T : String) (f : Addr) : Bool := match PySem.W.recIn K p T with
  | some (.ref g :: _) => decide (g = f)
  | _ => false
theorem recB_ok {K : Fr} {p : Addr} {T : String} {f : Addr} (h : recB K p T f = true) : ∃ rest, PySem.W.recIn K p T = some (.ref f :: rest) := by
  unfold recB at h
  split at h
  · rename_i g rest e
    rw [← of_decide_eq_true h]
    exact ⟨rest, e⟩
  · cases h
def valB (K : Fr) (c mc : Value) (m : Str) (u : Value) : Bool := match PySem.W.findCls K c mc m with
  | some (.val v) => decide (v = u)
  | _ => false
theorem valB_ok {K : Fr} {c mc : Value} {m : Str} {u : Value} (h : valB K c mc m u = true) : PySem.W.findCls K c mc m = some (.val u) := by
  unfold valB at h
  split at h
  · rename_i v e
    rw [← of_decide_eq_true h]
    exact e
  · cases h
def getB (K : Fr) (c mc : Value) (m : Str) (w x y z : Value) : Bool := match PySem.W.findCls K c mc m with
  | some (.get a b d e) => decide (a = w) && (decide (b = x) && (decide (d = y) && decide (e = z)))
  | _ => false
theorem getB_ok {K : Fr} {c mc : Value} {m : Str} {w x y z : Value} (h : getB K c mc m w x y z = true) : PySem.W.findCls K c mc m = some (.get w x y z) := by
  unfold getB at h
  split at h
  · rename_i a b d e q
    obtain ⟨h1, h⟩ := two h
    obtain ⟨h2, h⟩ := two h
    obtain ⟨h3, h4⟩ := two h
    rw [← of_decide_eq_true h1, ← of_decide_eq_true h2, ← of_decide_eq_true h3, ← of_decide_eq_true h4]
    exact q
  · cases h
/-- a tuple at an address -/
def tupA (K : Fr) (a : Addr) (vs : List V) : Bool := match K.lookup a with
  | some ⟨.type c, _, .seq its _, _⟩ => decide (c = "tuple") && (decide (its.size ≤ sizeLine) && He.relAll vs its.toList)
  | _ => false
theorem tupA_ok {K : Fr} {a : Addr} {vs : List V} (h : tupA K a vs = true) (H : Hp) : SqT K H a vs := by
  unfold tupA at h
  split at h
  · rename_i c od its n sl e
    obtain ⟨h1, h⟩ := two h
    obtain ⟨h2, h3⟩ := two h
    exact .inr ⟨_, its, n, e, congrArg Value.type (of_decide_eq_true h1), rfl, of_decide_eq_true h2, He.relAll_ok h3⟩
  · cases h
/-- a class of errors at an address; its line of classes, its name -/
def excB (K : Fr) (C : Addr) (mr : List Value) : Bool := match K.lookup C with
  | some ⟨.type t, _, .cls cd, sl⟩ => decide (t = "type") && (decide (cd.mro = .ref C :: mr) && (cd.hasDict && (!cd.hasDel && (match sl.toList with
    | [_, _, some (.str n _), _, some (.builtin i), _] => decide (i = "ValueError.__new__") && decide (n.length ≤ 1000)
    | _ => false))))
  | _ => false
theorem excB_ok {K : Fr} {C : Addr} {mr : List Value} (h : excB K C mr = true) : ∃ (nm q : Str) (N : Addr) (bs : List Value) (sn : List Str) (sub : List Value) (ab : Bool) (col : Option Bool) (dd : Option Addr) (k0 k1 : Option Value) (n : Str) (t : Tok) (k3 k5 : Option Value),
    K.lookup C = some (excClassObj nm q C N bs mr true sn sub ab col dd k0 k1 (some (.str n t)) k3 k5 "ValueError.__new__") ∧ n.length ≤ 1000 := by
  unfold excB at h
  split at h
  · rename_i t dd cd sl e
    obtain ⟨h1, h⟩ := two h
    obtain ⟨h2, h⟩ := two h
    obtain ⟨h3, h⟩ := two h
    obtain ⟨h4, h⟩ := two h
    split at h
    · rename_i k0 k1 n tk k3 i k5 es
      obtain ⟨h5, h6⟩ := two h
      rcases cd with ⟨c1, c2, c3, c4, c5, c6, c7, c8, c9, c10, c11⟩
      dsimp only at h2 h3 h4
      have h2 := of_decide_eq_true h2
      have h5 := of_decide_eq_true h5
      have h1 := of_decide_eq_true h1
      have h4 : c11 = false := by cases c11 <;> first | rfl | cases h4
      have hs : sl = #[k0, k1, some (.str n tk), k3, some (.builtin i), k5] := by
        rcases sl with ⟨l⟩
        exact congrArg Array.mk es
      rw [h1, h2, h3, h4, hs, h5] at e
      exact ⟨c1, c5, c4, c2, c7, c8, c9, c10, dd, k0, k1, n, tk, k3, k5, e, of_decide_eq_true h6⟩
    · cases h
  · cases h
abbrev Al : Type := Bool × List Ob8
def ob (fs : List (Fr → Bool)) (fn : List FF) (K : Fr) : Al := (fs.all (fun f => f K) && fn.all (FF.ok K), fn.map fun d => fO K d.a)
def vl (fn : List FF) : Al := (true, fn.map FF.val)
def Says (fs : List (Fr → Bool)) (fn : List FF) (K : Fr) : Prop := ob fs fn K = vl fn
def hk (as : List Addr) (fs : List (Fr → Bool)) (fn : List FF) : PySem.W.Hook where
  α := Al
  obs := fun s => ob fs fn (He.frG s.heap.get? as)
  val := fun _ => vl fn
  says := fun _ h => ∃ K : Fr, K.In h ∧ Says fs fn K
  of := fun _ _ e => ⟨_, He.frG_in, e⟩
  keeps := fun _ _ _ ⟨K, hK, c⟩ k => ⟨K, PySem.W.Frag.In.keeps hK k, c⟩
def obT (as : List Addr) (fs : List (Fr → Bool)) (fn : List FF) (s : PySem.W.SharedT) : Al := ob fs fn (He.frG (HandSHeadRun.getT s) as)
theorem obT_eq {as : List Addr} {fs : List (Fr → Bool)} {fn : List FF} (s : PySem.W.SharedT) : obT as fs fn s = (hk as fs fn).obs s.abs := by
  unfold obT
  rw [show HandSHeadRun.getT s = s.abs.heap.get? from funext (HandSHeadRun.getT_eq s)]
  rfl
section
variable {fs : List (Fr → Bool)} {fn : List FF} {K : Fr}
theorem Says.fact (c : Says fs fn K) (i : Nat) {f : Fr → Bool} (h : fs[i]? = some f) : f K = true :=
  List.all_eq_true.mp (two (congrArg (fun z : Al => z.1) c)).1 f (List.mem_of_getElem? h)
theorem Says.dfn (c : Says fs fn K) (i : Nat) {d : FF} (h : fn[i]? = some d) : ∃ fd, FunD K d.nm d.q (defArgs d.st) (defBody d.st) (defScope d.st) d.ds d.ks d.a fd := by
  have c2 := (two (congrArg (fun z : Al => z.1) c)).2
  have e : fn.map (fun d => fO K d.a) = fn.map FF.val := congrArg (fun z : Al => z.2) c
  have e2 : (fn.map fun d => fO K d.a)[i]? = (fn.map FF.val)[i]? := by rw [e]
  simp only [List.getElem?_map, h, Option.map_some, Option.some.injEq] at e2
  exact FF.get e2 (List.all_eq_true.mp c2 d (List.mem_of_getElem? h))
end
/-- the walk: the written part comes from the head -/
theorem walkX {l : PySem.W.OpenLaw} {n k : Nat} {q : Program} {loose : List Str} {XP : (Str → Option Value) → Heap → Prop} {YP : World → Heap → Prop} {d : DefRec} {x : Str} (hn : l.most = some n) (hz : n ≤ sizeLine) (hdf : d.params.defaults = []) (hr : Room k callerA)
    (F : ∀ (w : World) (mg : Str → Option Value) (fa : Addr) (h : Heap), YP w h → h.Ns mainGlobals mg → mg d.name = some (.ref fa) → ∃ (K : Fr) (fd : FuncData) (sp : Sp), K.In h ∧ (∀ (s : Shared) (u : Value), BindsTo s fd ⟨[u], []⟩ [(x, u)]) ∧
      (∀ (H : Hp) (a : Addr) (ns : List Int), ns.length ≤ n → Only H → SqL K H a (ns.map V.int) → sp [.ref a] H (fun v _ => v = .bl true) fun _ _ _ => False) ∧
      ∀ base : Heap, K.In base → base.Ns mainGlobals mg → FnOk l.prog w K mg base (L2N.CX l.prog w) k fa fd [x] sp) :
    PySem.W.WalkO q loose XP YP l.row.toRowW d [] (fun f vs => PySem.call f vs) :=
  Att.attach_call hn hdf fun w _ s1 mg _ fa _ _ _ _ _ _ ns G Y _ _ _ hm hj hi hl hg => by
    obtain ⟨K, fd, sp, KX, hb, hs, hF⟩ := F w mg fa _ Y G.T.g hm
    exact law_call KX G.T.g G.T.b G.T.builtins G.T.nolimit hg hj hi (Nat.le_trans hl hz) hr hF hb (fun H hO hS => hs H _ ns hl hO hS) fun _ _ _ h => by
      obtain ⟨_, _, _, _, _, _, _, _, _, _, _, _, z⟩ := h
      exact z.elim
end HH
namespace My
open PySem L2
def topS (i : Nat) : Stmt := PySem.Challenge.pw_whomayname_k06_book_levels_and_rules.main.body.getD i (.Pass ⟨0, 0, 0, 0⟩)
abbrev s_wording : Stmt := topS 5
abbrev s_AccessError_init : Stmt := inClass (topS 2) 0
abbrev s_Rule_init : Stmt := inClass (topS 8) 0
abbrev s_has_one_of : Stmt := topS 10
abbrev s_Rule_of : Stmt := inClass (topS 8) 1
abbrev s_Rule_stances : Stmt := inClass (topS 8) 2
abbrev s_Rule___and__ : Stmt := inClass (topS 8) 3
abbrev s_Rule___or__ : Stmt := inClass (topS 8) 4
abbrev s_Book_init : Stmt := inClass (topS 9) 0
abbrev s_Book_levels : Stmt := inClass (topS 9) 2
abbrev s_Book___getitem__ : Stmt := inClass (topS 9) 3
abbrev s_Book___contains__ : Stmt := inClass (topS 9) 4
abbrev s_Book___iter__ : Stmt := inClass (topS 9) 5
abbrev s_l_digits : Stmt := topS 13
abbrev s_l_name : Stmt := topS 14
abbrev s_l_words : Stmt := topS 15
abbrev s_l_stances : Stmt := topS 16
abbrev s_l_products : Stmt := topS 17
abbrev s_l_holds : Stmt := topS 18
abbrev s_l_let : Stmt := topS 19
abbrev s_l_rule : Stmt := topS 20
abbrev s_l_same : Stmt := topS 21
abbrev s_l_told : Stmt := topS 22
abbrev s_law : Stmt := topS 23
end My
namespace My
open PySem L2
abbrev hR : PySem.W.OpenRow := PySem.W.OpenLaw.row PySem.Challenge.rw_whomayname_k06_book_levels_and_rules
abbrev hqv : Program := PySem.W.view hR.prog [23]
def hnm0 : List PySem.Str := ["_wall", "AccessError", "Unknown", "Taken", "_wording", "STANCES", "Rule", "Book", "_has_one_of", "_keeps_order", "_law_digits", "_law_name", "_law_words", "_law_stances", "_law_products", "_law_holds", "_law_let", "_law_rule", "_law_same", "_law_told"]
def hnames : List PySem.Str := hnm0
def hfs : List (HH.Fr → Bool) := [
  fun K => He.eqO (PySem.W.nsIn K mainGlobals "_wording") (some (some (.ref 73))),
  fun K => He.eqO (PySem.W.nsIn K mainGlobals "_has_one_of") (some (some (.ref 212))),
  fun K => He.eqO (PySem.W.nsIn K mainGlobals "_law_digits") (some (some (.ref 226))),
  fun K => He.eqO (PySem.W.nsIn K mainGlobals "_law_name") (some (some (.ref 233))),
  fun K => He.eqO (PySem.W.nsIn K mainGlobals "_law_words") (some (some (.ref 240))),
  fun K => He.eqO (PySem.W.nsIn K mainGlobals "_law_stances") (some (some (.ref 245))),
  fun K => He.eqO (PySem.W.nsIn K mainGlobals "_law_products") (some (some (.ref 252))),
  fun K => He.eqO (PySem.W.nsIn K mainGlobals "_law_holds") (some (some (.ref 257))),
  fun K => He.eqO (PySem.W.nsIn K mainGlobals "_law_let") (some (some (.ref 262))),
  fun K => He.eqO (PySem.W.nsIn K mainGlobals "_law_rule") (some (some (.ref 269))),
  fun K => He.eqO (PySem.W.nsIn K mainGlobals "_law_same") (some (some (.ref 276))),
  fun K => He.eqO (PySem.W.nsIn K mainGlobals "_law_told") (some (some (.ref 281))),
  fun K => He.eqO (PySem.W.nsIn K mainGlobals "law") (some (some (.ref 286))),
  fun K => He.eqO (PySem.W.nsIn K mainGlobals "ValueError") (some none),
  fun K => He.eqO (PySem.W.nsIn K mainGlobals "any") (some none),
  fun K => He.eqO (PySem.W.nsIn K mainGlobals "bool") (some none),
  fun K => He.eqO (PySem.W.nsIn K mainGlobals "int") (some none),
  fun K => He.eqO (PySem.W.nsIn K mainGlobals "isinstance") (some none),
  fun K => He.eqO (PySem.W.nsIn K mainGlobals "iter") (some none),
  fun K => He.eqO (PySem.W.nsIn K mainGlobals "len") (some none),
  fun K => He.eqO (PySem.W.nsIn K mainGlobals "list") (some none),
  fun K => He.eqO (PySem.W.nsIn K mainGlobals "range") (some none),
  fun K => He.eqO (PySem.W.nsIn K mainGlobals "str") (some none),
  fun K => He.eqO (PySem.W.nsIn K mainGlobals "tuple") (some none),
  fun K => PySem.W.plainGet K 138 Str.empty,
  fun K => PySem.W.hasDictIn K 138,
  fun K => PySem.W.plainOver K 138,
  fun K => He.eqO (PySem.W.findIn K (.ref 138) "__setattr__") (some (some (.builtin "object.__setattr__"))),
  fun K => He.eqO (PySem.W.findIn K (.ref 138) "_let") (some none),
  fun K => PySem.W.plainGet K 203 Str.empty,
  fun K => PySem.W.hasDictIn K 203,
  fun K => PySem.W.plainOver K 203,
  fun K => He.eqO (PySem.W.findIn K (.ref 203) "__setattr__") (some (some (.builtin "object.__setattr__"))),
  fun K => He.eqO (PySem.W.findIn K (.ref 203) "_rules") (some none),
  fun K => He.eqO (PySem.W.findIn K (.ref 203) "levels") (some (some (.ref 174))),
  fun K => He.eqO (PySem.W.specialIn K (.ref 174) "__get__") (some (some (.builtin "property.__get__"))),
  fun K => decide (PySem.W.takesIn K (.ref 174) = some true),
  fun K => HH.recB K 174 "property" 173,
  fun K => He.eqO (PySem.W.findIn K (.ref 138) "stances") (some (some (.ref 113))),
  fun K => He.eqO (PySem.W.specialIn K (.ref 113) "__get__") (some (some (.builtin "property.__get__"))),
  fun K => decide (PySem.W.takesIn K (.ref 113) = some true),
  fun K => HH.recB K 113 "property" 112,
  fun K => PySem.W.makesIn K 138,
  fun K => He.eqO (PySem.W.findIn K (.ref 138) "__init__") (some (some (.ref 97))),
  fun K => PySem.W.isFn K (.ref 97),
  fun K => PySem.W.keepIn K (.ref 138),
  fun K => He.eqO (PySem.W.nsIn K mainGlobals "Rule") (some (some (.ref 138))),
  fun K => PySem.W.makesIn K 203,
  fun K => He.eqO (PySem.W.findIn K (.ref 203) "__init__") (some (some (.ref 156))),
  fun K => PySem.W.isFn K (.ref 156),
  fun K => PySem.W.keepIn K (.ref 203),
  fun K => He.eqO (PySem.W.nsIn K mainGlobals "Book") (some (some (.ref 203))),
  fun K => He.eqO (PySem.W.findIn K (.ref 203) "__contains__") (some (some (.ref 188))),
  fun K => PySem.W.isFn K (.ref 188),
  fun K => PySem.W.fnIn K 188,
  fun K => He.eqO (PySem.W.findIn K (.ref 203) "__getitem__") (some (some (.ref 181))),
  fun K => PySem.W.isFn K (.ref 181),
  fun K => PySem.W.fnIn K 181,
  fun K => He.eqO (PySem.W.findIn K (.ref 203) "__iter__") (some (some (.ref 195))),
  fun K => PySem.W.isFn K (.ref 195),
  fun K => PySem.W.fnIn K 195,
  fun K => PySem.W.selfFirst K 138,
  fun K => He.eqO (PySem.W.findIn K (.ref 138) "__and__") (some (some (.ref 118))),
  fun K => PySem.W.isFn K (.ref 118),
  fun K => He.eqO (PySem.W.findIn K (.ref 138) "__or__") (some (some (.ref 123))),
  fun K => PySem.W.isFn K (.ref 123),
  fun K => HH.tupA K 74 [.str "own", .str "nested", .str "around", .str "below", .str "heir", .str "package", .str "any"],
  fun K => HH.tupA K 75 [.str "nested", .str "below", .str "heir", .str "package", .str "any"],
  fun K => HH.tupA K 76 [.str "around", .str "package", .str "any"],
  fun K => HH.tupA K 77 [.str "below", .str "heir", .str "package", .str "any"],
  fun K => HH.tupA K 78 [.str "below", .str "heir", .str "any"],
  fun K => HH.tupA K 79 [.str "heir", .str "package", .str "any"],
  fun K => HH.tupA K 80 [.str "heir", .str "any"],
  fun K => HH.tupA K 81 [.str "package", .str "any"],
  fun K => HH.tupA K 82 [.str "any"],
  fun K => He.eqO (PySem.W.nsIn K mainGlobals "STANCES") (some (some (.ref 83))),
  fun K => HH.tupA K 83 [.ref 74, .ref 75, .ref 76, .ref 77, .ref 78, .ref 79, .ref 80, .ref 81, .ref 82],
  fun K => PySem.W.readsIn K 138 (.type "type"),
  fun K => He.eqO (PySem.W.specialIn K (.ref 138) "__getattribute__") (some (some (.builtin "type.__getattribute__"))),
  fun K => HH.getB K (.ref 138) (.type "type") "of" (.builtin "classmethod.__get__") (.ref 104) .none (.ref 138),
  fun K => HH.recB K 104 "classmethod" 102,
  fun K => PySem.W.fnIn K 102,
  fun K => decide (PySem.W.typeIn K (.ref 36) = some (.type "function")),
  fun K => HH.valB K (.type "ValueError") (.type "type") "__init__" (.builtin "ValueError.__init__"),
  fun K => HH.excB K 64 [.ref 39, .type "ValueError", .type "Exception", .type "BaseException", .type "object"],
  fun K => HH.getB K (.ref 64) (.type "type") "__name__" (.builtin "getset_descriptor.__get__") (.builtin "type.__name__") (.ref 64) (.type "type"),
  fun K => He.eqO (PySem.W.findIn K (.ref 64) "__class__") (some (some (.builtin "object.__class__"))),
  fun K => He.eqO (PySem.W.specialIn K (.builtin "object.__class__") "__get__") (some (some (.builtin "getset_descriptor.__get__"))),
  fun K => decide (PySem.W.takesIn K (.builtin "object.__class__") = some true),
  fun K => decide (PySem.W.mroIn K 64 (.type "object") = some true),
  fun K => PySem.W.readsIn K 64 (.type "type"),
  fun K => He.eqO (PySem.W.findIn K (.ref 64) "__getattribute__") (some (some (.builtin "BaseException.__getattribute__"))),
  fun K => He.eqO (PySem.W.findIn K (.ref 64) "__getattr__") (some none),
  fun K => decide (PySem.W.subIn K (.ref 64) (.type "BaseException") = some true),
  fun K => PySem.W.hasDictIn K 64,
  fun K => He.eqO (PySem.W.findIn K (.ref 64) "__setattr__") (some (some (.builtin "object.__setattr__"))),
  fun K => decide (PySem.W.typeIn K (.ref 64) = some (.type "type")),
  fun K => PySem.W.keepIn K (.ref 64),
  fun K => He.eqO (PySem.W.findIn K (.ref 64) "what") (some none),
  fun K => He.eqO (PySem.W.findIn K (.ref 64) "row") (some none),
  fun K => He.eqO (PySem.W.findIn K (.ref 64) "__init__") (some (some (.ref 36))),
  fun K => He.eqO (PySem.W.nsIn K mainGlobals "Taken") (some (some (.ref 64))),
  fun K => HH.excB K 52 [.ref 39, .type "ValueError", .type "Exception", .type "BaseException", .type "object"],
  fun K => HH.getB K (.ref 52) (.type "type") "__name__" (.builtin "getset_descriptor.__get__") (.builtin "type.__name__") (.ref 52) (.type "type"),
  fun K => He.eqO (PySem.W.findIn K (.ref 52) "__class__") (some (some (.builtin "object.__class__"))),
  fun K => decide (PySem.W.mroIn K 52 (.type "object") = some true),
  fun K => PySem.W.readsIn K 52 (.type "type"),
  fun K => He.eqO (PySem.W.findIn K (.ref 52) "__getattribute__") (some (some (.builtin "BaseException.__getattribute__"))),
  fun K => He.eqO (PySem.W.findIn K (.ref 52) "__getattr__") (some none),
  fun K => decide (PySem.W.subIn K (.ref 52) (.type "BaseException") = some true),
  fun K => PySem.W.hasDictIn K 52,
  fun K => He.eqO (PySem.W.findIn K (.ref 52) "__setattr__") (some (some (.builtin "object.__setattr__"))),
  fun K => decide (PySem.W.typeIn K (.ref 52) = some (.type "type")),
  fun K => PySem.W.keepIn K (.ref 52),
  fun K => He.eqO (PySem.W.findIn K (.ref 52) "what") (some none),
  fun K => He.eqO (PySem.W.findIn K (.ref 52) "row") (some none),
  fun K => He.eqO (PySem.W.findIn K (.ref 52) "__init__") (some (some (.ref 36))),
  fun K => He.eqO (PySem.W.nsIn K mainGlobals "Unknown") (some (some (.ref 52))),
  fun K => decide (PySem.W.subIn K (.ref 64) (.ref 64) = some true),
  fun K => decide (PySem.W.subIn K (.ref 52) (.ref 64) = some false),
  fun K => decide (PySem.W.subIn K (.ref 64) (.ref 52) = some false),
  fun K => decide (PySem.W.subIn K (.ref 52) (.ref 52) = some true)]
def hfn : List HH.FF := [
  ⟨73, "_wording", "_wording", s_wording, [], []⟩,
  ⟨36, "__init__", "AccessError.__init__", s_AccessError_init, [.non], []⟩,
  ⟨97, "__init__", "Rule.__init__", s_Rule_init, [], []⟩,
  ⟨212, "_has_one_of", "_has_one_of", s_has_one_of, [], []⟩,
  ⟨102, "of", "Rule.of", s_Rule_of, [], []⟩,
  ⟨112, "stances", "Rule.stances", s_Rule_stances, [], []⟩,
  ⟨118, "__and__", "Rule.__and__", s_Rule___and__, [], []⟩,
  ⟨123, "__or__", "Rule.__or__", s_Rule___or__, [], []⟩,
  ⟨156, "__init__", "Book.__init__", s_Book_init, [], []⟩,
  ⟨173, "levels", "Book.levels", s_Book_levels, [], []⟩,
  ⟨181, "__getitem__", "Book.__getitem__", s_Book___getitem__, [], []⟩,
  ⟨188, "__contains__", "Book.__contains__", s_Book___contains__, [], []⟩,
  ⟨195, "__iter__", "Book.__iter__", s_Book___iter__, [], []⟩,
  ⟨226, "_law_digits", "_law_digits", s_l_digits, [], []⟩,
  ⟨233, "_law_name", "_law_name", s_l_name, [], []⟩,
  ⟨240, "_law_words", "_law_words", s_l_words, [], []⟩,
  ⟨245, "_law_stances", "_law_stances", s_l_stances, [], []⟩,
  ⟨252, "_law_products", "_law_products", s_l_products, [], []⟩,
  ⟨257, "_law_holds", "_law_holds", s_l_holds, [], []⟩,
  ⟨262, "_law_let", "_law_let", s_l_let, [], []⟩,
  ⟨269, "_law_rule", "_law_rule", s_l_rule, [], []⟩,
  ⟨276, "_law_same", "_law_same", s_l_same, [], []⟩,
  ⟨281, "_law_told", "_law_told", s_l_told, [], []⟩,
  ⟨286, "law", "law", s_law, [], []⟩]
def has : List Addr := List.range 287
theorem hrun (w : World) : HandSHeadRun.RunEq hR hqv (HH.hk has hfs hfn) (HH.obT has hfs hfn) 40000 hnames w := by
  intro os
  kernel_rfl
end My
namespace RL
open PySem L2
inductive D where
  | non | bl (b : Bool) | int (i : Int) | str (s : Str) | tup (l : List D) | kl (l : List D) | ref (n : Nat)
  | plst (l : List D) | pdct (l : List (D × D)) | pobj (c : Str) (l : List (Str × D))
  deriving Inhabited
mutual
def D.dec : (a b : D) → Decidable (a = b)
  | .non, .non => .isTrue rfl
  | .bl a, .bl b => if h : a = b then .isTrue (by rw [h]) else .isFalse fun z => h (D.bl.inj z)
  | .int a, .int b => if h : a = b then .isTrue (by rw [h]) else .isFalse fun z => h (D.int.inj z)
  | .str a, .str b => if h : a = b then .isTrue (by rw [h]) else .isFalse fun z => h (D.str.inj z)
  | .ref a, .ref b => if h : a = b then .isTrue (by rw [h]) else .isFalse fun z => h (D.ref.inj z)
  | .tup a, .tup b => match D.decs a b with
    | .isTrue h => .isTrue (by rw [h])
    | .isFalse h => .isFalse fun z => h (D.tup.inj z)
  | .kl a, .kl b => match D.decs a b with
    | .isTrue h => .isTrue (by rw [h])
    | .isFalse h => .isFalse fun z => h (D.kl.inj z)
  | .plst a, .plst b => match D.decs a b with
    | .isTrue h => .isTrue (by rw [h])
    | .isFalse h => .isFalse fun z => h (D.plst.inj z)
  | .pdct a, .pdct b => match D.decp a b with
    | .isTrue h => .isTrue (by rw [h])
    | .isFalse h => .isFalse fun z => h (D.pdct.inj z)
  | .pobj c a, .pobj d b => if h : c = d then (match D.decf a b with
    | .isTrue h' => .isTrue (by rw [h, h'])
    | .isFalse h' => .isFalse fun z => h' (D.pobj.inj z).2) else .isFalse fun z => h (D.pobj.inj z).1
  | .non, .bl _ | .non, .int _ | .non, .str _ | .non, .ref _ | .non, .tup _ | .non, .kl _ | .non, .plst _ | .non, .pdct _ | .non, .pobj _ _ => .isFalse nofun
  | .bl _, .non | .bl _, .int _ | .bl _, .str _ | .bl _, .ref _ | .bl _, .tup _ | .bl _, .kl _ | .bl _, .plst _ | .bl _, .pdct _ | .bl _, .pobj _ _ => .isFalse nofun
  | .int _, .non | .int _, .bl _ | .int _, .str _ | .int _, .ref _ | .int _, .tup _ | .int _, .kl _ | .int _, .plst _ | .int _, .pdct _ | .int _, .pobj _ _ => .isFalse nofun
  | .str _, .non | .str _, .bl _ | .str _, .int _ | .str _, .ref _ | .str _, .tup _ | .str _, .kl _ | .str _, .plst _ | .str _, .pdct _ | .str _, .pobj _ _ => .isFalse nofun
  | .ref _, .non | .ref _, .bl _ | .ref _, .int _ | .ref _, .str _ | .ref _, .tup _ | .ref _, .kl _ | .ref _, .plst _ | .ref _, .pdct _ | .ref _, .pobj _ _ => .isFalse nofun
  | .tup _, .non | .tup _, .bl _ | .tup _, .int _ | .tup _, .str _ | .tup _, .ref _ | .tup _, .kl _ | .tup _, .plst _ | .tup _, .pdct _ | .tup _, .pobj _ _ => .isFalse nofun
  | .kl _, .non | .kl _, .bl _ | .kl _, .int _ | .kl _, .str _ | .kl _, .ref _ | .kl _, .tup _ | .kl _, .plst _ | .kl _, .pdct _ | .kl _, .pobj _ _ => .isFalse nofun
  | .plst _, .non | .plst _, .bl _ | .plst _, .int _ | .plst _, .str _ | .plst _, .ref _ | .plst _, .tup _ | .plst _, .kl _ | .plst _, .pdct _ | .plst _, .pobj _ _ => .isFalse nofun
  | .pdct _, .non | .pdct _, .bl _ | .pdct _, .int _ | .pdct _, .str _ | .pdct _, .ref _ | .pdct _, .tup _ | .pdct _, .kl _ | .pdct _, .plst _ | .pdct _, .pobj _ _ => .isFalse nofun
  | .pobj _ _, .non | .pobj _ _, .bl _ | .pobj _ _, .int _ | .pobj _ _, .str _ | .pobj _ _, .ref _ | .pobj _ _, .tup _ | .pobj _ _, .kl _ | .pobj _ _, .plst _ | .pobj _ _, .pdct _ => .isFalse nofun
def D.decs : (a b : List D) → Decidable (a = b)
  | [], [] => .isTrue rfl
  | [], _ :: _ => .isFalse nofun
  | _ :: _, [] => .isFalse nofun
  | x :: xs, y :: ys => match D.dec x y, D.decs xs ys with
    | .isTrue h, .isTrue h' => .isTrue (by rw [h, h'])
    | .isFalse h, _ => .isFalse fun z => h (List.cons.inj z).1
    | _, .isFalse h => .isFalse fun z => h (List.cons.inj z).2
def D.decp : (a b : List (D × D)) → Decidable (a = b)
  | [], [] => .isTrue rfl
  | [], _ :: _ => .isFalse nofun
  | _ :: _, [] => .isFalse nofun
  | (k, x) :: xs, (j, y) :: ys => match D.dec k j, D.dec x y, D.decp xs ys with
    | .isTrue h, .isTrue h', .isTrue h'' => .isTrue (by rw [h, h', h''])
    | .isFalse h, _, _ => .isFalse fun z => h (Prod.mk.inj (List.cons.inj z).1).1
    | _, .isFalse h, _ => .isFalse fun z => h (Prod.mk.inj (List.cons.inj z).1).2
    | _, _, .isFalse h => .isFalse fun z => h (List.cons.inj z).2
def D.decf : (a b : List (Str × D)) → Decidable (a = b)
  | [], [] => .isTrue rfl
  | [], _ :: _ => .isFalse nofun
  | _ :: _, [] => .isFalse nofun
  | (k, x) :: xs, (j, y) :: ys => if h : k = j then (match D.dec x y, D.decf xs ys with
    | .isTrue h', .isTrue h'' => .isTrue (by rw [h, h', h''])
    | .isFalse h', _ => .isFalse fun z => h' (Prod.mk.inj (List.cons.inj z).1).2
    | _, .isFalse h' => .isFalse fun z => h' (List.cons.inj z).2) else .isFalse fun z => h (Prod.mk.inj (List.cons.inj z).1).1
end
instance : DecidableEq D := D.dec
/-- what stands behind a number: a list, a list that is only read, a dict (locked while a loop goes over it), an object of an own class -/
inductive Ob where
  | lst (l : List D) | rol (l : List D) | dct (k : Bool) (l : List (D × D)) | ins (c : Str) (fs : List (Str × D))
  deriving DecidableEq
abbrev G := List Ob
/-- an own error: its class, and its fields -/
structure Exc where
  cls : Str
  fs : List (Str × D)
inductive Res (α : Type) where
  | ok (a : α) (g : G) | exc (e : Exc) (g : G) | bad
abbrev M (α : Type) := G → Res α
def Res.bind {α β : Type} (r : Res α) (k : α → M β) : Res β := match r with
  | .ok a g => k a g
  | .exc e g => .exc e g
  | .bad => .bad
@[simp] theorem Res.bind_ok {α β : Type} (a : α) (g : G) (k : α → M β) : (Res.ok a g).bind k = k a g := rfl
@[simp] theorem Res.bind_exc {α β : Type} (e : Exc) (g : G) (k : α → M β) : (Res.exc e g : Res α).bind k = .exc e g := rfl
@[simp] theorem Res.bind_bad {α β : Type} (k : α → M β) : (Res.bad : Res α).bind k = .bad := rfl
/-- slots -/
abbrev T := List (Option D)
abbrev ME := T → M D
abbrev MA := T → M (List D)
abbrev MT := T → M Bool
inductive SR where
  | nx (t : T) (g : G) | rt (d : D) (g : G) | bk (t : T) (g : G) | ct (t : T) (g : G) | ex (e : Exc) (t : T) (g : G) | bad
abbrev MS := T → G → SR

/-- texts that occur: code points, and not too many -/
def sOk (s : Str) : Bool := PyData.strOk s && decide (s.length ≤ 1000)
/-- the names of fields: no method has one of them -/
def fieldNames : List Str := ["_acts", "_bases", "_book", "_cast", "_classes", "_house", "_kinds", "_known", "_later", "_let", "_levels", "_library", "_lines", "_other", "_outer", "_packages", "_programs", "_roots", "_rules", "_sealed", "_uses", "bodies", "farther", "here", "rows", "there", "third"]
def fieldOk (f : Str) : Bool := fieldNames.contains f
/-- a list that is only read: the script -/
def SqF (K : PySem.W.Frag) (H : Hp) (a : Addr) (xs : List V) : Prop := (∃ o, H a = some (.frz o (.lst xs))) ∨ ∃ (o : Obj) (its : Array Value) (n : Nat), K.lookup a = some o ∧ o.cls = .type "list" ∧ o.dict = none ∧ o.data = .seq its n ∧ its.size ≤ sizeLine ∧ Vals xs its.toList
theorem SqF.seq {K : PySem.W.Frag} {H : Hp} {a : Addr} {xs : List V} (h : SqF K H a xs) : SqL K H a xs := by
  rcases h with h | h
  · exact .inl (.inr h)
  · exact .inr h
section
variable (K : PySem.W.Frag) (ρ : List Addr) (H : Hp)
mutual
inductive RelD : D → V → Prop
  | non : RelD .non .non
  | bl (b : Bool) : RelD (.bl b) (.bl b)
  | int (i : Int) : RelD (.int i) (.int i)
  | str {s : Str} : sOk s = true → RelD (.str s) (.str s)
  | tup {l : List D} {a : Addr} {xs : List V} : SqT K H a xs → RelDs l xs → RelD (.tup l) (.ref a)
  | kl {l : List D} {a : Addr} {xs : List V} : SqF K H a xs → RelDs l xs → RelD (.kl l) (.ref a)
  | ref {n : Nat} {a : Addr} : ρ[n]? = some a → RelD (.ref n) (.ref a)
inductive RelDs : List D → List V → Prop
  | nil : RelDs [] []
  | cons {d : D} {v : V} {ds : List D} {vs : List V} : RelD d v → RelDs ds vs → RelDs (d :: ds) (v :: vs)
end
end
section
variable {K : PySem.W.Frag} {ρ ρ' : List Addr} {H H' : Hp}
theorem RelDs.length : ∀ {ds : List D} {vs : List V}, RelDs K ρ H ds vs → ds.length = vs.length
  | _, _, .nil => rfl
  | _, _, .cons _ t => by rw [List.length_cons, List.length_cons, t.length]
theorem RelDs.get : ∀ {ds : List D} {vs : List V}, RelDs K ρ H ds vs → ∀ {i : Nat} {d : D}, ds[i]? = some d → ∃ v, vs[i]? = some v ∧ RelD K ρ H d v
  | _, _, .nil, _, _, e => by simp at e
  | _, _, .cons h _, 0, _, e => by
    cases e
    exact ⟨_, rfl, h⟩
  | _, _, .cons _ t, i + 1, d, e => by
    obtain ⟨v, h1, h2⟩ := t.get (i := i) (d := d) (by simpa using e)
    exact ⟨v, by simpa using h1, h2⟩
theorem RelDs.app : ∀ {ds : List D} {vs : List V} {es : List D} {us : List V}, RelDs K ρ H ds vs → RelDs K ρ H es us → RelDs K ρ H (ds ++ es) (vs ++ us)
  | _, _, _, _, .nil, h => h
  | _, _, _, _, .cons q t, h => .cons q (t.app h)
theorem RelDs.one {d : D} {v : V} (h : RelD K ρ H d v) : RelDs K ρ H [d] [v] := .cons h .nil
theorem RelDs.take : ∀ {ds : List D} {vs : List V} (n : Nat), RelDs K ρ H ds vs → RelDs K ρ H (ds.take n) (vs.take n)
  | _, _, 0, _ => .nil
  | _, _, _ + 1, .nil => .nil
  | _, _, n + 1, .cons h t => .cons h (t.take n)
theorem RelDs.drop : ∀ {ds : List D} {vs : List V} (n : Nat), RelDs K ρ H ds vs → RelDs K ρ H (ds.drop n) (vs.drop n)
  | _, _, 0, h => h
  | _, _, _ + 1, .nil => .nil
  | _, _, n + 1, .cons _ t => t.drop n
theorem RelDs.set {d : D} {v : V} (q : RelD K ρ H d v) : ∀ {ds : List D} {vs : List V} (n : Nat), RelDs K ρ H ds vs → RelDs K ρ H (ds.set n d) (vs.set n v)
  | _, _, _, .nil => .nil
  | _, _, 0, .cons _ t => .cons q t
  | _, _, n + 1, .cons h t => .cons h (RelDs.set q n t)
mutual
theorem RelD.mono (hr : ∀ (n : Nat) (a : Addr), ρ[n]? = some a → ρ'[n]? = some a) (ht : ∀ a xs, SqT K H a xs → SqT K H' a xs) (hf : ∀ a xs, SqF K H a xs → SqF K H' a xs) : ∀ {d : D} {v : V}, RelD K ρ H d v → RelD K ρ' H' d v
  | _, _, .non => .non
  | _, _, .bl b => .bl b
  | _, _, .int i => .int i
  | _, _, .str h => .str h
  | _, _, .tup h t => .tup (ht _ _ h) (RelDs.mono hr ht hf t)
  | _, _, .kl h t => .kl (hf _ _ h) (RelDs.mono hr ht hf t)
  | _, _, .ref h => .ref (hr _ _ h)
theorem RelDs.mono (hr : ∀ (n : Nat) (a : Addr), ρ[n]? = some a → ρ'[n]? = some a) (ht : ∀ a xs, SqT K H a xs → SqT K H' a xs) (hf : ∀ a xs, SqF K H a xs → SqF K H' a xs) : ∀ {ds : List D} {vs : List V}, RelDs K ρ H ds vs → RelDs K ρ' H' ds vs
  | _, _, .nil => .nil
  | _, _, .cons h t => .cons (RelD.mono hr ht hf h) (RelDs.mono hr ht hf t)
end
end
end RL
namespace RL
open PySem L2
/-- what all states of a run have in common -/
structure U where
  K : PySem.W.Frag
  cn : Str → Addr
  P : Program
  w : World

inductive PK where
  | non | bl (b : Bool) | str (x : Str)
  deriving DecidableEq
def PK.leaf : PK → Leaf
  | .non => .none
  | .bl b => .num (if b = true then 1 else 0)
  | .str x => .text x
theorem PK.leaf_inj : ∀ {a b : PK}, a.leaf = b.leaf → a = b
  | .non, .non, _ => rfl
  | .bl a, .bl b, h => by
    cases a <;> cases b <;> first | rfl | (exfalso; simp [PK.leaf] at h)
  | .str a, .str b, h => by
    simp [PK.leaf] at h
    rw [h]
  | .non, .bl _, h | .non, .str _, h | .bl _, .non, h | .bl _, .str _, h | .str _, .non, h | .str _, .bl _, h => by simp [PK.leaf] at h
def PK.isOf : PK → Value → Bool
  | .non, .none => true
  | .bl b, .bool c => decide (b = c)
  | .str x, v => Value.isStrOf x v
  | _, _ => false
theorem PK.isLeaf : ∀ {k : PK} {v : Value}, PK.isOf k v = true → Leaf.isOf k.leaf v = true
  | .non, v, h => by cases v <;> first | rfl | exact absurd h Bool.false_ne_true
  | .bl b, v, h => by
    cases v with
    | bool c =>
      have e : b = c := of_decide_eq_true h
      subst e
      show decide _ = true
      cases b <;> rfl
    | _ => exact absurd h Bool.false_ne_true
  | .str x, v, h => h
/-- the kind of such keys -/
def pkKind (P : Program) (w : World) : KeyKind P w PK where
  is := PK.isOf
  hash := fun k => (leafKind P w).hash k.leaf
  inj := fun v a b ha hb => PK.leaf_inj ((leafKind P w).inj v _ _ (PK.isLeaf ha) (PK.isLeaf hb))
  byValue := fun k v h => (leafKind P w).byValue _ v (PK.isLeaf h)
  pyHash := fun hv h => (leafKind P w).pyHash (PK.isLeaf hv) h
  eqBool := fun {A E s a b u v Q} hu hv h => (leafKind P w).eqBool (PK.isLeaf hu) (PK.isLeaf hv) (by
    have e : decide (a.leaf = b.leaf) = decide (a = b) := by
      by_cases q : a = b
      · rw [q]
        simp
      · rw [decide_eq_false q, decide_eq_false fun z => q (PK.leaf_inj z)]
    rw [e]
    exact h)
  «strs» := fun k x t v h => by
    cases k with
    | non => exact absurd h Bool.false_ne_true
    | bl b => exact absurd h Bool.false_ne_true
    | str y => exact (leafKind P w).strs (.text y) x t v h
abbrev tk (P : Program) (w : World) : HeapKind P w (List PK) := tupleKind (pkKind P w)
abbrev Ent := List PK × Addr × Value
def RawP (P : Program) (w : World) (h : Heap) (a : Addr) (xs : List Ent) : Prop :=
  xs.length ≤ sizeLine ∧ (a == sysModules) = false ∧ (xs.map (·.1)).Nodup ∧ ∃ o es ep, h.get? a = some o ∧ o.ExactDict ∧ o.data = .dict es ep ∧ es.toList = xs.map (entryOfKey (tk P w))
/-- a dict of such keys: its entries, as they lie -/
abbrev dP (P : Program) (w : World) (a : Addr) (xs : List Ent) : HO := .ext fun h => RawP P w h a xs
def toPK : D → Option PK
  | .non => some .non
  | .bl b => some (.bl b)
  | .str s => some (.str s)
  | _ => none
def toPKs : List D → Option (List PK)
  | [] => some []
  | d :: l => match toPK d, toPKs l with
    | some k, some ks => some (k :: ks)
    | _, _ => none
theorem toPK_inj : ∀ {d e : D} {k : PK}, toPK d = some k → toPK e = some k → d = e := by
  intro d e k h h'
  cases d <;> simp [toPK] at h <;> subst h <;> cases e <;> simp [toPK] at h' <;> first | rfl | rw [h']
theorem toPKs_inj : ∀ {l m : List D} {k : List PK}, toPKs l = some k → toPKs m = some k → l = m
  | [], [], _, _, _ => rfl
  | [], e :: m, k, h, h' => by
    simp only [toPKs] at h h'
    cases h
    split at h' <;> simp at h'
  | d :: l, [], k, h, h' => by
    simp only [toPKs] at h h'
    cases h'
    split at h <;> simp at h
  | d :: l, e :: m, k, h, h' => by
    simp only [toPKs] at h h'
    split at h
    · rename_i a as h1 h2
      cases h
      split at h'
      · rename_i b bs h3 h4
        cases h'
        rw [toPK_inj h1 h3, toPKs_inj h2 h4]
      · cases h'
    · cases h
section
variable (K : PySem.W.Frag) (ρ : List Addr) (H : Hp)
inductive RelKs : List (D × D) → List (Key × V) → Prop
  | nil : RelKs [] []
  | cons {s : Str} {d : D} {v : V} {ds : List (D × D)} {vs : List (Key × V)} : sOk s = true → RelD K ρ H d v → RelKs ds vs → RelKs ((.str s, d) :: ds) ((.inr s, v) :: vs)
inductive RelPs : List (D × D) → List Ent → Prop
  | nil : RelPs [] []
  | cons {l : List D} {k : List PK} {b : Addr} {d : D} {v : V} {u : Value} {ds : List (D × D)} {xs : List Ent} : toPKs l = some k → RelD K ρ H (.tup l) (.ref b) → RelD K ρ H d v → RelV v u → RelPs ds xs → RelPs ((.tup l, d) :: ds) ((k, b, u) :: xs)
variable (P : Program) (w : World)
/-- a dict as it stands, unlocked -/
def DctU (a : Addr) (kvs : List (D × D)) (u : HO) : Prop := (∃ ks, u = .dK ks ∧ RelKs K ρ H kvs ks) ∨ ∃ xs, u = dP P w a xs ∧ RelPs K ρ H kvs xs ∧ kvs ≠ []
def RelF : Option D → Option V → Prop
  | some d, some v => RelD K ρ H d v
  | none, none => True
  | _, _ => False
inductive RelFs : List (Str × D) → List (Str × V) → Prop
  | nil : RelFs [] []
  | cons {f : Str} {d : D} {v : V} {ds : List (Str × D)} {vs : List (Str × V)} : fieldOk f = true → RelD K ρ H d v → RelFs ds vs → RelFs ((f, d) :: ds) ((f, v) :: vs)
variable (cn : Str → Addr)
def ObRel (a : Addr) : Ob → Prop
  | .lst l => ∃ xs, H a = some (.lst xs) ∧ RelDs K ρ H l xs
  | .rol l => ∃ xs o, H a = some (.frz o (.lst xs)) ∧ RelDs K ρ H l xs ∧ False
  | .dct false kvs => ∃ u, H a = some u ∧ DctU K ρ H P w a kvs u
  | .dct true kvs => ∃ u o, H a = some (.frz o u) ∧ DctU K ρ H P w a kvs u
  | .ins c fs => ∃ dx fs', H a = some (.ins (cn c) dx fs') ∧ RelFs K ρ H fs fs'
end
section
variable (u : U) (ρ : List Addr) (H : Hp)
structure Rep (g : G) : Prop where
  len : ρ.length = g.length
  nod : ρ.Nodup
  obs : ∀ (i : Nat) (o : Ob) (a : Addr), g[i]? = some o → ρ[i]? = some a → ObRel u.K ρ H u.P u.w u.cn a o
end
/-- what happens between two states: new objects are counted, what is not counted stays -/
structure Ev (ρ : List Addr) (H : Hp) (ρ' : List Addr) (H' : Hp) : Prop where
  pre : ∃ new, ρ' = ρ ++ new ∧ ∀ a ∈ new, H a = none
  liv : ∀ a, H' a = none → H a = none
  frm : ∀ a o, H a = some o → a ∉ ρ → H' a = some o
  frz : ∀ a o x, H a = some (.frz o x) → H' a = some (.frz o x)
section
variable {u : U} {ρ ρ' ρ'' : List Addr} {H H' H'' : Hp} {g g' : G}
theorem ndix {l : List Addr} (h : l.Nodup) {i j : Nat} {x : Addr} (a : l[i]? = some x) (b : l[j]? = some x) : i = j := by
  obtain ⟨_, e1⟩ := List.getElem?_eq_some_iff.mp a
  obtain ⟨_, e2⟩ := List.getElem?_eq_some_iff.mp b
  exact (List.getElem_inj h).mp (e1.trans e2.symm)
theorem Ev.refl : Ev ρ H ρ H := ⟨⟨[], by simp, fun a h => absurd h (by simp)⟩, fun _ h => h, fun _ _ h _ => h, fun _ _ _ h => h⟩
theorem Ev.trans (e : Ev ρ H ρ' H') (f : Ev ρ' H' ρ'' H'') : Ev ρ H ρ'' H'' := by
  obtain ⟨⟨n1, rfl, h1⟩, l1, k1, z1⟩ := e
  obtain ⟨⟨n2, rfl, h2⟩, l2, k2, z2⟩ := f
  refine ⟨⟨n1 ++ n2, by simp, fun a m => ?_⟩, fun a h => l1 a (l2 a h), fun a o h n => ?_, fun a o x h => z2 a o x (z1 a o x h)⟩
  · rcases List.mem_append.mp m with m | m
    · exact h1 a m
    · exact l1 a (h2 a m)
  · refine k2 a o (k1 a o h n) fun m => ?_
    rcases List.mem_append.mp m with m | m
    · exact n m
    · rw [h1 a m] at h
      cases h
theorem Ev.ix (e : Ev ρ H ρ' H') : ∀ (n : Nat) (a : Addr), ρ[n]? = some a → ρ'[n]? = some a := by
  obtain ⟨⟨n1, rfl, _⟩, _, _, _⟩ := e
  intro n a h
  rw [List.getElem?_append_left (List.getElem?_eq_some_iff.mp h).1]
  exact h
theorem Rep.there (r : Rep u ρ H g) {a : Addr} (m : a ∈ ρ) : ∃ (i : Nat) (o : Ob), g[i]? = some o ∧ ρ[i]? = some a ∧ ObRel u.K ρ H u.P u.w u.cn a o := by
  obtain ⟨i, hi, e⟩ := List.getElem_of_mem m
  have hg : i < g.length := by rw [← r.len]; exact hi
  have e1 : g[i]? = some g[i] := List.getElem?_eq_getElem hg
  have e2 : ρ[i]? = some a := by rw [List.getElem?_eq_getElem hi, e]
  exact ⟨i, _, e1, e2, r.obs i _ a e1 e2⟩
/-- a counted object is no tuple -/
theorem Rep.notup (r : Rep u ρ H g) {a : Addr} (m : a ∈ ρ) {xs : List V} : ¬ Rd H a (.tup xs) := by
  obtain ⟨i, o, _, _, q⟩ := r.there m
  cases o with
  | lst l =>
    obtain ⟨ys, e, _⟩ := q
    rintro (h | ⟨ob, h⟩) <;> rw [e] at h <;> cases h
  | rol l =>
    obtain ⟨ys, ob, e, _⟩ := q
    rintro (h | ⟨ob', h⟩) <;> rw [e] at h <;> cases h
  | dct k l =>
    cases k with
    | false =>
      obtain ⟨w, e, ⟨ks, rfl, _⟩ | ⟨ks, rfl, _⟩⟩ := q <;> rintro (h | ⟨ob', h⟩) <;> rw [e] at h <;> cases h
    | true =>
      obtain ⟨w, ob, e, ⟨ks, rfl, _⟩ | ⟨ks, rfl, _⟩⟩ := q <;> rintro (h | ⟨ob', h⟩) <;> rw [e] at h <;> cases h
  | ins c fs =>
    obtain ⟨dx, fs', e, _⟩ := q
    rintro (h | ⟨ob, h⟩) <;> rw [e] at h <;> cases h
theorem Ev.tup (e : Ev ρ H ρ' H') (r : Rep u ρ H g) {a : Addr} {xs : List V} (h : SqT u.K H a xs) : SqT u.K H' a xs := by
  rcases h with h | h
  · left
    have n : a ∉ ρ := fun m => r.notup m h
    rcases h with h | ⟨o, h⟩
    · exact .inl (e.frm _ _ h n)
    · exact .inr ⟨o, e.frm _ _ h n⟩
  · exact .inr h
theorem Rep.nofrz (r : Rep u ρ H g) {a : Addr} {ob : Obj} {xs : List V} (h : H a = some (.frz ob (.lst xs))) : a ∉ ρ := fun m => by
  obtain ⟨i, o, _, _, q⟩ := r.there m
  cases o with
  | lst l => obtain ⟨_, e, _⟩ := q; rw [h] at e; cases e
  | rol l => obtain ⟨_, _, _, _, z⟩ := q; exact z
  | dct k l =>
    cases k with
    | false => obtain ⟨_, e, ⟨_, rfl, _⟩ | ⟨_, rfl, _⟩⟩ := q <;> rw [h] at e <;> cases e
    | true => obtain ⟨_, _, e, ⟨_, rfl, _⟩ | ⟨_, rfl, _⟩⟩ := q <;> rw [h] at e <;> cases e
  | ins c fs => obtain ⟨_, _, e, _⟩ := q; rw [h] at e; cases e
theorem Ev.kl (e : Ev ρ H ρ' H') (r : Rep u ρ H g) {a : Addr} {xs : List V} (h : SqF u.K H a xs) : SqF u.K H' a xs := by
  rcases h with ⟨o, h⟩ | h
  · exact .inl ⟨o, e.frm _ _ h (r.nofrz h)⟩
  · exact .inr h
theorem Ev.rel (e : Ev ρ H ρ' H') (r : Rep u ρ H g) {d : D} {v : V} (h : RelD u.K ρ H d v) : RelD u.K ρ' H' d v := h.mono e.ix (fun _ _ q => e.tup r q) fun _ _ q => e.kl r q
theorem Ev.rels (e : Ev ρ H ρ' H') (r : Rep u ρ H g) {d : List D} {v : List V} (h : RelDs u.K ρ H d v) : RelDs u.K ρ' H' d v := h.mono e.ix (fun _ _ q => e.tup r q) fun _ _ q => e.kl r q
theorem RelKs.mono {K : PySem.W.Frag} (m : ∀ {d : D} {v : V}, RelD K ρ H d v → RelD K ρ' H' d v) : ∀ {ds : List (D × D)} {ks : List (Key × V)}, RelKs K ρ H ds ks → RelKs K ρ' H' ds ks
  | _, _, .nil => .nil
  | _, _, .cons k h t => .cons k (m h) (RelKs.mono m t)
theorem RelPs.mono {K : PySem.W.Frag} (m : ∀ {d : D} {v : V}, RelD K ρ H d v → RelD K ρ' H' d v) : ∀ {ds : List (D × D)} {ks : List Ent}, RelPs K ρ H ds ks → RelPs K ρ' H' ds ks
  | _, _, .nil => .nil
  | _, _, .cons h1 h2 h3 h4 t => .cons h1 (m h2) (m h3) h4 (RelPs.mono m t)
theorem DctU.mono (m : ∀ {d : D} {v : V}, RelD u.K ρ H d v → RelD u.K ρ' H' d v) {a : Addr} {kvs : List (D × D)} {o : HO} (h : DctU u.K ρ H u.P u.w a kvs o) : DctU u.K ρ' H' u.P u.w a kvs o := by
  rcases h with ⟨ks, e, r⟩ | ⟨ks, e, r⟩
  · exact .inl ⟨ks, e, r.mono m⟩
  · exact .inr ⟨ks, e, r.1.mono m, r.2⟩
theorem RelDs.monoB {K : PySem.W.Frag} (m : ∀ {d : D} {v : V}, RelD K ρ H d v → RelD K ρ' H' d v) : ∀ {ds : List D} {vs : List V}, RelDs K ρ H ds vs → RelDs K ρ' H' ds vs
  | _, _, .nil => .nil
  | _, _, .cons h t => .cons (m h) (t.monoB m)
theorem RelF.mono {K : PySem.W.Frag} (m : ∀ {d : D} {v : V}, RelD K ρ H d v → RelD K ρ' H' d v) {d : Option D} {v : Option V} (h : RelF K ρ H d v) : RelF K ρ' H' d v := by
  cases d <;> cases v <;> first | exact h | exact m h
theorem RelFs.mono {K : PySem.W.Frag} (m : ∀ {d : D} {v : V}, RelD K ρ H d v → RelD K ρ' H' d v) : ∀ {ds : List (Str × D)} {ks : List (Str × V)}, RelFs K ρ H ds ks → RelFs K ρ' H' ds ks
  | _, _, .nil => .nil
  | _, _, .cons k h t => .cons k (m h) (RelFs.mono m t)
theorem RelFs.length {K : PySem.W.Frag} : ∀ {ds : List (Str × D)} {ks : List (Str × V)}, RelFs K ρ H ds ks → ds.length = ks.length
  | _, _, .nil => rfl
  | _, _, .cons _ h t => by rw [List.length_cons, List.length_cons, t.length]
theorem RelFs.val {K : PySem.W.Frag} (g : Str) : ∀ {ds : List (Str × D)} {ks : List (Str × V)}, RelFs K ρ H ds ks → RelF K ρ H (ds.lookup g) (ks.lookup g)
  | _, _, .nil => True.intro
  | _, _, .cons (f := f) _ h t => by
    by_cases e : g = f
    · subst e
      simp only [List.lookup, beq_self_eq_true]
      exact h
    · have e' : (g == f) = false := by simpa using e
      simp only [List.lookup, e']
      exact t.val g
/-- an object that is as it was, seen from a later state -/
theorem ObRel.mono (m : ∀ {d : D} {v : V}, RelD u.K ρ H d v → RelD u.K ρ' H' d v) {a : Addr} (s : H' a = H a) {o : Ob} (h : ObRel u.K ρ H u.P u.w u.cn a o) : ObRel u.K ρ' H' u.P u.w u.cn a o := by
  cases o with
  | lst l => obtain ⟨xs, e, q⟩ := h; exact ⟨xs, s.trans e, q.monoB m⟩
  | rol l => obtain ⟨xs, o, e, q⟩ := h; exact q.2.elim
  | dct k l =>
    cases k with
    | false => obtain ⟨u, e, q⟩ := h; exact ⟨u, s.trans e, q.mono m⟩
    | true => obtain ⟨u, o, e, q⟩ := h; exact ⟨u, o, s.trans e, q.mono m⟩
  | ins c fs => obtain ⟨dx, fs', e, q⟩ := h; exact ⟨dx, fs', s.trans e, q.mono m⟩
theorem Rep.addr (r : Rep u ρ H g) {n : Nat} {o : Ob} (e : g[n]? = some o) : ∃ a, ρ[n]? = some a ∧ ObRel u.K ρ H u.P u.w u.cn a o := by
  have hn : n < ρ.length := by rw [r.len]; exact (List.getElem?_eq_some_iff.mp e).1
  have e2 := List.getElem?_eq_getElem hn
  exact ⟨ρ[n], e2, r.obs n o _ e e2⟩
theorem Rep.tracked (r : Rep u ρ H g) {a : Addr} (m : a ∈ ρ) : ∃ o, H a = some o := by
  obtain ⟨i, o, _, _, q⟩ := r.there m
  cases o with
  | lst l => exact ⟨_, q.choose_spec.1⟩
  | rol l => obtain ⟨_, _, e, _⟩ := q; exact ⟨_, e⟩
  | dct k l =>
    cases k with
    | false => obtain ⟨_, e, _⟩ := q; exact ⟨_, e⟩
    | true => obtain ⟨_, _, e, _⟩ := q; exact ⟨_, e⟩
  | ins c fs => obtain ⟨_, _, e, _⟩ := q; exact ⟨_, e⟩
/-- a new object that is not counted -/
theorem Ev.new (r : Rep u ρ H g) {p : Addr} {o : HO} (h : H p = none) : Ev ρ H ρ (upd H p o) ∧ Rep u ρ (upd H p o) g := by
  have e : Ev ρ H ρ (upd H p o) := by
    refine ⟨⟨[], by simp, fun a h => absurd h (by simp)⟩, fun a z => ?_, fun a u z _ => ?_, fun a u x z => ?_⟩
    · by_cases q : a = p
      · subst q; exact h
      · rwa [upd_ne q] at z
    · rw [upd_ne (ne_of_none z h)]; exact z
    · rw [upd_ne (ne_of_none z h)]; exact z
  refine ⟨e, r.len, r.nod, fun i u a e1 e2 => ?_⟩
  have m : a ∈ ρ := List.mem_of_getElem? e2
  obtain ⟨w, hw⟩ := r.tracked m
  exact (r.obs i u a e1 e2).mono (e.rel r) (by rw [upd_ne (ne_of_none hw h)])
/-- a new object that is counted -/
theorem Ev.cnt (r : Rep u ρ H g) {p : Addr} {o : HO} {ob : Ob} (h : H p = none) (q : ∀ {ρ' : List Addr} {H' : Hp}, Ev ρ H ρ' H' → H' p = some o → ObRel u.K ρ' H' u.P u.w u.cn p ob) :
    Ev ρ H (ρ ++ [p]) (upd H p o) ∧ Rep u (ρ ++ [p]) (upd H p o) (g ++ [ob]) ∧ (ρ ++ [p])[g.length]? = some p := by
  have np : p ∉ ρ := fun m => by
    obtain ⟨w, hw⟩ := r.tracked m
    rw [h] at hw; cases hw
  have e : Ev ρ H (ρ ++ [p]) (upd H p o) := by
    refine ⟨⟨[p], rfl, fun a m => ?_⟩, fun a z => ?_, fun a u z _ => ?_, fun a u x z => ?_⟩
    · rw [List.mem_singleton.mp m]; exact h
    · by_cases q : a = p
      · subst q; exact h
      · rwa [upd_ne q] at z
    · rw [upd_ne (ne_of_none z h)]; exact z
    · rw [upd_ne (ne_of_none z h)]; exact z
  refine ⟨e, ⟨by simp [r.len], ?_, fun i u a e1 e2 => ?_⟩, ?_⟩
  · refine List.nodup_append.mpr ⟨r.nod, by simp, fun a ha b hb => ?_⟩
    rw [List.mem_singleton.mp hb]
    exact fun z => np (z ▸ ha)
  · by_cases hi : i < g.length
    · rw [List.getElem?_append_left hi] at e1
      rw [List.getElem?_append_left (by rw [r.len]; exact hi)] at e2
      have m : a ∈ ρ := List.mem_of_getElem? e2
      obtain ⟨w, hw⟩ := r.tracked m
      exact (r.obs i u a e1 e2).mono (e.rel r) (by rw [upd_ne (ne_of_none hw h)])
    · rw [List.getElem?_append_right (by omega)] at e1
      rw [List.getElem?_append_right (by rw [r.len]; omega)] at e2
      have h0 : i - g.length = 0 := by
        have := (List.getElem?_eq_some_iff.mp e1).1
        simpa using this
      rw [h0] at e1
      rw [r.len, h0] at e2
      cases e1
      cases e2
      exact q e upd_same
  · rw [List.getElem?_append_right (by rw [r.len]; omega), r.len, Nat.sub_self]
    rfl
/-- a counted object is written -/
theorem Ev.wr (r : Rep u ρ H g) {n : Nat} {p : Addr} {o : HO} {ob : Ob} (hp : ρ[n]? = some p) (hn : n < g.length) (nf : ∀ o x, H p ≠ some (.frz o x)) (q : ∀ {ρ' : List Addr} {H' : Hp}, Ev ρ H ρ' H' → H' p = some o → ObRel u.K ρ' H' u.P u.w u.cn p ob) :
    Ev ρ H ρ (upd H p o) ∧ Rep u ρ (upd H p o) (g.set n ob) := by
  have m : p ∈ ρ := List.mem_of_getElem? hp
  have e : Ev ρ H ρ (upd H p o) := by
    refine ⟨⟨[], by simp, fun a h => absurd h (by simp)⟩, fun a z => ?_, fun a u z nz => ?_, fun a u x z => ?_⟩
    · by_cases q : a = p
      · subst q; rw [upd_same] at z; cases z
      · rwa [upd_ne q] at z
    · rw [upd_ne (fun (q : a = p) => nz (by rw [q]; exact m))]; exact z
    · rw [upd_ne (fun (q : a = p) => nf u x (by rw [← q]; exact z))]; exact z
  refine ⟨e, ⟨by simp [r.len], r.nod, fun i u a e1 e2 => ?_⟩⟩
  by_cases hi : i = n
  · subst hi
    rw [hp] at e2
    cases e2
    rw [List.getElem?_set_self hn] at e1
    cases e1
    exact q e upd_same
  · rw [List.getElem?_set_ne (Ne.symm hi)] at e1
    have na : a ≠ p := fun z => by
      subst z
      exact hi (ndix r.nod e2 hp)
    exact (r.obs i u a e1 e2).mono (e.rel r) (by rw [upd_ne na])
end
def Sl (K : PySem.W.Frag) (ρ : List Addr) (H : Hp) (τ : T) (σ : St) : Prop := ∀ (i : Nat) (d : D), τ[i]? = some (some d) → ∃ v, σ[i]? = some (some v) ∧ RelD K ρ H d v
structure Stt (u : U) (ρ : List Addr) (τ : T) (g : G) (σ : St) (H : Hp) : Prop where
  len : τ.length = σ.length
  sl : Sl u.K ρ H τ σ
  rep : Rep u ρ H g
end RL
namespace RL
open PySem L2
/-- how an error of the program lies -/
def XRel (U₀ : U) (ρ : List Addr) (H : Hp) (e : Exc) (cls : Value) (d : Option Addr) : Prop :=
  cls = .ref (U₀.cn e.cls) ∧ ∃ dx fs, d = some dx ∧ H dx = some (.xd fs) ∧ ∀ f, RelF U₀.K ρ H (e.fs.lookup f) (fs.lookup f)
abbrev RelT (α β : Type) := List Addr → Hp → α → β → Prop
section
variable {U₀ : U} {W : WX} {α β γ δ : Type}
/-- what is wanted behind a computation that began at ρ, H -/
def Post (U₀ : U) (Rl : RelT α β) (W : WX) (σ : St) (ρ : List Addr) (H : Hp) (r : Res α) (Q : β → Hp → Prop) : Prop := match r with
  | .ok a g => ∀ ρ' v H', Ev ρ H ρ' H' → Rep U₀ ρ' H' g → Rl ρ' H' a v → Q v H'
  | .exc e g => ∀ ρ' H' cls d, Ev ρ H ρ' H' → Rep U₀ ρ' H' g → XRel U₀ ρ' H' e cls d → W cls d σ H'
  | .bad => False
variable {Rl : RelT α β} {Rk : RelT γ δ} {σ : St} {ρ ρ' : List Addr} {H H' : Hp}
theorem Post.later {r : Res α} {Q : β → Hp → Prop} (p : Post U₀ Rl W σ ρ H r Q) (e : Ev ρ H ρ' H') : Post U₀ Rl W σ ρ' H' r Q := by
  cases r with
  | ok a g => exact fun ρ2 v H2 e2 r2 q => p ρ2 v H2 (e.trans e2) r2 q
  | exc x g => exact fun ρ2 H2 cls d e2 r2 q => p ρ2 H2 cls d (e.trans e2) r2 q
  | bad => exact p
theorem Post.thn {r : Res α} {k : α → M γ} {Q : δ → Hp → Prop} {Q0 : β → Hp → Prop} (p : Post U₀ Rk W σ ρ H (r.bind k) Q)
    (h : ∀ (ρ1 : List Addr) (v : β) (H1 : Hp) (a : α) (g1 : G), Ev ρ H ρ1 H1 → Rep U₀ ρ1 H1 g1 → Rl ρ1 H1 a v → Post U₀ Rk W σ ρ1 H1 (k a g1) Q → Q0 v H1) : Post U₀ Rl W σ ρ H r Q0 := by
  cases r with
  | ok a g => exact fun ρ1 v H1 e1 r1 q => h ρ1 v H1 a g e1 r1 q (Post.later p e1)
  | exc x g => exact p
  | bad => exact p
theorem Post.imp {r : Res α} {Q Q0 : β → Hp → Prop} (p : Post U₀ Rl W σ ρ H r Q) (h : ∀ v H, Q v H → Q0 v H) : Post U₀ Rl W σ ρ H r Q0 := by
  cases r with
  | ok a g => exact fun ρ1 v H1 e1 r1 q => h _ _ (p ρ1 v H1 e1 r1 q)
  | exc x g => exact p
  | bad => exact p
/-- nothing happened -/
theorem Post.at {a : α} {g : G} {Q : β → Hp → Prop} {v : β} (p : Post U₀ Rl W σ ρ H (.ok a g) Q) (r : Rep U₀ ρ H g) (q : Rl ρ H a v) : Q v H := p ρ v H Ev.refl r q
theorem Stt.later {τ : T} {g g' : G} (s : Stt U₀ ρ τ g σ H) (e : Ev ρ H ρ' H') (r : Rep U₀ ρ' H' g') : Stt U₀ ρ' τ g' σ H' :=
  ⟨s.len, fun i d h => let ⟨v, h1, h2⟩ := s.sl i d h; ⟨v, h1, e.rel s.rep h2⟩, r⟩
theorem Stt.set {τ : T} {g : G} {i : Nat} {d : D} {v : V} (s : Stt U₀ ρ τ g σ H) (r : RelD U₀.K ρ H d v) : Stt U₀ ρ (τ.set i (some d)) g (σ.set i (some v)) H := by
  refine ⟨by simp [s.len], fun j d' h => ?_, s.rep⟩
  by_cases hj : i = j
  · subst hj
    have hi : i < τ.length := by
      have := (List.getElem?_eq_some_iff.mp h).1
      simpa using this
    rw [List.getElem?_set_self hi] at h
    cases h
    exact ⟨v, List.getElem?_set_self (by rw [← s.len]; exact hi), r⟩
  · rw [List.getElem?_set_ne hj] at h ⊢
    exact s.sl j d' h
theorem Stt.none {τ : T} {g : G} {i : Nat} (s : Stt U₀ ρ τ g σ H) : Stt U₀ ρ (τ.set i none) g (σ.set i none) H := by
  refine ⟨by simp [s.len], fun j d' h => ?_, s.rep⟩
  by_cases hj : i = j
  · subst hj
    have hi : i < τ.length := by
      have := (List.getElem?_eq_some_iff.mp h).1
      simpa using this
    rw [List.getElem?_set_self hi] at h
    cases h
  · rw [List.getElem?_set_ne hj] at h ⊢
    exact s.sl j d' h
def rD (U₀ : U) : RelT D V := RelD U₀.K
def rDs (U₀ : U) : RelT (List D) (List V) := RelDs U₀.K
def rB : RelT Bool Bool := fun _ _ a b => a = b
def tE (U₀ : U) (W : WX) (m : ME) : TE := fun σ H Q => ∃ ρ τ g, Stt U₀ ρ τ g σ H ∧ Post U₀ (rD U₀) W σ ρ H (m τ g) Q
def tA (U₀ : U) (W : WX) (m : MA) : TA := fun σ H Q => ∃ ρ τ g, Stt U₀ ρ τ g σ H ∧ Post U₀ (rDs U₀) W σ ρ H (m τ g) Q
def tT (U₀ : U) (W : WX) (m : MT) : TT := fun σ H Q => ∃ ρ τ g, Stt U₀ ρ τ g σ H ∧ Post U₀ rB W σ ρ H (m τ g) Q
end
/-- what a context has in common with all others -/
abbrev ux (X : Cx) (cn : Str → Addr) : U := ⟨X.K, cn, X.prog, X.w⟩
def RE (X : Cx) (cn : Str → Addr) (W : WX) (e : Expr) (m : ME) : Prop := PE X e (tE (ux X cn) W m)
def RA (X : Cx) (cn : Str → Addr) (W : WX) (es : List Expr) (m : MA) : Prop := PA X es (tA (ux X cn) W m)
def RT (X : Cx) (cn : Str → Addr) (W : WX) (e : Expr) (m : MT) : Prop := PT X e (tT (ux X cn) W m)
def RW (X : Cx) (cn : Str → Addr) (W : WX) (e : Expr) (m : MT) : Prop := PW X e (tT (ux X cn) W m)
theorem peI {X : Cx} {e : Expr} {t t' : TE} (h : PE X e t) (i : ∀ σ H Q, t' σ H Q → t σ H Q) : PE X e t' := ⟨fun pins s σ H Q I q => h.run pins s σ H Q I (i σ H Q q)⟩
theorem paI {X : Cx} {e : List Expr} {t t' : TA} (h : PA X e t) (i : ∀ σ H Q, t' σ H Q → t σ H Q) : PA X e t' := ⟨fun pos pins s σ H Q I q => h.run pos pins s σ H Q I (i σ H Q q)⟩
theorem ptI {X : Cx} {e : Expr} {t t' : TT} (h : PT X e t) (i : ∀ σ H Q, t' σ H Q → t σ H Q) : PT X e t' := ⟨fun pins s σ H Q I q => h.run pins s σ H Q I (i σ H Q q)⟩
theorem pwI {X : Cx} {e : Expr} {t t' : TT} (h : PW X e t) (i : ∀ σ H Q, t' σ H Q → t σ H Q) : PW X e t' := ⟨fun whole pins s σ H Q I q => h.run whole pins s σ H Q I (i σ H Q q)⟩
theorem psI {X : Cx} {e : Stmt} {t t' : TS} (h : PS X e t) (i : ∀ Dn σ H, t' Dn σ H → t Dn σ H) : PS X e t' := ⟨fun pins s σ H Q I q => h.run pins s σ H Q I (i Q σ H q)⟩
theorem pssI {X : Cx} {e : List Stmt} {t t' : TS} (h : PSs X e t) (i : ∀ Dn σ H, t' Dn σ H → t Dn σ H) : PSs X e t' := ⟨fun pins s σ H Q I q => h.run pins s σ H Q I (i Q σ H q)⟩
/-- a value that is known -/
def mC (d : D) : ME := fun _ g => .ok d g
def mV (i : Nat) : ME := fun τ g => match τ[i]? with
  | some (some d) => .ok d g
  | _ => .bad
def mNil : MA := fun _ g => .ok [] g
def mCons (a : ME) (r : MA) : MA := fun τ g => (a τ g).bind fun d g1 => (r τ g1).bind fun ds g2 => .ok (d :: ds) g2
/-- an operator on two values -/
def mOp (f : D → D → M D) (a b : ME) : ME := fun τ g => (a τ g).bind fun x g1 => (b τ g1).bind fun y g2 => f x y g2
def mUn (f : D → M D) (a : ME) : ME := fun τ g => (a τ g).bind f
def mUnA (f : List D → M D) (a : MA) : ME := fun τ g => (a τ g).bind f
section
variable {X : Cx} {cn : Str → Addr} {W : WX} {pos : Pos} {a b e : Expr} {es : List Expr} {ma mb : ME} {ml : MA}
theorem re_int {i j} : RE X cn W (.Constant (.int i) j pos) (mC (.int i)) := peI pe_int fun σ H Q ⟨ρ, τ, g, s, p⟩ => p.at s.rep (.int i)
theorem re_bl {i j} : RE X cn W (.Constant (.bool i) j pos) (mC (.bl i)) := peI pe_bl fun σ H Q ⟨ρ, τ, g, s, p⟩ => p.at s.rep (.bl i)
theorem re_non {j} : RE X cn W (.Constant .none j pos) (mC .non) := peI pe_non fun σ H Q ⟨ρ, τ, g, s, p⟩ => p.at s.rep .non
theorem re_str {i j} (h : sOk i = true := by decide +kernel) : RE X cn W (.Constant (.str i) j pos) (mC (.str i)) := peI pe_str fun σ H Q ⟨ρ, τ, g, s, p⟩ => p.at s.rep (.str h)
theorem rv (i : Nat) {x : Str} (hN : X.N[i]? = some x := by rfl) (hv : Vis X.env.scope x := by first | exact Or.inl rfl | exact Or.inr (Or.inl rfl) | exact Or.inr (Or.inr rfl)) (hd : (x == ("__debug__" : Str)) = false := by decide)
    (hcd : (x == ("__classdict__" : Str)) = false := by decide) : RE X cn W (.Name x pos) (mV i) := by
  refine peI (pe_var hN hv hd hcd) fun σ H Q ⟨ρ, τ, g, s, p⟩ => ?_
  unfold mV at p
  split at p
  · rename_i d hd
    obtain ⟨v, h1, h2⟩ := s.sl i d hd
    exact ⟨v, h1, p.at s.rep h2⟩
  · exact p.elim
/-- a constant of a module -/
theorem re_glob {x : Str} {d : D} {v : V} {u : Value} (hg : Gl X x) (hm : X.mg x = some u) (r : RelV v u) (q : ∀ ρ H, RelD X.K ρ H d v) (hd : (x == ("__debug__" : Str)) = false := by decide) : RE X cn W (.Name x pos) (mC d) :=
  peI (pe_glob hg hm r hd) fun σ H Q ⟨ρ, τ, g, s, p⟩ => p.at s.rep (q ρ H)
theorem ra_nil : RA X cn W [] mNil := paI pa_nil fun σ H Q ⟨ρ, τ, g, s, p⟩ => p.at s.rep .nil
theorem ra_cons (ha : RE X cn W e ma) (hr : RA X cn W es ml) (hs : starEach (e :: es) X.env = (false, eval e X.env) :: starEach es X.env := by rfl) : RA X cn W (e :: es) (mCons ma ml) := by
  refine paI (pa_cons ha hr hs) fun σ H Q ⟨ρ, τ, g, s, p⟩ => ?_
  refine ⟨ρ, τ, g, s, p.thn fun ρ1 v H1 d g1 e1 r1 q1 p1 => ?_⟩
  refine ⟨ρ1, τ, g1, s.later e1 r1, p1.thn fun ρ2 vs H2 ds g2 e2 r2 q2 p2 => ?_⟩
  exact p2.at r2 (.cons (e2.rel r1 q1) q2)
/-- a binary operator of the run follows f -/
def S2 (U₀ : U) (r : R2) (f : D → D → M D) : Prop := ∀ (W : WX) (σ : St) (ρ : List Addr) (H : Hp) (g : G) (x y : D) (v u : V) (Q : VK),
  Rep U₀ ρ H g → RelD U₀.K ρ H x v → RelD U₀.K ρ H y u → Post U₀ (rD U₀) W σ ρ H (f x y g) Q → r v u H Q
theorem two_e {r : R2} {f : D → D → M D} (s : S2 (ux X cn) r f) : ∀ σ H Q, tE (ux X cn) W (mOp f ma mb) σ H Q → tOp r (tE (ux X cn) W ma) (tE (ux X cn) W mb) σ H Q := by
  rintro σ H Q ⟨ρ, τ, g, st, p⟩
  refine ⟨ρ, τ, g, st, p.thn fun ρ1 v H1 d g1 e1 r1 q1 p1 => ?_⟩
  refine ⟨ρ1, τ, g1, st.later e1 r1, p1.thn fun ρ2 u H2 d2 g2 e2 r2 q2 p2 => ?_⟩
  exact s W σ ρ2 H2 g2 d d2 v u Q r2 (e2.rel r1 q1) q2 p2
theorem re_op {op : Operator} {r : R2} {f : D → D → M D} (ho : OpR X (binaryOp op) r) (s : S2 (ux X cn) r f) (ha : RE X cn W a ma) (hb : RE X cn W b mb) : RE X cn W (.BinOp a op b pos) (mOp f ma mb) :=
  peI (pe_op ho ha hb) (two_e s)
theorem re_cmp {op : CmpOp} {r : R2} {f : D → D → M D} (ho : OpR X (compareOp op) r) (s : S2 (ux X cn) r f) (ha : RE X cn W a ma) (hb : RE X cn W b mb) (hm : behindInMarks op b = false) : RE X cn W (.Compare a [op] [b] pos) (mOp f ma mb) :=
  peI (pe_cmpR ho ha hb hm) (two_e s)
/-- a built-in function or type, called -/
def SA (U₀ : U) (r : List V → Hp → VK → Prop) (f : List D → M D) : Prop := ∀ (W : WX) (σ : St) (ρ : List Addr) (H : Hp) (g : G) (x : List D) (v : List V) (Q : VK),
  Rep U₀ ρ H g → RelDs U₀.K ρ H x v → Post U₀ (rD U₀) W σ ρ H (f x g) Q → r v H Q
theorem call_e {r : List V → Hp → VK → Prop} {f : List D → M D} (s : SA (ux X cn) r f) : ∀ σ H Q, tE (ux X cn) W (mUnA f ml) σ H Q → tCB r (tA (ux X cn) W ml) σ H Q := by
  rintro σ H Q ⟨ρ, τ, g, st, p⟩
  refine ⟨ρ, τ, g, st, p.thn fun ρ1 v H1 d g1 e1 r1 q1 p1 => ?_⟩
  exact s W σ ρ1 H1 g1 d v Q r1 q1 p1
theorem re_callB {id x : Str} {i : String} {r : List V → Hp → VK → Prop} {f : List D → M D} {p : Pos} (hc : CallR X (.builtin i) r) (s : SA (ux X cn) r f) (hg : Gl X x) (hm : X.mg x = none) (hv : bootBuiltins x = some (.builtin i)) (ha : RA X cn W (e :: es) ml) (hn : x ≠ "__name__" := by decide) (hdb : (x == ("__debug__" : Str)) = false := by decide)
    (he : starEach (e :: es) X.env = (false, eval e X.env) :: starEach es X.env := by rfl) (hpl : (backTo pos (starEach es X.env)).any (·.1) = false := by rfl) : RE X cn W (.Call (.Name x p) (e :: es) [] pos) (mUnA f ml) :=
  peI (pe_callB hc hg hm hv ha hn hdb he hpl) (call_e s)
theorem re_callTy {id x : Str} {i : String} {r : List V → Hp → VK → Prop} {f : List D → M D} {p : Pos} (hc : CallR X (.type i) r) (s : SA (ux X cn) r f) (hg : Gl X x) (hm : X.mg x = none) (hv : bootBuiltins x = some (.type i)) (ha : RA X cn W (e :: es) ml) (hn : x ≠ "__name__" := by decide) (hdb : (x == ("__debug__" : Str)) = false := by decide)
    (he : starEach (e :: es) X.env = (false, eval e X.env) :: starEach es X.env := by rfl) (hpl : (backTo pos (starEach es X.env)).any (·.1) = false := by rfl) : RE X cn W (.Call (.Name x p) (e :: es) [] pos) (mUnA f ml) :=
  peI (pe_callTy hc hg hm hv ha hn hdb he hpl) (call_e s)
end
end RL
namespace RL
open PySem L2
def ck (c : Prop) [Decidable c] {α : Type} (r : Res α) : Res α := if c then r else .bad
@[simp] theorem ck_pos {c : Prop} [Decidable c] (h : c) {α : Type} (r : Res α) : ck c r = r := if_pos h
def dget : List (D × D) → D → Option D
  | [], _ => none
  | (k, v) :: r, x => if k = x then some v else dget r x
def dput : List (D × D) → D → D → List (D × D)
  | [], k, v => [(k, v)]
  | (k', v') :: r, k, v => if k' = k then (k, v) :: r else (k', v') :: dput r k v
/-- a flat value -/
def D.flat : D → Bool
  | .non | .bl _ | .int _ | .str _ => true
  | _ => false
section
variable {U₀ : U}
/-- an answer that leaves all as it is -/
theorem Post.same {W : WX} {σ : St} {ρ : List Addr} {H : Hp} {g : G} {d : D} {v : V} {Q : VK} (p : Post U₀ (rD U₀) W σ ρ H (.ok d g) Q) (r : Rep U₀ ρ H g) (q : RelD U₀.K ρ H d v) : Q v H := p.at r q
theorem Post.ck {α β : Type} {Rl : RelT α β} {W : WX} {σ : St} {ρ : List Addr} {H : Hp} {c : Prop} [Decidable c] {r : Res α} {Q : β → Hp → Prop} (p : Post U₀ Rl W σ ρ H (RL.ck c r) Q) : c ∧ Post U₀ Rl W σ ρ H r Q := by
  unfold RL.ck at p
  by_cases h : c
  · rw [if_pos h] at p
    exact ⟨h, p⟩
  · rw [if_neg h] at p
    exact p.elim
def fII (C : Int → Int → Prop) [∀ i j, Decidable (C i j)] (f : Int → Int → D) : D → D → M D := fun x y g => match x, y with
  | .int i, .int j => ck (C i j) (.ok (f i j) g)
  | _, _ => .bad
theorem s2_ii {C C' : Int → Int → Prop} [∀ i j, Decidable (C i j)] {f : Int → Int → D} {f' : Int → Int → V} (hc : ∀ i j, C i j → C' i j) (hf : ∀ i j ρ H, RelD U₀.K ρ H (f i j) (f' i j)) : S2 U₀ (rI C' f') (fII C f) := by
  intro W σ ρ H g x y v u Q r qx qy p
  cases qx <;> first | exact p.elim | skip
  cases qy <;> first | exact p.elim | skip
  rename_i i j
  obtain ⟨h, p⟩ := Post.ck p
  exact ⟨i, j, rfl, rfl, hc i j h, p.at r (hf i j ρ H)⟩
theorem s2_ii0 {f : Int → Int → D} {f' : Int → Int → V} (hf : ∀ i j ρ H, RelD U₀.K ρ H (f i j) (f' i j)) : S2 U₀ (rI0 f') (fII (fun _ _ => True) f) := by
  intro W σ ρ H g x y v u Q r qx qy p
  cases qx <;> first | exact p.elim | skip
  cases qy <;> first | exact p.elim | skip
  rename_i i j
  obtain ⟨h, p⟩ := Post.ck p
  exact ⟨i, j, rfl, rfl, p.at r (hf i j ρ H)⟩
abbrev fSub := fII (fun _ _ => True) fun i j => .int (i - j)
abbrev fMul := fII (fun i j => (-(2 ^ 64) < i ∧ i < 2 ^ 64) ∨ (-(2 ^ 64) < j ∧ j < 2 ^ 64)) fun i j => .int (i * j)
abbrev fMod := fII (fun _ j => 0 < j) fun i j => .int (i % j)
abbrev fDiv := fII (fun _ j => 0 < j ∧ j < 1073741824) fun i j => .int (i / j)
abbrev fPow := fII (fun i j => 0 ≤ j ∧ j ≤ 1000000 ∧ i.natAbs < 2 ^ 64) fun i j => .int (i ^ j.toNat)
abbrev fLt := fII (fun _ _ => True) fun i j => .bl (decide (i < j))
abbrev fGt := fII (fun _ _ => True) fun i j => .bl (decide (j < i))
abbrev fGe := fII (fun _ _ => True) fun i j => .bl (decide (j ≤ i))
theorem s_sub : S2 U₀ (rI0 fun i j => .int (i - j)) fSub := s2_ii0 fun i j ρ H => .int _
theorem s_mul : S2 U₀ (rI CMul fun i j => .int (i * j)) fMul := s2_ii (fun i j h => h) fun i j ρ H => .int _
theorem s_mod : S2 U₀ (rI (fun _ j => 0 < j) fun i j => .int (i % j)) fMod := s2_ii (fun i j h => h) fun i j ρ H => .int _
theorem s_div : S2 U₀ (rI CDiv fun i j => .int (i / j)) fDiv := s2_ii (fun i j h => h) fun i j ρ H => .int _
theorem s_pow : S2 U₀ (rI CPow fun i j => .int (i ^ j.toNat)) fPow := s2_ii (fun i j h => h) fun i j ρ H => .int _
theorem s_lt : S2 U₀ (rI0 fun i j => .bl (decide (i < j))) fLt := s2_ii0 fun i j ρ H => .bl _
theorem s_gt : S2 U₀ (rI0 fun i j => .bl (decide (j < i))) fGt := s2_ii0 fun i j ρ H => .bl _
theorem s_ge : S2 U₀ (rI0 fun i j => .bl (decide (j ≤ i))) fGe := s2_ii0 fun i j ρ H => .bl _
end
/-- plain to the ground, at most n deep -/
def gr : Nat → D → Bool
  | 0, _ => false
  | _ + 1, .ref _ => false
  | _ + 1, .kl _ => false
  | _ + 1, .plst _ => false
  | _ + 1, .pdct _ => false
  | _ + 1, .pobj _ _ => false
  | n + 1, .tup l => l.all (gr n)
  | _ + 1, _ => true
mutual
/-- where two values differ, it is no True beside a 1 -/
def cm : D → D → Bool
  | .bl _, .int _ => false
  | .int _, .bl _ => false
  | .tup l, .tup l' => cms l l'
  | _, _ => true
def cms : List D → List D → Bool
  | x :: xs, y :: ys => cm x y && cms xs ys
  | _, _ => true
end
mutual
def pd : D → PyData
  | .non => .none
  | .bl b => .bool b
  | .int i => .int i
  | .str s => .str s
  | .tup l => .tuple (pds l)
  | .ref _ => .none
  | .kl _ => .none
  | .plst _ => .none
  | .pdct _ => .none
  | .pobj _ _ => .none
def pds : List D → List PyData
  | [] => []
  | d :: l => pd d :: pds l
end
section
variable {U₀ : U} {ρ : List Addr} {H : Hp}
mutual
theorem dp_of : ∀ (n : Nat) {d : D} {v : V}, RelD U₀.K ρ H d v → gr n d = true → Dp U₀.K H v (pd d)
  | 0, _, _, _, g => by simp [gr] at g
  | n + 1, _, _, .non, g => .non
  | n + 1, _, _, .bl b, g => .bl b
  | n + 1, _, _, .int b, g => .int b
  | n + 1, _, _, .str h, g => .str _
  | n + 1, _, _, .tup h t, g => by
    rw [gr] at g
    exact .tup h (dps_of n t g)
  | n + 1, _, _, .kl h t, g => by simp [gr] at g
  | n + 1, _, _, .ref h, g => by simp [gr] at g
theorem dps_of : ∀ (n : Nat) {d : List D} {v : List V}, RelDs U₀.K ρ H d v → d.all (gr n) = true → DpAll U₀.K H v (pds d)
  | n, _, _, .nil, _ => .nil
  | n, _, _, .cons h t, g => by
    rw [List.all_cons, Bool.and_eq_true] at g
    exact .cons (dp_of n h g.1) (dps_of n t g.2)
end
mutual
theorem lay_of : ∀ {d : D} {v : V}, RelD U₀.K ρ H d v → (pd d).canLay0 = true
  | _, _, .non => by simp [pd, PyData.canLay0]
  | _, _, .bl b => by simp [pd, PyData.canLay0]
  | _, _, .int b => by simp [pd, PyData.canLay0]
  | _, _, .str h => by
    unfold sOk at h
    rw [Bool.and_eq_true] at h
    simp [pd, PyData.canLay0, h.1]
  | _, _, .tup h t => by
    simp only [pd, PyData.canLay0]
    exact lays_of t
  | _, _, .kl h t => by simp [pd, PyData.canLay0]
  | _, _, .ref h => by simp [pd, PyData.canLay0]
theorem lays_of : ∀ {d : List D} {v : List V}, RelDs U₀.K ρ H d v → PyData.canLayAll0 (pds d) = true
  | _, _, .nil => by simp [pds, PyData.canLayAll0]
  | _, _, .cons h t => by simp [pds, PyData.canLayAll0, lay_of h, lays_of t]
end
mutual
theorem dep_of : ∀ (n : Nat) (d : D), gr n d = true → (pd d).depth ≤ n
  | 0, _, g => by simp [gr] at g
  | n + 1, .non, g => by simp [pd, PyData.depth]
  | n + 1, .bl b, g => by simp [pd, PyData.depth]
  | n + 1, .int b, g => by simp [pd, PyData.depth]
  | n + 1, .str h, g => by simp [pd, PyData.depth]
  | n + 1, .tup l, g => by
    rw [gr] at g
    have := deps_of n l g
    simp only [pd, PyData.depth]
    omega
  | n + 1, .kl h, g => by simp [gr] at g
  | n + 1, .ref h, g => by simp [gr] at g
theorem deps_of : ∀ (n : Nat) (l : List D), l.all (gr n) = true → PyData.depthAll (pds l) ≤ n
  | n, [], _ => by simp [pds, PyData.depthAll]
  | n, d :: l, g => by
    rw [List.all_cons, Bool.and_eq_true] at g
    have h1 := dep_of n d g.1
    have h2 := deps_of n l g.2
    simp only [pds, PyData.depthAll]
    omega
end
theorem shp_of {d : D} {v : V} (r : RelD U₀.K ρ H d v) (g : gr 20 d = true) : SeqAt.shaped (pd d) = true := by
  have h := dep_of 20 d g
  show ((pd d).canLay0 && decide ((pd d).depth ≤ 64)) = true
  rw [lay_of r, decide_eq_true (by omega)]
  rfl
theorem shps_of {d : List D} {v : List V} (r : RelDs U₀.K ρ H d v) (g : d.all (gr 20) = true) : SeqAt.shaped (.list (pds d)) = true ∧ SeqAt.shaped (.tuple (pds d)) = true := by
  have h := deps_of 20 d g
  have h2 := lays_of r
  constructor
  · show ((PyData.list (pds d)).canLay0 && decide ((PyData.list (pds d)).depth ≤ 64)) = true
    rw [Bool.and_eq_true]
    exact ⟨by simp only [PyData.canLay0]; exact h2, decide_eq_true (by simp only [PyData.depth]; omega)⟩
  · show ((PyData.tuple (pds d)).canLay0 && decide ((PyData.tuple (pds d)).depth ≤ 64)) = true
    rw [Bool.and_eq_true]
    exact ⟨by simp only [PyData.canLay0]; exact h2, decide_eq_true (by simp only [PyData.depth]; omega)⟩
end
mutual
theorem eqv_of : ∀ (n : Nat) (x y : D), gr n x = true → gr n y = true → cm x y = true → PyData.eqv (pd x) (pd y) = decide (x = y)
  | 0, _, _, g, _, _ => by simp [gr] at g
  | n + 1, .tup l, .tup l', g, g', c => by
    rw [gr] at g g'
    rw [cm] at c
    have h := eqvs_of n l l' g g' c
    simp only [pd, PyData.eqv]
    rw [h]
    simp
  | n + 1, .ref _, _, g, _, _ => by simp [gr] at g
  | n + 1, .kl _, _, g, _, _ => by simp [gr] at g
  | n + 1, _, .ref _, _, g, _ => by simp [gr] at g
  | n + 1, _, .kl _, _, g, _ => by simp [gr] at g
  | n + 1, .bl _, .int _, _, _, c => by simp [cm] at c
  | n + 1, .int _, .bl _, _, _, c => by simp [cm] at c
  | n + 1, .non, .non, _, _, _ => by simp [pd, PyData.eqv]
  | n + 1, .bl a, .bl b, _, _, _ => by
    simp only [pd, PyData.eqv]
    rw [Bool.eq_iff_iff]
    simp
  | n + 1, .int a, .int b, _, _, _ => by
    simp only [pd, PyData.eqv]
    rw [Bool.eq_iff_iff]
    simp
  | n + 1, .str a, .str b, _, _, _ => by
    simp only [pd, PyData.eqv]
    rw [Bool.eq_iff_iff]
    simp
  | n + 1, .non, .bl _, _, _, _ | n + 1, .non, .int _, _, _, _ | n + 1, .non, .str _, _, _, _ | n + 1, .non, .tup _, _, _, _ => by simp [pd, PyData.eqv]
  | n + 1, .bl _, .non, _, _, _ | n + 1, .bl _, .str _, _, _, _ | n + 1, .bl _, .tup _, _, _, _ => by simp [pd, PyData.eqv]
  | n + 1, .int _, .non, _, _, _ | n + 1, .int _, .str _, _, _, _ | n + 1, .int _, .tup _, _, _, _ => by simp [pd, PyData.eqv]
  | n + 1, .str _, .non, _, _, _ | n + 1, .str _, .bl _, _, _, _ | n + 1, .str _, .int _, _, _, _ | n + 1, .str _, .tup _, _, _, _ => by simp [pd, PyData.eqv]
  | n + 1, .tup _, .non, _, _, _ | n + 1, .tup _, .bl _, _, _, _ | n + 1, .tup _, .int _, _, _, _ | n + 1, .tup _, .str _, _, _, _ => by simp [pd, PyData.eqv]
theorem eqvs_of : ∀ (n : Nat) (x y : List D), x.all (gr n) = true → y.all (gr n) = true → cms x y = true → PyData.eqvAll (pds x) (pds y) = decide (x = y)
  | n, [], [], _, _, _ => by simp [pds, PyData.eqvAll]
  | n, [], _ :: _, _, _, _ => by simp [pds, PyData.eqvAll]
  | n, _ :: _, [], _, _, _ => by simp [pds, PyData.eqvAll]
  | n, x :: xs, y :: ys, g, g', c => by
    rw [List.all_cons, Bool.and_eq_true] at g g'
    rw [cms, Bool.and_eq_true] at c
    simp only [pds, PyData.eqvAll]
    rw [eqv_of n x y g.1 g'.1 c.1, eqvs_of n xs ys g.2 g'.2 c.2]
    rw [Bool.eq_iff_iff]
    simp
end
/-- the items of a list or tuple -/
def items (g : G) : D → Option (List D)
  | .tup l => some l
  | .kl l => some l
  | .ref n => match g[n]? with
    | some (.lst l) => some l
    | some (.rol l) => some l
    | _ => none
  | _ => none
def fEq : D → D → M D := fun x y g => match x, y with
  | .ref a, .ref b => match items g (.ref a), items g (.ref b) with
    | some l, some l' => ck (l.all (gr 20) = true ∧ l'.all (gr 20) = true ∧ cms l l' = true) (.ok (.bl (decide (l = l'))) g)
    | _, _ => .bad
  | x, y => ck (gr 20 x = true ∧ gr 20 y = true ∧ cm x y = true) (.ok (.bl (decide (x = y))) g)
def fNe : D → D → M D := fun x y g => match fEq x y g with
  | .ok (.bl b) g => .ok (.bl (!b)) g
  | _ => .bad
/-- what is a list or a tuple of the run -/
def Sq (K : PySem.W.Frag) (H : Hp) (v : V) (xs : List V) : Prop := ∃ a, v = .ref a ∧ (SqL K H a xs ∨ SqT K H a xs)
section
variable {U₀ : U} {ρ : List Addr} {H : Hp} {g : G}
theorem Rep.lst (r : Rep U₀ ρ H g) {n : Nat} {a : Addr} {l : List D} (hn : g[n]? = some (.lst l)) (ha : ρ[n]? = some a) : ∃ xs, H a = some (.lst xs) ∧ RelDs U₀.K ρ H l xs := r.obs n _ a hn ha
theorem Rep.rol (r : Rep U₀ ρ H g) {n : Nat} {a : Addr} {l : List D} (hn : g[n]? = some (.rol l)) (ha : ρ[n]? = some a) : ∃ xs o, H a = some (.frz o (.lst xs)) ∧ RelDs U₀.K ρ H l xs := (r.obs n _ a hn ha).choose_spec.choose_spec.2.2.elim
theorem items_ref (r : Rep U₀ ρ H g) {n : Nat} {a : Addr} {l : List D} (h : items g (.ref n) = some l) (ha : ρ[n]? = some a) : ∃ xs, SqL U₀.K H a xs ∧ RelDs U₀.K ρ H l xs := by
  unfold items at h
  dsimp only at h
  split at h
  · rename_i l' e
    cases h
    obtain ⟨xs, h1, h2⟩ := r.lst e ha
    exact ⟨xs, .of h1, h2⟩
  · rename_i l' e
    cases h
    obtain ⟨xs, o, h1, h2⟩ := r.rol e ha
    exact ⟨xs, .inl (.inr ⟨o, h1⟩), h2⟩
  · cases h
theorem items_sq (r : Rep U₀ ρ H g) {d : D} {v : V} {l : List D} (h : items g d = some l) (q : RelD U₀.K ρ H d v) : ∃ xs, Sq U₀.K H v xs ∧ RelDs U₀.K ρ H l xs := by
  cases q with
  | tup h1 h2 =>
    cases h
    exact ⟨_, ⟨_, rfl, .inr h1⟩, h2⟩
  | kl h1 h2 =>
    cases h
    exact ⟨_, ⟨_, rfl, .inl h1.seq⟩, h2⟩
  | ref ha =>
    obtain ⟨xs, h1, h2⟩ := items_ref r h ha
    exact ⟨xs, ⟨_, rfl, .inl h1⟩, h2⟩
  | _ => cases h
theorem s_eq0 {W : WX} {σ : St} {x y : D} {v u : V} {Q : VK} {k : Bool → Bool} {f : D → D → M D} (hf : f = fEq ∧ (∀ b, k b = b) ∨ f = fNe ∧ ∀ b, k b = !b) (r : Rep U₀ ρ H g) (qx : RelD U₀.K ρ H x v) (qy : RelD U₀.K ρ H y u) (p : Post U₀ (rD U₀) W σ ρ H (f x y g) Q) :
    ∃ d e, Dp U₀.K H v d ∧ Dp U₀.K H u e ∧ SeqAt.shaped d = true ∧ SeqAt.shaped e = true ∧ Q (.bl (k (PyData.eqv d e))) H := by
  have main : ∀ b, fEq x y g = .ok (.bl b) g → Q (.bl (k b)) H := fun b e => by
    rcases hf with ⟨rfl, hk⟩ | ⟨rfl, hk⟩
    · rw [e] at p
      rw [hk]
      exact p.at r (.bl b)
    · unfold fNe at p
      rw [e] at p
      rw [hk]
      exact p.at r (.bl (!b))
  have nobad : fEq x y g ≠ .bad := fun e => by
    rcases hf with ⟨rfl, hk⟩ | ⟨rfl, hk⟩
    · rw [e] at p
      exact p
    · unfold fNe at p
      rw [e] at p
      exact p
  have flat : (fEq x y g = ck (gr 20 x = true ∧ gr 20 y = true ∧ cm x y = true) (.ok (.bl (decide (x = y))) g)) → ∃ d e, Dp U₀.K H v d ∧ Dp U₀.K H u e ∧ SeqAt.shaped d = true ∧ SeqAt.shaped e = true ∧ Q (.bl (k (PyData.eqv d e))) H := fun e => by
    unfold ck at e
    split at e
    · rename_i c
      refine ⟨pd x, pd y, dp_of 20 qx c.1, dp_of 20 qy c.2.1, shp_of qx c.1, shp_of qy c.2.1, ?_⟩
      rw [eqv_of 20 x y c.1 c.2.1 c.2.2]
      exact main _ e
    · exact absurd e nobad
  cases x with
  | ref a =>
    cases y with
    | ref b =>
      unfold fEq at main nobad
      dsimp only at main nobad
      split at nobad
      · rename_i l l' h1 h2
        rw [h1, h2] at main
        dsimp only at main
        unfold ck at nobad main
        split at nobad
        · rename_i c
          rw [if_pos c] at main
          cases qx with
          | ref ha =>
            cases qy with
            | ref hb =>
              obtain ⟨xs, q1, q2⟩ := items_ref r h1 ha
              obtain ⟨ys, q3, q4⟩ := items_ref r h2 hb
              refine ⟨.list (pds l), .list (pds l'), .lst q1 (dps_of 20 q2 c.1), .lst q3 (dps_of 20 q4 c.2.1), (shps_of q2 c.1).1, (shps_of q4 c.2.1).1, ?_⟩
              have e : PyData.eqv (.list (pds l)) (.list (pds l')) = decide (l = l') := by
                simp only [PyData.eqv]
                exact eqvs_of 20 l l' c.1 c.2.1 c.2.2
              rw [e]
              exact main _ rfl
        · exact absurd rfl nobad
      · exact absurd rfl nobad
    | _ => exact flat rfl
  | _ => exact flat (by cases y <;> rfl)
theorem s_eq : S2 U₀ (rEqD U₀.K) fEq := fun W σ ρ H g x y v u Q r qx qy p => by
  obtain ⟨d, e, h1, h2, h3, h4, h5⟩ := s_eq0 (k := fun b => b) (.inl ⟨rfl, fun _ => rfl⟩) r qx qy p
  exact ⟨d, e, h1, h2, h3, h4, h5⟩
theorem s_ne : S2 U₀ (rNeD U₀.K) fNe := fun W σ ρ H g x y v u Q r qx qy p => by
  obtain ⟨d, e, h1, h2, h3, h4, h5⟩ := s_eq0 (k := fun b => !b) (.inr ⟨rfl, fun _ => rfl⟩) r qx qy p
  exact ⟨d, e, h1, h2, h3, h4, h5⟩
end
end RL
namespace RL
open PySem L2
section
variable {P : Program} {w : World} {h : Heap} {a : Addr} {xs : List Ent}
theorem RawP.of (x : RawP P w h a xs) (k : ∀ y ∈ xs, (tk P w).is h y.1 y.2.1) : h.DictOfH (tk P w) a xs := by
  obtain ⟨_, _, nd, o, es, ep, h1, h2, h3, h4⟩ := x
  exact ⟨o, es, ep, h1, h2, h3, h4, k, nd⟩
theorem rawP_of (z : xs.length ≤ sizeLine) (q : (a == sysModules) = false) (x : h.DictOfH (tk P w) a xs) : RawP P w h a xs := by
  obtain ⟨o, es, ep, h1, h2, h3, h4, _, nd⟩ := x
  exact ⟨z, q, nd, o, es, ep, h1, h2, h3, h4⟩
theorem dP_ok {H : Hp} (x : RawP P w h a xs) : ObjOk P w H h a (dP P w a xs) := by
  refine ⟨x, ?_, fun h1 h2 y k => ?_⟩
  · obtain ⟨_, _, _, o, es, ep, h1, _⟩ := x
    exact ⟨o, h1⟩
  · obtain ⟨z1, z2, z3, o, es, ep, e1, e2⟩ := y
    exact ⟨z1, z2, z3, o, es, ep, k _ e1, e2⟩
theorem dP_rd {H : Hp} (ok : HOk P w H h) (e : Rd H a (dP P w a xs)) : RawP P w h a xs := (show ObjOk P w H h a (dP P w a xs) from e.ok ok).1
end
section
variable {X : Cx} {cn : Str → Addr} {pins : List (Addr × Obj)} {σ : L2.St} {H : Hp} {s : Shared} {ρ : List Addr} {a b : Addr}
theorem pk_is {P : Program} {w : World} {K : PySem.W.Frag} {d : D} {v : V} {u : Value} {k : PK} (r : RelD K ρ H d v) (ru : RelV v u) (e : toPK d = some k) : (pkKind P w).is k u = true := by
  cases r with
  | non => cases e; cases ru; rfl
  | bl b => cases e; cases ru; exact decide_eq_true rfl
  | str h =>
    cases e
    obtain ⟨t, rfl⟩ := ru
    have q : ∀ x : Str, PK.isOf (.str x) (.str x t) = true := fun x => by simp [PK.isOf, Value.isStrOf]
    exact q _
  | _ => cases e
theorem pks_are {P : Program} {w : World} {K : PySem.W.Frag} : ∀ {l : List D} {vs : List V} {us : List Value} {ks : List PK}, RelDs K ρ H l vs → Vals vs us → toPKs l = some ks → ItemsAre (pkKind P w) ks us
  | _, _, _, _, .nil, .nil, e => by cases e; exact .nil
  | _, _, _, _, .cons h t, .cons r q, e => by
    simp only [toPKs] at e
    split at e
    · rename_i k ks h1 h2
      cases e
      exact .cons (pk_is h r h1) (pks_are t q h2)
    · cases e
/-- a tuple that is a key -/
theorem key_is (I : Inv X pins σ H s) {l : List D} {k : List PK} (r : RelD X.K ρ H (.tup l) (.ref b)) (e : toPKs l = some k) : (tk X.prog X.w).is s.heap k b := by
  cases r with
  | tup h1 h2 =>
    obtain ⟨its, rv, ht, _⟩ := I.tuple h1
    obtain ⟨o, e1, e2, n, e3⟩ := ht
    exact ⟨o, its.toArray, n, e1, e2, e3, by simpa using pks_are h2 rv e⟩
theorem ents_are (I : Inv X pins σ H s) : ∀ {kvs : List (D × D)} {xs : List Ent}, RelPs X.K ρ H kvs xs → ∀ y ∈ xs, (tk X.prog X.w).is s.heap y.1 y.2.1
  | _, _, .nil, y, h => by simp at h
  | _, _, .cons h1 h2 h3 h4 t, y, h => by
    rcases List.mem_cons.mp h with rfl | h
    · exact key_is I h2 h1
    · exact ents_are I t y h
/-- what the dict holds at a key, told plainly -/
def RelG (K : PySem.W.Frag) (ρ : List Addr) (H : Hp) : Option D → Option Value → Prop
  | some d, some u => ∃ v, RelD K ρ H d v ∧ RelV v u
  | none, none => True
  | _, _ => False
theorem RelPs.val {K : PySem.W.Frag} : ∀ {kvs : List (D × D)} {xs : List Ent}, RelPs K ρ H kvs xs → ∀ {l : List D} {k : List PK}, toPKs l = some k → RelG K ρ H (dget kvs (.tup l)) ((atKey xs k).map (·.2))
  | _, _, .nil, l, k, e => True.intro
  | _, _, .cons (l := l') (k := k') (b := b') (u := u') (xs := xs) h1 h2 h3 h4 t, l, k, e => by
    by_cases q : k' = k
    · subst q
      have e' := toPKs_inj h1 e
      subst e'
      have z : atKey ((k', b', u') :: xs) k' = some (b', u') := by simp [atKey, List.find?_cons]
      rw [z]
      unfold dget
      rw [if_pos rfl]
      exact ⟨_, h3, h4⟩
    · have z : atKey ((k', b', u') :: xs) k = atKey xs k := by simp [atKey, List.find?_cons, q]
      rw [z]
      unfold dget
      rw [if_neg (fun z => q (by
        cases z
        rw [h1] at e
        exact Option.some.inj e))]
      exact t.val e
theorem RelPs.put {K : PySem.W.Frag} {d : D} {v : V} {u : Value} (rd : RelD K ρ H d v) (rv : RelV v u) {l : List D} {k : List PK} {c : Addr} (e : toPKs l = some k) (rk : RelD K ρ H (.tup l) (.ref c)) :
    ∀ {kvs : List (D × D)} {xs : List Ent}, RelPs K ρ H kvs xs → (xs.map (·.1)).Nodup → RelPs K ρ H (dput kvs (.tup l) d) (storedH xs k c u) := by
  have snoc : ∀ {kvs : List (D × D)} {xs : List Ent}, RelPs K ρ H kvs xs → (∀ y ∈ xs, y.1 ≠ k) → RelPs K ρ H (dput kvs (.tup l) d) (xs ++ [(k, c, u)]) := by
    intro kvs xs r
    induction r with
    | nil => exact fun _ => .cons e rk rd rv .nil
    | @cons l' k' b' d' v' u' ds xs h1 h2 h3 h4 t ih =>
      intro n
      unfold dput
      rw [if_neg (fun z => n _ List.mem_cons_self (by
        cases z
        rw [h1] at e
        exact Option.some.inj e))]
      exact .cons h1 h2 h3 h4 (ih fun y m => n y (List.mem_cons_of_mem _ m))
  have repl : ∀ {kvs : List (D × D)} {xs : List Ent}, RelPs K ρ H kvs xs → (xs.map (·.1)).Nodup → (∃ y ∈ xs, y.1 = k) → RelPs K ρ H (dput kvs (.tup l) d) (xs.map (putAt k u)) := by
    intro kvs xs r
    induction r with
    | nil => rintro _ ⟨y, m, _⟩; simp at m
    | @cons l' k' b' d' v' u' ds xs h1 h2 h3 h4 t ih =>
      rintro nd ⟨y, m, ey⟩
      rw [List.map_cons, List.nodup_cons] at nd
      rw [List.map_cons]
      unfold dput
      by_cases q : k' = k
      · subst q
        have e' := toPKs_inj h1 e
        subst e'
        rw [if_pos rfl]
        have same : xs.map (putAt k' u) = xs := by
          have g : ∀ zs : List Ent, (∀ z ∈ zs, z.1 ≠ k') → zs.map (putAt k' u) = zs := by
            intro zs
            induction zs with
            | nil => exact fun _ => rfl
            | cons z zs ih =>
              intro hz
              rw [List.map_cons, ih fun y m => hz y (List.mem_cons_of_mem _ m)]
              unfold putAt
              rw [if_neg (hz z List.mem_cons_self)]
          exact g xs fun z m ez => nd.1 (List.mem_map.mpr ⟨z, m, ez⟩)
        rw [same]
        have z : putAt k' u (k', b', u') = (k', b', u) := by simp [putAt]
        rw [z]
        exact .cons h1 h2 rd rv t
      · rw [if_neg (fun z => q (by
          cases z
          rw [h1] at e
          exact Option.some.inj e))]
        have z : putAt k u (k', b', u') = (k', b', u') := by simp [putAt, q]
        rw [z]
        refine .cons h1 h2 h3 h4 (ih nd.2 ?_)
        rcases List.mem_cons.mp m with rfl | m
        · exact absurd ey q
        · exact ⟨y, m, ey⟩
  intro kvs xs r nd
  unfold storedH
  by_cases q : (atKey xs k).isSome = true
  · rw [if_pos q]
    refine repl r nd ?_
    have f : ∀ zs : List Ent, (atKey zs k).isSome = true → ∃ y ∈ zs, y.1 = k := by
      intro zs
      induction zs with
      | nil => intro h; simp [atKey] at h
      | cons z zs ih =>
        intro h
        by_cases ez : z.1 = k
        · exact ⟨z, List.mem_cons_self, ez⟩
        · have : atKey (z :: zs) k = atKey zs k := by simp [atKey, List.find?_cons, ez]
          rw [this] at h
          obtain ⟨y, m, ey⟩ := ih h
          exact ⟨y, List.mem_cons_of_mem _ m, ey⟩
    exact f xs q
  · rw [if_neg q]
    refine snoc r fun y m ey => q ?_
    have f : ∀ zs : List Ent, y ∈ zs → (atKey zs k).isSome = true := by
      intro zs
      induction zs with
      | nil => intro h; simp at h
      | cons z zs ih =>
        intro h
        by_cases ez : z.1 = k
        · simp [atKey, List.find?_cons, ez]
        · have : atKey (z :: zs) k = atKey zs k := by simp [atKey, List.find?_cons, ez]
          rw [this]
          rcases List.mem_cons.mp h with rfl | h
          · exact absurd ey ez
          · exact ih h
    exact f xs m
theorem RelKs.val {K : PySem.W.Frag} : ∀ {kvs : List (D × D)} {ks : List (Key × V)}, RelKs K ρ H kvs ks → ∀ (x : Str), RelF K ρ H (dget kvs (.str x)) (valV ks (.inr x))
  | _, _, .nil, x => True.intro
  | _, _, .cons (s := y) _ h t, x => by
    by_cases q : y = x
    · subst q
      rw [valV_pos rfl]
      unfold dget
      rw [if_pos rfl]
      exact h
    · rw [valV_neg (fun z => q (Sum.inr.inj z))]
      unfold dget
      rw [if_neg (fun z => q (D.str.inj z))]
      exact t.val x
theorem dput_any {kvs : List (D × D)} {ks : List (Key × V)} {K : PySem.W.Frag} (r : RelKs K ρ H kvs ks) (x : Str) : (ks.any fun kv => decide (kv.1 = .inr x)) = (dget kvs (.str x)).isSome := by
  rw [valV_any]
  have q := r.val x
  cases h1 : dget kvs (.str x) <;> cases h2 : valV ks (.inr x) <;> rw [h1, h2] at q <;> first | rfl | exact q.elim
theorem RelKs.put {K : PySem.W.Frag} {d : D} {v : V} (rd : RelD K ρ H d v) {x : Str} (hx : sOk x = true) {kvs : List (D × D)} {ks : List (Key × V)} (r : RelKs K ρ H kvs ks) (nd : (ks.map (·.1)).Nodup) : RelKs K ρ H (dput kvs (.str x) d) (putK ks (.inr x) v) := by
  have snoc : ∀ {kvs : List (D × D)} {xs : List (Key × V)}, RelKs K ρ H kvs xs → dget kvs (.str x) = none → RelKs K ρ H (dput kvs (.str x) d) (xs ++ [(.inr x, v)]) := by
    intro kvs xs r
    induction r with
    | nil => exact fun _ => .cons hx rd .nil
    | @cons y d' v' ds xs k h t ih =>
      intro n
      unfold dget at n
      split at n
      · cases n
      · rename_i q
        unfold dput
        rw [if_neg q]
        exact .cons k h (ih n)
  have same : ∀ {xs : List (Key × V)}, (∀ y ∈ xs, y.1 ≠ .inr x) → (xs.map fun kv => if kv.1 = .inr x then (kv.1, v) else kv) = xs := by
    intro xs
    induction xs with
    | nil => exact fun _ => rfl
    | cons z zs ih =>
      intro hz
      rw [List.map_cons, ih fun y m => hz y (List.mem_cons_of_mem _ m), if_neg (hz _ List.mem_cons_self)]
  have repl : ∀ {kvs : List (D × D)} {xs : List (Key × V)}, RelKs K ρ H kvs xs → (xs.map (·.1)).Nodup → (dget kvs (.str x)).isSome = true → RelKs K ρ H (dput kvs (.str x) d) (xs.map fun kv => if kv.1 = .inr x then (kv.1, v) else kv) := by
    intro kvs xs r
    induction r with
    | nil => intro _ h; simp [dget] at h
    | @cons y d' v' ds xs k h t ih =>
      intro nd n
      rw [List.map_cons, List.nodup_cons] at nd
      rw [List.map_cons]
      unfold dget at n
      unfold dput
      by_cases q : D.str y = .str x
      · rw [if_pos q]
        cases q
        rw [if_pos rfl, same fun z m ez => nd.1 (List.mem_map.mpr ⟨z, m, ez⟩)]
        exact .cons hx rd t
      · rw [if_neg q] at n ⊢
        rw [if_neg (fun z => q (by rw [Sum.inr.inj z]))]
        exact .cons k h (ih nd.2 n)
  unfold putK
  rw [dput_any r x]
  by_cases q : (dget kvs (.str x)).isSome = true
  · rw [if_pos q]
    exact repl r nd q
  · rw [if_neg q]
    refine snoc r ?_
    cases h : dget kvs (.str x) with
    | none => rfl
    | some z => rw [h] at q; exact absurd rfl q
end
end RL
namespace RL
open PySem L2
/-- two keys of one sort -/
def sk : D → D → Bool
  | .str _, .str _ => true
  | .tup _, .tup _ => true
  | _, _ => false
/-- a value that may be a key -/
def keyb : D → Bool
  | .str _ => true
  | .tup l => (toPKs l).isSome
  | _ => false
def kOk (kvs : List (D × D)) (k : D) : Prop := keyb k = true ∧ ∀ p ∈ kvs, sk p.1 k = true
instance (kvs : List (D × D)) (k : D) : Decidable (kOk kvs k) := by unfold kOk; infer_instance
inductive DV (X : Cx) (h : Heap) (ρ : List Addr) (H : Hp) (a : Addr) (kvs : List (D × D)) : D → V → Prop
  | k {x : Str} {ks : List (Key × V)} {vs : List (Key × Value)} : h.DictOf (mixKind X.prog X.w) a vs → RelKs X.K ρ H kvs ks → KV ks vs → vs.length ≤ sizeLine → (a == sysModules) = false → sOk x = true → DV X h ρ H a kvs (.str x) (.str x)
  | p {l : List D} {pk : List PK} {b : Addr} {xs : List Ent} : toPKs l = some pk → h.DictOfH (tk X.prog X.w) a xs → RelPs X.K ρ H kvs xs → (tk X.prog X.w).is h pk b → RelD X.K ρ H (.tup l) (.ref b) → xs.length ≤ sizeLine → (a == sysModules) = false → (xs.map (·.1)).Nodup → DV X h ρ H a kvs (.tup l) (.ref b)
section
variable {X : Cx} {cn : Str → Addr} {pins : List (Addr × Obj)} {σ : L2.St} {H : Hp} {s : Shared} {ρ : List Addr} {a b : Addr} {g : G} {n : Nat} {lk : Bool} {kvs : List (D × D)} {k d e : D} {y v : V} {u r : Value}
theorem Rep.dct {u : U} (R : Rep u ρ H g) (hn : g[n]? = some (.dct lk kvs)) (ha : ρ[n]? = some a) : ∃ w, Rd H a w ∧ DctU u.K ρ H u.P u.w a kvs w := by
  have q := R.obs n _ a hn ha
  cases lk with
  | false => obtain ⟨w, h1, h2⟩ := q; exact ⟨w, .inl h1, h2⟩
  | true => obtain ⟨w, o, h1, h2⟩ := q; exact ⟨w, .inr ⟨o, h1⟩, h2⟩
theorem emptyP {P : Program} {w : World} {h : Heap} (x : h.DictOf (mixKind P w) a []) : h.DictOfH (tk P w) a [] := by
  obtain ⟨o, es, ep, h1, h2, h3, _, h4, _⟩ := x
  have e : es.toList = [] := by
    generalize es.toList = l at h4
    cases h4
    rfl
  exact ⟨o, es, ep, h1, h2, h3, e, fun x hx => by simp at hx, List.nodup_nil⟩
theorem viewU {w : HO} (I : Inv X pins σ H s) (hr : Rd H a w) (q : DctU X.K ρ H X.prog X.w a kvs w) (rk : RelD X.K ρ H k y) (ok : kOk kvs k) : DV X s.heap ρ H a kvs k y := by
  obtain ⟨ok1, ok2⟩ := ok
  cases k with
  | str x =>
    have hx : sOk x = true := by cases rk; assumption
    cases rk
    rcases q with ⟨ks, rfl, q⟩ | ⟨xs, rfl, q⟩
    · obtain ⟨z, hd, vs, rel, dd⟩ := dk_rd I.hok hr
      exact .k dd q rel (by rw [← rel.length]; exact z) hd hx
    · obtain ⟨q, ne⟩ := q
      cases q with
      | nil => exact absurd rfl ne
      | cons h1 h2 h3 h4 t => exact absurd (ok2 _ List.mem_cons_self) (by simp [sk])
  | tup l =>
    have ek : ∃ pk, toPKs l = some pk := Option.isSome_iff_exists.mp ok1
    obtain ⟨pk, ek⟩ := ek
    have rk' := rk
    cases rk with
    | tup h1 h2 =>
      have ki := key_is I rk' ek
      rcases q with ⟨ks, rfl, q⟩ | ⟨xs, rfl, q⟩
      · cases q with
        | nil =>
          obtain ⟨z, hd, vs, rel, dd⟩ := dk_rd I.hok hr
          cases rel
          exact .p ek (emptyP dd) .nil ki rk' (Nat.zero_le _) hd List.nodup_nil
        | cons h t => exact absurd (ok2 _ List.mem_cons_self) (by simp [sk])
      · have z := dP_rd I.hok hr
        exact .p ek (z.of (ents_are I q.1)) q.1 ki rk' z.1 z.2.1 z.2.2.1
  | _ => exact absurd ok1 (by simp [keyb])
theorem view (I : Inv X pins σ H s) (R : Rep (ux X cn) ρ H g) (hn : g[n]? = some (.dct lk kvs)) (ha : ρ[n]? = some a) (rk : RelD X.K ρ H k y) (ok : kOk kvs k) : DV X s.heap ρ H a kvs k y := by
  obtain ⟨w, hr, q⟩ := R.dct hn ha
  exact viewU I hr q rk ok
theorem DV.typeIs {s : Shared} (w : DV X s.heap ρ H a kvs k y) : s.TypeIs (.ref a) "dict" := by
  cases w with
  | k h _ _ _ _ _ => exact h.typeIs
  | p _ h _ _ _ _ _ _ => exact h.typeIs
theorem RelKV.val {K : PySem.W.Frag} {ks : List (Key × V)} {vs : List (Key × Value)} (r : RelKs K ρ H kvs ks) (q : KV ks vs) (x : Str) : RelG K ρ H (dget kvs (.str x)) (valueAt vs (.inr x)) := by
  have h1 := r.val x
  have h2 := q.val (.inr x)
  cases e1 : dget kvs (.str x) <;> cases e2 : valV ks (.inr x) <;> rw [e1, e2] at h1 <;> cases e3 : valueAt vs (.inr x) <;> rw [e2, e3] at h2 <;> first | exact True.intro | exact h1.elim | exact h2.elim | exact ⟨_, h1, h2⟩
theorem RelG.some_of {K : PySem.W.Frag} {o : Option Value} (h : RelG K ρ H (some d) o) : ∃ v u, o = some u ∧ RelD K ρ H d v ∧ RelV v u := by
  cases o with
  | none => exact h.elim
  | some u => obtain ⟨v, h1, h2⟩ := h; exact ⟨v, u, rfl, h1, h2⟩
theorem RelG.isSome_eq {K : PySem.W.Frag} {x : Option D} {o : Option Value} (h : RelG K ρ H x o) : x.isSome = o.isSome := by
  cases x <;> cases o <;> first | rfl | exact h.elim
variable {A : Around} {E : Value → Shared → Prop}
theorem v_getItem {Q : Value → Shared → Prop} (hu : A.units + 1 < cLine) (I : Inv X pins σ H s) (w : DV X s.heap ρ H a kvs k y) (ry : RelV y u) (hv : dget kvs k = some d) (h : ∀ v w' s', Inv X pins σ H s' → RelD X.K ρ H d v → RelV v w' → Q w' s') :
    wpAny (model X.prog X.w) A (getItem (.ref a) u) Q E s := by
  cases w with
  | k dd q rel z hd hx =>
    rename_i x ks vs
    have g := RelKV.val q rel x
    rw [hv] at g
    obtain ⟨v, w', e1, e2, e3⟩ := g.some_of
    exact wpAny_getItem_of (kV_is (k := .inr x) ry) dd.mapOf e1 (h v w' _ (I.tok _) e2 e3)
  | p ek dd q ki rk z hd nd =>
    rename_i l pk b xs
    cases (show u = Value.ref b from ry)
    have g := q.val ek
    rw [hv] at g
    obtain ⟨v, w', e1, e2, e3⟩ := g.some_of
    obtain ⟨p, hp, hp2⟩ := Option.map_eq_some_iff.mp e1
    refine wpAny_getItem_heap (tupleKind_room_in1 hu) ki dd hp ?_
    rw [hp2]
    exact h v w' _ (I.tok _) e2 e3
theorem v_in {Q : Value → Shared → Prop} (hu : A.units + 1 < cLine) (I : Inv X pins σ H s) (w : DV X s.heap ρ H a kvs k y) (ry : RelV y u) (h : ∀ s', Inv X pins σ H s' → Q (.bool (dget kvs k).isSome) s') :
    wpAny (model X.prog X.w) A (compareOp .In u (.ref a)) Q E s := by
  cases w with
  | k dd q rel z hd hx =>
    rename_i x ks vs
    refine wpAny_in_of (kV_is (k := .inr x) ry) hd dd.mapOf ?_
    rw [← (RelKV.val q rel x).isSome_eq]
    exact h _ (I.tok _)
  | p ek dd q ki rk z hd nd =>
    rename_i l pk b xs
    cases (show u = Value.ref b from ry)
    refine wpAny_in_heap (tupleKind_room_in1 hu) ki hd dd ?_
    have g := (q.val ek).isSome_eq
    rw [Option.isSome_map] at g
    rw [← g]
    exact h _ (I.tok _)
theorem v_notIn {Q : Value → Shared → Prop} (hu : A.units + 1 < cLine) (I : Inv X pins σ H s) (w : DV X s.heap ρ H a kvs k y) (ry : RelV y u) (h : ∀ s', Inv X pins σ H s' → Q (.bool (!(dget kvs k).isSome)) s') :
    wpAny (model X.prog X.w) A (compareOp .NotIn u (.ref a)) Q E s := by
  cases w with
  | k dd q rel z hd hx =>
    rename_i x ks vs
    refine wpAny_notIn_of (kV_is (k := .inr x) ry) hd dd.mapOf ?_
    rw [← (RelKV.val q rel x).isSome_eq]
    exact h _ (I.tok _)
  | p ek dd q ki rk z hd nd =>
    rename_i l pk b xs
    cases (show u = Value.ref b from ry)
    refine PyProof.Rows.wpAny_notIn_heap (tupleKind_room_in1 hu) ki hd dd ?_
    have g := (q.val ek).isSome_eq
    rw [Option.isSome_map] at g
    rw [← g]
    exact h _ (I.tok _)
theorem RelG.getD {K : PySem.W.Frag} {x : Option D} {o : Option Value} (h : RelG K ρ H x o) {w : Value} (q : RelD K ρ H e v) (rw' : RelV v w) : ∃ v', RelD K ρ H (x.getD e) v' ∧ RelV v' (o.getD w) := by
  cases x <;> cases o <;> first | exact h.elim | exact ⟨_, q, rw'⟩ | exact h
theorem dput_ne (k d : D) : ∀ kvs : List (D × D), dput kvs k d ≠ []
  | [] => by unfold dput; simp
  | p :: r => by unfold dput; split <;> simp
/-- the dict after a store, as an object of the abstract heap -/
theorem v_setItem {Q : Unit → Shared → Prop} (hu : A.units + 1 < cLine) (I : Inv X pins σ H s) (mu : Mut (H a)) (w : DV X s.heap ρ H a kvs k y) (ry : RelV y u) (hl : kvs.length < sizeLine) (rd : RelD X.K ρ H d v) (rv : RelV v r)
    (h : ∀ o s', (∀ {ρ' : List Addr} {H' : Hp}, (∀ {d : D} {v : V}, RelD X.K ρ H d v → RelD X.K ρ' H' d v) → DctU X.K ρ' H' X.prog X.w a (dput kvs k d) o) → Inv X pins σ (upd H a o) s' → Q () s') :
    wpAny (model X.prog X.w) A (setItem (.ref a) u r) Q E s := by
  cases w with
  | k dd q rel z hd hx =>
    rename_i x ks vs
    have nd : (ks.map (·.1)).Nodup := by
      rw [rel.keys]
      obtain ⟨_, _, _, _, _, _, _, _, nd⟩ := dd
      exact nd
    have ql : kvs.length = ks.length := by
      clear h nd hl z rel dd
      induction q with
      | nil => rfl
      | cons _ _ _ ih => rw [List.length_cons, List.length_cons, ih]
    have hl' : (putK ks (.inr x) v).length ≤ sizeLine := by have := length_putK ks (.inr x) v; omega
    refine wpAny_setItem_pairs (hsz := z) (kV_is (k := .inr x) ry) dd fun h' dd' hs => h (.dK (putK ks (.inr x) v)) _ (fun m => .inl ⟨_, rfl, (RelKs.put rd hx q nd).mono m⟩) ?_
    have he : ∃ q, h'.get? a = some q := let ⟨q, _, _, hq, _⟩ := dd'; ⟨q, hq⟩
    exact d_write I mu hs he (dk_new hl' hd (rel.put (.inr x) rv) dd')
  | p ek dd q ki rk z hd nd =>
    rename_i l pk b xs
    cases (show u = Value.ref b from ry)
    have ql : kvs.length = xs.length := by
      clear h nd hl z ki dd
      induction q with
      | nil => rfl
      | cons _ _ _ _ _ ih => rw [List.length_cons, List.length_cons, ih]
    have hl' : (storedH xs pk b r).length ≤ sizeLine := by
      unfold storedH
      split
      · rw [List.length_map]; exact z
      · rw [List.length_append, List.length_singleton]; omega
    refine wpAny_setItem_heap (hsz := z) (tupleKind_room_in1 hu) ki dd fun h' dd' hs => h (dP X.prog X.w a (storedH xs pk b r)) _ (fun m => .inr ⟨_, rfl, (RelPs.put rd rv ek rk q nd).mono m, dput_ne _ _ _⟩) ?_
    have he : ∃ q, h'.get? a = some q := let ⟨q, _, _, hq, _⟩ := dd'; ⟨q, hq⟩
    exact d_write I mu hs he (dP_ok (rawP_of hl' hd dd'))
end
end RL
namespace RL
open PySem L2
def fSubs : D → D → M D := fun x k g => match items g x, k with
  | some l, .int i => match atI l i with
    | some d => .ok d g
    | none => .bad
  | some _, _ => .bad
  | none, k => match x with
    | .ref n => match g[n]? with
      | some (.dct _ kvs) => ck (kOk kvs k) (match dget kvs k with
        | some d => .ok d g
        | none => .bad)
      | _ => .bad
    | _ => .bad
def fIn : D → D → M D := fun x y g => match items g y with
  | some l => ck (gr 20 x = true ∧ l.all (gr 20) = true ∧ (l.all fun z => cm z x) = true) (.ok (.bl (decide (x ∈ l))) g)
  | none => match y with
    | .ref n => match g[n]? with
      | some (.dct _ kvs) => ck (kOk kvs x) (.ok (.bl (dget kvs x).isSome) g)
      | _ => .bad
    | _ => .bad
def fNot : D → D → M D := fun x y g => match fIn x y g with
  | .ok (.bl b) g => .ok (.bl (!b)) g
  | _ => .bad
/-- the answer of an operator that leaves all as it is -/
def rPure (U₀ : U) (f : D → D → M D) : R2 := fun v u H Q => ∃ ρ g x y, Rep U₀ ρ H g ∧ RelD U₀.K ρ H x v ∧ RelD U₀.K ρ H y u ∧ ∃ d, f x y g = .ok d g ∧ ∀ w, RelD U₀.K ρ H d w → Q w H
theorem s_pure {U₀ : U} {f : D → D → M D} (h : ∀ x y g d g', f x y g = .ok d g' → g' = g) (he : ∀ x y g e g', f x y g ≠ .exc e g') : S2 U₀ (rPure U₀ f) f := by
  intro W σ ρ H g x y v u Q r qx qy p
  cases e : f x y g with
  | ok d g' =>
    have := h _ _ _ _ _ e
    subst this
    rw [e] at p
    exact ⟨ρ, _, x, y, r, qx, qy, d, e, fun w q => p.at r q⟩
  | exc z g' => exact absurd e (he _ _ _ _ _)
  | bad =>
    rw [e] at p
    exact p.elim
theorem ck_ok {α : Type} {c : Prop} [Decidable c] {r : Res α} {a : α} {g : G} (h : ck c r = .ok a g) : c ∧ r = .ok a g := by
  unfold ck at h
  split at h
  · exact ⟨by assumption, h⟩
  · cases h
theorem ck_exc {α : Type} {c : Prop} [Decidable c] {r : Res α} {a : Exc} {g : G} (h : ck c r = .exc a g) : r = .exc a g := by
  unfold ck at h
  split at h
  · exact h
  · cases h
theorem fSubs_g : ∀ x y g d g', fSubs x y g = .ok d g' → g' = g := by
  intro x y g d g' h
  unfold fSubs at h
  repeat' split at h
  all_goals first
    | (cases h; rfl)
    | cases h
    | (obtain ⟨_, h⟩ := ck_ok h
       first
         | (cases h; rfl)
         | cases h)
theorem fSubs_e : ∀ x y g e g', fSubs x y g ≠ .exc e g' := by
  intro x y g d g' h
  unfold fSubs at h
  repeat' split at h
  all_goals first
    | cases h
    | (have h := ck_exc h
       cases h)
theorem fIn_g : ∀ x y g d g', fIn x y g = .ok d g' → g' = g := by
  intro x y g d g' h
  unfold fIn at h
  repeat' split at h
  all_goals first
    | cases h
    | (obtain ⟨_, h⟩ := ck_ok h
       cases h
       rfl)
theorem fIn_e : ∀ x y g e g', fIn x y g ≠ .exc e g' := by
  intro x y g d g' h
  unfold fIn at h
  repeat' split at h
  all_goals first
    | cases h
    | (have h := ck_exc h
       cases h)
theorem fNot_in {x y d : D} {g g' : G} (h : fNot x y g = .ok d g') : ∃ b, fIn x y g = .ok (.bl b) g ∧ d = .bl (!b) ∧ g' = g := by
  unfold fNot at h
  split at h
  · rename_i b g2 e
    have := fIn_g _ _ _ _ _ e
    subst this
    cases h
    exact ⟨b, e, rfl, rfl⟩
  · cases h
theorem fNot_e : ∀ x y g e g', fNot x y g ≠ .exc e g' := by
  intro x y g e g' h
  unfold fNot at h
  split at h <;> cases h
theorem atI_map {α β : Type} {xs : List α} {ys : List β} (hl : xs.length = ys.length) {i : Int} {x : α} (h : atI xs i = some x) : ∃ j : Nat, xs[j]? = some x ∧ atI ys i = ys[j]? := by
  unfold atI at h ⊢
  rw [← hl]
  cases e : ixN xs.length i with
  | none => rw [e] at h; cases h
  | some j => rw [e] at h; exact ⟨j, h, rfl⟩
theorem RelDs.atI {K : PySem.W.Frag} {ρ : List Addr} {H : Hp} {l : List D} {xs : List V} (r : RelDs K ρ H l xs) {i : Int} {d : D} (h : L2.atI l i = some d) : ∃ v, L2.atI xs i = some v ∧ RelD K ρ H d v := by
  obtain ⟨j, h1, h2⟩ := atI_map r.length h
  obtain ⟨v, h3, h4⟩ := r.get h1
  exact ⟨v, by rw [h2, h3], h4⟩
section
variable {X : Cx} {cn : Str → Addr}
theorem items_none_dct {g : G} {n : Nat} {lk : Bool} {kvs : List (D × D)} (h : g[n]? = some (.dct lk kvs)) : items g (.ref n) = none := by
  unfold items
  dsimp only
  rw [h]
theorem ix_all (hu : X.A.units + 1 < cLine) : IxR X (rPure (ux X cn) fSubs) := by
  intro value slice pins s σ H v u ov iv Q I rv ru h hs
  obtain ⟨ρ, g, x, k, R, qx, qk, d, e, q⟩ := h
  unfold fSubs at e
  split at e
  · rename_i l i hi
    split at e
    · rename_i d' ha
      cases e
      cases qk
      obtain ⟨xs, ⟨a, rfl, sq⟩, rs⟩ := items_sq R hi qx
      obtain ⟨w, h1, h2⟩ := rs.atI ha
      rcases sq with sq | sq
      · exact ix_list value slice pins s σ H _ _ ov iv Q I rv ru ⟨a, xs, i, w, rfl, rfl, sq, h1, q w h2⟩ hs
      · exact ix_tup value slice pins s σ H _ _ ov iv Q I rv ru ⟨a, xs, i, w, rfl, rfl, sq, h1, q w h2⟩ hs
    · cases e
  · cases e
  · split at e
    · split at e
      · rename_i n lk kvs hn
        obtain ⟨hk, e⟩ := ck_ok e
        split at e
        · rename_i d' hd
          cases e
          cases qx with
          | ref ha =>
            rename_i a
            cases (show ov = Value.ref a from rv)
            have w := view I R hn ha qk hk
            exact PyProof.Rows.tail_any w.typeIs PySem.F.slot_dict_getitem.lookup (v_getItem hu I w ru hd fun v' w' s' I' h1 h2 => ⟨v', H, I', h2, q v' h1⟩) hs
        · cases e
      · cases e
    · cases e
theorem any_in {x : D} : ∀ {l : List D}, l.all (gr 20) = true → gr 20 x = true → (l.all fun z => cm z x) = true → ((pds l).any fun z => PyData.eqv z (pd x)) = decide (x ∈ l)
  | [], _, _, _ => by simp [pds]
  | z :: l, h1, h2, h3 => by
    rw [List.all_cons, Bool.and_eq_true] at h1 h3
    rw [pds, List.any_cons, any_in h1.2 h2 h3.2, eqv_of 20 z x h1.1 h2 h3.1]
    by_cases e : z = x
    · subst e; simp
    · have e' : ¬ x = z := fun q => e q.symm
      simp [e, e']
theorem in_go {v u : V} {Q : VK} {b : Bool} {ρ : List Addr} {g : G} {H : Hp} {x y : D} (hu : X.A.units + 65 < cLine) {pins : List (Addr × Obj)} {s : Shared} {σ : L2.St} {ov iv : Value} (I : Inv X pins σ H s) (rv : RelV v ov) (ru : RelV u iv)
    (R : Rep (ux X cn) ρ H g) (qx : RelD X.K ρ H x v) (qy : RelD X.K ρ H y u) (e : fIn x y g = .ok (.bl b) g) : (Q (.bl b) H → wpAny (model X.prog X.w) X.A (compareOp .In ov iv) (EP X pins σ Q) X.xe s) ∧ (Q (.bl (!b)) H → wpAny (model X.prog X.w) X.A (compareOp .NotIn ov iv) (EP X pins σ Q) X.xe s) := by
  unfold fIn at e
  split at e
  · rename_i l hi
    obtain ⟨c, e⟩ := ck_ok e
    cases e
    obtain ⟨xs, ⟨a, rfl, sq⟩, rs⟩ := items_sq R hi qy
    have z := any_in c.2.1 c.1 c.2.2
    have sx := shp_of (U₀ := ux X cn) qx c.1
    obtain ⟨sl, st⟩ := shps_of (U₀ := ux X cn) rs c.2.1
    obtain ⟨as, r1⟩ := Dp.reads I _ v ov (dp_of (U₀ := ux X cn) 20 qx c.1) rv
    rcases sq with sq | sq
    · obtain ⟨bs, r2⟩ := Dp.reads I _ _ iv (Dp.lst sq (dps_of (U₀ := ux X cn) 20 rs c.2.1)) ru
      exact ⟨fun q => SeqAt.in_list_reads r2 r1 (SeqAt.canLay_of_shaped sl) (SeqAt.canLay_of_shaped sx) (PyProof.Rows.room_in_shaped sx hu) ⟨.bl _, H, I, rfl, by rw [z]; exact q⟩,
        fun q => SeqAt.notIn_list_reads r2 r1 (SeqAt.canLay_of_shaped sl) (SeqAt.canLay_of_shaped sx) (PyProof.Rows.room_in_shaped sx hu) ⟨.bl _, H, I, rfl, by rw [z]; exact q⟩⟩
    · obtain ⟨bs, r2⟩ := Dp.reads I _ _ iv (Dp.tup sq (dps_of (U₀ := ux X cn) 20 rs c.2.1)) ru
      exact ⟨fun q => SeqAt.in_tuple_reads r2 r1 (SeqAt.canLay_of_shaped sl) (SeqAt.canLay_of_shaped sx) (PyProof.Rows.room_in_shaped sx hu) ⟨.bl _, H, I, rfl, by rw [z]; exact q⟩,
        fun q => SeqAt.notIn_tuple_reads r2 r1 (SeqAt.canLay_of_shaped sl) (SeqAt.canLay_of_shaped sx) (PyProof.Rows.room_in_shaped sx hu) ⟨.bl _, H, I, rfl, by rw [z]; exact q⟩⟩
  · split at e
    · split at e
      · rename_i n lk kvs hn
        obtain ⟨hk, e⟩ := ck_ok e
        cases e
        cases qy with
        | ref ha =>
          rename_i a
          cases (show iv = Value.ref a from ru)
          have w := view I R hn ha qx hk
          exact ⟨fun q => v_in (by omega) I w rv fun s' I' => ⟨.bl _, H, I', rfl, q⟩, fun q => v_notIn (by omega) I w rv fun s' I' => ⟨.bl _, H, I', rfl, q⟩⟩
      · cases e
    · cases e
theorem fIn_bl {x y d : D} {g : G} (e : fIn x y g = .ok d g) : ∃ b, d = .bl b := by
  unfold fIn at e
  repeat' split at e
  all_goals first
    | cases e
    | (obtain ⟨_, e⟩ := ck_ok e
       cases e
       exact ⟨_, rfl⟩)
theorem op_inA (hu : X.A.units + 65 < cLine) : OpR X (compareOp .In) (rPure (ux X cn) fIn) := by
  intro pins s σ H v u ov iv Q I rv ru h
  obtain ⟨ρ, g, x, k, R, qx, qk, d, e, q⟩ := h
  obtain ⟨b, rfl⟩ := fIn_bl e
  exact (in_go hu I rv ru R qx qk e).1 (q _ (.bl b))
theorem op_notA (hu : X.A.units + 65 < cLine) : OpR X (compareOp .NotIn) (rPure (ux X cn) fNot) := by
  intro pins s σ H v u ov iv Q I rv ru h
  obtain ⟨ρ, g, x, k, R, qx, qk, d, e, q⟩ := h
  obtain ⟨b, e1, rfl, _⟩ := fNot_in e
  exact (in_go hu I rv ru R qx qk e1).2 (q _ (.bl _))
variable {W : WX} {pos : Pos} {a b c e : Expr} {es : List Expr} {ma mb : ME} {ml : MA} {mt mu : MT}
theorem re_sub (hu : X.A.units + 1 < cLine) (ha : RE X cn W a ma) (hb : RE X cn W b mb) (hs : PlainIx b) : RE X cn W (.Subscript a b pos) (mOp fSubs ma mb) :=
  peI (pe_ix (ix_all hu) ha hb hs) (two_e (s_pure fSubs_g fSubs_e))
theorem re_in (hu : X.A.units + 65 < cLine) (ha : RE X cn W a ma) (hb : RE X cn W b mb) (hm : behindInMarks .In b = false := by rfl) : RE X cn W (.Compare a [.In] [b] pos) (mOp fIn ma mb) :=
  re_cmp (op_inA hu) (s_pure fIn_g fIn_e) ha hb hm
theorem re_eq (hu : X.A.units + 64 < cLine) (ha : RE X cn W a ma) (hb : RE X cn W b mb) : RE X cn W (.Compare a [.Eq] [b] pos) (mOp fEq ma mb) := re_cmp (op_eqD hu) s_eq ha hb (nomark _)
theorem re_ge (ha : RE X cn W a ma) (hb : RE X cn W b mb) : RE X cn W (.Compare a [.GtE] [b] pos) (mOp fGe ma mb) := re_cmp op_ge s_ge ha hb (nomark _)
theorem re_mul (ha : RE X cn W a ma) (hb : RE X cn W b mb) : RE X cn W (.BinOp a .Mult b pos) (mOp fMul ma mb) := re_op op_mul s_mul ha hb
theorem re_minus (ha : RE X cn W a ma) (hb : RE X cn W b mb) : RE X cn W (.BinOp a .Sub b pos) (mOp fSub ma mb) := re_op op_sub s_sub ha hb
theorem re_mod (ha : RE X cn W a ma) (hb : RE X cn W b mb) : RE X cn W (.BinOp a .Mod b pos) (mOp fMod ma mb) := re_op op_mod s_mod ha hb
theorem re_div (ha : RE X cn W a ma) (hb : RE X cn W b mb) : RE X cn W (.BinOp a .FloorDiv b pos) (mOp fDiv ma mb) := re_op op_fdiv s_div ha hb
theorem re_pow (ha : RE X cn W a ma) (hb : RE X cn W b mb) : RE X cn W (.BinOp a .Pow b pos) (mOp fPow ma mb) := re_op op_pow s_pow ha hb
def fPlus : D → D → M D := fun x y g => match x, y with
  | .int i, .int j => .ok (.int (i + j)) g
  | .ref n, .ref m => match g[n]?, g[m]? with
    | some (.lst l), some (.lst l') => ck (l.length + l'.length ≤ 100000) (.ok (.ref g.length) (g ++ [.lst (l ++ l')]))
    | _, _ => .bad
  | .tup l, .tup l' => ck (0 < l.length ∧ 0 < l'.length ∧ l.length + l'.length ≤ 100000) (.ok (.tup (l ++ l')) g)
  | _, _ => .bad
theorem small_line {n : Nat} (h : n ≤ 100000) : n < sizeLine := Nat.lt_of_le_of_lt h (by rw [sizeLine_eq]; decide)
theorem op_plus : OpR X (binaryOp .Add) (fun x y H Q => rI0 (fun i j => .int (i + j)) x y H Q ∨ (rCat x y H Q ∨ rCatT X.K x y H Q)) := op_add.or (op_cat.or op_catT)
theorem s_plus : S2 (ux X cn) (fun x y H Q => rI0 (fun i j => .int (i + j)) x y H Q ∨ (rCat x y H Q ∨ rCatT X.K x y H Q)) fPlus := by
  intro W σ ρ H g x y v u Q r qx qy p
  unfold fPlus at p
  split at p
  · cases qx
    cases qy
    exact .inl ⟨_, _, rfl, rfl, p.at r (.int _)⟩
  · split at p
    · rename_i n m _ _ l l' h1 h2
      obtain ⟨c, p⟩ := Post.ck p
      cases qx with
      | ref ha =>
        cases qy with
        | ref hb =>
          obtain ⟨xs, e1, r1⟩ := r.lst h1 ha
          obtain ⟨ys, e2, r2⟩ := r.lst h2 hb
          refine .inr (.inl ⟨_, _, xs, ys, rfl, rfl, e1, e2, ?_, fun q hq => ?_⟩)
          · rw [← r1.length, ← r2.length]
            exact Nat.le_of_lt (small_line c)
          · obtain ⟨ev, rp, hx⟩ := Ev.cnt (ob := .lst (l ++ l')) (o := .lst (xs ++ ys)) r hq fun e h => ⟨_, h, (e.rels r r1).app (e.rels r r2)⟩
            exact p _ _ _ ev rp (.ref hx)
    · exact p.elim
  · rename_i l l'
    obtain ⟨c, p⟩ := Post.ck p
    cases qx with
    | tup s1 r1 =>
      rename_i a xs
      cases qy with
      | tup s2 r2 =>
        rename_i b ys
        have n1 : xs ≠ [] := fun z => by
          have := r1.length
          rw [z] at this
          simp at this
          simp [this] at c
        have n2 : ys ≠ [] := fun z => by
          have := r2.length
          rw [z] at this
          simp at this
          simp [this] at c
        refine .inr (.inr ⟨_, _, xs, ys, rfl, rfl, s1, s2, n1, ?_, fun z => absurd z n2, fun _ q hq => ?_⟩)
        · rw [← r1.length, ← r2.length]
          exact Nat.le_of_lt (small_line c.2.2)
        · obtain ⟨ev, rp⟩ := Ev.new (o := .tup (xs ++ ys)) r hq
          exact p _ _ _ ev rp (.tup (.of upd_same) ((ev.rels r r1).app (ev.rels r r2)))
  · exact p.elim
theorem re_plus (ha : RE X cn W a ma) (hb : RE X cn W b mb) : RE X cn W (.BinOp a .Add b pos) (mOp fPlus ma mb) := re_op op_plus s_plus ha hb
end
end RL
namespace RL
open PySem L2
@[simp] theorem ck_true {α : Type} (r : Res α) : ck True r = r := if_pos trivial
def asB : D → M Bool := fun d g => match d with
  | .bl b => .ok b g
  | _ => .bad
def mTest (m : ME) : MT := fun τ g => (m τ g).bind asB
def mAndT (a b : MT) : MT := fun τ g => (a τ g).bind fun c g1 => if c = true then b τ g1 else .ok false g1
def mOrT (a b : MT) : MT := fun τ g => (a τ g).bind fun c g1 => if c = true then .ok true g1 else b τ g1
def mNotT (a : MT) : MT := fun τ g => (a τ g).bind fun c g1 => .ok (!c) g1
def mAnd (a b : ME) : ME := fun τ g => (a τ g).bind fun d g1 => match d with
  | .bl true => b τ g1
  | .bl false => .ok (.bl false) g1
  | _ => .bad
def fNotV : D → M D := fun d g => match d with
  | .bl b => .ok (.bl (!b)) g
  | _ => .bad
def fIsN (b : Bool) : D → M D := fun d g => .ok (.bl (if b = true then decide (d = .non) else !decide (d = .non))) g
section
variable {X : Cx} {cn : Str → Addr} {W : WX} {pos : Pos} {a b c e o : Expr} {es : List Expr} {ma mb me : ME} {ml : MA} {mt mu : MT}
theorem rt_val (h : RE X cn W e me) (he : ∀ whole, isTrue e X.env whole = (do let v ← whole; standAt e.pos; holding [v] (truthy v)) := by intro _; rfl) : RT X cn W e (mTest me) := by
  refine ptI (pt_val h he) fun σ H Q ⟨ρ, τ, g, s, p⟩ => ⟨ρ, τ, g, s, p.thn fun ρ1 v H1 d g1 e1 r1 q1 p1 => ?_⟩
  unfold asB at p1
  cases q1 <;> first | exact p1.elim | exact ⟨_, rfl, p1.at r1 rfl⟩
theorem rt_cmp {op : CmpOp} {r : R2} {f : D → D → M D} (ho : OpR X (compareOp op) r) (s : S2 (ux X cn) r f) (ha : RE X cn W a ma) (hb : RE X cn W b mb) (hm : behindInMarks op b = false) : RT X cn W (.Compare a [op] [b] pos) (mTest (mOp f ma mb)) := by
  refine ptI (pt_cmpR ho ha hb hm) fun σ H Q ⟨ρ, τ, g, st, p⟩ => ?_
  have h : tE (ux X cn) W (mOp f ma mb) σ H (fun x H' => ∃ k, x = .bl k ∧ Q k H') := ⟨ρ, τ, g, st, p.thn fun ρ1 v H1 d g1 e1 r1 q1 p1 => by
    unfold asB at p1
    cases q1 <;> first | exact p1.elim | exact ⟨_, rfl, p1.at r1 rfl⟩⟩
  exact two_e s σ H _ h
theorem rt_isN (ha : RE X cn W a ma) {j pos'} : RT X cn W (.Compare a [.Is] [.Constant .none j pos'] pos) (mTest (mUn (fIsN true) ma)) := by
  refine ptI (pt_cmp (pc_isN ha)) fun σ H Q ⟨ρ, τ, g, st, p⟩ => ?_
  have p' : Post (ux X cn) rB W σ ρ H ((ma τ g).bind fun x g1 => .ok (decide (x = .non)) g1) Q := by
    unfold mTest mUn at p
    cases h : ma τ g <;> rw [h] at p <;> exact p
  refine ⟨ρ, τ, g, st, p'.thn fun ρ1 v H1 d g1 e1 r1 q1 p1 => ⟨_, rfl, ?_⟩⟩
  have z : decide (v = V.non) = decide (d = D.non) := by cases q1 <;> simp
  rw [z]
  exact p1.at r1 rfl
theorem re_isN (ha : RE X cn W a ma) {j pos'} : RE X cn W (.Compare a [.Is] [.Constant .none j pos'] pos) (mUn (fIsN true) ma) := by
  refine peI (pe_cmp (pc_isN ha)) fun σ H Q ⟨ρ, τ, g, st, p⟩ => ⟨ρ, τ, g, st, p.thn fun ρ1 v H1 d g1 e1 r1 q1 p1 => ?_⟩
  have z : decide (v = V.non) = decide (d = D.non) := by cases q1 <;> simp
  rw [z]
  exact p1.at r1 (.bl _)
theorem rw_and1 (h : RT X cn W a mt) : RW X cn W (.BoolOp .And [a] pos) mt := pw_and1 h
theorem rw_or1 (h : RT X cn W a mt) : RW X cn W (.BoolOp .Or [a] pos) mt := pw_or1 h
theorem rw_and (ha : RT X cn W a mt) (hb : RW X cn W (.BoolOp .And (b :: es) pos) mu) : RW X cn W (.BoolOp .And (a :: b :: es) pos) (mAndT mt mu) := by
  refine pwI (pw_and ha hb) fun σ H Q ⟨ρ, τ, g, s, p⟩ => ⟨ρ, τ, g, s, p.thn fun ρ1 v H1 d g1 e1 r1 q1 p1 => ?_⟩
  cases (show d = v from q1)
  cases v with
  | true => exact ⟨ρ1, τ, g1, s.later e1 r1, p1⟩
  | false => exact p1.at r1 rfl
theorem rw_or (ha : RT X cn W a mt) (hb : RW X cn W (.BoolOp .Or (b :: es) pos) mu) : RW X cn W (.BoolOp .Or (a :: b :: es) pos) (mOrT mt mu) := by
  refine pwI (pw_or ha hb) fun σ H Q ⟨ρ, τ, g, s, p⟩ => ⟨ρ, τ, g, s, p.thn fun ρ1 v H1 d g1 e1 r1 q1 p1 => ?_⟩
  cases (show d = v from q1)
  cases v with
  | true => exact p1.at r1 rfl
  | false => exact ⟨ρ1, τ, g1, s.later e1 r1, p1⟩
theorem rt_w (h : RW X cn W e mt) : RT X cn W e mt := PW.pt h
theorem rt_not (ha : RT X cn W a mt) : RT X cn W (.UnaryOp .Not a pos) (mNotT mt) := by
  refine ptI (pt_not ha) fun σ H Q ⟨ρ, τ, g, s, p⟩ => ⟨ρ, τ, g, s, p.thn fun ρ1 v H1 d g1 e1 r1 q1 p1 => ?_⟩
  cases (show d = v from q1)
  exact p1.at r1 rfl
theorem re_one {op} (h : RE X cn W a ma) : RE X cn W (.BoolOp op [a] pos) ma := pe_one h
theorem re_and (ha : RE X cn W a ma) (hb : RE X cn W (.BoolOp .And (b :: es) pos) mb) : RE X cn W (.BoolOp .And (a :: b :: es) pos) (mAnd ma mb) := by
  refine peI (pe_and ha hb) fun σ H Q ⟨ρ, τ, g, s, p⟩ => ⟨ρ, τ, g, s, p.thn fun ρ1 v H1 d g1 e1 r1 q1 p1 => ?_⟩
  cases q1 <;> first | exact p1.elim | skip
  rename_i k
  refine ⟨k, rfl, ?_⟩
  cases k with
  | true => exact ⟨ρ1, τ, g1, s.later e1 r1, p1⟩
  | false => exact p1.at r1 (.bl _)
theorem re_not (ha : RE X cn W a ma) : RE X cn W (.UnaryOp .Not a pos) (mUn fNotV ma) := by
  refine peI (pe_not ha) fun σ H Q ⟨ρ, τ, g, s, p⟩ => ⟨ρ, τ, g, s, p.thn fun ρ1 v H1 d g1 e1 r1 q1 p1 => ?_⟩
  cases q1 <;> first | exact p1.elim | exact ⟨_, rfl, p1.at r1 (.bl _)⟩
def fTup : List D → M D := fun l g => ck (l.length ≤ 1000) (.ok (.tup l) g)
def fLst : List D → M D := fun l g => ck (l.length ≤ 1000) (.ok (.ref g.length) (g ++ [.lst l]))
theorem re_tup {k} (h : RA X cn W es ml) : RE X cn W (.Tuple es k pos) (mUnA fTup ml) := by
  refine peI (pe_tup h) fun σ H Q ⟨ρ, τ, g, s, p⟩ => ⟨ρ, τ, g, s, p.thn fun ρ1 v H1 d g1 e1 r1 q1 p1 => ?_⟩
  obtain ⟨c, p1⟩ := Post.ck p1
  refine ⟨by rw [← RelDs.length q1]; exact Nat.le_of_lt (small1000 c), fun q hq => ?_⟩
  obtain ⟨ev, rp⟩ := Ev.new (o := .tup v) r1 hq
  exact p1 _ _ _ ev rp (.tup (.of upd_same) (ev.rels r1 q1))
theorem re_lst (h : RA X cn W es ml) : RE X cn W (.List es pos) (mUnA fLst ml) := by
  refine peI (pe_lst h) fun σ H Q ⟨ρ, τ, g, s, p⟩ => ⟨ρ, τ, g, s, p.thn fun ρ1 v H1 d g1 e1 r1 q1 p1 => ?_⟩
  obtain ⟨c, p1⟩ := Post.ck p1
  refine ⟨by rw [← RelDs.length q1]; exact Nat.le_of_lt (small1000 c), fun q hq => ?_⟩
  obtain ⟨ev, rp, hx⟩ := Ev.cnt (ob := .lst d) (o := .lst v) r1 hq fun e h => ⟨_, h, e.rels r1 q1⟩
  exact p1 _ _ _ ev rp (.ref hx)
def mDict0 : ME := fun _ g => .ok (.ref g.length) (g ++ [.dct false []])
theorem re_dict0 : RE X cn W (.Dict [] [] pos) mDict0 := by
  refine peI pe_dnewK fun σ H Q ⟨ρ, τ, g, s, p⟩ q hq => ?_
  obtain ⟨ev, rp, hx⟩ := Ev.cnt (ob := .dct false []) (o := .dK []) s.rep hq fun e h => ⟨_, h, .inl ⟨[], rfl, .nil⟩⟩
  exact p _ _ _ ev rp (.ref hx)
def optR (o : Option D) : M D := fun g => match o with
  | some d => .ok d g
  | none => .bad
@[simp] theorem optR_some (d : D) (g : G) : optR (some d) g = .ok d g := rfl
@[simp] theorem optR_none (g : G) : optR none g = .bad := rfl
/-- the classes cs have no such name of their own -/
def FldOk (K : PySem.W.Frag) (cn : Str → Addr) (cs : List Str) (f : Str) : Prop := fieldOk f = true ∧ ∀ c ∈ cs, Cls K (cn c) ∧ NoAttr K (cn c) f
def fFld (cs : List Str) (f : Str) : D → M D := fun x g => match x with
  | .ref n => match g[n]? with
    | some (.ins c' fs) => ck (c' ∈ cs) (optR (fs.lookup f) g)
    | _ => .bad
  | _ => .bad
theorem RelF.some_of {K : PySem.W.Frag} {ρ : List Addr} {H : Hp} {d : D} {o : Option V} (h : RelF K ρ H (some d) o) : ∃ v, o = some v ∧ RelD K ρ H d v := by
  cases o with
  | none => exact h.elim
  | some v => exact ⟨v, rfl, h⟩
theorem re_fld {cs : List Str} {f : Str} (hc : FldOk X.K cn cs f) (he : RE X cn W e me) (hb : attributeBase e f X.env (eval e X.env) = eval e X.env := by rfl) : RE X cn W (.Attribute e f pos) (mUn (fFld cs f) me) := by
  refine peI (pe_fld he hb) fun σ H Q ⟨ρ, τ, g, s, p⟩ => ⟨ρ, τ, g, s, p.thn fun ρ1 v H1 d g1 e1 r1 q1 p1 => ?_⟩
  unfold fFld at p1
  split at p1
  · split at p1
    · rename_i n _ c' fs hg
      obtain ⟨hm, p2⟩ := Post.ck p1
      obtain ⟨k1, k2⟩ := hc.2 _ hm
      cases hd : fs.lookup f with
      | some d' =>
        rw [hd] at p2
        cases q1 with
        | ref ha =>
          obtain ⟨dx, fs', h1, h3⟩ := r1.obs n _ _ hg ha
          have h4 := h3.val f
          rw [hd] at h4
          obtain ⟨w, h5, h6⟩ := h4.some_of
          exact ⟨_, _, dx, fs', w, rfl, h1, k1, k2, h5, Post.at (Rl := rD (ux X cn)) p2 r1 h6⟩
      | none =>
        rw [hd] at p2
        exact p2.elim
    · exact p1.elim
  · exact p1.elim
def fLen : List D → M D := fun l g => match l with
  | [x] => match items g x with
    | some l => .ok (.int (l.length : Nat)) g
    | none => .bad
  | _ => .bad
theorem s_len : SA (ux X cn) (fun xs H Q => ∃ p ys, xs = [.ref p] ∧ (SqL X.K H p ys ∨ SqT X.K H p ys) ∧ Q (.int ys.length) H) fLen := by
  intro W σ ρ H g x v Q r q p
  unfold fLen at p
  split at p
  · split at p
    · rename_i l hi
      cases q with
      | cons q1 q2 =>
        cases q2
        obtain ⟨xs, ⟨a, rfl, sq⟩, rs⟩ := items_sq r hi q1
        refine ⟨a, xs, rfl, sq, ?_⟩
        rw [← rs.length]
        exact p.at r (.int _)
    · exact p.elim
  · exact p.elim
theorem re_len {p2 : Pos} (hg : Gl X "len") (hm : X.mg "len" = none) (ha : RE X cn W a ma) (hs : starEach [a] X.env = (false, eval a X.env) :: starEach [] X.env := by rfl) : RE X cn W (.Call (.Name "len" p2) [a] [] pos) (mUnA fLen (mCons ma mNil)) :=
  re_callB (id := "len") call_len_seq s_len hg hm PySem.boot_len (ra_cons ha ra_nil hs) (he := hs)
def fInt : List D → M D := fun l g => match l with
  | [.int i] => .ok (.int i) g
  | [.bl b] => .ok (.int (if b = true then 1 else 0)) g
  | _ => .bad
theorem s_int : SA (ux X cn) (fun xs H Q => (∃ i, xs = [.int i] ∧ Q (.int i) H) ∨ ∃ k, xs = [.bl k] ∧ Q (.int (if k then 1 else 0)) H) fInt := by
  intro W σ ρ H g x v Q r q p
  unfold fInt at p
  split at p
  · cases q with
    | cons q1 q2 =>
      cases q2
      cases q1
      exact .inl ⟨_, rfl, p.at r (.int _)⟩
  · cases q with
    | cons q1 q2 =>
      cases q2
      cases q1
      exact .inr ⟨_, rfl, p.at r (.int _)⟩
  · exact p.elim
theorem re_intc {p2 : Pos} (hg : Gl X "int") (hm : X.mg "int" = none) (ha : RE X cn W a ma) (hs : starEach [a] X.env = (false, eval a X.env) :: starEach [] X.env := by rfl) : RE X cn W (.Call (.Name "int" p2) [a] [] pos) (mUnA fInt (mCons ma mNil)) :=
  re_callTy (id := "int") call_int1 s_int hg hm (by decide +kernel) (ra_cons ha ra_nil hs) (he := hs)
def fTuple : List D → M D := fun l g => match l with
  | [x] => match items g x with
    | some l => .ok (.tup l) g
    | none => .bad
  | _ => .bad
theorem s_tuple : SA (ux X cn) (fun xs H Q => ∃ p ys, xs = [.ref p] ∧ ((SqL X.K H p ys ∧ ∀ l, H l = none → Q (.ref l) (upd H l (.tup ys))) ∨ (SqT X.K H p ys ∧ Q (.ref p) H))) fTuple := by
  intro W σ ρ H g x v Q r q p
  unfold fTuple at p
  split at p
  · split at p
    · rename_i l hi
      cases q with
      | cons q1 q2 =>
        cases q2
        obtain ⟨xs, ⟨a, rfl, sq⟩, rs⟩ := items_sq r hi q1
        refine ⟨a, xs, rfl, ?_⟩
        rcases sq with sq | sq
        · refine .inl ⟨sq, fun t ht => ?_⟩
          obtain ⟨ev, rp⟩ := Ev.new (o := .tup xs) r ht
          exact p _ _ _ ev rp (.tup (.of upd_same) (ev.rels r rs))
        · exact .inr ⟨sq, p.at r (.tup sq rs)⟩
    · exact p.elim
  · exact p.elim
theorem re_tuple {p2 : Pos} (hg : Gl X "tuple") (hm : X.mg "tuple" = none) (ha : RE X cn W a ma) (hs : starEach [a] X.env = (false, eval a X.env) :: starEach [] X.env := by rfl) : RE X cn W (.Call (.Name "tuple" p2) [a] [] pos) (mUnA fTuple (mCons ma mNil)) :=
  re_callTy (id := "tuple") call_tuple_of s_tuple hg hm PyProof.Rows.boot_tuple (ra_cons ha ra_nil hs) (he := hs)
/-- True and False of a list -/
def bools : List D → Option (List Bool)
  | [] => some []
  | .bl b :: l => (bools l).map (b :: ·)
  | _ => none
theorem bools_rel {K : PySem.W.Frag} {ρ : List Addr} {H : Hp} : ∀ {l : List D} {vs : List V} {bs : List Bool}, RelDs K ρ H l vs → bools l = some bs → vs = bs.map V.bl
  | _, _, _, .nil, e => by cases e; rfl
  | d :: l, v :: vs, bs, .cons h t, e => by
    cases h <;> simp only [bools] at e <;> first | cases e | skip
    cases e1 : bools l with
    | none => rw [e1] at e; cases e
    | some b => rw [e1] at e; cases e; rw [List.map_cons, bools_rel t e1]
def fAny : List D → M D := fun l g => match l with
  | [.ref n] => match items g (.ref n) with
    | some l => match bools l with
      | some bs => .ok (.bl (bs.any id)) g
      | none => .bad
    | none => .bad
  | _ => .bad
theorem s_any : SA (ux X cn) (rAny X.K) fAny := by
  intro W σ ρ H g x v Q r q p
  unfold fAny at p
  split at p
  · split at p
    · rename_i l hi
      split at p
      · rename_i bs hb
        cases q with
        | cons q1 q2 =>
          cases q2
          cases q1 with
          | ref ha =>
            obtain ⟨xs, sq, rs⟩ := items_ref r hi ha
            have e := bools_rel rs hb
            subst e
            exact ⟨_, bs, rfl, sq, p.at r (.bl _)⟩
      · exact p.elim
    · exact p.elim
  · exact p.elim
theorem re_any {p2 : Pos} (hc : X.calm = true) (hg : Gl X "any") (hm : X.mg "any" = none) (ha : RE X cn W a ma) (hs : starEach [a] X.env = (false, eval a X.env) :: starEach [] X.env := by rfl) : RE X cn W (.Call (.Name "any" p2) [a] [] pos) (mUnA fAny (mCons ma mNil)) :=
  re_callB (id := "any") (cr_any hc) s_any hg hm (by decide +kernel) (ra_cons ha ra_nil hs) (he := hs)
end
end RL
namespace RL
open PySem L2
section
variable {U₀ : U} {W : WX} {α β : Type} {σ : St} {ρ ρ' : List Addr} {H H' : Hp} {g : G} {τ : T}
def PostS (U₀ : U) (W : WX) (ρ : List Addr) (H : Hp) (r : SR) (E : Ends) : Prop := match r with
  | .nx τ g => ∀ ρ' σ' H', Ev ρ H ρ' H' → Stt U₀ ρ' τ g σ' H' → E.nx σ' H'
  | .rt d g => ∀ ρ' v H', Ev ρ H ρ' H' → Rep U₀ ρ' H' g → RelD U₀.K ρ' H' d v → E.rt v H'
  | .bk τ g => ∀ ρ' σ' H', Ev ρ H ρ' H' → Stt U₀ ρ' τ g σ' H' → E.bk σ' H'
  | .ct τ g => ∀ ρ' σ' H', Ev ρ H ρ' H' → Stt U₀ ρ' τ g σ' H' → E.ct σ' H'
  | .ex e τ g => ∀ ρ' σ' H' cls d, Ev ρ H ρ' H' → Stt U₀ ρ' τ g σ' H' → XRel U₀ ρ' H' e cls d → W cls d σ' H'
  | .bad => False
theorem PostS.later {r : SR} {E : Ends} (p : PostS U₀ W ρ H r E) (e : Ev ρ H ρ' H') : PostS U₀ W ρ' H' r E := by
  cases r with
  | nx τ g => exact fun a b c e2 => p a b c (e.trans e2)
  | rt τ g => exact fun a b c e2 => p a b c (e.trans e2)
  | bk τ g => exact fun a b c e2 => p a b c (e.trans e2)
  | ct τ g => exact fun a b c e2 => p a b c (e.trans e2)
  | ex x τ g => exact fun a b c cls d e2 => p a b c cls d (e.trans e2)
  | bad => exact p
/-- an expression within a statement -/
def Res.st (r : Res α) (τ : T) (k : α → G → SR) : SR := match r with
  | .ok a g => k a g
  | .exc e g => .ex e τ g
  | .bad => .bad
@[simp] theorem Res.st_ok (a : α) (g : G) (k : α → G → SR) : (Res.ok a g).st τ k = k a g := rfl
@[simp] theorem Res.st_exc (e : Exc) (g : G) (k : α → G → SR) : (Res.exc e g : Res α).st τ k = .ex e τ g := rfl
@[simp] theorem Res.st_bad (k : α → G → SR) : (Res.bad : Res α).st τ k = .bad := rfl
theorem PostS.thn {Rl : RelT α β} {r : Res α} {k : α → G → SR} {E : Ends} {Q0 : β → Hp → Prop} (p : PostS U₀ W ρ H (r.st τ k) E) (s : Stt U₀ ρ τ g σ H)
    (h : ∀ (ρ1 : List Addr) (v : β) (H1 : Hp) (a : α) (g1 : G), Ev ρ H ρ1 H1 → Rep U₀ ρ1 H1 g1 → Rl ρ1 H1 a v → Stt U₀ ρ1 τ g1 σ H1 → PostS U₀ W ρ1 H1 (k a g1) E → Q0 v H1) : Post U₀ Rl W σ ρ H r Q0 := by
  cases r with
  | ok a g1 => exact fun ρ1 v H1 e1 r1 q => h ρ1 v H1 a g1 e1 r1 q (s.later e1 r1) (PostS.later p e1)
  | exc x g1 => exact fun ρ1 H1 cls d e1 r1 q => p ρ1 σ H1 cls d e1 (s.later e1 r1) q
  | bad => exact p
end
def tS (U₀ : U) (W : WX) (m : MS) : TS := fun E σ H => ∃ ρ τ g, Stt U₀ ρ τ g σ H ∧ PostS U₀ W ρ H (m τ g) E
def RS (X : Cx) (cn : Str → Addr) (W : WX) (st : Stmt) (m : MS) : Prop := PS X st (tS (ux X cn) W m)
def RSs (X : Cx) (cn : Str → Addr) (W : WX) (st : List Stmt) (m : MS) : Prop := PSs X st (tS (ux X cn) W m)
def mNext : MS := fun τ g => .nx τ g
def mSeq (a b : MS) : MS := fun τ g => match a τ g with
  | .nx τ' g' => b τ' g'
  | r => r
/-- what a target does with a value -/
abbrev MG := D → MS
def tG (U₀ : U) (W : WX) (m : MG) : TG := fun v σ H Q => ∃ ρ τ g d, Stt U₀ ρ τ g σ H ∧ RelD U₀.K ρ H d v ∧ PostS U₀ W ρ H (m d τ g) { nx := Q, rt := fun _ _ => False }
def RG (X : Cx) (cn : Str → Addr) (W : WX) (e : Expr) (m : MG) : Prop := PG X e (tG (ux X cn) W m)
def tGs (U₀ : U) (W : WX) (m : List D → MS) : TGs := fun v σ H Q => ∃ ρ τ g d, Stt U₀ ρ τ g σ H ∧ RelDs U₀.K ρ H d v ∧ PostS U₀ W ρ H (m d τ g) { nx := Q, rt := fun _ _ => False }
def RGs (X : Cx) (cn : Str → Addr) (W : WX) (e : List Expr) (m : List D → MS) : Prop := PGs X e (tGs (ux X cn) W m)
/-- a target gives no other end than the next statement -/
def onlyNx (r : SR) : SR := match r with
  | .nx τ g => .nx τ g
  | .ex e τ g => .ex e τ g
  | _ => .bad
def gN (i : Nat) : MG := fun d τ g => .nx (τ.set i (some d)) g
def gsNil : List D → MS := fun l τ g => match l with
  | [] => .nx τ g
  | _ => .bad
def gsCons (a : MG) (r : List D → MS) : List D → MS := fun l τ g => match l with
  | [] => .bad
  | d :: l => match a d τ g with
    | .nx τ' g' => r l τ' g'
    | _ => .bad
def gTupM (n : Nat) (m : List D → MS) : MG := fun d τ g => match d with
  | .tup l => if l.length = n then m l τ g else .bad
  | _ => .bad
def mAsg (m : ME) (t : MG) : MS := fun τ g => (m τ g).st τ fun d g1 => onlyNx (t d τ g1)
def mDrop (m : ME) : MS := fun τ g => (m τ g).st τ fun _ g1 => .nx τ g1
def mRet (m : ME) : MS := fun τ g => (m τ g).st τ fun d g1 => .rt d g1
def mIfS (c : MT) (a b : MS) : MS := fun τ g => (c τ g).st τ fun k g1 => if k = true then a τ g1 else b τ g1
section
variable {X : Cx} {cn : Str → Addr} {W : WX} {pos : Pos} {e o i c : Expr} {es : List Expr} {st : Stmt} {rest sa sb : List Stmt} {me mo mi : ME} {ma mb : MS} {mt : MT} {mg : MG} {mgs : List D → MS}
theorem rss_nil : RSs X cn W [] mNext := pssI pss_nil fun E σ H ⟨ρ, τ, g, s, p⟩ => p ρ σ H Ev.refl s
theorem rss_cons (h1 : RS X cn W st ma) (h2 : RSs X cn W rest mb) : RSs X cn W (st :: rest) (mSeq ma mb) := by
  refine pssI (pss_cons h1 h2) fun E σ H ⟨ρ, τ, g, s, p⟩ => ⟨ρ, τ, g, s, ?_⟩
  unfold mSeq at p
  cases h : ma τ g with
  | nx τ' g' =>
    rw [h] at p
    exact fun ρ' σ' H' e1 s1 => ⟨ρ', τ', g', s1, PostS.later p e1⟩
  | rt d g' => rw [h] at p; exact p
  | bk τ' g' => rw [h] at p; exact p
  | ct τ' g' => rw [h] at p; exact p
  | ex x τ' g' => rw [h] at p; exact p
  | bad => rw [h] at p; exact p
theorem rss_one (h1 : RS X cn W st ma) : RSs X cn W [st] ma := pss_one h1
theorem rs_expr (he : RE X cn W e me) (hs : swapsWith e none pos.line X.env = pure false := by rfl) : RS X cn W (.Expr e pos) (mDrop me) :=
  psI (ps_expr he hs) fun E σ H ⟨ρ, τ, g, s, p⟩ => ⟨ρ, τ, g, s, PostS.thn (Rl := rD (ux X cn)) p s fun ρ1 v H1 d g1 e1 r1 q1 s1 p1 => p1 ρ1 σ H1 Ev.refl s1⟩
theorem rs_ret (he : RE X cn W e me) : RS X cn W (.Return (some e) pos) (mRet me) :=
  psI (ps_ret he) fun E σ H ⟨ρ, τ, g, s, p⟩ => ⟨ρ, τ, g, s, PostS.thn (Rl := rD (ux X cn)) p s fun ρ1 v H1 d g1 e1 r1 q1 s1 p1 => p1 ρ1 v H1 Ev.refl r1 q1⟩
theorem rs_if (hc : RT X cn W c mt) (ha : RSs X cn W sa ma) (hb : RSs X cn W sb mb) : RS X cn W (.If c sa sb pos) (mIfS mt ma mb) := by
  refine psI (ps_if hc ha hb) fun E σ H ⟨ρ, τ, g, s, p⟩ => ⟨ρ, τ, g, s, PostS.thn (Rl := rB) p s fun ρ1 v H1 d g1 e1 r1 q1 s1 p1 => ?_⟩
  cases (show d = v from q1)
  cases v with
  | true => exact ⟨ρ1, τ, g1, s1, p1⟩
  | false => exact ⟨ρ1, τ, g1, s1, p1⟩
theorem rg_name {i : Nat} {x : Str} (hN : X.N.Nodup) (hi : X.N[i]? = some x) (hx : Loc X.env.scope x) (hf : X.fn x = true ∨ X.env.scope.names.lookup x = some .local := by first | exact .inl rfl | exact .inr rfl | assumption) : RG X cn W (.Name x pos) (gN i) := by
  refine ⟨fun pins s σ H v u Q I r ⟨ρ, τ, g, d, st, q, p⟩ => ?_⟩
  exact (pg_name hN hi hx hf).run pins s σ H v u Q I r (p ρ _ H Ev.refl (st.set q))
theorem rgs_nil : RGs X cn W [] gsNil := by
  refine ⟨fun pins s σ H v u Q I r ⟨ρ, τ, g, d, st, q, p⟩ => ?_⟩
  unfold gsNil at p
  split at p
  · cases q
    exact pgs_nil.run pins s σ H _ u Q I r ⟨rfl, p ρ σ H Ev.refl st⟩
  · exact p.elim
theorem rgs_cons (h1 : RG X cn W e mg) (h2 : RGs X cn W es mgs) (hs : (assignEach (e :: es) X.env).map (·.2) = assign e X.env :: (assignEach es X.env).map (·.2) := by rfl) : RGs X cn W (e :: es) (gsCons mg mgs) := by
  refine ⟨fun pins s σ H v u Q I r ⟨ρ, τ, g, d, st, q, p⟩ => ?_⟩
  unfold gsCons at p
  cases q with
  | nil => exact p.elim
  | @cons d v ds vs q1 q2 =>
    refine (pgs_cons h1 h2 hs).run pins s σ H _ u Q I r ⟨v, vs, rfl, ρ, τ, g, d, st, q1, ?_⟩
    dsimp only at p
    cases h : mg d τ g with
    | nx τ' g' =>
      rw [h] at p
      exact fun ρ' σ' H' e1 s1 => ⟨ρ', τ', g', ds, s1, e1.rels st.rep q2, PostS.later p e1⟩
    | _ => rw [h] at p; exact p.elim
theorem rg_tup {k : Nat} {n : Nat} (hc : X.calm = true) (h : RGs X cn W es mgs) (hn : (assignEach es X.env).length = n := by rfl) (hst : (assignEach es X.env).findIdx? (·.1) = none := by rfl) : RG X cn W (.Tuple es k pos) (gTupM n mgs) := by
  refine ⟨fun pins s σ H v u Q I r ⟨ρ, τ, g, d, st, q, p⟩ => ?_⟩
  unfold gTupM at p
  split at p
  · split at p
    · rename_i l hl
      cases q with
      | @tup _ a xs h1 h2 =>
        exact (pg_tup hc h hn hst).run pins s σ H _ u Q I r ⟨a, xs, rfl, h1, by rw [← h2.length]; exact hl, ρ, τ, g, l, st, h2, p⟩
    · exact p.elim
  · exact p.elim
theorem asg_imp : ∀ E σ H, tS (ux X cn) W (mAsg me mg) E σ H → tAsg (tE (ux X cn) W me) (tG (ux X cn) W mg) E σ H := by
  rintro E σ H ⟨ρ, τ, g, s, p⟩
  refine ⟨ρ, τ, g, s, PostS.thn (Rl := rD (ux X cn)) p s fun ρ1 v H1 d g1 e1 r1 q1 s1 p1 => ⟨ρ1, τ, g1, d, s1, q1, ?_⟩⟩
  cases h : mg d τ g1 with
  | nx τ' g' => rw [h] at p1; exact p1
  | ex x τ' g' => rw [h] at p1; exact p1
  | _ => rw [h] at p1; exact p1.elim
theorem rs_asg {tg : Expr} (he : RE X cn W e me) (hg : RG X cn W tg mg) (hs : swapsWithSole [tg] e pos.line X.env = pure false := by rfl) (hw : swappedStores [tg] e X.env = pure none := by rfl)
    (h1 : (assignEach [tg] X.env).map (·.2) = [assign tg X.env] := by rfl) : RS X cn W (.Assign [tg] e pos) (mAsg me mg) := psI (ps_asg he hg hs hw h1) asg_imp
theorem rs_set {i : Nat} {x : Str} {pos' : Pos} (hN : X.N.Nodup) (hi : X.N[i]? = some x) (hx : Loc X.env.scope x) (he : RE X cn W e me) (hs : swapsWith e (some (.Name x pos')) pos.line X.env = pure false := by rfl) (hf : X.fn x = true ∨ X.env.scope.names.lookup x = some .local := by first | exact .inl rfl | exact .inr rfl | assumption) :
    RS X cn W (.Assign [.Name x pos'] e pos) (mAsg me (gN i)) := by
  refine psI (ps_set hN hi hx he hs hf) fun E σ H ⟨ρ, τ, g, s, p⟩ => ⟨ρ, τ, g, s, PostS.thn (Rl := rD (ux X cn)) p s fun ρ1 v H1 d g1 e1 r1 q1 s1 p1 => ?_⟩
  exact p1 ρ1 _ H1 Ev.refl (s1.set q1)
def fSet (x k v : D) : G → Option G := fun g => match x with
  | .ref n => match g[n]? with
    | some (.lst l) => match k with
      | .int i => (ixN l.length i).map fun j => g.set n (.lst (l.set j v))
      | _ => none
    | some (.dct false kvs) => if kOk kvs k ∧ kvs.length ≤ 100000 then some (g.set n (.dct false (dput kvs k v))) else none
    | _ => none
  | _ => none
def gSubM (o i : ME) : MG := fun v τ g => (o τ g).st τ fun x g1 => (i τ g1).st τ fun k g2 => match fSet x k v g2 with
  | some g3 => .nx τ g3
  | none => .bad
def rSetA (U₀ : U) : TSet := fun o i v H Q => ∃ ρ g x k d, Rep U₀ ρ H g ∧ RelD U₀.K ρ H x o ∧ RelD U₀.K ρ H k i ∧ RelD U₀.K ρ H d v ∧ ∃ g', fSet x k d g = some g' ∧ ∀ H', Ev ρ H ρ H' → Rep U₀ ρ H' g' → Q H'
theorem set_all (hu : X.A.units + 1 < cLine) : PSet X (rSetA (ux X cn)) := by
  intro pins s σ H o i v ov iv u Q I ro ri rv ⟨ρ, g, x, k, d, R, qx, qk, qd, g', e, q⟩
  unfold fSet at e
  split at e
  · rename_i n
    split at e
    · rename_i l hn
      split at e
      · rename_i j
        obtain ⟨m, hm, rfl⟩ := Option.map_eq_some_iff.mp e
        cases qx with
        | ref ha =>
          cases qk
          obtain ⟨xs, h1, h2⟩ := R.lst hn ha
          refine set_list pins s σ H _ _ v ov iv u Q I ro ri rv ⟨_, xs, j, m, rfl, rfl, h1, by rw [← h2.length]; exact hm, ?_⟩
          obtain ⟨ev, rp⟩ := Ev.wr (ob := .lst (l.set m d)) (o := .lst (xs.set m v)) R ha (List.getElem?_eq_some_iff.mp hn).1 (fun _ _ z => by rw [h1] at z; cases z) fun e h => ⟨_, h, (e.rels R h2).set (e.rel R qd) m⟩
          exact q _ ev rp
      · cases e
    · rename_i kvs hn
      split at e
      · rename_i c
        cases e
        cases qx with
        | ref ha =>
          rename_i a
          cases (show ov = Value.ref a from ro)
          have w := view I R hn ha qk c.1
          have mu : Mut (H a) := by
            obtain ⟨w', h1, h2⟩ := R.obs n _ a hn ha
            rw [h1]
            rcases h2 with ⟨ks, rfl, _⟩ | ⟨ks, rfl, _⟩ <;> exact True.intro
          refine v_setItem hu I mu w ri (small_line c.2) qd rv fun o s' hd I' => ⟨_, I', ?_⟩
          obtain ⟨ev, rp⟩ := Ev.wr (ob := .dct false (dput kvs k d)) (o := o) R ha (List.getElem?_eq_some_iff.mp hn).1 (fun _ _ z => by rw [z] at mu; exact mu) fun e h => ⟨o, h, hd fun z => e.rel R z⟩
          exact q _ ev rp
      · cases e
    · cases e
  · cases e
theorem rg_sub (hu : X.A.units + 1 < cLine) (ho : RE X cn W o mo) (hi : RE X cn W i mi) (ha : ∀ v, assign (.Subscript o i pos) X.env v = (do
      let ov ← holding [v] (eval o X.env)
      let iv ← holding [v, ov] (eval i X.env)
      standAt pos
      holding [v, ov, iv] (setItem ov iv v)
      release [v, ov, iv] []) := by intro _; rfl) : RG X cn W (.Subscript o i pos) (gSubM mo mi) := by
  refine ⟨fun pins s σ H v u Q I r ⟨ρ, τ, g, d, st, q, p⟩ => ?_⟩
  refine (pg_sub ho hi (set_all (cn := cn) hu) ha).run pins s σ H v u Q I r ⟨ρ, τ, g, st, PostS.thn (Rl := rD (ux X cn)) p st fun ρ1 ov H1 x g1 e1 r1 q1 s1 p1 => ?_⟩
  refine ⟨ρ1, τ, g1, s1, PostS.thn (Rl := rD (ux X cn)) p1 s1 fun ρ2 iv H2 k g2 e2 r2 q2 s2 p2 => ?_⟩
  cases h : fSet x k d g2 with
  | none => rw [h] at p2; exact p2.elim
  | some g3 =>
    rw [h] at p2
    exact ⟨ρ2, g2, x, k, d, r2, e2.rel r1 q1, q2, e2.rel r1 (e1.rel st.rep q), g3, h, fun H' ev rp => p2 ρ2 σ H' ev (s2.later ev rp)⟩
def setF (f : Str) (d : D) : List (Str × D) → List (Str × D)
  | [] => [(f, d)]
  | (g, e) :: r => if g = f then (f, d) :: r else (g, e) :: setF f d r
theorem RelFs.put {K : PySem.W.Frag} {ρ : List Addr} {H : Hp} {d : D} {v : V} {f : Str} (k : fieldOk f = true) (q : RelD K ρ H d v) : ∀ {fs : List (Str × D)} {vs : List (Str × V)}, RelFs K ρ H fs vs → RelFs K ρ H (setF f d fs) (putF f v vs)
  | _, _, .nil => .cons k q .nil
  | _, _, .cons (f := g) k' h t => by
    unfold setF putF
    by_cases e : g = f
    · subst e
      simp only [if_true]
      exact .cons k q t
    · simp only [if_neg e]
      exact .cons k' h (RelFs.put k q t)
def fPut (cs : List Str) (f : Str) (x v : D) : G → Option G := fun g => match x with
  | .ref n => match g[n]? with
    | some (.ins c' fs) => if c' ∈ cs ∧ fs.length ≤ 300 then some (g.set n (.ins c' (setF f v fs))) else none
    | _ => none
  | _ => none
def mFldS (cs : List Str) (f : Str) (o v : ME) : MS := fun τ g => (v τ g).st τ fun d g1 => (o τ g1).st τ fun x g2 => match fPut cs f x d g2 with
  | some g3 => .nx τ g3
  | none => .bad
theorem rs_fld {cs : List Str} {f : Str} {pos' : Pos} {mv : ME} (hc : FldOk X.K cn cs f) (ho : RE X cn W o mo) (hv : RE X cn W e mv) (hs : swapsWith e (some (.Attribute o f pos')) pos.line X.env = pure false := by rfl) :
    RS X cn W (.Assign [.Attribute o f pos'] e pos) (mFldS cs f mo mv) := by
  refine psI (ps_fld ho hv hs) fun E σ H ⟨ρ, τ, g, s, p⟩ => ⟨ρ, τ, g, s, PostS.thn (Rl := rD (ux X cn)) p s fun ρ1 v H1 d g1 e1 r1 q1 s1 p1 => ?_⟩
  refine ⟨ρ1, τ, g1, s1, PostS.thn (Rl := rD (ux X cn)) p1 s1 fun ρ2 w H2 x g2 e2 r2 q2 s2 p2 => ?_⟩
  cases h : fPut cs f x d g2 with
  | none => rw [h] at p2; exact p2.elim
  | some g3 =>
    rw [h] at p2
    unfold fPut at h
    split at h
    · rename_i n
      split at h
      · rename_i c' fs hg
        split at h
        · rename_i cc
          obtain ⟨hm, hl⟩ := cc
          obtain ⟨k1, k2⟩ := hc.2 _ hm
          cases h
          cases q2 with
          | ref ha =>
            obtain ⟨dx, fs', h1, h3⟩ := r2.obs n _ _ hg ha
            refine ⟨_, _, dx, fs', rfl, h1, k1, k2, by rw [← h3.length]; omega, ?_⟩
            obtain ⟨ev, rp⟩ := Ev.wr (ob := .ins c' (setF f d fs)) (o := .ins (cn c') dx (putF f v fs')) r2 ha (List.getElem?_eq_some_iff.mp hg).1 (fun _ _ z => by rw [h1] at z; cases z) fun e h => ⟨dx, _, h, (h3.put hc.1 (e2.rel r1 q1)).mono fun z => e.rel r2 z⟩
            exact p2 ρ2 σ _ ev (s2.later ev rp)
        · cases h
      · cases h
    · cases h
end
end RL
namespace RL
open PySem L2
abbrev Src := List D × Option (Nat × Ob)
def still (c : Option (Nat × Ob)) (g : G) : Prop := match c with
  | none => True
  | some p => g[p.1]? = some p.2
instance (c : Option (Nat × Ob)) (g : G) : Decidable (still c g) := by
  unfold still
  cases c <;> infer_instance
structure Drw (U₀ : U) (ρ₀ : List Addr) (H₀ : Hp) (s : Src) (J : It) : Prop where
  go : ∀ (ρ : List Addr) (H : Hp) (g : G) (i : Nat) (d : D), Ev ρ₀ H₀ ρ H → Rep U₀ ρ H g → still s.2 g → s.1[i]? = some d → J.go i H ∧ ∀ x H', J.yld i H x H' → Ev ρ H ρ H' ∧ Rep U₀ ρ H' g ∧ RelD U₀.K ρ H' d x ∧ ∀ a o, H a = some o → H' a = some o
  stop : ∀ (ρ : List Addr) (H : Hp) (g : G), Ev ρ₀ H₀ ρ H → Rep U₀ ρ H g → still s.2 g → J.stop s.1.length H
def rI (U₀ : U) : RelT Src It := Drw U₀
abbrev MI := T → M Src
def tI (U₀ : U) (W : WX) (m : MI) : TI := fun σ H R => ∃ ρ τ g, Stt U₀ ρ τ g σ H ∧ Post U₀ (rI U₀) W σ ρ H (m τ g) R
def RI (X : Cx) (cn : Str → Addr) (W : WX) (tg iter : Expr) (m : MI) : Prop := PI X tg iter (tI (ux X cn) W m)
theorem piI {X : Cx} {tg e : Expr} {t t' : TI} (h : PI X tg e t) (i : ∀ σ H R, t' σ H R → t σ H R) : PI X tg e t' := ⟨fun pins s σ H R I q => h.run pins s σ H R I (i σ H R q)⟩
def forGo (c : Option (Nat × Ob)) (mg : MG) (mb : MS) : List D → MS
  | [], τ, g => if still c g then .nx τ g else .bad
  | d :: l, τ, g => if still c g then (match mg d τ g with
    | .nx τ1 g1 => (match mb τ1 g1 with
      | .nx τ2 g2 => forGo c mg mb l τ2 g2
      | .ct τ2 g2 => forGo c mg mb l τ2 g2
      | .bk τ2 g2 => .nx τ2 g2
      | r => r)
    | .ex e τ1 g1 => .ex e τ1 g1
    | _ => .bad) else .bad
def mFor (mi : MI) (mg : MG) (mb : MS) : MS := fun τ g => (mi τ g).st τ fun s g1 => forGo s.2 mg mb s.1 τ g1
section
variable {X : Cx} {cn : Str → Addr} {W : WX} {pos : Pos} {tg iter : Expr} {body : List Stmt} {mi : MI} {mg : MG} {mb : MS}
theorem rs_for (hp : PassesOwn (model X.prog X.w) X.A X.env X.xe) (hc : X.calm = true) (hi : RI X cn W tg iter mi) (hg : RG X cn W tg mg) (hb : RSs X cn W body mb) (hs : ∀ x, foldedSetIterable iter X.env x = pure x := by intro _; rfl) :
    RS X cn W (.For tg iter body [] pos) (mFor mi mg mb) := by
  refine psI (ps_for hp hc hi hg hb hs) fun E σ H ⟨ρ, τ, g, s, p⟩ => ⟨ρ, τ, g, s, PostS.thn (Rl := rI (ux X cn)) p s fun ρ1 J H1 src g1 e1 r1 dr s1 p1 => ?_⟩
  obtain ⟨l, c⟩ := src
  dsimp only at p1
  refine ⟨fun i m σ' H' => ∃ ρ' τ' g', m = l.length - i ∧ i ≤ l.length ∧ Ev ρ1 H1 ρ' H' ∧ Stt (ux X cn) ρ' τ' g' σ' H' ∧ PostS (ux X cn) W ρ' H' (forGo c mg mb (l.drop i) τ' g') E, ⟨l.length, ρ1, τ, g1, rfl, Nat.zero_le _, Ev.refl, s1, p1⟩, ?_⟩
  rintro i m σ' H' ⟨ρ', τ', g', rfl, hi, ev, st, ps⟩
  by_cases hlt : i < l.length
  · have hd : l.drop i = l[i] :: l.drop (i + 1) := List.drop_eq_getElem_cons hlt
    rw [hd] at ps
    unfold forGo at ps
    by_cases hst : still c g'
    · rw [if_pos hst] at ps
      obtain ⟨hgo, hy⟩ := dr.go ρ' H' g' i l[i] ev st.rep hst (List.getElem?_eq_getElem hlt)
      refine .inr ⟨hgo, fun σ2 H2 => ∃ ρ2 τ2 g2, Ev ρ1 H1 ρ2 H2 ∧ Stt (ux X cn) ρ2 τ2 g2 σ2 H2 ∧ PostS (ux X cn) W ρ2 H2 (forGo c mg mb (l.drop (i + 1)) τ2 g2) E, ?_, fun x H2 yl => ?_⟩
      · rintro σ2 H2 ⟨ρ2, τ2, g2, h1, h2, h3⟩
        exact ⟨l.length - (i + 1), by omega, ρ2, τ2, g2, rfl, hlt, h1, h2, h3⟩
      · obtain ⟨ev2, rp2, rd, _⟩ := hy x H2 yl
        have st2 := st.later ev2 rp2
        refine ⟨ρ', τ', g', l[i], st2, rd, ?_⟩
        cases hg' : mg l[i] τ' g' with
        | nx τ1 g2 =>
          rw [hg'] at ps
          dsimp only at ps
          intro ρ3 σ3 H3 ev3 st3
          refine ⟨ρ3, τ1, g2, st3, ?_⟩
          have ps3 := PostS.later (PostS.later ps ev2) ev3
          have evt := (ev.trans ev2).trans ev3
          cases hb' : mb τ1 g2 with
          | nx τ2 g3 =>
            rw [hb'] at ps3
            exact fun ρ4 σ4 H4 ev4 st4 => ⟨ρ4, τ2, g3, evt.trans ev4, st4, PostS.later ps3 ev4⟩
          | ct τ2 g3 =>
            rw [hb'] at ps3
            exact fun ρ4 σ4 H4 ev4 st4 => ⟨ρ4, τ2, g3, evt.trans ev4, st4, PostS.later ps3 ev4⟩
          | bk τ2 g3 => rw [hb'] at ps3; exact ps3
          | rt d g3 => rw [hb'] at ps3; exact ps3
          | ex x τ2 g3 => rw [hb'] at ps3; exact ps3
          | bad => rw [hb'] at ps3; exact ps3
        | ex x τ1 g2 =>
          rw [hg'] at ps
          exact PostS.later ps ev2
        | _ => rw [hg'] at ps; exact ps.elim
    · rw [if_neg hst] at ps
      exact ps.elim
  · have e : i = l.length := by omega
    subst e
    rw [List.drop_length] at ps
    unfold forGo at ps
    by_cases hst : still c g'
    · rw [if_pos hst] at ps
      exact .inl ⟨dr.stop ρ' H' g' ev st.rep hst, ps ρ' σ' H' Ev.refl st⟩
    · rw [if_neg hst] at ps
      exact ps.elim
/-- a list or a tuple -/
def srcSeq : D → M Src := fun x g => match x with
  | .tup l => .ok (l, none) g
  | .ref n => match g[n]? with
    | some (.lst l) => .ok (l, some (n, .lst l)) g
    | some (.rol l) => .ok (l, some (n, .rol l)) g
    | _ => .bad
  | _ => .bad
theorem drw_tup {u : U} {ρ : List Addr} {H : Hp} {g : G} {l : List D} {a : Addr} {xs : List V} (R : Rep u ρ H g) (h : SqT u.K H a xs) (rs : RelDs u.K ρ H l xs) : Drw u ρ H (l, none) (Itt u.K a) := by
  refine ⟨fun ρ' H' g' i d ev r _ hd => ?_, fun ρ' H' g' ev r _ => ?_⟩
  · obtain ⟨v, h1, h2⟩ := (ev.rels R rs).get hd
    refine ⟨⟨xs, v, ev.tup R h, h1⟩, fun x H2 ⟨e, q⟩ => ?_⟩
    subst e
    have := q xs (ev.tup R h)
    rw [h1] at this
    cases this
    exact ⟨Ev.refl, r, h2, fun _ _ z => z⟩
  · exact ⟨xs, ev.tup R h, by rw [← rs.length]; exact Nat.le_refl _⟩
theorem drw_lst {u : U} {ρ : List Addr} {H : Hp} {g : G} {l : List D} {n : Nat} {a : Addr} {ob : Ob} (ho : ob = .lst l ∨ ob = .rol l) (R : Rep u ρ H g) (ha : ρ[n]? = some a) : Drw u ρ H (l, some (n, ob)) (Itl u.K a) := by
  have at_ : ∀ (ρ' : List Addr) (H' : Hp) (g' : G), Ev ρ H ρ' H' → Rep u ρ' H' g' → still (some (n, ob)) g' → ∃ xs, SqL u.K H' a xs ∧ RelDs u.K ρ' H' l xs := fun ρ' H' g' ev r st => by
    have st' : g'[n]? = some ob := st
    rcases ho with rfl | rfl
    · obtain ⟨xs, h1, h2⟩ := r.lst st' (ev.ix n a ha)
      exact ⟨xs, .of h1, h2⟩
    · obtain ⟨xs, o, h1, h2⟩ := r.rol st' (ev.ix n a ha)
      exact ⟨xs, .inl (.inr ⟨o, h1⟩), h2⟩
  refine ⟨fun ρ' H' g' i d ev r st hd => ?_, fun ρ' H' g' ev r st => ?_⟩
  · obtain ⟨xs, h0, rs⟩ := at_ ρ' H' g' ev r st
    obtain ⟨v, h1, h2⟩ := rs.get hd
    refine ⟨⟨xs, v, h0, h1⟩, fun x H2 ⟨e, q⟩ => ?_⟩
    subst e
    have := q xs h0
    rw [h1] at this
    cases this
    exact ⟨Ev.refl, r, h2, fun _ _ z => z⟩
  · obtain ⟨xs, h0, rs⟩ := at_ ρ' H' g' ev r st
    exact ⟨xs, h0, by rw [← rs.length]; exact Nat.le_refl _⟩
/-- both in one -/
def iSeq (K : PySem.W.Frag) (tl : TE) : TI := fun σ H R => tl σ H fun x H1 => ∃ a, x = .ref a ∧ (((∃ xs, SqL K H1 a xs) ∧ R (Itl K a) H1) ∨ ((∃ xs, SqT K H1 a xs) ∧ R (Itt K a) H1))
theorem pi_seq {l : Expr} {tl : TE} (hl : PE X l tl) : PI X tg l (iSeq X.K tl) := by
  refine ⟨fun pins s σ H R I h => ?_⟩
  refine thn (hl.run pins s σ H _ I h) fun v s1 ⟨x, H1, I1, r1, q1⟩ => ?_
  obtain ⟨a, e, q⟩ := q1
  subst e
  cases r1
  rcases q with ⟨⟨xs, hq⟩, q⟩ | ⟨⟨xs, hq⟩, q⟩
  · obtain ⟨its, rv, p, hz⟩ := I1.list hq
    exact wpAny_pyIter_list p.isList (pi_one (tk := s1.toks) I1 _ (turn_list a _) ⟨_, Heap.get?_push_size _ rfl, rfl, rfl⟩ q)
  · obtain ⟨its, rv, p, hz⟩ := I1.tuple hq
    exact wpAny_pyIter_tuple (show s1.heap.IsTuple a its.toArray from p) (pi_one (tk := s1.toks) I1 _ (turn_tuple a _) ⟨_, Heap.get?_push_size _ rfl, rfl, rfl⟩ q)
def mSeqI (m : ME) : MI := fun τ g => (m τ g).bind srcSeq
theorem ri_seq {m : ME} (h : RE X cn W iter m) : RI X cn W tg iter (mSeqI m) := by
  refine piI (pi_seq h) fun σ H R ⟨ρ, τ, g, s, p⟩ => ⟨ρ, τ, g, s, p.thn fun ρ1 v H1 d g1 e1 r1 q1 p1 => ?_⟩
  unfold srcSeq at p1
  cases q1 <;> first | exact p1.elim | skip
  · rename_i l a xs h1 h2
    exact ⟨a, rfl, .inr ⟨⟨xs, h1⟩, Post.at (Rl := rI (ux X cn)) p1 r1 (drw_tup r1 h1 h2)⟩⟩
  · rename_i n a ha
    dsimp only at p1
    split at p1
    · rename_i l hg
      obtain ⟨xs, h1, h2⟩ := r1.lst hg ha
      exact ⟨a, rfl, .inl ⟨⟨xs, .of h1⟩, Post.at (Rl := rI (ux X cn)) p1 r1 (drw_lst (.inl rfl) r1 ha)⟩⟩
    · rename_i l hg
      obtain ⟨xs, o, h1, h2⟩ := r1.rol hg ha
      exact ⟨a, rfl, .inl ⟨⟨xs, .inl (.inr ⟨o, h1⟩)⟩, Post.at (Rl := rI (ux X cn)) p1 r1 (drw_lst (.inr rfl) r1 ha)⟩⟩
    · exact p1.elim
/-- range -/
def rng (lo : Int) (n : Nat) : List D := (List.range n).map fun i => .int (lo + (i : Nat))
theorem rng_get {lo : Int} {n i : Nat} {d : D} (h : (rng lo n)[i]? = some d) : i < n ∧ d = .int (lo + (i : Nat)) := by
  unfold rng at h
  rw [List.getElem?_map] at h
  obtain ⟨j, h1, rfl⟩ := Option.map_eq_some_iff.mp h
  have hi := (List.getElem?_eq_some_iff.mp h1)
  obtain ⟨h2, h3⟩ := hi
  rw [List.getElem_range] at h3
  subst h3
  exact ⟨by simpa using h2, rfl⟩
theorem drw_rng {u : U} {ρ : List Addr} {H : Hp} (lo : Int) (n : Nat) : Drw u ρ H (rng lo n, none) (Itr lo n) := by
  refine ⟨fun ρ' H' g' i d ev r _ hd => ?_, fun ρ' H' g' ev r _ => ?_⟩
  · obtain ⟨h1, rfl⟩ := rng_get hd
    refine ⟨h1, fun x H2 ⟨e, q⟩ => ?_⟩
    subst e q
    exact ⟨Ev.refl, r, .int _, fun _ _ z => z⟩
  · show n ≤ (rng lo n).length
    unfold rng
    rw [List.length_map, List.length_range]
    exact Nat.le_refl _
def srcR1 : List D → M Src := fun l g => match l with
  | [.int j] => ck (-(2 ^ 62) ≤ j ∧ j < 2 ^ 62) (.ok (rng 0 j.toNat, none) g)
  | _ => .bad
theorem ri_range1 {a : Expr} {ma : ME} {p : Pos} (hg : Gl X "range") (hm : X.mg "range" = none) (ha : RE X cn W a ma) (hs : starEach [a] X.env = [(false, eval a X.env)] := by rfl) : RI X cn W tg (.Call (.Name "range" p) [a] [] pos) (fun τ g => (mCons ma mNil τ g).bind srcR1) := by
  refine piI (pi_range1 hg hm (ra_cons ha ra_nil hs) hs) fun σ H R ⟨ρ, τ, g, s, p⟩ => ⟨ρ, τ, g, s, p.thn fun ρ1 v H1 d g1 e1 r1 q1 p1 => ?_⟩
  unfold srcR1 at p1
  split at p1
  · obtain ⟨c, p1⟩ := Post.ck p1
    cases q1 with
    | cons a b =>
      cases b
      cases a
      exact ⟨_, rfl, c.1, c.2, Post.at (Rl := rI (ux X cn)) p1 r1 (drw_rng 0 _)⟩
  · exact p1.elim
end
end RL
namespace RL
open PySem L2
/-- the target of a comprehension: a name, or names -/
inductive Tg where
  | one (i : Nat) | many (is : List Nat) | two (is : List Nat) (j : Nat)
def tgsV : List Nat → TGs
  | [] => gNil
  | i :: is => gCons (gName i) (tgsV is)
def tgV (K : PySem.W.Frag) : Tg → TG
  | .one i => gName i
  | .many is => gTup K is.length (tgsV is)
  | .two is j => gTup K 2 (gCons (gTup K is.length (tgsV is)) (gCons (gName j) gNil))
def setAll {α : Type} : List Nat → List α → List (Option α) → List (Option α)
  | i :: is, d :: ds, τ => setAll is ds (τ.set i (some d))
  | _, _, τ => τ
def tgM : Tg → D → T → Option T
  | .one i, d, τ => some (τ.set i (some d))
  | .many is, .tup l, τ => if l.length = is.length then some (setAll is l τ) else none
  | .many _, _, _ => none
  | .two is j, .tup [.tup l, x], τ => if l.length = is.length then some ((setAll is l τ).set j (some x)) else none
  | .two _ _, _, _ => none
def Tg.slots : Tg → List Nat
  | .one i => [i]
  | .many is => is
  | .two is j => is ++ [j]
def wipeT (τ : T) : List Nat → T
  | [] => τ
  | v :: vs => (wipeT τ vs).set v none
theorem wipe_set (σ : St) (i : Nat) (x : Option V) : ∀ vs : List Nat, i ∈ vs → wipe (σ.set i x) vs = wipe σ vs := by
  have aux : ∀ vs : List Nat, wipe (σ.set i x) vs = wipe σ vs ∨ wipe (σ.set i x) vs = (wipe σ vs).set i x := by
    intro vs
    induction vs with
    | nil => exact .inr rfl
    | cons v vs ih =>
      unfold wipe
      rcases ih with ih | ih
      · exact .inl (by rw [ih])
      · rw [ih]
        by_cases e : i = v
        · subst e
          exact .inl (by rw [List.set_set])
        · exact .inr (by rw [List.set_comm _ _ e])
  intro vs
  induction vs with
  | nil => intro h; simp at h
  | cons v vs ih =>
    intro h
    unfold wipe
    rcases List.mem_cons.mp h with rfl | h
    · rcases aux vs with z | z
      · rw [z]
      · rw [z, List.set_set]
    · rw [ih h]
theorem wipe_all (is : List Nat) : ∀ (ds : List V) (σ : St) (vs : List Nat), (∀ i ∈ is, i ∈ vs) → wipe (setAll is ds σ) vs = wipe σ vs := by
  induction is with
  | nil => intro ds σ vs _; rfl
  | cons i is ih =>
    intro ds σ vs h
    cases ds with
    | nil => rfl
    | cons d ds =>
      unfold setAll
      rw [ih ds _ vs fun j hj => h j (List.mem_cons_of_mem _ hj), wipe_set _ _ _ _ (h i List.mem_cons_self)]
theorem tgsV_all : ∀ (is : List Nat) (vs : List V) (σ : St) (H : Hp) (Q : St → Hp → Prop), vs.length = is.length → Q (setAll is vs σ) H → tgsV is vs σ H Q
  | [], [], σ, H, Q, _, q => ⟨rfl, q⟩
  | [], v :: vs, σ, H, Q, h, q => by simp at h
  | i :: is, [], σ, H, Q, h, q => by simp at h
  | i :: is, v :: vs, σ, H, Q, h, q => ⟨v, vs, rfl, tgsV_all is vs _ H Q (by simpa using h) q⟩
section
variable {U₀ : U} {ρ : List Addr} {τ : T} {g : G} {σ : St} {H : Hp}
theorem Stt.wipe (s : Stt U₀ ρ τ g σ H) : ∀ vs : List Nat, Stt U₀ ρ (wipeT τ vs) g (L2.wipe σ vs) H
  | [] => s
  | v :: vs => (s.wipe vs).none
theorem Stt.all {is : List Nat} : ∀ {ds : List D} {vs : List V} {τ : T} {σ : St}, Stt U₀ ρ τ g σ H → RelDs U₀.K ρ H ds vs → Stt U₀ ρ (setAll is ds τ) g (setAll is vs σ) H := by
  induction is with
  | nil => intro ds vs τ σ s _; exact s
  | cons i is ih =>
    intro ds vs τ σ s q
    cases q with
    | nil => exact s
    | cons h t => exact ih (s.set h) t
/-- the target takes its value -/
theorem tgM_two {is : List Nat} {j : Nat} {d : D} {τ τ' : T} (h : tgM (.two is j) d τ = some τ') : ∃ l x, d = .tup [.tup l, x] ∧ l.length = is.length ∧ τ' = (setAll is l τ).set j (some x) := by
  cases d with
  | tup L =>
    cases L with
    | nil => cases h
    | cons a L =>
      cases L with
      | nil => cases a <;> cases h
      | cons x L =>
        cases L with
        | nil =>
          cases a with
          | tup l =>
            have h : (if l.length = is.length then some ((setAll is l τ).set j (some x)) else none) = some τ' := h
            split at h
            · rename_i hl
              cases h
              exact ⟨l, x, rfl, hl, rfl⟩
            · cases h
          | _ => cases h
        | cons _ _ => cases a <;> cases h
  | _ => cases h
theorem tg_go {t : Tg} {own : List Nat} (ho : ∀ i ∈ t.slots, i ∈ own) {d : D} {v : V} {τ' : T} (s : Stt U₀ ρ τ g σ H) (q : RelD U₀.K ρ H d v) (h : tgM t d τ = some τ') {Q : St → Hp → Prop} (hq : ∀ σ', Stt U₀ ρ τ' g σ' H → L2.wipe σ' own = L2.wipe σ own → Q σ' H) : tgV U₀.K t v σ H Q := by
  cases t with
  | one i =>
    cases h
    exact hq _ (s.set q) (wipe_set _ _ _ _ (ho i (by simp [Tg.slots])))
  | many is =>
    cases d with
    | tup l =>
      have h : (if l.length = is.length then some (setAll is l τ) else none) = some τ' := h
      split at h
      · rename_i hl
        cases h
        cases q with
        | @tup _ a xs h1 h2 =>
          have hx : xs.length = is.length := by rw [← h2.length]; exact hl
          exact ⟨a, xs, rfl, h1, hx, tgsV_all is xs σ H Q hx (hq _ (s.all h2) (wipe_all is xs σ own ho))⟩
      · cases h
    | _ => cases h
  | two is j =>
    obtain ⟨l, x, rfl, hl, rfl⟩ := tgM_two h
    cases q with
    | @tup _ a xs h1 h2 =>
      cases h2 with
      | cons q1 qt =>
        cases qt with
        | cons q2 qn =>
          cases qn
          cases q1 with
          | @tup _ b ys h3 h4 =>
            have hx : ys.length = is.length := by rw [← h4.length]; exact hl
            refine ⟨a, _, rfl, h1, rfl, _, _, rfl, b, ys, rfl, h3, hx, tgsV_all is ys σ H _ hx ⟨_, _, rfl, rfl, ?_⟩⟩
            refine hq _ ((s.all h4).set q2) ?_
            rw [wipe_set _ _ _ _ (ho j (by simp [Tg.slots])), wipe_all is ys σ own fun i hi => ho i (by simp [Tg.slots, hi])]
/-- beside a thing that is not counted, which changes -/
theorem Ev.side {ρ ρ' : List Addr} {H H' : Hp} (e : Ev ρ H ρ' H') {a : Addr} (h : H a = none) (o : HO) : Ev ρ H ρ' (upd H' a o) := by
  refine ⟨e.pre, fun b z => ?_, fun b u z n => ?_, fun b u x z => ?_⟩
  · by_cases q : b = a
    · subst q; exact h
    · rw [upd_ne q] at z
      exact e.liv b z
  · rw [upd_ne (ne_of_none z h)]
    exact e.frm b u z n
  · rw [upd_ne (ne_of_none z h)]
    exact e.frz b u x z
theorem side_rel {K : PySem.W.Frag} {a : Addr} {xs : List V} {o : HO} (h : H a = some (.lst xs)) {d : D} {v : V} (r : RelD K ρ H d v) : RelD K ρ (upd H a o) d v :=
  r.mono (fun _ _ z => z) (fun b ys z => by
    rcases z with (z | ⟨ob, z⟩) | z
    · exact .inl (.inl (by rw [upd_ne (ne_of z h (by intro q; cases q))]; exact z))
    · exact .inl (.inr ⟨ob, by rw [upd_ne (ne_of z h (by intro q; cases q))]; exact z⟩)
    · exact .inr z) fun b ys z => by
    rcases z with ⟨ob, z⟩ | z
    · exact .inl ⟨ob, by rw [upd_ne (ne_of z h (by intro q; cases q))]; exact z⟩
    · exact .inr z
theorem Rep.side (r : Rep U₀ ρ H g) {a : Addr} {xs : List V} (o : HO) (h : H a = some (.lst xs)) (n : a ∉ ρ) : Rep U₀ ρ (upd H a o) g :=
  ⟨r.len, r.nod, fun i ob b e1 e2 => (r.obs i ob b e1 e2).mono (fun z => side_rel h z) (by
    have m : b ∈ ρ := List.mem_of_getElem? e2
    exact upd_ne (fun (z : b = a) => n (by rw [← z]; exact m)))⟩
theorem RelDs.side {K : PySem.W.Frag} {a : Addr} {xs : List V} {o : HO} (h : H a = some (.lst xs)) {d : List D} {v : List V} (r : RelDs K ρ H d v) : RelDs K ρ (upd H a o) d v := r.monoB fun z => side_rel h z
end
def lcGo (c : Option (Nat × Ob)) (t : Tg) (mt : MT) (me : ME) (τ₀ : T) : List D → List D → M (List D)
  | [], acc, g => if still c g then .ok acc g else .bad
  | d :: l, acc, g => if still c g then (match tgM t d τ₀ with
    | none => .bad
    | some τ1 => (match mt τ1 g with
      | .ok true g1 => (match me τ1 g1 with
        | .ok y g2 => if acc.length ≤ 100000 then lcGo c t mt me τ₀ l (acc ++ [y]) g2 else .bad
        | _ => .bad)
      | .ok false g1 => lcGo c t mt me τ₀ l acc g1
      | _ => .bad)) else .bad
def mLc (own : List Nat) (mi : MI) (t : Tg) (mt : MT) (me : ME) : ME := fun τ g => (mi τ g).bind fun s g1 => (lcGo s.2 t mt me (wipeT τ own) s.1 [] g1).bind fun l g2 => .ok (.ref g2.length) (g2 ++ [.lst l])
abbrev WN : WX := fun _ _ _ _ => False
def mYes : MT := fun _ g => .ok true g
section
variable {X : Cx} {cn : Str → Addr} {W : WX} {pos : Pos}
def RTs (X : Cx) (cn : Str → Addr) (W : WX) (ifs : List Expr) (m : MT) : Prop := PTs X ifs (tT (ux X cn) W m)
theorem rts_nil : RTs X cn W [] mYes := ⟨fun pins s σ H Q I ⟨ρ, τ, g, st, p⟩ => pts_nil.run pins s σ H Q I (p.at st.rep rfl)⟩
theorem rts_one {c : Expr} {m : MT} (h : RT X cn W c m) : RTs X cn W [c] m := pts_one h
theorem lc_imp {own : List Nat} {mi : MI} {t : Tg} {mt : MT} {me : ME} (ho : ∀ i ∈ t.slots, i ∈ own) : ∀ σ H Q, tE (ux X cn) W (mLc own mi t mt me) σ H Q → tLc (tI (ux X cn) W mi) (tgV X.K t) (tT (ux X cn) WN mt) (tE (ux X cn) WN me) own σ H Q := by
  rintro σ H Q ⟨ρ, τ, g, s, p⟩
  refine ⟨ρ, τ, g, s, p.thn fun ρ1 J H1 src g1 e1 r1 dr p1 => fun A hA => ?_⟩
  obtain ⟨l, c⟩ := src
  dsimp only at p1
  have s1 : Stt (ux X cn) ρ1 τ g1 σ H1 := s.later e1 r1
  refine ⟨fun i m H' => ∃ ρ' g' acc xs, m = l.length - i ∧ i ≤ l.length ∧ Ev ρ1 H1 ρ' H' ∧ Rep (ux X cn) ρ' H' g' ∧ A ∉ ρ' ∧ H' A = some (.lst xs) ∧ RelDs X.K ρ' H' acc xs ∧
    Post (ux X cn) (rD (ux X cn)) W σ ρ1 H1 ((lcGo c t mt me (wipeT τ own) (l.drop i) acc g').bind fun l g2 => .ok (.ref g2.length) (g2 ++ [.lst l])) Q, ?_, ?_⟩
  · obtain ⟨e2, r2⟩ := Ev.new (o := .lst []) r1 hA
    refine ⟨l.length, ρ1, g1, [], [], rfl, Nat.zero_le _, e2, r2, fun m => ?_, upd_same, .nil, p1⟩
    obtain ⟨o, ho⟩ := r1.tracked m
    rw [hA] at ho
    cases ho
  · rintro i m H' ⟨ρ', g', acc, xs, rfl, hi, ev, rp, nA, hx, rl, ps⟩
    by_cases hlt : i < l.length
    · have hd : l.drop i = l[i] :: l.drop (i + 1) := List.drop_eq_getElem_cons hlt
      rw [hd] at ps
      unfold lcGo at ps
      by_cases hst : still c g'
      · rw [if_pos hst] at ps
        obtain ⟨hgo, hy⟩ := dr.go ρ' H' g' i l[i] ev rp hst (List.getElem?_eq_getElem hlt)
        refine .inr ⟨hgo, fun H2 => ∃ ρ' g' acc xs, Ev ρ1 H1 ρ' H2 ∧ Rep (ux X cn) ρ' H2 g' ∧ A ∉ ρ' ∧ H2 A = some (.lst xs) ∧ RelDs X.K ρ' H2 acc xs ∧
          Post (ux X cn) (rD (ux X cn)) W σ ρ1 H1 ((lcGo c t mt me (wipeT τ own) (l.drop (i + 1)) acc g').bind fun l g2 => .ok (.ref g2.length) (g2 ++ [.lst l])) Q, ?_, fun x H2 yl => ?_⟩
        · rintro H2 ⟨ρ2, g2, acc2, xs2, h1, h2, h3, h4, h5, h6⟩
          exact ⟨l.length - (i + 1), by omega, ρ2, g2, acc2, xs2, rfl, hlt, h1, h2, h3, h4, h5, h6⟩
        · obtain ⟨ev2, rp2, rd, kp⟩ := hy x H2 yl
          have st2 : Stt (ux X cn) ρ' (wipeT τ own) g' (wipe σ own) H2 := (s1.later (ev.trans ev2) rp2).wipe own
          cases ht : tgM t l[i] (wipeT τ own) with
          | none => rw [ht] at ps; exact ps.elim
          | some τ1 =>
            rw [ht] at ps
            dsimp only at ps
            refine tg_go (U₀ := ux X cn) ho st2 rd ht fun σ2 st3 hw => ⟨?_, ?_⟩
            · rw [hw]
              have ww : ∀ (vs : List Nat), (∀ i ∈ vs, i ∈ own) → wipe (wipe σ own) vs = wipe σ own := by
                intro vs
                have ab : ∀ (ws : List Nat) (j : Nat), j ∈ ws → (wipe σ ws).set j none = wipe σ ws := by
                  intro ws
                  induction ws with
                  | nil => intro j h; simp at h
                  | cons w ws ih =>
                    intro j h
                    unfold wipe
                    rcases List.mem_cons.mp h with rfl | h
                    · rw [List.set_set]
                    · by_cases e : w = j
                      · subst e; rw [List.set_set]
                      · rw [List.set_comm _ _ e, ih j h]
                induction vs with
                | nil => intro _; rfl
                | cons v vs ih =>
                  intro h
                  show (wipe (wipe σ own) vs).set v none = wipe σ own
                  rw [ih fun i hi => h i (List.mem_cons_of_mem _ hi)]
                  exact ab own v (h v List.mem_cons_self)
              exact ww own fun i h => h
            · cases hm : mt τ1 g' with
              | bad => rw [hm] at ps; exact ps.elim
              | exc x g2 => rw [hm] at ps; exact ps.elim
              | ok b g2 =>
                rw [hm] at ps
                refine ⟨ρ', τ1, g', st3, ?_⟩
                rw [hm]
                intro ρ3 b' H3 ev3 rp3 q3
                cases (show b = b' from q3)
                have nA3 : A ∉ ρ3 := fun z => by
                  obtain ⟨⟨new, rfl, hn⟩, _, _, _⟩ := ev3
                  rcases List.mem_append.mp z with z | z
                  · exact nA z
                  · have := hn A z
                    rw [kp A _ hx] at this
                    cases this
                have hx3 : H3 A = some (.lst xs) := ev3.frm _ _ (kp A _ hx) nA
                have ev13 := (ev.trans ev2).trans ev3
                have rl3 := ev3.rels rp2 (ev2.rels rp rl)
                cases b with
                | false =>
                  rw [if_neg Bool.false_ne_true]
                  exact ⟨ρ3, g2, acc, xs, ev13, rp3, nA3, hx3, rl3, ps⟩
                | true =>
                  rw [if_pos rfl]
                  dsimp only at ps
                  refine ⟨ρ3, τ1, g2, st3.later ev3 rp3, ?_⟩
                  cases he : me τ1 g2 with
                  | bad => rw [he] at ps; exact ps.elim
                  | exc x g3 => rw [he] at ps; exact ps.elim
                  | ok y g3 =>
                    rw [he] at ps
                    dsimp only at ps
                    by_cases hz : acc.length ≤ 100000
                    · rw [if_pos hz] at ps
                      intro ρ4 v H4 ev4 rp4 q4
                      have nA4 : A ∉ ρ4 := fun z => by
                        obtain ⟨⟨new, rfl, hn⟩, _, _, _⟩ := ev4
                        rcases List.mem_append.mp z with z | z
                        · exact nA3 z
                        · have := hn A z
                          rw [hx3] at this
                          cases this
                      have hx4 : H4 A = some (.lst xs) := ev4.frm _ _ hx3 nA3
                      have rl4 := ev4.rels rp3 rl3
                      refine ⟨xs, hx4, by rw [← rl4.length]; exact small_line hz, ρ4, g3, acc ++ [y], xs ++ [v], (ev13.trans ev4).side hA _, rp4.side _ hx4 nA4, nA4, upd_same, ?_, ps⟩
                      exact (rl4.side hx4).app (.one (side_rel hx4 q4))
                    · rw [if_neg hz] at ps
                      exact ps.elim
      · rw [if_neg hst] at ps
        exact ps.elim
    · have e : i = l.length := by omega
      subst e
      rw [List.drop_length] at ps
      unfold lcGo at ps
      by_cases hst : still c g'
      · rw [if_pos hst] at ps
        refine .inl ⟨dr.stop ρ' H' g' ev rp hst, ?_⟩
        have len : (ρ' ++ [A])[g'.length]? = some A := by
          rw [List.getElem?_append_right (by rw [rp.len]; omega), rp.len, Nat.sub_self]
          rfl
        have ev' : Ev ρ1 H1 (ρ' ++ [A]) H' := by
          obtain ⟨⟨new, rfl, hn⟩, e2, e3, e4⟩ := ev
          exact ⟨⟨new ++ [A], by simp, fun a m => by
            rcases List.mem_append.mp m with m | m
            · exact hn a m
            · rw [List.mem_singleton.mp m]; exact hA⟩, e2, e3, e4⟩
        have ix : ∀ (n : Nat) (a : Addr), ρ'[n]? = some a → (ρ' ++ [A])[n]? = some a := fun n a h => by
          rw [List.getElem?_append_left (List.getElem?_eq_some_iff.mp h).1]
          exact h
        have mo : ∀ {d : D} {v : V}, RelD X.K ρ' H' d v → RelD X.K (ρ' ++ [A]) H' d v := fun z => z.mono ix (fun _ _ z => z) fun _ _ z => z
        refine ps (ρ' ++ [A]) _ H' ev' ⟨by simp [rp.len], ?_, fun j o a e1 e2 => ?_⟩ (.ref len)
        · refine List.nodup_append.mpr ⟨rp.nod, by simp, fun a ha b hb => ?_⟩
          rw [List.mem_singleton.mp hb]
          exact fun z => nA (z ▸ ha)
        · by_cases hj : j < g'.length
          · rw [List.getElem?_append_left hj] at e1
            rw [List.getElem?_append_left (by rw [rp.len]; exact hj)] at e2
            exact (rp.obs j o a e1 e2).mono (u := ux X cn) mo rfl
          · rw [List.getElem?_append_right (by omega)] at e1
            rw [List.getElem?_append_right (by rw [rp.len]; omega)] at e2
            have h0 : j - g'.length = 0 := by
              have := (List.getElem?_eq_some_iff.mp e1).1
              simpa using this
            rw [h0] at e1
            rw [rp.len, h0] at e2
            cases e1
            cases e2
            exact ⟨xs, hx, rl.monoB mo⟩
      · rw [if_neg hst] at ps
        exact ps.elim
theorem re_lc {elt tg iter : Expr} {ifs : List Expr} {scope : Scope} {own : List (Str × Nat)} {mi : MI} {t : Tg} {mt : MT} {me : ME} (hc : X.calm = true) (hN : X.N.Nodup) (hi : RI X cn W tg iter mi) (ok : BlkOk X.N X.env.scope scope own) (ho : ∀ i ∈ t.slots, i ∈ own.map (·.2))
    (hg : ∀ (s : Shared) (H : Hp) (C : Addr) (cl : List (Str × Addr)) (fp : List Addr), PG (X.blk s H scope (compEnvC scope cl C X.env) fp) tg (tgV X.K t)) (ht : ∀ (s : Shared) (H : Hp) (C : Addr) (cl : List (Str × Addr)) (fp : List Addr), RTs (X.blk s H scope (compEnvC scope cl C X.env) fp) cn WN ifs mt)
    (he : ∀ (s : Shared) (H : Hp) (C : Addr) (cl : List (Str × Addr)) (fp : List Addr), RE (X.blk s H scope (compEnvC scope cl C X.env) fp) cn WN elt me) (hs : ∀ x, foldedSetIterable iter X.env x = pure x := by intro _; rfl) :
    RE X cn W (.ListComp elt [⟨tg, iter, ifs, 0⟩] scope pos) (mLc (own.map (·.2)) mi t mt me) := peI (pe_lc (tt := tT (ux X cn) WN mt) (te := tE (ux X cn) WN me) hc hN hi ok hg (fun a b c d e => ht a b c d e) (fun a b c d e => he a b c d e) hs) (lc_imp ho)
theorem rs_setLc {i : Nat} {y : Str} {py spos : Pos} {elt tg iter : Expr} {ifs : List Expr} {scope : Scope} {own : List (Str × Nat)} {mi : MI} {t : Tg} {mt : MT} {me : ME} (hc : X.calm = true) (hN : X.N.Nodup) (hy : X.N[i]? = some y) (hyl : X.env.scope.names.lookup y = some .local)
    (hsw : swapsWith (.ListComp elt [⟨tg, iter, ifs, 0⟩] scope pos) (some (.Name y py)) spos.line X.env = pure true) (hi : RI X cn W tg iter mi) (ok : BlkOk X.N X.env.scope scope own) (ho : ∀ i ∈ t.slots, i ∈ own.map (·.2))
    (hg : ∀ (s : Shared) (H : Hp) (C : Addr) (cl : List (Str × Addr)) (fp : List Addr), PG (X.blk s H scope (compEnvC scope cl C X.env) fp) tg (tgV X.K t)) (ht : ∀ (s : Shared) (H : Hp) (C : Addr) (cl : List (Str × Addr)) (fp : List Addr), RTs (X.blk s H scope (compEnvC scope cl C X.env) fp) cn WN ifs mt)
    (he : ∀ (s : Shared) (H : Hp) (C : Addr) (cl : List (Str × Addr)) (fp : List Addr), RE (X.blk s H scope (compEnvC scope cl C X.env) fp) cn WN elt me) (hs : ∀ x, foldedSetIterable iter X.env x = pure x := by intro _; rfl) :
    RS X cn W (.Assign [.Name y py] (.ListComp elt [⟨tg, iter, ifs, 0⟩] scope pos) spos) (mAsg (mLc (own.map (·.2)) mi t mt me) (gN i)) := by
  refine psI (ps_setLc (tt := tT (ux X cn) WN mt) (te := tE (ux X cn) WN me) hc hN hy hyl hsw hi ok hg (fun a b c d e => ht a b c d e) (fun a b c d e => he a b c d e) hs) fun E σ H ⟨ρ, τ, g, s, p⟩ => lc_imp ho σ H _ ⟨ρ, τ, g, s, PostS.thn (Rl := rD (ux X cn)) p s fun ρ1 v H1 d g1 e1 r1 q1 s1 p1 => ?_⟩
  exact p1 ρ1 _ H1 Ev.refl (s1.set q1)
end
end RL
namespace RL
open PySem L2
open PyProof.Rows (envOfC)
theorem takesN0 {X : Cx} : L2N.Takes X fun _ _ _ _ => False := fun u s' ⟨_, _, _, _, _, _, _, _, _, _, _, _, _, _, _, _, w⟩ => w.elim
theorem passN {X : Cx} : Passes (L2N.CX X.prog X.w) X fun _ _ _ => False := fun _ _ _ _ _ _ _ ⟨_, _, _, _, _, _, _, _, _, _, _, _, w⟩ => w.elim
/-- what a context has, whose exceptions follow W -/
structure Fit (X : Cx) (W : WX) : Prop where
  tk : L2N.Takes X W
  pw : PassesOwn (model X.prog X.w) X.A X.env X.xe
  calm : X.calm = true
theorem Fit.blk {X : Cx} {W : WX} (F : Fit X W) {s : Shared} {H : Hp} {sc : Scope} {ce : Env} {fp : List Addr} : Fit (X.blk s H sc ce fp) WN := ⟨takesN0, PassesOwn.never, F.calm⟩
/-- a def follows mf -/
def spM (u : U) (n : Nat) (mf : List D → M D) : Sp := fun vs H Q E => ∃ ρ g ds, ds.length = n ∧ RelDs u.K ρ H ds vs ∧ Rep u ρ H g ∧ Post u (rD u) (fun cls d _ H' => E cls d H') [] ρ H (mf ds g) Q
def runF (N : Nat) (mb : MS) (ds : List D) : M D := fun g => match mb (ds.map some ++ List.replicate (N - ds.length) none) g with
  | .nx _ g' => .ok .non g'
  | .rt d g' => .ok d g'
  | .ex e _ g' => .exc e g'
  | _ => .bad
section
variable {P : Program} {w : World} {K : PySem.W.Frag} {mg : Str → Option Value} {base : Heap} {cn : Str → Addr}
theorem spM_len {u : U} {n : Nat} {mf : List D → M D} : ∀ vs H Q E, spM u n mf vs H Q E → vs.length = n := fun vs H Q E ⟨ρ, g, ds, h, r, _⟩ => by rw [← r.length, h]
theorem start_sl {ρ : List Addr} {H : Hp} {N : List Str} : ∀ {ds : List D} {vs : List V}, RelDs K ρ H ds vs → Sl K ρ H (ds.map some ++ List.replicate (N.length - ds.length) none) (start N vs) := by
  intro ds vs r i d h
  have hi : i < (ds.map some).length := by
    by_cases hi : i < (ds.map some).length
    · exact hi
    · rw [List.getElem?_append_right (by omega), List.getElem?_replicate] at h
      split at h <;> cases h
  rw [List.getElem?_append_left hi, List.getElem?_map] at h
  cases e : ds[i]? with
  | none => rw [e] at h; cases h
  | some d' =>
    rw [e] at h
    cases h
    obtain ⟨v, h1, h2⟩ := r.get e
    refine ⟨v, ?_, h2⟩
    unfold L2.start
    rw [List.getElem?_append_left (by rw [List.length_map, ← r.length]; simpa using hi), List.getElem?_map, h1]
    rfl
theorem start_stt {u : U} {ρ : List Addr} {H : Hp} {N : List Str} {ds : List D} {vs : List V} {g : G} (r : RelDs u.K ρ H ds vs) (R : Rep u ρ H g) : Stt u ρ (ds.map some ++ List.replicate (N.length - ds.length) none) g (start N vs) H :=
  ⟨by unfold L2.start; simp [r.length], start_sl r, R⟩
theorem run_post {u : U} {ρ : List Addr} {H : Hp} {r : SR} {Q : VK} {E : XK} (p : Post u (rD u) (fun cls d _ H' => E cls d H') [] ρ H (match r with
    | .nx _ g' => .ok .non g'
    | .rt d g' => .ok d g'
    | .ex e _ g' => .exc e g'
    | _ => .bad : Res D) Q) : PostS u (fun cls d _ H' => E cls d H') ρ H r { nx := fun _ H' => Q .non H', rt := Q } := by
  cases r with
  | nx τ g => exact fun ρ' σ' H' e s => p ρ' .non H' e s.rep .non
  | rt d g => exact fun ρ' v H' e R q => p ρ' v H' e R q
  | bk τ g => exact p.elim
  | ct τ g => exact p.elim
  | ex x τ g => exact fun ρ' σ' H' cls d e s q => p ρ' H' cls d e s.rep q
  | bad => exact p.elim
abbrev cxE (P : Program) (w : World) (K : PySem.W.Frag) (mg : Str → Option Value) (base : Heap) (N : List Str) (qual : Str) (sc : Scope) (f : Addr) (cdv : Value) (A : Around) (outer : List Env) (s : Shared) (H : Hp) (E : XK) : Cx := cxOf (L2N.CX P w) P w K mg base N qual sc f cdv A outer s H E
theorem fit_cx {N : List Str} {qual : Str} {sc : Scope} {f : Addr} {cdv : Value} {A : Around} {outer : List Env} {s : Shared} {H : Hp} {E : XK} : Fit (cxE P w K mg base N qual sc f cdv A outer s H E) (fun cls d _ H => E cls d H) := ⟨L2N.takes_of rfl rfl rfl rfl, passes_of rfl, rfl⟩
/-- what a def's body must be shown to do -/
def BodyM (P : Program) (w : World) (K : PySem.W.Frag) (mg : Str → Option Value) (base : Heap) (cn : Str → Addr) (k : Nat) (N : List Str) (qual : Str) (sc : Scope) (f : Addr) (body : List Stmt) (mb : MS) : Prop :=
  ∀ (cdv : Value) (A : Around) (outer : List Env) (s : Shared) (H : Hp) (E : XK), Room k (A.deeper (envOfC qual sc s.heap.objs.size f cdv)) → RSs (cxE P w K mg base N qual sc f cdv A outer s H E) cn (fun cls d _ H => E cls d H) body mb
theorem fun_ok {CX : CXT} {x qual : Str} {st : Stmt} {f : Addr} {fd : FuncData} {N ps : List Str} {k : Nat} {sp : Sp} (F : Fun K x qual st f fd) (S : FnScope N ps (defScope st)) (hl : ∀ vs H Q E, sp vs H Q E → vs.length = ps.length)
    (hb : ∀ (cdv : Value) (A : Around) (outer : List Env) (s : Shared) (H : Hp) (vs : List V) (Q : VK) (E : XK), Room k (A.deeper (envOfC qual (defScope st) s.heap.objs.size f cdv)) → sp vs H Q E → ∃ t, PSs (cxOf CX P w K mg base N qual (defScope st) f cdv A outer s H E) (defBody st) t ∧ t { nx := fun _ H' => Q .non H', rt := Q } (start N vs) H) :
    FnOk P w K mg base CX (k + 1) f fd ps sp := by
  obtain ⟨_, _, _, _, _, _, _, _, _, e, lk, hc⟩ := F.ex
  subst e
  exact fn_of lk hc S hl fun A outer s H vs Q E hr h => hb _ A outer s H vs Q E hr h
theorem fnM {x qual : Str} {st : Stmt} {f : Addr} {fd : FuncData} {N ps : List Str} {k : Nat} {mb : MS} (F : Fun K x qual st f fd) (S : FnScope N ps (defScope st))
    (hb : BodyM P w K mg base cn k N qual (defScope st) f (defBody st) mb) : FnOk P w K mg base (L2N.CX P w) (k + 1) f fd ps (spM ⟨K, cn, P, w⟩ ps.length (runF N.length mb)) :=
  fun_ok F S spM_len fun cdv A outer s H vs Q E hr h => ⟨_, hb cdv A outer s H E hr, by
    obtain ⟨ρ, g, ds, h1, h2, h3, h4⟩ := h
    exact ⟨ρ, _, g, start_stt h2 h3, run_post h4⟩⟩
/-- a def that is never run -/
theorem fn_bad {f : Addr} {fd : FuncData} {ps : List Str} {k : Nat} : FnOk P w K mg base (L2N.CX P w) k f fd ps (spM ⟨K, cn, P, w⟩ ps.length fun _ _ => .bad) :=
  ⟨spM_len, fun A outer s H args us vs Q E _ _ _ _ h => by
    obtain ⟨ρ, g, ds, h1, h2, h3, h4⟩ := h
    exact h4.elim⟩
/-- a def as its callers see it: n values are written, then stand the values es -/
structure DefM (P : Program) (w : World) (K : PySem.W.Frag) (mg : Str → Option Value) (base : Heap) (cn : Str → Addr) (k : Nat) (f : Addr) (n : Nat) (es : List D) (mf : List D → M D) : Prop where
  ok : ∃ (fd : FuncData) (ps : List Str) (bs : List Value) (dvs : List V), FnOk P w K mg base (L2N.CX P w) k f fd ps (spM ⟨K, cn, P, w⟩ (n + es.length) mf) ∧ Binds K fd ps bs ∧ Vals dvs bs ∧ ∀ ρ H, RelDs K ρ H es dvs
  kp : PySem.W.keepIn K (.ref f) = true
theorem DefM.mono {k j : Nat} {f : Addr} {n : Nat} {es : List D} {mf : List D → M D} (h : DefM P w K mg base cn j f n es mf) (l : j ≤ k) : DefM P w K mg base cn k f n es mf := by
  obtain ⟨fd, ps, bs, dvs, F, a, b, c⟩ := h.ok
  exact ⟨⟨fd, ps, bs, dvs, F.mono l, a, b, c⟩, h.kp⟩
theorem defM0 {k : Nat} {f : Addr} {fd : FuncData} {ps : List Str} {n : Nat} {mf : List D → M D} (F : FnOk P w K mg base (L2N.CX P w) k f fd ps (spM ⟨K, cn, P, w⟩ n mf)) (b : Binds K fd ps []) (kp : PySem.W.keepIn K (.ref f) = true) : DefM P w K mg base cn k f n [] mf :=
  ⟨⟨fd, ps, [], [], F, b, .nil, fun _ _ => .nil⟩, kp⟩
end
/-- called with the values x, behind which the values es stand -/
def fCall (n : Nat) (es : List D) (mf : List D → M D) : List D → M D := fun x g => ck (x.length = n) (mf (x ++ es) g)
/-- a method: its object is one of the classes cs -/
def isIns (cs : List Str) : D → G → Prop := fun x g => match x with
  | .ref n => match g[n]? with
    | some (.ins c _) => c ∈ cs
    | _ => False
  | _ => False
instance (cs : List Str) (x : D) (g : G) : Decidable (isIns cs x g) := by
  unfold isIns
  split
  · split <;> infer_instance
  · infer_instance
theorem isIns_at {cs : List Str} {x : D} {g : G} (h : isIns cs x g) : ∃ n c fs, x = .ref n ∧ g[n]? = some (.ins c fs) ∧ c ∈ cs := by
  unfold isIns at h
  split at h
  · split at h
    · rename_i hg
      exact ⟨_, _, _, rfl, hg, h⟩
    · exact h.elim
  · exact h.elim
section
variable {X : Cx} {cn : Str → Addr} {W : WX} {k n : Nat} {es : List D} {mf : List D → M D} {f : Addr} {x m : Str} {p pos apos : Pos} {e o : Expr} {el : List Expr} {ml : MA} {mo : ME}
theorem post_sp {σ : L2.St} {H : Hp} {Q : VK} {vs dvs : List V} {ρ : List Addr} {g : G} {ds : List D} (R : Rep (ux X cn) ρ H g) (q : RelDs X.K ρ H ds vs) (hv : RelDs X.K ρ H es dvs) (h : Post (ux X cn) (rD (ux X cn)) W σ ρ H (fCall n es mf ds g) Q) : spM ⟨X.K, cn, X.prog, X.w⟩ (n + es.length) mf (vs ++ dvs) H Q (WE W σ) := by
  obtain ⟨hl, h2⟩ := Post.ck h
  refine ⟨ρ, g, ds ++ es, by rw [List.length_append, hl], q.app hv, R, ?_⟩
  revert h2
  cases mf (ds ++ es) g <;> exact id
/-- the callee runs -/
theorem run_defM {pins : List (Addr × Obj)} {σ : St} {H : Hp} {s : Shared} {Q : VK} {us : List Value} {vs : List V} {ρ : List Addr} {g : G} {ds : List D} (Df : DefM X.prog X.w X.K X.mg X.base cn k f n es mf) (hr : Room k X.A) (tk : L2N.Takes X W)
    (I : Inv X pins σ H s) (r : Vals vs us) (R : Rep (ux X cn) ρ H g) (q : RelDs X.K ρ H ds vs) (h : Post (ux X cn) (rD (ux X cn)) W σ ρ H (fCall n es mf ds g) Q) : wpAny (model X.prog X.w) X.A (call (.ref f) us) (EP X pins σ Q) X.xe s := by
  obtain ⟨fd, ps, bs, dvs, Fn, hb, hd, hv⟩ := Df.ok
  exact run_fnSD (E := WE W) Fn hr hb hd (L2N.passAt tk σ) I r (post_sp R q (hv ρ H) h)
theorem re_call (F : Fit X W) (Df : DefM X.prog X.w X.K X.mg X.base cn k f n es mf) (hr : Room k X.A) (hg : Gl X x) (hm : X.mg x = some (.ref f)) (ha : RA X cn W (e :: el) ml) (hdb : (x == ("__debug__" : Str)) = false := by decide)
    (he : starEach (e :: el) X.env = (false, eval e X.env) :: starEach el X.env := by rfl) (hpl : (backTo pos (starEach el X.env)).any (·.1) = false := by rfl) : RE X cn W (.Call (.Name x p) (e :: el) [] pos) (mUnA (fCall n es mf) ml) := by
  obtain ⟨fd, ps, bs, dvs, Fn, hb, hd, hv⟩ := Df.ok
  exact peI (pe_callSD Fn hr hg hm Df.kp hb hd (fun σ => L2N.passAt F.tk σ) ha hdb he hpl) fun σ H Q ⟨ρ, τ, g, st, h⟩ => ⟨ρ, τ, g, st, h.thn fun ρ1 vs H1 ds g1 e1 r1 q1 p1 => post_sp r1 q1 (hv ρ1 H1) p1⟩
theorem re_call0 (F : Fit X W) (Df : DefM X.prog X.w X.K X.mg X.base cn k f n es mf) (hr : Room k X.A) (hg : Gl X x) (hm : X.mg x = some (.ref f)) (hdb : (x == ("__debug__" : Str)) = false := by decide) : RE X cn W (.Call (.Name x p) [] [] pos) (mUnA (fCall n es mf) mNil) :=
  ⟨fun pins s σ H Q I ⟨ρ, τ, g, st, h⟩ => wpAny_Call_Name_kw (ld_glob I hg hm (PySem.W.callWith_K0 I.kIn Df.kp (run_defM (us := []) Df hr F.tk I .nil st.rep .nil h)) hdb)⟩
/-- no error is let out -/
def noX {α : Type} : Res α → Res α
  | .exc _ _ => .bad
  | r => r
/-- a property -/
theorem re_prop {cs : List Str} {pr : Str → Addr} (F : Fit X W) (hP : ∀ c ∈ cs, Cls X.K (cn c) ∧ PropOf X.K (cn c) m (pr c) f) (D : DefM X.prog X.w X.K X.mg X.base cn k f 1 [] mf) (hr : Room (k + 1) X.A) (ho : RE X cn W o mo) (hab : attributeBase o m X.env (eval o X.env) = eval o X.env := by rfl) :
    RE X cn W (.Attribute o m pos) (fun τ g => (mo τ g).bind fun x g1 => ck (isIns cs x g1) (noX (mf [x] g1))) := by
  obtain ⟨fd, ps, bs, dvs, Fn, hb, hd, hv⟩ := D.ok
  refine ⟨fun pins s σ H Q I ⟨ρ, τ, g, st, h⟩ => ?_⟩
  refine attr_of hab (thn (ho.run pins s σ H (fun ov H1 => ∃ ρ1 g1 x, Stt (ux X cn) ρ1 τ g1 σ H1 ∧ RelD X.K ρ1 H1 x ov ∧ Post (ux X cn) (rD (ux X cn)) W σ ρ1 H1 (ck (isIns cs x g1) (noX (mf [x] g1))) Q) I ⟨ρ, τ, g, st, h.thn fun ρ1 v H1 d g1 e1 r1 q1 p1 => ⟨ρ1, g1, d, st.later e1 r1, q1, p1⟩⟩) fun u s1 ⟨ov, H1, I1, rx, ρ1, g1, x, st1, qx, p1⟩ => ?_)
  obtain ⟨hi, p2⟩ := Post.ck p1
  obtain ⟨i, c, fs, rfl, hg, hc⟩ := isIns_at hi
  cases qx with
  | ref hai =>
    rename_i a
    obtain rfl : u = Value.ref a := rx
    obtain ⟨dx, fs', h1, h3⟩ := st1.rep.obs i _ _ hg hai
    obtain ⟨c1, c2⟩ := hP c hc
    have hs : spM ⟨X.K, cn, X.prog, X.w⟩ (1 + ([] : List RL.D).length) mf (.ref a :: dvs) H1 Q E0 := by
      refine ⟨ρ1, g1, [.ref i], rfl, .cons (.ref hai) (hv ρ1 H1), st1.rep, ?_⟩
      revert p2
      cases mf [.ref i] g1 with
      | ok d g' => exact id
      | exc e g' => exact False.elim
      | bad => exact False.elim
    exact getprop_ok I1 h1 c1 c2 Fn hr hb hd passN hs
end
end RL
namespace RL
open PySem L2
open PyProof.Rows (envOfC)
def fMake (c : Str) (n : Nat) (es : List D) (mf : List D → M D) : List D → M D := fun l g => (noX (fCall (n + 1) es mf (.ref g.length :: l) (g ++ [.ins c []]))).bind fun d g2 => ck (d = .non) (.ok (.ref g.length) g2)
section
variable {X : Cx} {cn : Str → Addr} {W : WX} {k n : Nat} {es : List D} {mf : List D → M D} {f : Addr} {x m c : Str} {p pos apos : Pos} {e o : Expr} {el : List Expr} {ml : MA} {mo : ME}
/-- a new object, then its __init__, which lets no error out -/
theorem make_sp {σ : L2.St} {H : Hp} {Q : VK} {vs dvs : List V} {ρ : List Addr} {g : G} {ds : List D} {a dx : Addr} (R : Rep (ux X cn) ρ H g) (q : RelDs X.K ρ H ds vs) (hv : ∀ ρ H, RelDs X.K ρ H es dvs) (ha : H a = none) (hd : H dx = none) (ne : dx ≠ a)
    (h : Post (ux X cn) (rD (ux X cn)) W σ ρ H (fMake c n es mf ds g) Q) : spM ⟨X.K, cn, X.prog, X.w⟩ (n + 1 + es.length) mf (.ref a :: (vs ++ dvs)) (upd (upd H dx (.own a)) a (.ins (cn c) dx [])) (fun v H2 => v = .non ∧ Q (.ref a) H2) E0 := by
  obtain ⟨ev1, R1⟩ := Ev.new (o := .own a) R hd
  obtain ⟨ev2, R2, at2⟩ := Ev.cnt (o := .ins (cn c) dx []) (ob := .ins c []) R1 (p := a) (by rw [upd_ne (Ne.symm ne)]; exact ha) fun e z => ⟨_, _, z, .nil⟩
  have ev := ev1.trans ev2
  unfold fMake fCall at h
  by_cases hl : (D.ref g.length :: ds).length = n + 1
  · rw [ck_pos hl, List.cons_append] at h
    refine ⟨_, _, .ref g.length :: (ds ++ es), ?_, .cons (.ref at2) ((ev.rels R q).app (hv _ _)), R2, ?_⟩
    · have hl' : ds.length + 1 = n + 1 := hl
      rw [List.length_cons, List.length_append]
      omega
    · revert h
      cases mf (.ref g.length :: (ds ++ es)) (g ++ [.ins c []]) with
      | ok d g2 =>
        intro h
        obtain ⟨hd', h2⟩ := Post.ck (show Post (ux X cn) (rD (ux X cn)) W σ ρ H (ck (d = .non) (.ok (.ref g.length) g2)) Q from h)
        subst hd'
        intro ρ' v H' e' r' q'
        cases q'
        exact ⟨rfl, h2 ρ' _ H' (ev.trans e') r' (.ref (e'.ix _ _ at2))⟩
      | exc x g2 => exact fun h => h.elim
      | bad => exact fun h => h.elim
  · unfold ck at h
    rw [if_neg hl] at h
    exact h.elim
theorem re_make (F : Fit X W) (MK : Mk X.K (cn c) f) (Df : DefM X.prog X.w X.K X.mg X.base cn k f (n + 1) es mf) (hr : Room (k + 1) X.A) (hg : Gl X x) (hm : X.mg x = some (.ref (cn c))) (ha : RA X cn W (e :: el) ml) (hdb : (x == ("__debug__" : Str)) = false := by decide)
    (he : starEach (e :: el) X.env = (false, eval e X.env) :: starEach el X.env := by rfl) (hpl : (backTo pos (starEach el X.env)).any (·.1) = false := by rfl) : RE X cn W (.Call (.Name x p) (e :: el) [] pos) (mUnA (fMake c n es mf) ml) := by
  obtain ⟨fd, ps, bs, dvs, Fn, hb, hd, hv⟩ := Df.ok
  exact peI (pe_make MK Fn hr hg hm hb hd passN ha hdb he hpl) fun σ H Q ⟨ρ, τ, g, st, h⟩ => ⟨ρ, τ, g, st, h.thn fun ρ1 vs H1 ds g1 e1 r1 q1 p1 a dx h1 h2 h3 => make_sp r1 q1 hv h1 h2 h3 p1⟩
end
section
variable {X : Cx} {cn : Str → Addr} {W : WX} {k n : Nat} {ks : List Str} {gD : List D → List D → List D} {mf : List D → M D} {f : Addr} {x m c : Str} {p pos apos kpos : Pos} {e o : Expr} {el : List Expr} {kws : List Keyword} {ml mk : MA} {mo me : ME} {nm : Option Str}
end
section
variable {K : PySem.W.Frag} {x qual : Str} {params : Arguments} {body : List Stmt} {scope : Scope} {dvs : List V} {kws : List (Str × V)} {f : Addr} {fd : FuncData} {ps : List Str}
end
end RL
namespace PySem.W
open PySem PySem.Spec PySem.Calls PyProof.Rows Builtin Builtin.ObjectAttr
section
variable {prog : Program} {w : World} {A : Around} {E : Value → Shared → Prop} {K : Frag} {x D : Addr} {ox : Obj} {hp : Heap} {g : Array GenState} {d : Drawn} {t : Nat} {os : OsState}
theorem onB : onTheHeap (Value.builtin "BaseException.__getattribute__") = false := rfl
theorem neB : (Value.builtin "BaseException.__getattribute__" == Value.builtin "object.__getattribute__") = false := by decide +kernel
theorem open_exc {name : Str} {expr : Bool} {Q : Value → Shared → Prop} {gt : Option Value} (ty : Looks (model prog w) hp (typeOf (.ref x)) (.ref D)) (ga : Looks (model prog w) hp (typeLookup (.ref D) "__getattribute__") (some (.builtin "BaseException.__getattribute__"))) (gg : Looks (model prog w) hp (typeLookup (.ref D) "__getattr__") gt)
    {v : Value} {s2 : Shared} (hv : handedIn v = true) (h : wpAny (model prog w) A (call (.builtin "BaseException.__getattribute__") [.ref x, .str name t]) (fun a s' => a = v ∧ s' = s2) (fun _ _ => False) ⟨hp, g, d, t + 1, os⟩) (q : Q v s2) : wpAny (model prog w) A (getAttr (.ref x) name expr) Q E ⟨hp, g, d, t, os⟩ := by
  have on : onTheHeap (Value.ref D) = true := rfl
  unfold getAttr getAttrBy
  refine wpAny_bind (wpAny_mkText ?_)
  repeat lk
  simp only [on, neB, Bool.and_false, Bool.false_eq_true, if_false]
  refine wpAny_attempt (m := holding gt.toList (callGetattribute (.ref x) (.str name t) (.builtin "BaseException.__getattribute__") expr)) (wpAny_holding ?_)
  have e1 : callGetattribute (.ref x) (.str name t) (.builtin "BaseException.__getattribute__") expr = call (.builtin "BaseException.__getattribute__") [.ref x, .str name t] := by
    unfold callGetattribute boundAndCalled
    simp only [onB, Bool.and_false, Bool.false_eq_true, if_false]
    rw [PySem.F.excAttr_ValueError.ga.bind (.ref x)]
    rfl
  rw [e1]
  refine wpAny_mono h (fun a s' ⟨e2, e3⟩ => ?_) fun _ _ z => z.elim
  subst e2
  subst e3
  show wpAny _ _ (handedOut a) Q E s'
  rw [handedOut_of hv]
  exact wpAny_pure q
theorem body_exc {name : Str} {f o : Value} {ox : Obj} {R : Result → Shared → Prop} (I : InstAt hp x ox D none) (X : K.In hp) (sub : subIn K (.ref D) (.type "BaseException") = some true) (hf : findObj K D none name = some (.bind f o)) {v : Value} (hv : handedIn v = true)
    (hc : ∀ {R : Result → Shared → Prop} {A : Around}, R (.ok (.ret v)) ⟨hp, g, d, t + 1, os⟩ → codeAny (model prog w) A (.call f ⟨[o, .ref x, .ref D], []⟩) R ⟨hp, g, d, t + 1, os⟩) :
    wpAny (model prog w) A (call (.builtin "BaseException.__getattribute__") [.ref x, .str name t]) (fun a s' => a = v ∧ s' = ⟨hp, g, d, t + 1, os⟩) (fun _ _ => False) ⟨hp, g, d, t + 1, os⟩ := by
  have ty := I.type (M := model prog w)
  have fnd := looks_find (M := model prog w) X I hf
  have isE : Looks (model prog w) hp (isInstance (.ref x) (.type "BaseException")) true := ty.andThen (looks_subIn X sub)
  have ga := PySem.F.excAttr_ValueError.ga
  have chk : ∀ {A : Around} {E : Value → Shared → Prop} {Q : Unit → Shared → Prop}, Q () ⟨hp, g, d, t + 1, os⟩ → wpAny (model prog w) A (checkBuiltinCall "BaseException.__getattribute__" ⟨[.ref x, .str name t], []⟩) Q E ⟨hp, g, d, t + 1, os⟩ := fun q =>
    check_slot (i := "BaseException.__getattribute__") (owner := "BaseException") (n := "__getattribute__") (s := ⟨hp, g, d, t + 1, os⟩) (by decide +kernel) (by decide +kernel) isE (PySem.F.args_bexc_ga _ _) q
  refine wpAny_call (codeAny_call_builtin ga.plain PySem.F.entry_bexc_ga (chk ?_))
  have sa : slotArgs "__getattribute__" 1 ⟨[.ref x, .str name t], []⟩ = pure (.ref x, [.str name t]) := by
    first | rfl | (simp only [slotArgs]; rfl)
  unfold Builtin.«object.__getattribute__»
  rw [sa]
  refine wpAny_bind (wpAny_pure (wpAny_bind (wpAny_pure (wpAny_bind (ty.at (wpAny_bind (fnd.at ?_)))))))
  show wpAny _ _ (bindTo f o (.ref x) (.ref D)) _ _ _
  unfold bindTo
  refine wpAny_bind (wpAny_holding (wpAny_call (hc ?_)))
  exact wpAny_pure ⟨rfl, rfl⟩
structure NamC (K : Frag) (D : Addr) (nm : Str) : Prop where
  ga : findIn K (.ref D) "__getattribute__" = some (some (.builtin "BaseException.__getattribute__"))
  gg : findIn K (.ref D) "__getattr__" = some none
  exC : subIn K (.ref D) (.type "BaseException") = some true
  hdC : hasDictIn K D = true
  cl : findIn K (.ref D) "__class__" = some (some (.builtin "object.__class__"))
  sp : specialIn K (.builtin "object.__class__") "__get__" = some (some (.builtin "getset_descriptor.__get__"))
  tk : takesIn K (.builtin "object.__class__") = some true
  mr : mroIn K D (.type "object") = some true
  rd : readsIn K D (.type "type") = true
  nn : findCls K (.ref D) (.type "type") "__name__" = some (.get (.builtin "getset_descriptor.__get__") (.builtin "type.__name__") (.ref D) (.type "type"))
  sl : ∃ o tk, K.lookup D = some o ∧ o.slots[2]? = some (some (.str nm tk))
theorem cn_class {nm : Str} {expr : Bool} {s : Shared} {Q : Value → Shared → Prop} (T : NamC K D nm) (X : K.In s.heap) (I : InstAt s.heap x ox D none) (q : Q (.ref D) { s with toks := s.toks + 1 }) : wpAny (model prog w) A (getAttr (.ref x) "__class__" expr) Q E s := by
  have hf : findObj K D none "__class__" = some (.bind (.builtin "getset_descriptor.__get__") (.builtin "object.__class__")) := findObj_dataN (Option.isSome_iff_exists.mpr ⟨_, (any_some T.hdC).choose_spec.1⟩) T.cl T.sp T.tk
  obtain ⟨h0, g0, d0, t0, o0⟩ := s
  exact open_exc I.type (looks_findIn X T.ga) (looks_findIn X T.gg) rfl (body_exc (R := fun _ _ => True) I X T.exC hf rfl fun r => class_get (s := ⟨h0, g0, d0, t0 + 1, o0⟩) X I T.mr r) q
/-- the name, kept in the class's own slot -/
theorem cn_get {nm : Str} {tk : Tok} {o : Obj} {s : Shared} {R : Result → Shared → Prop} (X : K.In s.heap) (ty : typeIn K (.ref D) = some (.type "type")) (l : K.lookup D = some o) (hs : o.slots[2]? = some (some (.str nm tk))) (q : R (.ok (.ret (.str nm tk))) s) :
    codeAny (model prog w) A (.call (.builtin "getset_descriptor.__get__") ⟨[.builtin "type.__name__", .ref D, .type "type"], []⟩) R s := by
  have tD := looks_typeIn (M := model prog w) X ty
  have tt : Looks (model prog w) s.heap (isSubtype (.type "type") (.type "type")) true := .of_pure (by rw [isSubtype_type]; kernel_rfl)
  have gs := KF.slot_gs
  refine codeAny_call_builtin gs.plain KF.entry_gs (gs.check _ _ _ _ _ _ _ _ ktyn_type (KF.args_gs _ _ _) ?_)
  unfold Builtin.«getset_descriptor.__get__» Builtin.Getset_descriptor.descrGet
  rw [dga_obj, pure_bind]
  show wpAny _ _ (Builtin.Getset_descriptor.descrGetter (.builtin "type.__name__") (some (.ref D))) _ _ _
  unfold Builtin.Getset_descriptor.descrGetter Builtin.Getset_descriptor.descrCheckInstance Builtin.Getset_descriptor.descrNameAndClass isInstance
  simp only [ktyn_owner]
  obtain ⟨h0, g0, d0, t0, o0⟩ := s
  repeat lk
  refine And.intro (Code.quiet_builtin _ (by decide +kernel)) (codeAny_builtin ktyn_entry ?_)
  unfold Builtin.«type.__name__» keptObject slotAt
  dsimp only
  refine wpAny_bind (wpAny_bind (wpAny_loadPart (X _ _ l) ?_))
  refine wpAny_pure ?_
  rw [hs]
  exact wpAny_pure q
end
end PySem.W
namespace RL
open PySem L2
open PyProof.Rows (envOfC)
def tCN (K : PySem.W.Frag) (to : TE) : TE := fun σ H Q => to σ H fun x H1 => ∃ a C nm, x = .ref a ∧ H1 a = some (exo a C none) ∧ PySem.W.NamC K C nm ∧ Q (.str nm) H1
theorem pe_cname {X : Cx} {o : Expr} {to : TE} {p1 p2 : Pos} (ho : PE X o to) (hb1 : attributeBase o "__class__" X.env (eval o X.env) = eval o X.env := by rfl)
    (hb2 : attributeBase (.Attribute o "__class__" p1) "__name__" X.env (eval (.Attribute o "__class__" p1) X.env) = eval (.Attribute o "__class__" p1) X.env := by rfl) : PE X (.Attribute (.Attribute o "__class__" p1) "__name__" p2) (tCN X.K to) := by
  refine ⟨fun pins s σ H Q I h => ?_⟩
  refine attr_of hb2 (attr_of hb1 (thn (ho.run pins s σ H _ I h) fun u s1 ⟨x, H1, I1, rx, a, C, nm, ex, ea, T, q⟩ => ?_))
  subst ex
  obtain rfl : u = Value.ref a := rx
  obtain ⟨t1, he⟩ := exo_at I1.hok ea
  refine PySem.W.cn_class T I1.kIn ⟨he, rfl, by unfold PySem.W.notCls; rfl, trivial⟩ ?_
  have I2 := I1.tok (s1.toks + 1)
  obtain ⟨o, tk, l, hs⟩ := T.sl
  refine PySem.W.cls_read I2.kIn T.rd T.nn ?_
  have ty : PySem.W.typeIn X.K (.ref C) = some (.type "type") := by
    have := T.rd
    simp only [PySem.W.readsIn, Bool.and_eq_true, beq_iff_eq] at this
    exact this.1.1.1.2
  show wpAny _ _ (do ret (← holding [Value.builtin "type.__name__"] (call (.builtin "getset_descriptor.__get__") [.builtin "type.__name__", .ref C, .type "type"]))) _ _ _
  refine wpAny_bind (PySem.wpAny_holding (wpAny_call (PySem.W.cn_get (I2.tok _).kIn ty l hs ?_)))
  refine wpAny_pure ?_
  show wpAny _ _ (handedOut (.str nm tk)) _ _ _
  rw [PySem.W.handedOut_of rfl]
  exact wpAny_pure ⟨.str nm, H1, I2.tok _, ⟨tk, rfl⟩, q⟩
def leafOk : D → Bool
  | .non => true
  | .bl _ => true
  | .str _ => true
  | _ => false
def wOk : D → Bool
  | .non => true
  | .str _ => true
  | .tup l => l.all leafOk && decide (l.length ≤ 20)
  | _ => false
def rowOk : D → Bool
  | .non => true
  | .int i => decide (0 ≤ i) && decide (i ≤ 1000000)
  | _ => false
theorem sOk_repr {x : Str} (h : sOk x = true) : (reprText x).length ≤ 10002 := by
  unfold sOk at h
  simp only [Bool.and_eq_true, decide_eq_true_eq] at h
  have h1 := StrLaws.reprText_len x fun c hc => by
    have h2 := h.1
    unfold PyData.strOk at h2
    rw [Array.all_eq_true_iff_forall_mem] at h2
    have h3 := of_decide_eq_true (h2 c (Array.mem_def.mpr hc))
    omega
  omega
section
variable {K : PySem.W.Frag} {ρ : List Addr} {H : Hp} {P : Program} {w : World}
theorem leaf_repr {d : D} {v : V} {u : Value} (h : leafOk d = true) (r : RelD K ρ H d v) (rv : RelV v u) : ∃ t, ReprIs P w u t ∧ t.length ≤ 10002 := by
  cases r with
  | non => cases rv; exact ⟨_, ReprIs.none, by decide⟩
  | bl b => cases rv; exact ⟨_, ReprIs.bool b, by cases b <;> decide⟩
  | str hs =>
    obtain ⟨t, rfl⟩ := rv
    have := sOk_repr hs
    exact ⟨_, ReprIs.str _ t (by rw [sizeLine_eq]; omega), this⟩
  | int i => exact absurd h (by simp [leafOk])
  | tup a b => exact absurd h (by simp [leafOk])
  | kl a b => exact absurd h (by simp [leafOk])
  | ref a => exact absurd h (by simp [leafOk])
theorem leaves_repr : ∀ {l : List D} {vs : List V} {us : List Value}, l.all leafOk = true → RelDs K ρ H l vs → Vals vs us → ∃ ts, ReprAll P w us ts ∧ piled ts ≤ l.length * 10004
  | _, _, _, _, .nil, .nil => ⟨[], .nil, by simp [piled]⟩
  | _, _, _, h, .cons q1 q2, .cons r1 r2 => by
    simp only [List.all_cons, Bool.and_eq_true] at h
    obtain ⟨t, h1, h2⟩ := leaf_repr (P := P) (w := w) h.1 q1 r1
    obtain ⟨ts, h3, h4⟩ := leaves_repr h.2 q2 r2
    refine ⟨t :: ts, .cons h1 h3, ?_⟩
    rw [piled_cons, List.length_cons]
    omega
end
/-- {x!r} of what an error is made with: some text -/
def tFmtW (K : PySem.W.Frag) (te : TE) : TE := fun σ H Q => te σ H fun x H1 => ∃ ρ d, RelD K ρ H1 d x ∧ wOk d = true ∧ ∀ m : Str, m.length ≤ 300000 → Q (.str m) H1
theorem pe_fmtW {X : Cx} {e : Expr} {te : TE} {pos : Pos} {k : Nat} (hr : Room k X.A) (he : PE X e te) : PE X (.FormattedValue e 114 none pos) (tFmtW X.K te) := by
  refine ⟨fun pins s σ H Q I h => ?_⟩
  refine wpAny_FormattedValue_repr (thn (he.run pins s σ H _ I h) fun v s1 hv => ?_)
  obtain ⟨x, H1, I1, r1, ρ, d, q, hw, hq⟩ := hv
  cases q with
  | non =>
    cases r1
    refine pyReprObj_none (wpAny_formatField_str ⟨.str "None", H1, I1.tok _, ⟨_, rfl⟩, hq _ (by decide)⟩ ⟨.str "None", H1, I1.tok _, ⟨_, rfl⟩, hq _ (by decide)⟩ (by decide))
  | @str y hs =>
    obtain ⟨t, rfl⟩ := r1
    have hz := sOk_repr hs
    have hz2 : (reprText y).length ≤ sizeLine := by rw [sizeLine_eq]; omega
    exact pyReprObj_str (wpAny_formatField_str ⟨.str (reprText y), H1, I1.tok _, ⟨_, rfl⟩, hq _ (by omega)⟩ ⟨.str (reprText y), H1, I1.tok _, ⟨_, rfl⟩, hq _ (by omega)⟩ hz2) hz2
  | bl b => exact absurd hw (by simp [wOk])
  | int i => exact absurd hw (by simp [wOk])
  | ref a => exact absurd hw (by simp [wOk])
  | kl a b => exact absurd hw (by simp [wOk])
  | @tup l a xs ht hl =>
    cases r1
    obtain ⟨its, rv, ⟨o, ho, hcl, n, hd⟩, _⟩ := I1.tuple ht
    simp only [wOk, Bool.and_eq_true, decide_eq_true_eq] at hw
    obtain ⟨ts, h1, h2⟩ := leaves_repr (P := X.prog) (w := X.w) hw.1 hl rv
    have htx := fmt_text ts
    have hu := hr.units
    have hts : (tupleText ts).length ≤ 210000 := by omega
    refine wpAny_pyReprObj_slot (by omega) ⟨o, ho, hcl⟩ PySem.F.slot_tuple_repr (fmt_tuple_repr ho hcl hd h1 (by rw [sizeLine_eq]; omega) fun m u tk hm => ?_)
    refine ⟨m, u, rfl, ?_⟩
    exact wpAny_formatField_str ⟨.str m, H1, I1.tok _, ⟨_, rfl⟩, hq m (by omega)⟩ ⟨.str m, H1, (I1.tok _).tok _, ⟨_, rfl⟩, hq m (by omega)⟩ (by rw [sizeLine_eq]; omega)
/-- what the wording of an error promises -/
def spWd (K : PySem.W.Frag) : Sp := fun vs H Q _ => ∃ nm vw vr ρ dw dr, vs = [.str nm, vw, vr] ∧ nm.length ≤ 1000 ∧ RelD K ρ H dw vw ∧ RelD K ρ H dr vr ∧ wOk dw = true ∧ rowOk dr = true ∧ ∀ m : Str, Q (.str m) H
/-- what a class of errors must have -/
structure ErrC (K : PySem.W.Frag) (C : Addr) : Prop where
  oex : OexC K C
  nam : ∃ nm, PySem.W.NamC K C nm ∧ nm.length ≤ 1000
  what : PySem.W.findIn K (.ref C) "what" = some none
  row : PySem.W.findIn K (.ref C) "row" = some none
/-- what the making of an error promises -/
def spAE (K : PySem.W.Frag) : Sp := fun vs H Q _ => ∃ a C vw vr ρ dw dr, vs = [.ref a, vw, vr] ∧ ErrC K C ∧ H a = some (exo a C none) ∧ RelD K ρ H dw vw ∧ RelD K ρ H dr vr ∧ wOk dw = true ∧ rowOk dr = true ∧
  ∀ dx, H dx = none → dx ≠ a → Q .non (upd (upd (upd H dx (exd dx [("what", vw)])) a (exo a C (some dx))) dx (exd dx [("row", vr), ("what", vw)]))
def exc1 (c : Str) : List D → Option Exc
  | [w] => if wOk w = true then some ⟨c, [("row", .non), ("what", w)]⟩ else none
  | _ => none
def mRaise (f : List D → Option Exc) (ml : MA) : MS := fun τ g => (ml τ g).st τ fun l g1 => match f l with
  | some x => .ex x τ g1
  | none => .bad
structure Err (P : Program) (w : World) (K : PySem.W.Frag) (mg : Str → Option Value) (base : Heap) (k : Nat) (C f : Addr) : Prop where
  cls : ErrC K C
  ini : PySem.W.findIn K (.ref C) "__init__" = some (some (.ref f))
  tyi : PySem.W.typeIn K (.ref f) = some (.type "function")
  fn : ∃ fd, FnOk P w K mg base (L2N.CX P w) k f fd ["self", "what", "row"] (spAE K) ∧ Binds K fd ["self", "what", "row"] [] ∧ Binds K fd ["self", "what", "row"] [.none]
/-- a heap without one thing -/
def eraseH (h : Heap) (a : Addr) : Heap := h.update a fun o => { o with data := .freed }
theorem erase_ne {h : Heap} {a x : Addr} (hx : x ≠ a) : (eraseH h a).get? x = h.get? x := Heap.get?_update_ne _ _ _ _ hx
theorem erase_at {h : Heap} {a : Addr} {o : PySem.Obj} (hg : h.get? a = some o) : (eraseH h a).get? a = none := by
  obtain ⟨objs, life⟩ := h
  unfold eraseH Heap.update Heap.get?
  dsimp only
  rw [Array.getElem?_modify, if_pos rfl]
  cases objs[a]? <;> rfl
section
variable {X : Cx} {pins : List (Addr × PySem.Obj)} {σ : L2.St} {H : Hp} {h : Heap} {gs : Array GenState} {dr : Drawn} {tk : Nat} {os : OsState} {a d C : Addr} {fs : List (Str × V)}
theorem Ns_er {l : Addr} {m : Str → Option Value} (hl : l ≠ a) (n : h.Ns l m) : (eraseH h a).Ns l m := by
  obtain ⟨o, es, ep, h1, h2⟩ := n
  exact ⟨o, es, ep, by rw [erase_ne hl]; exact h1, h2⟩
theorem inv_drop (I : L2.Inv X pins σ H ⟨h, gs, dr, tk, os⟩) (ha : H a = some (exo a C (some d))) (hd : H d = some (exd d fs)) (h0 : ∀ o, X.s_0.heap.get? a = some o → a ∈ X.ex) : L2.Inv X pins σ (upd (del H a) d (.xd fs)) ⟨eraseH h a, gs, dr, tk, os⟩ := by
  have dne : d ≠ a := fun e => by
    subst e
    obtain ⟨t1, e1⟩ := exo_at I.hok ha
    obtain ⟨mA, n1, _⟩ := exd_at I.hok hd
    obtain ⟨o, es, ep, e2, e3, _⟩ := n1
    rw [e1] at e2
    cases e2
    cases e3
  have hN : ∀ {b : Addr}, H b = none → upd (del H a) d (.xd fs) b = none := fun {b} hb => by
    have b1 : b ≠ d := fun e => by rw [e, hd] at hb; cases hb
    have b2 : b ≠ a := fun e => by rw [e, ha] at hb; cases hb
    rw [upd_ne b1, del_ne b2]
    exact hb
  have hS : ∀ {b : Addr} {o : HO}, H b = some o → b ≠ a → b ≠ d → upd (del H a) d (.xd fs) b = some o := fun {b o} hb b2 b1 => by
    rw [upd_ne b1, del_ne b2]
    exact hb
  have keep : ∀ {b : Addr} {o : PySem.Obj}, X.s_0.heap.get? b = some o → b ∉ X.ex → b ≠ a := fun h1 h2 e => h2 (by subst e; exact h0 _ h1)
  have hok1 : HOk X.prog X.w (del H a) (eraseH h a) := fun x o hx => by
    have xa : x ≠ a := fun e => by rw [e, del_same] at hx; cases hx
    rw [del_ne xa] at hx
    refine ObjOk.stay (I.hok x o hx) (fun b u hb hg => ?_) (fun b hb => ?_) fun b xs hb => ?_
    · have ba : b ≠ a := fun e => by
        rcases hb with hb | hb
        · exact xa (hb.symm.trans e)
        · rw [e, ha] at hb
          exact exo_own (Option.some.inj hb)
      rw [erase_ne ba]
      exact hg
    · have ba : b ≠ a := fun e => by rw [e, ha] at hb; exact exo_own (Option.some.inj hb)
      rw [del_ne ba]
      exact hb
    · have ba : b ≠ a := fun e => by rw [e, ha] at hb; exact exo_tup (Option.some.inj hb)
      rw [del_ne ba]
      exact hb
  have hd1 : del H a d = some (exd d fs) := by rw [del_ne dne]; exact hd
  refine ⟨I.ok, I.os, I.bare, ⟨fun b o h1 h2 h3 h4 => ?_, fun b o h1 h2 h3 h4 => ?_, fun b o h1 h2 h3 => hN (I.base.free b o h1 h2 h3), fun b o h1 h2 => ?_, fun b xs h1 => ?_, fun b o u h1 => ?_, fun b ps h1 => ?_⟩, ?_, fun x c h1 => ?_, hN I.free, fun x c h1 => hN (I.freeC x c h1), fun p hp => ?_, ?_, I.len⟩
  · rw [erase_ne (keep h1 h4)]
    exact I.base.keep b o h1 h2 h3 h4
  · rw [erase_ne (keep h1 h4)]
    exact I.base.slot b o h1 h2 h3 h4
  · rw [erase_ne (keep h1 h2)]
    exact I.base.there b o h1 h2
  · have := I.base.tups b xs h1
    exact hS this (fun e => by rw [e, ha] at this; exact exo_tup (Option.some.inj this)) fun e => by rw [e, hd] at this; exact exd_tup (Option.some.inj this)
  · have := I.base.frzs b o u h1
    exact hS this (fun e => by rw [e, ha] at this; exact exo_frz (Option.some.inj this)) fun e => by rw [e, hd] at this; cases Option.some.inj this
  · obtain ⟨more, this⟩ := I.base.tbls b ps h1
    exact ⟨more, hS this (fun e => by rw [e, ha] at this; exact exo_tbl (Option.some.inj this)) fun e => by rw [e, hd] at this; cases Option.some.inj this⟩
  · obtain ⟨m, n1, n2⟩ := I.loc
    have la : X.env.locals ≠ a := fun e => by
      have := I.free
      rw [e, ha] at this
      cases this
    refine ⟨m, Ns_er la n1, fun i x v h1 h2 h3 => ?_⟩
    obtain ⟨u, r, lk⟩ := n2 i x v h1 h2 h3
    refine ⟨u, r, ?_⟩
    rcases lk with lk | ⟨k, c, h4, o, h5, h6⟩
    · exact .inl lk
    · refine .inr ⟨k, c, h4, o, ?_, h6⟩
      have ca : c ≠ a := fun e => by
        have := I.freeC x c h4
        rw [e, ha] at this
        cases this
      rw [erase_ne ca]
      exact h5
  · obtain ⟨v, o, h5, h6⟩ := I.cell x c h1
    have ca : c ≠ a := fun e => by
      have := I.freeC x c h1
      rw [e, ha] at this
      cases this
    exact ⟨v, o, by rw [erase_ne ca]; exact h5, h6⟩
  · obtain ⟨p1, p2, p3⟩ := I.pin p hp
    have pa : p.1 ≠ a := fun e => by rw [e, ha] at p2; cases p2
    exact ⟨by rw [erase_ne pa]; exact p1, hN p2, p3⟩
  · intro x o hx
    by_cases xd : x = d
    · subst xd
      rw [upd_same] at hx
      cases hx
      obtain ⟨mA, n1, n2⟩ := exd_at hok1 hd1
      exact ⟨mA, n1, n2⟩
    · rw [upd_ne xd] at hx
      refine ObjOk.stay (hok1 x o hx) (fun _ _ _ e => e) (fun b hb => ?_) fun b xs hb => ?_
      · rw [upd_ne fun e => by rw [e, hd1] at hb; exact exd_own (Option.some.inj hb)]
        exact hb
      · rw [upd_ne fun e => by rw [e, hd1] at hb; exact exd_tup (Option.some.inj hb)]
        exact hb
end
theorem get_past {h : Heap} {a : Addr} (ha : h.objs.size ≤ a) : h.get? a = none := by
  unfold Heap.get?
  rw [Array.getElem?_eq_none ha]
/-- an own error is made; that it has no context stays known -/
theorem pmk_oexN {X : Cx} {e : Expr} {es : List Expr} {ta : TA} {p pos : Pos} {CX : CXT} {x : Str} {C fI : Addr} {k : Nat} {fd : FuncData} {ps : List Str} {sp : Sp} {ds : List Value} {dvs : List V} (T : OexC X.K C) (iC : PySem.W.findIn X.K (.ref C) "__init__" = some (some (.ref fI))) (tI : PySem.W.typeIn X.K (.ref fI) = some (.type "function"))
    (F1 : FnOk X.prog X.w X.K X.mg X.base CX k fI fd ps sp) (hr : Room (k + 1) X.A) (hb : Binds X.K fd ps ds) (hds : Vals dvs ds) (hx : Passes CX X fun _ _ _ => False) (hg : Gl X x) (hm : X.mg x = some (.ref C)) (ha : PA X (e :: es) ta)
    (hdb : (x == ("__debug__" : Str)) = false := by decide) (he : starEach (e :: es) X.env = (false, eval e X.env) :: starEach es X.env := by rfl) (hpl : (backTo pos (starEach es X.env)).any (·.1) = false := by rfl) :
    L2N.PMk X (.Call (.Name x p) (e :: es) [] pos) (tMkO C sp dvs ta) := by
  intro pins s σ H Q I h
  obtain ⟨nm, q, N, bs, bm, sn, sub, ab, col, dd, k0, k1, k2, k3, k5, lk, hbm⟩ := T.cls
  refine wpAny_Call_Name_kw (ld_glob I hg hm ?_ hdb)
  refine PySem.W.callWith_K I.kIn T.kC (thn (ha.run pos pins s σ H _ I h) ?_) he hpl
  rintro us s1 ⟨vs, H1, I1, hv, hl, hq⟩
  refine ⟨I1.kIn, wpAny_call ?_⟩
  obtain ⟨hp, g, dr, t, os⟩ := s1
  have hlen : vs.length = us.length := hv.length
  have keep2 : ∀ (b : Addr) (o : PySem.Obj), hp.get? b = some o → ((hp.push (PySem.W.kdv_tup us)).push (HandSPX.excO C hp.objs.size)).get? b = some o := fun b o hb => Heap.get?_push_of_some _ (Heap.get?_push_of_some _ hb)
  have at2 : ((hp.push (PySem.W.kdv_tup us)).push (HandSPX.excO C hp.objs.size)).get? (hp.objs.size + 1) = some (HandSPX.excO C hp.objs.size) := Heap.get?_push_at (by rw [Heap.size_push]) rfl
  have I2 : L2.Inv X pins σ (upd H1 (hp.objs.size + 1) (exo (hp.objs.size + 1) C none)) ⟨(hp.push (PySem.W.kdv_tup us)).push (HandSPX.excO C hp.objs.size), g, dr, t, os⟩ := I1.laid keep2 (Nat.le_succ _) (exo_ok at2)
  have hn : H1 (hp.objs.size + 1) = none := I1.hok.fresh (Nat.le_succ _)
  have sq := hq _ hn
  have fl := F1.len _ _ _ _ sq
  have va : Vals (V.ref (hp.objs.size + 1) :: (vs ++ dvs)) ((Value.ref (hp.objs.size + 1) :: us) ++ ds) := .cons rfl (hv.append hds)
  refine HandSPX.call_own F.excBase_ValueError (fun Z => HandSPX.refsVE_contains Z bm hbm) (I1.kIn _ _ lk) (PySem.W.looks_findIn I1.kIn iC) (fun self => PySem.W.bind_fn I1.kIn self tI) (by rw [List.nil_append, ← hlen, sizeLine_eq]; omega) ?_
  refine codeAny_mono (F1.run _ X.stack _ _ _ _ _ _ _ (hr.make _ _ _) (I2.env0.make _ _ _) (hb _ _ I2.kIn (va.length.symm.trans fl)) va sq) ?_
  intro r s' hr'
  cases r with
  | error er => exact hx pins σ _ _ er s' I2 hr'
  | ok f =>
    cases f with
    | next => exact hr'.elim
    | brk => exact hr'.elim
    | cont => exact hr'.elim
    | ret u =>
      obtain ⟨v, H2, I3, rv, rfl, d, fs, ha2, hd2, hd0, hq2⟩ := I2.after hr'
      refine ⟨rv, ?_⟩
      obtain ⟨t1, at3⟩ := exo_at I3.hok ha2
      have h0 : ∀ o, X.s_0.heap.get? (hp.objs.size + 1) = some o → (hp.objs.size + 1) ∈ X.ex := fun o ho => by
        apply Classical.byContradiction
        intro hne
        obtain ⟨o', ho'⟩ := I1.base.there _ o ho hne
        have ho' : hp.get? (hp.objs.size + 1) = some o' := ho'
        rw [get_past (Nat.le_succ _)] at ho'
        cases ho'
      have I5 := inv_drop I3 ha2 hd2 h0
      have dne : hp.objs.size + 1 ≠ d := fun e => by
        obtain ⟨mA, n1, _⟩ := exd_at I3.hok hd2
        obtain ⟨o, es', ep, e2, e3, _⟩ := n1
        rw [← e, at3] at e2
        cases e2
        cases e3
      refine ⟨_, _, _, _, _, _, _, rfl, I5, fun c o hco => ?_, erase_at at3, at3, ⟨rfl, rfl, fun vs hv => by cases hv; rfl⟩, rfl, rfl, ?_, rfl, I5.bare, raises_own T.exC T.tyC, hq2⟩
      · have ca : c ≠ hp.objs.size + 1 := fun e => by
          rw [e, erase_at (h := s'.heap) (o := _) at3] at hco
          cases hco
        have hco : (eraseH s'.heap (hp.objs.size + 1)).get? c = some o := hco
        rw [erase_ne ca] at hco
        exact hco
      · rw [upd_ne dne, del_same]
theorem relD_upd {K : PySem.W.Frag} {ρ : List Addr} {H : Hp} {a : Addr} {o : HO} (h : H a = none) {d : D} {v : V} (r : RelD K ρ H d v) : RelD K ρ (upd H a o) d v :=
  r.mono (fun _ _ z => z) (fun b xs z => by
    rcases z with (z | ⟨o', z⟩) | z
    · exact .inl (.inl (by rw [upd_ne (ne_of_none z h)]; exact z))
    · exact .inl (.inr ⟨o', by rw [upd_ne (ne_of_none z h)]; exact z⟩)
    · exact .inr z) fun b xs z => by
    rcases z with ⟨o', z⟩ | z
    · exact .inl ⟨o', by rw [upd_ne (ne_of_none z h)]; exact z⟩
    · exact .inr z
section
variable {X : Cx} {cn : Str → Addr} {W : WX} {k : Nat} {c x : Str} {f : Addr} {p pos pos' : Pos} {e : Expr} {el : List Expr} {ml : MA}
theorem raise_go {σ : St} {H1 : Hp} {ρ : List Addr} {τ : T} {g : G} {dw dr : D} {vw vr : V} {a : Addr} {C : Addr} (hC : ErrC X.K C) (hc : C = cn c) (st : Stt (ux X cn) ρ τ g σ H1) (qw : RelD X.K ρ H1 dw vw) (qr : RelD X.K ρ H1 dr vr) (hw : wOk dw = true) (hr : rowOk dr = true) (ha : H1 a = none)
    (h : PostS (ux X cn) W ρ H1 (.ex ⟨c, [("row", dr), ("what", dw)]⟩ τ g) E) : spAE X.K [.ref a, vw, vr] (upd H1 a (exo a C none)) (fun v H2 => v = .non ∧ ∃ (d : Addr) (fs : List (Str × V)), H2 a = some (exo a C (some d)) ∧ H2 d = some (exd d fs) ∧ H1 d = none ∧ W (.ref C) (some d) σ (upd (del H2 a) d (.xd fs))) (fun _ _ _ => False) := by
  refine ⟨a, C, vw, vr, ρ, dw, dr, rfl, hC, upd_same, relD_upd ha qw, relD_upd ha qr, hw, hr, fun dx hd hne => ⟨rfl, dx, [("row", vr), ("what", vw)], ?_, upd_same, ?_, ?_⟩⟩
  · rw [upd_ne (Ne.symm hne), upd_same]
  · rw [upd_ne hne] at hd
    exact hd
  · rw [upd_ne hne] at hd
    have e : upd (del (upd (upd (upd (upd H1 a (exo a C none)) dx (exd dx [("what", vw)])) a (exo a C (some dx))) dx (exd dx [("row", vr), ("what", vw)])) a) dx (.xd [("row", vr), ("what", vw)]) = upd H1 dx (.xd [("row", vr), ("what", vw)]) := by
      funext b
      by_cases h1 : b = dx
      · subst h1; rw [upd_same, upd_same]
      · rw [upd_ne h1, upd_ne h1]
        by_cases h2 : b = a
        · subst h2; rw [del_same, ha]
        · rw [del_ne h2, upd_ne h1, upd_ne h2, upd_ne h1, upd_ne h2]
    rw [e]
    obtain ⟨ev, rp⟩ := Ev.new (o := .xd [("row", vr), ("what", vw)]) st.rep hd
    refine h ρ σ _ _ _ ev (st.later ev rp) ⟨by rw [hc], dx, _, rfl, upd_same, fun z => ?_⟩
    by_cases z1 : z = "row"
    · subst z1
      exact ev.rel st.rep qr
    · by_cases z2 : z = "what"
      · subst z2
        exact ev.rel st.rep qw
      · have e1 : (z == "row") = false := by simpa using z1
        have e2 : (z == "what") = false := by simpa using z2
        simp only [List.lookup, e1, e2]
        trivial
theorem rs_raise1 (F : Fit X W) (D : Err X.prog X.w X.K X.mg X.base k (cn c) f) (hr : Room (k + 1) X.A) (hg : Gl X x) (hm : X.mg x = some (.ref (cn c))) (ha : RA X cn W (e :: el) ml) (hdb : (x == ("__debug__" : Str)) = false := by decide)
    (he : starEach (e :: el) X.env = (false, eval e X.env) :: starEach el X.env := by rfl) (hpl : (backTo pos (starEach el X.env)).any (·.1) = false := by rfl) :
    RS X cn W (.Raise (some (.Call (.Name x p) (e :: el) [] pos)) none pos') (mRaise (exc1 c) ml) := by
  obtain ⟨fd, Fn, b2, b1⟩ := D.fn
  refine psI (L2N.ps_raise F.calm F.tk (pmk_oexN (dvs := [.non]) D.cls.oex D.ini D.tyi Fn hr b1 (.cons rfl .nil) passN hg hm ha hdb he hpl)) fun E σ H ⟨ρ, τ, g, s, p⟩ => ?_
  refine ⟨ρ, τ, g, s, PostS.thn (Rl := rDs (ux X cn)) p s fun ρ1 vs H1 l g1 e1 r1 q1 s1 p1 => ?_⟩
  cases h : exc1 c l with
  | none => rw [h] at p1; exact p1.elim
  | some x =>
    rw [h] at p1
    unfold exc1 at h
    split at h
    · split at h
      · rename_i w hw
        cases h
        cases q1 with
        | cons q q0 =>
          cases q0
          exact ⟨by simp, fun a ha' => raise_go D.cls rfl s1 q .non hw rfl ha' p1⟩
      · cases h
    · cases h
end
end RL
namespace RL
open PySem L2 PySem.Spec
open PyProof.Rows (envOfC)
def clrE (i : Nat) (D : Ends) : Ends := { nx := fun σ' H' => D.nx (σ'.set i none) H', rt := D.rt, bk := fun σ' H' => D.bk (σ'.set i none) H', ct := fun σ' H' => D.ct (σ'.set i none) H' }
/-- which classes of errors a clause takes -/
def subE (e c : Str) : Bool := e == c || c == "AccessError"
def clrR (i : Nat) : SR → SR
  | .nx τ g => .nx (τ.set i none) g
  | .bk τ g => .bk (τ.set i none) g
  | .ct τ g => .ct (τ.set i none) g
  | .ex _ _ _ => .bad
  | r => r
def noEx : SR → SR
  | .ex _ _ _ => .bad
  | r => r
abbrev MClause := Str × Option Nat × (Exc → MS)
def hGo (x : Exc) : List MClause → MS
  | [] => fun τ g => .ex x τ g
  | (c, none, ms) :: r => fun τ g => if subE x.cls c = true then noEx (ms x τ g) else hGo x r τ g
  | (c, some i, ms) :: r => fun τ g => if subE x.cls c = true then clrR i (ms x (τ.set i none) g) else hGo x r τ g
def mTry (es : List Str) (l : List MClause) (mb : MS) : MS := fun τ g => match mb τ g with
  | .ex x τ1 g1 => if x.cls ∈ es then hGo x l τ1 g1 else .bad
  | r => r
/-- a suite: what it does with the error x, at a, in slot i -/
def tX (U₀ : U) (es : List Str) (i : Option Nat) (ms : Exc → MS) : Addr → Value → Option Addr → TS := fun a cls d E σ H => ∃ ρ τ g x, x.cls ∈ es ∧ Stt U₀ ρ τ g σ H ∧ XRel U₀ ρ H x cls d ∧ (∀ j, i = some j → j < σ.length → σ[j]? = some (some (.ref a))) ∧ PostS U₀ WN ρ H (ms x τ g) E
section
variable {X : Cx} {cn : Str → Addr} {W : WX} {es : List Str} {body : List Stmt} {pos : Pos} {mb : MS} {U₀ : U}
theorem Stt.held {ρ : List Addr} {τ : T} {g : G} {σ : L2.St} {H : Hp} {i : Nat} {v : V} (s : Stt U₀ ρ τ g σ H) : Stt U₀ ρ (τ.set i Option.none) g (σ.set i (some v)) H := by
  refine ⟨by simp [s.len], fun j d' h => ?_, s.rep⟩
  by_cases hj : i = j
  · subst hj
    have hi : i < τ.length := by
      have := (List.getElem?_eq_some_iff.mp h).1
      simpa using this
    rw [List.getElem?_set_self hi] at h
    cases h
  · rw [List.getElem?_set_ne hj] at h ⊢
    exact s.sl j d' h
theorem clr_post {ρ : List Addr} {H : Hp} {r : SR} {D : Ends} {i : Nat} (p : PostS U₀ W ρ H (clrR i r) D) : PostS U₀ WN ρ H r (clrE i D) := by
  cases r with
  | nx τ g => exact fun ρ' σ' H' e s => p ρ' _ H' e s.none
  | bk τ g => exact fun ρ' σ' H' e s => p ρ' _ H' e s.none
  | ct τ g => exact fun ρ' σ' H' e s => p ρ' _ H' e s.none
  | ex x τ g => exact p.elim
  | _ => exact p
/-- which errors a clause names -/
def CatchOk (X : Cx) (cn : Str → Addr) (es : List Str) (x c : Str) : Prop := Names X x (.ref (cn c)) ∧ ∀ e ∈ es, PySem.W.exmOne X.K (.ref (cn e)) (.ref (cn c)) = some (subE e c)
/-- a suite of a clause follows ms -/
def SuiteOk (X : Cx) (cn : Str → Addr) (es : List Str) (i : Option Nat) (suite : List Stmt) (ms : Exc → MS) : Prop := ∀ (a : Addr) (oe : PySem.Obj) (cls : Value) (d : Option Addr) (pn : List (Addr × PySem.Obj)), L2N.Zn cls d oe → (∃ vs, oe.data = .fields vs) → PSs (X.suite a ((a, oe) :: pn)) suite (tX (ux X cn) es i ms a cls d)
theorem try_split {l : List MClause} {τ : T} {g : G} {ρ : List Addr} {H : Hp} {D : Ends} {Wi : WX} (p : PostS (ux X cn) W ρ H (mTry es l mb τ g) D)
    (hw : ∀ (x : Exc) (τ1 : T) (g1 : G) (ρ' : List Addr) (σ' : L2.St) (H' : Hp) (cls : Value) (d : Option Addr), x.cls ∈ es → Stt (ux X cn) ρ' τ1 g1 σ' H' → XRel (ux X cn) ρ' H' x cls d → PostS (ux X cn) W ρ' H' (hGo x l τ1 g1) D → Wi cls d σ' H') : PostS (ux X cn) Wi ρ H (mb τ g) D := by
  unfold mTry at p
  cases h : mb τ g with
  | ex x τ1 g1 =>
    rw [h] at p
    dsimp only at p
    split at p
    · rename_i hx
      exact fun ρ' σ' H' cls d e1 s1 q1 => hw x τ1 g1 ρ' σ' H' cls d hx s1 q1 (PostS.later p e1)
    · exact p.elim
  | _ => rw [h] at p; exact p
/-- one clause with a name -/
theorem rs_tryN {x n c : Str} {i : Nat} {ms : Exc → MS} {b₀ : Stmt} {suite : List Stmt} {np pos' : Pos} (F : Fit X W) (hs : X.stack = X.env :: X.outer) (hf : X.env.frame = some X.env.locals) (hN : X.N.Nodup) (hi : X.N[i]? = some n) (hln : X.env.kindOf n = some .local)
    (hb : ∀ (W' : WX) (pn : List (Addr × PySem.Obj)) (xe : Value → Shared → Prop), Fit (X.tr pn xe) W' → RSs (X.tr pn xe) cn W' body mb) (hc : CatchOk X cn es x c) (hsu : SuiteOk X cn es (some i) (b₀ :: suite) ms) :
    RS X cn W (.Try body [.ExceptHandler (some (.Name x np)) (some n) (b₀ :: suite) pos'] [] [] pos) (mTry es [(c, some i, ms)] mb) := by
  refine psI (L2N.ps_try_as (tb := fun W' => tS (ux X cn) W' mb) hs hf hN hi hln hc.1 F.tk (fun W' pn xe tk pw => hb W' pn xe ⟨tk, pw, F.calm⟩) hsu) fun D σ H ⟨ρ, τ, g, s, p⟩ => ⟨ρ, τ, g, s, try_split p fun e τ1 g1 ρ' σ' H' cls d hx s1 q1 p1 => ?_⟩
  have ec := q1.1
  subst ec
  refine ⟨_, hc.2 _ hx, fun hy a ha => ?_, fun hy => ?_⟩
  · unfold hGo at p1
    rw [if_pos hy] at p1
    refine ⟨ρ', τ1.set i none, g1, e, hx, s1.held, q1, fun j z hj => ?_, clr_post p1⟩
    cases z
    rw [List.length_set] at hj
    exact List.getElem?_set_self hj
  · unfold hGo at p1
    rw [hy, if_neg Bool.false_ne_true] at p1
    exact p1 ρ' σ' H' _ _ Ev.refl s1 q1
end
end RL
namespace RL
open PySem L2 PySem.Spec
section
variable {U₀ : U} {ρ ρ' : List Addr} {H H' : Hp} {g : G}
theorem Rep.noxd (r : Rep U₀ ρ H g) {a : Addr} {fs : List (Str × V)} (h : H a = some (.xd fs)) : a ∉ ρ := fun m => by
  obtain ⟨i, o, _, _, q⟩ := r.there m
  cases o with
  | lst l => obtain ⟨_, e, _⟩ := q; rw [h] at e; cases e
  | rol l => obtain ⟨_, _, e, _⟩ := q; rw [h] at e; cases e
  | dct k l =>
    cases k with
    | false => obtain ⟨_, e, ⟨_, rfl, _⟩ | ⟨_, rfl, _⟩⟩ := q <;> rw [h] at e <;> cases e
    | true => obtain ⟨_, _, e, _⟩ := q; rw [h] at e; cases e
  | ins c fs => obtain ⟨_, _, e, _⟩ := q; rw [h] at e; cases e
theorem XRel.later {x : Exc} {cls : Value} {d : Option Addr} (q : XRel U₀ ρ H x cls d) (e : Ev ρ H ρ' H') (r : Rep U₀ ρ H g) : XRel U₀ ρ' H' x cls d := by
  obtain ⟨h1, dx, fs, h2, h3, h4⟩ := q
  exact ⟨h1, dx, fs, h2, e.frm _ _ h3 (r.noxd h3), fun f => (h4 f).mono fun z => e.rel r z⟩
end
/-- the error x lies at a, which stands in slot i -/
structure XAt (U₀ : U) (es : List Str) (i : Option Nat) (a : Addr) (cls : Value) (d : Option Addr) (x : Exc) (ρ : List Addr) (σ : L2.St) (H : Hp) : Prop where
  mem : x.cls ∈ es
  rel : XRel U₀ ρ H x cls d
  sl : ∀ j, i = some j → j < σ.length → σ[j]? = some (some (.ref a))
theorem XAt.later {U₀ : U} {es : List Str} {i : Option Nat} {a : Addr} {cls : Value} {d : Option Addr} {x : Exc} {ρ ρ' : List Addr} {σ : L2.St} {H H' : Hp} {g : G} (q : XAt U₀ es i a cls d x ρ σ H) (e : Ev ρ H ρ' H') (r : Rep U₀ ρ H g) : XAt U₀ es i a cls d x ρ' σ H' := ⟨q.mem, q.rel.later e r, q.sl⟩
def tEX (U₀ : U) (es : List Str) (i : Option Nat) (a : Addr) (cls : Value) (d : Option Addr) (m : Exc → ME) : TE := fun σ H Q => ∃ ρ τ g x, XAt U₀ es i a cls d x ρ σ H ∧ Stt U₀ ρ τ g σ H ∧ Post U₀ (rD U₀) WN σ ρ H (m x τ g) Q
def tAX (U₀ : U) (es : List Str) (i : Option Nat) (a : Addr) (cls : Value) (d : Option Addr) (m : Exc → MA) : TA := fun σ H Q => ∃ ρ τ g x, XAt U₀ es i a cls d x ρ σ H ∧ Stt U₀ ρ τ g σ H ∧ Post U₀ (rDs U₀) WN σ ρ H (m x τ g) Q
def mXf (f : Str) : Exc → ME := fun x _ g => optR (x.fs.lookup f) g
def mRetX (m : Exc → ME) : Exc → MS := fun x => mRet (m x)
def ExF (K : PySem.W.Frag) (cn : Str → Addr) (es : List Str) (f : Str) : Prop := ∀ c ∈ es, XfC K (cn c) ∧ PySem.W.findIn K (.ref (cn c)) f = some none
section
variable {X : Cx} {cn : Str → Addr} {es : List Str} {i : Nat} {io : Option Nat} {a : Addr} {oe : PySem.Obj} {cls : Value} {d : Option Addr} {pn : List (Addr × PySem.Obj)} {e e2 : Expr} {el : List Expr} {m m2 : Exc → ME} {ml : Exc → MA} {pos : Pos} {n f : Str}
theorem rex_of {m : ME} (h : RE (X.suite a pn) cn WN e m) : PE (X.suite a pn) e (tEX (ux X cn) es io a cls d fun _ => m) := peI h fun σ H Q ⟨ρ, τ, g, x, xa, st, p⟩ => ⟨ρ, τ, g, st, p⟩
theorem rex_fld {p2 : Pos} (T : ExF X.K cn es f) (hz : L2N.Zn cls d oe) (hf : ∃ vs, oe.data = .fields vs) (hi : X.N[i]? = some n) (hv : Vis X.env.scope n) (hb : attributeBase (.Name n p2) f X.env (eval (.Name n p2) X.env) = eval (.Name n p2) X.env := by rfl) (hd : (n == ("__debug__" : Str)) = false := by decide)
    (hcd : (n == ("__classdict__" : Str)) = false := by decide) : PE (X.suite a ((a, oe) :: pn)) (.Attribute (.Name n p2) f pos) (tEX (ux X cn) es (some i) a cls d (mXf f)) := by
  refine ⟨fun pins s σ H Q I ⟨ρ, τ, g, x, xa, st, p⟩ => ?_⟩
  obtain ⟨T1, T2⟩ := T _ xa.mem
  obtain ⟨hc, dx, fs, hdx, hx, hr⟩ := xa.rel
  have hi2 : i < σ.length := by
    rw [I.len]
    exact (List.getElem?_eq_some_iff.mp hi).1
  unfold mXf at p
  cases hl : x.fs.lookup f with
  | none => rw [hl] at p; exact p.elim
  | some dv =>
    rw [hl] at p
    have h4 := hr f
    rw [hl] at h4
    obtain ⟨v, h5, h6⟩ := h4.some_of
    exact (pe_xf (C := cn x.cls) T1 T2 hz.zc hf (pe_var hi hv hd hcd) hb).run pins s σ H Q I ⟨_, xa.sl i rfl hi2, rfl, hc, dx, fs, v, hdx, hx, h5, Post.at (Rl := rD (ux X cn)) p st.rep h6⟩
theorem rax_nil : PA (X.suite a pn) [] (tAX (ux X cn) es io a cls d fun _ => mNil) := paI pa_nil fun σ H Q ⟨ρ, τ, g, x, xa, st, p⟩ => p.at st.rep .nil
theorem rax_cons (ha : PE (X.suite a pn) e (tEX (ux X cn) es io a cls d m)) (hr : PA (X.suite a pn) el (tAX (ux X cn) es io a cls d ml)) (hs : starEach (e :: el) X.env = (false, eval e X.env) :: starEach el X.env := by rfl) : PA (X.suite a pn) (e :: el) (tAX (ux X cn) es io a cls d fun x => mCons (m x) (ml x)) := by
  refine paI (pa_cons ha hr hs) fun σ H Q ⟨ρ, τ, g, x, xa, s, p⟩ => ?_
  refine ⟨ρ, τ, g, x, xa, s, p.thn fun ρ1 v H1 d1 g1 e1 r1 q1 p1 => ?_⟩
  refine ⟨ρ1, τ, g1, x, xa.later e1 s.rep, s.later e1 r1, p1.thn fun ρ2 vs H2 ds g2 e2 r2 q2 p2 => ?_⟩
  exact p2.at r2 (.cons (e2.rel r1 q1) q2)
theorem rex_tup {k} (h : PA (X.suite a pn) el (tAX (ux X cn) es io a cls d ml)) : PE (X.suite a pn) (.Tuple el k pos) (tEX (ux X cn) es io a cls d fun x => mUnA fTup (ml x)) := by
  refine peI (pe_tup h) fun σ H Q ⟨ρ, τ, g, x, xa, s, p⟩ => ⟨ρ, τ, g, x, xa, s, p.thn fun ρ1 vs H1 l g1 e1 r1 q1 p1 => ?_⟩
  obtain ⟨hl, p2⟩ := Post.ck p1
  refine ⟨by rw [← q1.length]; exact Nat.le_trans hl (by rw [sizeLine_eq]; decide), fun p hp => ?_⟩
  obtain ⟨ev, rp⟩ := Ev.new (o := .tup vs) r1 hp
  exact p2 ρ1 _ _ ev rp (.tup (.inl (.inl upd_same)) (ev.rels r1 q1))
theorem rsx_ret (he : PE (X.suite a pn) e (tEX (ux X cn) es io a cls d m)) : PSs (X.suite a pn) [.Return (some e) pos] (tX (ux X cn) es io (mRetX m) a cls d) :=
  pssI (pss_one (ps_ret he)) fun E σ H ⟨ρ, τ, g, x, hx, s, q, sl, p⟩ => ⟨ρ, τ, g, x, ⟨hx, q, sl⟩, s, PostS.thn (Rl := rD (ux X cn)) p s fun ρ1 v H1 d g1 e1 r1 q1 s1 p1 => p1 ρ1 v H1 Ev.refl r1 q1⟩
end
end RL
namespace RL
open PySem L2 PySem.Spec
inductive Ty where
  | non | bl | int | str | tup | lst | dct
  deriving DecidableEq
def Ty.name : Ty → String
  | .non => "NoneType"
  | .bl => "bool"
  | .int => "int"
  | .str => "str"
  | .tup => "tuple"
  | .lst => "list"
  | .dct => "dict"
def isaT (t T : Ty) : Bool := decide (t = T) || (decide (t = .bl) && decide (T = .int))
def tyD (g : G) : D → Option Ty
  | .non => some .non
  | .bl _ => some .bl
  | .int _ => some .int
  | .str _ => some .str
  | .tup _ => some .tup
  | .kl _ => some .lst
  | .plst _ => none
  | .pdct _ => none
  | .pobj _ _ => none
  | .ref n => match g[n]? with
    | some (.lst _) => some .lst
    | some (.rol _) => some .lst
    | some (.dct _ _) => some .dct
    | _ => none
theorem kit_all : ∀ t T : Ty, T ≠ .non → kitB t.name T.name = some (isaT t T) := by
  intro t T h
  cases T <;> first | exact absurd rfl h | (cases t <;> decide +kernel)
def fIsi (T : Ty) : D → M D := fun x g => match tyD g x with
  | some t => ck (t ≠ .dct ∧ T ≠ .non) (.ok (.bl (isaT t T)) g)
  | none => .bad
section
variable {X : Cx} {cn : Str → Addr} {W : WX} {m : ME} {e : Expr} {p p2 pos : Pos}
theorem re_isi {T : Ty} {x : Str} (hx : x = Str.ofString T.name) (hg : Gl X "isinstance") (hm : X.mg "isinstance" = none) (hgT : Gl X x) (hmT : X.mg x = none) (hv : bootBuiltins x = some (.type T.name)) (he : RE X cn W e m) (hn : x ≠ "__name__" := by decide) (hd : (x == ("__debug__" : Str)) = false := by decide)
    (hs : starEach [e, .Name x p2] X.env = (false, eval e X.env) :: starEach [.Name x p2] X.env := by rfl) (hpl : (backTo pos (starEach [.Name x p2] X.env)).any (·.1) = false := by rfl) : RE X cn W (.Call (.Name "isinstance" p) [e, .Name x p2] [] pos) (mUn (fIsi T) m) := by
  refine peI (pe_callB call_isi hg hm PyProof.Rows.boot_isinstance (pa_cons he (pa_cons (pe_bltn (v := .ty T.name) hgT hmT hv rfl hn hd) pa_nil) hs) (he := hs) (hpl := hpl)) fun σ H Q ⟨ρ, τ, g, s, p⟩ => ⟨ρ, τ, g, s, p.thn fun ρ1 v H1 d g1 e1 r1 q1 p1 => ?_⟩
  unfold fIsi at p1
  split at p1
  · rename_i t ht
    obtain ⟨⟨h1, h2⟩, p2⟩ := Post.ck p1
    have ty : TyX X.K H1 v (.type t.name) := by
      cases q1 with
      | non => cases ht; exact .base .non
      | bl b => cases ht; exact .base (.bl b)
      | int i => cases ht; exact .base (.int i)
      | str hs => cases ht; exact .base (.str _)
      | tup hq _ =>
        cases ht
        rcases hq with (hq | ⟨o, hq⟩) | ⟨o, its, n, hk, hc, _⟩
        · exact .base (.tup hq)
        · exact .fTuple hq
        · exact .kTuple hk hc
      | kl hq _ =>
        cases ht
        rcases hq with ⟨o, hq⟩ | ⟨o, its, n, hk, hc, _⟩
        · exact .base (.frz hq)
        · exact .kList hk hc
      | ref ha =>
        unfold tyD at ht
        dsimp only at ht
        split at ht
        · rename_i l hg
          cases ht
          obtain ⟨xs, h, _⟩ := r1.lst hg ha
          exact .base (.lst h)
        · rename_i l hg
          cases ht
          obtain ⟨xs, o, h, _⟩ := r1.rol hg ha
          exact .base (.frz h)
        · cases ht
          exact absurd rfl h1
        · cases ht
    exact ⟨v, _, _, _, _, rfl, .ty _, ty, kit_ty (kit_all t T h2), Post.at (Rl := rD (ux X cn)) p2 r1 (.bl _)⟩
  · exact p1.elim
end
theorem ty_is {X : Cx} {cn : Str → Addr} {pins : List (Addr × PySem.Obj)} {σ : L2.St} {H : Hp} {s : Shared} {ρ : List Addr} {g : G} {d : D} {v : V} {u : Value} {T : Ty} (I : Inv X pins σ H s) (R : Rep (ux X cn) ρ H g) (q : RelD X.K ρ H d v) (r : RelV v u) (ht : tyD g d = some T) (hT : T = .str ∨ T = .lst ∨ T = .dct) :
    s.TypeIs u T.name ∧ ∀ a, u = .ref a → ∃ ob, s.heap.get? a = some ob ∧ ob.dict = none := by
  cases q with
  | non => cases ht; simp at hT
  | bl b => cases ht; simp at hT
  | int i => cases ht; simp at hT
  | tup _ _ => cases ht; simp at hT
  | kl hq _ =>
    cases ht
    exact tyV_is I r (.inl ⟨rfl, _, hq.seq⟩)
  | str hs =>
    cases ht
    exact tyV_is I r (show tyV X.K "str" (.str _) H from rfl)
  | @ref n a ha =>
    unfold tyD at ht
    dsimp only at ht
    split at ht
    · rename_i l hg
      cases ht
      obtain ⟨xs, h, _⟩ := R.lst hg ha
      exact tyV_is I r (.inl ⟨rfl, xs, .of h⟩)
    · rename_i l hg
      cases ht
      obtain ⟨xs, o, h, _⟩ := R.rol hg ha
      exact tyV_is I r (.inl ⟨rfl, xs, .inl (.inr ⟨o, h⟩)⟩)
    · rename_i lk kvs hg
      cases ht
      cases r
      obtain ⟨w, h1, h2⟩ := R.dct hg ha
      have z : ∃ o, s.heap.get? a = some o ∧ o.ExactDict := by
        rcases h2 with ⟨ks, rfl, _⟩ | ⟨xs, rfl, _⟩
        · obtain ⟨_, _, _, _, o, _, _, e, ex, _⟩ := h1.ok I.hok
          exact ⟨o, e, ex⟩
        · obtain ⟨_, _, _, o, _, _, e, ex, _⟩ := dP_rd I.hok h1
          exact ⟨o, e, ex⟩
      obtain ⟨o, e, ex⟩ := z
      refine ⟨⟨o, e, ex.1⟩, fun a e2 => ?_⟩
      cases e2
      exact ⟨o, e, ex.2.1⟩
    · cases ht
def mBM (T : Ty) (f : D → List D → M D) (o : ME) (a : MA) : ME := fun τ g => (o τ g).bind fun x g1 => ck (tyD g1 x = some T) ((a τ g1).bind fun l g2 => f x l g2)
/-- the built-in's method id follows f -/
def MtD (X : Cx) (cn : Str → Addr) (id : String) (f : D → List D → M D) : Prop := ∀ (W : WX) (pins : List (Addr × PySem.Obj)) (s : Shared) (σ : L2.St) (H : Hp) (x : V) (xs : List V) (v : Value) (us : List Value) (Q : VK) (ρ : List Addr) (g : G) (d : D) (l : List D),
  Inv X pins σ H s → RelV x v → Vals xs us → Rep (ux X cn) ρ H g → RelD X.K ρ H d x → RelDs X.K ρ H l xs → Post (ux X cn) (rD (ux X cn)) W σ ρ H (f d l g) Q → wpAny (model X.prog X.w) X.A (call (.builtin id) (v :: us)) (EP X pins σ Q) X.xe s
section
variable {X : Cx} {cn : Str → Addr} {W : WX} {mo : ME} {ml : MA} {o e : Expr} {es : List Expr} {apos cpos : Pos} {T : Ty} {id : String} {name : Str} {f : D → List D → M D}
theorem re_bm (hT : T = .str ∨ T = .lst ∨ T = .dct) (pa : PlainAttrs T.name) (slot : Slot T.name name id) (hty : typeOf (.builtin id) = pure (.type "method_descriptor")) (hm : MtD X cn id f) (ho : RE X cn W o mo) (ha : RA X cn W (e :: es) ml)
    (hbase : attributeBase o name X.env (eval o X.env) = eval o X.env := by rfl)
    (hfew : ((backTo cpos (starEach (e :: es) X.env)).all (fun x => !x.1) && (backToKw cpos (keywordEach [] X.env)).all (fun x => x.1.isSome)
      && decide ((e :: es).length + ([] : List Keyword).length + (if ([] : List Keyword).isEmpty then 0 else 1) < 30)) = true := by rfl)
    (hline : (apos.endLine == cpos.line) = true := by rfl) (hs : starEach (e :: es) X.env = (false, eval e X.env) :: starEach es X.env := by rfl) (hplain : (backTo cpos (starEach es X.env)).any (·.1) = false := by rfl) :
    RE X cn W (.Call (.Attribute o name apos) (e :: es) [] cpos) (mBM T f mo ml) := by
  refine ⟨fun pins s σ H Q I ⟨ρ, τ, g, st, h⟩ => ?_⟩
  refine wpAny_Call_method_late hbase hfew hline rfl (thn (ho.run pins s σ H (fun ov H1 => ∃ ρ1 g1 x, Stt (ux X cn) ρ1 τ g1 σ H1 ∧ RelD X.K ρ1 H1 x ov ∧ Post (ux X cn) (rD (ux X cn)) W σ ρ1 H1 (ck (tyD g1 x = some T) ((ml τ g1).bind fun l g2 => f x l g2)) Q) I ⟨ρ, τ, g, st, h.thn fun ρ1 v H1 d g1 e1 r1 q1 p1 => ⟨ρ1, g1, d, st.later e1 r1, q1, p1⟩⟩) fun v s1 ⟨x, H1, I1, rx, ρ1, g1, d, st1, q1, p1⟩ => ?_)
  obtain ⟨ht, p2⟩ := Post.ck p1
  obtain ⟨h1, h2⟩ := ty_is I1 st1.rep q1 rx ht hT
  refine ⟨T.name, id, pa, slot, hty, h1, h2, ?_⟩
  have hA := ha.run cpos pins s1 σ H1 (fun vs H2 => ∃ ρ2 g2 l, Rep (ux X cn) ρ2 H2 g2 ∧ RelDs X.K ρ2 H2 l vs ∧ RelD X.K ρ2 H2 d x ∧ Post (ux X cn) (rD (ux X cn)) W σ ρ2 H2 (f d l g2) Q) I1 ⟨ρ1, τ, g1, st1, p2.thn fun ρ2 vs H2 l g2 e2 r2 q2 p3 => ⟨ρ2, g2, l, r2, q2, e2.rel st1.rep q1, p3⟩⟩
  rw [hs] at hA ⊢
  refine Calls.callWith_builtin (by show (false || (backTo cpos (starEach es X.env)).any (·.1)) = false; rw [hplain] <;> rfl) (Calls.evalArgs_plain ?_)
  exact thn hA fun us s2 ⟨vs, H2, I2, r2, ρ2, g2, l, rp2, ql, qd, p3⟩ => hm W pins s2 σ H2 x vs v us Q ρ2 g2 d l I2 rx r2 rp2 qd ql p3
def fApp : D → List D → M D := fun x l g => match x with
  | .ref n => match g[n]? with
    | some (.lst ys) => match l with
      | [y] => ck (ys.length ≤ 100000) (.ok .non (g.set n (.lst (ys ++ [y]))))
      | _ => .bad
    | _ => .bad
  | _ => .bad
theorem m_app : MtD X cn "list.append" fApp := by
  intro W pins s σ H x xs v us Q ρ g d l I rx rs R qd ql p
  unfold fApp at p
  split at p
  · rename_i n
    split at p
    · rename_i ys hg
      split at p
      · rename_i y
        obtain ⟨hl, p2⟩ := Post.ck p
        cases qd with
        | ref ha =>
          cases ql with
          | cons q0 qn =>
            cases qn
            obtain ⟨zs, h1, h2⟩ := R.lst hg ha
            refine mt_append pins s σ H _ _ v us Q I rx rs ⟨_, zs, _, rfl, rfl, h1, by rw [← h2.length]; exact small_line hl, ?_⟩
            obtain ⟨ev, rp⟩ := Ev.wr (ob := .lst (ys ++ [y])) (o := .lst (zs ++ [_])) R ha (List.getElem?_eq_some_iff.mp hg).1 (fun _ _ z => by rw [h1] at z; cases z) fun e h => ⟨_, h, (e.rels R h2).app (.one (e.rel R q0))⟩
            exact p2 ρ .non _ ev rp .non
      · exact p.elim
    · exact p.elim
  · exact p.elim
theorem re_app (ho : RE X cn W o mo) (ha : RA X cn W (e :: es) ml)
    (hbase : attributeBase o "append" X.env (eval o X.env) = eval o X.env := by rfl)
    (hfew : ((backTo cpos (starEach (e :: es) X.env)).all (fun x => !x.1) && (backToKw cpos (keywordEach [] X.env)).all (fun x => x.1.isSome)
      && decide ((e :: es).length + ([] : List Keyword).length + (if ([] : List Keyword).isEmpty then 0 else 1) < 30)) = true := by rfl)
    (hline : (apos.endLine == cpos.line) = true := by rfl) (hs : starEach (e :: es) X.env = (false, eval e X.env) :: starEach es X.env := by rfl) (hplain : (backTo cpos (starEach es X.env)).any (·.1) = false := by rfl) :
    RE X cn W (.Call (.Attribute o "append" apos) (e :: es) [] cpos) (mBM .lst fApp mo ml) := re_bm (.inr (.inl rfl)) PySem.F.plainAttrs_list PySem.F.slot_list_append PySem.F.type_list_append m_app ho ha hbase hfew hline hs hplain
end
end RL
namespace RL
open PySem L2
def mRange1 (a : ME) : MI := fun τ g => (mCons a mNil τ g).bind srcR1
theorem hu1 {k : Nat} {A : Around} (r : Room k A) : A.units + 1 < cLine := by have := r.un; omega
theorem hu64 {k : Nat} {A : Around} (r : Room k A) : A.units + 64 < cLine := by have := r.un; omega
theorem hu65 {k : Nat} {A : Around} (r : Room k A) : A.units + 65 < cLine := by have := r.un; omega
section
variable {X : Cx} {cn : Str → Addr} {W : WX} {a b : Expr} {ma mb : ME} {pos : Pos}
theorem rt_in (hu : X.A.units + 65 < cLine) (ha : RE X cn W a ma) (hb : RE X cn W b mb) (hm : behindInMarks .In b = false := by rfl) : RT X cn W (.Compare a [.In] [b] pos) (mTest (mOp fIn ma mb)) := rt_cmp (op_inA hu) (s_pure fIn_g fIn_e) ha hb hm
theorem rt_notIn (hu : X.A.units + 65 < cLine) (ha : RE X cn W a ma) (hb : RE X cn W b mb) (hm : behindInMarks .NotIn b = false := by rfl) : RT X cn W (.Compare a [.NotIn] [b] pos) (mTest (mOp fNot ma mb)) := rt_cmp (op_notA hu) (s_pure (fun x y g d g' h => (fNot_in h).choose_spec.2.2) fNot_e) ha hb hm
theorem rt_eq (hu : X.A.units + 64 < cLine) (ha : RE X cn W a ma) (hb : RE X cn W b mb) : RT X cn W (.Compare a [.Eq] [b] pos) (mTest (mOp fEq ma mb)) := rt_cmp (op_eqD hu) s_eq ha hb (nomark _)
theorem rt_ne (hu : X.A.units + 64 < cLine) (ha : RE X cn W a ma) (hb : RE X cn W b mb) : RT X cn W (.Compare a [.NotEq] [b] pos) (mTest (mOp fNe ma mb)) := rt_cmp (op_neD hu) s_ne ha hb (nomark _)
theorem rt_lt (ha : RE X cn W a ma) (hb : RE X cn W b mb) : RT X cn W (.Compare a [.Lt] [b] pos) (mTest (mOp fLt ma mb)) := rt_cmp op_lt s_lt ha hb (nomark _)
theorem rt_gt (ha : RE X cn W a ma) (hb : RE X cn W b mb) : RT X cn W (.Compare a [.Gt] [b] pos) (mTest (mOp fGt ma mb)) := rt_cmp op_gt s_gt ha hb (nomark _)
end
end RL
namespace RL
open PySem L2
section
variable {g : G}
theorem subI (i j : Int) : fSub (.int i) (.int j) g = .ok (.int (i - j)) g := ck_pos trivial _
theorem mulI (i j : Int) (h : (-(2 ^ 64) < i ∧ i < 2 ^ 64) ∨ (-(2 ^ 64) < j ∧ j < 2 ^ 64)) : fMul (.int i) (.int j) g = .ok (.int (i * j)) g := ck_pos h _
theorem modI (i j : Int) (h : 0 < j) : fMod (.int i) (.int j) g = .ok (.int (i % j)) g := ck_pos h _
theorem divI (i j : Int) (h : 0 < j) (h2 : j < 1073741824) : fDiv (.int i) (.int j) g = .ok (.int (i / j)) g := ck_pos ⟨h, h2⟩ _
theorem powI (i j : Int) (h : 0 ≤ j) (h1 : j ≤ 1000000) (h2 : i.natAbs < 2 ^ 64) : fPow (.int i) (.int j) g = .ok (.int (i ^ j.toNat)) g := ck_pos ⟨h, h1, h2⟩ _
theorem ltI (i j : Int) : fLt (.int i) (.int j) g = .ok (.bl (decide (i < j))) g := ck_pos trivial _
theorem gtI (i j : Int) : fGt (.int i) (.int j) g = .ok (.bl (decide (j < i))) g := ck_pos trivial _
theorem geI (i j : Int) : fGe (.int i) (.int j) g = .ok (.bl (decide (j ≤ i))) g := ck_pos trivial _
theorem ev2 {f : D → D → M D} {a b : ME} {τ : T} {g1 g2 : G} {x y : D} {r : Res D} (ha : a τ g = .ok x g1) (hb : b τ g1 = .ok y g2) (h : f x y g2 = r) : mOp f a b τ g = r := by
  unfold mOp
  rw [ha]
  show (b τ g1).bind _ = r
  rw [hb]
  exact h
theorem evInt {e : ME} {τ : T} {g1 : G} {i : Int} (h : e τ g = .ok (.int i) g1) : mUnA fInt (mCons e mNil) τ g = .ok (.int i) g1 := by
  unfold mUnA mCons
  rw [h]
  rfl
theorem asg_ok {e : ME} {τ : T} {g1 : G} {d : D} {i : Nat} (h : e τ g = .ok d g1) : mAsg e (gN i) τ g = .nx (τ.set i (some d)) g1 := by
  unfold mAsg
  rw [h]
  rfl
theorem if_t {c : MT} {a b : MS} {τ : T} {g1 : G} (h : c τ g = .ok true g1) : mIfS c a b τ g = a τ g1 := by
  unfold mIfS
  rw [h]
  rfl
theorem if_f {c : MT} {a b : MS} {τ : T} {g1 : G} (h : c τ g = .ok false g1) : mIfS c a b τ g = b τ g1 := by
  unfold mIfS
  rw [h]
  rfl
theorem tst {e : ME} {τ : T} {g1 : G} {b : Bool} (h : e τ g = .ok (.bl b) g1) : mTest e τ g = .ok b g1 := by
  unfold mTest
  rw [h]
  rfl
theorem app_at {n : Nat} {l : List D} {d : D} (h : g[n]? = some (.lst l)) (hl : l.length ≤ 100000) : fApp (.ref n) [d] g = .ok .non (g.set n (.lst (l ++ [d]))) := by
  unfold fApp
  dsimp only
  rw [h]
  exact ck_pos hl _
theorem ty_lst {n : Nat} {l : List D} (h : g[n]? = some (.lst l)) : tyD g (.ref n) = some .lst := by
  unfold tyD
  dsimp only
  rw [h]
theorem ty_dct {n : Nat} {k : Bool} {l : List (D × D)} (h : g[n]? = some (.dct k l)) : tyD g (.ref n) = some .dct := by
  unfold tyD
  dsimp only
  rw [h]
theorem drop_ok {e : ME} {τ : T} {g1 : G} {d : D} (h : e τ g = .ok d g1) : mDrop e τ g = .nx τ g1 := by
  unfold mDrop
  rw [h]
  rfl
theorem bm_ok {t : Ty} {f : D → List D → M D} {o : ME} {a : MA} {τ : T} {g1 g2 : G} {x : D} {l : List D} {r : Res D} (ho : o τ g = .ok x g1) (ht : tyD g1 x = some t) (ha : a τ g1 = .ok l g2) (h : f x l g2 = r) : mBM t f o a τ g = r := by
  unfold mBM
  rw [ho]
  show ck _ ((a τ g1).bind _) = r
  rw [ck_pos ht, ha]
  exact h
theorem cons_ok {e : ME} {a : MA} {τ : T} {g1 g2 : G} {d : D} {l : List D} (h : e τ g = .ok d g1) (ha : a τ g1 = .ok l g2) : mCons e a τ g = .ok (d :: l) g2 := by
  unfold mCons
  rw [h]
  show (a τ g1).bind _ = _
  rw [ha]
  rfl
theorem nil_ok {τ : T} : mNil τ g = .ok [] g := rfl
theorem srcR1_ok {n : Nat} (hn : n ≤ 100000) : srcR1 [.int (n : Int)] g = .ok (rng 0 n, none) g := by
  have hz : (n : Int) ≤ 100000 := by omega
  have h0 := Int.natCast_nonneg n
  show ck _ (Res.ok (rng 0 (n : Int).toNat, (none : Option (Nat × Ob))) g) = _
  rw [Int.toNat_natCast]
  generalize (n : Int) = z at hz h0
  refine ck_pos ⟨Int.le_trans ?_ h0, Int.lt_of_le_of_lt hz ?_⟩ _ <;> decide
theorem range1_ok {e : ME} {τ : T} {g1 : G} {n : Nat} (h : e τ g = .ok (.int (n : Int)) g1) (hn : n ≤ 100000) : mRange1 e τ g = .ok (rng 0 n, none) g1 := by
  unfold mRange1
  rw [cons_ok h nil_ok, Res.bind_ok, srcR1_ok hn]
theorem for_ok {mi : MI} {mg : MG} {mb : MS} {τ : T} {g1 : G} {l : List D} {c : Option (Nat × Ob)} (h : mi τ g = .ok (l, c) g1) : mFor mi mg mb τ g = forGo c mg mb l τ g1 := by
  unfold mFor
  rw [h]
  rfl
theorem len_at {n : Nat} {l : List D} (h : g[n]? = some (.lst l)) : fLen [.ref n] g = .ok (.int (l.length : Nat)) g := by
  unfold fLen items
  dsimp only
  rw [h]
theorem una_ok {f : List D → M D} {a : MA} {τ : T} {g1 : G} {l : List D} {r : Res D} (ha : a τ g = .ok l g1) (h : f l g1 = r) : mUnA f a τ g = r := by
  unfold mUnA
  rw [ha]
  exact h
theorem ret_ok {e : ME} {τ : T} {g1 : G} {d : D} (h : e τ g = .ok d g1) : mRet e τ g = .rt d g1 := by
  unfold mRet
  rw [h]
  rfl
theorem call_ok {n : Nat} {es : List D} {mf : List D → M D} {l : List D} {r : Res D} (hn : l.length = n) (h : mf (l ++ es) g = r) : fCall n es mf l g = r := by
  unfold fCall
  rw [ck_pos hn]
  exact h
/-- what is read stands on -/
theorem app_get {o : Ob} {n : Nat} {l : G} (h : g[n]? = some o) : (g ++ l)[n]? = some o := by rw [List.getElem?_append_left (List.getElem?_eq_some_iff.mp h).1]; exact h
theorem end_get {o : Ob} : (g ++ [o])[g.length]? = some o := by simp
theorem seq_nx {a b : MS} {τ τ' : T} {g g' : G} (h : a τ g = .nx τ' g') : mSeq a b τ g = b τ' g' := by unfold mSeq; rw [h]
theorem seq_rt {a b : MS} {τ : T} {g g' : G} {d : D} (h : a τ g = .rt d g') : mSeq a b τ g = .rt d g' := by unfold mSeq; rw [h]
theorem seq_ex {a b : MS} {τ τ' : T} {g g' : G} {e : Exc} (h : a τ g = .ex e τ' g') : mSeq a b τ g = .ex e τ' g' := by unfold mSeq; rw [h]
end
end RL
namespace RL
open PySem L2
/-- a part of a slice, left out or an int -/
abbrev MP := T → M (Option Int)
def rP : RelT (Option Int) (Option Int) := fun _ _ a b => a = b
def tP (U₀ : U) (W : WX) (m : MP) : TO := fun σ H Q => ∃ ρ τ g, Stt U₀ ρ τ g σ H ∧ Post U₀ rP W σ ρ H (m τ g) Q
def RP (X : Cx) (cn : Str → Addr) (W : WX) (e : Option Expr) (m : MP) : Prop := PO X e (tP (ux X cn) W m)
theorem poI {X : Cx} {e : Option Expr} {t t' : TO} (h : PO X e t) (i : ∀ σ H Q, t' σ H Q → t σ H Q) : PO X e t' := ⟨fun pins s σ H Q I q => h.run pins s σ H Q I (i σ H Q q)⟩
def pNo : MP := fun _ g => .ok none g
def pInt (m : ME) : MP := fun τ g => (m τ g).bind fun d g1 => match d with
  | .int i => .ok (some i) g1
  | _ => .bad
/-- from a on, b - a items -/
def cutD (l : List D) (lo hi : Option Int) : List D :=
  let a := HT.sIx l.length 0 lo
  let b := HT.sIx l.length l.length hi
  (l.drop a).take (b - a)
def fSl (x : D) (lo hi : Option Int) : M D := fun g => match x with
  | .tup _ => .bad
  | x => match items g x with
    | some l => .ok (.ref g.length) (g ++ [.lst (cutD l lo hi)])
    | none => .bad
def mSl (a : ME) (b c : MP) : ME := fun τ g => (a τ g).bind fun x g1 => (b τ g1).bind fun lo g2 => (c τ g2).bind fun hi g3 => fSl x lo hi g3
section
variable {X : Cx} {cn : Str → Addr} {W : WX} {a : Expr} {lo hi : Option Expr} {e : Expr} {ma me : ME} {ml mh : MP} {pos p2 : Pos}
theorem rp_no : RP X cn W none pNo := poI po_none fun σ H Q ⟨ρ, τ, g, s, p⟩ => p.at s.rep rfl
theorem rp_int (h : RE X cn W e me) : RP X cn W (some e) (pInt me) := poI (po_some h) fun σ H Q ⟨ρ, τ, g, s, p⟩ => ⟨ρ, τ, g, s, p.thn fun ρ1 v H1 d g1 e1 r1 q1 p1 => by
  cases q1 <;> first | exact p1.elim | exact ⟨_, rfl, p1.at r1 rfl⟩⟩
theorem cut_rel {K : PySem.W.Frag} {ρ : List Addr} {H : Hp} {l : List D} {xs : List V} (r : RelDs K ρ H l xs) (u v : Option Int) : RelDs K ρ H (cutD l u v) (cutV xs u v) := by
  unfold cutD cutV
  rw [r.length]
  exact (r.drop _).take _
theorem re_slice (ha : RE X cn W a ma) (hl : RP X cn W lo ml) (hh : RP X cn W hi mh) : RE X cn W (.Subscript a (.Slice lo hi none p2) pos) (mSl ma ml mh) := by
  refine peI (pe_slice (sl_list (X := X)) ha hl hh) fun σ H Q ⟨ρ, τ, g, s, p⟩ => ⟨ρ, τ, g, s, p.thn fun ρ1 v H1 d g1 e1 r1 q1 p1 => ?_⟩
  refine ⟨ρ1, τ, g1, s.later e1 r1, p1.thn fun ρ2 l H2 l' g2 e2 r2 q2 p2 => ?_⟩
  refine ⟨ρ2, τ, g2, (s.later e1 r1).later e2 r2, p2.thn fun ρ3 u H3 u' g3 e3 r3 q3 p3 => ?_⟩
  cases (show l' = l from q2)
  cases (show u' = u from q3)
  have qd := e3.rel r2 (e2.rel r1 q1)
  have key : ∀ (z : List D), items g3 d = some z → (∀ w, d ≠ .tup w) → Post (ux X cn) (rD (ux X cn)) W σ ρ3 H3 (.ok (.ref g3.length) (g3 ++ [.lst (cutD z l u)])) Q → rSlL X.K v l u H3 Q := by
    intro z hz hn p
    have hs : ∃ a xs, v = .ref a ∧ SqL X.K H3 a xs ∧ RelDs X.K ρ3 H3 z xs := by
      cases qd with
      | tup h1 h2 => exact absurd rfl (hn _)
      | kl h1 h2 =>
        cases hz
        exact ⟨_, _, rfl, h1.seq, h2⟩
      | ref ha =>
        obtain ⟨xs, h1, h2⟩ := items_ref r3 hz ha
        exact ⟨_, xs, rfl, h1, h2⟩
      | _ => cases hz
    obtain ⟨a, xs, rfl, h1, h2⟩ := hs
    refine ⟨a, xs, rfl, h1, fun q hq => ?_⟩
    obtain ⟨ev, rp, len⟩ := Ev.cnt (o := .lst (cutV xs l u)) (ob := .lst (cutD z l u)) r3 hq fun e h => ⟨_, h, cut_rel (e.rels r3 h2) l u⟩
    exact p _ _ _ ev rp (.ref len)
  unfold fSl at p3
  split at p3
  · exact p3.elim
  · rename_i hn
    split at p3
    · rename_i z hz
      exact key z hz hn p3
    · exact p3.elim
end
end RL
namespace RL
open PySem L2
def allS (kvs : List (D × D)) : Bool := kvs.all fun p => match p.1 with
  | .str _ => true
  | _ => false
section
variable {K : PySem.W.Frag} {ρ : List Addr} {H : Hp} {P : Program} {w : World} {a : Addr}
theorem RelKs.len {kvs : List (D × D)} {ks : List (Key × V)} (r : RelKs K ρ H kvs ks) : kvs.length = ks.length := by
  induction r with
  | nil => rfl
  | cons _ _ _ ih => rw [List.length_cons, List.length_cons, ih]
theorem RelPs.len {kvs : List (D × D)} {ks : List Ent} (r : RelPs K ρ H kvs ks) : kvs.length = ks.length := by
  induction r with
  | nil => rfl
  | cons _ _ _ _ _ ih => rw [List.length_cons, List.length_cons, ih]
theorem RelKs.keys {kvs : List (D × D)} {ks : List (Key × V)} (r : RelKs K ρ H kvs ks) : RelDs K ρ H (kvs.map (·.1)) (ks.map fun kv => kV kv.1) := by
  induction r with
  | nil => exact .nil
  | cons h _ _ ih => exact .cons (.str h) ih
theorem RelPs.keys {kvs : List (D × D)} {ks : List Ent} (r : RelPs K ρ H kvs ks) : RelDs K ρ H (kvs.map (·.1)) (ks.map fun x => V.ref x.2.1) := by
  induction r with
  | nil => exact .nil
  | cons _ h _ _ _ ih => exact .cons h ih
end
def fList : List D → M D := fun l g => match l with
  | [x] => match items g x with
    | some l => .ok (.ref g.length) (g ++ [.lst l])
    | none => match x with
      | .ref n => match g[n]? with
        | some (.dct _ kvs) => .ok (.ref g.length) (g ++ [.lst (kvs.map (·.1))])
        | _ => .bad
      | _ => .bad
  | _ => .bad
section
variable {X : Cx} {cn : Str → Addr} {W : WX} {pos : Pos} {a : Expr} {ma : ME}
/-- the keys of a dict of tuples -/
theorem list_dP (hc : X.calm = true) {pins : List (Addr × PySem.Obj)} {s : Shared} {σ : St} {H : Hp} {d : Addr} {xs : List Ent} {Q : VK} (I : Inv X pins σ H s) (hd : Rd H d (dP X.prog X.w d xs)) (q : ∀ p, H p = none → Q (.ref p) (upd H p (.lst (xs.map fun x => V.ref x.2.1)))) :
    wpAny (model X.prog X.w) X.A (call (.type "list") [.ref d]) (EP X pins σ Q) X.xe s := by
  obtain ⟨z, lo, nd, o, es, ep, ho, hx, hdt, he⟩ := dP_rd I.hok hd
  have ln : es.size = xs.length := size_of_entries he
  refine PySem.W.kdl_call (kdl_raw lo hx hdt) (I.ok.hd hc) ho (by rw [ln]; exact z) fun h' tk items c' kp new at_ => ?_
  have sz : (xs.map fun x => V.ref x.2.1).length = items.toList.length := by rw [List.length_map, ← ln, ← at_.1, Array.length_toList]
  have vals : Vals (xs.map fun x => V.ref x.2.1) items.toList := vals_of_at sz fun j x v h1 h2 => by
    rw [List.getElem?_map] at h1
    obtain ⟨y, hy, rfl⟩ := Option.map_eq_some_iff.mp h1
    obtain ⟨en, e1, rfl⟩ := at_.2 j v (by rw [← Array.getElem?_toList]; exact h2)
    rw [entry_at he j, hy] at e1
    cases e1
    rfl
  exact ⟨.ref _, _, I.laid (t' := tk) (o := .lst (xs.map fun x => V.ref x.2.1)) kp (Nat.le_refl _) ⟨by rw [List.length_map]; exact z, items.toList, c', vals, new⟩, rfl, q _ (I.hok.fresh (Nat.le_refl _))⟩
def rListA (X : Cx) (cn : Str → Addr) : List V → Hp → VK → Prop := fun xs H Q => (∃ p ys, xs = [.ref p] ∧ (SqL X.K H p ys ∨ SqT X.K H p ys) ∧ ∀ l, H l = none → Q (.ref l) (upd H l (.lst ys))) ∨
  ((∃ (b : Addr) (kvs : List (Key × V)), xs = [.ref b] ∧ Rd H b (.dK kvs) ∧ ∀ p, H p = none → Q (.ref p) (upd H p (.lst (kvs.map fun kv => kV kv.1)))) ∨
  ∃ (b : Addr) (ys : List Ent), xs = [.ref b] ∧ Rd H b (dP X.prog X.w b ys) ∧ ∀ p, H p = none → Q (.ref p) (upd H p (.lst (ys.map fun x => V.ref x.2.1))))
theorem call_listA (hc : X.calm = true) : CallR X (.type "list") (rListA X cn) := by
  intro pins s σ H xs us Q I r h
  rcases h with h | h | ⟨b, ys, rfl, hd, q⟩
  · exact call_list_of pins s σ H xs us Q I r h
  · exact call_listD hc pins s σ H xs us Q I r h
  · obtain ⟨u, rfl, rx⟩ := r.one
    cases rx
    exact list_dP hc I hd q
theorem s_list : SA (ux X cn) (rListA X cn) fList := by
  intro W σ ρ H g x v Q r q p
  unfold fList at p
  split at p
  · rename_i x
    cases q with
    | cons q1 q2 =>
      cases q2
      split at p
      · rename_i l hi
        obtain ⟨xs, ⟨a, rfl, sq⟩, rs⟩ := items_sq r hi q1
        refine .inl ⟨a, xs, rfl, sq, fun t ht => ?_⟩
        obtain ⟨ev, rp, hx⟩ := Ev.cnt (ob := .lst l) (o := .lst xs) r ht fun e h => ⟨_, h, e.rels r rs⟩
        exact p _ _ _ ev rp (.ref hx)
      · split at p
        · split at p
          · rename_i n _ lk kvs hg
            cases q1 with
            | ref ha =>
              obtain ⟨u, h1, h2⟩ := r.dct hg ha
              rcases h2 with ⟨ks, rfl, rk⟩ | ⟨xs, rfl, rk, _⟩
              · refine .inr (.inl ⟨_, ks, rfl, h1, fun t ht => ?_⟩)
                obtain ⟨ev, rp, hx⟩ := Ev.cnt (ob := .lst (kvs.map (·.1))) (o := .lst (ks.map fun kv => kV kv.1)) r ht fun e h => ⟨_, h, e.rels r rk.keys⟩
                exact p _ _ _ ev rp (.ref hx)
              · refine .inr (.inr ⟨_, xs, rfl, h1, fun t ht => ?_⟩)
                obtain ⟨ev, rp, hx⟩ := Ev.cnt (ob := .lst (kvs.map (·.1))) (o := .lst (xs.map fun x => V.ref x.2.1)) r ht fun e h => ⟨_, h, e.rels r rk.keys⟩
                exact p _ _ _ ev rp (.ref hx)
          · exact p.elim
        · exact p.elim
  · exact p.elim
theorem re_listc {p2 : Pos} (hc : X.calm = true) (hg : Gl X "list") (hm : X.mg "list" = none) (ha : RE X cn W a ma) (hs : starEach [a] X.env = (false, eval a X.env) :: starEach [] X.env := by rfl) : RE X cn W (.Call (.Name "list" p2) [a] [] pos) (mUnA fList (mCons ma mNil)) :=
  re_callTy (id := "list") (call_listA (cn := cn) hc) s_list hg hm PyProof.Rows.boot_list (ra_cons ha ra_nil hs) (he := hs)
end
def dupd (kvs more : List (D × D)) : List (D × D) := more.foldl (fun acc p => dput acc p.1 p.2) kvs
theorem putK_nd {kvs : List (Key × V)} {k : Key} {v : V} (h : (kvs.map (·.1)).Nodup) : ((putK kvs k v).map (·.1)).Nodup := by
  cases e : valV kvs k with
  | none => exact nd_putK v h e
  | some u =>
    have : (kvs.any fun kv => decide (kv.1 = k)) = true := by rw [valV_any, e]; rfl
    unfold putK
    rw [if_pos this, List.map_map]
    have q : ((fun x : Key × V => x.1) ∘ fun kv => if kv.1 = k then (kv.1, v) else kv) = fun kv => kv.1 := by
      funext kv
      simp only [Function.comp]
      split <;> rfl
    rw [q]
    exact h
theorem RelKs.upd {K : PySem.W.Frag} {ρ : List Addr} {H : Hp} {more : List (D × D)} {ms : List (Key × V)} (r : RelKs K ρ H more ms) : ∀ {kvs : List (D × D)} {ks : List (Key × V)}, RelKs K ρ H kvs ks → (ks.map (·.1)).Nodup → RelKs K ρ H (dupd kvs more) (mergeK ks ms) := by
  induction r with
  | nil => exact fun h _ => h
  | cons h rd _ ih => exact fun q nd => ih (RelKs.put rd h q nd) (putK_nd nd)
section
variable {X : Cx} {cn : Str → Addr} {W : WX} {mo : ME} {ml : MA} {o e : Expr} {es : List Expr} {apos cpos : Pos}
end
end RL
namespace RL
open PySem L2
/-- what is known of a locked dict -/
structure Lk (s : Shared) (d : Addr) (o : PySem.Obj) (ks : List V) : Prop where
  lo : (d == sysModules) = false
  here : s.heap.get? d = some o
  exact : o.ExactDict
  ent : ∃ es ep, o.data = .dict es ep ∧ es.size = ks.length ∧ ∀ (i : Nat) (v : V), ks[i]? = some v → ∃ en : DictEntry, es[i]? = some en ∧ RelV v en.key
section
variable {X : Cx} {cn : Str → Addr} {pins : List (Addr × PySem.Obj)} {σ : St} {H : Hp} {s : Shared} {d : Addr} {o : PySem.Obj} {ρ : List Addr}
theorem lk_dK {ks : List (Key × V)} (I : Inv X pins σ H s) (h : H d = some (.frz o (.dK ks))) : Lk s d o (ks.map fun kv => kV kv.1) := by
  obtain ⟨lo, here, ex, es, ep, vs, hdt, hsz, kv, hm⟩ := I.frzK h
  refine ⟨lo, here, ex, es, ep, hdt, by rw [List.length_map]; exact hsz, fun i v e => ?_⟩
  obtain ⟨q, e1, e2, e3, e4, e5, e6⟩ := hm
  rw [here] at e2
  cases e2
  rw [hdt] at e4
  cases e4
  rw [List.getElem?_map] at e
  obtain ⟨⟨k, w⟩, h1, rfl⟩ := Option.map_eq_some_iff.mp e
  obtain ⟨u, hu, _⟩ := kv_get kv h1
  have l2 : i < es.size := by rw [hsz]; exact (List.getElem?_eq_some_iff.mp h1).1
  exact ⟨es[i], Array.getElem?_eq_getElem l2, relV_key (e6.1.get? (e := es[i]) (by simp [l2]) hu).1⟩
theorem lk_dP {xs : List Ent} (I : Inv X pins σ H s) (h : H d = some (.frz o (dP X.prog X.w d xs))) : Lk s d o (xs.map fun x => V.ref x.2.1) := by
  obtain ⟨here, r, _⟩ := I.hok d _ h
  obtain ⟨_, lo, _, o', es, ep, ho, ex, hdt, he⟩ := r
  rw [here] at ho
  cases ho
  refine ⟨lo, here, ex, es, ep, hdt, by rw [List.length_map]; exact size_of_entries he, fun i v e => ?_⟩
  rw [List.getElem?_map] at e
  obtain ⟨y, hy, rfl⟩ := Option.map_eq_some_iff.mp e
  exact ⟨entryOfKey (tk X.prog X.w) y, by rw [entry_at he i, hy]; rfl, rfl⟩
/-- the keys, one after the other: nothing changes but the iterator -/
def Itx (d : Addr) (o : PySem.Obj) (u : HO) (ks : List V) : It where
  go i H := H d = some (.frz o u) ∧ i < ks.length
  yld i H x H' := H' = H ∧ ks[i]? = some x
  stop i H := H d = some (.frz o u) ∧ ks.length ≤ i
theorem turn_x {P : Program} {w : World} {K : PySem.W.Frag} {tg : Expr} {u : HO} {ks : List V} {it : Addr} {es : Array DictEntry} {ep : Nat} (hd : o.data = .dict es ep) (hn : es.size = ks.length) (hk : ∀ (i : Nat) (v : V), ks[i]? = some v → ∃ en : DictEntry, es[i]? = some en ∧ RelV v en.key) :
    Turn P w K tg (Itx d o u ks) [it] it fun i h => h.IsKeyIter it d i ks.length ep := by
  have one : ∀ {b : Addr}, b ∈ [it] → b = it := fun hb => by simpa using hb
  refine ⟨List.mem_singleton.mpr rfl, ?obj, ?keep, ?item, ?fin, fun A i s Q E st q => wpAny_pyIter_keyiter st q⟩
  case obj =>
    rintro i h ⟨ob, e1, _, e2⟩ b hb
    rw [one hb]
    exact ⟨ob, e1, fun v z => by rw [e2] at z; cases z⟩
  case keep => exact fun i h h' st all => st.at fun ob e => all it (List.mem_singleton.mpr rfl) ob e
  case item =>
    rintro X rfl rfl rfl _ i pins s σ H E I fr st ⟨hf, lt⟩
    obtain ⟨a0, a1, a2, a3, a4, a5⟩ := fr it (List.mem_singleton.mpr rfl)
    obtain ⟨en, e1, e2⟩ := hk i ks[i] (List.getElem?_eq_getElem lt)
    refine next_key_item st (I.hok d _ hf).1 hd hn e1 fun h' st' but => ⟨_, rfl, ?_⟩
    obtain ⟨ob, b1, b2, b3⟩ := id st'
    refine go_of (s := { s with heap := h' }) b1 b2 b3 (by decide) ⟨ks[i], H, ?_, e2, ⟨rfl, List.getElem?_eq_getElem lt⟩, st', fun b hb => by rw [one hb]; exact a0⟩
    exact I.turned (t' := s.toks) (fun b ob ne e => (but.2 b ne).trans e) a0 a1 a3 a4 a5
  case fin =>
    rintro X rfl rfl rfl calm i pins s σ H E I fr st ⟨hf, ge⟩
    obtain ⟨a0, a1, a2, a3, a4, a5⟩ := fr it (List.mem_singleton.mpr rfl)
    exact next_key_end (I.ok.hd calm) st (I.hok d _ hf).1 hd hn ge fun h' ext => ⟨rfl, I.turned (t' := s.toks) (fun b ob ne e => ext b ob ne e) a0 a1 a3 a4 a5⟩
end
/-- the keys of a locked dict -/
def srcKeys : D → M Src := fun x g => match x with
  | .ref n => match g[n]? with
    | some (.dct true kvs) => .ok (kvs.map (·.1), some (n, .dct true kvs)) g
    | _ => .bad
  | _ => .bad
def mKeysI (m : ME) : MI := fun τ g => (m τ g).bind srcKeys
theorem drw_x {u : U} {ρ : List Addr} {H : Hp} {g : G} {n : Nat} {a : Addr} {o : PySem.Obj} {h : HO} {l : List D} {ks : List V} {ob : Ob} (R : Rep u ρ H g) (hH : H a = some (.frz o h)) (rs : RelDs u.K ρ H l ks) : Drw u ρ H (l, some (n, ob)) (Itx a o h ks) := by
  refine ⟨fun ρ' H' g' i d ev r _ hd => ?_, fun ρ' H' g' ev r _ => ⟨ev.frz _ _ _ hH, by rw [← rs.length]; exact Nat.le_refl _⟩⟩
  obtain ⟨v, h1, h2⟩ := (ev.rels R rs).get hd
  refine ⟨⟨ev.frz _ _ _ hH, (List.getElem?_eq_some_iff.mp h1).1⟩, fun x H2 ⟨e, q⟩ => ?_⟩
  subst e
  rw [h1] at q
  cases q
  exact ⟨Ev.refl, r, h2, fun _ _ z => z⟩
section
variable {X : Cx} {cn : Str → Addr} {W : WX} {tg iter : Expr} {m : ME}
end
def lockAt (m : ME) (τ : T) (g : G) : Option (Nat × List (D × D)) := match m τ g with
  | .ok (.ref n) _ => match g[n]? with
    | some (.dct false kvs) => some (n, kvs)
    | _ => none
  | _ => none
theorem lockAt_some {m : ME} {τ : T} {g : G} {n : Nat} {kvs : List (D × D)} (h : lockAt m τ g = some (n, kvs)) : g[n]? = some (.dct false kvs) := by
  unfold lockAt at h
  split at h
  · split at h
    · rename_i hg
      cases h
      exact hg
    · cases h
  · cases h
def unlG (n : Nat) (kvs : List (D × D)) (g : G) : Option G := if g[n]? = some (.dct true kvs) then some (g.set n (.dct false kvs)) else none
/-- it is locked already -/
def lkd (m : ME) (τ : T) (g : G) : Bool := match m τ g with
  | .ok (.ref n) _ => match g[n]? with
    | some (.dct true _) => true
    | _ => false
  | _ => false
def unlE {α : Type} (n : Nat) (kvs : List (D × D)) : Res α → Res α
  | .ok d g => match unlG n kvs g with
    | some g' => .ok d g'
    | none => .bad
  | _ => .bad
def mLockE (m : ME) (b : ME) : ME := fun τ g => match lockAt m τ g with
  | some (n, kvs) => unlE n kvs (b τ (g.set n (.dct true kvs)))
  | none => if lkd m τ g = true then b τ g else .bad
section
variable {U₀ : U} {ρ ρ' : List Addr} {H H' : Hp} {g g' : G} {n : Nat} {a : Addr} {kvs : List (D × D)} {o : HO} {od : PySem.Obj}
theorem DctU.mut {K : PySem.W.Frag} {P : Program} {w : World} (h : DctU K ρ H P w a kvs o) : Mut (some o) := by
  rcases h with ⟨ks, rfl, _⟩ | ⟨ks, rfl, _⟩ <;> exact True.intro
theorem lock_rep (R : Rep U₀ ρ H g) (hn : g[n]? = some (.dct false kvs)) (ha : ρ[n]? = some a) (hH : H a = some o) (q : DctU U₀.K ρ H U₀.P U₀.w a kvs o) (od : PySem.Obj) :
    Ev ρ H ρ (upd H a (.frz od o)) ∧ Rep U₀ ρ (upd H a (.frz od o)) (g.set n (.dct true kvs)) :=
  Ev.wr (ob := .dct true kvs) (o := .frz od o) R ha (List.getElem?_eq_some_iff.mp hn).1 (fun o' x z => by
    rw [hH] at z
    cases z
    exact q.mut) fun e h => ⟨o, od, h, q.mono fun z => e.rel R z⟩
/-- behind it all is as if there had been no lock -/
theorem unlock_rep (R : Rep U₀ ρ H g) (hn : g[n]? = some (.dct false kvs)) (ha : ρ[n]? = some a) (hH : H a = some o) (q : DctU U₀.K ρ H U₀.P U₀.w a kvs o) (ev : Ev ρ (upd H a (.frz od o)) ρ' H') (R' : Rep U₀ ρ' H' g') {g2 : G} (hg2 : unlG n kvs g' = some g2) :
    H' a = some (.frz od o) ∧ Ev ρ H ρ' (upd H' a o) ∧ Rep U₀ ρ' (upd H' a o) g2 ∧ ∀ {d : D} {v : V}, RelD U₀.K ρ' H' d v → RelD U₀.K ρ' (upd H' a o) d v := by
  unfold unlG at hg2
  split at hg2
  · rename_i hn'
    cases hg2
    have ma : a ∈ ρ := List.mem_of_getElem? ha
    have mu := q.mut
    have h1 : H' a = some (.frz od o) := ev.frz _ _ _ upd_same
    have ha' : ρ'[n]? = some a := ev.ix n a ha
    have notup : ∀ xs, o ≠ .tup xs := fun xs z => by rw [z] at mu; exact mu
    have nolst : ∀ xs, o ≠ .lst xs := fun xs z => by
      rcases q with ⟨_, e, _⟩ | ⟨_, e, _⟩ <;> rw [e] at z <;> cases z
    have mo : ∀ {d : D} {v : V}, RelD U₀.K ρ' H' d v → RelD U₀.K ρ' (upd H' a o) d v := fun z => z.mono (fun _ _ z => z) (fun b ys z => by
      rcases z with (z | ⟨ob, z⟩) | z
      · exact .inl (.inl (by rw [upd_ne (fun (e : b = a) => by rw [e, h1] at z; cases z)]; exact z))
      · exact .inl (.inr ⟨ob, by rw [upd_ne (fun (e : b = a) => by rw [e, h1] at z; cases z; exact notup _ rfl)]; exact z⟩)
      · exact .inr z) fun b ys z => by
      rcases z with ⟨ob, z⟩ | z
      · exact .inl ⟨ob, by rw [upd_ne (fun (e : b = a) => by rw [e, h1] at z; cases z; exact nolst _ rfl)]; exact z⟩
      · exact .inr z
    have up : ∀ {b : Addr}, b ≠ a → (upd H a (.frz od o)) b = H b := fun ne => upd_ne ne
    refine ⟨h1, ⟨?_, fun b z => ?_, fun b u z nm => ?_, fun b u x z => ?_⟩, ⟨by rw [List.length_set]; exact R'.len, R'.nod, fun i ob b e1 e2 => ?_⟩, mo⟩
    · obtain ⟨new, e, h⟩ := ev.pre
      refine ⟨new, e, fun b m => ?_⟩
      have z := h b m
      have ne : b ≠ a := fun e => by rw [e, upd_same] at z; cases z
      rwa [up ne] at z
    · have ne : b ≠ a := fun e => by rw [e, upd_same] at z; cases z
      rw [upd_ne ne] at z
      have y := ev.liv b z
      rwa [up ne] at y
    · have ne : b ≠ a := fun e => nm (by rw [e]; exact ma)
      rw [upd_ne ne]
      exact ev.frm b u (by rw [up ne]; exact z) nm
    · have ne : b ≠ a := fun e => by
        rw [e, hH] at z
        cases z
        exact mu
      rw [upd_ne ne]
      exact ev.frz b u x (by rw [up ne]; exact z)
    · by_cases hi : i = n
      · subst hi
        rw [ha'] at e2
        cases e2
        rw [List.getElem?_set_self (List.getElem?_eq_some_iff.mp hn').1] at e1
        cases e1
        obtain ⟨u', od', h2, h3⟩ := R'.obs i _ a hn' ha'
        rw [h1] at h2
        cases h2
        exact ⟨o, upd_same, h3.mono mo⟩
      · rw [List.getElem?_set_ne (Ne.symm hi)] at e1
        have ne : b ≠ a := fun e => by
          subst e
          exact hi (ndix R'.nod e2 ha')
        exact (R'.obs i ob b e1 e2).mono mo (by rw [upd_ne ne])
  · cases hg2
end
section
variable {X : Cx} {cn : Str → Addr} {W : WX} {st : Stmt} {e : Expr} {m b : ME} {ms : MS}
theorem re_lock (m : ME) (h : RE X cn W e b) : RE X cn W e (mLockE m b) := by
  refine ⟨fun pins sh σ H Q I ⟨ρ, τ, g, s, p⟩ => ?_⟩
  unfold mLockE at p
  split at p
  · rename_i n kvs hl
    refine (pe_lock h).run pins sh σ H Q I ?_
    have hn := lockAt_some hl
    obtain ⟨a, ha, o, hH, q⟩ := s.rep.addr hn
    refine ⟨a, o, hH, q.mut, fun od => ?_⟩
    obtain ⟨ev, R⟩ := lock_rep s.rep hn ha hH q od
    refine ⟨ρ, τ, _, s.later ev R, ?_⟩
    revert p
    cases b τ (g.set n (.dct true kvs)) with
    | ok d g' =>
      intro p ρ' v H' e1 r1 q1
      dsimp only [unlE] at p
      cases hu : unlG n kvs g' with
      | none => rw [hu] at p; exact p.elim
      | some g2 =>
        rw [hu] at p
        obtain ⟨z1, z2, z3, z4⟩ := unlock_rep s.rep hn ha hH q e1 r1 hu
        exact ⟨z1, p ρ' v _ z2 z3 (z4 q1)⟩
    | exc x g' => exact fun p => p.elim
    | bad => exact fun p => p.elim
  · split at p
    · exact h.run pins sh σ H Q I ⟨ρ, τ, g, s, p⟩
    · exact p.elim
end
end RL
namespace RL
open PySem L2
section
variable {X : Cx} {cn : Str → Addr} {W : WX} {pos : Pos}
/-- the pairs that were made -/
inductive RelVs (K : PySem.W.Frag) (ρ : List Addr) (H : Hp) : List (D × D) → List (V × V) → Prop
  | nil : RelVs K ρ H [] []
  | cons {k d : D} {x y : V} {l : List (D × D)} {vs : List (V × V)} : RelD K ρ H k x → RelD K ρ H d y → RelVs K ρ H l vs → RelVs K ρ H ((k, d) :: l) ((x, y) :: vs)
theorem RelVs.mono {K : PySem.W.Frag} {ρ ρ' : List Addr} {H H' : Hp} (m : ∀ {d : D} {v : V}, RelD K ρ H d v → RelD K ρ' H' d v) {l : List (D × D)} {vs : List (V × V)} (h : RelVs K ρ H l vs) : RelVs K ρ' H' l vs := by
  induction h with
  | nil => exact .nil
  | cons a b _ ih => exact .cons (m a) (m b) ih
end
end RL
namespace RL
open PySem L2
section
variable {K : PySem.W.Frag} {ρ : List Addr} {H : Hp}
end
section
variable {P : Program} {w : World} {K : PySem.W.Frag} {mg : Str → Option Value} {base : Heap} {cn : Str → Addr} {k m n : Nat} {f : Addr} {fd : FuncData} {ps ks : List Str} {mf : List D → M D} {idx : List Nat} {dms : List D} {ms : List (Str × V)}
end
/-- a property, as rgen writes it -/
def mProp (cs : List Str) (mf : List D → M D) (o : ME) : ME := fun τ g => (o τ g).bind fun x g1 => ck (isIns cs x g1) (noX (mf [x] g1))
def PropOk (K : PySem.W.Frag) (cn : Str → Addr) (cs : List Str) (m : Str) (f : Addr) : Prop := ∃ pr : Str → Addr, ∀ c ∈ cs, Cls K (cn c) ∧ PropOf K (cn c) m (pr c) f
theorem re_pr {X : Cx} {cn : Str → Addr} {W : WX} {k : Nat} {mf : List D → M D} {f : Addr} {m : Str} {pos : Pos} {o : Expr} {mo : ME} {cs : List Str} (F : Fit X W) (hP : PropOk X.K cn cs m f) (Df : DefM X.prog X.w X.K X.mg X.base cn k f 1 [] mf) (hr : Room (k + 1) X.A) (ho : RE X cn W o mo) (hab : attributeBase o m X.env (eval o X.env) = eval o X.env := by rfl) :
    RE X cn W (.Attribute o m pos) (mProp cs mf mo) := by
  obtain ⟨pr, hp⟩ := hP
  exact re_prop F hp Df hr ho hab
end RL
namespace RL
open PySem L2
def sd (l : List (Str × D)) : List (D × D) := l.map fun p => (.str p.1, p.2)
theorem sd_len (l : List (Str × D)) : (sd l).length = l.length := by simp [sd]
theorem sd_put (x : Str) (d : D) : ∀ l : List (Str × D), l.lookup x = none → dput (sd l) (.str x) d = sd (l ++ [(x, d)])
  | [], _ => rfl
  | (k, v) :: l, h => by
    by_cases e : k = x
    · subst e
      simp [List.lookup] at h
    · have h2 : (x == k) = false := by simpa using fun z => e (Eq.symm z)
      simp only [List.lookup, h2] at h
      show dput ((D.str k, v) :: sd l) (.str x) d = (D.str k, v) :: sd (l ++ [(x, d)])
      unfold dput
      rw [if_neg fun z => e (D.str.inj z), sd_put x d l h]
theorem sd_ok (x : Str) (l : List (Str × D)) : kOk (sd l) (.str x) := by
  refine ⟨rfl, fun p hp => ?_⟩
  obtain ⟨q, _, rfl⟩ := List.mem_map.mp hp
  rfl
theorem sd_keys (l : List (Str × D)) : (sd l).map (·.1) = (l.map (·.1)).map D.str := by simp [sd]
theorem look_none {l : List (Str × D)} {x : Str} : l.lookup x = none ↔ x ∉ l.map (·.1) := by
  induction l with
  | nil => simp
  | cons p l ih =>
    obtain ⟨k, v⟩ := p
    by_cases h : x = k
    · subst h
      simp [List.lookup]
    · have h2 : (x == k) = false := by simpa using h
      simp only [List.lookup, h2, List.map_cons, List.mem_cons, h, false_or]
      exact ih
theorem look_some {l : List (Str × D)} {x : Str} : (l.lookup x).isSome = decide (x ∈ l.map (·.1)) := by
  by_cases h : x ∈ l.map (·.1)
  · rw [decide_eq_true h]
    cases e : l.lookup x with
    | none => exact absurd h (look_none.mp e)
    | some _ => rfl
  · rw [decide_eq_false h, look_none.mpr h]
    rfl
section
variable {g : G} {τ : T} {n : Nat} {k : Bool} {l : List (Str × D)} {x : Str} {d : D}
theorem set_sd {e o i : ME} {g1 g2 g3 : G} {v : D} (he : e τ g = .ok v g1) (ho : o τ g1 = .ok (.ref n) g2) (hi : i τ g2 = .ok (.str x) g3) (h : g3[n]? = some (.dct false (sd l))) (hn : x ∉ l.map (·.1)) (hl : l.length ≤ 100000) : mAsg e (gSubM o i) τ g = .nx τ (g3.set n (.dct false (sd (l ++ [(x, v)])))) := by
  unfold mAsg
  rw [he]
  show onlyNx (gSubM o i v τ g1) = _
  unfold gSubM
  rw [ho]
  show onlyNx ((i τ g2).st τ _) = _
  rw [hi]
  have : fSet (.ref n) (.str x) v g3 = some (g3.set n (.dct false (sd (l ++ [(x, v)])))) := by
    unfold fSet
    dsimp only
    rw [h]
    show (if _ then _ else _) = _
    rw [if_pos ⟨sd_ok x l, by rw [sd_len]; exact hl⟩, sd_put x v l (look_none.mpr hn)]
  show onlyNx (match fSet (.ref n) (.str x) v g3 with | some g4 => .nx τ g4 | none => .bad) = _
  rw [this]
  rfl
theorem list_sd (h : g[n]? = some (.dct k (sd l))) : fList [.ref n] g = .ok (.ref g.length) (g ++ [.lst ((l.map (·.1)).map .str)]) := by
  unfold fList items
  dsimp only
  rw [h]
  dsimp only
  rw [sd_keys]
theorem fld_ok {cs : List Str} {f c : Str} {fs : List (Str × D)} (h : g[n]? = some (.ins c fs)) (hc : c ∈ cs) (hf : fs.lookup f = some d) : fFld cs f (.ref n) g = .ok d g := by
  unfold fFld
  dsimp only
  rw [h]
  show ck _ _ = _
  rw [ck_pos hc, hf]
  rfl
theorem un_ok {f : D → M D} {e : ME} {g1 : G} {r : Res D} (h : e τ g = .ok d g1) (h2 : f d g1 = r) : mUn f e τ g = r := by
  unfold mUn
  rw [h]
  exact h2
theorem isN_ok (b : Bool) (d : D) : fIsN b d g = .ok (.bl (if b = true then decide (d = .non) else !decide (d = .non))) g := by
  cases b <;> rfl
end
section
variable {g : G}
theorem for_ruleC {c : Option (Nat × Ob)} {mg : MG} {mb : MS} (I : Nat → T → G → Prop) (Z : SR → Prop) (l : List D) (hc : ∀ i τ g, I i τ g → still c g) (hs : ∀ i d τ g, l[i]? = some d → I i τ g → ∃ τ1 g1, mg d τ g = .nx τ1 g1 ∧ (match mb τ1 g1 with
    | .nx τ2 g2 => I (i + 1) τ2 g2
    | .ct τ2 g2 => I (i + 1) τ2 g2
    | .bk τ2 g2 => Z (.nx τ2 g2)
    | r => Z r)) (he : ∀ τ g, I l.length τ g → Z (.nx τ g)) {τ : T} (h0 : I 0 τ g) : Z (forGo c mg mb l τ g) := by
  have key : ∀ (n i : Nat) (τ : T) (g : G), l.length - i = n → i ≤ l.length → I i τ g → Z (forGo c mg mb (l.drop i) τ g) := by
    intro n
    induction n with
    | zero =>
      intro i τ g hn hi h
      have : i = l.length := by omega
      subst this
      rw [List.drop_length]
      unfold forGo
      rw [if_pos (hc _ _ _ h)]
      exact he _ _ h
    | succ n ih =>
      intro i τ g hn hi h
      have hlt : i < l.length := by omega
      rw [List.drop_eq_getElem_cons hlt]
      unfold forGo
      rw [if_pos (hc _ _ _ h)]
      obtain ⟨τ1, g1, h1, h2⟩ := hs i l[i] τ g (List.getElem?_eq_getElem hlt) h
      rw [h1]
      dsimp only
      cases hb : mb τ1 g1 with
      | nx τ2 g2 => rw [hb] at h2; exact ih (i + 1) _ _ (by omega) (by omega) h2
      | ct τ2 g2 => rw [hb] at h2; exact ih (i + 1) _ _ (by omega) (by omega) h2
      | bk τ2 g2 => rw [hb] at h2; exact h2
      | rt d g2 => rw [hb] at h2; exact h2
      | ex e τ2 g2 => rw [hb] at h2; exact h2
      | bad => rw [hb] at h2; exact h2
  exact key l.length 0 τ g rfl (Nat.zero_le _) h0
/-- a comprehension whose parts change nothing -/
theorem lc_pure {c : Option (Nat × Ob)} {t : Tg} {mt : MT} {me : ME} {τ₀ : T} (p : D → Bool) (f : D → D) (hc : still c g) : ∀ (l acc : List D), (∀ d ∈ l, ∃ τ1, tgM t d τ₀ = some τ1 ∧ mt τ1 g = .ok (p d) g ∧ (p d = true → me τ1 g = .ok (f d) g)) → acc.length + l.length ≤ 100000 → lcGo c t mt me τ₀ l acc g = .ok (acc ++ (l.filter p).map f) g
  | [], acc, _, _ => by
    unfold lcGo
    rw [if_pos hc]
    simp
  | d :: l, acc, h, hl => by
    obtain ⟨τ1, h1, h2, h3⟩ := h d List.mem_cons_self
    unfold lcGo
    rw [if_pos hc, h1]
    dsimp only
    rw [h2]
    rw [List.length_cons] at hl
    cases hp : p d with
    | true =>
      dsimp only
      rw [h3 hp]
      dsimp only
      rw [if_pos (by omega), lc_pure p f hc l _ (fun e he => h e (List.mem_cons_of_mem _ he)) (by rw [List.length_append, List.length_singleton]; omega), List.filter_cons_of_pos hp]
      simp
    | false =>
      dsimp only
      rw [lc_pure p f hc l _ (fun e he => h e (List.mem_cons_of_mem _ he)) (by omega), List.filter_cons_of_neg (by rw [hp]; simp)]
theorem lc_ok {own : List Nat} {mi : MI} {t : Tg} {mt : MT} {me : ME} {τ : T} {l : List D} {c : Option (Nat × Ob)} {g1 : G} (p : D → Bool) (f : D → D) (hi : mi τ g = .ok (l, c) g1) (hc : still c g1) (h : ∀ d ∈ l, ∃ τ1, tgM t d (wipeT τ own) = some τ1 ∧ mt τ1 g1 = .ok (p d) g1 ∧ (p d = true → me τ1 g1 = .ok (f d) g1)) (hl : l.length ≤ 100000) :
    mLc own mi t mt me τ g = .ok (.ref g1.length) (g1 ++ [.lst ((l.filter p).map f)]) := by
  unfold mLc
  rw [hi, Res.bind_ok]
  rw [lc_pure p f hc l [] h (by simpa using hl), Res.bind_ok, List.nil_append]
theorem keys_ok {m : ME} {τ : T} {g1 : G} {n : Nat} {kvs : List (D × D)} (h : m τ g = .ok (.ref n) g1) (hn : g1[n]? = some (.dct true kvs)) : mKeysI m τ g = .ok (kvs.map (·.1), some (n, .dct true kvs)) g1 := by
  unfold mKeysI srcKeys
  rw [h, Res.bind_ok]
  dsimp only
  rw [hn]
end
end RL
namespace RL
open PySem L2
structure Gx (S : List Nat) (g g' : G) : Prop where
  len : g.length ≤ g'.length
  old : ∀ n, n < g.length → n ∉ S → g'[n]? = g[n]?
section
variable {S S' : List Nat} {g g' g'' : G} {n : Nat} {o : Ob} {l : G}
theorem Gx.refl : Gx S g g := ⟨Nat.le_refl _, fun _ _ _ => rfl⟩
theorem Gx.get (h : Gx S g g') (e : g[n]? = some o) (hn : n ∉ S) : g'[n]? = some o := by
  rw [h.old n (List.getElem?_eq_some_iff.mp e).1 hn]
  exact e
theorem Gx.trans (h : Gx S g g') (h' : Gx S' g' g'') (hs : ∀ n ∈ S, n ∈ S') : Gx S' g g'' :=
  ⟨Nat.le_trans h.len h'.len, fun n hn hS => by rw [h'.old n (Nat.lt_of_lt_of_le hn h.len) hS, h.old n hn fun z => hS (hs n z)]⟩
theorem Gx.mono (h : Gx S g g') (hs : ∀ n ∈ S, n ∈ S') : Gx S' g g' := ⟨h.len, fun n hn hS => h.old n hn fun z => hS (hs n z)⟩
theorem Gx.app : Gx S g (g ++ l) := ⟨by simp, fun n hn _ => List.getElem?_append_left hn⟩
theorem Gx.set (h : n ∈ S) : Gx S g (g.set n o) := ⟨by simp, fun m _ hS => List.getElem?_set_ne (fun z => hS (by rw [← z]; exact h))⟩
/-- what is changed is new -/
theorem Gx.fresh (h : Gx S g g') (h' : Gx S' g' g'') (hs : ∀ n ∈ S', n ∈ S ∨ g.length ≤ n) : Gx S g g'' :=
  ⟨Nat.le_trans h.len h'.len, fun n hn hS => by
    rw [h'.old n (Nat.lt_of_lt_of_le hn h.len) fun z => ?_, h.old n hn hS]
    rcases hs n z with z | z
    · exact hS z
    · omega⟩
theorem lt_of_get (e : g[n]? = some o) : n < g.length := (List.getElem?_eq_some_iff.mp e).1
theorem set_get (h : n < g.length) : (g.set n o)[n]? = some o := List.getElem?_set_self h
theorem set_ne {m : Nat} {o' : Ob} (h : g[m]? = some o) (ne : m ≠ n) : (g.set n o')[m]? = some o := by rw [List.getElem?_set_ne (Ne.symm ne)]; exact h
end
section
variable {g g1 g2 : G} {τ : T} {d : D}
theorem ev_v {i : Nat} (h : τ[i]? = some (some d)) : mV i τ g = .ok d g := by
  unfold mV
  rw [h]
theorem ev_c : mC d τ g = .ok d g := rfl
theorem tup_ok {l : List D} (h : l.length ≤ 1000) : fTup l g = .ok (.tup l) g := ck_pos h _
theorem lst_ok {l : List D} (h : l.length ≤ 1000) : fLst l g = .ok (.ref g.length) (g ++ [.lst l]) := ck_pos h _
theorem not_ok {b : Bool} {c : MT} (h : c τ g = .ok b g1) : mNotT c τ g = .ok (!b) g1 := by
  unfold mNotT
  rw [h]
  rfl
theorem and_t {a b : MT} {r : Res Bool} (h : a τ g = .ok true g1) (h2 : b τ g1 = r) : mAndT a b τ g = r := by
  unfold mAndT
  rw [h]
  exact h2
theorem and_f {a b : MT} (h : a τ g = .ok false g1) : mAndT a b τ g = .ok false g1 := by
  unfold mAndT
  rw [h]
  rfl
theorem or_t {a b : MT} (h : a τ g = .ok true g1) : mOrT a b τ g = .ok true g1 := by
  unfold mOrT
  rw [h]
  rfl
theorem or_f {a b : MT} {r : Res Bool} (h : a τ g = .ok false g1) (h2 : b τ g1 = r) : mOrT a b τ g = r := by
  unfold mOrT
  rw [h]
  exact h2
theorem prop_ok {cs : List Str} {mf : List D → M D} {o : ME} {m : Nat} {c : Str} {fs : List (Str × D)} (ho : o τ g = .ok (.ref m) g1) (hm : g1[m]? = some (.ins c fs)) (hc : c ∈ cs) (h : mf [.ref m] g1 = .ok d g2) : mProp cs mf o τ g = .ok d g2 := by
  unfold mProp
  rw [ho, Res.bind_ok]
  have : isIns cs (.ref m) g1 := by
    unfold isIns
    dsimp only
    rw [hm]
    exact hc
  rw [ck_pos this, h]
  rfl
theorem asg_ex {e : ME} {t : MG} {x : Exc} (h : e τ g = .exc x g1) : mAsg e t τ g = .ex x τ g1 := by
  unfold mAsg
  rw [h]
  rfl
theorem drop_ex {e : ME} {x : Exc} (h : e τ g = .exc x g1) : mDrop e τ g = .ex x τ g1 := by
  unfold mDrop
  rw [h]
  rfl
theorem raise_ok {f : List D → Option Exc} {a : MA} {l : List D} {x : Exc} (ha : a τ g = .ok l g1) (h : f l = some x) : mRaise f a τ g = .ex x τ g1 := by
  unfold mRaise
  rw [ha]
  dsimp only [Res.st_ok]
  rw [h]
theorem exc1_str {c : Str} {x : Str} : exc1 c [.str x] = some ⟨c, [("row", .non), ("what", .str x)]⟩ := rfl
theorem run_nx {N : Nat} {mb : MS} {ds : List D} {τ' : T} (h : mb (ds.map some ++ List.replicate (N - ds.length) none) g = .nx τ' g1) : runF N mb ds g = .ok .non g1 := by
  unfold runF
  rw [h]
theorem run_rt {N : Nat} {mb : MS} {ds : List D} (h : mb (ds.map some ++ List.replicate (N - ds.length) none) g = .rt d g1) : runF N mb ds g = .ok d g1 := by
  unfold runF
  rw [h]
theorem run_ex {N : Nat} {mb : MS} {ds : List D} {x : Exc} {τ' : T} (h : mb (ds.map some ++ List.replicate (N - ds.length) none) g = .ex x τ' g1) : runF N mb ds g = .exc x g1 := by
  unfold runF
  rw [h]
theorem if_n2 {c : MT} {a : MS} (h : c τ g = .ok false g1) : mIfS c a mNext τ g = .nx τ g1 := by
  rw [if_f h]
  rfl
theorem if_tr {c : MT} {a b : MS} {r : SR} (h : c τ g = .ok true g1) (h2 : a τ g1 = r) : mIfS c a b τ g = r := by
  rw [if_t h]
  exact h2
theorem fldS_ok {cs : List Str} {f : Str} {o v : ME} {m : Nat} {c : Str} {fs : List (Str × D)} (hv : v τ g = .ok d g1) (ho : o τ g1 = .ok (.ref m) g2) (hm : g2[m]? = some (.ins c fs)) (hc : c ∈ cs) (hl : fs.length ≤ 300) : mFldS cs f o v τ g = .nx τ (g2.set m (.ins c (setF f d fs))) := by
  unfold mFldS
  rw [hv]
  show ((o τ g1).st τ _) = _
  rw [ho]
  have : fPut cs f (.ref m) d g2 = some (g2.set m (.ins c (setF f d fs))) := by
    unfold fPut
    dsimp only
    rw [hm]
    exact if_pos ⟨hc, hl⟩
  show (match fPut cs f (.ref m) d g2 with | some g3 => SR.nx τ g3 | none => .bad) = _
  rw [this]
end
def BodyR (I : T → G → Prop) (Z : SR → Prop) : SR → Prop
  | .nx τ g => I τ g
  | .ct τ g => I τ g
  | .bk τ g => Z (.nx τ g)
  | r => Z r
theorem body_nx {I : T → G → Prop} {Z : SR → Prop} {r : SR} {τ : T} {g : G} (h : r = .nx τ g) (k : I τ g) : BodyR I Z r := by rw [h]; exact k
theorem body_ex {I : T → G → Prop} {Z : SR → Prop} {r : SR} {x : Exc} {τ : T} {g : G} (h : r = .ex x τ g) (k : Z (.ex x τ g)) : BodyR I Z r := by rw [h]; exact k
/-- the rule for a loop: I holds ahead of each turn, Z is what is wanted of the end -/
theorem loop {c : Option (Nat × Ob)} {mi : MI} {mg : MG} {mb : MS} {g g1 : G} {τ : T} (l : List D) (I : Nat → T → G → Prop) (Z : SR → Prop) (hm : mi τ g = .ok (l, c) g1) (hc : ∀ i τ g, I i τ g → still c g) (h0 : I 0 τ g1)
    (hs : ∀ i d τ g, l[i]? = some d → I i τ g → ∃ τ1 g2, mg d τ g = .nx τ1 g2 ∧ BodyR (I (i + 1)) Z (mb τ1 g2)) (he : ∀ τ g, I l.length τ g → Z (.nx τ g)) : Z (mFor mi mg mb τ g) := by
  rw [for_ok hm]
  refine for_ruleC I Z l hc (fun i d τ g hd hi => ?_) he h0
  obtain ⟨τ1, g2, h1, h2⟩ := hs i d τ g hd hi
  refine ⟨τ1, g2, h1, ?_⟩
  revert h2
  cases mb τ1 g2 <;> exact id
/-- a loop that runs through -/
theorem loop_all {c : Option (Nat × Ob)} {mi : MI} {mg : MG} {mb : MS} {g g1 : G} {τ : T} (l : List D) (I : Nat → T → G → Prop) (hm : mi τ g = .ok (l, c) g1) (hc : ∀ i τ g, I i τ g → still c g) (h0 : I 0 τ g1)
    (hs : ∀ i d τ g, l[i]? = some d → I i τ g → ∃ τ1 g2, mg d τ g = .nx τ1 g2 ∧ BodyR (I (i + 1)) (fun _ => False) (mb τ1 g2)) : ∃ τ' g', mFor mi mg mb τ g = .nx τ' g' ∧ I l.length τ' g' :=
  loop l I (fun r => ∃ τ' g', r = .nx τ' g' ∧ I l.length τ' g') hm hc h0 (fun i d τ g hd hi => by
    obtain ⟨τ1, g2, h1, h2⟩ := hs i d τ g hd hi
    refine ⟨τ1, g2, h1, ?_⟩
    revert h2
    cases mb τ1 g2 with
    | nx _ _ => exact id
    | ct _ _ => exact id
    | _ => exact False.elim) fun τ g h => ⟨τ, g, rfl, h⟩
end RL
namespace RL
open PySem L2
theorem seq_go {a b : MS} {τ τ' : T} {g g' : G} {r : SR} (h : a τ g = .nx τ' g') (h2 : b τ' g' = r) : mSeq a b τ g = r := (seq_nx h).trans h2
end RL
namespace RL
open PySem L2 PySem.Spec
/-- the error a lies on the ground; sI is how all was before it was made -/
structure Down (X : Cx) (pins : List (Addr × PySem.Obj)) (σ : St) (H : Hp) (sI s : Shared) (B : Heap) (a : Addr) (cls : Value) (d : Option Addr) : Prop where
  inv : Inv X pins σ H sI
  old : ∀ b o, sI.heap.get? b = some o → b ∉ frs X.stack → B.get? b = some o
  up : sI.heap.UpToSlots s.heap
  fly : HandSPX.FlyingZ B (X.env :: X.outer) a (L2N.Zn cls d) s.heap
  na : H a = none
  os : s.os = sI.os
  gens : PyProof.Rows.AllBare s.gens
section
variable {X : Cx} {pins : List (Addr × PySem.Obj)} {σ : St} {H : Hp} {sI s : Shared} {B : Heap} {a : Addr} {cls : Value} {d : Option Addr} {D : Ends} {Wo : WX}
theorem Down.later (g : Down X pins σ H sI s B a cls d) {h : Heap} (f : HandSPX.FlyingZ B (X.env :: X.outer) a (L2N.Zn cls d) h) (u : s.heap.UpToSlots h) : Down X pins σ H sI { s with heap := h } B a cls d := ⟨g.inv, g.old, g.up.trans u, f, g.na, g.os, g.gens⟩
end
end RL
namespace RL
open PySem L2 PySem.Spec
section
variable {X : Cx} {cn : Str → Addr} {W : WX} {es : List Str} {body : List Stmt} {pos : Pos} {mb : MS}
end
end RL
namespace RL
open PySem L2
section
variable {X : Cx} {cn : Str → Addr} {W : WX} {pos : Pos} {a b e o : Expr} {es : List Expr} {ma mb mo : ME} {ml : MA} {apos cpos : Pos}
def fSplit : D → List D → M D := fun x l g => match x, l with
  | .str a, [.str b] => ck ((b.length == 0) = false ∧ a.length ≤ 1000 ∧ (Txt.split a b).all sOk = true) (.ok (.ref g.length) (g ++ [.lst ((Txt.split a b).map .str)]))
  | _, _ => .bad
theorem rels_strs {K : PySem.W.Frag} {ρ : List Addr} {H : Hp} : ∀ {l : List Str}, l.all sOk = true → RelDs K ρ H (l.map D.str) (l.map V.str)
  | [], _ => .nil
  | _ :: _, h => by
    obtain ⟨h1, h2⟩ := (Bool.and_eq_true _ _).mp (show (_ && _) = true from h)
    exact .cons (.str h1) (rels_strs h2)
theorem m_split : MtD X cn "str.split" fSplit := by
  intro W pins s σ H x xs v us Q ρ g d l I rx rs R qd ql p
  unfold fSplit at p
  split at p
  · rename_i a b
    obtain ⟨⟨c1, c2, c3⟩, p2⟩ := Post.ck p
    cases qd
    cases ql with
    | cons q0 qn =>
      cases qn
      cases q0
      refine mt_split pins s σ H _ _ v us Q I rx rs ⟨a, b, rfl, rfl, c1, by rw [sizeLine_eq]; omega, fun q hq => ?_⟩
      obtain ⟨ev, rp, hx⟩ := Ev.cnt (ob := .lst ((Txt.split a b).map .str)) (o := .lst ((Txt.split a b).map V.str)) R hq fun e h => ⟨_, h, rels_strs c3⟩
      exact p2 _ _ _ ev rp (.ref hx)
  · exact p.elim
theorem re_split (ho : RE X cn W o mo) (ha : RA X cn W (e :: es) ml)
    (hbase : attributeBase o "split" X.env (eval o X.env) = eval o X.env := by rfl)
    (hfew : ((backTo cpos (starEach (e :: es) X.env)).all (fun x => !x.1) && (backToKw cpos (keywordEach [] X.env)).all (fun x => x.1.isSome)
      && decide ((e :: es).length + ([] : List Keyword).length + (if ([] : List Keyword).isEmpty then 0 else 1) < 30)) = true := by rfl)
    (hline : (apos.endLine == cpos.line) = true := by rfl) (hs : starEach (e :: es) X.env = (false, eval e X.env) :: starEach es X.env := by rfl) (hplain : (backTo cpos (starEach es X.env)).any (·.1) = false := by rfl) :
    RE X cn W (.Call (.Attribute o "split" apos) (e :: es) [] cpos) (mBM .str fSplit mo ml) := re_bm (.inl rfl) PySem.F.plainAttrs_str PySem.F.slot_str_split PySem.F.type_str_split m_split ho ha hbase hfew hline hs hplain
end
section
variable {X : Cx} {cn : Str → Addr} {W : WX} {k n : Nat} {es : List D} {mf : List D → M D} {f C : Addr} {x m : Str} {p pos apos : Pos} {e : Expr} {el : List Expr} {ml : MA}
end
section
variable {X : Cx} {cn : Str → Addr} {W : WX} {mo : ME} {ml : MA} {o e : Expr} {es : List Expr} {apos cpos : Pos}
end
end RL
namespace RL
open PySem L2
structure KF {K : Type} (f : K → D) : Prop where
  inj : ∀ a b, f a = f b → a = b
  ok : ∀ a, keyb (f a) = true
  sk : ∀ a b, sk (f a) (f b) = true
  gr : ∀ a, RL.gr 20 (f a) = true
  cm : ∀ a b, RL.cm (f a) (f b) = true
abbrev S2' := Str × Str
abbrev S3' := Str × Str × Str
def d2 (p : S2') : D := .tup [.str p.1, .str p.2]
def d3 (p : S3') : D := .tup [.str p.1, .str p.2.1, .str p.2.2]
theorem kfS : KF D.str := ⟨fun _ _ h => D.str.inj h, fun _ => rfl, fun _ _ => rfl, fun _ => rfl, fun _ _ => rfl⟩
def kd {K : Type} (f : K → D) (l : List (K × D)) : List (D × D) := l.map fun p => (f p.1, p.2)
section
variable {K : Type} [BEq K] [LawfulBEq K] {f : K → D}
theorem kd_get (F : KF f) (x : K) : ∀ l : List (K × D), dget (kd f l) (f x) = l.lookup x
  | [] => rfl
  | (k, v) :: l => by
    show dget ((f k, v) :: kd f l) (f x) = _
    unfold dget
    by_cases h : k = x
    · subst h
      simp [List.lookup]
    · have h2 : (x == k) = false := by simpa using fun z => h (Eq.symm z)
      rw [if_neg fun z => h (F.inj _ _ z), kd_get F x l]
      simp only [List.lookup, h2]
theorem kd_ok (F : KF f) (x : K) (l : List (K × D)) : kOk (kd f l) (f x) := by
  refine ⟨F.ok x, fun p hp => ?_⟩
  obtain ⟨q, _, rfl⟩ := List.mem_map.mp hp
  exact F.sk _ _
theorem kd_keys (l : List (K × D)) : (kd f l).map (·.1) = (l.map (·.1)).map f := by simp [kd]
theorem lk_none {V : Type} {l : List (K × V)} {x : K} : l.lookup x = none ↔ x ∉ l.map (·.1) := by
  induction l with
  | nil => simp
  | cons p l ih =>
    obtain ⟨k, v⟩ := p
    by_cases h : x = k
    · subst h
      simp [List.lookup]
    · have h2 : (x == k) = false := by simpa using h
      simp only [List.lookup, h2, List.map_cons, List.mem_cons, h, false_or]
      exact ih
theorem lk_isSome {V : Type} {l : List (K × V)} {x : K} : (l.lookup x).isSome = decide (x ∈ l.map (·.1)) := by
  by_cases h : x ∈ l.map (·.1)
  · rw [decide_eq_true h]
    cases e : l.lookup x with
    | none => exact absurd h (lk_none.mp e)
    | some _ => rfl
  · rw [decide_eq_false h, lk_none.mpr h]
    rfl
end
section
variable {K : Type} [BEq K] [LawfulBEq K] {f : K → D} {g : G} {τ : T} {n : Nat} {k : Bool} {l : List (K × D)} {x : K} {d : D}
end
section
variable {g : G} {τ : T} {n : Nat} {k : Bool}
theorem items_at {l : List D} (h : g[n]? = some (.lst l)) : items g (.ref n) = some l := by
  unfold items
  dsimp only
  rw [h]
end
end RL
namespace RL
open PySem L2
def vs {K : Type} (l : List (K × Str)) : List (K × D) := l.map fun p => (p.1, .str p.2)
section
variable {K : Type} [BEq K] [LawfulBEq K]
end
section
variable {g : G} {τ : T} {n : Nat} {k : Bool} {a b c : Str} {d : D}
end
end RL
namespace RL
open PySem L2
section
variable {g : G} {τ : T}
end
end RL
namespace RL
open PySem L2
section
variable {g g1 g2 g3 : G} {τ : T} {l : List D}
theorem pno_ok : pNo τ g = .ok none g := rfl
theorem pint_ok {e : ME} {i : Int} (h : e τ g = .ok (.int i) g1) : pInt e τ g = .ok (some i) g1 := by
  unfold pInt
  rw [h]
  rfl
theorem six_n {n d k : Nat} (h : k ≤ n) : HT.sIx n d (some (k : Int)) = k := by
  rw [HT.sIx_nat]
  omega
theorem cut_to {k : Nat} (h : k ≤ l.length) : cutD l none (some (k : Int)) = l.take k := by
  unfold cutD
  rw [HT.sIx_none, six_n h]
  simp
theorem cut_from {k : Nat} (h : k ≤ l.length) : cutD l (some (k : Int)) none = l.drop k := by
  unfold cutD
  rw [HT.sIx_none, six_n h]
  dsimp only
  rw [← List.length_drop, List.take_length]
end
end RL
namespace RL
open PySem L2 PySem.Spec PyProof.Rows
section
variable {X : Cx} {cn : Str → Addr} {W : WX} {pos : Pos} {a : Expr} {ma : ME}
end
section
variable {X : Cx} {cn : Str → Addr} {pins : List (Addr × PySem.Obj)} {σ : L2.St} {H : Hp} {s : Shared}
end
end RL
namespace RL
open PySem L2
section
variable {X : Cx} {cn : Str → Addr} {W : WX} {pos : Pos}
end
section
variable {X : Cx} {cn : Str → Addr} {W : WX} {a b : Expr} {ma mb : ME} {elts : List Expr} {kk : Nat} {tpos p pos : Pos}
end
end RL
namespace RL
open PySem L2
def fOpI (c : Str) (mf : List D → M D) : D → D → M D := fun x y g => ck (isIns [c] x g ∧ isIns [c] y g) (noX (mf [x, y] g))
def onB (f : Bool → Bool) : D → M D := fun d g => match d with
  | .bl b => .ok (.bl (f b)) g
  | _ => .bad
def fInI (c : Str) (f : Bool → Bool) (mf : List D → M D) : D → D → M D := fun x y g => ck (isIns [c] y g) ((noX (mf [y, x] g)).bind (onB f))
def fIxI (c : Str) (mf : List D → M D) : D → D → M D := fun x k g => ck (isIns [c] x g) (mf [x, k] g)
theorem isIns_one {c : Str} {x : D} {g : G} (h : isIns [c] x g) : ∃ n fs, x = .ref n ∧ g[n]? = some (.ins c fs) := by
  obtain ⟨n, c', fs, e, hg, hc⟩ := isIns_at h
  rw [List.mem_singleton.mp hc] at hg
  exact ⟨n, fs, e, hg⟩
theorem Post.swap {U₀ : U} {α β : Type} {Rl : RelT α β} {W W' : WX} {σ σ' : St} {ρ : List Addr} {H : Hp} {r : Res α} {Q : β → Hp → Prop} (p : Post U₀ Rl W σ ρ H (noX r) Q) : Post U₀ Rl W' σ' ρ H (noX r) Q := by
  cases r with
  | ok a g => exact p
  | exc _ _ => exact p
  | bad => exact p
/-- what a def gives that lets no error out: an operator's rule -/
def rOpI (U₀ : U) (f : D → D → M D) : R2 := fun v u H Q => ∃ ρ g x y, Rep U₀ ρ H g ∧ RelD U₀.K ρ H x v ∧ RelD U₀.K ρ H y u ∧ Post U₀ (rD U₀) WN [] ρ H (f x y g) Q
section
variable {X : Cx} {cn : Str → Addr} {W : WX} {pos : Pos} {a b : Expr} {ma mb : ME} {k : Nat} {f : Addr} {c : Str} {mf : List D → M D}
theorem inst_of {pins : List (Addr × PySem.Obj)} {σ : L2.St} {H : Hp} {s : Shared} {a C dx : Addr} {fs : List (Str × V)} (I : Inv X pins σ H s) (h : H a = some (.ins C dx fs)) : ∃ od, PySem.W.InstAt s.heap a (PySem.W.instObj C dx) C (some od) := by
  obtain ⟨mA, O, _⟩ := ins_get I.hok h
  obtain ⟨od, J, _⟩ := O.look
  exact ⟨od, J⟩
theorem back_of {v : V} {u : Value} {s : Shared} {Q : Value → Shared → Prop} (r : RelV v u) (q : Q u s) : PySem.W.CmpBack Q u s := by
  cases v with
  | int i => obtain ⟨t, rfl⟩ := (show ∃ t, u = Value.int i t from r); exact q
  | str x => obtain ⟨t, rfl⟩ := (show ∃ t, u = Value.str x t from r); exact q
  | byt b => obtain ⟨t, rfl⟩ := (show ∃ t, u = Value.bytes b t from r); exact q
  | flt b => obtain ⟨t, rfl⟩ := (show ∃ t, u = Value.float b t from r); exact q
  | non => cases r; exact q
  | bl b => cases r; exact q
  | ref a => cases r; exact q
  | ty n => cases r; exact q
theorem DefM.bnd {P : Program} {w : World} {K : PySem.W.Frag} {mg : Str → Option Value} {base : Heap} {n : Nat} (h : DefM P w K mg base cn k f n [] mf) : ∃ (fd : FuncData) (ps : List Str), FnOk P w K mg base (L2N.CX P w) k f fd ps (spM ⟨K, cn, P, w⟩ n mf) ∧ Binds K fd ps [] := by
  obtain ⟨fd, ps, bs, dvs, F, hb, hd, hv⟩ := h.ok
  cases hv [] (fun _ => none)
  cases hd
  exact ⟨fd, ps, F, hb⟩
theorem s_opI {c : Str} {mf : List D → M D} : S2 (ux X cn) (rOpI (ux X cn) (fOpI c mf)) (fOpI c mf) := by
  intro W σ ρ H g x y v u Q R qx qy p
  refine ⟨ρ, g, x, y, R, qx, qy, ?_⟩
  unfold fOpI at p ⊢
  obtain ⟨h, p⟩ := Post.ck p
  rw [ck_pos h]
  exact p.swap
/-- both are instances of the class: what must be known for the call -/
theorem two_ins {pins : List (Addr × PySem.Obj)} {σ : L2.St} {H : Hp} {s : Shared} {x y : V} {u v : Value} {Q : VK} (I : Inv X pins σ H s) (rx : RelV x v) (ry : RelV y u) (h : rOpI (ux X cn) (fOpI c mf) x y H Q) :
    ∃ (p q : Addr) (dp dq : Addr) (od od' : PySem.Obj) (ρ : List Addr) (g : G) (d e : D), v = .ref p ∧ u = .ref q ∧ x = .ref p ∧ y = .ref q ∧ PySem.W.InstAt s.heap p (PySem.W.instObj (cn c) dp) (cn c) (some od) ∧ PySem.W.InstAt s.heap q (PySem.W.instObj (cn c) dq) (cn c) (some od') ∧ Rep (ux X cn) ρ H g ∧ RelDs X.K ρ H [d, e] [.ref p, .ref q] ∧
      Post (ux X cn) (rD (ux X cn)) WN [] ρ H (noX (mf [d, e] g)) Q := by
  obtain ⟨ρ, g, d, e, R, qx, qy, p⟩ := h
  unfold fOpI at p
  obtain ⟨⟨h1, h2⟩, p⟩ := Post.ck p
  obtain ⟨n, fs, rfl, hn⟩ := isIns_one h1
  obtain ⟨m, gs, rfl, hm⟩ := isIns_one h2
  cases qx with
  | @ref _ a1 ha =>
    cases qy with
    | @ref _ a2 hb =>
      cases (show v = Value.ref a1 from rx)
      cases (show u = Value.ref a2 from ry)
      obtain ⟨dx, fs', e1, _⟩ := R.obs n _ _ hn ha
      obtain ⟨dy, gs', e2, _⟩ := R.obs m _ _ hm hb
      obtain ⟨od, J⟩ := inst_of I e1
      obtain ⟨od', J'⟩ := inst_of I e2
      exact ⟨a1, a2, dx, dy, od, od', ρ, g, _, _, rfl, rfl, rfl, rfl, J, J', R, .cons (.ref ha) (.cons (.ref hb) .nil), p⟩
theorem post_sp0 {H : Hp} {Q : VK} {ρ : List Addr} {g : G} {ds : List D} {vs : List V} {n : Nat} (hn : ds.length = n) (R : Rep (ux X cn) ρ H g) (q : RelDs X.K ρ H ds vs) (p : Post (ux X cn) (rD (ux X cn)) WN [] ρ H (noX (mf ds g)) Q) : spM ⟨X.K, cn, X.prog, X.w⟩ n mf vs H Q E0 := by
  refine ⟨ρ, g, ds, hn, q, R, ?_⟩
  revert p
  cases mf ds g with
  | ok d g' => exact id
  | exc e g' => exact False.elim
  | bad => exact False.elim
theorem opr_binI {op : Operator} (hc : PySem.W.selfFirst X.K (cn c) = true) (hs : PySem.W.findIn X.K (.ref (cn c)) (PySem.dunder op.info.2) = some (some (.ref f))) (hf : PySem.W.isFn X.K (.ref f) = true)
    (Df : DefM X.prog X.w X.K X.mg X.base cn k f 2 [] mf) (hr : Room k X.A) : OpR X (binaryOp op) (rOpI (ux X cn) (fOpI c mf)) := by
  intro pins s σ H x y v u Q I rx ry h
  obtain ⟨p, q, dp, dq, od, od', ρ, g, d, e, rfl, rfl, rfl, rfl, J, J', R, rd, P⟩ := two_ins I rx ry h
  obtain ⟨fd, ps, F, hb⟩ := Df.bnd
  obtain ⟨m, hF⟩ := I.fr
  refine PySem.W.binop_K hF I.ok.mod.kin J J'.type hc hs hf (wpAny_mono (run_fn (us := [.ref p, .ref q]) (vs := [.ref p, .ref q]) F hr hb .nil passN I (.cons rfl (.cons rfl .nil)) (post_sp0 rfl R rd P)) ?_ fun _ _ z => z)
  rintro r s' ⟨z, H', I', rz, qz⟩
  exact back_of rz ⟨z, H', I', rz, qz⟩
def BinOk (K : PySem.W.Frag) (cn : Str → Addr) (c : Str) (op : Operator) (f : Addr) : Prop := PySem.W.selfFirst K (cn c) = true ∧ PySem.W.findIn K (.ref (cn c)) (PySem.dunder op.info.2) = some (some (.ref f)) ∧ PySem.W.isFn K (.ref f) = true
def SpcOk (K : PySem.W.Frag) (cn : Str → Addr) (c : Str) (m : Str) (f : Addr) : Prop := PySem.W.findIn K (.ref (cn c)) m = some (some (.ref f)) ∧ PySem.W.isFn K (.ref f) = true ∧ PySem.W.fnIn K f = true
theorem re_binI {op : Operator} (h : BinOk X.K cn c op f) (Df : DefM X.prog X.w X.K X.mg X.base cn k f 2 [] mf) (hr : Room k X.A) (ha : RE X cn W a ma) (hb : RE X cn W b mb) : RE X cn W (.BinOp a op b pos) (mOp (fOpI c mf) ma mb) :=
  re_op (opr_binI h.1 h.2.1 h.2.2 Df hr) s_opI ha hb
theorem s_inI {fb : Bool → Bool} : S2 (ux X cn) (rOpI (ux X cn) (fInI c fb mf)) (fInI c fb mf) := by
  intro W σ ρ H g x y v u Q R qx qy p
  refine ⟨ρ, g, x, y, R, qx, qy, ?_⟩
  unfold fInI at p ⊢
  obtain ⟨h, p⟩ := Post.ck p
  rw [ck_pos h]
  revert p
  cases mf [y, x] g with
  | ok d g' =>
    dsimp only [noX, Res.bind_ok, onB]
    cases d <;> exact id
  | exc _ _ => exact id
  | bad => exact id
theorem in_ins {fb : Bool → Bool} {pins : List (Addr × PySem.Obj)} {σ : L2.St} {H : Hp} {s : Shared} {x y : V} {u v : Value} {Q : VK} (I : Inv X pins σ H s) (rx : RelV x v) (ry : RelV y u) (h : rOpI (ux X cn) (fInI c fb mf) x y H Q) :
    ∃ (q dq : Addr) (od : PySem.Obj), u = .ref q ∧ PySem.W.InstAt s.heap q (PySem.W.instObj (cn c) dq) (cn c) (some od) ∧ spM ⟨X.K, cn, X.prog, X.w⟩ 2 mf [.ref q, x] H (fun z H' => ∃ b, z = .bl b ∧ Q (.bl (fb b)) H') E0 := by
  obtain ⟨ρ, g, d, e, R, qx, qy, p⟩ := h
  unfold fInI at p
  obtain ⟨h2, p⟩ := Post.ck p
  obtain ⟨m, gs, rfl, hm⟩ := isIns_one h2
  cases qy with
  | @ref _ a2 hb =>
    cases (show u = Value.ref a2 from ry)
    obtain ⟨dy, gs', e2, _⟩ := R.obs m _ _ hm hb
    obtain ⟨od', J'⟩ := inst_of I e2
    refine ⟨a2, dy, od', rfl, J', ρ, g, [.ref m, d], rfl, .cons (.ref hb) (.cons qx .nil), R, ?_⟩
    revert p
    cases mf [.ref m, d] g with
    | ok z g' =>
      dsimp only [noX, Res.bind_ok, onB]
      cases z with
      | bl b =>
        intro p ρ' v' H' e1 r1 q1
        cases q1
        exact ⟨b, rfl, p ρ' _ H' e1 r1 (.bl _)⟩
      | _ => exact False.elim
    | exc _ _ => exact False.elim
    | bad => exact False.elim
theorem opr_inI (h : SpcOk X.K cn c "__contains__" f) (Df : DefM X.prog X.w X.K X.mg X.base cn k f 2 [] mf) (hr : Room k X.A) : OpR X (compareOp .In) (rOpI (ux X cn) (fInI c id mf)) := by
  intro pins s σ H x y v u Q I rx ry hq
  obtain ⟨q, dq, od, rfl, J, P⟩ := in_ins I rx ry hq
  obtain ⟨fd, ps, F, hb⟩ := Df.bnd
  obtain ⟨m, hF⟩ := I.fr
  refine PySem.W.in_K hF I.ok.mod.kin J h.1 h.2.1 (wpAny_mono (run_fn (us := [.ref q, v]) (vs := [.ref q, x]) F hr hb .nil passN I (.cons rfl (.cons rx .nil)) P) ?_ fun _ _ z => z)
  rintro r s' ⟨z, H', I', rz, b, rfl, qz⟩
  cases (show r = Value.bool b from rz)
  exact wpAny_pure ⟨.bl b, H', I', rfl, qz⟩
theorem opr_ninI (h : SpcOk X.K cn c "__contains__" f) (Df : DefM X.prog X.w X.K X.mg X.base cn k f 2 [] mf) (hr : Room k X.A) : OpR X (compareOp .NotIn) (rOpI (ux X cn) (fInI c (fun b => !b) mf)) := by
  intro pins s σ H x y v u Q I rx ry hq
  obtain ⟨q, dq, od, rfl, J, P⟩ := in_ins I rx ry hq
  obtain ⟨fd, ps, F, hb⟩ := Df.bnd
  obtain ⟨m, hF⟩ := I.fr
  refine PySem.W.notIn_K hF I.ok.mod.kin J h.1 h.2.1 (wpAny_mono (run_fn (us := [.ref q, v]) (vs := [.ref q, x]) F hr hb .nil passN I (.cons rfl (.cons rx .nil)) P) ?_ fun _ _ z => z)
  rintro r s' ⟨z, H', I', rz, b, rfl, qz⟩
  cases (show r = Value.bool b from rz)
  exact wpAny_pure ⟨.bl (!b), H', I', rfl, qz⟩
theorem rt_inI (h : SpcOk X.K cn c "__contains__" f) (Df : DefM X.prog X.w X.K X.mg X.base cn k f 2 [] mf) (hr : Room k X.A) (ha : RE X cn W a ma) (hb : RE X cn W b mb) (hm : behindInMarks .In b = false := by rfl) : RT X cn W (.Compare a [.In] [b] pos) (mTest (mOp (fInI c id mf) ma mb)) := rt_cmp (opr_inI h Df hr) s_inI ha hb hm
theorem rt_ninI (h : SpcOk X.K cn c "__contains__" f) (Df : DefM X.prog X.w X.K X.mg X.base cn k f 2 [] mf) (hr : Room k X.A) (ha : RE X cn W a ma) (hb : RE X cn W b mb) (hm : behindInMarks .NotIn b = false := by rfl) : RT X cn W (.Compare a [.NotIn] [b] pos) (mTest (mOp (fInI c (fun b => !b) mf) ma mb)) := rt_cmp (opr_ninI h Df hr) s_inI ha hb hm
theorem re_ixI (F : Fit X W) (h : SpcOk X.K cn c "__getitem__" f) (Df : DefM X.prog X.w X.K X.mg X.base cn k f 2 [] mf) (hr : Room (k + 1) X.A) (ha : RE X cn W a ma) (hb : RE X cn W b mb)
    (hsub : ∀ c u, subscripted b true (.ref c) u = runValue (.builtin "lifetime.subscript" ⟨[.ref c, u], []⟩) := by intro _ _; rfl) : RE X cn W (.Subscript a b pos) (mOp (fIxI c mf) ma mb) := by
  refine ⟨fun pins s σ H Q I ⟨ρ, τ, g, st, p⟩ => ?_⟩
  apply PyProof.Rows.Subscript_
  refine thn (ha.run pins s σ H (fun ov H1 => ∃ ρ1 g1 x, Stt (ux X cn) ρ1 τ g1 σ H1 ∧ RelD X.K ρ1 H1 x ov ∧ Post (ux X cn) (rD (ux X cn)) W σ ρ1 H1 ((mb τ g1).bind fun y g2 => fIxI c mf x y g2) Q) I ⟨ρ, τ, g, st, p.thn fun ρ1 v H1 d g1 e1 r1 q1 p1 => ⟨ρ1, g1, d, st.later e1 r1, q1, p1⟩⟩) fun u s1 ⟨ov, H1, I1, rx, ρ1, g1, x, st1, qx, p1⟩ => ?_
  refine thn (hb.run pins s1 σ H1 (fun iv H2 => ∃ ρ2 g2 y, Rep (ux X cn) ρ2 H2 g2 ∧ RelD X.K ρ2 H2 x ov ∧ RelD X.K ρ2 H2 y iv ∧ Post (ux X cn) (rD (ux X cn)) W σ ρ2 H2 (fIxI c mf x y g2) Q) I1 ⟨ρ1, τ, g1, st1, p1.thn fun ρ2 v H2 d g2 e2 r2 q2 p2 => ⟨ρ2, g2, d, r2, e2.rel st1.rep qx, q2, p2⟩⟩) fun u2 s2 ⟨iv, H2, I2, ry, ρ2, g2, y, R, qx2, qy, p2⟩ => ?_
  unfold fIxI at p2
  obtain ⟨hi, p2⟩ := Post.ck p2
  obtain ⟨n, fs, rfl, hn⟩ := isIns_one hi
  cases qx2 with
  | @ref _ a1 ha1 =>
    cases (show u = Value.ref a1 from rx)
    obtain ⟨dx, fs', e1, _⟩ := R.obs n _ _ hn ha1
    obtain ⟨od, J⟩ := inst_of I2 e1
    obtain ⟨m, hF⟩ := I2.fr
    obtain ⟨fd, ps, Fn, hbd⟩ := Df.bnd
    refine PySem.W.sub_K hF I2.ok.mod.kin J h.1 h.2.2 h.2.1 (wpAny_call ?_) (hsub a1 u2)
    have sp : spM ⟨X.K, cn, X.prog, X.w⟩ 2 mf [.ref a1, iv] H2 Q (WE W σ) := ⟨ρ2, g2, [.ref n, y], rfl, .cons (.ref ha1) (.cons qy .nil), R, by
      revert p2
      cases mf [.ref n, y] g2 <;> exact id⟩
    have r2 : Vals [V.ref a1, iv] [Value.ref a1, u2] := .cons rfl (.cons ry .nil)
    have hl : ([Value.ref a1, u2] ++ []).length = ps.length := by rw [← Fn.len _ _ _ _ sp]; rfl
    refine codeAny_mono (Fn.run X.A.in1 X.stack s2 H2 ⟨[.ref a1, u2], []⟩ [.ref a1, u2] [.ref a1, iv] Q (WE W σ) hr.in1 I2.env0.in1 (by simpa using hbd s2 [.ref a1, u2] I2.kIn hl) r2 sp) ?_
    rintro (er | fl) s' hq
    · exact L2N.passAt F.tk σ pins H2 s2 er s' I2 hq
    · cases fl <;> first | exact I2.after hq | exact hq.elim
end
def spCM (u : U) (c : Str) (mf : List D → M D) : Sp := fun vs H Q E => ∃ vs' ρ g ds, vs = .ref (u.cn c) :: vs' ∧ RelDs u.K ρ H ds vs' ∧ Rep u ρ H g ∧ Post u (rD u) WN [] ρ H (noX (mf ds g)) Q
def CMt (K : PySem.W.Frag) (C : Addr) (m : Str) (g : Addr) : Prop := ∃ mc p, ClX.CRead K C mc ∧ ClX.CMet K C mc m p g
section
variable {X : Cx} {cn : Str → Addr} {W : WX} {k : Nat} {g : Addr} {c x m : Str} {mf : List D → M D} {p pos apos : Pos} {e : Expr} {el : List Expr} {ml : MA}
theorem re_cmeth {pl : Sem Bool} (hC : CMt X.K (cn c) m g) (F : FnR X.prog X.w X.K X.mg X.base (L2N.CX X.prog X.w) k g (spCM ⟨X.K, cn, X.prog, X.w⟩ c mf)) (hr : Room k X.A) (hg : Gl X x) (hm : X.mg x = some (.ref (cn c))) (ha : RA X cn W (e :: el) ml) (hdb : (x == ("__debug__" : Str)) = false := by decide)
    (hst : starEach (e :: el) X.env = (false, eval e X.env) :: starEach el X.env := by rfl) (hpl : (backTo pos (starEach el X.env)).any (·.1) = false := by rfl)
    (ht : eval (.Call (.Attribute (.Name x p) m apos) (e :: el) [] pos) X.env = (do
      let ov ← eval (.Name x p) X.env
      standAt apos.atName
      let (f, first) ← holding [ov] (getMethod ov m pl)
      callWith pos f first (backTo pos (starEach (e :: el) X.env)) (backToKw pos (keywordEach [] X.env))) := by rfl) :
    RE X cn W (.Call (.Attribute (.Name x p) m apos) (e :: el) [] pos) (mUnA (fun l g => noX (mf l g)) ml) := by
  obtain ⟨mc, q, rd, cm⟩ := hC
  refine peI (ClX.pe_cmeth (E := E0) (pe_glob (v := .ref (cn c)) hg hm rfl hdb) rd cm F hr passN ha hst hpl ht) fun σ H Q ⟨ρ, τ, gg, st, h⟩ => ?_
  refine ⟨rfl, ρ, τ, gg, st, h.thn fun ρ1 vs H1 ds g1 e1 r1 q1 p1 => ?_⟩
  exact ⟨vs, ρ1, g1, ds, rfl, q1, r1, p1.swap⟩
end
end RL
namespace RL
open PySem L2
abbrev fCm (mf : List D → M D) : List D → M D := fun l g => noX (mf l g)
def resOf : SR → Res D
  | .nx _ g => .ok .non g
  | .rt d g => .ok d g
  | .ex e _ g => .exc e g
  | _ => .bad
def runC (N : Nat) (mb : MS) (ws : List D) : M D := fun g => ck (ws.length ≤ 1000) (resOf (mb (none :: some (.tup ws) :: List.replicate (N - 2) none) g))
/-- x(e, ..): the i-th slot holds the class -/
def tMkL (i : Nat) (C : Addr) (sp : Sp) (t : TA) : TE := fun σ H Q => σ[i]? = some (some (.ref C)) ∧ tMake C sp [] E0 t σ H Q
theorem pe_mkL {X : Cx} {CX : CXT} {k i : Nat} {f C : Addr} {fd : FuncData} {ps : List Str} {sp : Sp} {x : Str} {p pos : Pos} {e : Expr} {es : List Expr} {t : TA} (M : Mk X.K C f) (F : FnOk X.prog X.w X.K X.mg X.base CX k f fd ps sp) (hr : Room (k + 1) X.A)
    (hN : X.N[i]? = some x) (hv : Vis X.env.scope x) (hb : Binds X.K fd ps []) (hx : Passes CX X E0) (ha : PA X (e :: es) t) (hdb : (x == ("__debug__" : Str)) = false := by decide) (hcd : (x == ("__classdict__" : Str)) = false := by decide)
    (he : starEach (e :: es) X.env = (false, eval e X.env) :: starEach es X.env := by rfl) (hpl : (backTo pos (starEach es X.env)).any (·.1) = false := by rfl) : PE X (.Call (.Name x p) (e :: es) [] pos) (tMkL i C sp t) := by
  refine ⟨fun pins s σ H Q I ⟨hs, ht⟩ => ?_⟩
  refine wpAny_Call_Name_kw (thn ((pe_var (pos := p) hN hv hdb hcd).run pins s σ H (fun v H1 => v = .ref C ∧ H1 = H) I ⟨.ref C, hs, rfl, rfl⟩) fun u s1 ⟨v, H1, I1, r1, e1, e2⟩ => ?_)
  subst e1 e2
  cases r1
  refine PySem.W.callWith_K (h₀ := X.base) I.ok.mod.kin M.kp (thn (ha.run pos pins s1 σ _ _ I1 ht) fun us s2 ⟨vs, H2, I2, r, q⟩ => ⟨I2.kIn, ?_⟩) he hpl
  exact run_make M F hr hb .nil hx I2 r q
/-- the parameters as they come, the further ones in a tuple -/
def spC1 (u : U) (c : Str) (N : Nat) (mb : MS) : Sp := fun vs H Q _ => ∃ b ρ g ws, vs = [.ref (u.cn c), .ref b] ∧ Rep u ρ H g ∧ RelD u.K ρ H (.tup ws) (.ref b) ∧ Post u (rD u) WN [] ρ H (noX (resOf (mb (none :: some (.tup ws) :: List.replicate (N - 2) none) g))) Q
section
variable {P : Program} {w : World} {K : PySem.W.Frag} {mg : Str → Option Value} {base : Heap} {cn : Str → Addr}
theorem cm_star {k N : Nat} {f : Addr} {c : Str} {mb : MS} (main : FnR P w K mg base (L2N.CX P w) k f (fun vs H Q E => ∃ ws rest, vs = ws ++ rest ∧ ws.length = 1 ∧ rest.length ≤ sizeLine ∧ ∀ p, H p = Option.none → spC1 ⟨K, cn, P, w⟩ c N mb (ws ++ [V.ref p]) (upd H p (.tup rest)) Q E)) :
    FnR P w K mg base (L2N.CX P w) k f (spCM ⟨K, cn, P, w⟩ c (runC N mb)) := by
  intro A outer s H us vs Q E hr e0 r h
  refine main A outer s H us vs Q E hr e0 r ?_
  obtain ⟨vs', ρ, g, ds, rfl, q, R, p⟩ := h
  unfold runC ck at p
  by_cases hl : ds.length ≤ 1000
  · rw [if_pos hl] at p
    refine ⟨[.ref (cn c)], vs', rfl, rfl, ?_, fun a ha => ?_⟩
    · rw [← q.length]
      exact Nat.le_of_lt (small_line (by omega))
    · obtain ⟨ev, R'⟩ := Ev.new (o := .tup vs') R ha
      exact ⟨a, ρ, g, ds, rfl, R', .tup (SqT.of upd_same) (ev.rels R q), Post.later p ev⟩
  · rw [if_neg hl] at p
    exact p.elim
/-- let = [..]; return cls(let) -/
theorem cm_body {cn : Str → Addr} {c : Str} {X : Cx} {st1 st2 : Stmt} {own : List Nat} {mi : MI} {t : Tg} {mt : MT} {me : ME} {mf : List D → M D} {W : WX} {H : Hp} {Q : VK} {vs : List V} {E : Ends}
    (h1 : PS X st1 (fun E σ H => tE (ux X cn) W (mLc own mi t mt me) σ H fun v H' => E.nx (σ.set 2 (some v)) H')) {sp : Sp} (hsp : sp = spM ⟨X.K, cn, X.prog, X.w⟩ 2 mf)
    (h2 : PS X st2 (fun E σ H => tMkL 0 (cn c) sp (tA (ux X cn) W (mCons (mV 2) mNil)) σ H E.rt)) (hN : X.N.length = 4) (hE : ∀ v H, Q v H → E.rt v H)
    (h : spC1 ⟨X.K, cn, X.prog, X.w⟩ c 4 (mSeq (mAsg (mLc own mi t mt me) (gN 2)) (mRet (mUnA (fMake c 1 [] mf) (mCons (mV 2) mNil)))) vs H Q E0) : ∃ T, PSs X [st1, st2] T ∧ T E (start X.N vs) H := by
  refine ⟨_, pss_cons h1 (pss_one h2), ?_⟩
  obtain ⟨b, ρ, g, ws, rfl, R, q, p⟩ := h
  have S : Stt (ux X cn) ρ [none, some (.tup ws), none, none] g (start X.N [.ref (cn c), .ref b]) H := by
    refine ⟨by unfold L2.start; simp [hN], fun i d hi => ?_, R⟩
    match i, hi with
    | 1, hi => cases hi; exact ⟨.ref b, rfl, q⟩
    | 0, hi => cases hi
    | 2, hi => cases hi
    | 3, hi => cases hi
    | i + 4, hi => simp at hi
  refine ⟨ρ, _, g, S, ?_⟩
  have p : Post (ux X cn) (rD (ux X cn)) WN [] ρ H (noX (resOf (mSeq (mAsg (mLc own mi t mt me) (gN 2)) (mRet (mUnA (fMake c 1 [] mf) (mCons (mV 2) mNil))) [none, some (.tup ws), none, none] g))) Q := p
  revert p
  unfold mSeq mAsg
  cases mLc own mi t mt me [none, some (.tup ws), none, none] g with
  | exc x g' => exact fun p => p.elim
  | bad => exact fun p => p.elim
  | ok d g1 =>
    intro p ρ1 v H1 e1 R1 q1
    have p : Post (ux X cn) (rD (ux X cn)) WN [] ρ H (noX (resOf (mRet (mUnA (fMake c 1 [] mf) (mCons (mV 2) mNil)) [none, some (.tup ws), some d, none] g1))) Q := p
    have S1 : Stt (ux X cn) ρ1 [none, some (.tup ws), some d, none] g1 ((start X.N [.ref (cn c), .ref b]).set 2 (some v)) H1 := Stt.set (i := 2) (S.later e1 R1) q1
    refine ⟨by show ((start X.N [.ref (cn c), .ref b]).set 2 (some v))[0]? = _; rw [List.getElem?_set_ne (by decide)]; rfl, ρ1, _, g1, S1, ?_⟩
    intro ρ2 us H2 e2 R2 q2
    refine fun x dx hx hd ne => ?_
    rw [hsp, List.append_nil]
    have q2 : RelDs X.K ρ2 H2 [d] us := q2
    have pm : Post (ux X cn) (rD (ux X cn)) WN [] ρ2 H2 (fMake c 1 [] mf [d] g1) E.rt := by
      have p' := Post.later (Post.later p e1) e2
      revert p'
      unfold mRet mUnA mCons mNil mV
      show Post _ _ _ _ _ _ (noX (resOf ((fMake c 1 [] mf [d] g1).st _ _))) Q → _
      cases fMake c 1 [] mf [d] g1 with
      | ok z g3 => exact fun p ρ' v' H' e' r' q' => hE _ _ (p ρ' v' H' e' r' q')
      | exc _ _ => exact fun p => p.elim
      | bad => exact fun p => p.elim
    have := make_sp (X := X) (cn := cn) (W := WN) (es := []) (dvs := []) R2 q2 (fun _ _ => .nil) hx hd ne pm
    rw [List.append_nil] at this
    exact this
end
/-- y = [..], as the next step reads it -/
theorem ps_setLcE {X : Cx} {cn : Str → Addr} {W : WX} {pos : Pos} {i : Nat} {y : Str} {py spos : Pos} {elt tg iter : Expr} {ifs : List Expr} {scope : Scope} {own : List (Str × Nat)} {mi : MI} {t : Tg} {mt : MT} {me : ME} (hc : X.calm = true) (hN : X.N.Nodup) (hy : X.N[i]? = some y) (hyl : X.env.scope.names.lookup y = some .local)
    (hsw : swapsWith (.ListComp elt [⟨tg, iter, ifs, 0⟩] scope pos) (some (.Name y py)) spos.line X.env = pure true) (hi : RI X cn W tg iter mi) (ok : BlkOk X.N X.env.scope scope own) (ho : ∀ i ∈ t.slots, i ∈ own.map (·.2))
    (hg : ∀ (s : Shared) (H : Hp) (C : Addr) (cl : List (Str × Addr)) (fp : List Addr), PG (X.blk s H scope (compEnvC scope cl C X.env) fp) tg (tgV X.K t)) (ht : ∀ (s : Shared) (H : Hp) (C : Addr) (cl : List (Str × Addr)) (fp : List Addr), RTs (X.blk s H scope (compEnvC scope cl C X.env) fp) cn WN ifs mt)
    (he : ∀ (s : Shared) (H : Hp) (C : Addr) (cl : List (Str × Addr)) (fp : List Addr), RE (X.blk s H scope (compEnvC scope cl C X.env) fp) cn WN elt me) (hs : ∀ x, foldedSetIterable iter X.env x = pure x := by intro _; rfl) :
    PS X (.Assign [.Name y py] (.ListComp elt [⟨tg, iter, ifs, 0⟩] scope pos) spos) (fun E σ H => tE (ux X cn) W (mLc (own.map (·.2)) mi t mt me) σ H fun v H' => E.nx (σ.set i (some v)) H') :=
  psI (ps_setLc (tt := tT (ux X cn) WN mt) (te := tE (ux X cn) WN me) hc hN hy hyl hsw hi ok hg (fun a b c d e => ht a b c d e) (fun a b c d e => he a b c d e) hs) fun E σ H h => lc_imp ho σ H _ h
/-- a constant of the module that is a tuple -/
theorem re_gtup {X : Cx} {cn : Str → Addr} {W : WX} {pos : Pos} {x : Str} {d : D} (hg : Gl X x) (hm : ∃ a, X.mg x = some (.ref a) ∧ ∀ ρ H, RelD X.K ρ H d (.ref a)) (hd : (x == ("__debug__" : Str)) = false := by decide) : RE X cn W (.Name x pos) (mC d) := by
  obtain ⟨a, e, q⟩ := hm
  exact re_glob hg e (v := .ref a) rfl q hd
end RL
namespace RL
open PySem L2 ClX
theorem pe_cmeth0 {X : Cx} {CX : CXT} {k : Nat} {C p g : Addr} {mc : Value} {sp : Sp} {E : XK} {o : Expr} {m : Str} {pos apos : Pos} {ta : TE} {pl : Sem Bool} (he : PE X o ta) (r : CRead X.K C mc) (c : CMet X.K C mc m p g)
    (F : FnR X.prog X.w X.K X.mg X.base CX k g sp) (hr : Room k X.A) (hx : Passes CX X E)
    (ht : eval (.Call (.Attribute o m apos) [] [] pos) X.env = (do let ov ← eval o X.env; standAt apos.atName; let (f, first) ← holding [ov] (getMethod ov m pl); callWith pos f first (backTo pos (starEach [] X.env)) (backToKw pos (keywordEach [] X.env))) := by rfl) :
    PE X (.Call (.Attribute o m apos) [] [] pos) (tCMeth C sp E ta tNil) := by
  constructor
  rintro pins s σ H Q I h
  refine PySem.W.methodCall_KW (pl := pl) (thn (he.run pins s σ H _ I h) ?_) ht
  rintro u s1 ⟨x, H1, I1, rx, ex, q⟩
  subst ex
  obtain rfl : u = Value.ref C := rx
  refine getmethcm_ok I1 r c ?_
  intro s2 I2
  exact PySem.W.callWith_M0 (first := []) ⟨pin_at I2, I2.kIn⟩ c.fi (run_cm (us := []) (vs := []) F hr hx I2 .nil q)
section
variable {X : Cx} {cn : Str → Addr} {W : WX} {k : Nat} {g : Addr} {c x m : Str} {mf : List D → M D} {p pos apos : Pos}
theorem re_cmeth0 {pl : Sem Bool} (hC : CMt X.K (cn c) m g) (F : FnR X.prog X.w X.K X.mg X.base (L2N.CX X.prog X.w) k g (spCM ⟨X.K, cn, X.prog, X.w⟩ c mf)) (hr : Room k X.A) (hg : Gl X x) (hm : X.mg x = some (.ref (cn c))) (hdb : (x == ("__debug__" : Str)) = false := by decide)
    (ht : eval (.Call (.Attribute (.Name x p) m apos) [] [] pos) X.env = (do let ov ← eval (.Name x p) X.env; standAt apos.atName; let (f, first) ← holding [ov] (getMethod ov m pl); callWith pos f first (backTo pos (starEach [] X.env)) (backToKw pos (keywordEach [] X.env))) := by rfl) :
    RE X cn W (.Call (.Attribute (.Name x p) m apos) [] [] pos) (mUnA (fun l g => noX (mf l g)) mNil) := by
  obtain ⟨mc, q, rd, cm⟩ := hC
  refine peI (pe_cmeth0 (E := E0) (pe_glob (v := .ref (cn c)) hg hm rfl hdb) rd cm F hr passN ht) fun σ H Q ⟨ρ, τ, gg, st, h⟩ => ?_
  exact ⟨rfl, [], ρ, gg, [], rfl, .nil, st.rep, h.swap⟩
end
end RL
namespace RL
open PySem L2 PySem.W
section
variable {X : Cx} {cn : Str → Addr} {pins : List (Addr × PySem.Obj)} {σ : St} {H : Hp} {s : Shared} {d : Addr} {o : PySem.Obj} {ρ : List Addr}
end
inductive RKV (K : PySem.W.Frag) (ρ : List Addr) (H : Hp) : List (D × D) → List (V × V) → Prop
  | nil : RKV K ρ H [] []
  | cons {k d : D} {kv v : V} {l : List (D × D)} {m : List (V × V)} : RelD K ρ H k kv → RelD K ρ H d v → RKV K ρ H l m → RKV K ρ H ((k, d) :: l) ((kv, v) :: m)
theorem RKV.length {K : PySem.W.Frag} {ρ : List Addr} {H : Hp} : ∀ {l : List (D × D)} {m : List (V × V)}, RKV K ρ H l m → l.length = m.length
  | _, _, .nil => rfl
  | _, _, .cons _ _ t => by rw [List.length_cons, List.length_cons, t.length]
theorem RKV.get {K : PySem.W.Frag} {ρ : List Addr} {H : Hp} : ∀ {l : List (D × D)} {m : List (V × V)}, RKV K ρ H l m → ∀ {i : Nat} {p : D × D}, l[i]? = some p → ∃ k v, m[i]? = some (k, v) ∧ RelD K ρ H p.1 k ∧ RelD K ρ H p.2 v
  | _, _, .nil, _, _, e => by simp at e
  | _, _, .cons h1 h2 _, 0, _, e => by cases e; exact ⟨_, _, rfl, h1, h2⟩
  | _, _, .cons _ _ t, i + 1, p, e => by
    obtain ⟨k, v, h⟩ := t.get (i := i) (p := p) (by simpa using e)
    exact ⟨k, v, by simpa using h⟩
theorem RKV.mono {K : PySem.W.Frag} {ρ ρ' : List Addr} {H H' : Hp} (f : ∀ {d : D} {v : V}, RelD K ρ H d v → RelD K ρ' H' d v) : ∀ {l : List (D × D)} {m : List (V × V)}, RKV K ρ H l m → RKV K ρ' H' l m
  | _, _, .nil => .nil
  | _, _, .cons h1 h2 t => .cons (f h1) (f h2) (t.mono f)
def tup2 (p : D × D) : D := .tup [p.1, p.2]
section
variable {X : Cx} {cn : Str → Addr} {W : WX} {e : Expr} {m : ME} {elts : List Expr} {kk : Nat} {tpos apos cpos : Pos}
end
end RL
namespace RL
open PySem L2
section
variable {U₀ : U} {ρ ρ' : List Addr} {H H' : Hp} {g g' : G} {n : Nat} {a : Addr} {kvs : List (D × D)} {o : HO} {od : PySem.Obj}
end
section
variable {X : Cx} {cn : Str → Addr} {W : WX} {e : Expr} {M : ME}
end
end RL
namespace RL
open PySem L2 PySem.W
def padB (b : Heap) (n : Nat) : Heap := ⟨b.objs ++ (List.replicate (n - b.objs.size) ({ cls := .none, data := .freed } : PySem.Obj)).toArray, b.life⟩
theorem pad_sz (b : Heap) (n : Nat) : (padB b n).objs.size = b.objs.size + (n - b.objs.size) := by
  show (b.objs ++ (List.replicate (n - b.objs.size) ({ cls := .none, data := .freed } : PySem.Obj)).toArray).size = _
  simp only [Array.size_append, List.size_toArray, List.length_replicate]
theorem pad_get (b : Heap) (n : Nat) (a : Addr) : (padB b n).get? a = b.get? a := by
  unfold padB Heap.get?
  by_cases h : b.objs.size ≤ a
  · rw [Array.getElem?_append_right h, Array.getElem?_eq_none h, List.getElem?_toArray, List.getElem?_replicate]
    by_cases h2 : a - b.objs.size < n - b.objs.size
    · rw [if_pos h2]
    · rw [if_neg h2]
  · rw [Array.getElem?_append_left (Nat.lt_of_not_le h)]
theorem pad_size (b : Heap) (n : Nat) : n ≤ (padB b n).objs.size := by
  rw [pad_sz]
  exact Nat.sub_le_iff_le_add'.mp (Nat.le_refl _)
theorem pad_le {b : Heap} {n m : Nat} (h : b.objs.size ≤ m) (h2 : n ≤ m) : (padB b n).objs.size ≤ m := by
  rw [pad_sz]
  generalize b.objs.size = x at *
  omega
theorem Mod.pad {K : PySem.W.Frag} {mg : Str → Option Value} {base : Heap} (m : Mod K mg base) (n : Nat) : Mod K mg (padB base n) := by
  have k : ∀ b o, base.get? b = some o → (padB base n).get? b = some o := fun b o e => by rw [pad_get]; exact e
  obtain ⟨mb, h1, h2⟩ := m.blt
  exact ⟨m.kin.keeps k, m.glob.keeps k, ⟨mb, h1.keeps k, h2⟩, m.nolimit.keeps k⟩
theorem funs_pad {h base : Heap} (n : Nat) : ∀ {l : List Env}, h.FunFrames base l → h.FunFrames (padB base n) l
  | [], _ => True.intro
  | _ :: _, ⟨a, ⟨L, o, b, c, d⟩, e⟩ => ⟨a, ⟨L, o, b, by rw [pad_get]; exact c, d⟩, funs_pad n e⟩
theorem env_pad {P : Program} {w : World} {K : PySem.W.Frag} {mg : Str → Option Value} {base : Heap} {A : Around} {outer : List Env} {s : Shared} {H : Hp} {n : Nat} (e : Env0 P w K mg base A outer s H) (h : n ≤ s.heap.objs.size) : Env0 P w K mg (padB base n) A outer s H :=
  ⟨e.frames, Mod.pad e.mod n, fun b o q => e.bs b o (by rw [pad_get] at q; exact q), pad_le e.bsz h, funs_pad n e.funs, e.frf, e.hok, e.bare⟩
def KSh (P : Program) (w : World) (d : Addr) (u : HO) (ks : List V) : Prop := (∃ kv, u = .dK kv ∧ ks = kv.map fun z => kV z.1) ∨ ∃ xs, u = dP P w d xs ∧ ks = xs.map fun z => V.ref z.2.1
def KItO (it d : Addr) (o : PySem.Obj) (n : Nat) : HO := .ext fun h => ∃ es ep, o.data = .dict es ep ∧ h.IsKeyIter it d 0 n ep
theorem kit_ok {P : Program} {w : World} {H : Hp} {h : Heap} {it d : Addr} {o : PySem.Obj} {n : Nat} {es : Array DictEntry} {ep : Nat} (e : o.data = .dict es ep) (st : h.IsKeyIter it d 0 n ep) : ObjOk P w H h it (KItO it d o n) :=
  ⟨⟨es, ep, e, st⟩, ⟨_, st.choose_spec.1⟩, fun h1 h2 q k => by
    obtain ⟨es, ep, a, b⟩ := q
    exact ⟨es, ep, a, b.at fun o e => k o e⟩⟩
section
variable {X : Cx} {cn : Str → Addr} {pins : List (Addr × PySem.Obj)} {σ : St} {H : Hp} {s : Shared} {d : Addr} {o : PySem.Obj} {u : HO} {ks : List V}
theorem lk_sh (I : Inv X pins σ H s) (h : H d = some (.frz o u)) (c : KSh X.prog X.w d u ks) : Lk s d o ks := by
  rcases c with ⟨kv, rfl, rfl⟩ | ⟨xs, rfl, rfl⟩
  · exact lk_dK I h
  · exact lk_dP I h
/-- iter(d), d a locked dict: an iterator that is as young as any -/
def rIterK (P : Program) (w : World) (n : Nat) : List V → Hp → VK → Prop := fun vs H Q => ∃ d o u ks, vs = [.ref d] ∧ H d = some (.frz o u) ∧ KSh P w d u ks ∧ ∀ it, H it = none → n ≤ it → Q (.ref it) (upd H it (KItO it d o ks.length))
theorem call_iterK : CallR X (.builtin "iter") (rIterK X.prog X.w X.base.objs.size) := by
  intro pins s σ H vs us Q I r h
  obtain ⟨d, o, u, ks, rfl, hd, c, q⟩ := h
  obtain ⟨v, rfl, rv⟩ := vals1 r
  cases rv
  obtain ⟨lo, here, ex, es, ep, hdt, hn, hk⟩ := lk_sh I hd c
  refine Calls.call_function_entry (by decide +kernel) (by decide +kernel) PySem.W.kdk_entry_iter (PySem.W.kdk_args_iter _) ?_
  unfold Builtin.«iter»
  refine wpAny_bind (m := someArgs "iter" 1 2 _) (wpAny_of_eq (a := [Value.ref d]) (by first | rfl | kernel_rfl!) (wpAny_bind (m := pyIter (.ref d)) (iter_keys lo here ex hdt ?_)))
  have st : (s.heap.push { cls := .type "dict_keyiterator", data := .fields #[.ref d, .int 0 0, .int es.size 0, .int ep 0] }).IsKeyIter s.heap.objs.size d 0 ks.length ep := ⟨_, Heap.get?_push_size _ rfl, rfl, by rw [hn]; rfl⟩
  refine wpAny_pure ⟨_, rfl, .ref s.heap.objs.size, _, I.laid (t' := s.toks) (fun b u e => Heap.get?_push_of_some _ e) (Nat.le_refl _) (kit_ok hdt st), rfl, q _ (I.hok.fresh (Nat.le_refl _)) (Nat.le_trans I.ok.bsz I.sz)⟩
/-- what an own __iter__ promises that gives iter(self.fld) -/
def spIt (P : Program) (w : World) (n : Nat) (C : Addr) (fld : Str) : Sp := fun vs H Q _ => ∃ a dx fs d o u ks, vs = [.ref a] ∧ H a = some (.ins C dx fs) ∧ fs.lookup fld = some (.ref d) ∧ H d = some (.frz o u) ∧ KSh P w d u ks ∧ ∀ it, H it = none → n ≤ it → Q (.ref it) (upd H it (KItO it d o ks.length))
def iOw (X : Cx) (C : Addr) (fld : Str) (t : TE) : TI := fun σ H R => t σ H fun x H1 => ∃ a dx fs d o u ks, x = .ref a ∧ H1 a = some (.ins C dx fs) ∧ fs.lookup fld = some (.ref d) ∧ H1 d = some (.frz o u) ∧ KSh X.prog X.w d u ks ∧ R (Itx d o u ks) H1
/-- C's own __iter__, at any base -/
def ItrOk (P : Program) (w : World) (K : PySem.W.Frag) (mg : Str → Option Value) (base : Heap) (k : Nat) (C f : Addr) (fld : Str) : Prop :=
  PySem.W.findIn K (.ref C) "__iter__" = some (some (.ref f)) ∧ PySem.W.isFn K (.ref f) = true ∧ ∃ fd ps, Binds K fd ps [] ∧ ∀ n, FnOk P w K mg (padB base n) (L2N.CX P w) k f fd ps (spIt P w (padB base n).objs.size C fld)
theorem pi_own {tg iter : Expr} {t : TE} {C f : Addr} {fld : Str} {k : Nat} (O : ItrOk X.prog X.w X.K X.mg X.base k C f fld) (hr : Room k X.A) (h : PE X iter t) : PI X tg iter (iOw X C fld t) := by
  refine ⟨fun pins s σ H R I q => thn (h.run pins s σ H _ I q) fun v s1 ⟨x, H1, I1, rx, a, dx, fs, d, o, u, ks, e, ha, hl, hf, c, q1⟩ => ?_⟩
  subst e
  cases rx
  obtain ⟨hs, hff, fd, ps, hb, hF⟩ := O
  have F := hF X.s_0.heap.objs.size
  obtain ⟨od, J⟩ := inst_of I1 ha
  obtain ⟨m, fr⟩ := I1.fr
  have e0 : Env0 X.prog X.w X.K X.mg (padB X.base X.s_0.heap.objs.size) X.A X.stack s1 H1 := env_pad I1.env0 I1.sz
  have sp : spIt X.prog X.w (padB X.base X.s_0.heap.objs.size).objs.size C fld [.ref a] H1 (fun v H' => ∃ it, v = .ref it ∧ H1 it = none ∧ X.s_0.heap.objs.size ≤ it ∧ H' = upd H1 it (KItO it d o ks.length)) E0 :=
    ⟨a, dx, fs, d, o, u, ks, rfl, ha, hl, hf, c, fun it n1 n2 => ⟨it, rfl, n1, Nat.le_trans (pad_size _ _) n2, rfl⟩⟩
  have r2 : Vals [V.ref a] [Value.ref a] := .cons rfl .nil
  refine PySem.W.owit_iter fr I1.ok.mod.kin J hs hff ?_
  refine wpAny_call (codeAny_mono (F.run X.A X.stack s1 H1 ⟨[.ref a], []⟩ [.ref a] [.ref a] _ E0 hr e0 (by
    have := hb s1 [.ref a] I1.kIn (by simpa using F.len _ _ _ _ sp)
    simpa using this) r2 sp) fun r s' hq => ?_)
  cases r with
  | error e => exact passN pins σ H1 s1 e s' I1 hq
  | ok fl =>
    cases fl with
    | next => exact False.elim hq
    | brk => exact False.elim hq
    | cont => exact False.elim hq
    | ret w =>
      obtain ⟨v, H', I', rv, it, rfl, n1, n2, rfl⟩ := I1.after hq
      cases rv
      obtain ⟨⟨es, ep, hdt, st⟩, _⟩ := I'.hok it _ upd_same
      have fp := ItX.inv_fp I' upd_same n2
      have I2 := ItX.inv_drop I' (a := it) upd_same
      rw [ItX.dropH_upd n1] at I2 fp
      obtain ⟨lo, here, ex, es', ep', hdt', hn, hk⟩ := lk_sh I2 hf c
      rw [hdt] at hdt'
      cases hdt'
      have hT : s'.TypeIs (.ref it) "dict_keyiterator" := by
        obtain ⟨ob, e1, e2, _⟩ := st
        exact ⟨ob, e1, e2⟩
      unfold PySem.W.OwitIt
      refine wpAny_specialOf (name := Str.ofString "__next__") hT PySem.F.slot_dict_keyiterator_next.lookup ?_
      exact ⟨it, [it], fun i h => h.IsKeyIter it d i ks.length ep, Itx d o u ks, H1, rfl, I2, turn_x hdt hn hk, st, fun b hb => by rw [List.mem_singleton.mp hb]; exact fp, q1⟩
variable {W : WX} {tg iter : Expr} {m : ME}
theorem ri_own {c f' : Str} {f : Addr} {k : Nat} (O : ItrOk X.prog X.w X.K X.mg X.base k (cn c) f f') (hr : Room k X.A) (h : RE X cn W iter m) : RI X cn W tg iter (mKeysI (mUn (fFld [c] f') m)) := by
  refine piI (pi_own O hr h) fun σ H R ⟨ρ, τ, g, s, p⟩ => ?_
  have p' : Post (ux X cn) (rI (ux X cn)) W σ ρ H ((m τ g).bind fun x g1 => (fFld [c] f' x g1).bind srcKeys) R := by
    have e : mKeysI (mUn (fFld [c] f') m) τ g = (m τ g).bind fun x g1 => (fFld [c] f' x g1).bind srcKeys := by
      unfold mKeysI mUn
      cases m τ g <;> rfl
    rw [← e]
    exact p
  refine ⟨ρ, τ, g, s, p'.thn fun ρ1 v H1 d g1 e1 r1 q1 p1 => ?_⟩
  unfold fFld at p1
  split at p1
  · split at p1
    · rename_i n _ c' fs hg
      cases hm : decide (c' ∈ [c]) with
      | false =>
        have hm := of_decide_eq_false hm
        rw [ck, if_neg hm] at p1
        exact p1.elim
      | true =>
        have hm := of_decide_eq_true hm
        rw [ck, if_pos hm] at p1
        obtain rfl := List.mem_singleton.mp hm
        cases hd : fs.lookup f' with
        | none =>
          rw [hd] at p1
          exact p1.elim
        | some d' =>
          rw [hd] at p1
          have p2 : Post (ux X cn) (rI (ux X cn)) W σ ρ1 H1 (srcKeys d' g1) R := p1
          unfold srcKeys at p2
          split at p2
          · rename_i n2
            split at p2
            · rename_i kvs hg2
              cases q1 with
              | ref ha =>
                obtain ⟨dx, fs', h1, h3⟩ := r1.obs n _ _ hg ha
                have h4 := h3.val f'
                rw [hd] at h4
                obtain ⟨w, h5, h6⟩ := h4.some_of
                cases h6 with
                | @ref _ a2 ha2 =>
                  obtain ⟨u, o, h7, h8⟩ := r1.obs n2 _ a2 hg2 ha2
                  rcases h8 with ⟨ks, rfl, rk⟩ | ⟨xs, rfl, rk, _⟩
                  · exact ⟨_, dx, fs', a2, o, _, _, rfl, h1, h5, h7, .inl ⟨ks, rfl, rfl⟩, Post.at (Rl := rI (ux X cn)) p2 r1 (drw_x r1 h7 rk.keys)⟩
                  · exact ⟨_, dx, fs', a2, o, _, _, rfl, h1, h5, h7, .inr ⟨xs, rfl, rfl⟩, Post.at (Rl := rI (ux X cn)) p2 r1 (drw_x r1 h7 rk.keys)⟩
            · exact p2.elim
          · exact p2.elim
    · exact p1.elim
  · exact p1.elim
end
end RL
namespace RL
open PySem L2
def isTx : D → Bool
  | .str _ => true
  | _ => false
def eqTx (y : Str) : D → Bool
  | .str x => x == y
  | _ => false
def fIdx : D → List D → M D := fun x l g => match x with
  | .ref n => match g[n]? with
    | some (.lst ys) => match l with
      | [.str y] => match ys.findIdx? (eqTx y) with
        | some j => ck (ys.all isTx = true) (.ok (.int (j : Nat)) g)
        | none => .bad
      | _ => .bad
    | _ => .bad
  | _ => .bad
section
variable {X : Cx} {cn : Str → Addr} {W : WX} {mo : ME} {ml : MA} {o e : Expr} {es : List Expr} {apos cpos : Pos}
theorem rels_tx {K : PySem.W.Frag} {ρ : List Addr} {H : Hp} : ∀ {l : List D} {vs : List V}, RelDs K ρ H l vs → l.all isTx = true → ∃ xs : List Str, l = xs.map D.str ∧ vs = xs.map V.str
  | _, _, .nil, _ => ⟨[], rfl, rfl⟩
  | _, _, .cons q r, h => by
    rw [List.all_cons, Bool.and_eq_true] at h
    obtain ⟨xs, rfl, rfl⟩ := rels_tx r h.2
    cases q <;> first
      | exact ⟨_ :: xs, rfl, rfl⟩
      | exact absurd h.1 Bool.false_ne_true
theorem m_idx : MtD X cn "list.index" fIdx := by
  intro W pins s σ H x xs v us Q ρ g d l I rx rs R qd ql p
  unfold fIdx at p
  split at p
  · rename_i n
    split at p
    · rename_i ys hg
      split at p
      · rename_i y
        split at p
        · rename_i j hj
          obtain ⟨hl, p2⟩ := Post.ck p
          cases qd with
          | ref ha =>
            cases ql with
            | cons q0 qn =>
              cases qn
              cases q0
              obtain ⟨zs, h1, h2⟩ := R.lst hg ha
              obtain ⟨ts, rfl, rfl⟩ := rels_tx h2 hl
              rw [List.findIdx?_map] at hj
              obtain ⟨hb, h3, h4⟩ := List.findIdx?_eq_some_iff_getElem.mp hj
              have fl : ∀ ts : List Str, (ts.map V.str).all flatV = true := fun ts => by
                rw [List.all_map]
                exact List.all_eq_true.mpr fun _ _ => rfl
              refine mt_index pins s σ H _ _ v us Q I rx rs ⟨_, _, _, j, .str ts[j], rfl, rfl, .inl (.inl h1), rfl, fl ts, by rw [List.getElem?_map, List.getElem?_eq_getElem hb]; rfl, h3, fun m z' hm hz => ?_, p2 ρ _ H Ev.refl R (.int _)⟩
              rw [List.getElem?_map, List.getElem?_eq_getElem (Nat.lt_trans hm hb)] at hz
              cases hz
              exact Bool.not_eq_true _ ▸ h4 m hm
        · exact p.elim
      · exact p.elim
    · exact p.elim
  · exact p.elim
theorem re_idx (ho : RE X cn W o mo) (ha : RA X cn W (e :: es) ml)
    (hbase : attributeBase o "index" X.env (eval o X.env) = eval o X.env := by rfl)
    (hfew : ((backTo cpos (starEach (e :: es) X.env)).all (fun x => !x.1) && (backToKw cpos (keywordEach [] X.env)).all (fun x => x.1.isSome)
      && decide ((e :: es).length + ([] : List Keyword).length + (if ([] : List Keyword).isEmpty then 0 else 1) < 30)) = true := by rfl)
    (hline : (apos.endLine == cpos.line) = true := by rfl) (hs : starEach (e :: es) X.env = (false, eval e X.env) :: starEach es X.env := by rfl) (hplain : (backTo cpos (starEach es X.env)).any (·.1) = false := by rfl) :
    RE X cn W (.Call (.Attribute o "index" apos) (e :: es) [] cpos) (mBM .lst fIdx mo ml) := re_bm (.inr (.inl rfl)) PySem.F.plainAttrs_list PySem.F.slot_list_index PySem.F.type_list_index m_idx ho ha hbase hfew hline hs hplain
end
end RL
namespace RL
open PySem L2
section
variable {X : Cx} {cn : Str → Addr} {W : WX} {a : Expr} {lo hi : Option Expr} {ma : ME} {ml mh : MP} {pos p2 : Pos}
end
end RL
namespace RL
open PySem L2
section
variable {X : Cx} {cn : Str → Addr} {W : WX} {st : Stmt} {ms : MS}
end
end RL
namespace RL
open PySem L2
def fMakeX (c : Str) (n : Nat) (es : List D) (mf : List D → M D) : List D → M D := fun l g => (fCall (n + 1) es mf (.ref g.length :: l) (g ++ [.ins c []])).bind fun d g2 => ck (d = .non) (.ok (.ref g.length) g2)
section
variable {X : Cx} {cn : Str → Addr} {W : WX} {k n : Nat} {es : List D} {mf : List D → M D} {f C : Addr} {x c : Str} {p pos : Pos} {e : Expr} {el : List Expr} {ml : MA}
/-- an instance is made: the error that __init__ raises is the call's -/
theorem new_run {pins : List (Addr × Obj)} {σ : L2.St} {H : Hp} {s : Shared} {Q : VK} {us bs : List Value} {vs dvs : List V} {fd : FuncData} {ps : List Str} {sp : Sp}
    (MK : Mk X.K C f) (Fn : FnOk X.prog X.w X.K X.mg X.base (L2N.CX X.prog X.w) k f fd ps sp) (hr : Room (k + 1) X.A) (hb : Binds X.K fd ps bs) (hd : Vals dvs bs) (tk : L2N.Takes X W) (I : Inv X pins σ H s) (r : Vals vs us)
    (h : ∀ a dx, H a = none → H dx = none → dx ≠ a → sp (.ref a :: (vs ++ dvs)) (upd (upd H dx (.own a)) a (.ins C dx [])) (fun v H2 => v = .non ∧ Q (.ref a) H2) (WE W σ)) :
    wpAny (model X.prog X.w) X.A (call (.ref C) us) (EP X pins σ Q) X.xe s := by
  have free : ∀ j, H (s.heap.objs.size + j) = none := fun j => I.hok.fresh (Nat.le_add_right _ j)
  have want := h (s.heap.objs.size + 1) s.heap.objs.size (free 1) (free 0) (Nat.ne_of_lt (Nat.lt_add_one _))
  have In := Inv.made (C := C) I
  have all : Vals (.ref (s.heap.objs.size + 1) :: (vs ++ dvs)) (.ref (s.heap.objs.size + 1) :: (us ++ bs)) := .cons rfl (r.append hd)
  have nm : (Value.ref (s.heap.objs.size + 1) :: us ++ bs).length = ps.length := by
    rw [← Fn.len _ _ _ _ want, all.length]
    rfl
  have body := Fn.run _ X.stack _ _ ⟨.ref (s.heap.objs.size + 1) :: us, []⟩ _ _ _ (WE W σ) (hr.make C us []) (In.env0.make C us [])
    (hb _ (.ref (s.heap.objs.size + 1) :: us) In.kIn nm) all want
  refine wpAny_call (make_map I.kIn MK.makes MK.init (beq_iff_eq.mp MK.fn) (codeAny_mono body ?_))
  rintro (er | fl) s' out
  · exact L2N.passAt tk σ _ _ _ er s' In out
  · cases fl
    case ret u =>
      obtain ⟨v, H', I3, rv, rfl, q⟩ := In.after out
      exact ⟨rv, .ref (s.heap.objs.size + 1), H', I3, rfl, q⟩
    all_goals exact out.elim
theorem new_sp {σ : L2.St} {H : Hp} {Q : VK} {vs dvs : List V} {ρ : List Addr} {g : G} {ds : List D} {a dx : Addr} (R : Rep (ux X cn) ρ H g) (q : RelDs X.K ρ H ds vs) (hv : ∀ ρ H, RelDs X.K ρ H es dvs) (ha : H a = none) (hd : H dx = none) (ne : dx ≠ a)
    (h : Post (ux X cn) (rD (ux X cn)) W σ ρ H (fMakeX c n es mf ds g) Q) : spM ⟨X.K, cn, X.prog, X.w⟩ (n + 1 + es.length) mf (.ref a :: (vs ++ dvs)) (upd (upd H dx (.own a)) a (.ins (cn c) dx [])) (fun v H2 => v = .non ∧ Q (.ref a) H2) (WE W σ) := by
  obtain ⟨ev1, R1⟩ := Ev.new (o := .own a) R hd
  obtain ⟨ev2, R2, at2⟩ := Ev.cnt (o := .ins (cn c) dx []) (ob := .ins c []) R1 (p := a) (by rw [upd_ne (Ne.symm ne)]; exact ha) fun e z => ⟨_, _, z, .nil⟩
  have ev := ev1.trans ev2
  unfold fMakeX fCall at h
  by_cases hl : (D.ref g.length :: ds).length = n + 1
  · rw [ck_pos hl, List.cons_append] at h
    refine ⟨_, _, .ref g.length :: (ds ++ es), ?_, .cons (.ref at2) ((ev.rels R q).app (hv _ _)), R2, ?_⟩
    · have hl' : ds.length + 1 = n + 1 := hl
      rw [List.length_cons, List.length_append]
      omega
    · revert h
      cases mf (.ref g.length :: (ds ++ es)) (g ++ [.ins c []]) with
      | ok d g2 =>
        intro h
        obtain ⟨hd', h2⟩ := Post.ck (show Post (ux X cn) (rD (ux X cn)) W σ ρ H (ck (d = .non) (.ok (.ref g.length) g2)) Q from h)
        subst hd'
        intro ρ' v H' e' r' q'
        cases q'
        exact ⟨rfl, h2 ρ' _ H' (ev.trans e') r' (.ref (e'.ix _ _ at2))⟩
      | exc x g2 => exact fun h ρ' H' cls d e' r' q' => h ρ' H' cls d (ev.trans e') r' q'
      | bad => exact fun h => h.elim
  · unfold ck at h
    rw [if_neg hl] at h
    exact h.elim
theorem re_makeX (F : Fit X W) (MK : Mk X.K (cn c) f) (Df : DefM X.prog X.w X.K X.mg X.base cn k f (n + 1) es mf) (hr : Room (k + 1) X.A) (hg : Gl X x) (hm : X.mg x = some (.ref (cn c))) (ha : RA X cn W (e :: el) ml) (hdb : (x == ("__debug__" : Str)) = false := by decide)
    (he : starEach (e :: el) X.env = (false, eval e X.env) :: starEach el X.env := by rfl) (hpl : (backTo pos (starEach el X.env)).any (·.1) = false := by rfl) : RE X cn W (.Call (.Name x p) (e :: el) [] pos) (mUnA (fMakeX c n es mf) ml) := by
  obtain ⟨fd, ps, bs, dvs, Fn, hb, hd, hv⟩ := Df.ok
  refine ⟨fun pins s σ H Q I ⟨ρ, τ, g, st, h⟩ => wpAny_Call_Name_kw (ld_glob I hg hm (PySem.W.callWith_K (h₀ := X.base) I.ok.mod.kin MK.kp ?_ he hpl) hdb)⟩
  refine thn (ha.run pos pins s σ H (fun vs H1 => ∃ ρ1 g1 ds, Rep (ux X cn) ρ1 H1 g1 ∧ RelDs X.K ρ1 H1 ds vs ∧ Post (ux X cn) (rD (ux X cn)) W σ ρ1 H1 (fMakeX c n es mf ds g1) Q) I ⟨ρ, τ, g, st, h.thn fun ρ1 vs H1 ds g1 e1 r1 q1 p1 => ⟨ρ1, g1, ds, r1, q1, p1⟩⟩) fun us s1 ⟨vs, H1, I1, rv, ρ1, g1, ds, r1, q1, p1⟩ => ⟨I1.kIn, ?_⟩
  exact new_run MK Fn hr hb hd F.tk I1 rv fun a dx h1 h2 h3 => new_sp r1 q1 hv h1 h2 h3 p1
end
end RL
namespace RL
open PySem L2 PySem.Spec PyProof.Rows
section
variable {X : Cx} {cn : Str → Addr} {W : WX} {pos : Pos} {kx vx : Expr} {mk mv : ME}
end
end RL
namespace RL
open PySem L2 PySem.W
section
variable {X : Cx} {cn : Str → Addr} {d : Addr} {o : PySem.Obj}
end
end RL
namespace RL
open PySem L2
section
variable {X : Cx} {cn : Str → Addr} {W : WX} {e tg : Expr} {m : ME} {apos cpos : Pos}
end
end RL
namespace RL
open PySem L2 PySem.Spec PyProof.Rows
section
variable {X : Cx} {cn : Str → Addr} {pins : List (Addr × PySem.Obj)} {σ : L2.St} {H : Hp} {s : Shared}
end
end RL
namespace RL
open PySem L2 PySem.W PySem.Spec PyProof.Rows
section
variable {X : Cx} {cn : Str → Addr} {W : WX} {pos p p2 apos cpos : Pos} {e a b o : Expr} {m ma mb mo : ME}
end
end RL
namespace RL
open PySem L2 PySem.Spec PyProof.Rows
section
variable {X : Cx} {CX : CXT} {k : Nat} {g C p a dx : Addr} {fd : FuncData} {ps : List Str} {sp : Sp} {dvs : List V} {ds : List Value} {E : L2.St → XK} {f : Str} {fs : List (Str × V)}
end
end RL
namespace RL
open PySem L2
section
variable {M : Model} {A : Around} {E : Value → Shared → Prop} {s : Shared}
end
section
variable {X : Cx} {cn : Str → Addr} {W : WX} {k k2 : Nat} {c c2 x x2 n1 n2 : Str} {f f2 : Addr} {p p2 q1 q2 pos pos2 pos' : Pos} {e : Expr} {el : List Expr} {ml : MA} {i j : Nat}
end
end RL
namespace RL
open PySem L2 PySem.Spec
section
variable {X : Cx} {cn : Str → Addr} {es : List Str} {i : Nat} {io : Option Nat} {a : Addr} {oe : PySem.Obj} {cls : Value} {d : Option Addr} {pn : List (Addr × PySem.Obj)} {e e2 : Expr} {el : List Expr} {m m2 : Exc → ME} {ml : Exc → MA} {pos : Pos} {n f x c : Str}
end
section
variable {X : Cx} {cn : Str → Addr} {W : WX} {e : Expr} {m : ME} {elts : List Expr} {kk : Nat} {tpos p pos : Pos}
end
end RL
namespace RL
open PySem L2
def drp (kvs : List (D × D)) (x : Str) : List (D × D) := kvs.filter fun p => decide (p.1 ≠ .str x)
theorem RelKs.drop {K : PySem.W.Frag} {ρ : List Addr} {H : Hp} {x : Str} {kvs : List (D × D)} {ks : List (Key × V)} (r : RelKs K ρ H kvs ks) : RelKs K ρ H (drp kvs x) (dropK ks (.inr x)) := by
  unfold drp dropK
  induction r with
  | nil => exact .nil
  | @cons y d v ds vs hy hd t ih =>
    by_cases c : y = x
    · subst c
      rw [List.filter_cons_of_neg (by simp), List.filter_cons_of_neg (by simp)]
      exact ih
    · rw [List.filter_cons_of_pos (by simpa using c), List.filter_cons_of_pos (by simpa using c)]
      exact .cons hy hd ih
section
variable {X : Cx} {cn : Str → Addr} {W : WX} {mo me : ME} {o e : Expr} {apos cpos : Pos}
end
end RL
namespace RL
open PySem L2 PySem.Spec PyProof.Rows
theorem hot_suite {X : Cx} {a : Addr} {oe : PySem.Obj} {cls : Value} {d : Option Addr} {pn : List (Addr × PySem.Obj)} (hz : L2N.Zn cls d oe) (hf : ∃ vs, oe.data = .fields vs) : L2H.HotC (X.suite a ((a, oe) :: pn)) := by
  obtain ⟨vs, e⟩ := hf
  exact ⟨(a, oe), ⟨rfl, vs, e, hz.2.2 vs e⟩, List.mem_cons_self⟩
section
variable {X : Cx} {cn : Str → Addr} {pins : List (Addr × PySem.Obj)} {σ : L2.St} {H : Hp} {s : Shared}
/-- loops there -/
def RIH (X : Cx) (cn : Str → Addr) (W : WX) (tg iter : Expr) (m : MI) : Prop := L2H.PIH X tg iter (tI (ux X cn) W m)
theorem ri_range1H {W : WX} {tg a : Expr} {ma : ME} {p pos : Pos} (hg : Gl X "range") (hm : X.mg "range" = none) (ha : RE X cn W a ma) (hs : starEach [a] X.env = [(false, eval a X.env)] := by rfl) : RIH X cn W tg (.Call (.Name "range" p) [a] [] pos) (mRange1 ma) := by
  have b := L2H.pi_range1H (tg := tg) (p := p) (pos := pos) hg hm (ra_cons ha ra_nil hs) hs
  refine ⟨fun pins s σ H R I h => b.run pins s σ H R I ?_⟩
  obtain ⟨ρ, τ, g, s, p⟩ := h
  refine ⟨ρ, τ, g, s, Post.thn (show Post _ _ _ _ _ _ ((mCons ma mNil τ g).bind srcR1) _ from p) fun ρ1 v H1 d g1 e1 r1 q1 p1 => ?_⟩
  unfold srcR1 at p1
  split at p1
  · obtain ⟨c, p1⟩ := Post.ck p1
    cases q1 with
    | cons a b =>
      cases b
      cases a
      exact ⟨_, rfl, c.1, c.2, Post.at (Rl := rI (ux X cn)) p1 r1 (drw_rng 0 _)⟩
  · exact p1.elim
end
/-- what an error tells stays true when a thing was laid down before the call -/
theorem cxUpN {P : Program} {w : World} : StX.CXUp (L2N.CX P w) := fun outer s H s2 H2 E e s' un keep os ⟨a, B, H', cls, d, he, fly, hok, ub, ha, os', bare, q⟩ => ⟨a, B, H', cls, d, he, fly, hok,
  ⟨fun b o hb hn hf => ub.keep b o (keep b o hb) (un.free b o hb hn (by simp)) hf, fun b o hb hf => ub.slot b o (keep b o hb) hf, fun b o hb hn => ub.free b o (keep b o hb) (un.free b o hb hn (by simp)), fun b o hb hf => ub.there b o (keep b o hb) hf,
    fun b xs hb => ub.tups b xs (un.tups b xs hb), fun b o xs hb => ub.frzs b o xs (un.frzs b o xs hb), fun b ps hb => by
      obtain ⟨m1, h1⟩ := un.tbls b ps hb
      obtain ⟨m2, h2⟩ := ub.tbls b _ h1
      exact ⟨m1 ++ m2, by rw [h2, Array.append_assoc]⟩⟩, ha, os'.trans os, bare, q⟩
end RL
namespace RL
open PySem L2
section
variable {X : Cx} {cn : Str → Addr} {W : WX} {mo : ME} {ml : MA} {o e : Expr} {es : List Expr} {apos cpos : Pos}
end
end RL
namespace RL
open PySem L2 PySem.Spec
open PyProof.Rows (envOfC)
def spH (u : U) (n : Nat) (mf : List D → M D) : Sp := fun vs H Q _ => ∃ ρ g ds, ds.length = n ∧ RelDs u.K ρ H ds vs ∧ Rep u ρ H g ∧ Post u (rD u) WN [] ρ H (mf ds g) Q
theorem spH_len {u : U} {n : Nat} {mf : List D → M D} : ∀ vs H Q E, spH u n mf vs H Q E → vs.length = n := fun vs H Q E ⟨ρ, g, ds, h, r, _⟩ => by rw [← r.length, h]
theorem run_postH {u : U} {ρ : List Addr} {H : Hp} {r : SR} {Q : VK} (p : Post u (rD u) WN [] ρ H (match r with
    | .nx _ g' => .ok .non g'
    | .rt d g' => .ok d g'
    | .ex e _ g' => .exc e g'
    | _ => .bad : Res D) Q) : PostS u WN ρ H r { nx := fun _ H' => Q .non H', rt := Q } := by
  cases r with
  | nx τ g => exact fun ρ' σ' H' e s => p ρ' .non H' e s.rep .non
  | rt d g => exact fun ρ' v H' e R q => p ρ' v H' e R q
  | bk τ g => exact p.elim
  | ct τ g => exact p.elim
  | ex x τ g => exact fun ρ' σ' H' cls d e s q => p ρ' H' cls d e s.rep q
  | bad => exact p.elim
theorem huH1 {k : Nat} {A : Around} (r : L2H.RoomH k A) : A.units + 1 < cLine := by have := r.un; omega
theorem huH64 {k : Nat} {A : Around} (r : L2H.RoomH k A) : A.units + 64 < cLine := by have := r.un; omega
section
variable {P : Program} {w : World} {K : PySem.W.Frag} {mg : Str → Option Value} {base : Heap} {cn : Str → Addr}
abbrev cxHE (P : Program) (w : World) (K : PySem.W.Frag) (mg : Str → Option Value) (base : Heap) (N : List Str) (qual : Str) (sc : Scope) (f : Addr) (cdv : Value) (A : Around) (outer : List Env) (s : Shared) (H : Hp) (E : XK) (p : Addr × PySem.Obj) : Cx := L2H.cxH (L2N.CX P w) P w K mg base N qual sc f cdv A outer s H E p
def BodyH (P : Program) (w : World) (K : PySem.W.Frag) (mg : Str → Option Value) (base : Heap) (cn : Str → Addr) (k : Nat) (N : List Str) (qual : Str) (sc : Scope) (f : Addr) (body : List Stmt) (mb : MS) : Prop :=
  ∀ (cdv : Value) (A : Around) (outer : List Env) (s : Shared) (H : Hp) (E : XK) (p : Addr × PySem.Obj), L2H.Hot1 A p → L2H.RoomH k (A.deeper (envOfC qual sc s.heap.objs.size f cdv)) → RSs (cxHE P w K mg base N qual sc f cdv A outer s H E p) cn WN body mb
theorem fnMH {x qual : Str} {st : Stmt} {f : Addr} {fd : FuncData} {N ps : List Str} {k : Nat} {mb : MS} (F : Fun K x qual st f fd) (S : FnScope N ps (defScope st))
    (hb : BodyH P w K mg base cn k N qual (defScope st) f (defBody st) mb) : L2H.FnH P w K mg base (L2N.CX P w) (k + 1) f fd ps (spH ⟨K, cn, P, w⟩ ps.length (runF N.length mb)) := by
  obtain ⟨_, _, _, _, _, _, _, _, _, e, lk, hc⟩ := F.ex
  subst e
  exact L2H.fn_ofH lk hc S spH_len fun A outer s H vs Q E p hot hr h => ⟨_, hb _ A outer s H E p hot hr, by
    obtain ⟨ρ, g, ds, h1, h2, h3, h4⟩ := h
    exact ⟨ρ, _, g, start_stt h2 h3, run_postH h4⟩⟩
theorem fn_badH {f : Addr} {fd : FuncData} {ps : List Str} {k : Nat} : L2H.FnH P w K mg base (L2N.CX P w) k f fd ps (spH ⟨K, cn, P, w⟩ ps.length fun _ _ => .bad) :=
  ⟨spH_len, fun A outer s H args us vs Q E p _ _ _ _ _ _ h => by
    obtain ⟨ρ, g, ds, h1, h2, h3, h4⟩ := h
    exact h4.elim⟩
structure DefH (P : Program) (w : World) (K : PySem.W.Frag) (mg : Str → Option Value) (base : Heap) (cn : Str → Addr) (k : Nat) (f : Addr) (n : Nat) (mf : List D → M D) : Prop where
  ok : ∃ (fd : FuncData) (ps : List Str), L2H.FnH P w K mg base (L2N.CX P w) k f fd ps (spH ⟨K, cn, P, w⟩ n mf) ∧ Binds K fd ps []
  kp : PySem.W.keepIn K (.ref f) = true
end
theorem hot_fn {P : Program} {w : World} {K : PySem.W.Frag} {mg : Str → Option Value} {base : Heap} {N : List Str} {qual : Str} {sc : Scope} {f : Addr} {cdv : Value} {A : Around} {outer : List Env} {s : Shared} {H : Hp} {E : XK} {p : Addr × PySem.Obj} (h : L2H.Hot1 A p) : L2H.HotC (cxHE P w K mg base N qual sc f cdv A outer s H E p) := ⟨p, h, List.mem_singleton.mpr rfl⟩
section
variable {X : Cx} {cn : Str → Addr} {k n : Nat} {mf : List D → M D} {f : Addr} {x : Str} {p pos : Pos} {e : Expr} {el : List Expr} {ml : MA}
theorem post_spH {σ : L2.St} {H : Hp} {Q : VK} {vs : List V} {ρ : List Addr} {g : G} {ds : List D} {E : XK} (R : Rep (ux X cn) ρ H g) (q : RelDs X.K ρ H ds vs) (h : Post (ux X cn) (rD (ux X cn)) WN σ ρ H (fCall n [] mf ds g) Q) : spH ⟨X.K, cn, X.prog, X.w⟩ n mf vs H Q E := by
  obtain ⟨hl, h2⟩ := Post.ck h
  refine ⟨ρ, g, ds, hl, q, R, ?_⟩
  rw [List.append_nil] at h2
  revert h2
  cases mf ds g <;> exact id
theorem re_callH (Df : DefH X.prog X.w X.K X.mg X.base cn k f n mf) (hot : L2H.HotC X) (hr : L2H.RoomH k X.A) (hg : Gl X x) (hm : X.mg x = some (.ref f)) (ha : RA X cn WN (e :: el) ml) (hdb : (x == ("__debug__" : Str)) = false := by decide)
    (he : starEach (e :: el) X.env = (false, eval e X.env) :: starEach el X.env := by rfl) (hpl : (backTo pos (starEach el X.env)).any (·.1) = false := by rfl) : RE X cn WN (.Call (.Name x p) (e :: el) [] pos) (mUnA (fCall n [] mf) ml) := by
  obtain ⟨fd, ps, Fn, hb⟩ := Df.ok
  exact peI (L2H.pe_callH (E := fun _ _ _ _ => False) Fn hr hot hg hm Df.kp hb (fun σ => L2N.passAt (W := fun _ _ _ _ => False) takesN0 σ) ha hdb he hpl) fun σ H Q ⟨ρ, τ, g, st, h⟩ => ⟨ρ, τ, g, st, h.thn fun ρ1 vs H1 ds g1 e1 r1 q1 p1 => post_spH r1 q1 p1⟩
/-- called in a suite, on what the error tells -/
theorem rex_call {es : List Str} {io : Option Nat} {a : Addr} {cls : Value} {d : Option Addr} {pn : List (Addr × PySem.Obj)} {m : Exc → MA} (Df : DefH X.prog X.w X.K X.mg X.base cn k f n mf) (hot : L2H.HotC (X.suite a pn)) (hr : Room k X.A) (hg : Gl X x) (hm : X.mg x = some (.ref f))
    (ha : PA (X.suite a pn) (e :: el) (tAX (ux X cn) es io a cls d m)) (hdb : (x == ("__debug__" : Str)) = false := by decide)
    (he : starEach (e :: el) X.env = (false, eval e X.env) :: starEach el X.env := by rfl) (hpl : (backTo pos (starEach el X.env)).any (·.1) = false := by rfl) : PE (X.suite a pn) (.Call (.Name x p) (e :: el) [] pos) (tEX (ux X cn) es io a cls d fun x => mUnA (fCall n [] mf) (m x)) := by
  obtain ⟨fd, ps, Fn, hb⟩ := Df.ok
  exact peI (L2H.pe_callH (X := X.suite a pn) (E := fun _ _ _ _ => False) Fn ⟨hr.dp, hr.un⟩ hot hg hm Df.kp hb (fun σ => L2N.passAt (W := fun _ _ _ _ => False) takesN0 σ) ha hdb he hpl) fun σ H Q ⟨ρ, τ, g, x, xa, st, h⟩ => ⟨ρ, τ, g, x, xa, st, h.thn fun ρ1 vs H1 ds g1 e1 r1 q1 p1 => post_spH (X := X) r1 q1 p1⟩
end
section
variable {X : Cx} {cn : Str → Addr} {W : WX} {pos : Pos} {tg iter : Expr} {body : List Stmt} {mi : MI} {mg : MG} {mb : MS}
theorem rs_forH (hp : PassesOwn (model X.prog X.w) X.A X.env X.xe) (hot : L2H.HotC X) (hi : RIH X cn W tg iter mi) (hg : RG X cn W tg mg) (hb : RSs X cn W body mb) (hs : ∀ x, foldedSetIterable iter X.env x = pure x := by intro _; rfl) :
    RS X cn W (.For tg iter body [] pos) (mFor mi mg mb) := by
  refine psI (L2H.ps_forH hp hot hi hg hb hs) fun E σ H ⟨ρ, τ, g, s, p⟩ => ⟨ρ, τ, g, s, PostS.thn (Rl := rI (ux X cn)) p s fun ρ1 J H1 src g1 e1 r1 dr s1 p1 => ?_⟩
  obtain ⟨l, c⟩ := src
  dsimp only at p1
  refine ⟨fun i m σ' H' => ∃ ρ' τ' g', m = l.length - i ∧ i ≤ l.length ∧ Ev ρ1 H1 ρ' H' ∧ Stt (ux X cn) ρ' τ' g' σ' H' ∧ PostS (ux X cn) W ρ' H' (forGo c mg mb (l.drop i) τ' g') E, ⟨l.length, ρ1, τ, g1, rfl, Nat.zero_le _, Ev.refl, s1, p1⟩, ?_⟩
  rintro i m σ' H' ⟨ρ', τ', g', rfl, hi, ev, st, ps⟩
  by_cases hlt : i < l.length
  · have hd : l.drop i = l[i] :: l.drop (i + 1) := List.drop_eq_getElem_cons hlt
    rw [hd] at ps
    unfold forGo at ps
    by_cases hst : still c g'
    · rw [if_pos hst] at ps
      obtain ⟨hgo, hy⟩ := dr.go ρ' H' g' i l[i] ev st.rep hst (List.getElem?_eq_getElem hlt)
      refine .inr ⟨hgo, fun σ2 H2 => ∃ ρ2 τ2 g2, Ev ρ1 H1 ρ2 H2 ∧ Stt (ux X cn) ρ2 τ2 g2 σ2 H2 ∧ PostS (ux X cn) W ρ2 H2 (forGo c mg mb (l.drop (i + 1)) τ2 g2) E, ?_, fun x H2 yl => ?_⟩
      · rintro σ2 H2 ⟨ρ2, τ2, g2, h1, h2, h3⟩
        exact ⟨l.length - (i + 1), by omega, ρ2, τ2, g2, rfl, hlt, h1, h2, h3⟩
      · obtain ⟨ev2, rp2, rd, _⟩ := hy x H2 yl
        have st2 := st.later ev2 rp2
        refine ⟨ρ', τ', g', l[i], st2, rd, ?_⟩
        cases hg' : mg l[i] τ' g' with
        | nx τ1 g2 =>
          rw [hg'] at ps
          dsimp only at ps
          intro ρ3 σ3 H3 ev3 st3
          refine ⟨ρ3, τ1, g2, st3, ?_⟩
          have ps3 := PostS.later (PostS.later ps ev2) ev3
          have evt := (ev.trans ev2).trans ev3
          cases hb' : mb τ1 g2 with
          | nx τ2 g3 =>
            rw [hb'] at ps3
            exact fun ρ4 σ4 H4 ev4 st4 => ⟨ρ4, τ2, g3, evt.trans ev4, st4, PostS.later ps3 ev4⟩
          | ct τ2 g3 =>
            rw [hb'] at ps3
            exact fun ρ4 σ4 H4 ev4 st4 => ⟨ρ4, τ2, g3, evt.trans ev4, st4, PostS.later ps3 ev4⟩
          | bk τ2 g3 => rw [hb'] at ps3; exact ps3
          | rt d g3 => rw [hb'] at ps3; exact ps3
          | ex x τ2 g3 => rw [hb'] at ps3; exact ps3
          | bad => rw [hb'] at ps3; exact ps3
        | ex x τ1 g2 =>
          rw [hg'] at ps
          exact PostS.later ps ev2
        | _ => rw [hg'] at ps; exact ps.elim
    · rw [if_neg hst] at ps
      exact ps.elim
  · have e : i = l.length := by omega
    subst e
    rw [List.drop_length] at ps
    unfold forGo at ps
    by_cases hst : still c g'
    · rw [if_pos hst] at ps
      exact .inl ⟨dr.stop ρ' H' g' ev st.rep hst, ps ρ' σ' H' Ev.refl st⟩
    · rw [if_neg hst] at ps
      exact ps.elim
end
end RL
namespace RL
open PySem L2
mutual
def D.fl : D → Bool
  | .non => true
  | .bl _ => true
  | .int _ => true
  | .str _ => true
  | .tup l => D.fls l
  | .kl _ => false
  | .ref _ => false
  | .plst _ => false
  | .pdct _ => false
  | .pobj _ _ => false
def D.fls : List D → Bool
  | [] => true
  | d :: l => d.fl && D.fls l
end
theorem fls_all : ∀ l : List D, D.fls l = l.all D.fl
  | [] => rfl
  | d :: l => by rw [D.fls, List.all_cons, fls_all l]
theorem gr_fl : ∀ (n : Nat) (d : D), gr n d = true → d.fl = true
  | 0, d, h => by simp [gr] at h
  | n + 1, .non, _ => rfl
  | n + 1, .bl _, _ => rfl
  | n + 1, .int _, _ => rfl
  | n + 1, .str _, _ => rfl
  | n + 1, .tup l, h => by
    rw [D.fl, fls_all]
    exact List.all_eq_true.mpr fun x hx => gr_fl n x (List.all_eq_true.mp (show l.all (gr n) = true from h) x hx)
  | n + 1, .kl _, h | n + 1, .ref _, h | n + 1, .plst _, h | n + 1, .pdct _, h | n + 1, .pobj _ _, h => by simp [gr] at h
theorem grs_fl {n : Nat} {l : List D} (h : l.all (gr n) = true) : D.fls l = true := by
  rw [fls_all]
  exact List.all_eq_true.mpr fun x hx => gr_fl n x (List.all_eq_true.mp h x hx)
theorem pks_fl : ∀ l : List D, (toPKs l).isSome = true → D.fls l = true
  | [], _ => rfl
  | d :: l, h => by
    simp only [toPKs] at h
    cases h1 : toPK d with
    | none => rw [h1] at h; simp at h
    | some k =>
      cases h2 : toPKs l with
      | none => rw [h1, h2] at h; simp at h
      | some ks =>
        rw [D.fls, pks_fl l (by rw [h2]; rfl), Bool.and_true]
        cases d <;> simp [toPK] at h1 <;> rfl
theorem keyb_fl {d : D} (h : keyb d = true) : d.fl = true := by
  cases d with
  | str _ => rfl
  | tup l => exact pks_fl l h
  | _ => simp [keyb] at h
mutual
/-- a value of the first layer, and what it is in the second: κ tells the things that may be changed -/
inductive Den (κ : List Nat) (g : G) : D → D → Prop
  | non : Den κ g .non .non
  | bl (b : Bool) : Den κ g (.bl b) (.bl b)
  | int (i : Int) : Den κ g (.int i) (.int i)
  | str (s : Str) : Den κ g (.str s) (.str s)
  | tup {l m : List D} : Dens κ g l m → Den κ g (.tup l) (.tup m)
  | kl {l m : List D} : Dens κ g l m → Den κ g (.kl l) (.kl m)
  | cell {n i : Nat} : κ[i]? = some n → Den κ g (.ref n) (.ref i)
  | lst {n : Nat} {l m : List D} : n ∉ κ → g[n]? = some (.lst l) → Dens κ g l m → Den κ g (.ref n) (.plst m)
  | dct {n : Nat} {k : Bool} {l m : List (D × D)} : n ∉ κ → g[n]? = some (.dct k l) → Denp κ g l m → Den κ g (.ref n) (.pdct m)
  | obj {n : Nat} {c : Str} {l m : List (Str × D)} : n ∉ κ → g[n]? = some (.ins c l) → Denf κ g l m → Den κ g (.ref n) (.pobj c m)
inductive Dens (κ : List Nat) (g : G) : List D → List D → Prop
  | nil : Dens κ g [] []
  | cons {d e : D} {l m : List D} : Den κ g d e → Dens κ g l m → Dens κ g (d :: l) (e :: m)
inductive Denp (κ : List Nat) (g : G) : List (D × D) → List (D × D) → Prop
  | nil : Denp κ g [] []
  | cons {k j d e : D} {l m : List (D × D)} : Den κ g k j → Den κ g d e → Denp κ g l m → Denp κ g ((k, d) :: l) ((j, e) :: m)
inductive Denf (κ : List Nat) (g : G) : List (Str × D) → List (Str × D) → Prop
  | nil : Denf κ g [] []
  | cons {f : Str} {d e : D} {l m : List (Str × D)} : Den κ g d e → Denf κ g l m → Denf κ g ((f, d) :: l) ((f, e) :: m)
end
inductive ObD (κ : List Nat) (g : G) : Ob → Ob → Prop
  | lst {l m : List D} : Dens κ g l m → ObD κ g (.lst l) (.lst m)
  | dct {k : Bool} {l m : List (D × D)} : Denp κ g l m → ObD κ g (.dct k l) (.dct k m)
  | ins {c : Str} {l m : List (Str × D)} : Denf κ g l m → ObD κ g (.ins c l) (.ins c m)
structure VS (κ : List Nat) (g : G) (s : G) : Prop where
  len : κ.length = s.length
  nod : κ.Nodup
  obs : ∀ (i : Nat) (o : Ob), s[i]? = some o → ∃ n o1, κ[i]? = some n ∧ g[n]? = some o1 ∧ ObD κ g o1 o
structure Evo (κ : List Nat) (g : G) (κ' : List Nat) (g' : G) : Prop where
  pre : ∃ new, κ' = κ ++ new ∧ ∀ n ∈ new, g.length ≤ n
  len : g.length ≤ g'.length
  old : ∀ n, n < g.length → n ∉ κ → g'[n]? = g[n]?
  lck : ∀ (n : Nat) (l : List (D × D)), g[n]? = some (Ob.dct true l) → g'[n]? = some (Ob.dct true l)
section
variable {κ κ' κ'' : List Nat} {g g' g'' s s' : G}
theorem Evo.refl : Evo κ g κ g := ⟨⟨[], by simp, by simp⟩, Nat.le_refl _, fun _ _ _ => rfl, fun _ _ h => h⟩
theorem Evo.trans (e : Evo κ g κ' g') (f : Evo κ' g' κ'' g'') : Evo κ g κ'' g'' := by
  obtain ⟨⟨n1, rfl, h1⟩, l1, o1, k1⟩ := e
  obtain ⟨⟨n2, rfl, h2⟩, l2, o2, k2⟩ := f
  refine ⟨⟨n1 ++ n2, by simp, fun n hn => ?_⟩, Nat.le_trans l1 l2, fun n hn hm => ?_, fun n l h => k2 n l (k1 n l h)⟩
  · rcases List.mem_append.mp hn with hn | hn
    · exact h1 n hn
    · exact Nat.le_trans l1 (h2 n hn)
  · rw [o2 n (Nat.lt_of_lt_of_le hn l1) (fun z => ?_), o1 n hn hm]
    rcases List.mem_append.mp z with z | z
    · exact hm z
    · exact absurd (h1 n z) (by omega)
theorem Evo.ix (e : Evo κ g κ' g') {i n : Nat} (h : κ[i]? = some n) : κ'[i]? = some n := by
  obtain ⟨⟨n1, rfl, _⟩, _, _, _⟩ := e
  rw [List.getElem?_append_left (List.getElem?_eq_some_iff.mp h).1]
  exact h
theorem Evo.nin (e : Evo κ g κ' g') {n : Nat} {o : Ob} (h : n ∉ κ) (hn : g[n]? = some o) : n ∉ κ' ∧ g'[n]? = some o := by
  have hl := lt_of_get hn
  refine ⟨fun z => ?_, by rw [e.old n hl h]; exact hn⟩
  obtain ⟨⟨n1, rfl, h1⟩, _, _, _⟩ := e
  rcases List.mem_append.mp z with z | z
  · exact h z
  · exact absurd (h1 n z) (by omega)
mutual
theorem Den.mono (e : Evo κ g κ' g') : ∀ {d v : D}, Den κ g d v → Den κ' g' d v
  | _, _, .non => .non
  | _, _, .bl b => .bl b
  | _, _, .int i => .int i
  | _, _, .str s => .str s
  | _, _, .tup h => .tup (Dens.mono e h)
  | _, _, .kl h => .kl (Dens.mono e h)
  | _, _, .cell h => .cell (e.ix h)
  | _, _, .lst h1 h2 h3 => .lst (e.nin h1 h2).1 (e.nin h1 h2).2 (Dens.mono e h3)
  | _, _, .dct h1 h2 h3 => .dct (e.nin h1 h2).1 (e.nin h1 h2).2 (Denp.mono e h3)
  | _, _, .obj h1 h2 h3 => .obj (e.nin h1 h2).1 (e.nin h1 h2).2 (Denf.mono e h3)
theorem Dens.mono (e : Evo κ g κ' g') : ∀ {d v : List D}, Dens κ g d v → Dens κ' g' d v
  | _, _, .nil => .nil
  | _, _, .cons h t => .cons (Den.mono e h) (Dens.mono e t)
theorem Denp.mono (e : Evo κ g κ' g') : ∀ {d v : List (D × D)}, Denp κ g d v → Denp κ' g' d v
  | _, _, .nil => .nil
  | _, _, .cons k h t => .cons (Den.mono e k) (Den.mono e h) (Denp.mono e t)
theorem Denf.mono (e : Evo κ g κ' g') : ∀ {d v : List (Str × D)}, Denf κ g d v → Denf κ' g' d v
  | _, _, .nil => .nil
  | _, _, .cons h t => .cons (Den.mono e h) (Denf.mono e t)
end
theorem ObD.mono (e : Evo κ g κ' g') {o o' : Ob} (h : ObD κ g o o') : ObD κ' g' o o' := by
  cases h with
  | lst h => exact .lst (h.mono e)
  | dct h => exact .dct (h.mono e)
  | ins h => exact .ins (h.mono e)
theorem Dens.length : ∀ {l m : List D}, Dens κ g l m → l.length = m.length
  | _, _, .nil => rfl
  | _, _, .cons _ t => by rw [List.length_cons, List.length_cons, t.length]
theorem Denp.length : ∀ {l m : List (D × D)}, Denp κ g l m → l.length = m.length
  | _, _, .nil => rfl
  | _, _, .cons _ _ t => by rw [List.length_cons, List.length_cons, t.length]
theorem Denf.length : ∀ {l m : List (Str × D)}, Denf κ g l m → l.length = m.length
  | _, _, .nil => rfl
  | _, _, .cons _ t => by rw [List.length_cons, List.length_cons, t.length]
theorem Dens.get : ∀ {l m : List D}, Dens κ g l m → ∀ {i : Nat} {v : D}, m[i]? = some v → ∃ d, l[i]? = some d ∧ Den κ g d v
  | _, _, .nil, _, _, e => by simp at e
  | _, _, .cons h _, 0, _, e => by
    cases e
    exact ⟨_, rfl, h⟩
  | _, _, .cons _ t, i + 1, d, e => by
    obtain ⟨v, h1, h2⟩ := t.get (i := i) (v := d) (by simpa using e)
    exact ⟨v, by simpa using h1, h2⟩
theorem Dens.app : ∀ {l m l' m' : List D}, Dens κ g l m → Dens κ g l' m' → Dens κ g (l ++ l') (m ++ m')
  | _, _, _, _, .nil, h => h
  | _, _, _, _, .cons q t, h => .cons q (t.app h)
theorem Dens.one {d v : D} (h : Den κ g d v) : Dens κ g [d] [v] := .cons h .nil
theorem Dens.take : ∀ {l m : List D} (n : Nat), Dens κ g l m → Dens κ g (l.take n) (m.take n)
  | _, _, 0, _ => .nil
  | _, _, _ + 1, .nil => .nil
  | _, _, n + 1, .cons h t => .cons h (t.take n)
theorem Dens.drop : ∀ {l m : List D} (n : Nat), Dens κ g l m → Dens κ g (l.drop n) (m.drop n)
  | _, _, 0, h => h
  | _, _, _ + 1, .nil => .nil
  | _, _, n + 1, .cons _ t => t.drop n
theorem Dens.set {d v : D} (q : Den κ g d v) : ∀ {l m : List D} (n : Nat), Dens κ g l m → Dens κ g (l.set n d) (m.set n v)
  | _, _, _, .nil => .nil
  | _, _, 0, .cons _ t => .cons q t
  | _, _, n + 1, .cons h t => .cons h (Dens.set q n t)
theorem Dens.rep {l m : List D} (h : Dens κ g l m) : ∀ k : Nat, Dens κ g (List.replicate k l).flatten (List.replicate k m).flatten
  | 0 => .nil
  | k + 1 => by
    rw [List.replicate_succ, List.replicate_succ, List.flatten_cons, List.flatten_cons]
    exact h.app (h.rep k)
mutual
/-- flat values are what they are -/
theorem Den.flr : ∀ {d v : D}, Den κ g d v → v.fl = true → d = v
  | _, _, .non, _ => rfl
  | _, _, .bl b, _ => rfl
  | _, _, .int i, _ => rfl
  | _, _, .str s, _ => rfl
  | _, _, .tup h, e => by rw [h.flr e]
  | _, _, .kl h, e => by simp [D.fl] at e
  | _, _, .cell h, e => by simp [D.fl] at e
  | _, _, .lst _ _ _, e => by simp [D.fl] at e
  | _, _, .dct _ _ _, e => by simp [D.fl] at e
  | _, _, .obj _ _ _, e => by simp [D.fl] at e
theorem Dens.flr : ∀ {d v : List D}, Dens κ g d v → D.fls v = true → d = v
  | _, _, .nil, _ => rfl
  | _, _, .cons h t, e => by
    rw [D.fls, Bool.and_eq_true] at e
    rw [h.flr e.1, t.flr e.2]
end
mutual
theorem Den.fll : ∀ {d v : D}, Den κ g d v → d.fl = true → d = v
  | _, _, .non, _ => rfl
  | _, _, .bl b, _ => rfl
  | _, _, .int i, _ => rfl
  | _, _, .str s, _ => rfl
  | _, _, .tup h, e => by rw [h.fll e]
  | _, _, .kl h, e => by simp [D.fl] at e
  | _, _, .cell h, e => by simp [D.fl] at e
  | _, _, .lst _ _ _, e => by simp [D.fl] at e
  | _, _, .dct _ _ _, e => by simp [D.fl] at e
  | _, _, .obj _ _ _, e => by simp [D.fl] at e
theorem Dens.fll : ∀ {d v : List D}, Dens κ g d v → D.fls d = true → d = v
  | _, _, .nil, _ => rfl
  | _, _, .cons h t, e => by
    rw [D.fls, Bool.and_eq_true] at e
    rw [h.fll e.1, t.fll e.2]
end
mutual
theorem Den.rfl' : ∀ {v : D}, v.fl = true → Den κ g v v
  | .non, _ => .non
  | .bl b, _ => .bl b
  | .int i, _ => .int i
  | .str s, _ => .str s
  | .tup l, e => .tup (Dens.rfl' (l := l) e)
  | .kl _, e => by simp [D.fl] at e
  | .ref _, e => by simp [D.fl] at e
  | .plst _, e => by simp [D.fl] at e
  | .pdct _, e => by simp [D.fl] at e
  | .pobj _ _, e => by simp [D.fl] at e
theorem Dens.rfl' : ∀ {l : List D}, D.fls l = true → Dens κ g l l
  | [], _ => .nil
  | d :: l, e => by
    rw [D.fls, Bool.and_eq_true] at e
    exact .cons (Den.rfl' e.1) (Dens.rfl' e.2)
end
theorem VS.ix (V : VS κ g s) {i n : Nat} {o : Ob} (hk : κ[i]? = some n) (h : s[i]? = some o) : ∃ o1, g[n]? = some o1 ∧ ObD κ g o1 o := by
  obtain ⟨m, o1, h1, h2, h3⟩ := V.obs i o h
  rw [hk] at h1
  cases h1
  exact ⟨o1, h2, h3⟩
theorem VS.lt (V : VS κ g s) {n : Nat} (h : n ∈ κ) : n < g.length := by
  obtain ⟨i, hi, e⟩ := List.getElem_of_mem h
  have hs : i < s.length := by rw [← V.len]; exact hi
  obtain ⟨m, o1, h1, h2, _⟩ := V.obs i _ (List.getElem?_eq_getElem hs)
  rw [List.getElem?_eq_getElem hi, e] at h1
  cases h1
  exact lt_of_get h2
/-- a new thing that is a value -/
theorem VS.new (V : VS κ g s) (o : Ob) : Evo κ g κ (g ++ [o]) ∧ VS κ (g ++ [o]) s ∧ g.length ∉ κ ∧ (g ++ [o])[g.length]? = some o := by
  have e : Evo κ g κ (g ++ [o]) := ⟨⟨[], by simp, by simp⟩, by simp, fun n hn _ => List.getElem?_append_left hn, fun n l h => app_get h⟩
  refine ⟨e, ⟨V.len, V.nod, fun i o' h => ?_⟩, fun z => absurd (V.lt z) (by omega), end_get⟩
  obtain ⟨n, o1, h1, h2, h3⟩ := V.obs i o' h
  exact ⟨n, o1, h1, app_get h2, h3.mono e⟩
/-- a new thing that may be changed -/
theorem VS.cnt (V : VS κ g s) {o1 o : Ob} (q : ObD κ g o1 o) : Evo κ g (κ ++ [g.length]) (g ++ [o1]) ∧ VS (κ ++ [g.length]) (g ++ [o1]) (s ++ [o]) ∧ (κ ++ [g.length])[s.length]? = some g.length := by
  have e : Evo κ g (κ ++ [g.length]) (g ++ [o1]) := ⟨⟨[g.length], rfl, by simp⟩, by simp, fun n hn _ => List.getElem?_append_left hn, fun n l h => app_get h⟩
  have hl : (κ ++ [g.length])[s.length]? = some g.length := by rw [← V.len]; simp
  refine ⟨e, ⟨by simp [V.len], List.nodup_append.mpr ⟨V.nod, by simp, fun a ha b hb => ?_⟩, fun i o' h => ?_⟩, hl⟩
  · rw [List.mem_singleton.mp hb]
    exact fun z => absurd (V.lt ha) (by omega)
  · by_cases hi : i < s.length
    · rw [List.getElem?_append_left hi] at h
      obtain ⟨n, o2, h1, h2, h3⟩ := V.obs i o' h
      exact ⟨n, o2, e.ix h1, app_get h2, h3.mono e⟩
    · have : i = s.length := by
        have := lt_of_get h
        simp at this
        omega
      subst this
      rw [end_get] at h
      cases h
      exact ⟨g.length, o1, hl, end_get, q.mono e⟩
theorem nodup_ix {l : List Nat} (h : l.Nodup) {i j x : Nat} (a : l[i]? = some x) (b : l[j]? = some x) : i = j := by
  obtain ⟨_, e1⟩ := List.getElem?_eq_some_iff.mp a
  obtain ⟨_, e2⟩ := List.getElem?_eq_some_iff.mp b
  exact (List.getElem_inj h).mp (e1.trans e2.symm)
/-- a thing is written -/
theorem VS.wr (V : VS κ g s) {i n : Nat} {o1 o b : Ob} (hk : κ[i]? = some n) (hb : g[n]? = some b) (nl : ∀ l, b ≠ .dct true l) (q : ObD κ g o1 o) : Evo κ g κ (g.set n o1) ∧ VS κ (g.set n o1) (s.set i o) := by
  have hm : n ∈ κ := List.mem_of_getElem? hk
  have e : Evo κ g κ (g.set n o1) := ⟨⟨[], by simp, by simp⟩, by simp, fun m _ hm' => List.getElem?_set_ne (fun (z : n = m) => hm' (z ▸ hm)), fun m l h => by
    rw [List.getElem?_set_ne (fun z => ?_)]
    · exact h
    · rw [← z, hb] at h
      cases h
      exact nl l rfl⟩
  refine ⟨e, ⟨by simp [V.len], V.nod, fun j o' h => ?_⟩⟩
  by_cases hj : i = j
  · subst hj
    have hi : i < s.length := by
      have := lt_of_get h
      simpa using this
    rw [List.getElem?_set_self hi] at h
    cases h
    exact ⟨n, o1, hk, List.getElem?_set_self (lt_of_get hb), q.mono e⟩
  · rw [List.getElem?_set_ne hj] at h
    obtain ⟨m, o2, h1, h2, h3⟩ := V.obs j o' h
    refine ⟨m, o2, h1, ?_, h3.mono e⟩
    rw [List.getElem?_set_ne (fun z => hj (nodup_ix V.nod hk (by rw [z]; exact h1)))]
    exact h2
end
abbrev VR (α β : Type) := List Nat → G → α → β → Prop
def ExR (κ : List Nat) (g : G) (x e : Exc) : Prop := x.cls = e.cls ∧ Denf κ g x.fs e.fs
theorem ExR.mono {κ κ' : List Nat} {g g' : G} {x e : Exc} (v : Evo κ g κ' g') (h : ExR κ g x e) : ExR κ' g' x e := ⟨h.1, h.2.mono v⟩
def RR {α β : Type} (R : VR α β) (κ : List Nat) (g : G) (r : Res α) (r2 : Res β) : Prop := match r2 with
  | .ok v s' => ∃ κ' d g', r = .ok d g' ∧ Evo κ g κ' g' ∧ VS κ' g' s' ∧ R κ' g' d v
  | .exc e s' => ∃ κ' x g', r = .exc x g' ∧ Evo κ g κ' g' ∧ VS κ' g' s' ∧ ExR κ' g' x e
  | .bad => True
section
variable {α β γ δ : Type} {R : VR α β} {R' : VR γ δ} {κ κ' : List Nat} {g g' s s' : G} {r : Res α} {r2 : Res β}
theorem RR.evo (e : Evo κ g κ' g') (h : RR R κ' g' r r2) : RR R κ g r r2 := by
  cases r2 with
  | ok v s' =>
    obtain ⟨κ2, d, g2, h1, h2, h3⟩ := h
    exact ⟨κ2, d, g2, h1, e.trans h2, h3⟩
  | exc x s' =>
    obtain ⟨κ2, d, g2, h1, h2, h3⟩ := h
    exact ⟨κ2, d, g2, h1, e.trans h2, h3⟩
  | bad => trivial
theorem RR.thn {k : α → M γ} {k2 : β → M δ} (h : RR R κ g r r2) (n : ∀ κ' g' s' d v, Evo κ g κ' g' → VS κ' g' s' → R κ' g' d v → RR R' κ' g' (k d g') (k2 v s')) : RR R' κ g (r.bind k) (r2.bind k2) := by
  cases r2 with
  | ok v s' =>
    obtain ⟨κ2, d, g2, rfl, h2, h3, h4⟩ := h
    exact (n κ2 g2 s' d v h2 h3 h4).evo h2
  | exc x s' =>
    obtain ⟨κ2, d, g2, rfl, h2, h3⟩ := h
    exact ⟨κ2, d, g2, rfl, h2, h3⟩
  | bad => trivial
theorem RR.ok {d : α} {v : β} (V : VS κ g s) (q : R κ g d v) : RR R κ g (.ok d g) (.ok v s) := ⟨κ, d, g, rfl, Evo.refl, V, q⟩
theorem RR.ok2 {d : α} {v : β} (e : Evo κ g κ' g') (V : VS κ' g' s) (q : R κ' g' d v) : RR R κ g (.ok d g') (.ok v s) := ⟨κ', d, g', rfl, e, V, q⟩
theorem RR.bad : RR R κ g r .bad := trivial
theorem RR.ck {c c2 : Prop} [Decidable c] [Decidable c2] (h : c2 → c ∧ RR R κ g r r2) : RR R κ g (RL.ck c r) (RL.ck c2 r2) := by
  by_cases z : c2
  · rw [ck_pos z, ck_pos (h z).1]
    exact (h z).2
  · unfold RL.ck
    rw [if_neg z]
    trivial
end
/-- slots -/
structure TR (κ : List Nat) (g : G) (τ τ2 : T) : Prop where
  len : τ.length = τ2.length
  at_ : ∀ (i : Nat) (v : D), τ2[i]? = some (some v) → ∃ d, τ[i]? = some (some d) ∧ Den κ g d v
section
variable {κ κ' : List Nat} {g g' s s' : G} {τ τ2 : T}
theorem TR.mono (e : Evo κ g κ' g') (h : TR κ g τ τ2) : TR κ' g' τ τ2 := ⟨h.len, fun i v hv => by
  obtain ⟨d, h1, h2⟩ := h.at_ i v hv
  exact ⟨d, h1, h2.mono e⟩⟩
theorem TR.set {d v : D} (h : TR κ g τ τ2) (q : Den κ g d v) (i : Nat) : TR κ g (τ.set i (some d)) (τ2.set i (some v)) := by
  refine ⟨by simp [h.len], fun j w hw => ?_⟩
  by_cases hj : i = j
  · subst hj
    have hi : i < τ2.length := by
      have := (List.getElem?_eq_some_iff.mp hw).1
      simpa using this
    rw [List.getElem?_set_self hi] at hw
    cases hw
    exact ⟨d, List.getElem?_set_self (by rw [h.len]; exact hi), q⟩
  · rw [List.getElem?_set_ne hj] at hw ⊢
    exact h.at_ j w hw
theorem TR.non (h : TR κ g τ τ2) (i : Nat) : TR κ g (τ.set i none) (τ2.set i none) := by
  refine ⟨by simp [h.len], fun j w hw => ?_⟩
  by_cases hj : i = j
  · subst hj
    have hi : i < τ2.length := by
      have := (List.getElem?_eq_some_iff.mp hw).1
      simpa using this
    rw [List.getElem?_set_self hi] at hw
    cases hw
  · rw [List.getElem?_set_ne hj] at hw ⊢
    exact h.at_ j w hw
theorem TR.wipe (h : TR κ g τ τ2) : ∀ l : List Nat, TR κ g (wipeT τ l) (wipeT τ2 l)
  | [] => h
  | i :: l => (h.wipe l).non i
theorem TR.all : ∀ {is : List Nat} {l m : List D} {τ τ2 : T}, TR κ g τ τ2 → Dens κ g l m → TR κ g (setAll is l τ) (setAll is m τ2)
  | [], _, _, _, _, h, _ => h
  | i :: is, _, _, _, _, h, .nil => h
  | i :: is, _, _, _, _, h, .cons q t => (h.set q i).all t
end
def VE (m m2 : ME) : Prop := ∀ κ g s τ τ2, VS κ g s → TR κ g τ τ2 → RR Den κ g (m τ g) (m2 τ2 s)
def VA (m m2 : MA) : Prop := ∀ κ g s τ τ2, VS κ g s → TR κ g τ τ2 → RR Dens κ g (m τ g) (m2 τ2 s)
def rEq {α : Type} : VR α α := fun _ _ a b => a = b
def VT (m m2 : MT) : Prop := ∀ κ g s τ τ2, VS κ g s → TR κ g τ τ2 → RR rEq κ g (m τ g) (m2 τ2 s)
def VP (m m2 : MP) : Prop := ∀ κ g s τ τ2, VS κ g s → TR κ g τ τ2 → RR rEq κ g (m τ g) (m2 τ2 s)
def rSrc : VR Src Src := fun κ g a b => Dens κ g a.1 b.1 ∧ ∀ κ' g' s', Evo κ g κ' g' → VS κ' g' s' → still b.2 s' → still a.2 g'
def VI (m m2 : MI) : Prop := ∀ κ g s τ τ2, VS κ g s → TR κ g τ τ2 → RR rSrc κ g (m τ g) (m2 τ2 s)
def FR (f f2 : List D → M D) : Prop := ∀ κ g s l m, VS κ g s → Dens κ g l m → RR Den κ g (f l g) (f2 m s)
def F1 (f f2 : D → M D) : Prop := ∀ κ g s x y, VS κ g s → Den κ g x y → RR Den κ g (f x g) (f2 y s)
def F2 (f f2 : D → D → M D) : Prop := ∀ κ g s x y x' y', VS κ g s → Den κ g x x' → Den κ g y y' → RR Den κ g (f x y g) (f2 x' y' s)
/-- a method of a built-in type -/
def FB (f f2 : D → List D → M D) : Prop := ∀ κ g s x y l m, VS κ g s → Den κ g x y → Dens κ g l m → RR Den κ g (f x l g) (f2 y m s)
def RS2 (κ : List Nat) (g : G) (r r2 : SR) : Prop := match r2 with
  | .nx τ2 s' => ∃ κ' τ' g', r = .nx τ' g' ∧ Evo κ g κ' g' ∧ VS κ' g' s' ∧ TR κ' g' τ' τ2
  | .bk τ2 s' => ∃ κ' τ' g', r = .bk τ' g' ∧ Evo κ g κ' g' ∧ VS κ' g' s' ∧ TR κ' g' τ' τ2
  | .ct τ2 s' => ∃ κ' τ' g', r = .ct τ' g' ∧ Evo κ g κ' g' ∧ VS κ' g' s' ∧ TR κ' g' τ' τ2
  | .rt v s' => ∃ κ' d g', r = .rt d g' ∧ Evo κ g κ' g' ∧ VS κ' g' s' ∧ Den κ' g' d v
  | .ex e τ2 s' => ∃ κ' x τ' g', r = .ex x τ' g' ∧ Evo κ g κ' g' ∧ VS κ' g' s' ∧ TR κ' g' τ' τ2 ∧ ExR κ' g' x e
  | .bad => True
def VM (m m2 : MS) : Prop := ∀ κ g s τ τ2, VS κ g s → TR κ g τ τ2 → RS2 κ g (m τ g) (m2 τ2 s)
def VG (m m2 : MG) : Prop := ∀ κ g s τ τ2 d v, VS κ g s → TR κ g τ τ2 → Den κ g d v → RS2 κ g (m d τ g) (m2 v τ2 s)
def VGs (m m2 : List D → MS) : Prop := ∀ κ g s τ τ2 d v, VS κ g s → TR κ g τ τ2 → Dens κ g d v → RS2 κ g (m d τ g) (m2 v τ2 s)
section
variable {α β : Type} {R : VR α β} {κ κ' : List Nat} {g g' s s' : G} {τ τ2 : T} {r : SR} {r2 : SR}
theorem RS2.evo (e : Evo κ g κ' g') (h : RS2 κ' g' r r2) : RS2 κ g r r2 := by
  cases r2 with
  | nx _ _ | bk _ _ | ct _ _ | rt _ _ =>
    obtain ⟨κ2, d, g2, h1, h2, h3⟩ := h
    exact ⟨κ2, d, g2, h1, e.trans h2, h3⟩
  | ex _ _ _ =>
    obtain ⟨κ2, d, t2, g2, h1, h2, h3⟩ := h
    exact ⟨κ2, d, t2, g2, h1, e.trans h2, h3⟩
  | bad => trivial
theorem RR.st {q : Res α} {q2 : Res β} {k : α → G → SR} {k2 : β → G → SR} (t : TR κ g τ τ2) (h : RR R κ g q q2) (n : ∀ κ' g' s' d v, Evo κ g κ' g' → VS κ' g' s' → TR κ' g' τ τ2 → R κ' g' d v → RS2 κ' g' (k d g') (k2 v s')) : RS2 κ g (q.st τ k) (q2.st τ2 k2) := by
  cases q2 with
  | ok v s' =>
    obtain ⟨κ2, d, g2, rfl, h2, h3, h4⟩ := h
    exact (n κ2 g2 s' d v h2 h3 (t.mono h2) h4).evo h2
  | exc x s' =>
    obtain ⟨κ2, d, g2, rfl, h2, h3, h4⟩ := h
    exact ⟨κ2, d, τ, g2, rfl, h2, h3, t.mono h2, h4⟩
  | bad => trivial
theorem RS2.nx (V : VS κ g s) (t : TR κ g τ τ2) : RS2 κ g (.nx τ g) (.nx τ2 s) := ⟨κ, τ, g, rfl, Evo.refl, V, t⟩
theorem RS2.rt {d v : D} (V : VS κ g s) (t : Den κ g d v) : RS2 κ g (.rt d g) (.rt v s) := ⟨κ, d, g, rfl, Evo.refl, V, t⟩
end
end RL
namespace RL
open PySem L2
def vit (s : G) : D → Option (List D)
  | .tup l => some l
  | .kl l => some l
  | .plst l => some l
  | .ref i => match s[i]? with
    | some (.lst l) => some l
    | _ => none
  | _ => none
def vls (s : G) : D → Option (List D)
  | .plst l => some l
  | .ref i => match s[i]? with
    | some (.lst l) => some l
    | _ => none
  | _ => none
def vdc (s : G) : D → Option (List (D × D))
  | .pdct l => some l
  | .ref i => match s[i]? with
    | some (.dct _ l) => some l
    | _ => none
  | _ => none
def vob (s : G) : D → Option (Str × List (Str × D))
  | .pobj c l => some (c, l)
  | .ref i => match s[i]? with
    | some (.ins c l) => some (c, l)
    | _ => none
  | _ => none
section
variable {κ : List Nat} {g s : G} {x y : D}
theorem vls_den (V : VS κ g s) (h : Den κ g x y) {m : List D} (e : vls s y = some m) : ∃ n l, x = .ref n ∧ g[n]? = some (.lst l) ∧ Dens κ g l m := by
  unfold vls at e
  split at e
  · cases e
    cases h with
    | lst h1 h2 h3 => exact ⟨_, _, rfl, h2, h3⟩
  · split at e
    · rename_i l hi
      cases e
      cases h with
      | cell hk =>
        obtain ⟨o1, h1, h2⟩ := V.ix hk hi
        cases h2 with
        | lst h3 => exact ⟨_, _, rfl, h1, h3⟩
    · cases e
  · cases e
theorem vit_den (V : VS κ g s) (h : Den κ g x y) {m : List D} (e : vit s y = some m) : ∃ l, items g x = some l ∧ Dens κ g l m := by
  unfold vit at e
  split at e
  · cases e
    cases h with
    | tup h => exact ⟨_, rfl, h⟩
  · cases e
    cases h with
    | kl h => exact ⟨_, rfl, h⟩
  · cases e
    cases h with
    | lst h1 h2 h3 => exact ⟨_, items_at h2, h3⟩
  · split at e
    · rename_i l hi
      cases e
      cases h with
      | cell hk =>
        obtain ⟨o1, h1, h2⟩ := V.ix hk hi
        cases h2 with
        | lst h3 => exact ⟨_, items_at h1, h3⟩
    · cases e
  · cases e
theorem vdc_den (V : VS κ g s) (h : Den κ g x y) {m : List (D × D)} (e : vdc s y = some m) : ∃ n k l, x = .ref n ∧ g[n]? = some (.dct k l) ∧ Denp κ g l m := by
  unfold vdc at e
  split at e
  · cases e
    cases h with
    | dct h1 h2 h3 => exact ⟨_, _, _, rfl, h2, h3⟩
  · split at e
    · rename_i l hi
      cases e
      cases h with
      | cell hk =>
        obtain ⟨o1, h1, h2⟩ := V.ix hk hi
        cases h2 with
        | dct h3 => exact ⟨_, _, _, rfl, h1, h3⟩
    · cases e
  · cases e
theorem vob_den (V : VS κ g s) (h : Den κ g x y) {c : Str} {m : List (Str × D)} (e : vob s y = some (c, m)) : ∃ n l, x = .ref n ∧ g[n]? = some (.ins c l) ∧ Denf κ g l m := by
  unfold vob at e
  split at e
  · cases e
    cases h with
    | obj h1 h2 h3 => exact ⟨_, _, rfl, h2, h3⟩
  · split at e
    · rename_i l hi
      cases e
      cases h with
      | cell hk =>
        obtain ⟨o1, h1, h2⟩ := V.ix hk hi
        cases h2 with
        | ins h3 => exact ⟨_, _, rfl, h1, h3⟩
    · cases e
  · cases e
theorem items_dct {n : Nat} {k : Bool} {l : List (D × D)} (h : g[n]? = some (.dct k l)) : items g (.ref n) = none := items_none_dct h
theorem Denp.get (j : D) (hj : j.fl = true) : ∀ {l m : List (D × D)}, Denp κ g l m → (∀ v, dget m j = some v → ∃ d, dget l j = some d ∧ Den κ g d v) ∧ (dget m j = none → dget l j = none)
  | _, _, .nil => ⟨nofun, fun _ => rfl⟩
  | _, _, .cons (k := a) (j := b) (d := d) (e := e) hk hd t => by
    obtain ⟨i1, i2⟩ := Denp.get j hj t
    unfold dget
    by_cases c : b = j
    · have c' : a = j := by
        subst c
        exact hk.flr hj
      rw [if_pos c, if_pos c']
      exact ⟨fun v h => ⟨_, rfl, by cases h; exact hd⟩, nofun⟩
    · have c' : a ≠ j := fun z => c (by
        subst z
        exact (hk.fll hj).symm)
      rw [if_neg c, if_neg c']
      exact ⟨i1, i2⟩
theorem Denp.put (j : D) (hj : j.fl = true) {d v : D} (q : Den κ g d v) : ∀ {l m : List (D × D)}, Denp κ g l m → Denp κ g (dput l j d) (dput m j v)
  | _, _, .nil => .cons (Den.rfl' hj) q .nil
  | _, _, .cons (k := a) (j := b) (d := d') (e := e') hk hd t => by
    unfold dput
    by_cases c : b = j
    · have c' : a = j := by
        subst c
        exact hk.flr hj
      rw [if_pos c, if_pos c']
      exact .cons (Den.rfl' hj) q t
    · have c' : a ≠ j := fun z => c (by
        subst z
        exact (hk.fll hj).symm)
      rw [if_neg c, if_neg c']
      exact .cons hk hd (Denp.put j hj q t)
theorem sk_den {a b j : D} (h : Den κ g a b) (e : sk b j = true) : sk a j = true := by
  cases h with
  | str _ => exact e
  | tup _ =>
    cases j with
    | tup _ => rfl
    | _ => simp [sk] at e
  | _ => cases j <;> simp [sk] at e
theorem Denp.sks (j : D) : ∀ {l m : List (D × D)}, Denp κ g l m → (∀ p ∈ m, sk p.1 j = true) → ∀ p ∈ l, sk p.1 j = true
  | _, _, .nil, _, p, hp => by simp at hp
  | _, _, .cons hk hd t, h, p, hp => by
    rcases List.mem_cons.mp hp with rfl | hp
    · exact sk_den hk (h _ List.mem_cons_self)
    · exact Denp.sks j t (fun q hq => h q (List.mem_cons_of_mem _ hq)) p hp
theorem Denp.kOk {l m : List (D × D)} {x j : D} (h : Denp κ g l m) (q : Den κ g x j) (k : RL.kOk m j) : x = j ∧ j.fl = true ∧ RL.kOk l x := by
  have hj := keyb_fl k.1
  have e := q.flr hj
  subst e
  exact ⟨rfl, hj, k.1, h.sks _ k.2⟩
theorem Denp.keys : ∀ {l m : List (D × D)}, Denp κ g l m → Dens κ g (l.map (·.1)) (m.map (·.1))
  | _, _, .nil => .nil
  | _, _, .cons h _ t => .cons h t.keys
theorem Denp.vals : ∀ {l m : List (D × D)}, Denp κ g l m → Dens κ g (l.map (·.2)) (m.map (·.2))
  | _, _, .nil => .nil
  | _, _, .cons _ h t => .cons h t.vals
theorem Denp.allS : ∀ {l m : List (D × D)}, Denp κ g l m → RL.allS m = true → RL.allS l = true
  | _, _, .nil, _ => rfl
  | _, _, .cons (k := a) (j := b) h _ t, e => by
    obtain ⟨e1, e2⟩ := (Bool.and_eq_true _ _).mp (show (_ && _) = true from e)
    show (_ && _) = true
    refine (Bool.and_eq_true _ _).mpr ⟨?_, t.allS e2⟩
    cases h with
    | str _ => rfl
    | _ => cases e1
theorem Denp.upd : ∀ {b b' : List (D × D)}, Denp κ g b b' → RL.allS b' = true → ∀ {l m : List (D × D)}, Denp κ g l m → Denp κ g (dupd l b) (dupd m b')
  | _, _, .nil, _, _, _, h => h
  | _, _, .cons (k := a) (j := c) hk hd t, e, l, m, h => by
    obtain ⟨e1, e2⟩ := (Bool.and_eq_true _ _).mp (show (_ && _) = true from e)
    cases hk with
    | str x =>
      show Denp κ g (dupd (dput l (.str x) _) _) (dupd (dput m (.str x) _) _)
      exact t.upd e2 (h.put _ rfl hd)
    | _ => cases e1
theorem Denf.look (f : Str) : ∀ {l m : List (Str × D)}, Denf κ g l m → (∀ v, m.lookup f = some v → ∃ d, l.lookup f = some d ∧ Den κ g d v) ∧ (m.lookup f = none → l.lookup f = none)
  | _, _, .nil => ⟨nofun, fun _ => rfl⟩
  | _, _, .cons (f := a) hd t => by
    obtain ⟨i1, i2⟩ := Denf.look f t
    by_cases c : f = a
    · subst c
      simp only [List.lookup, beq_self_eq_true]
      exact ⟨fun v h => ⟨_, rfl, by cases h; exact hd⟩, nofun⟩
    · have c' : (f == a) = false := by simpa using c
      simp only [List.lookup, c']
      exact ⟨i1, i2⟩
theorem Denf.put (f : Str) {d v : D} (q : Den κ g d v) : ∀ {l m : List (Str × D)}, Denf κ g l m → Denf κ g (setF f d l) (setF f v m)
  | _, _, .nil => .cons q .nil
  | _, _, .cons (f := a) hd t => by
    unfold setF
    by_cases c : a = f
    · rw [if_pos c, if_pos c]
      exact .cons q t
    · rw [if_neg c, if_neg c]
      exact .cons hd (t.put f q)
theorem den_non (h : Den κ g x y) : x = .non ↔ y = .non := by
  cases h <;> simp
theorem Dens.atI {l m : List D} (h : Dens κ g l m) {i : Int} {v : D} (e : L2.atI m i = some v) : ∃ d, L2.atI l i = some d ∧ Den κ g d v := by
  have hl := h.length
  obtain ⟨j, h1, h2⟩ := RL.atI_map (xs := m) (ys := l) hl.symm e
  obtain ⟨d, h3, h4⟩ := h.get h1
  exact ⟨d, h2.trans h3, h4⟩
end
def vSubs : D → D → M D := fun x k s => match vit s x with
  | some l => (match k with
    | .int i => (match atI l i with
      | some d => .ok d s
      | none => .bad)
    | _ => .bad)
  | none => match vdc s x with
    | some kvs => ck (kOk kvs k) (match dget kvs k with
      | some d => .ok d s
      | none => .bad)
    | none => .bad
theorem f2_subs : F2 fSubs vSubs := by
  intro κ g s x y x' y' V hx hy
  unfold vSubs
  split
  · rename_i m hm
    obtain ⟨l, h1, h2⟩ := vit_den V hx hm
    split
    · rename_i i
      cases hy
      unfold fSubs
      rw [h1]
      dsimp only
      cases hd : L2.atI m i with
      | some d =>
        obtain ⟨d1, h3, h4⟩ := h2.atI hd
        rw [h3]
        exact .ok V h4
      | none => exact .bad
    · exact .bad
  · split
    · rename_i m hm
      obtain ⟨n, k, l, rfl, h1, h2⟩ := vdc_den V hx hm
      unfold fSubs
      rw [items_dct h1]
      dsimp only
      rw [h1]
      refine .ck fun c => ?_
      obtain ⟨rfl, hf, c1⟩ := h2.kOk hy c
      refine ⟨c1, ?_⟩
      obtain ⟨i1, i2⟩ := h2.get y hf
      cases hd : dget m y with
      | some d =>
        obtain ⟨d1, h3, h4⟩ := i1 _ hd
        rw [h3]
        exact .ok V h4
      | none => exact .bad
    · exact .bad
def vIn : D → D → M D := fun x y s => match vit s y with
  | some l => ck (gr 20 x = true ∧ l.all (gr 20) = true ∧ (l.all fun z => cm z x) = true) (.ok (.bl (decide (x ∈ l))) s)
  | none => match vdc s y with
    | some kvs => ck (kOk kvs x) (.ok (.bl (dget kvs x).isSome) s)
    | none => .bad
theorem f2_in : F2 fIn vIn := by
  intro κ g s x y x' y' V hx hy
  unfold vIn
  split
  · rename_i m hm
    obtain ⟨l, h1, h2⟩ := vit_den V hy hm
    unfold fIn
    rw [h1]
    refine .ck fun ⟨c1, c2, c3⟩ => ?_
    have e1 := hx.flr (gr_fl _ _ c1)
    have e2 := h2.flr (grs_fl c2)
    subst e1 e2
    exact ⟨⟨c1, c2, c3⟩, .ok V (.bl _)⟩
  · split
    · rename_i m hm
      obtain ⟨n, k, l, rfl, h1, h2⟩ := vdc_den V hy hm
      unfold fIn
      rw [items_dct h1]
      dsimp only
      rw [h1]
      refine .ck fun c => ?_
      obtain ⟨rfl, hf, c1⟩ := h2.kOk hx c
      refine ⟨c1, ?_⟩
      obtain ⟨i1, i2⟩ := h2.get x hf
      have e : (dget l x).isSome = (dget m x).isSome := by
        cases h : dget m x with
        | none => rw [i2 h]
        | some v =>
          obtain ⟨d, h3, _⟩ := i1 _ h
          rw [h3]
          rfl
      rw [e]
      exact .ok V (.bl _)
    · exact .bad
def vNot : D → D → M D := fun x y s => match vIn x y s with
  | .ok (.bl b) s => .ok (.bl (!b)) s
  | _ => .bad
def vEq : D → D → M D := fun x y s => match vls s x, vls s y with
  | some l, some l' => ck (l.all (gr 20) = true ∧ l'.all (gr 20) = true ∧ cms l l' = true) (.ok (.bl (decide (l = l'))) s)
  | _, _ => ck (gr 20 x = true ∧ gr 20 y = true ∧ cm x y = true) (.ok (.bl (decide (x = y))) s)
def vNe : D → D → M D := fun x y s => match vEq x y s with
  | .ok (.bl b) s => .ok (.bl (!b)) s
  | _ => .bad
theorem f2_negate {f f2 : D → D → M D} (h : F2 f f2) : F2 (fun x y g => match f x y g with
    | .ok (.bl b) g => .ok (.bl (!b)) g
    | _ => .bad) (fun x y g => match f2 x y g with
    | .ok (.bl b) g => .ok (.bl (!b)) g
    | _ => .bad) := by
  intro κ g s x y x' y' V hx hy
  have := h κ g s x y x' y' V hx hy
  dsimp only
  generalize f2 x' y' s = r at this
  cases r with
  | ok v s' =>
    obtain ⟨κ', d, g', h1, h2, h3, h4⟩ := this
    rw [h1]
    cases h4 with
    | bl b => exact .ok2 h2 h3 (.bl _)
    | _ => exact .bad
  | exc _ _ => exact .bad
  | bad => exact .bad
theorem f2_not : F2 fNot vNot := f2_negate f2_in
theorem f2_eq : F2 fEq vEq := by
  intro κ g s x y x' y' V hx hy
  unfold vEq
  split
  · rename_i m m' hm hm'
    obtain ⟨n, l, rfl, h1, h2⟩ := vls_den V hx hm
    obtain ⟨n', l', rfl, h1', h2'⟩ := vls_den V hy hm'
    unfold fEq
    dsimp only
    rw [items_at h1, items_at h1']
    dsimp only
    refine .ck fun ⟨c1, c2, c3⟩ => ?_
    have e1 := h2.flr (grs_fl c1)
    have e2 := h2'.flr (grs_fl c2)
    subst e1 e2
    exact ⟨⟨c1, c2, c3⟩, .ok V (.bl _)⟩
  · by_cases c : gr 20 x' = true ∧ gr 20 y' = true ∧ cm x' y' = true
    · rw [ck_pos c]
      obtain ⟨c1, c2, c3⟩ := c
      have e1 := hx.flr (gr_fl _ _ c1)
      have e2 := hy.flr (gr_fl _ _ c2)
      subst e1 e2
      have : fEq x y g = ck (gr 20 x = true ∧ gr 20 y = true ∧ cm x y = true) (.ok (.bl (decide (x = y))) g) := by
        unfold fEq
        split
        · simp [gr] at c1
        · rfl
      rw [this, ck_pos ⟨c1, c2, c3⟩]
      exact .ok V (.bl _)
    · unfold ck
      rw [if_neg c]
      exact .bad
theorem f2_ne : F2 fNe vNe := f2_negate f2_eq
theorem f2_ii {C : Int → Int → Prop} [∀ i j, Decidable (C i j)] {f : Int → Int → D} (h : ∀ i j, (f i j).fl = true) : F2 (fII C f) (fII C f) := by
  intro κ g s x y x' y' V hx hy
  cases hx with
  | int i =>
    cases hy with
    | int j => exact .ck fun c => ⟨c, .ok V (Den.rfl' (h _ _))⟩
    | _ => exact .bad
  | _ => exact .bad
def vPlus : D → D → M D := fun x y s => match x, y with
  | .int i, .int j => .ok (.int (i + j)) s
  | .tup l, .tup l' => ck (0 < l.length ∧ 0 < l'.length ∧ l.length + l'.length ≤ 100000) (.ok (.tup (l ++ l')) s)
  | x, y => match vls s x, vls s y with
    | some l, some l' => ck (l.length + l'.length ≤ 100000) (.ok (.plst (l ++ l')) s)
    | _, _ => .bad
theorem f2_plus : F2 fPlus vPlus := by
  intro κ g s x y x' y' V hx hy
  unfold vPlus
  split
  · cases hx
    cases hy
    exact .ok V (.int _)
  · cases hx with
    | tup hx =>
      cases hy with
      | tup hy =>
        unfold fPlus
        dsimp only
        rw [hx.length, hy.length]
        exact .ck fun c => ⟨c, .ok V (.tup (hx.app hy))⟩
  · split
    · rename_i m m' hm hm'
      obtain ⟨n, l, rfl, h1, h2⟩ := vls_den V hx hm
      obtain ⟨n', l', rfl, h1', h2'⟩ := vls_den V hy hm'
      unfold fPlus
      dsimp only
      rw [h1, h1']
      dsimp only
      rw [h2.length, h2'.length]
      refine .ck fun c => ⟨c, ?_⟩
      obtain ⟨e, V', n1, n2⟩ := V.new (.lst (l ++ l'))
      exact .ok2 e V' (.lst n1 n2 ((h2.mono e).app (h2'.mono e)))
    · exact .bad
theorem f1_notV : F1 fNotV fNotV := by
  intro κ g s x y V h
  cases h with
  | bl b => exact .ok V (.bl _)
  | _ => exact .bad
theorem f1_isN {b : Bool} : F1 (fIsN b) (fIsN b) := by
  intro κ g s x y V h
  unfold fIsN
  rw [decide_eq_decide.mpr (den_non h)]
  exact .ok V (Den.rfl' rfl)
def visIns (cs : List Str) (x : D) (s : G) : Prop := match vob s x with
  | some (c, _) => c ∈ cs
  | none => False
instance (cs : List Str) (x : D) (s : G) : Decidable (visIns cs x s) := by
  unfold visIns
  split <;> infer_instance
theorem isIns_of {κ : List Nat} {g s : G} {x y : D} {cs : List Str} (V : VS κ g s) (h : Den κ g x y) (e : visIns cs y s) : isIns cs x g := by
  unfold visIns at e
  split at e
  · rename_i c l hc
    obtain ⟨n, l', rfl, h1, _⟩ := vob_den V h hc
    unfold isIns
    dsimp only
    rw [h1]
    exact e
  · exact e.elim
def vFld (cs : List Str) (f : Str) : D → M D := fun x s => match vob s x with
  | some (c, fs) => ck (c ∈ cs) (optR (fs.lookup f) s)
  | none => .bad
theorem f1_fld {cs : List Str} {f : Str} : F1 (fFld cs f) (vFld cs f) := by
  intro κ g s x y V h
  unfold vFld
  split
  · rename_i c l hc
    obtain ⟨n, l', rfl, h1, h2⟩ := vob_den V h hc
    unfold fFld
    dsimp only
    rw [h1]
    refine .ck fun c => ⟨c, ?_⟩
    obtain ⟨i1, i2⟩ := h2.look f
    unfold optR
    cases e : l.lookup f with
    | none => exact .bad
    | some v =>
      obtain ⟨d, h3, h4⟩ := i1 _ e
      rw [h3]
      exact .ok V h4
  · exact .bad
def vty (s : G) : D → Option Ty
  | .non => some .non
  | .bl _ => some .bl
  | .int _ => some .int
  | .str _ => some .str
  | .tup _ => some .tup
  | .kl _ => some .lst
  | .plst _ => some .lst
  | .pdct _ => some .dct
  | .pobj _ _ => none
  | .ref n => match s[n]? with
    | some (.lst _) => some .lst
    | some (.dct _ _) => some .dct
    | _ => none
theorem vty_den {κ : List Nat} {g s : G} {x y : D} (V : VS κ g s) (h : Den κ g x y) {t : Ty} (e : vty s y = some t) : tyD g x = some t := by
  cases h with
  | non | bl _ | int _ | str _ | tup _ | kl _ => exact e
  | lst h1 h2 _ => rw [ty_lst h2]; exact e
  | dct h1 h2 _ => rw [ty_dct h2]; exact e
  | obj _ _ _ => cases e
  | cell hk =>
    unfold vty at e
    dsimp only at e
    split at e
    · rename_i l hi
      obtain ⟨o1, h1, h2⟩ := V.ix hk hi
      cases h2
      rw [ty_lst h1]
      exact e
    · rename_i l hi
      obtain ⟨o1, h1, h2⟩ := V.ix hk hi
      cases h2
      rw [ty_dct h1]
      exact e
    · cases e
def vIsi (T : Ty) : D → M D := fun x s => match vty s x with
  | some t => ck (t ≠ .dct ∧ T ≠ .non) (.ok (.bl (isaT t T)) s)
  | none => .bad
theorem f1_isi {T : Ty} : F1 (fIsi T) (vIsi T) := by
  intro κ g s x y V h
  unfold vIsi
  split
  · rename_i t e
    unfold fIsi
    rw [vty_den V h e]
    exact .ck fun c => ⟨c, .ok V (.bl _)⟩
  · exact .bad
theorem fr_tup : FR fTup fTup := by
  intro κ g s l m V h
  unfold fTup
  rw [h.length]
  exact .ck fun c => ⟨c, .ok V (.tup h)⟩
def vLst : List D → M D := fun l s => ck (l.length ≤ 1000) (.ok (.plst l) s)
theorem fr_lst : FR fLst vLst := by
  intro κ g s l m V h
  unfold vLst fLst
  rw [h.length]
  refine .ck fun c => ⟨c, ?_⟩
  obtain ⟨e, V', n1, n2⟩ := V.new (.lst l)
  exact .ok2 e V' (.lst n1 n2 (h.mono e))
theorem fr_lstC : FR fLst fLst := by
  intro κ g s l m V h
  unfold fLst
  rw [h.length]
  refine .ck fun c => ⟨c, ?_⟩
  obtain ⟨e, V', n1⟩ := V.cnt (.lst h)
  exact .ok2 e V' (.cell n1)
/-- what takes one value -/
theorem fr_one {f f2 : List D → M D} (h : F1 (fun x => f [x]) (fun x => f2 [x])) (hb : ∀ m s, m.length ≠ 1 → f2 m s = .bad) : FR f f2 := by
  intro κ g s l m V q
  cases q with
  | nil => rw [hb _ _ (by simp)]; exact .bad
  | cons q1 q2 =>
    cases q2 with
    | nil => exact h κ g s _ _ V q1
    | cons _ _ => rw [hb _ _ (by simp)]; exact .bad
def vLen : List D → M D := fun l s => match l with
  | [x] => (match vit s x with
    | some l => .ok (.int (l.length : Nat)) s
    | none => match vdc s x with
      | some _ => .bad
      | none => .bad)
  | _ => .bad
theorem fr_len : FR fLen vLen := fr_one (by
  intro κ g s x y V h
  unfold vLen
  dsimp only
  split
  · rename_i m hm
    obtain ⟨l, h1, h2⟩ := vit_den V h hm
    unfold fLen
    dsimp only
    rw [h1]
    dsimp only
    rw [h2.length]
    exact .ok V (.int _)
  · split <;> exact .bad) fun m s h => by
  unfold vLen
  cases m with
  | nil => rfl
  | cons a m =>
    cases m with
    | nil => simp at h
    | cons _ _ => rfl
theorem fr_int : FR fInt fInt := fr_one (by
  intro κ g s x y V h
  cases h with
  | int i => exact .ok V (.int _)
  | bl b => exact .ok V (.int _)
  | _ => exact .bad) fun m s h => by
  unfold fInt
  cases m with
  | nil => rfl
  | cons a m =>
    cases m with
    | nil => simp at h
    | cons _ _ => cases a <;> rfl
def vTuple : List D → M D := fun l s => match l with
  | [x] => (match vit s x with
    | some l => .ok (.tup l) s
    | none => .bad)
  | _ => .bad
theorem fr_tuple : FR fTuple vTuple := fr_one (by
  intro κ g s x y V h
  unfold vTuple
  dsimp only
  split
  · rename_i m hm
    obtain ⟨l, h1, h2⟩ := vit_den V h hm
    unfold fTuple
    dsimp only
    rw [h1]
    exact .ok V (.tup h2)
  · exact .bad) fun m s h => by
  unfold vTuple
  cases m with
  | nil => rfl
  | cons a m =>
    cases m with
    | nil => simp at h
    | cons _ _ => rfl
def vList : List D → M D := fun l s => match l with
  | [x] => (match vit s x with
    | some l => .ok (.plst l) s
    | none => match vdc s x with
      | some kvs => .ok (.plst (kvs.map (·.1))) s
      | none => .bad)
  | _ => .bad
theorem fr_list : FR fList vList := fr_one (by
  intro κ g s x y V h
  unfold vList
  dsimp only
  split
  · rename_i m hm
    obtain ⟨l, h1, h2⟩ := vit_den V h hm
    unfold fList
    dsimp only
    rw [h1]
    obtain ⟨e, V', n1, n2⟩ := V.new (.lst l)
    exact .ok2 e V' (.lst n1 n2 (h2.mono e))
  · split
    · rename_i m hm
      obtain ⟨n, k, l, rfl, h1, h2⟩ := vdc_den V h hm
      unfold fList
      dsimp only
      rw [items_dct h1]
      dsimp only
      rw [h1]
      obtain ⟨e, V', n1, n2⟩ := V.new (.lst (l.map (·.1)))
      exact .ok2 e V' (.lst n1 n2 (h2.keys.mono e))
    · exact .bad) fun m s h => by
  unfold vList
  cases m with
  | nil => rfl
  | cons a m =>
    cases m with
    | nil => simp at h
    | cons _ _ => rfl
theorem bools_den {κ : List Nat} {g : G} : ∀ {l m : List D} {bs : List Bool}, Dens κ g l m → bools m = some bs → bools l = some bs
  | _, _, _, .nil, e => e
  | _, _, bs, .cons (d := d) (e := v) h t, e => by
    cases h with
    | bl b =>
      unfold bools at e ⊢
      obtain ⟨bs', h1, rfl⟩ := Option.map_eq_some_iff.mp e
      rw [bools_den t h1]
      rfl
    | _ => unfold bools at e; cases e
def vAny : List D → M D := fun l s => match l with
  | [x] => (match vls s x with
    | some l => (match bools l with
      | some bs => .ok (.bl (bs.any id)) s
      | none => .bad)
    | none => .bad)
  | _ => .bad
theorem fr_any : FR fAny vAny := fr_one (by
  intro κ g s x y V h
  unfold vAny
  dsimp only
  split
  · rename_i m hm
    obtain ⟨n, l, rfl, h1, h2⟩ := vls_den V h hm
    unfold fAny
    dsimp only
    rw [items_at h1]
    dsimp only
    cases hb : bools m with
    | some bs =>
      rw [bools_den h2 hb]
      exact .ok V (.bl _)
    | none => exact .bad
  · exact .bad) fun m s h => by
  unfold vAny
  cases m with
  | nil => rfl
  | cons a m =>
    cases m with
    | nil => simp at h
    | cons _ _ => rfl
theorem fb_app : FB fApp fApp := by
  intro κ g s x y l m V hx hl
  generalize hr : fApp x l g = r
  unfold fApp
  split
  · rename_i i
    split
    · rename_i ys hi
      cases hx with
      | cell hk =>
        obtain ⟨o1, h1, h2⟩ := V.ix hk hi
        cases h2 with
        | lst h3 =>
          split
          · cases hl with
            | cons q qn =>
              cases qn
              rw [← hr]
              unfold fApp
              dsimp only
              rw [h1]
              dsimp only
              rw [h3.length]
              refine .ck fun c => ⟨c, ?_⟩
              obtain ⟨e, V'⟩ := V.wr hk h1 (fun _ z => by cases z) (.lst (h3.app (.one q)))
              exact .ok2 e V' .non
          · exact .bad
    · exact .bad
  · exact .bad
theorem Denp.getD {κ : List Nat} {g : G} {l m : List (D × D)} (h : Denp κ g l m) {j : D} (hj : j.fl = true) {e e' : D} (q : Den κ g e e') : Den κ g ((dget l j).getD e) ((dget m j).getD e') := by
  obtain ⟨i1, i2⟩ := h.get j hj
  cases c : dget m j with
  | none => rw [i2 c]; exact q
  | some v =>
    obtain ⟨d, h1, h2⟩ := i1 _ c
    rw [h1]
    exact h2
def vSplit : D → List D → M D := fun x l s => match x, l with
  | .str a, [.str b] => ck ((b.length == 0) = false ∧ a.length ≤ 1000 ∧ (Txt.split a b).all sOk = true) (.ok (.plst ((Txt.split a b).map .str)) s)
  | _, _ => .bad
theorem fls_strs : ∀ l : List Str, D.fls (l.map D.str) = true
  | [] => rfl
  | a :: l => by rw [List.map_cons, D.fls, fls_strs l]; rfl
theorem fb_split : FB fSplit vSplit := by
  intro κ g s x y l m V hx hl
  unfold vSplit
  split
  · cases hx
    cases hl with
    | cons q qn =>
      cases qn
      cases q
      unfold fSplit
      refine .ck fun c => ⟨c, ?_⟩
      obtain ⟨e, V', n1, n2⟩ := V.new (.lst ((Txt.split _ _).map .str))
      exact .ok2 e V' (.lst n1 n2 (Dens.rfl' (fls_strs _)))
  · exact .bad
end RL
namespace RL
open PySem L2
section
variable {m m2 n n2 o o2 : ME} {a a2 b b2 : MA} {c c2 c' c2' : MT} {p p2 q q2 : MP} {f f2 : List D → M D} {h h2 : D → M D} {w w2 : D → D → M D} {u u2 : D → List D → M D}
theorem w_v {i : Nat} : VE (mV i) (mV i) := by
  intro κ g s τ τ2 V t
  generalize hr : mV i τ g = r
  unfold mV
  split
  · rename_i d hd
    obtain ⟨d1, h1, h2⟩ := t.at_ i d hd
    rw [← hr]
    unfold mV
    rw [h1]
    exact .ok V h2
  · exact .bad
theorem w_c {d : D} (h : d.fl = true := by rfl) : VE (mC d) (mC d) := fun κ g s τ τ2 V t => .ok V (Den.rfl' h)
theorem w_nil : VA mNil mNil := fun κ g s τ τ2 V t => .ok V .nil
theorem w_cons (h : VE m m2) (k : VA a a2) : VA (mCons m a) (mCons m2 a2) := fun κ g s τ τ2 V t =>
  (h κ g s τ τ2 V t).thn fun κ1 g1 s1 d v e1 V1 q1 => (k κ1 g1 s1 τ τ2 V1 (t.mono e1)).thn fun κ2 g2 s2 l l' e2 V2 q2 => .ok V2 (.cons (q1.mono e2) q2)
theorem w_op (hw : F2 w w2) (h : VE m m2) (k : VE n n2) : VE (mOp w m n) (mOp w2 m2 n2) := fun κ g s τ τ2 V t =>
  (h κ g s τ τ2 V t).thn fun κ1 g1 s1 d v e1 V1 q1 => (k κ1 g1 s1 τ τ2 V1 (t.mono e1)).thn fun κ2 g2 s2 l l' e2 V2 q2 => hw κ2 g2 s2 _ _ _ _ V2 (q1.mono e2) q2
theorem w_un (hw : F1 h h2) (k : VE m m2) : VE (mUn h m) (mUn h2 m2) := fun κ g s τ τ2 V t =>
  (k κ g s τ τ2 V t).thn fun κ1 g1 s1 d v e1 V1 q1 => hw κ1 g1 s1 _ _ V1 q1
theorem w_una (hw : FR f f2) (k : VA a a2) : VE (mUnA f a) (mUnA f2 a2) := fun κ g s τ τ2 V t =>
  (k κ g s τ τ2 V t).thn fun κ1 g1 s1 d v e1 V1 q1 => hw κ1 g1 s1 _ _ V1 q1
theorem w_asB {κ : List Nat} {g s : G} {d v : D} (V : VS κ g s) (q : Den κ g d v) : RR rEq κ g (asB d g) (asB v s) := by
  cases q with
  | bl b => exact .ok V rfl
  | _ => exact .bad
theorem w_test (k : VE m m2) : VT (mTest m) (mTest m2) := fun κ g s τ τ2 V t => (k κ g s τ τ2 V t).thn fun κ1 g1 s1 d v e1 V1 q1 => w_asB V1 q1
theorem w_andT (k : VT c c2) (k' : VT c' c2') : VT (mAndT c c') (mAndT c2 c2') := fun κ g s τ τ2 V t => (k κ g s τ τ2 V t).thn fun κ1 g1 s1 d v e1 V1 q1 => by
  cases (show d = v from q1)
  cases d with
  | true => exact k' κ1 g1 s1 τ τ2 V1 (t.mono e1)
  | false => exact .ok V1 rfl
theorem w_orT (k : VT c c2) (k' : VT c' c2') : VT (mOrT c c') (mOrT c2 c2') := fun κ g s τ τ2 V t => (k κ g s τ τ2 V t).thn fun κ1 g1 s1 d v e1 V1 q1 => by
  cases (show d = v from q1)
  cases d with
  | false => exact k' κ1 g1 s1 τ τ2 V1 (t.mono e1)
  | true => exact .ok V1 rfl
theorem w_notT (k : VT c c2) : VT (mNotT c) (mNotT c2) := fun κ g s τ τ2 V t => (k κ g s τ τ2 V t).thn fun κ1 g1 s1 d v e1 V1 q1 => .ok V1 (congrArg (fun b : Bool => !b) (show d = v from q1))
theorem w_and (k : VE m m2) (k' : VE n n2) : VE (mAnd m n) (mAnd m2 n2) := fun κ g s τ τ2 V t => (k κ g s τ τ2 V t).thn fun κ1 g1 s1 d v e1 V1 q1 => by
  cases q1 with
  | bl b =>
    cases b with
    | true => exact k' κ1 g1 s1 τ τ2 V1 (t.mono e1)
    | false => exact .ok V1 (.bl _)
  | _ => exact .bad
theorem w_dict0C : VE mDict0 mDict0 := fun κ g s τ τ2 V t => by
  obtain ⟨e, V', n1⟩ := V.cnt (.dct (k := false) .nil)
  exact .ok2 e V' (.cell n1)
theorem w_pno : VP pNo pNo := fun κ g s τ τ2 V t => .ok V rfl
theorem w_pint (k : VE m m2) : VP (pInt m) (pInt m2) := fun κ g s τ τ2 V t => (k κ g s τ τ2 V t).thn fun κ1 g1 s1 d v e1 V1 q1 => by
  cases q1 with
  | int i => exact .ok V1 rfl
  | _ => exact .bad
def vSl (a : ME) (b c : MP) : ME := fun τ g => (a τ g).bind fun x g1 => (b τ g1).bind fun lo g2 => (c τ g2).bind fun hi g3 => match vls g3 x with
  | some l => .ok (.plst (cutD l lo hi)) g3
  | none => .bad
theorem w_sl (k : VE m m2) (kp : VP p p2) (kq : VP q q2) : VE (mSl m p q) (vSl m2 p2 q2) := fun κ g s τ τ2 V t => (k κ g s τ τ2 V t).thn fun κ1 g1 s1 x y e1 V1 q1 =>
  (kp κ1 g1 s1 τ τ2 V1 (t.mono e1)).thn fun κ2 g2 s2 lo lo' e2 V2 q2 => (kq κ2 g2 s2 τ τ2 V2 (t.mono (e1.trans e2))).thn fun κ3 g3 s3 hi hi' e3 V3 q3 => by
    cases (show lo = lo' from q2)
    cases (show hi = hi' from q3)
    have q1 := (q1.mono e2).mono e3
    split
    · rename_i l hl
      obtain ⟨n, l1, rfl, h1, h2⟩ := vls_den V3 q1 hl
      unfold fSl
      dsimp only
      rw [items_at h1]
      dsimp only
      obtain ⟨e, V', n1, n2⟩ := V3.new (.lst (cutD l1 lo hi))
      have hc : Dens κ3 g3 (cutD l1 lo hi) (cutD l lo hi) := by
        unfold cutD
        rw [h2.length]
        exact (h2.drop _).take _
      exact .ok2 e V' (.lst n1 n2 (hc.mono e))
    · exact .bad
def vBM (T : Ty) (f : D → List D → M D) (o : ME) (a : MA) : ME := fun τ g => (o τ g).bind fun x g1 => ck (vty g1 x = some T) ((a τ g1).bind fun l g2 => f x l g2)
theorem w_bm {T : Ty} (hu : FB u u2) (k : VE o o2) (ka : VA a a2) : VE (mBM T u o a) (vBM T u2 o2 a2) := fun κ g s τ τ2 V t => (k κ g s τ τ2 V t).thn fun κ1 g1 s1 x y e1 V1 q1 =>
  .ck fun c => ⟨vty_den V1 q1 c, (ka κ1 g1 s1 τ τ2 V1 (t.mono e1)).thn fun κ2 g2 s2 l l' e2 V2 q2 => hu κ2 g2 s2 _ _ _ _ V2 (q1.mono e2) q2⟩
theorem fr_call {k : Nat} {es : List D} (h : FR f f2) (he : D.fls es = true := by rfl) : FR (fCall k es f) (fCall k es f2) := by
  intro κ g s l m V q
  unfold fCall
  rw [q.length]
  exact .ck fun c => ⟨c, h κ g s _ _ V (q.app (Dens.rfl' he))⟩
theorem RR.noX {α β : Type} {R : VR α β} {κ : List Nat} {g : G} {r : Res α} {r2 : Res β} (h : RR R κ g r r2) : RR R κ g (RL.noX r) (RL.noX r2) := by
  cases r2 with
  | ok v s' =>
    obtain ⟨κ2, d, g2, rfl, h2⟩ := h
    exact ⟨κ2, d, g2, rfl, h2⟩
  | exc _ _ => trivial
  | bad => trivial
def vProp (cs : List Str) (mf : List D → M D) (o : ME) : ME := fun τ g => (o τ g).bind fun x g1 => ck (visIns cs x g1) (noX (mf [x] g1))
theorem w_prop {cs : List Str} (h : FR f f2) (ko : VE o o2) : VE (mProp cs f o) (vProp cs f2 o2) := fun κ g s τ τ2 V t => (ko κ g s τ τ2 V t).thn fun κ1 g1 s1 x y e1 V1 q1 =>
  .ck fun c => ⟨isIns_of V1 q1 c, (h κ1 g1 s1 _ _ V1 (.one q1)).noX⟩
theorem fr_make {c : Str} {k : Nat} {es : List D} (h : FR f f2) (he : D.fls es = true := by rfl) : FR (fMake c k es f) (fMake c k es f2) := by
  intro κ g s l m V q
  unfold fMake
  obtain ⟨e, V', n1⟩ := V.cnt (o1 := .ins c []) (.ins .nil)
  refine RR.evo e (RR.thn (RR.noX (fr_call h he _ _ _ _ _ V' (.cons (.cell n1) (q.mono e)))) fun κ2 g2 s2 d v e2 V2 q2 => .ck fun c => ⟨(den_non q2).mpr c, .ok V2 (.cell (e2.ix n1))⟩)
end
theorem w_yes : VT mYes mYes := fun κ g s τ τ2 V t => .ok V rfl
theorem w_tgM {κ : List Nat} {g : G} {τ τ2 τ2' : T} {t : Tg} {d v : D} (h : TR κ g τ τ2) (q : Den κ g d v) (e : tgM t v τ2 = some τ2') : ∃ τ', tgM t d τ = some τ' ∧ TR κ g τ' τ2' := by
  cases t with
  | one i =>
    cases e
    exact ⟨_, rfl, h.set q i⟩
  | many is =>
    cases q with
    | @tup l m q =>
      have e : (if m.length = is.length then some (setAll is m τ2) else none) = some τ2' := e
      split at e
      · rename_i hl
        cases e
        refine ⟨setAll is l τ, ?_, h.all q⟩
        show (if l.length = is.length then some (setAll is l τ) else none) = _
        rw [if_pos (by rw [q.length]; exact hl)]
      · cases e
    | _ => cases e
  | two is j =>
    obtain ⟨m, y, rfl, hl, rfl⟩ := tgM_two e
    cases q with
    | tup q =>
      cases q with
      | cons q1 qt =>
        cases qt with
        | cons q2 qn =>
          cases qn
          cases q1 with
          | @tup l _ q1 =>
            refine ⟨(setAll is l τ).set j (some _), ?_, (h.all q1).set q2 j⟩
            show (if l.length = is.length then some ((setAll is l τ).set j (some _)) else none) = _
            rw [if_pos (by rw [q1.length]; exact hl)]
/-- what a loop over c2 needs of one over c -/
def StR (κ : List Nat) (g : G) (c c2 : Option (Nat × Ob)) : Prop := ∀ κ' g' s', Evo κ g κ' g' → VS κ' g' s' → still c2 s' → still c g'
theorem StR.mono {κ κ' : List Nat} {g g' : G} {c c2 : Option (Nat × Ob)} (e : Evo κ g κ' g') (h : StR κ g c c2) : StR κ' g' c c2 := fun κ2 g2 s2 e2 V2 => h κ2 g2 s2 (e.trans e2) V2
theorem w_lcGo {t : Tg} {mt mt2 : MT} {me me2 : ME} (kt : VT mt mt2) (ke : VE me me2) : ∀ {l m : List D} {acc acc2 : List D} {κ : List Nat} {g s : G} {τ τ2 : T} {c c2 : Option (Nat × Ob)}, VS κ g s → TR κ g τ τ2 → StR κ g c c2 → Dens κ g l m → Dens κ g acc acc2 → RR Dens κ g (lcGo c t mt me τ l acc g) (lcGo c2 t mt2 me2 τ2 m acc2 s)
  | _, _, _, _, κ, g, s, τ, τ2, c, c2, V, h, st, .nil, qa => by
    unfold lcGo
    by_cases z : still c2 s
    · rw [if_pos z, if_pos (st κ g s .refl V z)]
      exact .ok V qa
    · rw [if_neg z]
      exact .bad
  | _, _, acc, acc2, κ, g, s, τ, τ2, c, c2, V, h, st, .cons (d := d) (e := v) (l := l) (m := m) q ql, qa => by
    unfold lcGo
    by_cases z : still c2 s
    · rw [if_pos z, if_pos (st κ g s .refl V z)]
      cases e : tgM t v τ2 with
      | none => exact .bad
      | some τ2' =>
        obtain ⟨τ', h1, h2⟩ := w_tgM h q e
        rw [h1]
        dsimp only
        have k1 := kt κ g s τ' τ2' V h2
        generalize mt2 τ2' s = r2 at k1
        cases r2 with
        | bad => exact .bad
        | exc _ _ => exact .bad
        | ok b s1 =>
          obtain ⟨κ1, b1, g1, e1, ev1, V1, q1⟩ := k1
          have hb : b1 = b := q1
          subst hb
          rw [e1]
          cases b1 with
          | false => exact RR.evo ev1 (w_lcGo kt ke V1 (h.mono ev1) (st.mono ev1) (ql.mono ev1) (qa.mono ev1))
          | true =>
            dsimp only
            have k2 := ke κ1 g1 s1 τ' τ2' V1 (h2.mono ev1)
            generalize me2 τ2' s1 = r3 at k2
            cases r3 with
            | bad => exact .bad
            | exc _ _ => exact .bad
            | ok y s2 =>
              obtain ⟨κ2, y1, g2, e2, ev2, V2, q2⟩ := k2
              rw [e2]
              dsimp only
              by_cases hz : acc2.length ≤ 100000
              · rw [if_pos hz, if_pos (by rw [qa.length]; exact hz)]
                have ev := ev1.trans ev2
                exact RR.evo ev (w_lcGo kt ke V2 (h.mono ev) (st.mono ev) (ql.mono ev) ((qa.mono ev).app (.one q2)))
              · rw [if_neg hz]
                exact .bad
    · rw [if_neg z]
      exact .bad
def vLc (own : List Nat) (mi : MI) (t : Tg) (mt : MT) (me : ME) : ME := fun τ g => (mi τ g).bind fun s g1 => (lcGo s.2 t mt me (wipeT τ own) s.1 [] g1).bind fun l g2 => .ok (.plst l) g2
section
variable {own : List Nat} {mi mi2 : MI} {t : Tg} {mt mt2 : MT} {me me2 m m2 : ME} {mg mg2 : MG} {mb mb2 ma ma2 : MS}
theorem w_lc (ki : VI mi mi2) (kt : VT mt mt2) (ke : VE me me2) : VE (mLc own mi t mt me) (vLc own mi2 t mt2 me2) := fun κ g s τ τ2 V h => (ki κ g s τ τ2 V h).thn fun κ1 g1 s1 x y e1 V1 q1 =>
  (w_lcGo kt ke V1 ((h.mono e1).wipe own) q1.2 q1.1 .nil).thn fun κ2 g2 s2 l l' e2 V2 q2 => by
    obtain ⟨e, V', n1, n2⟩ := V2.new (.lst l)
    exact .ok2 e V' (.lst n1 n2 (q2.mono e))
def vsrcSeq : D → M Src := fun x s => match x with
  | .tup l => .ok (l, none) s
  | .plst l => .ok (l, none) s
  | .ref i => (match s[i]? with
    | some (.lst l) => ck (D.fls l = true) (.ok (l, some (i, .lst l)) s)
    | _ => .bad)
  | _ => .bad
def vSeqI (m : ME) : MI := fun τ g => (m τ g).bind vsrcSeq
theorem st_none {κ : List Nat} {g : G} : StR κ g none none := fun _ _ _ _ _ h => h
theorem w_seqI (k : VE m m2) : VI (mSeqI m) (vSeqI m2) := fun κ g s τ τ2 V h => (k κ g s τ τ2 V h).thn fun κ1 g1 s1 x y e1 V1 q1 => by
  cases q1 with
  | tup q => exact .ok V1 ⟨q, st_none⟩
  | lst h1 h2 h3 =>
    unfold srcSeq
    dsimp only
    rw [h2]
    exact .ok V1 ⟨h3, fun κ' g' s' e _ _ => (e.nin h1 h2).2⟩
  | cell hk =>
    rename_i n i
    unfold vsrcSeq
    dsimp only
    split
    · rename_i l hi
      by_cases c : D.fls l = true
      · rw [ck_pos c]
        obtain ⟨o1, h1, h2⟩ := V1.ix hk hi
        generalize ho : Ob.lst l = o at h2
        cases h2 with
        | dct _ => cases ho
        | ins _ => cases ho
        | lst h3 =>
          cases ho
          cases h3.flr c
          unfold srcSeq
          dsimp only
          rw [h1]
          refine .ok V1 ⟨h3, fun κ' g' s' e V' z => ?_⟩
          obtain ⟨o2, y1, y2⟩ := V'.ix (e.ix hk) (show s'[i]? = some (.lst l) from z)
          generalize ho : Ob.lst l = o at y2
          cases y2 with
          | dct _ => cases ho
          | ins _ => cases ho
          | lst y3 =>
            cases ho
            cases y3.flr c
            exact y1
      · unfold ck
        rw [if_neg c]
        exact .bad
    · exact .bad
  | _ => exact .bad
theorem rng_fl (i : Int) (n : Nat) : D.fls (rng i n) = true := by
  rw [fls_all]
  refine List.all_eq_true.mpr fun x hx => ?_
  obtain ⟨j, _, rfl⟩ := List.mem_map.mp hx
  rfl
theorem w_range1 (k : VE m m2) : VI (mRange1 m) (mRange1 m2) := fun κ g s τ τ2 V h => (w_cons k w_nil κ g s τ τ2 V h).thn fun κ1 g1 s1 x y e1 V1 q1 => by
  cases q1 with
  | nil => exact .bad
  | cons q qn =>
    cases qn with
    | cons _ _ => cases q <;> exact .bad
    | nil =>
      cases q with
      | int j => exact .ck fun c => ⟨c, .ok V1 ⟨Dens.rfl' (rng_fl _ _), st_none⟩⟩
      | _ => exact .bad
theorem w_next : VM mNext mNext := fun κ g s τ τ2 V h => .nx V h
theorem w_seq (k : VM ma ma2) (k' : VM mb mb2) : VM (mSeq ma mb) (mSeq ma2 mb2) := fun κ g s τ τ2 V h => by
  have q := k κ g s τ τ2 V h
  unfold mSeq
  generalize ma2 τ2 s = r2 at q
  cases r2 with
  | nx τ' s' =>
    obtain ⟨κ1, τ1, g1, e, ev, V1, h1⟩ := q
    rw [e]
    exact (k' κ1 g1 s' τ1 τ' V1 h1).evo ev
  | bk _ _ | ct _ _ | rt _ _ =>
    obtain ⟨κ1, τ1, g1, e, q⟩ := q
    rw [e]
    exact ⟨κ1, τ1, g1, rfl, q⟩
  | ex _ _ _ =>
    obtain ⟨κ1, x1, τ1, g1, e, q⟩ := q
    rw [e]
    exact ⟨κ1, x1, τ1, g1, rfl, q⟩
  | bad => trivial
theorem w_onlyNx {κ : List Nat} {g : G} {r r2 : SR} (h : RS2 κ g r r2) : RS2 κ g (onlyNx r) (onlyNx r2) := by
  cases r2 with
  | nx _ _ =>
    obtain ⟨κ1, τ1, g1, rfl, q⟩ := h
    exact ⟨κ1, τ1, g1, rfl, q⟩
  | ex _ _ _ =>
    obtain ⟨κ1, x1, τ1, g1, rfl, q⟩ := h
    exact ⟨κ1, x1, τ1, g1, rfl, q⟩
  | _ => trivial
theorem w_asg (k : VE m m2) (kg : VG mg mg2) : VM (mAsg m mg) (mAsg m2 mg2) := fun κ g s τ τ2 V h => (k κ g s τ τ2 V h).st h fun κ1 g1 s1 d v e1 V1 h1 q1 => w_onlyNx (kg κ1 g1 s1 τ τ2 d v V1 h1 q1)
theorem w_drop (k : VE m m2) : VM (mDrop m) (mDrop m2) := fun κ g s τ τ2 V h => (k κ g s τ τ2 V h).st h fun κ1 g1 s1 d v e1 V1 h1 q1 => .nx V1 h1
theorem w_ret (k : VE m m2) : VM (mRet m) (mRet m2) := fun κ g s τ τ2 V h => (k κ g s τ τ2 V h).st h fun κ1 g1 s1 d v e1 V1 h1 q1 => .rt V1 q1
theorem w_ifS {c c2 : MT} (k : VT c c2) (ka : VM ma ma2) (kb : VM mb mb2) : VM (mIfS c ma mb) (mIfS c2 ma2 mb2) := fun κ g s τ τ2 V h => (k κ g s τ τ2 V h).st h fun κ1 g1 s1 d v e1 V1 h1 q1 => by
  cases (show d = v from q1)
  cases d with
  | true => exact ka κ1 g1 s1 τ τ2 V1 h1
  | false => exact kb κ1 g1 s1 τ τ2 V1 h1
theorem w_gN {i : Nat} : VG (gN i) (gN i) := fun κ g s τ τ2 d v V h q => .nx V (h.set q i)
theorem w_gsNil : VGs gsNil gsNil := fun κ g s τ τ2 d v V h q => by
  cases q with
  | nil => exact .nx V h
  | cons _ _ => trivial
theorem w_gsCons {l l2 : List D → MS} (k : VG mg mg2) (kl : VGs l l2) : VGs (gsCons mg l) (gsCons mg2 l2) := fun κ g s τ τ2 d v V h q => by
  cases q with
  | nil => trivial
  | cons q ql =>
    have k1 := k κ g s τ τ2 _ _ V h q
    unfold gsCons
    dsimp only
    generalize mg2 _ τ2 s = r2 at k1
    cases r2 with
    | nx τ' s' =>
      obtain ⟨κ1, τ1, g1, e, ev, V1, h1⟩ := k1
      rw [e]
      exact (kl κ1 g1 s' τ1 τ' _ _ V1 h1 (ql.mono ev)).evo ev
    | _ => trivial
theorem w_gTup {n : Nat} {l l2 : List D → MS} (k : VGs l l2) : VG (gTupM n l) (gTupM n l2) := fun κ g s τ τ2 d v V h q => by
  cases q with
  | tup q =>
    unfold gTupM
    dsimp only
    rw [q.length]
    split
    · exact k κ g s τ τ2 _ _ V h q
    · trivial
  | _ => trivial
theorem w_gSub {o o2 i i2 : ME} (ko : VE o o2) (ki : VE i i2) : VG (gSubM o i) (gSubM o2 i2) := fun κ g s τ τ2 d v V h q => by
  unfold gSubM
  refine (ko κ g s τ τ2 V h).st h fun κ1 g1 s1 x y e1 V1 h1 q1 => (ki κ1 g1 s1 τ τ2 V1 h1).st h1 fun κ2 g2 s2 k j e2 V2 h2 q2 => ?_
  have q1 := q1.mono e2
  have q := (q.mono e1).mono e2
  generalize hr : fSet x k d g2 = r
  unfold fSet
  cases q1 with
  | cell hk =>
    rename_i n a
    dsimp only
    cases hs : s2[a]? with
    | none => trivial
    | some ob =>
      obtain ⟨o1, y1, y2⟩ := V2.ix hk hs
      cases y2 with
      | lst y3 =>
        dsimp only
        cases q2 with
        | int z =>
          dsimp only
          rename_i l1 l2
          cases hj : ixN l2.length z with
          | none => trivial
          | some j =>
            have : r = some (g2.set n (.lst (l1.set j d))) := by
              rw [← hr]
              unfold fSet
              dsimp only
              rw [y1]
              dsimp only
              rw [y3.length, hj]
              rfl
            rw [this]
            obtain ⟨e, V'⟩ := V2.wr hk y1 (fun _ z => by cases z) (.lst (Dens.set q j y3))
            exact ⟨κ2, τ, _, rfl, e, V', h2.mono e⟩
        | _ => trivial
      | @dct k0 l1 l2 y3 =>
        cases k0 with
        | true => trivial
        | false =>
          dsimp only
          by_cases c : kOk l2 j ∧ l2.length ≤ 100000
          · obtain ⟨rfl, hf, c1⟩ := y3.kOk q2 c.1
            rw [if_pos c]
            have : r = some (g2.set n (.dct false (dput l1 k d))) := by
              rw [← hr]
              unfold fSet
              dsimp only
              rw [y1]
              dsimp only
              rw [if_pos ⟨c1, by rw [y3.length]; exact c.2⟩]
            rw [this]
            obtain ⟨e, V'⟩ := V2.wr hk y1 (fun _ z => by cases z) (.dct (y3.put k hf q))
            exact ⟨κ2, τ, _, rfl, e, V', h2.mono e⟩
          · rw [if_neg c]
            trivial
      | ins _ => trivial
  | _ => trivial
theorem w_fldS {cs : List Str} {f : Str} {o o2 v v2 : ME} (ko : VE o o2) (kv : VE v v2) : VM (mFldS cs f o v) (mFldS cs f o2 v2) := fun κ g s τ τ2 V h => by
  unfold mFldS
  refine (kv κ g s τ τ2 V h).st h fun κ1 g1 s1 d w e1 V1 h1 q => (ko κ1 g1 s1 τ τ2 V1 h1).st h1 fun κ2 g2 s2 x y e2 V2 h2 q2 => ?_
  have q := q.mono e2
  generalize hr : fPut cs f x d g2 = r
  unfold fPut
  cases q2 with
  | cell hk =>
    rename_i n a
    dsimp only
    cases hs : s2[a]? with
    | none => trivial
    | some ob =>
      obtain ⟨o1, y1, y2⟩ := V2.ix hk hs
      cases y2 with
      | @ins c l1 l2 y3 =>
        dsimp only
        by_cases cc : c ∈ cs ∧ l2.length ≤ 300
        · rw [if_pos cc]
          have : r = some (g2.set n (.ins c (setF f d l1))) := by
            rw [← hr]
            unfold fPut
            dsimp only
            rw [y1]
            dsimp only
            rw [if_pos ⟨cc.1, by rw [y3.length]; exact cc.2⟩]
          rw [this]
          obtain ⟨e, V'⟩ := V2.wr hk y1 (fun _ z => by cases z) (.ins (y3.put f q))
          exact ⟨κ2, τ, _, rfl, e, V', h2.mono e⟩
        · rw [if_neg cc]
          trivial
      | _ => trivial
  | _ => trivial
theorem w_forGo (kg : VG mg mg2) (kb : VM mb mb2) : ∀ {l m : List D} {κ : List Nat} {g s : G} {τ τ2 : T} {c c2 : Option (Nat × Ob)}, VS κ g s → TR κ g τ τ2 → StR κ g c c2 → Dens κ g l m → RS2 κ g (forGo c mg mb l τ g) (forGo c2 mg2 mb2 m τ2 s)
  | _, _, κ, g, s, τ, τ2, c, c2, V, h, st, .nil => by
    unfold forGo
    by_cases z : still c2 s
    · rw [if_pos z, if_pos (st κ g s .refl V z)]
      exact .nx V h
    · rw [if_neg z]
      trivial
  | _, _, κ, g, s, τ, τ2, c, c2, V, h, st, .cons (d := d) (e := v) (l := l) (m := m) q ql => by
    unfold forGo
    by_cases z : still c2 s
    · rw [if_pos z, if_pos (st κ g s .refl V z)]
      have k1 := kg κ g s τ τ2 d v V h q
      generalize mg2 v τ2 s = r2 at k1
      cases r2 with
      | nx τ' s' =>
        obtain ⟨κ1, τ1, g1, e, ev, V1, h1⟩ := k1
        rw [e]
        dsimp only
        have k2 := kb κ1 g1 s' τ1 τ' V1 h1
        generalize mb2 τ' s' = r3 at k2
        cases r3 with
        | nx τ3 s3 =>
          obtain ⟨κ2, τ4, g2, e2, ev2, V2, h2⟩ := k2
          rw [e2]
          exact RS2.evo (ev.trans ev2) (w_forGo kg kb V2 h2 (st.mono (ev.trans ev2)) (ql.mono (ev.trans ev2)))
        | ct τ3 s3 =>
          obtain ⟨κ2, τ4, g2, e2, ev2, V2, h2⟩ := k2
          rw [e2]
          exact RS2.evo (ev.trans ev2) (w_forGo kg kb V2 h2 (st.mono (ev.trans ev2)) (ql.mono (ev.trans ev2)))
        | bk τ3 s3 =>
          obtain ⟨κ2, τ4, g2, e2, ev2, V2, h2⟩ := k2
          rw [e2]
          exact ⟨κ2, τ4, g2, rfl, ev.trans ev2, V2, h2⟩
        | rt v3 s3 =>
          obtain ⟨κ2, d4, g2, e2, ev2, V2, h2⟩ := k2
          rw [e2]
          exact ⟨κ2, d4, g2, rfl, ev.trans ev2, V2, h2⟩
        | ex x τ3 s3 =>
          obtain ⟨κ2, x4, τ4, g2, e2, ev2, V2, h2⟩ := k2
          rw [e2]
          exact ⟨κ2, x4, τ4, g2, rfl, ev.trans ev2, V2, h2⟩
        | bad => trivial
      | ex x τ' s' =>
        obtain ⟨κ1, x1, τ1, g1, e, q⟩ := k1
        rw [e]
        exact ⟨κ1, x1, τ1, g1, rfl, q⟩
      | _ => trivial
    · rw [if_neg z]
      trivial
theorem w_for (ki : VI mi mi2) (kg : VG mg mg2) (kb : VM mb mb2) : VM (mFor mi mg mb) (mFor mi2 mg2 mb2) := fun κ g s τ τ2 V h => (ki κ g s τ τ2 V h).st h fun κ1 g1 s1 x y e1 V1 h1 q1 => w_forGo kg kb V1 h1 q1.2 q1.1
end
end RL
namespace RL
open PySem L2
/-- what only reads, and takes no notice of a lock -/
def Pth (m : ME) : Prop := ∀ τ g d g1, m τ g = .ok d g1 → g1 = g ∧ ∀ (n : Nat) (k k' : Bool) (l : List (D × D)), g[n]? = some (.dct k l) → m τ (g.set n (.dct k' l)) = .ok d (g.set n (.dct k' l))
theorem p_v {i : Nat} : Pth (mV i) := fun τ g d g1 h => by
  have e : ∃ d', τ[i]? = some (some d') := by
    unfold mV at h
    split at h
    · exact ⟨_, by assumption⟩
    · cases h
  obtain ⟨d', hi⟩ := e
  rw [ev_v hi] at h
  cases h
  exact ⟨rfl, fun n k k' l _ => ev_v hi⟩
theorem fFld_lk {cs : List Str} {f : Str} {x d : D} {g g1 : G} (e : fFld cs f x g = .ok d g1) : g1 = g ∧ ∀ (n : Nat) (k k' : Bool) (l : List (D × D)), g[n]? = some (.dct k l) → fFld cs f x (g.set n (.dct k' l)) = .ok d (g.set n (.dct k' l)) := by
  unfold fFld at e
  cases x with
  | ref m =>
    dsimp only at e
    cases hm : g[m]? with
    | none => rw [hm] at e; cases e
    | some o =>
      rw [hm] at e
      cases o with
      | ins c fs =>
        obtain ⟨c1, e⟩ := ck_ok e
        unfold optR at e
        cases hv : fs.lookup f with
        | none => rw [hv] at e; cases e
        | some v =>
          rw [hv] at e
          cases e
          refine ⟨rfl, fun n k k' l hn => ?_⟩
          unfold fFld
          dsimp only
          rw [set_ne hm (fun z => by subst z; rw [hn] at hm; cases hm)]
          dsimp only
          rw [ck_pos c1]
          unfold optR
          rw [hv]
      | _ => cases e
  | _ => cases e
theorem p_fld {cs : List Str} {f : Str} {o : ME} (h : Pth o) : Pth (mUn (fFld cs f) o) := fun τ g d g1 e => by
  unfold mUn at e ⊢
  cases ho : o τ g with
  | bad => rw [ho] at e; cases e
  | exc _ _ => rw [ho] at e; cases e
  | ok x g2 =>
    obtain ⟨h1, h2⟩ := h τ g x g2 ho
    subst h1
    rw [ho] at e
    obtain ⟨e1, e2⟩ := fFld_lk (show fFld cs f x g2 = .ok d g1 from e)
    refine ⟨e1, fun n k k' l hn => ?_⟩
    rw [h2 n k k' l hn]
    exact e2 n k k' l hn
section
variable {κ : List Nat} {g s : G} {n : Nat} {k k' : Bool} {b : List (D × D)}
theorem dct_lk {m : Nat} {k2 : Bool} {l : List (D × D)} (hn : g[n]? = some (.dct k b)) (h : g[m]? = some (.dct k2 l)) : ∃ k3, (g.set n (.dct k' b))[m]? = some (.dct k3 l) := by
  by_cases e : m = n
  · subst e
    rw [hn] at h
    cases h
    exact ⟨k', set_get (lt_of_get hn)⟩
  · exact ⟨k2, set_ne h e⟩
mutual
/-- values take no notice of a lock -/
theorem Den.lk (hn : g[n]? = some (.dct k b)) : ∀ {d v : D}, Den κ g d v → Den κ (g.set n (.dct k' b)) d v
  | _, _, .non => .non
  | _, _, .bl b => .bl b
  | _, _, .int i => .int i
  | _, _, .str s => .str s
  | _, _, .tup h => .tup (Dens.lk hn h)
  | _, _, .kl h => .kl (Dens.lk hn h)
  | _, _, .cell h => .cell h
  | _, _, .lst (n := m) h1 h2 h3 => .lst h1 (set_ne h2 (fun z => by subst z; rw [hn] at h2; cases h2)) (Dens.lk hn h3)
  | _, _, .dct h1 h2 h3 => .dct h1 (dct_lk hn h2).choose_spec (Denp.lk hn h3)
  | _, _, .obj (n := m) h1 h2 h3 => .obj h1 (set_ne h2 (fun z => by subst z; rw [hn] at h2; cases h2)) (Denf.lk hn h3)
theorem Dens.lk (hn : g[n]? = some (.dct k b)) : ∀ {d v : List D}, Dens κ g d v → Dens κ (g.set n (.dct k' b)) d v
  | _, _, .nil => .nil
  | _, _, .cons h t => .cons (Den.lk hn h) (Dens.lk hn t)
theorem Denp.lk (hn : g[n]? = some (.dct k b)) : ∀ {d v : List (D × D)}, Denp κ g d v → Denp κ (g.set n (.dct k' b)) d v
  | _, _, .nil => .nil
  | _, _, .cons q h t => .cons (Den.lk hn q) (Den.lk hn h) (Denp.lk hn t)
theorem Denf.lk (hn : g[n]? = some (.dct k b)) : ∀ {d v : List (Str × D)}, Denf κ g d v → Denf κ (g.set n (.dct k' b)) d v
  | _, _, .nil => .nil
  | _, _, .cons h t => .cons (Den.lk hn h) (Denf.lk hn t)
end
theorem ObD.lk (hn : g[n]? = some (.dct k b)) {o o' : Ob} (h : ObD κ g o o') : ObD κ (g.set n (.dct k' b)) o o' := by
  cases h with
  | lst h => exact .lst (h.lk hn)
  | dct h => exact .dct (h.lk hn)
  | ins h => exact .ins (h.lk hn)
theorem TR.lk (hn : g[n]? = some (.dct k b)) {τ τ2 : T} (h : TR κ g τ τ2) : TR κ (g.set n (.dct k' b)) τ τ2 := ⟨h.len, fun i v hv => by
  obtain ⟨d, h1, h2⟩ := h.at_ i v hv
  exact ⟨d, h1, h2.lk hn⟩⟩
theorem VS.lkP (V : VS κ g s) (hn : g[n]? = some (.dct k b)) (h0 : n ∉ κ) : VS κ (g.set n (.dct k' b)) s := ⟨V.len, V.nod, fun i o h => by
  obtain ⟨m, o1, h1, h2, h3⟩ := V.obs i o h
  refine ⟨m, o1, h1, set_ne h2 (fun z => h0 (by rw [← z]; exact List.mem_of_getElem? h1)), h3.lk hn⟩⟩
theorem VS.lkC (V : VS κ g s) {i : Nat} {b' : List (D × D)} (hn : g[n]? = some (.dct k b)) (hi : κ[i]? = some n) (hs : s[i]? = some (.dct k b')) : VS κ (g.set n (.dct k' b)) (s.set i (.dct k' b')) := ⟨by simp [V.len], V.nod, fun j o h => by
  by_cases e : i = j
  · subst e
    rw [List.getElem?_set_self (lt_of_get hs)] at h
    cases h
    obtain ⟨o1, h1, h2⟩ := V.ix hi hs
    rw [hn] at h1
    cases h1
    cases h2 with
    | dct h2 => exact ⟨n, _, hi, set_get (lt_of_get hn), .dct (h2.lk hn)⟩
  · rw [List.getElem?_set_ne e] at h
    obtain ⟨m, o1, h1, h2, h3⟩ := V.obs j o h
    exact ⟨m, o1, h1, set_ne h2 (fun z => e (nodup_ix V.nod hi (by rw [← z]; exact h1))), h3.lk hn⟩⟩
end
/-- a path is read: what stands there, in both layers -/
theorem pth_read {m m2 : ME} (hp : Pth m) (hm : VE m m2) {κ : List Nat} {g s : G} {τ τ2 : T} (V : VS κ g s) (h : TR κ g τ τ2) {v : D} {s' : G} (e : m2 τ2 s = .ok v s') : ∃ d, m τ g = .ok d g ∧ Den κ g d v := by
  have q := hm κ g s τ τ2 V h
  rw [e] at q
  obtain ⟨κ1, d, g1, e1, ev, V1, q1⟩ := q
  obtain ⟨rfl, _⟩ := hp τ g d g1 e1
  obtain ⟨⟨new, rfl, hn⟩, _, _, _⟩ := ev
  cases new with
  | nil =>
    rw [List.append_nil] at q1
    exact ⟨d, e1, q1⟩
  | cons a r =>
    exact absurd (hn a List.mem_cons_self) (by have := V1.lt (n := a) (by simp); omega)
def vKLc (own : List Nat) (m : ME) (t : Tg) (mt : MT) (me : ME) : ME := fun τ s => match m τ s with
  | .ok (.pdct kvs) _ => (lcGo none t mt me (wipeT τ own) (kvs.map (·.1)) [] s).bind fun l s1 => .ok (.plst l) s1
  | .ok (.ref i) _ => (match s[i]? with
    | some (.dct false kvs) => unlE i kvs ((lcGo (some (i, .dct true kvs)) t mt me (wipeT τ own) (kvs.map (·.1)) [] (s.set i (.dct true kvs))).bind fun l s1 => .ok (.plst l) s1)
    | some (.dct true kvs) => (lcGo (some (i, .dct true kvs)) t mt me (wipeT τ own) (kvs.map (·.1)) [] s).bind fun l s1 => .ok (.plst l) s1
    | _ => .bad)
  | _ => .bad
theorem lock_evo {κ : List Nat} {g : G} {n : Nat} {l : List (D × D)} (hn : g[n]? = some (.dct false l)) {κ' : List Nat} {g' : G} (e : Evo κ (g.set n (.dct true l)) κ' g') : g'[n]? = some (.dct true l) ∧ Evo κ g κ' (g'.set n (.dct false l)) := by
  have hl := lt_of_get hn
  have h1 : g'[n]? = some (.dct true l) := e.lck n l (set_get hl)
  obtain ⟨p, ln, od, lc⟩ := e
  rw [List.length_set] at ln p
  refine ⟨h1, p, by rw [List.length_set]; exact ln, fun m hm hk => ?_, fun m l' hm => ?_⟩
  · by_cases c : m = n
    · subst c
      rw [set_get (lt_of_get h1), hn]
    · rw [List.getElem?_set_ne (Ne.symm c), od m (by rw [List.length_set]; exact hm) hk, List.getElem?_set_ne (Ne.symm c)]
  · have c : m ≠ n := fun z => by subst z; rw [hn] at hm; cases hm
    rw [List.getElem?_set_ne (Ne.symm c)]
    exact lc m l' (by rw [List.getElem?_set_ne (Ne.symm c)]; exact hm)
theorem st_lock {κ : List Nat} {g : G} {n : Nat} {l : List (D × D)} {c2 : Option (Nat × Ob)} (hn : g[n]? = some (.dct true l)) : StR κ g (some (n, .dct true l)) c2 := fun κ' g' s' e _ _ => e.lck n l hn
section
variable {own : List Nat} {t : Tg} {mt mt2 : MT} {me me2 m m2 : ME} {mg mg2 : MG} {mb mb2 : MS}
theorem keysI_at {τ : T} {g : G} {n : Nat} {l : List (D × D)} (h : m τ g = .ok (.ref n) g) (hn : g[n]? = some (.dct true l)) : mKeysI m τ g = .ok (l.map (·.1), some (n, .dct true l)) g := keys_ok h hn
theorem lc_new {κ : List Nat} {g : G} {r r2 : Res (List D)} (h : RR Dens κ g r r2) : RR Den κ g (r.bind fun l g2 => .ok (.ref g2.length) (g2 ++ [.lst l])) (r2.bind fun l s1 => .ok (.plst l) s1) := h.thn fun κ2 g2 s2 l l' e2 V2 q2 => by
  obtain ⟨e, V', n1, n2⟩ := V2.new (.lst l)
  exact .ok2 e V' (.lst n1 n2 (q2.mono e))
theorem unlE_P {κ : List Nat} {g : G} {n : Nat} {l : List (D × D)} (hn : g[n]? = some (.dct false l)) (h0 : n ∉ κ) {r r2 : Res D} (h : RR Den κ (g.set n (.dct true l)) r r2) : RR Den κ g (unlE n l r) (noX r2) := by
  cases r2 with
  | ok v s' =>
    obtain ⟨κ1, d1, g1, rfl, e, V, q⟩ := h
    obtain ⟨h1, h2⟩ := lock_evo hn e
    dsimp only [unlE]
    have hu : unlG n l g1 = some (g1.set n (.dct false l)) := by unfold unlG; rw [if_pos h1]
    rw [hu]
    exact ⟨κ1, d1, _, rfl, h2, V.lkP h1 (e.nin h0 (set_get (lt_of_get hn))).1, q.lk h1⟩
  | exc _ _ => trivial
  | bad => trivial
theorem unlE_C {κ : List Nat} {g : G} {n i : Nat} {l l2 : List (D × D)} (hn : g[n]? = some (.dct false l)) (hi : κ[i]? = some n) {r r2 : Res D} (h : RR Den κ (g.set n (.dct true l)) r r2) : RR Den κ g (unlE n l r) (unlE i l2 r2) := by
  cases r2 with
  | ok v s' =>
    obtain ⟨κ1, d1, g1, rfl, e, V, q⟩ := h
    obtain ⟨h1, h2⟩ := lock_evo hn e
    dsimp only [unlE]
    have hu : unlG n l g1 = some (g1.set n (.dct false l)) := by unfold unlG; rw [if_pos h1]
    rw [hu]
    unfold unlG
    by_cases hs : s'[i]? = some (.dct true l2)
    · rw [if_pos hs]
      exact ⟨κ1, d1, _, rfl, h2, V.lkC h1 (e.ix hi) hs, q.lk h1⟩
    · rw [if_neg hs]
      trivial
  | exc _ _ => trivial
  | bad => trivial
theorem lcGo_noX {c : Option (Nat × Ob)} {τ : T} : ∀ (l acc : List D) (s : G), noX ((lcGo c t mt me τ l acc s).bind fun l s1 => .ok (.plst l) s1 : Res D) = (lcGo c t mt me τ l acc s).bind fun l s1 => .ok (.plst l) s1
  | [], acc, s => by
    unfold lcGo
    split <;> rfl
  | d :: l, acc, s => by
    unfold lcGo
    split
    · split
      · rfl
      · split
        · split
          · split
            · exact lcGo_noX l _ _
            · rfl
          · rfl
        · exact lcGo_noX l _ _
        · rfl
    · rfl
theorem w_klc (hp : Pth m) (hm : VE m m2) (kt : VT mt mt2) (ke : VE me me2) : VE (mLockE m (mLc own (mKeysI m) t mt me)) (vKLc own m2 t mt2 me2) := fun κ g s τ τ2 V h => by
  unfold vKLc
  split
  · rename_i kvs s' e
    obtain ⟨d, e1, q⟩ := pth_read hp hm V h e
    cases q with
    | @dct n k l _ h1 h2 h3 =>
      cases k with
      | false =>
        have la : lockAt m τ g = some (n, l) := by
          unfold lockAt
          rw [e1]
          dsimp only
          rw [h2]
        have e2 := (hp τ g _ _ e1).2 n false true l h2
        unfold mLockE
        rw [la]
        dsimp only
        unfold mLc
        rw [keysI_at e2 (set_get (lt_of_get h2)), Res.bind_ok, ← lcGo_noX]
        exact unlE_P h2 h1 (lc_new (w_lcGo kt ke (V.lkP h2 h1) ((h.lk h2).wipe own) (st_lock (set_get (lt_of_get h2))) (h3.keys.lk h2) .nil))
      | true =>
        have la : lockAt m τ g = none := by
          unfold lockAt
          rw [e1]
          dsimp only
          rw [h2]
        have lk : lkd m τ g = true := by
          unfold lkd
          rw [e1]
          dsimp only
          rw [h2]
        unfold mLockE
        rw [la]
        dsimp only
        rw [if_pos lk]
        unfold mLc
        rw [keysI_at e1 h2, Res.bind_ok]
        exact lc_new (w_lcGo kt ke V (h.wipe own) (st_lock h2) h3.keys .nil)
  · rename_i i s' e
    obtain ⟨d, e1, q⟩ := pth_read hp hm V h e
    cases q with
    | @cell n _ hk =>
      split
      · rename_i kvs hs
        obtain ⟨o1, h2, h3⟩ := V.ix hk hs
        cases h3 with
        | @dct _ l _ h3 =>
          have la : lockAt m τ g = some (n, l) := by
            unfold lockAt
            rw [e1]
            dsimp only
            rw [h2]
          have e2 := (hp τ g _ _ e1).2 n false true l h2
          unfold mLockE
          rw [la]
          dsimp only
          unfold mLc
          rw [keysI_at e2 (set_get (lt_of_get h2)), Res.bind_ok]
          exact unlE_C h2 hk (lc_new (w_lcGo kt ke (V.lkC h2 hk hs) ((h.lk h2).wipe own) (st_lock (set_get (lt_of_get h2))) (h3.keys.lk h2) .nil))
      · rename_i kvs hs
        obtain ⟨o1, h2, h3⟩ := V.ix hk hs
        cases h3 with
        | @dct _ l _ h3 =>
          have la : lockAt m τ g = none := by
            unfold lockAt
            rw [e1]
            dsimp only
            rw [h2]
          have lk : lkd m τ g = true := by
            unfold lkd
            rw [e1]
            dsimp only
            rw [h2]
          unfold mLockE
          rw [la]
          dsimp only
          rw [if_pos lk]
          unfold mLc
          rw [keysI_at e1 h2, Res.bind_ok]
          exact lc_new (w_lcGo kt ke V (h.wipe own) (st_lock h2) h3.keys .nil)
      · trivial
  · trivial
end
def FX (f f2 : List D → Option Exc) : Prop := ∀ κ g l m e, Dens κ g l m → f2 m = some e → ∃ x, f l = some x ∧ ExR κ g x e
theorem wOk_fl {d : D} (h : wOk d = true) : d.fl = true := by
  cases d with
  | non => rfl
  | str _ => rfl
  | tup l =>
    obtain ⟨h, _⟩ := (Bool.and_eq_true _ _).mp (show (_ && _) = true from h)
    rw [D.fl, fls_all]
    refine List.all_eq_true.mpr fun x hx => ?_
    have := List.all_eq_true.mp h x hx
    cases x <;> first | rfl | cases this
  | _ => cases h
theorem x_exc1 {c : Str} : FX (exc1 c) (exc1 c) := by
  intro κ g l m e h he
  unfold exc1 at he
  split at he
  · rename_i w
    split at he
    · rename_i hw
      cases he
      cases h with
      | cons q qn =>
        cases qn
        cases q.flr (wOk_fl hw)
        exact ⟨_, by unfold exc1; dsimp only; rw [if_pos hw], rfl, .cons .non (.cons q .nil)⟩
    · cases he
  · cases he
theorem w_raise {f f2 : List D → Option Exc} {a a2 : MA} (hf : FX f f2) (k : VA a a2) : VM (mRaise f a) (mRaise f2 a2) := fun κ g s τ τ2 V h => (k κ g s τ τ2 V h).st h fun κ1 g1 s1 d v e1 V1 h1 q1 => by
  cases e : f2 v with
  | none => trivial
  | some x =>
    obtain ⟨y, h2, h3⟩ := hf κ1 g1 _ _ _ q1 e
    rw [h2]
    exact ⟨κ1, y, τ, g1, rfl, .refl, V1, h1, h3⟩
def VXE (m m2 : Exc → ME) : Prop := ∀ κ g s τ τ2 x e, VS κ g s → TR κ g τ τ2 → ExR κ g x e → RR Den κ g (m x τ g) (m2 e τ2 s)
def VXA (m m2 : Exc → MA) : Prop := ∀ κ g s τ τ2 x e, VS κ g s → TR κ g τ τ2 → ExR κ g x e → RR Dens κ g (m x τ g) (m2 e τ2 s)
def VXM (m m2 : Exc → MS) : Prop := ∀ κ g s τ τ2 x e, VS κ g s → TR κ g τ τ2 → ExR κ g x e → RS2 κ g (m x τ g) (m2 e τ2 s)
section
variable {m m2 n n2 : Exc → ME} {a a2 : Exc → MA} {e e2 : ME} {b b2 : MS} {f f2 : List D → M D} {h h2 : D → M D} {w w2 : D → D → M D}
theorem x_of (k : VE e e2) : VXE (fun _ => e) (fun _ => e2) := fun κ g s τ τ2 x e V t q => k κ g s τ τ2 V t
theorem x_fld {f : Str} : VXE (mXf f) (mXf f) := fun κ g s τ τ2 x e V t q => by
  unfold mXf
  obtain ⟨i1, i2⟩ := q.2.look f
  unfold optR
  cases c : e.fs.lookup f with
  | none => exact .bad
  | some v =>
    obtain ⟨d, h3, h4⟩ := i1 _ c
    rw [h3]
    exact .ok V h4
theorem xa_nil : VXA (fun _ => mNil) (fun _ => mNil) := fun κ g s τ τ2 x e V t q => .ok V .nil
theorem xa_cons (k : VXE m m2) (ka : VXA a a2) : VXA (fun x => mCons (m x) (a x)) (fun x => mCons (m2 x) (a2 x)) := fun κ g s τ τ2 x e V t q => (k κ g s τ τ2 x e V t q).thn fun κ1 g1 s1 d v e1 V1 q1 => (ka κ1 g1 s1 τ τ2 x e V1 (t.mono e1) (q.mono e1)).thn fun κ2 g2 s2 l l' e2 V2 q2 => .ok V2 (.cons (q1.mono e2) q2)
theorem x_una (hf : FR f f2) (ka : VXA a a2) : VXE (fun x => mUnA f (a x)) (fun x => mUnA f2 (a2 x)) := fun κ g s τ τ2 x e V t q => (ka κ g s τ τ2 x e V t q).thn fun κ1 g1 s1 d v e1 V1 q1 => hf κ1 g1 s1 _ _ V1 q1
theorem x_ret (k : VXE m m2) : VXM (mRetX m) (mRetX m2) := fun κ g s τ τ2 x e V t q => (k κ g s τ τ2 x e V t q).st t fun κ1 g1 s1 d v e1 V1 h1 q1 => .rt V1 q1
inductive VCls : List MClause → List MClause → Prop
  | nil : VCls [] []
  | cons {c : Str} {i : Option Nat} {ms ms2 : Exc → MS} {l l2 : List MClause} : VXM ms ms2 → VCls l l2 → VCls ((c, i, ms) :: l) ((c, i, ms2) :: l2)
theorem w_noEx {κ : List Nat} {g : G} {r r2 : SR} (h : RS2 κ g r r2) : RS2 κ g (noEx r) (noEx r2) := by
  cases r2 with
  | ex _ _ _ => trivial
  | bad => trivial
  | _ =>
    obtain ⟨κ1, τ1, g1, rfl, q⟩ := h
    exact ⟨κ1, τ1, g1, rfl, q⟩
theorem w_clrR {κ : List Nat} {g : G} {i : Nat} {r r2 : SR} (h : RS2 κ g r r2) : RS2 κ g (clrR i r) (clrR i r2) := by
  cases r2 with
  | ex _ _ _ => trivial
  | bad => trivial
  | rt _ _ =>
    obtain ⟨κ1, τ1, g1, rfl, q⟩ := h
    exact ⟨κ1, τ1, g1, rfl, q⟩
  | _ =>
    obtain ⟨κ1, τ1, g1, rfl, e, V, q⟩ := h
    exact ⟨κ1, _, g1, rfl, e, V, q.non i⟩
theorem w_hGo {l l2 : List MClause} (k : VCls l l2) : ∀ κ g s τ τ2 x e, VS κ g s → TR κ g τ τ2 → ExR κ g x e → RS2 κ g (hGo x l τ g) (hGo e l2 τ2 s) := by
  induction k with
  | nil => exact fun κ g s τ τ2 x e V t q => ⟨κ, x, τ, g, rfl, .refl, V, t, q⟩
  | @cons c i ms ms2 l l2 h1 _ ih =>
    intro κ g s τ τ2 x e V t q
    cases i with
    | none =>
      unfold hGo
      rw [q.1]
      split
      · exact w_noEx (h1 κ g s τ τ2 x e V t q)
      · exact ih κ g s τ τ2 x e V t q
    | some i =>
      unfold hGo
      rw [q.1]
      split
      · exact w_clrR (h1 κ g s _ _ x e V (t.non i) q)
      · exact ih κ g s τ τ2 x e V t q
theorem w_try {es : List Str} {l l2 : List MClause} (kl : VCls l l2) (kb : VM b b2) : VM (mTry es l b) (mTry es l2 b2) := fun κ g s τ τ2 V h => by
  have k := kb κ g s τ τ2 V h
  unfold mTry
  generalize b2 τ2 s = r2 at k
  cases r2 with
  | ex e τ' s' =>
    obtain ⟨κ1, x, τ1, g1, e1, ev, V1, h1, q⟩ := k
    rw [e1]
    dsimp only
    rw [q.1]
    split
    · exact (w_hGo kl κ1 g1 s' τ1 τ' x e V1 h1 q).evo ev
    · trivial
  | bad => trivial
  | _ =>
    obtain ⟨κ1, τ1, g1, e1, k⟩ := k
    rw [e1]
    exact ⟨κ1, τ1, g1, rfl, k⟩
end
theorem fr_run {N : Nat} {b b2 : MS} (k : VM b b2) : FR (runF N b) (runF N b2) := by
  intro κ g s l m V q
  have t : TR κ g (l.map some ++ List.replicate (N - l.length) none) (m.map some ++ List.replicate (N - m.length) none) := by
    refine ⟨by simp [q.length], fun i v hv => ?_⟩
    have hi : i < (m.map some).length := by
      by_cases hi : i < (m.map some).length
      · exact hi
      · rw [List.getElem?_append_right (by omega), List.getElem?_replicate] at hv
        split at hv <;> cases hv
    rw [List.getElem?_append_left hi, List.getElem?_map] at hv
    cases e : m[i]? with
    | none => rw [e] at hv; cases hv
    | some w =>
      rw [e] at hv
      cases hv
      obtain ⟨d, h1, h2⟩ := q.get e
      refine ⟨d, ?_, h2⟩
      rw [List.getElem?_append_left (by rw [List.length_map, q.length]; simpa using hi), List.getElem?_map, h1]
      rfl
  have h := k κ g s _ _ V t
  unfold runF
  generalize b2 _ s = r2 at h
  cases r2 with
  | nx τ' s' =>
    obtain ⟨κ1, τ1, g1, e1, ev, V1, _⟩ := h
    rw [e1]
    exact .ok2 ev V1 .non
  | rt v s' =>
    obtain ⟨κ1, τ1, g1, e1, ev, V1, q1⟩ := h
    rw [e1]
    exact .ok2 ev V1 q1
  | ex x τ' s' =>
    obtain ⟨κ1, x1, τ1, g1, e1, ev, V1, _, q1⟩ := h
    rw [e1]
    exact ⟨κ1, x1, g1, rfl, ev, V1, q1⟩
  | _ => trivial
theorem fr_bad {f : List D → M D} : FR f (fun _ _ => .bad) := fun κ g s l m V q => .bad
mutual
def D.mr (h : Nat → D) : D → D
  | .ref n => h n
  | .tup l => .tup (D.mrs h l)
  | .kl l => .kl (D.mrs h l)
  | .plst l => .plst (D.mrs h l)
  | .pdct l => .pdct (D.mrp h l)
  | .pobj c l => .pobj c (D.mrf h l)
  | .non => .non
  | .bl b => .bl b
  | .int i => .int i
  | .str s => .str s
def D.mrs (h : Nat → D) : List D → List D
  | [] => []
  | d :: l => D.mr h d :: D.mrs h l
def D.mrp (h : Nat → D) : List (D × D) → List (D × D)
  | [] => []
  | (k, d) :: l => (D.mr h k, D.mr h d) :: D.mrp h l
def D.mrf (h : Nat → D) : List (Str × D) → List (Str × D)
  | [] => []
  | (k, d) :: l => (k, D.mr h d) :: D.mrf h l
end
mutual
/-- all numbers in it are below N -/
def D.lo (N : Nat) : D → Bool
  | .ref n => decide (n < N)
  | .tup l => D.los N l
  | .kl l => D.los N l
  | .plst l => D.los N l
  | .pdct l => D.lop N l
  | .pobj _ l => D.lof N l
  | .non => true
  | .bl _ => true
  | .int _ => true
  | .str _ => true
def D.los (N : Nat) : List D → Bool
  | [] => true
  | d :: l => D.lo N d && D.los N l
def D.lop (N : Nat) : List (D × D) → Bool
  | [] => true
  | (k, d) :: l => D.lo N k && (D.lo N d && D.lop N l)
def D.lof (N : Nat) : List (Str × D) → Bool
  | [] => true
  | (_, d) :: l => D.lo N d && D.lof N l
end
def fzR (s : G) (N : Nat) : Nat → Nat → D
  | 0, i => .ref i
  | k + 1, i => if i < N then .ref i else match s[i]? with
    | some (.lst l) => .plst (D.mrs (fzR s N k) l)
    | some (.dct _ l) => .pdct (D.mrp (fzR s N k) l)
    | some (.ins c l) => .pobj c (D.mrf (fzR s N k) l)
    | _ => .ref i
def fzD (s : G) (N : Nat) : D → D := D.mr (fzR s N 5)
def fzO (s : G) (N : Nat) : Ob → Ob
  | .lst l => .lst (D.mrs (fzR s N 5) l)
  | .rol l => .rol l
  | .dct k l => .dct k (D.mrp (fzR s N 5) l)
  | .ins c l => .ins c (D.mrf (fzR s N 5) l)
def Ob.lo (N : Nat) : Ob → Bool
  | .lst l => D.los N l
  | .rol _ => true
  | .dct _ l => D.lop N l
  | .ins _ l => D.lof N l
def zRes (N : Nat) : Res D → Res D
  | .ok v s => ck ((fzD s N v).lo N = true ∧ ((s.take N).map (fzO s N)).all (Ob.lo N) = true) (.ok (fzD s N v) ((s.take N).map (fzO s N)))
  | .exc e s => ck (D.lof N (D.mrf (fzR s N 5) e.fs) = true ∧ ((s.take N).map (fzO s N)).all (Ob.lo N) = true) (.exc ⟨e.cls, D.mrf (fzR s N 5) e.fs⟩ ((s.take N).map (fzO s N)))
  | .bad => .bad
def zF (f : List D → M D) : List D → M D := fun l s => zRes s.length (f l s)
section
variable {κ κ' : List Nat} {g g' s' : G} {N : Nat}
theorem Den.fz (V : VS κ' g' s') (hN : κ.length = N) (hp : ∃ new, κ' = κ ++ new) : ∀ (k : Nat),
    (∀ {d v : D}, Den κ' g' d v → (D.mr (fzR s' N k) v).lo N = true → Den κ g' d (D.mr (fzR s' N k) v)) ∧ (∀ {d v : List D}, Dens κ' g' d v → D.los N (D.mrs (fzR s' N k) v) = true → Dens κ g' d (D.mrs (fzR s' N k) v)) ∧
    (∀ {d v : List (D × D)}, Denp κ' g' d v → D.lop N (D.mrp (fzR s' N k) v) = true → Denp κ g' d (D.mrp (fzR s' N k) v)) ∧ (∀ {d v : List (Str × D)}, Denf κ' g' d v → D.lof N (D.mrf (fzR s' N k) v) = true → Denf κ g' d (D.mrf (fzR s' N k) v)) := by
  obtain ⟨new, rfl⟩ := hp
  have low : ∀ {i n : Nat}, (κ ++ new)[i]? = some n → i < N → κ[i]? = some n := fun h hi => by
    rw [List.getElem?_append_left (by omega)] at h
    exact h
  have nin : ∀ {n : Nat}, n ∉ κ ++ new → n ∉ κ := fun h z => h (List.mem_append_left _ z)
  have high : ∀ {i n : Nat}, (κ ++ new)[i]? = some n → ¬ i < N → n ∉ κ := fun h hi z => by
    obtain ⟨j, hj, e⟩ := List.getElem_of_mem z
    have := nodup_ix V.nod h (j := j) (by rw [List.getElem?_append_left hj, List.getElem?_eq_getElem hj, e])
    omega
  have step : ∀ (k : Nat) (cell : ∀ {n i : Nat}, (κ ++ new)[i]? = some n → (fzR s' N k i).lo N = true → Den κ g' (.ref n) (fzR s' N k i)),
    (∀ {d v : D}, Den (κ ++ new) g' d v → (D.mr (fzR s' N k) v).lo N = true → Den κ g' d (D.mr (fzR s' N k) v)) ∧ (∀ {d v : List D}, Dens (κ ++ new) g' d v → D.los N (D.mrs (fzR s' N k) v) = true → Dens κ g' d (D.mrs (fzR s' N k) v)) ∧
    (∀ {d v : List (D × D)}, Denp (κ ++ new) g' d v → D.lop N (D.mrp (fzR s' N k) v) = true → Denp κ g' d (D.mrp (fzR s' N k) v)) ∧ (∀ {d v : List (Str × D)}, Denf (κ ++ new) g' d v → D.lof N (D.mrf (fzR s' N k) v) = true → Denf κ g' d (D.mrf (fzR s' N k) v)) := fun k cell => by
    refine ⟨?a, ?b, ?c, ?d⟩
    case a =>
      intro d v h
      exact Den.rec (motive_1 := fun d v _ => (D.mr (fzR s' N k) v).lo N = true → Den κ g' d (D.mr (fzR s' N k) v)) (motive_2 := fun d v _ => D.los N (D.mrs (fzR s' N k) v) = true → Dens κ g' d (D.mrs (fzR s' N k) v))
        (motive_3 := fun d v _ => D.lop N (D.mrp (fzR s' N k) v) = true → Denp κ g' d (D.mrp (fzR s' N k) v)) (motive_4 := fun d v _ => D.lof N (D.mrf (fzR s' N k) v) = true → Denf κ g' d (D.mrf (fzR s' N k) v))
        (fun _ => .non) (fun b _ => .bl b) (fun i _ => .int i) (fun s _ => .str s) (fun _ ih e => .tup (ih e)) (fun _ ih e => .kl (ih e)) (fun h e => cell h e) (fun h1 h2 _ ih e => .lst (nin h1) h2 (ih e)) (fun h1 h2 _ ih e => .dct (nin h1) h2 (ih e)) (fun h1 h2 _ ih e => .obj (nin h1) h2 (ih e))
        (fun _ => .nil) (fun _ _ i1 i2 e => by obtain ⟨e1, e2⟩ := (Bool.and_eq_true _ _).mp (show (_ && _) = true from e); exact .cons (i1 e1) (i2 e2))
        (fun _ => .nil) (fun _ _ _ i1 i2 i3 e => by obtain ⟨e1, e2⟩ := (Bool.and_eq_true _ _).mp (show (_ && _) = true from e); obtain ⟨e2, e3⟩ := (Bool.and_eq_true _ _).mp e2; exact .cons (i1 e1) (i2 e2) (i3 e3))
        (fun _ => .nil) (fun _ _ i1 i2 e => by obtain ⟨e1, e2⟩ := (Bool.and_eq_true _ _).mp (show (_ && _) = true from e); exact .cons (i1 e1) (i2 e2)) h
    case b =>
      intro d v h
      exact Dens.rec (motive_1 := fun d v _ => (D.mr (fzR s' N k) v).lo N = true → Den κ g' d (D.mr (fzR s' N k) v)) (motive_2 := fun d v _ => D.los N (D.mrs (fzR s' N k) v) = true → Dens κ g' d (D.mrs (fzR s' N k) v))
        (motive_3 := fun d v _ => D.lop N (D.mrp (fzR s' N k) v) = true → Denp κ g' d (D.mrp (fzR s' N k) v)) (motive_4 := fun d v _ => D.lof N (D.mrf (fzR s' N k) v) = true → Denf κ g' d (D.mrf (fzR s' N k) v))
        (fun _ => .non) (fun b _ => .bl b) (fun i _ => .int i) (fun s _ => .str s) (fun _ ih e => .tup (ih e)) (fun _ ih e => .kl (ih e)) (fun h e => cell h e) (fun h1 h2 _ ih e => .lst (nin h1) h2 (ih e)) (fun h1 h2 _ ih e => .dct (nin h1) h2 (ih e)) (fun h1 h2 _ ih e => .obj (nin h1) h2 (ih e))
        (fun _ => .nil) (fun _ _ i1 i2 e => by obtain ⟨e1, e2⟩ := (Bool.and_eq_true _ _).mp (show (_ && _) = true from e); exact .cons (i1 e1) (i2 e2))
        (fun _ => .nil) (fun _ _ _ i1 i2 i3 e => by obtain ⟨e1, e2⟩ := (Bool.and_eq_true _ _).mp (show (_ && _) = true from e); obtain ⟨e2, e3⟩ := (Bool.and_eq_true _ _).mp e2; exact .cons (i1 e1) (i2 e2) (i3 e3))
        (fun _ => .nil) (fun _ _ i1 i2 e => by obtain ⟨e1, e2⟩ := (Bool.and_eq_true _ _).mp (show (_ && _) = true from e); exact .cons (i1 e1) (i2 e2)) h
    case c =>
      intro d v h
      exact Denp.rec (motive_1 := fun d v _ => (D.mr (fzR s' N k) v).lo N = true → Den κ g' d (D.mr (fzR s' N k) v)) (motive_2 := fun d v _ => D.los N (D.mrs (fzR s' N k) v) = true → Dens κ g' d (D.mrs (fzR s' N k) v))
        (motive_3 := fun d v _ => D.lop N (D.mrp (fzR s' N k) v) = true → Denp κ g' d (D.mrp (fzR s' N k) v)) (motive_4 := fun d v _ => D.lof N (D.mrf (fzR s' N k) v) = true → Denf κ g' d (D.mrf (fzR s' N k) v))
        (fun _ => .non) (fun b _ => .bl b) (fun i _ => .int i) (fun s _ => .str s) (fun _ ih e => .tup (ih e)) (fun _ ih e => .kl (ih e)) (fun h e => cell h e) (fun h1 h2 _ ih e => .lst (nin h1) h2 (ih e)) (fun h1 h2 _ ih e => .dct (nin h1) h2 (ih e)) (fun h1 h2 _ ih e => .obj (nin h1) h2 (ih e))
        (fun _ => .nil) (fun _ _ i1 i2 e => by obtain ⟨e1, e2⟩ := (Bool.and_eq_true _ _).mp (show (_ && _) = true from e); exact .cons (i1 e1) (i2 e2))
        (fun _ => .nil) (fun _ _ _ i1 i2 i3 e => by obtain ⟨e1, e2⟩ := (Bool.and_eq_true _ _).mp (show (_ && _) = true from e); obtain ⟨e2, e3⟩ := (Bool.and_eq_true _ _).mp e2; exact .cons (i1 e1) (i2 e2) (i3 e3))
        (fun _ => .nil) (fun _ _ i1 i2 e => by obtain ⟨e1, e2⟩ := (Bool.and_eq_true _ _).mp (show (_ && _) = true from e); exact .cons (i1 e1) (i2 e2)) h
    case d =>
      intro d v h
      exact Denf.rec (motive_1 := fun d v _ => (D.mr (fzR s' N k) v).lo N = true → Den κ g' d (D.mr (fzR s' N k) v)) (motive_2 := fun d v _ => D.los N (D.mrs (fzR s' N k) v) = true → Dens κ g' d (D.mrs (fzR s' N k) v))
        (motive_3 := fun d v _ => D.lop N (D.mrp (fzR s' N k) v) = true → Denp κ g' d (D.mrp (fzR s' N k) v)) (motive_4 := fun d v _ => D.lof N (D.mrf (fzR s' N k) v) = true → Denf κ g' d (D.mrf (fzR s' N k) v))
        (fun _ => .non) (fun b _ => .bl b) (fun i _ => .int i) (fun s _ => .str s) (fun _ ih e => .tup (ih e)) (fun _ ih e => .kl (ih e)) (fun h e => cell h e) (fun h1 h2 _ ih e => .lst (nin h1) h2 (ih e)) (fun h1 h2 _ ih e => .dct (nin h1) h2 (ih e)) (fun h1 h2 _ ih e => .obj (nin h1) h2 (ih e))
        (fun _ => .nil) (fun _ _ i1 i2 e => by obtain ⟨e1, e2⟩ := (Bool.and_eq_true _ _).mp (show (_ && _) = true from e); exact .cons (i1 e1) (i2 e2))
        (fun _ => .nil) (fun _ _ _ i1 i2 i3 e => by obtain ⟨e1, e2⟩ := (Bool.and_eq_true _ _).mp (show (_ && _) = true from e); obtain ⟨e2, e3⟩ := (Bool.and_eq_true _ _).mp e2; exact .cons (i1 e1) (i2 e2) (i3 e3))
        (fun _ => .nil) (fun _ _ i1 i2 e => by obtain ⟨e1, e2⟩ := (Bool.and_eq_true _ _).mp (show (_ && _) = true from e); exact .cons (i1 e1) (i2 e2)) h
  intro k
  induction k with
  | zero => exact step 0 fun {n i} h e => .cell (low h (of_decide_eq_true e))
  | succ k ih =>
    obtain ⟨_, i2, i3, i4⟩ := ih
    refine step (k + 1) fun {n i} h e => ?_
    unfold fzR at e ⊢
    by_cases hi : i < N
    · rw [if_pos hi]
      exact .cell (low h hi)
    · rw [if_neg hi] at e ⊢
      cases hs : s'[i]? with
      | none =>
        rw [hs] at e
        exact absurd (of_decide_eq_true (show decide (i < N) = true from e)) hi
      | some o =>
        rw [hs] at e
        obtain ⟨o1, h1, h2⟩ := V.ix h hs
        cases h2 with
        | lst h3 => exact .lst (high h hi) h1 (i2 h3 e)
        | dct h3 => exact .dct (high h hi) h1 (i3 h3 e)
        | ins h3 => exact .obj (high h hi) h1 (i4 h3 e)
theorem fr_z {f f2 : List D → M D} (h : FR f f2) : FR f (zF f2) := by
  intro κ g s l m V q
  have k := h κ g s l m V q
  unfold zF
  generalize f2 m s = r2 at k
  have main : ∀ {κ' : List Nat} {g' s' : G}, Evo κ g κ' g' → VS κ' g' s' → ((s'.take s.length).map (fzO s' s.length)).all (Ob.lo s.length) = true → Evo κ g κ g' ∧ VS κ g' ((s'.take s.length).map (fzO s' s.length)) := fun {κ' g' s'} e V' hc => by
    obtain ⟨k2, k3, k4, k5⟩ := Den.fz V' (N := s.length) V.len ⟨_, e.pre.choose_spec.1⟩ 5 |>.imp id id
    have hl : s.length ≤ s'.length := by
      obtain ⟨⟨new, rfl, _⟩, _⟩ := e
      rw [← V'.len, ← V.len]
      simp
    refine ⟨⟨⟨[], by simp, by simp⟩, e.len, e.old, e.lck⟩, ⟨by simp [V.len]; omega, V.nod, fun i o hi => ?_⟩⟩
    have hi' := lt_of_get hi
    rw [List.length_map, List.length_take] at hi'
    rw [List.getElem?_map, List.getElem?_take_of_lt (by omega)] at hi
    obtain ⟨o', h1, rfl⟩ := Option.map_eq_some_iff.mp hi
    obtain ⟨n, o1, h2, h3, h4⟩ := V'.obs i o' h1
    have hk : κ[i]? = some n := by
      obtain ⟨⟨new, rfl, _⟩, _⟩ := e
      rw [List.getElem?_append_left (by rw [V.len]; omega)] at h2
      exact h2
    have hc' := List.all_eq_true.mp hc (fzO s' s.length o') (List.mem_map.mpr ⟨o', List.mem_of_getElem? (i := i) (by rw [List.getElem?_take_of_lt (by omega)]; exact h1), rfl⟩)
    refine ⟨n, o1, hk, h3, ?_⟩
    cases h4 with
    | lst h5 => exact .lst (k3 h5 hc')
    | dct h5 => exact .dct (k4 h5 hc')
    | ins h5 => exact .ins (k5 h5 hc')
  cases r2 with
  | ok v s' =>
    obtain ⟨κ', d, g', e1, e, V', q1⟩ := k
    unfold zRes
    dsimp only
    by_cases hc : (fzD s' s.length v).lo s.length = true ∧ ((s'.take s.length).map (fzO s' s.length)).all (Ob.lo s.length) = true
    · rw [ck_pos hc]
      obtain ⟨m1, m2⟩ := main e V' hc.2
      exact ⟨κ, d, g', e1, m1, m2, (Den.fz V' (N := s.length) V.len ⟨_, e.pre.choose_spec.1⟩ 5).1 q1 hc.1⟩
    · unfold ck
      rw [if_neg hc]
      exact .bad
  | exc x s' =>
    obtain ⟨κ', d, g', e1, e, V', q1⟩ := k
    unfold zRes
    dsimp only
    by_cases hc : D.lof s.length (D.mrf (fzR s' s.length 5) x.fs) = true ∧ ((s'.take s.length).map (fzO s' s.length)).all (Ob.lo s.length) = true
    · rw [ck_pos hc]
      obtain ⟨m1, m2⟩ := main e V' hc.2
      exact ⟨κ, d, g', e1, m1, m2, q1.1, (Den.fz V' (N := s.length) V.len ⟨_, e.pre.choose_spec.1⟩ 5).2.2.2 q1.2 hc.1⟩
    · unfold ck
      rw [if_neg hc]
      exact .bad
  | bad => exact .bad
end
end RL
namespace RL
open PySem L2
def vOpI (c : Str) (mf : List D → M D) : D → D → M D := fun x y s => ck (visIns [c] x s ∧ visIns [c] y s) (noX (mf [x, y] s))
def vInI (c : Str) (f : Bool → Bool) (mf : List D → M D) : D → D → M D := fun x y s => ck (visIns [c] y s) ((noX (mf [y, x] s)).bind (onB f))
def vIxI (c : Str) (mf : List D → M D) : D → D → M D := fun x k s => ck (visIns [c] x s) (mf [x, k] s)
section
variable {f f2 : List D → M D} {c : Str}
theorem f2_opI (h : FR f f2) : F2 (fOpI c f) (vOpI c f2) := fun κ g s x y x' y' V hx hy => .ck fun ⟨c1, c2⟩ => ⟨⟨isIns_of V hx c1, isIns_of V hy c2⟩, (h κ g s _ _ V (.cons hx (.cons hy .nil))).noX⟩
theorem f2_inI {b : Bool → Bool} (h : FR f f2) : F2 (fInI c b f) (vInI c b f2) := fun κ g s x y x' y' V hx hy => .ck fun c2 => ⟨isIns_of V hy c2, (h κ g s _ _ V (.cons hy (.cons hx .nil))).noX.thn fun κ1 g1 s1 d v e1 V1 q1 => by
  cases q1 with
  | bl z => exact .ok V1 (.bl _)
  | _ => exact .bad⟩
theorem f2_ixI (h : FR f f2) : F2 (fIxI c f) (vIxI c f2) := fun κ g s x y x' y' V hx hy => .ck fun c2 => ⟨isIns_of V hx c2, h κ g s _ _ V (.cons hx (.cons hy .nil))⟩
theorem fr_cm (h : FR f f2) : FR (fCm f) (fCm f2) := fun κ g s l m V q => (h κ g s l m V q).noX
theorem fr_runC {N : Nat} {b b2 : MS} (k : VM b b2) : FR (runC N b) (runC N b2) := by
  intro κ g s l m V q
  unfold runC
  rw [q.length]
  refine .ck fun c => ⟨c, ?_⟩
  have t : TR κ g (none :: some (.tup l) :: List.replicate (N - 2) none) (none :: some (.tup m) :: List.replicate (N - 2) none) := by
    refine ⟨by simp, fun i v hv => ?_⟩
    match i, hv with
    | 0, hv => cases hv
    | 1, hv => cases hv; exact ⟨_, rfl, .tup q⟩
    | i + 2, hv =>
      have hv : (List.replicate (N - 2) (none : Option D))[i]? = some (some v) := hv
      rw [List.getElem?_replicate] at hv
      split at hv <;> cases hv
  have h := k κ g s _ _ V t
  generalize b2 _ s = r2 at h
  cases r2 with
  | nx τ' s' =>
    obtain ⟨κ1, τ1, g1, e1, ev, V1, _⟩ := h
    rw [e1]
    exact .ok2 ev V1 .non
  | rt v s' =>
    obtain ⟨κ1, τ1, g1, e1, ev, V1, q1⟩ := h
    rw [e1]
    exact .ok2 ev V1 q1
  | ex x τ' s' =>
    obtain ⟨κ1, x1, τ1, g1, e1, ev, V1, _, q1⟩ := h
    rw [e1]
    exact ⟨κ1, x1, g1, rfl, ev, V1, q1⟩
  | _ => exact .bad
end
section
variable {own : List Nat} {t : Tg} {mt mt2 : MT} {me me2 mk mk2 m m2 : ME} {B b : Src → ME} {mi mi2 : MI}
end
end RL
namespace RL
open PySem L2
theorem wts_fl : ∀ {l : List D}, (∀ d ∈ l, d.fl = true) → D.fls l = true := fun {l} h => by
  rw [fls_all]
  exact List.all_eq_true.mpr h
section
variable {s s1 s2 : G} {τ : T} {n : Nat} {d x y : D}
theorem vls_ref {l : List D} (h : s[n]? = some (.lst l)) : vls s (.ref n) = some l := by
  unfold vls
  dsimp only
  rw [h]
theorem vdc_ref {k : Bool} {l : List (D × D)} (h : s[n]? = some (.dct k l)) : vdc s (.ref n) = some l := by
  unfold vdc
  dsimp only
  rw [h]
theorem vob_ref {c : Str} {l : List (Str × D)} (h : s[n]? = some (.ins c l)) : vob s (.ref n) = some (c, l) := by
  unfold vob
  dsimp only
  rw [h]
theorem vit_dc {l : List (D × D)} (h : vdc s x = some l) : vit s x = none := by
  unfold vdc at h
  split at h
  · rfl
  · split at h
    · rename_i hn
      unfold vit
      dsimp only
      rw [hn]
    · cases h
  · cases h
section
variable {K : Type} [BEq K] [LawfulBEq K] {f : K → D} {l : List (K × D)} {k : K}
theorem in_vd (F : KF f) (h : vdc s x = some (kd f l)) : vIn (f k) x s = .ok (.bl (decide (k ∈ l.map (·.1)))) s := by
  unfold vIn
  rw [vit_dc h, h]
  dsimp only
  rw [ck_pos (kd_ok F k l), kd_get F, lk_isSome]
theorem notin_vd (F : KF f) (h : vdc s x = some (kd f l)) : vNot (f k) x s = .ok (.bl (!decide (k ∈ l.map (·.1)))) s := by
  unfold vNot
  rw [in_vd F h]
theorem subs_vd (F : KF f) (h : vdc s x = some (kd f l)) (hd : l.lookup k = some d) : vSubs x (f k) s = .ok d s := by
  unfold vSubs
  rw [vit_dc h]
  dsimp only
  rw [h]
  dsimp only
  rw [ck_pos (kd_ok F k l), kd_get F, hd]
theorem list_vd (h : vdc s x = some (kd f l)) : vList [x] s = .ok (.plst ((l.map (·.1)).map f)) s := by
  unfold vList
  dsimp only
  rw [vit_dc h]
  dsimp only
  rw [h]
  dsimp only
  rw [kd_keys]
theorem in_vl (F : KF f) {l : List K} (h : vit s y = some (l.map f)) : vIn (f k) y s = .ok (.bl (decide (k ∈ l))) s := by
  unfold vIn
  rw [h]
  dsimp only
  rw [ck_pos ⟨F.gr k, by rw [List.all_map]; exact List.all_eq_true.mpr fun _ _ => F.gr _, by rw [List.all_map]; exact List.all_eq_true.mpr fun _ _ => F.cm _ _⟩, decide_eq_decide.mpr (show f k ∈ l.map f ↔ k ∈ l from ⟨fun h => by
    obtain ⟨y, hy, e⟩ := List.mem_map.mp h
    rw [← F.inj _ _ e]
    exact hy, fun h => List.mem_map.mpr ⟨k, h, rfl⟩⟩)]
theorem notin_vl (F : KF f) {l : List K} (h : vit s y = some (l.map f)) : vNot (f k) y s = .ok (.bl (!decide (k ∈ l))) s := by
  unfold vNot
  rw [in_vl F h]
end
theorem in_vs {l : List (Str × D)} {k : Str} (h : vdc s x = some (sd l)) : vIn (.str k) x s = .ok (.bl (decide (k ∈ l.map (·.1)))) s := in_vd kfS h
theorem notin_vs {l : List (Str × D)} {k : Str} (h : vdc s x = some (sd l)) : vNot (.str k) x s = .ok (.bl (!decide (k ∈ l.map (·.1)))) s := notin_vd kfS h
theorem subs_vs {l : List (Str × D)} {k : Str} (h : vdc s x = some (sd l)) (hd : l.lookup k = some d) : vSubs x (.str k) s = .ok d s := subs_vd kfS h hd
theorem inl_vs {l : List Str} {k : Str} (h : vit s y = some (l.map D.str)) : vIn (.str k) y s = .ok (.bl (decide (k ∈ l))) s := in_vl kfS h
theorem notinl_vs {l : List Str} {k : Str} (h : vit s y = some (l.map D.str)) : vNot (.str k) y s = .ok (.bl (!decide (k ∈ l))) s := notin_vl kfS h
theorem subs_vl {l : List D} {i : Int} (h : vit s x = some l) (hd : L2.atI l i = some d) : vSubs x (.int i) s = .ok d s := by
  unfold vSubs
  rw [h]
  dsimp only
  rw [hd]
theorem len_vl {l : List D} (h : vit s x = some l) : vLen [x] s = .ok (.int (l.length : Nat)) s := by
  unfold vLen
  dsimp only
  rw [h]
theorem tuple_vl {l : List D} (h : vit s x = some l) : vTuple [x] s = .ok (.tup l) s := by
  unfold vTuple
  dsimp only
  rw [h]
theorem lst_v {l : List D} (h : l.length ≤ 1000) : vLst l s = .ok (.plst l) s := ck_pos h _
theorem plus_vl {l m : List D} (hx : vls s x = some l) (hy : vls s y = some m) (hl : l.length + m.length ≤ 100000) : vPlus x y s = .ok (.plst (l ++ m)) s := by
  unfold vPlus
  split
  · cases hx
  · cases hx
  · rw [hx, hy]
    exact ck_pos hl _
theorem plusI_v (i j : Int) : vPlus (.int i) (.int j) s = .ok (.int (i + j)) s := rfl
theorem eqS_v (i j : Str) : vEq (.str i) (.str j) s = .ok (.bl (decide (i = j))) s := by
  have : vEq (.str i) (.str j) s = ck (gr 20 (.str i) = true ∧ gr 20 (.str j) = true ∧ cm (.str i) (.str j) = true) (.ok (.bl (decide (D.str i = D.str j))) s) := rfl
  rw [this, ck_pos ⟨rfl, rfl, rfl⟩]
  simp
theorem eqI_v (i j : Int) : vEq (.int i) (.int j) s = .ok (.bl (decide (i = j))) s := by
  have : vEq (.int i) (.int j) s = ck (gr 20 (.int i) = true ∧ gr 20 (.int j) = true ∧ cm (.int i) (.int j) = true) (.ok (.bl (decide (D.int i = D.int j))) s) := rfl
  rw [this, ck_pos ⟨rfl, rfl, rfl⟩]
  simp
theorem ne_of_eq {b : Bool} (h : vEq x y s = .ok (.bl b) s) : vNe x y s = .ok (.bl (!b)) s := by
  unfold vNe
  rw [h]
theorem neI_v (i j : Int) : vNe (.int i) (.int j) s = .ok (.bl (!decide (i = j))) s := ne_of_eq (eqI_v i j)
theorem anyB {l : List D} {bs : List Bool} (h : vls s x = some l) (hb : bools l = some bs) : vAny [x] s = .ok (.bl (bs.any id)) s := by
  unfold vAny
  dsimp only
  rw [h]
  dsimp only
  rw [hb]
theorem bools_mapB {α : Type} (p : α → Bool) : ∀ l : List α, bools (l.map fun x => D.bl (p x)) = some (l.map p)
  | [] => rfl
  | a :: l => by
    show (bools (l.map fun x => D.bl (p x))).map _ = _
    rw [bools_mapB p l]
    rfl
theorem fld_v {cs : List Str} {f c : Str} {fs : List (Str × D)} (h : vob s x = some (c, fs)) (hc : c ∈ cs) (hd : fs.lookup f = some d) : vFld cs f x s = .ok d s := by
  unfold vFld
  rw [h]
  show ck _ _ = _
  rw [ck_pos hc]
  unfold optR
  rw [hd]
theorem ins_v {cs : List Str} {c : Str} {fs : List (Str × D)} (h : vob s x = some (c, fs)) (hc : c ∈ cs) : visIns cs x s := by
  unfold visIns
  rw [h]
  exact hc
theorem vprop_ok {cs : List Str} {mf : List D → M D} {o : ME} (ho : o τ s = .ok x s1) (hi : visIns cs x s1) (h : mf [x] s1 = .ok d s2) : vProp cs mf o τ s = .ok d s2 := by
  unfold vProp
  rw [ho, Res.bind_ok, ck_pos hi, h]
  rfl
theorem vbm_ok {t : Ty} {f : D → List D → M D} {o : ME} {a : MA} {l : List D} {r : Res D} (ho : o τ s = .ok x s1) (ht : vty s1 x = some t) (ha : a τ s1 = .ok l s2) (h : f x l s2 = r) : vBM t f o a τ s = r := by
  unfold vBM
  rw [ho, Res.bind_ok, ck_pos ht, ha, Res.bind_ok]
  exact h
theorem vty_ls {l : List D} (h : vls s x = some l) : vty s x = some .lst := by
  unfold vls at h
  split at h
  · rfl
  · split at h
    · rename_i hn
      unfold vty
      dsimp only
      rw [hn]
    · cases h
  · cases h
theorem vsl_ok {a : ME} {b c : MP} {u v : Option Int} {l : List D} {s3 : G} (ha : a τ s = .ok x s1) (hb : b τ s1 = .ok u s2) (hc : c τ s2 = .ok v s3) (hx : vls s3 x = some l) : vSl a b c τ s = .ok (.plst (cutD l u v)) s3 := by
  unfold vSl
  rw [ha, Res.bind_ok, hb, Res.bind_ok, hc, Res.bind_ok, hx]
/-- over things that are written by w -/
theorem vlc_w {α : Type} {own : List Nat} {mi : MI} {t : Tg} {mt : MT} {me : ME} {c : Option (Nat × Ob)} (w : α → D) (l : List α) (p : α → Bool) (f : α → D) (hi : mi τ s = .ok (l.map w, c) s1) (hc : still c s1) (h : ∀ a ∈ l, ∃ τ1, tgM t (w a) (wipeT τ own) = some τ1 ∧ mt τ1 s1 = .ok (p a) s1 ∧ (p a = true → me τ1 s1 = .ok (f a) s1)) (hl : l.length ≤ 100000) :
    vLc own mi t mt me τ s = .ok (.plst ((l.filter p).map f)) s1 := by
  have go : ∀ (l : List α) (acc : List D), (∀ a ∈ l, ∃ τ1, tgM t (w a) (wipeT τ own) = some τ1 ∧ mt τ1 s1 = .ok (p a) s1 ∧ (p a = true → me τ1 s1 = .ok (f a) s1)) → acc.length + l.length ≤ 100000 → lcGo c t mt me (wipeT τ own) (l.map w) acc s1 = .ok (acc ++ (l.filter p).map f) s1 := by
    intro l
    induction l with
    | nil =>
      intro acc _ _
      unfold lcGo
      simp only [List.map_nil]
      rw [if_pos hc]
      simp
    | cons a l ih =>
      intro acc h hl
      obtain ⟨τ1, h1, h2, h3⟩ := h a List.mem_cons_self
      rw [List.length_cons] at hl
      rw [List.map_cons]
      unfold lcGo
      rw [if_pos hc, h1]
      dsimp only
      rw [h2]
      cases hp : p a with
      | true =>
        dsimp only
        rw [h3 hp]
        dsimp only
        rw [if_pos (by omega), ih _ (fun b hb => h b (List.mem_cons_of_mem _ hb)) (by rw [List.length_append, List.length_singleton]; omega), List.filter_cons_of_pos hp]
        simp
      | false =>
        dsimp only
        rw [ih _ (fun b hb => h b (List.mem_cons_of_mem _ hb)) (by omega), List.filter_cons_of_neg (by rw [hp]; simp)]
  unfold vLc
  rw [hi, Res.bind_ok]
  rw [go l [] h (by simpa using hl), Res.bind_ok, List.nil_append]
theorem vseq_t {m : ME} {l : List D} (h : m τ s = .ok (.tup l) s1) : vSeqI m τ s = .ok (l, none) s1 := by
  unfold vSeqI
  rw [h]
  rfl
theorem vseq_p {m : ME} {l : List D} (h : m τ s = .ok (.plst l) s1) : vSeqI m τ s = .ok (l, none) s1 := by
  unfold vSeqI
  rw [h]
  rfl
theorem call_v {n : Nat} {es : List D} {mf : List D → M D} {l : List D} {r : Res D} (hn : l.length = n) (h : mf (l ++ es) s = r) : fCall n es mf l s = r := call_ok hn h
end
mutual
theorem mr_lo {h : Nat → D} {N : Nat} (hh : ∀ i, i < N → h i = .ref i) : ∀ {v : D}, v.lo N = true → D.mr h v = v
  | .ref n, e => hh n (of_decide_eq_true e)
  | .tup l, e => by rw [D.mr, mrs_lo hh e]
  | .kl l, e => by rw [D.mr, mrs_lo hh e]
  | .plst l, e => by rw [D.mr, mrs_lo hh e]
  | .pdct l, e => by rw [D.mr, mrp_lo hh e]
  | .pobj c l, e => by rw [D.mr, mrf_lo hh e]
  | .non, _ => rfl
  | .bl _, _ => rfl
  | .int _, _ => rfl
  | .str _, _ => rfl
theorem mrs_lo {h : Nat → D} {N : Nat} (hh : ∀ i, i < N → h i = .ref i) : ∀ {v : List D}, D.los N v = true → D.mrs h v = v
  | [], _ => rfl
  | d :: l, e => by
    obtain ⟨e1, e2⟩ := (Bool.and_eq_true _ _).mp (show (_ && _) = true from e)
    rw [D.mrs, mr_lo hh e1, mrs_lo hh e2]
theorem mrp_lo {h : Nat → D} {N : Nat} (hh : ∀ i, i < N → h i = .ref i) : ∀ {v : List (D × D)}, D.lop N v = true → D.mrp h v = v
  | [], _ => rfl
  | (k, d) :: l, e => by
    obtain ⟨e1, e2⟩ := (Bool.and_eq_true _ _).mp (show (_ && _) = true from e)
    obtain ⟨e2, e3⟩ := (Bool.and_eq_true _ _).mp e2
    rw [D.mrp, mr_lo hh e1, mr_lo hh e2, mrp_lo hh e3]
theorem mrf_lo {h : Nat → D} {N : Nat} (hh : ∀ i, i < N → h i = .ref i) : ∀ {v : List (Str × D)}, D.lof N v = true → D.mrf h v = v
  | [], _ => rfl
  | (k, d) :: l, e => by
    obtain ⟨e1, e2⟩ := (Bool.and_eq_true _ _).mp (show (_ && _) = true from e)
    rw [D.mrf, mr_lo hh e1, mrf_lo hh e2]
end
theorem fzR_low {s : G} {N k i : Nat} (h : i < N) : fzR s N k i = .ref i := by
  cases k with
  | zero => rfl
  | succ k =>
    unfold fzR
    rw [if_pos h]
theorem fzD_lo {s : G} {N : Nat} {v : D} (h : v.lo N = true) : fzD s N v = v := mr_lo (fun _ hi => fzR_low hi) h
theorem fzO_lo {s : G} {N : Nat} {o : Ob} (h : o.lo N = true) : fzO s N o = o := by
  cases o with
  | lst l => unfold fzO; dsimp only; rw [mrs_lo (h := fzR s N 5) (fun _ hi => fzR_low hi) h]
  | rol l => rfl
  | dct k l => unfold fzO; dsimp only; rw [mrp_lo (h := fzR s N 5) (fun _ hi => fzR_low hi) h]
  | ins c l => unfold fzO; dsimp only; rw [mrf_lo (h := fzR s N 5) (fun _ hi => fzR_low hi) h]
mutual
theorem fl_lo {N : Nat} : ∀ {v : D}, v.fl = true → v.lo N = true
  | .ref n, e => by simp [D.fl] at e
  | .tup l, e => fls_los (v := l) e
  | .kl l, e => by simp [D.fl] at e
  | .plst l, e => by simp [D.fl] at e
  | .pdct l, e => by simp [D.fl] at e
  | .pobj c l, e => by simp [D.fl] at e
  | .non, _ => rfl
  | .bl _, _ => rfl
  | .int _, _ => rfl
  | .str _, _ => rfl
theorem fls_los {N : Nat} : ∀ {v : List D}, D.fls v = true → D.los N v = true
  | [], _ => rfl
  | d :: l, e => by
    rw [D.fls, Bool.and_eq_true] at e
    rw [D.los, fl_lo e.1, fls_los e.2]
    rfl
end
/-- a store whose things name only things that stand in it -/
def GW (s : G) : Prop := ∀ o ∈ s, Ob.lo s.length o = true
theorem map_fz {s t : G} {N : Nat} (h : ∀ o ∈ t, Ob.lo N o = true) : t.map (fzO s N) = t := by
  induction t with
  | nil => rfl
  | cons o t ih => rw [List.map_cons, fzO_lo (h o List.mem_cons_self), ih fun o ho => h o (List.mem_cons_of_mem _ ho)]
theorem all_lo {t : G} {N : Nat} (h : ∀ o ∈ t, Ob.lo N o = true) : t.all (Ob.lo N) = true := List.all_eq_true.mpr h
/-- a def that changes nothing but makes things of its own -/
theorem zF_ok {f : List D → M D} {l : List D} {s X : G} {v v' : D} (hw : GW s) (h : f l s = .ok v (s ++ X)) (hv : fzD (s ++ X) s.length v = v') (hl : v'.lo s.length = true) : zF f l s = .ok v' s := by
  unfold zF
  rw [h]
  show ck _ _ = _
  have ht : (s ++ X).take s.length = s := by simp
  rw [ht, map_fz hw, hv]
  exact ck_pos ⟨hl, all_lo hw⟩ _
theorem zF_same {f : List D → M D} {l : List D} {s : G} {v : D} (hw : GW s) (h : f l s = .ok v s) (hl : v.lo s.length = true) : zF f l s = .ok v s := by
  refine zF_ok (X := []) hw (by rw [List.append_nil]; exact h) (fzD_lo hl) hl
theorem zF_exc {f : List D → M D} {l : List D} {s X : G} {c : Str} {fs : List (Str × D)} (hw : GW s) (h : f l s = .exc ⟨c, fs⟩ (s ++ X)) (hl : D.lof s.length fs = true) : zF f l s = .exc ⟨c, fs⟩ s := by
  unfold zF
  rw [h]
  show ck _ _ = _
  have ht : (s ++ X).take s.length = s := by simp
  rw [ht, map_fz hw, mrf_lo (h := fzR (s ++ X) s.length 5) (fun _ hi => fzR_low hi) hl]
  exact ck_pos ⟨hl, all_lo hw⟩ _
/-- its own list, as a value -/
theorem fzD_lst {s X : G} {l : List D} {n : Nat} (h : (s ++ X)[n]? = some (.lst l)) (hn : s.length ≤ n) (hl : D.los s.length l = true) : fzD (s ++ X) s.length (.ref n) = .plst l := by
  show fzR (s ++ X) s.length 5 n = _
  unfold fzR
  rw [if_neg (by omega), h]
  dsimp only
  rw [mrs_lo (h := fzR (s ++ X) s.length 4) (fun _ hi => fzR_low hi) hl]
end RL
namespace RL
open PySem L2
theorem Denp.tups {κ : List Nat} {g : G} : ∀ {l m : List (D × D)}, Denp κ g l m → Dens κ g (l.map tup2) (m.map tup2)
  | _, _, .nil => .nil
  | _, _, .cons h q t => .cons (.tup (.cons h (.cons q .nil))) (Denp.tups t)
section
variable {own : List Nat} {t : Tg} {mt mt2 : MT} {me me2 m m2 : ME}
end
end RL
namespace RL
open PySem L2
def vIdx : D → List D → M D := fun x l s => match vls s x with
  | some ys => (match l with
    | [.str y] => (match ys.findIdx? (eqTx y) with
      | some j => ck (ys.all isTx = true) (.ok (.int (j : Nat)) s)
      | none => .bad)
    | _ => .bad)
  | none => .bad
theorem dens_tx {κ : List Nat} {g : G} : ∀ {l m : List D}, Dens κ g l m → m.all isTx = true → l = m
  | _, _, .nil, _ => rfl
  | _, _, .cons q r, h => by
    rw [List.all_cons, Bool.and_eq_true] at h
    rw [dens_tx r h.2]
    cases q <;> first
      | rfl
      | exact absurd h.1 Bool.false_ne_true
theorem fb_idx : FB fIdx vIdx := by
  intro κ g s x y l m V hx hl
  unfold vIdx
  split
  · rename_i ys hy
    obtain ⟨n, l1, rfl, h1, h2⟩ := vls_den V hx hy
    split
    · cases hl with
      | cons q qn =>
        cases qn
        cases q
        split
        · rename_i j hj
          by_cases c : ys.all isTx = true
          · have e := dens_tx h2 c
            subst e
            unfold fIdx
            dsimp only
            rw [h1]
            dsimp only
            rw [hj]
            exact .ck fun c => ⟨c, .ok V (.int _)⟩
          · rw [RL.ck, if_neg c]
            trivial
        · trivial
    · trivial
  · trivial
end RL
namespace RL
open PySem L2
section
variable {own : List Nat} {t : Tg} {mt mt2 : MT} {me me2 m m2 : ME}
end
end RL
namespace RL
open PySem L2
section
variable {mg mg2 : MG} {mb mb2 : MS} {m m2 : ME}
end
end RL
namespace RL
open PySem L2
theorem fr_makeX {f f2 : List D → M D} {c : Str} {k : Nat} {es : List D} (h : FR f f2) (he : D.fls es = true := by rfl) : FR (fMakeX c k es f) (fMakeX c k es f2) := by
  intro κ g s l m V q
  unfold fMakeX
  obtain ⟨e, V', n1⟩ := V.cnt (o1 := .ins c []) (.ins .nil)
  exact RR.evo e (RR.thn (fr_call h he _ _ _ _ _ V' (.cons (.cell n1) (q.mono e))) fun κ2 g2 s2 d v e2 V2 q2 => .ck fun c => ⟨(den_non q2).mpr c, .ok V2 (.cell (e2.ix n1))⟩)
end RL
namespace RL
open PySem L2
section
variable {mk mk2 mv mv2 : ME}
end
end RL
namespace RL
open PySem L2
section
variable {own : List Nat} {t : Tg} {mt mt2 : MT} {me me2 m m2 : ME}
end
end RL
namespace RL
open PySem L2
end RL
namespace RL
open PySem L2
end RL
namespace RL
open PySem L2
end RL
namespace RL
open PySem L2
end RL
namespace RL
open PySem L2
theorem Denp.drp {κ : List Nat} {g : G} (x : Str) : ∀ {l m : List (D × D)}, Denp κ g l m → Denp κ g (RL.drp l x) (RL.drp m x)
  | _, _, .nil => .nil
  | _, _, .cons (k := a) (j := b) (d := d') (e := e') (l := l) (m := m) hk hd t => by
    have ih := Denp.drp x t
    unfold RL.drp at ih ⊢
    by_cases c : b = .str x
    · have c' : a = .str x := by
        subst c
        exact hk.flr rfl
      rw [List.filter_cons_of_neg (by simpa using c'), List.filter_cons_of_neg (by simpa using c)]
      exact ih
    · have c' : a ≠ .str x := fun z => c (by
        subst z
        exact (hk.fll rfl).symm)
      rw [List.filter_cons_of_pos (by simpa using c'), List.filter_cons_of_pos (by simpa using c)]
      exact .cons hk hd ih
end RL
namespace RL
open PySem L2
end RL
namespace My
open PySem L2 RL
def errsL : List Str := ["Taken", "Unknown"]
abbrev cs_Rule : List Str := ["Rule"]
abbrev cs_Book : List Str := ["Book"]
theorem sc_Rule_init : FnScope ["self", "stances"] ["self", "stances"] (defScope s_Rule_init) := ⟨rfl, rfl, rfl, by decide +kernel, rfl, by decide +kernel, by decide +kernel⟩
def m_Rule_init : MS := (mFldS cs_Rule "_let" (mV 0) (mUnA fTuple (mCons (mV 1) mNil)))
def f_Rule_init : List D → M D := runF 2 m_Rule_init
theorem sc_has_one_of : FnScope ["stance", "words", "word"] ["stance", "words"] (defScope s_has_one_of) := ⟨rfl, rfl, rfl, by decide +kernel, rfl, by decide +kernel, by decide +kernel⟩
def m_has_one_of : MS := (mRet (mUnA fAny (mCons (mLc ([("word", 2)].map (·.2)) (mSeqI (mV 1)) (.one 2) mYes (mOp fIn (mV 2) (mV 0))) mNil)))
def f_has_one_of : List D → M D := runF 3 m_has_one_of
theorem sc_Rule_of : FnScope ["cls", "words", "let", "stance"] ["cls", "words"] (defScope s_Rule_of) := ⟨rfl, rfl, rfl, by decide +kernel, rfl, by decide +kernel, by decide +kernel⟩
def m_Rule_of : MS := (mSeq (mAsg (mLc ([("stance", 3)].map (·.2)) (mSeqI (mC (.tup [(.tup [.str "own", .str "nested", .str "around", .str "below", .str "heir", .str "package", .str "any"]), (.tup [.str "nested", .str "below", .str "heir", .str "package", .str "any"]), (.tup [.str "around", .str "package", .str "any"]), (.tup [.str "below", .str "heir", .str "package", .str "any"]), (.tup [.str "below", .str "heir", .str "any"]), (.tup [.str "heir", .str "package", .str "any"]), (.tup [.str "heir", .str "any"]), (.tup [.str "package", .str "any"]), (.tup [.str "any"])]))) (.one 3) (mTest (mUnA (fCall 2 [] f_has_one_of) (mCons (mV 3) (mCons (mV 1) mNil)))) (mV 3)) (gN 2))
  (mRet (mUnA (fMake "Rule" 1 [] f_Rule_init) (mCons (mV 2) mNil))))
def f_Rule_of : List D → M D := runC 4 m_Rule_of
theorem sc_Rule_stances : FnScope ["self"] ["self"] (defScope s_Rule_stances) := ⟨rfl, rfl, rfl, by decide +kernel, rfl, by decide +kernel, by decide +kernel⟩
def m_Rule_stances : MS := (mRet (mUn (fFld cs_Rule "_let") (mV 0)))
def f_Rule_stances : List D → M D := runF 1 m_Rule_stances
theorem sc_Rule___and__ : FnScope ["self", "other", "stance"] ["self", "other"] (defScope s_Rule___and__) := ⟨rfl, rfl, rfl, by decide +kernel, rfl, by decide +kernel, by decide +kernel⟩
def m_Rule___and__ : MS := (mRet (mUnA (fMake "Rule" 1 [] f_Rule_init) (mCons (mLc ([("stance", 2)].map (·.2)) (mSeqI (mC (.tup [(.tup [.str "own", .str "nested", .str "around", .str "below", .str "heir", .str "package", .str "any"]), (.tup [.str "nested", .str "below", .str "heir", .str "package", .str "any"]), (.tup [.str "around", .str "package", .str "any"]), (.tup [.str "below", .str "heir", .str "package", .str "any"]), (.tup [.str "below", .str "heir", .str "any"]), (.tup [.str "heir", .str "package", .str "any"]), (.tup [.str "heir", .str "any"]), (.tup [.str "package", .str "any"]), (.tup [.str "any"])]))) (.one 2) (mAndT (mTest (mOp fIn (mV 2) (mUn (fFld cs_Rule "_let") (mV 0)))) (mTest (mOp fIn (mV 2) (mUn (fFld cs_Rule "_let") (mV 1))))) (mV 2)) mNil)))
def f_Rule___and__ : List D → M D := runF 3 m_Rule___and__
theorem sc_Rule___or__ : FnScope ["self", "other", "stance"] ["self", "other"] (defScope s_Rule___or__) := ⟨rfl, rfl, rfl, by decide +kernel, rfl, by decide +kernel, by decide +kernel⟩
def m_Rule___or__ : MS := (mRet (mUnA (fMake "Rule" 1 [] f_Rule_init) (mCons (mLc ([("stance", 2)].map (·.2)) (mSeqI (mC (.tup [(.tup [.str "own", .str "nested", .str "around", .str "below", .str "heir", .str "package", .str "any"]), (.tup [.str "nested", .str "below", .str "heir", .str "package", .str "any"]), (.tup [.str "around", .str "package", .str "any"]), (.tup [.str "below", .str "heir", .str "package", .str "any"]), (.tup [.str "below", .str "heir", .str "any"]), (.tup [.str "heir", .str "package", .str "any"]), (.tup [.str "heir", .str "any"]), (.tup [.str "package", .str "any"]), (.tup [.str "any"])]))) (.one 2) (mOrT (mTest (mOp fIn (mV 2) (mUn (fFld cs_Rule "_let") (mV 0)))) (mTest (mOp fIn (mV 2) (mUn (fFld cs_Rule "_let") (mV 1))))) (mV 2)) mNil)))
def f_Rule___or__ : List D → M D := runF 3 m_Rule___or__
theorem sc_Book_init : FnScope ["self", "pairs", "level", "rule"] ["self", "pairs"] (defScope s_Book_init) := ⟨rfl, rfl, rfl, by decide +kernel, rfl, by decide +kernel, by decide +kernel⟩
def m_Book_init : MS := (mSeq (mFldS cs_Book "_rules" (mV 0) mDict0)
  (mFor (mSeqI (mV 1)) (gTupM 2 (gsCons (gN 2) (gsCons (gN 3) gsNil))) (mSeq (mIfS (mTest (mOp fIn (mV 2) (mUn (fFld cs_Book "_rules") (mV 0)))) (mRaise (exc1 "Taken") (mCons (mV 2) mNil)) mNext)
  (mAsg (mV 3) (gSubM (mUn (fFld cs_Book "_rules") (mV 0)) (mV 2))))))
def f_Book_init : List D → M D := runF 4 m_Book_init
theorem sc_Book_levels : FnScope ["self"] ["self"] (defScope s_Book_levels) := ⟨rfl, rfl, rfl, by decide +kernel, rfl, by decide +kernel, by decide +kernel⟩
def m_Book_levels : MS := (mRet (mUnA fList (mCons (mUn (fFld cs_Book "_rules") (mV 0)) mNil)))
def f_Book_levels : List D → M D := runF 1 m_Book_levels
theorem sc_Book___getitem__ : FnScope ["self", "level"] ["self", "level"] (defScope s_Book___getitem__) := ⟨rfl, rfl, rfl, by decide +kernel, rfl, by decide +kernel, by decide +kernel⟩
def m_Book___getitem__ : MS := (mSeq (mIfS (mTest (mOp fNot (mV 1) (mUn (fFld cs_Book "_rules") (mV 0)))) (mRaise (exc1 "Unknown") (mCons (mV 1) mNil)) mNext)
  (mRet (mOp fSubs (mUn (fFld cs_Book "_rules") (mV 0)) (mV 1))))
def f_Book___getitem__ : List D → M D := runF 2 m_Book___getitem__
theorem sc_Book___contains__ : FnScope ["self", "level"] ["self", "level"] (defScope s_Book___contains__) := ⟨rfl, rfl, rfl, by decide +kernel, rfl, by decide +kernel, by decide +kernel⟩
def m_Book___contains__ : MS := (mRet (mOp fIn (mV 1) (mUn (fFld cs_Book "_rules") (mV 0))))
def f_Book___contains__ : List D → M D := runF 2 m_Book___contains__
theorem sc_l_digits : FnScope ["_law_script", "_law_at", "_law_sizes", "_law_cell", "_law_great", "_law_row", "_law_k", "_law_mixed"] ["_law_script", "_law_at", "_law_sizes"] (defScope s_l_digits) := ⟨rfl, rfl, rfl, by decide +kernel, rfl, by decide +kernel, by decide +kernel⟩
def m_l_digits : MS := (mSeq (mAsg (mC (.int 0)) (gN 3))
  (mSeq (mIfS (mTest (mOp fLt (mV 1) (mUnA fLen (mCons (mV 0) mNil)))) (mAsg (mOp fSubs (mV 0) (mV 1)) (gN 3)) mNext)
  (mSeq (mAsg (mOp fGe (mV 3) (mOp fPow (mC (.int 10)) (mC (.int 18)))) (gN 4))
  (mSeq (mAsg (mUnA fLst mNil) (gN 5))
  (mSeq (mFor (mRange1 (mUnA fLen (mCons (mV 2) mNil))) (gN 6) (mSeq (mAsg (mOp fMod (mUnA fInt (mCons (mOp fPlus (mOp fPlus (mOp fPlus (mOp fMul (mV 3) (mC (.int 48271))) (mOp fMul (mV 1) (mC (.int 1009)))) (mOp fMul (mV 6) (mC (.int 69621)))) (mC (.int 5))) mNil)) (mC (.int 2147483647))) (gN 7))
  (mSeq (mAsg (mOp fDiv (mOp fMod (mUnA fInt (mCons (mOp fPlus (mOp fPlus (mOp fMul (mV 7) (mV 7)) (mV 3)) (mOp fMul (mV 6) (mC (.int 7919)))) mNil)) (mC (.int 2147483629))) (mC (.int 7))) (gN 7))
  (mSeq (mIfS (mTest (mV 4)) (mSeq (mAsg (mV 3) (gN 7))
  (mAsg (mOp fDiv (mV 3) (mOp fSubs (mV 2) (mV 6))) (gN 3))) mNext)
  (mDrop (mBM .lst fApp (mV 5) (mCons (mOp fMod (mUnA fInt (mCons (mV 7) mNil)) (mOp fSubs (mV 2) (mV 6))) mNil)))))))
  (mRet (mV 5)))))))
def f_l_digits : List D → M D := runF 8 m_l_digits
theorem sc_l_name : FnScope ["_law_start", "_law_k", "_law_pool"] ["_law_start", "_law_k"] (defScope s_l_name) := ⟨rfl, rfl, rfl, by decide +kernel, rfl, by decide +kernel, by decide +kernel⟩
def m_l_name : MS := (mSeq (mAsg (mUnA fLst (mCons (mC (.str "a")) (mCons (mC (.str "b2")) (mCons (mC (.str "cab")) (mCons (mC (.str "d")) (mCons (mC (.str "e0")) (mCons (mC (.str "fox")) (mCons (mC (.str "gg")) (mCons (mC (.str "h1")) (mCons (mC (.str "ice")) (mCons (mC (.str "j")) (mCons (mC (.str "kilo")) (mCons (mC (.str "lo")) (mCons (mC (.str "mmm")) (mCons (mC (.str "n9")) (mCons (mC (.str "oak")) (mCons (mC (.str "p")) (mCons (mC (.str "q7")) mNil)))))))))))))))))) (gN 2))
  (mSeq (mAsg (mOp fPlus (mV 2) (mUnA fLst (mCons (mC (.str "rr")) (mCons (mC (.str "s")) (mCons (mC (.str "tin")) (mCons (mC (.str "0")) (mCons (mC (.str "v")) (mCons (mC (.str "wax")) (mCons (mC (.str "abcdefghijkl")) (mCons (mC (.str "yes")) (mCons (mC (.str "z0o")) mNil))))))))))) (gN 2))
  (mRet (mOp fSubs (mV 2) (mOp fMod (mUnA fInt (mCons (mOp fPlus (mV 0) (mOp fMul (mC (.int 7)) (mV 1))) mNil)) (mC (.int 26)))))))
def f_l_name : List D → M D := runF 3 m_l_name
theorem sc_l_words : FnScope [] [] (defScope s_l_words) := ⟨rfl, rfl, rfl, by decide +kernel, rfl, by decide +kernel, by decide +kernel⟩
def m_l_words : MS := (mRet (mUnA fLst (mCons (mC (.str "own")) (mCons (mC (.str "nested")) (mCons (mC (.str "around")) (mCons (mC (.str "below")) (mCons (mC (.str "heir")) (mCons (mC (.str "package")) (mCons (mC (.str "any")) mNil)))))))))
def f_l_words : List D → M D := runF 0 m_l_words
theorem sc_l_stances : FnScope ["_law_texts", "_law_text"] [] (defScope s_l_stances) := ⟨rfl, rfl, rfl, by decide +kernel, rfl, by decide +kernel, by decide +kernel⟩
def m_l_stances : MS := (mSeq (mAsg (mUnA fLst (mCons (mC (.str "own nested around below heir package any")) (mCons (mC (.str "nested below heir package any")) (mCons (mC (.str "around package any")) mNil)))) (gN 0))
  (mSeq (mAsg (mOp fPlus (mV 0) (mUnA fLst (mCons (mC (.str "below heir package any")) (mCons (mC (.str "below heir any")) (mCons (mC (.str "heir package any")) (mCons (mC (.str "heir any")) (mCons (mC (.str "package any")) (mCons (mC (.str "any")) mNil)))))))) (gN 0))
  (mRet (mLc ([("_law_text", 1)].map (·.2)) (mSeqI (mV 0)) (.one 1) mYes (mUnA fTuple (mCons (mBM .str fSplit (mV 1) (mCons (mC (.str " ")) mNil)) mNil))))))
def f_l_stances : List D → M D := runF 2 m_l_stances
theorem sc_l_products : FnScope ["_law_script", "_law_at", "_law_menu", "_law_picks", "_law_words_here", "_law_products_here", "_law_k", "_law_product"] ["_law_script", "_law_at"] (defScope s_l_products) := ⟨rfl, rfl, rfl, by decide +kernel, rfl, by decide +kernel, by decide +kernel⟩
def m_l_products : MS := (mSeq (mAsg (mUnA fLst (mCons (mUnA fLst (mCons (mUnA fLst (mCons (mC (.str "nested")) mNil)) (mCons (mUnA fLst (mCons (mC (.str "around")) mNil)) mNil))) (mCons (mUnA fLst (mCons (mUnA fLst (mCons (mC (.str "package")) mNil)) mNil)) (mCons (mUnA fLst (mCons (mUnA fLst (mCons (mC (.str "package")) mNil)) (mCons (mUnA fLst (mCons (mC (.str "below")) mNil)) mNil))) (mCons (mUnA fLst (mCons (mUnA fLst (mCons (mC (.str "any")) mNil)) mNil)) (mCons (mUnA fLst (mCons (mUnA fLst (mCons (mC (.str "below")) mNil)) mNil)) mNil)))))) (gN 2))
  (mSeq (mAsg (mOp fPlus (mV 2) (mUnA fLst (mCons (mUnA fLst (mCons (mUnA fLst (mCons (mC (.str "package")) (mCons (mC (.str "below")) mNil))) mNil)) (mCons (mUnA fLst (mCons (mUnA fLst (mCons (mC (.str "heir")) mNil)) mNil)) (mCons (mUnA fLst (mCons (mUnA fLst (mCons (mC (.str "own")) mNil)) mNil)) (mCons (mUnA fLst (mCons (mUnA fLst (mCons (mC (.str "heir")) (mCons (mC (.str "package")) mNil))) mNil)) (mCons (mUnA fLst (mCons (mUnA fLst (mCons (mC (.str "heir")) mNil)) (mCons (mUnA fLst (mCons (mC (.str "package")) mNil)) mNil))) mNil))))))) (gN 2))
  (mSeq (mAsg (mUnA (fCall 3 [] f_l_digits) (mCons (mV 0) (mCons (mV 1) (mCons (mUnA fLst (mCons (mC (.int 2)) (mCons (mC (.int 10)) (mCons (mC (.int 4)) (mCons (mC (.int 7)) (mCons (mC (.int 7)) (mCons (mC (.int 2)) (mCons (mC (.int 7)) (mCons (mC (.int 7)) (mCons (mC (.int 2)) (mCons (mC (.int 7)) (mCons (mC (.int 7)) (mCons (mC (.int 2)) mNil))))))))))))) mNil)))) (gN 3))
  (mSeq (mIfS (mTest (mOp fEq (mOp fSubs (mV 3) (mC (.int 0))) (mC (.int 0)))) (mRet (mOp fSubs (mV 2) (mOp fSubs (mV 3) (mC (.int 1))))) mNext)
  (mSeq (mAsg (mUnA (fCall 0 [] f_l_words) mNil) (gN 4))
  (mSeq (mAsg (mUnA fLst mNil) (gN 5))
  (mSeq (mFor (mRange1 (mOp fSubs (mV 3) (mC (.int 2)))) (gN 6) (mSeq (mAsg (mUnA fLst (mCons (mOp fSubs (mV 4) (mOp fSubs (mV 3) (mOp fPlus (mC (.int 3)) (mOp fMul (mC (.int 3)) (mV 6))))) mNil)) (gN 7))
  (mSeq (mIfS (mTest (mOp fEq (mOp fSubs (mV 3) (mOp fPlus (mC (.int 5)) (mOp fMul (mC (.int 3)) (mV 6)))) (mC (.int 1)))) (mDrop (mBM .lst fApp (mV 7) (mCons (mOp fSubs (mV 4) (mOp fSubs (mV 3) (mOp fPlus (mC (.int 4)) (mOp fMul (mC (.int 3)) (mV 6))))) mNil))) mNext)
  (mDrop (mBM .lst fApp (mV 5) (mCons (mV 7) mNil))))))
  (mRet (mV 5)))))))))
def f_l_products : List D → M D := runF 8 m_l_products
theorem sc_l_holds : FnScope ["_law_product", "_law_stance", "_law_word"] ["_law_product", "_law_stance"] (defScope s_l_holds) := ⟨rfl, rfl, rfl, by decide +kernel, rfl, by decide +kernel, by decide +kernel⟩
def m_l_holds : MS := (mRet (mOp fEq (mUnA fLen (mCons (mLc ([("_law_word", 2)].map (·.2)) (mSeqI (mV 0)) (.one 2) (mTest (mOp fNot (mV 2) (mV 1))) (mV 2)) mNil)) (mC (.int 0))))
def f_l_holds : List D → M D := runF 3 m_l_holds
theorem sc_l_let : FnScope ["_law_products_here", "_law_found", "_law_stance", "_law_product"] ["_law_products_here"] (defScope s_l_let) := ⟨rfl, rfl, rfl, by decide +kernel, rfl, by decide +kernel, by decide +kernel⟩
def m_l_let : MS := (mSeq (mAsg (mUnA fLst mNil) (gN 1))
  (mSeq (mFor (mSeqI (mUnA (fCall 0 [] f_l_stances) mNil)) (gN 2) (mIfS (mTest (mOp fGt (mUnA fLen (mCons (mLc ([("_law_product", 3)].map (·.2)) (mSeqI (mV 0)) (.one 3) (mTest (mUnA (fCall 2 [] f_l_holds) (mCons (mV 3) (mCons (mV 2) mNil)))) (mV 3)) mNil)) (mC (.int 0)))) (mDrop (mBM .lst fApp (mV 1) (mCons (mV 2) mNil))) mNext))
  (mRet (mV 1))))
def f_l_let : List D → M D := runF 4 m_l_let
theorem sc_l_rule : FnScope ["_law_products_here", "_law_rule_here", "_law_product", "_law_part", "_law_word"] ["_law_products_here"] (defScope s_l_rule) := ⟨rfl, rfl, rfl, by decide +kernel, rfl, by decide +kernel, by decide +kernel⟩
def m_l_rule : MS := (mSeq (mAsg (mUnA (fCm f_Rule_of) mNil) (gN 1))
  (mSeq (mFor (mSeqI (mV 0)) (gN 2) (mSeq (mAsg (mUnA (fCm f_Rule_of) (mCons (mC (.str "any")) mNil)) (gN 3))
  (mSeq (mFor (mSeqI (mV 2)) (gN 4) (mAsg (mOp (fOpI "Rule" f_Rule___and__) (mV 3) (mUnA (fCm f_Rule_of) (mCons (mV 4) mNil))) (gN 3)))
  (mAsg (mOp (fOpI "Rule" f_Rule___or__) (mV 1) (mV 3)) (gN 1)))))
  (mRet (mV 1))))
def f_l_rule : List D → M D := runF 5 m_l_rule
theorem sc_l_same : FnScope ["_law_actual", "_law_due", "_law_k"] ["_law_actual", "_law_due"] (defScope s_l_same) := ⟨rfl, rfl, rfl, by decide +kernel, rfl, by decide +kernel, by decide +kernel⟩
def m_l_same (self : List D → M D) : MS := (mSeq (mIfS (mTest (mUn (fIsN true) (mV 1))) (mRet (mUn (fIsN true) (mV 0))) mNext)
  (mSeq (mIfS (mTest (mUn (fIsi .bl) (mV 1))) (mRet (mAnd (mUn (fIsi .bl) (mV 0)) (mOp fEq (mV 0) (mV 1)))) mNext)
  (mSeq (mIfS (mTest (mUn (fIsi .int) (mV 1))) (mRet (mAnd (mUn (fIsi .int) (mV 0)) (mAnd (mUn fNotV (mUn (fIsi .bl) (mV 0))) (mOp fEq (mV 0) (mV 1))))) mNext)
  (mSeq (mIfS (mTest (mUn (fIsi .str) (mV 1))) (mRet (mAnd (mUn (fIsi .str) (mV 0)) (mOp fEq (mV 0) (mV 1)))) mNext)
  (mSeq (mIfS (mAndT (mTest (mUn (fIsi .tup) (mV 1))) (mNotT (mTest (mUn (fIsi .tup) (mV 0))))) (mRet (mC (.bl false))) mNext)
  (mSeq (mIfS (mAndT (mTest (mUn (fIsi .lst) (mV 1))) (mNotT (mTest (mUn (fIsi .lst) (mV 0))))) (mRet (mC (.bl false))) mNext)
  (mSeq (mIfS (mTest (mOp fNe (mUnA fLen (mCons (mV 0) mNil)) (mUnA fLen (mCons (mV 1) mNil)))) (mRet (mC (.bl false))) mNext)
  (mSeq (mFor (mRange1 (mUnA fLen (mCons (mV 1) mNil))) (gN 2) (mIfS (mNotT (mTest (mUnA (fCall 2 [] self) (mCons (mOp fSubs (mV 0) (mV 2)) (mCons (mOp fSubs (mV 1) (mV 2)) mNil))))) (mRet (mC (.bl false))) mNext))
  (mRet (mC (.bl true)))))))))))
def f_l_same : Nat → List D → M D
  | 0 => fun _ _ => .bad
  | n + 1 => runF 3 (m_l_same (f_l_same n))
theorem sc_l_told : FnScope ["_law_book", "_law_names", "_law_lets", "_law_spare", "_law_k", "e", "_law_rank"] ["_law_book", "_law_names", "_law_lets", "_law_spare"] (defScope s_l_told) := ⟨rfl, rfl, rfl, by decide +kernel, rfl, by decide +kernel, by decide +kernel⟩
def m_l_told : MS := (mSeq (mIfS (mOrT (mNotT (mTest (mUnA (fCall 2 [] (f_l_same 10)) (mCons (mProp cs_Book f_Book_levels (mV 0)) (mCons (mV 1) mNil))))) (mNotT (mTest (mUnA (fCall 2 [] (f_l_same 10)) (mCons (mLockE (mUn (fFld cs_Book "_rules") (mV 0)) (mLc ([("_law_rank", 6)].map (·.2)) (mKeysI (mUn (fFld cs_Book "_rules") (mV 0))) (.one 6) mYes (mV 6))) (mCons (mV 1) mNil)))))) (mRet (mC (.bl false))) mNext)
  (mSeq (mFor (mRange1 (mUnA fLen (mCons (mV 1) mNil))) (gN 4) (mIfS (mOrT (mTest (mOp (fInI "Book" (fun b => !b) f_Book___contains__) (mOp fSubs (mV 1) (mV 4)) (mV 0))) (mNotT (mTest (mUnA (fCall 2 [] (f_l_same 10)) (mCons (mProp cs_Rule f_Rule_stances (mOp (fIxI "Book" f_Book___getitem__) (mV 0) (mOp fSubs (mV 1) (mV 4)))) (mCons (mOp fSubs (mV 2) (mV 4)) mNil)))))) (mRet (mC (.bl false))) mNext))
  (mSeq (mIfS (mTest (mOp (fInI "Book" id f_Book___contains__) (mV 3) (mV 0))) (mRet (mC (.bl false))) mNext)
  (mSeq (mTry errsL [("Unknown", some 5, mRetX (fun x => mUnA (fCall 2 [] (f_l_same 10)) ((fun x => mCons ((fun x => mUnA fTup ((fun x => mCons ((mXf "row") x) ((fun x => mCons ((mXf "what") x) ((fun _ => mNil) x)) x)) x)) x) ((fun x => mCons ((fun _ => (mUnA fTup (mCons (mC .non) (mCons (mV 3) mNil)))) x) ((fun _ => mNil) x)) x)) x)))] (mAsg (mUnA fLst (mCons (mOp (fIxI "Book" f_Book___getitem__) (mV 0) (mV 3)) mNil)) (gN 1)))
  (mRet (mC (.bl false)))))))
def f_l_told : List D → M D := runF 7 m_l_told
theorem sc_law : FnScope ["_law_script", "_law_picks", "_law_names", "_law_spare", "_law_products_here", "_law_lets", "_law_pairs", "_law_book", "_law_told_here", "_law_few", "_law_doubled", "_law_at", "_law_bad", "e", "_law_k", "_law_product", "_law_rank"] ["_law_script"] (defScope s_law) := ⟨rfl, rfl, rfl, by decide +kernel, rfl, by decide +kernel, by decide +kernel⟩
def m_law : MS := (mSeq (mAsg (mUnA (fCall 3 [] f_l_digits) (mCons (mV 0) (mCons (mC (.int 0)) (mCons (mUnA fLst (mCons (mC (.int 7)) (mCons (mC (.int 26)) (mCons (mC (.int 6)) (mCons (mC (.int 6)) mNil))))) mNil)))) (gN 1))
  (mSeq (mAsg (mLc ([("_law_k", 14)].map (·.2)) (mRange1 (mOp fSubs (mV 1) (mC (.int 0)))) (.one 14) mYes (mUnA (fCall 2 [] f_l_name) (mCons (mOp fSubs (mV 1) (mC (.int 1))) (mCons (mV 14) mNil)))) (gN 2))
  (mSeq (mAsg (mUnA (fCall 2 [] f_l_name) (mCons (mOp fSubs (mV 1) (mC (.int 1))) (mCons (mC (.int 20)) mNil))) (gN 3))
  (mSeq (mAsg (mLc ([("_law_k", 14)].map (·.2)) (mRange1 (mUnA fLen (mCons (mV 2) mNil))) (.one 14) mYes (mUnA (fCall 2 [] f_l_products) (mCons (mV 0) (mCons (mOp fPlus (mC (.int 1)) (mV 14)) mNil)))) (gN 4))
  (mSeq (mAsg (mLc ([("_law_product", 15)].map (·.2)) (mSeqI (mV 4)) (.one 15) mYes (mUnA fTuple (mCons (mUnA (fCall 1 [] f_l_let) (mCons (mV 15) mNil)) mNil))) (gN 5))
  (mSeq (mAsg (mLc ([("_law_k", 14)].map (·.2)) (mRange1 (mUnA fLen (mCons (mV 2) mNil))) (.one 14) mYes (mUnA fTup (mCons (mOp fSubs (mV 2) (mV 14)) (mCons (mUnA (fCall 1 [] f_l_rule) (mCons (mOp fSubs (mV 4) (mV 14)) mNil)) mNil)))) (gN 6))
  (mSeq (mAsg (mUnA (fMakeX "Book" 1 [] f_Book_init) (mCons (mV 6) mNil)) (gN 7))
  (mSeq (mDrop (mBM .lst fApp (mV 6) (mCons (mUnA fTup (mCons (mV 3) (mCons (mUnA (fCm f_Rule_of) (mCons (mC (.str "any")) mNil)) mNil))) mNil)))
  (mSeq (mAsg (mProp cs_Book f_Book_levels (mV 7)) (gN 8))
  (mSeq (mDrop (mBM .lst fApp (mV 8) (mCons (mV 3) mNil)))
  (mSeq (mIfS (mOrT (mNotT (mTest (mUnA (fCall 4 [] f_l_told) (mCons (mV 7) (mCons (mV 2) (mCons (mV 5) (mCons (mV 3) mNil))))))) (mNotT (mTest (mUnA (fCall 4 [] f_l_told) (mCons (mV 7) (mCons (mV 2) (mCons (mV 5) (mCons (mV 3) mNil)))))))) (mRet (mC (.bl false))) mNext)
  (mSeq (mIfS (mTest (mOp fEq (mUnA fLen (mCons (mV 2) mNil)) (mC (.int 0)))) (mRet (mC (.bl true))) mNext)
  (mSeq (mAsg (mSl (mV 2) pNo (pInt (mC (.int 5)))) (gN 9))
  (mSeq (mAsg (mOp fSubs (mV 9) (mOp fMod (mOp fSubs (mV 1) (mC (.int 2))) (mUnA fLen (mCons (mV 9) mNil)))) (gN 10))
  (mSeq (mAsg (mOp fPlus (mOp fPlus (mC (.int 1)) (mBM .lst fIdx (mV 9) (mCons (mV 10) mNil))) (mOp fMod (mOp fSubs (mV 1) (mC (.int 3))) (mOp fSub (mUnA fLen (mCons (mV 9) mNil)) (mBM .lst fIdx (mV 9) (mCons (mV 10) mNil))))) (gN 11))
  (mSeq (mAsg (mLc ([("_law_rank", 16)].map (·.2)) (mSeqI (mOp fPlus (mOp fPlus (mSl (mV 9) pNo (pInt (mV 11))) (mUnA fLst (mCons (mV 10) mNil))) (mSl (mV 9) (pInt (mV 11)) pNo))) (.one 16) mYes (mUnA fTup (mCons (mV 16) (mCons (mUnA (fCm f_Rule_of) (mCons (mC (.str "own")) mNil)) mNil)))) (gN 12))
  (mSeq (mTry errsL [("Taken", some 13, mRetX (fun x => mUnA (fCall 2 [] (f_l_same 10)) ((fun x => mCons ((fun x => mUnA fTup ((fun x => mCons ((mXf "row") x) ((fun x => mCons ((mXf "what") x) ((fun _ => mNil) x)) x)) x)) x) ((fun x => mCons ((fun _ => (mUnA fTup (mCons (mC .non) (mCons (mV 10) mNil)))) x) ((fun _ => mNil) x)) x)) x)))] (mDrop (mUnA (fMakeX "Book" 1 [] f_Book_init) (mCons (mV 12) mNil))))
  (mRet (mC (.bl false))))))))))))))))))))
def f_law : List D → M D := runF 17 m_law
end My
namespace My
open PySem L2 RL
structure Fx (K : PySem.W.Frag) (mg : Str → Option Value) (cn : Str → Addr) where
  a_wording : Addr
  fd_wording : FuncData
  a_AccessError_init : Addr
  fd_AccessError_init : FuncData
  a_Rule_init : Addr
  fd_Rule_init : FuncData
  a_has_one_of : Addr
  fd_has_one_of : FuncData
  a_Rule_of : Addr
  fd_Rule_of : FuncData
  a_Rule_stances : Addr
  fd_Rule_stances : FuncData
  a_Rule___and__ : Addr
  fd_Rule___and__ : FuncData
  a_Rule___or__ : Addr
  fd_Rule___or__ : FuncData
  a_Book_init : Addr
  fd_Book_init : FuncData
  a_Book_levels : Addr
  fd_Book_levels : FuncData
  a_Book___getitem__ : Addr
  fd_Book___getitem__ : FuncData
  a_Book___contains__ : Addr
  fd_Book___contains__ : FuncData
  a_Book___iter__ : Addr
  fd_Book___iter__ : FuncData
  a_l_digits : Addr
  fd_l_digits : FuncData
  a_l_name : Addr
  fd_l_name : FuncData
  a_l_words : Addr
  fd_l_words : FuncData
  a_l_stances : Addr
  fd_l_stances : FuncData
  a_l_products : Addr
  fd_l_products : FuncData
  a_l_holds : Addr
  fd_l_holds : FuncData
  a_l_let : Addr
  fd_l_let : FuncData
  a_l_rule : Addr
  fd_l_rule : FuncData
  a_l_same : Addr
  fd_l_same : FuncData
  a_l_told : Addr
  fd_l_told : FuncData
  g_any : mg "any" = none
  g_bool : mg "bool" = none
  g_int : mg "int" = none
  g_isinstance : mg "isinstance" = none
  g_iter : mg "iter" = none
  g_len : mg "len" = none
  g_list : mg "list" = none
  g_range : mg "range" = none
  g_str : mg "str" = none
  g_tuple : mg "tuple" = none
  fl_let : FldOk K cn cs_Rule "_let"
  fl_rules : FldOk K cn cs_Book "_rules"
  F_wording : Fun K "_wording" "_wording" s_wording a_wording fd_wording
  m_wording : mg "_wording" = some (.ref a_wording)
  F_AccessError_init : FunD K "__init__" "AccessError.__init__" (defArgs s_AccessError_init) (defBody s_AccessError_init) (defScope s_AccessError_init) [V.non] [] a_AccessError_init fd_AccessError_init
  F_Rule_init : Fun K "__init__" "Rule.__init__" s_Rule_init a_Rule_init fd_Rule_init
  F_has_one_of : Fun K "_has_one_of" "_has_one_of" s_has_one_of a_has_one_of fd_has_one_of
  m_has_one_of : mg "_has_one_of" = some (.ref a_has_one_of)
  F_Rule_of : Fun K "of" "Rule.of" s_Rule_of a_Rule_of fd_Rule_of
  F_Rule_stances : Fun K "stances" "Rule.stances" s_Rule_stances a_Rule_stances fd_Rule_stances
  F_Rule___and__ : Fun K "__and__" "Rule.__and__" s_Rule___and__ a_Rule___and__ fd_Rule___and__
  F_Rule___or__ : Fun K "__or__" "Rule.__or__" s_Rule___or__ a_Rule___or__ fd_Rule___or__
  F_Book_init : Fun K "__init__" "Book.__init__" s_Book_init a_Book_init fd_Book_init
  F_Book_levels : Fun K "levels" "Book.levels" s_Book_levels a_Book_levels fd_Book_levels
  F_Book___getitem__ : Fun K "__getitem__" "Book.__getitem__" s_Book___getitem__ a_Book___getitem__ fd_Book___getitem__
  F_Book___contains__ : Fun K "__contains__" "Book.__contains__" s_Book___contains__ a_Book___contains__ fd_Book___contains__
  F_Book___iter__ : Fun K "__iter__" "Book.__iter__" s_Book___iter__ a_Book___iter__ fd_Book___iter__
  F_l_digits : Fun K "_law_digits" "_law_digits" s_l_digits a_l_digits fd_l_digits
  m_l_digits : mg "_law_digits" = some (.ref a_l_digits)
  F_l_name : Fun K "_law_name" "_law_name" s_l_name a_l_name fd_l_name
  m_l_name : mg "_law_name" = some (.ref a_l_name)
  F_l_words : Fun K "_law_words" "_law_words" s_l_words a_l_words fd_l_words
  m_l_words : mg "_law_words" = some (.ref a_l_words)
  F_l_stances : Fun K "_law_stances" "_law_stances" s_l_stances a_l_stances fd_l_stances
  m_l_stances : mg "_law_stances" = some (.ref a_l_stances)
  F_l_products : Fun K "_law_products" "_law_products" s_l_products a_l_products fd_l_products
  m_l_products : mg "_law_products" = some (.ref a_l_products)
  F_l_holds : Fun K "_law_holds" "_law_holds" s_l_holds a_l_holds fd_l_holds
  m_l_holds : mg "_law_holds" = some (.ref a_l_holds)
  F_l_let : Fun K "_law_let" "_law_let" s_l_let a_l_let fd_l_let
  m_l_let : mg "_law_let" = some (.ref a_l_let)
  F_l_rule : Fun K "_law_rule" "_law_rule" s_l_rule a_l_rule fd_l_rule
  m_l_rule : mg "_law_rule" = some (.ref a_l_rule)
  F_l_same : Fun K "_law_same" "_law_same" s_l_same a_l_same fd_l_same
  m_l_same : mg "_law_same" = some (.ref a_l_same)
  F_l_told : Fun K "_law_told" "_law_told" s_l_told a_l_told fd_l_told
  m_l_told : mg "_law_told" = some (.ref a_l_told)
  pr_Book_levels : PropOk K cn cs_Book "levels" a_Book_levels
  pr_Rule_stances : PropOk K cn cs_Rule "stances" a_Rule_stances
  bin_Rule_BitAnd : BinOk K cn "Rule" .BitAnd a_Rule___and__
  bin_Rule_BitOr : BinOk K cn "Rule" .BitOr a_Rule___or__
  spc_Book___contains__ : SpcOk K cn "Book" "__contains__" a_Book___contains__
  spc_Book___getitem__ : SpcOk K cn "Book" "__getitem__" a_Book___getitem__
  spc_Book___iter__ : SpcOk K cn "Book" "__iter__" a_Book___iter__
  cm_Rule_of : CMt K (cn "Rule") "of" a_Rule_of
  gt_STANCES : ∃ a, mg "STANCES" = some (.ref a) ∧ ∀ ρ H, RelD K ρ H (.tup [(.tup [.str "own", .str "nested", .str "around", .str "below", .str "heir", .str "package", .str "any"]), (.tup [.str "nested", .str "below", .str "heir", .str "package", .str "any"]), (.tup [.str "around", .str "package", .str "any"]), (.tup [.str "below", .str "heir", .str "package", .str "any"]), (.tup [.str "below", .str "heir", .str "any"]), (.tup [.str "heir", .str "package", .str "any"]), (.tup [.str "heir", .str "any"]), (.tup [.str "package", .str "any"]), (.tup [.str "any"])]) (.ref a)
  mk_Rule : Mk K (cn "Rule") a_Rule_init
  c_Rule : mg "Rule" = some (.ref (cn "Rule"))
  mk_Book : Mk K (cn "Book") a_Book_init
  c_Book : mg "Book" = some (.ref (cn "Book"))
  c_Taken : mg "Taken" = some (.ref (cn "Taken"))
  c_Unknown : mg "Unknown" = some (.ref (cn "Unknown"))
  ec_Taken : ErrC K (cn "Taken")
  ei_Taken : PySem.W.findIn K (.ref (cn "Taken")) "__init__" = some (some (.ref a_AccessError_init))
  ec_Unknown : ErrC K (cn "Unknown")
  ei_Unknown : PySem.W.findIn K (.ref (cn "Unknown")) "__init__" = some (some (.ref a_AccessError_init))
  et : PySem.W.typeIn K (.ref a_AccessError_init) = some (.type "function")
  g_ValueError : mg "ValueError" = none
  ve : PySem.W.findCls K (.type "ValueError") (.type "type") "__init__" = some (.val (.builtin "ValueError.__init__"))
  ex_Taken : ∀ e ∈ errsL, PySem.W.exmOne K (.ref (cn e)) (.ref (cn "Taken")) = some (subE e "Taken")
  ex_Unknown : ∀ e ∈ errsL, PySem.W.exmOne K (.ref (cn e)) (.ref (cn "Unknown")) = some (subE e "Unknown")
  xf_row : ExF K cn errsL "row"
  xf_what : ExF K cn errsL "what"
section
variable {P : Program} {w : World} {K : PySem.W.Frag} {mg : Str → Option Value} {base : Heap} {cn : Str → Addr}
theorem row_text {i : Int} (h : rowOk (.int i) = true) : i.natAbs.log2 < 1920 ∧ (Str.ofString (toString i)).length ≤ 8 := by
  simp only [rowOk, Bool.and_eq_true, decide_eq_true_eq] at h
  have h1 : i.natAbs ≤ 1000000 := by omega
  refine ⟨?_, ?_⟩
  · by_cases z : i.natAbs = 0
    · rw [z]
      decide
    · have h2 : i.natAbs < 2 ^ 20 := Nat.lt_of_le_of_lt h1 (by decide)
      have := (Nat.log2_lt z).mpr h2
      omega
  · have := int_text_length_le10 (a := i) (k := 7) (by decide) (Nat.lt_of_le_of_lt h1 (by decide))
    rw [ofString_length]
    omega
theorem wd_fn (T : Fx K mg cn) : FnOk P w K mg base (L2N.CX P w) 1 T.a_wording T.fd_wording ["name", "what", "row"] (spWd K) := by
  refine fun_ok T.F_wording (N := ["name", "what", "row"]) ⟨rfl, rfl, rfl, by decide +kernel, rfl, by decide +kernel, by decide +kernel⟩ (fun vs H Q E h => ?_) (fun cdv A outer s H vs Q E hr h => ?_)
  · obtain ⟨nm, vw, vr, _, _, _, e, _⟩ := h
    rw [e]
    rfl
  · obtain ⟨nm, vw, vr, ρ, dw, dr, rfl, hn, qw, qr, hw, hrw, hq⟩ := h
    refine ⟨_, pss_cons (ps_if (pt_cmp (pc_isN (pv 2))) (pss_one (ps_ret (pe_joined (.cons (pe_fmt (pv 0)) (.cons pe_str (.cons (pe_fmtW hr (pv 1)) .nil)))))) pss_nil)
      (pss_one (ps_ret (pe_joined (.cons pe_str (.cons (pe_fmt (pv 2)) (.cons pe_str (.cons (pe_fmt (pv 0)) (.cons pe_str (.cons (pe_fmtW hr (pv 1)) .nil))))))))), ?_⟩
    have la : ∀ (a b : Str), (a ++ b).length = a.length + b.length := fun a b => strLen_append a b
    have l0 : (Str.empty).length = 0 := rfl
    have l2 : (": " : Str).length = 2 := rfl
    have l4 : ("row " : Str).length = 4 := rfl
    cases qr with
    | non =>
      refine ⟨.non, rfl, _, rfl, ?_⟩
      show tJs _ _ _ _ _
      refine ⟨_, rfl, .inl ⟨nm, rfl, by rw [sizeLine_eq]; omega, nm, rfl, by rw [la, sizeLine_eq]; omega, ?_⟩⟩
      refine ⟨_, rfl, by rw [la, la, sizeLine_eq]; omega, ?_⟩
      exact ⟨vw, rfl, ρ, dw, qw, hw, fun m hm => ⟨m, rfl, by rw [la, la, la, sizeLine_eq]; omega, hq _⟩⟩
    | int i =>
      obtain ⟨t1, t2⟩ := row_text hrw
      refine ⟨.int i, rfl, _, rfl, ?_⟩
      show tJs _ _ _ _ _
      refine ⟨_, rfl, by rw [la, sizeLine_eq]; omega, ?_⟩
      refine ⟨_, rfl, .inr ⟨i, rfl, t1, _, rfl, by rw [la, la, sizeLine_eq]; omega, ?_⟩⟩
      refine ⟨_, rfl, by rw [la, la, la, sizeLine_eq]; omega, ?_⟩
      refine ⟨_, rfl, .inl ⟨nm, rfl, by rw [sizeLine_eq]; omega, nm, rfl, by rw [la, la, la, la, sizeLine_eq]; omega, ?_⟩⟩
      refine ⟨_, rfl, by rw [la, la, la, la, la, sizeLine_eq]; omega, ?_⟩
      exact ⟨vw, rfl, ρ, dw, qw, hw, fun m hm => ⟨m, rfl, by rw [la, la, la, la, la, la, sizeLine_eq]; omega, hq _⟩⟩
    | _ => exact absurd hrw (by simp [rowOk])
theorem ae_ok (T : Fx K mg cn) : FnOk P w K mg base (L2N.CX P w) 2 T.a_AccessError_init T.fd_AccessError_init ["self", "what", "row"] (spAE K) := by
  refine T.F_AccessError_init.ok (N := ["self", "what", "row", "name"]) ⟨rfl, rfl, rfl, by decide +kernel, rfl, by decide +kernel, by decide +kernel⟩ (fun vs H Q E h => ?_) (fun cdv A outer s H vs Q E hr h => ?_)
  · obtain ⟨a, C, vw, vr, _, _, _, e, _⟩ := h
    rw [e]
    rfl
  · obtain ⟨a, C, vw, vr, ρ, dw, dr, rfl, hC, ha, qw, qr, hw, hrw, hq⟩ := h
    have nd : (["self", "what", "row", "name"] : List Str).Nodup := by decide +kernel
    have hbind := T.F_wording.binds (ps := ["name", "what", "row"]) fun _ _ _ _ _ _ us hl => match us, hl with | [_, _, _], _ => rfl
    refine ⟨_, pss_cons (ps_set (i := 3) nd rfl (Or.inl rfl) (pe_cname (pv 0)))
      (pss_cons (ps_expr (pe_veinit (by rfl) T.g_ValueError T.ve (pa_cons (pv 0) (pa_cons (pe_call (dvs := []) (wd_fn T) hr (by rfl) T.m_wording T.F_wording.kp hbind .nil passN (pa_cons (pv 3) (pa_cons (pv 1) (pa_cons (pv 2) pa_nil)))) pa_nil))))
      (pss_cons (ps_ost (pv 0) (pv 1)) (pss_one (ps_ost (pv 0) (pv 2))))), ?_⟩
    obtain ⟨nm, hnm, hl⟩ := hC.nam
    refine ⟨.ref a, rfl, a, C, nm, rfl, ha, hnm, ?_⟩
    refine ⟨.ref a, rfl, .str nm, rfl, vw, rfl, vr, rfl, ?_⟩
    refine ⟨nm, vw, vr, ρ, dw, dr, rfl, hl, qw, qr, hw, hrw, fun m => ⟨a, C, _, rfl, by simp, hC.oex, ha, ?_⟩⟩
    refine ⟨vw, rfl, .ref a, rfl, a, C, rfl, hC.oex, hC.what, .inl ⟨ha, fun dx hd hne => ?_⟩⟩
    refine ⟨vr, rfl, .ref a, rfl, a, C, rfl, hC.oex, hC.row, .inr ⟨dx, [("what", vw)], upd_same, ?_, by simp, ?_⟩⟩
    · rw [upd_ne hne, upd_same]
    · exact hq dx hd hne
theorem ae_fn (T : Fx K mg cn) : ∃ fd, FnOk P w K mg base (L2N.CX P w) 2 T.a_AccessError_init fd ["self", "what", "row"] (spAE K) ∧ Binds K fd ["self", "what", "row"] [] ∧ Binds K fd ["self", "what", "row"] [.none] := by
  refine ⟨_, ae_ok T, ?_, ?_⟩
  · obtain ⟨ds, r, b⟩ := T.F_AccessError_init.binds1 (ps := ["self", "what", "row"]) 3 1 (by simp) rfl fun Tt kV doc pm an cdv ct us its h1 h2 => match us, its, h1, h2 with | [_, _, _], [_], _, _ => ⟨_, rfl, rfl⟩
    cases r
    exact b
  · obtain ⟨ds, r, b⟩ := T.F_AccessError_init.binds1 (ps := ["self", "what", "row"]) 2 0 (by simp) rfl fun Tt kV doc pm an cdv ct us its h1 h2 => match us, its, h1, h2 with | [_, _], [_], _, _ => ⟨_, rfl, rfl⟩
    cases r with
    | cons r0 rn =>
      cases rn
      cases r0
      exact b
theorem sc_Book___iter__ : FnScope ["self"] ["self"] (defScope s_Book___iter__) := ⟨rfl, rfl, rfl, by decide +kernel, rfl, by decide +kernel, by decide +kernel⟩
theorem itr_Book (T : Fx K mg cn) : ItrOk P w K mg base 1 (cn "Book") T.a_Book___iter__ "_rules" := by
  refine ⟨T.spc_Book___iter__.1, T.spc_Book___iter__.2.1, T.fd_Book___iter__, ["self"], T.F_Book___iter__.binds (ps := ["self"]) (fun _ _ _ _ _ _ us hl => match us, hl with | [_], _ => rfl), fun n => ?_⟩
  refine fun_ok T.F_Book___iter__ sc_Book___iter__ (fun vs H Q E h => ?_) fun cdv A outer s H vs Q E hr h => ?_
  · obtain ⟨a, _, _, _, _, _, _, e, _⟩ := h
    rw [e]
    rfl
  · obtain ⟨a, dx, fs, d, o, u, ks, rfl, h1, h2, h3, h4, h5⟩ := h
    obtain ⟨k1, k2⟩ := T.fl_rules.2 "Book" (by decide)
    exact ⟨_, pss_one (ps_ret (pe_callB call_iterK (by rfl) T.g_iter rfl (pa_cons (pe_fld (pe_var (i := 0) rfl (.inl rfl)) rfl) pa_nil))),
      ⟨.ref a, rfl, a, cn "Book", dx, fs, .ref d, rfl, h1, k1, k2, h2, d, o, u, ks, rfl, h3, h4, h5⟩⟩
theorem er_Taken (T : Fx K mg cn) : Err P w K mg base 2 (cn "Taken") T.a_AccessError_init := ⟨T.ec_Taken, T.ei_Taken, T.et, ae_fn T⟩
theorem er_Unknown (T : Fx K mg cn) : Err P w K mg base 2 (cn "Unknown") T.a_AccessError_init := ⟨T.ec_Unknown, T.ei_Unknown, T.et, ae_fn T⟩
theorem b_Rule_init (T : Fx K mg cn) : BodyM P w K mg base cn 0 ["self", "stances"] "Rule.__init__" (defScope s_Rule_init) T.a_Rule_init (defBody s_Rule_init) m_Rule_init := fun cdv A outer s H E hr => by
  have F : Fit (cxE P w K mg base ["self", "stances"] "Rule.__init__" (defScope s_Rule_init) T.a_Rule_init cdv A outer s H E) (fun cls d _ H => E cls d H) := fit_cx
  have nd := sc_Rule_init.nd
  exact (rss_one (rs_fld T.fl_let (rv 0) (re_tuple (by rfl) T.g_tuple (rv 1))))
theorem d_Rule_init (T : Fx K mg cn) : DefM P w K mg base cn 1 T.a_Rule_init 2 [] f_Rule_init := defM0 (ps := ["self", "stances"]) (fnM T.F_Rule_init sc_Rule_init (b_Rule_init T)) (T.F_Rule_init.binds (ps := ["self", "stances"]) fun _ _ _ _ _ _ us hl => match us, hl with | [_, _], _ => rfl) T.F_Rule_init.kp
theorem b_has_one_of (T : Fx K mg cn) : BodyM P w K mg base cn 0 ["stance", "words", "word"] "_has_one_of" (defScope s_has_one_of) T.a_has_one_of (defBody s_has_one_of) m_has_one_of := fun cdv A outer s H E hr => by
  have F : Fit (cxE P w K mg base ["stance", "words", "word"] "_has_one_of" (defScope s_has_one_of) T.a_has_one_of cdv A outer s H E) (fun cls d _ H => E cls d H) := fit_cx
  have nd := sc_has_one_of.nd
  exact (rss_one (rs_ret (re_any F.calm (by rfl) T.g_any (re_lc (own := [("word", 2)]) (t := (.one 2)) F.calm nd (ri_seq (rv 1)) (blkOk_by (own := [("word", 2)]) (N := ["stance", "words", "word"]) (sc := defScope s_has_one_of) (by decide +kernel)) (by decide) (fun _ _ _ _ _ => (pg_name (i := 2) nd rfl (Or.inl rfl))) (fun _ _ _ _ _ => rts_nil) (fun _ _ _ _ _ => (re_in (hu65 hr) (rv 2) (rv 0)))))))
theorem d_has_one_of (T : Fx K mg cn) : DefM P w K mg base cn 1 T.a_has_one_of 2 [] f_has_one_of := defM0 (ps := ["stance", "words"]) (fnM T.F_has_one_of sc_has_one_of (b_has_one_of T)) (T.F_has_one_of.binds (ps := ["stance", "words"]) fun _ _ _ _ _ _ us hl => match us, hl with | [_, _], _ => rfl) T.F_has_one_of.kp
theorem fn_Rule_of (T : Fx K mg cn) : FnR P w K mg base (L2N.CX P w) 3 T.a_Rule_of (spCM ⟨K, cn, P, w⟩ "Rule" f_Rule_of) := by
  obtain ⟨oc, od, kV, doc, pm, an, cdv, ct, osl, hfd, lk, hcd⟩ := T.F_Rule_of.ex
  rw [hfd] at lk
  refine cm_star (StX.fn_star (CX := L2N.CX P w) (P := P) (w := w) (K := K) (mg := mg) (base := base) (k := 2) (ps := ["cls"]) (pv := "words") (sp := spC1 ⟨K, cn, P, w⟩ "Rule" 4 m_Rule_of) lk hcd sc_Rule_of cxUpN
    (StX.bind_star1 (B := fun us => bindArgs (PySem.W.fnOf "of" "Rule.of" (defArgs s_Rule_of) (defBody s_Rule_of) (defScope s_Rule_of) .none kV doc pm an cdv ct) ⟨us, []⟩) (p1 := "cls") (pv := "words") (fun a => rfl) (fun a r rs => rfl)) fun A outer s H vs Q E hr h => ?_)
  have F : Fit (cxE P w K mg base ["cls", "words", "let", "stance"] "Rule.of" (defScope s_Rule_of) T.a_Rule_of cdv A outer s H E) (fun cls d _ H => E cls d H) := fit_cx
  have nd := sc_Rule_of.nd
  obtain ⟨fd, ps, FI, bI⟩ := (d_Rule_init (P := P) (w := w) (base := base) T).bnd
  exact cm_body (X := cxE P w K mg base ["cls", "words", "let", "stance"] "Rule.of" (defScope s_Rule_of) T.a_Rule_of cdv A outer s H E) (W := fun cls d _ H => E cls d H) (mf := f_Rule_init)
    (ps_setLcE (i := 2) (own := [("stance", 3)]) (t := .one 3) rfl nd rfl rfl rfl (ri_seq (re_gtup (by rfl) T.gt_STANCES)) (blkOk_by (own := [("stance", 3)]) (N := ["cls", "words", "let", "stance"]) (sc := defScope s_Rule_of) (by decide +kernel)) (by decide) (fun _ _ _ _ _ => pg_name (i := 3) nd rfl (Or.inl rfl))
      (fun _ _ _ _ _ => rts_one (rt_val (re_call F.blk (d_has_one_of T) (hr.mono (by decide)) (by rfl) T.m_has_one_of (ra_cons (rv 3) (ra_cons (rv 1) ra_nil))))) (fun _ _ _ _ _ => rv 3))
    rfl (ps_ret (pe_mkL (i := 0) T.mk_Rule FI (hr.mono (by decide)) rfl (Or.inl rfl) bI passN (ra_cons (rv 2) ra_nil))) rfl (fun _ _ h => h) h
theorem b_Rule_stances (T : Fx K mg cn) : BodyM P w K mg base cn 0 ["self"] "Rule.stances" (defScope s_Rule_stances) T.a_Rule_stances (defBody s_Rule_stances) m_Rule_stances := fun cdv A outer s H E hr => by
  have F : Fit (cxE P w K mg base ["self"] "Rule.stances" (defScope s_Rule_stances) T.a_Rule_stances cdv A outer s H E) (fun cls d _ H => E cls d H) := fit_cx
  have nd := sc_Rule_stances.nd
  exact (rss_one (rs_ret (re_fld T.fl_let (rv 0))))
theorem d_Rule_stances (T : Fx K mg cn) : DefM P w K mg base cn 1 T.a_Rule_stances 1 [] f_Rule_stances := defM0 (ps := ["self"]) (fnM T.F_Rule_stances sc_Rule_stances (b_Rule_stances T)) (T.F_Rule_stances.binds (ps := ["self"]) fun _ _ _ _ _ _ us hl => match us, hl with | [_], _ => rfl) T.F_Rule_stances.kp
theorem b_Rule___and__ (T : Fx K mg cn) : BodyM P w K mg base cn 2 ["self", "other", "stance"] "Rule.__and__" (defScope s_Rule___and__) T.a_Rule___and__ (defBody s_Rule___and__) m_Rule___and__ := fun cdv A outer s H E hr => by
  have F : Fit (cxE P w K mg base ["self", "other", "stance"] "Rule.__and__" (defScope s_Rule___and__) T.a_Rule___and__ cdv A outer s H E) (fun cls d _ H => E cls d H) := fit_cx
  have nd := sc_Rule___and__.nd
  exact (rss_one (rs_ret (re_make (c := "Rule") F T.mk_Rule (d_Rule_init T) (hr.mono (by decide : 2 ≤ 2)) (by rfl) T.c_Rule (ra_cons (re_lc (own := [("stance", 2)]) (t := (.one 2)) F.calm nd (ri_seq (re_gtup (by rfl) T.gt_STANCES)) (blkOk_by (own := [("stance", 2)]) (N := ["self", "other", "stance"]) (sc := defScope s_Rule___and__) (by decide +kernel)) (by decide) (fun _ _ _ _ _ => (pg_name (i := 2) nd rfl (Or.inl rfl))) (fun _ _ _ _ _ => (rts_one (rt_w (rw_and (rt_in (hu65 hr) (rv 2) (re_fld T.fl_let (rv 0))) (rw_and1 (rt_in (hu65 hr) (rv 2) (re_fld T.fl_let (rv 1)))))))) (fun _ _ _ _ _ => (rv 2))) ra_nil))))
theorem d_Rule___and__ (T : Fx K mg cn) : DefM P w K mg base cn 3 T.a_Rule___and__ 2 [] f_Rule___and__ := defM0 (ps := ["self", "other"]) (fnM T.F_Rule___and__ sc_Rule___and__ (b_Rule___and__ T)) (T.F_Rule___and__.binds (ps := ["self", "other"]) fun _ _ _ _ _ _ us hl => match us, hl with | [_, _], _ => rfl) T.F_Rule___and__.kp
theorem b_Rule___or__ (T : Fx K mg cn) : BodyM P w K mg base cn 2 ["self", "other", "stance"] "Rule.__or__" (defScope s_Rule___or__) T.a_Rule___or__ (defBody s_Rule___or__) m_Rule___or__ := fun cdv A outer s H E hr => by
  have F : Fit (cxE P w K mg base ["self", "other", "stance"] "Rule.__or__" (defScope s_Rule___or__) T.a_Rule___or__ cdv A outer s H E) (fun cls d _ H => E cls d H) := fit_cx
  have nd := sc_Rule___or__.nd
  exact (rss_one (rs_ret (re_make (c := "Rule") F T.mk_Rule (d_Rule_init T) (hr.mono (by decide : 2 ≤ 2)) (by rfl) T.c_Rule (ra_cons (re_lc (own := [("stance", 2)]) (t := (.one 2)) F.calm nd (ri_seq (re_gtup (by rfl) T.gt_STANCES)) (blkOk_by (own := [("stance", 2)]) (N := ["self", "other", "stance"]) (sc := defScope s_Rule___or__) (by decide +kernel)) (by decide) (fun _ _ _ _ _ => (pg_name (i := 2) nd rfl (Or.inl rfl))) (fun _ _ _ _ _ => (rts_one (rt_w (rw_or (rt_in (hu65 hr) (rv 2) (re_fld T.fl_let (rv 0))) (rw_or1 (rt_in (hu65 hr) (rv 2) (re_fld T.fl_let (rv 1)))))))) (fun _ _ _ _ _ => (rv 2))) ra_nil))))
theorem d_Rule___or__ (T : Fx K mg cn) : DefM P w K mg base cn 3 T.a_Rule___or__ 2 [] f_Rule___or__ := defM0 (ps := ["self", "other"]) (fnM T.F_Rule___or__ sc_Rule___or__ (b_Rule___or__ T)) (T.F_Rule___or__.binds (ps := ["self", "other"]) fun _ _ _ _ _ _ us hl => match us, hl with | [_, _], _ => rfl) T.F_Rule___or__.kp
theorem b_Book_init (T : Fx K mg cn) : BodyM P w K mg base cn 3 ["self", "pairs", "level", "rule"] "Book.__init__" (defScope s_Book_init) T.a_Book_init (defBody s_Book_init) m_Book_init := fun cdv A outer s H E hr => by
  have F : Fit (cxE P w K mg base ["self", "pairs", "level", "rule"] "Book.__init__" (defScope s_Book_init) T.a_Book_init cdv A outer s H E) (fun cls d _ H => E cls d H) := fit_cx
  have nd := sc_Book_init.nd
  exact (rss_cons (rs_fld T.fl_rules (rv 0) re_dict0)
  (rss_one (rs_for F.pw F.calm (ri_seq (rv 1)) (rg_tup F.calm (rgs_cons (rg_name (i := 2) nd rfl (Or.inl rfl)) (rgs_cons (rg_name (i := 3) nd rfl (Or.inl rfl)) rgs_nil))) (rss_cons (rs_if (rt_in (hu65 hr) (rv 2) (re_fld T.fl_rules (rv 0))) (rss_one (rs_raise1 (c := "Taken") F (er_Taken T) (hr.mono (by decide : 3 ≤ 3)) (by rfl) T.c_Taken (ra_cons (rv 2) ra_nil))) rss_nil)
  (rss_one (rs_asg (rv 3) (rg_sub (hu1 hr) (re_fld T.fl_rules (rv 0)) (rv 2))))))))
theorem d_Book_init (T : Fx K mg cn) : DefM P w K mg base cn 4 T.a_Book_init 2 [] f_Book_init := defM0 (ps := ["self", "pairs"]) (fnM T.F_Book_init sc_Book_init (b_Book_init T)) (T.F_Book_init.binds (ps := ["self", "pairs"]) fun _ _ _ _ _ _ us hl => match us, hl with | [_, _], _ => rfl) T.F_Book_init.kp
theorem b_Book_levels (T : Fx K mg cn) : BodyM P w K mg base cn 0 ["self"] "Book.levels" (defScope s_Book_levels) T.a_Book_levels (defBody s_Book_levels) m_Book_levels := fun cdv A outer s H E hr => by
  have F : Fit (cxE P w K mg base ["self"] "Book.levels" (defScope s_Book_levels) T.a_Book_levels cdv A outer s H E) (fun cls d _ H => E cls d H) := fit_cx
  have nd := sc_Book_levels.nd
  exact (rss_one (rs_ret (re_listc F.calm (by rfl) T.g_list (re_fld T.fl_rules (rv 0)))))
theorem d_Book_levels (T : Fx K mg cn) : DefM P w K mg base cn 1 T.a_Book_levels 1 [] f_Book_levels := defM0 (ps := ["self"]) (fnM T.F_Book_levels sc_Book_levels (b_Book_levels T)) (T.F_Book_levels.binds (ps := ["self"]) fun _ _ _ _ _ _ us hl => match us, hl with | [_], _ => rfl) T.F_Book_levels.kp
theorem b_Book___getitem__ (T : Fx K mg cn) : BodyM P w K mg base cn 3 ["self", "level"] "Book.__getitem__" (defScope s_Book___getitem__) T.a_Book___getitem__ (defBody s_Book___getitem__) m_Book___getitem__ := fun cdv A outer s H E hr => by
  have F : Fit (cxE P w K mg base ["self", "level"] "Book.__getitem__" (defScope s_Book___getitem__) T.a_Book___getitem__ cdv A outer s H E) (fun cls d _ H => E cls d H) := fit_cx
  have nd := sc_Book___getitem__.nd
  exact (rss_cons (rs_if (rt_notIn (hu65 hr) (rv 1) (re_fld T.fl_rules (rv 0))) (rss_one (rs_raise1 (c := "Unknown") F (er_Unknown T) (hr.mono (by decide : 3 ≤ 3)) (by rfl) T.c_Unknown (ra_cons (rv 1) ra_nil))) rss_nil)
  (rss_one (rs_ret (re_sub (hu1 hr) (re_fld T.fl_rules (rv 0)) (rv 1) (fun _ _ => rfl)))))
theorem d_Book___getitem__ (T : Fx K mg cn) : DefM P w K mg base cn 4 T.a_Book___getitem__ 2 [] f_Book___getitem__ := defM0 (ps := ["self", "level"]) (fnM T.F_Book___getitem__ sc_Book___getitem__ (b_Book___getitem__ T)) (T.F_Book___getitem__.binds (ps := ["self", "level"]) fun _ _ _ _ _ _ us hl => match us, hl with | [_, _], _ => rfl) T.F_Book___getitem__.kp
theorem b_Book___contains__ (T : Fx K mg cn) : BodyM P w K mg base cn 0 ["self", "level"] "Book.__contains__" (defScope s_Book___contains__) T.a_Book___contains__ (defBody s_Book___contains__) m_Book___contains__ := fun cdv A outer s H E hr => by
  have F : Fit (cxE P w K mg base ["self", "level"] "Book.__contains__" (defScope s_Book___contains__) T.a_Book___contains__ cdv A outer s H E) (fun cls d _ H => E cls d H) := fit_cx
  have nd := sc_Book___contains__.nd
  exact (rss_one (rs_ret (re_in (hu65 hr) (rv 1) (re_fld T.fl_rules (rv 0)))))
theorem d_Book___contains__ (T : Fx K mg cn) : DefM P w K mg base cn 1 T.a_Book___contains__ 2 [] f_Book___contains__ := defM0 (ps := ["self", "level"]) (fnM T.F_Book___contains__ sc_Book___contains__ (b_Book___contains__ T)) (T.F_Book___contains__.binds (ps := ["self", "level"]) fun _ _ _ _ _ _ us hl => match us, hl with | [_, _], _ => rfl) T.F_Book___contains__.kp
theorem b_l_digits (T : Fx K mg cn) : BodyM P w K mg base cn 0 ["_law_script", "_law_at", "_law_sizes", "_law_cell", "_law_great", "_law_row", "_law_k", "_law_mixed"] "_law_digits" (defScope s_l_digits) T.a_l_digits (defBody s_l_digits) m_l_digits := fun cdv A outer s H E hr => by
  have F : Fit (cxE P w K mg base ["_law_script", "_law_at", "_law_sizes", "_law_cell", "_law_great", "_law_row", "_law_k", "_law_mixed"] "_law_digits" (defScope s_l_digits) T.a_l_digits cdv A outer s H E) (fun cls d _ H => E cls d H) := fit_cx
  have nd := sc_l_digits.nd
  exact (rss_cons (rs_set (i := 3) nd rfl (Or.inl rfl) re_int)
  (rss_cons (rs_if (rt_lt  (rv 1) (re_len (by rfl) T.g_len (rv 0))) (rss_one (rs_set (i := 3) nd rfl (Or.inl rfl) (re_sub (hu1 hr) (rv 0) (rv 1) (fun _ _ => rfl)))) rss_nil)
  (rss_cons (rs_set (i := 4) nd rfl (Or.inl rfl) (re_ge  (rv 3) (re_pow re_int re_int)))
  (rss_cons (rs_set (i := 5) nd rfl (Or.inl rfl) (re_lst ra_nil))
  (rss_cons (rs_for F.pw F.calm (ri_range1 (by rfl) T.g_range (re_len (by rfl) T.g_len (rv 2))) (rg_name (i := 6) nd rfl (Or.inl rfl)) (rss_cons (rs_set (i := 7) nd rfl (Or.inl rfl) (re_mod (re_intc (by rfl) T.g_int (re_plus (re_plus (re_plus (re_mul (rv 3) re_int) (re_mul (rv 1) re_int)) (re_mul (rv 6) re_int)) re_int)) re_int))
  (rss_cons (rs_set (i := 7) nd rfl (Or.inl rfl) (re_div (re_mod (re_intc (by rfl) T.g_int (re_plus (re_plus (re_mul (rv 7) (rv 7)) (rv 3)) (re_mul (rv 6) re_int))) re_int) re_int))
  (rss_cons (rs_if (rt_val (rv 4)) (rss_cons (rs_set (i := 7) nd rfl (Or.inl rfl) (rv 3))
  (rss_one (rs_set (i := 3) nd rfl (Or.inl rfl) (re_div (rv 3) (re_sub (hu1 hr) (rv 2) (rv 6) (fun _ _ => rfl)))))) rss_nil)
  (rss_one (rs_expr (re_app (rv 5) (ra_cons (re_mod (re_intc (by rfl) T.g_int (rv 7)) (re_sub (hu1 hr) (rv 2) (rv 6) (fun _ _ => rfl))) ra_nil))))))))
  (rss_one (rs_ret (rv 5))))))))
theorem d_l_digits (T : Fx K mg cn) : DefM P w K mg base cn 1 T.a_l_digits 3 [] f_l_digits := defM0 (ps := ["_law_script", "_law_at", "_law_sizes"]) (fnM T.F_l_digits sc_l_digits (b_l_digits T)) (T.F_l_digits.binds (ps := ["_law_script", "_law_at", "_law_sizes"]) fun _ _ _ _ _ _ us hl => match us, hl with | [_, _, _], _ => rfl) T.F_l_digits.kp
theorem b_l_name (T : Fx K mg cn) : BodyM P w K mg base cn 0 ["_law_start", "_law_k", "_law_pool"] "_law_name" (defScope s_l_name) T.a_l_name (defBody s_l_name) m_l_name := fun cdv A outer s H E hr => by
  have F : Fit (cxE P w K mg base ["_law_start", "_law_k", "_law_pool"] "_law_name" (defScope s_l_name) T.a_l_name cdv A outer s H E) (fun cls d _ H => E cls d H) := fit_cx
  have nd := sc_l_name.nd
  exact (rss_cons (rs_set (i := 2) nd rfl (Or.inl rfl) (re_lst (ra_cons (re_str) (ra_cons (re_str) (ra_cons (re_str) (ra_cons (re_str) (ra_cons (re_str) (ra_cons (re_str) (ra_cons (re_str) (ra_cons (re_str) (ra_cons (re_str) (ra_cons (re_str) (ra_cons (re_str) (ra_cons (re_str) (ra_cons (re_str) (ra_cons (re_str) (ra_cons (re_str) (ra_cons (re_str) (ra_cons (re_str) ra_nil)))))))))))))))))))
  (rss_cons (rs_set (i := 2) nd rfl (Or.inl rfl) (re_plus (rv 2) (re_lst (ra_cons (re_str) (ra_cons (re_str) (ra_cons (re_str) (ra_cons (re_str) (ra_cons (re_str) (ra_cons (re_str) (ra_cons (re_str) (ra_cons (re_str) (ra_cons (re_str) ra_nil))))))))))))
  (rss_one (rs_ret (re_sub (hu1 hr) (rv 2) (re_mod (re_intc (by rfl) T.g_int (re_plus (rv 0) (re_mul re_int (rv 1)))) re_int) (fun _ _ => rfl))))))
theorem d_l_name (T : Fx K mg cn) : DefM P w K mg base cn 1 T.a_l_name 2 [] f_l_name := defM0 (ps := ["_law_start", "_law_k"]) (fnM T.F_l_name sc_l_name (b_l_name T)) (T.F_l_name.binds (ps := ["_law_start", "_law_k"]) fun _ _ _ _ _ _ us hl => match us, hl with | [_, _], _ => rfl) T.F_l_name.kp
theorem b_l_words (T : Fx K mg cn) : BodyM P w K mg base cn 0 [] "_law_words" (defScope s_l_words) T.a_l_words (defBody s_l_words) m_l_words := fun cdv A outer s H E hr => by
  have F : Fit (cxE P w K mg base [] "_law_words" (defScope s_l_words) T.a_l_words cdv A outer s H E) (fun cls d _ H => E cls d H) := fit_cx
  have nd := sc_l_words.nd
  exact (rss_one (rs_ret (re_lst (ra_cons (re_str) (ra_cons (re_str) (ra_cons (re_str) (ra_cons (re_str) (ra_cons (re_str) (ra_cons (re_str) (ra_cons (re_str) ra_nil))))))))))
theorem d_l_words (T : Fx K mg cn) : DefM P w K mg base cn 1 T.a_l_words 0 [] f_l_words := defM0 (ps := []) (fnM T.F_l_words sc_l_words (b_l_words T)) (T.F_l_words.binds (ps := []) fun _ _ _ _ _ _ us hl => match us, hl with | [], _ => rfl) T.F_l_words.kp
theorem b_l_stances (T : Fx K mg cn) : BodyM P w K mg base cn 0 ["_law_texts", "_law_text"] "_law_stances" (defScope s_l_stances) T.a_l_stances (defBody s_l_stances) m_l_stances := fun cdv A outer s H E hr => by
  have F : Fit (cxE P w K mg base ["_law_texts", "_law_text"] "_law_stances" (defScope s_l_stances) T.a_l_stances cdv A outer s H E) (fun cls d _ H => E cls d H) := fit_cx
  have nd := sc_l_stances.nd
  exact (rss_cons (rs_set (i := 0) nd rfl (Or.inl rfl) (re_lst (ra_cons (re_str) (ra_cons (re_str) (ra_cons (re_str) ra_nil)))))
  (rss_cons (rs_set (i := 0) nd rfl (Or.inl rfl) (re_plus (rv 0) (re_lst (ra_cons (re_str) (ra_cons (re_str) (ra_cons (re_str) (ra_cons (re_str) (ra_cons (re_str) (ra_cons (re_str) ra_nil)))))))))
  (rss_one (rs_ret (re_lc (own := [("_law_text", 1)]) (t := (.one 1)) F.calm nd (ri_seq (rv 0)) (blkOk_by (own := [("_law_text", 1)]) (N := ["_law_texts", "_law_text"]) (sc := defScope s_l_stances) (by decide +kernel)) (by decide) (fun _ _ _ _ _ => (pg_name (i := 1) nd rfl (Or.inl rfl))) (fun _ _ _ _ _ => rts_nil) (fun _ _ _ _ _ => (re_tuple (by rfl) T.g_tuple (re_split (rv 1) (ra_cons (re_str) ra_nil)))))))))
theorem d_l_stances (T : Fx K mg cn) : DefM P w K mg base cn 1 T.a_l_stances 0 [] f_l_stances := defM0 (ps := []) (fnM T.F_l_stances sc_l_stances (b_l_stances T)) (T.F_l_stances.binds (ps := []) fun _ _ _ _ _ _ us hl => match us, hl with | [], _ => rfl) T.F_l_stances.kp
theorem b_l_products (T : Fx K mg cn) : BodyM P w K mg base cn 1 ["_law_script", "_law_at", "_law_menu", "_law_picks", "_law_words_here", "_law_products_here", "_law_k", "_law_product"] "_law_products" (defScope s_l_products) T.a_l_products (defBody s_l_products) m_l_products := fun cdv A outer s H E hr => by
  have F : Fit (cxE P w K mg base ["_law_script", "_law_at", "_law_menu", "_law_picks", "_law_words_here", "_law_products_here", "_law_k", "_law_product"] "_law_products" (defScope s_l_products) T.a_l_products cdv A outer s H E) (fun cls d _ H => E cls d H) := fit_cx
  have nd := sc_l_products.nd
  exact (rss_cons (rs_set (i := 2) nd rfl (Or.inl rfl) (re_lst (ra_cons (re_lst (ra_cons (re_lst (ra_cons (re_str) ra_nil)) (ra_cons (re_lst (ra_cons (re_str) ra_nil)) ra_nil))) (ra_cons (re_lst (ra_cons (re_lst (ra_cons (re_str) ra_nil)) ra_nil)) (ra_cons (re_lst (ra_cons (re_lst (ra_cons (re_str) ra_nil)) (ra_cons (re_lst (ra_cons (re_str) ra_nil)) ra_nil))) (ra_cons (re_lst (ra_cons (re_lst (ra_cons (re_str) ra_nil)) ra_nil)) (ra_cons (re_lst (ra_cons (re_lst (ra_cons (re_str) ra_nil)) ra_nil)) ra_nil)))))))
  (rss_cons (rs_set (i := 2) nd rfl (Or.inl rfl) (re_plus (rv 2) (re_lst (ra_cons (re_lst (ra_cons (re_lst (ra_cons (re_str) (ra_cons (re_str) ra_nil))) ra_nil)) (ra_cons (re_lst (ra_cons (re_lst (ra_cons (re_str) ra_nil)) ra_nil)) (ra_cons (re_lst (ra_cons (re_lst (ra_cons (re_str) ra_nil)) ra_nil)) (ra_cons (re_lst (ra_cons (re_lst (ra_cons (re_str) (ra_cons (re_str) ra_nil))) ra_nil)) (ra_cons (re_lst (ra_cons (re_lst (ra_cons (re_str) ra_nil)) (ra_cons (re_lst (ra_cons (re_str) ra_nil)) ra_nil))) ra_nil))))))))
  (rss_cons (rs_set (i := 3) nd rfl (Or.inl rfl) (re_call F (d_l_digits T) (hr.mono (by decide : 1 ≤ 1)) (by rfl) T.m_l_digits (ra_cons (rv 0) (ra_cons (rv 1) (ra_cons (re_lst (ra_cons re_int (ra_cons re_int (ra_cons re_int (ra_cons re_int (ra_cons re_int (ra_cons re_int (ra_cons re_int (ra_cons re_int (ra_cons re_int (ra_cons re_int (ra_cons re_int (ra_cons re_int ra_nil))))))))))))) ra_nil)))))
  (rss_cons (rs_if (rt_eq (hu64 hr) (re_sub (hu1 hr) (rv 3) re_int (fun _ _ => rfl)) re_int) (rss_one (rs_ret (re_sub (hu1 hr) (rv 2) (re_sub (hu1 hr) (rv 3) re_int (fun _ _ => rfl)) (fun _ _ => rfl)))) rss_nil)
  (rss_cons (rs_set (i := 4) nd rfl (Or.inl rfl) (re_call0 F (d_l_words T) (hr.mono (by decide : 1 ≤ 1)) (by rfl) T.m_l_words))
  (rss_cons (rs_set (i := 5) nd rfl (Or.inl rfl) (re_lst ra_nil))
  (rss_cons (rs_for F.pw F.calm (ri_range1 (by rfl) T.g_range (re_sub (hu1 hr) (rv 3) re_int (fun _ _ => rfl))) (rg_name (i := 6) nd rfl (Or.inl rfl)) (rss_cons (rs_set (i := 7) nd rfl (Or.inl rfl) (re_lst (ra_cons (re_sub (hu1 hr) (rv 4) (re_sub (hu1 hr) (rv 3) (re_plus re_int (re_mul re_int (rv 6))) (fun _ _ => rfl)) (fun _ _ => rfl)) ra_nil)))
  (rss_cons (rs_if (rt_eq (hu64 hr) (re_sub (hu1 hr) (rv 3) (re_plus re_int (re_mul re_int (rv 6))) (fun _ _ => rfl)) re_int) (rss_one (rs_expr (re_app (rv 7) (ra_cons (re_sub (hu1 hr) (rv 4) (re_sub (hu1 hr) (rv 3) (re_plus re_int (re_mul re_int (rv 6))) (fun _ _ => rfl)) (fun _ _ => rfl)) ra_nil)))) rss_nil)
  (rss_one (rs_expr (re_app (rv 5) (ra_cons (rv 7) ra_nil)))))))
  (rss_one (rs_ret (rv 5))))))))))
theorem d_l_products (T : Fx K mg cn) : DefM P w K mg base cn 2 T.a_l_products 2 [] f_l_products := defM0 (ps := ["_law_script", "_law_at"]) (fnM T.F_l_products sc_l_products (b_l_products T)) (T.F_l_products.binds (ps := ["_law_script", "_law_at"]) fun _ _ _ _ _ _ us hl => match us, hl with | [_, _], _ => rfl) T.F_l_products.kp
theorem b_l_holds (T : Fx K mg cn) : BodyM P w K mg base cn 0 ["_law_product", "_law_stance", "_law_word"] "_law_holds" (defScope s_l_holds) T.a_l_holds (defBody s_l_holds) m_l_holds := fun cdv A outer s H E hr => by
  have F : Fit (cxE P w K mg base ["_law_product", "_law_stance", "_law_word"] "_law_holds" (defScope s_l_holds) T.a_l_holds cdv A outer s H E) (fun cls d _ H => E cls d H) := fit_cx
  have nd := sc_l_holds.nd
  exact (rss_one (rs_ret (re_eq (hu64 hr) (re_len (by rfl) T.g_len (re_lc (own := [("_law_word", 2)]) (t := (.one 2)) F.calm nd (ri_seq (rv 0)) (blkOk_by (own := [("_law_word", 2)]) (N := ["_law_product", "_law_stance", "_law_word"]) (sc := defScope s_l_holds) (by decide +kernel)) (by decide) (fun _ _ _ _ _ => (pg_name (i := 2) nd rfl (Or.inl rfl))) (fun _ _ _ _ _ => (rts_one (rt_notIn (hu65 hr) (rv 2) (rv 1)))) (fun _ _ _ _ _ => (rv 2)))) re_int)))
theorem d_l_holds (T : Fx K mg cn) : DefM P w K mg base cn 1 T.a_l_holds 2 [] f_l_holds := defM0 (ps := ["_law_product", "_law_stance"]) (fnM T.F_l_holds sc_l_holds (b_l_holds T)) (T.F_l_holds.binds (ps := ["_law_product", "_law_stance"]) fun _ _ _ _ _ _ us hl => match us, hl with | [_, _], _ => rfl) T.F_l_holds.kp
theorem b_l_let (T : Fx K mg cn) : BodyM P w K mg base cn 1 ["_law_products_here", "_law_found", "_law_stance", "_law_product"] "_law_let" (defScope s_l_let) T.a_l_let (defBody s_l_let) m_l_let := fun cdv A outer s H E hr => by
  have F : Fit (cxE P w K mg base ["_law_products_here", "_law_found", "_law_stance", "_law_product"] "_law_let" (defScope s_l_let) T.a_l_let cdv A outer s H E) (fun cls d _ H => E cls d H) := fit_cx
  have nd := sc_l_let.nd
  exact (rss_cons (rs_set (i := 1) nd rfl (Or.inl rfl) (re_lst ra_nil))
  (rss_cons (rs_for F.pw F.calm (ri_seq (re_call0 F (d_l_stances T) (hr.mono (by decide : 1 ≤ 1)) (by rfl) T.m_l_stances)) (rg_name (i := 2) nd rfl (Or.inr rfl)) (rss_one (rs_if (rt_gt  (re_len (by rfl) T.g_len (re_lc (own := [("_law_product", 3)]) (t := (.one 3)) F.calm nd (ri_seq (rv 0)) (blkOk_by (own := [("_law_product", 3)]) (N := ["_law_products_here", "_law_found", "_law_stance", "_law_product"]) (sc := defScope s_l_let) (by decide +kernel)) (by decide) (fun _ _ _ _ _ => (pg_name (i := 3) nd rfl (Or.inl rfl))) (fun _ _ _ _ _ => (rts_one (rt_val (re_call F.blk (d_l_holds T) (hr.mono (by decide : 1 ≤ 1)) (by rfl) T.m_l_holds (ra_cons (rv 3) (ra_cons (rv 2) ra_nil)))))) (fun _ _ _ _ _ => (rv 3)))) re_int) (rss_one (rs_expr (re_app (rv 1) (ra_cons (rv 2) ra_nil)))) rss_nil)))
  (rss_one (rs_ret (rv 1)))))
theorem d_l_let (T : Fx K mg cn) : DefM P w K mg base cn 2 T.a_l_let 1 [] f_l_let := defM0 (ps := ["_law_products_here"]) (fnM T.F_l_let sc_l_let (b_l_let T)) (T.F_l_let.binds (ps := ["_law_products_here"]) fun _ _ _ _ _ _ us hl => match us, hl with | [_], _ => rfl) T.F_l_let.kp
theorem b_l_rule (T : Fx K mg cn) : BodyM P w K mg base cn 3 ["_law_products_here", "_law_rule_here", "_law_product", "_law_part", "_law_word"] "_law_rule" (defScope s_l_rule) T.a_l_rule (defBody s_l_rule) m_l_rule := fun cdv A outer s H E hr => by
  have F : Fit (cxE P w K mg base ["_law_products_here", "_law_rule_here", "_law_product", "_law_part", "_law_word"] "_law_rule" (defScope s_l_rule) T.a_l_rule cdv A outer s H E) (fun cls d _ H => E cls d H) := fit_cx
  have nd := sc_l_rule.nd
  exact (rss_cons (rs_set (i := 1) nd rfl (Or.inl rfl) (re_cmeth0 (c := "Rule") T.cm_Rule_of (fn_Rule_of T) (hr.mono (by decide : 3 ≤ 3)) (by rfl) T.c_Rule))
  (rss_cons (rs_for F.pw F.calm (ri_seq (rv 0)) (rg_name (i := 2) nd rfl (Or.inl rfl)) (rss_cons (rs_set (i := 3) nd rfl (Or.inl rfl) (re_cmeth (c := "Rule") T.cm_Rule_of (fn_Rule_of T) (hr.mono (by decide : 3 ≤ 3)) (by rfl) T.c_Rule (ra_cons (re_str) ra_nil)))
  (rss_cons (rs_for F.pw F.calm (ri_seq (rv 2)) (rg_name (i := 4) nd rfl (Or.inl rfl)) (rss_one (rs_set (i := 3) nd rfl (Or.inl rfl) (re_binI (c := "Rule") T.bin_Rule_BitAnd (d_Rule___and__ T) (hr.mono (by decide : 3 ≤ 3)) (rv 3) (re_cmeth (c := "Rule") T.cm_Rule_of (fn_Rule_of T) (hr.mono (by decide : 3 ≤ 3)) (by rfl) T.c_Rule (ra_cons (rv 4) ra_nil))))))
  (rss_one (rs_set (i := 1) nd rfl (Or.inl rfl) (re_binI (c := "Rule") T.bin_Rule_BitOr (d_Rule___or__ T) (hr.mono (by decide : 3 ≤ 3)) (rv 1) (rv 3)))))))
  (rss_one (rs_ret (rv 1)))))
theorem d_l_rule (T : Fx K mg cn) : DefM P w K mg base cn 4 T.a_l_rule 1 [] f_l_rule := defM0 (ps := ["_law_products_here"]) (fnM T.F_l_rule sc_l_rule (b_l_rule T)) (T.F_l_rule.binds (ps := ["_law_products_here"]) fun _ _ _ _ _ _ us hl => match us, hl with | [_], _ => rfl) T.F_l_rule.kp
theorem b_l_same (T : Fx K mg cn) {n : Nat} {self : List D → M D} (hself : DefM P w K mg base cn n T.a_l_same 2 [] self) : BodyM P w K mg base cn n ["_law_actual", "_law_due", "_law_k"] "_law_same" (defScope s_l_same) T.a_l_same (defBody s_l_same) (m_l_same self) := fun cdv A outer s H E hr => by
  have F : Fit (cxE P w K mg base ["_law_actual", "_law_due", "_law_k"] "_law_same" (defScope s_l_same) T.a_l_same cdv A outer s H E) (fun cls d _ H => E cls d H) := fit_cx
  have nd := sc_l_same.nd
  exact (rss_cons (rs_if (rt_isN (rv 1)) (rss_one (rs_ret (re_isN (rv 0)))) rss_nil)
  (rss_cons (rs_if (rt_val (re_isi (T := .bl) rfl (by rfl) T.g_isinstance (by rfl) T.g_bool PyProof.Rows.boot_bool (rv 1))) (rss_one (rs_ret (re_and (re_isi (T := .bl) rfl (by rfl) T.g_isinstance (by rfl) T.g_bool PyProof.Rows.boot_bool (rv 0)) (re_one (re_eq (hu64 hr) (rv 0) (rv 1)))))) rss_nil)
  (rss_cons (rs_if (rt_val (re_isi (T := .int) rfl (by rfl) T.g_isinstance (by rfl) T.g_int PyProof.Rows.boot_int (rv 1))) (rss_one (rs_ret (re_and (re_isi (T := .int) rfl (by rfl) T.g_isinstance (by rfl) T.g_int PyProof.Rows.boot_int (rv 0)) (re_and (re_not (re_isi (T := .bl) rfl (by rfl) T.g_isinstance (by rfl) T.g_bool PyProof.Rows.boot_bool (rv 0))) (re_one (re_eq (hu64 hr) (rv 0) (rv 1))))))) rss_nil)
  (rss_cons (rs_if (rt_val (re_isi (T := .str) rfl (by rfl) T.g_isinstance (by rfl) T.g_str PyProof.Rows.boot_str (rv 1))) (rss_one (rs_ret (re_and (re_isi (T := .str) rfl (by rfl) T.g_isinstance (by rfl) T.g_str PyProof.Rows.boot_str (rv 0)) (re_one (re_eq (hu64 hr) (rv 0) (rv 1)))))) rss_nil)
  (rss_cons (rs_if (rt_w (rw_and (rt_val (re_isi (T := .tup) rfl (by rfl) T.g_isinstance (by rfl) T.g_tuple PyProof.Rows.boot_tuple (rv 1))) (rw_and1 (rt_not (rt_val (re_isi (T := .tup) rfl (by rfl) T.g_isinstance (by rfl) T.g_tuple PyProof.Rows.boot_tuple (rv 0))))))) (rss_one (rs_ret re_bl)) rss_nil)
  (rss_cons (rs_if (rt_w (rw_and (rt_val (re_isi (T := .lst) rfl (by rfl) T.g_isinstance (by rfl) T.g_list PyProof.Rows.boot_list (rv 1))) (rw_and1 (rt_not (rt_val (re_isi (T := .lst) rfl (by rfl) T.g_isinstance (by rfl) T.g_list PyProof.Rows.boot_list (rv 0))))))) (rss_one (rs_ret re_bl)) rss_nil)
  (rss_cons (rs_if (rt_ne (hu64 hr) (re_len (by rfl) T.g_len (rv 0)) (re_len (by rfl) T.g_len (rv 1))) (rss_one (rs_ret re_bl)) rss_nil)
  (rss_cons (rs_for F.pw F.calm (ri_range1 (by rfl) T.g_range (re_len (by rfl) T.g_len (rv 1))) (rg_name (i := 2) nd rfl (Or.inl rfl)) (rss_one (rs_if (rt_not (rt_val (re_call F hself hr (by rfl) T.m_l_same (ra_cons (re_sub (hu1 hr) (rv 0) (rv 2) (fun _ _ => rfl)) (ra_cons (re_sub (hu1 hr) (rv 1) (rv 2) (fun _ _ => rfl)) ra_nil))))) (rss_one (rs_ret re_bl)) rss_nil)))
  (rss_one (rs_ret re_bl))))))))))
theorem d_l_sameN (T : Fx K mg cn) : ∀ n, DefM P w K mg base cn n T.a_l_same 2 [] (f_l_same n)
  | 0 => defM0 (ps := ["_law_actual", "_law_due"]) fn_bad (T.F_l_same.binds (ps := ["_law_actual", "_law_due"]) fun _ _ _ _ _ _ us hl => match us, hl with | [_, _], _ => rfl) T.F_l_same.kp
  | n + 1 => defM0 (ps := ["_law_actual", "_law_due"]) (fnM T.F_l_same sc_l_same (b_l_same T (d_l_sameN T n))) (T.F_l_same.binds (ps := ["_law_actual", "_law_due"]) fun _ _ _ _ _ _ us hl => match us, hl with | [_, _], _ => rfl) T.F_l_same.kp
theorem d_l_same (T : Fx K mg cn) : DefM P w K mg base cn 10 T.a_l_same 2 [] (f_l_same 10) := d_l_sameN T 10
theorem bH_l_same (T : Fx K mg cn) {n : Nat} {self : List D → M D} (hself : DefH P w K mg base cn n T.a_l_same 2 self) : BodyH P w K mg base cn n ["_law_actual", "_law_due", "_law_k"] "_law_same" (defScope s_l_same) T.a_l_same (defBody s_l_same) (m_l_same self) := fun cdv A outer s H E p hz hr => by
  have hot := hot_fn (P := P) (w := w) (K := K) (mg := mg) (base := base) (N := ["_law_actual", "_law_due", "_law_k"]) (qual := "_law_same") (sc := defScope s_l_same) (f := T.a_l_same) (cdv := cdv) (outer := outer) (s := s) (H := H) (E := E) hz
  have pw : PassesOwn (model P w) (cxHE P w K mg base ["_law_actual", "_law_due", "_law_k"] "_law_same" (defScope s_l_same) T.a_l_same cdv A outer s H E p).A (cxHE P w K mg base ["_law_actual", "_law_due", "_law_k"] "_law_same" (defScope s_l_same) T.a_l_same cdv A outer s H E p).env (cxHE P w K mg base ["_law_actual", "_law_due", "_law_k"] "_law_same" (defScope s_l_same) T.a_l_same cdv A outer s H E p).xe := passes_of (X := cxHE P w K mg base ["_law_actual", "_law_due", "_law_k"] "_law_same" (defScope s_l_same) T.a_l_same cdv A outer s H E p) rfl
  have nd := sc_l_same.nd
  exact (rss_cons (rs_if (rt_isN (rv 1)) (rss_one (rs_ret (re_isN (rv 0)))) rss_nil)
  (rss_cons (rs_if (rt_val (re_isi (T := .bl) rfl (by rfl) T.g_isinstance (by rfl) T.g_bool PyProof.Rows.boot_bool (rv 1))) (rss_one (rs_ret (re_and (re_isi (T := .bl) rfl (by rfl) T.g_isinstance (by rfl) T.g_bool PyProof.Rows.boot_bool (rv 0)) (re_one (re_eq (huH64 hr) (rv 0) (rv 1)))))) rss_nil)
  (rss_cons (rs_if (rt_val (re_isi (T := .int) rfl (by rfl) T.g_isinstance (by rfl) T.g_int PyProof.Rows.boot_int (rv 1))) (rss_one (rs_ret (re_and (re_isi (T := .int) rfl (by rfl) T.g_isinstance (by rfl) T.g_int PyProof.Rows.boot_int (rv 0)) (re_and (re_not (re_isi (T := .bl) rfl (by rfl) T.g_isinstance (by rfl) T.g_bool PyProof.Rows.boot_bool (rv 0))) (re_one (re_eq (huH64 hr) (rv 0) (rv 1))))))) rss_nil)
  (rss_cons (rs_if (rt_val (re_isi (T := .str) rfl (by rfl) T.g_isinstance (by rfl) T.g_str PyProof.Rows.boot_str (rv 1))) (rss_one (rs_ret (re_and (re_isi (T := .str) rfl (by rfl) T.g_isinstance (by rfl) T.g_str PyProof.Rows.boot_str (rv 0)) (re_one (re_eq (huH64 hr) (rv 0) (rv 1)))))) rss_nil)
  (rss_cons (rs_if (rt_w (rw_and (rt_val (re_isi (T := .tup) rfl (by rfl) T.g_isinstance (by rfl) T.g_tuple PyProof.Rows.boot_tuple (rv 1))) (rw_and1 (rt_not (rt_val (re_isi (T := .tup) rfl (by rfl) T.g_isinstance (by rfl) T.g_tuple PyProof.Rows.boot_tuple (rv 0))))))) (rss_one (rs_ret re_bl)) rss_nil)
  (rss_cons (rs_if (rt_w (rw_and (rt_val (re_isi (T := .lst) rfl (by rfl) T.g_isinstance (by rfl) T.g_list PyProof.Rows.boot_list (rv 1))) (rw_and1 (rt_not (rt_val (re_isi (T := .lst) rfl (by rfl) T.g_isinstance (by rfl) T.g_list PyProof.Rows.boot_list (rv 0))))))) (rss_one (rs_ret re_bl)) rss_nil)
  (rss_cons (rs_if (rt_ne (huH64 hr) (re_len (by rfl) T.g_len (rv 0)) (re_len (by rfl) T.g_len (rv 1))) (rss_one (rs_ret re_bl)) rss_nil)
  (rss_cons (rs_forH pw hot (ri_range1H (by rfl) T.g_range (re_len (by rfl) T.g_len (rv 1))) (rg_name (i := 2) nd rfl (Or.inl rfl)) (rss_one (rs_if (rt_not (rt_val (re_callH hself hot hr (by rfl) T.m_l_same (ra_cons (re_sub (huH1 hr) (rv 0) (rv 2) (fun _ _ => rfl)) (ra_cons (re_sub (huH1 hr) (rv 1) (rv 2) (fun _ _ => rfl)) ra_nil))))) (rss_one (rs_ret re_bl)) rss_nil)))
  (rss_one (rs_ret re_bl))))))))))
theorem dH_l_sameN (T : Fx K mg cn) : ∀ n, DefH P w K mg base cn n T.a_l_same 2 (f_l_same n)
  | 0 => ⟨⟨_, ["_law_actual", "_law_due"], fn_badH, (T.F_l_same.binds (ps := ["_law_actual", "_law_due"]) fun _ _ _ _ _ _ us hl => match us, hl with | [_, _], _ => rfl)⟩, T.F_l_same.kp⟩
  | n + 1 => ⟨⟨_, ["_law_actual", "_law_due"], fnMH T.F_l_same sc_l_same (bH_l_same T (dH_l_sameN T n)), (T.F_l_same.binds (ps := ["_law_actual", "_law_due"]) fun _ _ _ _ _ _ us hl => match us, hl with | [_, _], _ => rfl)⟩, T.F_l_same.kp⟩
theorem dH_l_same (T : Fx K mg cn) : DefH P w K mg base cn 10 T.a_l_same 2 (f_l_same 10) := dH_l_sameN T 10
theorem b_l_told (T : Fx K mg cn) : BodyM P w K mg base cn 10 ["_law_book", "_law_names", "_law_lets", "_law_spare", "_law_k", "e", "_law_rank"] "_law_told" (defScope s_l_told) T.a_l_told (defBody s_l_told) m_l_told := fun cdv A outer s H E hr => by
  have F : Fit (cxE P w K mg base ["_law_book", "_law_names", "_law_lets", "_law_spare", "_law_k", "e", "_law_rank"] "_law_told" (defScope s_l_told) T.a_l_told cdv A outer s H E) (fun cls d _ H => E cls d H) := fit_cx
  have nd := sc_l_told.nd
  exact (rss_cons (rs_if (rt_w (rw_or (rt_not (rt_val (re_call F (d_l_same T) (hr.mono (by decide : 10 ≤ 10)) (by rfl) T.m_l_same (ra_cons (re_pr F T.pr_Book_levels (d_Book_levels T) (hr.mono (by decide : 2 ≤ 10)) (rv 0)) (ra_cons (rv 1) ra_nil))))) (rw_or1 (rt_not (rt_val (re_call F (d_l_same T) (hr.mono (by decide : 10 ≤ 10)) (by rfl) T.m_l_same (ra_cons (re_lock (mUn (fFld cs_Book "_rules") (mV 0)) (re_lc (own := [("_law_rank", 6)]) (t := (.one 6)) F.calm nd (ri_own (c := "Book") (itr_Book T) (hr.mono (by decide : 1 ≤ 10)) (rv 0)) (blkOk_by (own := [("_law_rank", 6)]) (N := ["_law_book", "_law_names", "_law_lets", "_law_spare", "_law_k", "e", "_law_rank"]) (sc := defScope s_l_told) (by decide +kernel)) (by decide) (fun _ _ _ _ _ => (pg_name (i := 6) nd rfl (Or.inl rfl))) (fun _ _ _ _ _ => rts_nil) (fun _ _ _ _ _ => (rv 6)))) (ra_cons (rv 1) ra_nil)))))))) (rss_one (rs_ret re_bl)) rss_nil)
  (rss_cons (rs_for F.pw F.calm (ri_range1 (by rfl) T.g_range (re_len (by rfl) T.g_len (rv 1))) (rg_name (i := 4) nd rfl (Or.inl rfl)) (rss_one (rs_if (rt_w (rw_or (rt_ninI (c := "Book") T.spc_Book___contains__ (d_Book___contains__ T) (hr.mono (by decide : 1 ≤ 10)) (re_sub (hu1 hr) (rv 1) (rv 4) (fun _ _ => rfl)) (rv 0)) (rw_or1 (rt_not (rt_val (re_call F (d_l_same T) (hr.mono (by decide : 10 ≤ 10)) (by rfl) T.m_l_same (ra_cons (re_pr F T.pr_Rule_stances (d_Rule_stances T) (hr.mono (by decide : 2 ≤ 10)) (re_ixI (c := "Book") F T.spc_Book___getitem__ (d_Book___getitem__ T) (hr.mono (by decide : 5 ≤ 10)) (rv 0) (re_sub (hu1 hr) (rv 1) (rv 4) (fun _ _ => rfl)))) (ra_cons (re_sub (hu1 hr) (rv 2) (rv 4) (fun _ _ => rfl)) ra_nil)))))))) (rss_one (rs_ret re_bl)) rss_nil)))
  (rss_cons (rs_if (rt_inI (c := "Book") T.spc_Book___contains__ (d_Book___contains__ T) (hr.mono (by decide : 1 ≤ 10)) (rv 3) (rv 0)) (rss_one (rs_ret re_bl)) rss_nil)
  (rss_cons (rs_tryN (c := "Unknown") (i := 5) (es := errsL) F rfl rfl nd rfl (by rfl) (fun W pn xe F => (rss_one (rs_set (i := 1) nd rfl (Or.inl rfl) (re_lst (ra_cons (re_ixI (c := "Book") F T.spc_Book___getitem__ (d_Book___getitem__ T) (hr.mono (by decide : 5 ≤ 10)) (rv 0) (rv 3)) ra_nil))))) ⟨⟨by rfl, by decide, .inl T.c_Unknown⟩, T.ex_Unknown⟩ (fun a oe cls d pn hz hf => rsx_ret (rex_call (dH_l_same T) (hot_suite hz hf) (hr.mono (by decide : 10 ≤ 10)) (by rfl) T.m_l_same (rax_cons (rex_tup (rax_cons (rex_fld T.xf_row hz hf rfl (Or.inl rfl)) (rax_cons (rex_fld T.xf_what hz hf rfl (Or.inl rfl)) rax_nil))) (rax_cons (rex_of (re_tup (ra_cons re_non (ra_cons (rv 3) ra_nil)))) rax_nil)))))
  (rss_one (rs_ret re_bl))))))
theorem d_l_told (T : Fx K mg cn) : DefM P w K mg base cn 11 T.a_l_told 4 [] f_l_told := defM0 (ps := ["_law_book", "_law_names", "_law_lets", "_law_spare"]) (fnM T.F_l_told sc_l_told (b_l_told T)) (T.F_l_told.binds (ps := ["_law_book", "_law_names", "_law_lets", "_law_spare"]) fun _ _ _ _ _ _ us hl => match us, hl with | [_, _, _, _], _ => rfl) T.F_l_told.kp
theorem b_law (T : Fx K mg cn) {a_law : Addr} : BodyM P w K mg base cn 11 ["_law_script", "_law_picks", "_law_names", "_law_spare", "_law_products_here", "_law_lets", "_law_pairs", "_law_book", "_law_told_here", "_law_few", "_law_doubled", "_law_at", "_law_bad", "e", "_law_k", "_law_product", "_law_rank"] "law" (defScope s_law) a_law (defBody s_law) m_law := fun cdv A outer s H E hr => by
  have F : Fit (cxE P w K mg base ["_law_script", "_law_picks", "_law_names", "_law_spare", "_law_products_here", "_law_lets", "_law_pairs", "_law_book", "_law_told_here", "_law_few", "_law_doubled", "_law_at", "_law_bad", "e", "_law_k", "_law_product", "_law_rank"] "law" (defScope s_law) a_law cdv A outer s H E) (fun cls d _ H => E cls d H) := fit_cx
  have nd := sc_law.nd
  exact (rss_cons (rs_set (i := 1) nd rfl (Or.inr rfl) (re_call F (d_l_digits T) (hr.mono (by decide : 1 ≤ 11)) (by rfl) T.m_l_digits (ra_cons (rv 0) (ra_cons re_int (ra_cons (re_lst (ra_cons re_int (ra_cons re_int (ra_cons re_int (ra_cons re_int ra_nil))))) ra_nil)))))
  (rss_cons (rs_set (i := 2) nd rfl (Or.inr rfl) (re_lc (own := [("_law_k", 14)]) (t := (.one 14)) F.calm nd (ri_range1 (by rfl) T.g_range (re_sub (hu1 hr) (rv 1) re_int (fun _ _ => rfl))) (blkOk_by (own := [("_law_k", 14)]) (N := ["_law_script", "_law_picks", "_law_names", "_law_spare", "_law_products_here", "_law_lets", "_law_pairs", "_law_book", "_law_told_here", "_law_few", "_law_doubled", "_law_at", "_law_bad", "e", "_law_k", "_law_product", "_law_rank"]) (sc := defScope s_law) (by decide +kernel)) (by decide) (fun _ _ _ _ _ => (pg_name (i := 14) nd rfl (Or.inl rfl))) (fun _ _ _ _ _ => rts_nil) (fun _ _ _ _ _ => (re_call F.blk (d_l_name T) (hr.mono (by decide : 1 ≤ 11)) (by rfl) T.m_l_name (ra_cons (re_sub (hu1 hr) (rv 1) re_int (fun _ _ => rfl)) (ra_cons (rv 14) ra_nil))))))
  (rss_cons (rs_set (i := 3) nd rfl (Or.inl rfl) (re_call F (d_l_name T) (hr.mono (by decide : 1 ≤ 11)) (by rfl) T.m_l_name (ra_cons (re_sub (hu1 hr) (rv 1) re_int (fun _ _ => rfl)) (ra_cons re_int ra_nil))))
  (rss_cons (rs_set (i := 4) nd rfl (Or.inr rfl) (re_lc (own := [("_law_k", 14)]) (t := (.one 14)) F.calm nd (ri_range1 (by rfl) T.g_range (re_len (by rfl) T.g_len (rv 2))) (blkOk_by (own := [("_law_k", 14)]) (N := ["_law_script", "_law_picks", "_law_names", "_law_spare", "_law_products_here", "_law_lets", "_law_pairs", "_law_book", "_law_told_here", "_law_few", "_law_doubled", "_law_at", "_law_bad", "e", "_law_k", "_law_product", "_law_rank"]) (sc := defScope s_law) (by decide +kernel)) (by decide) (fun _ _ _ _ _ => (pg_name (i := 14) nd rfl (Or.inl rfl))) (fun _ _ _ _ _ => rts_nil) (fun _ _ _ _ _ => (re_call F.blk (d_l_products T) (hr.mono (by decide : 2 ≤ 11)) (by rfl) T.m_l_products (ra_cons (rv 0) (ra_cons (re_plus re_int (rv 14)) ra_nil))))))
  (rss_cons (rs_setLc (i := 5) (own := [("_law_product", 15)]) (t := (.one 15)) F.calm nd rfl rfl rfl (ri_seq (rv 4)) (blkOk_by (own := [("_law_product", 15)]) (N := ["_law_script", "_law_picks", "_law_names", "_law_spare", "_law_products_here", "_law_lets", "_law_pairs", "_law_book", "_law_told_here", "_law_few", "_law_doubled", "_law_at", "_law_bad", "e", "_law_k", "_law_product", "_law_rank"]) (sc := defScope s_law) (by decide +kernel)) (by decide) (fun _ _ _ _ _ => (pg_name (i := 15) nd rfl (Or.inl rfl))) (fun _ _ _ _ _ => rts_nil) (fun _ _ _ _ _ => (re_tuple (by rfl) T.g_tuple (re_call F.blk (d_l_let T) (hr.mono (by decide : 2 ≤ 11)) (by rfl) T.m_l_let (ra_cons (rv 15) ra_nil)))))
  (rss_cons (rs_setLc (i := 6) (own := [("_law_k", 14)]) (t := (.one 14)) F.calm nd rfl rfl rfl (ri_range1 (by rfl) T.g_range (re_len (by rfl) T.g_len (rv 2))) (blkOk_by (own := [("_law_k", 14)]) (N := ["_law_script", "_law_picks", "_law_names", "_law_spare", "_law_products_here", "_law_lets", "_law_pairs", "_law_book", "_law_told_here", "_law_few", "_law_doubled", "_law_at", "_law_bad", "e", "_law_k", "_law_product", "_law_rank"]) (sc := defScope s_law) (by decide +kernel)) (by decide) (fun _ _ _ _ _ => (pg_name (i := 14) nd rfl (Or.inl rfl))) (fun _ _ _ _ _ => rts_nil) (fun _ _ _ _ _ => (re_tup (ra_cons (re_sub (hu1 hr) (rv 2) (rv 14) (fun _ _ => rfl)) (ra_cons (re_call F.blk (d_l_rule T) (hr.mono (by decide : 4 ≤ 11)) (by rfl) T.m_l_rule (ra_cons (re_sub (hu1 hr) (rv 4) (rv 14) (fun _ _ => rfl)) ra_nil)) ra_nil)))))
  (rss_cons (rs_set (i := 7) nd rfl (Or.inl rfl) (re_makeX (c := "Book") F T.mk_Book (d_Book_init T) (hr.mono (by decide : 5 ≤ 11)) (by rfl) T.c_Book (ra_cons (rv 6) ra_nil)))
  (rss_cons (rs_expr (re_app (rv 6) (ra_cons (re_tup (ra_cons (rv 3) (ra_cons (re_cmeth (c := "Rule") T.cm_Rule_of (fn_Rule_of T) (hr.mono (by decide : 3 ≤ 11)) (by rfl) T.c_Rule (ra_cons (re_str) ra_nil)) ra_nil))) ra_nil)))
  (rss_cons (rs_set (i := 8) nd rfl (Or.inl rfl) (re_pr F T.pr_Book_levels (d_Book_levels T) (hr.mono (by decide : 2 ≤ 11)) (rv 7)))
  (rss_cons (rs_expr (re_app (rv 8) (ra_cons (rv 3) ra_nil)))
  (rss_cons (rs_if (rt_w (rw_or (rt_not (rt_val (re_call F (d_l_told T) (hr.mono (by decide : 11 ≤ 11)) (by rfl) T.m_l_told (ra_cons (rv 7) (ra_cons (rv 2) (ra_cons (rv 5) (ra_cons (rv 3) ra_nil))))))) (rw_or1 (rt_not (rt_val (re_call F (d_l_told T) (hr.mono (by decide : 11 ≤ 11)) (by rfl) T.m_l_told (ra_cons (rv 7) (ra_cons (rv 2) (ra_cons (rv 5) (ra_cons (rv 3) ra_nil)))))))))) (rss_one (rs_ret re_bl)) rss_nil)
  (rss_cons (rs_if (rt_eq (hu64 hr) (re_len (by rfl) T.g_len (rv 2)) re_int) (rss_one (rs_ret re_bl)) rss_nil)
  (rss_cons (rs_set (i := 9) nd rfl (Or.inl rfl) (re_slice (rv 2) rp_no (rp_int re_int)))
  (rss_cons (rs_set (i := 10) nd rfl (Or.inl rfl) (re_sub (hu1 hr) (rv 9) (re_mod (re_sub (hu1 hr) (rv 1) re_int (fun _ _ => rfl)) (re_len (by rfl) T.g_len (rv 9))) (fun _ _ => rfl)))
  (rss_cons (rs_set (i := 11) nd rfl (Or.inl rfl) (re_plus (re_plus re_int (re_idx (rv 9) (ra_cons (rv 10) ra_nil))) (re_mod (re_sub (hu1 hr) (rv 1) re_int (fun _ _ => rfl)) (re_minus (re_len (by rfl) T.g_len (rv 9)) (re_idx (rv 9) (ra_cons (rv 10) ra_nil))))))
  (rss_cons (rs_setLc (i := 12) (own := [("_law_rank", 16)]) (t := (.one 16)) F.calm nd rfl rfl rfl (ri_seq (re_plus (re_plus (re_slice (rv 9) rp_no (rp_int (rv 11))) (re_lst (ra_cons (rv 10) ra_nil))) (re_slice (rv 9) (rp_int (rv 11)) rp_no))) (blkOk_by (own := [("_law_rank", 16)]) (N := ["_law_script", "_law_picks", "_law_names", "_law_spare", "_law_products_here", "_law_lets", "_law_pairs", "_law_book", "_law_told_here", "_law_few", "_law_doubled", "_law_at", "_law_bad", "e", "_law_k", "_law_product", "_law_rank"]) (sc := defScope s_law) (by decide +kernel)) (by decide) (fun _ _ _ _ _ => (pg_name (i := 16) nd rfl (Or.inl rfl))) (fun _ _ _ _ _ => rts_nil) (fun _ _ _ _ _ => (re_tup (ra_cons (rv 16) (ra_cons (re_cmeth (c := "Rule") T.cm_Rule_of (fn_Rule_of T) (hr.mono (by decide : 3 ≤ 11)) (by rfl) T.c_Rule (ra_cons (re_str) ra_nil)) ra_nil)))))
  (rss_cons (rs_tryN (c := "Taken") (i := 13) (es := errsL) F rfl rfl nd rfl (by rfl) (fun W pn xe F => (rss_one (rs_expr (re_makeX (c := "Book") F T.mk_Book (d_Book_init T) (hr.mono (by decide : 5 ≤ 11)) (by rfl) T.c_Book (ra_cons (rv 12) ra_nil))))) ⟨⟨by rfl, by decide, .inl T.c_Taken⟩, T.ex_Taken⟩ (fun a oe cls d pn hz hf => rsx_ret (rex_call (dH_l_same T) (hot_suite hz hf) (hr.mono (by decide : 10 ≤ 11)) (by rfl) T.m_l_same (rax_cons (rex_tup (rax_cons (rex_fld T.xf_row hz hf rfl (Or.inl rfl)) (rax_cons (rex_fld T.xf_what hz hf rfl (Or.inl rfl)) rax_nil))) (rax_cons (rex_of (re_tup (ra_cons re_non (ra_cons (rv 10) ra_nil)))) rax_nil)))))
  (rss_one (rs_ret re_bl)))))))))))))))))))
end
end My
namespace My
open PySem L2 RL
def w_Rule_init : MS := (mFldS cs_Rule "_let" (mV 0) (mUnA vTuple (mCons (mV 1) mNil)))
def v_Rule_init : List D → M D := runF 2 w_Rule_init
theorem fr_Rule_init : FR f_Rule_init v_Rule_init := (fr_run (w_fldS w_v (w_una fr_tuple (w_cons w_v w_nil))))
def w_has_one_of : MS := (mRet (mUnA vAny (mCons (vLc ([("word", 2)].map (·.2)) (vSeqI (mV 1)) (.one 2) mYes (mOp vIn (mV 2) (mV 0))) mNil)))
def v_has_one_of : List D → M D := runF 3 w_has_one_of
theorem fr_has_one_of : FR f_has_one_of v_has_one_of := (fr_run (w_ret (w_una fr_any (w_cons (w_lc (w_seqI w_v) w_yes (w_op f2_in w_v w_v)) w_nil))))
def w_Rule_of : MS := (mSeq (mAsg (vLc ([("stance", 3)].map (·.2)) (vSeqI (mC (.tup [(.tup [.str "own", .str "nested", .str "around", .str "below", .str "heir", .str "package", .str "any"]), (.tup [.str "nested", .str "below", .str "heir", .str "package", .str "any"]), (.tup [.str "around", .str "package", .str "any"]), (.tup [.str "below", .str "heir", .str "package", .str "any"]), (.tup [.str "below", .str "heir", .str "any"]), (.tup [.str "heir", .str "package", .str "any"]), (.tup [.str "heir", .str "any"]), (.tup [.str "package", .str "any"]), (.tup [.str "any"])]))) (.one 3) (mTest (mUnA (fCall 2 [] v_has_one_of) (mCons (mV 3) (mCons (mV 1) mNil)))) (mV 3)) (gN 2))
  (mRet (mUnA (zF (fMake "Rule" 1 [] v_Rule_init)) (mCons (mV 2) mNil))))
def v_Rule_of : List D → M D := runC 4 w_Rule_of
theorem fr_Rule_of : FR f_Rule_of v_Rule_of := (fr_runC (w_seq (w_asg (w_lc (w_seqI w_c) (w_test (w_una (fr_call fr_has_one_of) (w_cons w_v (w_cons w_v w_nil)))) w_v) w_gN)
  (w_ret (w_una (fr_z (fr_make fr_Rule_init)) (w_cons w_v w_nil)))))
def w_Rule_stances : MS := (mRet (mUn (vFld cs_Rule "_let") (mV 0)))
def v_Rule_stances : List D → M D := runF 1 w_Rule_stances
theorem fr_Rule_stances : FR f_Rule_stances v_Rule_stances := (fr_run (w_ret (w_un f1_fld w_v)))
def w_Rule___and__ : MS := (mRet (mUnA (zF (fMake "Rule" 1 [] v_Rule_init)) (mCons (vLc ([("stance", 2)].map (·.2)) (vSeqI (mC (.tup [(.tup [.str "own", .str "nested", .str "around", .str "below", .str "heir", .str "package", .str "any"]), (.tup [.str "nested", .str "below", .str "heir", .str "package", .str "any"]), (.tup [.str "around", .str "package", .str "any"]), (.tup [.str "below", .str "heir", .str "package", .str "any"]), (.tup [.str "below", .str "heir", .str "any"]), (.tup [.str "heir", .str "package", .str "any"]), (.tup [.str "heir", .str "any"]), (.tup [.str "package", .str "any"]), (.tup [.str "any"])]))) (.one 2) (mAndT (mTest (mOp vIn (mV 2) (mUn (vFld cs_Rule "_let") (mV 0)))) (mTest (mOp vIn (mV 2) (mUn (vFld cs_Rule "_let") (mV 1))))) (mV 2)) mNil)))
def v_Rule___and__ : List D → M D := runF 3 w_Rule___and__
theorem fr_Rule___and__ : FR f_Rule___and__ v_Rule___and__ := (fr_run (w_ret (w_una (fr_z (fr_make fr_Rule_init)) (w_cons (w_lc (w_seqI w_c) (w_andT (w_test (w_op f2_in w_v (w_un f1_fld w_v))) (w_test (w_op f2_in w_v (w_un f1_fld w_v)))) w_v) w_nil))))
def w_Rule___or__ : MS := (mRet (mUnA (zF (fMake "Rule" 1 [] v_Rule_init)) (mCons (vLc ([("stance", 2)].map (·.2)) (vSeqI (mC (.tup [(.tup [.str "own", .str "nested", .str "around", .str "below", .str "heir", .str "package", .str "any"]), (.tup [.str "nested", .str "below", .str "heir", .str "package", .str "any"]), (.tup [.str "around", .str "package", .str "any"]), (.tup [.str "below", .str "heir", .str "package", .str "any"]), (.tup [.str "below", .str "heir", .str "any"]), (.tup [.str "heir", .str "package", .str "any"]), (.tup [.str "heir", .str "any"]), (.tup [.str "package", .str "any"]), (.tup [.str "any"])]))) (.one 2) (mOrT (mTest (mOp vIn (mV 2) (mUn (vFld cs_Rule "_let") (mV 0)))) (mTest (mOp vIn (mV 2) (mUn (vFld cs_Rule "_let") (mV 1))))) (mV 2)) mNil)))
def v_Rule___or__ : List D → M D := runF 3 w_Rule___or__
theorem fr_Rule___or__ : FR f_Rule___or__ v_Rule___or__ := (fr_run (w_ret (w_una (fr_z (fr_make fr_Rule_init)) (w_cons (w_lc (w_seqI w_c) (w_orT (w_test (w_op f2_in w_v (w_un f1_fld w_v))) (w_test (w_op f2_in w_v (w_un f1_fld w_v)))) w_v) w_nil))))
def w_Book_init : MS := (mSeq (mFldS cs_Book "_rules" (mV 0) mDict0)
  (mFor (vSeqI (mV 1)) (gTupM 2 (gsCons (gN 2) (gsCons (gN 3) gsNil))) (mSeq (mIfS (mTest (mOp vIn (mV 2) (mUn (vFld cs_Book "_rules") (mV 0)))) (mRaise (exc1 "Taken") (mCons (mV 2) mNil)) mNext)
  (mAsg (mV 3) (gSubM (mUn (vFld cs_Book "_rules") (mV 0)) (mV 2))))))
def v_Book_init : List D → M D := runF 4 w_Book_init
theorem fr_Book_init : FR f_Book_init v_Book_init := (fr_run (w_seq (w_fldS w_v w_dict0C)
  (w_for (w_seqI w_v) (w_gTup (w_gsCons w_gN (w_gsCons w_gN w_gsNil))) (w_seq (w_ifS (w_test (w_op f2_in w_v (w_un f1_fld w_v))) (w_raise x_exc1 (w_cons w_v w_nil)) w_next)
  (w_asg w_v (w_gSub (w_un f1_fld w_v) w_v))))))
def w_Book_levels : MS := (mRet (mUnA vList (mCons (mUn (vFld cs_Book "_rules") (mV 0)) mNil)))
def v_Book_levels : List D → M D := runF 1 w_Book_levels
theorem fr_Book_levels : FR f_Book_levels v_Book_levels := (fr_run (w_ret (w_una fr_list (w_cons (w_un f1_fld w_v) w_nil))))
def w_Book___getitem__ : MS := (mSeq (mIfS (mTest (mOp vNot (mV 1) (mUn (vFld cs_Book "_rules") (mV 0)))) (mRaise (exc1 "Unknown") (mCons (mV 1) mNil)) mNext)
  (mRet (mOp vSubs (mUn (vFld cs_Book "_rules") (mV 0)) (mV 1))))
def v_Book___getitem__ : List D → M D := runF 2 w_Book___getitem__
theorem fr_Book___getitem__ : FR f_Book___getitem__ v_Book___getitem__ := (fr_run (w_seq (w_ifS (w_test (w_op f2_not w_v (w_un f1_fld w_v))) (w_raise x_exc1 (w_cons w_v w_nil)) w_next)
  (w_ret (w_op f2_subs (w_un f1_fld w_v) w_v))))
def w_Book___contains__ : MS := (mRet (mOp vIn (mV 1) (mUn (vFld cs_Book "_rules") (mV 0))))
def v_Book___contains__ : List D → M D := runF 2 w_Book___contains__
theorem fr_Book___contains__ : FR f_Book___contains__ v_Book___contains__ := (fr_run (w_ret (w_op f2_in w_v (w_un f1_fld w_v))))
def w_l_digits : MS := (mSeq (mAsg (mC (.int 0)) (gN 3))
  (mSeq (mIfS (mTest (mOp fLt (mV 1) (mUnA vLen (mCons (mV 0) mNil)))) (mAsg (mOp vSubs (mV 0) (mV 1)) (gN 3)) mNext)
  (mSeq (mAsg (mOp fGe (mV 3) (mOp fPow (mC (.int 10)) (mC (.int 18)))) (gN 4))
  (mSeq (mAsg (mUnA fLst mNil) (gN 5))
  (mSeq (mFor (mRange1 (mUnA vLen (mCons (mV 2) mNil))) (gN 6) (mSeq (mAsg (mOp fMod (mUnA fInt (mCons (mOp vPlus (mOp vPlus (mOp vPlus (mOp fMul (mV 3) (mC (.int 48271))) (mOp fMul (mV 1) (mC (.int 1009)))) (mOp fMul (mV 6) (mC (.int 69621)))) (mC (.int 5))) mNil)) (mC (.int 2147483647))) (gN 7))
  (mSeq (mAsg (mOp fDiv (mOp fMod (mUnA fInt (mCons (mOp vPlus (mOp vPlus (mOp fMul (mV 7) (mV 7)) (mV 3)) (mOp fMul (mV 6) (mC (.int 7919)))) mNil)) (mC (.int 2147483629))) (mC (.int 7))) (gN 7))
  (mSeq (mIfS (mTest (mV 4)) (mSeq (mAsg (mV 3) (gN 7))
  (mAsg (mOp fDiv (mV 3) (mOp vSubs (mV 2) (mV 6))) (gN 3))) mNext)
  (mDrop (vBM .lst fApp (mV 5) (mCons (mOp fMod (mUnA fInt (mCons (mV 7) mNil)) (mOp vSubs (mV 2) (mV 6))) mNil)))))))
  (mRet (mV 5)))))))
def v_l_digits : List D → M D := zF (runF 8 w_l_digits)
theorem fr_l_digits : FR f_l_digits v_l_digits := (fr_z (fr_run (w_seq (w_asg w_c w_gN)
  (w_seq (w_ifS (w_test (w_op (f2_ii fun _ _ => rfl) w_v (w_una fr_len (w_cons w_v w_nil)))) (w_asg (w_op f2_subs w_v w_v) w_gN) w_next)
  (w_seq (w_asg (w_op (f2_ii fun _ _ => rfl) w_v (w_op (f2_ii fun _ _ => rfl) w_c w_c)) w_gN)
  (w_seq (w_asg (w_una fr_lstC w_nil) w_gN)
  (w_seq (w_for (w_range1 (w_una fr_len (w_cons w_v w_nil))) w_gN (w_seq (w_asg (w_op (f2_ii fun _ _ => rfl) (w_una fr_int (w_cons (w_op f2_plus (w_op f2_plus (w_op f2_plus (w_op (f2_ii fun _ _ => rfl) w_v w_c) (w_op (f2_ii fun _ _ => rfl) w_v w_c)) (w_op (f2_ii fun _ _ => rfl) w_v w_c)) w_c) w_nil)) w_c) w_gN)
  (w_seq (w_asg (w_op (f2_ii fun _ _ => rfl) (w_op (f2_ii fun _ _ => rfl) (w_una fr_int (w_cons (w_op f2_plus (w_op f2_plus (w_op (f2_ii fun _ _ => rfl) w_v w_v) w_v) (w_op (f2_ii fun _ _ => rfl) w_v w_c)) w_nil)) w_c) w_c) w_gN)
  (w_seq (w_ifS (w_test w_v) (w_seq (w_asg w_v w_gN)
  (w_asg (w_op (f2_ii fun _ _ => rfl) w_v (w_op f2_subs w_v w_v)) w_gN)) w_next)
  (w_drop (w_bm fb_app w_v (w_cons (w_op (f2_ii fun _ _ => rfl) (w_una fr_int (w_cons w_v w_nil)) (w_op f2_subs w_v w_v)) w_nil)))))))
  (w_ret w_v))))))))
def w_l_name : MS := (mSeq (mAsg (mUnA vLst (mCons (mC (.str "a")) (mCons (mC (.str "b2")) (mCons (mC (.str "cab")) (mCons (mC (.str "d")) (mCons (mC (.str "e0")) (mCons (mC (.str "fox")) (mCons (mC (.str "gg")) (mCons (mC (.str "h1")) (mCons (mC (.str "ice")) (mCons (mC (.str "j")) (mCons (mC (.str "kilo")) (mCons (mC (.str "lo")) (mCons (mC (.str "mmm")) (mCons (mC (.str "n9")) (mCons (mC (.str "oak")) (mCons (mC (.str "p")) (mCons (mC (.str "q7")) mNil)))))))))))))))))) (gN 2))
  (mSeq (mAsg (mOp vPlus (mV 2) (mUnA vLst (mCons (mC (.str "rr")) (mCons (mC (.str "s")) (mCons (mC (.str "tin")) (mCons (mC (.str "0")) (mCons (mC (.str "v")) (mCons (mC (.str "wax")) (mCons (mC (.str "abcdefghijkl")) (mCons (mC (.str "yes")) (mCons (mC (.str "z0o")) mNil))))))))))) (gN 2))
  (mRet (mOp vSubs (mV 2) (mOp fMod (mUnA fInt (mCons (mOp vPlus (mV 0) (mOp fMul (mC (.int 7)) (mV 1))) mNil)) (mC (.int 26)))))))
def v_l_name : List D → M D := runF 3 w_l_name
theorem fr_l_name : FR f_l_name v_l_name := (fr_run (w_seq (w_asg (w_una fr_lst (w_cons w_c (w_cons w_c (w_cons w_c (w_cons w_c (w_cons w_c (w_cons w_c (w_cons w_c (w_cons w_c (w_cons w_c (w_cons w_c (w_cons w_c (w_cons w_c (w_cons w_c (w_cons w_c (w_cons w_c (w_cons w_c (w_cons w_c w_nil)))))))))))))))))) w_gN)
  (w_seq (w_asg (w_op f2_plus w_v (w_una fr_lst (w_cons w_c (w_cons w_c (w_cons w_c (w_cons w_c (w_cons w_c (w_cons w_c (w_cons w_c (w_cons w_c (w_cons w_c w_nil))))))))))) w_gN)
  (w_ret (w_op f2_subs w_v (w_op (f2_ii fun _ _ => rfl) (w_una fr_int (w_cons (w_op f2_plus w_v (w_op (f2_ii fun _ _ => rfl) w_c w_v)) w_nil)) w_c))))))
def w_l_words : MS := (mRet (mUnA vLst (mCons (mC (.str "own")) (mCons (mC (.str "nested")) (mCons (mC (.str "around")) (mCons (mC (.str "below")) (mCons (mC (.str "heir")) (mCons (mC (.str "package")) (mCons (mC (.str "any")) mNil)))))))))
def v_l_words : List D → M D := runF 0 w_l_words
theorem fr_l_words : FR f_l_words v_l_words := (fr_run (w_ret (w_una fr_lst (w_cons w_c (w_cons w_c (w_cons w_c (w_cons w_c (w_cons w_c (w_cons w_c (w_cons w_c w_nil))))))))))
def w_l_stances : MS := (mSeq (mAsg (mUnA vLst (mCons (mC (.str "own nested around below heir package any")) (mCons (mC (.str "nested below heir package any")) (mCons (mC (.str "around package any")) mNil)))) (gN 0))
  (mSeq (mAsg (mOp vPlus (mV 0) (mUnA vLst (mCons (mC (.str "below heir package any")) (mCons (mC (.str "below heir any")) (mCons (mC (.str "heir package any")) (mCons (mC (.str "heir any")) (mCons (mC (.str "package any")) (mCons (mC (.str "any")) mNil)))))))) (gN 0))
  (mRet (vLc ([("_law_text", 1)].map (·.2)) (vSeqI (mV 0)) (.one 1) mYes (mUnA vTuple (mCons (vBM .str vSplit (mV 1) (mCons (mC (.str " ")) mNil)) mNil))))))
def v_l_stances : List D → M D := runF 2 w_l_stances
theorem fr_l_stances : FR f_l_stances v_l_stances := (fr_run (w_seq (w_asg (w_una fr_lst (w_cons w_c (w_cons w_c (w_cons w_c w_nil)))) w_gN)
  (w_seq (w_asg (w_op f2_plus w_v (w_una fr_lst (w_cons w_c (w_cons w_c (w_cons w_c (w_cons w_c (w_cons w_c (w_cons w_c w_nil)))))))) w_gN)
  (w_ret (w_lc (w_seqI w_v) w_yes (w_una fr_tuple (w_cons (w_bm fb_split w_v (w_cons w_c w_nil)) w_nil)))))))
def w_l_products : MS := (mSeq (mAsg (mUnA vLst (mCons (mUnA vLst (mCons (mUnA vLst (mCons (mC (.str "nested")) mNil)) (mCons (mUnA vLst (mCons (mC (.str "around")) mNil)) mNil))) (mCons (mUnA vLst (mCons (mUnA vLst (mCons (mC (.str "package")) mNil)) mNil)) (mCons (mUnA vLst (mCons (mUnA vLst (mCons (mC (.str "package")) mNil)) (mCons (mUnA vLst (mCons (mC (.str "below")) mNil)) mNil))) (mCons (mUnA vLst (mCons (mUnA vLst (mCons (mC (.str "any")) mNil)) mNil)) (mCons (mUnA vLst (mCons (mUnA vLst (mCons (mC (.str "below")) mNil)) mNil)) mNil)))))) (gN 2))
  (mSeq (mAsg (mOp vPlus (mV 2) (mUnA vLst (mCons (mUnA vLst (mCons (mUnA vLst (mCons (mC (.str "package")) (mCons (mC (.str "below")) mNil))) mNil)) (mCons (mUnA vLst (mCons (mUnA vLst (mCons (mC (.str "heir")) mNil)) mNil)) (mCons (mUnA vLst (mCons (mUnA vLst (mCons (mC (.str "own")) mNil)) mNil)) (mCons (mUnA vLst (mCons (mUnA vLst (mCons (mC (.str "heir")) (mCons (mC (.str "package")) mNil))) mNil)) (mCons (mUnA vLst (mCons (mUnA vLst (mCons (mC (.str "heir")) mNil)) (mCons (mUnA vLst (mCons (mC (.str "package")) mNil)) mNil))) mNil))))))) (gN 2))
  (mSeq (mAsg (mUnA (fCall 3 [] v_l_digits) (mCons (mV 0) (mCons (mV 1) (mCons (mUnA vLst (mCons (mC (.int 2)) (mCons (mC (.int 10)) (mCons (mC (.int 4)) (mCons (mC (.int 7)) (mCons (mC (.int 7)) (mCons (mC (.int 2)) (mCons (mC (.int 7)) (mCons (mC (.int 7)) (mCons (mC (.int 2)) (mCons (mC (.int 7)) (mCons (mC (.int 7)) (mCons (mC (.int 2)) mNil))))))))))))) mNil)))) (gN 3))
  (mSeq (mIfS (mTest (mOp vEq (mOp vSubs (mV 3) (mC (.int 0))) (mC (.int 0)))) (mRet (mOp vSubs (mV 2) (mOp vSubs (mV 3) (mC (.int 1))))) mNext)
  (mSeq (mAsg (mUnA (fCall 0 [] v_l_words) mNil) (gN 4))
  (mSeq (mAsg (mUnA fLst mNil) (gN 5))
  (mSeq (mFor (mRange1 (mOp vSubs (mV 3) (mC (.int 2)))) (gN 6) (mSeq (mAsg (mUnA fLst (mCons (mOp vSubs (mV 4) (mOp vSubs (mV 3) (mOp vPlus (mC (.int 3)) (mOp fMul (mC (.int 3)) (mV 6))))) mNil)) (gN 7))
  (mSeq (mIfS (mTest (mOp vEq (mOp vSubs (mV 3) (mOp vPlus (mC (.int 5)) (mOp fMul (mC (.int 3)) (mV 6)))) (mC (.int 1)))) (mDrop (vBM .lst fApp (mV 7) (mCons (mOp vSubs (mV 4) (mOp vSubs (mV 3) (mOp vPlus (mC (.int 4)) (mOp fMul (mC (.int 3)) (mV 6))))) mNil))) mNext)
  (mDrop (vBM .lst fApp (mV 5) (mCons (mV 7) mNil))))))
  (mRet (mV 5)))))))))
def v_l_products : List D → M D := zF (runF 8 w_l_products)
theorem fr_l_products : FR f_l_products v_l_products := (fr_z (fr_run (w_seq (w_asg (w_una fr_lst (w_cons (w_una fr_lst (w_cons (w_una fr_lst (w_cons w_c w_nil)) (w_cons (w_una fr_lst (w_cons w_c w_nil)) w_nil))) (w_cons (w_una fr_lst (w_cons (w_una fr_lst (w_cons w_c w_nil)) w_nil)) (w_cons (w_una fr_lst (w_cons (w_una fr_lst (w_cons w_c w_nil)) (w_cons (w_una fr_lst (w_cons w_c w_nil)) w_nil))) (w_cons (w_una fr_lst (w_cons (w_una fr_lst (w_cons w_c w_nil)) w_nil)) (w_cons (w_una fr_lst (w_cons (w_una fr_lst (w_cons w_c w_nil)) w_nil)) w_nil)))))) w_gN)
  (w_seq (w_asg (w_op f2_plus w_v (w_una fr_lst (w_cons (w_una fr_lst (w_cons (w_una fr_lst (w_cons w_c (w_cons w_c w_nil))) w_nil)) (w_cons (w_una fr_lst (w_cons (w_una fr_lst (w_cons w_c w_nil)) w_nil)) (w_cons (w_una fr_lst (w_cons (w_una fr_lst (w_cons w_c w_nil)) w_nil)) (w_cons (w_una fr_lst (w_cons (w_una fr_lst (w_cons w_c (w_cons w_c w_nil))) w_nil)) (w_cons (w_una fr_lst (w_cons (w_una fr_lst (w_cons w_c w_nil)) (w_cons (w_una fr_lst (w_cons w_c w_nil)) w_nil))) w_nil))))))) w_gN)
  (w_seq (w_asg (w_una (fr_call fr_l_digits) (w_cons w_v (w_cons w_v (w_cons (w_una fr_lst (w_cons w_c (w_cons w_c (w_cons w_c (w_cons w_c (w_cons w_c (w_cons w_c (w_cons w_c (w_cons w_c (w_cons w_c (w_cons w_c (w_cons w_c (w_cons w_c w_nil))))))))))))) w_nil)))) w_gN)
  (w_seq (w_ifS (w_test (w_op f2_eq (w_op f2_subs w_v w_c) w_c)) (w_ret (w_op f2_subs w_v (w_op f2_subs w_v w_c))) w_next)
  (w_seq (w_asg (w_una (fr_call fr_l_words) w_nil) w_gN)
  (w_seq (w_asg (w_una fr_lstC w_nil) w_gN)
  (w_seq (w_for (w_range1 (w_op f2_subs w_v w_c)) w_gN (w_seq (w_asg (w_una fr_lstC (w_cons (w_op f2_subs w_v (w_op f2_subs w_v (w_op f2_plus w_c (w_op (f2_ii fun _ _ => rfl) w_c w_v)))) w_nil)) w_gN)
  (w_seq (w_ifS (w_test (w_op f2_eq (w_op f2_subs w_v (w_op f2_plus w_c (w_op (f2_ii fun _ _ => rfl) w_c w_v))) w_c)) (w_drop (w_bm fb_app w_v (w_cons (w_op f2_subs w_v (w_op f2_subs w_v (w_op f2_plus w_c (w_op (f2_ii fun _ _ => rfl) w_c w_v)))) w_nil))) w_next)
  (w_drop (w_bm fb_app w_v (w_cons w_v w_nil))))))
  (w_ret w_v))))))))))
def w_l_holds : MS := (mRet (mOp vEq (mUnA vLen (mCons (vLc ([("_law_word", 2)].map (·.2)) (vSeqI (mV 0)) (.one 2) (mTest (mOp vNot (mV 2) (mV 1))) (mV 2)) mNil)) (mC (.int 0))))
def v_l_holds : List D → M D := runF 3 w_l_holds
theorem fr_l_holds : FR f_l_holds v_l_holds := (fr_run (w_ret (w_op f2_eq (w_una fr_len (w_cons (w_lc (w_seqI w_v) (w_test (w_op f2_not w_v w_v)) w_v) w_nil)) w_c)))
def w_l_let : MS := (mSeq (mAsg (mUnA fLst mNil) (gN 1))
  (mSeq (mFor (vSeqI (mUnA (fCall 0 [] v_l_stances) mNil)) (gN 2) (mIfS (mTest (mOp fGt (mUnA vLen (mCons (vLc ([("_law_product", 3)].map (·.2)) (vSeqI (mV 0)) (.one 3) (mTest (mUnA (fCall 2 [] v_l_holds) (mCons (mV 3) (mCons (mV 2) mNil)))) (mV 3)) mNil)) (mC (.int 0)))) (mDrop (vBM .lst fApp (mV 1) (mCons (mV 2) mNil))) mNext))
  (mRet (mV 1))))
def v_l_let : List D → M D := zF (runF 4 w_l_let)
theorem fr_l_let : FR f_l_let v_l_let := (fr_z (fr_run (w_seq (w_asg (w_una fr_lstC w_nil) w_gN)
  (w_seq (w_for (w_seqI (w_una (fr_call fr_l_stances) w_nil)) w_gN (w_ifS (w_test (w_op (f2_ii fun _ _ => rfl) (w_una fr_len (w_cons (w_lc (w_seqI w_v) (w_test (w_una (fr_call fr_l_holds) (w_cons w_v (w_cons w_v w_nil)))) w_v) w_nil)) w_c)) (w_drop (w_bm fb_app w_v (w_cons w_v w_nil))) w_next))
  (w_ret w_v)))))
def w_l_rule : MS := (mSeq (mAsg (mUnA (fCm v_Rule_of) mNil) (gN 1))
  (mSeq (mFor (vSeqI (mV 0)) (gN 2) (mSeq (mAsg (mUnA (fCm v_Rule_of) (mCons (mC (.str "any")) mNil)) (gN 3))
  (mSeq (mFor (vSeqI (mV 2)) (gN 4) (mAsg (mOp (vOpI "Rule" v_Rule___and__) (mV 3) (mUnA (fCm v_Rule_of) (mCons (mV 4) mNil))) (gN 3)))
  (mAsg (mOp (vOpI "Rule" v_Rule___or__) (mV 1) (mV 3)) (gN 1)))))
  (mRet (mV 1))))
def v_l_rule : List D → M D := runF 5 w_l_rule
theorem fr_l_rule : FR f_l_rule v_l_rule := (fr_run (w_seq (w_asg (w_una (fr_cm fr_Rule_of) w_nil) w_gN)
  (w_seq (w_for (w_seqI w_v) w_gN (w_seq (w_asg (w_una (fr_cm fr_Rule_of) (w_cons w_c w_nil)) w_gN)
  (w_seq (w_for (w_seqI w_v) w_gN (w_asg (w_op (f2_opI fr_Rule___and__) w_v (w_una (fr_cm fr_Rule_of) (w_cons w_v w_nil))) w_gN))
  (w_asg (w_op (f2_opI fr_Rule___or__) w_v w_v) w_gN))))
  (w_ret w_v))))
def w_l_same (self : List D → M D) : MS := (mSeq (mIfS (mTest (mUn (fIsN true) (mV 1))) (mRet (mUn (fIsN true) (mV 0))) mNext)
  (mSeq (mIfS (mTest (mUn (vIsi .bl) (mV 1))) (mRet (mAnd (mUn (vIsi .bl) (mV 0)) (mOp vEq (mV 0) (mV 1)))) mNext)
  (mSeq (mIfS (mTest (mUn (vIsi .int) (mV 1))) (mRet (mAnd (mUn (vIsi .int) (mV 0)) (mAnd (mUn fNotV (mUn (vIsi .bl) (mV 0))) (mOp vEq (mV 0) (mV 1))))) mNext)
  (mSeq (mIfS (mTest (mUn (vIsi .str) (mV 1))) (mRet (mAnd (mUn (vIsi .str) (mV 0)) (mOp vEq (mV 0) (mV 1)))) mNext)
  (mSeq (mIfS (mAndT (mTest (mUn (vIsi .tup) (mV 1))) (mNotT (mTest (mUn (vIsi .tup) (mV 0))))) (mRet (mC (.bl false))) mNext)
  (mSeq (mIfS (mAndT (mTest (mUn (vIsi .lst) (mV 1))) (mNotT (mTest (mUn (vIsi .lst) (mV 0))))) (mRet (mC (.bl false))) mNext)
  (mSeq (mIfS (mTest (mOp vNe (mUnA vLen (mCons (mV 0) mNil)) (mUnA vLen (mCons (mV 1) mNil)))) (mRet (mC (.bl false))) mNext)
  (mSeq (mFor (mRange1 (mUnA vLen (mCons (mV 1) mNil))) (gN 2) (mIfS (mNotT (mTest (mUnA (fCall 2 [] self) (mCons (mOp vSubs (mV 0) (mV 2)) (mCons (mOp vSubs (mV 1) (mV 2)) mNil))))) (mRet (mC (.bl false))) mNext))
  (mRet (mC (.bl true)))))))))))
def v_l_same : Nat → List D → M D
  | 0 => fun _ _ => .bad
  | n + 1 => runF 3 (w_l_same (v_l_same n))
theorem fr_l_same : ∀ n, FR (f_l_same n) (v_l_same n)
  | 0 => fr_bad
  | n + 1 => have hself := fr_l_same n; (fr_run (w_seq (w_ifS (w_test (w_un f1_isN w_v)) (w_ret (w_un f1_isN w_v)) w_next)
  (w_seq (w_ifS (w_test (w_un f1_isi w_v)) (w_ret (w_and (w_un f1_isi w_v) (w_op f2_eq w_v w_v))) w_next)
  (w_seq (w_ifS (w_test (w_un f1_isi w_v)) (w_ret (w_and (w_un f1_isi w_v) (w_and (w_un f1_notV (w_un f1_isi w_v)) (w_op f2_eq w_v w_v)))) w_next)
  (w_seq (w_ifS (w_test (w_un f1_isi w_v)) (w_ret (w_and (w_un f1_isi w_v) (w_op f2_eq w_v w_v))) w_next)
  (w_seq (w_ifS (w_andT (w_test (w_un f1_isi w_v)) (w_notT (w_test (w_un f1_isi w_v)))) (w_ret w_c) w_next)
  (w_seq (w_ifS (w_andT (w_test (w_un f1_isi w_v)) (w_notT (w_test (w_un f1_isi w_v)))) (w_ret w_c) w_next)
  (w_seq (w_ifS (w_test (w_op f2_ne (w_una fr_len (w_cons w_v w_nil)) (w_una fr_len (w_cons w_v w_nil)))) (w_ret w_c) w_next)
  (w_seq (w_for (w_range1 (w_una fr_len (w_cons w_v w_nil))) w_gN (w_ifS (w_notT (w_test (w_una (fr_call hself) (w_cons (w_op f2_subs w_v w_v) (w_cons (w_op f2_subs w_v w_v) w_nil))))) (w_ret w_c) w_next))
  (w_ret w_c))))))))))
def w_l_told : MS := (mSeq (mIfS (mOrT (mNotT (mTest (mUnA (fCall 2 [] (v_l_same 10)) (mCons (vProp cs_Book v_Book_levels (mV 0)) (mCons (mV 1) mNil))))) (mNotT (mTest (mUnA (fCall 2 [] (v_l_same 10)) (mCons (vKLc ([("_law_rank", 6)].map (·.2)) (mUn (vFld cs_Book "_rules") (mV 0)) (.one 6) mYes (mV 6)) (mCons (mV 1) mNil)))))) (mRet (mC (.bl false))) mNext)
  (mSeq (mFor (mRange1 (mUnA vLen (mCons (mV 1) mNil))) (gN 4) (mIfS (mOrT (mTest (mOp (vInI "Book" (fun b => !b) v_Book___contains__) (mOp vSubs (mV 1) (mV 4)) (mV 0))) (mNotT (mTest (mUnA (fCall 2 [] (v_l_same 10)) (mCons (vProp cs_Rule v_Rule_stances (mOp (vIxI "Book" v_Book___getitem__) (mV 0) (mOp vSubs (mV 1) (mV 4)))) (mCons (mOp vSubs (mV 2) (mV 4)) mNil)))))) (mRet (mC (.bl false))) mNext))
  (mSeq (mIfS (mTest (mOp (vInI "Book" id v_Book___contains__) (mV 3) (mV 0))) (mRet (mC (.bl false))) mNext)
  (mSeq (mTry errsL [("Unknown", some 5, mRetX (fun x => mUnA (fCall 2 [] (v_l_same 10)) ((fun x => mCons ((fun x => mUnA fTup ((fun x => mCons ((mXf "row") x) ((fun x => mCons ((mXf "what") x) ((fun _ => mNil) x)) x)) x)) x) ((fun x => mCons ((fun _ => (mUnA fTup (mCons (mC .non) (mCons (mV 3) mNil)))) x) ((fun _ => mNil) x)) x)) x)))] (mAsg (mUnA vLst (mCons (mOp (vIxI "Book" v_Book___getitem__) (mV 0) (mV 3)) mNil)) (gN 1)))
  (mRet (mC (.bl false)))))))
def v_l_told : List D → M D := runF 7 w_l_told
theorem fr_l_told : FR f_l_told v_l_told := (fr_run (w_seq (w_ifS (w_orT (w_notT (w_test (w_una (fr_call (fr_l_same 10)) (w_cons (w_prop fr_Book_levels w_v) (w_cons w_v w_nil))))) (w_notT (w_test (w_una (fr_call (fr_l_same 10)) (w_cons (w_klc (p_fld p_v) (w_un f1_fld w_v) w_yes w_v) (w_cons w_v w_nil)))))) (w_ret w_c) w_next)
  (w_seq (w_for (w_range1 (w_una fr_len (w_cons w_v w_nil))) w_gN (w_ifS (w_orT (w_test (w_op (f2_inI fr_Book___contains__) (w_op f2_subs w_v w_v) w_v)) (w_notT (w_test (w_una (fr_call (fr_l_same 10)) (w_cons (w_prop fr_Rule_stances (w_op (f2_ixI fr_Book___getitem__) w_v (w_op f2_subs w_v w_v))) (w_cons (w_op f2_subs w_v w_v) w_nil)))))) (w_ret w_c) w_next))
  (w_seq (w_ifS (w_test (w_op (f2_inI fr_Book___contains__) w_v w_v)) (w_ret w_c) w_next)
  (w_seq (w_try (.cons (x_ret (x_una (fr_call (fr_l_same 10)) (xa_cons (x_una fr_tup (xa_cons x_fld (xa_cons x_fld xa_nil))) (xa_cons (x_of (w_una fr_tup (w_cons w_c (w_cons w_v w_nil)))) xa_nil)))) .nil) (w_asg (w_una fr_lst (w_cons (w_op (f2_ixI fr_Book___getitem__) w_v w_v) w_nil)) w_gN))
  (w_ret w_c))))))
def m_law_g0 : MS := (mSeq (mAsg (mUnA (fCall 3 [] f_l_digits) (mCons (mV 0) (mCons (mC (.int 0)) (mCons (mUnA fLst (mCons (mC (.int 7)) (mCons (mC (.int 26)) (mCons (mC (.int 6)) (mCons (mC (.int 6)) mNil))))) mNil)))) (gN 1)) (mSeq (mAsg (mLc ([("_law_k", 14)].map (·.2)) (mRange1 (mOp fSubs (mV 1) (mC (.int 0)))) (.one 14) mYes (mUnA (fCall 2 [] f_l_name) (mCons (mOp fSubs (mV 1) (mC (.int 1))) (mCons (mV 14) mNil)))) (gN 2)) (mSeq (mAsg (mUnA (fCall 2 [] f_l_name) (mCons (mOp fSubs (mV 1) (mC (.int 1))) (mCons (mC (.int 20)) mNil))) (gN 3)) (mSeq (mAsg (mLc ([("_law_k", 14)].map (·.2)) (mRange1 (mUnA fLen (mCons (mV 2) mNil))) (.one 14) mYes (mUnA (fCall 2 [] f_l_products) (mCons (mV 0) (mCons (mOp fPlus (mC (.int 1)) (mV 14)) mNil)))) (gN 4)) (mAsg (mLc ([("_law_product", 15)].map (·.2)) (mSeqI (mV 4)) (.one 15) mYes (mUnA fTuple (mCons (mUnA (fCall 1 [] f_l_let) (mCons (mV 15) mNil)) mNil))) (gN 5))))))
def w_law_g0 : MS := (mSeq (mAsg (mUnA (fCall 3 [] v_l_digits) (mCons (mV 0) (mCons (mC (.int 0)) (mCons (mUnA vLst (mCons (mC (.int 7)) (mCons (mC (.int 26)) (mCons (mC (.int 6)) (mCons (mC (.int 6)) mNil))))) mNil)))) (gN 1)) (mSeq (mAsg (vLc ([("_law_k", 14)].map (·.2)) (mRange1 (mOp vSubs (mV 1) (mC (.int 0)))) (.one 14) mYes (mUnA (fCall 2 [] v_l_name) (mCons (mOp vSubs (mV 1) (mC (.int 1))) (mCons (mV 14) mNil)))) (gN 2)) (mSeq (mAsg (mUnA (fCall 2 [] v_l_name) (mCons (mOp vSubs (mV 1) (mC (.int 1))) (mCons (mC (.int 20)) mNil))) (gN 3)) (mSeq (mAsg (vLc ([("_law_k", 14)].map (·.2)) (mRange1 (mUnA vLen (mCons (mV 2) mNil))) (.one 14) mYes (mUnA (fCall 2 [] v_l_products) (mCons (mV 0) (mCons (mOp vPlus (mC (.int 1)) (mV 14)) mNil)))) (gN 4)) (mAsg (vLc ([("_law_product", 15)].map (·.2)) (vSeqI (mV 4)) (.one 15) mYes (mUnA vTuple (mCons (mUnA (fCall 1 [] v_l_let) (mCons (mV 15) mNil)) mNil))) (gN 5))))))
theorem vm_law_g0 : VM m_law_g0 w_law_g0 := (w_seq (w_asg (w_una (fr_call fr_l_digits) (w_cons w_v (w_cons w_c (w_cons (w_una fr_lst (w_cons w_c (w_cons w_c (w_cons w_c (w_cons w_c w_nil))))) w_nil)))) w_gN) (w_seq (w_asg (w_lc (w_range1 (w_op f2_subs w_v w_c)) w_yes (w_una (fr_call fr_l_name) (w_cons (w_op f2_subs w_v w_c) (w_cons w_v w_nil)))) w_gN) (w_seq (w_asg (w_una (fr_call fr_l_name) (w_cons (w_op f2_subs w_v w_c) (w_cons w_c w_nil))) w_gN) (w_seq (w_asg (w_lc (w_range1 (w_una fr_len (w_cons w_v w_nil))) w_yes (w_una (fr_call fr_l_products) (w_cons w_v (w_cons (w_op f2_plus w_c w_v) w_nil)))) w_gN) (w_asg (w_lc (w_seqI w_v) w_yes (w_una fr_tuple (w_cons (w_una (fr_call fr_l_let) (w_cons w_v w_nil)) w_nil))) w_gN)))))
def m_law_g5 : MS := (mAsg (mLc ([("_law_k", 14)].map (·.2)) (mRange1 (mUnA fLen (mCons (mV 2) mNil))) (.one 14) mYes (mUnA fTup (mCons (mOp fSubs (mV 2) (mV 14)) (mCons (mUnA (fCall 1 [] f_l_rule) (mCons (mOp fSubs (mV 4) (mV 14)) mNil)) mNil)))) (gN 6))
def w_law_g5 : MS := (mAsg (vLc ([("_law_k", 14)].map (·.2)) (mRange1 (mUnA vLen (mCons (mV 2) mNil))) (.one 14) mYes (mUnA fTup (mCons (mOp vSubs (mV 2) (mV 14)) (mCons (mUnA (fCall 1 [] v_l_rule) (mCons (mOp vSubs (mV 4) (mV 14)) mNil)) mNil)))) (gN 6))
theorem vm_law_g5 : VM m_law_g5 w_law_g5 := (w_asg (w_lc (w_range1 (w_una fr_len (w_cons w_v w_nil))) w_yes (w_una fr_tup (w_cons (w_op f2_subs w_v w_v) (w_cons (w_una (fr_call fr_l_rule) (w_cons (w_op f2_subs w_v w_v) w_nil)) w_nil)))) w_gN)
def m_law_t : MS := (mSeq (mIfS (mOrT (mNotT (mTest (mUnA (fCall 4 [] f_l_told) (mCons (mV 7) (mCons (mV 2) (mCons (mV 5) (mCons (mV 3) mNil))))))) (mNotT (mTest (mUnA (fCall 4 [] f_l_told) (mCons (mV 7) (mCons (mV 2) (mCons (mV 5) (mCons (mV 3) mNil)))))))) (mRet (mC (.bl false))) mNext) (mSeq (mIfS (mTest (mOp fEq (mUnA fLen (mCons (mV 2) mNil)) (mC (.int 0)))) (mRet (mC (.bl true))) mNext) (mSeq (mAsg (mSl (mV 2) pNo (pInt (mC (.int 5)))) (gN 9)) (mSeq (mAsg (mOp fSubs (mV 9) (mOp fMod (mOp fSubs (mV 1) (mC (.int 2))) (mUnA fLen (mCons (mV 9) mNil)))) (gN 10)) (mSeq (mAsg (mOp fPlus (mOp fPlus (mC (.int 1)) (mBM .lst fIdx (mV 9) (mCons (mV 10) mNil))) (mOp fMod (mOp fSubs (mV 1) (mC (.int 3))) (mOp fSub (mUnA fLen (mCons (mV 9) mNil)) (mBM .lst fIdx (mV 9) (mCons (mV 10) mNil))))) (gN 11)) (mSeq (mAsg (mLc ([("_law_rank", 16)].map (·.2)) (mSeqI (mOp fPlus (mOp fPlus (mSl (mV 9) pNo (pInt (mV 11))) (mUnA fLst (mCons (mV 10) mNil))) (mSl (mV 9) (pInt (mV 11)) pNo))) (.one 16) mYes (mUnA fTup (mCons (mV 16) (mCons (mUnA (fCm f_Rule_of) (mCons (mC (.str "own")) mNil)) mNil)))) (gN 12)) (mSeq (mTry errsL [("Taken", some 13, mRetX (fun x => mUnA (fCall 2 [] (f_l_same 10)) ((fun x => mCons ((fun x => mUnA fTup ((fun x => mCons ((mXf "row") x) ((fun x => mCons ((mXf "what") x) ((fun _ => mNil) x)) x)) x)) x) ((fun x => mCons ((fun _ => (mUnA fTup (mCons (mC .non) (mCons (mV 10) mNil)))) x) ((fun _ => mNil) x)) x)) x)))] (mDrop (mUnA (fMakeX "Book" 1 [] f_Book_init) (mCons (mV 12) mNil)))) (mRet (mC (.bl false))))))))))
def w_law_t : MS := (mSeq (mIfS (mOrT (mNotT (mTest (mUnA (fCall 4 [] v_l_told) (mCons (mV 7) (mCons (mV 2) (mCons (mV 5) (mCons (mV 3) mNil))))))) (mNotT (mTest (mUnA (fCall 4 [] v_l_told) (mCons (mV 7) (mCons (mV 2) (mCons (mV 5) (mCons (mV 3) mNil)))))))) (mRet (mC (.bl false))) mNext)
  (mSeq (mIfS (mTest (mOp vEq (mUnA vLen (mCons (mV 2) mNil)) (mC (.int 0)))) (mRet (mC (.bl true))) mNext)
  (mSeq (mAsg (vSl (mV 2) pNo (pInt (mC (.int 5)))) (gN 9))
  (mSeq (mAsg (mOp vSubs (mV 9) (mOp fMod (mOp vSubs (mV 1) (mC (.int 2))) (mUnA vLen (mCons (mV 9) mNil)))) (gN 10))
  (mSeq (mAsg (mOp vPlus (mOp vPlus (mC (.int 1)) (vBM .lst vIdx (mV 9) (mCons (mV 10) mNil))) (mOp fMod (mOp vSubs (mV 1) (mC (.int 3))) (mOp fSub (mUnA vLen (mCons (mV 9) mNil)) (vBM .lst vIdx (mV 9) (mCons (mV 10) mNil))))) (gN 11))
  (mSeq (mAsg (vLc ([("_law_rank", 16)].map (·.2)) (vSeqI (mOp vPlus (mOp vPlus (vSl (mV 9) pNo (pInt (mV 11))) (mUnA vLst (mCons (mV 10) mNil))) (vSl (mV 9) (pInt (mV 11)) pNo))) (.one 16) mYes (mUnA fTup (mCons (mV 16) (mCons (mUnA (fCm v_Rule_of) (mCons (mC (.str "own")) mNil)) mNil)))) (gN 12))
  (mSeq (mTry errsL [("Taken", some 13, mRetX (fun x => mUnA (fCall 2 [] (v_l_same 10)) ((fun x => mCons ((fun x => mUnA fTup ((fun x => mCons ((mXf "row") x) ((fun x => mCons ((mXf "what") x) ((fun _ => mNil) x)) x)) x)) x) ((fun x => mCons ((fun _ => (mUnA fTup (mCons (mC .non) (mCons (mV 10) mNil)))) x) ((fun _ => mNil) x)) x)) x)))] (mDrop (mUnA (zF (fMakeX "Book" 1 [] v_Book_init)) (mCons (mV 12) mNil))))
  (mRet (mC (.bl false))))))))))
theorem vm_law_t : VM m_law_t w_law_t := (w_seq (w_ifS (w_orT (w_notT (w_test (w_una (fr_call fr_l_told) (w_cons w_v (w_cons w_v (w_cons w_v (w_cons w_v w_nil))))))) (w_notT (w_test (w_una (fr_call fr_l_told) (w_cons w_v (w_cons w_v (w_cons w_v (w_cons w_v w_nil)))))))) (w_ret w_c) w_next)
  (w_seq (w_ifS (w_test (w_op f2_eq (w_una fr_len (w_cons w_v w_nil)) w_c)) (w_ret w_c) w_next)
  (w_seq (w_asg (w_sl w_v w_pno (w_pint w_c)) w_gN)
  (w_seq (w_asg (w_op f2_subs w_v (w_op (f2_ii fun _ _ => rfl) (w_op f2_subs w_v w_c) (w_una fr_len (w_cons w_v w_nil)))) w_gN)
  (w_seq (w_asg (w_op f2_plus (w_op f2_plus w_c (w_bm fb_idx w_v (w_cons w_v w_nil))) (w_op (f2_ii fun _ _ => rfl) (w_op f2_subs w_v w_c) (w_op (f2_ii fun _ _ => rfl) (w_una fr_len (w_cons w_v w_nil)) (w_bm fb_idx w_v (w_cons w_v w_nil))))) w_gN)
  (w_seq (w_asg (w_lc (w_seqI (w_op f2_plus (w_op f2_plus (w_sl w_v w_pno (w_pint w_v)) (w_una fr_lst (w_cons w_v w_nil))) (w_sl w_v (w_pint w_v) w_pno))) w_yes (w_una fr_tup (w_cons w_v (w_cons (w_una (fr_cm fr_Rule_of) (w_cons w_c w_nil)) w_nil)))) w_gN)
  (w_seq (w_try (.cons (x_ret (x_una (fr_call (fr_l_same 10)) (xa_cons (x_una fr_tup (xa_cons x_fld (xa_cons x_fld xa_nil))) (xa_cons (x_of (w_una fr_tup (w_cons w_c (w_cons w_v w_nil)))) xa_nil)))) .nil) (w_drop (w_una (fr_z (fr_makeX fr_Book_init)) (w_cons w_v w_nil))))
  (w_ret w_c))))))))
end My
namespace My
open PySem L2 RL
end My
namespace My
open PySem L2 RL
structure LE where
  nm : Str
  out : D
  ups : List Str
  ks : List Str
  rl : Nat
  ru : Nat
abbrev kt (ks : List Str) : List (Str × D) := ks.map fun k => (k, D.bl true)
def findE (ls : List LE) (x : Str) : Option LE := ls.find? fun e => e.nm == x
def nmsOf (ls : List LE) : List Str := ls.map (·.nm)
def ksOf (ls : List LE) (x : Str) : List Str := match findE ls x with
  | some e => e.ks
  | none => []
theorem findE_mem {ls : List LE} {x : Str} {e : LE} (h : findE ls x = some e) : e ∈ ls ∧ e.nm = x := ⟨List.mem_of_find?_eq_some h, by simpa using List.find?_some h⟩
theorem findE_of {ls : List LE} {x : Str} (h : x ∈ nmsOf ls) : ∃ e, findE ls x = some e := by
  cases e : findE ls x with
  | some e' => exact ⟨e', rfl⟩
  | none =>
    obtain ⟨y, hy, rfl⟩ := List.mem_map.mp h
    have := List.find?_eq_none.mp e y hy
    simp at this
theorem findE_app {ls m : List LE} {x : Str} {e : LE} (h : findE ls x = some e) : findE (ls ++ m) x = some e := by
  unfold findE at h ⊢
  rw [List.find?_append, h]
  rfl
structure LinOk (ls : List LE) : Prop where
  nd : (nmsOf ls).Nodup
  ks : ∀ e ∈ ls, e.ks = e.nm :: e.ups.flatMap (ksOf ls)
  kn : ∀ e ∈ ls, e.ks.Nodup
  sub : ∀ e ∈ ls, ∀ x ∈ e.ks, x ∈ nmsOf ls
  ups : ∀ e ∈ ls, ∀ u ∈ e.ups, u ∈ nmsOf ls
theorem LinOk.nil : LinOk [] := ⟨List.nodup_nil, by simp, by simp, by simp, by simp⟩
theorem ksOf_some {ls : List LE} {x : Str} {e : LE} (h : findE ls x = some e) : ksOf ls x = e.ks := by
  unfold ksOf
  rw [h]
theorem LinOk.kss {ls : List LE} (h : LinOk ls) {x y : Str} (hy : y ∈ ksOf ls x) : y ∈ nmsOf ls := by
  unfold ksOf at hy
  cases e : findE ls x with
  | none => rw [e] at hy; simp at hy
  | some e' => rw [e] at hy; exact h.sub e' (findE_mem e).1 y hy
theorem LinOk.self {ls : List LE} (h : LinOk ls) {x : Str} (hx : x ∈ nmsOf ls) : x ∈ ksOf ls x := by
  obtain ⟨e, he⟩ := findE_of hx
  obtain ⟨h1, rfl⟩ := findE_mem he
  rw [ksOf_some he, h.ks e h1]
  exact List.mem_cons_self
theorem ksOf_app {ls m : List LE} {x : Str} (h : x ∈ nmsOf ls) : ksOf (ls ++ m) x = ksOf ls x := by
  obtain ⟨e, he⟩ := findE_of h
  rw [ksOf_some he, ksOf_some (findE_app he)]
theorem flat_app {ls m : List LE} {us : List Str} (h : ∀ u ∈ us, u ∈ nmsOf ls) : us.flatMap (ksOf (ls ++ m)) = us.flatMap (ksOf ls) := by
  induction us with
  | nil => rfl
  | cons u us ih =>
    rw [List.flatMap_cons, List.flatMap_cons, ksOf_app (h u List.mem_cons_self), ih fun v hv => h v (List.mem_cons_of_mem _ hv)]
theorem nms_app (ls m : List LE) : nmsOf (ls ++ m) = nmsOf ls ++ nmsOf m := by simp [nmsOf]
/-- one more class -/
theorem LinOk.snoc {ls : List LE} (h : LinOk ls) {nm : Str} {out : D} {us : List Str} {rl ru : Nat} (hn : nm ∉ nmsOf ls) (hu : ∀ u ∈ us, u ∈ nmsOf ls) (nd : (us.flatMap (ksOf ls)).Nodup) : LinOk (ls ++ [⟨nm, out, us, nm :: us.flatMap (ksOf ls), rl, ru⟩]) := by
  have hk : ∀ x ∈ us.flatMap (ksOf ls), x ∈ nmsOf ls := fun x hx => by
    obtain ⟨u, _, hx⟩ := List.mem_flatMap.mp hx
    exact h.kss hx
  refine ⟨?_, fun e he => ?_, fun e he => ?_, fun e he x hx => ?_, fun e he u hx => ?_⟩
  · rw [nms_app]
    refine List.nodup_append.mpr ⟨h.nd, by simp [nmsOf], fun a ha b hb => ?_⟩
    have : b = nm := by simpa [nmsOf] using hb
    subst this
    exact fun z => hn (z ▸ ha)
  · rcases List.mem_append.mp he with he | he
    · rw [flat_app (h.ups e he)]
      exact h.ks e he
    · rw [List.mem_singleton.mp he]
      show _ = nm :: us.flatMap _
      rw [flat_app hu]
  · rcases List.mem_append.mp he with he | he
    · exact h.kn e he
    · rw [List.mem_singleton.mp he]
      exact List.nodup_cons.mpr ⟨fun z => hn (hk _ z), nd⟩
  · rw [nms_app, List.mem_append]
    rcases List.mem_append.mp he with he | he
    · exact .inl (h.sub e he x hx)
    · rw [List.mem_singleton.mp he] at hx
      rcases List.mem_cons.mp hx with rfl | hx
      · exact .inr (by simp [nmsOf])
      · exact .inl (hk x hx)
  · rw [nms_app, List.mem_append]
    rcases List.mem_append.mp he with he | he
    · exact .inl (h.ups e he u hx)
    · rw [List.mem_singleton.mp he] at hx
      exact .inl (hu u hx)
def ent (ls : List LE) (nm : Str) (out : D) (us : List Str) (rl ru : Nat) : LE := ⟨nm, out, us, nm :: us.flatMap (ksOf ls), rl, ru⟩
section
variable {ls : List LE} {nm x y : Str}
end
section
variable {ls : List LE} {x y z r : Str}
end
end My
namespace My.V
open PySem L2 RL
theorem set_last' {α : Type} {g : List α} {a b : α} : (g ++ [a]).set g.length b = g ++ [b] := by simp
theorem isN_nonT {e : ME} {τ : RL.T} {s s1 : G} (h : e τ s = .ok .non s1) : mTest (mUn (fIsN true) e) τ s = .ok true s1 := tst (un_ok h ((isN_ok true .non).trans (by rw [decide_eq_true rfl]; rfl)))
theorem isN_strT {e : ME} {τ : RL.T} {s s1 : G} {x : Str} (h : e τ s = .ok (.str x) s1) : mTest (mUn (fIsN true) e) τ s = .ok false s1 := tst (un_ok h ((isN_ok true (.str x)).trans (by rw [decide_eq_false nofun]; rfl)))
abbrev S5' := Str × Str × Str × Str × Option Str
def oD : Option Str → D
  | some x => .str x
  | none => .non
def d5 (p : S5') : D := .tup [.str p.1, .str p.2.1, .str p.2.2.1, .str p.2.2.2.1, oD p.2.2.2.2]
def ut (l : List S5') : List (S5' × D) := l.map fun k => (k, .bl true)
structure LSt where
  sealed : List (Str × D)
  ls : List LE
  packs : List (Str × D)
  roots : List (Str × Str)
  kinds : List (S2' × Str)
  levels : List (S3' × Str)
  uses : List S5'
def outL (ls : List LE) : List (Str × D) := ls.map fun e => (e.nm, e.out)
def basL (ls : List LE) : List (Str × D) := ls.map fun e => (e.nm, .tup (e.ups.map D.str))
def linL (ls : List LE) : List (Str × D) := ls.map fun e => (e.nm, .pdct (sd (kt e.ks)))
def Fd (s : G) (d : D) (f : Str) (l : List (D × D)) : Prop := ∃ fs x, vob s d = some (("Library" : Str), fs) ∧ fs.lookup f = some x ∧ vdc s x = some l
structure LV (s : G) (d : D) (L : LSt) : Prop where
  sl : Fd s d "_sealed" (sd L.sealed)
  ou : Fd s d "_outer" (sd (outL L.ls))
  ba : Fd s d "_bases" (sd (basL L.ls))
  li : Fd s d "_lines" (sd (linL L.ls))
  pk : Fd s d "_packages" (sd L.packs)
  rt : Fd s d "_roots" (sd (vs L.roots))
  kd : Fd s d "_kinds" (RL.kd d2 (vs L.kinds))
  lv : Fd s d "_levels" (RL.kd d3 (vs L.levels))
  us : Fd s d "_uses" (RL.kd d5 (ut L.uses))
section
variable {s : G} {d : D} {L : LSt} {x y z nm : Str} {cs : List Str} {τ : RL.T} {s0 : G}
theorem Fd.get {f : Str} {l : List (D × D)} (h : Fd s d f l) (hc : ("Library" : Str) ∈ cs) : ∃ x, vFld cs f d s = .ok x s ∧ vdc s x = some l := by
  obtain ⟨fs, x, h1, h2, h3⟩ := h
  exact ⟨x, fld_v h1 hc h2, h3⟩
theorem LV.ins (h : LV s d L) (hc : ("Library" : Str) ∈ cs) : visIns cs d s := by
  obtain ⟨fs, x, h1, h2, h3⟩ := h.sl
  exact ins_v h1 hc
end
section
variable {s : G} {d : D} {L : LSt}
end
end My.V
namespace My.V
open PySem L2 RL
theorem vob_app {s X : G} {d : D} {r : Str × List (Str × D)} (h : vob s d = some r) : vob (s ++ X) d = some r := by
  unfold vob at h ⊢
  split at h
  · exact h
  · rename_i i
    split at h
    · rename_i hn
      rw [app_get hn]
      exact h
    · cases h
  · cases h
theorem vdc_app {s X : G} {d : D} {r : List (D × D)} (h : vdc s d = some r) : vdc (s ++ X) d = some r := by
  unfold vdc at h ⊢
  split at h
  · exact h
  · rename_i i
    split at h
    · rename_i hn
      rw [app_get hn]
      exact h
    · cases h
  · cases h
theorem Fd.app {s X : G} {d : D} {f : Str} {l : List (D × D)} (h : Fd s d f l) : Fd (s ++ X) d f l := by
  obtain ⟨fs, x, h1, h2, h3⟩ := h
  exact ⟨fs, x, vob_app h1, h2, vdc_app h3⟩
theorem LV.app {s X : G} {d : D} {L : LSt} (h : LV s d L) : LV (s ++ X) d L := ⟨h.sl.app, h.ou.app, h.ba.app, h.li.app, h.pk.app, h.rt.app, h.kd.app, h.lv.app, h.us.app⟩
section
variable {s : G} {d : D} {L : LSt} {x y z nm : Str} {cs : List Str} {τ : RL.T} {us : List Str}
end
theorem at_mid {P R : G} {i : Nat} {o : Ob} (h : R[i]? = some o) : (P ++ R)[P.length + i]? = some o := by
  rw [List.getElem?_append_right (by omega), Nat.add_sub_cancel_left]
  exact h
theorem set_mid {P R : G} {i : Nat} {o : Ob} : (P ++ R).set (P.length + i) o = P ++ R.set i o := by
  rw [List.set_append_right _ _ (by omega), Nat.add_sub_cancel_left]
section
variable {P Q : G} {L : LSt} {x y z nm : Str} {cs : List Str} {τ : RL.T} {us : List Str}
end
theorem lop_kd {K : Type} {N : Nat} {f : K → D} (hf : ∀ k, (f k).fl = true) : ∀ (l : List (K × D)), (∀ p ∈ l, p.2.lo N = true) → D.lop N (RL.kd f l) = true
  | [], _ => rfl
  | (k, d) :: l, h => by
    show (_ && (_ && D.lop N (RL.kd f l))) = true
    rw [fl_lo (hf k), h _ List.mem_cons_self, lop_kd hf l fun p hp => h p (List.mem_cons_of_mem _ hp)]
    rfl
theorem lop_sd {N : Nat} {l : List (Str × D)} (h : ∀ p ∈ l, p.2.lo N = true) : D.lop N (sd l) = true := lop_kd (f := D.str) (fun _ => rfl) l h
theorem strs_fl (us : List Str) : D.fls (us.map D.str) = true := by
  rw [fls_all, List.all_map]
  exact List.all_eq_true.mpr fun _ _ => rfl
end My.V
namespace My.V
open PySem L2 RL
theorem take_succ {α : Type} {l : List α} {i : Nat} {x : α} (h : l[i]? = some x) : l.take (i + 1) = l.take i ++ [x] := by
  rw [List.take_add_one, h]
  rfl
section
variable {P Q : G} {L : LSt} {nm : Str} {us : List Str}
end
end My.V
namespace My.V
open PySem L2 RL
section
variable {P Q : G} {L : LSt} {nm p mk : Str} {us : List Str}
end
end My.V
namespace My.V
open PySem L2 RL
def lkG (s : G) : D → G
  | .ref i => match s[i]? with
    | some (.dct false kvs) => s.set i (.dct true kvs)
    | _ => s
  | _ => s
section
variable {s : G} {x y : D} {i : Nat} {kvs : List (D × D)} {τ τ' : RL.T}
theorem lk_get (j : Nat) : (lkG s x)[j]? = s[j]? ∨ ∃ k, s[j]? = some (.dct false k) ∧ (lkG s x)[j]? = some (.dct true k) := by
  unfold lkG
  split
  · rename_i i
    split
    · rename_i k hi
      by_cases c : i = j
      · subst c
        exact .inr ⟨k, hi, set_get (lt_of_get hi)⟩
      · exact .inl (List.getElem?_set_ne c)
    · exact .inl rfl
  · exact .inl rfl
theorem vdc_lk : vdc (lkG s x) y = vdc s y := by
  cases y with
  | ref j =>
    unfold vdc
    dsimp only
    rcases lk_get (s := s) (x := x) j with h | ⟨k, h1, h2⟩
    · rw [h]
    · rw [h1, h2]
  | _ => rfl
theorem vob_lk : vob (lkG s x) y = vob s y := by
  cases y with
  | ref j =>
    unfold vob
    dsimp only
    rcases lk_get (s := s) (x := x) j with h | ⟨k, h1, h2⟩
    · rw [h]
    · rw [h1, h2]
  | _ => rfl
end
end My.V
namespace My.V
open PySem L2 RL
section
variable {s : G} {d : D} {L : LSt} {x y z nm : Str} {cs : List Str} {τ : RL.T}
end
end My.V
namespace My.V
open PySem L2 RL
section
variable {s : G} {τ : RL.T} {cs : List Str}
theorem fld_new {f c : Str} {o v : ME} {fs : List (Str × D)} {R : G} {ob : Ob} (hv : v τ (s ++ (.ins c fs :: R)) = .ok (.ref (s ++ (.ins c fs :: R)).length) (s ++ (.ins c fs :: R) ++ [ob])) (ho : ∀ S, o τ S = .ok (.ref s.length) S) (hc : c ∈ cs) (hl : fs.length ≤ 300) : mFldS cs f o v τ (s ++ (.ins c fs :: R)) = .nx τ (s ++ (.ins c (setF f (.ref (s.length + (R.length + 1))) fs) :: (R ++ [ob]))) := by
  refine (fldS_ok (m := s.length) (c := c) (fs := fs) hv (ho _) (by rw [List.append_assoc]; exact at_mid (i := 0) rfl) hc hl).trans ?_
  rw [List.append_assoc, show s.length = s.length + 0 from rfl, set_mid]
  simp
theorem dict0_new : mDict0 τ s = .ok (.ref s.length) (s ++ [.dct false []]) := rfl
end
end My.V
namespace My.V
open PySem L2 RL
theorem fzR_dct {S : G} {N n k : Nat} {b : Bool} {l : List (D × D)} (h : S[n]? = some (.dct b l)) (hn : N ≤ n) (hl : D.lop N l = true) : fzR S N (k + 1) n = .pdct l := by
  unfold fzR
  rw [if_neg (by omega), h]
  dsimp only
  rw [mrp_lo (h := fzR S N k) (fun _ hi => fzR_low hi) hl]
section
variable {s : G} {d : D} {L : LSt} {cs : List Str} {τ : RL.T}
theorem Fd.lk {f : Str} {l : List (D × D)} {x : D} (h : Fd s d f l) : Fd (lkG s x) d f l := by
  obtain ⟨fs, x, h1, h2, h3⟩ := h
  exact ⟨fs, x, vob_lk.trans h1, h2, vdc_lk.trans h3⟩
theorem LV.lk {x : D} (h : LV s d L) : LV (lkG s x) d L := ⟨h.sl.lk, h.ou.lk, h.ba.lk, h.li.lk, h.pk.lk, h.rt.lk, h.kd.lk, h.lv.lk, h.us.lk⟩
end
end My.V
namespace My.V
open PySem L2 RL
theorem vit_app {s X : G} {d : D} {l : List D} (h : vit s d = some l) : vit (s ++ X) d = some l := by
  cases d with
  | ref i =>
    unfold vit at h ⊢
    dsimp only at h ⊢
    split at h
    · rename_i hn
      rw [app_get hn]
      exact h
    · cases h
  | _ => exact h
theorem fzD_ins {s X : G} {l : List (Str × D)} {c : Str} {n : Nat} (h : (s ++ X)[n]? = some (.ins c l)) (hn : s.length ≤ n) (hl : D.lof s.length l = true) : fzD (s ++ X) s.length (.ref n) = .pobj c l := by
  show fzR (s ++ X) s.length 5 n = _
  unfold fzR
  rw [if_neg (by omega), h]
  dsimp only
  rw [mrf_lo (h := fzR (s ++ X) s.length 4) (fun _ hi => fzR_low hi) hl]
/-- an object is made -/
theorem make_ok {c : Str} {n : Nat} {mf : List D → M D} {l : List D} {s s1 : G} (hn : l.length = n) (h : mf (.ref s.length :: l) (s ++ [.ins c []]) = .ok .non s1) : fMake c n [] mf l s = .ok (.ref s.length) s1 := by
  unfold fMake
  rw [show fCall (n + 1) [] mf (.ref s.length :: l) (s ++ [.ins c []]) = .ok .non s1 from call_v (by rw [List.length_cons, hn]) (by rw [List.append_nil]; exact h)]
  show ck (D.non = D.non) _ = _
  exact ck_pos rfl _
def STN : List (List Str) := [["own", "nested", "around", "below", "heir", "package", "any"], ["nested", "below", "heir", "package", "any"], ["around", "package", "any"], ["below", "heir", "package", "any"], ["below", "heir", "any"], ["heir", "package", "any"], ["heir", "any"], ["package", "any"], ["any"]]
def stD (l : List Str) : D := .tup (l.map D.str)
def ruleV (l : List (List Str)) : D := .pobj "Rule" [("_let", .tup (l.map stD))]
theorem stDs_fl : ∀ l : List (List Str), D.fls (l.map stD) = true := fun l => wts_fl fun d hd => by
  obtain ⟨x, _, rfl⟩ := List.mem_map.mp hd
  exact strs_fl x
theorem ruleV_lo {N : Nat} {l : List (List Str)} : (ruleV l).lo N = true := by
  show (D.lo N (.tup (l.map stD)) && true) = true
  rw [fl_lo (v := .tup (l.map stD)) (stDs_fl l)]
  rfl
section
variable {s : G} {d : D} {L : LSt} {τ : RL.T}
theorem vrule (hw : GW s) {x : D} {l : List (List Str)} (hx : vit s x = some (l.map stD)) : zF (fMake "Rule" 1 [] v_Rule_init) [x] s = .ok (ruleV l) s := by
  refine zF_ok (X := [.ins "Rule" [("_let", .tup (l.map stD))]]) hw (make_ok rfl ?_) ?_ ruleV_lo
  · unfold v_Rule_init
    have e := fldS_ok (cs := cs_Rule) (f := "_let") (o := mV 0) (v := mUnA vTuple (mCons (mV 1) mNil)) (τ := [some (.ref s.length), some x]) (m := s.length) (c := "Rule") (fs := []) (g := s ++ [.ins "Rule" []]) (una_ok (cons_ok (ev_v rfl) nil_ok) (tuple_vl (vit_app hx))) (ev_v rfl) end_get (by simp) (by simp)
    rw [set_last'] at e
    exact run_nx e
  · exact fzD_ins end_get (Nat.le_refl _) (by
      show (D.lo s.length (.tup (l.map stD)) && true) = true
      rw [fl_lo (v := .tup (l.map stD)) (stDs_fl l)]
      rfl)
theorem vhas (st ws : List Str) (hl : ws.length ≤ 1000) : v_has_one_of [stD st, stD ws] s = .ok (.bl (ws.any fun w => decide (w ∈ st))) s := by
  unfold v_has_one_of
  have q := vlc_w (own := [("word", 2)].map (·.2)) (mi := vSeqI (mV 1)) (t := .one 2) (mt := mYes) (me := mOp vIn (mV 2) (mV 0)) (τ := [some (stD st), some (stD ws), none]) (s := s) (c := none) D.str ws (fun _ => true) (fun w => .bl (decide (w ∈ st))) (vseq_t (ev_v rfl)) trivial
    (fun w _ => ⟨_, rfl, rfl, fun _ => ev2 (ev_v rfl) (ev_v rfl) (inl_vs rfl)⟩) (by omega)
  rw [List.filter_eq_self.mpr fun _ _ => rfl] at q
  refine run_rt (ret_ok (una_ok (cons_ok q nil_ok) ?_))
  rw [anyB rfl (bools_mapB _ _), List.any_map]
  rfl
def letF (ws : List Str) : List (List Str) := STN.filter fun st => ws.any fun w => decide (w ∈ st)
theorem vrule_of (hw : GW s) (ws : List Str) (hl : ws.length ≤ 1000) : fCm v_Rule_of (ws.map D.str) s = .ok (ruleV (letF ws)) s := by
  have q := vlc_w (own := [("stance", 3)].map (·.2)) (mi := vSeqI (mC (.tup (STN.map stD)))) (t := .one 3) (mt := mTest (mUnA (fCall 2 [] v_has_one_of) (mCons (mV 3) (mCons (mV 1) mNil)))) (me := mV 3) (τ := [none, some (stD ws), none, none]) (s := s) (c := none) stD STN (fun st => ws.any fun w => decide (w ∈ st)) stD (vseq_t ev_c) trivial
    (fun st _ => ⟨_, rfl, tst (una_ok (cons_ok (ev_v rfl) (cons_ok (ev_v rfl) nil_ok)) (call_v rfl (vhas st ws hl))), fun _ => ev_v rfl⟩) (by decide)
  have e : v_Rule_of (ws.map D.str) s = .ok (ruleV (letF ws)) s := by
    unfold v_Rule_of runC
    rw [ck_pos (by rw [List.length_map]; exact hl)]
    have r : w_Rule_of [none, some (stD ws), none, none] s = .rt (ruleV (letF ws)) s := seq_go (asg_ok (i := 2) q) (ret_ok (una_ok (cons_ok (ev_v rfl) nil_ok) (vrule hw rfl)))
    show resOf (w_Rule_of [none, some (stD ws), none, none] s) = _
    rw [r]
    rfl
  show noX (v_Rule_of (ws.map D.str) s) = _
  rw [e]
  rfl
end
end My.V
namespace My.V
open PySem L2 RL
def bookV (prs : List (Str × D)) : D := .pobj "Book" [("_rules", .pdct (sd prs))]
def prD (p : Str × D) : D := .tup [.str p.1, p.2]
theorem lop_prs {N : Nat} {prs : List (Str × D)} (h : ∀ p ∈ prs, p.2.lo N = true) : D.lop N (sd prs) = true := lop_sd h
theorem bookV_lo {N : Nat} {prs : List (Str × D)} (h : ∀ p ∈ prs, p.2.lo N = true) : (bookV prs).lo N = true := by
  show (D.lo N (.pdct (sd prs)) && true) = true
  rw [show D.lo N (.pdct (sd prs)) = D.lop N (sd prs) from rfl, lop_prs h]
  rfl
section
variable {s : G} {d : D} {L : LSt} {τ : RL.T}
theorem vbook (hw : GW s) (prs : List (Str × D)) (nd : (prs.map (·.1)).Nodup) (hl : prs.length ≤ 1000) (hp : ∀ p ∈ prs, p.2.lo s.length = true) : zF (fMake "Book" 1 [] v_Book_init) [.plst (prs.map prD)] s = .ok (bookV prs) s := by
  have a0 : mFldS cs_Book "_rules" (mV 0) mDict0 [some (.ref s.length), some (.plst (prs.map prD)), none, none] (s ++ [.ins "Book" []]) = .nx [some (.ref s.length), some (.plst (prs.map prD)), none, none] (s ++ [.ins "Book" [("_rules", .ref (s.length + 1))], .dct false []]) := fld_new (R := []) dict0_new (fun _ => ev_v rfl) (by simp) (by simp)
  have lp : ∃ τ' G', mFor (vSeqI (mV 1)) (gTupM 2 (gsCons (gN 2) (gsCons (gN 3) gsNil))) (mSeq (mIfS (mTest (mOp vIn (mV 2) (mUn (vFld cs_Book "_rules") (mV 0)))) (mRaise (exc1 "Taken") (mCons (mV 2) mNil)) mNext) (mAsg (mV 3) (gSubM (mUn (vFld cs_Book "_rules") (mV 0)) (mV 2)))) [some (.ref s.length), some (.plst (prs.map prD)), none, none] (s ++ [.ins "Book" [("_rules", .ref (s.length + 1))], .dct false []]) = .nx τ' G' ∧ (∃ x2 x3, τ' = [some (.ref s.length), some (.plst (prs.map prD)), x2, x3]) ∧ G' = s ++ [.ins "Book" [("_rules", .ref (s.length + 1))], .dct false (sd (prs.take (prs.map prD).length))] := by
    refine loop_all (mi := vSeqI (mV 1)) (prs.map prD) (fun i τ G => (∃ x2 x3, τ = [some (.ref s.length), some (.plst (prs.map prD)), x2, x3]) ∧ G = s ++ [.ins "Book" [("_rules", .ref (s.length + 1))], .dct false (sd (prs.take i))]) (vseq_p (ev_v rfl)) (fun _ _ _ _ => trivial) ⟨⟨_, _, rfl⟩, rfl⟩ ?_
    rintro i dd τ G hd ⟨⟨x2, x3, rfl⟩, rfl⟩
    rw [List.getElem?_map] at hd
    obtain ⟨⟨k, v⟩, hp', rfl⟩ := Option.map_eq_some_iff.mp hd
    refine ⟨_, _, rfl, ?_⟩
    have hn : k ∉ (prs.take i).map (·.1) := fun z => by
      have hi := (List.getElem?_eq_some_iff.mp hp').1
      have e : prs = prs.take i ++ prs.drop i := (List.take_append_drop i prs).symm
      have hdr : prs.drop i = (k, v) :: prs.drop (i + 1) := by
        have := List.drop_eq_getElem_cons hi
        rw [(List.getElem?_eq_some_iff.mp hp').2] at this
        exact this
      rw [e, List.map_append, hdr, List.map_cons] at nd
      exact (List.nodup_append.mp nd).2.2 k z k List.mem_cons_self rfl
    have fd : ∀ τ : RL.T, τ[0]? = some (some (.ref s.length)) → mUn (vFld cs_Book "_rules") (mV 0) τ (s ++ [.ins "Book" [("_rules", .ref (s.length + 1))], .dct false (sd (prs.take i))]) = .ok (.ref (s.length + 1)) (s ++ [.ins "Book" [("_rules", .ref (s.length + 1))], .dct false (sd (prs.take i))]) := fun τ h => un_ok (ev_v h) (fld_v (vob_ref (at_mid (i := 0) rfl)) (by simp) rfl)
    have t := tst (ev2 (τ := [some (.ref s.length), some (.plst (prs.map prD)), some (.str k), some v]) (a := mV 2) (ev_v rfl) (fd _ rfl) (in_vs (l := prs.take i) (vdc_ref (k := false) (at_mid (i := 1) rfl))))
    rw [decide_eq_false hn] at t
    have w := set_sd (l := prs.take i) (τ := [some (.ref s.length), some (.plst (prs.map prD)), some (.str k), some v]) (e := mV 3) (v := v) (o := mUn (vFld cs_Book "_rules") (mV 0)) (i := mV 2) (ev_v rfl) (fd _ rfl) (ev_v rfl) (at_mid (i := 1) rfl) hn (by rw [List.length_take]; omega)
    rw [set_mid] at w
    exact body_nx (seq_go (if_n2 t) w) ⟨⟨_, _, rfl⟩, by rw [take_succ hp']; rfl⟩
  obtain ⟨_, _, lp, ⟨x2, x3, rfl⟩, rfl⟩ := lp
  rw [List.length_map, List.take_length] at lp
  have main : v_Book_init [.ref s.length, .plst (prs.map prD)] (s ++ [.ins "Book" []]) = .ok .non (s ++ [.ins "Book" [("_rules", .ref (s.length + 1))], .dct false (sd prs)]) := by
    unfold v_Book_init
    exact run_nx (seq_go a0 lp)
  refine zF_ok hw (make_ok rfl main) ?_ (bookV_lo hp)
  show fzR _ s.length 5 s.length = _
  unfold fzR
  rw [if_neg (by omega), show (s ++ [Ob.ins "Book" [("_rules", .ref (s.length + 1))], .dct false (sd prs)])[s.length]? = some (Ob.ins "Book" [("_rules", .ref (s.length + 1))]) from at_mid (i := 0) rfl]
  dsimp only
  simp only [D.mrf, D.mr]
  rw [fzR_dct (b := false) (at_mid (i := 1) rfl) (by omega) (lop_prs hp)]
  rfl
end
end My.V
namespace My
open PySem L2 RL
theorem atI_n {α : Type} {l : List α} {n : Nat} {x : α} (h : l[n]? = some x) : L2.atI l (n : Int) = some x := by
  have hn := (List.getElem?_eq_some_iff.mp h).1
  unfold L2.atI L2.ixN
  simp [hn]
  exact (List.getElem?_eq_some_iff.mp h).2
def poolL : List Str := ["a", "b2", "cab", "d", "e0", "fox", "gg", "h1", "ice", "j", "kilo", "lo", "mmm", "n9", "oak", "p", "q7", "rr", "s", "tin", "0", "v", "wax", "abcdefghijkl", "yes", "z0o"]
def nameF (a b : Int) : Str := poolL.getD ((a + 7 * b) % 26).toNat ""
theorem nameF_at (a b : Int) : L2.atI (poolL.map D.str) ((a + 7 * b) % 26) = some (.str (nameF a b)) := by
  have h1 := Int.emod_nonneg (a + 7 * b) (b := 26) (by decide)
  have h2 := Int.emod_lt_of_pos (a + 7 * b) (b := 26) (by decide)
  unfold nameF
  generalize (a + 7 * b) % 26 = z at h1 h2
  obtain ⟨n, rfl⟩ := Int.eq_ofNat_of_zero_le h1
  have hn : n < poolL.length := by show n < 26; omega
  refine atI_n ?_
  rw [List.getElem?_map, List.getElem?_eq_getElem hn, Int.toNat_natCast, List.getD_eq_getElem?_getD, List.getElem?_eq_getElem hn]
  rfl
theorem nameF_inj {a : Int} {i j : Nat} (hi : i < 26) (hj : j < 26) (h : nameF a (i : Int) = nameF a (j : Int)) : i = j := by
  have nd : poolL.Nodup := by decide
  have at_ : ∀ k : Nat, ∃ n : Nat, n < 26 ∧ (n : Int) = (a + 7 * (k : Int)) % 26 ∧ poolL[n]? = some (nameF a (k : Int)) := fun k => by
    have h1 := Int.emod_nonneg (a + 7 * (k : Int)) (b := 26) (by decide)
    have h2 := Int.emod_lt_of_pos (a + 7 * (k : Int)) (b := 26) (by decide)
    unfold nameF
    generalize (a + 7 * (k : Int)) % 26 = z at h1 h2
    obtain ⟨n, rfl⟩ := Int.eq_ofNat_of_zero_le h1
    have hn : n < poolL.length := by show n < 26; omega
    refine ⟨n, by omega, rfl, ?_⟩
    rw [Int.toNat_natCast, List.getD_eq_getElem?_getD, List.getElem?_eq_getElem hn]
    rfl
  obtain ⟨n, n1, n2, n3⟩ := at_ i
  obtain ⟨m, m1, m2, m3⟩ := at_ j
  rw [h, ← m3] at n3
  have e : n = m := (List.getElem?_inj (by show n < 26; omega) nd).mp n3
  omega
end My
namespace My.V
open PySem L2 RL
def prodV (p : List (List Str)) : D := .plst (p.map fun ws => .plst (ws.map D.str))
end My.V
namespace My.V
open PySem L2 RL
section
variable {g : G}
theorem vsplit_ok {s : Str} {l : List Str} (h1 : s.length ≤ 1000) (h2 : Txt.split s (" " : Str) = l) (h3 : l.all sOk = true) : vSplit (.str s) [.str " "] g = .ok (.plst (l.map D.str)) g := by
  unfold vSplit
  dsimp only
  rw [h2, ck_pos ⟨by decide, h1, h3⟩]
end
theorem pos_len {α : Type} (l : List α) (P : α → Bool) : decide ((0 : Int) < ((l.filter P).length : Nat)) = l.any P := by
  rw [Bool.eq_iff_iff, decide_eq_true_eq, List.any_eq_true]
  constructor
  · intro h
    have : 0 < (l.filter P).length := by omega
    obtain ⟨a, ha⟩ := List.exists_mem_of_length_pos this
    exact ⟨a, (List.mem_filter.mp ha).1, (List.mem_filter.mp ha).2⟩
  · rintro ⟨a, h1, h2⟩
    have := List.length_pos_of_mem (List.mem_filter.mpr ⟨h1, h2⟩)
    omega
end My.V
namespace My.V
open PySem L2 RL
theorem st_gr (l : List Str) (n : Nat) : gr (n + 2) (stD l) = true := by
  show (l.map D.str).all (gr (n + 1)) = true
  refine List.all_eq_true.mpr fun x hx => ?_
  obtain ⟨y, _, rfl⟩ := List.mem_map.mp hx
  rfl
theorem strs_cms : ∀ a b : List Str, cms (a.map D.str) (b.map D.str) = true
  | [], b => by cases b <;> simp [cms]
  | _ :: _, [] => by simp [cms]
  | x :: a, y :: b => by
    simp only [List.map_cons, cms, Bool.and_eq_true]
    exact ⟨by simp [cm], strs_cms a b⟩
theorem st_cm (a b : List Str) : cm (stD a) (stD b) = true := by
  unfold stD
  simp only [cm]
  exact strs_cms a b
theorem stD_inj {a b : List Str} (h : stD a = stD b) : a = b := by
  unfold stD at h
  injection h with h
  exact (List.map_inj_right fun x y e => by injection e).mp h
section
variable {s : G} {τ : RL.T} {y : D}
theorem in_st {l : List (List Str)} {st : List Str} (h : vit s y = some (l.map stD)) : vIn (stD st) y s = .ok (.bl (decide (st ∈ l))) s := by
  unfold vIn
  rw [h]
  dsimp only
  rw [ck_pos ⟨st_gr st 18, List.all_eq_true.mpr fun z hz => by
    obtain ⟨a, _, rfl⟩ := List.mem_map.mp hz
    exact st_gr a 18, List.all_eq_true.mpr fun z hz => by
    obtain ⟨a, _, rfl⟩ := List.mem_map.mp hz
    exact st_cm _ _⟩]
  have : (stD st ∈ l.map stD) ↔ st ∈ l := ⟨fun hm => by
    obtain ⟨a, ha, e⟩ := List.mem_map.mp hm
    rw [← stD_inj e]
    exact ha, fun hm => List.mem_map.mpr ⟨_, hm, rfl⟩⟩
  rw [decide_eq_decide.mpr this]
def andF (a b : List (List Str)) : List (List Str) := STN.filter fun st => decide (st ∈ a) && decide (st ∈ b)
def orF (a b : List (List Str)) : List (List Str) := STN.filter fun st => decide (st ∈ a) || decide (st ∈ b)
theorem let_in {i : Nat} {a : List (List Str)} {st : List Str} (h2 : τ[2]? = some (some (stD st))) (hi : τ[i]? = some (some (ruleV a))) : mTest (mOp vIn (mV 2) (mUn (vFld cs_Rule "_let") (mV i))) τ s = .ok (decide (st ∈ a)) s :=
  tst (ev2 (ev_v h2) (un_ok (ev_v hi) (fld_v (c := "Rule") (d := .tup (a.map stD)) rfl (by simp) rfl)) (in_st rfl))
theorem vrule_and (hw : GW s) (a b : List (List Str)) : v_Rule___and__ [ruleV a, ruleV b] s = .ok (ruleV (andF a b)) s := by
  have q := vlc_w (own := [("stance", 2)].map (·.2)) (mi := vSeqI (mC (.tup (STN.map stD)))) (t := .one 2) (mt := mAndT (mTest (mOp vIn (mV 2) (mUn (vFld cs_Rule "_let") (mV 0)))) (mTest (mOp vIn (mV 2) (mUn (vFld cs_Rule "_let") (mV 1))))) (me := mV 2) (τ := [some (ruleV a), some (ruleV b), none]) (s := s) (c := none) stD STN (fun st => decide (st ∈ a) && decide (st ∈ b)) stD (vseq_t ev_c) trivial
    (fun st _ => ⟨_, rfl, by
      have t1 := let_in (s := s) (τ := [some (ruleV a), some (ruleV b), some (stD st)]) (i := 0) (a := a) (st := st) rfl rfl
      have t2 := let_in (s := s) (τ := [some (ruleV a), some (ruleV b), some (stD st)]) (i := 1) (a := b) (st := st) rfl rfl
      cases c : decide (st ∈ a) with
      | true =>
        rw [c] at t1
        rw [Bool.true_and]
        exact and_t t1 t2
      | false =>
        rw [c] at t1
        exact and_f t1, fun _ => ev_v rfl⟩) (by decide)
  unfold v_Rule___and__
  exact run_rt (ret_ok (una_ok (cons_ok q nil_ok) (vrule hw rfl)))
theorem vrule_or (hw : GW s) (a b : List (List Str)) : v_Rule___or__ [ruleV a, ruleV b] s = .ok (ruleV (orF a b)) s := by
  have q := vlc_w (own := [("stance", 2)].map (·.2)) (mi := vSeqI (mC (.tup (STN.map stD)))) (t := .one 2) (mt := mOrT (mTest (mOp vIn (mV 2) (mUn (vFld cs_Rule "_let") (mV 0)))) (mTest (mOp vIn (mV 2) (mUn (vFld cs_Rule "_let") (mV 1))))) (me := mV 2) (τ := [some (ruleV a), some (ruleV b), none]) (s := s) (c := none) stD STN (fun st => decide (st ∈ a) || decide (st ∈ b)) stD (vseq_t ev_c) trivial
    (fun st _ => ⟨_, rfl, by
      have t1 := let_in (s := s) (τ := [some (ruleV a), some (ruleV b), some (stD st)]) (i := 0) (a := a) (st := st) rfl rfl
      have t2 := let_in (s := s) (τ := [some (ruleV a), some (ruleV b), some (stD st)]) (i := 1) (a := b) (st := st) rfl rfl
      cases c : decide (st ∈ a) with
      | true =>
        rw [c] at t1
        exact or_t t1
      | false =>
        rw [c] at t1
        rw [Bool.false_or]
        exact or_f t1 t2, fun _ => ev_v rfl⟩) (by decide)
  unfold v_Rule___or__
  exact run_rt (ret_ok (una_ok (cons_ok q nil_ok) (vrule hw rfl)))
theorem ruleI {mf : List D → M D} {a b c : List (List Str)} (h : mf [ruleV a, ruleV b] s = .ok (ruleV c) s) : vOpI "Rule" mf (ruleV a) (ruleV b) s = .ok (ruleV c) s := by
  unfold vOpI
  rw [ck_pos ⟨ins_v (c := "Rule") rfl (by simp), ins_v (c := "Rule") rfl (by simp)⟩, h]
  rfl
def prdF (ws : List Str) : List (List Str) := ws.foldl (fun a w => andF a (letF [w])) (letF ["any"])
def ruleF (p : List (List Str)) : List (List Str) := p.foldl (fun a ws => orF a (prdF ws)) (letF [])
theorem vlrule (hw : GW s) (p : List (List Str)) : v_l_rule [prodV p] s = .ok (ruleV (ruleF p)) s := by
  have a0 : mAsg (mUnA (fCm v_Rule_of) mNil) (gN 1) [some (prodV p), none, none, none, none] s = .nx [some (prodV p), some (ruleV (letF [])), none, none, none] s := asg_ok (una_ok nil_ok (vrule_of hw [] (by simp)))
  obtain ⟨τ', g', lp, ⟨x2, x3, x4, rfl⟩, rfl⟩ := loop_all (mi := vSeqI (mV 0)) (mg := gN 2) (mb := mSeq (mAsg (mUnA (fCm v_Rule_of) (mCons (mC (.str "any")) mNil)) (gN 3)) (mSeq (mFor (vSeqI (mV 2)) (gN 4) (mAsg (mOp (vOpI "Rule" v_Rule___and__) (mV 3) (mUnA (fCm v_Rule_of) (mCons (mV 4) mNil))) (gN 3))) (mAsg (mOp (vOpI "Rule" v_Rule___or__) (mV 1) (mV 3)) (gN 1)))) (τ := [some (prodV p), some (ruleV (letF [])), none, none, none]) (g := s)
    (p.map fun ws => .plst (ws.map D.str)) (fun i τ G => (∃ x2 x3 x4, τ = [some (prodV p), some (ruleV (ruleF (p.take i))), x2, x3, x4]) ∧ G = s) (vseq_p (ev_v rfl)) (fun _ _ _ _ => trivial) ⟨⟨_, _, _, rfl⟩, rfl⟩ (by
    rintro i d τ G hd ⟨⟨x2, x3, x4, rfl⟩, rfl⟩
    rw [List.getElem?_map] at hd
    obtain ⟨ws, hp, rfl⟩ := Option.map_eq_some_iff.mp hd
    refine ⟨_, _, rfl, ?_⟩
    have b0 : mAsg (mUnA (fCm v_Rule_of) (mCons (mC (.str "any")) mNil)) (gN 3) [some (prodV p), some (ruleV (ruleF (p.take i))), some (.plst (ws.map D.str)), x3, x4] G = .nx [some (prodV p), some (ruleV (ruleF (p.take i))), some (.plst (ws.map D.str)), some (ruleV (letF ["any"])), x4] G := asg_ok (una_ok (cons_ok ev_c nil_ok) (vrule_of hw ["any"] (by simp)))
    obtain ⟨τ', g', lp2, ⟨x4', rfl⟩, rfl⟩ := loop_all (mi := vSeqI (mV 2)) (mg := gN 4) (mb := mAsg (mOp (vOpI "Rule" v_Rule___and__) (mV 3) (mUnA (fCm v_Rule_of) (mCons (mV 4) mNil))) (gN 3)) (τ := [some (prodV p), some (ruleV (ruleF (p.take i))), some (.plst (ws.map D.str)), some (ruleV (letF ["any"])), x4]) (g := G)
      (ws.map D.str) (fun j τ g => (∃ x4, τ = [some (prodV p), some (ruleV (ruleF (p.take i))), some (.plst (ws.map D.str)), some (ruleV (prdF (ws.take j))), x4]) ∧ g = G) (vseq_p (ev_v rfl)) (fun _ _ _ _ => trivial) ⟨⟨_, rfl⟩, rfl⟩ (by
      rintro j d τ g hd ⟨⟨x4, rfl⟩, rfl⟩
      rw [List.getElem?_map] at hd
      obtain ⟨w, hw', rfl⟩ := Option.map_eq_some_iff.mp hd
      refine ⟨_, _, rfl, body_nx (asg_ok (ev2 (ev_v rfl) (una_ok (cons_ok (ev_v rfl) nil_ok) (vrule_of hw [w] (by simp))) (ruleI (vrule_and hw _ _)))) ⟨⟨some (.str w), ?_⟩, rfl⟩⟩
      rw [take_succ hw']
      unfold prdF
      rw [List.foldl_append]
      rfl)
    rw [List.length_map, List.take_length] at lp2
    refine body_nx (seq_go b0 (seq_go lp2 (asg_ok (ev2 (ev_v rfl) (ev_v rfl) (ruleI (vrule_or hw _ _)))))) ⟨⟨some (.plst (ws.map D.str)), some (ruleV (prdF ws)), x4', ?_⟩, rfl⟩
    rw [take_succ hp]
    unfold ruleF
    rw [List.foldl_append]
    rfl)
  rw [List.length_map, List.take_length] at lp
  unfold v_l_rule
  exact run_rt (seq_go a0 (seq_go lp (ret_ok (ev_v rfl))))
end
end My.V
namespace My.V
open PySem L2 RL
section
variable {s : G} {x y : D} {τ : RL.T}
theorem isi_v {T t : Ty} {e : ME} (h : e τ s = .ok x s) (ht : vty s x = some t) (h1 : t ≠ .dct) (h2 : T ≠ .non) : mUn (vIsi T) e τ s = .ok (.bl (isaT t T)) s := by
  refine un_ok h ?_
  unfold vIsi
  rw [ht]
  exact ck_pos ⟨h1, h2⟩ _
theorem mand_t {a b : ME} {r : Res D} (h : a τ s = .ok (.bl true) s) (h2 : b τ s = r) : mAnd a b τ s = r := by
  unfold mAnd
  rw [h, Res.bind_ok]
  exact h2
theorem isNT_ne {e : ME} (h : e τ s = .ok x s) (hx : x ≠ .non) : mTest (mUn (fIsN true) e) τ s = .ok false s := tst (un_ok h ((isN_ok true x).trans (by rw [decide_eq_false hx]; rfl)))
theorem vsame_non (n : Nat) : v_l_same (n + 1) [.non, .non] s = .ok (.bl true) s :=
  run_rt (seq_rt (if_tr (isN_nonT (ev_v rfl)) (ret_ok (un_ok (ev_v rfl) ((isN_ok true .non).trans (by rw [decide_eq_true rfl]; rfl))))))
theorem vsame_str (n : Nat) (x : Str) : v_l_same (n + 1) [.str x, .str x] s = .ok (.bl true) s := by
  have i1 := fun (T : Ty) (h : T ≠ .non) (i : Nat) (hi : [some (D.str x), some (D.str x), none][i]? = some (some (.str x))) => isi_v (τ := [some (D.str x), some (D.str x), none]) (s := s) (T := T) (e := mV i) (ev_v hi) (t := .str) rfl (by decide) h
  exact run_rt (seq_go (if_n2 (isN_strT (ev_v rfl))) (seq_go (if_n2 (tst (i1 .bl (by decide) 1 rfl))) (seq_go (if_n2 (tst (i1 .int (by decide) 1 rfl))) (seq_rt (if_tr (tst (i1 .str (by decide) 1 rfl)) (ret_ok (mand_t (i1 .str (by decide) 0 rfl) (ev2 (ev_v rfl) (ev_v rfl) ((eqS_v x x).trans (by rw [decide_eq_true rfl]))))))))))
theorem vsame_tup (n : Nat) (l : List D) (hl : l.length ≤ 1000) (h : ∀ d ∈ l, v_l_same n [d, d] s = .ok (.bl true) s) : v_l_same (n + 1) [.tup l, .tup l] s = .ok (.bl true) s := by
  have i1 := fun (T : Ty) (h : T ≠ .non) (i : Nat) (hi : [some (D.tup l), some (D.tup l), none][i]? = some (some (.tup l))) => isi_v (τ := [some (D.tup l), some (D.tup l), none]) (s := s) (T := T) (e := mV i) (ev_v hi) (t := .tup) rfl (by decide) h
  have hlen : ∀ (τ : RL.T) (i : Nat), τ[i]? = some (some (.tup l)) → mUnA vLen (mCons (mV i) mNil) τ s = .ok (.int ((l.length : Nat) : Int)) s := fun τ i h => una_ok (cons_ok (ev_v h) nil_ok) (len_vl rfl)
  have hne : mTest (mOp vNe (mUnA vLen (mCons (mV 0) mNil)) (mUnA vLen (mCons (mV 1) mNil))) [some (.tup l), some (.tup l), none] s = .ok false s := tst (ev2 (hlen _ _ rfl) (hlen _ _ rfl) ((neI_v _ _).trans (by rw [decide_eq_true rfl]; rfl)))
  obtain ⟨_, _, lp, ⟨k, rfl⟩, rfl⟩ := loop_all (mi := mRange1 (mUnA vLen (mCons (mV 1) mNil))) (mg := gN 2) (mb := mIfS (mNotT (mTest (mUnA (fCall 2 [] (v_l_same n)) (mCons (mOp vSubs (mV 0) (mV 2)) (mCons (mOp vSubs (mV 1) (mV 2)) mNil))))) (mRet (mC (.bl false))) mNext) (τ := [some (.tup l), some (.tup l), none]) (g := s) (rng 0 l.length)
    (fun i τ G => (∃ k, τ = [some (.tup l), some (.tup l), k]) ∧ G = s) (range1_ok (hlen _ _ rfl) (by omega)) (fun _ _ _ _ => trivial) ⟨⟨_, rfl⟩, rfl⟩ (by
      rintro i d τ G hd ⟨⟨k, rfl⟩, rfl⟩
      obtain ⟨hi, rfl⟩ := rng_get hd
      rw [Int.zero_add]
      refine ⟨_, _, rfl, ?_⟩
      have hu : l[i]? = some l[i] := List.getElem?_eq_getElem hi
      generalize l[i] = u at hu
      have ix : ∀ j, [some (D.tup l), some (D.tup l), some (.int (i : Int))][j]? = some (some (.tup l)) → mOp vSubs (mV j) (mV 2) [some (D.tup l), some (D.tup l), some (.int (i : Int))] G = .ok u G := fun j hj => ev2 (ev_v hj) (ev_v rfl) (subs_vl rfl (atI_n hu))
      exact body_nx (if_n2 (not_ok (tst (una_ok (cons_ok (ix 0 rfl) (cons_ok (ix 1 rfl) nil_ok)) (call_v rfl (h u (List.mem_of_getElem? hu))))))) ⟨⟨some (.int (i : Int)), rfl⟩, rfl⟩)
  exact run_rt (seq_go (if_n2 (isNT_ne (ev_v rfl) (by simp))) (seq_go (if_n2 (tst (i1 .bl (by decide) 1 rfl))) (seq_go (if_n2 (tst (i1 .int (by decide) 1 rfl))) (seq_go (if_n2 (tst (i1 .str (by decide) 1 rfl)))
    (seq_go (if_n2 (and_t (tst (i1 .tup (by decide) 1 rfl)) (not_ok (tst (i1 .tup (by decide) 0 rfl))))) (seq_go (if_n2 (and_f (tst (i1 .lst (by decide) 1 rfl)))) (seq_go (if_n2 hne) (seq_go lp (ret_ok ev_c)))))))))
theorem vsame_strs (n : Nat) (l : List Str) (hl : l.length ≤ 1000) : v_l_same (n + 2) [.tup (l.map D.str), .tup (l.map D.str)] s = .ok (.bl true) s := vsame_tup _ _ (by rw [List.length_map]; exact hl) fun d hd => by
  obtain ⟨x, _, rfl⟩ := List.mem_map.mp hd
  exact vsame_str n x
end
end My.V
namespace My.V
open PySem L2 RL
theorem nil_len {α : Type} (l : List α) (P : α → Bool) : decide ((((l.filter fun a => !P a).length : Nat) : Int) = 0) = l.all P := by
  rw [Bool.eq_iff_iff, decide_eq_true_eq, List.all_eq_true]
  constructor
  · intro h a ha
    have h0 : (l.filter fun a => !P a).length = 0 := by omega
    have h1 := List.length_eq_zero_iff.mp h0
    have := List.filter_eq_nil_iff.mp h1 a ha
    simpa using this
  · intro h
    have h1 : (l.filter fun a => !P a) = [] := List.filter_eq_nil_iff.mpr fun a ha => by simp [h a ha]
    rw [h1]
    rfl
def lletF (p : List (List Str)) : List (List Str) := STN.filter fun st => p.any fun ws => ws.all fun w => decide (w ∈ st)
/-- products that are not long -/
structure PO (p : List (List Str)) : Prop where
  l : p.length ≤ 1000
  w : ∀ ws ∈ p, ws.length ≤ 1000
theorem mem_and {a b : List (List Str)} {st : List Str} : st ∈ andF a b ↔ st ∈ STN ∧ st ∈ a ∧ st ∈ b := by
  unfold andF
  rw [List.mem_filter]
  simp
theorem mem_or {a b : List (List Str)} {st : List Str} : st ∈ orF a b ↔ st ∈ STN ∧ (st ∈ a ∨ st ∈ b) := by
  unfold orF
  rw [List.mem_filter]
  simp
theorem mem_let1 {x : Str} {st : List Str} : st ∈ letF [x] ↔ st ∈ STN ∧ x ∈ st := by
  unfold letF
  rw [List.mem_filter]
  simp
theorem any_st : ∀ st ∈ STN, ("any" : Str) ∈ st := by decide
theorem mem_prd {st : List Str} : ∀ (ws : List Str) (a : List (List Str)), (∀ x ∈ a, x ∈ STN) → (st ∈ ws.foldl (fun a w => andF a (letF [w])) a ↔ st ∈ a ∧ ∀ w ∈ ws, w ∈ st)
  | [], a, _ => by simp
  | w :: ws, a, h => by
    rw [List.foldl_cons, mem_prd ws _ fun x hx => (mem_and.mp hx).1, mem_and, mem_let1]
    constructor
    · rintro ⟨⟨_, h1, _, h2⟩, h3⟩
      exact ⟨h1, fun z hz => by
        rcases List.mem_cons.mp hz with rfl | hz
        · exact h2
        · exact h3 z hz⟩
    · rintro ⟨h1, h2⟩
      exact ⟨⟨h st h1, h1, h st h1, h2 w List.mem_cons_self⟩, fun z hz => h2 z (List.mem_cons_of_mem _ hz)⟩
theorem mem_prdF {st ws : List Str} : st ∈ prdF ws ↔ st ∈ STN ∧ ∀ w ∈ ws, w ∈ st := by
  unfold prdF
  rw [mem_prd ws _ fun x hx => (mem_let1.mp hx).1, mem_let1]
  constructor
  · rintro ⟨⟨h1, _⟩, h2⟩
    exact ⟨h1, h2⟩
  · rintro ⟨h1, h2⟩
    exact ⟨⟨h1, any_st st h1⟩, h2⟩
theorem mem_rl {st : List Str} : ∀ (p : List (List Str)) (a : List (List Str)), (∀ x ∈ a, x ∈ STN) → (st ∈ p.foldl (fun a ws => orF a (prdF ws)) a ↔ st ∈ a ∨ st ∈ STN ∧ ∃ ws ∈ p, ∀ w ∈ ws, w ∈ st)
  | [], a, _ => by simp
  | ws :: p, a, h => by
    rw [List.foldl_cons, mem_rl p _ fun x hx => (mem_or.mp hx).1, mem_or, mem_prdF]
    constructor
    · rintro (⟨h1, h2 | ⟨h2, h3⟩⟩ | ⟨h1, ws', h2, h3⟩)
      · exact .inl h2
      · exact .inr ⟨h1, ws, List.mem_cons_self, h3⟩
      · exact .inr ⟨h1, ws', List.mem_cons_of_mem _ h2, h3⟩
    · rintro (h1 | ⟨h1, ws', h2, h3⟩)
      · exact .inl ⟨h st h1, .inl h1⟩
      · rcases List.mem_cons.mp h2 with rfl | h2
        · exact .inl ⟨h1, .inr ⟨h1, h3⟩⟩
        · exact .inr ⟨h1, ws', h2, h3⟩
/-- the rule of the program lets what the law lets -/
theorem rule_let {p : List (List Str)} {st : List Str} : st ∈ ruleF p ↔ st ∈ lletF p := by
  unfold ruleF lletF
  rw [mem_rl p _ (by simp [letF]), List.mem_filter]
  simp [letF]
theorem ruleF_self (p : List (List Str)) : ruleF p = STN.filter fun st => decide (st ∈ ruleF p) := by
  have key : ∀ (p a : List (List Str)), (∃ f, a = STN.filter f) → ∃ f, p.foldl (fun a ws => orF a (prdF ws)) a = STN.filter f := by
    intro p
    induction p with
    | nil => exact fun a h => h
    | cons w p ih => exact fun a _ => ih _ ⟨_, rfl⟩
  obtain ⟨f, e⟩ : ∃ f, ruleF p = STN.filter f := key p _ ⟨_, rfl⟩
  rw [e]
  refine List.filter_congr fun x hx => ?_
  rw [Bool.eq_iff_iff, decide_eq_true_eq, List.mem_filter]
  exact ⟨fun h => ⟨hx, h⟩, fun h => h.2⟩
theorem rule_lets (p : List (List Str)) : ruleF p = lletF p := by
  rw [ruleF_self]
  unfold lletF
  refine List.filter_congr fun st hst => ?_
  rw [Bool.eq_iff_iff, decide_eq_true_eq, rule_let]
  unfold lletF
  rw [List.mem_filter]
  exact ⟨fun h => h.2, fun h => ⟨hst, h⟩⟩
end My.V
namespace My.V
open PySem L2 RL
def wdig6B : MS := (mSeq (mAsg (mOp fMod (mUnA fInt (mCons (mOp vPlus (mOp vPlus (mOp vPlus (mOp fMul (mV 3) (mC (.int 48271))) (mOp fMul (mV 1) (mC (.int 1009)))) (mOp fMul (mV 6) (mC (.int 69621)))) (mC (.int 5))) mNil)) (mC (.int 2147483647))) (gN 7))
  (mSeq (mAsg (mOp fDiv (mOp fMod (mUnA fInt (mCons (mOp vPlus (mOp vPlus (mOp fMul (mV 7) (mV 7)) (mV 3)) (mOp fMul (mV 6) (mC (.int 7919)))) mNil)) (mC (.int 2147483629))) (mC (.int 7))) (gN 7))
  (mSeq (mIfS (mTest (mV 4)) (mSeq (mAsg (mV 3) (gN 7))
  (mAsg (mOp fDiv (mV 3) (mOp vSubs (mV 2) (mV 6))) (gN 3))) mNext)
  (mDrop (vBM .lst fApp (mV 5) (mCons (mOp fMod (mUnA fInt (mCons (mV 7) mNil)) (mOp vSubs (mV 2) (mV 6))) mNil))))))
section
variable {g : G} {x0 : D} {ns szs : List Int}
theorem set_last6 {s : G} {a b : Ob} : (s ++ [a]).set s.length b = s ++ [b] := by simp
theorem vdig6_body {j c sz : Int} {k : Nat} {row : List Int} {gr : Bool} {x7 : Option D} (hz : szs[k]? = some sz) (hk : k ≤ 1000) (hp0 : 0 < sz) (hp1 : sz < 1073741824) (hl : row.length ≤ 1000) :
    ∃ c' x7' z, wdig6B [some x0, some (.int j), some (.plst (szs.map D.int)), some (.int c), some (.bl gr), some (.ref g.length), some (.int (k : Int)), x7] (g ++ [.lst (row.map D.int)]) =
      .nx [some x0, some (.int j), some (.plst (szs.map D.int)), some (.int c'), some (.bl gr), some (.ref g.length), some (.int (k : Int)), x7'] (g ++ [.lst ((row ++ [z % sz]).map D.int)]) := by
  have cc : ∀ (q : Int), -(2 ^ 64) < q ∧ q < 2 ^ 64 → ∀ i : Int, (-(2 ^ 64) < i ∧ i < 2 ^ 64) ∨ (-(2 ^ 64) < q ∧ q < 2 ^ 64) := fun q h i => .inr h
  have sb : ∀ (τ : RL.T) (G : RL.G), τ[2]? = some (some (.plst (szs.map D.int))) → τ[6]? = some (some (.int (k : Int))) → mOp vSubs (mV 2) (mV 6) τ G = .ok (.int sz) G := fun τ G h1 h2 => ev2 (ev_v h1) (ev_v h2) (subs_vl rfl (atI_n (by rw [List.getElem?_map, hz]; rfl)))
  have hm : -(2 ^ 64) < (c * 48271 + j * 1009 + (k : Int) * 69621 + 5) % 2147483647 ∧ (c * 48271 + j * 1009 + (k : Int) * 69621 + 5) % 2147483647 < 2 ^ 64 := by
    generalize c * 48271 + j * 1009 + (k : Int) * 69621 + 5 = q
    omega
  generalize hG : g ++ [Ob.lst (row.map D.int)] = G
  have e1 : mAsg (mOp fMod (mUnA fInt (mCons (mOp vPlus (mOp vPlus (mOp vPlus (mOp fMul (mV 3) (mC (.int 48271))) (mOp fMul (mV 1) (mC (.int 1009)))) (mOp fMul (mV 6) (mC (.int 69621)))) (mC (.int 5))) mNil)) (mC (.int 2147483647))) (gN 7) [some x0, some (.int j), some (.plst (szs.map D.int)), some (.int c), some (.bl gr), some (.ref g.length), some (.int (k : Int)), x7] G = .nx [some x0, some (.int j), some (.plst (szs.map D.int)), some (.int c), some (.bl gr), some (.ref g.length), some (.int (k : Int)), some (.int ((c * 48271 + j * 1009 + (k : Int) * 69621 + 5) % 2147483647))] G :=
    asg_ok (ev2 (evInt (ev2 (ev2 (ev2 (ev2 (ev_v rfl) ev_c (mulI _ _ (cc _ (by decide) _))) (ev2 (ev_v rfl) ev_c (mulI _ _ (cc _ (by decide) _))) (plusI_v _ _)) (ev2 (ev_v rfl) ev_c (mulI _ _ (cc _ (by decide) _))) (plusI_v _ _)) ev_c (plusI_v _ _))) ev_c (modI _ _ (by decide)))
  generalize (c * 48271 + j * 1009 + (k : Int) * 69621 + 5) % 2147483647 = m1 at e1 hm
  have e2 : mAsg (mOp fDiv (mOp fMod (mUnA fInt (mCons (mOp vPlus (mOp vPlus (mOp fMul (mV 7) (mV 7)) (mV 3)) (mOp fMul (mV 6) (mC (.int 7919)))) mNil)) (mC (.int 2147483629))) (mC (.int 7))) (gN 7) [some x0, some (.int j), some (.plst (szs.map D.int)), some (.int c), some (.bl gr), some (.ref g.length), some (.int (k : Int)), some (.int m1)] G = .nx [some x0, some (.int j), some (.plst (szs.map D.int)), some (.int c), some (.bl gr), some (.ref g.length), some (.int (k : Int)), some (.int ((m1 * m1 + c + (k : Int) * 7919) % 2147483629 / 7))] G :=
    asg_ok (ev2 (ev2 (evInt (ev2 (ev2 (ev2 (ev_v rfl) (ev_v rfl) (mulI _ _ (.inl hm))) (ev_v rfl) (plusI_v _ _)) (ev2 (ev_v rfl) ev_c (mulI _ _ (cc _ (by decide) _))) (plusI_v _ _))) ev_c (modI _ _ (by decide))) ev_c (divI _ _ (by decide) (by decide)))
  generalize (m1 * m1 + c + (k : Int) * 7919) % 2147483629 / 7 = m2 at e2
  have hap : ∀ (c' m' : Int), mDrop (vBM .lst fApp (mV 5) (mCons (mOp fMod (mUnA fInt (mCons (mV 7) mNil)) (mOp vSubs (mV 2) (mV 6))) mNil)) [some x0, some (.int j), some (.plst (szs.map D.int)), some (.int c'), some (.bl gr), some (.ref g.length), some (.int (k : Int)), some (.int m')] G = .nx [some x0, some (.int j), some (.plst (szs.map D.int)), some (.int c'), some (.bl gr), some (.ref g.length), some (.int (k : Int)), some (.int m')] (g ++ [.lst ((row ++ [m' % sz]).map D.int)]) := fun c' m' => by
    subst hG
    have ap := app_at (g := g ++ [.lst (row.map D.int)]) (n := g.length) (d := .int (m' % sz)) end_get (by rw [List.length_map]; omega)
    rw [set_last6] at ap
    rw [List.map_append]
    exact drop_ok (vbm_ok (ev_v rfl) (vty_ls (vls_ref end_get)) (cons_ok (ev2 (evInt (ev_v rfl)) (sb _ _ rfl rfl) (modI _ _ hp0)) nil_ok) ap)
  cases gr with
  | true => exact ⟨_, _, _, seq_go e1 (seq_go e2 (seq_go (if_tr (tst (ev_v rfl)) (seq_go (asg_ok (i := 7) (ev_v rfl)) (asg_ok (i := 3) (ev2 (ev_v rfl) (sb _ _ rfl rfl) (divI _ _ hp0 hp1))))) (hap _ _)))⟩
  | false => exact ⟨_, _, _, seq_go e1 (seq_go e2 (seq_go (if_n2 (tst (ev_v rfl))) (hap _ _)))⟩
theorem vdig6 (hw : GW g) (hl : szs.length ≤ 64) (hp : ∀ x ∈ szs, 0 < x ∧ x ≤ 1000) (j : Nat) :
    ∃ row : List Int, v_l_digits [.kl (ns.map D.int), .int (j : Int), .plst (szs.map D.int)] g = .ok (.plst (row.map D.int)) g ∧ row.length = szs.length ∧ ∀ (i : Nat) (sz : Int), szs[i]? = some sz → ∃ r : Int, row[i]? = some r ∧ 0 ≤ r ∧ r < sz := by
  have st : ∃ c : Int, ∀ r : SR, (mSeq (mAsg (mOp fGe (mV 3) (mOp fPow (mC (.int 10)) (mC (.int 18)))) (gN 4)) (mSeq (mAsg (mUnA fLst mNil) (gN 5)) (mSeq (mFor (mRange1 (mUnA vLen (mCons (mV 2) mNil))) (gN 6) wdig6B) (mRet (mV 5))))) [some (.kl (ns.map D.int)), some (.int (j : Int)), some (.plst (szs.map D.int)), some (.int c), none, none, none, none] g = r → w_l_digits [some (.kl (ns.map D.int)), some (.int (j : Int)), some (.plst (szs.map D.int)), none, none, none, none, none] g = r := by
    have ln : mTest (mOp fLt (mV 1) (mUnA vLen (mCons (mV 0) mNil))) [some (.kl (ns.map D.int)), some (.int (j : Int)), some (.plst (szs.map D.int)), some (.int 0), none, none, none, none] g = .ok (decide ((j : Int) < ((ns.length : Nat) : Int))) g := tst (ev2 (ev_v rfl) (una_ok (cons_ok (ev_v rfl) nil_ok) (len_vl rfl)) (by rw [List.length_map]; exact ltI _ _))
    by_cases c : (j : Int) < ((ns.length : Nat) : Int)
    · rw [decide_eq_true c] at ln
      have hj : j < ns.length := by omega
      exact ⟨ns[j], fun r h => seq_go (asg_ok (i := 3) ev_c) (seq_go (if_tr ln (asg_ok (i := 3) (ev2 (ev_v rfl) (ev_v rfl) (subs_vl rfl (atI_n (by rw [List.getElem?_map, List.getElem?_eq_getElem hj]; rfl)))))) h)⟩
    · rw [decide_eq_false c] at ln
      exact ⟨0, fun r h => seq_go (asg_ok (i := 3) ev_c) (seq_go (if_n2 ln) h)⟩
  obtain ⟨c, st⟩ := st
  have h2 : mAsg (mOp fGe (mV 3) (mOp fPow (mC (.int 10)) (mC (.int 18)))) (gN 4) [some (.kl (ns.map D.int)), some (.int (j : Int)), some (.plst (szs.map D.int)), some (.int c), none, none, none, none] g = .nx [some (.kl (ns.map D.int)), some (.int (j : Int)), some (.plst (szs.map D.int)), some (.int c), some (.bl (decide ((10 : Int) ^ (18 : Int).toNat ≤ c))), none, none, none] g := asg_ok (ev2 (ev_v rfl) (ev2 ev_c ev_c (powI _ _ (by decide) (by decide) (by decide))) (geI _ _))
  generalize decide ((10 : Int) ^ (18 : Int).toNat ≤ c) = gr at h2
  obtain ⟨τ', g', lp, row, c', x6, x7, rfl, rfl, l1, l2⟩ := loop_all (mi := mRange1 (mUnA vLen (mCons (mV 2) mNil))) (mg := gN 6) (mb := wdig6B) (τ := [some (.kl (ns.map D.int)), some (.int (j : Int)), some (.plst (szs.map D.int)), some (.int c), some (.bl gr), some (.ref g.length), none, none]) (g := g ++ [.lst []])
    (rng 0 szs.length) (fun i τ G => ∃ (row : List Int) (c' : Int) (x6 x7 : Option D), τ = [some (.kl (ns.map D.int)), some (.int (j : Int)), some (.plst (szs.map D.int)), some (.int c'), some (.bl gr), some (.ref g.length), x6, x7] ∧ G = g ++ [.lst (row.map D.int)] ∧ row.length = i ∧ ∀ (t : Nat) (sz : Int), t < i → szs[t]? = some sz → ∃ r : Int, row[t]? = some r ∧ 0 ≤ r ∧ r < sz)
    (range1_ok (una_ok (cons_ok (ev_v rfl) nil_ok) (by rw [len_vl (l := szs.map D.int) rfl, List.length_map]; rfl)) (by omega)) (fun _ _ _ _ => trivial) ⟨[], c, none, none, rfl, rfl, rfl, fun t sz h => (by omega)⟩ (by
      rintro i d τ G hd ⟨row, c', x6, x7, rfl, rfl, l1, l2⟩
      obtain ⟨hi, rfl⟩ := rng_get hd
      rw [Int.zero_add]
      have hz : szs[i]? = some szs[i] := List.getElem?_eq_getElem hi
      have hsz := hp _ (List.mem_of_getElem? hz)
      obtain ⟨c2, x72, z, e⟩ := vdig6_body (g := g) (x0 := .kl (ns.map D.int)) (j := (j : Int)) (c := c') (row := row) (gr := gr) (x7 := x7) hz (by omega) hsz.1 (by omega) (by omega)
      refine ⟨_, _, rfl, body_nx e ⟨row ++ [z % szs[i]], c2, _, x72, rfl, rfl, by rw [List.length_append, l1]; rfl, fun t sz ht hs => ?_⟩⟩
      by_cases q : t < i
      · obtain ⟨r, h1, h2⟩ := l2 t sz q hs
        exact ⟨r, by rw [List.getElem?_append_left (by omega)]; exact h1, h2⟩
      · have : t = i := by omega
        subst this
        rw [hz] at hs
        cases hs
        refine ⟨z % szs[t], ?_, Int.emod_nonneg _ (by omega), Int.emod_lt_of_pos _ hsz.1⟩
        rw [List.getElem?_append_right (by omega), l1, Nat.sub_self]
        rfl)
  refine ⟨row, ?_, by rw [l1]; simp [rng], fun i sz h => l2 i sz (by have := (List.getElem?_eq_some_iff.mp h).1; simpa [rng] using this) h⟩
  unfold v_l_digits
  have main : runF 8 w_l_digits [.kl (ns.map D.int), .int (j : Int), .plst (szs.map D.int)] g = .ok (.ref g.length) (g ++ [.lst (row.map D.int)]) := run_rt (st _ (seq_go h2 (seq_go (asg_ok (una_ok nil_ok (lst_ok (by simp)))) (seq_go lp (ret_ok (ev_v rfl))))))
  have fl : ∀ l : List Int, D.fls (l.map D.int) = true := fun l => wts_fl fun d hd => by
    obtain ⟨i, _, rfl⟩ := List.mem_map.mp hd
    rfl
  exact zF_ok hw main (fzD_lst end_get (Nat.le_refl _) (fls_los (fl _))) (fls_los (N := g.length) (v := row.map D.int) (fl _))
theorem vname6 (a b : Int) : v_l_name [.int a, .int b] g = .ok (.str (nameF a b)) g := by
  have p1 : mAsg (mOp vPlus (mV 2) (mUnA vLst (mCons (mC (.str "rr")) (mCons (mC (.str "s")) (mCons (mC (.str "tin")) (mCons (mC (.str "0")) (mCons (mC (.str "v")) (mCons (mC (.str "wax")) (mCons (mC (.str "abcdefghijkl")) (mCons (mC (.str "yes")) (mCons (mC (.str "z0o")) mNil))))))))))) (gN 2) [some (.int a), some (.int b), some (.plst ((poolL.take 17).map D.str))] g = .nx [some (.int a), some (.int b), some (.plst (poolL.map D.str))] g := rfl
  have c7 : (-(2 ^ 64) < (7 : Int) ∧ (7 : Int) < 2 ^ 64) ∨ (-(2 ^ 64) < b ∧ b < 2 ^ 64) := .inl (by decide)
  exact run_rt (seq_go (asg_ok (i := 2) (d := .plst ((poolL.take 17).map D.str)) rfl) (seq_go p1 (ret_ok (ev2 (ev_v rfl) (ev2 (evInt (ev2 (ev_v rfl) (ev2 ev_c (ev_v rfl) (mulI _ _ c7)) (plusI_v _ _))) ev_c (modI _ _ (by decide))) (subs_vl rfl (nameF_at a b))))))
end
end My.V
namespace My.V
open PySem L2 RL
def W7 : List Str := ["own", "nested", "around", "below", "heir", "package", "any"]
def menu6 : List (List (List Str)) := [[["nested"], ["around"]], [["package"]], [["package"], ["below"]], [["any"]], [["below"]], [["package", "below"]], [["heir"]], [["own"]], [["heir", "package"]], [["heir"], ["package"]]]
def txt6 : List Str := ["own nested around below heir package any", "nested below heir package any", "around package any", "below heir package any", "below heir any", "heir package any", "heir any", "package any", "any"]
def LS (ws : List Str) : Ob := .lst (ws.map D.str)
def refs6 (b n : Nat) : List D := (List.range n).map fun t => D.ref (b + 1 + t)
def PG (g : G) (ps : List (List Str)) : G := g ++ (.lst (refs6 g.length ps.length) :: ps.map LS)
theorem mrs_refs (h : Nat → D) (f : Nat → Nat) : ∀ l : List Nat, D.mrs h (l.map fun t => D.ref (f t)) = l.map fun t => h (f t)
  | [] => rfl
  | a :: l => by
    show D.mr h (.ref (f a)) :: D.mrs h (l.map fun t => D.ref (f t)) = _
    rw [mrs_refs h f l]
    rfl
section
variable {g : G} {ns : List Int} {ps : List (List Str)} {ws : List Str}
theorem pg_len : (PG g ps).length = g.length + 1 + ps.length := by
  unfold PG
  rw [List.length_append, List.length_cons, List.length_map]
  omega
theorem pg_head : (PG g ps)[g.length]? = some (.lst (refs6 g.length ps.length)) := by
  unfold PG
  rw [List.getElem?_append_right (Nat.le_refl _), Nat.sub_self]
  rfl
theorem pg_head2 {l : G} : (PG g ps ++ l)[g.length]? = some (.lst (refs6 g.length ps.length)) := by
  rw [List.getElem?_append_left (by rw [pg_len]; omega)]
  exact pg_head
theorem pg_snoc : (PG g ps ++ [LS ws]).set g.length (.lst (refs6 g.length ps.length ++ [.ref (PG g ps).length])) = PG g (ps ++ [ws]) := by
  rw [pg_len]
  unfold PG
  rw [List.append_assoc, List.set_append_right _ _ (Nat.le_refl _), Nat.sub_self]
  have : refs6 g.length ps.length ++ [D.ref (g.length + 1 + ps.length)] = refs6 g.length (ps ++ [ws]).length := by
    unfold refs6
    rw [List.length_append, List.length_singleton, List.range_succ, List.map_append]
    rfl
  rw [this, List.map_append]
  rfl
theorem pg_fz : fzD (PG g ps) g.length (.ref g.length) = prodV ps := by
  unfold fzD
  show fzR (PG g ps) g.length 5 g.length = _
  unfold fzR
  rw [if_neg (by omega), pg_head]
  dsimp only
  unfold refs6 prodV
  rw [mrs_refs]
  refine congrArg D.plst (List.ext_getElem (by simp) fun i h1 h2 => ?_)
  rw [List.getElem_map, List.getElem_map, List.getElem_range]
  have hi : i < ps.length := by simpa using h2
  have e : (PG g ps)[g.length + 1 + i]? = some (LS ps[i]) := by
    unfold PG
    rw [List.getElem?_append_right (by omega), show g.length + 1 + i - g.length = i + 1 by omega, List.getElem?_cons_succ, List.getElem?_map, List.getElem?_eq_getElem hi]
    rfl
  unfold fzR
  rw [if_neg (by omega), e]
  show D.plst (D.mrs _ (ps[i].map D.str)) = _
  rw [mrs_lo (fun _ h => fzR_low h) (fls_los (strs_fl _))]
theorem prodV_lo {N : Nat} (p : List (List Str)) : (prodV p).lo N = true := by
  show D.los N (p.map fun ws => .plst (ws.map D.str)) = true
  induction p with
  | nil => rfl
  | cons a p ih =>
    show (D.los N (a.map D.str) && D.los N (p.map fun ws => .plst (ws.map D.str))) = true
    rw [fls_los (strs_fl a), ih]
    rfl
theorem vstances6 : v_l_stances [] g = .ok (.plst (STN.map stD)) g := by
  have e1 : mAsg (mUnA vLst (mCons (mC (.str "own nested around below heir package any")) (mCons (mC (.str "nested below heir package any")) (mCons (mC (.str "around package any")) mNil)))) (gN 0) [none, none] g = .nx [some (.plst ((txt6.take 3).map D.str)), none] g := rfl
  have e2 : mAsg (mOp vPlus (mV 0) (mUnA vLst (mCons (mC (.str "below heir package any")) (mCons (mC (.str "below heir any")) (mCons (mC (.str "heir package any")) (mCons (mC (.str "heir any")) (mCons (mC (.str "package any")) (mCons (mC (.str "any")) mNil)))))))) (gN 0) [some (.plst ((txt6.take 3).map D.str)), none] g = .nx [some (.plst (txt6.map D.str)), none] g := rfl
  have h1 : ∀ x ∈ txt6, x.length ≤ 1000 := by decide
  have h3 : ∀ x ∈ txt6, (Txt.split x (" " : Str)).all sOk = true := by decide +kernel
  have h4 : txt6.map (fun x => Txt.split x (" " : Str)) = STN := by decide +kernel
  have q := vlc_w (own := [("_law_text", 1)].map (·.2)) (mi := vSeqI (mV 0)) (t := .one 1) (mt := mYes) (me := mUnA vTuple (mCons (vBM .str vSplit (mV 1) (mCons (mC (.str " ")) mNil)) mNil)) (τ := [some (.plst (txt6.map D.str)), none]) (s := g) (c := none) D.str txt6 (fun _ => true) (fun x => stD (Txt.split x (" " : Str))) (vseq_p (ev_v rfl)) trivial
    (fun x hx => ⟨_, rfl, rfl, fun _ => una_ok (cons_ok (vbm_ok (ev_v rfl) rfl (cons_ok ev_c nil_ok) (vsplit_ok (h1 x hx) rfl (h3 x hx))) nil_ok) (tuple_vl rfl)⟩) (by decide)
  rw [List.filter_eq_self.mpr (fun _ _ => rfl)] at q
  have e3 : txt6.map (fun x => stD (Txt.split x (" " : Str))) = STN.map stD := by
    rw [← h4, List.map_map]
    rfl
  rw [e3] at q
  exact run_rt (seq_go e1 (seq_go e2 (ret_ok q)))
def prodB6 : MS := (mSeq (mAsg (mUnA fLst (mCons (mOp vSubs (mV 4) (mOp vSubs (mV 3) (mOp vPlus (mC (.int 3)) (mOp fMul (mC (.int 3)) (mV 6))))) mNil)) (gN 7))
  (mSeq (mIfS (mTest (mOp vEq (mOp vSubs (mV 3) (mOp vPlus (mC (.int 5)) (mOp fMul (mC (.int 3)) (mV 6)))) (mC (.int 1)))) (mDrop (vBM .lst fApp (mV 7) (mCons (mOp vSubs (mV 4) (mOp vSubs (mV 3) (mOp vPlus (mC (.int 4)) (mOp fMul (mC (.int 3)) (mV 6))))) mNil))) mNext)
  (mDrop (vBM .lst fApp (mV 5) (mCons (mV 7) mNil)))))
theorem prod6_body {x0 x1 x2 : D} {row : List Int} {i : Nat} {x7 : Option D} (h3 : ∃ r, row[3 + 3 * i]? = some r ∧ 0 ≤ r ∧ r < 7) (h4 : ∃ r, row[4 + 3 * i]? = some r ∧ 0 ≤ r ∧ r < 7) (h5 : ∃ r, row[5 + 3 * i]? = some r) (hi : i ≤ 1000) (hp : ps.length ≤ 1000) :
    ∃ ws x7', ws.length ≤ 2 ∧ prodB6 [some x0, some x1, some x2, some (.plst (row.map D.int)), some (.plst (W7.map D.str)), some (.ref g.length), some (.int (i : Int)), x7] (PG g ps) = .nx [some x0, some x1, some x2, some (.plst (row.map D.int)), some (.plst (W7.map D.str)), some (.ref g.length), some (.int (i : Int)), x7'] (PG g (ps ++ [ws])) := by
  obtain ⟨r3, e3, a3, b3⟩ := h3
  obtain ⟨r4, e4, a4, b4⟩ := h4
  obtain ⟨r5, e5⟩ := h5
  have wd : ∀ r : Int, 0 ≤ r → r < 7 → ∃ w, L2.atI (W7.map D.str) r = some (.str w) := fun r a b => by
    obtain ⟨n, rfl⟩ := Int.eq_ofNat_of_zero_le a
    have hn : n < W7.length := by show n < 7; omega
    exact ⟨W7[n], atI_n (by rw [List.getElem?_map, List.getElem?_eq_getElem hn]; rfl)⟩
  obtain ⟨w3, f3⟩ := wd r3 a3 b3
  obtain ⟨w4, f4⟩ := wd r4 a4 b4
  have ix : ∀ (k : Nat) (r : Int) (τ : RL.T) (G : RL.G), row[k + 3 * i]? = some r → τ[3]? = some (some (.plst (row.map D.int))) → τ[6]? = some (some (.int (i : Int))) → mOp vSubs (mV 3) (mOp vPlus (mC (.int (k : Int))) (mOp fMul (mC (.int 3)) (mV 6))) τ G = .ok (.int r) G := fun k r τ G h t3 t6 => by
    refine ev2 (ev_v t3) (ev2 ev_c (ev2 ev_c (ev_v t6) (mulI _ _ (.inl (by decide)))) (plusI_v _ _)) (subs_vl rfl ?_)
    have e : (k : Int) + 3 * (i : Int) = ((k + 3 * i : Nat) : Int) := by omega
    rw [e]
    exact atI_n (by rw [List.getElem?_map, h]; rfl)
  have s1 : mAsg (mUnA fLst (mCons (mOp vSubs (mV 4) (mOp vSubs (mV 3) (mOp vPlus (mC (.int 3)) (mOp fMul (mC (.int 3)) (mV 6))))) mNil)) (gN 7) [some x0, some x1, some x2, some (.plst (row.map D.int)), some (.plst (W7.map D.str)), some (.ref g.length), some (.int (i : Int)), x7] (PG g ps) = .nx [some x0, some x1, some x2, some (.plst (row.map D.int)), some (.plst (W7.map D.str)), some (.ref g.length), some (.int (i : Int)), some (.ref (PG g ps).length)] (PG g ps ++ [LS [w3]]) :=
    asg_ok (una_ok (cons_ok (ev2 (ev_v rfl) (ix 3 r3 _ _ e3 rfl rfl) (subs_vl rfl f3)) nil_ok) (lst_ok (by simp)))
  have t : ∀ (G : RL.G), mTest (mOp vEq (mOp vSubs (mV 3) (mOp vPlus (mC (.int 5)) (mOp fMul (mC (.int 3)) (mV 6)))) (mC (.int 1))) [some x0, some x1, some x2, some (.plst (row.map D.int)), some (.plst (W7.map D.str)), some (.ref g.length), some (.int (i : Int)), some (.ref (PG g ps).length)] G = .ok (decide (r5 = 1)) G := fun G => tst (ev2 (ix 5 r5 _ _ e5 rfl rfl) ev_c (eqI_v _ _))
  have rl : (refs6 g.length ps.length).length ≤ 100000 := by
    unfold refs6
    rw [List.length_map, List.length_range]
    omega
  have s3 : ∀ ws, mDrop (vBM .lst fApp (mV 5) (mCons (mV 7) mNil)) [some x0, some x1, some x2, some (.plst (row.map D.int)), some (.plst (W7.map D.str)), some (.ref g.length), some (.int (i : Int)), some (.ref (PG g ps).length)] (PG g ps ++ [LS ws]) = .nx [some x0, some x1, some x2, some (.plst (row.map D.int)), some (.plst (W7.map D.str)), some (.ref g.length), some (.int (i : Int)), some (.ref (PG g ps).length)] (PG g (ps ++ [ws])) := fun ws => by
    have ap := app_at (g := PG g ps ++ [LS ws]) (n := g.length) (d := .ref (PG g ps).length) pg_head2 rl
    rw [pg_snoc] at ap
    exact drop_ok (vbm_ok (ev_v rfl) (vty_ls (vls_ref pg_head2)) (cons_ok (ev_v rfl) nil_ok) ap)
  unfold prodB6
  by_cases c : r5 = 1
  · have t' := t (PG g ps ++ [LS [w3]])
    rw [decide_eq_true c] at t'
    have ap := app_at (g := PG g ps ++ [LS [w3]]) (n := (PG g ps).length) (l := [.str w3]) (d := .str w4) end_get (by simp)
    rw [set_last6] at ap
    have s2 := drop_ok (τ := [some x0, some x1, some x2, some (.plst (row.map D.int)), some (.plst (W7.map D.str)), some (.ref g.length), some (.int (i : Int)), some (.ref (PG g ps).length)]) (vbm_ok (t := .lst) (f := fApp) (o := mV 7) (a := mCons (mOp vSubs (mV 4) (mOp vSubs (mV 3) (mOp vPlus (mC (.int 4)) (mOp fMul (mC (.int 3)) (mV 6))))) mNil) (ev_v rfl) (vty_ls (vls_ref (l := [.str w3]) end_get)) (cons_ok (ev2 (ev_v rfl) (ix 4 r4 _ _ e4 rfl rfl) (subs_vl rfl f4)) nil_ok) ap)
    exact ⟨[w3, w4], _, by simp, seq_go s1 (seq_go (if_tr t' s2) (s3 [w3, w4]))⟩
  · have t' := t (PG g ps ++ [LS [w3]])
    rw [decide_eq_false c] at t'
    exact ⟨[w3], _, by simp, seq_go s1 (seq_go (if_n2 t') (s3 [w3]))⟩
theorem po6 : ∀ p ∈ menu6, p.length ≤ 10 ∧ ∀ ws ∈ p, ws.length ≤ 2 := by decide
theorem vprod6 (hw : GW g) (j : Nat) : ∃ p, v_l_products [.kl (ns.map D.int), .int (j : Int)] g = .ok (prodV p) g ∧ PO p := by
  have i1 : mAsg (mUnA vLst (mCons (mUnA vLst (mCons (mUnA vLst (mCons (mC (.str "nested")) mNil)) (mCons (mUnA vLst (mCons (mC (.str "around")) mNil)) mNil))) (mCons (mUnA vLst (mCons (mUnA vLst (mCons (mC (.str "package")) mNil)) mNil)) (mCons (mUnA vLst (mCons (mUnA vLst (mCons (mC (.str "package")) mNil)) (mCons (mUnA vLst (mCons (mC (.str "below")) mNil)) mNil))) (mCons (mUnA vLst (mCons (mUnA vLst (mCons (mC (.str "any")) mNil)) mNil)) (mCons (mUnA vLst (mCons (mUnA vLst (mCons (mC (.str "below")) mNil)) mNil)) mNil)))))) (gN 2) [some (.kl (ns.map D.int)), some (.int (j : Int)), none, none, none, none, none, none] g = .nx [some (.kl (ns.map D.int)), some (.int (j : Int)), some (.plst ((menu6.take 5).map prodV)), none, none, none, none, none] g := rfl
  have i2 : mAsg (mOp vPlus (mV 2) (mUnA vLst (mCons (mUnA vLst (mCons (mUnA vLst (mCons (mC (.str "package")) (mCons (mC (.str "below")) mNil))) mNil)) (mCons (mUnA vLst (mCons (mUnA vLst (mCons (mC (.str "heir")) mNil)) mNil)) (mCons (mUnA vLst (mCons (mUnA vLst (mCons (mC (.str "own")) mNil)) mNil)) (mCons (mUnA vLst (mCons (mUnA vLst (mCons (mC (.str "heir")) (mCons (mC (.str "package")) mNil))) mNil)) (mCons (mUnA vLst (mCons (mUnA vLst (mCons (mC (.str "heir")) mNil)) (mCons (mUnA vLst (mCons (mC (.str "package")) mNil)) mNil))) mNil))))))) (gN 2) [some (.kl (ns.map D.int)), some (.int (j : Int)), some (.plst ((menu6.take 5).map prodV)), none, none, none, none, none] g = .nx [some (.kl (ns.map D.int)), some (.int (j : Int)), some (.plst (menu6.map prodV)), none, none, none, none, none] g := rfl
  obtain ⟨row, e, l0, l1⟩ := vdig6 (ns := ns) (szs := [2, 10, 4, 7, 7, 2, 7, 7, 2, 7, 7, 2]) hw (by simp) (by decide) j
  have i3 := asg_ok (i := 3) (una_ok (τ := [some (.kl (ns.map D.int)), some (.int (j : Int)), some (.plst (menu6.map prodV)), none, none, none, none, none]) (a := mCons (mV 0) (mCons (mV 1) (mCons (mUnA vLst (mCons (mC (.int 2)) (mCons (mC (.int 10)) (mCons (mC (.int 4)) (mCons (mC (.int 7)) (mCons (mC (.int 7)) (mCons (mC (.int 2)) (mCons (mC (.int 7)) (mCons (mC (.int 7)) (mCons (mC (.int 2)) (mCons (mC (.int 7)) (mCons (mC (.int 7)) (mCons (mC (.int 2)) mNil))))))))))))) mNil))) (cons_ok (ev_v rfl) (cons_ok (ev_v rfl) (cons_ok rfl nil_ok))) (call_v (n := 3) (es := []) rfl e))
  obtain ⟨r0, q0, a0, b0⟩ := l1 0 2 rfl
  obtain ⟨r1, q1, a1, b1⟩ := l1 1 10 rfl
  obtain ⟨r2, q2, a2, b2⟩ := l1 2 4 rfl
  have at_ : ∀ (k : Nat) (r : Int), row[k]? = some r → L2.atI (row.map D.int) ((k : Nat) : Int) = some (.int r) := fun k r h => atI_n (by rw [List.getElem?_map, h]; rfl)
  have t0 : mTest (mOp vEq (mOp vSubs (mV 3) (mC (.int 0))) (mC (.int 0))) [some (.kl (ns.map D.int)), some (.int (j : Int)), some (.plst (menu6.map prodV)), some (.plst (row.map D.int)), none, none, none, none] g = .ok (decide (r0 = 0)) g := tst (ev2 (ev2 (ev_v rfl) ev_c (subs_vl rfl (at_ 0 r0 q0))) ev_c (eqI_v _ _))
  unfold v_l_products
  by_cases c : r0 = 0
  · rw [decide_eq_true c] at t0
    obtain ⟨n, rfl⟩ := Int.eq_ofNat_of_zero_le a1
    have hn : n < menu6.length := by show n < 10; omega
    have hm := po6 _ (List.getElem_mem hn)
    have main : runF 8 w_l_products [.kl (ns.map D.int), .int (j : Int)] g = .ok (prodV menu6[n]) g := run_rt (seq_go i1 (seq_go i2 (seq_go i3 (seq_rt (if_tr t0 (ret_ok (ev2 (ev_v rfl) (ev2 (ev_v rfl) ev_c (subs_vl rfl (at_ 1 _ q1))) (subs_vl rfl (atI_n (by rw [List.getElem?_map, List.getElem?_eq_getElem hn]; rfl))))))))))
    have lo : (prodV menu6[n]).lo g.length = true := prodV_lo _
    exact ⟨_, zF_same hw main lo, ⟨by omega, fun ws h => by have := hm.2 ws h; omega⟩⟩
  · rw [decide_eq_false c] at t0
    obtain ⟨m, rfl⟩ := Int.eq_ofNat_of_zero_le a2
    have i4 : mAsg (mUnA (fCall 0 [] v_l_words) mNil) (gN 4) [some (.kl (ns.map D.int)), some (.int (j : Int)), some (.plst (menu6.map prodV)), some (.plst (row.map D.int)), none, none, none, none] g = .nx [some (.kl (ns.map D.int)), some (.int (j : Int)), some (.plst (menu6.map prodV)), some (.plst (row.map D.int)), some (.plst (W7.map D.str)), none, none, none] g := rfl
    have i5 : mAsg (mUnA fLst mNil) (gN 5) [some (.kl (ns.map D.int)), some (.int (j : Int)), some (.plst (menu6.map prodV)), some (.plst (row.map D.int)), some (.plst (W7.map D.str)), none, none, none] g = .nx [some (.kl (ns.map D.int)), some (.int (j : Int)), some (.plst (menu6.map prodV)), some (.plst (row.map D.int)), some (.plst (W7.map D.str)), some (.ref g.length), none, none] (PG g []) := asg_ok (una_ok nil_ok (lst_ok (by simp)))
    obtain ⟨τ', g', lp, ps, x6, x7, rfl, rfl, z1, z2⟩ := loop_all (mi := mRange1 (mOp vSubs (mV 3) (mC (.int 2)))) (mg := gN 6) (mb := prodB6) (τ := [some (.kl (ns.map D.int)), some (.int (j : Int)), some (.plst (menu6.map prodV)), some (.plst (row.map D.int)), some (.plst (W7.map D.str)), some (.ref g.length), none, none]) (g := PG g [])
      (rng 0 m) (fun i τ G => ∃ (ps : List (List Str)) (x6 x7 : Option D), τ = [some (.kl (ns.map D.int)), some (.int (j : Int)), some (.plst (menu6.map prodV)), some (.plst (row.map D.int)), some (.plst (W7.map D.str)), some (.ref g.length), x6, x7] ∧ G = PG g ps ∧ ps.length = i ∧ ∀ ws ∈ ps, ws.length ≤ 2) (range1_ok (ev2 (ev_v rfl) ev_c (subs_vl rfl (at_ 2 _ q2))) (by omega)) (fun _ _ _ _ => trivial) ⟨[], none, none, rfl, rfl, rfl, fun _ h => (nomatch h)⟩ (by
        rintro i d τ G hd ⟨ps, x6, x7, rfl, rfl, z1, z2⟩
        obtain ⟨hi, rfl⟩ := rng_get hd
        rw [Int.zero_add]
        have h357 : ([2, 10, 4, 7, 7, 2, 7, 7, 2, 7, 7, 2] : List Int)[3 + 3 * i]? = some 7 ∧ ([2, 10, 4, 7, 7, 2, 7, 7, 2, 7, 7, 2] : List Int)[4 + 3 * i]? = some 7 ∧ ([2, 10, 4, 7, 7, 2, 7, 7, 2, 7, 7, 2] : List Int)[5 + 3 * i]? = some 2 := by
          have : i = 0 ∨ i = 1 ∨ i = 2 := by omega
          rcases this with rfl | rfl | rfl <;> decide
        obtain ⟨r5, y5, _⟩ := l1 _ _ h357.2.2
        obtain ⟨ws, x7', wl, e⟩ := prod6_body (g := g) (x0 := .kl (ns.map D.int)) (x1 := .int (j : Int)) (x2 := .plst (menu6.map prodV)) (x7 := x7) (ps := ps) (l1 _ _ h357.1) (l1 _ _ h357.2.1) ⟨r5, y5⟩ (by omega) (by omega)
        exact ⟨_, _, rfl, body_nx e ⟨ps ++ [ws], _, x7', rfl, rfl, by rw [List.length_append, z1]; rfl, fun w h => by
          rcases List.mem_append.mp h with h | h
          · exact z2 w h
          · rw [List.mem_singleton.mp h]
            exact wl⟩⟩)
    have z1 : ps.length = m := by simpa [rng] using z1
    have main : runF 8 w_l_products [.kl (ns.map D.int), .int (j : Int)] g = .ok (.ref g.length) (PG g ps) := run_rt (seq_go i1 (seq_go i2 (seq_go i3 (seq_go (if_n2 t0) (seq_go i4 (seq_go i5 (seq_go lp (ret_ok (ev_v rfl)))))))))
    have lo : (prodV ps).lo g.length = true := prodV_lo _
    exact ⟨ps, zF_ok hw main pg_fz lo, ⟨by omega, fun ws h => by have := z2 ws h; omega⟩⟩
theorem vholds6 {ws st : List Str} (hl : ws.length ≤ 1000) : v_l_holds [.plst (ws.map D.str), stD st] g = .ok (.bl (ws.all fun w => decide (w ∈ st))) g := by
  have q := vlc_w (own := [("_law_word", 2)].map (·.2)) (mi := vSeqI (mV 0)) (t := .one 2) (mt := mTest (mOp vNot (mV 2) (mV 1))) (me := mV 2) (τ := [some (.plst (ws.map D.str)), some (stD st), none]) (s := g) (c := none) D.str ws (fun w => !decide (w ∈ st)) D.str (vseq_p (ev_v rfl)) trivial
    (fun w _ => ⟨_, rfl, tst (ev2 (ev_v rfl) (ev_v rfl) (notinl_vs (l := st) rfl)), fun _ => ev_v rfl⟩) (by omega)
  have e := ev2 (una_ok (cons_ok q nil_ok) (len_vl rfl)) (ev_c (d := .int 0)) (eqI_v _ _)
  rw [List.length_map, nil_len] at e
  exact run_rt (ret_ok e)
theorem vlet6 (hw : GW g) {p : List (List Str)} (hp : PO p) : v_l_let [prodV p] g = .ok (.plst ((lletF p).map stD)) g := by
  have body : ∀ (S : RL.G) (st : List Str) (x1 x3 : Option D), mTest (mOp fGt (mUnA vLen (mCons (vLc ([("_law_product", 3)].map (·.2)) (vSeqI (mV 0)) (.one 3) (mTest (mUnA (fCall 2 [] v_l_holds) (mCons (mV 3) (mCons (mV 2) mNil)))) (mV 3)) mNil)) (mC (.int 0))) [some (prodV p), x1, some (stD st), x3] S = .ok (p.any fun ws => ws.all fun w => decide (w ∈ st)) S := by
    intro S st x1 x3
    have q : vLc ([("_law_product", 3)].map (·.2)) (vSeqI (mV 0)) (.one 3) (mTest (mUnA (fCall 2 [] v_l_holds) (mCons (mV 3) (mCons (mV 2) mNil)))) (mV 3) [some (prodV p), x1, some (stD st), x3] S = .ok (.plst ((p.filter fun ws => ws.all fun w => decide (w ∈ st)).map fun ws => .plst (ws.map D.str))) S :=
      vlc_w (fun ws : List Str => D.plst (ws.map D.str)) p (fun ws => ws.all fun w => decide (w ∈ st)) (fun ws => .plst (ws.map D.str)) (vseq_p (ev_v rfl)) trivial (fun ws hws => ⟨_, rfl, tst (una_ok (cons_ok (ev_v rfl) (cons_ok (ev_v rfl) nil_ok)) (call_v rfl (vholds6 (hp.w ws hws)))), fun _ => ev_v rfl⟩) (by have := hp.l; omega)
    have := tst (ev2 (una_ok (cons_ok q nil_ok) (len_vl rfl)) (ev_c (d := .int 0)) (gtI (g := S) _ _))
    rw [List.length_map, pos_len] at this
    exact this
  have main : runF 4 w_l_let [prodV p] g = .ok (.ref g.length) (g ++ [.lst ((lletF p).map stD)]) := by
    have s1 : mAsg (mUnA fLst mNil) (gN 1) [some (prodV p), none, none, none] g = .nx [some (prodV p), some (.ref g.length), none, none] (g ++ [.lst []]) := rfl
    obtain ⟨τ', G', l1, ⟨x2, x3, rfl⟩, rfl⟩ := loop_all (mi := vSeqI (mUnA (fCall 0 [] v_l_stances) mNil)) (mg := gN 2) (mb := mIfS (mTest (mOp fGt (mUnA vLen (mCons (vLc ([("_law_product", 3)].map (·.2)) (vSeqI (mV 0)) (.one 3) (mTest (mUnA (fCall 2 [] v_l_holds) (mCons (mV 3) (mCons (mV 2) mNil)))) (mV 3)) mNil)) (mC (.int 0)))) (mDrop (vBM .lst fApp (mV 1) (mCons (mV 2) mNil))) mNext)
      (τ := [some (prodV p), some (.ref g.length), none, none]) (g := g ++ [.lst []]) (STN.map stD) (fun i τ G => (∃ x2 x3, τ = [some (prodV p), some (.ref g.length), x2, x3]) ∧ G = g ++ [.lst (((STN.take i).filter fun st => p.any fun ws => ws.all fun w => decide (w ∈ st)).map stD)]) (vseq_p (una_ok nil_ok (call_v rfl vstances6))) (fun _ _ _ _ => trivial) ⟨⟨_, _, rfl⟩, rfl⟩ (by
        rintro i dd τ G hd ⟨⟨x2, x3, rfl⟩, rfl⟩
        rw [List.getElem?_map] at hd
        obtain ⟨st, hst, rfl⟩ := Option.map_eq_some_iff.mp hd
        refine ⟨_, _, rfl, ?_⟩
        have t := body (g ++ [.lst (((STN.take i).filter fun st => p.any fun ws => ws.all fun w => decide (w ∈ st)).map stD)]) st (some (.ref g.length)) x3
        rw [take_succ hst, List.filter_append, List.map_append]
        cases c : (p.any fun ws => ws.all fun w => decide (w ∈ st)) with
        | false =>
          rw [c] at t
          refine body_nx (if_n2 t) ⟨⟨_, _, rfl⟩, ?_⟩
          rw [List.filter_cons_of_neg (by simp [c])]
          simp
        | true =>
          rw [c] at t
          have hlen : (((STN.take i).filter fun st => p.any fun ws => ws.all fun w => decide (w ∈ st)).map stD).length ≤ 100000 := by
            rw [List.length_map]
            refine Nat.le_trans (List.length_filter_le _ _) ?_
            rw [List.length_take]
            have : STN.length = 9 := rfl
            omega
          have ap := app_at (g := g ++ [.lst (((STN.take i).filter fun st => p.any fun ws => ws.all fun w => decide (w ∈ st)).map stD)]) (n := g.length) (d := stD st) end_get hlen
          rw [set_last6] at ap
          refine body_nx (if_tr t (drop_ok (vbm_ok (ev_v rfl) (vty_ls (vls_ref end_get)) (cons_ok (ev_v rfl) nil_ok) ap))) ⟨⟨_, _, rfl⟩, ?_⟩
          rw [List.filter_cons_of_pos (by simpa using c)]
          rfl)
    rw [List.length_map, List.take_length] at l1
    exact run_rt (seq_go s1 (seq_go l1 (ret_ok (ev_v rfl))))
  unfold v_l_let
  have lo : D.los g.length ((lletF p).map stD) = true := fls_los (stDs_fl _)
  exact zF_ok hw main (fzD_lst end_get (Nat.le_refl _) lo) lo
end
end My.V
namespace My.V
open PySem L2 RL
section
variable {g s : G} {x y : D} {τ : RL.T}
theorem cons_ex6 {e : ME} {a : MA} {z : Exc} {s1 : G} (h : e τ s = .exc z s1) : mCons e a τ s = .exc z s1 := by
  unfold mCons
  rw [h]
  rfl
theorem una_ex6 {f : List D → M D} {a : MA} {z : Exc} {s1 : G} (h : a τ s = .exc z s1) : mUnA f a τ s = .exc z s1 := by
  unfold mUnA
  rw [h]
  rfl
theorem vsame_plst (n : Nat) (l : List D) (hl : l.length ≤ 1000) (h : ∀ d ∈ l, v_l_same n [d, d] s = .ok (.bl true) s) : v_l_same (n + 1) [.plst l, .plst l] s = .ok (.bl true) s := by
  have i1 := fun (T : Ty) (h : T ≠ .non) (i : Nat) (hi : [some (D.plst l), some (D.plst l), none][i]? = some (some (.plst l))) => isi_v (τ := [some (D.plst l), some (D.plst l), none]) (s := s) (T := T) (e := mV i) (ev_v hi) (t := .lst) rfl (by decide) h
  have hlen : ∀ (τ : RL.T) (i : Nat), τ[i]? = some (some (.plst l)) → mUnA vLen (mCons (mV i) mNil) τ s = .ok (.int ((l.length : Nat) : Int)) s := fun τ i h => una_ok (cons_ok (ev_v h) nil_ok) (len_vl rfl)
  have hne : mTest (mOp vNe (mUnA vLen (mCons (mV 0) mNil)) (mUnA vLen (mCons (mV 1) mNil))) [some (.plst l), some (.plst l), none] s = .ok false s := tst (ev2 (hlen _ _ rfl) (hlen _ _ rfl) ((neI_v _ _).trans (by rw [decide_eq_true rfl]; rfl)))
  obtain ⟨_, _, lp, ⟨k, rfl⟩, rfl⟩ := loop_all (mi := mRange1 (mUnA vLen (mCons (mV 1) mNil))) (mg := gN 2) (mb := mIfS (mNotT (mTest (mUnA (fCall 2 [] (v_l_same n)) (mCons (mOp vSubs (mV 0) (mV 2)) (mCons (mOp vSubs (mV 1) (mV 2)) mNil))))) (mRet (mC (.bl false))) mNext) (τ := [some (.plst l), some (.plst l), none]) (g := s) (rng 0 l.length)
    (fun i τ G => (∃ k, τ = [some (.plst l), some (.plst l), k]) ∧ G = s) (range1_ok (hlen _ _ rfl) (by omega)) (fun _ _ _ _ => trivial) ⟨⟨_, rfl⟩, rfl⟩ (by
      rintro i d τ G hd ⟨⟨k, rfl⟩, rfl⟩
      obtain ⟨hi, rfl⟩ := rng_get hd
      rw [Int.zero_add]
      refine ⟨_, _, rfl, ?_⟩
      have hu : l[i]? = some l[i] := List.getElem?_eq_getElem hi
      generalize l[i] = u at hu
      have ix : ∀ j, [some (D.plst l), some (D.plst l), some (.int (i : Int))][j]? = some (some (.plst l)) → mOp vSubs (mV j) (mV 2) [some (D.plst l), some (D.plst l), some (.int (i : Int))] G = .ok u G := fun j hj => ev2 (ev_v hj) (ev_v rfl) (subs_vl rfl (atI_n hu))
      exact body_nx (if_n2 (not_ok (tst (una_ok (cons_ok (ix 0 rfl) (cons_ok (ix 1 rfl) nil_ok)) (call_v rfl (h u (List.mem_of_getElem? hu))))))) ⟨⟨some (.int (i : Int)), rfl⟩, rfl⟩)
  exact run_rt (seq_go (if_n2 (isNT_ne (ev_v rfl) (by simp))) (seq_go (if_n2 (tst (i1 .bl (by decide) 1 rfl))) (seq_go (if_n2 (tst (i1 .int (by decide) 1 rfl))) (seq_go (if_n2 (tst (i1 .str (by decide) 1 rfl)))
    (seq_go (if_n2 (and_f (tst (i1 .tup (by decide) 1 rfl)))) (seq_go (if_n2 (and_t (tst (i1 .lst (by decide) 1 rfl)) (not_ok (tst (i1 .lst (by decide) 0 rfl))))) (seq_go (if_n2 hne) (seq_go lp (ret_ok ev_c)))))))))
theorem vsame_names (n : Nat) (l : List Str) (hl : l.length ≤ 1000) : v_l_same (n + 2) [.plst (l.map D.str), .plst (l.map D.str)] s = .ok (.bl true) s := vsame_plst _ _ (by rw [List.length_map]; exact hl) fun d hd => by
  obtain ⟨x, _, rfl⟩ := List.mem_map.mp hd
  exact vsame_str n x
theorem vsame_rule (n : Nat) (l : List (List Str)) (hl : l.length ≤ 1000) (h : ∀ st ∈ l, st.length ≤ 1000) : v_l_same (n + 3) [.tup (l.map stD), .tup (l.map stD)] s = .ok (.bl true) s := vsame_tup _ _ (by rw [List.length_map]; exact hl) fun d hd => by
  obtain ⟨x, hx, rfl⟩ := List.mem_map.mp hd
  exact vsame_strs n x (h x hx)
theorem lletF_len (p : List (List Str)) : (lletF p).length ≤ 9 := List.length_filter_le _ STN
theorem lletF_mem {p : List (List Str)} {st : List Str} (h : st ∈ lletF p) : st.length ≤ 1000 := by
  have h1 : st ∈ STN := (List.mem_filter.mp h).1
  have : ∀ st ∈ STN, st.length ≤ 1000 := by decide
  exact this st h1
def PR (q : Str × List (List Str)) : Str × D := (q.1, ruleV (ruleF q.2))
def LT (q : Str × List (List Str)) : D := .tup ((lletF q.2).map stD)
variable {prs : List (Str × List (List Str))}
theorem pr_keys : (prs.map PR).map (·.1) = prs.map (·.1) := by
  rw [List.map_map]
  rfl
theorem pr_look (nd : (prs.map (·.1)).Nodup) {i : Nat} {q : Str × List (List Str)} (h : prs[i]? = some q) : (prs.map PR).lookup q.1 = some (ruleV (ruleF q.2)) := by
  induction prs generalizing i with
  | nil => simp at h
  | cons a l ih =>
    rw [List.map_cons] at nd ⊢
    have nd' := List.nodup_cons.mp nd
    cases i with
    | zero =>
      have h : a = q := by simpa using h
      subst h
      show List.lookup a.1 ((a.1, _) :: _) = _
      rw [List.lookup_cons]
      simp [PR]
    | succ i =>
      have h : l[i]? = some q := by simpa using h
      show List.lookup q.1 ((a.1, _) :: _) = _
      rw [List.lookup_cons, beq_eq_false_iff_ne.mpr fun z => nd'.1 (by rw [← z]; exact List.mem_map.mpr ⟨q, List.mem_of_getElem? h, rfl⟩)]
      exact ih nd'.2 h
theorem bk_ob {l : List (Str × D)} : vob s (bookV l) = some (("Book" : Str), ([("_rules", D.pdct (sd l))] : List (Str × D))) := rfl
theorem bk_rules {l : List (Str × D)} {e : ME} (h : e τ s = .ok (bookV l) s) : mUn (vFld cs_Book "_rules") e τ s = .ok (.pdct (sd l)) s := un_ok h (fld_v bk_ob (by simp) rfl)
theorem vlevels6 {l : List (Str × D)} : v_Book_levels [bookV l] s = .ok (.plst ((l.map (·.1)).map D.str)) s := by
  unfold v_Book_levels
  exact run_rt (ret_ok (una_ok (cons_ok (bk_rules (ev_v rfl)) nil_ok) (list_vd (f := D.str) rfl)))
theorem vin6 {l : List (Str × D)} {x : Str} {f : Bool → Bool} : vInI "Book" f v_Book___contains__ (.str x) (bookV l) s = .ok (.bl (f (decide (x ∈ l.map (·.1))))) s := by
  unfold vInI
  have e : v_Book___contains__ [bookV l, .str x] s = .ok (.bl (decide (x ∈ l.map (·.1)))) s := by
    unfold v_Book___contains__
    exact run_rt (ret_ok (ev2 (ev_v rfl) (bk_rules (ev_v rfl)) (in_vs rfl)))
  rw [ck_pos (ins_v bk_ob (by simp)), e]
  rfl
theorem vget6 {l : List (Str × D)} {x : Str} {d : D} (h : l.lookup x = some d) : vIxI "Book" v_Book___getitem__ (bookV l) (.str x) s = .ok d s := by
  unfold vIxI
  have hx : x ∈ l.map (·.1) := by
    have := look_some (l := l) (x := x)
    rw [h] at this
    exact of_decide_eq_true this.symm
  have t := tst (ev2 (τ := [some (bookV l), some (D.str x)]) (a := mV 1) (ev_v rfl) (bk_rules (s := s) (e := mV 0) (ev_v rfl)) (notin_vs (l := l) (k := x) rfl))
  rw [decide_eq_true hx] at t
  have e : v_Book___getitem__ [bookV l, .str x] s = .ok d s := by
    unfold v_Book___getitem__
    exact run_rt (seq_go (if_n2 t) (ret_ok (ev2 (bk_rules (ev_v rfl)) (ev_v rfl) (subs_vs rfl h))))
  rw [ck_pos (ins_v bk_ob (by simp)), e]
theorem vgetX6 {l : List (Str × D)} {x : Str} (h : x ∉ l.map (·.1)) : vIxI "Book" v_Book___getitem__ (bookV l) (.str x) s = .exc ⟨"Unknown", [("row", .non), ("what", .str x)]⟩ s := by
  unfold vIxI
  have t := tst (ev2 (τ := [some (bookV l), some (D.str x)]) (a := mV 1) (ev_v rfl) (bk_rules (s := s) (e := mV 0) (ev_v rfl)) (notin_vs (l := l) (k := x) rfl))
  rw [decide_eq_false h] at t
  have e : v_Book___getitem__ [bookV l, .str x] s = .exc ⟨"Unknown", [("row", .non), ("what", .str x)]⟩ s := by
    unfold v_Book___getitem__
    exact run_ex (seq_ex (if_tr t (raise_ok (cons_ok (ev_v rfl) nil_ok) exc1_str)))
  rw [ck_pos (ins_v bk_ob (by simp)), e]
/-- the suites compare what the error tells -/
theorem suite6 {n i : Nat} {c sp : Str} (h : τ[n]? = some (some (.str sp))) (hn : n ≠ i) : clrR i (mRetX (fun x => mUnA (fCall 2 [] (v_l_same 10)) ((fun x => mCons ((fun x => mUnA fTup ((fun x => mCons ((mXf "row") x) ((fun x => mCons ((mXf "what") x) ((fun _ => mNil) x)) x)) x)) x) ((fun x => mCons ((fun _ => (mUnA fTup (mCons (mC .non) (mCons (mV n) mNil)))) x) ((fun _ => mNil) x)) x)) x)) ⟨c, [("row", .non), ("what", .str sp)]⟩ (τ.set i none) s) = .rt (.bl true) s := by
  have h' : (τ.set i none)[n]? = some (some (.str sp)) := by rw [List.getElem?_set_ne (Ne.symm hn)]; exact h
  have sm : v_l_same 10 [.tup [.non, .str sp], .tup [.non, .str sp]] s = .ok (.bl true) s := vsame_tup 9 _ (by simp) fun d hd => by
    rcases List.mem_cons.mp hd with rfl | hd
    · exact vsame_non 8
    · rw [List.mem_singleton.mp hd]
      exact vsame_str 8 sp
  have e := ret_ok (una_ok (f := fCall 2 [] (v_l_same 10)) (τ := τ.set i none) (g := s) (a := mCons (mUnA fTup (mCons (mXf "row" ⟨c, [("row", .non), ("what", .str sp)]⟩) (mCons (mXf "what" ⟨c, [("row", .non), ("what", .str sp)]⟩) mNil))) (mCons (mUnA fTup (mCons (mC .non) (mCons (mV n) mNil))) mNil)) (cons_ok (una_ok (cons_ok rfl (cons_ok rfl nil_ok)) (tup_ok (by simp))) (cons_ok (una_ok (cons_ok ev_c (cons_ok (ev_v h') nil_ok)) (tup_ok (by simp))) nil_ok)) (call_v rfl sm))
  show clrR i (mRet (mUnA (fCall 2 [] (v_l_same 10)) _) (τ.set i none) s) = _
  rw [e]
  rfl
theorem vtold6 (nd : (prs.map (·.1)).Nodup) (hl : prs.length ≤ 100) {sp : Str} (hs : sp ∉ prs.map (·.1)) : v_l_told [bookV (prs.map PR), .plst ((prs.map (·.1)).map D.str), .plst (prs.map LT), .str sp] s = .ok (.bl true) s := by
  have ln : ((prs.map (·.1)).map D.str).length = prs.length := by rw [List.length_map, List.length_map]
  have t1 : mNotT (mTest (mUnA (fCall 2 [] (v_l_same 10)) (mCons (vProp cs_Book v_Book_levels (mV 0)) (mCons (mV 1) mNil)))) [some (bookV (prs.map PR)), some (.plst ((prs.map (·.1)).map D.str)), some (.plst (prs.map LT)), some (.str sp), none, none, none] s = .ok false s := not_ok (b := true) (tst (una_ok (cons_ok (vprop_ok (ev_v rfl) (ins_v bk_ob (by simp)) vlevels6) (cons_ok (ev_v rfl) nil_ok)) (call_v rfl (by rw [pr_keys]; exact vsame_names 8 _ (by rw [List.length_map]; omega)))))
  have kl : vKLc ([("_law_rank", 6)].map (·.2)) (mUn (vFld cs_Book "_rules") (mV 0)) (.one 6) mYes (mV 6) [some (bookV (prs.map PR)), some (.plst ((prs.map (·.1)).map D.str)), some (.plst (prs.map LT)), some (.str sp), none, none, none] s = .ok (.plst ((prs.map (·.1)).map D.str)) s := by
    unfold vKLc
    rw [bk_rules (ev_v rfl)]
    dsimp only
    have q := vlc_w (own := [("_law_rank", 6)].map (·.2)) (mi := vSeqI (mC (.plst ((prs.map (·.1)).map D.str)))) (t := .one 6) (mt := mYes) (me := mV 6) (τ := [some (bookV (prs.map PR)), some (.plst ((prs.map (·.1)).map D.str)), some (.plst (prs.map LT)), some (.str sp), none, none, none]) (s := s) (c := none) D.str (prs.map (·.1)) (fun _ => true) D.str (vseq_p ev_c) trivial (fun x hx => ⟨_, rfl, rfl, fun _ => ev_v rfl⟩) (by rw [List.length_map]; omega)
    rw [List.filter_eq_self.mpr (fun _ _ => rfl)] at q
    have e : (sd (prs.map PR)).map (·.1) = (prs.map (·.1)).map D.str := by rw [sd_keys, pr_keys]
    rw [e]
    exact q
  have t2 : mNotT (mTest (mUnA (fCall 2 [] (v_l_same 10)) (mCons (vKLc ([("_law_rank", 6)].map (·.2)) (mUn (vFld cs_Book "_rules") (mV 0)) (.one 6) mYes (mV 6)) (mCons (mV 1) mNil)))) [some (bookV (prs.map PR)), some (.plst ((prs.map (·.1)).map D.str)), some (.plst (prs.map LT)), some (.str sp), none, none, none] s = .ok false s := not_ok (b := true) (tst (una_ok (cons_ok kl (cons_ok (ev_v rfl) nil_ok)) (call_v rfl (vsame_names 8 _ (by rw [List.length_map]; omega)))))
  obtain ⟨τ', g', lp, ⟨x4, rfl⟩, rfl⟩ := loop_all (mi := mRange1 (mUnA vLen (mCons (mV 1) mNil))) (mg := gN 4) (mb := mIfS (mOrT (mTest (mOp (vInI "Book" (fun b => !b) v_Book___contains__) (mOp vSubs (mV 1) (mV 4)) (mV 0))) (mNotT (mTest (mUnA (fCall 2 [] (v_l_same 10)) (mCons (vProp cs_Rule v_Rule_stances (mOp (vIxI "Book" v_Book___getitem__) (mV 0) (mOp vSubs (mV 1) (mV 4)))) (mCons (mOp vSubs (mV 2) (mV 4)) mNil)))))) (mRet (mC (.bl false))) mNext) (τ := [some (bookV (prs.map PR)), some (.plst ((prs.map (·.1)).map D.str)), some (.plst (prs.map LT)), some (.str sp), none, none, none]) (g := s)
    (rng 0 prs.length) (fun i τ G => (∃ x4, τ = [some (bookV (prs.map PR)), some (.plst ((prs.map (·.1)).map D.str)), some (.plst (prs.map LT)), some (.str sp), x4, none, none]) ∧ G = s) (range1_ok (una_ok (cons_ok (ev_v rfl) nil_ok) (by rw [len_vl (l := (prs.map (·.1)).map D.str) rfl, ln])) (by omega)) (fun _ _ _ _ => trivial) ⟨⟨_, rfl⟩, rfl⟩ (by
      rintro i d τ G hd ⟨⟨x4, rfl⟩, rfl⟩
      obtain ⟨hi, rfl⟩ := rng_get hd
      rw [Int.zero_add]
      refine ⟨_, _, rfl, ?_⟩
      have hq : prs[i]? = some prs[i] := List.getElem?_eq_getElem hi
      generalize prs[i] = q at hq
      have nm : mOp vSubs (mV 1) (mV 4) [some (bookV (prs.map PR)), some (.plst ((prs.map (·.1)).map D.str)), some (.plst (prs.map LT)), some (.str sp), some (.int (i : Int)), none, none] G = .ok (.str q.1) G := ev2 (ev_v rfl) (ev_v rfl) (subs_vl rfl (atI_n (by rw [List.getElem?_map, List.getElem?_map, hq]; rfl)))
      have lt : mOp vSubs (mV 2) (mV 4) [some (bookV (prs.map PR)), some (.plst ((prs.map (·.1)).map D.str)), some (.plst (prs.map LT)), some (.str sp), some (.int (i : Int)), none, none] G = .ok (LT q) G := ev2 (ev_v rfl) (ev_v rfl) (subs_vl rfl (atI_n (by rw [List.getElem?_map, hq]; rfl)))
      have hm : q.1 ∈ (prs.map PR).map (·.1) := by
        rw [pr_keys]
        exact List.mem_map.mpr ⟨q, List.mem_of_getElem? hq, rfl⟩
      have c1 := tst (ev2 nm (ev_v (i := 0) rfl) (vin6 (l := prs.map PR) (x := q.1) (f := fun b => !b)))
      rw [decide_eq_true hm] at c1
      have sa : v_Rule_stances [ruleV (ruleF q.2)] G = .ok (LT q) G := by
        unfold v_Rule_stances LT
        rw [← rule_lets]
        exact run_rt (ret_ok (un_ok (ev_v rfl) (fld_v (c := "Rule") (d := .tup ((ruleF q.2).map stD)) rfl (by simp) rfl)))
      have c2 : mNotT (mTest (mUnA (fCall 2 [] (v_l_same 10)) (mCons (vProp cs_Rule v_Rule_stances (mOp (vIxI "Book" v_Book___getitem__) (mV 0) (mOp vSubs (mV 1) (mV 4)))) (mCons (mOp vSubs (mV 2) (mV 4)) mNil)))) [some (bookV (prs.map PR)), some (.plst ((prs.map (·.1)).map D.str)), some (.plst (prs.map LT)), some (.str sp), some (.int (i : Int)), none, none] G = .ok false G := not_ok (b := true) (tst (una_ok (cons_ok (vprop_ok (ev2 (ev_v rfl) nm (vget6 (pr_look nd hq))) (ins_v (c := "Rule") rfl (by simp)) sa) (cons_ok lt nil_ok)) (call_v rfl (vsame_rule 7 _ (by have := lletF_len q.2; omega) fun st h => lletF_mem h))))
      exact body_nx (if_n2 (or_f c1 c2)) ⟨⟨_, rfl⟩, rfl⟩)
  have c3 := tst (ev2 (τ := [some (bookV (prs.map PR)), some (.plst ((prs.map (·.1)).map D.str)), some (.plst (prs.map LT)), some (.str sp), x4, none, none]) (a := mV 3) (b := mV 0) (ev_v rfl) (ev_v rfl) (vin6 (s := g') (l := prs.map PR) (x := sp) (f := id)))
  rw [pr_keys, decide_eq_false hs] at c3
  have b4 : mAsg (mUnA vLst (mCons (mOp (vIxI "Book" v_Book___getitem__) (mV 0) (mV 3)) mNil)) (gN 1) [some (bookV (prs.map PR)), some (.plst ((prs.map (·.1)).map D.str)), some (.plst (prs.map LT)), some (.str sp), x4, none, none] g' = .ex ⟨"Unknown", [("row", .non), ("what", .str sp)]⟩ [some (bookV (prs.map PR)), some (.plst ((prs.map (·.1)).map D.str)), some (.plst (prs.map LT)), some (.str sp), x4, none, none] g' := asg_ex (una_ex6 (cons_ex6 (ev2 (ev_v rfl) (ev_v rfl) (vgetX6 (by rw [pr_keys]; exact hs)))))
  have t4 : mTry errsL [("Unknown", some 5, mRetX (fun x => mUnA (fCall 2 [] (v_l_same 10)) ((fun x => mCons ((fun x => mUnA fTup ((fun x => mCons ((mXf "row") x) ((fun x => mCons ((mXf "what") x) ((fun _ => mNil) x)) x)) x)) x) ((fun x => mCons ((fun _ => (mUnA fTup (mCons (mC .non) (mCons (mV 3) mNil)))) x) ((fun _ => mNil) x)) x)) x)))] (mAsg (mUnA vLst (mCons (mOp (vIxI "Book" v_Book___getitem__) (mV 0) (mV 3)) mNil)) (gN 1)) [some (bookV (prs.map PR)), some (.plst ((prs.map (·.1)).map D.str)), some (.plst (prs.map LT)), some (.str sp), x4, none, none] g' = .rt (.bl true) g' := by
    unfold mTry
    rw [b4]
    dsimp only
    rw [if_pos (by decide)]
    unfold hGo
    dsimp only
    rw [if_pos (by decide)]
    exact suite6 (s := g') (n := 3) (i := 5) (c := "Unknown") (sp := sp) (τ := [some (bookV (prs.map PR)), some (.plst ((prs.map (·.1)).map D.str)), some (.plst (prs.map LT)), some (.str sp), x4, none, none]) rfl (by decide)
  unfold v_l_told
  exact run_rt (seq_go (if_n2 (or_f t1 t2)) (seq_go lp (seq_go (if_n2 c3) (seq_rt t4))))
end
end My.V
namespace My.V
open PySem L2 RL
section
variable {s : G} {ns : List Int} {τ : RL.T} {prs : List (Str × List (List Str))}
theorem cut5 (l : List D) : cutD l none (some 5) = l.take 5 := by
  by_cases h : 5 ≤ l.length
  · exact cut_to (k := 5) h
  · unfold cutD
    have e : l.take 5 = l := List.take_of_length_le (by omega)
    rw [e, show HT.sIx l.length l.length (some 5) = min 5 l.length from HT.sIx_nat _ _ 5, HT.sIx_none]
    show List.take (min 5 l.length - 0) (List.drop 0 l) = l
    rw [List.drop_zero]
    exact List.take_of_length_le (by omega)
theorem vbookX6 (hw : GW s) (prs : List (Str × D)) (nd : (prs.map (·.1)).Nodup) (hl : prs.length ≤ 1000) (hp : ∀ p ∈ prs, p.2.lo s.length = true) : zF (fMakeX "Book" 1 [] v_Book_init) [.plst (prs.map prD)] s = .ok (bookV prs) s := by
  have h := vbook hw prs nd hl hp
  unfold zF at h ⊢
  unfold fMake at h
  unfold fMakeX
  cases c : fCall (1 + 1) [] v_Book_init (.ref s.length :: [.plst (prs.map prD)]) (s ++ [.ins "Book" []]) with
  | ok d g =>
    rw [c] at h
    exact h
  | exc x g =>
    rw [c] at h
    cases h
  | bad =>
    rw [c] at h
    cases h
theorem vbookE {A B : List (Str × D)} {k : Str} {v : D} (hw : GW s) (nd : (A.map (·.1)).Nodup) (hk : k ∈ A.map (·.1)) (hl : A.length ≤ 1000) : zF (fMakeX "Book" 1 [] v_Book_init) [.plst ((A ++ (k, v) :: B).map prD)] s = .exc ⟨"Taken", [("row", .non), ("what", .str k)]⟩ s := by
  generalize hL : A ++ (k, v) :: B = L
  have lA : ∀ i, i < A.length → L[i]? = A[i]? := fun i h => by rw [← hL, List.getElem?_append_left h]
  have lk : L[A.length]? = some (k, v) := by rw [← hL, List.getElem?_append_right (Nat.le_refl _), Nat.sub_self]; rfl
  have lL : A.length < L.length := (List.getElem?_eq_some_iff.mp lk).1
  have a0 : mFldS cs_Book "_rules" (mV 0) mDict0 [some (.ref s.length), some (.plst (L.map prD)), none, none] (s ++ [.ins "Book" []]) = .nx [some (.ref s.length), some (.plst (L.map prD)), none, none] (s ++ [.ins "Book" [("_rules", .ref (s.length + 1))], .dct false []]) := fld_new (R := []) dict0_new (fun _ => ev_v rfl) (by simp) (by simp)
  have lp : ∃ τ' X, mFor (vSeqI (mV 1)) (gTupM 2 (gsCons (gN 2) (gsCons (gN 3) gsNil))) (mSeq (mIfS (mTest (mOp vIn (mV 2) (mUn (vFld cs_Book "_rules") (mV 0)))) (mRaise (exc1 "Taken") (mCons (mV 2) mNil)) mNext) (mAsg (mV 3) (gSubM (mUn (vFld cs_Book "_rules") (mV 0)) (mV 2)))) [some (.ref s.length), some (.plst (L.map prD)), none, none] (s ++ [.ins "Book" [("_rules", .ref (s.length + 1))], .dct false []]) = .ex ⟨"Taken", [("row", .non), ("what", .str k)]⟩ τ' (s ++ X) := by
    refine loop (mi := vSeqI (mV 1)) (L.map prD) (fun i τ G => i ≤ A.length ∧ (∃ x2 x3, τ = [some (.ref s.length), some (.plst (L.map prD)), x2, x3]) ∧ G = s ++ [.ins "Book" [("_rules", .ref (s.length + 1))], .dct false (sd (A.take i))]) (fun r => ∃ τ' X, r = .ex ⟨"Taken", [("row", .non), ("what", .str k)]⟩ τ' (s ++ X)) (vseq_p (ev_v rfl)) (fun _ _ _ _ => trivial) ⟨Nat.zero_le _, ⟨_, _, rfl⟩, rfl⟩ ?_ (fun τ g ⟨h, _⟩ => absurd h (by rw [List.length_map]; omega))
    rintro i dd τ G hd ⟨hi, ⟨x2, x3, rfl⟩, rfl⟩
    have fd : ∀ τ : RL.T, τ[0]? = some (some (.ref s.length)) → mUn (vFld cs_Book "_rules") (mV 0) τ (s ++ [.ins "Book" [("_rules", .ref (s.length + 1))], .dct false (sd (A.take i))]) = .ok (.ref (s.length + 1)) (s ++ [.ins "Book" [("_rules", .ref (s.length + 1))], .dct false (sd (A.take i))]) := fun τ h => un_ok (ev_v h) (fld_v (vob_ref (at_mid (i := 0) rfl)) (by simp) rfl)
    rw [List.getElem?_map] at hd
    by_cases c : i = A.length
    · subst c
      rw [lk] at hd
      cases hd
      refine ⟨_, _, rfl, ?_⟩
      have t := tst (ev2 (τ := [some (.ref s.length), some (.plst (L.map prD)), some (.str k), some v]) (a := mV 2) (ev_v rfl) (fd _ rfl) (in_vs (l := A.take A.length) (vdc_ref (k := false) (at_mid (i := 1) rfl))))
      rw [decide_eq_true (by rw [List.take_length]; exact hk)] at t
      exact body_ex (seq_ex (if_tr t (raise_ok (cons_ok (ev_v rfl) nil_ok) exc1_str))) ⟨_, _, rfl⟩
    · have hi' : i < A.length := by omega
      rw [lA i hi', List.getElem?_eq_getElem hi'] at hd
      have hA : A[i]? = some A[i] := List.getElem?_eq_getElem hi'
      generalize A[i] = q at hd hA
      cases hd
      obtain ⟨y, w⟩ := q
      refine ⟨_, _, rfl, ?_⟩
      have hn : y ∉ (A.take i).map (·.1) := fun z => by
        have e : A = A.take i ++ A.drop i := (List.take_append_drop i A).symm
        have hdr : A.drop i = (y, w) :: A.drop (i + 1) := by
          have := List.drop_eq_getElem_cons hi'
          rw [(List.getElem?_eq_some_iff.mp hA).2] at this
          exact this
        rw [e, List.map_append, hdr, List.map_cons] at nd
        exact (List.nodup_append.mp nd).2.2 y z y List.mem_cons_self rfl
      have t := tst (ev2 (τ := [some (.ref s.length), some (.plst (L.map prD)), some (.str y), some w]) (a := mV 2) (ev_v rfl) (fd _ rfl) (in_vs (l := A.take i) (vdc_ref (k := false) (at_mid (i := 1) rfl))))
      rw [decide_eq_false hn] at t
      have w' := set_sd (l := A.take i) (τ := [some (.ref s.length), some (.plst (L.map prD)), some (.str y), some w]) (e := mV 3) (v := w) (o := mUn (vFld cs_Book "_rules") (mV 0)) (i := mV 2) (ev_v rfl) (fd _ rfl) (ev_v rfl) (at_mid (i := 1) rfl) hn (by rw [List.length_take]; omega)
      rw [set_mid] at w'
      exact body_nx (seq_go (if_n2 t) w') ⟨by omega, ⟨_, _, rfl⟩, by rw [take_succ hA]; rfl⟩
  obtain ⟨τ', X, lp⟩ := lp
  have main : fMakeX "Book" 1 [] v_Book_init [.plst (L.map prD)] s = .exc ⟨"Taken", [("row", .non), ("what", .str k)]⟩ (s ++ X) := by
    have e : v_Book_init [.ref s.length, .plst (L.map prD)] (s ++ [.ins "Book" []]) = .exc ⟨"Taken", [("row", .non), ("what", .str k)]⟩ (s ++ X) := by
      unfold v_Book_init
      exact run_ex (seq_go a0 lp)
    unfold fMakeX
    rw [show fCall (1 + 1) [] v_Book_init [.ref s.length, .plst (L.map prD)] (s ++ [.ins "Book" []]) = .exc ⟨"Taken", [("row", .non), ("what", .str k)]⟩ (s ++ X) from call_v rfl e]
    rfl
  exact zF_exc hw main rfl
/-- names and products of a script -/
def prs6 (r1 : Int) (P : Nat → List (List Str)) (n : Nat) : List (Str × List (List Str)) := (List.range n).map fun (i : Nat) => (nameF r1 (i : Int), P i)
abbrev t06 (ns : List Int) (x1 x2 x3 x4 x5 x6 x7 x8 x9 x10 x11 x12 : Option D) : RL.T := [some (.kl (ns.map D.int)), x1, x2, x3, x4, x5, x6, x7, x8, x9, x10, x11, x12, none, none, none, none]
theorem prs6_nd (r1 : Int) (P : Nat → List (List Str)) {n : Nat} (hn : n ≤ 26) : ((prs6 r1 P n).map (·.1)).Nodup := by
  unfold prs6
  rw [List.map_map]
  exact List.pairwise_map.mpr ((List.nodup_range (n := n)).imp_of_mem fun {i j} hi hj h e => h (nameF_inj (by have := List.mem_range.mp hi; omega) (by have := List.mem_range.mp hj; omega) e))
theorem prs6_sp (r1 : Int) (P : Nat → List (List Str)) {n : Nat} (hn : n ≤ 20) : nameF r1 20 ∉ (prs6 r1 P n).map (·.1) := fun h => by
  unfold prs6 at h
  rw [List.map_map] at h
  obtain ⟨i, hi, e⟩ := List.mem_map.mp h
  have hi := List.mem_range.mp hi
  have := nameF_inj (a := r1) (i := i) (j := 20) (by omega) (by omega) e
  omega
theorem head6 (hns : True) : ∃ (row : List Int) (n : Nat) (r1 r2 r3 : Int) (P : Nat → List (List Str)), n ≤ 6 ∧ row = [(n : Int), r1, r2, r3] ∧ 0 ≤ r2 ∧ 0 ≤ r3 ∧
    w_law_g0 (t06 ns none none none none none none none none none none none none) [] = .nx (t06 ns (some (.plst (row.map D.int))) (some (.plst (((prs6 r1 P n).map (·.1)).map D.str))) (some (.str (nameF r1 20))) (some (.plst ((prs6 r1 P n).map fun q => prodV q.2))) (some (.plst ((prs6 r1 P n).map LT))) none none none none none none none) [] := by
  have hw : GW ([] : RL.G) := fun o ho => nomatch ho
  obtain ⟨row, e, l0, l1⟩ := vdig6 (g := []) (ns := ns) (szs := [7, 26, 6, 6]) hw (by simp) (by decide) 0
  obtain ⟨r0, q0, a0, b0⟩ := l1 0 7 rfl
  obtain ⟨r1, q1, a1, b1⟩ := l1 1 26 rfl
  obtain ⟨r2, q2, a2, b2⟩ := l1 2 6 rfl
  obtain ⟨r3, q3, a3, b3⟩ := l1 3 6 rfl
  obtain ⟨n, rfl⟩ := Int.eq_ofNat_of_zero_le a0
  have hrow : row = [(n : Int), r1, r2, r3] := by
    match row, l0, q0, q1, q2, q3 with
    | [a, b, c, d], _, q0, q1, q2, q3 =>
      cases q0; cases q1; cases q2; cases q3
      rfl
  have hP : ∀ j : Nat, ∃ p, v_l_products [.kl (ns.map D.int), .int (j : Int)] [] = .ok (prodV p) [] ∧ PO p := fun j => vprod6 hw j
  refine ⟨row, n, r1, r2, r3, fun i => (hP (1 + i)).choose, by omega, hrow, a2, a3, ?_⟩
  have hP' : ∀ i : Nat, v_l_products [.kl (ns.map D.int), .int ((1 + i : Nat) : Int)] [] = .ok (prodV (hP (1 + i)).choose) [] ∧ PO (hP (1 + i)).choose := fun i => (hP (1 + i)).choose_spec
  obtain ⟨P, hPe⟩ : ∃ P : Nat → List (List Str), P = fun i => (hP (1 + i)).choose := ⟨_, rfl⟩
  have hP' : ∀ i : Nat, v_l_products [.kl (ns.map D.int), .int ((1 + i : Nat) : Int)] [] = .ok (prodV (P i)) [] ∧ PO (P i) := by
    rw [hPe]
    exact hP'
  rw [← hPe]
  subst hrow
  have at_ : ∀ (k : Nat) (r : Int), ([(n : Int), r1, r2, r3] : List Int)[k]? = some r → L2.atI (([(n : Int), r1, r2, r3] : List Int).map D.int) ((k : Nat) : Int) = some (.int r) := fun k r h => atI_n (by rw [List.getElem?_map, h]; rfl)
  have nmsE : ((prs6 r1 P n).map (·.1)).map D.str = (List.range n).map fun (i : Nat) => D.str (nameF r1 (i : Int)) := by
    unfold prs6
    rw [List.map_map, List.map_map]
    rfl
  have i1 := asg_ok (i := 1) (una_ok (τ := t06 ns none none none none none none none none none none none none) (a := mCons (mV 0) (mCons (mC (.int 0)) (mCons (mUnA vLst (mCons (mC (.int 7)) (mCons (mC (.int 26)) (mCons (mC (.int 6)) (mCons (mC (.int 6)) mNil))))) mNil))) (cons_ok (ev_v rfl) (cons_ok ev_c (cons_ok rfl nil_ok))) (call_v (n := 3) (es := []) rfl e))
  have l2 := vlc_w (own := [("_law_k", 14)].map (·.2)) (mi := mRange1 (mOp vSubs (mV 1) (mC (.int 0)))) (t := .one 14) (mt := mYes) (me := mUnA (fCall 2 [] v_l_name) (mCons (mOp vSubs (mV 1) (mC (.int 1))) (mCons (mV 14) mNil))) (τ := t06 ns (some (.plst (([(n : Int), r1, r2, r3] : List Int).map D.int))) none none none none none none none none none none none) (s := []) (c := none) (fun i : Nat => D.int ((0 : Int) + (i : Int))) (List.range n) (fun _ => true) (fun i => D.str (nameF r1 (i : Int))) (range1_ok (ev2 (ev_v rfl) ev_c (subs_vl rfl (at_ 0 _ rfl))) (by omega)) trivial
    (fun i _ => ⟨_, rfl, rfl, fun _ => una_ok (cons_ok (ev2 (ev_v rfl) ev_c (subs_vl rfl (at_ 1 _ rfl))) (cons_ok (ev_v rfl) nil_ok)) (call_v rfl (by rw [Int.zero_add]; exact vname6 _ _))⟩) (by simp; omega)
  rw [List.filter_eq_self.mpr (fun _ _ => rfl), ← nmsE] at l2
  have i2 := asg_ok (i := 2) l2
  have i3 : mAsg (mUnA (fCall 2 [] v_l_name) (mCons (mOp vSubs (mV 1) (mC (.int 1))) (mCons (mC (.int 20)) mNil))) (gN 3) (t06 ns (some (.plst (([(n : Int), r1, r2, r3] : List Int).map D.int))) (some (.plst (((prs6 r1 P n).map (·.1)).map D.str))) none none none none none none none none none none) [] = .nx (t06 ns (some (.plst (([(n : Int), r1, r2, r3] : List Int).map D.int))) (some (.plst (((prs6 r1 P n).map (·.1)).map D.str))) (some (.str (nameF r1 20))) none none none none none none none none none) [] := asg_ok (una_ok (cons_ok (ev2 (ev_v rfl) ev_c (subs_vl rfl (at_ 1 _ rfl))) (cons_ok ev_c nil_ok)) (call_v rfl (vname6 _ _)))
  have ln : ∀ (x : Option D), mUnA vLen (mCons (mV 2) mNil) (t06 ns (some (.plst (([(n : Int), r1, r2, r3] : List Int).map D.int))) (some (.plst (((prs6 r1 P n).map (·.1)).map D.str))) (some (.str (nameF r1 20))) x none none none none none none none none) [] = .ok (.int (n : Int)) [] := fun x => una_ok (cons_ok (ev_v rfl) nil_ok) (by rw [len_vl (l := ((prs6 r1 P n).map (·.1)).map D.str) rfl, nmsE, List.length_map, List.length_range])
  have prE : (prs6 r1 P n).map (fun q => prodV q.2) = (List.range n).map fun (i : Nat) => prodV (P i) := by
    unfold prs6
    rw [List.map_map]
    rfl
  have l4 := vlc_w (own := [("_law_k", 14)].map (·.2)) (mi := mRange1 (mUnA vLen (mCons (mV 2) mNil))) (t := .one 14) (mt := mYes) (me := mUnA (fCall 2 [] v_l_products) (mCons (mV 0) (mCons (mOp vPlus (mC (.int 1)) (mV 14)) mNil))) (τ := t06 ns (some (.plst (([(n : Int), r1, r2, r3] : List Int).map D.int))) (some (.plst (((prs6 r1 P n).map (·.1)).map D.str))) (some (.str (nameF r1 20))) none none none none none none none none none) (s := []) (c := none) (fun i : Nat => D.int ((0 : Int) + (i : Int))) (List.range n) (fun _ => true) (fun i => prodV (P i)) (range1_ok (ln none) (by omega)) trivial
    (fun i _ => ⟨_, rfl, rfl, fun _ => una_ok (cons_ok (ev_v rfl) (cons_ok (ev2 ev_c (ev_v rfl) (plusI_v _ _)) nil_ok)) (call_v rfl (by
      have : (1 : Int) + (0 + (i : Int)) = ((1 + i : Nat) : Int) := by omega
      show v_l_products [.kl (ns.map D.int), .int (1 + (0 + (i : Int)))] [] = _
      rw [this]
      exact (hP' i).1))⟩) (by simp; omega)
  rw [List.filter_eq_self.mpr (fun _ _ => rfl), ← prE] at l4
  have i4 := asg_ok (i := 4) l4
  have l5 := vlc_w (own := [("_law_product", 15)].map (·.2)) (mi := vSeqI (mV 4)) (t := .one 15) (mt := mYes) (me := mUnA vTuple (mCons (mUnA (fCall 1 [] v_l_let) (mCons (mV 15) mNil)) mNil)) (τ := t06 ns (some (.plst (([(n : Int), r1, r2, r3] : List Int).map D.int))) (some (.plst (((prs6 r1 P n).map (·.1)).map D.str))) (some (.str (nameF r1 20))) (some (.plst ((prs6 r1 P n).map fun q => prodV q.2))) none none none none none none none none) (s := []) (c := none) (fun q : Str × List (List Str) => prodV q.2) (prs6 r1 P n) (fun _ => true) LT (vseq_p (ev_v rfl)) trivial
    (fun q hq => ⟨_, rfl, rfl, fun _ => una_ok (cons_ok (una_ok (cons_ok (ev_v rfl) nil_ok) (call_v rfl (vlet6 hw (by
      obtain ⟨i, _, rfl⟩ := List.mem_map.mp hq
      exact (hP' i).2)))) nil_ok) (tuple_vl rfl)⟩) (by unfold prs6; simp; omega)
  rw [List.filter_eq_self.mpr (fun _ _ => rfl)] at l5
  have i5 := asg_ok (i := 5) l5
  unfold w_law_g0
  exact seq_go i1 (seq_go i2 (seq_go i3 (seq_go i4 i5)))
theorem pairs6 (hl : prs.length ≤ 100) (row : List Int) (sp : Str) : w_law_g5 (t06 ns (some (.plst (row.map D.int))) (some (.plst ((prs.map (·.1)).map D.str))) (some (.str sp)) (some (.plst (prs.map fun q => prodV q.2))) (some (.plst (prs.map LT))) none none none none none none none) [] = .nx (t06 ns (some (.plst (row.map D.int))) (some (.plst ((prs.map (·.1)).map D.str))) (some (.str sp)) (some (.plst (prs.map fun q => prodV q.2))) (some (.plst (prs.map LT))) (some (.plst ((prs.map PR).map prD))) none none none none none none) [] := by
  have hw : GW ([] : RL.G) := fun o ho => nomatch ho
  have ln : mUnA vLen (mCons (mV 2) mNil) (t06 ns (some (.plst (row.map D.int))) (some (.plst ((prs.map (·.1)).map D.str))) (some (.str sp)) (some (.plst (prs.map fun q => prodV q.2))) (some (.plst (prs.map LT))) none none none none none none none) [] = .ok (.int ((prs.length : Nat) : Int)) [] := una_ok (cons_ok (ev_v rfl) nil_ok) (by rw [len_vl (l := (prs.map (·.1)).map D.str) rfl, List.length_map, List.length_map])
  have l6 := vlc_w (own := [("_law_k", 14)].map (·.2)) (mi := mRange1 (mUnA vLen (mCons (mV 2) mNil))) (t := .one 14) (mt := mYes) (me := mUnA fTup (mCons (mOp vSubs (mV 2) (mV 14)) (mCons (mUnA (fCall 1 [] v_l_rule) (mCons (mOp vSubs (mV 4) (mV 14)) mNil)) mNil))) (τ := t06 ns (some (.plst (row.map D.int))) (some (.plst ((prs.map (·.1)).map D.str))) (some (.str sp)) (some (.plst (prs.map fun q => prodV q.2))) (some (.plst (prs.map LT))) none none none none none none none) (s := []) (c := none) (fun i : Nat => D.int ((0 : Int) + (i : Int))) (List.range prs.length) (fun _ => true) (fun i => match prs[i]? with | some q => prD (PR q) | none => .non) (range1_ok ln (by omega)) trivial
    (fun i hi => by
      have hi := List.mem_range.mp hi
      have hq : prs[i]? = some prs[i] := List.getElem?_eq_getElem hi
      generalize prs[i] = q at hq
      refine ⟨_, rfl, rfl, fun _ => ?_⟩
      have e0 : (0 : Int) + (i : Int) = (i : Int) := by omega
      rw [e0, hq]
      exact una_ok (cons_ok (ev2 (ev_v rfl) (ev_v rfl) (subs_vl rfl (atI_n (by rw [List.getElem?_map, List.getElem?_map, hq]; rfl)))) (cons_ok (una_ok (cons_ok (ev2 (ev_v rfl) (ev_v rfl) (subs_vl rfl (atI_n (by rw [List.getElem?_map, hq]; rfl)))) nil_ok) (call_v rfl (vlrule hw q.2))) nil_ok)) (tup_ok (by simp))) (by simp; omega)
  rw [List.filter_eq_self.mpr (fun _ _ => rfl)] at l6
  have e : (List.range prs.length).map (fun i => match prs[i]? with | some q => prD (PR q) | none => .non) = (prs.map PR).map prD := by
    rw [List.map_map]
    refine List.ext_getElem (by simp) fun i h1 h2 => ?_
    have hi : i < prs.length := by simpa using h2
    rw [List.getElem_map, List.getElem_map, List.getElem_range, List.getElem?_eq_getElem hi]
    rfl
  rw [e] at l6
  unfold w_law_g5
  exact asg_ok (i := 6) l6
end
end My.V
namespace My.V
open PySem L2 RL
section
variable {ns : List Int} {prs : List (Str × List (List Str))}
theorem find6 {l : List Str} {x : Str} (h : x ∈ l) : ∃ j, (l.map D.str).findIdx? (eqTx x) = some j ∧ j < l.length ∧ l[j]? = some x := by
  induction l with
  | nil => cases h
  | cons a l ih =>
    by_cases c : a = x
    · subst c
      refine ⟨0, ?_, by simp, rfl⟩
      rw [List.map_cons, List.findIdx?_cons, if_pos (by simp [eqTx])]
    · have h : x ∈ l := by
        rcases List.mem_cons.mp h with e | e
        · exact absurd e.symm c
        · exact e
      obtain ⟨j, h1, h2, h3⟩ := ih h
      refine ⟨j + 1, ?_, by simpa using h2, h3⟩
      rw [List.map_cons, List.findIdx?_cons, if_neg (by simp [eqTx]; exact fun z => c z), h1]
      rfl
theorem all_tx : ∀ l : List Str, (l.map D.str).all isTx = true
  | [] => rfl
  | a :: l => by
    rw [List.map_cons, List.all_cons, all_tx l]
    rfl
theorem idx6 {l : List Str} {x : Str} {s : G} (h : x ∈ l) : ∃ j, vIdx (.plst (l.map D.str)) [.str x] s = .ok (.int ((j : Nat) : Int)) s ∧ j < l.length ∧ l[j]? = some x := by
  obtain ⟨j, h1, h2, h3⟩ := find6 h
  refine ⟨j, ?_, h2, h3⟩
  unfold vIdx
  rw [show vls s (.plst (l.map D.str)) = some (l.map D.str) from rfl]
  dsimp only
  rw [h1]
  exact ck_pos (all_tx l) _
theorem tail6 {r1 r2 r3 : Int} {n : Nat} {sp : Str} (nd : (prs.map (·.1)).Nodup) (hl : prs.length = n) (hn : n ≤ 6) (h2 : 0 ≤ r2) (h3 : 0 ≤ r3) (hs : sp ∉ prs.map (·.1)) :
    ∃ S, w_law_t (t06 ns (some (.plst (([(n : Int), r1, r2, r3] : List Int).map D.int))) (some (.plst ((prs.map (·.1)).map D.str))) (some (.str sp)) none (some (.plst (prs.map LT))) none (some (bookV (prs.map PR))) none none none none none) [] = .rt (.bl true) S := by
  have hw : GW ([] : RL.G) := fun o ho => nomatch ho
  have at_ : ∀ (k : Nat) (r : Int), ([(n : Int), r1, r2, r3] : List Int)[k]? = some r → L2.atI (([(n : Int), r1, r2, r3] : List Int).map D.int) ((k : Nat) : Int) = some (.int r) := fun k r h => atI_n (by rw [List.getElem?_map, h]; rfl)
  have a2 := at_ 2 r2 rfl
  have a3 := at_ 3 r3 rfl
  clear at_
  generalize ([(n : Int), r1, r2, r3] : List Int) = row at a2 a3
  have told : mNotT (mTest (mUnA (fCall 4 [] v_l_told) (mCons (mV 7) (mCons (mV 2) (mCons (mV 5) (mCons (mV 3) mNil)))))) (t06 ns (some (.plst (row.map D.int))) (some (.plst ((prs.map (·.1)).map D.str))) (some (.str sp)) none (some (.plst (prs.map LT))) none (some (bookV (prs.map PR))) none none none none none) [] = .ok false [] := not_ok (b := true) (tst (una_ok (cons_ok (ev_v rfl) (cons_ok (ev_v rfl) (cons_ok (ev_v rfl) (cons_ok (ev_v rfl) nil_ok)))) (call_v rfl (vtold6 nd (by omega) hs))))
  have c1 := if_n2 (a := mRet (mC (.bl false))) (or_f told told)
  have lnm : ((prs.map (·.1)).map D.str).length = n := by rw [List.length_map, List.length_map, hl]
  have t2 : mTest (mOp vEq (mUnA vLen (mCons (mV 2) mNil)) (mC (.int 0))) (t06 ns (some (.plst (row.map D.int))) (some (.plst ((prs.map (·.1)).map D.str))) (some (.str sp)) none (some (.plst (prs.map LT))) none (some (bookV (prs.map PR))) none none none none none) [] = .ok (decide ((n : Int) = 0)) [] := tst (ev2 (una_ok (cons_ok (ev_v rfl) nil_ok) (by rw [len_vl (l := (prs.map (·.1)).map D.str) rfl, lnm])) ev_c (eqI_v _ _))
  unfold w_law_t
  by_cases c0 : (n : Int) = 0
  · rw [decide_eq_true c0] at t2
    exact ⟨_, seq_go c1 (seq_rt (if_tr t2 (ret_ok ev_c)))⟩
  rw [decide_eq_false c0] at t2
  generalize hF : (prs.map (·.1)).take 5 = few
  have fl0 : few.length = min 5 n := by rw [← hF, List.length_take, List.length_map, hl]
  have fnd : few.Nodup := by rw [← hF]; exact nd.sublist (List.take_sublist _ _)
  have s1 : mAsg (vSl (mV 2) pNo (pInt (mC (.int 5)))) (gN 9) (t06 ns (some (.plst (row.map D.int))) (some (.plst ((prs.map (·.1)).map D.str))) (some (.str sp)) none (some (.plst (prs.map LT))) none (some (bookV (prs.map PR))) none none none none none) [] = .nx (t06 ns (some (.plst (row.map D.int))) (some (.plst ((prs.map (·.1)).map D.str))) (some (.str sp)) none (some (.plst (prs.map LT))) none (some (bookV (prs.map PR))) none (some (.plst (few.map D.str))) none none none) [] := by
    have e := vsl_ok (τ := t06 ns (some (.plst (row.map D.int))) (some (.plst ((prs.map (·.1)).map D.str))) (some (.str sp)) none (some (.plst (prs.map LT))) none (some (bookV (prs.map PR))) none none none none none) (s := []) (a := mV 2) (b := pNo) (c := pInt (mC (.int 5))) (l := (prs.map (·.1)).map D.str) (ev_v rfl) pno_ok (pint_ok ev_c) rfl
    rw [cut5, ← List.map_take, hF] at e
    exact asg_ok (i := 9) e
  -- which is repeated
  have m0 : (0 : Int) < ((few.length : Nat) : Int) := by rw [fl0]; omega
  have mz := Int.emod_nonneg r2 (b := ((few.length : Nat) : Int)) (by omega)
  have ml := Int.emod_lt_of_pos r2 m0
  obtain ⟨i2, hi2⟩ := Int.eq_ofNat_of_zero_le mz
  have hi : i2 < few.length := by omega
  have hd : few[i2]? = some few[i2] := List.getElem?_eq_getElem hi
  have dm : few[i2] ∈ few := List.getElem_mem hi
  generalize few[i2] = dbl at hd dm
  have lf : ∀ τ : RL.T, τ[9]? = some (some (.plst (few.map D.str))) → mUnA vLen (mCons (mV 9) mNil) τ [] = .ok (.int ((few.length : Nat) : Int)) [] := fun τ h => una_ok (cons_ok (ev_v h) nil_ok) (by rw [len_vl (l := few.map D.str) rfl, List.length_map])
  have s2 : mAsg (mOp vSubs (mV 9) (mOp fMod (mOp vSubs (mV 1) (mC (.int 2))) (mUnA vLen (mCons (mV 9) mNil)))) (gN 10) (t06 ns (some (.plst (row.map D.int))) (some (.plst ((prs.map (·.1)).map D.str))) (some (.str sp)) none (some (.plst (prs.map LT))) none (some (bookV (prs.map PR))) none (some (.plst (few.map D.str))) none none none) [] = .nx (t06 ns (some (.plst (row.map D.int))) (some (.plst ((prs.map (·.1)).map D.str))) (some (.str sp)) none (some (.plst (prs.map LT))) none (some (bookV (prs.map PR))) none (some (.plst (few.map D.str))) (some (.str dbl)) none none) [] :=
    asg_ok (i := 10) (ev2 (ev_v rfl) (ev2 (ev2 (ev_v rfl) ev_c (subs_vl rfl a2)) (lf _ rfl) (modI _ _ m0)) (subs_vl rfl (by rw [hi2]; exact atI_n (by rw [List.getElem?_map, hd]; rfl))))
  obtain ⟨j, hj, jl, jx⟩ := idx6 (s := []) dm
  have ix : ∀ τ : RL.T, τ[9]? = some (some (.plst (few.map D.str))) → τ[10]? = some (some (.str dbl)) → vBM .lst vIdx (mV 9) (mCons (mV 10) mNil) τ [] = .ok (.int ((j : Nat) : Int)) [] := fun τ h1 h2 => vbm_ok (ev_v h1) rfl (cons_ok (ev_v h2) nil_ok) hj
  have d0 : (0 : Int) < ((few.length : Nat) : Int) - ((j : Nat) : Int) := by omega
  have ez := Int.emod_nonneg r3 (b := ((few.length : Nat) : Int) - ((j : Nat) : Int)) (by omega)
  have el := Int.emod_lt_of_pos r3 d0
  obtain ⟨z, hz⟩ := Int.eq_ofNat_of_zero_le ez
  have s3 : mAsg (mOp vPlus (mOp vPlus (mC (.int 1)) (vBM .lst vIdx (mV 9) (mCons (mV 10) mNil))) (mOp fMod (mOp vSubs (mV 1) (mC (.int 3))) (mOp fSub (mUnA vLen (mCons (mV 9) mNil)) (vBM .lst vIdx (mV 9) (mCons (mV 10) mNil))))) (gN 11) (t06 ns (some (.plst (row.map D.int))) (some (.plst ((prs.map (·.1)).map D.str))) (some (.str sp)) none (some (.plst (prs.map LT))) none (some (bookV (prs.map PR))) none (some (.plst (few.map D.str))) (some (.str dbl)) none none) [] = .nx (t06 ns (some (.plst (row.map D.int))) (some (.plst ((prs.map (·.1)).map D.str))) (some (.str sp)) none (some (.plst (prs.map LT))) none (some (bookV (prs.map PR))) none (some (.plst (few.map D.str))) (some (.str dbl)) (some (.int ((1 + j + z : Nat) : Int))) none) [] := by
    have e := asg_ok (i := 11) (ev2 (ev2 (ev_c (d := .int 1)) (ix (t06 ns (some (.plst (row.map D.int))) (some (.plst ((prs.map (·.1)).map D.str))) (some (.str sp)) none (some (.plst (prs.map LT))) none (some (bookV (prs.map PR))) none (some (.plst (few.map D.str))) (some (.str dbl)) none none) rfl rfl) (plusI_v _ _)) (ev2 (ev2 (a := mV 1) (b := mC (.int 3)) (ev_v rfl) ev_c (subs_vl rfl a3)) (ev2 (lf _ rfl) (ix _ rfl rfl) (subI _ _)) (modI _ _ d0)) (plusI_v _ _))
    rw [hz, show (1 : Int) + ((j : Nat) : Int) + ((z : Nat) : Int) = ((1 + j + z : Nat) : Int) by omega] at e
    exact e
  have az : 1 + j + z ≤ few.length := by omega
  generalize hat : 1 + j + z = at' at s3 az
  have sl1 : vSl (mV 9) pNo (pInt (mV 11)) (t06 ns (some (.plst (row.map D.int))) (some (.plst ((prs.map (·.1)).map D.str))) (some (.str sp)) none (some (.plst (prs.map LT))) none (some (bookV (prs.map PR))) none (some (.plst (few.map D.str))) (some (.str dbl)) (some (.int ((at' : Nat) : Int))) none) [] = .ok (.plst ((few.take at').map D.str)) [] := by
    have e := vsl_ok (τ := t06 ns (some (.plst (row.map D.int))) (some (.plst ((prs.map (·.1)).map D.str))) (some (.str sp)) none (some (.plst (prs.map LT))) none (some (bookV (prs.map PR))) none (some (.plst (few.map D.str))) (some (.str dbl)) (some (.int ((at' : Nat) : Int))) none) (s := []) (a := mV 9) (b := pNo) (c := pInt (mV 11)) (l := few.map D.str) (ev_v rfl) pno_ok (pint_ok (ev_v rfl)) rfl
    rw [cut_to (by rw [List.length_map]; exact az), ← List.map_take] at e
    exact e
  have sl2 : vSl (mV 9) (pInt (mV 11)) pNo (t06 ns (some (.plst (row.map D.int))) (some (.plst ((prs.map (·.1)).map D.str))) (some (.str sp)) none (some (.plst (prs.map LT))) none (some (bookV (prs.map PR))) none (some (.plst (few.map D.str))) (some (.str dbl)) (some (.int ((at' : Nat) : Int))) none) [] = .ok (.plst ((few.drop at').map D.str)) [] := by
    have e := vsl_ok (τ := t06 ns (some (.plst (row.map D.int))) (some (.plst ((prs.map (·.1)).map D.str))) (some (.str sp)) none (some (.plst (prs.map LT))) none (some (bookV (prs.map PR))) none (some (.plst (few.map D.str))) (some (.str dbl)) (some (.int ((at' : Nat) : Int))) none) (s := []) (a := mV 9) (b := pInt (mV 11)) (c := pNo) (l := few.map D.str) (ev_v rfl) (pint_ok (ev_v rfl)) pno_ok rfl
    rw [cut_from (by rw [List.length_map]; exact az), ← List.map_drop] at e
    exact e
  have src : vSeqI (mOp vPlus (mOp vPlus (vSl (mV 9) pNo (pInt (mV 11))) (mUnA vLst (mCons (mV 10) mNil))) (vSl (mV 9) (pInt (mV 11)) pNo)) (t06 ns (some (.plst (row.map D.int))) (some (.plst ((prs.map (·.1)).map D.str))) (some (.str sp)) none (some (.plst (prs.map LT))) none (some (bookV (prs.map PR))) none (some (.plst (few.map D.str))) (some (.str dbl)) (some (.int ((at' : Nat) : Int))) none) [] = .ok ((few.take at' ++ dbl :: few.drop at').map D.str, none) [] := by
    have p1 := ev2 sl1 (una_ok (f := vLst) (cons_ok (ev_v (i := 10) rfl) nil_ok) (lst_v (by simp))) (plus_vl (l := (few.take at').map D.str) (m := [.str dbl]) rfl rfl (by simp; omega))
    have p2 := ev2 p1 sl2 (plus_vl (l := (few.take at').map D.str ++ [.str dbl]) (m := (few.drop at').map D.str) rfl rfl (by simp; omega))
    have e : (few.take at').map D.str ++ [D.str dbl] ++ (few.drop at').map D.str = (few.take at' ++ dbl :: few.drop at').map D.str := by simp
    rw [e] at p2
    exact vseq_p p2
  have bad := vlc_w (own := [("_law_rank", 16)].map (·.2)) (t := .one 16) (mt := mYes) (me := mUnA fTup (mCons (mV 16) (mCons (mUnA (fCm v_Rule_of) (mCons (mC (.str "own")) mNil)) mNil))) D.str (few.take at' ++ dbl :: few.drop at') (fun _ => true) (fun x => prD (x, ruleV (letF ["own"]))) src trivial
    (fun x _ => ⟨_, rfl, rfl, fun _ => una_ok (cons_ok (ev_v rfl) (cons_ok (una_ok (cons_ok ev_c nil_ok) (vrule_of hw ["own"] (by simp))) nil_ok)) (tup_ok (by simp))⟩) (by simp; omega)
  rw [List.filter_eq_self.mpr (fun _ _ => rfl)] at bad
  have s4 := asg_ok (i := 12) bad
  have eL : (few.take at' ++ dbl :: few.drop at').map (fun x => prD (x, ruleV (letF ["own"]))) = (((few.take at').map fun x => (x, ruleV (letF ["own"]))) ++ (dbl, ruleV (letF ["own"])) :: ((few.drop at').map fun x => (x, ruleV (letF ["own"])))).map prD := by
    rw [List.map_append, List.map_cons, List.map_append, List.map_cons, List.map_map, List.map_map]
    rfl
  have kk : ((few.take at').map fun x => (x, ruleV (letF ["own"]))).map (·.1) = few.take at' := by
    rw [List.map_map]
    exact List.map_id' _
  have dt : dbl ∈ few.take at' := List.mem_of_getElem? (i := j) (by rw [List.getElem?_take_of_lt (by omega)]; exact jx)
  have bk := vbookE (s := []) (A := (few.take at').map fun x => (x, ruleV (letF ["own"]))) (B := (few.drop at').map fun x => (x, ruleV (letF ["own"]))) (k := dbl) (v := ruleV (letF ["own"])) hw (by rw [kk]; exact fnd.sublist (List.take_sublist _ _)) (by rw [kk]; exact dt) (by rw [List.length_map, List.length_take]; omega)
  rw [← eL] at bk
  generalize (few.take at' ++ dbl :: few.drop at').map (fun x => prD (x, ruleV (letF ["own"]))) = BL at s4 bk
  have b5 : mDrop (mUnA (zF (fMakeX "Book" 1 [] v_Book_init)) (mCons (mV 12) mNil)) (t06 ns (some (.plst (row.map D.int))) (some (.plst ((prs.map (·.1)).map D.str))) (some (.str sp)) none (some (.plst (prs.map LT))) none (some (bookV (prs.map PR))) none (some (.plst (few.map D.str))) (some (.str dbl)) (some (.int ((at' : Nat) : Int))) (some (.plst BL))) [] = .ex ⟨"Taken", [("row", .non), ("what", .str dbl)]⟩ (t06 ns (some (.plst (row.map D.int))) (some (.plst ((prs.map (·.1)).map D.str))) (some (.str sp)) none (some (.plst (prs.map LT))) none (some (bookV (prs.map PR))) none (some (.plst (few.map D.str))) (some (.str dbl)) (some (.int ((at' : Nat) : Int))) (some (.plst BL))) [] := drop_ex (una_ok (cons_ok (ev_v rfl) nil_ok) bk)
  have t5 : mTry errsL [("Taken", some 13, mRetX (fun x => mUnA (fCall 2 [] (v_l_same 10)) ((fun x => mCons ((fun x => mUnA fTup ((fun x => mCons ((mXf "row") x) ((fun x => mCons ((mXf "what") x) ((fun _ => mNil) x)) x)) x)) x) ((fun x => mCons ((fun _ => (mUnA fTup (mCons (mC .non) (mCons (mV 10) mNil)))) x) ((fun _ => mNil) x)) x)) x)))] (mDrop (mUnA (zF (fMakeX "Book" 1 [] v_Book_init)) (mCons (mV 12) mNil))) (t06 ns (some (.plst (row.map D.int))) (some (.plst ((prs.map (·.1)).map D.str))) (some (.str sp)) none (some (.plst (prs.map LT))) none (some (bookV (prs.map PR))) none (some (.plst (few.map D.str))) (some (.str dbl)) (some (.int ((at' : Nat) : Int))) (some (.plst BL))) [] = .rt (.bl true) [] := by
    unfold mTry
    rw [b5]
    dsimp only
    rw [if_pos (by decide)]
    unfold hGo
    dsimp only
    rw [if_pos (by decide)]
    exact suite6 (s := []) (n := 10) (i := 13) (c := "Taken") (sp := dbl) (τ := t06 ns (some (.plst (row.map D.int))) (some (.plst ((prs.map (·.1)).map D.str))) (some (.str sp)) none (some (.plst (prs.map LT))) none (some (bookV (prs.map PR))) none (some (.plst (few.map D.str))) (some (.str dbl)) (some (.int ((at' : Nat) : Int))) (some (.plst BL))) rfl (by decide)
  exact ⟨_, seq_go c1 (seq_go (if_n2 t2) (seq_go s1 (seq_go s2 (seq_go s3 (seq_go s4 (seq_rt t5))))))⟩
end
end My.V
namespace My
open PySem L2 RL
section
variable {κ : List Nat} {g g' : G} {ns : List Int} {prs : List (Str × List (List Str))}
theorem dens_len : ∀ {l m : List D}, Dens κ g l m → l.length = m.length
  | _, _, .nil => rfl
  | _, _, .cons _ t => by simp [dens_len t]
theorem den_pl {d : D} {m : List D} (h : Den [] g d (.plst m)) (hm : D.fls m = true) : ∃ n : Nat, d = .ref n ∧ g[n]? = some (.lst m) := by
  cases h with
  | lst _ h2 h3 =>
    have := h3.flr hm
    subst this
    exact ⟨_, rfl, h2⟩
theorem dp_keys : ∀ {lp : List (D × D)} {kv : List (Str × D)}, Denp κ g lp (sd kv) → ∃ l', lp = sd l' ∧ l'.map (·.1) = kv.map (·.1)
  | [], [], _ => ⟨[], rfl, rfl⟩
  | _ :: _, [], h => nomatch h
  | [], _ :: _, h => nomatch h
  | (k, d) :: lp, (x, v) :: kv, h => by
    have h : Denp κ g ((k, d) :: lp) ((D.str x, v) :: sd kv) := h
    cases h with
    | cons hk hd ht =>
      cases hk
      obtain ⟨l', e1, e2⟩ := dp_keys ht
      refine ⟨(x, d) :: l', ?_, ?_⟩
      · rw [e1]
        rfl
      · rw [List.map_cons, e2]
        rfl
/-- rules stay when lists change -/
theorem dp_move (hk : ∀ (n : Nat) (c : Str) (l : List (Str × D)), g[n]? = some (.ins c l) → g'[n]? = some (.ins c l)) : ∀ {lp : List (D × D)} {prs : List (Str × List (List Str))}, Denp [] g lp (sd (prs.map V.PR)) → Denp [] g' lp (sd (prs.map V.PR))
  | [], [], _ => .nil
  | _ :: _, [], h => nomatch h
  | [], _ :: _, h => nomatch h
  | (k, d) :: lp, q :: prs, h => by
    have h : Denp [] g ((k, d) :: lp) ((D.str q.1, V.ruleV (V.ruleF q.2)) :: sd (prs.map V.PR)) := h
    cases h with
    | cons h1 h2 h3 =>
      cases h1
      refine .cons (.str _) ?_ (dp_move hk h3)
      cases h2 with
      | obj _ hg hf =>
        cases hf with
        | cons hd ht =>
          cases ht
          have := hd.flr (v := .tup ((V.ruleF q.2).map V.stD)) (V.stDs_fl _)
          subst this
          exact .obj (by simp) (hk _ _ _ hg) (.cons (Den.rfl' (v := .tup ((V.ruleF q.2).map V.stD)) (V.stDs_fl _)) .nil)
theorem seq_as06 (a b c : MS) : mSeq (mSeq a b) c = mSeq a (mSeq b c) := by
  funext τ g
  unfold mSeq
  cases a τ g <;> rfl
theorem law06_split : m_law = mSeq m_law_g0 (mSeq m_law_g5 (mSeq (mAsg (mUnA (fMakeX "Book" 1 [] f_Book_init) (mCons (mV 6) mNil)) (gN 7)) (mSeq (mDrop (mBM .lst fApp (mV 6) (mCons (mUnA fTup (mCons (mV 3) (mCons (mUnA (fCm f_Rule_of) (mCons (mC (.str "any")) mNil)) mNil))) mNil))) (mSeq (mAsg (mProp cs_Book f_Book_levels (mV 7)) (gN 8)) (mSeq (mDrop (mBM .lst fApp (mV 8) (mCons (mV 3) mNil))) m_law_t))))) := by
  unfold m_law_g0 m_law_g5
  simp only [seq_as06]
  rfl
theorem vm_at {m m2 : MS} (h : VM m m2) {s : G} {τ τ2 : RL.T} (v : VS κ g s) (t : TR κ g τ τ2) {r : SR} (e : m2 τ2 s = r) : RS2 κ g (m τ g) r := by
  subst e
  exact h _ _ _ _ _ v t
theorem ve_at {m m2 : ME} (h : VE m m2) {s : G} {τ τ2 : RL.T} (v : VS κ g s) (t : TR κ g τ τ2) {r : Res D} (e : m2 τ2 s = r) : RR Den κ g (m τ g) r := by
  subst e
  exact h _ _ _ _ _ v t
theorem lt_fls : D.fls (prs.map V.LT) = true := wts_fl fun d hd => by
  obtain ⟨q, _, rfl⟩ := List.mem_map.mp hd
  exact V.stDs_fl _
theorem law_eq (_hns : ns.length ≤ 63) : ∃ g', f_law [.kl (ns.map D.int)] [] = .ok (.bl true) g' := by
  have hw : GW ([] : RL.G) := fun o ho => nomatch ho
  have vs0 : ∀ g : G, VS [] g [] := fun g => ⟨rfl, List.nodup_nil, fun i o h => by simp at h⟩
  have kn : ∀ {κ : List Nat} {g : G}, VS κ g [] → κ = [] := fun h => List.length_eq_zero_iff.mp h.len
  obtain ⟨row, n, r1, r2, r3, P, hn, hrow, a2, a3, e0⟩ := V.head6 (ns := ns) trivial
  have nd := V.prs6_nd r1 P (n := n) (by omega)
  have hs := V.prs6_sp r1 P (n := n) (by omega)
  have hl : (V.prs6 r1 P n).length = n := by unfold V.prs6; simp
  generalize V.prs6 r1 P n = prs at *
  generalize hsp : nameF r1 20 = sp at *
  have tr0 : TR [] ([] : G) ([some (.kl (ns.map D.int))] ++ List.replicate 16 none) (V.t06 ns none none none none none none none none none none none none) := ⟨rfl, fun i v hv => by
    match i, hv with
    | 0, hv => cases hv; exact ⟨_, rfl, .kl (Dens.rfl' (wts_fl fun d hd => by
        obtain ⟨i, _, rfl⟩ := List.mem_map.mp hd
        rfl))⟩
    | 1, hv | 2, hv | 3, hv | 4, hv | 5, hv | 6, hv | 7, hv | 8, hv | 9, hv | 10, hv | 11, hv | 12, hv | 13, hv | 14, hv | 15, hv | 16, hv => cases hv
    | i + 17, hv => simp at hv⟩
  have q0 := vm_at vm_law_g0 (vs0 _) tr0 e0
  obtain ⟨κ5, τ5, g5, e5, _, V5, T5⟩ := q0
  obtain rfl := kn V5
  have rfls : D.fls (row.map D.int) = true := wts_fl fun d hd => by
    obtain ⟨i, _, rfl⟩ := List.mem_map.mp hd
    rfl
  obtain ⟨d0, p0, D0⟩ := T5.at_ 0 _ rfl
  obtain ⟨d1, p1, D1⟩ := T5.at_ 1 _ rfl
  obtain ⟨d2, p2, D2⟩ := T5.at_ 2 _ rfl
  obtain ⟨d3, p3, D3⟩ := T5.at_ 3 _ rfl
  obtain ⟨d4, p4, D4⟩ := T5.at_ 4 _ rfl
  obtain ⟨d5, p5, D5⟩ := T5.at_ 5 _ rfl
  obtain ⟨n1, rfl, h1⟩ := den_pl D1 rfls
  obtain ⟨n2, rfl, h2⟩ := den_pl D2 (V.strs_fl _)
  obtain ⟨n5, rfl, h5⟩ := den_pl D5 lt_fls
  have hd3 : d3 = .str sp := D3.flr rfl
  subst hd3
  have len5 : τ5.length = 17 := T5.len
  -- the pairs
  have pairs : ∃ (a : Nat) (g6 : G) (l : List D), m_law_g5 τ5 g5 = .nx (τ5.set 6 (some (.ref a))) g6 ∧ g6[a]? = some (.lst l) ∧ Dens [] g6 l ((prs.map V.PR).map V.prD) ∧ (∀ (m : Nat) (o : Ob), g5[m]? = some o → g6[m]? = some o) ∧ n1 ≠ a ∧ n2 ≠ a ∧ n5 ≠ a ∧ l.length ≤ 1000 := by
    by_cases c : n = 0
    · subst c
      have hp : prs = [] := List.length_eq_zero_iff.mp hl
      subst hp
      have ln : mUnA fLen (mCons (mV 2) mNil) τ5 g5 = .ok (.int ((0 : Nat) : Int)) g5 := una_ok (cons_ok (ev_v p2) nil_ok) (by
        rw [len_at h2]
        rfl)
      have lc := lc_ok (own := [("_law_k", 14)].map (·.2)) (mi := mRange1 (mUnA fLen (mCons (mV 2) mNil))) (t := .one 14) (mt := mYes) (me := mUnA fTup (mCons (mOp fSubs (mV 2) (mV 14)) (mCons (mUnA (fCall 1 [] f_l_rule) (mCons (mOp fSubs (mV 4) (mV 14)) mNil)) mNil))) (τ := τ5) (g := g5) (fun _ => true) (fun d => d) (range1_ok ln (by omega)) trivial (fun d hd => (nomatch hd)) (by simp [rng])
      refine ⟨g5.length, g5 ++ [.lst []], [], ?_, end_get, .nil, fun m o h => app_get h, ?_, ?_, ?_, by simp⟩
      · unfold m_law_g5
        exact asg_ok (i := 6) lc
      · have := lt_of_get h1; omega
      · have := lt_of_get h2; omega
      · have := lt_of_get h5; omega
    · have e6 := V.pairs6 (ns := ns) (prs := prs) (by omega) row sp
      have q6 := vm_at vm_law_g5 (vs0 g5) T5 e6
      obtain ⟨κ6, τ6, g6, e6', ev6, V6, T6⟩ := q6
      obtain rfl := kn V6
      unfold m_law_g5 at e6' ⊢
      obtain ⟨d6, e7, e8⟩ : ∃ d6, mLc ([("_law_k", 14)].map (·.2)) (mRange1 (mUnA fLen (mCons (mV 2) mNil))) (.one 14) mYes (mUnA fTup (mCons (mOp fSubs (mV 2) (mV 14)) (mCons (mUnA (fCall 1 [] f_l_rule) (mCons (mOp fSubs (mV 4) (mV 14)) mNil)) mNil))) τ5 g5 = .ok d6 g6 ∧ τ6 = τ5.set 6 (some d6) := by
        unfold mAsg at e6'
        cases hm : mLc ([("_law_k", 14)].map (·.2)) (mRange1 (mUnA fLen (mCons (mV 2) mNil))) (.one 14) mYes (mUnA fTup (mCons (mOp fSubs (mV 2) (mV 14)) (mCons (mUnA (fCall 1 [] f_l_rule) (mCons (mOp fSubs (mV 4) (mV 14)) mNil)) mNil))) τ5 g5 with
        | ok d g1 =>
          rw [hm] at e6'
          have e6' : SR.nx (τ5.set 6 (some d)) g1 = .nx τ6 g6 := e6'
          cases e6'
          exact ⟨d, rfl, rfl⟩
        | exc x g1 =>
          rw [hm] at e6'
          cases e6'
        | bad =>
          rw [hm] at e6'
          cases e6'
      subst e8
      obtain ⟨d6', y6, D6⟩ := T6.at_ 6 _ rfl
      rw [List.getElem?_set_self (by omega)] at y6
      cases y6
      have old : ∀ (m : Nat) (o : Ob), g5[m]? = some o → g6[m]? = some o := fun m o h => by
        rw [ev6.old m (lt_of_get h) (by simp)]
        exact h
      obtain ⟨q, prs', hq⟩ : ∃ q prs', prs = q :: prs' := by
        cases prs with
        | nil => simp at hl; omega
        | cons q l => exact ⟨q, l, rfl⟩
      cases D6 with
      | @lst a l _ _ ha hD =>
        have nf : ∀ (m : Nat) (x : List D), g5[m]? = some (.lst x) → (∀ (y : Str) (z : D) (r : List D), x = .tup [.str y, z] :: r → False) → m ≠ a := fun m x hx hne e => by
          subst e
          have := old _ _ hx
          rw [ha] at this
          cases this
          rw [hq] at hD
          have hD : Dens [] g6 l (.tup [.str q.1, V.ruleV (V.ruleF q.2)] :: (prs'.map V.PR).map V.prD) := hD
          cases hD with
          | cons h t =>
            cases h with
            | tup h =>
              cases h with
              | cons hx ht =>
                cases hx
                cases ht with
                | cons hz hn =>
                  cases hn
                  exact hne _ _ _ rfl
        have ll : l.length = n := by
          rw [dens_len hD, List.length_map, List.length_map, hl]
        refine ⟨a, g6, l, asg_ok e7, ha, hD, old, ?_, ?_, ?_, by omega⟩
        · refine nf _ _ h1 fun y z r e => ?_
          rw [hrow] at e
          cases e
        · refine nf _ _ h2 fun y z r e => ?_
          rw [hq] at e
          cases e
        · refine nf _ _ h5 fun y z r e => ?_
          rw [hq] at e
          have e : V.LT q :: prs'.map V.LT = .tup [.str y, z] :: r := e
          injection e with e _
          unfold V.LT at e
          injection e with e
          cases hc : V.lletF q.2 with
          | nil => rw [hc] at e; cases e
          | cons s1 s2 => rw [hc] at e; cases e
  obtain ⟨a, g6, l, e6, ha, hD, old6, na1, na2, na5, ll⟩ := pairs
  have T6 : TR [] g6 (τ5.set 6 (some (.ref a))) (V.t06 ns none none (some (.str sp)) none none (some (.plst ((prs.map V.PR).map V.prD))) none none none none none none) := ⟨by rw [List.length_set, len5]; rfl, fun i v hv => by
    match i, hv with
    | 0, hv => cases hv; exact ⟨d0, by rw [List.getElem?_set_ne (by decide)]; exact p0, by
        cases D0 with
        | kl h =>
          have fl : D.fls (ns.map D.int) = true := wts_fl fun d hd => by
            obtain ⟨i, _, rfl⟩ := List.mem_map.mp hd
            rfl
          have := h.flr fl
          subst this
          exact .kl (Dens.rfl' fl)⟩
    | 3, hv => cases hv; exact ⟨_, by rw [List.getElem?_set_ne (by decide)]; exact p3, .str _⟩
    | 6, hv => cases hv; exact ⟨.ref a, List.getElem?_set_self (by omega), .lst (by simp) ha hD⟩
    | 1, hv | 2, hv | 4, hv | 5, hv | 7, hv | 8, hv | 9, hv | 10, hv | 11, hv | 12, hv | 13, hv | 14, hv | 15, hv | 16, hv => cases hv
    | i + 17, hv => simp at hv⟩
  -- the book
  have q7 := ve_at (w_una (fr_z (fr_makeX (c := "Book") (k := 1) (es := []) fr_Book_init)) (w_cons (w_v (i := 6)) w_nil)) (vs0 _) T6 (una_ok (cons_ok (ev_v rfl) nil_ok) (V.vbookX6 hw (prs.map V.PR) (by rw [V.pr_keys]; exact nd) (by rw [List.length_map]; omega) (fun p hp => by
    obtain ⟨q, _, rfl⟩ := List.mem_map.mp hp
    exact V.ruleV_lo)))
  obtain ⟨κ7, bk, g7, e7, ev7, V7, D7⟩ := q7
  obtain rfl := kn V7
  have old7 : ∀ (m : Nat) (o : Ob), g6[m]? = some o → g7[m]? = some o := fun m o h => by
    rw [ev7.old m (lt_of_get h) (by simp)]
    exact h
  have s7 := asg_ok (i := 7) e7
  -- one more pair
  have T7 : TR [] g7 ((τ5.set 6 (some (.ref a))).set 7 (some bk)) (V.t06 ns none none (some (.str sp)) none none none none none none none none none) := ⟨by rw [List.length_set, List.length_set, len5]; rfl, fun i v hv => by
    match i, hv with
    | 0, hv =>
      cases hv
      obtain ⟨d, y, hd⟩ := T6.at_ 0 _ rfl
      exact ⟨d, by rw [List.getElem?_set_ne (by decide)]; exact y, hd.mono ev7⟩
    | 3, hv => cases hv; exact ⟨_, by rw [List.getElem?_set_ne (by decide), List.getElem?_set_ne (by decide)]; exact p3, .str _⟩
    | 1, hv | 2, hv | 4, hv | 5, hv | 6, hv | 7, hv | 8, hv | 9, hv | 10, hv | 11, hv | 12, hv | 13, hv | 14, hv | 15, hv | 16, hv => cases hv
    | i + 17, hv => simp at hv⟩
  have q8 := ve_at (w_una fr_tup (w_cons (w_v (i := 3)) (w_cons (w_una (fr_cm fr_Rule_of) (w_cons (w_c (d := .str "any")) w_nil)) w_nil))) (vs0 _) T7 (una_ok (cons_ok (ev_v rfl) (cons_ok (una_ok (cons_ok ev_c nil_ok) (V.vrule_of hw ["any"] (by simp))) nil_ok)) (tup_ok (by simp)))
  obtain ⟨κ8, d8, g8, e8, ev8, V8, _⟩ := q8
  obtain rfl := kn V8
  have old8 : ∀ (m : Nat) (o : Ob), g7[m]? = some o → g8[m]? = some o := fun m o h => by
    rw [ev8.old m (lt_of_get h) (by simp)]
    exact h
  have ha8 : g8[a]? = some (.lst l) := old8 _ _ (old7 _ _ ha)
  have ha6 : ((τ5.set 6 (some (.ref a))).set 7 (some bk))[6]? = some (some (.ref a)) := by rw [List.getElem?_set_ne (by decide)]; exact List.getElem?_set_self (by omega)
  have ha7 : g7[a]? = some (.lst l) := old7 _ _ ha
  have s8 := drop_ok (bm_ok (t := .lst) (f := fApp) (o := mV 6) (ev_v ha6) (ty_lst ha7) (cons_ok e8 nil_ok) (app_at ha8 (by omega)))
  generalize hg9 : g8.set a (.lst (l ++ [d8])) = g9 at s8
  have old9 : ∀ (m : Nat) (o : Ob), m ≠ a → g7[m]? = some o → g9[m]? = some o := fun m o hm h => by
    rw [← hg9, List.getElem?_set_ne (Ne.symm hm)]
    exact old8 _ _ h
  -- the book's levels
  have bkd : ∃ (b m : Nat) (k : Bool) (l' : List (Str × D)), bk = .ref b ∧ g9[b]? = some (.ins "Book" [("_rules", .ref m)]) ∧ g9[m]? = some (.dct k (sd l')) ∧ l'.map (·.1) = prs.map (·.1) ∧ Denp [] g9 (sd l') (sd (prs.map V.PR)) := by
    cases D7 with
    | @obj b _ fl _ _ hb hf =>
      have hf : Denf [] g7 fl [("_rules", .pdct (sd (prs.map V.PR)))] := hf
      cases hf with
      | cons hd ht =>
        cases ht
        cases hd with
        | @dct m k lp _ _ hm hp =>
          obtain ⟨l', rfl, ek⟩ := dp_keys hp
          refine ⟨b, m, k, l', rfl, old9 _ _ (fun e => ?_) hb, old9 _ _ (fun e => ?_) hm, by rw [ek, V.pr_keys], dp_move (fun x c y h => old9 _ _ (fun e => ?_) h) hp⟩
          · subst e
            rw [ha7] at hb
            cases hb
          · subst e
            rw [ha7] at hm
            cases hm
          · subst e
            rw [ha7] at h
            cases h
  obtain ⟨b, m, k, l', rfl, hb, hm, ek, hp9⟩ := bkd
  have h77 : ((τ5.set 6 (some (.ref a))).set 7 (some (.ref b)))[7]? = some (some (.ref b)) := List.getElem?_set_self (by rw [List.length_set]; omega)
  have lv : f_Book_levels [.ref b] g9 = .ok (.ref g9.length) (g9 ++ [.lst ((prs.map (·.1)).map D.str)]) := by
    unfold f_Book_levels m_Book_levels
    have e := list_sd hm
    rw [ek] at e
    exact run_rt (ret_ok (una_ok (cons_ok (un_ok (ev_v rfl) (fld_ok hb (by simp) rfl)) nil_ok) e))
  have s9 := asg_ok (i := 8) (prop_ok (cs := cs_Book) (o := mV 7) (ev_v h77) hb (by simp) lv)
  have h88 : (((τ5.set 6 (some (.ref a))).set 7 (some (.ref b))).set 8 (some (.ref g9.length)))[8]? = some (some (.ref g9.length)) := List.getElem?_set_self (by rw [List.length_set, List.length_set]; omega)
  have h83 : (((τ5.set 6 (some (.ref a))).set 7 (some (.ref b))).set 8 (some (.ref g9.length)))[3]? = some (some (.str sp)) := by
    rw [List.getElem?_set_ne (by decide), List.getElem?_set_ne (by decide), List.getElem?_set_ne (by decide)]
    exact p3
  have ap := app_at (g := g9 ++ [.lst ((prs.map (·.1)).map D.str)]) (n := g9.length) (d := .str sp) end_get (by rw [List.length_map, List.length_map]; omega)
  rw [V.set_last6] at ap
  have s10 := drop_ok (bm_ok (t := .lst) (f := fApp) (o := mV 8) (ev_v h88) (ty_lst end_get) (cons_ok (ev_v h83) nil_ok) ap)
  -- the rest
  have oldF : ∀ (x : Nat) (o : Ob), x ≠ a → g5[x]? = some o → (g9 ++ [Ob.lst ((prs.map (·.1)).map D.str ++ [.str sp])])[x]? = some o := fun x o hx h => app_get (old9 _ _ hx (old7 _ _ (old6 _ _ h)))
  have tr : TR [] (g9 ++ [Ob.lst ((prs.map (·.1)).map D.str ++ [.str sp])]) (((τ5.set 6 (some (.ref a))).set 7 (some (.ref b))).set 8 (some (.ref g9.length))) (V.t06 ns (some (.plst (([(n : Int), r1, r2, r3] : List Int).map D.int))) (some (.plst ((prs.map (·.1)).map D.str))) (some (.str sp)) none (some (.plst (prs.map V.LT))) none (some (V.bookV (prs.map V.PR))) none none none none none) := ⟨by rw [List.length_set, List.length_set, List.length_set, len5]; rfl, fun i v hv => by
    have kp : ∀ (i : Nat) (x : Option D), i ≠ 6 → i ≠ 7 → i ≠ 8 → τ5[i]? = some x → (((τ5.set 6 (some (.ref a))).set 7 (some (.ref b))).set 8 (some (.ref g9.length)))[i]? = some x := fun i x c6 c7 c8 h => by
      rw [List.getElem?_set_ne (Ne.symm c8), List.getElem?_set_ne (Ne.symm c7), List.getElem?_set_ne (Ne.symm c6)]
      exact h
    match i, hv with
    | 0, hv =>
      cases hv
      refine ⟨d0, kp 0 _ (by decide) (by decide) (by decide) p0, ?_⟩
      cases D0 with
      | kl h =>
        have fl : D.fls (ns.map D.int) = true := wts_fl fun d hd => by
          obtain ⟨i, _, rfl⟩ := List.mem_map.mp hd
          rfl
        have := h.flr fl
        subst this
        exact .kl (Dens.rfl' fl)
    | 1, hv => cases hv; exact ⟨_, kp 1 _ (by decide) (by decide) (by decide) p1, .lst (by simp) (oldF _ _ na1 (by rw [h1, hrow])) (Dens.rfl' (hrow ▸ rfls))⟩
    | 2, hv => cases hv; exact ⟨_, kp 2 _ (by decide) (by decide) (by decide) p2, .lst (by simp) (oldF _ _ na2 h2) (Dens.rfl' (V.strs_fl _))⟩
    | 3, hv => cases hv; exact ⟨_, kp 3 _ (by decide) (by decide) (by decide) p3, .str _⟩
    | 5, hv => cases hv; exact ⟨_, kp 5 _ (by decide) (by decide) (by decide) p5, .lst (by simp) (oldF _ _ na5 h5) (Dens.rfl' lt_fls)⟩
    | 7, hv =>
      cases hv
      refine ⟨.ref b, by rw [List.getElem?_set_ne (by decide)]; exact h77, .obj (by simp) (app_get hb) (.cons (.dct (by simp) (app_get hm) (dp_move (fun x c y h => app_get h) hp9)) .nil)⟩
    | 4, hv | 6, hv | 8, hv | 9, hv | 10, hv | 11, hv | 12, hv | 13, hv | 14, hv | 15, hv | 16, hv => cases hv
    | i + 17, hv => simp at hv⟩
  obtain ⟨S, tl⟩ := V.tail6 (ns := ns) (prs := prs) (r1 := r1) (r2 := r2) (r3 := r3) (n := n) nd hl hn a2 a3 hs
  have q11 := vm_at vm_law_t (vs0 _) tr tl
  obtain ⟨κ2, d, g2, e11, _, _, hd⟩ := q11
  have hd : d = .bl true := hd.flr rfl
  subst hd
  refine ⟨g2, ?_⟩
  unfold f_law
  rw [law06_split]
  exact run_rt (seq_go e5 (seq_go e6 (seq_go s7 (seq_go s8 (seq_go s9 (seq_go s10 e11))))))
end
end My
namespace My
open PySem L2 RL
def spLaw (K : PySem.W.Frag) : Sp := fun vs H Q _ => ∃ (a : Addr) (ns : List Int), vs = [.ref a] ∧ SqL K H a (ns.map V.int) ∧ Only H ∧ ns.length ≤ 63 ∧ ∀ H', Q (.bl true) H'
theorem ints_rel {K : PySem.W.Frag} {ρ : List Addr} {H : Hp} : ∀ ns : List Int, RelDs K ρ H (ns.map D.int) (ns.map V.int)
  | [] => .nil
  | _ :: ns => .cons (.int _) (ints_rel ns)
theorem law_sp {K : PySem.W.Frag} {cn : Str → Addr} {P : Program} {w : World} : ∀ vs H Q E, spLaw K vs H Q E → spM ⟨K, cn, P, w⟩ 1 f_law vs H Q E := by
  rintro vs H Q E ⟨a, ns, rfl, hs, ho, hln, hq⟩
  have hf : SqF K H a (ns.map V.int) := by
    rcases hs with (hs | hs) | hs
    · rcases ho a with z | ⟨o, xs, z⟩
      · rw [z] at hs; cases hs
      · rw [z] at hs; cases hs
    · exact .inl hs
    · exact .inr hs
  obtain ⟨g', e⟩ := law_eq (ns := ns) hln
  refine ⟨[], [], [.kl (ns.map D.int)], rfl, .one (.kl hf (ints_rel ns)), ⟨rfl, List.nodup_nil, fun i o a h => by simp at h⟩, ?_⟩
  rw [e]
  intro ρ' v H' _ _ q
  cases q
  exact hq H'
theorem fx_mk {K : PySem.W.Frag} {h : Heap} {mg : Str → Option Value} (X : K.In h) (G : h.Ns mainGlobals mg) (c : HH.Says hfs hfn K) : ∃ (cn : Str → Addr) (_ : Fx K mg cn) (fd : FuncData), FunD K "law" "law" (defArgs s_law) (defBody s_law) (defScope s_law) [] [] 286 fd ∧ mg "law" = some (.ref 286) := by
  obtain ⟨cn, h_Rule, h_Book, h_Taken, h_Unknown⟩ : ∃ cn : Str → Addr, cn "Rule" = 138 ∧ cn "Book" = 203 ∧ cn "Taken" = 64 ∧ cn "Unknown" = 52 := ⟨fun c => if c = "Rule" then 138 else if c = "Book" then 203 else if c = "Taken" then 64 else 52, if_pos rfl, (if_neg (by decide)).trans (if_pos rfl), (if_neg (by decide)).trans ((if_neg (by decide)).trans (if_pos rfl)), (if_neg (by decide)).trans ((if_neg (by decide)).trans ((if_neg (by decide)).trans (rfl)))⟩
  obtain ⟨fd_wording, F_wording⟩ := c.dfn 0 rfl
  obtain ⟨fd_AccessError_init, F_AccessError_init⟩ := c.dfn 1 rfl
  obtain ⟨fd_Rule_init, F_Rule_init⟩ := c.dfn 2 rfl
  obtain ⟨fd_has_one_of, F_has_one_of⟩ := c.dfn 3 rfl
  obtain ⟨fd_Rule_of, F_Rule_of⟩ := c.dfn 4 rfl
  obtain ⟨fd_Rule_stances, F_Rule_stances⟩ := c.dfn 5 rfl
  obtain ⟨fd_Rule___and__, F_Rule___and__⟩ := c.dfn 6 rfl
  obtain ⟨fd_Rule___or__, F_Rule___or__⟩ := c.dfn 7 rfl
  obtain ⟨fd_Book_init, F_Book_init⟩ := c.dfn 8 rfl
  obtain ⟨fd_Book_levels, F_Book_levels⟩ := c.dfn 9 rfl
  obtain ⟨fd_Book___getitem__, F_Book___getitem__⟩ := c.dfn 10 rfl
  obtain ⟨fd_Book___contains__, F_Book___contains__⟩ := c.dfn 11 rfl
  obtain ⟨fd_Book___iter__, F_Book___iter__⟩ := c.dfn 12 rfl
  obtain ⟨fd_l_digits, F_l_digits⟩ := c.dfn 13 rfl
  obtain ⟨fd_l_name, F_l_name⟩ := c.dfn 14 rfl
  obtain ⟨fd_l_words, F_l_words⟩ := c.dfn 15 rfl
  obtain ⟨fd_l_stances, F_l_stances⟩ := c.dfn 16 rfl
  obtain ⟨fd_l_products, F_l_products⟩ := c.dfn 17 rfl
  obtain ⟨fd_l_holds, F_l_holds⟩ := c.dfn 18 rfl
  obtain ⟨fd_l_let, F_l_let⟩ := c.dfn 19 rfl
  obtain ⟨fd_l_rule, F_l_rule⟩ := c.dfn 20 rfl
  obtain ⟨fd_l_same, F_l_same⟩ := c.dfn 21 rfl
  obtain ⟨fd_l_told, F_l_told⟩ := c.dfn 22 rfl
  obtain ⟨fd_law, F_law⟩ := c.dfn 23 rfl
  obtain ⟨_, _, _, _, _, _, _, _, _, _, _, _, _, _, _, x_Taken, hn_Taken⟩ := HH.excB_ok (c.fact 84 rfl)
  obtain ⟨_, _, _, _, _, _, _, _, _, _, _, _, _, _, _, x_Unknown, hn_Unknown⟩ := HH.excB_ok (c.fact 102 rfl)
  exact ⟨cn, {
    a_wording := 73,
    fd_wording := fd_wording,
    a_AccessError_init := 36,
    fd_AccessError_init := fd_AccessError_init,
    a_Rule_init := 97,
    fd_Rule_init := fd_Rule_init,
    a_has_one_of := 212,
    fd_has_one_of := fd_has_one_of,
    a_Rule_of := 102,
    fd_Rule_of := fd_Rule_of,
    a_Rule_stances := 112,
    fd_Rule_stances := fd_Rule_stances,
    a_Rule___and__ := 118,
    fd_Rule___and__ := fd_Rule___and__,
    a_Rule___or__ := 123,
    fd_Rule___or__ := fd_Rule___or__,
    a_Book_init := 156,
    fd_Book_init := fd_Book_init,
    a_Book_levels := 173,
    fd_Book_levels := fd_Book_levels,
    a_Book___getitem__ := 181,
    fd_Book___getitem__ := fd_Book___getitem__,
    a_Book___contains__ := 188,
    fd_Book___contains__ := fd_Book___contains__,
    a_Book___iter__ := 195,
    fd_Book___iter__ := fd_Book___iter__,
    a_l_digits := 226,
    fd_l_digits := fd_l_digits,
    a_l_name := 233,
    fd_l_name := fd_l_name,
    a_l_words := 240,
    fd_l_words := fd_l_words,
    a_l_stances := 245,
    fd_l_stances := fd_l_stances,
    a_l_products := 252,
    fd_l_products := fd_l_products,
    a_l_holds := 257,
    fd_l_holds := fd_l_holds,
    a_l_let := 262,
    fd_l_let := fd_l_let,
    a_l_rule := 269,
    fd_l_rule := fd_l_rule,
    a_l_same := 276,
    fd_l_same := fd_l_same,
    a_l_told := 281,
    fd_l_told := fd_l_told,
    g_any := (PySem.W.mg_none_of X G (He.eqO_ok (c.fact 14 rfl))),
    g_bool := (PySem.W.mg_none_of X G (He.eqO_ok (c.fact 15 rfl))),
    g_int := (PySem.W.mg_none_of X G (He.eqO_ok (c.fact 16 rfl))),
    g_isinstance := (PySem.W.mg_none_of X G (He.eqO_ok (c.fact 17 rfl))),
    g_iter := (PySem.W.mg_none_of X G (He.eqO_ok (c.fact 18 rfl))),
    g_len := (PySem.W.mg_none_of X G (He.eqO_ok (c.fact 19 rfl))),
    g_list := (PySem.W.mg_none_of X G (He.eqO_ok (c.fact 20 rfl))),
    g_range := (PySem.W.mg_none_of X G (He.eqO_ok (c.fact 21 rfl))),
    g_str := (PySem.W.mg_none_of X G (He.eqO_ok (c.fact 22 rfl))),
    g_tuple := (PySem.W.mg_none_of X G (He.eqO_ok (c.fact 23 rfl))),
    fl_let := ⟨by decide +kernel, fun c hc => by
      simp only [cs_Rule, List.mem_cons, List.not_mem_nil, or_false] at hc
      subst hc
      rw [h_Rule]
      exact ⟨⟨(c.fact 24 rfl), (c.fact 25 rfl), (c.fact 26 rfl), (He.eqO_ok (c.fact 27 rfl))⟩, (He.eqO_ok (c.fact 28 rfl))⟩⟩,
    fl_rules := ⟨by decide +kernel, fun c hc => by
      simp only [cs_Book, List.mem_cons, List.not_mem_nil, or_false] at hc
      subst hc
      rw [h_Book]
      exact ⟨⟨(c.fact 29 rfl), (c.fact 30 rfl), (c.fact 31 rfl), (He.eqO_ok (c.fact 32 rfl))⟩, (He.eqO_ok (c.fact 33 rfl))⟩⟩,
    F_wording := HH.fun_of F_wording,
    m_wording := (PySem.W.mg_of X G (He.eqO_ok (c.fact 0 rfl))),
    F_AccessError_init := F_AccessError_init,
    F_Rule_init := HH.fun_of F_Rule_init,
    F_has_one_of := HH.fun_of F_has_one_of,
    m_has_one_of := (PySem.W.mg_of X G (He.eqO_ok (c.fact 1 rfl))),
    F_Rule_of := HH.fun_of F_Rule_of,
    F_Rule_stances := HH.fun_of F_Rule_stances,
    F_Rule___and__ := HH.fun_of F_Rule___and__,
    F_Rule___or__ := HH.fun_of F_Rule___or__,
    F_Book_init := HH.fun_of F_Book_init,
    F_Book_levels := HH.fun_of F_Book_levels,
    F_Book___getitem__ := HH.fun_of F_Book___getitem__,
    F_Book___contains__ := HH.fun_of F_Book___contains__,
    F_Book___iter__ := HH.fun_of F_Book___iter__,
    F_l_digits := HH.fun_of F_l_digits,
    m_l_digits := (PySem.W.mg_of X G (He.eqO_ok (c.fact 2 rfl))),
    F_l_name := HH.fun_of F_l_name,
    m_l_name := (PySem.W.mg_of X G (He.eqO_ok (c.fact 3 rfl))),
    F_l_words := HH.fun_of F_l_words,
    m_l_words := (PySem.W.mg_of X G (He.eqO_ok (c.fact 4 rfl))),
    F_l_stances := HH.fun_of F_l_stances,
    m_l_stances := (PySem.W.mg_of X G (He.eqO_ok (c.fact 5 rfl))),
    F_l_products := HH.fun_of F_l_products,
    m_l_products := (PySem.W.mg_of X G (He.eqO_ok (c.fact 6 rfl))),
    F_l_holds := HH.fun_of F_l_holds,
    m_l_holds := (PySem.W.mg_of X G (He.eqO_ok (c.fact 7 rfl))),
    F_l_let := HH.fun_of F_l_let,
    m_l_let := (PySem.W.mg_of X G (He.eqO_ok (c.fact 8 rfl))),
    F_l_rule := HH.fun_of F_l_rule,
    m_l_rule := (PySem.W.mg_of X G (He.eqO_ok (c.fact 9 rfl))),
    F_l_same := HH.fun_of F_l_same,
    m_l_same := (PySem.W.mg_of X G (He.eqO_ok (c.fact 10 rfl))),
    F_l_told := HH.fun_of F_l_told,
    m_l_told := (PySem.W.mg_of X G (He.eqO_ok (c.fact 11 rfl))),
    pr_Book_levels := ⟨fun _ => 174, fun c hc => by
      simp only [cs_Book, List.mem_cons, List.not_mem_nil, or_false] at hc
      subst hc
      rw [h_Book]
      exact ⟨⟨(c.fact 29 rfl), (c.fact 30 rfl), (c.fact 31 rfl), (He.eqO_ok (c.fact 32 rfl))⟩, ⟨(He.eqO_ok (c.fact 34 rfl)), (He.eqO_ok (c.fact 35 rfl)), (of_decide_eq_true (c.fact 36 rfl)), HH.recB_ok (c.fact 37 rfl)⟩⟩⟩,
    pr_Rule_stances := ⟨fun _ => 113, fun c hc => by
      simp only [cs_Rule, List.mem_cons, List.not_mem_nil, or_false] at hc
      subst hc
      rw [h_Rule]
      exact ⟨⟨(c.fact 24 rfl), (c.fact 25 rfl), (c.fact 26 rfl), (He.eqO_ok (c.fact 27 rfl))⟩, ⟨(He.eqO_ok (c.fact 38 rfl)), (He.eqO_ok (c.fact 39 rfl)), (of_decide_eq_true (c.fact 40 rfl)), HH.recB_ok (c.fact 41 rfl)⟩⟩⟩,
    bin_Rule_BitAnd := (by unfold BinOk; rw [h_Rule]; exact ⟨(c.fact 61 rfl), (He.eqO_ok (c.fact 62 rfl)), (c.fact 63 rfl)⟩),
    bin_Rule_BitOr := (by unfold BinOk; rw [h_Rule]; exact ⟨(c.fact 61 rfl), (He.eqO_ok (c.fact 64 rfl)), (c.fact 65 rfl)⟩),
    spc_Book___contains__ := (by unfold SpcOk; rw [h_Book]; exact ⟨(He.eqO_ok (c.fact 52 rfl)), (c.fact 53 rfl), (c.fact 54 rfl)⟩),
    spc_Book___getitem__ := (by unfold SpcOk; rw [h_Book]; exact ⟨(He.eqO_ok (c.fact 55 rfl)), (c.fact 56 rfl), (c.fact 57 rfl)⟩),
    spc_Book___iter__ := (by unfold SpcOk; rw [h_Book]; exact ⟨(He.eqO_ok (c.fact 58 rfl)), (c.fact 59 rfl), (c.fact 60 rfl)⟩),
    cm_Rule_of := (by rw [h_Rule]; exact ⟨.type "type", 104, ⟨(c.fact 77 rfl), (He.eqO_ok (c.fact 78 rfl))⟩, ⟨HH.getB_ok (c.fact 79 rfl), HH.recB_ok (c.fact 80 rfl), (c.fact 81 rfl)⟩⟩),
    gt_STANCES := ⟨83, (PySem.W.mg_of X G (He.eqO_ok (c.fact 75 rfl))), fun ρ H => RelD.tup (HH.tupA_ok (c.fact 76 rfl) H) (.cons (RelD.tup (HH.tupA_ok (c.fact 66 rfl) H) (.cons (.str (by decide +kernel)) (.cons (.str (by decide +kernel)) (.cons (.str (by decide +kernel)) (.cons (.str (by decide +kernel)) (.cons (.str (by decide +kernel)) (.cons (.str (by decide +kernel)) (.cons (.str (by decide +kernel)) (.nil))))))))) (.cons (RelD.tup (HH.tupA_ok (c.fact 67 rfl) H) (.cons (.str (by decide +kernel)) (.cons (.str (by decide +kernel)) (.cons (.str (by decide +kernel)) (.cons (.str (by decide +kernel)) (.cons (.str (by decide +kernel)) (.nil))))))) (.cons (RelD.tup (HH.tupA_ok (c.fact 68 rfl) H) (.cons (.str (by decide +kernel)) (.cons (.str (by decide +kernel)) (.cons (.str (by decide +kernel)) (.nil))))) (.cons (RelD.tup (HH.tupA_ok (c.fact 69 rfl) H) (.cons (.str (by decide +kernel)) (.cons (.str (by decide +kernel)) (.cons (.str (by decide +kernel)) (.cons (.str (by decide +kernel)) (.nil)))))) (.cons (RelD.tup (HH.tupA_ok (c.fact 70 rfl) H) (.cons (.str (by decide +kernel)) (.cons (.str (by decide +kernel)) (.cons (.str (by decide +kernel)) (.nil))))) (.cons (RelD.tup (HH.tupA_ok (c.fact 71 rfl) H) (.cons (.str (by decide +kernel)) (.cons (.str (by decide +kernel)) (.cons (.str (by decide +kernel)) (.nil))))) (.cons (RelD.tup (HH.tupA_ok (c.fact 72 rfl) H) (.cons (.str (by decide +kernel)) (.cons (.str (by decide +kernel)) (.nil)))) (.cons (RelD.tup (HH.tupA_ok (c.fact 73 rfl) H) (.cons (.str (by decide +kernel)) (.cons (.str (by decide +kernel)) (.nil)))) (.cons (RelD.tup (HH.tupA_ok (c.fact 74 rfl) H) (.cons (.str (by decide +kernel)) (.nil))) (.nil))))))))))⟩,
    mk_Rule := (by rw [h_Rule]; exact ⟨(c.fact 42 rfl), (He.eqO_ok (c.fact 43 rfl)), (c.fact 44 rfl), (c.fact 45 rfl)⟩),
    c_Rule := (by rw [h_Rule]; exact (PySem.W.mg_of X G (He.eqO_ok (c.fact 46 rfl)))),
    mk_Book := (by rw [h_Book]; exact ⟨(c.fact 47 rfl), (He.eqO_ok (c.fact 48 rfl)), (c.fact 49 rfl), (c.fact 50 rfl)⟩),
    c_Book := (by rw [h_Book]; exact (PySem.W.mg_of X G (He.eqO_ok (c.fact 51 rfl)))),
    c_Taken := (by rw [h_Taken]; exact (PySem.W.mg_of X G (He.eqO_ok (c.fact 101 rfl)))),
    c_Unknown := (by rw [h_Unknown]; exact (PySem.W.mg_of X G (He.eqO_ok (c.fact 117 rfl)))),
    ec_Taken := (by rw [h_Taken]; exact ⟨⟨⟨_, _, _, _, _, _, _, _, _, _, _, _, _, _, _, x_Taken, rfl⟩, (He.eqO_ok (c.fact 95 rfl)), (of_decide_eq_true (c.fact 93 rfl)), (of_decide_eq_true (c.fact 96 rfl)), (c.fact 97 rfl)⟩, ⟨_, ⟨(He.eqO_ok (c.fact 91 rfl)), (He.eqO_ok (c.fact 92 rfl)), (of_decide_eq_true (c.fact 93 rfl)), (c.fact 94 rfl), (He.eqO_ok (c.fact 86 rfl)), (He.eqO_ok (c.fact 87 rfl)), (of_decide_eq_true (c.fact 88 rfl)), (of_decide_eq_true (c.fact 89 rfl)), (c.fact 90 rfl), (HH.getB_ok (c.fact 85 rfl)), ⟨_, _, x_Taken, rfl⟩⟩, hn_Taken⟩, (He.eqO_ok (c.fact 98 rfl)), (He.eqO_ok (c.fact 99 rfl))⟩),
    ei_Taken := (by rw [h_Taken]; exact (He.eqO_ok (c.fact 100 rfl))),
    ec_Unknown := (by rw [h_Unknown]; exact ⟨⟨⟨_, _, _, _, _, _, _, _, _, _, _, _, _, _, _, x_Unknown, rfl⟩, (He.eqO_ok (c.fact 111 rfl)), (of_decide_eq_true (c.fact 109 rfl)), (of_decide_eq_true (c.fact 112 rfl)), (c.fact 113 rfl)⟩, ⟨_, ⟨(He.eqO_ok (c.fact 107 rfl)), (He.eqO_ok (c.fact 108 rfl)), (of_decide_eq_true (c.fact 109 rfl)), (c.fact 110 rfl), (He.eqO_ok (c.fact 104 rfl)), (He.eqO_ok (c.fact 87 rfl)), (of_decide_eq_true (c.fact 88 rfl)), (of_decide_eq_true (c.fact 105 rfl)), (c.fact 106 rfl), (HH.getB_ok (c.fact 103 rfl)), ⟨_, _, x_Unknown, rfl⟩⟩, hn_Unknown⟩, (He.eqO_ok (c.fact 114 rfl)), (He.eqO_ok (c.fact 115 rfl))⟩),
    ei_Unknown := (by rw [h_Unknown]; exact (He.eqO_ok (c.fact 116 rfl))),
    et := (of_decide_eq_true (c.fact 82 rfl)),
    g_ValueError := (PySem.W.mg_none_of X G (He.eqO_ok (c.fact 13 rfl))),
    ve := (HH.valB_ok (c.fact 83 rfl)),
    ex_Taken := fun c hc => by
      simp only [errsL, List.mem_cons, List.not_mem_nil, or_false] at hc
      rcases hc with rfl | rfl
      · rw [h_Taken]
        exact (by (try rw [h_Taken]); exact ((PySem.W.exm_ref (of_decide_eq_true (c.fact 93 rfl)) (c.fact 94 rfl) (of_decide_eq_true (c.fact 96 rfl)) (of_decide_eq_true (c.fact 118 rfl))).trans rfl))
      · rw [h_Unknown]
        exact (by (try rw [h_Taken]); exact ((PySem.W.exm_ref (of_decide_eq_true (c.fact 93 rfl)) (c.fact 94 rfl) (of_decide_eq_true (c.fact 96 rfl)) (of_decide_eq_true (c.fact 119 rfl))).trans rfl)),
    ex_Unknown := fun c hc => by
      simp only [errsL, List.mem_cons, List.not_mem_nil, or_false] at hc
      rcases hc with rfl | rfl
      · rw [h_Taken]
        exact (by (try rw [h_Unknown]); exact ((PySem.W.exm_ref (of_decide_eq_true (c.fact 109 rfl)) (c.fact 110 rfl) (of_decide_eq_true (c.fact 112 rfl)) (of_decide_eq_true (c.fact 120 rfl))).trans rfl))
      · rw [h_Unknown]
        exact (by (try rw [h_Unknown]); exact ((PySem.W.exm_ref (of_decide_eq_true (c.fact 109 rfl)) (c.fact 110 rfl) (of_decide_eq_true (c.fact 112 rfl)) (of_decide_eq_true (c.fact 121 rfl))).trans rfl)),
    xf_row := fun c hc => by
      simp only [errsL, List.mem_cons, List.not_mem_nil, or_false] at hc
      rcases hc with rfl | rfl
      · rw [h_Taken]
        exact ⟨⟨(He.eqO_ok (c.fact 91 rfl)), (He.eqO_ok (c.fact 92 rfl)), (of_decide_eq_true (c.fact 93 rfl)), (c.fact 94 rfl)⟩, (He.eqO_ok (c.fact 99 rfl))⟩
      · rw [h_Unknown]
        exact ⟨⟨(He.eqO_ok (c.fact 107 rfl)), (He.eqO_ok (c.fact 108 rfl)), (of_decide_eq_true (c.fact 109 rfl)), (c.fact 110 rfl)⟩, (He.eqO_ok (c.fact 115 rfl))⟩,
    xf_what := fun c hc => by
      simp only [errsL, List.mem_cons, List.not_mem_nil, or_false] at hc
      rcases hc with rfl | rfl
      · rw [h_Taken]
        exact ⟨⟨(He.eqO_ok (c.fact 91 rfl)), (He.eqO_ok (c.fact 92 rfl)), (of_decide_eq_true (c.fact 93 rfl)), (c.fact 94 rfl)⟩, (He.eqO_ok (c.fact 98 rfl))⟩
      · rw [h_Unknown]
        exact ⟨⟨(He.eqO_ok (c.fact 107 rfl)), (He.eqO_ok (c.fact 108 rfl)), (of_decide_eq_true (c.fact 109 rfl)), (c.fact 110 rfl)⟩, (He.eqO_ok (c.fact 114 rfl))⟩ }, fd_law, F_law, (PySem.W.mg_of X G (He.eqO_ok (c.fact 12 rfl)))⟩
end My
theorem PySem.Challenge.cw_whomayname_k06_book_levels_and_rules_holds : PySem.Challenge.rw_whomayname_k06_book_levels_and_rules.Holds := by
  w_on; o_law
  refine HandSHeadRun.head_any (r := My.hR) (q := My.hqv) (H := HH.hk My.has My.hfs My.hfn) (ob := HH.obT My.has My.hfs My.hfn) (M := 40000) (loose := My.hnames) (d := HandSHeadRun.topDef My.hR.prog 23) (kwd := []) HH.obT_eq
    (by kernel_rfl) (fun s => by kernel_rfl) My.hrun (by kernel_rfl) (by kernel_rfl) (by kernel_rfl) (by rfl) (by first | assumption | decide +kernel) (by decide +kernel) ⟨rfl, rfl, rfl, rfl, rfl, by decide +kernel⟩ ?hw ?hc
  case hw => w_witness2
  case hc =>
    refine HH.walkX (l := PySem.Challenge.rw_whomayname_k06_book_levels_and_rules) (n := 63) (k := 12) (x := "_law_script") rfl (by decide) (by kernel_rfl) ⟨rfl, by decide, by decide⟩ ?F
    intro w mg fa h Y G hm
    obtain ⟨K, X, c⟩ := Y
    have e : (HandSHeadRun.topDef My.hR.prog 23).name = ("law" : PySem.Str) := by kernel_rfl
    rw [e] at hm
    obtain ⟨cn, T, fd, Fl, ml⟩ := My.fx_mk X G c
    have e2 := hm.symm.trans ml
    injection e2 with e2
    injection e2 with e2
    subst e2
    have b := L2.FunD.bindsA (ps := ["_law_script"]) Fl fun _ _ _ _ _ _ us hl => match us, hl with | [_], _ => rfl
    exact ⟨K, fd, My.spLaw K, X, fun s u => b s [u] rfl, fun H a ns hl hO hS => ⟨a, ns, rfl, hS, hO, hl, fun _ => rfl⟩, fun base _ _ => (RL.fnM (HH.fun_of Fl) My.sc_law (My.b_law T)).imp My.law_sp⟩
