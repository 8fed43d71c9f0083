import PyProof.Rows.All
import Wide.All
import OpenK.AllK
import Wide.FinOn
import HandS.ForMost
import HandS.IsInst
import HandS.Evl
import HandS.ClsMeth
import HandS.Star
import HandS.Property
import HandS.Deep
import HandS.Conv
import PySem.Challenge.RW_whomayname_k07_book_order
set_option Elab.async false
set_option linter.all false
set_option maxRecDepth 100000
set_option maxHeartbeats 4000000
namespace My
open PySem L2
def topS (i : Nat) : Stmt := PySem.Challenge.pw_whomayname_k07_book_order.main.body.getD i (.Pass ⟨0, 0, 0, 0⟩)
end My
namespace My
open PySem L2 ClX
open Evl (pss_cut)
structure Gls (mg : Str → Option Value) : Prop where
  len : mg "len" = none
  range : mg "range" = none
  int : mg "int" = none
def DigOk (szs ds : List Int) : Prop := ds.length = szs.length ∧ ∀ (i : Nat) (d s : Int), ds[i]? = some d → szs[i]? = some s → 0 ≤ d ∧ d < s
theorem DigOk.snoc {szs ds : List Int} {i : Nat} (h : DigOk (szs.take i) ds) (hi : i < szs.length) {m : Int} (hp : 0 < szs[i]) : DigOk (szs.take (i + 1)) (ds ++ [m % szs[i]]) := by
  obtain ⟨h1, h2⟩ := h
  have e : szs.take (i + 1) = szs.take i ++ [szs[i]] := (List.take_append_getElem hi).symm
  refine ⟨by rw [e, List.length_append, List.length_append, h1]; rfl, fun k d s hd hs => ?_⟩
  rw [e] at hs
  by_cases hk : k < ds.length
  · rw [List.getElem?_append_left hk] at hd
    rw [List.getElem?_append_left (by omega)] at hs
    exact h2 k d s hd hs
  · rw [List.getElem?_append_right (by omega)] at hd
    rw [List.getElem?_append_right (by omega)] at hs
    have h0 : k - ds.length = 0 := by
      rcases List.getElem?_eq_some_iff.mp hd with ⟨q, _⟩
      simpa using q
    rw [h0] at hd
    rw [← h1, h0] at hs
    cases hd
    cases hs
    exact ⟨Int.emod_nonneg _ (by omega), Int.emod_lt_of_pos _ hp⟩
/-- one digit more: the cell and the digits so far -/
def digSt (g : Bool) (j : Int) (st : Int × List Int) (s : Int) : Int × List Int :=
  let k : Int := (st.2.length : Int)
  let m1 : Int := (st.1 * 48271 + j * 1009 + k * 69621 + 5) % 2147483647
  let m2 : Int := (m1 * m1 + st.1 + k * 7919) % 2147483629 / 7
  (if g then st.1 / s else st.1, st.2 ++ [(if g then st.1 else m2) % s])
def cell0 (ns : List Int) (j : Nat) : Int := ns[j]?.getD 0
def digF (ns : List Int) (j : Nat) (szs : List Int) : List Int := (szs.foldl (digSt (decide ((10 : Int) ^ (18 : Int).toNat ≤ cell0 ns j)) j) (cell0 ns j, [])).2
def spDig (K : PySem.W.Frag) : Sp := fun vs H Q _ => ∃ (a b : Addr) (ns szs : List Int) (j : Nat), vs = [.ref a, .int j, .ref b] ∧ SqL K H a (ns.map V.int) ∧ ns.length ≤ 63 ∧ j ≤ 1000 ∧
  SqL K H b (szs.map V.int) ∧ szs.length ≤ 64 ∧ (∀ s ∈ szs, 0 < s ∧ s ≤ 1000) ∧
  ∀ ds H' p, DigOk szs ds → ds = digF ns j szs → Same H H' → H p = none → H' p = some (.lst (ds.map V.int)) → Q (.ref p) H'
structure GlsI (mg : Str → Option Value) : Prop where
  isi : mg "isinstance" = none
  bool : mg "bool" = none
  str : mg "str" = none
  tuple : mg "tuple" = none
  list : mg "list" = none
def okD : Nat → PyData → Prop
  | 0, _ => False
  | _ + 1, .none => True
  | _ + 1, .bool _ => True
  | _ + 1, .int _ => True
  | _ + 1, .str _ => True
  | n + 1, .tuple ds => ds.length ≤ 1000 ∧ ∀ d ∈ ds, okD n d
  | n + 1, .list ds => ds.length ≤ 1000 ∧ ∀ d ∈ ds, okD n d
  | _ + 1, _ => False
def tyN : PyData → String
  | .none => "NoneType"
  | .bool _ => "bool"
  | .int _ => "int"
  | .str _ => "str"
  | .tuple _ => "tuple"
  | _ => "list"
theorem tyx_L {K : PySem.W.Frag} {H : Hp} {a : Addr} {xs : List V} (h : SqL K H a xs) : TyX K H (.ref a) (.type "list") := by
  rcases h with (h | ⟨o, h⟩) | ⟨o, its, n, h, c, _⟩
  · exact .base (.lst h)
  · exact .base (.frz h)
  · exact .kList h c
theorem tyx_T {K : PySem.W.Frag} {H : Hp} {a : Addr} {xs : List V} (h : SqT K H a xs) : TyX K H (.ref a) (.type "tuple") := by
  rcases h with (h | ⟨o, h⟩) | ⟨o, its, n, h, c, _⟩
  · exact .base (.tup h)
  · exact .fTuple h
  · exact .kTuple h c
theorem tyx_D {K : PySem.W.Frag} {H : Hp} {x : V} {d : PyData} (h : Dp K H x d) : TyX K H x (.type (tyN d)) := by
  cases h with
  | non => exact .base .non
  | bl b => exact .base (.bl b)
  | int i => exact .base (.int i)
  | str s => exact .base (.str s)
  | lst h _ => exact tyx_L h
  | tup h _ => exact tyx_T h
theorem isi_D {K : PySem.W.Frag} {H : Hp} {x : V} {d : PyData} {c : String} {b : Bool} {Q : VK} (h : Dp K H x d) (e : kitB (tyN d) c = some b) (q : Q (.bl b) H) : rIsi K [x, .ty c] H Q :=
  ⟨x, _, _, _, b, rfl, .ty c, tyx_D h, kit_ty e, q⟩
theorem dpa_get {K : PySem.W.Frag} {H : Hp} : ∀ {xs : List V} {ds : List PyData}, DpAll K H xs ds → ∀ {i : Nat} {d : PyData}, ds[i]? = some d → ∃ x, xs[i]? = some x ∧ Dp K H x d
  | _, _, .nil, _, _, h => by simp at h
  | _, _, .cons h _, 0, _, e => by
    cases e
    exact ⟨_, rfl, h⟩
  | _, _, .cons _ t, i + 1, d, e => by
    obtain ⟨x, h1, h2⟩ := dpa_get t (i := i) (d := d) (by simpa using e)
    exact ⟨x, by simpa using h1, h2⟩
theorem dpa_len {K : PySem.W.Frag} {H : Hp} : ∀ {xs : List V} {ds : List PyData}, DpAll K H xs ds → xs.length = ds.length
  | _, _, .nil => rfl
  | _, _, .cons _ t => by rw [List.length_cons, List.length_cons, dpa_len t]
def spSame (K : PySem.W.Frag) (n : Nat) : Sp := fun vs H Q _ => ∃ (x y : V) (d : PyData), vs = [x, y] ∧ Dp K H x d ∧ Dp K H y d ∧ okD n d ∧ Q (.bl true) H
def stanD : List (List Str) := [["own", "nested", "around", "below", "heir", "package", "any"], ["nested", "below", "heir", "package", "any"], ["around", "package", "any"], ["below", "heir", "package", "any"], ["below", "heir", "any"], ["heir", "package", "any"], ["heir", "any"], ["package", "any"], ["any"]]
def sV (l : List Str) : List V := l.map V.str
theorem flat_sV (l : List Str) : (sV l).all flatV = true := by
  unfold sV
  rw [List.all_map]
  exact List.all_eq_true.mpr fun _ _ => rfl
theorem inV_sV (x : Str) : ∀ l : List Str, inV (.str x) (sV l) = decide (x ∈ l)
  | [] => rfl
  | y :: l => by
    have ih := inV_sV x l
    unfold inV sV at ih ⊢
    rw [List.map_cons, List.any_cons, ih]
    have e : eqV (.str y) (.str x) = decide (x = y) := by
      by_cases h : x = y
      · subst h; simp [eqV]
      · have h' : ¬ y = x := fun z => h z.symm
        simp [eqV, h, h']
    rw [e]
    by_cases h : x = y <;> simp [h]
/-- the tuples of texts at as, one a stance -/
def TupsAt (K : PySem.W.Frag) (H : Hp) (as : List Addr) (ds : List (List Str)) : Prop := Paired (fun a d => SqT K H a (sV d)) as ds
theorem Same.seqT {K : PySem.W.Frag} {H H' : Hp} {a : Addr} {xs : List V} (e : Same H H') (h : SqT K H a xs) : SqT K H' a xs := by
  rcases h with (h | ⟨o, h⟩) | h
  · exact .inl (.inl (e _ _ h))
  · exact .inl (.inr ⟨o, e _ _ h⟩)
  · exact .inr h
theorem same_new {H : Hp} {p : Addr} {o : HO} (h : H p = none) : Same H (upd H p o) := fun b u e => by rw [upd_ne (ne_of_none e h)]; exact e
theorem same_up {H H' : Hp} {p : Addr} {o : HO} (s : Same H H') (h : H p = none) : Same H (upd H' p o) := fun b u e => by rw [upd_ne (ne_of_none e h)]; exact s b u e
theorem TupsAt.mono {K : PySem.W.Frag} {H H' : Hp} (s : Same H H') : ∀ {as : List Addr} {ds : List (List Str)}, TupsAt K H as ds → TupsAt K H' as ds
  | _, _, .nil => .nil
  | _, _, .cons h t => .cons (Same.seqT s h) (TupsAt.mono s t)
theorem TupsAt.len {K : PySem.W.Frag} {H : Hp} {as : List Addr} {ds : List (List Str)} (h : TupsAt K H as ds) : as.length = ds.length := Paired.length h
theorem TupsAt.get {K : PySem.W.Frag} {H : Hp} : ∀ {as : List Addr} {ds : List (List Str)}, TupsAt K H as ds → ∀ {i : Nat} {a : Addr}, as[i]? = some a → ∃ d, ds[i]? = some d ∧ SqT K H a (sV d)
  | _, _, .nil, _, _, e => by simp at e
  | _, _, .cons h _, 0, _, e => by
    cases e
    exact ⟨_, rfl, h⟩
  | _, _, .cons _ t, i + 1, a, e => by
    obtain ⟨d, h1, h2⟩ := TupsAt.get t (i := i) (a := a) (by simpa using e)
    exact ⟨d, by simpa using h1, h2⟩
theorem TupsAt.snoc {K : PySem.W.Frag} {H : Hp} : ∀ {as : List Addr} {ds : List (List Str)} {a : Addr} {d : List Str}, TupsAt K H as ds → SqT K H a (sV d) → TupsAt K H (as ++ [a]) (ds ++ [d])
  | _, _, _, _, .nil, h => .cons h .nil
  | _, _, _, _, .cons q t, h => .cons q (TupsAt.snoc t h)
/-- a Rule stands at r, it lets ds -/
def RuleAt (K : PySem.W.Frag) (C : Addr) (H : Hp) (r : Addr) (ds : List (List Str)) : Prop := ∃ (dx t : Addr) (as : List Addr), H r = some (.ins C dx [("_let", .ref t)]) ∧ H t = some (.tup (as.map V.ref)) ∧ TupsAt K H as ds
theorem RuleAt.mono {K : PySem.W.Frag} {C : Addr} {H H' : Hp} {r : Addr} {ds : List (List Str)} (s : Same H H') (h : RuleAt K C H r ds) : RuleAt K C H' r ds := by
  obtain ⟨dx, t, as, h1, h2, h3⟩ := h
  exact ⟨dx, t, as, s _ _ h1, s _ _ h2, h3.mono s⟩
theorem take_snoc {α : Type} {l : List α} {i : Nat} {x : α} (h : l[i]? = some x) : l.take (i + 1) = l.take i ++ [x] := by
  obtain ⟨hi, e⟩ := List.getElem?_eq_some_iff.mp h
  rw [← e]
  exact (List.take_append_getElem hi).symm
structure GlsR (K : PySem.W.Frag) (mg : Str → Option Value) (C aS : Addr) : Prop where
  cl : Cls K C
  nL : NoAttr K C "_let"
  tuple : mg "tuple" = none
  any : mg "any" = none
  mS : mg "STANCES" = some (.ref aS)
  st : ∃ as : List Addr, (∀ H, SqT K H aS (as.map V.ref)) ∧ ∀ H, TupsAt K H as stanD
def spRInit (K : PySem.W.Frag) (C : Addr) : Sp := fun vs H Q _ => ∃ (r dx l : Addr) (xs : List V), vs = [.ref r, .ref l] ∧ H r = some (.ins C dx []) ∧ SqL K H l xs ∧ xs.length ≤ 1000 ∧
  ∀ t, H t = none → Q .non (upd (upd H t (.tup xs)) r (.ins C dx [("_let", .ref t)]))
def spHas (K : PySem.W.Frag) : Sp := fun vs H Q _ => ∃ (a b : Addr) (st ws : List Str), vs = [.ref a, .ref b] ∧ SqT K H a (sV st) ∧ SqT K H b (sV ws) ∧ ws.length ≤ 1000 ∧ ∀ H', Same H H' → Q (.bl (ws.any fun x => decide (x ∈ st))) H'
/-- x(e, ..), the i-th slot holds the class at C -/
def tMakeL (i : Nat) (C : Addr) (sp : Sp) (E : XK) (t : TA) : TE := fun σ H Q => σ[i]? = some (some (.ref C)) ∧ tMake C sp [] E t σ H Q
theorem pe_makeL {X : Cx} {CX : CXT} {k i : Nat} {f C : Addr} {fd : FuncData} {ps : List Str} {sp : Sp} {E : XK} {x : Str} {p pos : Pos} {e : Expr} {es : List Expr} {t : TA}
    (M : Mk X.K C f) (F : FnOk X.prog X.w X.K X.mg X.base CX k f fd ps sp) (hr : Room (k + 1) X.A) (hN : X.N[i]? = some x) (hv : Vis X.env.scope x) (hb : Binds X.K fd ps []) (hx : Passes CX X E) (ha : PA X (e :: es) t)
    (hdb : (x == ("__debug__" : Str)) = false := by decide) (hcd : (x == ("__classdict__" : Str)) = false := by decide)
    (he : starEach (e :: es) X.env = (false, eval e X.env) :: starEach es X.env := by rfl) (hpl : (backTo pos (starEach es X.env)).any (·.1) = false := by rfl) : PE X (.Call (.Name x p) (e :: es) [] pos) (tMakeL i C sp E t) := by
  constructor
  rintro pins s σ H Q I ⟨hs, ht⟩
  apply wpAny_Call_Name_kw
  apply thn ((pe_var (pos := p) hN hv hdb hcd).run pins s σ H (fun v H1 => v = .ref C ∧ H1 = H) I ⟨.ref C, hs, rfl, rfl⟩)
  rintro u s1 ⟨v, H1, I1, r1, rfl, rfl⟩
  cases r1
  apply PySem.W.callWith_K (h₀ := X.base) I.ok.mod.kin M.kp _ he hpl
  apply thn (ha.run pos pins s1 σ _ _ I1 ht)
  rintro us s2 ⟨vs, H2, I2, r, q⟩
  exact ⟨I2.kIn, run_make M F hr hb .nil hx I2 r q⟩
def letOf (ws : List Str) : List (List Str) := stanD.filter fun st => ws.any fun x => decide (x ∈ st)
def spOf0 (K : PySem.W.Frag) (C : Addr) : Sp := fun vs H Q _ => ∃ (b : Addr) (ws : List Str), vs = [.ref C, .ref b] ∧ SqT K H b (sV ws) ∧ ws.length ≤ 1000 ∧
  ∀ r H', H r = none → Same H H' → RuleAt K C H' r (letOf ws) → Q (.ref r) H'
def spOf (K : PySem.W.Frag) (C : Addr) : Sp := fun vs H Q _ => ∃ (ws : List Str), vs = V.ref C :: sV ws ∧ ws.length ≤ 1000 ∧
  ∀ r H', H r = none → Same H H' → RuleAt K C H' r (letOf ws) → Q (.ref r) H'
theorem filter_take_snoc {α : Type} {l : List α} {i : Nat} {x : α} (p : α → Bool) (h : l[i]? = some x) : (l.take (i + 1)).filter p = (l.take i).filter p ++ (if p x = true then [x] else []) := by
  rw [take_snoc h, List.filter_append]
  congr 1
  by_cases e : p x = true
  · rw [if_pos e, List.filter_cons, if_pos e]; rfl
  · rw [if_neg e, List.filter_cons, if_neg e]; rfl
theorem same_free {H H' : Hp} (e : Same H H') {l : Addr} (h : H' l = none) : H l = none := Same.free e h

theorem seqT_updL {K : PySem.W.Frag} {H : Hp} {D q : Addr} {l l' xs : List V} (hD : H D = some (.lst l)) (hq : SqT K H q xs) : SqT K (upd H D (.lst l')) q xs := by
  rcases hq with (hq | ⟨o, hq⟩) | hq
  · exact .inl (.inl (by rw [upd_ne (ne_of hq hD (by intro z; cases z))]; exact hq))
  · exact .inl (.inr ⟨o, by rw [upd_ne (ne_of hq hD (by intro z; cases z))]; exact hq⟩)
  · exact .inr hq
theorem TupsAt.updL {K : PySem.W.Frag} {H : Hp} {D : Addr} {l l' : List V} {as : List Addr} {ds : List (List Str)} (hD : H D = some (.lst l)) (h : TupsAt K H as ds) : TupsAt K (upd H D (.lst l')) as ds :=
  Paired.mapP h fun _ _ q => seqT_updL hD q
def wordsD : List Str := ["own", "nested", "around", "below", "heir", "package", "any"]
def spRSt (C : Addr) : Sp := fun vs H Q _ => ∃ (r dx t : Addr), vs = [.ref r] ∧ H r = some (.ins C dx [("_let", .ref t)]) ∧ Q (.ref t) H
def spWords : Sp := fun vs H Q _ => vs = [] ∧ ∀ p H', H p = none → Same H H' → H' p = some (.lst (sV wordsD)) → Q (.ref p) H'
/-- a list of new tuples of texts -/
def spStans (K : PySem.W.Frag) : Sp := fun vs H Q _ => vs = [] ∧ ∀ p H' as, H p = none → Same H H' → H' p = some (.lst (as.map V.ref)) → TupsAt K H' as stanD → Q (.ref p) H'
def textsD : List Str := ["own nested around below heir package any", "nested below heir package any", "around package any", "below heir package any", "below heir any", "heir package any", "heir any", "package any", "any"]
theorem pe_cmeth0 {X : Cx} {CX : CXT} {k : Nat} {C p g : Addr} {mc : Value} {sp : Sp} {E : XK} {o : Expr} {m : Str} {pos apos : Pos} {ta : TE} {pl : Sem Bool} (he : PE X o ta) (r : CRead X.K C mc) (c : CMet X.K C mc m p g)
    (F : FnR X.prog X.w X.K X.mg X.base CX k g sp) (hr : Room k X.A) (hx : Passes CX X E)
    (ht : eval (.Call (.Attribute o m apos) [] [] pos) X.env = (do let ov ← eval o X.env; standAt apos.atName; let (f, first) ← holding [ov] (getMethod ov m pl); callWith pos f first (backTo pos (starEach [] X.env)) (backToKw pos (keywordEach [] X.env))) := by rfl) :
    PE X (.Call (.Attribute o m apos) [] [] pos) (tCMeth C sp E ta tNil) := by
  constructor
  rintro pins s σ H Q I h
  refine PySem.W.methodCall_KW (pl := pl) (thn (he.run pins s σ H _ I h) ?_) ht
  rintro u s1 ⟨x, H1, I1, rx, ex, q⟩
  subst ex
  obtain rfl : u = Value.ref C := rx
  refine getmethcm_ok I1 r c ?_
  intro s2 I2
  exact PySem.W.callWith_M0 (first := []) ⟨pin_at I2, I2.kIn⟩ c.fi (run_cm (us := []) (vs := []) F hr hx I2 .nil q)
theorem qI {n : Nat} {k : Int} {A B : Prop} (h : (n : Int) = k) (a : A) : if decide (V.int (n : Int) = V.int k) = true then A else B := by
  rw [if_pos (decide_eq_true (congrArg V.int h))]
  exact a
theorem qIn {n : Nat} {k : Int} {A B : Prop} (h : (n : Int) ≠ k) (b : B) : if decide (V.int (n : Int) = V.int k) = true then A else B := by
  rw [if_neg (by rw [decide_eq_true_eq]; exact fun e => h (V.int.inj e))]
  exact b
structure GlsC (K : PySem.W.Frag) (mg : Str → Option Value) (C : Addr) (mc : Value) (pO fO : Addr) : Prop where
  mR : mg "Rule" = some (.ref C)
  rd : CRead K C mc
  ofM : CMet K C mc "of" pO fO
def tD (st : List Str) : PyData := .tuple (st.map PyData.str)
theorem dpa_strs {K : PySem.W.Frag} {H : Hp} : ∀ l : List Str, DpAll K H (sV l) (l.map PyData.str)
  | [] => .nil
  | x :: l => .cons (.str x) (dpa_strs l)
theorem dpa_tups {K : PySem.W.Frag} {H : Hp} : ∀ {as : List Addr} {ds : List (List Str)}, TupsAt K H as ds → DpAll K H (as.map V.ref) (ds.map tD)
  | _, _, .nil => .nil
  | _, _, .cons h t => .cons (.tup h (dpa_strs _)) (dpa_tups t)
theorem okD_let (ds : List (List Str)) (h : ∀ d ∈ ds, d.length ≤ 1000) (hl : ds.length ≤ 1000) : okD 3 (.tuple (ds.map tD)) := by
  refine ⟨by rw [List.length_map]; exact hl, fun d hd => ?_⟩
  obtain ⟨st, h1, rfl⟩ := List.mem_map.mp hd
  refine ⟨by rw [List.length_map]; exact h st h1, fun e he => ?_⟩
  obtain ⟨x, _, rfl⟩ := List.mem_map.mp he
  trivial
theorem okD_of (ws : List Str) : okD 3 (.tuple ((letOf ws).map tD)) := by
  refine okD_let _ (fun d hd => ?_) (Nat.le_trans (List.length_filter_le _ _) (by decide))
  have m := (List.mem_filter.mp hd).1
  have q : (stanD.all fun d => decide (d.length ≤ 1000)) = true := by decide +kernel
  exact of_decide_eq_true (List.all_eq_true.mp q d m)
theorem word_at {c : Int} (h : 0 ≤ c ∧ c < 7) : ∃ x, atI (sV wordsD) c = some (.str x) := by
  obtain ⟨n, rfl⟩ := Int.eq_ofNat_of_zero_le h.1
  have hn : n < wordsD.length := by have := h.2; show n < 7; omega
  exact ⟨wordsD[n], atI_nat (by unfold sV; rw [List.getElem?_map, List.getElem?_eq_getElem hn]; rfl)⟩
end My
namespace My
open PySem L2 ClX
open Evl (pss_cut)
abbrev sDig : Stmt := topS 13
theorem scDig : FnScope ["_law_script", "_law_at", "_law_sizes", "_law_cell", "_law_great", "_law_row", "_law_k", "_law_mixed"] ["_law_script", "_law_at", "_law_sizes"] (defScope sDig) := ⟨rfl, rfl, rfl, by decide +kernel, rfl, by decide +kernel, by decide +kernel⟩
section
variable {P : Program} {w : World} {K : PySem.W.Frag} {mg : Str → Option Value} {base : Heap}
theorem ok_dig {f : Addr} {fd : FuncData} (F : Fun K "_law_digits" "_law_digits" sDig f fd) (T : Gls mg) : FnOk P w K mg base CX0 1 f fd ["_law_script", "_law_at", "_law_sizes"] (spDig K) := by
  refine F.ok scDig (fun vs H Q E h => ?_) (fun cdv A outer s H vs Q E hr h => ?_)
  · obtain ⟨a, b, ns, szs, j, rfl, _⟩ := h
    rfl
  · obtain ⟨a, b, ns, szs, j, rfl, hA, hn, hj, hB, hz, hs, k⟩ := h
    have nd := scDig.nd
    refine ⟨_, pss_cons (ps_set (i := 3) nd rfl (.inl rfl) pe_int)
      (pss_cut (ps_if (pt_cmpR op_lt (pv 1) (pe_callB call_len_seq (by rfl) T.len PySem.boot_len (pa_cons (pv 0) pa_nil)) (nomark _)) (pss_one (ps_set (i := 3) nd rfl (.inl rfl) (pe_ix ix_list (pv 0) (pv 1) (fun _ _ => rfl)))) pss_nil)
      (pss_cons (ps_set (i := 4) nd rfl (.inl rfl) (pe_cmpR op_ge (pv 3) (pe_op op_pow pe_int pe_int) (nomark _)))
      (pss_cons (ps_set (i := 5) nd rfl (.inl rfl) (pe_lst pa_nil))
      (pss_cons (ps_for PassesOwn.never rfl (pi_range1 rfl T.range (pa_cons (pe_callB call_len_seq (by rfl) T.len PySem.boot_len (pa_cons (pv 2) pa_nil)) pa_nil)) (pg_name (i := 6) nd rfl (Or.inl rfl))
        (pss_cons (ps_set (i := 7) nd rfl (.inl rfl) (pe_op op_mod (pe_callTy call_int1 (by rfl) T.int (by decide +kernel) (pa_cons (pe_op op_add (pe_op op_add (pe_op op_add (pe_op op_mul (pv 3) pe_int) (pe_op op_mul (pv 1) pe_int)) (pe_op op_mul (pv 6) pe_int)) pe_int) pa_nil)) pe_int))
        (pss_cons (ps_set (i := 7) nd rfl (.inl rfl) (pe_op op_fdiv (pe_op op_mod (pe_callTy call_int1 (by rfl) T.int (by decide +kernel) (pa_cons (pe_op op_add (pe_op op_add (pe_op op_mul (pv 7) (pv 7)) (pv 3)) (pe_op op_mul (pv 6) pe_int)) pa_nil)) pe_int) pe_int))
        (pss_cut (ps_if (pt_val (pv 4)) (pss_cons (ps_set (i := 7) nd rfl (.inl rfl) (pv 3)) (pss_one (ps_set (i := 3) nd rfl (.inl rfl) (pe_op op_fdiv (pv 3) (pe_ix ix_list (pv 2) (pv 6) (fun _ _ => rfl)))))) pss_nil)
        (pss_one (ps_expr (pe_bm PySem.F.plainAttrs_list PySem.F.slot_list_append PySem.F.type_list_append mt_append (pv 5) (pa_cons (pe_op op_mod (pe_callTy call_int1 (by rfl) T.int (by decide +kernel) (pa_cons (pv 7) pa_nil)) (pe_ix ix_list (pv 2) (pv 6) (fun _ _ => rfl))) pa_nil))))))))
      (pss_one (ps_ret (pv 5))))))), ?_⟩
    refine ⟨fun σ H1 => H1 = H ∧ ∃ c : Int, c = cell0 ns j ∧ σ = [some (.ref a), some (.int j), some (.ref b), some (.int c), none, none, none, none], ?_, ?_⟩
    · have hge : ¬ decide ((j : Int) < ((ns.map V.int).length : Int)) = true → (0 : Int) = cell0 ns j := fun h => by
        have h2 : ns.length ≤ j := by
          have h3 : ¬ ((j : Int) < ((ns.map V.int).length : Int)) := fun q => h (decide_eq_true q)
          rw [List.length_map] at h3
          omega
        unfold cell0
        rw [List.getElem?_eq_none h2]
        rfl
      refine ⟨_, rfl, _, rfl, a, _, rfl, .inl hA, _, _, rfl, rfl, _, rfl, ?_⟩
      refine ite2 (fun hlt => ?_) (fun hlt => ⟨rfl, _, hge hlt, rfl⟩)
      have hlt' : j < ns.length := by
        have := of_decide_eq_true hlt
        rw [List.length_map] at this
        omega
      have hat : (ns.map V.int)[j]? = some (V.int (ns[j])) := by
        rw [List.getElem?_map, List.getElem?_eq_getElem hlt']
        rfl
      exact ⟨_, rfl, _, rfl, a, _, _, _, rfl, rfl, hA, atI_nat hat, rfl, _, by unfold cell0; rw [List.getElem?_eq_getElem hlt']; rfl, rfl⟩
    · rintro σ H1 ⟨rfl, c0, hc0, rfl⟩
      refine ⟨_, rfl, _, _, rfl, rfl, ⟨by decide, by decide, by decide⟩, _, _, rfl, rfl, ?_⟩
      refine ⟨by show 0 ≤ sizeLine; decide, fun r hr0 => ?_⟩
      have s1 : Same H1 (upd H1 r (.lst [])) := fun b o e => by rw [upd_ne (ne_of_none e hr0)]; exact e
      refine ⟨_, rfl, b, _, rfl, .inl (s1.seq hB), (szs.length : Int), by rw [List.length_map], by omega, by omega, for_range (lo := 0) (n := szs.length) (fun i σ H2 => ∃ (c : Int) (vk vm : Option V) (ds : List Int), σ = [some (.ref a), some (.int j), some (.ref b), some (.int c), some (.bl (decide ((10 : Int) ^ (18 : Int).toNat ≤ c0))), some (.ref r), vk, vm] ∧ Same H1 H2 ∧ H2 r = some (.lst (ds.map V.int)) ∧ DigOk (szs.take i) ds ∧ (c, ds) = (szs.take i).foldl (digSt (decide ((10 : Int) ^ (18 : Int).toNat ≤ c0)) j) (c0, [])) ?_ ?_ ?_⟩
      · exact ⟨c0, none, none, [], rfl, s1, upd_same, by simp [DigOk], rfl⟩
      · rintro i σ H2 hi ⟨c, vk, vm, ds, rfl, s2, hrr, hD, hF⟩
        have hat : (szs.map V.int)[i]? = some (V.int (szs[i])) := by
          rw [List.getElem?_map, List.getElem?_eq_getElem hi]
          rfl
        have hat' : atI (szs.map V.int) (0 + (i : Int)) = some (V.int (szs[i])) := by
          rw [Int.zero_add]
          exact atI_nat hat
        have hsz := hs (szs[i]) (List.getElem_mem hi)
        refine ⟨_, rfl, _, _, rfl, rfl, .inr ⟨by decide, by decide⟩, _, rfl, _, _, rfl, rfl, .inr ⟨by decide, by decide⟩, _, _, rfl, rfl, _, rfl, _, _, rfl, rfl, .inr ⟨by decide, by decide⟩, _, _, rfl, rfl, _, _, rfl, rfl, .inl ⟨_, rfl, _, _, rfl, rfl, by show (0 : Int) < 2147483647; decide, ?_⟩⟩
        have hdl : ds.length = i := by rw [hD.1, List.length_take]; omega
        have e0 : (0 : Int) + (i : Int) = (ds.length : Int) := by rw [hdl, Int.zero_add]
        refine ⟨_, rfl, _, rfl, _, _, rfl, rfl, .inl ⟨by omega, by omega⟩, _, rfl, _, _, rfl, rfl, _, rfl, _, _, rfl, rfl, .inr ⟨by decide, by decide⟩, _, _, rfl, rfl, .inl ⟨_, rfl, _, _, rfl, rfl, by show (0 : Int) < 2147483629; decide, _, _, rfl, rfl, ⟨by decide, by decide⟩, ?_⟩⟩
        generalize hg : decide ((10 : Int) ^ (18 : Int).toNat ≤ c0) = g at hF ⊢
        have hF2 : (szs.take (i + 1)).foldl (digSt g j) (c0, []) = digSt g j (c, ds) szs[i] := by
          have e : szs.take (i + 1) = szs.take i ++ [szs[i]] := (List.take_append_getElem hi).symm
          rw [e, List.foldl_append, ← hF]
          rfl
        unfold digSt at hF2
        refine ⟨fun σ H3 => H3 = H2 ∧ ∃ c' m : Int, σ = [some (.ref a), some (.int j), some (.ref b), some (.int c'), some (.bl g), some (.ref r), some (.int (0 + (i : Int))), some (.int m)] ∧ (c', ds ++ [m % szs[i]]) = (szs.take (i + 1)).foldl (digSt g j) (c0, []), ?_, ?_⟩
        · refine ⟨_, rfl, _, rfl, ?_⟩
          rw [e0]
          cases g with
          | true => exact ⟨_, rfl, _, rfl, _, rfl, _, rfl, _, _, _, _, rfl, rfl, s2.seq hB, by rw [← e0]; exact hat', _, _, rfl, rfl, ⟨by omega, by omega⟩, rfl, _, _, rfl, hF2.symm⟩
          | false => exact ⟨rfl, _, _, rfl, hF2.symm⟩
        · rintro σ H3 ⟨rfl, c', m', rfl, hF3⟩
          refine ⟨_, rfl, .inl ⟨rfl, _, SqL.of hrr⟩, _, rfl, .inl ⟨_, rfl, _, rfl, _, rfl, _, _, _, _, rfl, rfl, s2.seq hB, hat', _, _, rfl, rfl, by omega, _, _, _, rfl, rfl, hrr, ?_, ?_⟩⟩
          · refine small1000 ?_
            rw [List.length_map]
            omega
          · refine ⟨c', _, _, ds ++ [m' % szs[i]], rfl, ?_, ?_, hD.snoc hi (by omega), hF3⟩
            · exact fun b o e => by rw [upd_ne (ne_of_none e hr0)]; exact s2 b o e
            · rw [List.map_append]
              exact upd_same
      · rintro σ H2 ⟨c, vk, vm, ds, rfl, s2, hrr, hD, hF⟩
        rw [List.take_length] at hD hF
        refine ⟨_, rfl, k ds H2 r hD ?_ s2 hr0 hrr⟩
        unfold digF
        rw [← hc0, ← hF]
end
end My
namespace My
open PySem L2 ClX
open Evl (pss_cut)
abbrev sSame : Stmt := topS 22
theorem scSame : FnScope ["_law_actual", "_law_due", "_law_k"] ["_law_actual", "_law_due"] (defScope sSame) := ⟨rfl, rfl, rfl, by decide +kernel, rfl, by decide +kernel, by decide +kernel⟩
section
variable {P : Program} {w : World} {K : PySem.W.Frag} {mg : Str → Option Value} {base : Heap}
theorem ok_same {f : Addr} {fd : FuncData} (F : Fun K "_law_same" "_law_same" sSame f fd) (T : Gls mg) (TI : GlsI mg) (mS : mg "_law_same" = some (.ref f)) (b : Binds K fd ["_law_actual", "_law_due"] []) :
    ∀ n, FnOk P w K mg base CX0 n f fd ["_law_actual", "_law_due"] (spSame K n)
  | 0 => ⟨fun vs H Q E h => by obtain ⟨_, _, _, _, _, _, h, _⟩ := h; exact h.elim, fun A outer s H args us vs Q E _ _ _ _ h => by obtain ⟨_, _, _, _, _, _, h, _⟩ := h; exact h.elim⟩
  | n + 1 => by
    have G := ok_same F T TI mS b n
    refine F.ok scSame (fun vs H Q E h => ?_) (fun cdv A outer s H vs Q E hr h => ?_)
    · obtain ⟨x, y, d, rfl, _⟩ := h
      rfl
    · obtain ⟨x, y, d, rfl, hx, hy, hd, k⟩ := h
      have nd := scSame.nd
      refine ⟨_, pss_cons (ps_if (pt_cmp (pc_isN (pv 1))) (pss_one (ps_ret (pe_cmp (pc_isN (pv 0)) rfl))) pss_nil)
        (pss_cons (ps_if (pt_val (pe_callB call_isi (by rfl) TI.isi PyProof.Rows.boot_isinstance (pa_cons (pv 1) (pa_cons (pe_bltn (v := .ty "bool") (by rfl) TI.bool PyProof.Rows.boot_bool rfl) pa_nil))))
          (pss_one (ps_ret (pe_and (pe_callB call_isi (by rfl) TI.isi PyProof.Rows.boot_isinstance (pa_cons (pv 0) (pa_cons (pe_bltn (v := .ty "bool") (by rfl) TI.bool PyProof.Rows.boot_bool rfl) pa_nil))) (pe_one (pe_cmpR op_eq (pv 0) (pv 1) (nomark _)))))) pss_nil)
        (pss_cons (ps_if (pt_val (pe_callB call_isi (by rfl) TI.isi PyProof.Rows.boot_isinstance (pa_cons (pv 1) (pa_cons (pe_bltn (v := .ty "int") (by rfl) T.int PyProof.Rows.boot_int rfl) pa_nil))))
          (pss_one (ps_ret (pe_and (pe_callB call_isi (by rfl) TI.isi PyProof.Rows.boot_isinstance (pa_cons (pv 0) (pa_cons (pe_bltn (v := .ty "int") (by rfl) T.int PyProof.Rows.boot_int rfl) pa_nil)))
            (pe_and (pe_not (pe_callB call_isi (by rfl) TI.isi PyProof.Rows.boot_isinstance (pa_cons (pv 0) (pa_cons (pe_bltn (v := .ty "bool") (by rfl) TI.bool PyProof.Rows.boot_bool rfl) pa_nil)))) (pe_one (pe_cmpR op_eq (pv 0) (pv 1) (nomark _))))))) pss_nil)
        (pss_cons (ps_if (pt_val (pe_callB call_isi (by rfl) TI.isi PyProof.Rows.boot_isinstance (pa_cons (pv 1) (pa_cons (pe_bltn (v := .ty "str") (by rfl) TI.str PyProof.Rows.boot_str rfl) pa_nil))))
          (pss_one (ps_ret (pe_and (pe_callB call_isi (by rfl) TI.isi PyProof.Rows.boot_isinstance (pa_cons (pv 0) (pa_cons (pe_bltn (v := .ty "str") (by rfl) TI.str PyProof.Rows.boot_str rfl) pa_nil))) (pe_one (pe_cmpR op_eq (pv 0) (pv 1) (nomark _)))))) pss_nil)
        (pss_cons (ps_if (PW.pt (pw_and (pt_val (pe_callB call_isi (by rfl) TI.isi PyProof.Rows.boot_isinstance (pa_cons (pv 1) (pa_cons (pe_bltn (v := .ty "tuple") (by rfl) TI.tuple PyProof.Rows.boot_tuple rfl) pa_nil))))
          (pw_and1 (pt_not (pt_val (pe_callB call_isi (by rfl) TI.isi PyProof.Rows.boot_isinstance (pa_cons (pv 0) (pa_cons (pe_bltn (v := .ty "tuple") (by rfl) TI.tuple PyProof.Rows.boot_tuple rfl) pa_nil)))))))) (pss_one (ps_ret pe_bl)) pss_nil)
        (pss_cons (ps_if (PW.pt (pw_and (pt_val (pe_callB call_isi (by rfl) TI.isi PyProof.Rows.boot_isinstance (pa_cons (pv 1) (pa_cons (pe_bltn (v := .ty "list") (by rfl) TI.list PyProof.Rows.boot_list rfl) pa_nil))))
          (pw_and1 (pt_not (pt_val (pe_callB call_isi (by rfl) TI.isi PyProof.Rows.boot_isinstance (pa_cons (pv 0) (pa_cons (pe_bltn (v := .ty "list") (by rfl) TI.list PyProof.Rows.boot_list rfl) pa_nil)))))))) (pss_one (ps_ret pe_bl)) pss_nil)
        (pss_cons (ps_if (pt_cmpR op_ne (pe_callB call_len_seq (by rfl) T.len PySem.boot_len (pa_cons (pv 0) pa_nil)) (pe_callB call_len_seq (by rfl) T.len PySem.boot_len (pa_cons (pv 1) pa_nil)) (nomark _)) (pss_one (ps_ret pe_bl)) pss_nil)
        (pss_cons (ps_for PassesOwn.never rfl (pi_range1 rfl T.range (pa_cons (pe_callB call_len_seq (by rfl) T.len PySem.boot_len (pa_cons (pv 1) pa_nil)) pa_nil)) (pg_name (i := 2) nd rfl (Or.inl rfl))
          (pss_one (ps_if (pt_not (pt_val (pe_call G hr (by rfl) mS F.kp b .nil pass0 (pa_cons (pe_ix ix_seq (pv 0) (pv 2) (fun _ _ => rfl)) (pa_cons (pe_ix ix_seq (pv 1) (pv 2) (fun _ _ => rfl)) pa_nil))))) (pss_one (ps_ret pe_bl)) pss_nil)))
        (pss_one (ps_ret pe_bl))))))))), ?_⟩
      have kB : ∀ {z : V}, (Q (.bl (decide (z = z))) H) := fun {z} => by rw [decide_eq_true rfl]; exact k
      have hlist : (∃ (ds : List PyData) (xs ys : List V) (a c : Addr), x = .ref a ∧ y = .ref c ∧ SqL K H a xs ∧ SqL K H c ys ∧ d = .list ds ∧ DpAll K H xs ds ∧ DpAll K H ys ds) ∨ (∃ (ds : List PyData) (xs ys : List V) (a c : Addr), x = .ref a ∧ y = .ref c ∧ SqT K H a xs ∧ SqT K H c ys ∧ d = .tuple ds ∧ DpAll K H xs ds ∧ DpAll K H ys ds) ∨
          (x = y ∧ (d = .none ∧ x = .non ∨ (∃ c, d = .bool c ∧ x = .bl c) ∨ (∃ c, d = .int c ∧ x = .int c) ∨ (∃ c, d = .str c ∧ x = .str c))) := by
        cases hx with
        | non => cases hy; exact .inr (.inr ⟨rfl, .inl ⟨rfl, rfl⟩⟩)
        | bl c => cases hy; exact .inr (.inr ⟨rfl, .inr (.inl ⟨_, rfl, rfl⟩)⟩)
        | int c => cases hy; exact .inr (.inr ⟨rfl, .inr (.inr (.inl ⟨_, rfl, rfl⟩))⟩)
        | str c => cases hy; exact .inr (.inr ⟨rfl, .inr (.inr (.inr ⟨_, rfl, rfl⟩))⟩)
        | lst h1 h2 =>
          cases hy with
          | lst h3 h4 => exact .inl ⟨_, _, _, _, _, rfl, rfl, h1, h3, rfl, h2, h4⟩
        | tup h1 h2 =>
          cases hy with
          | tup h3 h4 => exact .inr (.inl ⟨_, _, _, _, _, rfl, rfl, h1, h3, rfl, h2, h4⟩)
      rcases hlist with ⟨ds, xs, ys, a, c, rfl, rfl, q1, q2, rfl, h2, h4⟩ | ⟨ds, xs, ys, a, c, rfl, rfl, q1, q2, rfl, h2, h4⟩ | ⟨rfl, ⟨rfl, rfl⟩ | ⟨c, rfl, rfl⟩ | ⟨c, rfl, rfl⟩ | ⟨c, rfl, rfl⟩⟩
      · obtain ⟨hz, hd⟩ := hd
        have hlen : xs.length = ys.length := by rw [dpa_len h2, dpa_len h4]
        have tail : ∀ {i : Nat}, i < ys.length → ∃ u v : V, atI xs ((0 : Int) + i) = some u ∧ atI ys ((0 : Int) + i) = some v ∧ ∃ e, Dp K H u e ∧ Dp K H v e ∧ okD n e := by
          intro i hi
          have hi' : i < ds.length := by rw [← dpa_len h4]; exact hi
          obtain ⟨u, u1, u2⟩ := dpa_get h2 (List.getElem?_eq_getElem hi')
          obtain ⟨v, v1, v2⟩ := dpa_get h4 (List.getElem?_eq_getElem hi')
          refine ⟨u, v, ?_, ?_, ds[i], u2, v2, hd _ (List.getElem_mem hi')⟩
          · rw [Int.zero_add]; exact atI_nat u1
          · rw [Int.zero_add]; exact atI_nat v1
        have hyl : ys.length ≤ 1000 := by rw [dpa_len h4]; exact hz
        refine ⟨_, rfl, _, rfl, iteF ?_⟩
        refine ⟨_, rfl, _, _, _, _, false, rfl, .ty _, tyx_L q2, kit_ty (by decide +kernel : kitB "list" "bool" = some false), _, rfl, iteF ?_⟩
        refine ⟨_, rfl, _, _, _, _, false, rfl, .ty _, tyx_L q2, kit_ty (by decide +kernel : kitB "list" "int" = some false), _, rfl, iteF ?_⟩
        refine ⟨_, rfl, _, _, _, _, false, rfl, .ty _, tyx_L q2, kit_ty (by decide +kernel : kitB "list" "str" = some false), _, rfl, iteF ?_⟩
        refine ⟨_, rfl, _, _, _, _, false, rfl, .ty _, tyx_L q2, kit_ty (by decide +kernel : kitB "list" "tuple" = some false), _, rfl, iteF (iteF ?_)⟩
        refine ⟨_, rfl, _, _, _, _, true, rfl, .ty _, tyx_L q2, kit_ty (by decide +kernel : kitB "list" "list" = some true), _, rfl, iteT ?_⟩
        refine ⟨_, rfl, _, _, _, _, true, rfl, .ty _, tyx_L q1, kit_ty (by decide +kernel : kitB "list" "list" = some true), _, rfl, iteF ?_⟩
        refine ⟨_, rfl, a, _, rfl, .inl q1, _, rfl, c, _, rfl, .inl q2, rfl, _, rfl, iteNS (by rw [hlen]) ?_⟩
        refine ⟨_, rfl, c, _, rfl, .inl q2, (ys.length : Int), rfl, by omega, by omega, for_range (lo := 0) (n := ys.length) (fun i σ H2 => ∃ (vk : Option V), σ = [some (.ref a), some (.ref c), vk] ∧ H2 = H) ⟨_, rfl, rfl⟩ ?_ ?_⟩
        · rintro i σ H2 hi ⟨vk, rfl, rfl⟩
          obtain ⟨u, v, hu, hv, e, he1, he2, he3⟩ := tail hi
          exact ⟨_, rfl, _, rfl, .inl ⟨_, _, _, _, rfl, rfl, q1, hu, ⟨_, rfl, _, rfl, .inl ⟨_, _, _, _, rfl, rfl, q2, hv, ⟨_, _, e, rfl, he1, he2, he3, _, rfl, iteF ⟨_, rfl, rfl⟩⟩⟩⟩⟩⟩
        · rintro σ H2 ⟨vk, rfl, rfl⟩
          exact k
      · obtain ⟨hz, hd⟩ := hd
        have hlen : xs.length = ys.length := by rw [dpa_len h2, dpa_len h4]
        have tail : ∀ {i : Nat}, i < ys.length → ∃ u v : V, atI xs ((0 : Int) + i) = some u ∧ atI ys ((0 : Int) + i) = some v ∧ ∃ e, Dp K H u e ∧ Dp K H v e ∧ okD n e := by
          intro i hi
          have hi' : i < ds.length := by rw [← dpa_len h4]; exact hi
          obtain ⟨u, u1, u2⟩ := dpa_get h2 (List.getElem?_eq_getElem hi')
          obtain ⟨v, v1, v2⟩ := dpa_get h4 (List.getElem?_eq_getElem hi')
          refine ⟨u, v, ?_, ?_, ds[i], u2, v2, hd _ (List.getElem_mem hi')⟩
          · rw [Int.zero_add]; exact atI_nat u1
          · rw [Int.zero_add]; exact atI_nat v1
        have hyl : ys.length ≤ 1000 := by rw [dpa_len h4]; exact hz
        refine ⟨_, rfl, _, rfl, iteF ?_⟩
        refine ⟨_, rfl, _, _, _, _, false, rfl, .ty _, tyx_T q2, kit_ty (by decide +kernel : kitB "tuple" "bool" = some false), _, rfl, iteF ?_⟩
        refine ⟨_, rfl, _, _, _, _, false, rfl, .ty _, tyx_T q2, kit_ty (by decide +kernel : kitB "tuple" "int" = some false), _, rfl, iteF ?_⟩
        refine ⟨_, rfl, _, _, _, _, false, rfl, .ty _, tyx_T q2, kit_ty (by decide +kernel : kitB "tuple" "str" = some false), _, rfl, iteF ?_⟩
        refine ⟨_, rfl, _, _, _, _, true, rfl, .ty _, tyx_T q2, kit_ty (by decide +kernel : kitB "tuple" "tuple" = some true), _, rfl, iteT ?_⟩
        refine ⟨_, rfl, _, _, _, _, true, rfl, .ty _, tyx_T q1, kit_ty (by decide +kernel : kitB "tuple" "tuple" = some true), _, rfl, iteF ?_⟩
        refine ⟨_, rfl, _, _, _, _, false, rfl, .ty _, tyx_T q2, kit_ty (by decide +kernel : kitB "tuple" "list" = some false), _, rfl, iteF (iteF ?_)⟩
        refine ⟨_, rfl, a, _, rfl, .inr q1, _, rfl, c, _, rfl, .inr q2, rfl, _, rfl, iteNS (by rw [hlen]) ?_⟩
        refine ⟨_, rfl, c, _, rfl, .inr q2, (ys.length : Int), rfl, by omega, by omega, for_range (lo := 0) (n := ys.length) (fun i σ H2 => ∃ (vk : Option V), σ = [some (.ref a), some (.ref c), vk] ∧ H2 = H) ⟨_, rfl, rfl⟩ ?_ ?_⟩
        · rintro i σ H2 hi ⟨vk, rfl, rfl⟩
          obtain ⟨u, v, hu, hv, e, he1, he2, he3⟩ := tail hi
          exact ⟨_, rfl, _, rfl, .inr (.inl ⟨_, _, _, _, rfl, rfl, q1, hu, ⟨_, rfl, _, rfl, .inr (.inl ⟨_, _, _, _, rfl, rfl, q2, hv, ⟨_, _, e, rfl, he1, he2, he3, _, rfl, iteF ⟨_, rfl, rfl⟩⟩⟩)⟩⟩)⟩
        · rintro σ H2 ⟨vk, rfl, rfl⟩
          exact k
      · exact ⟨_, rfl, _, rfl, iteT ⟨_, rfl, kB⟩⟩
      · refine ⟨_, rfl, _, rfl, iteF ?_⟩
        exact ⟨_, rfl, _, _, _, _, true, rfl, .ty _, .base (.bl c), kit_ty (by decide +kernel : kitB "bool" "bool" = some true), _, rfl, iteT ⟨_, rfl, _, _, _, _, true, rfl, .ty _, .base (.bl c), kit_ty (by decide +kernel : kitB "bool" "bool" = some true), _, rfl, iteT ⟨_, rfl, _, rfl, rfl, kB⟩⟩⟩
      · refine ⟨_, rfl, _, rfl, iteF ?_⟩
        refine ⟨_, rfl, _, _, _, _, false, rfl, .ty _, .base (.int c), kit_ty (by decide +kernel : kitB "int" "bool" = some false), _, rfl, iteF ?_⟩
        exact ⟨_, rfl, _, _, _, _, true, rfl, .ty _, .base (.int c), kit_ty (by decide +kernel : kitB "int" "int" = some true), _, rfl, iteT ⟨_, rfl, _, _, _, _, true, rfl, .ty _, .base (.int c), kit_ty (by decide +kernel : kitB "int" "int" = some true), _, rfl, iteT ⟨_, rfl, _, _, _, _, false, rfl, .ty _, .base (.int c), kit_ty (by decide +kernel : kitB "int" "bool" = some false), _, rfl, _, rfl, iteT ⟨_, rfl, _, rfl, rfl, kB⟩⟩⟩⟩
      · refine ⟨_, rfl, _, rfl, iteF ?_⟩
        refine ⟨_, rfl, _, _, _, _, false, rfl, .ty _, .base (.str c), kit_ty (by decide +kernel : kitB "str" "bool" = some false), _, rfl, iteF ?_⟩
        refine ⟨_, rfl, _, _, _, _, false, rfl, .ty _, .base (.str c), kit_ty (by decide +kernel : kitB "str" "int" = some false), _, rfl, iteF ?_⟩
        exact ⟨_, rfl, _, _, _, _, true, rfl, .ty _, .base (.str c), kit_ty (by decide +kernel : kitB "str" "str" = some true), _, rfl, iteT ⟨_, rfl, _, _, _, _, true, rfl, .ty _, .base (.str c), kit_ty (by decide +kernel : kitB "str" "str" = some true), _, rfl, iteT ⟨_, rfl, _, rfl, rfl, kB⟩⟩⟩
end
end My
namespace My
open PySem L2 ClX
open Evl (pss_cut)
abbrev sRInit : Stmt := inClass (topS 8) 0
abbrev sROf : Stmt := inClass (topS 8) 1
abbrev sRSt : Stmt := inClass (topS 8) 2
abbrev sHas : Stmt := topS 10
theorem scRI : FnScope ["self", "stances"] ["self", "stances"] (defScope sRInit) := ⟨rfl, rfl, rfl, by decide +kernel, rfl, by decide +kernel, by decide +kernel⟩
theorem scHas : FnScope ["stance", "words", "word"] ["stance", "words"] (defScope sHas) := ⟨rfl, rfl, rfl, by decide +kernel, rfl, by decide +kernel, by decide +kernel⟩
theorem scOf : FnScope ["cls", "words", "let", "stance"] ["cls", "words"] (defScope sROf) := ⟨rfl, rfl, rfl, by decide +kernel, rfl, by decide +kernel, by decide +kernel⟩
theorem scRSt : FnScope ["self"] ["self"] (defScope sRSt) := ⟨rfl, rfl, rfl, by decide +kernel, rfl, by decide +kernel, by decide +kernel⟩
section
variable {P : Program} {w : World} {K : PySem.W.Frag} {mg : Str → Option Value} {base : Heap}
theorem ok_rinit {f C aS : Addr} {fd : FuncData} (F : Fun K "__init__" "Rule.__init__" sRInit f fd) (T : GlsR K mg C aS) : FnOk P w K mg base CX0 1 f fd ["self", "stances"] (spRInit K C) := by
  refine F.ok scRI (fun vs H Q E h => ?_) (fun cdv A outer s H vs Q E hr h => ?_)
  · obtain ⟨r, dx, l, xs, rfl, _⟩ := h
    rfl
  · obtain ⟨r, dx, l, xs, rfl, hp, hl, hx, k⟩ := h
    refine ⟨_, pss_one (ps_fld (pv 0) (pe_callTy call_tuple_of (by rfl) T.tuple PyProof.Rows.boot_tuple (pa_cons (pv 1) pa_nil)) rfl), ?_⟩
    refine ⟨_, rfl, l, _, rfl, .inl ⟨hl, fun t ht => ?_⟩⟩
    exact ⟨_, rfl, r, C, dx, [], rfl, (by rw [upd_ne (ne_of_none hp ht)]; exact hp), T.cl, T.nL, (by show 0 < 1000; decide), k t ht⟩
theorem ok_has {f C aS : Addr} {fd : FuncData} (F : Fun K "_has_one_of" "_has_one_of" sHas f fd) (T : GlsR K mg C aS) : FnOk P w K mg base CX0 1 f fd ["stance", "words"] (spHas K) := by
  refine F.ok scHas (fun vs H Q E h => ?_) (fun cdv A outer s H vs Q E hr h => ?_)
  · obtain ⟨a, b, st, ws, rfl, _⟩ := h
    rfl
  · obtain ⟨a, b, st, ws, rfl, hA, hB, hz, k⟩ := h
    have nd := scHas.nd
    refine ⟨_, pss_one (ps_ret (pe_callB (cr_any rfl) (by rfl) T.any (by decide +kernel) (pa_cons (pe_lc (own := [("word", 2)]) (g := gName 2) (tt := tYes) rfl nd (pi_tup (pv 1)) (blkOk_by (own := [("word", 2)]) (N := ["stance", "words", "word"]) (sc := defScope sHas) (by decide +kernel))
      (fun _ _ _ _ _ => pg_name (i := 2) nd rfl (Or.inl rfl)) (fun _ _ _ _ _ => pts_nil) (fun _ _ _ _ _ => pe_cmpR (show OpR _ (compareOp .In) (rIn K false) from op_in_seq) (pv 2) (pv 0) (by rfl))) pa_nil))), ?_⟩
    refine ⟨_, rfl, b, rfl, ⟨_, hB⟩, fun D hD => ?_⟩
    refine lc_tup (K := K) (a := b) (xs := sV ws) (fun i H2 => Same H H2 ∧ H2 D = some (.lst ((ws.take i).map fun x => V.bl (decide (x ∈ st))))) ⟨same_new hD, upd_same⟩ (fun i H2 _ h => Same.seqT h.1 hB) ?_ ?_
    · rintro i x H2 hi ⟨s2, hD2⟩
      obtain ⟨z, hz', rfl⟩ : ∃ z, ws[i]? = some z ∧ x = V.str z := by
        unfold sV at hi
        rw [List.getElem?_map] at hi
        cases e : ws[i]? with
        | none => rw [e] at hi; cases hi
        | some z => rw [e] at hi; exact ⟨z, rfl, (Option.some.inj hi).symm⟩
      have hil : i < ws.length := (List.getElem?_eq_some_iff.mp hz').1
      refine ⟨rfl, ?_⟩
      refine ⟨_, rfl, _, rfl, a, _, rfl, .inr (Same.seqT s2 hA), rfl, flat_sV _, ?_⟩
      refine ⟨_, hD2, small1000 (by rw [List.length_map, List.length_take]; omega), same_up s2 hD, ?_⟩
      rw [upd_same, take_snoc hz', List.map_append]
      show some (HO.lst (_ ++ [V.bl (inV (.str z) (sV st))])) = _
      rw [inV_sV]
      rfl
    · rintro H2 ⟨s2, hD2⟩
      refine ⟨D, ws.map fun x => decide (x ∈ st), rfl, ?_, ?_⟩
      · have e : (sV ws).length = ws.length := List.length_map ..
        rw [e, List.take_length] at hD2
        rw [List.map_map]
        exact SqL.of hD2
      · rw [List.any_map]
        exact k H2 s2
theorem ok_of {f C aS fI fH : Addr} {fd fdI fdH : FuncData} (F : Fun K "of" "Rule.of" sROf f fd) (T : GlsR K mg C aS) (M : Mk K C fI) (FI : Fun K "__init__" "Rule.__init__" sRInit fI fdI) (bI : Binds K fdI ["self", "stances"] [])
    (FH : Fun K "_has_one_of" "_has_one_of" sHas fH fdH) (bH : Binds K fdH ["stance", "words"] []) (mH : mg "_has_one_of" = some (.ref fH))
    (hb : ∀ us rest : List Value, us.length = [("cls" : Str)].length → bindArgs fd ⟨us ++ rest, []⟩ = (newTuple rest >>= fun t => pure ([("cls" : Str)].zip us ++ [(("words" : Str), t)]))) : FnR P w K mg base CX0 3 f (spOf K C) := by
  have GI : FnOk P w K mg base CX0 1 fI fdI ["self", "stances"] (spRInit K C) := ok_rinit FI T
  have GH : FnOk P w K mg base CX0 1 fH fdH ["stance", "words"] (spHas K) := ok_has FH T
  obtain ⟨oc, od, kV, doc, pm, an, cdv, ct, osl, rfl, lk, hcd⟩ := F.ex
  have main := StX.fn_star (CX := CX0) (P := P) (w := w) (K := K) (mg := mg) (base := base) (k := 2) (ps := ["cls"]) (pv := "words") (sp := spOf0 K C) lk hcd scOf StX.cxUp_none hb (fun A outer s H vs Q E hr h => ?_)
  · intro A outer s H us vs Q E hr e0 r h
    refine main A outer s H us vs Q E hr e0 r ?_
    obtain ⟨ws, rfl, hz, k⟩ := h
    refine ⟨[.ref C], sV ws, rfl, rfl, ?_, fun p hp => ⟨p, ws, rfl, SqT.of upd_same, hz, fun r H' hr' s' R => k r H' ?_ ?_ R⟩⟩
    · unfold sV
      rw [List.length_map]
      exact Nat.le_of_lt (small1000 hz)
    · exact same_free (same_new hp) hr'
    · exact (same_new hp).trans s'
  · obtain ⟨b, ws, rfl, hB, hz, k⟩ := h
    have nd := scOf.nd
    have hr1 : Room 1 _ := hr.mono (by decide)
    obtain ⟨as, hS, hT⟩ := T.st
    have hlen : as.length = stanD.length := (hT H).len
    refine ⟨_, pss_cons (ps_setLc (i := 2) (own := [("stance", 3)]) (g := gName 3) rfl nd rfl rfl (sw_true rfl rfl rfl (by decide +kernel)) (pi_tup (pe_glob (v := .ref aS) rfl T.mS rfl)) (blkOk_by (own := [("stance", 3)]) (N := ["cls", "words", "let", "stance"]) (sc := defScope sROf) (by decide +kernel))
      (fun _ _ _ _ _ => pg_name (i := 3) nd rfl (Or.inl rfl)) (fun _ _ _ _ _ => pts_one (pt_val (pe_call GH hr1 (by rfl) mH FH.kp bH .nil pass0 (pa_cons (pv 3) (pa_cons (pv 1) pa_nil))))) (fun _ _ _ _ _ => pv 3))
      (pss_one (ps_ret (pe_makeL (i := 0) M GI hr rfl (Or.inl rfl) bI pass0 (pa_cons (pv 2) pa_nil)))), ?_⟩
    refine ⟨aS, rfl, ⟨_, hS H⟩, fun D hD => ?_⟩
    refine lc_tup (K := K) (a := aS) (xs := as.map V.ref) (fun i H2 => Same H H2 ∧ ∃ bs : List Addr, H2 D = some (.lst (bs.map V.ref)) ∧ bs.length ≤ i ∧ TupsAt K H2 bs ((stanD.take i).filter fun st => ws.any fun x => decide (x ∈ st))) ⟨same_new hD, [], upd_same, Nat.le_refl _, .nil⟩ (fun i H2 _ h => hS H2) ?_ ?_
    · rintro i x H2 hi ⟨s2, bs, hD2, hbl, hT2⟩
      obtain ⟨a, ha, rfl⟩ : ∃ a, as[i]? = some a ∧ x = V.ref a := by
        rw [List.getElem?_map] at hi
        cases e : as[i]? with
        | none => rw [e] at hi; cases hi
        | some z => rw [e] at hi; exact ⟨z, rfl, (Option.some.inj hi).symm⟩
      have hil : i < as.length := (List.getElem?_eq_some_iff.mp ha).1
      have h9 : stanD.length = 9 := rfl
      obtain ⟨d, hd, hat⟩ := (hT H2).get ha
      refine ⟨rfl, _, rfl, _, rfl, a, b, d, ws, rfl, hat, Same.seqT s2 hB, hz, fun H3 s3 => ⟨_, rfl, ?_⟩⟩
      have hfl := filter_take_snoc (fun st => ws.any fun x => decide (x ∈ st)) hd
      refine ite2 (fun hc => ?_) (fun hc => ?_)
      · rw [if_pos hc] at hfl
        refine ⟨_, rfl, _, s3 _ _ hD2, small1000 (by rw [List.length_map]; omega), same_up (s2.trans s3) hD, bs ++ [a], ?_, by rw [List.length_append, List.length_singleton]; omega, ?_⟩
        · rw [upd_same, List.map_append]; rfl
        · rw [hfl]
          have hDn : ∀ {q : Addr} {xs : List V}, SqT K H3 q xs → SqT K (upd H3 D (.lst (bs.map V.ref ++ [V.ref a]))) q xs := fun {q xs} hq => by
            have hDl := s3 _ _ hD2
            rcases hq with (hq | ⟨o, hq⟩) | hq
            · exact .inl (.inl (by rw [upd_ne (ne_of hq hDl (by intro z; cases z))]; exact hq))
            · exact .inl (.inr ⟨o, by rw [upd_ne (ne_of hq hDl (by intro z; cases z))]; exact hq⟩)
            · exact .inr hq
          have hT3 := TupsAt.mono s3 hT2
          have hT4 : TupsAt K (upd H3 D (.lst (bs.map V.ref ++ [V.ref a]))) bs _ := Paired.mapP hT3 fun _ _ q => hDn q
          exact hT4.snoc (hDn (Same.seqT s3 hat))
      · rw [if_neg hc, List.append_nil] at hfl
        refine ⟨s2.trans s3, bs, s3 _ _ hD2, by omega, ?_⟩
        rw [hfl]
        exact hT2.mono s3
    · rintro H2 ⟨s2, bs, hD2, hbl, hT2⟩
      have e : (as.map V.ref).length = stanD.length := by rw [List.length_map, hlen]
      rw [e, List.take_length] at hT2
      refine ⟨rfl, _, rfl, fun x dx nx ndx nex => ?_⟩
      have sm : Same H2 (upd (upd H2 dx (.own x)) x (.ins C dx [])) := (same_new ndx).trans (same_new (by rw [upd_ne (Ne.symm nex)]; exact nx))
      refine ⟨x, dx, D, bs.map V.ref, rfl, upd_same, sm.seq (SqL.of hD2), ?_, fun t ht => ⟨rfl, ?_⟩⟩
      · rw [List.length_map]
        rw [e] at hbl
        exact Nat.le_trans hbl (by decide)
      · have nxt : x ≠ t := fun z => by rw [← z, upd_same] at ht; cases ht
        have sf : Same H2 (upd (upd (upd (upd H2 dx (.own x)) x (.ins C dx [])) t (.tup (bs.map V.ref))) x (.ins C dx [("_let", .ref t)])) := by
          intro q o hq
          have h1 : q ≠ x := ne_of_none hq nx
          rw [upd_ne h1, upd_ne (ne_of_none (sm _ _ hq) ht)]
          exact sm _ _ hq
        refine k x _ (same_free s2 nx) (s2.trans sf) ⟨dx, t, bs, upd_same, by rw [upd_ne (Ne.symm nxt), upd_same], ?_⟩
        exact hT2.mono sf
theorem ok_rst {f C aS : Addr} {fd : FuncData} (F : Fun K "stances" "Rule.stances" sRSt f fd) (T : GlsR K mg C aS) : FnOk P w K mg base CX0 1 f fd ["self"] (spRSt C) := by
  refine F.ok scRSt (fun vs H Q E h => ?_) (fun cdv A outer s H vs Q E hr h => ?_)
  · obtain ⟨r, dx, t, rfl, _⟩ := h
    rfl
  · obtain ⟨r, dx, t, rfl, hp, k⟩ := h
    refine ⟨_, pss_one (ps_ret (pe_fld (pv 0) rfl)), ?_⟩
    exact ⟨_, rfl, r, C, dx, _, _, rfl, hp, T.cl, T.nL, rfl, k⟩
end
end My
namespace My
open PySem L2 ClX
open Evl (pss_cut)
abbrev sWords : Stmt := topS 15
theorem scWords : FnScope [] [] (defScope sWords) := ⟨rfl, rfl, rfl, by decide +kernel, rfl, by decide +kernel, by decide +kernel⟩
section
variable {P : Program} {w : World} {K : PySem.W.Frag} {mg : Str → Option Value} {base : Heap}
theorem ok_words {f : Addr} {fd : FuncData} (F : Fun K "_law_words" "_law_words" sWords f fd) : FnOk P w K mg base CX0 1 f fd [] spWords := by
  refine F.ok scWords (fun vs H Q E h => ?_) (fun cdv A outer s H vs Q E hr h => ?_)
  · rw [h.1]; rfl
  · obtain ⟨rfl, k⟩ := h
    refine ⟨_, pss_one (ps_ret (pe_lst (pa_cons pe_str (pa_cons pe_str (pa_cons pe_str (pa_cons pe_str (pa_cons pe_str (pa_cons pe_str (pa_cons pe_str pa_nil))))))))), ?_⟩
    exact ⟨by show 7 ≤ sizeLine; decide, fun p hp => k p _ hp (same_new hp) upd_same⟩
end
end My
namespace My
open PySem L2 ClX
open Evl (pss_cut)
abbrev sStans : Stmt := topS 16
theorem scStans : FnScope ["_law_texts", "_law_text"] [] (defScope sStans) := ⟨rfl, rfl, rfl, by decide +kernel, rfl, by decide +kernel, by decide +kernel⟩
section
variable {P : Program} {w : World} {K : PySem.W.Frag} {mg : Str → Option Value} {base : Heap}
theorem ok_stans {f C aS : Addr} {fd : FuncData} (F : Fun K "_law_stances" "_law_stances" sStans f fd) (T : GlsR K mg C aS) : FnOk P w K mg base CX0 1 f fd [] (spStans K) := by
  refine F.ok scStans (fun vs H Q E h => ?_) (fun cdv A outer s H vs Q E hr h => ?_)
  · rw [h.1]; rfl
  · obtain ⟨rfl, k⟩ := h
    have nd := scStans.nd
    refine ⟨_, pss_cons (ps_set (i := 0) nd rfl (Or.inl rfl) (pe_lst (pa_cons pe_str (pa_cons pe_str (pa_cons pe_str pa_nil)))))
      (pss_cons (ps_set (i := 0) nd rfl (Or.inl rfl) (pe_op op_cat (pv 0) (pe_lst (pa_cons pe_str (pa_cons pe_str (pa_cons pe_str (pa_cons pe_str (pa_cons pe_str (pa_cons pe_str pa_nil)))))))))
      (pss_one (ps_ret (pe_lc (own := [("_law_text", 1)]) (g := gName 1) (tt := tYes) rfl nd (pi_list (pv 0)) (blkOk_by (own := [("_law_text", 1)]) (N := ["_law_texts", "_law_text"]) (sc := defScope sStans) (by decide +kernel))
        (fun _ _ _ _ _ => pg_name (i := 1) nd rfl (Or.inl rfl)) (fun _ _ _ _ _ => pts_nil) (fun _ _ _ _ _ => pe_callTy (r := fun xs H Q => ∃ p ys, xs = [.ref p] ∧ ((SqL K H p ys ∧ ∀ l, H l = none → Q (.ref l) (upd H l (.tup ys))) ∨ (SqT K H p ys ∧ Q (.ref p) H))) (show CallR _ _ _ from call_tuple_of) (by rfl) T.tuple PyProof.Rows.boot_tuple (pa_cons (pe_split (pv 1) pe_str) pa_nil)))))), ?_⟩
    refine ⟨by show 3 ≤ sizeLine; decide, fun l1 n1 => ⟨_, rfl, by show 6 ≤ sizeLine; decide, fun l2 n2 => ?_⟩⟩
    have e1 : (upd (upd H l1 (.lst (sV (textsD.take 3)))) l2 (.lst (sV (textsD.drop 3)))) l1 = some (.lst (sV (textsD.take 3))) := by rw [upd_ne (ne_of_none upd_same n2)]; exact upd_same
    refine ⟨l1, l2, sV (textsD.take 3), sV (textsD.drop 3), rfl, rfl, e1, upd_same, by show 9 ≤ sizeLine; decide, fun l3 n3 => ?_⟩
    have s1 : Same H (upd (upd (upd H l1 (.lst (sV (textsD.take 3)))) l2 (.lst (sV (textsD.drop 3)))) l3 (.lst (sV textsD))) := ((same_new n1).trans (same_new n2)).trans (same_new n3)
    refine ⟨_, rfl, l3, rfl, ⟨_, SqL.of (xs := sV textsD) upd_same⟩, fun D hD => ?_⟩
    have nD : H D = none := same_free s1 hD
    have nl : l3 ≠ D := ne_of_none upd_same hD
    refine lc_list (K := K) (a := l3) (xs := sV textsD) (fun i H2 => Same H H2 ∧ H2 l3 = some (.lst (sV textsD)) ∧ ∃ as : List Addr, H2 D = some (.lst (as.map V.ref)) ∧ as.length ≤ i ∧ TupsAt K H2 as (stanD.take i)) ⟨s1.trans (same_new hD), by rw [upd_ne (ne_of_none upd_same hD)]; exact upd_same, [], upd_same, Nat.le_refl _, .nil⟩ (fun i H2 _ h => SqL.of h.2.1) ?_ ?_
    · rintro i x H2 hi ⟨s2, h3, as, hD2, hl, hT⟩
      have hi9 : i < 9 := (List.getElem?_eq_some_iff.mp hi).1
      obtain ⟨z, hz', hs', rfl⟩ : ∃ z, textsD[i]? = some z ∧ stanD[i]? = some (Txt.split z " ") ∧ x = V.str z := by
        have hi2 : i < textsD.length := hi9
        have q : (textsD.map fun z => Txt.split z " ") = stanD := by decide +kernel
        unfold sV at hi
        rw [List.getElem?_map, List.getElem?_eq_getElem hi2] at hi
        refine ⟨textsD[i], List.getElem?_eq_getElem hi2, ?_, (Option.some.inj hi).symm⟩
        rw [← q, List.getElem?_map, List.getElem?_eq_getElem hi2]
        rfl
      have hzl : z.length + 2 ≤ sizeLine := by
        have q : (textsD.all fun z => decide (z.length + 2 ≤ 100)) = true := by decide +kernel
        have m := List.all_eq_true.mp q z (List.mem_of_getElem? hz')
        exact Nat.le_trans (of_decide_eq_true m) (by decide)
      refine ⟨rfl, ?_⟩
      refine ⟨_, rfl, ⟨z, rfl⟩, z, " ", rfl, rfl, by decide +kernel, hzl, fun q hq => ?_⟩
      refine ⟨q, _, rfl, .inl ⟨SqL.of upd_same, fun t ht => ?_⟩⟩
      have sm : Same H2 (upd (upd H2 q (.lst ((Txt.split z " ").map V.str))) t (.tup ((Txt.split z " ").map V.str))) := (same_new hq).trans (same_new ht)
      refine ⟨as.map V.ref, sm _ _ hD2, small1000 (by rw [List.length_map]; omega), same_up (s2.trans sm) nD, ?_, as ++ [t], ?_, by rw [List.length_append, List.length_singleton]; omega, ?_⟩
      · rw [upd_ne nl]
        exact sm _ _ h3
      · rw [upd_same, List.map_append]; rfl
      · rw [take_snoc hs']
        exact ((TupsAt.updL (sm _ _ hD2) (hT.mono sm)).snoc (seqT_updL (sm _ _ hD2) (SqT.of upd_same)))
    · rintro H2 ⟨s2, h3, as, hD2, hl, hT⟩
      exact k D H2 as nD s2 hD2 hT
end
end My
namespace My
open PySem L2 ClX
open Evl (pss_cut)
/-- an operator of an own class on two instances -/
def rBinI (C : Addr) (sp : Sp) : R2 := fun x y H Q => ∃ (a dx b dy : Addr) (fs gs : List (Str × V)), x = .ref a ∧ y = .ref b ∧ H a = some (.ins C dx fs) ∧ H b = some (.ins C dy gs) ∧ sp [x, y] H Q E0
theorem inst_at {X : Cx} {pins : List (Addr × Obj)} {σ : L2.St} {H : Hp} {s : Shared} {a C dx : Addr} {fs : List (Str × V)} (I : Inv X pins σ H s) (h : H a = some (.ins C dx fs)) : ∃ od, PySem.W.InstAt s.heap a (PySem.W.instObj C dx) C (some od) := by
  obtain ⟨mA, O, _⟩ := ins_get I.hok h
  obtain ⟨od, J, _⟩ := O.look
  exact ⟨od, J⟩
theorem cmpback_of {v : V} {u : Value} {s : Shared} {Q : Value → Shared → Prop} (r : RelV v u) (q : Q u s) : PySem.W.CmpBack Q u s := by
  cases v with
  | non => cases (show u = Value.none from r); exact q
  | bl b => cases (show u = Value.bool b from r); exact q
  | int i => obtain ⟨t, e⟩ := (show ∃ t, u = Value.int i t from r); cases e; exact q
  | str x => obtain ⟨t, e⟩ := (show ∃ t, u = Value.str x t from r); cases e; exact q
  | byt b => obtain ⟨t, e⟩ := (show ∃ t, u = Value.bytes b t from r); cases e; exact q
  | flt b => obtain ⟨t, e⟩ := (show ∃ t, u = Value.float b t from r); cases e; exact q
  | ref a => cases (show u = Value.ref a from r); exact q
  | ty n => cases (show u = Value.type n from r); exact q
section
variable {X : Cx} {CX : CXT} {k : Nat} {f C : Addr} {fd : FuncData} {ps : List Str} {sp : Sp}
theorem op_binI {op : Operator} (hc : PySem.W.selfFirst X.K C = true) (hs : PySem.W.findIn X.K (.ref C) (PySem.dunder op.info.2) = some (some (.ref f))) (hf : PySem.W.isFn X.K (.ref f) = true)
    (F : FnOk X.prog X.w X.K X.mg X.base CX k f fd ps sp) (hr : Room k X.A) (hb : Binds X.K fd ps []) (hx : Passes CX X E0) : OpR X (binaryOp op) (rBinI C sp) := by
  intro pins s σ H x y v u Q I rx ry h
  obtain ⟨a, dx, b, dy, fs, gs, rfl, rfl, ha, hb', q⟩ := h
  cases (show v = Value.ref a from rx)
  cases (show u = Value.ref b from ry)
  obtain ⟨od, J⟩ := inst_at I ha
  obtain ⟨od', J'⟩ := inst_at I hb'
  obtain ⟨m, hF⟩ := I.fr
  refine PySem.W.binop_K hF I.ok.mod.kin J J'.type hc hs hf (wpAny_mono (run_fn (us := [.ref a, .ref b]) (vs := [.ref a, .ref b]) F hr hb .nil hx I (.cons rfl (.cons rfl .nil)) q) ?_ fun _ _ z => z)
  rintro r s' ⟨z, H', I', rz, qz⟩
  exact cmpback_of rz ⟨z, H', I', rz, qz⟩
theorem op_cmpI {op : CmpOp} (hop : ∀ a b, compareOp op a b = richCompare op a b) (hn : PySem.W.notFirst X.K C (.ref C) = true) (hs : PySem.W.findIn X.K (.ref C) (cmpInfo op).2.1 = some (some (.ref f))) (hf : PySem.W.isFn X.K (.ref f) = true)
    (F : FnOk X.prog X.w X.K X.mg X.base CX k f fd ps sp) (hr : Room k X.A) (hb : Binds X.K fd ps []) (hx : Passes CX X E0) : OpR X (compareOp op) (rBinI C sp) := by
  intro pins s σ H x y v u Q I rx ry h
  obtain ⟨a, dx, b, dy, fs, gs, rfl, rfl, ha, hb', q⟩ := h
  cases (show v = Value.ref a from rx)
  cases (show u = Value.ref b from ry)
  obtain ⟨od, J⟩ := inst_at I ha
  obtain ⟨od', J'⟩ := inst_at I hb'
  obtain ⟨m, hF⟩ := I.fr
  rw [hop]
  refine PySem.W.cmp_K (op := op) (tb := .ref C) hr.units0 hF I.ok.mod.kin J J'.type hn hs hf (wpAny_mono (run_fn (us := [.ref a, .ref b]) (vs := [.ref a, .ref b]) F hr hb .nil hx I (.cons rfl (.cons rfl .nil)) q) ?_ fun _ _ z => z)
  rintro r s' ⟨z, H', I', rz, qz⟩
  exact cmpback_of rz ⟨z, H', I', rz, qz⟩
/-- v in x, x an instance with __contains__ that gives a bool -/
def rInI (C : Addr) (sp : Sp) : R2 := fun x y H Q => ∃ (a dx : Addr) (fs : List (Str × V)), y = .ref a ∧ H a = some (.ins C dx fs) ∧ sp [.ref a, x] H (fun v H' => ∃ b, v = .bl b ∧ Q (.bl b) H') E0
theorem op_inI (hs : PySem.W.findIn X.K (.ref C) "__contains__" = some (some (.ref f))) (hf : PySem.W.isFn X.K (.ref f) = true)
    (F : FnOk X.prog X.w X.K X.mg X.base CX k f fd ps sp) (hr : Room k X.A) (hb : Binds X.K fd ps []) (hx : Passes CX X E0) : OpR X (compareOp .In) (rInI C sp) := by
  intro pins s σ H x y v u Q I rx ry h
  obtain ⟨a, dx, fs, rfl, ha, q⟩ := h
  cases (show u = Value.ref a from ry)
  obtain ⟨od, J⟩ := inst_at I ha
  obtain ⟨m, hF⟩ := I.fr
  refine PySem.W.in_K hF I.ok.mod.kin J hs hf (wpAny_mono (run_fn (us := [.ref a, v]) (vs := [.ref a, x]) F hr hb .nil hx I (.cons rfl (.cons rx .nil)) q) ?_ fun _ _ z => z)
  rintro r s' ⟨z, H', I', rz, b, rfl, qz⟩
  cases (show r = Value.bool b from rz)
  exact wpAny_pure ⟨.bl b, H', I', rfl, qz⟩
/-- v in t, t a tuple or a list of data -/
def rInDT (K : PySem.W.Frag) : R2 := fun x y H Q => ∃ d ds, Dp K H x d ∧ (Dp K H y (.list ds) ∨ Dp K H y (.tuple ds)) ∧ SeqAt.shaped d = true ∧ SeqAt.shaped (.list ds) = true ∧ Q (.bl (ds.any fun z => PyData.eqv z d)) H
theorem op_inDT (hu : X.A.units + 65 < cLine) : OpR X (compareOp .In) (rInDT X.K) := by
  intro pins s σ H x y v u Q I rx ry h
  obtain ⟨d, ds, hd, he | he, sd, se, q⟩ := h
  · exact op_inD hu pins s σ H x y v u Q I rx ry ⟨d, ds, hd, he, sd, se, q⟩
  · obtain ⟨as, r1⟩ := Dp.reads I d x v hd rx
    obtain ⟨bs, r2⟩ := Dp.reads I (.tuple ds) y u he ry
    exact SeqAt.in_tuple_reads r2 r1 (SeqAt.canLay_of_shaped se) (SeqAt.canLay_of_shaped sd) (PyProof.Rows.room_in_shaped sd hu) ⟨.bl _, H, I, rfl, q⟩
end
def okS (st : List Str) : Prop := ∀ x ∈ st, PyData.strOk x = true
theorem tD_lay {st : List Str} (o : okS st) : (tD st).canLay0 = true := by
  have h : ∀ l : List Str, okS l → PyData.canLayAll0 (l.map PyData.str) = true := by
    intro l
    induction l with
    | nil => intro _; simp [PyData.canLayAll0]
    | cons x l ih =>
      intro o
      simp [PyData.canLayAll0, PyData.canLay0, ih fun y hy => o y (List.mem_cons_of_mem _ hy), o x List.mem_cons_self]
  simp [tD, PyData.canLay0, h st o]
theorem strs_depth : ∀ l : List Str, PyData.depthAll (l.map PyData.str) ≤ 1
  | [] => by simp [PyData.depthAll]
  | x :: l => by
    have h := strs_depth l
    simp only [List.map_cons, PyData.depthAll, PyData.depth]
    omega
theorem tD_depth (st : List Str) : (tD st).depth ≤ 2 := by
  have h := strs_depth st
  simp only [tD, PyData.depth]
  omega
theorem tD_shaped {st : List Str} (o : okS st) : SeqAt.shaped (tD st) = true := by
  have h := tD_depth st
  show ((tD st).canLay0 && decide ((tD st).depth ≤ 64)) = true
  rw [Bool.and_eq_true]
  exact ⟨tD_lay o, decide_eq_true (by omega)⟩
theorem tDs_shaped {sts : List (List Str)} (o : ∀ st ∈ sts, okS st) : SeqAt.shaped (.list (sts.map tD)) = true := by
  have h1 : ∀ l : List (List Str), (∀ st ∈ l, okS st) → PyData.canLayAll0 (l.map tD) = true ∧ PyData.depthAll (l.map tD) ≤ 2 := by
    intro l
    induction l with
    | nil => intro _; simp [PyData.canLayAll0, PyData.depthAll]
    | cons x l ih =>
      intro o
      have h := tD_depth x
      have ih := ih fun y hy => o y (List.mem_cons_of_mem _ hy)
      refine ⟨by simp [PyData.canLayAll0, tD_lay (o x List.mem_cons_self), ih.1], ?_⟩
      simp only [List.map_cons, PyData.depthAll]
      omega
  obtain ⟨a, b⟩ := h1 sts o
  show ((PyData.list (sts.map tD)).canLay0 && decide ((PyData.list (sts.map tD)).depth ≤ 64)) = true
  rw [Bool.and_eq_true]
  exact ⟨by simp only [PyData.canLay0]; exact a, decide_eq_true (by simp only [PyData.depth]; omega)⟩
theorem strs_eqv : ∀ a b : List Str, PyData.eqvAll (a.map PyData.str) (b.map PyData.str) = decide (a = b)
  | [], [] => by simp [PyData.eqvAll]
  | [], _ :: _ => by simp [PyData.eqvAll]
  | _ :: _, [] => by simp [PyData.eqvAll]
  | x :: a, y :: b => by
    have h := strs_eqv a b
    simp only [List.map_cons, PyData.eqvAll, PyData.eqv, h]
    by_cases e : x = y <;> by_cases f : a = b <;> simp [e, f]
theorem tD_eqv (a b : List Str) : PyData.eqv (tD a) (tD b) = decide (a = b) := by
  simp only [tD, PyData.eqv]
  exact strs_eqv a b
theorem tD_any (l : List (List Str)) (st : List Str) : ((l.map tD).any fun z => PyData.eqv z (tD st)) = decide (st ∈ l) := by
  induction l with
  | nil => simp
  | cons x l ih =>
    rw [List.map_cons, List.any_cons, ih, tD_eqv]
    by_cases e : x = st
    · subst e; simp
    · have e' : ¬ st = x := fun z => e z.symm
      simp [e, e']
theorem stan_ok : ∀ st ∈ stanD, okS st := by
  have h : (stanD.all fun st => st.all fun x => PyData.strOk x) = true := by decide +kernel
  intro st h1 x h2
  exact List.all_eq_true.mp (List.all_eq_true.mp h st h1) x h2
theorem filt_ok (p : List Str → Bool) : ∀ st ∈ stanD.filter p, okS st := fun st h => stan_ok st (List.mem_filter.mp h).1
end My
namespace My
open PySem L2 ClX
open Evl (pss_cut)
abbrev sAnd : Stmt := inClass (topS 8) 3
abbrev sOr : Stmt := inClass (topS 8) 4
abbrev sLe : Stmt := inClass (topS 8) 5
abbrev sCon : Stmt := inClass (topS 8) 6
def leB (p q : List Str → Bool) : Bool := stanD.all fun s => !p s || q s
def spBin (K : PySem.W.Frag) (C : Addr) (c : Bool → Bool → Bool) : Sp := fun vs H Q _ => ∃ (a b : Addr) (p q : List Str → Bool), vs = [.ref a, .ref b] ∧ RuleAt K C H a (stanD.filter p) ∧ RuleAt K C H b (stanD.filter q) ∧
  ∀ r H', H r = none → Same H H' → RuleAt K C H' r (stanD.filter fun s => c (p s) (q s)) → Q (.ref r) H'
def spLe (K : PySem.W.Frag) (C : Addr) : Sp := fun vs H Q _ => ∃ (a b : Addr) (p q : List Str → Bool), vs = [.ref a, .ref b] ∧ RuleAt K C H a (stanD.filter p) ∧ RuleAt K C H b (stanD.filter q) ∧ ∀ H', Same H H' → Q (.bl (leB p q)) H'
def spCon (K : PySem.W.Frag) (C : Addr) : Sp := fun vs H Q _ => ∃ (a : Addr) (x : V) (p : List Str → Bool) (st : List Str), vs = [.ref a, x] ∧ RuleAt K C H a (stanD.filter p) ∧ Dp K H x (tD st) ∧ st ∈ stanD ∧ Q (.bl (p st)) H
theorem scAnd : FnScope ["self", "other", "stance"] ["self", "other"] (defScope sAnd) := ⟨rfl, rfl, rfl, by decide +kernel, rfl, by decide +kernel, by decide +kernel⟩
theorem scOr : FnScope ["self", "other", "stance"] ["self", "other"] (defScope sOr) := ⟨rfl, rfl, rfl, by decide +kernel, rfl, by decide +kernel, by decide +kernel⟩
theorem scLe : FnScope ["self", "other", "stance"] ["self", "other"] (defScope sLe) := ⟨rfl, rfl, rfl, by decide +kernel, rfl, by decide +kernel, by decide +kernel⟩
theorem scCon : FnScope ["self", "stance"] ["self", "stance"] (defScope sCon) := ⟨rfl, rfl, rfl, by decide +kernel, rfl, by decide +kernel, by decide +kernel⟩
/-- the tuple of a rule's tuples as data -/
theorem dp_let {K : PySem.W.Frag} {H : Hp} {t : Addr} {as : List Addr} {ds : List (List Str)} (h1 : SqT K H t (as.map V.ref)) (h2 : TupsAt K H as ds) : Dp K H (.ref t) (.tuple (ds.map tD)) := .tup h1 (dpa_tups h2)
theorem mem_filt {p : List Str → Bool} {st : List Str} (h : st ∈ stanD) : decide (st ∈ stanD.filter p) = p st := by
  cases e : p st with
  | true => exact decide_eq_true (List.mem_filter.mpr ⟨h, e⟩)
  | false =>
    refine decide_eq_false fun m => ?_
    have := (List.mem_filter.mp m).2
    rw [e] at this
    cases this
theorem in_let {K : PySem.W.Frag} {H : Hp} {x : V} {t : Addr} {as : List Addr} {p : List Str → Bool} {st : List Str} {Q : VK} (hx : Dp K H x (tD st)) (hs : st ∈ stanD) (h1 : SqT K H t (as.map V.ref)) (h2 : TupsAt K H as (stanD.filter p)) (q : Q (.bl (p st)) H) : rInDT K x (.ref t) H Q :=
  ⟨_, _, hx, .inr (dp_let h1 h2), tD_shaped (stan_ok st hs), tDs_shaped (filt_ok p), by rw [tD_any, mem_filt hs]; exact q⟩
section
variable {P : Program} {w : World} {K : PySem.W.Frag} {mg : Str → Option Value} {base : Heap}
theorem ok_and {f C aS fI : Addr} {fd fdI : FuncData} (F : Fun K "__and__" "Rule.__and__" sAnd f fd) (T : GlsR K mg C aS) (mC : mg "Rule" = some (.ref C)) (M : Mk K C fI) (FI : Fun K "__init__" "Rule.__init__" sRInit fI fdI) (bI : Binds K fdI ["self", "stances"] []) : FnOk P w K mg base CX0 3 f fd ["self", "other"] (spBin K C and) := by
  have GI : FnOk P w K mg base CX0 1 fI fdI ["self", "stances"] (spRInit K C) := ok_rinit FI T
  refine F.ok scAnd (fun vs H Q E h => ?_) (fun cdv A outer s H vs Q E hr h => ?_)
  · obtain ⟨a, b, p, q, rfl, _⟩ := h
    rfl
  · obtain ⟨a, b, p, q, rfl, hA, hB, k⟩ := h
    have nd := scAnd.nd
    have hu : (A.deeper (PyProof.Rows.envOfC "Rule.__and__" (defScope sAnd) s.heap.objs.size f cdv)).units + 65 < cLine := by
      have := hr.un
      omega
    obtain ⟨as, hS, hT⟩ := T.st
    have hlen : as.length = stanD.length := (hT H).len
    obtain ⟨dxa, ta, las, a1, a2, a3⟩ := id hA
    obtain ⟨dxb, tb, lbs, b1, b2, b3⟩ := id hB
    refine ⟨_, pss_one (ps_ret (pe_make M GI hr rfl mC bI .nil pass0 (pa_cons (pe_lc (own := [("stance", 2)]) (g := gName 2) rfl nd (pi_tup (pe_glob (v := .ref aS) rfl T.mS rfl)) (blkOk_by (own := [("stance", 2)]) (N := ["self", "other", "stance"]) (sc := defScope sAnd) (by decide +kernel))
      (fun _ _ _ _ _ => pg_name (i := 2) nd rfl (Or.inl rfl)) (fun _ _ _ _ _ => pts_one (PW.pt (pw_and (pt_cmpR (show OpR _ (compareOp .In) (rInDT K) from op_inDT hu) (pv 2) (show PE _ _ (tFld K (tVar 0) "_let") from pe_fld (pv 0) rfl) (by rfl)) (pw_and1 (pt_cmpR (show OpR _ (compareOp .In) (rInDT K) from op_inDT hu) (pv 2) (show PE _ _ (tFld K (tVar 1) "_let") from pe_fld (pv 1) rfl) (by rfl)))))) (fun _ _ _ _ _ => pv 2)) pa_nil))), ?_⟩
    refine ⟨aS, rfl, ⟨_, hS H⟩, fun D hD => ?_⟩
    refine lc_tup (K := K) (a := aS) (xs := as.map V.ref) (fun i H2 => Same H H2 ∧ ∃ bs : List Addr, H2 D = some (.lst (bs.map V.ref)) ∧ bs.length ≤ i ∧ TupsAt K H2 bs ((stanD.take i).filter fun st => and (p st) (q st))) ⟨same_new hD, [], upd_same, Nat.le_refl _, .nil⟩ (fun i H2 _ h => hS H2) ?_ ?_
    · rintro i x H2 hi ⟨s2, bs, hD2, hbl, hT2⟩
      obtain ⟨z, hz, rfl⟩ : ∃ z, as[i]? = some z ∧ x = V.ref z := by
        rw [List.getElem?_map] at hi
        cases e : as[i]? with
        | none => rw [e] at hi; cases hi
        | some z => rw [e] at hi; exact ⟨z, rfl, (Option.some.inj hi).symm⟩
      have hil : i < as.length := (List.getElem?_eq_some_iff.mp hz).1
      have h9 : stanD.length = 9 := rfl
      obtain ⟨d, hd, hat⟩ := (hT H2).get hz
      have hds : d ∈ stanD := List.mem_of_getElem? hd
      have hdx : Dp K H2 (.ref z) (tD d) := .tup hat (dpa_strs d)
      have hfl := filter_take_snoc (fun st => and (p st) (q st)) hd
      have keep : and (p d) (q d) = true → ∃ acc, H2 D = some (.lst acc) ∧ acc.length < sizeLine ∧ (Same H (upd H2 D (.lst (acc ++ [V.ref z]))) ∧ ∃ bs : List Addr, upd H2 D (.lst (acc ++ [V.ref z])) D = some (.lst (bs.map V.ref)) ∧ bs.length ≤ i + 1 ∧ TupsAt K (upd H2 D (.lst (acc ++ [V.ref z]))) bs ((stanD.take (i + 1)).filter fun st => and (p st) (q st))) := fun hc => by
        rw [if_pos hc] at hfl
        refine ⟨_, hD2, small1000 (by rw [List.length_map]; omega), same_up s2 hD, bs ++ [z], ?_, by rw [List.length_append, List.length_singleton]; omega, ?_⟩
        · rw [upd_same, List.map_append]; rfl
        · rw [hfl]
          exact (TupsAt.updL hD2 hT2).snoc (seqT_updL hD2 hat)
      have drop : and (p d) (q d) = false → (Same H H2 ∧ ∃ bs : List Addr, H2 D = some (.lst (bs.map V.ref)) ∧ bs.length ≤ i + 1 ∧ TupsAt K H2 bs ((stanD.take (i + 1)).filter fun st => and (p st) (q st))) := fun hc => by
        rw [if_neg (by rw [hc]; exact Bool.false_ne_true), List.append_nil] at hfl
        refine ⟨s2, bs, hD2, by omega, ?_⟩
        rw [hfl]
        exact hT2
      refine ⟨rfl, ?_⟩
      refine ⟨_, rfl, _, rfl, a, C, dxa, _, _, rfl, s2 _ _ a1, T.cl, T.nL, rfl, in_let hdx hds (SqT.of (s2 _ _ a2)) (a3.mono s2) ⟨_, rfl, ?_⟩⟩
      cases h1 : p d with
      | true =>
        refine ⟨_, rfl, _, rfl, b, C, dxb, _, _, rfl, s2 _ _ b1, T.cl, T.nL, rfl, in_let hdx hds (SqT.of (s2 _ _ b2)) (b3.mono s2) ⟨_, rfl, ?_⟩⟩
        refine ite2 (fun h2 => ⟨_, rfl, keep (by rw [h1, h2]; rfl)⟩) (fun h2 => drop (by rw [h1, Bool.eq_false_iff.mpr h2]; rfl))
      | false => exact drop (by rw [h1]; rfl)
    · rintro H2 ⟨s2, bs, hD2, hbl, hT2⟩
      have e : (as.map V.ref).length = stanD.length := by rw [List.length_map, hlen]
      rw [e, List.take_length] at hT2
      intro x dx nx ndx nex
      have sm : Same H2 (upd (upd H2 dx (.own x)) x (.ins C dx [])) := (same_new ndx).trans (same_new (by rw [upd_ne (Ne.symm nex)]; exact nx))
      refine ⟨x, dx, D, bs.map V.ref, rfl, upd_same, sm.seq (SqL.of hD2), ?_, fun t ht => ⟨rfl, ?_⟩⟩
      · rw [List.length_map]
        rw [e] at hbl
        exact Nat.le_trans hbl (by decide)
      · have nxt : x ≠ t := fun z => by rw [← z, upd_same] at ht; cases ht
        have sf : Same H2 (upd (upd (upd (upd H2 dx (.own x)) x (.ins C dx [])) t (.tup (bs.map V.ref))) x (.ins C dx [("_let", .ref t)])) := by
          intro q o hq
          have h1 : q ≠ x := ne_of_none hq nx
          rw [upd_ne h1, upd_ne (ne_of_none (sm _ _ hq) ht)]
          exact sm _ _ hq
        exact k x _ (same_free s2 nx) (s2.trans sf) ⟨dx, t, bs, upd_same, by rw [upd_ne (Ne.symm nxt), upd_same], hT2.mono sf⟩
theorem ok_or {f C aS fI : Addr} {fd fdI : FuncData} (F : Fun K "__or__" "Rule.__or__" sOr f fd) (T : GlsR K mg C aS) (mC : mg "Rule" = some (.ref C)) (M : Mk K C fI) (FI : Fun K "__init__" "Rule.__init__" sRInit fI fdI) (bI : Binds K fdI ["self", "stances"] []) : FnOk P w K mg base CX0 3 f fd ["self", "other"] (spBin K C or) := by
  have GI : FnOk P w K mg base CX0 1 fI fdI ["self", "stances"] (spRInit K C) := ok_rinit FI T
  refine F.ok scOr (fun vs H Q E h => ?_) (fun cdv A outer s H vs Q E hr h => ?_)
  · obtain ⟨a, b, p, q, rfl, _⟩ := h
    rfl
  · obtain ⟨a, b, p, q, rfl, hA, hB, k⟩ := h
    have nd := scOr.nd
    have hu : (A.deeper (PyProof.Rows.envOfC "Rule.__or__" (defScope sOr) s.heap.objs.size f cdv)).units + 65 < cLine := by
      have := hr.un
      omega
    obtain ⟨as, hS, hT⟩ := T.st
    have hlen : as.length = stanD.length := (hT H).len
    obtain ⟨dxa, ta, las, a1, a2, a3⟩ := id hA
    obtain ⟨dxb, tb, lbs, b1, b2, b3⟩ := id hB
    refine ⟨_, pss_one (ps_ret (pe_make M GI hr rfl mC bI .nil pass0 (pa_cons (pe_lc (own := [("stance", 2)]) (g := gName 2) rfl nd (pi_tup (pe_glob (v := .ref aS) rfl T.mS rfl)) (blkOk_by (own := [("stance", 2)]) (N := ["self", "other", "stance"]) (sc := defScope sOr) (by decide +kernel))
      (fun _ _ _ _ _ => pg_name (i := 2) nd rfl (Or.inl rfl)) (fun _ _ _ _ _ => pts_one (PW.pt (pw_or (pt_cmpR (show OpR _ (compareOp .In) (rInDT K) from op_inDT hu) (pv 2) (show PE _ _ (tFld K (tVar 0) "_let") from pe_fld (pv 0) rfl) (by rfl)) (pw_or1 (pt_cmpR (show OpR _ (compareOp .In) (rInDT K) from op_inDT hu) (pv 2) (show PE _ _ (tFld K (tVar 1) "_let") from pe_fld (pv 1) rfl) (by rfl)))))) (fun _ _ _ _ _ => pv 2)) pa_nil))), ?_⟩
    refine ⟨aS, rfl, ⟨_, hS H⟩, fun D hD => ?_⟩
    refine lc_tup (K := K) (a := aS) (xs := as.map V.ref) (fun i H2 => Same H H2 ∧ ∃ bs : List Addr, H2 D = some (.lst (bs.map V.ref)) ∧ bs.length ≤ i ∧ TupsAt K H2 bs ((stanD.take i).filter fun st => or (p st) (q st))) ⟨same_new hD, [], upd_same, Nat.le_refl _, .nil⟩ (fun i H2 _ h => hS H2) ?_ ?_
    · rintro i x H2 hi ⟨s2, bs, hD2, hbl, hT2⟩
      obtain ⟨z, hz, rfl⟩ : ∃ z, as[i]? = some z ∧ x = V.ref z := by
        rw [List.getElem?_map] at hi
        cases e : as[i]? with
        | none => rw [e] at hi; cases hi
        | some z => rw [e] at hi; exact ⟨z, rfl, (Option.some.inj hi).symm⟩
      have hil : i < as.length := (List.getElem?_eq_some_iff.mp hz).1
      have h9 : stanD.length = 9 := rfl
      obtain ⟨d, hd, hat⟩ := (hT H2).get hz
      have hds : d ∈ stanD := List.mem_of_getElem? hd
      have hdx : Dp K H2 (.ref z) (tD d) := .tup hat (dpa_strs d)
      have hfl := filter_take_snoc (fun st => or (p st) (q st)) hd
      have keep : or (p d) (q d) = true → ∃ acc, H2 D = some (.lst acc) ∧ acc.length < sizeLine ∧ (Same H (upd H2 D (.lst (acc ++ [V.ref z]))) ∧ ∃ bs : List Addr, upd H2 D (.lst (acc ++ [V.ref z])) D = some (.lst (bs.map V.ref)) ∧ bs.length ≤ i + 1 ∧ TupsAt K (upd H2 D (.lst (acc ++ [V.ref z]))) bs ((stanD.take (i + 1)).filter fun st => or (p st) (q st))) := fun hc => by
        rw [if_pos hc] at hfl
        refine ⟨_, hD2, small1000 (by rw [List.length_map]; omega), same_up s2 hD, bs ++ [z], ?_, by rw [List.length_append, List.length_singleton]; omega, ?_⟩
        · rw [upd_same, List.map_append]; rfl
        · rw [hfl]
          exact (TupsAt.updL hD2 hT2).snoc (seqT_updL hD2 hat)
      have drop : or (p d) (q d) = false → (Same H H2 ∧ ∃ bs : List Addr, H2 D = some (.lst (bs.map V.ref)) ∧ bs.length ≤ i + 1 ∧ TupsAt K H2 bs ((stanD.take (i + 1)).filter fun st => or (p st) (q st))) := fun hc => by
        rw [if_neg (by rw [hc]; exact Bool.false_ne_true), List.append_nil] at hfl
        refine ⟨s2, bs, hD2, by omega, ?_⟩
        rw [hfl]
        exact hT2
      refine ⟨rfl, ?_⟩
      refine ⟨_, rfl, _, rfl, a, C, dxa, _, _, rfl, s2 _ _ a1, T.cl, T.nL, rfl, in_let hdx hds (SqT.of (s2 _ _ a2)) (a3.mono s2) ⟨_, rfl, ?_⟩⟩
      cases h1 : p d with
      | true => exact ⟨_, rfl, keep (by rw [h1]; rfl)⟩
      | false =>
        refine ⟨_, rfl, _, rfl, b, C, dxb, _, _, rfl, s2 _ _ b1, T.cl, T.nL, rfl, in_let hdx hds (SqT.of (s2 _ _ b2)) (b3.mono s2) ⟨_, rfl, ?_⟩⟩
        refine ite2 (fun h2 => ⟨_, rfl, keep (by rw [h1, h2]; rfl)⟩) (fun h2 => drop (by rw [h1, Bool.eq_false_iff.mpr h2]; rfl))
    · rintro H2 ⟨s2, bs, hD2, hbl, hT2⟩
      have e : (as.map V.ref).length = stanD.length := by rw [List.length_map, hlen]
      rw [e, List.take_length] at hT2
      intro x dx nx ndx nex
      have sm : Same H2 (upd (upd H2 dx (.own x)) x (.ins C dx [])) := (same_new ndx).trans (same_new (by rw [upd_ne (Ne.symm nex)]; exact nx))
      refine ⟨x, dx, D, bs.map V.ref, rfl, upd_same, sm.seq (SqL.of hD2), ?_, fun t ht => ⟨rfl, ?_⟩⟩
      · rw [List.length_map]
        rw [e] at hbl
        exact Nat.le_trans hbl (by decide)
      · have nxt : x ≠ t := fun z => by rw [← z, upd_same] at ht; cases ht
        have sf : Same H2 (upd (upd (upd (upd H2 dx (.own x)) x (.ins C dx [])) t (.tup (bs.map V.ref))) x (.ins C dx [("_let", .ref t)])) := by
          intro q o hq
          have h1 : q ≠ x := ne_of_none hq nx
          rw [upd_ne h1, upd_ne (ne_of_none (sm _ _ hq) ht)]
          exact sm _ _ hq
        exact k x _ (same_free s2 nx) (s2.trans sf) ⟨dx, t, bs, upd_same, by rw [upd_ne (Ne.symm nxt), upd_same], hT2.mono sf⟩
theorem ok_le {f C aS : Addr} {fd : FuncData} (F : Fun K "__le__" "Rule.__le__" sLe f fd) (T : GlsR K mg C aS) (mAll : mg "all" = none) : FnOk P w K mg base CX0 1 f fd ["self", "other"] (spLe K C) := by
  refine F.ok scLe (fun vs H Q E h => ?_) (fun cdv A outer s H vs Q E hr h => ?_)
  · obtain ⟨a, b, p, q, rfl, _⟩ := h
    rfl
  · obtain ⟨a, b, p, q, rfl, hA, hB, k⟩ := h
    have nd := scLe.nd
    have hu : (A.deeper (PyProof.Rows.envOfC "Rule.__le__" (defScope sLe) s.heap.objs.size f cdv)).units + 65 < cLine := by
      have := hr.un
      omega
    obtain ⟨dxa, ta, las, a1, a2, a3⟩ := id hA
    obtain ⟨dxb, tb, lbs, b1, b2, b3⟩ := id hB
    refine ⟨_, pss_one (ps_ret (pe_callB (cr_all rfl) (by rfl) mAll (by decide +kernel) (pa_cons (pe_lc (own := [("stance", 2)]) (g := gName 2) (tt := tYes) rfl nd (pi_tup (pe_fld (pv 0) rfl)) (blkOk_by (own := [("stance", 2)]) (N := ["self", "other", "stance"]) (sc := defScope sLe) (by decide +kernel))
      (fun _ _ _ _ _ => pg_name (i := 2) nd rfl (Or.inl rfl)) (fun _ _ _ _ _ => pts_nil) (fun _ _ _ _ _ => pe_cmpR (show OpR _ (compareOp .In) (rInDT K) from op_inDT hu) (pv 2) (show PE _ _ (tFld K (tVar 1) "_let") from pe_fld (pv 1) rfl) (by rfl))) pa_nil))), ?_⟩
    refine ⟨_, rfl, a, C, dxa, _, _, rfl, a1, T.cl, T.nL, rfl, ta, rfl, ⟨_, SqT.of a2⟩, fun D hD => ?_⟩
    have hl := a3.len
    have hl9 : (stanD.filter p).length ≤ 9 := List.length_filter_le p stanD
    refine lc_tup (K := K) (a := ta) (xs := las.map V.ref) (fun i H2 => Same H H2 ∧ H2 D = some (.lst ((((stanD.filter p).take i).map fun d => q d).map V.bl))) ⟨same_new hD, upd_same⟩ (fun i H2 _ h => Same.seqT h.1 (SqT.of a2)) ?_ ?_
    · rintro i x H2 hi ⟨s2, hD2⟩
      obtain ⟨z, hz, rfl⟩ : ∃ z, las[i]? = some z ∧ x = V.ref z := by
        rw [List.getElem?_map] at hi
        cases e : las[i]? with
        | none => rw [e] at hi; cases hi
        | some z => rw [e] at hi; exact ⟨z, rfl, (Option.some.inj hi).symm⟩
      have hil : i < las.length := (List.getElem?_eq_some_iff.mp hz).1
      obtain ⟨d, hd, hat⟩ := (a3.mono s2).get hz
      have hds : d ∈ stanD := (List.mem_filter.mp (List.mem_of_getElem? hd)).1
      refine ⟨rfl, ?_⟩
      refine ⟨_, rfl, _, rfl, b, C, dxb, _, _, rfl, s2 _ _ b1, T.cl, T.nL, rfl, in_let (.tup hat (dpa_strs d)) hds (SqT.of (s2 _ _ b2)) (b3.mono s2) ?_⟩
      refine ⟨_, hD2, small1000 (by rw [List.length_map, List.length_map, List.length_take]; omega), same_up s2 hD, ?_⟩
      rw [upd_same, take_snoc hd, List.map_append, List.map_append]
      rfl
    · rintro H2 ⟨s2, hD2⟩
      refine ⟨D, (stanD.filter p).map fun d => q d, rfl, ?_, ?_⟩
      · have e : (las.map V.ref).length = (stanD.filter p).length := by rw [List.length_map, hl]
        rw [e, List.take_length] at hD2
        exact SqL.of hD2
      · have e : ((stanD.filter p).map fun d => q d).all id = leB p q := by
          unfold leB
          rw [List.all_map, List.all_filter]
          rfl
        rw [e]
        exact k H2 s2
theorem ok_con {f C aS : Addr} {fd : FuncData} (F : Fun K "__contains__" "Rule.__contains__" sCon f fd) (T : GlsR K mg C aS) : FnOk P w K mg base CX0 1 f fd ["self", "stance"] (spCon K C) := by
  refine F.ok scCon (fun vs H Q E h => ?_) (fun cdv A outer s H vs Q E hr h => ?_)
  · obtain ⟨a, x, p, st, rfl, _⟩ := h
    rfl
  · obtain ⟨a, x, p, st, rfl, hA, hx, hs, k⟩ := h
    have hu : (A.deeper (PyProof.Rows.envOfC "Rule.__contains__" (defScope sCon) s.heap.objs.size f cdv)).units + 65 < cLine := by
      have := hr.un
      omega
    obtain ⟨dxa, ta, las, a1, a2, a3⟩ := id hA
    refine ⟨_, pss_one (ps_ret (pe_cmpR (op_inDT hu) (pv 1) (pe_fld (pv 0) rfl) (by rfl))), ?_⟩
    exact ⟨_, rfl, _, rfl, a, C, dxa, _, _, rfl, a1, T.cl, T.nL, rfl, in_let hx hs (SqT.of a2) a3 k⟩
end
structure GlsO (K : PySem.W.Frag) (C fAnd fOr : Addr) : Prop where
  sf : PySem.W.selfFirst K C = true
  hAnd : PySem.W.findIn K (.ref C) "__and__" = some (some (.ref fAnd))
  iAnd : PySem.W.isFn K (.ref fAnd) = true
  hOr : PySem.W.findIn K (.ref C) "__or__" = some (some (.ref fOr))
  iOr : PySem.W.isFn K (.ref fOr) = true
end My
namespace My
open PySem L2 ClX
open Evl (pss_cut)
/-! new lists of texts, of such lists, of lists of such lists -/
def ListsAt (H : Hp) (bs : List Addr) (ls : List (List Str)) : Prop := Paired (fun b l => H b = some (.lst (sV l))) bs ls
def MenuAt (H : Hp) (cs : List Addr) (ms : List (List (List Str))) : Prop := Paired (fun c ls => ∃ bs : List Addr, H c = some (.lst (bs.map V.ref)) ∧ ListsAt H bs ls) cs ms
theorem ListsAt.mono {H H' : Hp} {bs : List Addr} {ls : List (List Str)} (s : Same H H') (h : ListsAt H bs ls) : ListsAt H' bs ls := Paired.mapP h fun _ _ q => s _ _ q
theorem MenuAt.mono {H H' : Hp} {bs : List Addr} {ls : List (List (List Str))} (s : Same H H') (h : MenuAt H bs ls) : MenuAt H' bs ls := Paired.mapP h fun _ _ ⟨bs, q1, q2⟩ => ⟨bs, s _ _ q1, q2.mono s⟩
theorem paired_get {α β : Type} {F : α → β → Prop} : ∀ {as : List α} {bs : List β}, Paired F as bs → ∀ {i : Nat} {b : β}, bs[i]? = some b → ∃ a, as[i]? = some a ∧ F a b
  | _, _, .nil, _, _, e => by simp at e
  | _, _, .cons h _, 0, _, e => by
    cases e
    exact ⟨_, rfl, h⟩
  | _, _, .cons _ t, i + 1, b, e => by
    obtain ⟨a, h1, h2⟩ := paired_get t (i := i) (b := b) (by simpa using e)
    exact ⟨a, by simpa using h1, h2⟩
theorem paired_app {α β : Type} {F : α → β → Prop} : ∀ {as : List α} {bs : List β} {cs : List α} {ds : List β}, Paired F as bs → Paired F cs ds → Paired F (as ++ cs) (bs ++ ds)
  | _, _, _, _, .nil, h => h
  | _, _, _, _, .cons q t, h => .cons q (paired_app t h)
theorem pe_imp {X : Cx} {e : Expr} {t t' : TE} (h : PE X e t) (i : ∀ σ H Q, t' σ H Q → t σ H Q) : PE X e t' := ⟨fun pins s σ H Q I q => h.run pins s σ H Q I (i σ H Q q)⟩
theorem pa_imp {X : Cx} {e : List Expr} {t t' : TA} (h : PA X e t) (i : ∀ σ H Q, t' σ H Q → t σ H Q) : PA X e t' := ⟨fun pos pins s σ H Q I q => h.run pos pins s σ H Q I (i σ H Q q)⟩
def tStrs (l : List Str) : TA := fun _ H Q => Q (sV l) H
def tNewL (l : List Str) : TE := fun _ H Q => ∀ p H', H p = none → Same H H' → H' p = some (.lst (sV l)) → Q (.ref p) H'
def tLists (ls : List (List Str)) : TA := fun _ H Q => ∀ bs H', Same H H' → ListsAt H' bs ls → Q (bs.map V.ref) H'
def tNewLL (ls : List (List Str)) : TE := fun _ H Q => ∀ p bs H', H p = none → Same H H' → H' p = some (.lst (bs.map V.ref)) → ListsAt H' bs ls → Q (.ref p) H'
def tMenus (ms : List (List (List Str))) : TA := fun _ H Q => ∀ cs H', Same H H' → MenuAt H' cs ms → (∀ c ∈ cs, H c = none) → Q (cs.map V.ref) H'
def tNewLLL (ms : List (List (List Str))) : TE := fun _ H Q => ∀ p cs H', H p = none → Same H H' → H' p = some (.lst (cs.map V.ref)) → MenuAt H' cs ms → (∀ c ∈ cs, H c = none) → Q (.ref p) H'
section
variable {X : Cx} {e : Expr} {es : List Expr} {pos : Pos}
theorem pa_s0 : PA X [] (tStrs []) := pa_imp pa_nil fun _ _ _ q => q
theorem pa_s {x : Str} {l : List Str} (he : PE X e (tC (.str x))) (h : PA X es (tStrs l)) (hs : starEach (e :: es) X.env = (false, eval e X.env) :: starEach es X.env := by rfl) : PA X (e :: es) (tStrs (x :: l)) := pa_imp (pa_cons he h hs) fun _ _ _ q => q
theorem pe_newL {l : List Str} (h : PA X es (tStrs l)) (hl : l.length ≤ 1000 := by decide) : PE X (.List es pos) (tNewL l) := pe_imp (pe_lst h) fun σ H Q q =>
  ⟨by unfold sV; rw [List.length_map]; exact Nat.le_of_lt (small1000 hl), fun p hp => q p _ hp (same_new hp) upd_same⟩
theorem pa_l0 : PA X [] (tLists []) := pa_imp pa_nil fun _ H _ q => q [] H (Same.refl H) .nil
theorem pa_l {l : List Str} {ls : List (List Str)} (he : PE X e (tNewL l)) (h : PA X es (tLists ls)) (hs : starEach (e :: es) X.env = (false, eval e X.env) :: starEach es X.env := by rfl) : PA X (e :: es) (tLists (l :: ls)) :=
  pa_imp (pa_cons he h hs) fun σ H Q q p H1 n1 s1 h1 bs H2 s2 h2 => q (p :: bs) H2 (s1.trans s2) (.cons (s2 _ _ h1) h2)
theorem pe_newLL {ls : List (List Str)} (h : PA X es (tLists ls)) (hl : ls.length ≤ 1000 := by decide) : PE X (.List es pos) (tNewLL ls) := pe_imp (pe_lst h) fun σ H Q q bs H1 s1 h1 =>
  ⟨by rw [List.length_map, Paired.length h1]; exact Nat.le_of_lt (small1000 hl), fun p hp => q p bs _ (same_free s1 hp) (s1.trans (same_new hp)) upd_same (h1.mono (same_new hp))⟩
theorem pa_m0 : PA X [] (tMenus []) := pa_imp pa_nil fun _ H _ q => q [] H (Same.refl H) .nil fun c hc => absurd hc (by simp)
theorem pa_m {l : List (List Str)} {ls : List (List (List Str))} (he : PE X e (tNewLL l)) (h : PA X es (tMenus ls)) (hs : starEach (e :: es) X.env = (false, eval e X.env) :: starEach es X.env := by rfl) : PA X (e :: es) (tMenus (l :: ls)) :=
  pa_imp (pa_cons he h hs) fun σ H Q q p bs H1 n1 s1 h1 hb cs H2 s2 h2 hn => q (p :: cs) H2 (s1.trans s2) (.cons ⟨bs, s2 _ _ h1, hb.mono s2⟩ h2) fun c hc => by
    rcases List.mem_cons.mp hc with rfl | hc
    · exact n1
    · exact same_free s1 (hn c hc)
theorem pe_newLLL {ls : List (List (List Str))} (h : PA X es (tMenus ls)) (hl : ls.length ≤ 1000 := by decide) : PE X (.List es pos) (tNewLLL ls) := pe_imp (pe_lst h) fun σ H Q q bs H1 s1 h1 hn =>
  ⟨by rw [List.length_map, Paired.length h1]; exact Nat.le_of_lt (small1000 hl), fun p hp => q p bs _ (same_free s1 hp) (s1.trans (same_new hp)) upd_same (h1.mono (same_new hp)) hn⟩
end
def psz : List Int := [2, 10, 4, 7, 7, 2, 7, 7, 2, 7, 7, 2]
def menuD : List (List (List Str)) := [[["nested"], ["around"]], [["package"]], [["package"], ["below"]], [["any"]], [["below"]], [["package", "below"]], [["heir"]], [["own"]], [["heir", "package"]], [["heir"], ["package"]]]
def wordI (c : Int) : Str := wordsD.getD c.toNat ""
def prodK (ds : List Int) (k : Nat) : List Str := if ds.getD (5 + 3 * k) 0 = 1 then [wordI (ds.getD (3 + 3 * k) 0), wordI (ds.getD (4 + 3 * k) 0)] else [wordI (ds.getD (3 + 3 * k) 0)]
def prodsD (ds : List Int) : List (List Str) := if ds.getD 0 0 = 0 then menuD.getD (ds.getD 1 0).toNat [] else (List.range (ds.getD 2 0).toNat).map (prodK ds)
def prodsF (ns : List Int) (j : Nat) : List (List Str) := prodsD (digF ns j psz)
theorem word_I {c : Int} (h : 0 ≤ c ∧ c < 7) : atI (sV wordsD) c = some (.str (wordI c)) := by
  obtain ⟨n, rfl⟩ := Int.eq_ofNat_of_zero_le h.1
  have hn : n < wordsD.length := by have := h.2; show n < 7; omega
  refine atI_nat ?_
  unfold sV wordI
  rw [List.getElem?_map, List.getElem?_eq_getElem hn]
  show some (V.str wordsD[n]) = some (V.str (wordsD.getD n ""))
  rw [List.getD_eq_getElem?_getD, List.getElem?_eq_getElem hn]
  rfl
theorem wordI_in (c : Int) (h : 0 ≤ c ∧ c < 7) : wordI c ∈ wordsD := by
  obtain ⟨n, rfl⟩ := Int.eq_ofNat_of_zero_le h.1
  have hn : n < wordsD.length := by have := h.2; show n < 7; omega
  unfold wordI
  rw [List.getD_eq_getElem?_getD]
  show (wordsD[n]?).getD "" ∈ wordsD
  rw [List.getElem?_eq_getElem hn]
  exact List.getElem_mem hn
/-- a digit by its place -/
theorem dig_at {szs ds : List Int} (h : DigOk szs ds) {i : Nat} {s : Int} (e : szs[i]? = some s) : (ds.map V.int)[i]? = some (V.int (ds.getD i 0)) ∧ 0 ≤ ds.getD i 0 ∧ ds.getD i 0 < s := by
  have hi : i < ds.length := by rw [h.1]; exact (List.getElem?_eq_some_iff.mp e).1
  have g : ds.getD i 0 = ds[i] := by rw [List.getD_eq_getElem?_getD, List.getElem?_eq_getElem hi]; rfl
  rw [g]
  refine ⟨by rw [List.getElem?_map, List.getElem?_eq_getElem hi]; rfl, h.2 i _ _ (List.getElem?_eq_getElem hi) e⟩
theorem psz_k : ∀ k < 3, psz[3 + 3 * k]? = some 7 ∧ psz[4 + 3 * k]? = some 7 ∧ psz[5 + 3 * k]? = some 2 := by decide
theorem prods_ok {ds : List Int} (h : DigOk psz ds) : (prodsD ds).length ≤ 3 ∧ ∀ l ∈ prodsD ds, l.length ≤ 2 ∧ ∀ x ∈ l, x ∈ wordsD := by
  unfold prodsD
  obtain ⟨_, b0, b1⟩ := dig_at h (i := 1) (s := 10) rfl
  obtain ⟨_, c0, c1⟩ := dig_at h (i := 2) (s := 4) rfl
  split
  · have q : ∀ n < 10, (menuD.getD n []).length ≤ 3 ∧ ∀ l ∈ menuD.getD n [], l.length ≤ 2 ∧ ∀ x ∈ l, x ∈ wordsD := by decide +kernel
    exact q _ (by omega)
  · refine ⟨by rw [List.length_map, List.length_range]; omega, fun l hl => ?_⟩
    obtain ⟨k, hk, rfl⟩ := List.mem_map.mp hl
    have hk3 : k < 3 := by
      have := List.mem_range.mp hk
      omega
    obtain ⟨e1, e2, e3⟩ := psz_k k hk3
    have w1 := wordI_in _ (dig_at h e1).2
    have w2 := wordI_in _ (dig_at h e2).2
    unfold prodK
    split
    · refine ⟨Nat.le_refl _, fun x hx => ?_⟩
      rcases List.mem_cons.mp hx with rfl | hx
      · exact w1
      · rw [List.mem_singleton.mp hx]
        exact w2
    · refine ⟨by show 1 ≤ 2; decide, fun x hx => ?_⟩
      rw [List.mem_singleton.mp hx]
      exact w1
end My
namespace My
open PySem L2 ClX
open Evl (pss_cut)
abbrev sProd : Stmt := topS 17
theorem getD_some {α : Type} {l : List α} {n : Nat} (h : n < l.length) (d : α) : l[n]? = some (l.getD n d) := by
  rw [List.getD_eq_getElem?_getD, List.getElem?_eq_getElem h]
  rfl
def spProd (K : PySem.W.Frag) : Sp := fun vs H Q _ => ∃ (a : Addr) (ns : List Int) (j : Nat), vs = [.ref a, .int j] ∧ SqL K H a (ns.map V.int) ∧ ns.length ≤ 63 ∧ j ≤ 1000 ∧
  ∀ p bs H', Same H H' → H' p = some (.lst (bs.map V.ref)) → ListsAt H' bs (prodsF ns j) → DigOk psz (digF ns j psz) → Q (.ref p) H'
/-- .. and the list is new -/
def spProdN (K : PySem.W.Frag) : Sp := fun vs H Q _ => ∃ (a : Addr) (ns : List Int) (j : Nat), vs = [.ref a, .int j] ∧ SqL K H a (ns.map V.int) ∧ ns.length ≤ 63 ∧ j ≤ 1000 ∧
  ∀ p bs H', H p = none → Same H H' → H' p = some (.lst (bs.map V.ref)) → ListsAt H' bs (prodsF ns j) → DigOk psz (digF ns j psz) → Q (.ref p) H'
theorem scProd : FnScope ["_law_script", "_law_at", "_law_menu", "_law_picks", "_law_words_here", "_law_products_here", "_law_k", "_law_product"] ["_law_script", "_law_at"] (defScope sProd) := ⟨rfl, rfl, rfl, by decide +kernel, rfl, by decide +kernel, by decide +kernel⟩
section
variable {P : Program} {w : World} {K : PySem.W.Frag} {mg : Str → Option Value} {base : Heap}
theorem ok_prodN {f fG fW : Addr} {fd fdG fdW : FuncData} (F : Fun K "_law_products" "_law_products" sProd f fd) (T : Gls mg)
    (FG : Fun K "_law_digits" "_law_digits" sDig fG fdG) (bG : Binds K fdG ["_law_script", "_law_at", "_law_sizes"] []) (mG : mg "_law_digits" = some (.ref fG))
    (FW : Fun K "_law_words" "_law_words" sWords fW fdW) (bW : Binds K fdW [] []) (mW : mg "_law_words" = some (.ref fW)) : FnOk P w K mg base CX0 2 f fd ["_law_script", "_law_at"] (spProdN K) := by
  have GG : FnOk P w K mg base CX0 1 fG fdG _ (spDig K) := ok_dig FG T
  have GW : FnOk P w K mg base CX0 1 fW fdW [] spWords := ok_words FW
  refine F.ok scProd (fun vs H Q E h => ?_) (fun cdv A outer s H vs Q E hr h => ?_)
  · obtain ⟨a, ns, j, rfl, _⟩ := h
    rfl
  · obtain ⟨a, ns, j, rfl, hS, hlen, hj, k⟩ := h
    have nd := scProd.nd
    refine ⟨_, pss_cons (ps_set (i := 2) nd rfl (Or.inl rfl) (pe_newLLL (ls := menuD.take 5) (pa_m (pe_newLL (pa_l (pe_newL (pa_s pe_str pa_s0)) (pa_l (pe_newL (pa_s pe_str pa_s0)) pa_l0))) (pa_m (pe_newLL (pa_l (pe_newL (pa_s pe_str pa_s0)) pa_l0)) (pa_m (pe_newLL (pa_l (pe_newL (pa_s pe_str pa_s0)) (pa_l (pe_newL (pa_s pe_str pa_s0)) pa_l0))) (pa_m (pe_newLL (pa_l (pe_newL (pa_s pe_str pa_s0)) pa_l0)) (pa_m (pe_newLL (pa_l (pe_newL (pa_s pe_str pa_s0)) pa_l0)) pa_m0)))))))
      (pss_cons (ps_set (i := 2) nd rfl (Or.inl rfl) (pe_op op_cat (pv 2) (pe_newLLL (ls := menuD.drop 5) (pa_m (pe_newLL (pa_l (pe_newL (pa_s pe_str (pa_s pe_str pa_s0))) pa_l0)) (pa_m (pe_newLL (pa_l (pe_newL (pa_s pe_str pa_s0)) pa_l0)) (pa_m (pe_newLL (pa_l (pe_newL (pa_s pe_str pa_s0)) pa_l0)) (pa_m (pe_newLL (pa_l (pe_newL (pa_s pe_str (pa_s pe_str pa_s0))) pa_l0)) (pa_m (pe_newLL (pa_l (pe_newL (pa_s pe_str pa_s0)) (pa_l (pe_newL (pa_s pe_str pa_s0)) pa_l0))) pa_m0))))))))
      (pss_cons (ps_set (i := 3) nd rfl (Or.inl rfl) (pe_call GG hr (by rfl) mG FG.kp bG .nil pass0 (pa_cons (pv 0) (pa_cons (pv 1) (pa_cons (pe_lst (pa_cons pe_int (pa_cons pe_int (pa_cons pe_int (pa_cons pe_int (pa_cons pe_int (pa_cons pe_int (pa_cons pe_int (pa_cons pe_int (pa_cons pe_int (pa_cons pe_int (pa_cons pe_int (pa_cons pe_int pa_nil))))))))))))) pa_nil)))))
      (pss_cons (ps_if (pt_cmpR op_eq (pe_ix ix_list (pv 3) pe_int (fun _ _ => rfl)) pe_int (nomark _)) (pss_one (ps_ret (pe_ix ix_list (pv 2) (pe_ix ix_list (pv 3) pe_int (fun _ _ => rfl)) (fun _ _ => rfl)))) pss_nil)
      (pss_cons (ps_set (i := 4) nd rfl (Or.inl rfl) (pe_call0 GW hr (by rfl) mW FW.kp bW .nil pass0))
      (pss_cons (ps_set (i := 5) nd rfl (Or.inl rfl) (pe_lst pa_nil))
      (pss_cons (ps_for PassesOwn.never rfl (pi_range1 rfl T.range (pa_cons (pe_ix ix_list (pv 3) pe_int (fun _ _ => rfl)) pa_nil)) (pg_name (i := 6) nd rfl (Or.inl rfl))
        (pss_cons (ps_set (i := 7) nd rfl (Or.inl rfl) (pe_lst (pa_cons (pe_ix ix_list (pv 4) (pe_ix ix_list (pv 3) (pe_op op_add pe_int (pe_op op_mul pe_int (pv 6))) (fun _ _ => rfl)) (fun _ _ => rfl)) pa_nil)))
        (pss_cut (ps_if (pt_cmpR op_eq (pe_ix ix_list (pv 3) (pe_op op_add pe_int (pe_op op_mul pe_int (pv 6))) (fun _ _ => rfl)) pe_int (nomark _))
          (pss_one (ps_expr (pe_bm PySem.F.plainAttrs_list PySem.F.slot_list_append PySem.F.type_list_append mt_append (pv 7) (pa_cons (pe_ix ix_list (pv 4) (pe_ix ix_list (pv 3) (pe_op op_add pe_int (pe_op op_mul pe_int (pv 6))) (fun _ _ => rfl)) (fun _ _ => rfl)) pa_nil)))) pss_nil)
        (pss_one (ps_expr (pe_bm PySem.F.plainAttrs_list PySem.F.slot_list_append PySem.F.type_list_append mt_append (pv 5) (pa_cons (pv 7) pa_nil)))))))
      (pss_one (ps_ret (pv 5))))))))), ?_⟩
    intro p1 cs1 H1 n1 s1 h1 m1 f1
    refine ⟨_, rfl, fun p2 cs2 H2 n2 s2 h2 m2 f2 => ⟨p1, p2, _, _, rfl, rfl, s2 _ _ h1, h2, ?_, fun p3 n3 => ?_⟩⟩
    · rw [List.length_map, List.length_map, Paired.length m1, Paired.length m2]
      decide
    have s12 := s1.trans s2
    have m3 : MenuAt (upd H2 p3 (.lst (cs1.map V.ref ++ cs2.map V.ref))) (cs1 ++ cs2) menuD := MenuAt.mono (same_new n3) (show MenuAt H2 (cs1 ++ cs2) menuD from paired_app (MenuAt.mono s2 m1) m2)
    have s3 := s12.trans (same_new (o := .lst (cs1.map V.ref ++ cs2.map V.ref)) n3)
    refine ⟨_, rfl, _, rfl, by show 12 ≤ sizeLine; decide, fun z nz => ?_⟩
    refine ⟨a, z, ns, psz, j, rfl, (s3.trans (same_new nz)).seq hS, hlen, hj, SqL.of upd_same, by decide, by decide, fun ds H4 pk hds eds s4 npk hpk => ?_⟩
    have s34 := (same_new (o := .lst (psz.map V.int)) nz).trans s4
    have s04 := s3.trans s34
    subst eds
    have hm4 := m3.mono s34
    have hp4 := s34 _ _ (upd_same (H := H2) (a := p3) (o := .lst (cs1.map V.ref ++ cs2.map V.ref)))
    obtain ⟨a0, b0, b0'⟩ := dig_at hds (i := 0) (s := 2) rfl
    obtain ⟨a1, b1, b1'⟩ := dig_at hds (i := 1) (s := 10) rfl
    obtain ⟨a2, b2, b2'⟩ := dig_at hds (i := 2) (s := 4) rfl
    refine ⟨_, rfl, pk, _, _, _, rfl, rfl, SqL.of hpk, atI_nat (j := 0) a0, rfl, _, rfl, ?_⟩
    refine ite2 (fun hc => ?_) (fun hc => ?_)
    · have e0 : (digF ns j psz).getD 0 0 = 0 := V.int.inj (of_decide_eq_true hc)
      have eP : prodsF ns j = menuD.getD ((digF ns j psz).getD 1 0).toNat [] := by unfold prodsF prodsD; rw [if_pos e0]
      have hlt : ((digF ns j psz).getD 1 0).toNat < menuD.length := by show _ < 10; omega
      have eM : menuD[((digF ns j psz).getD 1 0).toNat]? = some (prodsF ns j) := by rw [eP]; exact getD_some hlt _
      obtain ⟨c, hc1, bs, hc2, hc3⟩ := paired_get hm4 eM
      have ec : (cs1.map V.ref ++ cs2.map V.ref)[((digF ns j psz).getD 1 0).toNat]? = some (V.ref c) := by rw [← List.map_append, List.getElem?_map, hc1]; rfl
      refine ⟨_, rfl, _, rfl, pk, _, _, _, rfl, rfl, SqL.of hpk, atI_nat (j := 1) a1, p3, _, _, _, rfl, rfl, SqL.of hp4, at_of (Int.toNat_of_nonneg b1).symm ec, ?_⟩
      have nc : H c = none := by
        rcases List.mem_append.mp (List.mem_of_getElem? hc1) with q | q
        · exact f1 c q
        · exact same_free s1 (f2 c q)
      exact k c bs H4 nc s04 hc2 hc3 hds
    · have e0 : ¬ (digF ns j psz).getD 0 0 = 0 := fun q => hc (decide_eq_true (congrArg V.int q))
      have eP : prodsF ns j = (List.range ((digF ns j psz).getD 2 0).toNat).map (prodK (digF ns j psz)) := by unfold prodsF prodsD; rw [if_neg e0]
      refine ⟨rfl, fun wd H5 nw s5 hw => ⟨by show 0 ≤ sizeLine; decide, fun pl npl => ?_⟩⟩
      generalize hds' : digF ns j psz = ds at *
      have s05 := s04.trans s5
      have hpk5 := s5 _ _ hpk
      refine ⟨_, rfl, pk, _, _, _, rfl, rfl, SqL.of (same_new npl _ _ hpk5), atI_nat (j := 2) a2, ds.getD 2 0, rfl, by omega, by omega, ?_⟩
      refine for_range (lo := 0) (n := (ds.getD 2 0).toNat) (fun i σ H6 => ∃ (v6 v7 : Option V) (bs : List Addr), σ = [some (.ref a), some (.int j), some (.ref p3), some (.ref pk), some (.ref wd), some (.ref pl), v6, v7] ∧ Same H5 H6 ∧ H6 pl = some (.lst (bs.map V.ref)) ∧ (∀ b ∈ bs, b ≠ pl) ∧ ListsAt H6 bs ((List.range i).map (prodK ds))) ⟨_, _, [], rfl, same_new npl, upd_same, (fun b hb => absurd hb (by simp)), .nil⟩ ?_ ?_
      · rintro i σ H6 hi ⟨v6, v7, bs, rfl, s6, hpl, hbs, hL⟩
        have hi3 : i < 3 := by omega
        obtain ⟨e1, e2, e3⟩ := psz_k i hi3
        obtain ⟨x1, y1⟩ := dig_at hds e1
        obtain ⟨x2, y2⟩ := dig_at hds e2
        obtain ⟨x3, y3⟩ := dig_at hds e3
        have hpk6 := s6 _ _ hpk5
        have hw6 := s6 _ _ hw
        have hbl : bs.length = i := by rw [Paired.length hL, List.length_map, List.length_range]
        refine ⟨_, rfl, _, rfl, _, rfl, _, _, rfl, rfl, .inl ⟨by decide, by decide⟩, _, _, rfl, rfl, pk, _, _, _, rfl, rfl, SqL.of hpk6, at_of (by omega) x1, wd, _, _, _, rfl, rfl, SqL.of hw6, word_I y1, by show 1 ≤ sizeLine; decide, fun q nq => ?_⟩
        have s67 := same_new (o := .lst [V.str (wordI (ds.getD (3 + 3 * i) 0))]) nq
        have hpk7 := s67 _ _ hpk6
        have hw7 := s67 _ _ hw6
        have nqp : q ≠ pl := (ne_of_none hpl nq).symm
        refine ⟨fun σ H8 => σ = [some (.ref a), some (.int j), some (.ref p3), some (.ref pk), some (.ref wd), some (.ref pl), some (.int (0 + (i : Int))), some (.ref q)] ∧ Same H6 H8 ∧ H8 q = some (.lst (sV (prodK ds i))), ?_, ?_⟩
        · refine ⟨_, rfl, _, rfl, _, _, rfl, rfl, .inl ⟨by decide, by decide⟩, _, _, rfl, rfl, pk, _, _, _, rfl, rfl, SqL.of hpk7, at_of (by omega) x3, rfl, _, rfl, ?_⟩
          refine ite2 (fun hc => ?_) (fun hc => ?_)
          · have e : ds.getD (5 + 3 * i) 0 = 1 := V.int.inj (of_decide_eq_true hc)
            refine ⟨_, rfl, .inl ⟨rfl, _, SqL.of upd_same⟩, _, rfl, _, rfl, _, rfl, _, _, rfl, rfl, .inl ⟨by decide, by decide⟩, _, _, rfl, rfl, pk, _, _, _, rfl, rfl, SqL.of hpk7, at_of (by omega) x2, wd, _, _, _, rfl, rfl, SqL.of hw7, word_I y2, _, _, _, rfl, rfl, upd_same, by show 1 < sizeLine; decide, ?_⟩
            refine ⟨rfl, same_up s67 nq, ?_⟩
            rw [upd_same]
            unfold prodK
            rw [if_pos e]
            rfl
          · have e : ¬ ds.getD (5 + 3 * i) 0 = 1 := fun q => hc (decide_eq_true (congrArg V.int q))
            refine ⟨rfl, s67, ?_⟩
            rw [upd_same]
            unfold prodK
            rw [if_neg e]
            rfl
        · rintro σ H8 ⟨rfl, s8, hq8⟩
          have hpl8 := s8 _ _ hpl
          refine ⟨_, rfl, .inl ⟨rfl, _, SqL.of hpl8⟩, _, rfl, _, _, _, rfl, rfl, hpl8, small1000 (by rw [List.length_map]; omega), ?_⟩
          refine ⟨_, _, bs ++ [q], rfl, same_up (s6.trans s8) npl, by rw [upd_same, List.map_append]; rfl, ?_, ?_⟩
          · intro b hb
            rcases List.mem_append.mp hb with hb | hb
            · exact hbs b hb
            · rw [List.mem_singleton.mp hb]
              exact nqp
          · rw [List.range_succ, List.map_append]
            have hL8 := hL.mono s8
            have up : ∀ (cs : List Addr) (ls : List (List Str)), (∀ b ∈ cs, b ≠ pl) → ListsAt H8 cs ls → ListsAt (upd H8 pl (.lst (bs.map V.ref ++ [V.ref q]))) cs ls := by
              intro cs ls hcs hl
              induction hl with
              | nil => exact .nil
              | cons h _ ih => exact .cons (by rw [upd_ne (hcs _ List.mem_cons_self)]; exact h) (ih fun b hb => hcs b (List.mem_cons_of_mem _ hb))
            exact paired_app (up bs _ hbs hL8) (.cons (by rw [upd_ne nqp]; exact hq8) .nil)
      · rintro σ H6 ⟨v6, v7, bs, rfl, s6, hpl, hbs, hL⟩
        refine ⟨_, rfl, k pl bs H6 (same_free s05 npl) (s05.trans s6) hpl ?_ hds⟩
        rw [eP]
        exact hL
theorem ok_prod {f fG fW : Addr} {fd fdG fdW : FuncData} (F : Fun K "_law_products" "_law_products" sProd f fd) (T : Gls mg)
    (FG : Fun K "_law_digits" "_law_digits" sDig fG fdG) (bG : Binds K fdG ["_law_script", "_law_at", "_law_sizes"] []) (mG : mg "_law_digits" = some (.ref fG))
    (FW : Fun K "_law_words" "_law_words" sWords fW fdW) (bW : Binds K fdW [] []) (mW : mg "_law_words" = some (.ref fW)) : FnOk P w K mg base CX0 2 f fd ["_law_script", "_law_at"] (spProd K) :=
  (ok_prodN F T FG bG mG FW bW mW).imp fun _ _ _ _ ⟨a, ns, j, e, h1, h2, h3, k⟩ => ⟨a, ns, j, e, h1, h2, h3, fun p bs H' _ => k p bs H'⟩
end
end My
namespace My
open PySem L2 ClX
open Evl (pss_cut)
abbrev sHolds : Stmt := topS 18
abbrev sLet : Stmt := topS 19
def letP (prods : List (List Str)) (st : List Str) : Bool := prods.any fun l => l.all fun x => decide (x ∈ st)
def spHolds (K : PySem.W.Frag) : Sp := fun vs H Q _ => ∃ (a b : Addr) (l st : List Str), vs = [.ref a, .ref b] ∧ SqL K H a (sV l) ∧ SqT K H b (sV st) ∧ l.length ≤ 1000 ∧ ∀ H', Same H H' → Q (.bl (l.all fun x => decide (x ∈ st))) H'
def spLet (K : PySem.W.Frag) : Sp := fun vs H Q _ => ∃ (a : Addr) (bs : List Addr) (prods : List (List Str)), vs = [.ref a] ∧ SqL K H a (bs.map V.ref) ∧ ListsAt H bs prods ∧ prods.length ≤ 1000 ∧ (∀ l ∈ prods, l.length ≤ 1000) ∧
  ∀ p as H', H p = none → Same H H' → H' p = some (.lst (as.map V.ref)) → TupsAt K H' as (stanD.filter (letP prods)) → Q (.ref p) H'
theorem scHolds : FnScope ["_law_product", "_law_stance", "_law_word"] ["_law_product", "_law_stance"] (defScope sHolds) := ⟨rfl, rfl, rfl, by decide +kernel, rfl, by decide +kernel, by decide +kernel⟩
theorem scLet : FnScope ["_law_products_here", "_law_found", "_law_stance", "_law_product"] ["_law_products_here"] (defScope sLet) := ⟨rfl, rfl, rfl, by decide +kernel, rfl, by decide +kernel, by decide +kernel⟩
theorem sv_get {l : List Str} {j : Nat} {x : V} (hj : (sV l)[j]? = some x) : ∃ z, l[j]? = some z ∧ x = V.str z ∧ j < l.length := by
  unfold sV at hj
  rw [List.getElem?_map] at hj
  cases e : l[j]? with
  | none => rw [e] at hj; cases hj
  | some z => rw [e] at hj; exact ⟨z, rfl, (Option.some.inj hj).symm, (List.getElem?_eq_some_iff.mp e).1⟩
theorem ref_get {l : List Addr} {j : Nat} {x : V} (hj : (l.map V.ref)[j]? = some x) : ∃ z, l[j]? = some z ∧ x = V.ref z ∧ j < l.length := by
  rw [List.getElem?_map] at hj
  cases e : l[j]? with
  | none => rw [e] at hj; cases hj
  | some z => rw [e] at hj; exact ⟨z, rfl, (Option.some.inj hj).symm, (List.getElem?_eq_some_iff.mp e).1⟩
theorem all_filter_len {α : Type} (l : List α) (p : α → Bool) : decide (V.int (((l.filter fun x => !p x).length : Nat) : Int) = V.int 0) = l.all p := by
  cases h : l.all p with
  | true =>
    refine decide_eq_true (congrArg V.int ?_)
    have e : l.filter (fun x => !p x) = [] := List.filter_eq_nil_iff.mpr fun x hx => by rw [List.all_eq_true.mp h x hx]; simp
    rw [e]
    rfl
  | false =>
    refine decide_eq_false fun q => ?_
    have h0 : ((l.filter fun x => !p x).length : Int) = 0 := V.int.inj q
    have e : l.filter (fun x => !p x) = [] := List.length_eq_zero_iff.mp (by omega)
    have : l.all p = true := List.all_eq_true.mpr fun x hx => by
      have := List.filter_eq_nil_iff.mp e x hx
      simpa using this
    rw [this] at h
    cases h
section
variable {P : Program} {w : World} {K : PySem.W.Frag} {mg : Str → Option Value} {base : Heap}
theorem ok_holds {f : Addr} {fd : FuncData} (F : Fun K "_law_holds" "_law_holds" sHolds f fd) (T : Gls mg) : FnOk P w K mg base CX0 1 f fd ["_law_product", "_law_stance"] (spHolds K) := by
  refine F.ok scHolds (fun vs H Q E h => ?_) (fun cdv A outer s H vs Q E hr h => ?_)
  · obtain ⟨a, b, l, st, rfl, _⟩ := h
    rfl
  · obtain ⟨a, b, l, st, rfl, hA, hB, hz, k⟩ := h
    have nd := scHolds.nd
    refine ⟨_, pss_one (ps_ret (pe_cmpR op_eq (pe_callB call_len_seq (by rfl) T.len PySem.boot_len (pa_cons (pe_lc (own := [("_law_word", 2)]) (g := gName 2) rfl nd (pi_list (pv 0)) (blkOk_by (own := [("_law_word", 2)]) (N := ["_law_product", "_law_stance", "_law_word"]) (sc := defScope sHolds) (by decide +kernel))
      (fun _ _ _ _ _ => pg_name (i := 2) nd rfl (Or.inl rfl)) (fun _ _ _ _ _ => pts_one (pt_cmpR (show OpR _ (compareOp .NotIn) (rIn K true) from op_notIn_seq) (pv 2) (pv 1) (by rfl))) (fun _ _ _ _ _ => pv 2)) pa_nil)) pe_int (nomark _))), ?_⟩
    refine ⟨_, rfl, a, rfl, ⟨_, hA⟩, fun D hD => ?_⟩
    refine lc_list (K := K) (a := a) (xs := sV l) (fun j H3 => Same H H3 ∧ H3 D = some (.lst (sV ((l.take j).filter fun x => !decide (x ∈ st))))) ⟨same_new hD, upd_same⟩ (fun j H3 _ h => h.1.seq hA) ?_ ?_
    · rintro j x H3 hj ⟨s3, hL⟩
      obtain ⟨z, hz', rfl, hjl⟩ := sv_get hj
      have hfl := filter_take_snoc (fun x => !decide (x ∈ st)) hz'
      refine ⟨rfl, _, rfl, _, rfl, b, _, rfl, .inr (Same.seqT s3 hB), rfl, flat_sV _, _, rfl, ?_⟩
      show if (!inV (V.str z) (sV st)) = true then _ else _
      rw [inV_sV]
      refine ite2 (fun hc => ?_) (fun hc => ?_)
      · rw [if_pos hc] at hfl
        refine ⟨_, rfl, _, hL, small1000 ?_, same_up s3 hD, ?_⟩
        · unfold sV
          rw [List.length_map]
          exact Nat.le_trans (List.length_filter_le _ _) (by rw [List.length_take]; omega)
        · rw [upd_same, hfl]
          unfold sV
          rw [List.map_append]
          rfl
      · rw [if_neg hc, List.append_nil] at hfl
        exact ⟨s3, by rw [hfl]; exact hL⟩
    · rintro H3 ⟨s3, hL⟩
      have e : (sV l).length = l.length := List.length_map ..
      rw [e, List.take_length] at hL
      refine ⟨D, _, rfl, .inl (SqL.of hL), rfl, ?_⟩
      have q := all_filter_len l fun x => decide (x ∈ st)
      have e2 : (sV (l.filter fun x => !decide (x ∈ st))).length = (l.filter fun x => !decide (x ∈ st)).length := List.length_map ..
      rw [e2, q]
      exact k H3 s3
theorem ok_let {f C aS fS fH : Addr} {fd fdS fdH : FuncData} (F : Fun K "_law_let" "_law_let" sLet f fd) (T : Gls mg) (TR : GlsR K mg C aS) (FS : Fun K "_law_stances" "_law_stances" sStans fS fdS) (bS : Binds K fdS [] []) (mSt : mg "_law_stances" = some (.ref fS))
    (FH : Fun K "_law_holds" "_law_holds" sHolds fH fdH) (bH : Binds K fdH ["_law_product", "_law_stance"] []) (mH : mg "_law_holds" = some (.ref fH)) : FnOk P w K mg base CX0 2 f fd ["_law_products_here"] (spLet K) := by
  have GS : FnOk P w K mg base CX0 1 fS fdS [] (spStans K) := ok_stans FS TR
  have GH : FnOk P w K mg base CX0 1 fH fdH _ (spHolds K) := ok_holds FH T
  refine F.ok scLet (fun vs H Q E h => ?_) (fun cdv A outer s H vs Q E hr h => ?_)
  · obtain ⟨a, bs, prods, rfl, _⟩ := h
    rfl
  · obtain ⟨a, bs, prods, rfl, hA, hL, hz, hz2, k⟩ := h
    have nd := scLet.nd
    refine ⟨_, pss_cons (ps_set (i := 1) nd rfl (Or.inl rfl) (pe_lst pa_nil))
      (pss_cons (ps_for PassesOwn.never rfl (pi_list (pe_call0 GS hr (by rfl) mSt FS.kp bS .nil pass0)) (pg_name (i := 2) nd rfl (Or.inr rfl))
        (pss_one (ps_if (pt_cmpR op_gt (pe_callB call_len_seq (by rfl) T.len PySem.boot_len (pa_cons (pe_lc (own := [("_law_product", 3)]) (g := gName 3) rfl nd (pi_list (pv 0)) (blkOk_by (own := [("_law_product", 3)]) (N := ["_law_products_here", "_law_found", "_law_stance", "_law_product"]) (sc := defScope sLet) (by decide +kernel))
          (fun _ _ _ _ _ => pg_name (i := 3) nd rfl (Or.inl rfl)) (fun _ _ _ _ _ => pts_one (pt_val (pe_call GH hr (by rfl) mH FH.kp bH .nil pass0 (pa_cons (pv 3) (pa_cons (pv 2) pa_nil))))) (fun _ _ _ _ _ => pv 3)) pa_nil)) pe_int (nomark _))
          (pss_one (ps_expr (pe_bm PySem.F.plainAttrs_list PySem.F.slot_list_append PySem.F.type_list_append mt_append (pv 1) (pa_cons (pv 2) pa_nil)))) pss_nil)))
      (pss_one (ps_ret (pv 1)))), ?_⟩
    refine ⟨by show 0 ≤ sizeLine; decide, fun l nl => ?_⟩
    refine ⟨rfl, fun q H1 as nq s1 hq hT => ⟨q, rfl, ⟨_, SqL.of hq⟩, ?_⟩⟩
    have s01 := (same_new (o := .lst []) nl).trans s1
    have nlq : q ≠ l := fun z => by rw [z, upd_same] at nq; cases nq
    have hl1 := s1 _ _ (upd_same (H := H) (a := l) (o := .lst []))
    refine for_list (K := K) (a := q) (xs := as.map V.ref) (fun i σ H2 => ∃ (v2 v3 : Option V) (cs : List Addr), σ = [some (.ref a), some (.ref l), v2, v3] ∧ Same H H2 ∧ H2 q = some (.lst (as.map V.ref)) ∧ H2 l = some (.lst (cs.map V.ref)) ∧ cs.length ≤ i ∧ TupsAt K H2 as stanD ∧ TupsAt K H2 cs ((stanD.take i).filter (letP prods)))
      ⟨_, _, [], rfl, s01, hq, hl1, Nat.le_refl _, hT, .nil⟩ (fun i σ H2 _ ⟨_, _, _, _, _, h, _⟩ => SqL.of h) ?_ ?_
    · rintro i x σ H2 hi ⟨v2, v3, cs, rfl, s2, hq2, hl2, hcl, hT2, hcs⟩
      obtain ⟨z, hz', rfl, hil⟩ := ref_get hi
      obtain ⟨d, hd, hat⟩ := hT2.get hz'
      have h9 : as.length = 9 := hT.len
      have hfl := filter_take_snoc (letP prods) hd
      refine ⟨_, rfl, a, rfl, ⟨_, s2.seq hA⟩, fun D hD => ?_⟩
      have nlD : l ≠ D := ne_of_none hl2 hD
      have nqD : q ≠ D := ne_of_none hq2 hD
      refine lc_list (K := K) (a := a) (xs := bs.map V.ref) (fun j H3 => Same H2 H3 ∧ ∃ es : List Addr, H3 D = some (.lst (es.map V.ref)) ∧ es.length = ((prods.take j).filter fun y => y.all fun x => decide (x ∈ d)).length ∧ es.length ≤ j) ⟨same_new hD, [], upd_same, rfl, Nat.le_refl _⟩ (fun j H3 _ h => (s2.trans h.1).seq hA) ?_ ?_
      · rintro j x H3 hj ⟨s3, es, hD3, hel, hel2⟩
        obtain ⟨b, hb, rfl, hjl⟩ := ref_get hj
        have hjp : j < prods.length := by rw [← Paired.length hL]; exact hjl
        obtain ⟨b', hb', hbl⟩ := paired_get (hL.mono (s2.trans s3)) (List.getElem?_eq_getElem hjp)
        rw [hb] at hb'
        cases hb'
        have hf2 := filter_take_snoc (fun y : List Str => y.all fun x => decide (x ∈ d)) (List.getElem?_eq_getElem hjp)
        refine ⟨rfl, _, rfl, _, rfl, b, z, _, d, rfl, SqL.of hbl, Same.seqT s3 hat, hz2 _ (List.getElem_mem hjp), fun H4 s4 => ⟨_, rfl, ?_⟩⟩
        refine ite2 (fun hc => ?_) (fun hc => ?_)
        · rw [if_pos hc] at hf2
          refine ⟨_, rfl, _, s4 _ _ hD3, small1000 (by rw [List.length_map]; omega), same_up (s3.trans s4) hD, es ++ [b], by rw [upd_same, List.map_append]; rfl, ?_, by rw [List.length_append, List.length_singleton]; omega⟩
          rw [hf2, List.length_append, List.length_append, hel]
          rfl
        · rw [if_neg hc, List.append_nil] at hf2
          exact ⟨s3.trans s4, es, s4 _ _ hD3, by rw [hf2]; exact hel, by omega⟩
      · rintro H3 ⟨s3, es, hD3, hel, hel2⟩
        have e : (bs.map V.ref).length = prods.length := by rw [List.length_map, Paired.length hL]
        rw [e, List.take_length] at hel
        refine ⟨D, _, rfl, .inl (SqL.of hD3), _, _, rfl, rfl, _, rfl, ?_⟩
        have hpos : (0 : Int) < ((es.map V.ref).length : Int) ↔ letP prods d = true := by
          rw [List.length_map, hel]
          unfold letP
          rw [List.any_eq_true]
          constructor
          · intro h0
            have h0' : 0 < (prods.filter fun y => y.all fun x => decide (x ∈ d)).length := by omega
            obtain ⟨y, hy⟩ := List.length_pos_iff_exists_mem.mp h0'
            exact ⟨y, (List.mem_filter.mp hy).1, (List.mem_filter.mp hy).2⟩
          · rintro ⟨y, hy1, hy2⟩
            have h0' : 0 < (prods.filter fun y => y.all fun x => decide (x ∈ d)).length := List.length_pos_iff_exists_mem.mpr ⟨y, List.mem_filter.mpr ⟨hy1, hy2⟩⟩
            omega
        have s23 := s2.trans s3
        refine ite2 (fun hc => ?_) (fun hc => ?_)
        · have hc' := hpos.mp (of_decide_eq_true hc)
          rw [if_pos hc'] at hfl
          refine ⟨_, rfl, .inl ⟨rfl, _, SqL.of (s3 _ _ hl2)⟩, _, rfl, _, _, _, rfl, rfl, s3 _ _ hl2, small1000 (by rw [List.length_map]; omega), ?_⟩
          refine ⟨_, _, cs ++ [z], rfl, same_up s23 nl, by rw [upd_ne nlq]; exact s3 _ _ hq2, by rw [upd_same, List.map_append]; rfl, by rw [List.length_append, List.length_singleton]; omega, TupsAt.updL (s3 _ _ hl2) (hT2.mono s3), ?_⟩
          rw [hfl]
          exact (TupsAt.updL (s3 _ _ hl2) (hcs.mono s3)).snoc (seqT_updL (s3 _ _ hl2) (Same.seqT s3 hat))
        · have hc' : ¬ letP prods d = true := fun q => hc (decide_eq_true (hpos.mpr q))
          rw [if_neg hc', List.append_nil] at hfl
          refine ⟨_, _, cs, rfl, s23, s3 _ _ hq2, s3 _ _ hl2, by omega, hT2.mono s3, ?_⟩
          rw [hfl]
          exact hcs.mono s3
    · rintro σ H2 ⟨v2, v3, cs, rfl, s2, hq2, hl2, hcl, hT2, hcs⟩
      have e : (as.map V.ref).length = stanD.length := by rw [List.length_map]; exact hT.len
      rw [e, List.take_length] at hcs
      exact ⟨_, rfl, k l cs H2 nl s2 hl2 hcs⟩
end
end My
namespace My
open PySem L2 ClX
open Evl (pss_cut)
abbrev sLRule : Stmt := topS 21
def spLRule (K : PySem.W.Frag) (C : Addr) : Sp := fun vs H Q _ => ∃ (a : Addr) (bs : List Addr) (prods : List (List Str)), vs = [.ref a] ∧ SqL K H a (bs.map V.ref) ∧ ListsAt H bs prods ∧
  ∀ r H', Same H H' → RuleAt K C H' r (stanD.filter (letP prods)) → Q (.ref r) H'
theorem scLRule : FnScope ["_law_products_here", "_law_rule_here", "_law_product", "_law_part", "_law_word"] ["_law_products_here"] (defScope sLRule) := ⟨rfl, rfl, rfl, by decide +kernel, rfl, by decide +kernel, by decide +kernel⟩
theorem any_in : ∀ st ∈ stanD, ("any" : Str) ∈ st := by decide +kernel
theorem filt_congr {p q : List Str → Bool} (h : ∀ st ∈ stanD, p st = q st) : stanD.filter p = stanD.filter q := List.filter_congr h
section
variable {P : Program} {w : World} {K : PySem.W.Frag} {mg : Str → Option Value} {base : Heap}
theorem ok_lrule {f C pO fO fA fR : Addr} {mc : Value} {fd fdA fdR : FuncData} (F : Fun K "_law_rule" "_law_rule" sLRule f fd) (TC : GlsC K mg C mc pO fO) (GO : FnR P w K mg base CX0 3 fO (spOf K C)) (O : GlsO K C fA fR)
    (GA : FnOk P w K mg base CX0 3 fA fdA ["self", "other"] (spBin K C and)) (bA : Binds K fdA ["self", "other"] []) (GR : FnOk P w K mg base CX0 3 fR fdR ["self", "other"] (spBin K C or)) (bR : Binds K fdR ["self", "other"] []) :
    FnOk P w K mg base CX0 4 f fd ["_law_products_here"] (spLRule K C) := by
  refine F.ok scLRule (fun vs H Q E h => ?_) (fun cdv A outer s H vs Q E hr h => ?_)
  · obtain ⟨a, bs, prods, rfl, _⟩ := h
    rfl
  · obtain ⟨a, bs, prods, rfl, hA, hL, k⟩ := h
    have nd := scLRule.nd
    refine ⟨_, pss_cons (ps_set (i := 1) nd rfl (Or.inl rfl) (pe_cmeth0 (pe_glob (v := .ref C) rfl TC.mR rfl) TC.rd TC.ofM GO hr pass0))
      (pss_cons (ps_for PassesOwn.never rfl (pi_list (pv 0)) (pg_name (i := 2) nd rfl (Or.inl rfl))
        (pss_cons (ps_set (i := 3) nd rfl (Or.inl rfl) (pe_cmeth (pe_glob (v := .ref C) rfl TC.mR rfl) TC.rd TC.ofM GO hr pass0 (pa_cons pe_str pa_nil)))
        (pss_cons (ps_for PassesOwn.never rfl (pi_list (pv 2)) (pg_name (i := 4) nd rfl (Or.inl rfl))
          (pss_one (ps_set (i := 3) nd rfl (Or.inl rfl) (pe_op (op_binI (op := .BitAnd) O.sf O.hAnd O.iAnd GA hr bA pass0) (pv 3) (pe_cmeth (pe_glob (v := .ref C) rfl TC.mR rfl) TC.rd TC.ofM GO hr pass0 (pa_cons (pv 4) pa_nil))))))
        (pss_one (ps_set (i := 1) nd rfl (Or.inl rfl) (pe_op (op_binI (op := .BitOr) O.sf O.hOr O.iOr GR hr bR pass0) (pv 1) (pv 3)))))))
      (pss_one (ps_ret (pv 1)))), ?_⟩
    refine ⟨rfl, [], rfl, by decide, fun r H1 nr s1 hR => ?_⟩
    refine ⟨_, rfl, a, rfl, ⟨_, s1.seq hA⟩, ?_⟩
    refine for_list (K := K) (a := a) (xs := bs.map V.ref) (fun i σ H2 => ∃ (r : Addr) (v2 v3 v4 : Option V), σ = [some (.ref a), some (.ref r), v2, v3, v4] ∧ Same H H2 ∧ RuleAt K C H2 r (stanD.filter (letP (prods.take i))))
      ⟨r, _, _, _, rfl, s1, hR⟩ (fun i σ H2 _ ⟨_, _, _, _, _, h, _⟩ => h.seq hA) ?_ ?_
    · rintro i x σ H2 hi ⟨r, v2, v3, v4, rfl, s2, hR⟩
      obtain ⟨b, hb, rfl, hib⟩ := ref_get hi
      have hip : i < prods.length := by rw [← Paired.length hL]; exact hib
      obtain ⟨b', hb', hbl⟩ := paired_get (hL.mono s2) (List.getElem?_eq_getElem hip)
      rw [hb] at hb'
      cases hb'
      generalize hl : prods[i] = l at hbl
      refine ⟨rfl, ["any"], rfl, by decide, fun t H3 nt s3 hT => ?_⟩
      have hT' : RuleAt K C H3 t (stanD.filter fun st => (l.take 0).all fun x => decide (x ∈ st)) := by
        have e : letOf ["any"] = stanD.filter fun st => (l.take 0).all fun x => decide (x ∈ st) := filt_congr fun st hst => by
          show ([("any" : Str)].any fun x => decide (x ∈ st)) = true
          rw [List.any_cons, decide_eq_true (any_in st hst)]
          rfl
        rw [← e]
        exact hT
      refine ⟨_, rfl, b, rfl, ⟨_, SqL.of (s3 _ _ hbl)⟩, ?_⟩
      refine for_list (K := K) (a := b) (xs := sV l) (fun j σ H4 => ∃ (t : Addr) (v4 : Option V), σ = [some (.ref a), some (.ref r), some (.ref b), some (.ref t), v4] ∧ Same H2 H4 ∧ RuleAt K C H4 t (stanD.filter fun st => (l.take j).all fun x => decide (x ∈ st)))
        ⟨t, _, rfl, s3, hT'⟩ (fun j σ H4 _ ⟨_, _, _, h, _⟩ => SqL.of (h _ _ hbl)) ?_ ?_
      · rintro j x σ H4 hj ⟨t, v4, rfl, s4, hT⟩
        obtain ⟨z, hz, rfl, hjl⟩ := sv_get hj
        refine ⟨_, rfl, rfl, _, rfl, [z], rfl, by show 1 ≤ 1000; decide, fun u H5 nu s5 hU => ?_⟩
        obtain ⟨dx, t1, as1, x1, x2, x3⟩ := hT.mono s5
        obtain ⟨dy, u1, as2, y1, y2, y3⟩ := id hU
        refine ⟨t, dx, u, dy, _, _, rfl, rfl, x1, y1, t, u, _, _, rfl, hT.mono s5, hU, fun r2 H6 nr2 s6 hR2 => ?_⟩
        refine ⟨r2, _, rfl, (s4.trans s5).trans s6, ?_⟩
        have e : (stanD.filter fun st => (l.take (j + 1)).all fun x => decide (x ∈ st)) = stanD.filter fun st => ((l.take j).all fun x => decide (x ∈ st)) && ([z].any fun x => decide (x ∈ st)) := filt_congr fun st _ => by
          rw [take_snoc hz, List.all_append]
          simp
        rw [e]
        exact hR2
      · rintro σ H4 ⟨t, v4, rfl, s4, hT⟩
        have e0 : (sV l).length = l.length := List.length_map ..
        rw [e0, List.take_length] at hT
        obtain ⟨dx, t1, as1, x1, x2, x3⟩ := hR.mono s4
        obtain ⟨dy, u1, as2, y1, y2, y3⟩ := id hT
        refine ⟨_, rfl, _, rfl, r, dx, t, dy, _, _, rfl, rfl, x1, y1, r, t, _, _, rfl, hR.mono s4, hT, fun r2 H6 nr2 s6 hR2 => ?_⟩
        refine ⟨r2, _, _, _, rfl, (s2.trans s4).trans s6, ?_⟩
        have e : stanD.filter (letP (prods.take (i + 1))) = stanD.filter fun st => (letP (prods.take i) st) || (l.all fun x => decide (x ∈ st)) := filt_congr fun st _ => by
          unfold letP
          rw [take_snoc (List.getElem?_eq_getElem hip), List.any_append, hl]
          simp
        rw [e]
        exact hR2
    · rintro σ H2 ⟨r, v2, v3, v4, rfl, s2, hR⟩
      have e0 : (bs.map V.ref).length = prods.length := by rw [List.length_map, Paired.length hL]
      rw [e0, List.take_length] at hR
      exact ⟨_, rfl, k r H2 s2 hR⟩
end
end My
namespace My
open PySem L2 ClX
open Evl (pss_cut)
/-! a static method called off its class; an own subscript -/
structure SMet (K : PySem.W.Frag) (C : Addr) (mc : Value) (m : Str) (p g : Addr) : Prop where
  at_ : PySem.W.findCls K (.ref C) mc m = some (.get (.builtin "staticmethod.__get__") (.ref p) .none (.ref C))
  rc : ∃ rest, PySem.W.recIn K p "staticmethod" = some (.ref g :: rest)
  kp : PySem.W.keepIn K (.ref g) = true
/-- e.m(), e the class at C, m a static method -/
def tSMeth0 (C : Addr) (sp : Sp) (ta : TE) : TE := fun σ H Q => ta σ H fun x H1 => x = .ref C ∧ sp [] H1 Q E0
section
variable {X : Cx} {CX : CXT} {k : Nat} {C p g : Addr} {mc : Value} {sp : Sp} {o : Expr} {m : Str} {pos apos : Pos} {ta : TE} {pl : Sem Bool} {fd : FuncData} {ps : List Str}
theorem pe_smeth0 (he : PE X o ta) (r : CRead X.K C mc) (c : SMet X.K C mc m p g) (F : FnOk X.prog X.w X.K X.mg X.base CX k g fd ps sp) (hb : Binds X.K fd ps []) (hr : Room k X.A) (hx : Passes CX X E0)
    (ht : eval (.Call (.Attribute o m apos) [] [] pos) X.env = (do let ov ← eval o X.env; standAt apos.atName; let (f, first) ← holding [ov] (getMethod ov m pl); callWith pos f first (backTo pos (starEach [] X.env)) (backToKw pos (keywordEach [] X.env))) := by rfl) :
    PE X (.Call (.Attribute o m apos) [] [] pos) (tSMeth0 C sp ta) := by
  constructor
  rintro pins s σ H Q I h
  refine PySem.W.methodCall_KW (pl := pl) (thn (he.run pins s σ H _ I h) ?_) ht
  rintro u s1 ⟨x, H1, I1, rx, ex, q⟩
  subst ex
  obtain rfl : u = Value.ref C := rx
  obtain ⟨rest, hp⟩ := c.rc
  refine PySem.W.method_cls I1.kIn r.ga (PySem.W.cls_bind I1.kIn r.rd c.at_ (wpAny_call (PySem.W.sm_get (s := { s1 with toks := s1.toks + 1 }) I1.kIn hp (PySem.W.handed_on rfl ?_))))
  have I2 := I1.tok (s1.toks + 1)
  exact PySem.W.callWith_K0 (first := []) I2.kIn c.kp (run_fn (us := []) (vs := []) F hr hb .nil hx I2 .nil q)
/-- o[i], o an instance with __getitem__ -/
def rIxI (C : Addr) (sp : Sp) : R2 := fun x y H Q => ∃ (a dx : Addr) (fs : List (Str × V)), x = .ref a ∧ H a = some (.ins C dx fs) ∧ sp [.ref a, y] H Q E0
theorem pe_ixI {f : Addr} {a b : Expr} {ta tb : TE} (hs : PySem.W.findIn X.K (.ref C) "__getitem__" = some (some (.ref f))) (hf : PySem.W.fnIn X.K f = true) (hfn : PySem.W.isFn X.K (.ref f) = true)
    (F : FnOk X.prog X.w X.K X.mg X.base CX k f fd ps sp) (hb' : Binds X.K fd ps []) (hr : Room (k + 1) X.A) (hx : ∀ (H : Hp) (s : Shared) (e : Value) (s' : Shared), CX X.stack H s E0 e s' → False) (ha : PE X a ta) (hb : PE X b tb)
    (hsub : ∀ c u, subscripted b true (.ref c) u = runValue (.builtin "lifetime.subscript" ⟨[.ref c, u], []⟩)) : PE X (.Subscript a b pos) (tOp (rIxI C sp) ta tb) := by
  constructor
  rintro pins s σ H Q I h
  apply PyProof.Rows.Subscript_
  apply thn (ha.run pins s σ H _ I h)
  rintro v s1 ⟨x, H1, I1, rx, q1⟩
  apply thn (hb.run pins s1 σ H1 _ I1 q1)
  rintro u s2 ⟨y, H2, I2, ry, a, dx, fs, rfl, ha, q⟩
  cases (show v = Value.ref a from rx)
  obtain ⟨od, J⟩ := inst_at I2 ha
  obtain ⟨m, hF⟩ := I2.fr
  refine PySem.W.sub_K hF I2.ok.mod.kin J hs hf hfn (wpAny_call ?_) (hsub a u)
  have r2 : Vals [V.ref a, y] [Value.ref a, u] := .cons rfl (.cons ry .nil)
  have hl : ([Value.ref a, u] ++ []).length = ps.length := by rw [← F.len _ _ _ _ q]; rfl
  refine codeAny_mono (F.run X.A.in1 X.stack s2 H2 ⟨[.ref a, u], []⟩ [.ref a, u] [.ref a, y] Q E0 hr.in1 I2.env0.in1 (by simpa using hb' s2 [.ref a, u] I2.kIn hl) r2 q) ?_
  rintro r s' hq
  cases r with
  | error er => exact (hx _ _ _ _ hq).elim
  | ok fl =>
    cases fl with
    | ret w => exact I2.after hq
    | next => exact False.elim hq
    | brk => exact False.elim hq
    | cont => exact False.elim hq
end
end My
namespace My
open PySem L2 ClX
open Evl (pss_cut)
abbrev sBInit : Stmt := inClass (topS 9) 0
abbrev sBLev : Stmt := inClass (topS 9) 2
abbrev sBGet : Stmt := inClass (topS 9) 3
abbrev sBCon : Stmt := inClass (topS 9) 4
structure GlsB (K : PySem.W.Frag) (mg : Str → Option Value) (CB : Addr) : Prop where
  cl : Cls K CB
  nR : NoAttr K CB "_rules"
  list : mg "list" = none
def toKV (lp : Str × Addr) : Key × V := (Sum.inr lp.1, V.ref lp.2)
abbrev Pred := List Str → Bool
/-- a Book stands at b: its levels and their rules -/
def BookAt (K : PySem.W.Frag) (C CB : Addr) (H : Hp) (b : Addr) (bs : List (Str × Pred)) : Prop := ∃ (dx d : Addr) (prs : List (Str × Addr)), H b = some (.ins CB dx [("_rules", .ref d)]) ∧ H d = some (.dK (prs.map toKV)) ∧ Paired (fun (p : Str × Addr) (q : Str × Pred) => p.1 = q.1 ∧ RuleAt K C H p.2 (stanD.filter q.2)) prs bs
theorem BookAt.mono {K : PySem.W.Frag} {C CB : Addr} {H H' : Hp} {b : Addr} {bs : List (Str × Pred)} (s : Same H H') (h : BookAt K C CB H b bs) : BookAt K C CB H' b bs := by
  obtain ⟨dx, d, prs, h1, h2, h3⟩ := h
  exact ⟨dx, d, prs, s _ _ h1, s _ _ h2, Paired.mapP h3 fun _ _ ⟨a, q⟩ => ⟨a, q.mono s⟩⟩
def hasB (bs : List (Str × Pred)) (x : Str) : Bool := bs.any fun lp => decide (lp.1 = x)
def predB (bs : List (Str × Pred)) (x : Str) : Pred := ((bs.find? fun lp => decide (lp.1 = x)).map (·.2)).getD fun _ => false
theorem book_look {K : PySem.W.Frag} {C : Addr} {H : Hp} {x : Str} : ∀ {prs : List (Str × Addr)} {bs : List (Str × Pred)}, Paired (fun (p : Str × Addr) (q : Str × Pred) => p.1 = q.1 ∧ RuleAt K C H p.2 (stanD.filter q.2)) prs bs →
    (hasB bs x = true → ∃ r, valV (prs.map toKV) (Sum.inr x : Key) = some (.ref r) ∧ RuleAt K C H r (stanD.filter (predB bs x))) ∧ (hasB bs x = false → valV (prs.map toKV) (Sum.inr x : Key) = none)
  | _, _, .nil => ⟨fun h => by simp [hasB] at h, fun _ => rfl⟩
  | p :: ps, q :: bs, .cons ⟨e, R⟩ t => by
    obtain ⟨i1, i2⟩ := book_look (x := x) t
    by_cases h : q.1 = x
    · refine ⟨fun _ => ⟨p.2, ?_, ?_⟩, fun n => ?_⟩
      · rw [List.map_cons, valV_pos (show (toKV p).1 = Sum.inr x by unfold toKV; rw [e, h])]
        rfl
      · unfold predB
        rw [List.find?_cons_of_pos (by simpa using h)]
        exact R
      · simp [hasB, h] at n
    · have hp : ¬ (toKV p).1 = (Sum.inr x : Key) := fun z => h (by unfold toKV at z; rw [← e]; exact Sum.inr.inj z)
      rw [List.map_cons, valV_neg hp]
      have hb : hasB (q :: bs) x = hasB bs x := by unfold hasB; rw [List.any_cons, decide_eq_false h, Bool.false_or]
      have hpr : predB (q :: bs) x = predB bs x := by unfold predB; rw [List.find?_cons_of_neg (by simpa using h)]
      rw [hb, hpr]
      exact ⟨i1, i2⟩
theorem book_keys {K : PySem.W.Frag} {C : Addr} {H : Hp} {prs : List (Str × Addr)} {bs : List (Str × Pred)} (hp : Paired (fun (p : Str × Addr) (q : Str × Pred) => p.1 = q.1 ∧ RuleAt K C H p.2 (stanD.filter q.2)) prs bs) : (prs.map toKV).map (fun kv => kV kv.1) = sV (bs.map (·.1)) := by
  induction hp with
  | nil => rfl
  | @cons p q as bs' h _ ih =>
    show kV (toKV p).1 :: _ = V.str q.1 :: _
    rw [← h.1, ih]
    rfl
def spBInit (K : PySem.W.Frag) (CB : Addr) : Sp := fun vs H Q _ => ∃ (b dx l : Addr) (ts : List Addr) (prs : List (Str × Addr)), vs = [.ref b, .ref l] ∧ H b = some (.ins CB dx []) ∧ SqL K H l (ts.map V.ref) ∧ Paired (fun t (p : Str × Addr) => SqT K H t [.str p.1, .ref p.2]) ts prs ∧ (prs.map (·.1)).Nodup ∧ prs.length ≤ 1000 ∧
  ∀ d H', H d = none → H' d = some (.dK (prs.map toKV)) → H' b = some (.ins CB dx [("_rules", .ref d)]) → (∀ q o, H q = some o → q ≠ b → H' q = some o) → Q .non H'
def spBLev (K : PySem.W.Frag) (C CB : Addr) : Sp := fun vs H Q _ => ∃ (b : Addr) (bs : List (Str × Pred)), vs = [.ref b] ∧ BookAt K C CB H b bs ∧ ∀ p H', H p = none → Same H H' → H' p = some (.lst (sV (bs.map (·.1)))) → Q (.ref p) H'
def spBGet (K : PySem.W.Frag) (C CB : Addr) : Sp := fun vs H Q _ => ∃ (b : Addr) (bs : List (Str × Pred)) (x : Str), vs = [.ref b, .str x] ∧ BookAt K C CB H b bs ∧ hasB bs x = true ∧ ∀ r, RuleAt K C H r (stanD.filter (predB bs x)) → Q (.ref r) H
def spBCon (K : PySem.W.Frag) (C CB : Addr) : Sp := fun vs H Q _ => ∃ (b : Addr) (bs : List (Str × Pred)) (x : Str), vs = [.ref b, .str x] ∧ BookAt K C CB H b bs ∧ Q (.bl (hasB bs x)) H
theorem scBInit : FnScope ["self", "pairs", "level", "rule"] ["self", "pairs"] (defScope sBInit) := ⟨rfl, rfl, rfl, by decide +kernel, rfl, by decide +kernel, by decide +kernel⟩
theorem scBLev : FnScope ["self"] ["self"] (defScope sBLev) := ⟨rfl, rfl, rfl, by decide +kernel, rfl, by decide +kernel, by decide +kernel⟩
theorem scBGet : FnScope ["self", "level"] ["self", "level"] (defScope sBGet) := ⟨rfl, rfl, rfl, by decide +kernel, rfl, by decide +kernel, by decide +kernel⟩
theorem scBCon : FnScope ["self", "level"] ["self", "level"] (defScope sBCon) := ⟨rfl, rfl, rfl, by decide +kernel, rfl, by decide +kernel, by decide +kernel⟩
theorem paired_get1 {α β : Type} {F : α → β → Prop} : ∀ {as : List α} {bs : List β}, Paired F as bs → ∀ {i : Nat} {a : α}, as[i]? = some a → ∃ b, bs[i]? = some b ∧ F a b
  | _, _, .nil, _, _, e => by simp at e
  | _, _, .cons h _, 0, _, e => by
    cases e
    exact ⟨_, rfl, h⟩
  | _, _, .cons _ t, i + 1, a, e => by
    obtain ⟨b, h1, h2⟩ := paired_get1 t (i := i) (a := a) (by simpa using e)
    exact ⟨b, by simpa using h1, h2⟩
theorem valV_take {prs : List (Str × Addr)} (nd : (prs.map (·.1)).Nodup) {i : Nat} {p : Str × Addr} (h : prs[i]? = some p) : valV ((prs.take i).map toKV) (Sum.inr p.1 : Key) = none := by
  cases e : valV ((prs.take i).map toKV) (Sum.inr p.1 : Key) with
  | none => rfl
  | some v =>
    exfalso
    obtain ⟨kv, h1, h2⟩ := List.mem_map.mp (valV_in e)
    obtain ⟨q, h3, h4⟩ := List.mem_map.mp h1
    subst h4
    have e2 : q.1 = p.1 := Sum.inr.inj h2
    obtain ⟨j, hj⟩ := List.mem_iff_getElem?.mp h3
    have hji : j < i := by
      have := (List.getElem?_eq_some_iff.mp hj).1
      rw [List.length_take] at this
      omega
    rw [List.getElem?_take_of_lt hji] at hj
    have a1 : (prs.map (·.1))[j]? = some p.1 := by rw [List.getElem?_map, hj]; exact congrArg some e2
    have a2 : (prs.map (·.1))[i]? = some p.1 := by rw [List.getElem?_map, h]; rfl
    have := nd_ix nd a1 a2
    omega
section
variable {P : Program} {w : World} {K : PySem.W.Frag} {mg : Str → Option Value} {base : Heap}
theorem ok_binit {f CB : Addr} {fd : FuncData} (F : Fun K "__init__" "Book.__init__" sBInit f fd) (T : GlsB K mg CB) : FnOk P w K mg base CX0 1 f fd ["self", "pairs"] (spBInit K CB) := by
  refine F.ok scBInit (fun vs H Q E h => ?_) (fun cdv A outer s H vs Q E hr h => ?_)
  · obtain ⟨b, dx, l, ts, prs, rfl, _⟩ := h
    rfl
  · obtain ⟨b, dx, l, ts, prs, rfl, hb, hl, hts, nd', hz, k⟩ := h
    have nd := scBInit.nd
    have hu := hu_of hr
    refine ⟨_, pss_cons (ps_fld (pv 0) pe_dnewK rfl) (pss_one (ps_for PassesOwn.never rfl (pi_list (pv 1)) (pg_tup (by rfl) (pgs_cons (pg_name (i := 2) nd rfl (Or.inl rfl)) (pgs_cons (pg_name (i := 3) nd rfl (Or.inl rfl)) pgs_nil)))
      (pss_cons (ps_if (pt_cmp (pc_din hu (pv 2) (pe_fld (pv 0) rfl))) (pss_one ps_never) pss_nil)
      (pss_one (ps_dput hu (pe_fld (pv 0) rfl) (pv 2) (pv 3) rfl))))), ?_⟩
    intro d hd
    have nbd : b ≠ d := ne_of_none hb hd
    refine ⟨_, rfl, b, CB, dx, [], rfl, (by rw [upd_ne nbd]; exact hb), T.cl, T.nR, (by show 0 < 1000; decide), ?_⟩
    have hlb : ∀ {q : Addr} {o : HO}, H q = some o → q ≠ b → (upd (upd H d (.dK [])) b (.ins CB dx [("_rules", .ref d)])) q = some o := fun {q o} e n => by rw [upd_ne n, upd_ne (ne_of_none e hd)]; exact e
    have keepL : ∀ {H2 : Hp}, (∀ q o, H q = some o → q ≠ b → H2 q = some o) → SqL K H2 l (ts.map V.ref) := fun {H2} h => by
      rcases hl with (e | ⟨o, e⟩) | e
      · exact .inl (.inl (h _ _ e (ne_of e hb (by intro z; cases z))))
      · exact .inl (.inr ⟨o, h _ _ e (ne_of e hb (by intro z; cases z))⟩)
      · exact .inr e
    have keepT : ∀ {H2 : Hp} {t : Addr} {xs : List V}, (∀ q o, H q = some o → q ≠ b → H2 q = some o) → SqT K H t xs → SqT K H2 t xs := fun {H2 t xs} h ht => by
      rcases ht with (e | ⟨o, e⟩) | e
      · exact .inl (.inl (h _ _ e (ne_of e hb (by intro z; cases z))))
      · exact .inl (.inr ⟨o, h _ _ e (ne_of e hb (by intro z; cases z))⟩)
      · exact .inr e
    refine ⟨_, rfl, l, rfl, ⟨_, keepL fun q o e n => hlb e n⟩, ?_⟩
    refine for_list (K := K) (a := l) (xs := ts.map V.ref) (fun i σ H2 => ∃ (v2 v3 : Option V), σ = [some (.ref b), some (.ref l), v2, v3] ∧ (∀ q o, H q = some o → q ≠ b → H2 q = some o) ∧ H2 b = some (.ins CB dx [("_rules", .ref d)]) ∧ H2 d = some (.dK ((prs.take i).map toKV)))
      ⟨_, _, rfl, fun q o e n => hlb e n, upd_same, by rw [upd_ne nbd.symm]; exact upd_same⟩ (fun i σ H2 _ ⟨_, _, _, h, _⟩ => keepL h) ?_ ?_
    · rintro i x σ H2 hi ⟨v2, v3, rfl, h2, hb2, hd2⟩
      obtain ⟨t, ht, rfl, hit⟩ := ref_get hi
      obtain ⟨p, hp, htp⟩ := paired_get1 hts ht
      have hip : i < prs.length := (List.getElem?_eq_some_iff.mp hp).1
      refine ⟨t, _, rfl, keepT h2 htp, rfl, _, _, rfl, _, _, rfl, rfl, ?_⟩
      refine ⟨_, rfl, _, rfl, b, CB, dx, _, _, rfl, hb2, T.cl, T.nR, rfl, d, _, rfl, DGet.k (k := Sum.inr p.1) hd2, _, rfl, ?_⟩
      rw [valV_take nd' hp]
      refine iteF ?_
      refine ⟨_, rfl, _, rfl, b, CB, dx, _, _, rfl, hb2, T.cl, T.nR, rfl, _, rfl, d, _, rfl, DPut.k (k := Sum.inr p.1) hd2 (small1000 (by rw [List.length_map, List.length_take]; omega)), ?_⟩
      refine ⟨_, _, rfl, fun q o e n => ?_, by rw [upd_ne nbd]; exact hb2, ?_⟩
      · rw [upd_ne (ne_of_none e hd)]
        exact h2 q o e n
      · rw [upd_same, putK_new _ (valV_take nd' hp), take_snoc hp, List.map_append]
        rfl
    · rintro σ H2 ⟨v2, v3, rfl, h2, hb2, hd2⟩
      have e : (ts.map V.ref).length = prs.length := by rw [List.length_map, Paired.length hts]
      rw [e, List.take_length] at hd2
      exact k d H2 hd hd2 hb2 h2
theorem ok_blev {f C CB : Addr} {fd : FuncData} (F : Fun K "levels" "Book.levels" sBLev f fd) (T : GlsB K mg CB) : FnOk P w K mg base CX0 1 f fd ["self"] (spBLev K C CB) := by
  refine F.ok scBLev (fun vs H Q E h => ?_) (fun cdv A outer s H vs Q E hr h => ?_)
  · obtain ⟨b, bs, rfl, _⟩ := h
    rfl
  · obtain ⟨b, bs, rfl, ⟨dx, d, prs, h1, h2, h3⟩, k⟩ := h
    refine ⟨_, pss_one (ps_ret (pe_callTy (call_list_dK rfl) (by rfl) T.list PyProof.Rows.boot_list (pa_cons (pe_fld (pv 0) rfl) pa_nil))), ?_⟩
    refine ⟨_, rfl, b, CB, dx, _, _, rfl, h1, T.cl, T.nR, rfl, d, _, rfl, h2, fun q hq => k q _ hq (same_new hq) ?_⟩
    rw [upd_same]
    have e : ∀ {prs : List (Str × Addr)} {bs : List (Str × Pred)}, Paired (fun (p : Str × Addr) (q : Str × Pred) => p.1 = q.1 ∧ RuleAt K C H p.2 (stanD.filter q.2)) prs bs → (prs.map toKV).map (fun kv => kV kv.1) = sV (bs.map (·.1)) := by
      intro prs bs hp
      induction hp with
      | nil => rfl
      | @cons p q as bs' h _ ih =>
        show kV (toKV p).1 :: _ = V.str q.1 :: _
        rw [← h.1, ih]
        rfl
    rw [e h3]
theorem ok_bget {f C CB : Addr} {fd : FuncData} (F : Fun K "__getitem__" "Book.__getitem__" sBGet f fd) (T : GlsB K mg CB) : FnOk P w K mg base CX0 1 f fd ["self", "level"] (spBGet K C CB) := by
  refine F.ok scBGet (fun vs H Q E h => ?_) (fun cdv A outer s H vs Q E hr h => ?_)
  · obtain ⟨b, bs, x, rfl, _⟩ := h
    rfl
  · obtain ⟨b, bs, x, rfl, ⟨dx, d, prs, h1, h2, h3⟩, hx, k⟩ := h
    have hu := hu_of hr
    obtain ⟨r, e, R⟩ := (book_look (x := x) h3).1 hx
    refine ⟨_, pss_cons (ps_if (pt_cmp (pc_dnotin hu (pv 1) (pe_fld (pv 0) rfl))) (pss_one ps_never) pss_nil) (pss_one (ps_ret (pe_dget hu (pe_fld (pv 0) rfl) (pv 1) (fun _ _ => rfl)))), ?_⟩
    refine ⟨_, rfl, _, rfl, b, CB, dx, _, _, rfl, h1, T.cl, T.nR, rfl, d, _, rfl, DGet.k (k := Sum.inr x) h2, _, rfl, ?_⟩
    rw [e]
    refine iteF ?_
    refine ⟨_, rfl, b, CB, dx, _, _, rfl, h1, T.cl, T.nR, rfl, _, rfl, d, _, rfl, ?_, k r R⟩
    have g := DGet.k (k := Sum.inr x) h2
    rw [e] at g
    exact g
theorem ok_bcon {f C CB : Addr} {fd : FuncData} (F : Fun K "__contains__" "Book.__contains__" sBCon f fd) (T : GlsB K mg CB) : FnOk P w K mg base CX0 1 f fd ["self", "level"] (spBCon K C CB) := by
  refine F.ok scBCon (fun vs H Q E h => ?_) (fun cdv A outer s H vs Q E hr h => ?_)
  · obtain ⟨b, bs, x, rfl, _⟩ := h
    rfl
  · obtain ⟨b, bs, x, rfl, ⟨dx, d, prs, h1, h2, h3⟩, k⟩ := h
    have hu := hu_of hr
    refine ⟨_, pss_one (ps_ret (pe_cmp (pc_din hu (pv 1) (pe_fld (pv 0) rfl)) rfl)), ?_⟩
    refine ⟨_, rfl, _, rfl, b, CB, dx, _, _, rfl, h1, T.cl, T.nR, rfl, d, _, rfl, DGet.k (k := Sum.inr x) h2, ?_⟩
    have l := book_look (x := x) h3
    cases e : hasB bs x with
    | true =>
      obtain ⟨r, e2, _⟩ := l.1 e
      rw [e2]
      rw [e] at k
      exact k
    | false =>
      rw [l.2 e]
      rw [e] at k
      exact k
end
end My
namespace My
open PySem L2 ClX
open Evl (pss_cut)
abbrev sBLe : Stmt := inClass (topS 9) 6
abbrev sKeep : Stmt := topS 11
structure GlsBO (K : PySem.W.Frag) (C CB fGet fCon fLe : Addr) : Prop where
  hG : PySem.W.findIn K (.ref CB) "__getitem__" = some (some (.ref fGet))
  nG : PySem.W.fnIn K fGet = true
  iG : PySem.W.isFn K (.ref fGet) = true
  hC : PySem.W.findIn K (.ref CB) "__contains__" = some (some (.ref fCon))
  iC : PySem.W.isFn K (.ref fCon) = true
  nf : PySem.W.notFirst K C (.ref C) = true
  hE : PySem.W.findIn K (.ref C) "__le__" = some (some (.ref fLe))
  iE : PySem.W.isFn K (.ref fLe) = true
def keepB (bs cs : List (Str × Pred)) (x y : Str) : Bool := leB (predB cs x) (predB cs y) || !leB (predB bs x) (predB bs y)
def bookLe (bs cs : List (Str × Pred)) : Bool := ((bs.map (·.1)).all fun x => hasB cs x && leB (predB bs x) (predB cs x)) && ((bs.map (·.1)).all fun x => (bs.map (·.1)).all fun y => keepB bs cs x y)
def spKeep (K : PySem.W.Frag) (C CB : Addr) : Sp := fun vs H Q _ => ∃ (b o : Addr) (bs cs : List (Str × Pred)) (x y : Str), vs = [.ref b, .ref o, .str x, .str y] ∧ BookAt K C CB H b bs ∧ BookAt K C CB H o cs ∧ hasB bs x = true ∧ hasB bs y = true ∧ hasB cs x = true ∧ hasB cs y = true ∧
  ∀ H', Same H H' → Q (.bl (keepB bs cs x y)) H'
def spBLe (K : PySem.W.Frag) (C CB : Addr) : Sp := fun vs H Q _ => ∃ (b o : Addr) (bs cs : List (Str × Pred)), vs = [.ref b, .ref o] ∧ BookAt K C CB H b bs ∧ BookAt K C CB H o cs ∧ bs.length ≤ 100 ∧ ∀ H', Same H H' → Q (.bl (bookLe bs cs)) H'
theorem scKeep : FnScope ["book", "other", "x", "y"] ["book", "other", "x", "y"] (defScope sKeep) := ⟨rfl, rfl, rfl, by decide +kernel, rfl, by decide +kernel, by decide +kernel⟩
theorem scBLe : FnScope ["self", "other", "levels", "level", "x", "y"] ["self", "other"] (defScope sBLe) := ⟨rfl, rfl, rfl, by decide +kernel, rfl, by decide +kernel, by decide +kernel⟩
theorem rule_ins {K : PySem.W.Frag} {C : Addr} {H : Hp} {r : Addr} {ds : List (List Str)} (R : RuleAt K C H r ds) : ∃ dx fs, H r = some (.ins C dx fs) := by
  obtain ⟨dx, t, as, h, _⟩ := R
  exact ⟨dx, _, h⟩
theorem book_ins {K : PySem.W.Frag} {C CB : Addr} {H : Hp} {b : Addr} {bs : List (Str × Pred)} (B : BookAt K C CB H b bs) : ∃ dx fs, H b = some (.ins CB dx fs) := by
  obtain ⟨dx, d, prs, h, _⟩ := B
  exact ⟨dx, _, h⟩
/-- b[x], as a reading -/
theorem ixB {K : PySem.W.Frag} {C CB : Addr} {H : Hp} {b : Addr} {bs : List (Str × Pred)} {x : Str} {Q : VK} (B : BookAt K C CB H b bs) (hx : hasB bs x = true) (k : ∀ r, RuleAt K C H r (stanD.filter (predB bs x)) → Q (.ref r) H) : rIxI CB (spBGet K C CB) (.ref b) (.str x) H Q := by
  obtain ⟨dx, fs, h⟩ := book_ins B
  exact ⟨b, dx, fs, rfl, h, b, bs, x, rfl, B, hx, k⟩
/-- r <= s of two rules, as a reading -/
theorem leR {K : PySem.W.Frag} {C : Addr} {H : Hp} {r s : Addr} {p q : Pred} {Q : VK} (R : RuleAt K C H r (stanD.filter p)) (S : RuleAt K C H s (stanD.filter q)) (k : ∀ H', Same H H' → Q (.bl (leB p q)) H') : rBinI C (spLe K C) (.ref r) (.ref s) H Q := by
  obtain ⟨dx, fs, h⟩ := rule_ins R
  obtain ⟨dy, gs, g⟩ := rule_ins S
  exact ⟨r, dx, s, dy, fs, gs, rfl, rfl, h, g, r, s, p, q, rfl, R, S, k⟩
theorem nox0 {L : List Env} (H : Hp) (s : Shared) (e : Value) (s' : Shared) : CX0 L H s E0 e s' → False := fun z => z
/-- the inner loop of a comprehension with two for -/
theorem lc_in {K : PySem.W.Frag} {a : Addr} {xs : List V} {tb : V → Hp → (Hp → Prop) → Prop} {H1 : Hp} {Qd : Hp → Prop} (Pv : Nat → Hp → Prop) (h0 : Pv 0 H1) (hl : ∀ i H, Pv i H → SqL K H a xs) (hs : ∀ i x H, xs[i]? = some x → Pv i H → tb x H (Pv (i + 1))) (hd : ∀ H, Pv xs.length H → Qd H) :
    ∃ W1 : Nat → Nat → Hp → Prop, (∃ m, W1 0 m H1) ∧ ∀ j k H, W1 j k H → ((Itl K a).stop j H ∧ Qd H) ∨ ((Itl K a).go j H ∧ ∃ Nx1 : Hp → Prop, (∀ H', Nx1 H' → ∃ k', k' < k ∧ W1 (j + 1) k' H') ∧ ∀ x H', (Itl K a).yld j H x H' → tb x H' Nx1) := by
  refine ⟨fun i m H => m = xs.length - i ∧ i ≤ xs.length ∧ Pv i H, ⟨xs.length, by simp, Nat.zero_le _, h0⟩, ?_⟩
  rintro j k H ⟨rfl, hj, p⟩
  have q := hl j H p
  by_cases c : j < xs.length
  · refine .inr ⟨⟨xs, xs[j], q, by simp [c]⟩, Pv (j + 1), fun H' p' => ⟨xs.length - (j + 1), by omega, rfl, c, p'⟩, ?_⟩
    rintro x H' ⟨e, y⟩
    subst e
    exact hs j x _ (y xs q) p
  · obtain rfl : j = xs.length := by omega
    exact .inl ⟨⟨xs, q, Nat.le_refl _⟩, hd H p⟩
section
variable {P : Program} {w : World} {K : PySem.W.Frag} {mg : Str → Option Value} {base : Heap}
theorem ok_keep {f C CB fGet fCon fLe : Addr} {fd fdG fdE : FuncData} (F : Fun K "_keeps_order" "_keeps_order" sKeep f fd) (O : GlsBO K C CB fGet fCon fLe)
    (GG : FnOk P w K mg base CX0 1 fGet fdG ["self", "level"] (spBGet K C CB)) (bG : Binds K fdG ["self", "level"] []) (GE : FnOk P w K mg base CX0 1 fLe fdE ["self", "other"] (spLe K C)) (bE : Binds K fdE ["self", "other"] []) :
    FnOk P w K mg base CX0 3 f fd ["book", "other", "x", "y"] (spKeep K C CB) := by
  refine F.ok scKeep (fun vs H Q E h => ?_) (fun cdv A outer s H vs Q E hr h => ?_)
  · obtain ⟨b, o, bs, cs, x, y, rfl, _⟩ := h
    rfl
  · obtain ⟨b, o, bs, cs, x, y, rfl, B, O', x1, y1, x2, y2, k⟩ := h
    have hr1 : Room 1 _ := hr.mono (by decide)
    refine ⟨_, pss_one (ps_ret (pe_or (pe_cmpR (op_cmpI (op := .LtE) (fun _ _ => rfl) O.nf O.hE O.iE GE hr1 bE pass0) (pe_ixI O.hG O.nG O.iG GG bG hr nox0 (pv 1) (pv 2) (fun _ _ => by with_unfolding_all rfl)) (pe_ixI O.hG O.nG O.iG GG bG hr nox0 (pv 1) (pv 3) (fun _ _ => by with_unfolding_all rfl)) (nomark _))
      (pe_one (pe_not (pe_cmpR (op_cmpI (op := .LtE) (fun _ _ => rfl) O.nf O.hE O.iE GE hr1 bE pass0) (pe_ixI O.hG O.nG O.iG GG bG hr nox0 (pv 0) (pv 2) (fun _ _ => by with_unfolding_all rfl)) (pe_ixI O.hG O.nG O.iG GG bG hr nox0 (pv 0) (pv 3) (fun _ _ => by with_unfolding_all rfl)) (nomark _)))))), ?_⟩
    refine ⟨_, rfl, _, rfl, ixB O' x2 fun r1 R1 => ⟨_, rfl, _, rfl, ixB O' y2 fun r2 R2 => leR R1 R2 fun H1 s1 => ⟨_, rfl, ?_⟩⟩⟩
    unfold keepB at k
    cases e : leB (predB cs x) (predB cs y) with
    | true =>
      rw [e] at k
      exact k H1 s1
    | false =>
      rw [e] at k
      exact ⟨_, rfl, _, rfl, ixB (B.mono s1) x1 fun r3 R3 => ⟨_, rfl, _, rfl, ixB (B.mono s1) y1 fun r4 R4 => leR R3 R4 fun H2 s2 => ⟨_, rfl, k H2 (s1.trans s2)⟩⟩⟩
theorem hasB_mem {bs : List (Str × Pred)} {x : Str} (h : x ∈ bs.map (·.1)) : hasB bs x = true := by
  obtain ⟨p, h1, h2⟩ := List.mem_map.mp h
  exact List.any_eq_true.mpr ⟨p, h1, decide_eq_true h2⟩
theorem ok_ble {f C CB fGet fCon fLe fK : Addr} {fd fdG fdC fdE fdK : FuncData} (F : Fun K "__le__" "Book.__le__" sBLe f fd) (T : GlsB K mg CB) (O : GlsBO K C CB fGet fCon fLe) (mAll : mg "all" = none)
    (GG : FnOk P w K mg base CX0 1 fGet fdG ["self", "level"] (spBGet K C CB)) (bG : Binds K fdG ["self", "level"] []) (GC : FnOk P w K mg base CX0 1 fCon fdC ["self", "level"] (spBCon K C CB)) (bC : Binds K fdC ["self", "level"] [])
    (GE : FnOk P w K mg base CX0 1 fLe fdE ["self", "other"] (spLe K C)) (bE : Binds K fdE ["self", "other"] [])
    (GK : FnOk P w K mg base CX0 3 fK fdK ["book", "other", "x", "y"] (spKeep K C CB)) (bK : Binds K fdK ["book", "other", "x", "y"] []) (kK : PySem.W.keepIn K (.ref fK) = true) (mK : mg "_keeps_order" = some (.ref fK)) :
    FnOk P w K mg base CX0 4 f fd ["self", "other"] (spBLe K C CB) := by
  refine F.ok scBLe (fun vs H Q E h => ?_) (fun cdv A outer s H vs Q E hr h => ?_)
  · obtain ⟨b, o, bs, cs, rfl, _⟩ := h
    rfl
  · obtain ⟨b, o, bs, cs, rfl, B, O', hz, k⟩ := h
    have nd := scBLe.nd
    have hr1 : Room 1 _ := hr.mono (by decide)
    have hr2 : Room 2 _ := hr.mono (by decide)
    refine ⟨_, pss_cons (ps_set (i := 2) nd rfl (Or.inr rfl) (pe_callTy (call_list_dK rfl) (by rfl) T.list PyProof.Rows.boot_list (pa_cons (pe_fld (pv 0) rfl) pa_nil)))
      (pss_cons (ps_if (pt_not (pt_val (pe_callB (cr_all rfl) (by rfl) mAll (by decide +kernel) (pa_cons (pe_lc (own := [("level", 3)]) (g := gName 3) (tt := tYes) rfl nd (pi_list (pv 2)) (blkOk_by (own := [("level", 3)]) (N := ["self", "other", "levels", "level", "x", "y"]) (sc := defScope sBLe) (by decide +kernel))
        (fun _ _ _ _ _ => pg_name (i := 3) nd rfl (Or.inl rfl)) (fun _ _ _ _ _ => pts_nil) (fun _ _ _ _ _ => pe_and (pe_cmpR (op_inI O.hC O.iC GC hr1 bC pass0) (pv 3) (pv 1) (by rfl))
          (pe_one (pe_cmpR (op_cmpI (op := .LtE) (fun _ _ => rfl) O.nf O.hE O.iE GE hr1 bE pass0) (pe_ixI O.hG O.nG O.iG GG bG hr2 nox0 (pv 0) (pv 3) (fun _ _ => by with_unfolding_all rfl)) (pe_ixI O.hG O.nG O.iG GG bG hr2 nox0 (pv 1) (pv 3) (fun _ _ => by with_unfolding_all rfl)) (nomark _))))) pa_nil)))) (pss_one (ps_ret pe_bl)) pss_nil)
      (pss_one (ps_ret (pe_callB (cr_all rfl) (by rfl) mAll (by decide +kernel) (pa_cons (pe_lc2 (own := [("x", 4), ("y", 5)]) (vs1 := [5]) (g := gName 4) (g1 := gName 5) (tt := tYes) (tt1 := tYes) rfl nd (pi_list (pv 2)) (blkOk_by (own := [("x", 4), ("y", 5)]) (N := ["self", "other", "levels", "level", "x", "y"]) (sc := defScope sBLe) (by decide +kernel)) (by decide)
        (fun _ _ _ _ _ => pg_name (i := 4) nd rfl (Or.inl rfl)) (fun _ _ _ _ _ => pts_nil) (fun _ _ _ _ _ => show PI _ _ _ (iList K (tVar 2)) from pi_list (pv 2)) (fun _ _ _ _ _ => pg_name (i := 5) nd rfl (Or.inl rfl)) (fun _ _ _ _ _ => pts_nil)
        (fun _ _ _ _ _ => pe_call GK hr (by rfl) mK kK bK .nil pass0 (pa_cons (pv 0) (pa_cons (pv 1) (pa_cons (pv 4) (pa_cons (pv 5) pa_nil)))))) pa_nil))))), ?_⟩
    obtain ⟨dx, d, prs, h1, h2, h3⟩ := id B
    have eL := book_keys h3
    refine ⟨_, rfl, b, CB, dx, _, _, rfl, h1, T.cl, T.nR, rfl, d, _, rfl, h2, fun lv nlv => ?_⟩
    rw [eL]
    have hll : (bs.map (·.1)).length ≤ 100 := by rw [List.length_map]; exact hz
    have hmem : ∀ x ∈ bs.map (·.1), hasB bs x = true := fun x hx => hasB_mem hx
    unfold bookLe at k
    generalize bs.map (·.1) = ls at *
    have s1 := same_new (o := .lst (sV ls)) nlv
    have hlv := upd_same (H := H) (a := lv) (o := .lst (sV ls))
    generalize upd H lv (.lst (sV ls)) = H1 at *
    have B1 := B.mono s1
    have O1 := O'.mono s1
    refine ⟨_, rfl, lv, rfl, ⟨_, SqL.of hlv⟩, fun D hD => ?_⟩
    refine lc_list (K := K) (a := lv) (xs := sV ls) (fun i H2 => Same H1 H2 ∧ H2 D = some (.lst (((ls.take i).map fun x => hasB cs x && leB (predB bs x) (predB cs x)).map V.bl))) ⟨same_new hD, upd_same⟩ (fun i H2 _ h => SqL.of (h.1 _ _ hlv)) ?_ ?_
    · rintro i x H2 hi ⟨s2, hD2⟩
      obtain ⟨z, hz', rfl, hil⟩ := sv_get hi
      have fin : ∀ (v : Bool) (H3 : Hp), v = (hasB cs z && leB (predB bs z) (predB cs z)) → Same H2 H3 → ∃ acc, H3 D = some (.lst acc) ∧ acc.length < sizeLine ∧ (Same H1 (upd H3 D (.lst (acc ++ [V.bl v]))) ∧ upd H3 D (.lst (acc ++ [V.bl v])) D = some (.lst (((ls.take (i + 1)).map fun x => hasB cs x && leB (predB bs x) (predB cs x)).map V.bl))) := fun v H3 e s3 => by
        subst e
        refine ⟨_, s3 _ _ hD2, small1000 (by rw [List.length_map, List.length_map, List.length_take]; omega), same_up (s2.trans s3) hD, ?_⟩
        rw [upd_same, take_snoc hz', List.map_append, List.map_append]
        rfl
      obtain ⟨ox, of, ho⟩ := book_ins (O1.mono s2)
      refine ⟨rfl, ?_⟩
      refine ⟨_, rfl, _, rfl, o, ox, of, rfl, ho, o, cs, z, rfl, O1.mono s2, _, rfl, _, rfl, ?_⟩
      cases e : hasB cs z with
      | false => exact fin _ _ (by rw [e]; rfl) (Same.refl _)
      | true =>
        refine ⟨_, rfl, _, rfl, ixB (B1.mono s2) (hmem z (List.mem_of_getElem? hz')) fun r1 R1 => ⟨_, rfl, _, rfl, ixB (O1.mono s2) e fun r2 R2 => leR R1 R2 fun H3 s3 => fin _ _ (by rw [e]; rfl) s3⟩⟩
    rintro H2 ⟨s2, hD2⟩
    have e0 : (sV ls).length = ls.length := List.length_map ..
    rw [e0, List.take_length] at hD2
    refine ⟨D, _, rfl, SqL.of hD2, _, rfl, ?_⟩
    rw [List.all_map]
    cases eA : ls.all (id ∘ fun x => hasB cs x && leB (predB bs x) (predB cs x)) with
    | false =>
      have eA' : ls.all (fun x => hasB cs x && leB (predB bs x) (predB cs x)) = false := eA
      rw [eA', Bool.false_and] at k
      exact k _ (s1.trans s2)
    | true =>
      have eA' : ls.all (fun x => hasB cs x && leB (predB bs x) (predB cs x)) = true := eA
      rw [eA', Bool.true_and] at k
      have hc : ∀ x ∈ ls, hasB cs x = true := fun x hx => (Bool.and_eq_true_iff.mp (List.all_eq_true.mp eA' x hx)).1
      have hlv2 := s2 _ _ hlv
      refine ⟨_, rfl, lv, rfl, ⟨_, SqL.of hlv2⟩, fun D2 hD2' => ?_⟩
      refine lc_in (K := K) (a := lv) (xs := sV ls) (fun i H3 => Same H2 H3 ∧ ∃ bl : List Bool, H3 D2 = some (.lst (bl.map V.bl)) ∧ bl.length ≤ i * 100 ∧ i ≤ 100 ∧ bl.all id = (ls.take i).all fun x => ls.all fun y => keepB bs cs x y) ⟨same_new hD2', [], upd_same, by simp, by omega, rfl⟩ (fun i H3 h => SqL.of (h.1 _ _ hlv2)) ?_ ?_
      · rintro i x H3 hi ⟨s3, bl, hbl, hl1, hl2, hall⟩
        obtain ⟨z, hz', rfl, hil⟩ := sv_get hi
        refine ⟨rfl, ?_⟩
        refine ⟨_, rfl, lv, rfl, ⟨_, SqL.of (s3 _ _ hlv2)⟩, ?_⟩
        refine lc_in (K := K) (a := lv) (xs := sV ls) (fun j H4 => Same H2 H4 ∧ ∃ bl : List Bool, H4 D2 = some (.lst (bl.map V.bl)) ∧ bl.length ≤ i * 100 + j ∧ j ≤ 100 ∧ bl.all id = (((ls.take i).all fun x => ls.all fun y => keepB bs cs x y) && (ls.take j).all fun y => keepB bs cs z y)) ⟨s3, bl, hbl, hl1, by omega, by rw [hall]; simp⟩ (fun j H4 h => SqL.of (h.1 _ _ hlv2)) ?_ ?_
        · rintro j y H4 hj ⟨s4, bl, hbl, hl3, hl4, hall⟩
          obtain ⟨u, hu', rfl, hjl⟩ := sv_get hj
          have s24 := s2.trans s4
          refine ⟨rfl, ?_⟩
          refine ⟨_, rfl, _, rfl, _, rfl, _, rfl, b, o, bs, cs, z, u, rfl, B1.mono s24, O1.mono s24, hmem z (List.mem_of_getElem? hz'), hmem u (List.mem_of_getElem? hu'), hc z (List.mem_of_getElem? hz'), hc u (List.mem_of_getElem? hu'), fun H5 s5 => ?_⟩
          refine ⟨_, s5 _ _ hbl, Evl.sz_lt (by rw [List.length_map]; omega), same_up (s4.trans s5) hD2', bl ++ [keepB bs cs z u], by rw [upd_same, List.map_append]; rfl, by rw [List.length_append, List.length_singleton]; omega, by omega, ?_⟩
          rw [List.all_append, hall, take_snoc hu', List.all_append]
          simp [Bool.and_assoc]
        · rintro H4 ⟨s4, bl, hbl, hl3, hl4, hall⟩
          rw [e0] at hl3 hl4 hall
          rw [List.take_length] at hall
          refine ⟨s4, bl, hbl, by omega, by omega, ?_⟩
          rw [hall, take_snoc hz', List.all_append]
          simp
      · rintro H3 ⟨s3, bl, hbl, hl1, hl2, hall⟩
        rw [e0, List.take_length] at hall
        refine ⟨D2, bl, rfl, SqL.of hbl, ?_⟩
        rw [hall]
        exact k _ ((s1.trans s2).trans s3)
end
end My
namespace My
open PySem L2 ClX
open Evl (pss_cut)
abbrev sInside : Stmt := topS 20
mutual
theorem dp_mono {K : PySem.W.Frag} {H H' : Hp} (s : Same H H') : ∀ {x : V} {d : PyData}, Dp K H x d → Dp K H' x d
  | _, _, .non => .non
  | _, _, .bl b => .bl b
  | _, _, .int i => .int i
  | _, _, .str x => .str x
  | _, _, .lst h t => .lst (s.seq h) (dpa_mono s t)
  | _, _, .tup h t => .tup (Same.seqT s h) (dpa_mono s t)
theorem dpa_mono {K : PySem.W.Frag} {H H' : Hp} (s : Same H H') : ∀ {xs : List V} {ds : List PyData}, DpAll K H xs ds → DpAll K H' xs ds
  | _, _, .nil => .nil
  | _, _, .cons h t => .cons (dp_mono s h) (dpa_mono s t)
end
def inAll (ds es : List PyData) : Bool := ds.all fun d => es.any fun z => PyData.eqv z d
def spInsideD (K : PySem.W.Frag) : Sp := fun vs H Q _ => ∃ (a b : Addr) (xs : List V) (ds es : List PyData), vs = [.ref a, .ref b] ∧ SqL K H a xs ∧ DpAll K H xs ds ∧ Dp K H (.ref b) (.list es) ∧ (∀ d ∈ ds, SeqAt.shaped d = true) ∧ SeqAt.shaped (.list es) = true ∧ ds.length ≤ 1000 ∧ ∀ H', Same H H' → Q (.bl (inAll ds es)) H'
theorem scInside : FnScope ["_law_part", "_law_whole", "_law_thing"] ["_law_part", "_law_whole"] (defScope sInside) := ⟨rfl, rfl, rfl, by decide +kernel, rfl, by decide +kernel, by decide +kernel⟩
section
variable {P : Program} {w : World} {K : PySem.W.Frag} {mg : Str → Option Value} {base : Heap}
theorem ok_insided {f : Addr} {fd : FuncData} (F : Fun K "_law_inside" "_law_inside" sInside f fd) (T : Gls mg) : FnOk P w K mg base CX0 1 f fd ["_law_part", "_law_whole"] (spInsideD K) := by
  refine F.ok scInside (fun vs H Q E h => ?_) (fun cdv A outer s H vs Q E hr h => ?_)
  · obtain ⟨a, b, xs, ds, es, rfl, _⟩ := h
    rfl
  · obtain ⟨a, b, xs, ds, es, rfl, hA, hX, hB, hd1, he1, hz, k⟩ := h
    have nd := scInside.nd
    have hu : (A.deeper (PyProof.Rows.envOfC "_law_inside" (defScope sInside) s.heap.objs.size f cdv)).units + 65 < cLine := by
      have := hr.un
      omega
    refine ⟨_, pss_one (ps_ret (pe_cmpR op_eq (pe_callB call_len_seq (by rfl) T.len PySem.boot_len (pa_cons (pe_lc (own := [("_law_thing", 2)]) (g := gName 2) rfl nd (pi_list (pv 0)) (blkOk_by (own := [("_law_thing", 2)]) (N := ["_law_part", "_law_whole", "_law_thing"]) (sc := defScope sInside) (by decide +kernel))
      (fun _ _ _ _ _ => pg_name (i := 2) nd rfl (Or.inl rfl)) (fun _ _ _ _ _ => pts_one (pt_cmpR (show OpR _ (compareOp .NotIn) (rNotInD K) from op_notInD hu) (pv 2) (pv 1) (by rfl))) (fun _ _ _ _ _ => pv 2)) pa_nil)) pe_int (nomark _))), ?_⟩
    refine ⟨_, rfl, a, rfl, ⟨_, hA⟩, fun D hD => ?_⟩
    have hl : xs.length = ds.length := dpa_len hX
    refine lc_list (K := K) (a := a) (xs := xs) (fun j H3 => Same H H3 ∧ ∃ cs : List V, H3 D = some (.lst cs) ∧ cs.length = ((ds.take j).filter fun d => !(es.any fun z => PyData.eqv z d)).length ∧ cs.length ≤ j) ⟨same_new hD, [], upd_same, rfl, Nat.le_refl _⟩ (fun j H3 _ h => h.1.seq hA) ?_ ?_
    · rintro j x H3 hj ⟨s3, cs, hL, hcl, hcl2⟩
      have hjl : j < xs.length := (List.getElem?_eq_some_iff.mp hj).1
      have hjd : j < ds.length := by omega
      have hdj := List.getElem?_eq_getElem hjd
      obtain ⟨x', hx', hdx⟩ := dpa_get (dpa_mono s3 hX) hdj
      rw [hj] at hx'
      cases hx'
      have hfl := filter_take_snoc (fun d => !(es.any fun z => PyData.eqv z d)) hdj
      refine ⟨rfl, _, rfl, _, rfl, ds[j], _, hdx, dp_mono s3 hB, hd1 _ (List.getElem_mem hjd), he1, _, rfl, ?_⟩
      refine ite2 (fun hc => ?_) (fun hc => ?_)
      · rw [if_pos hc] at hfl
        refine ⟨_, rfl, _, hL, small1000 (by omega), same_up s3 hD, cs ++ [x], by rw [upd_same], ?_, by rw [List.length_append, List.length_singleton]; omega⟩
        rw [hfl, List.length_append, List.length_append, hcl]
        rfl
      · rw [if_neg hc, List.append_nil] at hfl
        exact ⟨s3, cs, hL, by rw [hfl]; exact hcl, by omega⟩
    · rintro H3 ⟨s3, cs, hL, hcl, hcl2⟩
      rw [hl, List.take_length] at hcl
      refine ⟨D, _, rfl, .inl (SqL.of hL), rfl, ?_⟩
      rw [hcl, all_filter_len ds fun d => es.any fun z => PyData.eqv z d]
      exact k H3 s3
end
end My
namespace My
open PySem L2 ClX
open Evl (pss_cut)
abbrev sOf7 : Stmt := topS 23
abbrev PairQ := Str × List (List Str)
def PairAt (K : PySem.W.Frag) (H : Hp) (a : Addr) (q : PairQ) : Prop := ∃ (c : Addr) (bs : List Addr), SqT K H a [.str q.1, .ref c] ∧ SqL K H c (bs.map V.ref) ∧ ListsAt H bs q.2
def PairsAt (K : PySem.W.Frag) (H : Hp) (ps : List Addr) (qs : List PairQ) : Prop := Paired (PairAt K H) ps qs
theorem PairAt.mono {K : PySem.W.Frag} {H H' : Hp} {a : Addr} {q : PairQ} (s : Same H H') : PairAt K H a q → PairAt K H' a q := fun ⟨c, bs, h1, h2, h3⟩ => ⟨c, bs, Same.seqT s h1, s.seq h2, h3.mono s⟩
theorem PairsAt.mono {K : PySem.W.Frag} {H H' : Hp} {ps : List Addr} {qs : List PairQ} (s : Same H H') (h : PairsAt K H ps qs) : PairsAt K H' ps qs := Paired.mapP h fun _ _ q => q.mono s
def toB (qs : List PairQ) : List (Str × Pred) := qs.map fun q => (q.1, letP q.2)
def okPs (qs : List PairQ) : Prop := qs.length ≤ 100 ∧ ∀ q ∈ qs, q.2.length ≤ 1000 ∧ ∀ l ∈ q.2, l.length ≤ 1000
def spOf7 (K : PySem.W.Frag) : Sp := fun vs H Q _ => ∃ (a : Addr) (x : Str) (ps : List Addr) (qs : List PairQ), vs = [.ref a, .str x] ∧ SqL K H a (ps.map V.ref) ∧ PairsAt K H ps qs ∧ okPs qs ∧ hasB (toB qs) x = true ∧
  ∀ p as H', Same H H' → SqL K H' p (as.map V.ref) → TupsAt K H' as (stanD.filter (predB (toB qs) x)) → Q (.ref p) H'
theorem scOf7 : FnScope ["_law_pairs", "_law_rank", "_law_pair"] ["_law_pairs", "_law_rank"] (defScope sOf7) := ⟨rfl, rfl, rfl, by decide +kernel, rfl, by decide +kernel, by decide +kernel⟩
def LetAt (K : PySem.W.Frag) (D : Addr) (H : Hp) (r : Addr) (q : PairQ) : Prop := r ≠ D ∧ ∃ as : List Addr, H r = some (.lst (as.map V.ref)) ∧ TupsAt K H as (stanD.filter (letP q.2))
theorem LetAt.mono {K : PySem.W.Frag} {D : Addr} {H H' : Hp} {r : Addr} {q : PairQ} (s : Same H H') : LetAt K D H r q → LetAt K D H' r q := fun ⟨n, as, h1, h2⟩ => ⟨n, as, s _ _ h1, h2.mono s⟩
theorem LetAt.updL {K : PySem.W.Frag} {D : Addr} {H : Hp} {l l' : List V} {r : Addr} {q : PairQ} (hD : H D = some (.lst l)) : LetAt K D H r q → LetAt K D (upd H D (.lst l')) r q := fun ⟨n, as, h1, h2⟩ => ⟨n, as, by rw [upd_ne n]; exact h1, TupsAt.updL hD h2⟩
theorem find_toB (x : Str) : ∀ qs : List PairQ, predB (toB qs) x = ((((qs.filter fun q => decide (q.1 = x)).head?).map fun q => letP q.2).getD fun _ => false)
  | [] => rfl
  | q :: qs => by
    have ih := find_toB x qs
    unfold predB toB at ih ⊢
    rw [List.map_cons, List.find?_cons, List.filter_cons]
    by_cases h : q.1 = x
    · simp [h]
    · simp only [h, decide_false]
      exact ih
theorem has_toB {x : Str} {qs : List PairQ} (h : hasB (toB qs) x = true) : ∃ q l, (qs.filter fun q => decide (q.1 = x)) = q :: l := by
  cases e : qs.filter fun q => decide (q.1 = x) with
  | cons q l => exact ⟨q, l, rfl⟩
  | nil =>
    unfold hasB toB at h
    obtain ⟨y, hy, hx⟩ := List.any_eq_true.mp h
    obtain ⟨q, hq, rfl⟩ := List.mem_map.mp hy
    have := List.filter_eq_nil_iff.mp e q hq
    exact absurd hx this
section
variable {P : Program} {w : World} {K : PySem.W.Frag} {mg : Str → Option Value} {base : Heap}
theorem ok_of7 {f fL : Addr} {fd fdL : FuncData} (F : Fun K "_law_of" "_law_of" sOf7 f fd)
    (GL : FnOk P w K mg base CX0 2 fL fdL ["_law_products_here"] (spLet K)) (bL : Binds K fdL ["_law_products_here"] []) (kL : PySem.W.keepIn K (.ref fL) = true) (mL : mg "_law_let" = some (.ref fL)) :
    FnOk P w K mg base CX0 3 f fd ["_law_pairs", "_law_rank"] (spOf7 K) := by
  refine F.ok scOf7 (fun vs H Q E h => ?_) (fun cdv A outer s H vs Q E hr h => ?_)
  · obtain ⟨a, x, ps, qs, rfl, _⟩ := h
    rfl
  · obtain ⟨a, x, ps, qs, rfl, hA, hP, ⟨hz, hz2⟩, hx, k⟩ := h
    have nd := scOf7.nd
    refine ⟨_, pss_one (ps_ret (pe_ix ix_list (pe_lc (own := [("_law_pair", 2)]) (g := gName 2) rfl nd (pi_list (pv 0)) (blkOk_by (own := [("_law_pair", 2)]) (N := ["_law_pairs", "_law_rank", "_law_pair"]) (sc := defScope sOf7) (by decide +kernel))
      (fun _ _ _ _ _ => pg_name (i := 2) nd rfl (Or.inl rfl)) (fun _ _ _ _ _ => pts_one (pt_cmpR op_eq (pe_ix (show IxR _ (rIxT K) from ix_tup) (pv 2) pe_int (fun _ _ => rfl)) (pv 1) (nomark _))) (fun _ _ _ _ _ => pe_call GL hr (by rfl) mL kL bL .nil pass0 (pa_cons (pe_ix (show IxR _ (rIxT K) from ix_tup) (pv 2) pe_int (fun _ _ => rfl)) pa_nil))) pe_int (fun _ _ => rfl))), ?_⟩
    refine ⟨_, rfl, a, rfl, ⟨_, hA⟩, fun D hD => ?_⟩
    have hl : ps.length = qs.length := Paired.length hP
    refine lc_list (K := K) (a := a) (xs := ps.map V.ref) (fun j H3 => Same H H3 ∧ ∃ rs : List Addr, H3 D = some (.lst (rs.map V.ref)) ∧ rs.length ≤ j ∧ Paired (LetAt K D H3) rs ((qs.take j).filter fun q => decide (q.1 = x))) ⟨same_new hD, [], upd_same, Nat.le_refl _, .nil⟩ (fun j H3 _ h => h.1.seq hA) ?_ ?_
    · rintro j y H3 hj ⟨s3, rs, hL, hrl, hR⟩
      obtain ⟨b, hb, rfl, hjl⟩ := ref_get hj
      have hjq : j < qs.length := by omega
      have hqj := List.getElem?_eq_getElem hjq
      obtain ⟨b', hb', c, bs, hT, hC, hLs⟩ := paired_get (hP.mono s3) hqj
      rw [hb] at hb'
      cases hb'
      have hfl := filter_take_snoc (fun q : PairQ => decide (q.1 = x)) hqj
      obtain ⟨o1, o2⟩ := hz2 _ (List.getElem_mem hjq)
      generalize qs[j] = qj at *
      refine ⟨rfl, _, rfl, b, _, _, _, rfl, rfl, hT, rfl, _, rfl, rfl, _, rfl, ?_⟩
      refine ite2 (fun hc => ?_) (fun hc => ?_)
      · have hc' : qj.1 = x := V.str.inj (of_decide_eq_true hc)
        rw [if_pos (decide_eq_true hc')] at hfl
        refine ⟨_, rfl, b, _, _, _, rfl, rfl, hT, rfl, c, bs, qj.2, rfl, hC, hLs, o1, o2, fun p as H4 np s4 hp hTp => ?_⟩
        have nD : p ≠ D := (ne_of_none hL np).symm
        refine ⟨_, s4 _ _ hL, small1000 (by rw [List.length_map]; omega), same_up (s3.trans s4) hD, rs ++ [p], by rw [upd_same, List.map_append]; rfl, by rw [List.length_append, List.length_singleton]; omega, ?_⟩
        rw [hfl]
        exact paired_app (Paired.mapP hR fun _ _ z => (z.mono s4).updL (s4 _ _ hL)) (.cons (LetAt.updL (s4 _ _ hL) ⟨nD, as, hp, hTp⟩) .nil)
      · have hc' : ¬ qj.1 = x := fun z => hc (decide_eq_true (congrArg V.str z))
        rw [if_neg (fun z => hc' (of_decide_eq_true z)), List.append_nil] at hfl
        exact ⟨s3, rs, hL, by omega, by rw [hfl]; exact hR⟩
    · rintro H3 ⟨s3, rs, hL, hrl, hR⟩
      have e : (ps.map V.ref).length = qs.length := by rw [List.length_map, hl]
      rw [e, List.take_length] at hR
      obtain ⟨q, l, hq⟩ := has_toB hx
      have hpr : predB (toB qs) x = letP q.2 := by rw [find_toB, hq]; rfl
      rw [hq] at hR
      obtain ⟨r, hr1, nr, as, h1, h2⟩ := paired_get hR (i := 0) rfl
      have h0 : (rs.map V.ref)[0]? = some (V.ref r) := by rw [List.getElem?_map, hr1]; rfl
      refine ⟨D, _, _, _, rfl, rfl, SqL.of hL, atI_nat (j := 0) h0, ?_⟩
      exact k r as H3 s3 (SqL.of h1) (by rw [hpr]; exact h2)
end
end My
namespace My
open PySem L2 ClX
open Evl (pss_cut)
abbrev sUnder7 : Stmt := topS 24
def namesOf (qs : List PairQ) : List Str := qs.map (·.1)
theorem toB_names (qs : List PairQ) : (toB qs).map (·.1) = namesOf qs := by
  unfold toB namesOf
  rw [List.map_map]
  rfl
theorem hasB_iff {qs : List PairQ} {x : Str} : hasB (toB qs) x = true ↔ x ∈ namesOf qs := by
  unfold hasB
  rw [List.any_eq_true]
  constructor
  · rintro ⟨lp, h1, h2⟩
    rw [← toB_names]
    exact List.mem_map.mpr ⟨lp, h1, of_decide_eq_true h2⟩
  · intro h
    rw [← toB_names] at h
    obtain ⟨lp, h1, h2⟩ := List.mem_map.mp h
    exact ⟨lp, h1, decide_eq_true h2⟩
theorem bookLe_iff {bs cs : List (Str × Pred)} : bookLe bs cs = true ↔ (∀ x ∈ bs.map (·.1), hasB cs x = true ∧ leB (predB bs x) (predB cs x) = true) ∧ ∀ x ∈ bs.map (·.1), ∀ y ∈ bs.map (·.1), keepB bs cs x y = true := by
  unfold bookLe
  rw [Bool.and_eq_true, List.all_eq_true, List.all_eq_true]
  constructor
  · rintro ⟨h1, h2⟩
    exact ⟨fun x hx => Bool.and_eq_true_iff.mp (h1 x hx), fun x hx => List.all_eq_true.mp (h2 x hx)⟩
  · rintro ⟨h1, h2⟩
    exact ⟨fun x hx => Bool.and_eq_true_iff.mpr (h1 x hx), fun x hx => List.all_eq_true.mpr (h2 x hx)⟩
theorem str_any (l : List Str) (x : Str) : ((l.map PyData.str).any fun z => PyData.eqv z (.str x)) = decide (x ∈ l) := by
  induction l with
  | nil => simp
  | cons y l ih =>
    rw [List.map_cons, List.any_cons, ih]
    simp only [PyData.eqv]
    by_cases e : y = x
    · subst e; simp
    · have e' : ¬ x = y := fun z => e z.symm
      simp [e, e']
theorem inAll_names {l m : List Str} : inAll (l.map PyData.str) (m.map PyData.str) = true ↔ ∀ x ∈ l, x ∈ m := by
  unfold inAll
  rw [List.all_eq_true]
  constructor
  · intro h x hx
    have := h _ (List.mem_map_of_mem hx)
    rw [str_any] at this
    exact of_decide_eq_true this
  · intro h d hd
    obtain ⟨x, hx, rfl⟩ := List.mem_map.mp hd
    rw [str_any]
    exact decide_eq_true (h x hx)
theorem leB_all7 (p q : Pred) : ((stanD.filter p).all q) = leB p q := by
  unfold leB
  rw [List.all_filter]
theorem inAll_filt (p q : Pred) : inAll ((stanD.filter p).map tD) ((stanD.filter q).map tD) = leB p q := by
  rw [← leB_all7, Bool.eq_iff_iff]
  unfold inAll
  rw [List.all_eq_true, List.all_eq_true]
  constructor
  · intro h st hst
    have := h _ (List.mem_map_of_mem hst)
    rw [tD_any, mem_filt (List.mem_filter.mp hst).1] at this
    exact this
  · intro h d hd
    obtain ⟨st, hst, rfl⟩ := List.mem_map.mp hd
    rw [tD_any, mem_filt (List.mem_filter.mp hst).1]
    exact h st hst
theorem strs_shaped {l : List Str} (o : okS l) : SeqAt.shaped (.list (l.map PyData.str)) = true := by
  have h := strs_depth l
  have hl : ∀ l : List Str, okS l → PyData.canLayAll0 (l.map PyData.str) = true := by
    intro l
    induction l with
    | nil => intro _; simp [PyData.canLayAll0]
    | cons x l ih =>
      intro o
      simp [PyData.canLayAll0, PyData.canLay0, ih fun y hy => o y (List.mem_cons_of_mem _ hy), o x List.mem_cons_self]
  show ((PyData.list (l.map PyData.str)).canLay0 && decide ((PyData.list (l.map PyData.str)).depth ≤ 64)) = true
  rw [Bool.and_eq_true]
  exact ⟨by simp only [PyData.canLay0]; exact hl l o, decide_eq_true (by simp only [PyData.depth]; omega)⟩
theorem str_shaped {x : Str} (o : PyData.strOk x = true) : SeqAt.shaped (.str x) = true := by
  show ((PyData.str x).canLay0 && decide ((PyData.str x).depth ≤ 64)) = true
  rw [Bool.and_eq_true]
  exact ⟨by simp [PyData.canLay0, o], decide_eq_true (by simp [PyData.depth])⟩
def okQ (qs : List PairQ) : Prop := okPs qs ∧ okS (namesOf qs)
def spUnder7 (K : PySem.W.Frag) : Sp := fun vs H Q _ => ∃ (a b : Addr) (ps rs : List Addr) (qs us : List PairQ), vs = [.ref a, .ref b] ∧ SqL K H a (ps.map V.ref) ∧ PairsAt K H ps qs ∧ SqL K H b (rs.map V.ref) ∧ PairsAt K H rs us ∧ okQ qs ∧ okQ us ∧
  ∀ H', Same H H' → Q (.bl (bookLe (toB qs) (toB us))) H'
theorem scUnder7 : FnScope ["_law_first", "_law_second", "_law_known", "_law_names", "_law_lower", "_law_upper", "_law_before", "_law_pair"] ["_law_first", "_law_second"] (defScope sUnder7) := ⟨rfl, rfl, rfl, by decide +kernel, rfl, by decide +kernel, by decide +kernel⟩
section
variable {K : PySem.W.Frag}
/-- one step of the list of the names -/
theorem turnN {H3 : Hp} {ps : List Addr} {qs : List PairQ} {j : Nat} {y : V} (hP : PairsAt K H3 ps qs) (hj : (ps.map V.ref)[j]? = some y) : ∃ (b c : Addr) (z : Str), y = .ref b ∧ SqT K H3 b [.str z, .ref c] ∧ (namesOf qs)[j]? = some z := by
  obtain ⟨b, hb, rfl, hjl⟩ := ref_get hj
  obtain ⟨q, hq, c, bs, hT, _⟩ := paired_get1 hP hb
  exact ⟨b, c, q.1, rfl, hT, by unfold namesOf; rw [List.getElem?_map, hq]; rfl⟩
theorem shF (p : Pred) : ∀ d ∈ (stanD.filter p).map tD, SeqAt.shaped d = true := by
  intro d hd
  obtain ⟨st, hst, rfl⟩ := List.mem_map.mp hd
  exact tD_shaped (filt_ok p st hst)
theorem lenF (p : Pred) : ((stanD.filter p).map tD).length ≤ 1000 := by
  rw [List.length_map]
  exact Nat.le_trans (List.length_filter_le _ _) (by decide)
variable {P : Program} {w : World} {mg : Str → Option Value} {base : Heap}
theorem ok_under7 {f fX fO : Addr} {fd fdX fdO : FuncData} (F : Fun K "_law_under" "_law_under" sUnder7 f fd)
    (GX : FnOk P w K mg base CX0 1 fX fdX ["_law_part", "_law_whole"] (spInsideD K)) (bX : Binds K fdX ["_law_part", "_law_whole"] []) (kX : PySem.W.keepIn K (.ref fX) = true) (mX : mg "_law_inside" = some (.ref fX))
    (GO : FnOk P w K mg base CX0 3 fO fdO ["_law_pairs", "_law_rank"] (spOf7 K)) (bO : Binds K fdO ["_law_pairs", "_law_rank"] []) (kO : PySem.W.keepIn K (.ref fO) = true) (mO : mg "_law_of" = some (.ref fO)) :
    FnOk P w K mg base CX0 4 f fd ["_law_first", "_law_second"] (spUnder7 K) := by
  refine F.ok scUnder7 (fun vs H Q E h => ?_) (fun cdv A outer s H vs Q E hr h => ?_)
  · obtain ⟨a, b, ps, rs, qs, us, rfl, _⟩ := h
    rfl
  · obtain ⟨a, b, ps, rs, qs, us, rfl, hA, hP, hB, hR, ⟨oq, nq⟩, ⟨ou, nu⟩, k⟩ := h
    have nd := scUnder7.nd
    have hr1 : Room 1 _ := hr.mono (by decide)
    refine ⟨_, (pss_cons (ps_setLc (i := 2) (own := [("_law_pair", 7)]) (g := gName 7) (tt := tYes) rfl nd rfl rfl (sw_true rfl rfl rfl (by decide +kernel)) (pi_list (pv 1)) (blkOk_by (own := [("_law_pair", 7)]) (N := ["_law_first", "_law_second", "_law_known", "_law_names", "_law_lower", "_law_upper", "_law_before", "_law_pair"]) (sc := defScope sUnder7) (by decide +kernel)) (fun _ _ _ _ _ => pg_name (i := 7) nd rfl (Or.inl rfl)) (fun _ _ _ _ _ => pts_nil) (fun _ _ _ _ _ => pe_ix (show IxR _ (rIxT K) from ix_tup) (pv 7) pe_int (fun _ _ => rfl)))
      (pss_cons (ps_setLc (i := 3) (own := [("_law_pair", 7)]) (g := gName 7) (tt := tYes) rfl nd rfl rfl (sw_true rfl rfl rfl (by decide +kernel)) (pi_list (pv 0)) (blkOk_by (own := [("_law_pair", 7)]) (N := ["_law_first", "_law_second", "_law_known", "_law_names", "_law_lower", "_law_upper", "_law_before", "_law_pair"]) (sc := defScope sUnder7) (by decide +kernel)) (fun _ _ _ _ _ => pg_name (i := 7) nd rfl (Or.inl rfl)) (fun _ _ _ _ _ => pts_nil) (fun _ _ _ _ _ => pe_ix (show IxR _ (rIxT K) from ix_tup) (pv 7) pe_int (fun _ _ => rfl)))
      (pss_cons (ps_if (pt_not (pt_val (pe_call GX hr1 (by rfl) mX kX bX .nil pass0 (pa_cons (pv 3) (pa_cons (pv 2) pa_nil))))) (pss_one (ps_ret pe_bl)) pss_nil)
      (pss_cons (ps_for PassesOwn.never rfl (pi_list (pv 3)) (pg_name (i := 4) nd rfl (Or.inl rfl)) (pss_cons (ps_if (pt_not (pt_val (pe_call GX hr1 (by rfl) mX kX bX .nil pass0 (pa_cons (pe_call GO hr (by rfl) mO kO bO .nil pass0 (pa_cons (pv 0) (pa_cons (pv 4) pa_nil))) (pa_cons (pe_call GO hr (by rfl) mO kO bO .nil pass0 (pa_cons (pv 1) (pa_cons (pv 4) pa_nil))) pa_nil))))) (pss_one (ps_ret pe_bl)) pss_nil)
      (pss_one (ps_for PassesOwn.never rfl (pi_list (pv 3)) (pg_name (i := 5) nd rfl (Or.inl rfl)) (pss_cons (ps_set (i := 6) nd rfl (Or.inl rfl) (pe_call GX hr1 (by rfl) mX kX bX .nil pass0 (pa_cons (pe_call GO hr (by rfl) mO kO bO .nil pass0 (pa_cons (pv 0) (pa_cons (pv 4) pa_nil))) (pa_cons (pe_call GO hr (by rfl) mO kO bO .nil pass0 (pa_cons (pv 0) (pa_cons (pv 5) pa_nil))) pa_nil))))
      (pss_one (ps_if (PW.pt (pw_and (pt_val (pv 6)) (pw_and1 (pt_not (pt_val (pe_call GX hr1 (by rfl) mX kX bX .nil pass0 (pa_cons (pe_call GO hr (by rfl) mO kO bO .nil pass0 (pa_cons (pv 1) (pa_cons (pv 4) pa_nil))) (pa_cons (pe_call GO hr (by rfl) mO kO bO .nil pass0 (pa_cons (pv 1) (pa_cons (pv 5) pa_nil))) pa_nil)))))))) (pss_one (ps_ret pe_bl)) pss_nil)))))))
      (pss_one (ps_ret pe_bl)))))), ?_⟩
    have hlq : ps.length = qs.length := Paired.length hP
    have hlu : rs.length = us.length := Paired.length hR
    have hq100 : qs.length ≤ 100 := oq.1
    have hu100 : us.length ≤ 100 := ou.1
    refine ⟨_, rfl, b, rfl, ⟨_, hB⟩, fun D hD => ?_⟩
    refine lc_list (K := K) (a := b) (xs := rs.map V.ref) (fun j H3 => Same H H3 ∧ H3 D = some (.lst (sV ((namesOf us).take j)))) ⟨same_new hD, upd_same⟩ (fun j H3 _ h => h.1.seq hB) ?_ ?_
    · rintro j y H3 hj ⟨s3, hL⟩
      obtain ⟨q, c, z, rfl, hT, hz⟩ := turnN (hR.mono s3) hj
      refine ⟨rfl, _, rfl, q, _, _, _, rfl, rfl, hT, rfl, _, hL, small1000 ?_, same_up s3 hD, ?_⟩
      · unfold sV
        rw [List.length_map, List.length_take]
        unfold namesOf
        rw [List.length_map]
        omega
      · rw [upd_same, take_snoc hz]
        unfold sV
        rw [List.map_append]
        rfl
    rintro H1 ⟨s1, hD1⟩
    have eU : (namesOf us).take (rs.map V.ref).length = namesOf us := by
      rw [List.length_map, hlu]
      exact List.take_of_length_le (by unfold namesOf; rw [List.length_map]; exact Nat.le_refl _)
    rw [eU] at hD1
    refine ⟨_, rfl, a, rfl, ⟨_, s1.seq hA⟩, fun D2 hD2 => ?_⟩
    refine lc_list (K := K) (a := a) (xs := ps.map V.ref) (fun j H3 => Same H1 H3 ∧ H3 D2 = some (.lst (sV ((namesOf qs).take j)))) ⟨same_new hD2, upd_same⟩ (fun j H3 _ h => (s1.trans h.1).seq hA) ?_ ?_
    · rintro j y H3 hj ⟨s3, hL⟩
      obtain ⟨q, c, z, rfl, hT, hz⟩ := turnN (hP.mono (s1.trans s3)) hj
      refine ⟨rfl, _, rfl, q, _, _, _, rfl, rfl, hT, rfl, _, hL, small1000 ?_, same_up s3 hD2, ?_⟩
      · unfold sV
        rw [List.length_map, List.length_take]
        unfold namesOf
        rw [List.length_map]
        omega
      · rw [upd_same, take_snoc hz]
        unfold sV
        rw [List.map_append]
        rfl
    rintro H2 ⟨s2', hD2'⟩
    have eQ : (namesOf qs).take (ps.map V.ref).length = namesOf qs := by
      rw [List.length_map, hlq]
      exact List.take_of_length_le (by unfold namesOf; rw [List.length_map]; exact Nat.le_refl _)
    rw [eQ] at hD2'
    have s2 := s1.trans s2'
    have hDu := s2' _ _ hD1
    have hlen : (namesOf qs).length ≤ 1000 := by unfold namesOf; rw [List.length_map]; omega
    refine ⟨_, rfl, _, rfl, D2, D, _, _, _, rfl, SqL.of hD2', dpa_strs _, .lst (SqL.of hDu) (dpa_strs _), ?_, strs_shaped nu, by rw [List.length_map]; exact hlen, fun H3 s3 => ⟨_, rfl, ?_⟩⟩
    · intro d hd
      obtain ⟨x, hx, rfl⟩ := List.mem_map.mp hd
      exact str_shaped (nq x hx)
    have s03 := s2.trans s3
    refine ite2 (fun hc => ?_) (fun hc => ?_)
    · have e : bookLe (toB qs) (toB us) = false := by
        cases e : bookLe (toB qs) (toB us) with
        | false => rfl
        | true =>
          have h := (bookLe_iff.mp e).1
          rw [toB_names] at h
          have : inAll ((namesOf qs).map PyData.str) ((namesOf us).map PyData.str) = true := inAll_names.mpr fun x hx => hasB_iff.mp (h x hx).1
          rw [this] at hc
          cases hc
      rw [← e]
      exact k H3 s03
    have hin : ∀ x ∈ namesOf qs, hasB (toB us) x = true := fun x hx => by
      have : inAll ((namesOf qs).map PyData.str) ((namesOf us).map PyData.str) = true := by
        cases e : inAll ((namesOf qs).map PyData.str) ((namesOf us).map PyData.str) with
        | true => rfl
        | false => exact absurd (by rw [e]; rfl) hc
      exact hasB_iff.mpr (inAll_names.mp this x hx)
    have hD3 := s3 _ _ hD2'
    have hmem : ∀ {i : Nat} {z : Str}, (namesOf qs)[i]? = some z → z ∈ namesOf qs := fun h => List.mem_of_getElem? h
    have hasq : ∀ {z : Str}, z ∈ namesOf qs → hasB (toB qs) z = true := fun h => hasB_iff.mpr h
    have bad : ∀ {H'}, Same H H' → bookLe (toB qs) (toB us) = false → Q (.bl false) H' := fun {H'} s e => by
      have q := k H' s
      rw [e] at q
      exact q
    have noG : ∀ {z : Str}, z ∈ namesOf qs → leB (predB (toB qs) z) (predB (toB us) z) = false → bookLe (toB qs) (toB us) = false := fun {z} hz hf => by
      cases e : bookLe (toB qs) (toB us) with
      | false => rfl
      | true =>
        have h := (bookLe_iff.mp e).1
        rw [toB_names] at h
        rw [(h z hz).2] at hf
        cases hf
    have noK : ∀ {z u : Str}, z ∈ namesOf qs → u ∈ namesOf qs → keepB (toB qs) (toB us) z u = false → bookLe (toB qs) (toB us) = false := fun {z u} hz hu hf => by
      cases e : bookLe (toB qs) (toB us) with
      | false => rfl
      | true =>
        have h := (bookLe_iff.mp e).2
        rw [toB_names] at h
        rw [h z hz u hu] at hf
        cases hf
    refine ⟨_, rfl, D2, rfl, ⟨_, SqL.of hD3⟩, ?_⟩
    refine for_list (K := K) (a := D2) (xs := sV (namesOf qs)) (fun i σ H' => ∃ (v4 v5 v6 v7 : Option V), σ = [some (.ref a), some (.ref b), some (.ref D), some (.ref D2), v4, v5, v6, v7] ∧ Same H3 H' ∧ ∀ j < i, ∀ z, (namesOf qs)[j]? = some z → leB (predB (toB qs) z) (predB (toB us) z) = true ∧ ∀ u ∈ namesOf qs, keepB (toB qs) (toB us) z u = true)
      ⟨_, _, _, _, rfl, Same.refl _, fun j hj => absurd hj (Nat.not_lt_zero _)⟩ (fun i σ H' _ ⟨_, _, _, _, _, s4, _⟩ => SqL.of (s4 _ _ hD3)) ?_ ?_
    · rintro i x σ H4 hi ⟨v4, v5, v6, v7, rfl, s4, hg⟩
      obtain ⟨z, hz, rfl, hil⟩ := sv_get hi
      have zm := hmem hz
      have s04 := s03.trans s4
      refine ⟨_, rfl, _, rfl, a, z, ps, qs, rfl, s04.seq hA, hP.mono s04, oq, hasq zm, fun p0 as0 H5 s5 h0 t0 => ?_⟩
      have s05 := s04.trans s5
      refine ⟨_, rfl, _, rfl, b, z, rs, us, rfl, s05.seq hB, hR.mono s05, ou, hin z zm, fun p1 as1 H6 s6 h1 t1 => ?_⟩
      have s06 := s05.trans s6
      refine ⟨_, _, _, _, _, rfl, (s6.seq h0), dpa_tups (t0.mono s6), .lst h1 (dpa_tups t1), shF _, tDs_shaped (filt_ok _), lenF _, fun H7 s7 => ?_⟩
      rw [inAll_filt]
      refine ⟨_, rfl, ?_⟩
      have s07 := s06.trans s7
      refine ite2 (fun hc => ?_) (fun hc => ?_)
      · refine bad s07 (noG zm ?_)
        cases e : leB (predB (toB qs) z) (predB (toB us) z) with
        | false => rfl
        | true => rw [e] at hc; cases hc
      have hG : leB (predB (toB qs) z) (predB (toB us) z) = true := by
        cases e : leB (predB (toB qs) z) (predB (toB us) z) with
        | true => rfl
        | false => exact absurd (by rw [e]; rfl) hc
      have s37 := ((s4.trans s5).trans s6).trans s7
      refine ⟨_, rfl, D2, rfl, ⟨_, SqL.of (s37 _ _ hD3)⟩, ?_⟩
      refine for_list (K := K) (a := D2) (xs := sV (namesOf qs)) (fun j σ H' => ∃ (v5 v6 v7 : Option V), σ = [some (.ref a), some (.ref b), some (.ref D), some (.ref D2), some (.str z), v5, v6, v7] ∧ Same H3 H' ∧ ∀ l < j, ∀ u, (namesOf qs)[l]? = some u → keepB (toB qs) (toB us) z u = true)
        ⟨_, _, _, rfl, s37, fun j hj => absurd hj (Nat.not_lt_zero _)⟩ (fun i σ H' _ ⟨_, _, _, _, s8, _⟩ => SqL.of (s8 _ _ hD3)) ?_ ?_
      · rintro j y σ H8 hj ⟨v5, v6, v7, rfl, s8, hk⟩
        obtain ⟨u, hu, rfl, hjl⟩ := sv_get hj
        have um := hmem hu
        have s08 := s03.trans s8
        refine ⟨_, rfl, _, rfl, a, z, ps, qs, rfl, s08.seq hA, hP.mono s08, oq, hasq zm, fun p2 as2 H9 s9 h2 t2 => ?_⟩
        have s09 := s08.trans s9
        refine ⟨_, rfl, _, rfl, a, u, ps, qs, rfl, s09.seq hA, hP.mono s09, oq, hasq um, fun p3 as3 Ha sa h3 t3 => ?_⟩
        have s0a := s09.trans sa
        refine ⟨_, _, _, _, _, rfl, (sa.seq h2), dpa_tups (t2.mono sa), .lst h3 (dpa_tups t3), shF _, tDs_shaped (filt_ok _), lenF _, fun Hb sb => ?_⟩
        rw [inAll_filt]
        have s0b := s0a.trans sb
        have s3b := ((s8.trans s9).trans sa).trans sb
        refine ⟨_, rfl, _, rfl, ?_⟩
        cases hb : leB (predB (toB qs) z) (predB (toB qs) u) with
        | false =>
          refine ⟨_, _, _, rfl, s3b, fun l hl v hv => ?_⟩
          rcases Nat.lt_succ_iff_lt_or_eq.mp hl with h | rfl
          · exact hk l h v hv
          · rw [hu] at hv
            cases hv
            unfold keepB
            rw [hb]
            exact Bool.or_true _
        | true =>
          refine ⟨_, rfl, _, rfl, b, z, rs, us, rfl, s0b.seq hB, hR.mono s0b, ou, hin z zm, fun p4 as4 Hc sc h4 t4 => ?_⟩
          have s0c := s0b.trans sc
          refine ⟨_, rfl, _, rfl, b, u, rs, us, rfl, s0c.seq hB, hR.mono s0c, ou, hin u um, fun p5 as5 He se h5 t5 => ?_⟩
          have s0e := s0c.trans se
          refine ⟨_, _, _, _, _, rfl, (se.seq h4), dpa_tups (t4.mono se), .lst h5 (dpa_tups t5), shF _, tDs_shaped (filt_ok _), lenF _, fun Hf sf => ?_⟩
          rw [inAll_filt]
          refine ⟨_, rfl, ?_⟩
          have s0f := s0e.trans sf
          refine ite2 (fun hc => ?_) (fun hc => ?_)
          · refine bad s0f (noK zm um ?_)
            unfold keepB
            cases e : leB (predB (toB us) z) (predB (toB us) u) with
            | false => rw [hb]; rfl
            | true => rw [e] at hc; cases hc
          · refine ⟨_, _, _, rfl, ((s3b.trans sc).trans se).trans sf, fun l hl v hv => ?_⟩
            rcases Nat.lt_succ_iff_lt_or_eq.mp hl with h | rfl
            · exact hk l h v hv
            · rw [hu] at hv
              cases hv
              unfold keepB
              cases e : leB (predB (toB us) z) (predB (toB us) u) with
              | true => rfl
              | false => exact absurd (by rw [e]; rfl) hc
      · rintro σ H8 ⟨v5, v6, v7, rfl, s8, hk⟩
        refine ⟨_, _, _, _, rfl, s8, fun l hl v hv => ?_⟩
        rcases Nat.lt_succ_iff_lt_or_eq.mp hl with h | rfl
        · exact hg l h v hv
        · rw [hz] at hv
          cases hv
          refine ⟨hG, fun u hu => ?_⟩
          obtain ⟨l, hl2, e⟩ := List.mem_iff_getElem.mp hu
          have hlen2 : l < (sV (namesOf qs)).length := by unfold sV; rw [List.length_map]; exact hl2
          exact hk l hlen2 u (by rw [List.getElem?_eq_getElem hl2, e])
    · rintro σ H4 ⟨v4, v5, v6, v7, rfl, s4, hg⟩
      have e : bookLe (toB qs) (toB us) = true := by
        rw [bookLe_iff, toB_names]
        have hall : ∀ x ∈ namesOf qs, leB (predB (toB qs) x) (predB (toB us) x) = true ∧ ∀ u ∈ namesOf qs, keepB (toB qs) (toB us) x u = true := fun x hx => by
          obtain ⟨l, hl2, e⟩ := List.mem_iff_getElem.mp hx
          have hlen2 : l < (sV (namesOf qs)).length := by unfold sV; rw [List.length_map]; exact hl2
          exact hg l hlen2 x (by rw [List.getElem?_eq_getElem hl2, e])
        exact ⟨fun x hx => ⟨hin x hx, (hall x hx).1⟩, fun x hx => (hall x hx).2⟩
      have q := k H4 (s03.trans s4)
      rw [e] at q
      exact q
end
end My
namespace My
open PySem L2 ClX
open Evl (pss_cut)
abbrev sName : Stmt := topS 14
def poolA : List Str := ["a", "b2", "cab", "d", "e0", "fox", "gg", "h1", "ice", "j", "kilo", "lo", "mmm", "n9", "oak", "p", "q7"]
def poolB : List Str := ["rr", "s", "tin", "0", "v", "wax", "abcdefghijkl", "yes", "z0o"]
def poolD : List Str := poolA ++ poolB
def nameF (start k : Int) : Str := poolD.getD ((start + 7 * k) % 26).toNat ""
theorem pool_nodup : poolD.Nodup := by decide +kernel
theorem pool_ok : ∀ x ∈ poolD, PyData.strOk x = true := by decide +kernel
theorem name_ix (m : Int) : (m % 26).toNat < poolD.length := by show (m % 26).toNat < 26; omega
theorem nameF_mem (start k : Int) : nameF start k ∈ poolD := by
  unfold nameF
  rw [List.getD_eq_getElem?_getD, List.getElem?_eq_getElem (name_ix _)]
  exact List.getElem_mem _
theorem nameF_inj {start i j : Int} (hi : 0 ≤ i ∧ i < 26) (hj : 0 ≤ j ∧ j < 26) (e : nameF start i = nameF start j) : i = j := by
  unfold nameF at e
  rw [List.getD_eq_getElem?_getD, List.getD_eq_getElem?_getD, List.getElem?_eq_getElem (name_ix _), List.getElem?_eq_getElem (name_ix _)] at e
  have h := (List.getElem_inj pool_nodup).mp e
  omega
theorem name_at (m : Int) : atI (sV poolD) (m % 26) = some (.str (poolD.getD (m % 26).toNat "")) := by
  have h0 : 0 ≤ m % 26 := by omega
  have hn := name_ix m
  obtain ⟨n, hn'⟩ := Int.eq_ofNat_of_zero_le h0
  rw [hn'] at hn ⊢
  refine atI_nat ?_
  have hn2 : n < poolD.length := hn
  unfold sV
  rw [List.getElem?_map, List.getElem?_eq_getElem hn2]
  show some (V.str poolD[n]) = some (V.str (poolD.getD n ""))
  rw [List.getD_eq_getElem?_getD, List.getElem?_eq_getElem hn2]
  rfl
def spName : Sp := fun vs H Q _ => ∃ a k : Int, vs = [.int a, .int k] ∧ ((0 ≤ a ∧ a ≤ 1000) ∧ 0 ≤ k ∧ k ≤ 1000) ∧ ∀ H', Same H H' → Q (.str (nameF a k)) H'
theorem scName : FnScope ["_law_start", "_law_k", "_law_pool"] ["_law_start", "_law_k"] (defScope sName) := ⟨rfl, rfl, rfl, by decide +kernel, rfl, by decide +kernel, by decide +kernel⟩
section
variable {P : Program} {w : World} {K : PySem.W.Frag} {mg : Str → Option Value} {base : Heap}
theorem ok_name {f : Addr} {fd : FuncData} (F : Fun K "_law_name" "_law_name" sName f fd) (T : Gls mg) : FnOk P w K mg base CX0 1 f fd ["_law_start", "_law_k"] spName := by
  refine F.ok scName (fun vs H Q E h => ?_) (fun cdv A outer s H vs Q E hr h => ?_)
  · obtain ⟨a, k, rfl, _⟩ := h
    rfl
  · obtain ⟨a, k, rfl, hb, q⟩ := h
    have nd := scName.nd
    refine ⟨_, pss_cons (ps_set (i := 2) nd rfl (Or.inl rfl) (pe_newL (pa_s pe_str (pa_s pe_str (pa_s pe_str (pa_s pe_str (pa_s pe_str (pa_s pe_str (pa_s pe_str (pa_s pe_str (pa_s pe_str (pa_s pe_str (pa_s pe_str (pa_s pe_str (pa_s pe_str (pa_s pe_str (pa_s pe_str (pa_s pe_str (pa_s pe_str (pa_s0))))))))))))))))))))
      (pss_cons (ps_set (i := 2) nd rfl (Or.inl rfl) (pe_op op_cat (pv 2) (pe_newL (pa_s pe_str (pa_s pe_str (pa_s pe_str (pa_s pe_str (pa_s pe_str (pa_s pe_str (pa_s pe_str (pa_s pe_str (pa_s pe_str (pa_s0)))))))))))))
      (pss_one (ps_ret (pe_ix ix_list (pv 2) (pe_op op_mod (pe_callTy call_int1 (by rfl) T.int (by decide +kernel) (pa_cons (pe_op op_add (pv 0) (pe_op op_mul pe_int (pv 1))) pa_nil)) pe_int) (fun _ _ => rfl))))), ?_⟩
    intro l1 H1 n1 s1 e1
    refine ⟨_, rfl, fun l2 H2 n2 s2 e2 => ?_⟩
    refine ⟨l1, l2, sV poolA, sV poolB, rfl, rfl, s2 _ _ e1, e2, by show 26 ≤ sizeLine; decide, fun l3 n3 => ?_⟩
    refine ⟨_, rfl, _, rfl, _, rfl, _, _, rfl, rfl, .inl ⟨by decide, by decide⟩, _, _, rfl, rfl, .inl ⟨_, rfl, _, _, rfl, rfl, by show (0 : Int) < 26; decide, ?_⟩⟩
    refine ⟨l3, _, _, _, rfl, rfl, SqL.of (xs := sV poolD) upd_same, name_at _, ?_⟩
    exact q _ ((s1.trans s2).trans (same_new n3))
end
end My
namespace My
open PySem L2
theorem lists_ne {H : Hp} {b D : Addr} {l : List Str} {ps : List Addr} (h : H b = some (.lst (sV l))) (hl : l ≠ []) (hD : H D = some (.lst (ps.map V.ref))) : b ≠ D := by
  rintro rfl
  rw [h] at hD
  have e : sV l = ps.map V.ref := HO.lst.inj (Option.some.inj hD)
  cases l with
  | nil => exact hl rfl
  | cons x l =>
    cases ps with
    | nil => cases e
    | cons y ps =>
      have := (List.cons.inj e).1
      cases this
theorem ListsAt.updR {H : Hp} {D : Addr} {ps : List Addr} {o : HO} {bs : List Addr} {ls : List (List Str)} (hD : H D = some (.lst (ps.map V.ref))) (hne : ∀ l ∈ ls, l ≠ []) (h : ListsAt H bs ls) : ListsAt (upd H D o) bs ls := by
  unfold ListsAt at h
  induction h with
  | nil => exact .nil
  | cons q _ ih => exact .cons (by rw [upd_ne (lists_ne q (hne _ List.mem_cons_self) hD)]; exact q) (ih fun l hl => hne l (List.mem_cons_of_mem _ hl))
theorem prods_ne (ds : List Int) : ∀ l ∈ prodsD ds, l ≠ [] := by
  unfold prodsD
  split
  · have q : ∀ m ∈ menuD, ∀ l ∈ m, l ≠ [] := by decide +kernel
    intro l hl
    by_cases h : (ds.getD 1 0).toNat < menuD.length
    · rw [List.getD_eq_getElem?_getD, List.getElem?_eq_getElem h] at hl
      exact q _ (List.getElem_mem h) l hl
    · rw [List.getD_eq_getElem?_getD, List.getElem?_eq_none (by omega)] at hl
      cases hl
  · intro l hl
    obtain ⟨k, _, rfl⟩ := List.mem_map.mp hl
    unfold prodK
    split <;> exact List.cons_ne_nil _ _
end My
namespace My
open PySem L2 ClX
open Evl (pss_cut)
abbrev sLaw : Stmt := topS 25
theorem scLaw : FnScope ["_law_script", "_law_picks", "_law_names", "_law_first", "_law_extra", "_law_second", "_law_k", "_law_other", "_law_one", "_law_two", "_law_pair"] ["_law_script"] (defScope sLaw) := ⟨rfl, rfl, rfl, by decide +kernel, rfl, by decide +kernel, by decide +kernel⟩
def spLaw (K : PySem.W.Frag) : Sp := fun vs H Q _ => ∃ (a : Addr) (ns : List Int), vs = [.ref a] ∧ SqL K H a (ns.map V.int) ∧ ns.length ≤ 63 ∧ ∀ H', Q (.bl true) H'
theorem prodsF_ok {ns : List Int} {j : Nat} (h : DigOk psz (digF ns j psz)) : (prodsF ns j).length ≤ 3 ∧ ∀ l ∈ prodsF ns j, l.length ≤ 2 ∧ ∀ x ∈ l, x ∈ wordsD := prods_ok h
/-- the products of a pair: few, short, none empty -/
def okP (m : Nat) (l : List (List Str)) : Prop := l.length ≤ m ∧ ∀ x ∈ l, x.length ≤ 2 ∧ x ≠ []
theorem okP_F {ns : List Int} {j : Nat} (h : DigOk psz (digF ns j psz)) : okP 3 (prodsF ns j) := ⟨(prodsF_ok h).1, fun x hx => ⟨((prodsF_ok h).2 x hx).1, prods_ne _ x hx⟩⟩
theorem okP.app {a b : List (List Str)} (h : okP 3 a) (g : okP 3 b) : okP 6 (a ++ b) := ⟨by have := h.1; have := g.1; rw [List.length_append]; omega, fun x hx => by
  rcases List.mem_append.mp hx with q | q
  · exact h.2 x q
  · exact g.2 x q⟩
theorem okP.six {a : List (List Str)} (h : okP 3 a) : okP 6 a := ⟨by have := h.1; omega, h.2⟩
def PairD (m : Nat) (K : PySem.W.Frag) (D : Addr) (H : Hp) (a : Addr) (q : PairQ) : Prop := okP m q.2 ∧ ∃ (c : Addr) (bs : List Addr), c ≠ D ∧ SqT K H a [.str q.1, .ref c] ∧ H c = some (.lst (bs.map V.ref)) ∧ ListsAt H bs q.2
theorem PairD.mono {m : Nat} {K : PySem.W.Frag} {D : Addr} {H H' : Hp} {a : Addr} {q : PairQ} (s : Same H H') : PairD m K D H a q → PairD m K D H' a q := fun ⟨o, c, bs, n, h1, h2, h3⟩ => ⟨o, c, bs, n, Same.seqT s h1, s _ _ h2, h3.mono s⟩
theorem PairD.at {m : Nat} {K : PySem.W.Frag} {D : Addr} {H : Hp} {a : Addr} {q : PairQ} : PairD m K D H a q → PairAt K H a q := fun ⟨_, c, bs, _, h1, h2, h3⟩ => ⟨c, bs, h1, SqL.of h2, h3⟩
theorem PairD.updL {m : Nat} {K : PySem.W.Frag} {D : Addr} {H : Hp} {ts : List Addr} {l' : List V} {a : Addr} {q : PairQ} (hD : H D = some (.lst (ts.map V.ref))) : PairD m K D H a q → PairD m K D (upd H D (.lst l')) a q := fun ⟨o, c, bs, n, h1, h2, h3⟩ => ⟨o, c, bs, n, seqT_updL hD h1, by rw [upd_ne n]; exact h2, ListsAt.updR hD (fun l hl => (o.2 l hl).2) h3⟩
theorem paired_upd {m : Nat} {K : PySem.W.Frag} {D : Addr} {H H' : Hp} {ts : List Addr} {qs : List PairQ} {t : Addr} {q : PairQ} {l' : List V} (s : Same H H') (hD : H' D = some (.lst (ts.map V.ref))) (h : Paired (PairD m K D H) ts qs) (g : PairD m K D H' t q) : Paired (PairD m K D (upd H' D (.lst l'))) (ts ++ [t]) (qs ++ [q]) :=
  paired_app (Paired.mapP h fun _ _ z => (z.mono s).updL hD) (.cons (g.updL hD) .nil)
def nmD (s0 : Int) (j : Nat) : Str := nameF s0 (j : Int)
def firstD (ns : List Int) (s0 : Int) (j : Nat) : PairQ := (nmD s0 j, prodsF ns (1 + j))
def PairX (K : PySem.W.Frag) (H : Hp) (a : Addr) (q : PairQ) : Prop := okP 6 q.2 ∧ PairAt K H a q
theorem PairX.mono {K : PySem.W.Frag} {H H' : Hp} {a : Addr} {q : PairQ} (s : Same H H') : PairX K H a q → PairX K H' a q := fun ⟨o, h⟩ => ⟨o, h.mono s⟩
theorem paired_take {α β : Type} {F : α → β → Prop} : ∀ (m : Nat) {as : List α} {bs : List β}, Paired F as bs → Paired F (as.take m) (bs.take m)
  | 0, _, _, _ => by rw [List.take_zero, List.take_zero]; exact .nil
  | _ + 1, _, _, .nil => .nil
  | m + 1, _, _, .cons h t => .cons h (paired_take m t)
theorem paired_drop {α β : Type} {F : α → β → Prop} : ∀ (m : Nat) {as : List α} {bs : List β}, Paired F as bs → Paired F (as.drop m) (bs.drop m)
  | 0, _, _, h => h
  | _ + 1, _, _, .nil => .nil
  | m + 1, _, _, .cons _ t => paired_drop m t
theorem cut_lo {ts : List Addr} {i : Int} (h : 0 ≤ i) : cutV (ts.map V.ref) none (some i) = (ts.take i.toNat).map V.ref := by
  obtain ⟨n, rfl⟩ := Int.eq_ofNat_of_zero_le h
  unfold cutV
  rw [HT.sIx_nat, HT.sIx_none, List.drop_zero, Nat.sub_zero, ← List.take_eq_take_min, List.map_take]
  rfl
theorem cut_hi {ts : List Addr} {i : Int} (h : 0 ≤ i) : cutV (ts.map V.ref) (some i) none = (ts.drop i.toNat).map V.ref := by
  obtain ⟨n, rfl⟩ := Int.eq_ofNat_of_zero_le h
  unfold cutV
  rw [HT.sIx_nat, HT.sIx_none, List.map_drop]
  show ((ts.map V.ref).drop (min n (ts.map V.ref).length)).take ((ts.map V.ref).length - min n (ts.map V.ref).length) = (ts.map V.ref).drop n
  by_cases g : n ≤ (ts.map V.ref).length
  · rw [Nat.min_eq_left g]
    exact List.take_of_length_le (by rw [List.length_drop]; exact Nat.le_refl _)
  · rw [Nat.min_eq_right (by omega), List.drop_eq_nil_of_le (Nat.le_refl _), List.drop_eq_nil_of_le (by omega)]
    exact List.take_nil
theorem dp_bl {K : PySem.W.Frag} {H : Hp} {b c : Bool} (h : b = c) : Dp K H (.bl b) (.bool c) := h ▸ Dp.bl b
theorem okD_b (b : Bool) : okD 3 (.bool b) := trivial
theorem toB_len (qs : List PairQ) : (toB qs).length = qs.length := by
  unfold toB
  rw [List.length_map]
theorem nm_nodup {s0 : Int} {idx : List Nat} (nd : idx.Nodup) (hb : ∀ i ∈ idx, i < 26) : (idx.map (nmD s0)).Nodup := by
  unfold List.Nodup
  rw [List.pairwise_map]
  refine List.Pairwise.imp_of_mem (fun {a b} ha hb' hn e => hn ?_) nd
  have h1 := hb a ha
  have h2 := hb b hb'
  have := nameF_inj (i := (a : Int)) (j := (b : Int)) ⟨by omega, by omega⟩ ⟨by omega, by omega⟩ e
  omega
theorem okQ_of {K : PySem.W.Frag} {H : Hp} {s0 : Int} {idx : List Nat} : ∀ {ts : List Addr} {qs : List PairQ}, Paired (PairX K H) ts qs → qs.length ≤ 100 → namesOf qs = idx.map (nmD s0) → okQ qs := by
  intro ts qs h hl hn
  refine ⟨⟨hl, fun q hq => ?_⟩, fun x hx => ?_⟩
  · obtain ⟨i, hi, e⟩ := List.mem_iff_getElem.mp hq
    obtain ⟨_, _, o, _⟩ := paired_get h (i := i) (b := q) (by rw [List.getElem?_eq_getElem hi, e])
    exact ⟨by have := o.1; omega, fun l hl => by have := (o.2 l hl).1; omega⟩
  · rw [hn] at hx
    obtain ⟨j, _, rfl⟩ := List.mem_map.mp hx
    exact pool_ok _ (nameF_mem _ _)
theorem RuleAt.updL {K : PySem.W.Frag} {C : Addr} {H : Hp} {D r : Addr} {l l' : List V} {ds : List (List Str)} (hD : H D = some (.lst l)) (h : RuleAt K C H r ds) : RuleAt K C (upd H D (.lst l')) r ds := by
  obtain ⟨dx, t, as, h1, h2, h3⟩ := h
  have n : r ≠ D := fun e => by rw [e, hD] at h1; cases h1
  have n2 : t ≠ D := fun e => by rw [e, hD] at h2; cases h2
  exact ⟨dx, t, as, by rw [upd_ne n]; exact h1, by rw [upd_ne n2]; exact h2, TupsAt.updL hD h3⟩
def TpAt (K : PySem.W.Frag) (H : Hp) (t : Addr) (p : Str × Addr) : Prop := SqT K H t [.str p.1, .ref p.2]
def RlAt (K : PySem.W.Frag) (C : Addr) (H : Hp) (p : Str × Addr) (q : Str × Pred) : Prop := p.1 = q.1 ∧ RuleAt K C H p.2 (stanD.filter q.2)
def BkInv (K : PySem.W.Frag) (C : Addr) (H : Hp) (D : Addr) (qs : List PairQ) (j : Nat) (H' : Hp) : Prop := Same H H' ∧ ∃ (bts : List Addr) (prs : List (Str × Addr)), H' D = some (.lst (bts.map V.ref)) ∧ bts.length = j ∧ Paired (TpAt K H') bts prs ∧ Paired (RlAt K C H') prs (toB (qs.take j))
theorem BkInv.start {K : PySem.W.Frag} {C : Addr} {H : Hp} {D : Addr} {qs : List PairQ} (hD : H D = none) : BkInv K C H D qs 0 (upd H D (.lst [])) := ⟨same_new hD, [], [], upd_same, rfl, .nil, .nil⟩
theorem BkInv.step {K : PySem.W.Frag} {C : Addr} {H H' H6 : Hp} {D t r : Addr} {qs : List PairQ} {qj : PairQ} {j : Nat} {bts : List Addr} {prs : List (Str × Addr)} (hD : H D = none) (h : Same H H') (hL : H' D = some (.lst (bts.map V.ref))) (hbl : bts.length = j) (hBT : Paired (TpAt K H') bts prs) (hBR : Paired (RlAt K C H') prs (toB (qs.take j)))
    (s : Same H' H6) (htk : qs.take (j + 1) = qs.take j ++ [qj]) (ht : SqT K H6 t [.str qj.1, .ref r]) (hR : RuleAt K C H6 r (stanD.filter (letP qj.2))) : BkInv K C H D qs (j + 1) (upd H6 D (.lst (bts.map V.ref ++ [V.ref t]))) := by
  have hL6 := s _ _ hL
  refine ⟨same_up (h.trans s) hD, bts ++ [t], prs ++ [(qj.1, r)], by rw [upd_same, List.map_append]; rfl, by rw [List.length_append, hbl]; rfl, ?_, ?_⟩
  · exact paired_app (Paired.mapP hBT fun _ _ z => seqT_updL hL6 (Same.seqT s z)) (.cons (seqT_updL hL6 ht) .nil)
  · have e : toB (qs.take (j + 1)) = toB (qs.take j) ++ [(qj.1, letP qj.2)] := by
      rw [htk]
      unfold toB
      rw [List.map_append]
      rfl
    rw [e]
    exact paired_app (Paired.mapP hBR fun _ _ z => ⟨z.1, (z.2.mono s).updL hL6⟩) (.cons ⟨rfl, hR.updL hL6⟩ .nil)
theorem names_prs {K : PySem.W.Frag} {C : Addr} {H : Hp} : ∀ {prs : List (Str × Addr)} {bs : List (Str × Pred)}, Paired (RlAt K C H) prs bs → prs.map (·.1) = bs.map (·.1)
  | _, _, .nil => rfl
  | _, _, .cons h t => by rw [List.map_cons, List.map_cons, h.1, names_prs t]
theorem leB_refl (p : Pred) : leB p p = true := by
  unfold leB
  rw [List.all_eq_true]
  intro x _
  cases p x <;> rfl
theorem bookLe_refl (qs : List PairQ) : bookLe (toB qs) (toB qs) = true := by
  rw [bookLe_iff, toB_names]
  refine ⟨fun x hx => ⟨hasB_iff.mpr hx, leB_refl _⟩, fun x _ y _ => ?_⟩
  unfold keepB
  exact Bool.or_not_self _
section
variable {P : Program} {w : World} {K : PySem.W.Frag} {mg : Str → Option Value} {base : Heap}
theorem ok_law {f C CB aS fGet fCon fLe fBI fBE fN fQ fNm fUn fU fG : Addr} {fd fdBI fdBE fdN fdQ fdNm fdUn fdU fdG : FuncData} (F : Fun K "law" "law" sLaw f fd) (T : Gls mg) (TR : GlsR K mg C aS) (TB : GlsB K mg CB) (OB : GlsBO K C CB fGet fCon fLe)
    (mB : mg "Book" = some (.ref CB)) (MB : Mk K CB fBI) (GBI : FnOk P w K mg base CX0 1 fBI fdBI ["self", "pairs"] (spBInit K CB)) (bBI : Binds K fdBI ["self", "pairs"] [])
    (nfB : PySem.W.notFirst K CB (.ref CB) = true) (hBE : PySem.W.findIn K (.ref CB) "__le__" = some (some (.ref fBE))) (iBE : PySem.W.isFn K (.ref fBE) = true) (GBE : FnOk P w K mg base CX0 4 fBE fdBE ["self", "other"] (spBLe K C CB)) (bBE : Binds K fdBE ["self", "other"] [])
    (GN : FnOk P w K mg base CX0 2 fN fdN ["_law_script", "_law_at"] (spProdN K)) (bN : Binds K fdN ["_law_script", "_law_at"] []) (kN : PySem.W.keepIn K (.ref fN) = true) (mN : mg "_law_products" = some (.ref fN))
    (GQ : FnOk P w K mg base CX0 4 fQ fdQ ["_law_products_here"] (spLRule K C)) (bQ : Binds K fdQ ["_law_products_here"] []) (kQ : PySem.W.keepIn K (.ref fQ) = true) (mQ : mg "_law_rule" = some (.ref fQ))
    (GNm : FnOk P w K mg base CX0 1 fNm fdNm ["_law_start", "_law_k"] spName) (bNm : Binds K fdNm ["_law_start", "_law_k"] []) (kNm : PySem.W.keepIn K (.ref fNm) = true) (mNm : mg "_law_name" = some (.ref fNm))
    (GUn : FnOk P w K mg base CX0 4 fUn fdUn ["_law_first", "_law_second"] (spUnder7 K)) (bUn : Binds K fdUn ["_law_first", "_law_second"] []) (kUn : PySem.W.keepIn K (.ref fUn) = true) (mUn : mg "_law_under" = some (.ref fUn))
    (GG : FnOk P w K mg base CX0 1 fG fdG ["_law_script", "_law_at", "_law_sizes"] (spDig K)) (bG : Binds K fdG ["_law_script", "_law_at", "_law_sizes"] []) (kG : PySem.W.keepIn K (.ref fG) = true) (mG : mg "_law_digits" = some (.ref fG))
    (GU : FnOk P w K mg base CX0 3 fU fdU ["_law_actual", "_law_due"] (spSame K 3)) (bU : Binds K fdU ["_law_actual", "_law_due"] []) (kU : PySem.W.keepIn K (.ref fU) = true) (mU : mg "_law_same" = some (.ref fU)) :
    FnOk P w K mg base CX0 5 f fd ["_law_script"] (spLaw K) := by
  refine F.ok scLaw (fun vs H Q E h => ?_) (fun cdv A outer s H vs Q E hr h => ?_)
  · obtain ⟨a, ns, rfl, _⟩ := h
    rfl
  · obtain ⟨a, ns, rfl, hS, hlen, k⟩ := h
    have nd := scLaw.nd
    have hr1 : Room 1 _ := hr.mono (by decide)
    have hr2 : Room 2 _ := hr.mono (by decide)
    have hr3 : Room 3 _ := hr.mono (by decide)
    refine ⟨_, (pss_cons (ps_set (i := 1) nd rfl (Or.inr rfl) (pe_call GG hr1 (by rfl) mG kG bG .nil pass0 (pa_cons (pv 0) (pa_cons pe_int (pa_cons (pe_lst (pa_cons pe_int (pa_cons pe_int (pa_cons pe_int (pa_cons pe_int (pa_cons pe_int pa_nil)))))) pa_nil)))))
      (pss_cons (ps_set (i := 2) nd rfl (Or.inr rfl) (pe_lc (own := [("_law_k", 6)]) (g := gName 6) (tt := tYes) rfl nd (pi_range1 rfl T.range (pa_cons pe_int pa_nil)) (blkOk_by (own := [("_law_k", 6)]) (N := ["_law_script", "_law_picks", "_law_names", "_law_first", "_law_extra", "_law_second", "_law_k", "_law_other", "_law_one", "_law_two", "_law_pair"]) (sc := defScope sLaw) (by decide +kernel)) (fun _ _ _ _ _ => pg_name (i := 6) nd rfl (Or.inl rfl)) (fun _ _ _ _ _ => pts_nil) (fun _ _ _ _ _ => (pe_call GNm hr1 (by rfl) mNm kNm bNm .nil pass0 (pa_cons (pe_ix (show IxR _ (rIxL K) from ix_list) (pv 1) pe_int (fun _ _ => rfl)) (pa_cons (pv 6) pa_nil))))))
      (pss_cons (ps_setLc (i := 3) (own := [("_law_k", 6)]) (g := gName 6) (tt := tYes) rfl nd rfl rfl (sw_true rfl rfl rfl (by decide +kernel)) (pi_range1 rfl T.range (pa_cons (pe_op op_add pe_int (pe_ix (show IxR _ (rIxL K) from ix_list) (pv 1) pe_int (fun _ _ => rfl))) pa_nil)) (blkOk_by (own := [("_law_k", 6)]) (N := ["_law_script", "_law_picks", "_law_names", "_law_first", "_law_extra", "_law_second", "_law_k", "_law_other", "_law_one", "_law_two", "_law_pair"]) (sc := defScope sLaw) (by decide +kernel)) (fun _ _ _ _ _ => pg_name (i := 6) nd rfl (Or.inl rfl)) (fun _ _ _ _ _ => pts_nil) (fun _ _ _ _ _ => (pe_tup (pa_cons (pe_ix (show IxR _ (rIxL K) from ix_list) (pv 2) (pv 6) (fun _ _ => rfl)) (pa_cons (pe_call GN hr2 (by rfl) mN kN bN .nil pass0 (pa_cons (pv 0) (pa_cons (pe_op op_add pe_int (pv 6)) pa_nil))) pa_nil)))))
      (pss_cons (ps_set (i := 4) nd rfl (Or.inl rfl) (pe_call GN hr2 (by rfl) mN kN bN .nil pass0 (pa_cons (pv 0) (pa_cons pe_int pa_nil))))
      (pss_cons (ps_set (i := 5) nd rfl (Or.inl rfl) (pe_lst pa_nil))
      (pss_cons (ps_for PassesOwn.never rfl (pi_range1 rfl T.range (pa_cons (pe_callB call_len_seq (by rfl) T.len PySem.boot_len (pa_cons (pv 3) pa_nil)) pa_nil)) (pg_name (i := 6) nd rfl (Or.inl rfl)) (pss_cons (ps_set (i := 7) nd rfl (Or.inl rfl) (pe_call GN hr2 (by rfl) mN kN bN .nil pass0 (pa_cons (pv 0) (pa_cons (pe_op op_add pe_int (pv 6)) pa_nil))))
      (pss_one (ps_if (pt_cmpR op_eq (pe_ix (show IxR _ (rIxL K) from ix_list) (pv 1) pe_int (fun _ _ => rfl)) pe_int (nomark _)) (pss_one (ps_expr (pe_bm PySem.F.plainAttrs_list PySem.F.slot_list_append PySem.F.type_list_append mt_append (pv 5) (pa_cons (pe_tup (pa_cons (pe_ix (show IxR _ (rIxL K) from ix_list) (pv 2) (pv 6) (fun _ _ => rfl)) (pa_cons (pe_op op_cat (pe_ix (show IxR _ (rIxT K) from ix_tup) (pe_ix (show IxR _ (rIxL K) from ix_list) (pv 3) (pv 6) (fun _ _ => rfl)) pe_int (fun _ _ => rfl)) (pv 7)) pa_nil))) pa_nil)))) (pss_one (ps_if (pt_cmpR op_eq (pe_ix (show IxR _ (rIxL K) from ix_list) (pv 1) pe_int (fun _ _ => rfl)) pe_int (nomark _)) (pss_one (ps_expr (pe_bm PySem.F.plainAttrs_list PySem.F.slot_list_append PySem.F.type_list_append mt_append (pv 5) (pa_cons (pe_tup (pa_cons (pe_ix (show IxR _ (rIxL K) from ix_list) (pv 2) (pv 6) (fun _ _ => rfl)) (pa_cons (pv 7) pa_nil))) pa_nil)))) (pss_one (ps_expr (pe_bm PySem.F.plainAttrs_list PySem.F.slot_list_append PySem.F.type_list_append mt_append (pv 5) (pa_cons (pe_tup (pa_cons (pe_ix (show IxR _ (rIxL K) from ix_list) (pv 2) (pv 6) (fun _ _ => rfl)) (pa_cons (pe_op op_cat (pe_ix (show IxR _ (rIxT K) from ix_tup) (pe_ix (show IxR _ (rIxL K) from ix_list) (pv 3) (pv 6) (fun _ _ => rfl)) pe_int (fun _ _ => rfl)) (pv 4)) pa_nil))) pa_nil))))))))))
      (pss_cut (ps_if (pt_cmpR op_eq (pe_ix (show IxR _ (rIxL K) from ix_list) (pv 1) pe_int (fun _ _ => rfl)) pe_int (nomark _)) (pss_one (ps_set (i := 5) nd rfl (Or.inl rfl) (pe_op op_cat (pe_slice sl_list (pv 5) po_none (po_some (pe_ix (show IxR _ (rIxL K) from ix_list) (pv 1) pe_int (fun _ _ => rfl)))) (pe_slice sl_list (pv 5) (po_some (pe_op op_add (pe_ix (show IxR _ (rIxL K) from ix_list) (pv 1) pe_int (fun _ _ => rfl)) pe_int)) po_none)))) pss_nil)
      (pss_cut (ps_if (pt_cmpR op_eq (pe_ix (show IxR _ (rIxL K) from ix_list) (pv 1) pe_int (fun _ _ => rfl)) pe_int (nomark _)) (pss_one (ps_set (i := 5) nd rfl (Or.inl rfl) (pe_op op_cat (pe_lst (pa_cons (pe_tup (pa_cons (pe_ix (show IxR _ (rIxL K) from ix_list) (pv 2) pe_int (fun _ _ => rfl)) (pa_cons (pv 4) pa_nil))) pa_nil)) (pv 5)))) pss_nil)
      (pss_cons (ps_set (i := 8) nd rfl (Or.inl rfl) (pe_make MB GBI hr2 rfl mB bBI .nil pass0 (pa_cons (pe_lc (own := [("_law_pair", 10)]) (g := gName 10) (tt := tYes) rfl nd (pi_list (pv 3)) (blkOk_by (own := [("_law_pair", 10)]) (N := ["_law_script", "_law_picks", "_law_names", "_law_first", "_law_extra", "_law_second", "_law_k", "_law_other", "_law_one", "_law_two", "_law_pair"]) (sc := defScope sLaw) (by decide +kernel)) (fun _ _ _ _ _ => pg_name (i := 10) nd rfl (Or.inl rfl)) (fun _ _ _ _ _ => pts_nil) (fun _ _ _ _ _ => (pe_tup (pa_cons (pe_ix (show IxR _ (rIxT K) from ix_tup) (pv 10) pe_int (fun _ _ => rfl)) (pa_cons (pe_call GQ hr (by rfl) mQ kQ bQ .nil pass0 (pa_cons (pe_ix (show IxR _ (rIxT K) from ix_tup) (pv 10) pe_int (fun _ _ => rfl)) pa_nil)) pa_nil))))) pa_nil)))
      (pss_cons (ps_set (i := 9) nd rfl (Or.inl rfl) (pe_make MB GBI hr2 rfl mB bBI .nil pass0 (pa_cons (pe_lc (own := [("_law_pair", 10)]) (g := gName 10) (tt := tYes) rfl nd (pi_list (pv 5)) (blkOk_by (own := [("_law_pair", 10)]) (N := ["_law_script", "_law_picks", "_law_names", "_law_first", "_law_extra", "_law_second", "_law_k", "_law_other", "_law_one", "_law_two", "_law_pair"]) (sc := defScope sLaw) (by decide +kernel)) (fun _ _ _ _ _ => pg_name (i := 10) nd rfl (Or.inl rfl)) (fun _ _ _ _ _ => pts_nil) (fun _ _ _ _ _ => (pe_tup (pa_cons (pe_ix (show IxR _ (rIxT K) from ix_tup) (pv 10) pe_int (fun _ _ => rfl)) (pa_cons (pe_call GQ hr (by rfl) mQ kQ bQ .nil pass0 (pa_cons (pe_ix (show IxR _ (rIxT K) from ix_tup) (pv 10) pe_int (fun _ _ => rfl)) pa_nil)) pa_nil))))) pa_nil)))
      (pss_cons (ps_if (pt_not (pt_val (pe_call GU hr3 (by rfl) mU kU bU .nil pass0 (pa_cons (pe_cmpR (op_cmpI (op := .LtE) (fun _ _ => rfl) nfB hBE iBE GBE hr bBE pass0) (pv 8) (pv 9) (nomark _)) (pa_cons (pe_call GUn hr (by rfl) mUn kUn bUn .nil pass0 (pa_cons (pv 3) (pa_cons (pv 5) pa_nil))) pa_nil))))) (pss_one (ps_ret pe_bl)) pss_nil)
      (pss_cons (ps_if (pt_not (pt_val (pe_call GU hr3 (by rfl) mU kU bU .nil pass0 (pa_cons (pe_cmpR (op_cmpI (op := .LtE) (fun _ _ => rfl) nfB hBE iBE GBE hr bBE pass0) (pv 9) (pv 8) (nomark _)) (pa_cons (pe_call GUn hr (by rfl) mUn kUn bUn .nil pass0 (pa_cons (pv 5) (pa_cons (pv 3) pa_nil))) pa_nil))))) (pss_one (ps_ret pe_bl)) pss_nil)
      (pss_one (ps_ret (pe_and (pe_call GU hr3 (by rfl) mU kU bU .nil pass0 (pa_cons (pe_cmpR (op_cmpI (op := .LtE) (fun _ _ => rfl) nfB hBE iBE GBE hr bBE pass0) (pv 8) (pv 8) (nomark _)) (pa_cons pe_bl pa_nil))) (pe_one (pe_call GU hr3 (by rfl) mU kU bU .nil pass0 (pa_cons (pe_cmpR (op_cmpI (op := .LtE) (fun _ _ => rfl) nfB hBE iBE GBE hr bBE pass0) (pv 9) (pv 9) (nomark _)) (pa_cons pe_bl pa_nil))))))))))))))))))), ?_⟩
    refine ⟨_, rfl, by show 5 ≤ sizeLine; decide, fun z nz => ?_⟩
    refine ⟨a, z, ns, [4, 4, 26, 4, 2], 0, rfl, (same_new nz).seq hS, hlen, by decide, SqL.of upd_same, by decide, by decide, fun ds H1 pk hds _ s1' npk hpk => ?_⟩
    have s1 := (same_new (o := .lst ([4, 4, 26, 4, 2].map V.int)) nz).trans s1'
    obtain ⟨x0, y0⟩ := dig_at hds (i := 0) (s := 4) rfl
    obtain ⟨x1, y1⟩ := dig_at hds (i := 1) (s := 4) rfl
    obtain ⟨x2, y2⟩ := dig_at hds (i := 2) (s := 26) rfl
    obtain ⟨x3, y3⟩ := dig_at hds (i := 3) (s := 4) rfl
    obtain ⟨x4, y4⟩ := dig_at hds (i := 4) (s := 2) rfl
    have s0b : (0 ≤ ds.getD 2 0 ∧ ds.getD 2 0 ≤ 1000) := ⟨y2.1, by omega⟩
    -- the names
    refine ⟨5, rfl, by decide, by decide, fun Dn hDn => ?_⟩
    refine lc_range (lo := 0) (n := 5) (fun i H2 => Same H1 H2 ∧ H2 Dn = some (.lst (sV ((List.range i).map (nmD (ds.getD 2 0)))))) ⟨same_new hDn, upd_same⟩ ?_ ?_
    · rintro i H2 hi ⟨s2, hL⟩
      refine ⟨rfl, ?_⟩
      refine ⟨_, rfl, pk, _, _, _, rfl, rfl, SqL.of (s2 _ _ hpk), atI_nat (j := 2) x2, _, rfl, _, _, rfl, ⟨s0b, by omega, by omega⟩, fun H3 s3 => ?_⟩
      refine ⟨_, s3 _ _ hL, small1000 (by unfold sV; rw [List.length_map, List.length_map, List.length_range]; omega), same_up (s2.trans s3) hDn, ?_⟩
      rw [upd_same, List.range_succ, List.map_append, Int.zero_add]
      unfold sV
      rw [List.map_append]
      rfl
    rintro H2 ⟨s2, hN⟩
    have s02 := s1.trans s2
    have atN : ∀ {j : Nat}, j < 5 → ∀ {c : Int}, c = (j : Int) → atI (sV ((List.range 5).map (nmD (ds.getD 2 0)))) c = some (.str (nmD (ds.getD 2 0) j)) := fun {j} hj {c} e => by
      subst e
      refine atI_nat ?_
      unfold sV
      rw [List.getElem?_map, List.getElem?_map, List.getElem?_range hj]
      rfl
    generalize (List.range 5).map (nmD (ds.getD 2 0)) = nms at *
    generalize hs0 : ds.getD 2 0 = s0 at *
    have hpk2 := s2 _ _ hpk
    -- the first book's pairs
    have n1 : (1 + ds.getD 1 0).toNat ≤ 4 := by omega
    refine ⟨_, rfl, pk, _, _, _, rfl, rfl, SqL.of hpk2, atI_nat (j := 1) x1, _, _, rfl, rfl, 1 + ds.getD 1 0, rfl, by omega, by omega, fun D1 hD1 => ?_⟩
    refine lc_range (lo := 0) (n := (1 + ds.getD 1 0).toNat) (fun i H3 => Same H2 H3 ∧ ∃ ts : List Addr, H3 D1 = some (.lst (ts.map V.ref)) ∧ ts.length = i ∧ Paired (PairD 3 K D1 H3) ts ((List.range i).map (firstD ns s0))) ⟨same_new hD1, [], upd_same, rfl, .nil⟩ ?_ ?_
    · rintro i H3 hi ⟨s3, ts, hL, hts, hT⟩
      refine ⟨rfl, ?_⟩
      refine ⟨_, rfl, _, rfl, Dn, _, _, _, rfl, rfl, SqL.of (s3 _ _ hN), atN (j := i) (by omega) (Int.zero_add _), _, rfl, _, rfl, _, _, rfl, rfl, a, ns, 1 + i, ?_, (s02.trans s3).seq hS, hlen, by omega, fun p bs H4 np s4 h4 l4 d4 => ?_⟩
      · show [V.ref a, V.int (1 + (0 + (i : Int)))] = [V.ref a, V.int ((1 + i : Nat) : Int)]
        rw [Int.zero_add]
        rfl
      refine ⟨by show 2 ≤ sizeLine; decide, fun t nt => ?_⟩
      have st := same_new (o := .tup [.str (nmD s0 i), .ref p]) nt
      have s4t := s4.trans st
      have npD : p ≠ D1 := (ne_of_none hL np).symm
      refine ⟨_, s4t _ _ hL, small1000 (by rw [List.length_map]; omega), same_up (s3.trans s4t) hD1, ts ++ [t], by rw [upd_same, List.map_append]; rfl, by rw [List.length_append, hts]; rfl, ?_⟩
      rw [List.range_succ, List.map_append]
      exact paired_upd s4t (s4t _ _ hL) hT ⟨okP_F d4, p, bs, npD, SqT.of upd_same, st _ _ h4, l4.mono st⟩
    rintro H3 ⟨s3, t1, h1, ht1, hP1⟩
    -- extra
    refine ⟨_, rfl, a, ns, 6, rfl, (s02.trans s3).seq hS, hlen, by decide, fun ex be H4 nex s4 hex lex dex => ?_⟩
    have s34 := s3.trans s4
    -- the second book's pairs
    refine ⟨by show 0 ≤ sizeLine; decide, fun D2 hD2 => ?_⟩
    have a4 : ∀ {H'}, Same H4 H' → H' ex = some (.lst (be.map V.ref)) ∧ ListsAt H' be (prodsF ns 6) ∧ H' Dn = some (.lst (sV nms)) ∧ H' D1 = some (.lst (t1.map V.ref)) ∧ Paired (PairD 3 K D1 H') t1 ((List.range (1 + ds.getD 1 0).toNat).map (firstD ns s0)) ∧ SqL K H' a (ns.map V.int) ∧ H' pk = some (.lst (ds.map V.int)) := fun {H'} s =>
      ⟨s _ _ hex, lex.mono s, (s34.trans s) _ _ hN, (s4.trans s) _ _ h1, Paired.mapP hP1 fun _ _ z => (z.mono s4).mono s, ((s02.trans s34).trans s).seq hS, (s34.trans s) _ _ hpk2⟩
    have lt1 : t1.length = (1 + ds.getD 1 0).toNat := ht1
    have sD2 := same_new (o := .lst []) hD2
    refine ⟨_, rfl, D1, _, rfl, .inl (SqL.of (a4 sD2).2.2.2.1), (t1.length : Int), by rw [List.length_map], by omega, by omega, for_range (lo := 0) (n := t1.length) (fun i σ H6 => ∃ (v6 v7 : Option V) (ts : List Addr) (qs : List PairQ), σ = [some (.ref a), some (.ref pk), some (.ref Dn), some (.ref D1), some (.ref ex), some (.ref D2), v6, v7, none, none, none] ∧ Same H4 H6 ∧ H6 D2 = some (.lst (ts.map V.ref)) ∧ ts.length = i ∧ namesOf qs = (List.range i).map (nmD s0) ∧ Paired (PairD 6 K D2 H6) ts qs) ⟨_, _, [], [], rfl, sD2, upd_same, rfl, rfl, .nil⟩ ?_ ?_⟩
    · rintro i σ H6 hi ⟨v6, v7, ts, qs, rfl, s6, hL, hts, hnm, hP⟩
      refine ⟨_, rfl, _, rfl, _, _, rfl, rfl, a, ns, 7 + i, ?_, (a4 s6).2.2.2.2.2.1, hlen, by omega, fun po bo H7 no s7 ho lo d7 => ?_⟩
      · show [V.ref a, V.int (7 + (0 + (i : Int)))] = [V.ref a, V.int ((7 + i : Nat) : Int)]
        rw [Int.zero_add]
        rfl
      have s47 := s6.trans s7
      obtain ⟨e1, e2, e3, e4, e5, e6, e7⟩ := a4 s47
      have hL7 := s7 _ _ hL
      have noD : po ≠ D2 := (ne_of_none hL no).symm
      obtain ⟨tr, htr, ⟨okr, c, bs, _, hT, hc, hbs⟩⟩ := paired_get e5 (i := i) (b := firstD ns s0 i) (by rw [List.getElem?_map, List.getElem?_range (by omega)]; rfl)
      have atF : atI (t1.map V.ref) (0 + (i : Int)) = some (V.ref tr) := at_of (Int.zero_add _) (by rw [List.getElem?_map, htr]; rfl)
      have fin : ∀ {H8 : Hp} {t : Addr} {q : PairQ}, Same H7 H8 → PairD 6 K D2 H8 t q → q.1 = nmD s0 i → ∃ (v6 v7 : Option V) (ts' : List Addr) (qs' : List PairQ), [some (.ref a), some (.ref pk), some (.ref Dn), some (.ref D1), some (.ref ex), some (.ref D2), some (.int (0 + (i : Int))), some (.ref po), none, none, none] = [some (.ref a), some (.ref pk), some (.ref Dn), some (.ref D1), some (.ref ex), some (.ref D2), v6, v7, none, none, none] ∧ Same H4 (upd H8 D2 (.lst (ts.map V.ref ++ [V.ref t]))) ∧ (upd H8 D2 (.lst (ts.map V.ref ++ [V.ref t]))) D2 = some (.lst (ts'.map V.ref)) ∧ ts'.length = i + 1 ∧ namesOf qs' = (List.range (i + 1)).map (nmD s0) ∧ Paired (PairD 6 K D2 (upd H8 D2 (.lst (ts.map V.ref ++ [V.ref t])))) ts' qs' := fun {H8 t q} s8 hq hn =>
        ⟨_, _, ts ++ [t], qs ++ [q], rfl, same_up (s47.trans s8) hD2, by rw [upd_same, List.map_append]; rfl, by rw [List.length_append, hts]; rfl, by
          unfold namesOf at hnm ⊢
          rw [List.range_succ, List.map_append, List.map_append, hnm]
          show _ ++ [q.1] = _ ++ [nmD s0 i]
          rw [hn], paired_upd (s7.trans s8) (s8 _ _ hL7) hP hq⟩
      have catD : ∀ {l : List (List Str)} {cs : List Addr} {H8 : Hp} {pc t : Addr}, Same H7 H8 → okP 3 l → ListsAt H7 cs l → H7 pc = none → H8 pc = some (.lst (bs.map V.ref ++ cs.map V.ref)) → SqT K H8 t [.str (nmD s0 i), .ref pc] → PairD 6 K D2 H8 t (nmD s0 i, prodsF ns (1 + i) ++ l) := fun {l cs H8 pc t} s8 ol hl npc hpc ht =>
        ⟨okP.app okr ol, pc, bs ++ cs, (ne_of_none hL7 npc).symm, ht, by rw [List.map_append]; exact hpc, paired_app (hbs.mono s8) (hl.mono s8)⟩
      have atNm : atI (sV nms) (0 + (i : Int)) = some (.str (nmD s0 i)) := atN (j := i) (by omega) (Int.zero_add _)
      have hb6 : bs.length ≤ 3 := by have := Paired.length hbs; have := okr.1; omega
      have hbo6 : bo.length ≤ 3 := by have := Paired.length lo; have := (okP_F d7).1; omega
      have hbe6 : be.length ≤ 3 := by have := Paired.length lex; have := (okP_F dex).1; omega
      refine ⟨_, rfl, pk, _, _, _, rfl, rfl, SqL.of e7, atI_nat (j := 0) x0, rfl, _, rfl, ?_⟩
      refine ite2 (fun hc1 => ?_) (fun hc1 => ?_)
      · refine ⟨_, rfl, .inl ⟨rfl, _, SqL.of hL7⟩, _, rfl, _, rfl, Dn, _, _, _, rfl, rfl, SqL.of e3, atNm, _, rfl, _, rfl, D1, _, _, _, rfl, rfl, SqL.of e4, atF, tr, _, _, _, rfl, rfl, hT, rfl, _, rfl, c, po, _, _, rfl, rfl, hc, ho, small1000 (by rw [List.length_map, List.length_map]; omega) |> Nat.le_of_lt, fun pc npc => ⟨by show 2 ≤ sizeLine; decide, fun t nt => ?_⟩⟩
        have sc := same_new (o := .lst (bs.map V.ref ++ bo.map V.ref)) npc
        have sct := sc.trans (same_new (o := .tup [.str (nmD s0 i), .ref pc]) nt)
        refine ⟨_, _, _, rfl, rfl, sct _ _ hL7, small1000 (by rw [List.length_map]; omega), ?_⟩
        exact fin sct (catD sct (okP_F d7) lo npc ((same_new nt) _ _ upd_same) (SqT.of upd_same)) rfl
      refine ⟨_, rfl, pk, _, _, _, rfl, rfl, SqL.of e7, atI_nat (j := 0) x0, rfl, _, rfl, ?_⟩
      refine ite2 (fun hc2 => ?_) (fun hc2 => ?_)
      · refine ⟨_, rfl, .inl ⟨rfl, _, SqL.of hL7⟩, _, rfl, _, rfl, Dn, _, _, _, rfl, rfl, SqL.of e3, atNm, _, rfl, by show 2 ≤ sizeLine; decide, fun t nt => ?_⟩
        have st := same_new (o := .tup [.str (nmD s0 i), .ref po]) nt
        refine ⟨_, _, _, rfl, rfl, st _ _ hL7, small1000 (by rw [List.length_map]; omega), ?_⟩
        exact fin (q := (nmD s0 i, prodsF ns (7 + i))) st ⟨okP.six (okP_F d7), po, bo, noD, SqT.of upd_same, st _ _ ho, lo.mono st⟩ rfl
      · refine ⟨_, rfl, .inl ⟨rfl, _, SqL.of hL7⟩, _, rfl, _, rfl, Dn, _, _, _, rfl, rfl, SqL.of e3, atNm, _, rfl, _, rfl, D1, _, _, _, rfl, rfl, SqL.of e4, atF, tr, _, _, _, rfl, rfl, hT, rfl, _, rfl, c, ex, _, _, rfl, rfl, hc, e1, small1000 (by rw [List.length_map, List.length_map]; omega) |> Nat.le_of_lt, fun pc npc => ⟨by show 2 ≤ sizeLine; decide, fun t nt => ?_⟩⟩
        have sc := same_new (o := .lst (bs.map V.ref ++ be.map V.ref)) npc
        have sct := sc.trans (same_new (o := .tup [.str (nmD s0 i), .ref pc]) nt)
        refine ⟨_, _, _, rfl, rfl, sct _ _ hL7, small1000 (by rw [List.length_map]; omega), ?_⟩
        exact fin sct (catD sct (okP_F dex) e2 npc ((same_new nt) _ _ upd_same) (SqT.of upd_same)) rfl
    rintro σ H6 ⟨v6, v7, t2, q2, rfl, s6, hL2, hts2, hnm2, hP2⟩
    have hX2 : Paired (PairX K H6) t2 q2 := Paired.mapP hP2 fun _ _ z => ⟨z.1, z.at⟩
    -- one left out
    refine ⟨fun σ H' => ∃ (D : Addr) (ts : List Addr) (qs : List PairQ) (idx : List Nat), σ = [some (.ref a), some (.ref pk), some (.ref Dn), some (.ref D1), some (.ref ex), some (.ref D), v6, v7, none, none, none] ∧ Same H4 H' ∧ H' D = some (.lst (ts.map V.ref)) ∧ Paired (PairX K H') ts qs ∧ namesOf qs = idx.map (nmD s0) ∧ idx.Nodup ∧ (∀ i ∈ idx, i < 4) ∧ idx.length ≤ 4, ?_, ?_⟩
    · obtain ⟨e1, e2, e3, e4, e5, e6, e7⟩ := a4 s6
      have r4 : ∀ i ∈ List.range t2.length, i < 4 := fun i hi => by have := List.mem_range.mp hi; omega
      have l4 : (List.range t2.length).length ≤ 4 := by rw [List.length_range]; omega
      rw [← hts2] at hnm2
      refine ⟨_, rfl, pk, _, _, _, rfl, rfl, SqL.of e7, atI_nat (j := 0) x0, rfl, _, rfl, ?_⟩
      refine ite2 (fun hc => ?_) (fun hc => ⟨D2, t2, q2, List.range t2.length, rfl, s6, hL2, hX2, hnm2, List.nodup_range, r4, l4⟩)
      have p3 : 0 ≤ ds.getD 3 0 := y3.1
      refine ⟨_, rfl, _, rfl, pk, _, _, _, rfl, rfl, SqL.of e7, atI_nat (j := 3) x3, _, rfl, D2, _, rfl, SqL.of hL2, fun c1 nc1 => ?_⟩
      have k1 := same_new (o := .lst (cutV (t2.map V.ref) none (some (ds.getD 3 0)))) nc1
      refine ⟨_, rfl, _, rfl, pk, _, _, _, rfl, rfl, SqL.of (k1 _ _ e7), atI_nat (j := 3) x3, _, _, rfl, rfl, _, rfl, D2, _, rfl, SqL.of (k1 _ _ hL2), fun c2 nc2 => ?_⟩
      have k2 := same_new (o := .lst (cutV (t2.map V.ref) (some (ds.getD 3 0 + 1)) none)) nc2
      refine ⟨c1, c2, _, _, rfl, rfl, k2 _ _ upd_same, upd_same, small1000 ?_ |> Nat.le_of_lt, fun c3 nc3 => ?_⟩
      · have u1 := cutV_length (t2.map V.ref) none (some (ds.getD 3 0))
        have u2 := cutV_length (t2.map V.ref) (some (ds.getD 3 0 + 1)) none
        rw [List.length_map] at u1 u2
        omega
      have k3 := (k1.trans k2).trans (same_new (o := .lst (cutV (t2.map V.ref) none (some (ds.getD 3 0)) ++ cutV (t2.map V.ref) (some (ds.getD 3 0 + 1)) none)) nc3)
      have sub : ((List.range t2.length).take (ds.getD 3 0).toNat ++ (List.range t2.length).drop (ds.getD 3 0 + 1).toNat).Sublist (List.range t2.length) := by
        have e : (ds.getD 3 0 + 1).toNat = (ds.getD 3 0).toNat + 1 := by omega
        have h1 : ((List.range t2.length).take (ds.getD 3 0).toNat ++ (List.range t2.length).drop (ds.getD 3 0 + 1).toNat).Sublist ((List.range t2.length).take (ds.getD 3 0).toNat ++ (List.range t2.length).drop (ds.getD 3 0).toNat) := by
          refine List.Sublist.append (List.Sublist.refl _) ?_
          rw [e, ← List.drop_drop]
          exact List.drop_sublist _ _
        rw [List.take_append_drop] at h1
        exact h1
      refine ⟨c3, t2.take (ds.getD 3 0).toNat ++ t2.drop (ds.getD 3 0 + 1).toNat, q2.take (ds.getD 3 0).toNat ++ q2.drop (ds.getD 3 0 + 1).toNat, _, rfl, s6.trans k3, ?_, ?_, ?_, sub.nodup List.nodup_range, fun i hi => r4 i (sub.subset hi), by have := sub.length_le; omega⟩
      · rw [upd_same, cut_lo p3, cut_hi (by omega), List.map_append]
      · have h := Paired.mapP hX2 fun _ _ z => z.mono k3
        exact paired_app (paired_take _ h) (paired_drop _ h)
      · unfold namesOf at hnm2 ⊢
        rw [List.map_append, List.map_append, List.map_take, List.map_drop, hnm2, List.map_take, List.map_drop]
    rintro σ H7 ⟨D3, t3, q3, idx, rfl, s7, hL3, hX3, hnm3, nd3, ib3, il3⟩
    -- one in front
    refine ⟨fun σ H' => ∃ (D : Addr) (ts : List Addr) (qs : List PairQ) (idx : List Nat), σ = [some (.ref a), some (.ref pk), some (.ref Dn), some (.ref D1), some (.ref ex), some (.ref D), v6, v7, none, none, none] ∧ Same H4 H' ∧ H' D = some (.lst (ts.map V.ref)) ∧ Paired (PairX K H') ts qs ∧ namesOf qs = idx.map (nmD s0) ∧ idx.Nodup ∧ (∀ i ∈ idx, i < 5) ∧ idx.length ≤ 5, ?_, ?_⟩
    · obtain ⟨e1, e2, e3, e4, e5, e6, e7⟩ := a4 s7
      have tl : t3.length ≤ 4 := by
        have h1 := Paired.length hX3
        have h2 := congrArg List.length hnm3
        unfold namesOf at h2
        rw [List.length_map, List.length_map] at h2
        omega
      refine ⟨_, rfl, pk, _, _, _, rfl, rfl, SqL.of e7, atI_nat (j := 4) x4, rfl, _, rfl, ?_⟩
      refine ite2 (fun hc => ?_) (fun hc => ⟨D3, t3, q3, idx, rfl, s7, hL3, hX3, hnm3, nd3, fun i hi => by have := ib3 i hi; omega, by omega⟩)
      refine ⟨_, rfl, Dn, _, _, _, rfl, rfl, SqL.of e3, atN (j := 4) (by decide) rfl, _, rfl, by show 2 ≤ sizeLine; decide, fun t nt => ?_⟩
      have k1 := same_new (o := .tup [.str (nmD s0 4), .ref ex]) nt
      refine ⟨by show 1 ≤ sizeLine; decide, fun l nl => ?_⟩
      have k2 := k1.trans (same_new (o := .lst [.ref t]) nl)
      refine ⟨_, rfl, l, D3, _, _, rfl, rfl, upd_same, k2 _ _ hL3, small1000 ?_ |> Nat.le_of_lt, fun p np => ?_⟩
      · show 1 + (t3.map V.ref).length ≤ 1000
        rw [List.length_map]
        omega
      have k3 := k2.trans (same_new (o := .lst ([.ref t] ++ t3.map V.ref)) np)
      have kk := (same_new (o := .lst [.ref t]) nl).trans (same_new (o := .lst ([.ref t] ++ t3.map V.ref)) np)
      refine ⟨p, t :: t3, (nmD s0 4, prodsF ns 6) :: q3, 4 :: idx, rfl, s7.trans k3, upd_same, .cons ⟨okP.six (okP_F dex), ex, be, Same.seqT kk (SqT.of upd_same), SqL.of (k3 _ _ e1), e2.mono k3⟩ (Paired.mapP hX3 fun _ _ z => z.mono k3), ?_, List.nodup_cons.mpr ⟨fun h => by have := ib3 4 h; omega, nd3⟩, ?_, by rw [List.length_cons]; omega⟩
      · unfold namesOf at hnm3 ⊢
        rw [List.map_cons, List.map_cons, hnm3]
      · intro i hi
        rcases List.mem_cons.mp hi with rfl | h
        · decide
        · have := ib3 i h
          omega
    rintro σ H8 ⟨D4, t4, q4, id4, rfl, s8, hL4, hX4, hnm4, nd4, ib4, il4⟩
    obtain ⟨-, -, -, hL1, hP1', -, -⟩ := a4 s8
    have hX1 : Paired (PairX K H8) t1 ((List.range (1 + ds.getD 1 0).toNat).map (firstD ns s0)) := Paired.mapP hP1' fun _ _ z => ⟨okP.six z.1, z.at⟩
    have hnm1 : namesOf ((List.range (1 + ds.getD 1 0).toNat).map (firstD ns s0)) = (List.range (1 + ds.getD 1 0).toNat).map (nmD s0) := by
      unfold namesOf
      rw [List.map_map]
      rfl
    have ql1 : ((List.range (1 + ds.getD 1 0).toNat).map (firstD ns s0)).length ≤ 100 := by rw [List.length_map, List.length_range]; omega
    have nn1 := nm_nodup (s0 := s0) (idx := List.range (1 + ds.getD 1 0).toNat) List.nodup_range fun i hi => by have := List.mem_range.mp hi; omega
    have nn4 := nm_nodup (s0 := s0) nd4 fun i hi => by have := ib4 i hi; omega
    have ql4 : q4.length ≤ 100 := by
      have h2 := congrArg List.length hnm4
      unfold namesOf at h2
      rw [List.length_map, List.length_map] at h2
      omega
    have ok1 := okQ_of hX1 ql1 hnm1
    have ok4 := okQ_of hX4 ql4 hnm4
    rw [← hnm1] at nn1
    rw [← hnm4] at nn4
    generalize (List.range (1 + ds.getD 1 0).toNat).map (firstD ns s0) = q1 at *
    refine ⟨_, rfl, D1, rfl, ⟨_, SqL.of hL1⟩, fun DB1 hDB1 => ?_⟩
    refine lc_list (K := K) (a := D1) (xs := t1.map V.ref) (BkInv K C H8 DB1 q1) (BkInv.start hDB1) (fun j H' _ h => SqL.of (h.1 _ _ hL1)) ?_ ?_
    · rintro j y H' hj ⟨sj, bts, prs, hL', hbl, hBT, hBR⟩
      obtain ⟨b, hb, rfl, hjl⟩ := ref_get hj
      have hjq : j < q1.length := by rw [← Paired.length hX1]; exact hjl
      have hqj := List.getElem?_eq_getElem hjq
      obtain ⟨b', hb', okj, c, bs, hT, hC, hLs⟩ := paired_get (Paired.mapP hX1 fun _ _ z => z.mono sj) hqj
      rw [hb] at hb'
      cases hb'
      have htk := take_snoc hqj
      generalize q1[j] = qj at *
      refine ⟨rfl, _, rfl, b, _, _, _, rfl, rfl, hT, rfl, _, rfl, b, _, _, _, rfl, rfl, hT, rfl, c, bs, qj.2, rfl, hC, hLs, fun r Hr sr hR => ?_⟩
      refine ⟨by show 2 ≤ sizeLine; decide, fun t nt => ?_⟩
      have st := same_new (o := .tup [.str qj.1, .ref r]) nt
      refine ⟨_, (sr.trans st) _ _ hL', small1000 (by rw [List.length_map]; omega), ?_⟩
      exact BkInv.step hDB1 sj hL' hbl hBT hBR (sr.trans st) htk (SqT.of upd_same) (hR.mono st)
    rintro I1 ⟨si1, bts1, prs1, hLb1, hbl1, hBT1, hBR1⟩
    have et1 : q1.take (t1.map V.ref).length = q1 := by
      rw [List.length_map, Paired.length hX1]
      exact List.take_length ..
    rw [et1] at hBR1
    have np1 : prs1.map (·.1) = namesOf q1 := (names_prs hBR1).trans (toB_names _)
    intro b1 dx1 nb1 ndx1 neb1
    have sm1 : Same I1 (upd (upd I1 dx1 (.own b1)) b1 (.ins CB dx1 [])) := (same_new ndx1).trans (same_new (by rw [upd_ne (Ne.symm neb1)]; exact nb1))
    refine ⟨b1, dx1, DB1, bts1, prs1, rfl, upd_same, sm1.seq (SqL.of hLb1), Paired.mapP hBT1 fun _ _ z => Same.seqT sm1 z, by rw [np1]; exact nn1, ?_, fun d1 J1 nd1 hd1 hb1 keep1 => ⟨rfl, ?_⟩⟩
    · have u := congrArg List.length np1
      unfold namesOf at u
      rw [List.length_map, List.length_map] at u
      omega
    have sJ1 : Same I1 J1 := fun q o e => keep1 q o (sm1 q o e) (by
      rintro rfl
      rw [nb1] at e
      cases e)
    have B1 : BookAt K C CB J1 b1 (toB q1) := ⟨dx1, d1, prs1, hb1, hd1, Paired.mapP hBR1 fun _ _ z => ⟨z.1, z.2.mono sJ1⟩⟩
    have sK1 := si1.trans sJ1
    have hX4a := Paired.mapP hX4 fun _ _ z => z.mono sK1
    have hL4a := sK1 _ _ hL4
    refine ⟨_, rfl, D4, rfl, ⟨_, SqL.of hL4a⟩, fun DB2 hDB2 => ?_⟩
    refine lc_list (K := K) (a := D4) (xs := t4.map V.ref) (BkInv K C J1 DB2 q4) (BkInv.start hDB2) (fun j H' _ h => SqL.of (h.1 _ _ hL4a)) ?_ ?_
    · rintro j y H' hj ⟨sj, bts, prs, hL', hbl, hBT, hBR⟩
      obtain ⟨b, hb, rfl, hjl⟩ := ref_get hj
      have hjq : j < q4.length := by rw [← Paired.length hX4a]; exact hjl
      have hqj := List.getElem?_eq_getElem hjq
      obtain ⟨b', hb', okj, c, bs, hT, hC, hLs⟩ := paired_get (Paired.mapP hX4a fun _ _ z => z.mono sj) hqj
      rw [hb] at hb'
      cases hb'
      have htk := take_snoc hqj
      generalize q4[j] = qj at *
      refine ⟨rfl, _, rfl, b, _, _, _, rfl, rfl, hT, rfl, _, rfl, b, _, _, _, rfl, rfl, hT, rfl, c, bs, qj.2, rfl, hC, hLs, fun r Hr sr hR => ?_⟩
      refine ⟨by show 2 ≤ sizeLine; decide, fun t nt => ?_⟩
      have st := same_new (o := .tup [.str qj.1, .ref r]) nt
      refine ⟨_, (sr.trans st) _ _ hL', small1000 (by rw [List.length_map]; omega), ?_⟩
      exact BkInv.step hDB2 sj hL' hbl hBT hBR (sr.trans st) htk (SqT.of upd_same) (hR.mono st)
    rintro I2 ⟨si2, bts2, prs2, hLb2, hbl2, hBT2, hBR2⟩
    have et2 : q4.take (t4.map V.ref).length = q4 := by
      rw [List.length_map, Paired.length hX4a]
      exact List.take_length ..
    rw [et2] at hBR2
    have np2 : prs2.map (·.1) = namesOf q4 := (names_prs hBR2).trans (toB_names _)
    intro b2 dx2 nb2 ndx2 neb2
    have sm2 : Same I2 (upd (upd I2 dx2 (.own b2)) b2 (.ins CB dx2 [])) := (same_new ndx2).trans (same_new (by rw [upd_ne (Ne.symm neb2)]; exact nb2))
    refine ⟨b2, dx2, DB2, bts2, prs2, rfl, upd_same, sm2.seq (SqL.of hLb2), Paired.mapP hBT2 fun _ _ z => Same.seqT sm2 z, by rw [np2]; exact nn4, ?_, fun d2 J2 nd2 hd2 hb2 keep2 => ⟨rfl, ?_⟩⟩
    · have u := congrArg List.length np2
      unfold namesOf at u
      rw [List.length_map, List.length_map] at u
      omega
    have sJ2 : Same I2 J2 := fun q o e => keep2 q o (sm2 q o e) (by
      rintro rfl
      rw [nb2] at e
      cases e)
    have B2 : BookAt K C CB J2 b2 (toB q4) := ⟨dx2, d2, prs2, hb2, hd2, Paired.mapP hBR2 fun _ _ z => ⟨z.1, z.2.mono sJ2⟩⟩
    have sK2 := si2.trans sJ2
    -- the comparisons
    have s8J := sK1.trans sK2
    have B1' := B1.mono sK2
    obtain ⟨bx1, f1, hc1⟩ := book_ins B1'
    obtain ⟨bx2, f2, hc2⟩ := book_ins B2
    have hL1J := s8J _ _ hL1
    have hL4J := s8J _ _ hL4
    have P1 : PairsAt K J2 t1 q1 := Paired.mapP hX1 fun _ _ z => z.2.mono s8J
    have P4 : PairsAt K J2 t4 q4 := Paired.mapP hX4 fun _ _ z => z.2.mono s8J
    have bl1 : (toB q1).length ≤ 100 := by rw [toB_len]; exact ql1
    have bl4 : (toB q4).length ≤ 100 := by rw [toB_len]; exact ql4
    refine ⟨_, rfl, _, rfl, b1, bx1, b2, bx2, _, _, rfl, rfl, hc1, hc2, b1, b2, toB q1, toB q4, rfl, B1', B2, bl1, fun Ha sa => ?_⟩
    refine ⟨_, rfl, _, rfl, D1, D4, t1, t4, q1, q4, rfl, SqL.of (sa _ _ hL1J), P1.mono sa, SqL.of (sa _ _ hL4J), P4.mono sa, ok1, ok4, fun Hb sb => ?_⟩
    refine ⟨_, _, _, rfl, .bl _, .bl _, okD_b _, _, rfl, ?_⟩
    have sab := sa.trans sb
    refine ⟨_, rfl, _, rfl, b2, bx2, b1, bx1, _, _, rfl, rfl, sab _ _ hc2, sab _ _ hc1, b2, b1, toB q4, toB q1, rfl, B2.mono sab, B1'.mono sab, bl4, fun Hc sc => ?_⟩
    have sabc := sab.trans sc
    refine ⟨_, rfl, _, rfl, D4, D1, t4, t1, q4, q1, rfl, SqL.of (sabc _ _ hL4J), P4.mono sabc, SqL.of (sabc _ _ hL1J), P1.mono sabc, ok4, ok1, fun Hd sd => ?_⟩
    refine ⟨_, _, _, rfl, .bl _, .bl _, okD_b _, _, rfl, ?_⟩
    have sad := sabc.trans sd
    refine ⟨_, rfl, _, rfl, b1, bx1, b1, bx1, _, _, rfl, rfl, sad _ _ hc1, sad _ _ hc1, b1, b1, toB q1, toB q1, rfl, B1'.mono sad, B1'.mono sad, bl1, fun He se => ?_⟩
    refine ⟨_, _, _, rfl, dp_bl (bookLe_refl q1), .bl true, okD_b _, _, rfl, ?_⟩
    have sae := sad.trans se
    refine ⟨_, rfl, _, rfl, b2, bx2, b2, bx2, _, _, rfl, rfl, sae _ _ hc2, sae _ _ hc2, b2, b2, toB q4, toB q4, rfl, B2.mono sae, B2.mono sae, bl4, fun Hf sf => ?_⟩
    exact ⟨_, _, _, rfl, dp_bl (bookLe_refl q4), .bl true, okD_b _, k _⟩
end
end My
namespace My
open PySem L2 ClX
theorem all_mk {l : PySem.W.OpenLaw} {w : World} {K : PySem.W.Frag} {h : Heap} {mg : Str → Option Value} {fa flaw fI fO fP fH fA fR fE fG fW fZ fU fN fY fL fQ fBI fBG fBC fBE fKO fX fOF fUN fNM : Addr} {C aS pO pP : Addr} {restO restP : List Value} {oS : Option Addr} {nS : Nat} {slS : Array (Option Value)} {t0 t1 t2 t3 t4 t5 t6 t7 t8 : Addr} {ot0 : Option Addr} {nt0 : Nat} {st0 : Array (Option Value)} {u0_0 u0_1 u0_2 u0_3 u0_4 u0_5 u0_6 : Tok} {ot1 : Option Addr} {nt1 : Nat} {st1 : Array (Option Value)} {u1_0 u1_1 u1_2 u1_3 u1_4 : Tok} {ot2 : Option Addr} {nt2 : Nat} {st2 : Array (Option Value)} {u2_0 u2_1 u2_2 : Tok} {ot3 : Option Addr} {nt3 : Nat} {st3 : Array (Option Value)} {u3_0 u3_1 u3_2 u3_3 : Tok} {ot4 : Option Addr} {nt4 : Nat} {st4 : Array (Option Value)} {u4_0 u4_1 u4_2 : Tok} {ot5 : Option Addr} {nt5 : Nat} {st5 : Array (Option Value)} {u5_0 u5_1 u5_2 : Tok} {ot6 : Option Addr} {nt6 : Nat} {st6 : Array (Option Value)} {u6_0 u6_1 : Tok} {ot7 : Option Addr} {nt7 : Nat} {st7 : Array (Option Value)} {u7_0 u7_1 : Tok} {ot8 : Option Addr} {nt8 : Nat} {st8 : Array (Option Value)} {u8_0 : Tok} {CB : Addr} (X : K.In h) (G : h.Ns mainGlobals mg) (hfa : mg "law" = some (.ref fa))
    {odI anI : Option Addr} {slI : Array (Option Value)} {ocI kVI dcI pmI cdI ctI : Value}
    {odO anO : Option Addr} {slO : Array (Option Value)} {ocO kVO dcO pmO cdO ctO : Value}
    {odP anP : Option Addr} {slP : Array (Option Value)} {ocP kVP dcP pmP cdP ctP : Value}
    {odH anH : Option Addr} {slH : Array (Option Value)} {ocH kVH dcH pmH cdH ctH : Value}
    {odA anA : Option Addr} {slA : Array (Option Value)} {ocA kVA dcA pmA cdA ctA : Value}
    {odR anR : Option Addr} {slR : Array (Option Value)} {ocR kVR dcR pmR cdR ctR : Value}
    {odE anE : Option Addr} {slE : Array (Option Value)} {ocE kVE dcE pmE cdE ctE : Value}
    {odG anG : Option Addr} {slG : Array (Option Value)} {ocG kVG dcG pmG cdG ctG : Value}
    {odW anW : Option Addr} {slW : Array (Option Value)} {ocW kVW dcW pmW cdW ctW : Value}
    {odZ anZ : Option Addr} {slZ : Array (Option Value)} {ocZ kVZ dcZ pmZ cdZ ctZ : Value}
    {odU anU : Option Addr} {slU : Array (Option Value)} {ocU kVU dcU pmU cdU ctU : Value}
    {odN anN : Option Addr} {slN : Array (Option Value)} {ocN kVN dcN pmN cdN ctN : Value}
    {odY anY : Option Addr} {slY : Array (Option Value)} {ocY kVY dcY pmY cdY ctY : Value}
    {odL anL : Option Addr} {slL : Array (Option Value)} {ocL kVL dcL pmL cdL ctL : Value}
    {odQ anQ : Option Addr} {slQ : Array (Option Value)} {ocQ kVQ dcQ pmQ cdQ ctQ : Value}
    {odBI anBI : Option Addr} {slBI : Array (Option Value)} {ocBI kVBI dcBI pmBI cdBI ctBI : Value}
    {odBG anBG : Option Addr} {slBG : Array (Option Value)} {ocBG kVBG dcBG pmBG cdBG ctBG : Value}
    {odBC anBC : Option Addr} {slBC : Array (Option Value)} {ocBC kVBC dcBC pmBC cdBC ctBC : Value}
    {odBE anBE : Option Addr} {slBE : Array (Option Value)} {ocBE kVBE dcBE pmBE cdBE ctBE : Value}
    {odKO anKO : Option Addr} {slKO : Array (Option Value)} {ocKO kVKO dcKO pmKO cdKO ctKO : Value}
    {odX anX : Option Addr} {slX : Array (Option Value)} {ocX kVX dcX pmX cdX ctX : Value}
    {odOF anOF : Option Addr} {slOF : Array (Option Value)} {ocOF kVOF dcOF pmOF cdOF ctOF : Value}
    {odUN anUN : Option Addr} {slUN : Array (Option Value)} {ocUN kVUN dcUN pmUN cdUN ctUN : Value}
    {odNM anNM : Option Addr} {slNM : Array (Option Value)} {ocNM kVNM dcNM pmNM cdNM ctNM : Value}
    {odlaw anlaw : Option Addr} {sllaw : Array (Option Value)} {oclaw kVlaw dclaw pmlaw cdlaw ctlaw : Value}
    (aCB : PySem.W.nsIn K mainGlobals "Book" = some (some (.ref CB)))
    (aC : PySem.W.nsIn K mainGlobals "Rule" = some (some (.ref C)))
    (aS_ : PySem.W.nsIn K mainGlobals "STANCES" = some (some (.ref aS)))
    (lSt : K.lookup aS = some ⟨.type "tuple", oS, .seq #[.ref t0, .ref t1, .ref t2, .ref t3, .ref t4, .ref t5, .ref t6, .ref t7, .ref t8] nS, slS⟩)
    (lt0 : K.lookup t0 = some ⟨.type "tuple", ot0, .seq #[.str "own" u0_0, .str "nested" u0_1, .str "around" u0_2, .str "below" u0_3, .str "heir" u0_4, .str "package" u0_5, .str "any" u0_6] nt0, st0⟩)
    (lt1 : K.lookup t1 = some ⟨.type "tuple", ot1, .seq #[.str "nested" u1_0, .str "below" u1_1, .str "heir" u1_2, .str "package" u1_3, .str "any" u1_4] nt1, st1⟩)
    (lt2 : K.lookup t2 = some ⟨.type "tuple", ot2, .seq #[.str "around" u2_0, .str "package" u2_1, .str "any" u2_2] nt2, st2⟩)
    (lt3 : K.lookup t3 = some ⟨.type "tuple", ot3, .seq #[.str "below" u3_0, .str "heir" u3_1, .str "package" u3_2, .str "any" u3_3] nt3, st3⟩)
    (lt4 : K.lookup t4 = some ⟨.type "tuple", ot4, .seq #[.str "below" u4_0, .str "heir" u4_1, .str "any" u4_2] nt4, st4⟩)
    (lt5 : K.lookup t5 = some ⟨.type "tuple", ot5, .seq #[.str "heir" u5_0, .str "package" u5_1, .str "any" u5_2] nt5, st5⟩)
    (lt6 : K.lookup t6 = some ⟨.type "tuple", ot6, .seq #[.str "heir" u6_0, .str "any" u6_1] nt6, st6⟩)
    (lt7 : K.lookup t7 = some ⟨.type "tuple", ot7, .seq #[.str "package" u7_0, .str "any" u7_1] nt7, st7⟩)
    (lt8 : K.lookup t8 = some ⟨.type "tuple", ot8, .seq #[.str "any" u8_0] nt8, st8⟩)
    (aI : PySem.W.findIn K (.ref C) "__init__" = some (some (.ref fI)))
    (iI : PySem.W.isFn K (.ref fI) = true)
    (lI : K.lookup fI = some ⟨ocI, odI, .func (PySem.W.fnOf "__init__" "Rule.__init__" (defArgs sRInit) (defBody sRInit) (defScope sRInit) .none kVI dcI pmI anI cdI ctI), slI⟩)
    (cI : PySem.W.codeIn K cdI "Rule.__init__" = true)
    (kI : PySem.W.keepIn K (.ref fI) = true)
    (aH : PySem.W.nsIn K mainGlobals "_has_one_of" = some (some (.ref fH)))
    (lH : K.lookup fH = some ⟨ocH, odH, .func (PySem.W.fnOf "_has_one_of" "_has_one_of" (defArgs sHas) (defBody sHas) (defScope sHas) .none kVH dcH pmH anH cdH ctH), slH⟩)
    (cH : PySem.W.codeIn K cdH "_has_one_of" = true)
    (kH : PySem.W.keepIn K (.ref fH) = true)
    (aA : PySem.W.findIn K (.ref C) "__and__" = some (some (.ref fA)))
    (iA : PySem.W.isFn K (.ref fA) = true)
    (lA : K.lookup fA = some ⟨ocA, odA, .func (PySem.W.fnOf "__and__" "Rule.__and__" (defArgs sAnd) (defBody sAnd) (defScope sAnd) .none kVA dcA pmA anA cdA ctA), slA⟩)
    (cA : PySem.W.codeIn K cdA "Rule.__and__" = true)
    (kA : PySem.W.keepIn K (.ref fA) = true)
    (aR : PySem.W.findIn K (.ref C) "__or__" = some (some (.ref fR)))
    (iR : PySem.W.isFn K (.ref fR) = true)
    (lR : K.lookup fR = some ⟨ocR, odR, .func (PySem.W.fnOf "__or__" "Rule.__or__" (defArgs sOr) (defBody sOr) (defScope sOr) .none kVR dcR pmR anR cdR ctR), slR⟩)
    (cR : PySem.W.codeIn K cdR "Rule.__or__" = true)
    (kR : PySem.W.keepIn K (.ref fR) = true)
    (aE : PySem.W.findIn K (.ref C) "__le__" = some (some (.ref fE)))
    (iE : PySem.W.isFn K (.ref fE) = true)
    (lE : K.lookup fE = some ⟨ocE, odE, .func (PySem.W.fnOf "__le__" "Rule.__le__" (defArgs sLe) (defBody sLe) (defScope sLe) .none kVE dcE pmE anE cdE ctE), slE⟩)
    (cE : PySem.W.codeIn K cdE "Rule.__le__" = true)
    (kE : PySem.W.keepIn K (.ref fE) = true)
    (aG : PySem.W.nsIn K mainGlobals "_law_digits" = some (some (.ref fG)))
    (lG : K.lookup fG = some ⟨ocG, odG, .func (PySem.W.fnOf "_law_digits" "_law_digits" (defArgs sDig) (defBody sDig) (defScope sDig) .none kVG dcG pmG anG cdG ctG), slG⟩)
    (cG : PySem.W.codeIn K cdG "_law_digits" = true)
    (kG : PySem.W.keepIn K (.ref fG) = true)
    (aW : PySem.W.nsIn K mainGlobals "_law_words" = some (some (.ref fW)))
    (lW : K.lookup fW = some ⟨ocW, odW, .func (PySem.W.fnOf "_law_words" "_law_words" (defArgs sWords) (defBody sWords) (defScope sWords) .none kVW dcW pmW anW cdW ctW), slW⟩)
    (cW : PySem.W.codeIn K cdW "_law_words" = true)
    (kW : PySem.W.keepIn K (.ref fW) = true)
    (aZ : PySem.W.nsIn K mainGlobals "_law_stances" = some (some (.ref fZ)))
    (lZ : K.lookup fZ = some ⟨ocZ, odZ, .func (PySem.W.fnOf "_law_stances" "_law_stances" (defArgs sStans) (defBody sStans) (defScope sStans) .none kVZ dcZ pmZ anZ cdZ ctZ), slZ⟩)
    (cZ : PySem.W.codeIn K cdZ "_law_stances" = true)
    (kZ : PySem.W.keepIn K (.ref fZ) = true)
    (aU : PySem.W.nsIn K mainGlobals "_law_same" = some (some (.ref fU)))
    (lU : K.lookup fU = some ⟨ocU, odU, .func (PySem.W.fnOf "_law_same" "_law_same" (defArgs sSame) (defBody sSame) (defScope sSame) .none kVU dcU pmU anU cdU ctU), slU⟩)
    (cU : PySem.W.codeIn K cdU "_law_same" = true)
    (kU : PySem.W.keepIn K (.ref fU) = true)
    (aN : PySem.W.nsIn K mainGlobals "_law_products" = some (some (.ref fN)))
    (lN : K.lookup fN = some ⟨ocN, odN, .func (PySem.W.fnOf "_law_products" "_law_products" (defArgs sProd) (defBody sProd) (defScope sProd) .none kVN dcN pmN anN cdN ctN), slN⟩)
    (cN : PySem.W.codeIn K cdN "_law_products" = true)
    (kN : PySem.W.keepIn K (.ref fN) = true)
    (aY : PySem.W.nsIn K mainGlobals "_law_holds" = some (some (.ref fY)))
    (lY : K.lookup fY = some ⟨ocY, odY, .func (PySem.W.fnOf "_law_holds" "_law_holds" (defArgs sHolds) (defBody sHolds) (defScope sHolds) .none kVY dcY pmY anY cdY ctY), slY⟩)
    (cY : PySem.W.codeIn K cdY "_law_holds" = true)
    (kY : PySem.W.keepIn K (.ref fY) = true)
    (aL : PySem.W.nsIn K mainGlobals "_law_let" = some (some (.ref fL)))
    (lL : K.lookup fL = some ⟨ocL, odL, .func (PySem.W.fnOf "_law_let" "_law_let" (defArgs sLet) (defBody sLet) (defScope sLet) .none kVL dcL pmL anL cdL ctL), slL⟩)
    (cL : PySem.W.codeIn K cdL "_law_let" = true)
    (kL : PySem.W.keepIn K (.ref fL) = true)
    (aQ : PySem.W.nsIn K mainGlobals "_law_rule" = some (some (.ref fQ)))
    (lQ : K.lookup fQ = some ⟨ocQ, odQ, .func (PySem.W.fnOf "_law_rule" "_law_rule" (defArgs sLRule) (defBody sLRule) (defScope sLRule) .none kVQ dcQ pmQ anQ cdQ ctQ), slQ⟩)
    (cQ : PySem.W.codeIn K cdQ "_law_rule" = true)
    (kQ : PySem.W.keepIn K (.ref fQ) = true)
    (aBI : PySem.W.findIn K (.ref CB) "__init__" = some (some (.ref fBI)))
    (iBI : PySem.W.isFn K (.ref fBI) = true)
    (lBI : K.lookup fBI = some ⟨ocBI, odBI, .func (PySem.W.fnOf "__init__" "Book.__init__" (defArgs sBInit) (defBody sBInit) (defScope sBInit) .none kVBI dcBI pmBI anBI cdBI ctBI), slBI⟩)
    (cBI : PySem.W.codeIn K cdBI "Book.__init__" = true)
    (kBI : PySem.W.keepIn K (.ref fBI) = true)
    (aBG : PySem.W.findIn K (.ref CB) "__getitem__" = some (some (.ref fBG)))
    (iBG : PySem.W.isFn K (.ref fBG) = true)
    (lBG : K.lookup fBG = some ⟨ocBG, odBG, .func (PySem.W.fnOf "__getitem__" "Book.__getitem__" (defArgs sBGet) (defBody sBGet) (defScope sBGet) .none kVBG dcBG pmBG anBG cdBG ctBG), slBG⟩)
    (cBG : PySem.W.codeIn K cdBG "Book.__getitem__" = true)
    (kBG : PySem.W.keepIn K (.ref fBG) = true)
    (aBC : PySem.W.findIn K (.ref CB) "__contains__" = some (some (.ref fBC)))
    (iBC : PySem.W.isFn K (.ref fBC) = true)
    (lBC : K.lookup fBC = some ⟨ocBC, odBC, .func (PySem.W.fnOf "__contains__" "Book.__contains__" (defArgs sBCon) (defBody sBCon) (defScope sBCon) .none kVBC dcBC pmBC anBC cdBC ctBC), slBC⟩)
    (cBC : PySem.W.codeIn K cdBC "Book.__contains__" = true)
    (kBC : PySem.W.keepIn K (.ref fBC) = true)
    (aBE : PySem.W.findIn K (.ref CB) "__le__" = some (some (.ref fBE)))
    (iBE : PySem.W.isFn K (.ref fBE) = true)
    (lBE : K.lookup fBE = some ⟨ocBE, odBE, .func (PySem.W.fnOf "__le__" "Book.__le__" (defArgs sBLe) (defBody sBLe) (defScope sBLe) .none kVBE dcBE pmBE anBE cdBE ctBE), slBE⟩)
    (cBE : PySem.W.codeIn K cdBE "Book.__le__" = true)
    (kBE : PySem.W.keepIn K (.ref fBE) = true)
    (aKO : PySem.W.nsIn K mainGlobals "_keeps_order" = some (some (.ref fKO)))
    (lKO : K.lookup fKO = some ⟨ocKO, odKO, .func (PySem.W.fnOf "_keeps_order" "_keeps_order" (defArgs sKeep) (defBody sKeep) (defScope sKeep) .none kVKO dcKO pmKO anKO cdKO ctKO), slKO⟩)
    (cKO : PySem.W.codeIn K cdKO "_keeps_order" = true)
    (kKO : PySem.W.keepIn K (.ref fKO) = true)
    (aX : PySem.W.nsIn K mainGlobals "_law_inside" = some (some (.ref fX)))
    (lX : K.lookup fX = some ⟨ocX, odX, .func (PySem.W.fnOf "_law_inside" "_law_inside" (defArgs sInside) (defBody sInside) (defScope sInside) .none kVX dcX pmX anX cdX ctX), slX⟩)
    (cX : PySem.W.codeIn K cdX "_law_inside" = true)
    (kX : PySem.W.keepIn K (.ref fX) = true)
    (aOF : PySem.W.nsIn K mainGlobals "_law_of" = some (some (.ref fOF)))
    (lOF : K.lookup fOF = some ⟨ocOF, odOF, .func (PySem.W.fnOf "_law_of" "_law_of" (defArgs sOf7) (defBody sOf7) (defScope sOf7) .none kVOF dcOF pmOF anOF cdOF ctOF), slOF⟩)
    (cOF : PySem.W.codeIn K cdOF "_law_of" = true)
    (kOF : PySem.W.keepIn K (.ref fOF) = true)
    (aUN : PySem.W.nsIn K mainGlobals "_law_under" = some (some (.ref fUN)))
    (lUN : K.lookup fUN = some ⟨ocUN, odUN, .func (PySem.W.fnOf "_law_under" "_law_under" (defArgs sUnder7) (defBody sUnder7) (defScope sUnder7) .none kVUN dcUN pmUN anUN cdUN ctUN), slUN⟩)
    (cUN : PySem.W.codeIn K cdUN "_law_under" = true)
    (kUN : PySem.W.keepIn K (.ref fUN) = true)
    (aNM : PySem.W.nsIn K mainGlobals "_law_name" = some (some (.ref fNM)))
    (lNM : K.lookup fNM = some ⟨ocNM, odNM, .func (PySem.W.fnOf "_law_name" "_law_name" (defArgs sName) (defBody sName) (defScope sName) .none kVNM dcNM pmNM anNM cdNM ctNM), slNM⟩)
    (cNM : PySem.W.codeIn K cdNM "_law_name" = true)
    (kNM : PySem.W.keepIn K (.ref fNM) = true)
    (alaw : PySem.W.nsIn K mainGlobals "law" = some (some (.ref flaw)))
    (llaw : K.lookup flaw = some ⟨oclaw, odlaw, .func (PySem.W.fnOf "law" "law" (defArgs sLaw) (defBody sLaw) (defScope sLaw) .none kVlaw dclaw pmlaw anlaw cdlaw ctlaw), sllaw⟩)
    (claw : PySem.W.codeIn K cdlaw "law" = true)
    (klaw : PySem.W.keepIn K (.ref flaw) = true)
    (pg : PySem.W.plainGet K C Str.empty = true)
    (hd : PySem.W.hasDictIn K C = true)
    (po : PySem.W.plainOver K C = true)
    (sa : PySem.W.findIn K (.ref C) "__setattr__" = some (some (.builtin "object.__setattr__")))
    (mk : PySem.W.makesIn K C = true)
    (kc : PySem.W.keepIn K (.ref C) = true)
    (nL : PySem.W.findIn K (.ref C) "_let" = some none)
    (rdC : PySem.W.readsIn K C (.type "type") = true)
    (gaC : PySem.W.specialIn K (.ref C) "__getattribute__" = some (some (.builtin "type.__getattribute__")))
    (atO : PySem.W.findCls K (.ref C) (.type "type") "of" = some (.get (.builtin "classmethod.__get__") (.ref pO) .none (.ref C)))
    (rcO : PySem.W.recIn K pO "classmethod" = some (.ref fO :: restO))
    (fiO : PySem.W.fnIn K fO = true)
    (atP : PySem.W.findIn K (.ref C) "stances" = some (some (.ref pP)))
    (gtP : PySem.W.specialIn K (.ref pP) "__get__" = some (some (.builtin "property.__get__")))
    (tkP : PySem.W.takesIn K (.ref pP) = some true)
    (rcP : PySem.W.recIn K pP "property" = some (.ref fP :: restP))
    (sf : PySem.W.selfFirst K C = true)
    (nf : PySem.W.notFirst K C (.ref C) = true)
    (pgB : PySem.W.plainGet K CB Str.empty = true)
    (hdB : PySem.W.hasDictIn K CB = true)
    (poB : PySem.W.plainOver K CB = true)
    (saB : PySem.W.findIn K (.ref CB) "__setattr__" = some (some (.builtin "object.__setattr__")))
    (mkB : PySem.W.makesIn K CB = true)
    (kcB : PySem.W.keepIn K (.ref CB) = true)
    (nR : PySem.W.findIn K (.ref CB) "_rules" = some none)
    (nfB : PySem.W.notFirst K CB (.ref CB) = true)
    (fnG : PySem.W.fnIn K fBG = true)
    (lO : K.lookup fO = some ⟨ocO, odO, .func (PySem.W.fnOf "of" "Rule.of" (defArgs sROf) (defBody sROf) (defScope sROf) .none kVO dcO pmO anO cdO ctO), slO⟩)
    (cO : PySem.W.codeIn K cdO "Rule.of" = true)
    (kO : PySem.W.keepIn K (.ref fO) = true)
    (lP : K.lookup fP = some ⟨ocP, odP, .func (PySem.W.fnOf "stances" "Rule.stances" (defArgs sRSt) (defBody sRSt) (defScope sRSt) .none kVP dcP pmP anP cdP ctP), slP⟩)
    (cP : PySem.W.codeIn K cdP "Rule.stances" = true)
    (kP : PySem.W.keepIn K (.ref fP) = true)
    (z_len : PySem.W.nsIn K mainGlobals "len" = some none)
    (z_range : PySem.W.nsIn K mainGlobals "range" = some none)
    (z_int : PySem.W.nsIn K mainGlobals "int" = some none)
    (z_isinstance : PySem.W.nsIn K mainGlobals "isinstance" = some none)
    (z_bool : PySem.W.nsIn K mainGlobals "bool" = some none)
    (z_str : PySem.W.nsIn K mainGlobals "str" = some none)
    (z_tuple : PySem.W.nsIn K mainGlobals "tuple" = some none)
    (z_list : PySem.W.nsIn K mainGlobals "list" = some none)
    (z_any : PySem.W.nsIn K mainGlobals "any" = some none)
    (z_all : PySem.W.nsIn K mainGlobals "all" = some none)
    : ∃ fd : FuncData, (∀ (s : Shared) (v : Value), BindsTo s fd ⟨[v], []⟩ [("_law_script", v)]) ∧ ∀ base : Heap, K.In base → base.Ns mainGlobals mg → FnOk l.prog w K mg base CX0 5 fa fd ["_law_script"] (spLaw K) := by
  have e := hfa.symm.trans (PySem.W.mg_of X G alaw)
  cases e
  have FI := fun_mk (st := sRInit) lI cI kI
  have bI := FI.binds (ps := ["self", "stances"]) fun _ _ _ _ _ _ us hl => match us, hl with | [_, _], _ => rfl
  have FO := fun_mk (st := sROf) lO cO kO
  have FP := fun_mk (st := sRSt) lP cP kP
  have bP := FP.binds (ps := ["self"]) fun _ _ _ _ _ _ us hl => match us, hl with | [_], _ => rfl
  have FH := fun_mk (st := sHas) lH cH kH
  have bH := FH.binds (ps := ["stance", "words"]) fun _ _ _ _ _ _ us hl => match us, hl with | [_, _], _ => rfl
  have mH := PySem.W.mg_of X G aH
  have FA := fun_mk (st := sAnd) lA cA kA
  have bA := FA.binds (ps := ["self", "other"]) fun _ _ _ _ _ _ us hl => match us, hl with | [_, _], _ => rfl
  have FR := fun_mk (st := sOr) lR cR kR
  have bR := FR.binds (ps := ["self", "other"]) fun _ _ _ _ _ _ us hl => match us, hl with | [_, _], _ => rfl
  have FE := fun_mk (st := sLe) lE cE kE
  have bE := FE.binds (ps := ["self", "other"]) fun _ _ _ _ _ _ us hl => match us, hl with | [_, _], _ => rfl
  have FG := fun_mk (st := sDig) lG cG kG
  have bG := FG.binds (ps := ["_law_script", "_law_at", "_law_sizes"]) fun _ _ _ _ _ _ us hl => match us, hl with | [_, _, _], _ => rfl
  have mG := PySem.W.mg_of X G aG
  have FW := fun_mk (st := sWords) lW cW kW
  have bW := FW.binds (ps := []) fun _ _ _ _ _ _ us hl => match us, hl with | [], _ => rfl
  have mW := PySem.W.mg_of X G aW
  have FZ := fun_mk (st := sStans) lZ cZ kZ
  have bZ := FZ.binds (ps := []) fun _ _ _ _ _ _ us hl => match us, hl with | [], _ => rfl
  have mZ := PySem.W.mg_of X G aZ
  have FU := fun_mk (st := sSame) lU cU kU
  have bU := FU.binds (ps := ["_law_actual", "_law_due"]) fun _ _ _ _ _ _ us hl => match us, hl with | [_, _], _ => rfl
  have mU := PySem.W.mg_of X G aU
  have FN := fun_mk (st := sProd) lN cN kN
  have bN := FN.binds (ps := ["_law_script", "_law_at"]) fun _ _ _ _ _ _ us hl => match us, hl with | [_, _], _ => rfl
  have mN := PySem.W.mg_of X G aN
  have FY := fun_mk (st := sHolds) lY cY kY
  have bY := FY.binds (ps := ["_law_product", "_law_stance"]) fun _ _ _ _ _ _ us hl => match us, hl with | [_, _], _ => rfl
  have mY := PySem.W.mg_of X G aY
  have FL := fun_mk (st := sLet) lL cL kL
  have bL := FL.binds (ps := ["_law_products_here"]) fun _ _ _ _ _ _ us hl => match us, hl with | [_], _ => rfl
  have mL := PySem.W.mg_of X G aL
  have FQ := fun_mk (st := sLRule) lQ cQ kQ
  have bQ := FQ.binds (ps := ["_law_products_here"]) fun _ _ _ _ _ _ us hl => match us, hl with | [_], _ => rfl
  have mQ := PySem.W.mg_of X G aQ
  have FBI := fun_mk (st := sBInit) lBI cBI kBI
  have bBI := FBI.binds (ps := ["self", "pairs"]) fun _ _ _ _ _ _ us hl => match us, hl with | [_, _], _ => rfl
  have FBG := fun_mk (st := sBGet) lBG cBG kBG
  have bBG := FBG.binds (ps := ["self", "level"]) fun _ _ _ _ _ _ us hl => match us, hl with | [_, _], _ => rfl
  have FBC := fun_mk (st := sBCon) lBC cBC kBC
  have bBC := FBC.binds (ps := ["self", "level"]) fun _ _ _ _ _ _ us hl => match us, hl with | [_, _], _ => rfl
  have FBE := fun_mk (st := sBLe) lBE cBE kBE
  have bBE := FBE.binds (ps := ["self", "other"]) fun _ _ _ _ _ _ us hl => match us, hl with | [_, _], _ => rfl
  have FKO := fun_mk (st := sKeep) lKO cKO kKO
  have bKO := FKO.binds (ps := ["book", "other", "x", "y"]) fun _ _ _ _ _ _ us hl => match us, hl with | [_, _, _, _], _ => rfl
  have mKO := PySem.W.mg_of X G aKO
  have FX := fun_mk (st := sInside) lX cX kX
  have bX := FX.binds (ps := ["_law_part", "_law_whole"]) fun _ _ _ _ _ _ us hl => match us, hl with | [_, _], _ => rfl
  have mX := PySem.W.mg_of X G aX
  have FOF := fun_mk (st := sOf7) lOF cOF kOF
  have bOF := FOF.binds (ps := ["_law_pairs", "_law_rank"]) fun _ _ _ _ _ _ us hl => match us, hl with | [_, _], _ => rfl
  have mOF := PySem.W.mg_of X G aOF
  have FUN := fun_mk (st := sUnder7) lUN cUN kUN
  have bUN := FUN.binds (ps := ["_law_first", "_law_second"]) fun _ _ _ _ _ _ us hl => match us, hl with | [_, _], _ => rfl
  have mUN := PySem.W.mg_of X G aUN
  have FNM := fun_mk (st := sName) lNM cNM kNM
  have bNM := FNM.binds (ps := ["_law_start", "_law_k"]) fun _ _ _ _ _ _ us hl => match us, hl with | [_, _], _ => rfl
  have mNM := PySem.W.mg_of X G aNM
  have Flaw := fun_mk (st := sLaw) llaw claw klaw
  have T : Gls mg := ⟨PySem.W.mg_none_of X G z_len, PySem.W.mg_none_of X G z_range, PySem.W.mg_none_of X G z_int⟩
  have TI : GlsI mg := ⟨PySem.W.mg_none_of X G z_isinstance, PySem.W.mg_none_of X G z_bool, PySem.W.mg_none_of X G z_str, PySem.W.mg_none_of X G z_tuple, PySem.W.mg_none_of X G z_list⟩
  have vstr : ∀ {x : Str} {u : Tok}, RelV (.str x) (.str x u) := fun {x u} => ⟨u, rfl⟩
  have mC := PySem.W.mg_of X G aC
  have TR : GlsR K mg C aS := ⟨⟨pg, hd, po, sa⟩, nL, PySem.W.mg_none_of X G z_tuple, PySem.W.mg_none_of X G z_any, PySem.W.mg_of X G aS_, [t0, t1, t2, t3, t4, t5, t6, t7, t8],
    fun H => .inr ⟨_, _, _, lSt, rfl, rfl, (by show 9 ≤ sizeLine; decide), (.cons rfl (.cons rfl (.cons rfl (.cons rfl (.cons rfl (.cons rfl (.cons rfl (.cons rfl (.cons rfl .nil)))))))))⟩,
    fun H => (.cons (.inr ⟨_, _, _, lt0, rfl, rfl, (by show 7 ≤ sizeLine; decide), (.cons vstr (.cons vstr (.cons vstr (.cons vstr (.cons vstr (.cons vstr (.cons vstr .nil)))))))⟩) (.cons (.inr ⟨_, _, _, lt1, rfl, rfl, (by show 5 ≤ sizeLine; decide), (.cons vstr (.cons vstr (.cons vstr (.cons vstr (.cons vstr .nil)))))⟩) (.cons (.inr ⟨_, _, _, lt2, rfl, rfl, (by show 3 ≤ sizeLine; decide), (.cons vstr (.cons vstr (.cons vstr .nil)))⟩) (.cons (.inr ⟨_, _, _, lt3, rfl, rfl, (by show 4 ≤ sizeLine; decide), (.cons vstr (.cons vstr (.cons vstr (.cons vstr .nil))))⟩) (.cons (.inr ⟨_, _, _, lt4, rfl, rfl, (by show 3 ≤ sizeLine; decide), (.cons vstr (.cons vstr (.cons vstr .nil)))⟩) (.cons (.inr ⟨_, _, _, lt5, rfl, rfl, (by show 3 ≤ sizeLine; decide), (.cons vstr (.cons vstr (.cons vstr .nil)))⟩) (.cons (.inr ⟨_, _, _, lt6, rfl, rfl, (by show 2 ≤ sizeLine; decide), (.cons vstr (.cons vstr .nil))⟩) (.cons (.inr ⟨_, _, _, lt7, rfl, rfl, (by show 2 ≤ sizeLine; decide), (.cons vstr (.cons vstr .nil))⟩) (.cons (.inr ⟨_, _, _, lt8, rfl, rfl, (by show 1 ≤ sizeLine; decide), (.cons vstr .nil)⟩) .nil)))))))))⟩
  have TC : GlsC K mg C (.type "type") pO fO := ⟨mC, ⟨rdC, gaC⟩, ⟨atO, ⟨_, rcO⟩, fiO⟩⟩
  have PP : PropOf K C "stances" pP fP := ⟨atP, gtP, tkP, ⟨_, rcP⟩⟩
  have bO := StX.bind_star1 (B := fun us => bindArgs (PySem.W.fnOf "of" "Rule.of" (defArgs sROf) (defBody sROf) (defScope sROf) .none kVO dcO pmO anO cdO ctO) ⟨us, []⟩) (p1 := "cls") (pv := "words") (fun a => rfl) (fun a r rs => rfl)
  have M : Mk K C fI := ⟨mk, aI, iI, kc⟩
  have O : GlsO K C fA fR := ⟨sf, aA, iA, aR, iR⟩
  refine ⟨PySem.W.fnOf "law" "law" (defArgs sLaw) (defBody sLaw) (defScope sLaw) .none kVlaw dclaw pmlaw anlaw cdlaw ctlaw, fun s v => .of_eq rfl, fun base _ _ => ?_⟩
  have GO : FnR l.prog w K mg base CX0 3 fO (spOf K C) := ok_of FO TR M FI bI FH bH mH bO
  have GP : FnOk l.prog w K mg base CX0 1 fP _ ["self"] (spRSt C) := ok_rst FP TR
  have GA : FnOk l.prog w K mg base CX0 3 fA _ ["self", "other"] (spBin K C and) := ok_and FA TR mC M FI bI
  have GR : FnOk l.prog w K mg base CX0 3 fR _ ["self", "other"] (spBin K C or) := ok_or FR TR mC M FI bI
  have GE : FnOk l.prog w K mg base CX0 1 fE _ ["self", "other"] (spLe K C) := ok_le FE TR (PySem.W.mg_none_of X G z_all)
  have GS : FnOk l.prog w K mg base CX0 1 fZ _ [] (spStans K) := ok_stans FZ TR
  have GU : FnOk l.prog w K mg base CX0 3 fU _ ["_law_actual", "_law_due"] (spSame K 3) := ok_same FU T TI mU bU 3
  have GN : FnOk l.prog w K mg base CX0 2 fN _ ["_law_script", "_law_at"] (spProdN K) := ok_prodN FN T FG bG mG FW bW mW
  have GL : FnOk l.prog w K mg base CX0 2 fL _ ["_law_products_here"] (spLet K) := ok_let FL T TR FZ bZ mZ FY bY mY
  have GQ : FnOk l.prog w K mg base CX0 4 fQ _ ["_law_products_here"] (spLRule K C) := ok_lrule FQ TC GO O GA bA GR bR
  have mB := PySem.W.mg_of X G aCB
  have TB : GlsB K mg CB := ⟨⟨pgB, hdB, poB, saB⟩, nR, PySem.W.mg_none_of X G z_list⟩
  have OB : GlsBO K C CB fBG fBC fE := ⟨aBG, fnG, iBG, aBC, iBC, nf, aE, iE⟩
  have MB : Mk K CB fBI := ⟨mkB, aBI, iBI, kcB⟩
  have GBI : FnOk l.prog w K mg base CX0 1 fBI _ ["self", "pairs"] (spBInit K CB) := ok_binit FBI TB
  have GBG : FnOk l.prog w K mg base CX0 1 fBG _ ["self", "level"] (spBGet K C CB) := ok_bget FBG TB
  have GBC : FnOk l.prog w K mg base CX0 1 fBC _ ["self", "level"] (spBCon K C CB) := ok_bcon FBC TB
  have GKO : FnOk l.prog w K mg base CX0 3 fKO _ ["book", "other", "x", "y"] (spKeep K C CB) := ok_keep FKO OB GBG bBG GE bE
  have GBE : FnOk l.prog w K mg base CX0 4 fBE _ ["self", "other"] (spBLe K C CB) := ok_ble FBE TB OB (PySem.W.mg_none_of X G z_all) GBG bBG GBC bBC GE bE GKO bKO kKO mKO
  have GX : FnOk l.prog w K mg base CX0 1 fX _ ["_law_part", "_law_whole"] (spInsideD K) := ok_insided FX T
  have GOF : FnOk l.prog w K mg base CX0 3 fOF _ ["_law_pairs", "_law_rank"] (spOf7 K) := ok_of7 FOF GL bL kL mL
  have GUN : FnOk l.prog w K mg base CX0 4 fUN _ ["_law_first", "_law_second"] (spUnder7 K) := ok_under7 FUN GX bX kX mX GOF bOF kOF mOF
  have GNM : FnOk l.prog w K mg base CX0 1 fNM _ ["_law_start", "_law_k"] spName := ok_name FNM T
  have GG : FnOk l.prog w K mg base CX0 1 fG _ ["_law_script", "_law_at", "_law_sizes"] (spDig K) := ok_dig FG T
  exact ok_law Flaw T TR TB OB mB MB GBI bBI nfB aBE iBE GBE bBE GN bN kN mN GQ bQ kQ mQ GNM bNM kNM mNM GUN bUN kUN mUN GG bG kG mG GU bU kU mU
theorem walk {l : PySem.W.OpenLaw} {q : Program} {loose : List Str} {XP : (Str → Option Value) → Heap → Prop} {YP : World → Heap → Prop} {d : DefRec} {K : Params → PySem.W.Frag} (hn : l.most = some 63) (hdf : d.params.defaults = [])
    (hY : ∀ (w : World) (h : Heap), YP w h → (K w.params).In h)
    (F : ∀ (w : World) (mg : Str → Option Value) (fa : Addr) (h : Heap), (K w.params).In h → h.Ns mainGlobals mg → mg d.name = some (.ref fa) →
      ∃ fd : FuncData, (∀ (s : Shared) (u : Value), BindsTo s fd ⟨[u], []⟩ [("_law_script", u)]) ∧ ∀ base : Heap, (K w.params).In base → base.Ns mainGlobals mg → FnOk l.prog w (K w.params) mg base CX0 5 fa fd ["_law_script"] (spLaw (K w.params))) :
    PySem.W.WalkO q loose XP YP l.row.toRowW d [] (fun f vs => PySem.call f vs) :=
  L2.walk_of (n := 63) (k := 5) (x := "_law_script") (CX := fun _ => CX0) (sp := fun w => spLaw (K w.params)) hn (by decide) hdf ⟨rfl, by decide, by decide⟩ hY F (fun _ _ a ns hl _ hS => ⟨a, ns, rfl, hS, hl, fun _ => rfl⟩) fun _ _ _ _ _ z => z
end My
open PySem PySem.W PyProof.Rows
set_option maxRecDepth 100000 in
set_option maxHeartbeats 0 in
theorem PySem.Challenge.cw_whomayname_k07_book_order_holds : PySem.Challenge.rw_whomayname_k07_book_order.Holds := by
  w_on; o_law; k_head; (case hw => w_witness2)
  k_fill
  refine My.walk (l := PySem.Challenge.rw_whomayname_k07_book_order) rfl rfl (fun w h Y => PySem.W.kIn_of Y) ?F
  case F =>
    intro w mg fa h KX G hmg
    refine' My.all_mk KX G hmg ?aCB ?aC ?aS_ ?lSt ?lt0 ?lt1 ?lt2 ?lt3 ?lt4 ?lt5 ?lt6 ?lt7 ?lt8 ?aI ?iI ?lI ?cI ?kI ?aH ?lH ?cH ?kH ?aA ?iA ?lA ?cA ?kA ?aR ?iR ?lR ?cR ?kR ?aE ?iE ?lE ?cE ?kE ?aG ?lG ?cG ?kG ?aW ?lW ?cW ?kW ?aZ ?lZ ?cZ ?kZ ?aU ?lU ?cU ?kU ?aN ?lN ?cN ?kN ?aY ?lY ?cY ?kY ?aL ?lL ?cL ?kL ?aQ ?lQ ?cQ ?kQ ?aBI ?iBI ?lBI ?cBI ?kBI ?aBG ?iBG ?lBG ?cBG ?kBG ?aBC ?iBC ?lBC ?cBC ?kBC ?aBE ?iBE ?lBE ?cBE ?kBE ?aKO ?lKO ?cKO ?kKO ?aX ?lX ?cX ?kX ?aOF ?lOF ?cOF ?kOF ?aUN ?lUN ?cUN ?kUN ?aNM ?lNM ?cNM ?kNM ?alaw ?llaw ?claw ?klaw ?pg ?hd ?po ?sa ?mk ?kc ?nL ?rdC ?gaC ?atO ?rcO ?fiO ?atP ?gtP ?tkP ?rcP ?sf ?nf ?pgB ?hdB ?poB ?saB ?mkB ?kcB ?nR ?nfB ?fnG ?lO ?cO ?kO ?lP ?cP ?kP ?z_len ?z_range ?z_int ?z_isinstance ?z_bool ?z_str ?z_tuple ?z_list ?z_any ?z_all
    (case aCB => k_is)
    (case aC => k_is)
    (case aS_ => k_is)
    (case lSt => k_is)
    (case lt0 => k_is)
    (case lt1 => k_is)
    (case lt2 => k_is)
    (case lt3 => k_is)
    (case lt4 => k_is)
    (case lt5 => k_is)
    (case lt6 => k_is)
    (case lt7 => k_is)
    (case lt8 => k_is)
    (case aI => k_is)
    (case iI => k_is)
    (case lI => k_is)
    (case cI => k_is)
    (case kI => k_is)
    (case aH => k_is)
    (case lH => k_is)
    (case cH => k_is)
    (case kH => k_is)
    (case aA => k_is)
    (case iA => k_is)
    (case lA => k_is)
    (case cA => k_is)
    (case kA => k_is)
    (case aR => k_is)
    (case iR => k_is)
    (case lR => k_is)
    (case cR => k_is)
    (case kR => k_is)
    (case aE => k_is)
    (case iE => k_is)
    (case lE => k_is)
    (case cE => k_is)
    (case kE => k_is)
    (case aG => k_is)
    (case lG => k_is)
    (case cG => k_is)
    (case kG => k_is)
    (case aW => k_is)
    (case lW => k_is)
    (case cW => k_is)
    (case kW => k_is)
    (case aZ => k_is)
    (case lZ => k_is)
    (case cZ => k_is)
    (case kZ => k_is)
    (case aU => k_is)
    (case lU => k_is)
    (case cU => k_is)
    (case kU => k_is)
    (case aN => k_is)
    (case lN => k_is)
    (case cN => k_is)
    (case kN => k_is)
    (case aY => k_is)
    (case lY => k_is)
    (case cY => k_is)
    (case kY => k_is)
    (case aL => k_is)
    (case lL => k_is)
    (case cL => k_is)
    (case kL => k_is)
    (case aQ => k_is)
    (case lQ => k_is)
    (case cQ => k_is)
    (case kQ => k_is)
    (case aBI => k_is)
    (case iBI => k_is)
    (case lBI => k_is)
    (case cBI => k_is)
    (case kBI => k_is)
    (case aBG => k_is)
    (case iBG => k_is)
    (case lBG => k_is)
    (case cBG => k_is)
    (case kBG => k_is)
    (case aBC => k_is)
    (case iBC => k_is)
    (case lBC => k_is)
    (case cBC => k_is)
    (case kBC => k_is)
    (case aBE => k_is)
    (case iBE => k_is)
    (case lBE => k_is)
    (case cBE => k_is)
    (case kBE => k_is)
    (case aKO => k_is)
    (case lKO => k_is)
    (case cKO => k_is)
    (case kKO => k_is)
    (case aX => k_is)
    (case lX => k_is)
    (case cX => k_is)
    (case kX => k_is)
    (case aOF => k_is)
    (case lOF => k_is)
    (case cOF => k_is)
    (case kOF => k_is)
    (case aUN => k_is)
    (case lUN => k_is)
    (case cUN => k_is)
    (case kUN => k_is)
    (case aNM => k_is)
    (case lNM => k_is)
    (case cNM => k_is)
    (case kNM => k_is)
    (case alaw => k_is)
    (case llaw => k_is)
    (case claw => k_is)
    (case klaw => k_is)
    (case pg => k_is)
    (case hd => k_is)
    (case po => k_is)
    (case sa => k_is)
    (case mk => k_is)
    (case kc => k_is)
    (case nL => k_is)
    (case rdC => k_is)
    (case gaC => k_is)
    (case atO => k_is)
    (case rcO => k_is)
    (case fiO => k_is)
    (case atP => k_is)
    (case gtP => k_is)
    (case tkP => k_is)
    (case rcP => k_is)
    (case sf => k_is)
    (case nf => k_is)
    (case pgB => k_is)
    (case hdB => k_is)
    (case poB => k_is)
    (case saB => k_is)
    (case mkB => k_is)
    (case kcB => k_is)
    (case nR => k_is)
    (case nfB => k_is)
    (case fnG => k_is)
    (case lO => k_is)
    (case cO => k_is)
    (case kO => k_is)
    (case lP => k_is)
    (case cP => k_is)
    (case kP => k_is)
    (case z_len => k_is)
    (case z_range => k_is)
    (case z_int => k_is)
    (case z_isinstance => k_is)
    (case z_bool => k_is)
    (case z_str => k_is)
    (case z_tuple => k_is)
    (case z_list => k_is)
    (case z_any => k_is)
    (case z_all => k_is)
