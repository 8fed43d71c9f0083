import PyProof.Rows.All
import Wide.All
import OpenK.AllK
import Wide.FinOn
import HandS.ForMost
import HandS.IsInst
import HandS.Evl
import HandS.ClsMeth
import HandS.Star
import HandS.Property
import PySem.Challenge.RW_whomayname_k01_rule_of_words
set_option Elab.async false
set_option linter.all false
set_option maxRecDepth 100000
set_option maxHeartbeats 4000000
namespace My
open PySem L2
open Evl (pss_cut)
def topS (i : Nat) : Stmt := PySem.Challenge.pw_whomayname_k01_rule_of_words.main.body.getD i (.Pass ⟨0, 0, 0, 0⟩)
abbrev sDig : Stmt := topS 5
structure Gls (mg : Str → Option Value) : Prop where
  len : mg "len" = none
  range : mg "range" = none
  int : mg "int" = none
theorem scDig : FnScope ["_law_script", "_law_at", "_law_sizes", "_law_cell", "_law_great", "_law_row", "_law_k", "_law_mixed"] ["_law_script", "_law_at", "_law_sizes"] (defScope sDig) := ⟨rfl, rfl, rfl, by decide +kernel, rfl, by decide +kernel, by decide +kernel⟩
def DigOk (szs ds : List Int) : Prop := ds.length = szs.length ∧ ∀ (i : Nat) (d s : Int), ds[i]? = some d → szs[i]? = some s → 0 ≤ d ∧ d < s
theorem DigOk.snoc {szs ds : List Int} {i : Nat} (h : DigOk (szs.take i) ds) (hi : i < szs.length) {m : Int} (hp : 0 < szs[i]) : DigOk (szs.take (i + 1)) (ds ++ [m % szs[i]]) := by
  obtain ⟨h1, h2⟩ := h
  have e : szs.take (i + 1) = szs.take i ++ [szs[i]] := (List.take_append_getElem hi).symm
  refine ⟨by rw [e, List.length_append, List.length_append, h1]; rfl, fun k d s hd hs => ?_⟩
  rw [e] at hs
  by_cases hk : k < ds.length
  · rw [List.getElem?_append_left hk] at hd
    rw [List.getElem?_append_left (by omega)] at hs
    exact h2 k d s hd hs
  · rw [List.getElem?_append_right (by omega)] at hd
    rw [List.getElem?_append_right (by omega)] at hs
    have h0 : k - ds.length = 0 := by
      rcases List.getElem?_eq_some_iff.mp hd with ⟨q, _⟩
      simpa using q
    rw [h0] at hd
    rw [← h1, h0] at hs
    cases hd
    cases hs
    exact ⟨Int.emod_nonneg _ (by omega), Int.emod_lt_of_pos _ hp⟩
def spDig (K : PySem.W.Frag) : Sp := fun vs H Q _ => ∃ (a b : Addr) (ns szs : List Int) (j : Nat), vs = [.ref a, .int j, .ref b] ∧ SqL K H a (ns.map V.int) ∧ ns.length ≤ 63 ∧ j ≤ 1000 ∧
  SqL K H b (szs.map V.int) ∧ szs.length ≤ 64 ∧ (∀ s ∈ szs, 0 < s ∧ s ≤ 1000) ∧
  ∀ ds H' p, DigOk szs ds → Same H H' → H p = none → H' p = some (.lst (ds.map V.int)) → Q (.ref p) H'
section
variable {P : Program} {w : World} {K : PySem.W.Frag} {mg : Str → Option Value} {base : Heap}
theorem ok_dig {f : Addr} {fd : FuncData} (F : Fun K "_law_digits" "_law_digits" sDig f fd) (T : Gls mg) : FnOk P w K mg base CX0 1 f fd ["_law_script", "_law_at", "_law_sizes"] (spDig K) := by
  refine F.ok scDig (fun vs H Q E h => ?_) (fun cdv A outer s H vs Q E hr h => ?_)
  · obtain ⟨a, b, ns, szs, j, rfl, _⟩ := h
    rfl
  · obtain ⟨a, b, ns, szs, j, rfl, hA, hn, hj, hB, hz, hs, k⟩ := h
    have nd := scDig.nd
    refine ⟨_, pss_cons (ps_set (i := 3) nd rfl (.inl rfl) pe_int)
      (pss_cut (ps_if (pt_cmpR op_lt (pv 1) (pe_callB call_len_seq (by rfl) T.len PySem.boot_len (pa_cons (pv 0) pa_nil)) (nomark _)) (pss_one (ps_set (i := 3) nd rfl (.inl rfl) (pe_ix ix_list (pv 0) (pv 1) (fun _ _ => rfl)))) pss_nil)
      (pss_cons (ps_set (i := 4) nd rfl (.inl rfl) (pe_cmpR op_ge (pv 3) (pe_op op_pow pe_int pe_int) (nomark _)))
      (pss_cons (ps_set (i := 5) nd rfl (.inl rfl) (pe_lst pa_nil))
      (pss_cons (ps_for PassesOwn.never rfl (pi_range1 rfl T.range (pa_cons (pe_callB call_len_seq (by rfl) T.len PySem.boot_len (pa_cons (pv 2) pa_nil)) pa_nil)) (pg_name (i := 6) nd rfl (Or.inl rfl))
        (pss_cons (ps_set (i := 7) nd rfl (.inl rfl) (pe_op op_mod (pe_callTy call_int1 (by rfl) T.int (by decide +kernel) (pa_cons (pe_op op_add (pe_op op_add (pe_op op_add (pe_op op_mul (pv 3) pe_int) (pe_op op_mul (pv 1) pe_int)) (pe_op op_mul (pv 6) pe_int)) pe_int) pa_nil)) pe_int))
        (pss_cons (ps_set (i := 7) nd rfl (.inl rfl) (pe_op op_fdiv (pe_op op_mod (pe_callTy call_int1 (by rfl) T.int (by decide +kernel) (pa_cons (pe_op op_add (pe_op op_add (pe_op op_mul (pv 7) (pv 7)) (pv 3)) (pe_op op_mul (pv 6) pe_int)) pa_nil)) pe_int) pe_int))
        (pss_cut (ps_if (pt_val (pv 4)) (pss_cons (ps_set (i := 7) nd rfl (.inl rfl) (pv 3)) (pss_one (ps_set (i := 3) nd rfl (.inl rfl) (pe_op op_fdiv (pv 3) (pe_ix ix_list (pv 2) (pv 6) (fun _ _ => rfl)))))) pss_nil)
        (pss_one (ps_expr (pe_bm PySem.F.plainAttrs_list PySem.F.slot_list_append PySem.F.type_list_append mt_append (pv 5) (pa_cons (pe_op op_mod (pe_callTy call_int1 (by rfl) T.int (by decide +kernel) (pa_cons (pv 7) pa_nil)) (pe_ix ix_list (pv 2) (pv 6) (fun _ _ => rfl))) pa_nil))))))))
      (pss_one (ps_ret (pv 5))))))), ?_⟩
    refine ⟨fun σ H1 => H1 = H ∧ ∃ c : Int, σ = [some (.ref a), some (.int j), some (.ref b), some (.int c), none, none, none, none], ?_, ?_⟩
    · refine ⟨_, rfl, _, rfl, a, _, rfl, .inl hA, _, _, rfl, rfl, _, rfl, ?_⟩
      refine ite2 (fun hlt => ?_) (fun _ => ⟨rfl, _, rfl⟩)
      have hlt' : j < ns.length := by
        have := of_decide_eq_true hlt
        rw [List.length_map] at this
        omega
      have hat : (ns.map V.int)[j]? = some (V.int (ns[j])) := by
        rw [List.getElem?_map, List.getElem?_eq_getElem hlt']
        rfl
      exact ⟨_, rfl, _, rfl, a, _, _, _, rfl, rfl, hA, atI_nat hat, rfl, _, rfl⟩
    · rintro σ H1 ⟨rfl, c, rfl⟩
      refine ⟨_, rfl, _, _, rfl, rfl, ⟨by decide, by decide, by decide⟩, _, _, rfl, rfl, ?_⟩
      refine ⟨by show 0 ≤ sizeLine; decide, fun r hr0 => ?_⟩
      have s1 : Same H1 (upd H1 r (.lst [])) := fun b o e => by rw [upd_ne (ne_of_none e hr0)]; exact e
      refine ⟨_, rfl, b, _, rfl, .inl (s1.seq hB), (szs.length : Int), by rw [List.length_map], by omega, by omega, for_range (lo := 0) (n := szs.length) (fun i σ H2 => ∃ (c : Int) (vk vm : Option V) (ds : List Int) (g : Bool), σ = [some (.ref a), some (.int j), some (.ref b), some (.int c), some (.bl g), some (.ref r), vk, vm] ∧ Same H1 H2 ∧ H2 r = some (.lst (ds.map V.int)) ∧ DigOk (szs.take i) ds) ?_ ?_ ?_⟩
      · exact ⟨c, none, none, [], _, rfl, s1, upd_same, by simp [DigOk]⟩
      · rintro i σ H2 hi ⟨c, vk, vm, ds, g, rfl, s2, hrr, hD⟩
        have hat : (szs.map V.int)[i]? = some (V.int (szs[i])) := by
          rw [List.getElem?_map, List.getElem?_eq_getElem hi]
          rfl
        have hat' : atI (szs.map V.int) (0 + (i : Int)) = some (V.int (szs[i])) := by
          rw [Int.zero_add]
          exact atI_nat hat
        have hsz := hs (szs[i]) (List.getElem_mem hi)
        refine ⟨_, rfl, _, _, rfl, rfl, .inr ⟨by decide, by decide⟩, _, rfl, _, _, rfl, rfl, .inr ⟨by decide, by decide⟩, _, _, rfl, rfl, _, rfl, _, _, rfl, rfl, .inr ⟨by decide, by decide⟩, _, _, rfl, rfl, _, _, rfl, rfl, .inl ⟨_, rfl, _, _, rfl, rfl, by show (0 : Int) < 2147483647; decide, ?_⟩⟩
        generalize hm : (c * 48271 + (j : Int) * 1009 + (0 + (i : Int)) * 69621 + 5) % 2147483647 = m
        have hm0 : 0 ≤ m ∧ m < 2147483647 := by rw [← hm]; omega
        refine ⟨_, rfl, _, rfl, _, _, rfl, rfl, .inl ⟨by omega, by omega⟩, _, rfl, _, _, rfl, rfl, _, rfl, _, _, rfl, rfl, .inr ⟨by decide, by decide⟩, _, _, rfl, rfl, .inl ⟨_, rfl, _, _, rfl, rfl, by show (0 : Int) < 2147483629; decide, _, _, rfl, rfl, ⟨by decide, by decide⟩, ?_⟩⟩
        refine ⟨fun σ H3 => H3 = H2 ∧ ∃ c m : Int, σ = [some (.ref a), some (.int j), some (.ref b), some (.int c), some (.bl g), some (.ref r), some (.int (0 + (i : Int))), some (.int m)], ?_, ?_⟩
        · refine ⟨_, rfl, _, rfl, ?_⟩
          refine ite2 (fun _ => ?_) (fun _ => ⟨rfl, _, _, rfl⟩)
          exact ⟨_, rfl, _, rfl, _, rfl, _, rfl, _, _, _, _, rfl, rfl, s2.seq hB, hat', _, _, rfl, rfl, ⟨by omega, by omega⟩, rfl, _, _, rfl⟩
        · rintro σ H3 ⟨rfl, c', m', rfl⟩
          refine ⟨_, rfl, .inl ⟨rfl, _, SqL.of hrr⟩, _, rfl, .inl ⟨_, rfl, _, rfl, _, rfl, _, _, _, _, rfl, rfl, s2.seq hB, hat', _, _, rfl, rfl, by omega, _, _, _, rfl, rfl, hrr, ?_, ?_⟩⟩
          · refine small1000 ?_
            have := hD.1
            rw [List.length_map, this, List.length_take]
            omega
          · refine ⟨c', _, _, ds ++ [m' % szs[i]], g, rfl, ?_, ?_, hD.snoc hi (by omega)⟩
            · exact fun b o e => by rw [upd_ne (ne_of_none e hr0)]; exact s2 b o e
            · rw [List.map_append]
              exact upd_same
      · rintro σ H2 ⟨c, vk, vm, ds, g, rfl, s2, hrr, hD⟩
        refine ⟨_, rfl, k ds H2 r ?_ s2 hr0 hrr⟩
        rw [List.take_length] at hD
        exact hD
end
end My
namespace My
open PySem L2
open Evl (pss_cut)
abbrev sSame : Stmt := topS 8
structure GlsI (mg : Str → Option Value) : Prop where
  isi : mg "isinstance" = none
  bool : mg "bool" = none
  str : mg "str" = none
  tuple : mg "tuple" = none
  list : mg "list" = none
def okD : Nat → PyData → Prop
  | 0, _ => False
  | _ + 1, .none => True
  | _ + 1, .bool _ => True
  | _ + 1, .int _ => True
  | _ + 1, .str _ => True
  | n + 1, .tuple ds => ds.length ≤ 1000 ∧ ∀ d ∈ ds, okD n d
  | n + 1, .list ds => ds.length ≤ 1000 ∧ ∀ d ∈ ds, okD n d
  | _ + 1, _ => False
def tyN : PyData → String
  | .none => "NoneType"
  | .bool _ => "bool"
  | .int _ => "int"
  | .str _ => "str"
  | .tuple _ => "tuple"
  | _ => "list"
theorem tyx_L {K : PySem.W.Frag} {H : Hp} {a : Addr} {xs : List V} (h : SqL K H a xs) : TyX K H (.ref a) (.type "list") := by
  rcases h with (h | ⟨o, h⟩) | ⟨o, its, n, h, c, _⟩
  · exact .base (.lst h)
  · exact .base (.frz h)
  · exact .kList h c
theorem tyx_T {K : PySem.W.Frag} {H : Hp} {a : Addr} {xs : List V} (h : SqT K H a xs) : TyX K H (.ref a) (.type "tuple") := by
  rcases h with (h | ⟨o, h⟩) | ⟨o, its, n, h, c, _⟩
  · exact .base (.tup h)
  · exact .fTuple h
  · exact .kTuple h c
theorem tyx_D {K : PySem.W.Frag} {H : Hp} {x : V} {d : PyData} (h : Dp K H x d) : TyX K H x (.type (tyN d)) := by
  cases h with
  | non => exact .base .non
  | bl b => exact .base (.bl b)
  | int i => exact .base (.int i)
  | str s => exact .base (.str s)
  | lst h _ => exact tyx_L h
  | tup h _ => exact tyx_T h
theorem isi_D {K : PySem.W.Frag} {H : Hp} {x : V} {d : PyData} {c : String} {b : Bool} {Q : VK} (h : Dp K H x d) (e : kitB (tyN d) c = some b) (q : Q (.bl b) H) : rIsi K [x, .ty c] H Q :=
  ⟨x, _, _, _, b, rfl, .ty c, tyx_D h, kit_ty e, q⟩
theorem dpa_get {K : PySem.W.Frag} {H : Hp} : ∀ {xs : List V} {ds : List PyData}, DpAll K H xs ds → ∀ {i : Nat} {d : PyData}, ds[i]? = some d → ∃ x, xs[i]? = some x ∧ Dp K H x d
  | _, _, .nil, _, _, h => by simp at h
  | _, _, .cons h _, 0, _, e => by
    cases e
    exact ⟨_, rfl, h⟩
  | _, _, .cons _ t, i + 1, d, e => by
    obtain ⟨x, h1, h2⟩ := dpa_get t (i := i) (d := d) (by simpa using e)
    exact ⟨x, by simpa using h1, h2⟩
theorem dpa_len {K : PySem.W.Frag} {H : Hp} : ∀ {xs : List V} {ds : List PyData}, DpAll K H xs ds → xs.length = ds.length
  | _, _, .nil => rfl
  | _, _, .cons _ t => by rw [List.length_cons, List.length_cons, dpa_len t]
def spSame (K : PySem.W.Frag) (n : Nat) : Sp := fun vs H Q _ => ∃ (x y : V) (d : PyData), vs = [x, y] ∧ Dp K H x d ∧ Dp K H y d ∧ okD n d ∧ Q (.bl true) H
theorem scSame : FnScope ["_law_actual", "_law_due_here", "_law_k"] ["_law_actual", "_law_due_here"] (defScope sSame) := ⟨rfl, rfl, rfl, by decide +kernel, rfl, by decide +kernel, by decide +kernel⟩
section
variable {P : Program} {w : World} {K : PySem.W.Frag} {mg : Str → Option Value} {base : Heap}
theorem ok_same {f : Addr} {fd : FuncData} (F : Fun K "_law_same" "_law_same" sSame f fd) (T : Gls mg) (TI : GlsI mg) (mS : mg "_law_same" = some (.ref f)) (b : Binds K fd ["_law_actual", "_law_due_here"] []) :
    ∀ n, FnOk P w K mg base CX0 n f fd ["_law_actual", "_law_due_here"] (spSame K n)
  | 0 => ⟨fun vs H Q E h => by obtain ⟨_, _, _, _, _, _, h, _⟩ := h; exact h.elim, fun A outer s H args us vs Q E _ _ _ _ h => by obtain ⟨_, _, _, _, _, _, h, _⟩ := h; exact h.elim⟩
  | n + 1 => by
    have G := ok_same F T TI mS b n
    refine F.ok scSame (fun vs H Q E h => ?_) (fun cdv A outer s H vs Q E hr h => ?_)
    · obtain ⟨x, y, d, rfl, _⟩ := h
      rfl
    · obtain ⟨x, y, d, rfl, hx, hy, hd, k⟩ := h
      have nd := scSame.nd
      refine ⟨_, pss_cons (ps_if (pt_cmp (pc_isN (pv 1))) (pss_one (ps_ret (pe_cmp (pc_isN (pv 0)) rfl))) pss_nil)
        (pss_cons (ps_if (pt_val (pe_callB call_isi (by rfl) TI.isi PyProof.Rows.boot_isinstance (pa_cons (pv 1) (pa_cons (pe_bltn (v := .ty "bool") (by rfl) TI.bool PyProof.Rows.boot_bool rfl) pa_nil))))
          (pss_one (ps_ret (pe_and (pe_callB call_isi (by rfl) TI.isi PyProof.Rows.boot_isinstance (pa_cons (pv 0) (pa_cons (pe_bltn (v := .ty "bool") (by rfl) TI.bool PyProof.Rows.boot_bool rfl) pa_nil))) (pe_one (pe_cmpR op_eq (pv 0) (pv 1) (nomark _)))))) pss_nil)
        (pss_cons (ps_if (pt_val (pe_callB call_isi (by rfl) TI.isi PyProof.Rows.boot_isinstance (pa_cons (pv 1) (pa_cons (pe_bltn (v := .ty "int") (by rfl) T.int PyProof.Rows.boot_int rfl) pa_nil))))
          (pss_one (ps_ret (pe_and (pe_callB call_isi (by rfl) TI.isi PyProof.Rows.boot_isinstance (pa_cons (pv 0) (pa_cons (pe_bltn (v := .ty "int") (by rfl) T.int PyProof.Rows.boot_int rfl) pa_nil)))
            (pe_and (pe_not (pe_callB call_isi (by rfl) TI.isi PyProof.Rows.boot_isinstance (pa_cons (pv 0) (pa_cons (pe_bltn (v := .ty "bool") (by rfl) TI.bool PyProof.Rows.boot_bool rfl) pa_nil)))) (pe_one (pe_cmpR op_eq (pv 0) (pv 1) (nomark _))))))) pss_nil)
        (pss_cons (ps_if (pt_val (pe_callB call_isi (by rfl) TI.isi PyProof.Rows.boot_isinstance (pa_cons (pv 1) (pa_cons (pe_bltn (v := .ty "str") (by rfl) TI.str PyProof.Rows.boot_str rfl) pa_nil))))
          (pss_one (ps_ret (pe_and (pe_callB call_isi (by rfl) TI.isi PyProof.Rows.boot_isinstance (pa_cons (pv 0) (pa_cons (pe_bltn (v := .ty "str") (by rfl) TI.str PyProof.Rows.boot_str rfl) pa_nil))) (pe_one (pe_cmpR op_eq (pv 0) (pv 1) (nomark _)))))) pss_nil)
        (pss_cons (ps_if (PW.pt (pw_and (pt_val (pe_callB call_isi (by rfl) TI.isi PyProof.Rows.boot_isinstance (pa_cons (pv 1) (pa_cons (pe_bltn (v := .ty "tuple") (by rfl) TI.tuple PyProof.Rows.boot_tuple rfl) pa_nil))))
          (pw_and1 (pt_not (pt_val (pe_callB call_isi (by rfl) TI.isi PyProof.Rows.boot_isinstance (pa_cons (pv 0) (pa_cons (pe_bltn (v := .ty "tuple") (by rfl) TI.tuple PyProof.Rows.boot_tuple rfl) pa_nil)))))))) (pss_one (ps_ret pe_bl)) pss_nil)
        (pss_cons (ps_if (PW.pt (pw_and (pt_val (pe_callB call_isi (by rfl) TI.isi PyProof.Rows.boot_isinstance (pa_cons (pv 1) (pa_cons (pe_bltn (v := .ty "list") (by rfl) TI.list PyProof.Rows.boot_list rfl) pa_nil))))
          (pw_and1 (pt_not (pt_val (pe_callB call_isi (by rfl) TI.isi PyProof.Rows.boot_isinstance (pa_cons (pv 0) (pa_cons (pe_bltn (v := .ty "list") (by rfl) TI.list PyProof.Rows.boot_list rfl) pa_nil)))))))) (pss_one (ps_ret pe_bl)) pss_nil)
        (pss_cons (ps_if (pt_cmpR op_ne (pe_callB call_len_seq (by rfl) T.len PySem.boot_len (pa_cons (pv 0) pa_nil)) (pe_callB call_len_seq (by rfl) T.len PySem.boot_len (pa_cons (pv 1) pa_nil)) (nomark _)) (pss_one (ps_ret pe_bl)) pss_nil)
        (pss_cons (ps_for PassesOwn.never rfl (pi_range1 rfl T.range (pa_cons (pe_callB call_len_seq (by rfl) T.len PySem.boot_len (pa_cons (pv 1) pa_nil)) pa_nil)) (pg_name (i := 2) nd rfl (Or.inl rfl))
          (pss_one (ps_if (pt_not (pt_val (pe_call G hr (by rfl) mS F.kp b .nil pass0 (pa_cons (pe_ix ix_seq (pv 0) (pv 2) (fun _ _ => rfl)) (pa_cons (pe_ix ix_seq (pv 1) (pv 2) (fun _ _ => rfl)) pa_nil))))) (pss_one (ps_ret pe_bl)) pss_nil)))
        (pss_one (ps_ret pe_bl))))))))), ?_⟩
      have kB : ∀ {z : V}, (Q (.bl (decide (z = z))) H) := fun {z} => by rw [decide_eq_true rfl]; exact k
      have hlist : (∃ (ds : List PyData) (xs ys : List V) (a c : Addr), x = .ref a ∧ y = .ref c ∧ SqL K H a xs ∧ SqL K H c ys ∧ d = .list ds ∧ DpAll K H xs ds ∧ DpAll K H ys ds) ∨ (∃ (ds : List PyData) (xs ys : List V) (a c : Addr), x = .ref a ∧ y = .ref c ∧ SqT K H a xs ∧ SqT K H c ys ∧ d = .tuple ds ∧ DpAll K H xs ds ∧ DpAll K H ys ds) ∨
          (x = y ∧ (d = .none ∧ x = .non ∨ (∃ c, d = .bool c ∧ x = .bl c) ∨ (∃ c, d = .int c ∧ x = .int c) ∨ (∃ c, d = .str c ∧ x = .str c))) := by
        cases hx with
        | non => cases hy; exact .inr (.inr ⟨rfl, .inl ⟨rfl, rfl⟩⟩)
        | bl c => cases hy; exact .inr (.inr ⟨rfl, .inr (.inl ⟨_, rfl, rfl⟩)⟩)
        | int c => cases hy; exact .inr (.inr ⟨rfl, .inr (.inr (.inl ⟨_, rfl, rfl⟩))⟩)
        | str c => cases hy; exact .inr (.inr ⟨rfl, .inr (.inr (.inr ⟨_, rfl, rfl⟩))⟩)
        | lst h1 h2 =>
          cases hy with
          | lst h3 h4 => exact .inl ⟨_, _, _, _, _, rfl, rfl, h1, h3, rfl, h2, h4⟩
        | tup h1 h2 =>
          cases hy with
          | tup h3 h4 => exact .inr (.inl ⟨_, _, _, _, _, rfl, rfl, h1, h3, rfl, h2, h4⟩)
      rcases hlist with ⟨ds, xs, ys, a, c, rfl, rfl, q1, q2, rfl, h2, h4⟩ | ⟨ds, xs, ys, a, c, rfl, rfl, q1, q2, rfl, h2, h4⟩ | ⟨rfl, ⟨rfl, rfl⟩ | ⟨c, rfl, rfl⟩ | ⟨c, rfl, rfl⟩ | ⟨c, rfl, rfl⟩⟩
      · obtain ⟨hz, hd⟩ := hd
        have hlen : xs.length = ys.length := by rw [dpa_len h2, dpa_len h4]
        have tail : ∀ {i : Nat}, i < ys.length → ∃ u v : V, atI xs ((0 : Int) + i) = some u ∧ atI ys ((0 : Int) + i) = some v ∧ ∃ e, Dp K H u e ∧ Dp K H v e ∧ okD n e := by
          intro i hi
          have hi' : i < ds.length := by rw [← dpa_len h4]; exact hi
          obtain ⟨u, u1, u2⟩ := dpa_get h2 (List.getElem?_eq_getElem hi')
          obtain ⟨v, v1, v2⟩ := dpa_get h4 (List.getElem?_eq_getElem hi')
          refine ⟨u, v, ?_, ?_, ds[i], u2, v2, hd _ (List.getElem_mem hi')⟩
          · rw [Int.zero_add]; exact atI_nat u1
          · rw [Int.zero_add]; exact atI_nat v1
        have hyl : ys.length ≤ 1000 := by rw [dpa_len h4]; exact hz
        refine ⟨_, rfl, _, rfl, iteF ?_⟩
        refine ⟨_, rfl, _, _, _, _, false, rfl, .ty _, tyx_L q2, kit_ty (by decide +kernel : kitB "list" "bool" = some false), _, rfl, iteF ?_⟩
        refine ⟨_, rfl, _, _, _, _, false, rfl, .ty _, tyx_L q2, kit_ty (by decide +kernel : kitB "list" "int" = some false), _, rfl, iteF ?_⟩
        refine ⟨_, rfl, _, _, _, _, false, rfl, .ty _, tyx_L q2, kit_ty (by decide +kernel : kitB "list" "str" = some false), _, rfl, iteF ?_⟩
        refine ⟨_, rfl, _, _, _, _, false, rfl, .ty _, tyx_L q2, kit_ty (by decide +kernel : kitB "list" "tuple" = some false), _, rfl, iteF (iteF ?_)⟩
        refine ⟨_, rfl, _, _, _, _, true, rfl, .ty _, tyx_L q2, kit_ty (by decide +kernel : kitB "list" "list" = some true), _, rfl, iteT ?_⟩
        refine ⟨_, rfl, _, _, _, _, true, rfl, .ty _, tyx_L q1, kit_ty (by decide +kernel : kitB "list" "list" = some true), _, rfl, iteF ?_⟩
        refine ⟨_, rfl, a, _, rfl, .inl q1, _, rfl, c, _, rfl, .inl q2, rfl, _, rfl, iteNS (by rw [hlen]) ?_⟩
        refine ⟨_, rfl, c, _, rfl, .inl q2, (ys.length : Int), rfl, by omega, by omega, for_range (lo := 0) (n := ys.length) (fun i σ H2 => ∃ (vk : Option V), σ = [some (.ref a), some (.ref c), vk] ∧ H2 = H) ⟨_, rfl, rfl⟩ ?_ ?_⟩
        · rintro i σ H2 hi ⟨vk, rfl, rfl⟩
          obtain ⟨u, v, hu, hv, e, he1, he2, he3⟩ := tail hi
          exact ⟨_, rfl, _, rfl, .inl ⟨_, _, _, _, rfl, rfl, q1, hu, ⟨_, rfl, _, rfl, .inl ⟨_, _, _, _, rfl, rfl, q2, hv, ⟨_, _, e, rfl, he1, he2, he3, _, rfl, iteF ⟨_, rfl, rfl⟩⟩⟩⟩⟩⟩
        · rintro σ H2 ⟨vk, rfl, rfl⟩
          exact k
      · obtain ⟨hz, hd⟩ := hd
        have hlen : xs.length = ys.length := by rw [dpa_len h2, dpa_len h4]
        have tail : ∀ {i : Nat}, i < ys.length → ∃ u v : V, atI xs ((0 : Int) + i) = some u ∧ atI ys ((0 : Int) + i) = some v ∧ ∃ e, Dp K H u e ∧ Dp K H v e ∧ okD n e := by
          intro i hi
          have hi' : i < ds.length := by rw [← dpa_len h4]; exact hi
          obtain ⟨u, u1, u2⟩ := dpa_get h2 (List.getElem?_eq_getElem hi')
          obtain ⟨v, v1, v2⟩ := dpa_get h4 (List.getElem?_eq_getElem hi')
          refine ⟨u, v, ?_, ?_, ds[i], u2, v2, hd _ (List.getElem_mem hi')⟩
          · rw [Int.zero_add]; exact atI_nat u1
          · rw [Int.zero_add]; exact atI_nat v1
        have hyl : ys.length ≤ 1000 := by rw [dpa_len h4]; exact hz
        refine ⟨_, rfl, _, rfl, iteF ?_⟩
        refine ⟨_, rfl, _, _, _, _, false, rfl, .ty _, tyx_T q2, kit_ty (by decide +kernel : kitB "tuple" "bool" = some false), _, rfl, iteF ?_⟩
        refine ⟨_, rfl, _, _, _, _, false, rfl, .ty _, tyx_T q2, kit_ty (by decide +kernel : kitB "tuple" "int" = some false), _, rfl, iteF ?_⟩
        refine ⟨_, rfl, _, _, _, _, false, rfl, .ty _, tyx_T q2, kit_ty (by decide +kernel : kitB "tuple" "str" = some false), _, rfl, iteF ?_⟩
        refine ⟨_, rfl, _, _, _, _, true, rfl, .ty _, tyx_T q2, kit_ty (by decide +kernel : kitB "tuple" "tuple" = some true), _, rfl, iteT ?_⟩
        refine ⟨_, rfl, _, _, _, _, true, rfl, .ty _, tyx_T q1, kit_ty (by decide +kernel : kitB "tuple" "tuple" = some true), _, rfl, iteF ?_⟩
        refine ⟨_, rfl, _, _, _, _, false, rfl, .ty _, tyx_T q2, kit_ty (by decide +kernel : kitB "tuple" "list" = some false), _, rfl, iteF (iteF ?_)⟩
        refine ⟨_, rfl, a, _, rfl, .inr q1, _, rfl, c, _, rfl, .inr q2, rfl, _, rfl, iteNS (by rw [hlen]) ?_⟩
        refine ⟨_, rfl, c, _, rfl, .inr q2, (ys.length : Int), rfl, by omega, by omega, for_range (lo := 0) (n := ys.length) (fun i σ H2 => ∃ (vk : Option V), σ = [some (.ref a), some (.ref c), vk] ∧ H2 = H) ⟨_, rfl, rfl⟩ ?_ ?_⟩
        · rintro i σ H2 hi ⟨vk, rfl, rfl⟩
          obtain ⟨u, v, hu, hv, e, he1, he2, he3⟩ := tail hi
          exact ⟨_, rfl, _, rfl, .inr (.inl ⟨_, _, _, _, rfl, rfl, q1, hu, ⟨_, rfl, _, rfl, .inr (.inl ⟨_, _, _, _, rfl, rfl, q2, hv, ⟨_, _, e, rfl, he1, he2, he3, _, rfl, iteF ⟨_, rfl, rfl⟩⟩⟩)⟩⟩)⟩
        · rintro σ H2 ⟨vk, rfl, rfl⟩
          exact k
      · exact ⟨_, rfl, _, rfl, iteT ⟨_, rfl, kB⟩⟩
      · refine ⟨_, rfl, _, rfl, iteF ?_⟩
        exact ⟨_, rfl, _, _, _, _, true, rfl, .ty _, .base (.bl c), kit_ty (by decide +kernel : kitB "bool" "bool" = some true), _, rfl, iteT ⟨_, rfl, _, _, _, _, true, rfl, .ty _, .base (.bl c), kit_ty (by decide +kernel : kitB "bool" "bool" = some true), _, rfl, iteT ⟨_, rfl, _, rfl, rfl, kB⟩⟩⟩
      · refine ⟨_, rfl, _, rfl, iteF ?_⟩
        refine ⟨_, rfl, _, _, _, _, false, rfl, .ty _, .base (.int c), kit_ty (by decide +kernel : kitB "int" "bool" = some false), _, rfl, iteF ?_⟩
        exact ⟨_, rfl, _, _, _, _, true, rfl, .ty _, .base (.int c), kit_ty (by decide +kernel : kitB "int" "int" = some true), _, rfl, iteT ⟨_, rfl, _, _, _, _, true, rfl, .ty _, .base (.int c), kit_ty (by decide +kernel : kitB "int" "int" = some true), _, rfl, iteT ⟨_, rfl, _, _, _, _, false, rfl, .ty _, .base (.int c), kit_ty (by decide +kernel : kitB "int" "bool" = some false), _, rfl, _, rfl, iteT ⟨_, rfl, _, rfl, rfl, kB⟩⟩⟩⟩
      · refine ⟨_, rfl, _, rfl, iteF ?_⟩
        refine ⟨_, rfl, _, _, _, _, false, rfl, .ty _, .base (.str c), kit_ty (by decide +kernel : kitB "str" "bool" = some false), _, rfl, iteF ?_⟩
        refine ⟨_, rfl, _, _, _, _, false, rfl, .ty _, .base (.str c), kit_ty (by decide +kernel : kitB "str" "int" = some false), _, rfl, iteF ?_⟩
        exact ⟨_, rfl, _, _, _, _, true, rfl, .ty _, .base (.str c), kit_ty (by decide +kernel : kitB "str" "str" = some true), _, rfl, iteT ⟨_, rfl, _, _, _, _, true, rfl, .ty _, .base (.str c), kit_ty (by decide +kernel : kitB "str" "str" = some true), _, rfl, iteT ⟨_, rfl, _, rfl, rfl, kB⟩⟩⟩
end
end My
namespace My
open PySem L2
open Evl (pss_cut)
abbrev sRInit : Stmt := inClass (topS 2) 0
abbrev sROf : Stmt := inClass (topS 2) 1
abbrev sRSt : Stmt := inClass (topS 2) 2
abbrev sHas : Stmt := topS 3
def stanD : List (List Str) := [["own", "nested", "around", "below", "heir", "package", "any"], ["nested", "below", "heir", "package", "any"], ["around", "package", "any"], ["below", "heir", "package", "any"], ["below", "heir", "any"], ["heir", "package", "any"], ["heir", "any"], ["package", "any"], ["any"]]
def sV (l : List Str) : List V := l.map V.str
theorem flat_sV (l : List Str) : (sV l).all flatV = true := by
  unfold sV
  rw [List.all_map]
  exact List.all_eq_true.mpr fun _ _ => rfl
theorem inV_sV (x : Str) : ∀ l : List Str, inV (.str x) (sV l) = decide (x ∈ l)
  | [] => rfl
  | y :: l => by
    have ih := inV_sV x l
    unfold inV sV at ih ⊢
    rw [List.map_cons, List.any_cons, ih]
    have e : eqV (.str y) (.str x) = decide (x = y) := by
      by_cases h : x = y
      · subst h; simp [eqV]
      · have h' : ¬ y = x := fun z => h z.symm
        simp [eqV, h, h']
    rw [e]
    by_cases h : x = y <;> simp [h]
/-- the tuples of texts at as, one a stance -/
def TupsAt (K : PySem.W.Frag) (H : Hp) (as : List Addr) (ds : List (List Str)) : Prop := Paired (fun a d => SqT K H a (sV d)) as ds
theorem Same.seqT {K : PySem.W.Frag} {H H' : Hp} {a : Addr} {xs : List V} (e : Same H H') (h : SqT K H a xs) : SqT K H' a xs := by
  rcases h with (h | ⟨o, h⟩) | h
  · exact .inl (.inl (e _ _ h))
  · exact .inl (.inr ⟨o, e _ _ h⟩)
  · exact .inr h
theorem same_new {H : Hp} {p : Addr} {o : HO} (h : H p = none) : Same H (upd H p o) := fun b u e => by rw [upd_ne (ne_of_none e h)]; exact e
theorem same_up {H H' : Hp} {p : Addr} {o : HO} (s : Same H H') (h : H p = none) : Same H (upd H' p o) := fun b u e => by rw [upd_ne (ne_of_none e h)]; exact s b u e
theorem TupsAt.mono {K : PySem.W.Frag} {H H' : Hp} (s : Same H H') : ∀ {as : List Addr} {ds : List (List Str)}, TupsAt K H as ds → TupsAt K H' as ds
  | _, _, .nil => .nil
  | _, _, .cons h t => .cons (Same.seqT s h) (TupsAt.mono s t)
theorem TupsAt.len {K : PySem.W.Frag} {H : Hp} {as : List Addr} {ds : List (List Str)} (h : TupsAt K H as ds) : as.length = ds.length := Paired.length h
theorem TupsAt.get {K : PySem.W.Frag} {H : Hp} : ∀ {as : List Addr} {ds : List (List Str)}, TupsAt K H as ds → ∀ {i : Nat} {a : Addr}, as[i]? = some a → ∃ d, ds[i]? = some d ∧ SqT K H a (sV d)
  | _, _, .nil, _, _, e => by simp at e
  | _, _, .cons h _, 0, _, e => by
    cases e
    exact ⟨_, rfl, h⟩
  | _, _, .cons _ t, i + 1, a, e => by
    obtain ⟨d, h1, h2⟩ := TupsAt.get t (i := i) (a := a) (by simpa using e)
    exact ⟨d, by simpa using h1, h2⟩
theorem TupsAt.snoc {K : PySem.W.Frag} {H : Hp} : ∀ {as : List Addr} {ds : List (List Str)} {a : Addr} {d : List Str}, TupsAt K H as ds → SqT K H a (sV d) → TupsAt K H (as ++ [a]) (ds ++ [d])
  | _, _, _, _, .nil, h => .cons h .nil
  | _, _, _, _, .cons q t, h => .cons q (TupsAt.snoc t h)
/-- a Rule stands at r, it lets ds -/
def RuleAt (K : PySem.W.Frag) (C : Addr) (H : Hp) (r : Addr) (ds : List (List Str)) : Prop := ∃ (dx t : Addr) (as : List Addr), H r = some (.ins C dx [("_let", .ref t)]) ∧ H t = some (.tup (as.map V.ref)) ∧ TupsAt K H as ds
theorem RuleAt.mono {K : PySem.W.Frag} {C : Addr} {H H' : Hp} {r : Addr} {ds : List (List Str)} (s : Same H H') (h : RuleAt K C H r ds) : RuleAt K C H' r ds := by
  obtain ⟨dx, t, as, h1, h2, h3⟩ := h
  exact ⟨dx, t, as, s _ _ h1, s _ _ h2, h3.mono s⟩
theorem take_snoc {α : Type} {l : List α} {i : Nat} {x : α} (h : l[i]? = some x) : l.take (i + 1) = l.take i ++ [x] := by
  obtain ⟨hi, e⟩ := List.getElem?_eq_some_iff.mp h
  rw [← e]
  exact (List.take_append_getElem hi).symm
structure GlsR (K : PySem.W.Frag) (mg : Str → Option Value) (C aS : Addr) : Prop where
  cl : Cls K C
  nL : NoAttr K C "_let"
  tuple : mg "tuple" = none
  any : mg "any" = none
  mS : mg "STANCES" = some (.ref aS)
  st : ∃ as : List Addr, (∀ H, SqT K H aS (as.map V.ref)) ∧ ∀ H, TupsAt K H as stanD
def spRInit (K : PySem.W.Frag) (C : Addr) : Sp := fun vs H Q _ => ∃ (r dx l : Addr) (xs : List V), vs = [.ref r, .ref l] ∧ H r = some (.ins C dx []) ∧ SqL K H l xs ∧ xs.length ≤ 1000 ∧
  ∀ t, H t = none → Q .non (upd (upd H t (.tup xs)) r (.ins C dx [("_let", .ref t)]))
theorem scRI : FnScope ["self", "stances"] ["self", "stances"] (defScope sRInit) := ⟨rfl, rfl, rfl, by decide +kernel, rfl, by decide +kernel, by decide +kernel⟩
section
variable {P : Program} {w : World} {K : PySem.W.Frag} {mg : Str → Option Value} {base : Heap}
theorem ok_rinit {f C aS : Addr} {fd : FuncData} (F : Fun K "__init__" "Rule.__init__" sRInit f fd) (T : GlsR K mg C aS) : FnOk P w K mg base CX0 1 f fd ["self", "stances"] (spRInit K C) := by
  refine F.ok scRI (fun vs H Q E h => ?_) (fun cdv A outer s H vs Q E hr h => ?_)
  · obtain ⟨r, dx, l, xs, rfl, _⟩ := h
    rfl
  · obtain ⟨r, dx, l, xs, rfl, hp, hl, hx, k⟩ := h
    refine ⟨_, pss_one (ps_fld (pv 0) (pe_callTy call_tuple_of (by rfl) T.tuple PyProof.Rows.boot_tuple (pa_cons (pv 1) pa_nil)) rfl), ?_⟩
    refine ⟨_, rfl, l, _, rfl, .inl ⟨hl, fun t ht => ?_⟩⟩
    exact ⟨_, rfl, r, C, dx, [], rfl, (by rw [upd_ne (ne_of_none hp ht)]; exact hp), T.cl, T.nL, (by show 0 < 1000; decide), k t ht⟩
def spHas (K : PySem.W.Frag) : Sp := fun vs H Q _ => ∃ (a b : Addr) (st ws : List Str), vs = [.ref a, .ref b] ∧ SqT K H a (sV st) ∧ SqT K H b (sV ws) ∧ ws.length ≤ 1000 ∧ ∀ H', Same H H' → Q (.bl (ws.any fun x => decide (x ∈ st))) H'
theorem scHas : FnScope ["stance", "words", "word"] ["stance", "words"] (defScope sHas) := ⟨rfl, rfl, rfl, by decide +kernel, rfl, by decide +kernel, by decide +kernel⟩
theorem ok_has {f C aS : Addr} {fd : FuncData} (F : Fun K "_has_one_of" "_has_one_of" sHas f fd) (T : GlsR K mg C aS) : FnOk P w K mg base CX0 1 f fd ["stance", "words"] (spHas K) := by
  refine F.ok scHas (fun vs H Q E h => ?_) (fun cdv A outer s H vs Q E hr h => ?_)
  · obtain ⟨a, b, st, ws, rfl, _⟩ := h
    rfl
  · obtain ⟨a, b, st, ws, rfl, hA, hB, hz, k⟩ := h
    have nd := scHas.nd
    refine ⟨_, pss_one (ps_ret (pe_callB (cr_any rfl) (by rfl) T.any (by decide +kernel) (pa_cons (pe_lc (own := [("word", 2)]) (g := gName 2) (tt := tYes) rfl nd (pi_tup (pv 1)) (blkOk_by (own := [("word", 2)]) (N := ["stance", "words", "word"]) (sc := defScope sHas) (by decide +kernel))
      (fun _ _ _ _ _ => pg_name (i := 2) nd rfl (Or.inl rfl)) (fun _ _ _ _ _ => pts_nil) (fun _ _ _ _ _ => pe_cmpR (show OpR _ (compareOp .In) (rIn K false) from op_in_seq) (pv 2) (pv 0) (by rfl))) pa_nil))), ?_⟩
    refine ⟨_, rfl, b, rfl, ⟨_, hB⟩, fun D hD => ?_⟩
    refine lc_tup (K := K) (a := b) (xs := sV ws) (fun i H2 => Same H H2 ∧ H2 D = some (.lst ((ws.take i).map fun x => V.bl (decide (x ∈ st))))) ⟨same_new hD, upd_same⟩ (fun i H2 _ h => Same.seqT h.1 hB) ?_ ?_
    · rintro i x H2 hi ⟨s2, hD2⟩
      obtain ⟨z, hz', rfl⟩ : ∃ z, ws[i]? = some z ∧ x = V.str z := by
        unfold sV at hi
        rw [List.getElem?_map] at hi
        cases e : ws[i]? with
        | none => rw [e] at hi; cases hi
        | some z => rw [e] at hi; exact ⟨z, rfl, (Option.some.inj hi).symm⟩
      have hil : i < ws.length := (List.getElem?_eq_some_iff.mp hz').1
      refine ⟨rfl, ?_⟩
      refine ⟨_, rfl, _, rfl, a, _, rfl, .inr (Same.seqT s2 hA), rfl, flat_sV _, ?_⟩
      refine ⟨_, hD2, small1000 (by rw [List.length_map, List.length_take]; omega), same_up s2 hD, ?_⟩
      rw [upd_same, take_snoc hz', List.map_append]
      show some (HO.lst (_ ++ [V.bl (inV (.str z) (sV st))])) = _
      rw [inV_sV]
      rfl
    · rintro H2 ⟨s2, hD2⟩
      refine ⟨D, ws.map fun x => decide (x ∈ st), rfl, ?_, ?_⟩
      · have e : (sV ws).length = ws.length := List.length_map ..
        rw [e, List.take_length] at hD2
        rw [List.map_map]
        exact SqL.of hD2
      · rw [List.any_map]
        exact k H2 s2
end
end My
namespace My
open PySem L2
open Evl (pss_cut)
/-- x(e, ..), the i-th slot holds the class at C -/
def tMakeL (i : Nat) (C : Addr) (sp : Sp) (E : XK) (t : TA) : TE := fun σ H Q => σ[i]? = some (some (.ref C)) ∧ tMake C sp [] E t σ H Q
theorem pe_makeL {X : Cx} {CX : CXT} {k i : Nat} {f C : Addr} {fd : FuncData} {ps : List Str} {sp : Sp} {E : XK} {x : Str} {p pos : Pos} {e : Expr} {es : List Expr} {t : TA}
    (M : Mk X.K C f) (F : FnOk X.prog X.w X.K X.mg X.base CX k f fd ps sp) (hr : Room (k + 1) X.A) (hN : X.N[i]? = some x) (hv : Vis X.env.scope x) (hb : Binds X.K fd ps []) (hx : Passes CX X E) (ha : PA X (e :: es) t)
    (hdb : (x == ("__debug__" : Str)) = false := by decide) (hcd : (x == ("__classdict__" : Str)) = false := by decide)
    (he : starEach (e :: es) X.env = (false, eval e X.env) :: starEach es X.env := by rfl) (hpl : (backTo pos (starEach es X.env)).any (·.1) = false := by rfl) : PE X (.Call (.Name x p) (e :: es) [] pos) (tMakeL i C sp E t) := by
  constructor
  rintro pins s σ H Q I ⟨hs, ht⟩
  apply wpAny_Call_Name_kw
  apply thn ((pe_var (pos := p) hN hv hdb hcd).run pins s σ H (fun v H1 => v = .ref C ∧ H1 = H) I ⟨.ref C, hs, rfl, rfl⟩)
  rintro u s1 ⟨v, H1, I1, r1, rfl, rfl⟩
  cases r1
  apply PySem.W.callWith_K (h₀ := X.base) I.ok.mod.kin M.kp _ he hpl
  apply thn (ha.run pos pins s1 σ _ _ I1 ht)
  rintro us s2 ⟨vs, H2, I2, r, q⟩
  exact ⟨I2.kIn, run_make M F hr hb .nil hx I2 r q⟩
def letOf (ws : List Str) : List (List Str) := stanD.filter fun st => ws.any fun x => decide (x ∈ st)
def spOf0 (K : PySem.W.Frag) (C : Addr) : Sp := fun vs H Q _ => ∃ (b : Addr) (ws : List Str), vs = [.ref C, .ref b] ∧ SqT K H b (sV ws) ∧ ws.length ≤ 1000 ∧
  ∀ r H', H r = none → Same H H' → RuleAt K C H' r (letOf ws) → Q (.ref r) H'
def spOf (K : PySem.W.Frag) (C : Addr) : Sp := fun vs H Q _ => ∃ (ws : List Str), vs = V.ref C :: sV ws ∧ ws.length ≤ 1000 ∧
  ∀ r H', H r = none → Same H H' → RuleAt K C H' r (letOf ws) → Q (.ref r) H'
theorem filter_take_snoc {α : Type} {l : List α} {i : Nat} {x : α} (p : α → Bool) (h : l[i]? = some x) : (l.take (i + 1)).filter p = (l.take i).filter p ++ (if p x = true then [x] else []) := by
  rw [take_snoc h, List.filter_append]
  congr 1
  by_cases e : p x = true
  · rw [if_pos e, List.filter_cons, if_pos e]; rfl
  · rw [if_neg e, List.filter_cons, if_neg e]; rfl
theorem same_free {H H' : Hp} (e : Same H H') {l : Addr} (h : H' l = none) : H l = none := Same.free e h

theorem scOf : FnScope ["cls", "words", "let", "stance"] ["cls", "words"] (defScope sROf) := ⟨rfl, rfl, rfl, by decide +kernel, rfl, by decide +kernel, by decide +kernel⟩
section
variable {P : Program} {w : World} {K : PySem.W.Frag} {mg : Str → Option Value} {base : Heap}
theorem ok_of {f C aS fI fH : Addr} {fd fdI fdH : FuncData} (F : Fun K "of" "Rule.of" sROf f fd) (T : GlsR K mg C aS) (M : Mk K C fI) (FI : Fun K "__init__" "Rule.__init__" sRInit fI fdI) (bI : Binds K fdI ["self", "stances"] [])
    (FH : Fun K "_has_one_of" "_has_one_of" sHas fH fdH) (bH : Binds K fdH ["stance", "words"] []) (mH : mg "_has_one_of" = some (.ref fH))
    (hb : ∀ us rest : List Value, us.length = [("cls" : Str)].length → bindArgs fd ⟨us ++ rest, []⟩ = (newTuple rest >>= fun t => pure ([("cls" : Str)].zip us ++ [(("words" : Str), t)]))) : FnR P w K mg base CX0 3 f (spOf K C) := by
  have GI : FnOk P w K mg base CX0 1 fI fdI ["self", "stances"] (spRInit K C) := ok_rinit FI T
  have GH : FnOk P w K mg base CX0 1 fH fdH ["stance", "words"] (spHas K) := ok_has FH T
  obtain ⟨oc, od, kV, doc, pm, an, cdv, ct, osl, rfl, lk, hcd⟩ := F.ex
  have main := StX.fn_star (CX := CX0) (P := P) (w := w) (K := K) (mg := mg) (base := base) (k := 2) (ps := ["cls"]) (pv := "words") (sp := spOf0 K C) lk hcd scOf StX.cxUp_none hb (fun A outer s H vs Q E hr h => ?_)
  · intro A outer s H us vs Q E hr e0 r h
    refine main A outer s H us vs Q E hr e0 r ?_
    obtain ⟨ws, rfl, hz, k⟩ := h
    refine ⟨[.ref C], sV ws, rfl, rfl, ?_, fun p hp => ⟨p, ws, rfl, SqT.of upd_same, hz, fun r H' hr' s' R => k r H' ?_ ?_ R⟩⟩
    · unfold sV
      rw [List.length_map]
      exact Nat.le_of_lt (small1000 hz)
    · exact same_free (same_new hp) hr'
    · exact (same_new hp).trans s'
  · obtain ⟨b, ws, rfl, hB, hz, k⟩ := h
    have nd := scOf.nd
    have hr1 : Room 1 _ := hr.mono (by decide)
    obtain ⟨as, hS, hT⟩ := T.st
    have hlen : as.length = stanD.length := (hT H).len
    refine ⟨_, pss_cons (ps_setLc (i := 2) (own := [("stance", 3)]) (g := gName 3) rfl nd rfl rfl (sw_true rfl rfl rfl (by decide +kernel)) (pi_tup (pe_glob (v := .ref aS) rfl T.mS rfl)) (blkOk_by (own := [("stance", 3)]) (N := ["cls", "words", "let", "stance"]) (sc := defScope sROf) (by decide +kernel))
      (fun _ _ _ _ _ => pg_name (i := 3) nd rfl (Or.inl rfl)) (fun _ _ _ _ _ => pts_one (pt_val (pe_call GH hr1 (by rfl) mH FH.kp bH .nil pass0 (pa_cons (pv 3) (pa_cons (pv 1) pa_nil))))) (fun _ _ _ _ _ => pv 3))
      (pss_one (ps_ret (pe_makeL (i := 0) M GI hr rfl (Or.inl rfl) bI pass0 (pa_cons (pv 2) pa_nil)))), ?_⟩
    refine ⟨aS, rfl, ⟨_, hS H⟩, fun D hD => ?_⟩
    refine lc_tup (K := K) (a := aS) (xs := as.map V.ref) (fun i H2 => Same H H2 ∧ ∃ bs : List Addr, H2 D = some (.lst (bs.map V.ref)) ∧ bs.length ≤ i ∧ TupsAt K H2 bs ((stanD.take i).filter fun st => ws.any fun x => decide (x ∈ st))) ⟨same_new hD, [], upd_same, Nat.le_refl _, .nil⟩ (fun i H2 _ h => hS H2) ?_ ?_
    · rintro i x H2 hi ⟨s2, bs, hD2, hbl, hT2⟩
      obtain ⟨a, ha, rfl⟩ : ∃ a, as[i]? = some a ∧ x = V.ref a := by
        rw [List.getElem?_map] at hi
        cases e : as[i]? with
        | none => rw [e] at hi; cases hi
        | some z => rw [e] at hi; exact ⟨z, rfl, (Option.some.inj hi).symm⟩
      have hil : i < as.length := (List.getElem?_eq_some_iff.mp ha).1
      have h9 : stanD.length = 9 := rfl
      obtain ⟨d, hd, hat⟩ := (hT H2).get ha
      refine ⟨rfl, _, rfl, _, rfl, a, b, d, ws, rfl, hat, Same.seqT s2 hB, hz, fun H3 s3 => ⟨_, rfl, ?_⟩⟩
      have hfl := filter_take_snoc (fun st => ws.any fun x => decide (x ∈ st)) hd
      refine ite2 (fun hc => ?_) (fun hc => ?_)
      · rw [if_pos hc] at hfl
        refine ⟨_, rfl, _, s3 _ _ hD2, small1000 (by rw [List.length_map]; omega), same_up (s2.trans s3) hD, bs ++ [a], ?_, by rw [List.length_append, List.length_singleton]; omega, ?_⟩
        · rw [upd_same, List.map_append]; rfl
        · rw [hfl]
          have hDn : ∀ {q : Addr} {xs : List V}, SqT K H3 q xs → SqT K (upd H3 D (.lst (bs.map V.ref ++ [V.ref a]))) q xs := fun {q xs} hq => by
            have hDl := s3 _ _ hD2
            rcases hq with (hq | ⟨o, hq⟩) | hq
            · exact .inl (.inl (by rw [upd_ne (ne_of hq hDl (by intro z; cases z))]; exact hq))
            · exact .inl (.inr ⟨o, by rw [upd_ne (ne_of hq hDl (by intro z; cases z))]; exact hq⟩)
            · exact .inr hq
          have hT3 := TupsAt.mono s3 hT2
          have hT4 : TupsAt K (upd H3 D (.lst (bs.map V.ref ++ [V.ref a]))) bs _ := Paired.mapP hT3 fun _ _ q => hDn q
          exact hT4.snoc (hDn (Same.seqT s3 hat))
      · rw [if_neg hc, List.append_nil] at hfl
        refine ⟨s2.trans s3, bs, s3 _ _ hD2, by omega, ?_⟩
        rw [hfl]
        exact hT2.mono s3
    · rintro H2 ⟨s2, bs, hD2, hbl, hT2⟩
      have e : (as.map V.ref).length = stanD.length := by rw [List.length_map, hlen]
      rw [e, List.take_length] at hT2
      refine ⟨rfl, _, rfl, fun x dx nx ndx nex => ?_⟩
      have sm : Same H2 (upd (upd H2 dx (.own x)) x (.ins C dx [])) := (same_new ndx).trans (same_new (by rw [upd_ne (Ne.symm nex)]; exact nx))
      refine ⟨x, dx, D, bs.map V.ref, rfl, upd_same, sm.seq (SqL.of hD2), ?_, fun t ht => ⟨rfl, ?_⟩⟩
      · rw [List.length_map]
        rw [e] at hbl
        exact Nat.le_trans hbl (by decide)
      · have nxt : x ≠ t := fun z => by rw [← z, upd_same] at ht; cases ht
        have sf : Same H2 (upd (upd (upd (upd H2 dx (.own x)) x (.ins C dx [])) t (.tup (bs.map V.ref))) x (.ins C dx [("_let", .ref t)])) := by
          intro q o hq
          have h1 : q ≠ x := ne_of_none hq nx
          rw [upd_ne h1, upd_ne (ne_of_none (sm _ _ hq) ht)]
          exact sm _ _ hq
        refine k x _ (same_free s2 nx) (s2.trans sf) ⟨dx, t, bs, upd_same, by rw [upd_ne (Ne.symm nxt), upd_same], ?_⟩
        exact hT2.mono sf
end
end My
namespace My
open PySem L2
open Evl (pss_cut)
abbrev sWords : Stmt := topS 6
abbrev sStans : Stmt := topS 7
abbrev sLOf : Stmt := topS 9
abbrev sDue : Stmt := topS 10
theorem seqT_updL {K : PySem.W.Frag} {H : Hp} {D q : Addr} {l l' xs : List V} (hD : H D = some (.lst l)) (hq : SqT K H q xs) : SqT K (upd H D (.lst l')) q xs := by
  rcases hq with (hq | ⟨o, hq⟩) | hq
  · exact .inl (.inl (by rw [upd_ne (ne_of hq hD (by intro z; cases z))]; exact hq))
  · exact .inl (.inr ⟨o, by rw [upd_ne (ne_of hq hD (by intro z; cases z))]; exact hq⟩)
  · exact .inr hq
theorem TupsAt.updL {K : PySem.W.Frag} {H : Hp} {D : Addr} {l l' : List V} {as : List Addr} {ds : List (List Str)} (hD : H D = some (.lst l)) (h : TupsAt K H as ds) : TupsAt K (upd H D (.lst l')) as ds :=
  Paired.mapP h fun _ _ q => seqT_updL hD q
def wordsD : List Str := ["own", "nested", "around", "below", "heir", "package", "any"]
def spRSt (C : Addr) : Sp := fun vs H Q _ => ∃ (r dx t : Addr), vs = [.ref r] ∧ H r = some (.ins C dx [("_let", .ref t)]) ∧ Q (.ref t) H
theorem scRSt : FnScope ["self"] ["self"] (defScope sRSt) := ⟨rfl, rfl, rfl, by decide +kernel, rfl, by decide +kernel, by decide +kernel⟩
theorem scWords : FnScope [] [] (defScope sWords) := ⟨rfl, rfl, rfl, by decide +kernel, rfl, by decide +kernel, by decide +kernel⟩
theorem scStans : FnScope ["_law_texts", "_law_text"] [] (defScope sStans) := ⟨rfl, rfl, rfl, by decide +kernel, rfl, by decide +kernel, by decide +kernel⟩
def spWords : Sp := fun vs H Q _ => vs = [] ∧ ∀ p H', H p = none → Same H H' → H' p = some (.lst (sV wordsD)) → Q (.ref p) H'
/-- a list of new tuples of texts -/
def spStans (K : PySem.W.Frag) : Sp := fun vs H Q _ => vs = [] ∧ ∀ p H' as, H p = none → Same H H' → H' p = some (.lst (as.map V.ref)) → TupsAt K H' as stanD → Q (.ref p) H'
section
variable {P : Program} {w : World} {K : PySem.W.Frag} {mg : Str → Option Value} {base : Heap}
theorem ok_rst {f C aS : Addr} {fd : FuncData} (F : Fun K "stances" "Rule.stances" sRSt f fd) (T : GlsR K mg C aS) : FnOk P w K mg base CX0 1 f fd ["self"] (spRSt C) := by
  refine F.ok scRSt (fun vs H Q E h => ?_) (fun cdv A outer s H vs Q E hr h => ?_)
  · obtain ⟨r, dx, t, rfl, _⟩ := h
    rfl
  · obtain ⟨r, dx, t, rfl, hp, k⟩ := h
    refine ⟨_, pss_one (ps_ret (pe_fld (pv 0) rfl)), ?_⟩
    exact ⟨_, rfl, r, C, dx, _, _, rfl, hp, T.cl, T.nL, rfl, k⟩
theorem ok_words {f : Addr} {fd : FuncData} (F : Fun K "_law_words" "_law_words" sWords f fd) : FnOk P w K mg base CX0 1 f fd [] spWords := by
  refine F.ok scWords (fun vs H Q E h => ?_) (fun cdv A outer s H vs Q E hr h => ?_)
  · rw [h.1]; rfl
  · obtain ⟨rfl, k⟩ := h
    refine ⟨_, pss_one (ps_ret (pe_lst (pa_cons pe_str (pa_cons pe_str (pa_cons pe_str (pa_cons pe_str (pa_cons pe_str (pa_cons pe_str (pa_cons pe_str pa_nil))))))))), ?_⟩
    exact ⟨by show 7 ≤ sizeLine; decide, fun p hp => k p _ hp (same_new hp) upd_same⟩
def textsD : List Str := ["own nested around below heir package any", "nested below heir package any", "around package any", "below heir package any", "below heir any", "heir package any", "heir any", "package any", "any"]
theorem ok_stans {f C aS : Addr} {fd : FuncData} (F : Fun K "_law_stances" "_law_stances" sStans f fd) (T : GlsR K mg C aS) : FnOk P w K mg base CX0 1 f fd [] (spStans K) := by
  refine F.ok scStans (fun vs H Q E h => ?_) (fun cdv A outer s H vs Q E hr h => ?_)
  · rw [h.1]; rfl
  · obtain ⟨rfl, k⟩ := h
    have nd := scStans.nd
    refine ⟨_, pss_cons (ps_set (i := 0) nd rfl (Or.inl rfl) (pe_lst (pa_cons pe_str (pa_cons pe_str (pa_cons pe_str pa_nil)))))
      (pss_cons (ps_set (i := 0) nd rfl (Or.inl rfl) (pe_op op_cat (pv 0) (pe_lst (pa_cons pe_str (pa_cons pe_str (pa_cons pe_str (pa_cons pe_str (pa_cons pe_str (pa_cons pe_str pa_nil)))))))))
      (pss_one (ps_ret (pe_lc (own := [("_law_text", 1)]) (g := gName 1) (tt := tYes) rfl nd (pi_list (pv 0)) (blkOk_by (own := [("_law_text", 1)]) (N := ["_law_texts", "_law_text"]) (sc := defScope sStans) (by decide +kernel))
        (fun _ _ _ _ _ => pg_name (i := 1) nd rfl (Or.inl rfl)) (fun _ _ _ _ _ => pts_nil) (fun _ _ _ _ _ => pe_callTy (r := fun xs H Q => ∃ p ys, xs = [.ref p] ∧ ((SqL K H p ys ∧ ∀ l, H l = none → Q (.ref l) (upd H l (.tup ys))) ∨ (SqT K H p ys ∧ Q (.ref p) H))) (show CallR _ _ _ from call_tuple_of) (by rfl) T.tuple PyProof.Rows.boot_tuple (pa_cons (pe_split (pv 1) pe_str) pa_nil)))))), ?_⟩
    refine ⟨by show 3 ≤ sizeLine; decide, fun l1 n1 => ⟨_, rfl, by show 6 ≤ sizeLine; decide, fun l2 n2 => ?_⟩⟩
    have e1 : (upd (upd H l1 (.lst (sV (textsD.take 3)))) l2 (.lst (sV (textsD.drop 3)))) l1 = some (.lst (sV (textsD.take 3))) := by rw [upd_ne (ne_of_none upd_same n2)]; exact upd_same
    refine ⟨l1, l2, sV (textsD.take 3), sV (textsD.drop 3), rfl, rfl, e1, upd_same, by show 9 ≤ sizeLine; decide, fun l3 n3 => ?_⟩
    have s1 : Same H (upd (upd (upd H l1 (.lst (sV (textsD.take 3)))) l2 (.lst (sV (textsD.drop 3)))) l3 (.lst (sV textsD))) := ((same_new n1).trans (same_new n2)).trans (same_new n3)
    refine ⟨_, rfl, l3, rfl, ⟨_, SqL.of (xs := sV textsD) upd_same⟩, fun D hD => ?_⟩
    have nD : H D = none := same_free s1 hD
    have nl : l3 ≠ D := ne_of_none upd_same hD
    refine lc_list (K := K) (a := l3) (xs := sV textsD) (fun i H2 => Same H H2 ∧ H2 l3 = some (.lst (sV textsD)) ∧ ∃ as : List Addr, H2 D = some (.lst (as.map V.ref)) ∧ as.length ≤ i ∧ TupsAt K H2 as (stanD.take i)) ⟨s1.trans (same_new hD), by rw [upd_ne (ne_of_none upd_same hD)]; exact upd_same, [], upd_same, Nat.le_refl _, .nil⟩ (fun i H2 _ h => SqL.of h.2.1) ?_ ?_
    · rintro i x H2 hi ⟨s2, h3, as, hD2, hl, hT⟩
      have hi9 : i < 9 := (List.getElem?_eq_some_iff.mp hi).1
      obtain ⟨z, hz', hs', rfl⟩ : ∃ z, textsD[i]? = some z ∧ stanD[i]? = some (Txt.split z " ") ∧ x = V.str z := by
        have hi2 : i < textsD.length := hi9
        have q : (textsD.map fun z => Txt.split z " ") = stanD := by decide +kernel
        unfold sV at hi
        rw [List.getElem?_map, List.getElem?_eq_getElem hi2] at hi
        refine ⟨textsD[i], List.getElem?_eq_getElem hi2, ?_, (Option.some.inj hi).symm⟩
        rw [← q, List.getElem?_map, List.getElem?_eq_getElem hi2]
        rfl
      have hzl : z.length + 2 ≤ sizeLine := by
        have q : (textsD.all fun z => decide (z.length + 2 ≤ 100)) = true := by decide +kernel
        have m := List.all_eq_true.mp q z (List.mem_of_getElem? hz')
        exact Nat.le_trans (of_decide_eq_true m) (by decide)
      refine ⟨rfl, ?_⟩
      refine ⟨_, rfl, ⟨z, rfl⟩, z, " ", rfl, rfl, by decide +kernel, hzl, fun q hq => ?_⟩
      refine ⟨q, _, rfl, .inl ⟨SqL.of upd_same, fun t ht => ?_⟩⟩
      have sm : Same H2 (upd (upd H2 q (.lst ((Txt.split z " ").map V.str))) t (.tup ((Txt.split z " ").map V.str))) := (same_new hq).trans (same_new ht)
      refine ⟨as.map V.ref, sm _ _ hD2, small1000 (by rw [List.length_map]; omega), same_up (s2.trans sm) nD, ?_, as ++ [t], ?_, by rw [List.length_append, List.length_singleton]; omega, ?_⟩
      · rw [upd_ne nl]
        exact sm _ _ h3
      · rw [upd_same, List.map_append]; rfl
      · rw [take_snoc hs']
        exact ((TupsAt.updL (sm _ _ hD2) (hT.mono sm)).snoc (seqT_updL (sm _ _ hD2) (SqT.of upd_same)))
    · rintro H2 ⟨s2, h3, as, hD2, hl, hT⟩
      exact k D H2 as nD s2 hD2 hT
end
end My
namespace My
open PySem L2 ClX
open Evl (pss_cut)
theorem pe_cmeth0 {X : Cx} {CX : CXT} {k : Nat} {C p g : Addr} {mc : Value} {sp : Sp} {E : XK} {o : Expr} {m : Str} {pos apos : Pos} {ta : TE} {pl : Sem Bool} (he : PE X o ta) (r : CRead X.K C mc) (c : CMet X.K C mc m p g)
    (F : FnR X.prog X.w X.K X.mg X.base CX k g sp) (hr : Room k X.A) (hx : Passes CX X E)
    (ht : eval (.Call (.Attribute o m apos) [] [] pos) X.env = (do let ov ← eval o X.env; standAt apos.atName; let (f, first) ← holding [ov] (getMethod ov m pl); callWith pos f first (backTo pos (starEach [] X.env)) (backToKw pos (keywordEach [] X.env))) := by rfl) :
    PE X (.Call (.Attribute o m apos) [] [] pos) (tCMeth C sp E ta tNil) := by
  constructor
  rintro pins s σ H Q I h
  refine PySem.W.methodCall_KW (pl := pl) (thn (he.run pins s σ H _ I h) ?_) ht
  rintro u s1 ⟨x, H1, I1, rx, ex, q⟩
  subst ex
  obtain rfl : u = Value.ref C := rx
  refine getmethcm_ok I1 r c ?_
  intro s2 I2
  exact PySem.W.callWith_M0 (first := []) ⟨pin_at I2, I2.kIn⟩ c.fi (run_cm (us := []) (vs := []) F hr hx I2 .nil q)
theorem qI {n : Nat} {k : Int} {A B : Prop} (h : (n : Int) = k) (a : A) : if decide (V.int (n : Int) = V.int k) = true then A else B := by
  rw [if_pos (decide_eq_true (congrArg V.int h))]
  exact a
theorem qIn {n : Nat} {k : Int} {A B : Prop} (h : (n : Int) ≠ k) (b : B) : if decide (V.int (n : Int) = V.int k) = true then A else B := by
  rw [if_neg (by rw [decide_eq_true_eq]; exact fun e => h (V.int.inj e))]
  exact b
structure GlsC (K : PySem.W.Frag) (mg : Str → Option Value) (C : Addr) (mc : Value) (pO fO : Addr) : Prop where
  mR : mg "Rule" = some (.ref C)
  rd : CRead K C mc
  ofM : CMet K C mc "of" pO fO
def spLOf (K : PySem.W.Frag) (C : Addr) : Sp := fun vs H Q _ => ∃ (b : Addr) (ws : List Str), vs = [.ref b] ∧ SqL K H b (sV ws) ∧ ws.length ≤ 3 ∧
  ∀ r H', H r = none → Same H H' → RuleAt K C H' r (letOf ws) → Q (.ref r) H'
theorem scLOf : FnScope ["_law_words_here"] ["_law_words_here"] (defScope sLOf) := ⟨rfl, rfl, rfl, by decide +kernel, rfl, by decide +kernel, by decide +kernel⟩
section
variable {P : Program} {w : World} {K : PySem.W.Frag} {mg : Str → Option Value} {base : Heap}
theorem ok_lof {f C pO fO : Addr} {mc : Value} {fd : FuncData} (F : Fun K "_law_of" "_law_of" sLOf f fd) (T : Gls mg) (TC : GlsC K mg C mc pO fO) (GO : FnR P w K mg base CX0 3 fO (spOf K C)) : FnOk P w K mg base CX0 4 f fd ["_law_words_here"] (spLOf K C) := by
  refine F.ok scLOf (fun vs H Q E h => ?_) (fun cdv A outer s H vs Q E hr h => ?_)
  · obtain ⟨b, ws, rfl, _⟩ := h
    rfl
  · obtain ⟨b, ws, rfl, hB, hz, k⟩ := h
    refine ⟨_, pss_cons (ps_if (pt_cmpR op_eq (pe_callB call_len_seq (by rfl) T.len PySem.boot_len (pa_cons (pv 0) pa_nil)) pe_int (nomark _)) (pss_one (ps_ret (pe_cmeth0 (pe_glob (v := .ref C) rfl TC.mR rfl) TC.rd TC.ofM GO hr pass0))) pss_nil)
      (pss_cons (ps_if (pt_cmpR op_eq (pe_callB call_len_seq (by rfl) T.len PySem.boot_len (pa_cons (pv 0) pa_nil)) pe_int (nomark _)) (pss_one (ps_ret (pe_cmeth (pe_glob (v := .ref C) rfl TC.mR rfl) TC.rd TC.ofM GO hr pass0 (pa_cons (pe_ix ix_list (pv 0) pe_int (fun _ _ => rfl)) pa_nil)))) pss_nil)
      (pss_cons (ps_if (pt_cmpR op_eq (pe_callB call_len_seq (by rfl) T.len PySem.boot_len (pa_cons (pv 0) pa_nil)) pe_int (nomark _)) (pss_one (ps_ret (pe_cmeth (pe_glob (v := .ref C) rfl TC.mR rfl) TC.rd TC.ofM GO hr pass0 (pa_cons (pe_ix ix_list (pv 0) pe_int (fun _ _ => rfl)) (pa_cons (pe_ix ix_list (pv 0) pe_int (fun _ _ => rfl)) pa_nil))))) pss_nil)
      (pss_one (ps_ret (pe_cmeth (pe_glob (v := .ref C) rfl TC.mR rfl) TC.rd TC.ofM GO hr pass0 (pa_cons (pe_ix ix_list (pv 0) pe_int (fun _ _ => rfl)) (pa_cons (pe_ix ix_list (pv 0) pe_int (fun _ _ => rfl)) (pa_cons (pe_ix ix_list (pv 0) pe_int (fun _ _ => rfl)) pa_nil)))))))), ?_⟩
    have at0 : ∀ x : Str, ws[0]? = some x → atI (sV ws) (0 : Int) = some (.str x) := fun x e => atI_nat (j := 0) (by unfold sV; rw [List.getElem?_map, e]; rfl)
    have at1 : ∀ x : Str, ws[1]? = some x → atI (sV ws) (1 : Int) = some (.str x) := fun x e => atI_nat (j := 1) (by unfold sV; rw [List.getElem?_map, e]; rfl)
    have at2 : ∀ x : Str, ws[2]? = some x → atI (sV ws) (2 : Int) = some (.str x) := fun x e => atI_nat (j := 2) (by unfold sV; rw [List.getElem?_map, e]; rfl)
    match ws, hz, hB, k, at0, at1, at2 with
    | [], _, hB, k, _, _, _ => exact ⟨_, rfl, b, _, rfl, .inl hB, rfl, _, rfl, qI rfl ⟨rfl, [], rfl, by decide, k⟩⟩
    | [x], _, hB, k, at0, _, _ =>
      refine ⟨_, rfl, b, _, rfl, .inl hB, rfl, _, rfl, qIn (by show (1 : Int) ≠ 0; decide) ?_⟩
      refine ⟨_, rfl, b, _, rfl, .inl hB, rfl, _, rfl, qI rfl ?_⟩
      exact ⟨rfl, _, rfl, b, _, _, _, rfl, rfl, hB, at0 _ rfl, [x], rfl, (by show 1 ≤ 1000; decide), k⟩
    | [x, y], _, hB, k, at0, at1, _ =>
      refine ⟨_, rfl, b, _, rfl, .inl hB, rfl, _, rfl, qIn (by show (2 : Int) ≠ 0; decide) ?_⟩
      refine ⟨_, rfl, b, _, rfl, .inl hB, rfl, _, rfl, qIn (by show (2 : Int) ≠ 1; decide) ?_⟩
      refine ⟨_, rfl, b, _, rfl, .inl hB, rfl, _, rfl, qI rfl ?_⟩
      exact ⟨rfl, _, rfl, b, _, _, _, rfl, rfl, hB, at0 _ rfl, _, rfl, b, _, _, _, rfl, rfl, hB, at1 _ rfl, [x, y], rfl, (by show 2 ≤ 1000; decide), k⟩
    | [x, y, z], _, hB, k, at0, at1, at2 =>
      refine ⟨_, rfl, b, _, rfl, .inl hB, rfl, _, rfl, qIn (by show (3 : Int) ≠ 0; decide) ?_⟩
      refine ⟨_, rfl, b, _, rfl, .inl hB, rfl, _, rfl, qIn (by show (3 : Int) ≠ 1; decide) ?_⟩
      refine ⟨_, rfl, b, _, rfl, .inl hB, rfl, _, rfl, qIn (by show (3 : Int) ≠ 2; decide) ?_⟩
      exact ⟨rfl, _, rfl, b, _, _, _, rfl, rfl, hB, at0 _ rfl, _, rfl, b, _, _, _, rfl, rfl, hB, at1 _ rfl, _, rfl, b, _, _, _, rfl, rfl, hB, at2 _ rfl, [x, y, z], rfl, (by show 3 ≤ 1000; decide), k⟩
    | _ :: _ :: _ :: _ :: r, hz, _, _, _, _, _ => exact absurd hz (by rw [List.length_cons, List.length_cons, List.length_cons, List.length_cons]; omega)
end
end My
namespace My
open PySem L2 ClX
open Evl (pss_cut)
def spDue (K : PySem.W.Frag) : Sp := fun vs H Q _ => ∃ (b : Addr) (ws : List Str), vs = [.ref b] ∧ SqL K H b (sV ws) ∧ ws.length ≤ 1000 ∧
  ∀ p H' as, H p = none → Same H H' → H' p = some (.tup (as.map V.ref)) → TupsAt K H' as (letOf ws) → Q (.ref p) H'
theorem scDue : FnScope ["_law_words_here", "_law_stance", "_law_word"] ["_law_words_here"] (defScope sDue) := ⟨rfl, rfl, rfl, by decide +kernel, rfl, by decide +kernel, by decide +kernel⟩
theorem letOf_pos (ws st : List Str) : (0 < (ws.filter fun x => decide (x ∈ st)).length) ↔ (ws.any fun x => decide (x ∈ st)) = true := by
  rw [List.length_pos_iff_exists_mem, List.any_eq_true]
  constructor
  · rintro ⟨x, hx⟩
    exact ⟨x, (List.mem_filter.mp hx).1, (List.mem_filter.mp hx).2⟩
  · rintro ⟨x, h1, h2⟩
    exact ⟨x, List.mem_filter.mpr ⟨h1, h2⟩⟩
section
variable {P : Program} {w : World} {K : PySem.W.Frag} {mg : Str → Option Value} {base : Heap}
theorem ok_due {f C aS fS : Addr} {fd fdS : FuncData} (F : Fun K "_law_due" "_law_due" sDue f fd) (T : Gls mg) (TR : GlsR K mg C aS) (FS : Fun K "_law_stances" "_law_stances" sStans fS fdS) (bS : Binds K fdS [] []) (mSt : mg "_law_stances" = some (.ref fS)) :
    FnOk P w K mg base CX0 2 f fd ["_law_words_here"] (spDue K) := by
  have GS : FnOk P w K mg base CX0 1 fS fdS [] (spStans K) := ok_stans FS TR
  refine F.ok scDue (fun vs H Q E h => ?_) (fun cdv A outer s H vs Q E hr h => ?_)
  · obtain ⟨b, ws, rfl, _⟩ := h
    rfl
  · obtain ⟨b, ws, rfl, hB, hz, k⟩ := h
    have nd := scDue.nd
    refine ⟨_, pss_one (ps_ret (pe_callTy call_tuple_of (by rfl) TR.tuple PyProof.Rows.boot_tuple (pa_cons (pe_lc (own := [("_law_stance", 1)]) (g := gName 1) rfl nd (pi_list (pe_call0 GS hr (by rfl) mSt FS.kp bS .nil pass0)) (blkOk_by (own := [("_law_stance", 1)]) (N := ["_law_words_here", "_law_stance", "_law_word"]) (sc := defScope sDue) (by decide +kernel))
      (fun _ _ _ _ _ => pg_name (i := 1) nd rfl (Or.inr rfl)) (fun _ _ _ _ _ => pts_one (pt_cmpR op_gt (pe_callB (show CallR _ _ (fun xs H Q => ∃ p ys, xs = [.ref p] ∧ (SqL K H p ys ∨ SqT K H p ys) ∧ Q (.int ys.length) H) from call_len_seq) (by rfl) T.len PySem.boot_len (pa_cons
        (pe_lc (scope := { kind := .function, names := [(".0", .local), ("_law_word", .local), ("_law_stance", .free)], isGenerator := false, isCoroutine := false }) (own := [("_law_word", 2)]) (g := gName 2) rfl nd (show PI _ _ _ (iList K _) from pi_list (pv 0)) (blkOk_by (own := [("_law_word", 2)]) (N := ["_law_words_here", "_law_stance", "_law_word"]) (sc := { kind := .function, names := [(".0", .local), ("_law_stance", .cell), ("len", .globalImplicit), ("_law_words_here", .cell)], isGenerator := false, isCoroutine := false }) (by decide +kernel))
          (fun _ _ _ _ _ => pg_name (i := 2) nd rfl (Or.inl rfl)) (fun _ _ _ _ _ => pts_one (pt_cmpR (show OpR _ (compareOp .In) (rIn K false) from op_in_seq) (pv 2) (pv 1) (by rfl))) (fun _ _ _ _ _ => pv 2)) pa_nil)) pe_int (nomark _))) (fun _ _ _ _ _ => pv 1)) pa_nil))), ?_⟩
    refine ⟨rfl, fun l H1 as n1 s1 h1 hT => ⟨l, rfl, ⟨_, SqL.of h1⟩, fun D hD => ?_⟩⟩
    have nD : H D = none := same_free s1 hD
    have nl : l ≠ D := ne_of_none h1 hD
    have h9 : as.length = 9 := hT.len
    refine lc_list (K := K) (a := l) (xs := as.map V.ref) (fun i H2 => Same H1 H2 ∧ ∃ bs : List Addr, H2 D = some (.lst (bs.map V.ref)) ∧ bs.length ≤ i ∧ TupsAt K H2 bs ((stanD.take i).filter fun st => ws.any fun x => decide (x ∈ st))) ⟨same_new hD, [], upd_same, Nat.le_refl _, .nil⟩ (fun i H2 _ h => SqL.of (h.1 _ _ h1)) ?_ ?_
    · rintro i x H2 hi ⟨s2, bs, hD2, hbl, hT2⟩
      obtain ⟨a, ha, rfl⟩ : ∃ a, as[i]? = some a ∧ x = V.ref a := by
        rw [List.getElem?_map] at hi
        cases e : as[i]? with
        | none => rw [e] at hi; cases hi
        | some z => rw [e] at hi; exact ⟨z, rfl, (Option.some.inj hi).symm⟩
      have hil : i < as.length := (List.getElem?_eq_some_iff.mp ha).1
      obtain ⟨d, hd, hat⟩ := hT.get ha
      refine ⟨rfl, _, rfl, b, rfl, ⟨_, (s1.trans s2).seq hB⟩, fun D2 hD3 => ?_⟩
      refine lc_list (K := K) (a := b) (xs := sV ws) (fun j H3 => Same H2 H3 ∧ H3 D2 = some (.lst (sV ((ws.take j).filter fun x => decide (x ∈ d))))) ⟨same_new hD3, upd_same⟩ (fun j H3 _ h => ((s1.trans s2).trans h.1).seq hB) ?_ ?_
      · rintro j x H3 hj ⟨s3, hL⟩
        obtain ⟨z, hz', rfl⟩ : ∃ z, ws[j]? = some z ∧ x = V.str z := by
          unfold sV at hj
          rw [List.getElem?_map] at hj
          cases e : ws[j]? with
          | none => rw [e] at hj; cases hj
          | some z => rw [e] at hj; exact ⟨z, rfl, (Option.some.inj hj).symm⟩
        have hjl : j < ws.length := (List.getElem?_eq_some_iff.mp hz').1
        have hfl := filter_take_snoc (fun x => decide (x ∈ d)) hz'
        refine ⟨rfl, _, rfl, _, rfl, a, _, rfl, .inr (Same.seqT (s2.trans s3) hat), rfl, flat_sV _, _, rfl, ?_⟩
        show if inV (V.str z) (sV d) = true then _ else _
        rw [inV_sV]
        refine ite2 (fun hc => ?_) (fun hc => ?_)
        · rw [if_pos hc] at hfl
          refine ⟨_, rfl, _, hL, small1000 ?_, same_up s3 hD3, ?_⟩
          · unfold sV
            rw [List.length_map]
            exact Nat.le_trans (List.length_filter_le _ _) (by rw [List.length_take]; omega)
          · rw [upd_same, hfl]
            unfold sV
            rw [List.map_append]
            rfl
        · rw [if_neg hc, List.append_nil] at hfl
          exact ⟨s3, by rw [hfl]; exact hL⟩
      · rintro H3 ⟨s3, hL⟩
        have e : (sV ws).length = ws.length := List.length_map ..
        rw [e, List.take_length] at hL
        refine ⟨D2, _, rfl, .inl (SqL.of hL), _, _, rfl, rfl, _, rfl, ?_⟩
        have hfl := filter_take_snoc (fun st => ws.any fun x => decide (x ∈ st)) hd
        have s13 := s2.trans s3
        refine ite2 (fun hc => ?_) (fun hc => ?_)
        · have hc' := (letOf_pos ws d).mp (by
            have := of_decide_eq_true hc
            unfold sV at this
            rw [List.length_map] at this
            omega)
          rw [if_pos hc'] at hfl
          refine ⟨_, rfl, _, s3 _ _ hD2, small1000 (by rw [List.length_map]; omega), same_up s13 hD, bs ++ [a], ?_, by rw [List.length_append, List.length_singleton]; omega, ?_⟩
          · rw [upd_same, List.map_append]; rfl
          · rw [hfl]
            exact (TupsAt.updL (s3 _ _ hD2) (hT2.mono s3)).snoc (seqT_updL (s3 _ _ hD2) (Same.seqT s13 hat))
        · have hc' : ¬ (ws.any fun x => decide (x ∈ d)) = true := fun q => hc (by
            have := (letOf_pos ws d).mpr q
            refine decide_eq_true ?_
            unfold sV
            rw [List.length_map]
            omega)
          rw [if_neg hc', List.append_nil] at hfl
          refine ⟨s13, bs, s3 _ _ hD2, by omega, ?_⟩
          rw [hfl]
          exact hT2.mono s3
    · rintro H2 ⟨s2, bs, hD2, hbl, hT2⟩
      refine ⟨D, _, rfl, .inl ⟨SqL.of hD2, fun t ht => ?_⟩⟩
      have e : (as.map V.ref).length = stanD.length := by rw [List.length_map, h9]; rfl
      rw [e, List.take_length] at hT2
      exact k t _ bs (same_free (s1.trans s2) ht) ((s1.trans s2).trans (same_new ht)) upd_same (hT2.mono (same_new ht))
end
end My
namespace My
open PySem L2 ClX
open Evl (pss_cut)
abbrev sLaw : Stmt := topS 11
def tD (st : List Str) : PyData := .tuple (st.map PyData.str)
theorem dpa_strs {K : PySem.W.Frag} {H : Hp} : ∀ l : List Str, DpAll K H (sV l) (l.map PyData.str)
  | [] => .nil
  | x :: l => .cons (.str x) (dpa_strs l)
theorem dpa_tups {K : PySem.W.Frag} {H : Hp} : ∀ {as : List Addr} {ds : List (List Str)}, TupsAt K H as ds → DpAll K H (as.map V.ref) (ds.map tD)
  | _, _, .nil => .nil
  | _, _, .cons h t => .cons (.tup h (dpa_strs _)) (dpa_tups t)
theorem okD_let (ds : List (List Str)) (h : ∀ d ∈ ds, d.length ≤ 1000) (hl : ds.length ≤ 1000) : okD 3 (.tuple (ds.map tD)) := by
  refine ⟨by rw [List.length_map]; exact hl, fun d hd => ?_⟩
  obtain ⟨st, h1, rfl⟩ := List.mem_map.mp hd
  refine ⟨by rw [List.length_map]; exact h st h1, fun e he => ?_⟩
  obtain ⟨x, _, rfl⟩ := List.mem_map.mp he
  trivial
theorem okD_of (ws : List Str) : okD 3 (.tuple ((letOf ws).map tD)) := by
  refine okD_let _ (fun d hd => ?_) (Nat.le_trans (List.length_filter_le _ _) (by decide))
  have m := (List.mem_filter.mp hd).1
  have q : (stanD.all fun d => decide (d.length ≤ 1000)) = true := by decide +kernel
  exact of_decide_eq_true (List.all_eq_true.mp q d m)
theorem word_at {c : Int} (h : 0 ≤ c ∧ c < 7) : ∃ x, atI (sV wordsD) c = some (.str x) := by
  obtain ⟨n, rfl⟩ := Int.eq_ofNat_of_zero_le h.1
  have hn : n < wordsD.length := by have := h.2; show n < 7; omega
  exact ⟨wordsD[n], atI_nat (by unfold sV; rw [List.getElem?_map, List.getElem?_eq_getElem hn]; rfl)⟩
/-- five digits below 4, 7, 7, 7, 7 -/
theorem five {ds : List Int} (h : DigOk [4, 7, 7, 7, 7] ds) : ∃ d0 d1 d2 d3 d4 : Int, ds = [d0, d1, d2, d3, d4] ∧ (0 ≤ d0 ∧ d0 < 4) ∧ (0 ≤ d1 ∧ d1 < 7) ∧ (0 ≤ d2 ∧ d2 < 7) ∧ (0 ≤ d3 ∧ d3 < 7) ∧ (0 ≤ d4 ∧ d4 < 7) := by
  obtain ⟨hl, hd⟩ := h
  match ds, hl with
  | [d0, d1, d2, d3, d4], _ => exact ⟨d0, d1, d2, d3, d4, rfl, hd 0 _ _ rfl rfl, hd 1 _ _ rfl rfl, hd 2 _ _ rfl rfl, hd 3 _ _ rfl rfl, hd 4 _ _ rfl rfl⟩
theorem cut5 {d0 d1 d2 d3 d4 : Int} (h : 0 ≤ d0 ∧ d0 < 4) (h1 : 0 ≤ d1 ∧ d1 < 7) (h2 : 0 ≤ d2 ∧ d2 < 7) (h3 : 0 ≤ d3 ∧ d3 < 7) : ∃ cs : List Int, cutV ([d0, d1, d2, d3, d4].map V.int) (some 1) (some (1 + d0)) = cs.map V.int ∧ cs.length ≤ 3 ∧ ∀ c ∈ cs, 0 ≤ c ∧ c < 7 := by
  have e : d0 = 0 ∨ d0 = 1 ∨ d0 = 2 ∨ d0 = 3 := by omega
  rcases e with rfl | rfl | rfl | rfl
  · exact ⟨[], rfl, by decide, fun c hc => by cases hc⟩
  · exact ⟨[d1], rfl, by show 1 ≤ 3; decide, fun c hc => by simp at hc; omega⟩
  · exact ⟨[d1, d2], rfl, by show 2 ≤ 3; decide, fun c hc => by simp at hc; omega⟩
  · exact ⟨[d1, d2, d3], rfl, by show 3 ≤ 3; decide, fun c hc => by simp at hc; omega⟩
def spLaw (K : PySem.W.Frag) : Sp := fun vs H Q _ => ∃ (a : Addr) (ns : List Int), vs = [.ref a] ∧ SqL K H a (ns.map V.int) ∧ ns.length ≤ 63 ∧ ∀ H', Q (.bl true) H'
theorem scLaw : FnScope ["_law_script", "_law_words_here", "_law_at", "_law_picks", "_law_chosen", "_law_rule", "_law_other", "_law_pick"] ["_law_script"] (defScope sLaw) := ⟨rfl, rfl, rfl, by decide +kernel, rfl, by decide +kernel, by decide +kernel⟩
section
variable {P : Program} {w : World} {K : PySem.W.Frag} {mg : Str → Option Value} {base : Heap}
theorem ok_law {f C aS pO fO fW fS fD fG fL fU fI fH fP pP : Addr} {mc : Value} {fd fdW fdS fdD fdG fdL fdU fdI fdO fdH fdP : FuncData} (F : Fun K "law" "law" sLaw f fd) (T : Gls mg) (TI : GlsI mg) (TR : GlsR K mg C aS) (TC : GlsC K mg C mc pO fO)
    (M : Mk K C fI) (FI : Fun K "__init__" "Rule.__init__" sRInit fI fdI) (bI : Binds K fdI ["self", "stances"] [])
    (FO : Fun K "of" "Rule.of" sROf fO fdO) (bO : ∀ us rest : List Value, us.length = [("cls" : Str)].length → bindArgs fdO ⟨us ++ rest, []⟩ = (newTuple rest >>= fun t => pure ([("cls" : Str)].zip us ++ [(("words" : Str), t)])))
    (FP : Fun K "stances" "Rule.stances" sRSt fP fdP) (bP : Binds K fdP ["self"] []) (PP : PropOf K C "stances" pP fP)
    (FH : Fun K "_has_one_of" "_has_one_of" sHas fH fdH) (bH : Binds K fdH ["stance", "words"] []) (mH : mg "_has_one_of" = some (.ref fH))
    (FG : Fun K "_law_digits" "_law_digits" sDig fG fdG) (bG : Binds K fdG ["_law_script", "_law_at", "_law_sizes"] []) (mG : mg "_law_digits" = some (.ref fG))
    (FW : Fun K "_law_words" "_law_words" sWords fW fdW) (bW : Binds K fdW [] []) (mW : mg "_law_words" = some (.ref fW))
    (FS : Fun K "_law_stances" "_law_stances" sStans fS fdS) (bS : Binds K fdS [] []) (mSt : mg "_law_stances" = some (.ref fS))
    (FU : Fun K "_law_same" "_law_same" sSame fU fdU) (bU : Binds K fdU ["_law_actual", "_law_due_here"] []) (mU : mg "_law_same" = some (.ref fU))
    (FL : Fun K "_law_of" "_law_of" sLOf fL fdL) (bL : Binds K fdL ["_law_words_here"] []) (mL : mg "_law_of" = some (.ref fL))
    (FD : Fun K "_law_due" "_law_due" sDue fD fdD) (bD : Binds K fdD ["_law_words_here"] []) (mD : mg "_law_due" = some (.ref fD)) : FnOk P w K mg base CX0 5 f fd ["_law_script"] (spLaw K) := by
  have GG : FnOk P w K mg base CX0 1 fG fdG _ (spDig K) := ok_dig FG T
  have GW : FnOk P w K mg base CX0 1 fW fdW [] spWords := ok_words FW
  have GU : FnOk P w K mg base CX0 3 fU fdU _ (spSame K 3) := ok_same FU T TI mU bU 3
  have GD : FnOk P w K mg base CX0 2 fD fdD _ (spDue K) := ok_due FD T TR FS bS mSt
  have GO : FnR P w K mg base CX0 3 fO (spOf K C) := ok_of FO TR M FI bI FH bH mH bO
  have GL : FnOk P w K mg base CX0 4 fL fdL _ (spLOf K C) := ok_lof FL T TC GO
  have GP : FnOk P w K mg base CX0 1 fP fdP ["self"] (spRSt C) := ok_rst FP TR
  refine F.ok scLaw (fun vs H Q E h => ?_) (fun cdv A outer s H vs Q E hr h => ?_)
  · obtain ⟨a, ns, rfl, _⟩ := h
    rfl
  · obtain ⟨a, ns, rfl, hS, hlen, k⟩ := h
    have nd := scLaw.nd
    have hr1 : Room 1 _ := hr.mono (by decide)
    have hr2 : Room 2 _ := hr.mono (by decide)
    have hr3 : Room 3 _ := hr.mono (by decide)
    refine ⟨_, pss_cons (ps_set (i := 1) nd rfl (Or.inr rfl) (pe_call0 GW hr1 (by rfl) mW FW.kp bW .nil pass0))
      (pss_cons (ps_for PassesOwn.never rfl (pi_range1 rfl T.range (pa_cons pe_int pa_nil)) (pg_name (i := 2) nd rfl (Or.inl rfl))
        (pss_cons (ps_set (i := 3) nd rfl (Or.inl rfl) (pe_call GG hr1 (by rfl) mG FG.kp bG .nil pass0 (pa_cons (pv 0) (pa_cons (pv 2) (pa_cons (pe_lst (pa_cons pe_int (pa_cons pe_int (pa_cons pe_int (pa_cons pe_int (pa_cons pe_int pa_nil)))))) pa_nil)))))
        (pss_cons (ps_setLc (i := 4) (own := [("_law_pick", 7)]) (g := gName 7) (tt := tYes) rfl nd rfl rfl (sw_true rfl rfl rfl (by decide +kernel)) (pi_list (pe_slice sl_list (pv 3) (po_some pe_int) (po_some (pe_op op_add pe_int (pe_ix ix_list (pv 3) pe_int (fun _ _ => rfl))))))
          (blkOk_by (own := [("_law_pick", 7)]) (N := ["_law_script", "_law_words_here", "_law_at", "_law_picks", "_law_chosen", "_law_rule", "_law_other", "_law_pick"]) (sc := defScope sLaw) (by decide +kernel)) (fun _ _ _ _ _ => pg_name (i := 7) nd rfl (Or.inl rfl)) (fun _ _ _ _ _ => pts_nil)
          (fun _ _ _ _ _ => pe_ix (show IxR _ (rIxL K) from ix_list) (pv 1) (pv 7) (fun _ _ => rfl)))
        (pss_cons (ps_set (i := 5) nd rfl (Or.inl rfl) (pe_call GL hr (by rfl) mL FL.kp bL .nil pass0 (pa_cons (pv 4) pa_nil)))
        (pss_cons (ps_if (pt_not (pt_val (pe_call GU hr3 (by rfl) mU FU.kp bU .nil pass0 (pa_cons (pe_prop (pv 5) TR.cl PP GP hr2 bP .nil pass0 rfl) (pa_cons (pe_call GD hr2 (by rfl) mD FD.kp bD .nil pass0 (pa_cons (pv 4) pa_nil)) pa_nil))))) (pss_one (ps_ret pe_bl)) pss_nil)
        (pss_cons (ps_set (i := 6) nd rfl (Or.inl rfl) (pe_cmeth (pe_glob (v := .ref C) rfl TC.mR rfl) TC.rd TC.ofM GO hr3 pass0 (pa_cons (pe_ix ix_list (pv 1) (pe_ix ix_list (pv 3) pe_int (fun _ _ => rfl)) (fun _ _ => rfl)) pa_nil)))
        (pss_cons (ps_if (pt_not (pt_val (pe_call GU hr3 (by rfl) mU FU.kp bU .nil pass0 (pa_cons (pe_prop (pv 6) TR.cl PP GP hr2 bP .nil pass0 rfl) (pa_cons (pe_call GD hr2 (by rfl) mD FD.kp bD .nil pass0 (pa_cons (pe_lst (pa_cons (pe_ix ix_list (pv 1) (pe_ix ix_list (pv 3) pe_int (fun _ _ => rfl)) (fun _ _ => rfl)) pa_nil)) pa_nil)) pa_nil))))) (pss_one (ps_ret pe_bl)) pss_nil)
        (pss_one (ps_if (pt_not (pt_val (pe_call GU hr3 (by rfl) mU FU.kp bU .nil pass0 (pa_cons (pe_prop (pv 5) TR.cl PP GP hr2 bP .nil pass0 rfl) (pa_cons (pe_call GD hr2 (by rfl) mD FD.kp bD .nil pass0 (pa_cons (pv 4) pa_nil)) pa_nil))))) (pss_one (ps_ret pe_bl)) pss_nil)))))))))
      (pss_one (ps_ret pe_bl))), ?_⟩
    refine ⟨rfl, fun wd H1 nw s1 hw => ?_⟩
    refine ⟨2, rfl, by decide, by decide, for_range (lo := 0) (n := 2) (fun i σ H2 => ∃ (v2 v3 v4 v5 v6 v7 : Option V), σ = [some (.ref a), some (.ref wd), v2, v3, v4, v5, v6, v7] ∧ Same H1 H2) ⟨_, _, _, _, _, _, rfl, Same.refl _⟩ ?_ ?_⟩
    · rintro i σ H2 hi ⟨v2, v3, v4, v5, v6, v7, rfl, s2⟩
      have s02 := s1.trans s2
      have hw2 := s2 _ _ hw
      -- picks
      refine ⟨_, rfl, _, rfl, by show 5 ≤ sizeLine; decide, fun z nz => ?_⟩
      refine ⟨a, z, ns, [4, 7, 7, 7, 7], i, by rw [Int.zero_add]; rfl, (s02.trans (same_new nz)).seq hS, hlen, by omega, SqL.of upd_same, by decide, by decide, fun ds H3 pk hds s3 npk hpk => ?_⟩
      obtain ⟨d0, d1, d2, d3, d4, rfl, b0, b1, b2, b3, b4⟩ := five hds
      have s23 : Same H2 H3 := (same_new nz).trans s3
      have hw3 := s23 _ _ hw2
      have at4 : atI ([d0, d1, d2, d3, d4].map V.int) (4 : Int) = some (.int d4) := atI_nat (j := 4) rfl
      obtain ⟨cs, ecs, lcs, bcs⟩ := cut5 b0 b1 b2 b3
      -- chosen
      refine ⟨_, rfl, 1, rfl, _, rfl, pk, _, _, _, rfl, rfl, SqL.of hpk, atI_nat (j := 0) rfl, _, _, rfl, rfl, _, rfl, pk, _, rfl, SqL.of hpk, fun sl nsl => ?_⟩
      have e4 : (upd H3 sl (.lst (cutV ([d0, d1, d2, d3, d4].map V.int) (some 1) (some (1 + d0))))) sl = some (.lst (cs.map V.int)) := by rw [upd_same, ecs]
      have s34 := same_new (o := .lst (cutV ([d0, d1, d2, d3, d4].map V.int) (some 1) (some (1 + d0)))) nsl
      refine ⟨sl, rfl, ⟨_, SqL.of e4⟩, fun D hD => ?_⟩
      have nlD : sl ≠ D := ne_of_none e4 hD
      refine lc_list (K := K) (a := sl) (xs := cs.map V.int) (fun j H5 => Same H3 H5 ∧ H5 sl = some (.lst (cs.map V.int)) ∧ ∃ ws : List Str, H5 D = some (.lst (sV ws)) ∧ ws.length ≤ j) ⟨s34.trans (same_new hD), by rw [upd_ne nlD]; exact e4, [], upd_same, Nat.le_refl _⟩ (fun j H5 _ h => SqL.of h.2.1) ?_ ?_
      · rintro j x H5 hj ⟨s5, hsl, ws, hws, lws⟩
        obtain ⟨c, hc, rfl⟩ : ∃ c, cs[j]? = some c ∧ x = V.int c := by
          rw [List.getElem?_map] at hj
          cases e : cs[j]? with
          | none => rw [e] at hj; cases hj
          | some z => rw [e] at hj; exact ⟨z, rfl, (Option.some.inj hj).symm⟩
        obtain ⟨q, hq⟩ := word_at (bcs c (List.mem_of_getElem? hc))
        have hjl : j < cs.length := (List.getElem?_eq_some_iff.mp hc).1
        refine ⟨rfl, ?_⟩
        refine ⟨_, rfl, _, rfl, wd, _, _, _, rfl, rfl, SqL.of (s5 _ _ hw3), hq, sV ws, hws, small1000 (by unfold sV; rw [List.length_map]; omega), same_up s5 (same_free s34 hD), ?_, ws ++ [q], ?_, by rw [List.length_append, List.length_singleton]; omega⟩
        · rw [upd_ne nlD]; exact hsl
        · rw [upd_same]; unfold sV; rw [List.map_append]; rfl
      rintro H5 ⟨s5, _, ws, hws, lws⟩
      rw [List.length_map] at lws
      have s25 := s23.trans s5
      -- the rule
      refine ⟨_, rfl, D, ws, rfl, SqL.of hws, by omega, fun r H6 nr s6 hR => ?_⟩
      have s26 := s25.trans s6
      -- stances of the rule against due
      have same3 : ∀ {ws : List Str} {t : Addr} {as : List Addr} {H7 : Hp}, H7 t = some (.tup (as.map V.ref)) → TupsAt K H7 as (letOf ws) → Dp K H7 (.ref t) (.tuple ((letOf ws).map tD)) := fun h1 h2 => .tup (SqT.of h1) (dpa_tups h2)
      obtain ⟨dx, t, as, hr1', hr2', hr3'⟩ := id hR
      refine ⟨_, rfl, r, dx, _, rfl, hr1', r, dx, t, rfl, hr1', _, rfl, D, ws, rfl, SqL.of (s6 _ _ hws), by omega, fun p H7 bs np s7 hp7 hT7 => ?_⟩
      refine ⟨_, _, _, rfl, same3 (s7 _ _ hr2') (hr3'.mono s7), same3 hp7 hT7, okD_of ws, ⟨_, rfl, ?_⟩⟩
      have s27 := s26.trans s7
      -- the other rule
      obtain ⟨q, hq⟩ := word_at b4
      refine ⟨rfl, _, rfl, _, rfl, pk, _, _, _, rfl, rfl, SqL.of (s7 _ _ (s6 _ _ (s5 _ _ hpk))), at4, wd, _, _, _, rfl, rfl, SqL.of (s27 _ _ hw2), hq, [q], rfl, by show 1 ≤ 1000; decide, fun r2 H8 nr2 s8 hR2 => ?_⟩
      have s28 := s27.trans s8
      obtain ⟨dx2, t2, as2, g1, g2, g3⟩ := id hR2
      refine ⟨_, rfl, r2, dx2, _, rfl, g1, r2, dx2, t2, rfl, g1, _, rfl, _, rfl, pk, _, _, _, rfl, rfl, SqL.of (s8 _ _ (s7 _ _ (s6 _ _ (s5 _ _ hpk)))), at4, wd, _, _, _, rfl, rfl, SqL.of (s28 _ _ hw2), hq, by show 1 ≤ sizeLine; decide, fun z2 nz2 => ?_⟩
      refine ⟨z2, [q], rfl, SqL.of upd_same, by show 1 ≤ 1000; decide, fun p2 H9 bs2 np2 s9 hp9 hT9 => ?_⟩
      have s89 := (same_new (o := .lst [V.str q]) nz2).trans s9
      refine ⟨_, _, _, rfl, same3 (s89 _ _ g2) (g3.mono s89), same3 hp9 hT9, okD_of [q], ⟨_, rfl, ?_⟩⟩
      have s29 := s28.trans s89
      have s69 := (s7.trans s8).trans s89
      -- the first one again
      refine ⟨_, rfl, r, dx, _, rfl, s69 _ _ hr1', r, dx, t, rfl, s69 _ _ hr1', _, rfl, D, ws, rfl, SqL.of (s69 _ _ (s6 _ _ hws)), by omega, fun p3 Ha bs3 np3 sa hpa hTa => ?_⟩
      have s6a := s69.trans sa
      refine ⟨_, _, _, rfl, same3 (s6a _ _ hr2') (hr3'.mono s6a), same3 hpa hTa, okD_of ws, ⟨_, rfl, ?_⟩⟩
      exact ⟨_, _, _, _, _, _, rfl, s2.trans (s29.trans sa)⟩
    · rintro σ H2 ⟨v2, v3, v4, v5, v6, v7, rfl, s2⟩
      exact k H2
end
end My
namespace My
open PySem L2 ClX
theorem all_mk {l : PySem.W.OpenLaw} {w : World} {K : PySem.W.Frag} {h : Heap} {mg : Str → Option Value} {fa flaw fI fO fP fH fG fW fZ fU fL fD : Addr} {C aS pO pP : Addr} {restO restP : List Value} {oS : Option Addr} {nS : Nat} {slS : Array (Option Value)} {t0 t1 t2 t3 t4 t5 t6 t7 t8 : Addr} {ot0 : Option Addr} {nt0 : Nat} {st0 : Array (Option Value)} {u0_0 u0_1 u0_2 u0_3 u0_4 u0_5 u0_6 : Tok} {ot1 : Option Addr} {nt1 : Nat} {st1 : Array (Option Value)} {u1_0 u1_1 u1_2 u1_3 u1_4 : Tok} {ot2 : Option Addr} {nt2 : Nat} {st2 : Array (Option Value)} {u2_0 u2_1 u2_2 : Tok} {ot3 : Option Addr} {nt3 : Nat} {st3 : Array (Option Value)} {u3_0 u3_1 u3_2 u3_3 : Tok} {ot4 : Option Addr} {nt4 : Nat} {st4 : Array (Option Value)} {u4_0 u4_1 u4_2 : Tok} {ot5 : Option Addr} {nt5 : Nat} {st5 : Array (Option Value)} {u5_0 u5_1 u5_2 : Tok} {ot6 : Option Addr} {nt6 : Nat} {st6 : Array (Option Value)} {u6_0 u6_1 : Tok} {ot7 : Option Addr} {nt7 : Nat} {st7 : Array (Option Value)} {u7_0 u7_1 : Tok} {ot8 : Option Addr} {nt8 : Nat} {st8 : Array (Option Value)} {u8_0 : Tok} (X : K.In h) (G : h.Ns mainGlobals mg) (hfa : mg "law" = some (.ref fa))
    {odI anI : Option Addr} {slI : Array (Option Value)} {ocI kVI dcI pmI cdI ctI : Value}
    {odO anO : Option Addr} {slO : Array (Option Value)} {ocO kVO dcO pmO cdO ctO : Value}
    {odP anP : Option Addr} {slP : Array (Option Value)} {ocP kVP dcP pmP cdP ctP : Value}
    {odH anH : Option Addr} {slH : Array (Option Value)} {ocH kVH dcH pmH cdH ctH : Value}
    {odG anG : Option Addr} {slG : Array (Option Value)} {ocG kVG dcG pmG cdG ctG : Value}
    {odW anW : Option Addr} {slW : Array (Option Value)} {ocW kVW dcW pmW cdW ctW : Value}
    {odZ anZ : Option Addr} {slZ : Array (Option Value)} {ocZ kVZ dcZ pmZ cdZ ctZ : Value}
    {odU anU : Option Addr} {slU : Array (Option Value)} {ocU kVU dcU pmU cdU ctU : Value}
    {odL anL : Option Addr} {slL : Array (Option Value)} {ocL kVL dcL pmL cdL ctL : Value}
    {odD anD : Option Addr} {slD : Array (Option Value)} {ocD kVD dcD pmD cdD ctD : Value}
    {odlaw anlaw : Option Addr} {sllaw : Array (Option Value)} {oclaw kVlaw dclaw pmlaw cdlaw ctlaw : Value}
    (aC : PySem.W.nsIn K mainGlobals "Rule" = some (some (.ref C)))
    (aS_ : PySem.W.nsIn K mainGlobals "STANCES" = some (some (.ref aS)))
    (lSt : K.lookup aS = some ⟨.type "tuple", oS, .seq #[.ref t0, .ref t1, .ref t2, .ref t3, .ref t4, .ref t5, .ref t6, .ref t7, .ref t8] nS, slS⟩)
    (lt0 : K.lookup t0 = some ⟨.type "tuple", ot0, .seq #[.str "own" u0_0, .str "nested" u0_1, .str "around" u0_2, .str "below" u0_3, .str "heir" u0_4, .str "package" u0_5, .str "any" u0_6] nt0, st0⟩)
    (lt1 : K.lookup t1 = some ⟨.type "tuple", ot1, .seq #[.str "nested" u1_0, .str "below" u1_1, .str "heir" u1_2, .str "package" u1_3, .str "any" u1_4] nt1, st1⟩)
    (lt2 : K.lookup t2 = some ⟨.type "tuple", ot2, .seq #[.str "around" u2_0, .str "package" u2_1, .str "any" u2_2] nt2, st2⟩)
    (lt3 : K.lookup t3 = some ⟨.type "tuple", ot3, .seq #[.str "below" u3_0, .str "heir" u3_1, .str "package" u3_2, .str "any" u3_3] nt3, st3⟩)
    (lt4 : K.lookup t4 = some ⟨.type "tuple", ot4, .seq #[.str "below" u4_0, .str "heir" u4_1, .str "any" u4_2] nt4, st4⟩)
    (lt5 : K.lookup t5 = some ⟨.type "tuple", ot5, .seq #[.str "heir" u5_0, .str "package" u5_1, .str "any" u5_2] nt5, st5⟩)
    (lt6 : K.lookup t6 = some ⟨.type "tuple", ot6, .seq #[.str "heir" u6_0, .str "any" u6_1] nt6, st6⟩)
    (lt7 : K.lookup t7 = some ⟨.type "tuple", ot7, .seq #[.str "package" u7_0, .str "any" u7_1] nt7, st7⟩)
    (lt8 : K.lookup t8 = some ⟨.type "tuple", ot8, .seq #[.str "any" u8_0] nt8, st8⟩)
    (aI : PySem.W.findIn K (.ref C) "__init__" = some (some (.ref fI)))
    (iI : PySem.W.isFn K (.ref fI) = true)
    (lI : K.lookup fI = some ⟨ocI, odI, .func (PySem.W.fnOf "__init__" "Rule.__init__" (defArgs sRInit) (defBody sRInit) (defScope sRInit) .none kVI dcI pmI anI cdI ctI), slI⟩)
    (cI : PySem.W.codeIn K cdI "Rule.__init__" = true)
    (kI : PySem.W.keepIn K (.ref fI) = true)
    (aH : PySem.W.nsIn K mainGlobals "_has_one_of" = some (some (.ref fH)))
    (lH : K.lookup fH = some ⟨ocH, odH, .func (PySem.W.fnOf "_has_one_of" "_has_one_of" (defArgs sHas) (defBody sHas) (defScope sHas) .none kVH dcH pmH anH cdH ctH), slH⟩)
    (cH : PySem.W.codeIn K cdH "_has_one_of" = true)
    (kH : PySem.W.keepIn K (.ref fH) = true)
    (aG : PySem.W.nsIn K mainGlobals "_law_digits" = some (some (.ref fG)))
    (lG : K.lookup fG = some ⟨ocG, odG, .func (PySem.W.fnOf "_law_digits" "_law_digits" (defArgs sDig) (defBody sDig) (defScope sDig) .none kVG dcG pmG anG cdG ctG), slG⟩)
    (cG : PySem.W.codeIn K cdG "_law_digits" = true)
    (kG : PySem.W.keepIn K (.ref fG) = true)
    (aW : PySem.W.nsIn K mainGlobals "_law_words" = some (some (.ref fW)))
    (lW : K.lookup fW = some ⟨ocW, odW, .func (PySem.W.fnOf "_law_words" "_law_words" (defArgs sWords) (defBody sWords) (defScope sWords) .none kVW dcW pmW anW cdW ctW), slW⟩)
    (cW : PySem.W.codeIn K cdW "_law_words" = true)
    (kW : PySem.W.keepIn K (.ref fW) = true)
    (aZ : PySem.W.nsIn K mainGlobals "_law_stances" = some (some (.ref fZ)))
    (lZ : K.lookup fZ = some ⟨ocZ, odZ, .func (PySem.W.fnOf "_law_stances" "_law_stances" (defArgs sStans) (defBody sStans) (defScope sStans) .none kVZ dcZ pmZ anZ cdZ ctZ), slZ⟩)
    (cZ : PySem.W.codeIn K cdZ "_law_stances" = true)
    (kZ : PySem.W.keepIn K (.ref fZ) = true)
    (aU : PySem.W.nsIn K mainGlobals "_law_same" = some (some (.ref fU)))
    (lU : K.lookup fU = some ⟨ocU, odU, .func (PySem.W.fnOf "_law_same" "_law_same" (defArgs sSame) (defBody sSame) (defScope sSame) .none kVU dcU pmU anU cdU ctU), slU⟩)
    (cU : PySem.W.codeIn K cdU "_law_same" = true)
    (kU : PySem.W.keepIn K (.ref fU) = true)
    (aL : PySem.W.nsIn K mainGlobals "_law_of" = some (some (.ref fL)))
    (lL : K.lookup fL = some ⟨ocL, odL, .func (PySem.W.fnOf "_law_of" "_law_of" (defArgs sLOf) (defBody sLOf) (defScope sLOf) .none kVL dcL pmL anL cdL ctL), slL⟩)
    (cL : PySem.W.codeIn K cdL "_law_of" = true)
    (kL : PySem.W.keepIn K (.ref fL) = true)
    (aD : PySem.W.nsIn K mainGlobals "_law_due" = some (some (.ref fD)))
    (lD : K.lookup fD = some ⟨ocD, odD, .func (PySem.W.fnOf "_law_due" "_law_due" (defArgs sDue) (defBody sDue) (defScope sDue) .none kVD dcD pmD anD cdD ctD), slD⟩)
    (cD : PySem.W.codeIn K cdD "_law_due" = true)
    (kD : PySem.W.keepIn K (.ref fD) = true)
    (alaw : PySem.W.nsIn K mainGlobals "law" = some (some (.ref flaw)))
    (llaw : K.lookup flaw = some ⟨oclaw, odlaw, .func (PySem.W.fnOf "law" "law" (defArgs sLaw) (defBody sLaw) (defScope sLaw) .none kVlaw dclaw pmlaw anlaw cdlaw ctlaw), sllaw⟩)
    (claw : PySem.W.codeIn K cdlaw "law" = true)
    (klaw : PySem.W.keepIn K (.ref flaw) = true)
    (pg : PySem.W.plainGet K C Str.empty = true)
    (hd : PySem.W.hasDictIn K C = true)
    (po : PySem.W.plainOver K C = true)
    (sa : PySem.W.findIn K (.ref C) "__setattr__" = some (some (.builtin "object.__setattr__")))
    (mk : PySem.W.makesIn K C = true)
    (kc : PySem.W.keepIn K (.ref C) = true)
    (nL : PySem.W.findIn K (.ref C) "_let" = some none)
    (rdC : PySem.W.readsIn K C (.type "type") = true)
    (gaC : PySem.W.specialIn K (.ref C) "__getattribute__" = some (some (.builtin "type.__getattribute__")))
    (atO : PySem.W.findCls K (.ref C) (.type "type") "of" = some (.get (.builtin "classmethod.__get__") (.ref pO) .none (.ref C)))
    (rcO : PySem.W.recIn K pO "classmethod" = some (.ref fO :: restO))
    (fiO : PySem.W.fnIn K fO = true)
    (atP : PySem.W.findIn K (.ref C) "stances" = some (some (.ref pP)))
    (gtP : PySem.W.specialIn K (.ref pP) "__get__" = some (some (.builtin "property.__get__")))
    (tkP : PySem.W.takesIn K (.ref pP) = some true)
    (rcP : PySem.W.recIn K pP "property" = some (.ref fP :: restP))
    (lO : K.lookup fO = some ⟨ocO, odO, .func (PySem.W.fnOf "of" "Rule.of" (defArgs sROf) (defBody sROf) (defScope sROf) .none kVO dcO pmO anO cdO ctO), slO⟩)
    (cO : PySem.W.codeIn K cdO "Rule.of" = true)
    (kO : PySem.W.keepIn K (.ref fO) = true)
    (lP : K.lookup fP = some ⟨ocP, odP, .func (PySem.W.fnOf "stances" "Rule.stances" (defArgs sRSt) (defBody sRSt) (defScope sRSt) .none kVP dcP pmP anP cdP ctP), slP⟩)
    (cP : PySem.W.codeIn K cdP "Rule.stances" = true)
    (kP : PySem.W.keepIn K (.ref fP) = true)
    (z_len : PySem.W.nsIn K mainGlobals "len" = some none)
    (z_range : PySem.W.nsIn K mainGlobals "range" = some none)
    (z_int : PySem.W.nsIn K mainGlobals "int" = some none)
    (z_isinstance : PySem.W.nsIn K mainGlobals "isinstance" = some none)
    (z_bool : PySem.W.nsIn K mainGlobals "bool" = some none)
    (z_str : PySem.W.nsIn K mainGlobals "str" = some none)
    (z_tuple : PySem.W.nsIn K mainGlobals "tuple" = some none)
    (z_list : PySem.W.nsIn K mainGlobals "list" = some none)
    (z_any : PySem.W.nsIn K mainGlobals "any" = some none)
    : ∃ fd : FuncData, (∀ (s : Shared) (v : Value), BindsTo s fd ⟨[v], []⟩ [("_law_script", v)]) ∧ ∀ base : Heap, K.In base → base.Ns mainGlobals mg → FnOk l.prog w K mg base CX0 5 fa fd ["_law_script"] (spLaw K) := by
  have e := hfa.symm.trans (PySem.W.mg_of X G alaw)
  cases e
  have FI := fun_mk (st := sRInit) lI cI kI
  have bI := FI.binds (ps := ["self", "stances"]) fun _ _ _ _ _ _ us hl => match us, hl with | [_, _], _ => rfl
  have FO := fun_mk (st := sROf) lO cO kO
  have FP := fun_mk (st := sRSt) lP cP kP
  have bP := FP.binds (ps := ["self"]) fun _ _ _ _ _ _ us hl => match us, hl with | [_], _ => rfl
  have FH := fun_mk (st := sHas) lH cH kH
  have bH := FH.binds (ps := ["stance", "words"]) fun _ _ _ _ _ _ us hl => match us, hl with | [_, _], _ => rfl
  have mH := PySem.W.mg_of X G aH
  have FG := fun_mk (st := sDig) lG cG kG
  have bG := FG.binds (ps := ["_law_script", "_law_at", "_law_sizes"]) fun _ _ _ _ _ _ us hl => match us, hl with | [_, _, _], _ => rfl
  have mG := PySem.W.mg_of X G aG
  have FW := fun_mk (st := sWords) lW cW kW
  have bW := FW.binds (ps := []) fun _ _ _ _ _ _ us hl => match us, hl with | [], _ => rfl
  have mW := PySem.W.mg_of X G aW
  have FZ := fun_mk (st := sStans) lZ cZ kZ
  have bZ := FZ.binds (ps := []) fun _ _ _ _ _ _ us hl => match us, hl with | [], _ => rfl
  have mZ := PySem.W.mg_of X G aZ
  have FU := fun_mk (st := sSame) lU cU kU
  have bU := FU.binds (ps := ["_law_actual", "_law_due_here"]) fun _ _ _ _ _ _ us hl => match us, hl with | [_, _], _ => rfl
  have mU := PySem.W.mg_of X G aU
  have FL := fun_mk (st := sLOf) lL cL kL
  have bL := FL.binds (ps := ["_law_words_here"]) fun _ _ _ _ _ _ us hl => match us, hl with | [_], _ => rfl
  have mL := PySem.W.mg_of X G aL
  have FD := fun_mk (st := sDue) lD cD kD
  have bD := FD.binds (ps := ["_law_words_here"]) fun _ _ _ _ _ _ us hl => match us, hl with | [_], _ => rfl
  have mD := PySem.W.mg_of X G aD
  have Flaw := fun_mk (st := sLaw) llaw claw klaw
  have T : Gls mg := ⟨PySem.W.mg_none_of X G z_len, PySem.W.mg_none_of X G z_range, PySem.W.mg_none_of X G z_int⟩
  have TI : GlsI mg := ⟨PySem.W.mg_none_of X G z_isinstance, PySem.W.mg_none_of X G z_bool, PySem.W.mg_none_of X G z_str, PySem.W.mg_none_of X G z_tuple, PySem.W.mg_none_of X G z_list⟩
  have vstr : ∀ {x : Str} {u : Tok}, RelV (.str x) (.str x u) := fun {x u} => ⟨u, rfl⟩
  have TR : GlsR K mg C aS := ⟨⟨pg, hd, po, sa⟩, nL, PySem.W.mg_none_of X G z_tuple, PySem.W.mg_none_of X G z_any, PySem.W.mg_of X G aS_, [t0, t1, t2, t3, t4, t5, t6, t7, t8],
    fun H => .inr ⟨_, _, _, lSt, rfl, rfl, (by show 9 ≤ sizeLine; decide), (.cons rfl (.cons rfl (.cons rfl (.cons rfl (.cons rfl (.cons rfl (.cons rfl (.cons rfl (.cons rfl .nil)))))))))⟩,
    fun H => (.cons (.inr ⟨_, _, _, lt0, rfl, rfl, (by show 7 ≤ sizeLine; decide), (.cons vstr (.cons vstr (.cons vstr (.cons vstr (.cons vstr (.cons vstr (.cons vstr .nil)))))))⟩) (.cons (.inr ⟨_, _, _, lt1, rfl, rfl, (by show 5 ≤ sizeLine; decide), (.cons vstr (.cons vstr (.cons vstr (.cons vstr (.cons vstr .nil)))))⟩) (.cons (.inr ⟨_, _, _, lt2, rfl, rfl, (by show 3 ≤ sizeLine; decide), (.cons vstr (.cons vstr (.cons vstr .nil)))⟩) (.cons (.inr ⟨_, _, _, lt3, rfl, rfl, (by show 4 ≤ sizeLine; decide), (.cons vstr (.cons vstr (.cons vstr (.cons vstr .nil))))⟩) (.cons (.inr ⟨_, _, _, lt4, rfl, rfl, (by show 3 ≤ sizeLine; decide), (.cons vstr (.cons vstr (.cons vstr .nil)))⟩) (.cons (.inr ⟨_, _, _, lt5, rfl, rfl, (by show 3 ≤ sizeLine; decide), (.cons vstr (.cons vstr (.cons vstr .nil)))⟩) (.cons (.inr ⟨_, _, _, lt6, rfl, rfl, (by show 2 ≤ sizeLine; decide), (.cons vstr (.cons vstr .nil))⟩) (.cons (.inr ⟨_, _, _, lt7, rfl, rfl, (by show 2 ≤ sizeLine; decide), (.cons vstr (.cons vstr .nil))⟩) (.cons (.inr ⟨_, _, _, lt8, rfl, rfl, (by show 1 ≤ sizeLine; decide), (.cons vstr .nil)⟩) .nil)))))))))⟩
  have TC : GlsC K mg C (.type "type") pO fO := ⟨PySem.W.mg_of X G aC, ⟨rdC, gaC⟩, ⟨atO, ⟨_, rcO⟩, fiO⟩⟩
  have PP : PropOf K C "stances" pP fP := ⟨atP, gtP, tkP, ⟨_, rcP⟩⟩
  have bO := StX.bind_star1 (B := fun us => bindArgs (PySem.W.fnOf "of" "Rule.of" (defArgs sROf) (defBody sROf) (defScope sROf) .none kVO dcO pmO anO cdO ctO) ⟨us, []⟩) (p1 := "cls") (pv := "words") (fun a => rfl) (fun a r rs => rfl)
  exact ⟨_, fun s v => .of_eq rfl, fun base _ _ => ok_law Flaw T TI TR TC ⟨mk, aI, iI, kc⟩ FI bI FO bO FP bP PP FH bH mH FG bG mG FW bW mW FZ bZ mZ FU bU mU FL bL mL FD bD mD⟩
theorem walk {l : PySem.W.OpenLaw} {q : Program} {loose : List Str} {XP : (Str → Option Value) → Heap → Prop} {YP : World → Heap → Prop} {d : DefRec} {K : Params → PySem.W.Frag} (hn : l.most = some 63) (hdf : d.params.defaults = [])
    (hY : ∀ (w : World) (h : Heap), YP w h → (K w.params).In h)
    (F : ∀ (w : World) (mg : Str → Option Value) (fa : Addr) (h : Heap), (K w.params).In h → h.Ns mainGlobals mg → mg d.name = some (.ref fa) →
      ∃ fd : FuncData, (∀ (s : Shared) (u : Value), BindsTo s fd ⟨[u], []⟩ [("_law_script", u)]) ∧ ∀ base : Heap, (K w.params).In base → base.Ns mainGlobals mg → FnOk l.prog w (K w.params) mg base CX0 5 fa fd ["_law_script"] (spLaw (K w.params))) :
    PySem.W.WalkO q loose XP YP l.row.toRowW d [] (fun f vs => PySem.call f vs) :=
  L2.walk_of (n := 63) (k := 5) (x := "_law_script") (CX := fun _ => CX0) (sp := fun w => spLaw (K w.params)) hn (by decide) hdf ⟨rfl, by decide, by decide⟩ hY F (fun _ _ a ns hl _ hS => ⟨a, ns, rfl, hS, hl, fun _ => rfl⟩) fun _ _ _ _ _ z => z
end My
open PySem PySem.W PyProof.Rows
set_option maxRecDepth 100000 in
set_option maxHeartbeats 0 in
theorem PySem.Challenge.cw_whomayname_k01_rule_of_words_holds : PySem.Challenge.rw_whomayname_k01_rule_of_words.Holds := by
  w_on; o_law; k_head; (case hw => w_witness2)
  k_fill
  refine My.walk (l := PySem.Challenge.rw_whomayname_k01_rule_of_words) rfl rfl (fun w h Y => PySem.W.kIn_of Y) ?F
  case F =>
    intro w mg fa h KX G hmg
    refine' My.all_mk KX G hmg ?aC ?aS_ ?lSt ?lt0 ?lt1 ?lt2 ?lt3 ?lt4 ?lt5 ?lt6 ?lt7 ?lt8 ?aI ?iI ?lI ?cI ?kI ?aH ?lH ?cH ?kH ?aG ?lG ?cG ?kG ?aW ?lW ?cW ?kW ?aZ ?lZ ?cZ ?kZ ?aU ?lU ?cU ?kU ?aL ?lL ?cL ?kL ?aD ?lD ?cD ?kD ?alaw ?llaw ?claw ?klaw ?pg ?hd ?po ?sa ?mk ?kc ?nL ?rdC ?gaC ?atO ?rcO ?fiO ?atP ?gtP ?tkP ?rcP ?lO ?cO ?kO ?lP ?cP ?kP ?z_len ?z_range ?z_int ?z_isinstance ?z_bool ?z_str ?z_tuple ?z_list ?z_any
    (case aC => k_is)
    (case aS_ => k_is)
    (case lSt => k_is)
    (case lt0 => k_is)
    (case lt1 => k_is)
    (case lt2 => k_is)
    (case lt3 => k_is)
    (case lt4 => k_is)
    (case lt5 => k_is)
    (case lt6 => k_is)
    (case lt7 => k_is)
    (case lt8 => k_is)
    (case aI => k_is)
    (case iI => k_is)
    (case lI => k_is)
    (case cI => k_is)
    (case kI => k_is)
    (case aH => k_is)
    (case lH => k_is)
    (case cH => k_is)
    (case kH => k_is)
    (case aG => k_is)
    (case lG => k_is)
    (case cG => k_is)
    (case kG => k_is)
    (case aW => k_is)
    (case lW => k_is)
    (case cW => k_is)
    (case kW => k_is)
    (case aZ => k_is)
    (case lZ => k_is)
    (case cZ => k_is)
    (case kZ => k_is)
    (case aU => k_is)
    (case lU => k_is)
    (case cU => k_is)
    (case kU => k_is)
    (case aL => k_is)
    (case lL => k_is)
    (case cL => k_is)
    (case kL => k_is)
    (case aD => k_is)
    (case lD => k_is)
    (case cD => k_is)
    (case kD => k_is)
    (case alaw => k_is)
    (case llaw => k_is)
    (case claw => k_is)
    (case klaw => k_is)
    (case pg => k_is)
    (case hd => k_is)
    (case po => k_is)
    (case sa => k_is)
    (case mk => k_is)
    (case kc => k_is)
    (case nL => k_is)
    (case rdC => k_is)
    (case gaC => k_is)
    (case atO => k_is)
    (case rcO => k_is)
    (case fiO => k_is)
    (case atP => k_is)
    (case gtP => k_is)
    (case tkP => k_is)
    (case rcP => k_is)
    (case lO => k_is)
    (case cO => k_is)
    (case kO => k_is)
    (case lP => k_is)
    (case cP => k_is)
    (case kP => k_is)
    (case z_len => k_is)
    (case z_range => k_is)
    (case z_int => k_is)
    (case z_isinstance => k_is)
    (case z_bool => k_is)
    (case z_str => k_is)
    (case z_tuple => k_is)
    (case z_list => k_is)
    (case z_any => k_is)
