import PyProof.Rows.All
import Wide.All
import OpenK.AllK
import Wide.FinOn
import HandS.ForMost
import HandS.IsInst
import HandS.Evl
import HandS.ClsMeth
import HandS.Star
import HandS.Property
import HandS.Deep
import HandS.Conv
import HandS.Exc
import HandS.TryOnly
import HandS.TryMany
import HandS.ExcOwn
import HandS.WordsExc
import HandS.ExcInit
import HandS.Defaults
import HandS.MakeKw
import HandS.Flow
import KE.KDictKeyed
import HandS.CallSlots
import HandS.ExcIs
import HandS.ExcField
import HandS.FStr
import HandS.FStrTup
import HandS.MakeKwOnly
import KE.KDictLaws
import PySem.Challenge.RW_whomayname_k14_member_refusals
set_option Elab.async false
set_option linter.all false
set_option maxRecDepth 100000
set_option maxHeartbeats 4000000
namespace RL
open PySem L2
/-! plain values: tuples are values, all that changes is behind a number -/
inductive D where
  | non | bl (b : Bool) | int (i : Int) | str (s : Str) | tup (l : List D) | kl (l : List D) | ref (n : Nat)
  deriving Inhabited
mutual
def D.dec : (a b : D) → Decidable (a = b)
  | .non, .non => .isTrue rfl
  | .bl a, .bl b => if h : a = b then .isTrue (by rw [h]) else .isFalse fun z => h (D.bl.inj z)
  | .int a, .int b => if h : a = b then .isTrue (by rw [h]) else .isFalse fun z => h (D.int.inj z)
  | .str a, .str b => if h : a = b then .isTrue (by rw [h]) else .isFalse fun z => h (D.str.inj z)
  | .ref a, .ref b => if h : a = b then .isTrue (by rw [h]) else .isFalse fun z => h (D.ref.inj z)
  | .tup a, .tup b => match D.decs a b with
    | .isTrue h => .isTrue (by rw [h])
    | .isFalse h => .isFalse fun z => h (D.tup.inj z)
  | .kl a, .kl b => match D.decs a b with
    | .isTrue h => .isTrue (by rw [h])
    | .isFalse h => .isFalse fun z => h (D.kl.inj z)
  | .kl _, .non | .kl _, .bl _ | .kl _, .int _ | .kl _, .str _ | .kl _, .tup _ | .kl _, .ref _ => .isFalse nofun
  | .non, .kl _ | .bl _, .kl _ | .int _, .kl _ | .str _, .kl _ | .tup _, .kl _ | .ref _, .kl _ => .isFalse nofun
  | .non, .bl _ | .non, .int _ | .non, .str _ | .non, .tup _ | .non, .ref _ => .isFalse nofun
  | .bl _, .non | .bl _, .int _ | .bl _, .str _ | .bl _, .tup _ | .bl _, .ref _ => .isFalse nofun
  | .int _, .non | .int _, .bl _ | .int _, .str _ | .int _, .tup _ | .int _, .ref _ => .isFalse nofun
  | .str _, .non | .str _, .bl _ | .str _, .int _ | .str _, .tup _ | .str _, .ref _ => .isFalse nofun
  | .tup _, .non | .tup _, .bl _ | .tup _, .int _ | .tup _, .str _ | .tup _, .ref _ => .isFalse nofun
  | .ref _, .non | .ref _, .bl _ | .ref _, .int _ | .ref _, .str _ | .ref _, .tup _ => .isFalse nofun
def D.decs : (a b : List D) → Decidable (a = b)
  | [], [] => .isTrue rfl
  | [], _ :: _ => .isFalse nofun
  | _ :: _, [] => .isFalse nofun
  | x :: xs, y :: ys => match D.dec x y, D.decs xs ys with
    | .isTrue h, .isTrue h' => .isTrue (by rw [h, h'])
    | .isFalse h, _ => .isFalse fun z => h (List.cons.inj z).1
    | _, .isFalse h => .isFalse fun z => h (List.cons.inj z).2
end
instance : DecidableEq D := D.dec
/-- what stands behind a number: a list, a list that is only read, a dict (locked while a loop goes over it), an object of an own class -/
inductive Ob where
  | lst (l : List D) | rol (l : List D) | dct (k : Bool) (l : List (D × D)) | ins (c : Str) (fs : List (Str × D))
  deriving DecidableEq
abbrev G := List Ob
/-- an own error: its class, and its fields -/
structure Exc where
  cls : Str
  fs : List (Str × D)
inductive Res (α : Type) where
  | ok (a : α) (g : G) | exc (e : Exc) (g : G) | bad
abbrev M (α : Type) := G → Res α
def Res.bind {α β : Type} (r : Res α) (k : α → M β) : Res β := match r with
  | .ok a g => k a g
  | .exc e g => .exc e g
  | .bad => .bad
@[simp] theorem Res.bind_ok {α β : Type} (a : α) (g : G) (k : α → M β) : (Res.ok a g).bind k = k a g := rfl
@[simp] theorem Res.bind_exc {α β : Type} (e : Exc) (g : G) (k : α → M β) : (Res.exc e g : Res α).bind k = .exc e g := rfl
@[simp] theorem Res.bind_bad {α β : Type} (k : α → M β) : (Res.bad : Res α).bind k = .bad := rfl
/-- slots -/
abbrev T := List (Option D)
abbrev ME := T → M D
abbrev MA := T → M (List D)
abbrev MT := T → M Bool
inductive SR where
  | nx (t : T) (g : G) | rt (d : D) (g : G) | bk (t : T) (g : G) | ct (t : T) (g : G) | ex (e : Exc) (t : T) (g : G) | bad
abbrev MS := T → G → SR

/-- texts that occur: code points, and not too many -/
def sOk (s : Str) : Bool := PyData.strOk s && decide (s.length ≤ 1000)
/-- the names of fields: no method has one of them -/
def fieldNames : List Str := ["_acts", "_bases", "_book", "_cast", "_classes", "_house", "_kinds", "_known", "_later", "_let", "_levels", "_library", "_lines", "_other", "_outer", "_packages", "_programs", "_roots", "_rules", "_sealed", "_uses", "bodies", "farther", "here", "rows", "there", "third"]
def fieldOk (f : Str) : Bool := fieldNames.contains f
/-! ### how plain values stand for those of the run -/
/-- a list that is only read: the script -/
def SqF (K : PySem.W.Frag) (H : Hp) (a : Addr) (xs : List V) : Prop := (∃ o, H a = some (.frz o (.lst xs))) ∨ ∃ (o : Obj) (its : Array Value) (n : Nat), K.lookup a = some o ∧ o.cls = .type "list" ∧ o.dict = none ∧ o.data = .seq its n ∧ its.size ≤ sizeLine ∧ Vals xs its.toList
theorem SqF.seq {K : PySem.W.Frag} {H : Hp} {a : Addr} {xs : List V} (h : SqF K H a xs) : SqL K H a xs := by
  rcases h with h | h
  · exact .inl (.inr h)
  · exact .inr h
section
variable (K : PySem.W.Frag) (ρ : List Addr) (H : Hp)
mutual
inductive RelD : D → V → Prop
  | non : RelD .non .non
  | bl (b : Bool) : RelD (.bl b) (.bl b)
  | int (i : Int) : RelD (.int i) (.int i)
  | str {s : Str} : sOk s = true → RelD (.str s) (.str s)
  | tup {l : List D} {a : Addr} {xs : List V} : SqT K H a xs → RelDs l xs → RelD (.tup l) (.ref a)
  | kl {l : List D} {a : Addr} {xs : List V} : SqF K H a xs → RelDs l xs → RelD (.kl l) (.ref a)
  | ref {n : Nat} {a : Addr} : ρ[n]? = some a → RelD (.ref n) (.ref a)
inductive RelDs : List D → List V → Prop
  | nil : RelDs [] []
  | cons {d : D} {v : V} {ds : List D} {vs : List V} : RelD d v → RelDs ds vs → RelDs (d :: ds) (v :: vs)
end
end
section
variable {K : PySem.W.Frag} {ρ ρ' : List Addr} {H H' : Hp}
theorem RelDs.length : ∀ {ds : List D} {vs : List V}, RelDs K ρ H ds vs → ds.length = vs.length
  | _, _, .nil => rfl
  | _, _, .cons _ t => by rw [List.length_cons, List.length_cons, t.length]
theorem RelDs.get : ∀ {ds : List D} {vs : List V}, RelDs K ρ H ds vs → ∀ {i : Nat} {d : D}, ds[i]? = some d → ∃ v, vs[i]? = some v ∧ RelD K ρ H d v
  | _, _, .nil, _, _, e => by simp at e
  | _, _, .cons h _, 0, _, e => by
    cases e
    exact ⟨_, rfl, h⟩
  | _, _, .cons _ t, i + 1, d, e => by
    obtain ⟨v, h1, h2⟩ := t.get (i := i) (d := d) (by simpa using e)
    exact ⟨v, by simpa using h1, h2⟩
theorem RelDs.app : ∀ {ds : List D} {vs : List V} {es : List D} {us : List V}, RelDs K ρ H ds vs → RelDs K ρ H es us → RelDs K ρ H (ds ++ es) (vs ++ us)
  | _, _, _, _, .nil, h => h
  | _, _, _, _, .cons q t, h => .cons q (t.app h)
theorem RelDs.one {d : D} {v : V} (h : RelD K ρ H d v) : RelDs K ρ H [d] [v] := .cons h .nil
theorem RelDs.take : ∀ {ds : List D} {vs : List V} (n : Nat), RelDs K ρ H ds vs → RelDs K ρ H (ds.take n) (vs.take n)
  | _, _, 0, _ => .nil
  | _, _, _ + 1, .nil => .nil
  | _, _, n + 1, .cons h t => .cons h (t.take n)
theorem RelDs.drop : ∀ {ds : List D} {vs : List V} (n : Nat), RelDs K ρ H ds vs → RelDs K ρ H (ds.drop n) (vs.drop n)
  | _, _, 0, h => h
  | _, _, _ + 1, .nil => .nil
  | _, _, n + 1, .cons _ t => t.drop n
theorem RelDs.set {d : D} {v : V} (q : RelD K ρ H d v) : ∀ {ds : List D} {vs : List V} (n : Nat), RelDs K ρ H ds vs → RelDs K ρ H (ds.set n d) (vs.set n v)
  | _, _, _, .nil => .nil
  | _, _, 0, .cons _ t => .cons q t
  | _, _, n + 1, .cons h t => .cons h (RelDs.set q n t)
mutual
theorem RelD.mono (hr : ∀ (n : Nat) (a : Addr), ρ[n]? = some a → ρ'[n]? = some a) (ht : ∀ a xs, SqT K H a xs → SqT K H' a xs) (hf : ∀ a xs, SqF K H a xs → SqF K H' a xs) : ∀ {d : D} {v : V}, RelD K ρ H d v → RelD K ρ' H' d v
  | _, _, .non => .non
  | _, _, .bl b => .bl b
  | _, _, .int i => .int i
  | _, _, .str h => .str h
  | _, _, .tup h t => .tup (ht _ _ h) (RelDs.mono hr ht hf t)
  | _, _, .kl h t => .kl (hf _ _ h) (RelDs.mono hr ht hf t)
  | _, _, .ref h => .ref (hr _ _ h)
theorem RelDs.mono (hr : ∀ (n : Nat) (a : Addr), ρ[n]? = some a → ρ'[n]? = some a) (ht : ∀ a xs, SqT K H a xs → SqT K H' a xs) (hf : ∀ a xs, SqF K H a xs → SqF K H' a xs) : ∀ {ds : List D} {vs : List V}, RelDs K ρ H ds vs → RelDs K ρ' H' ds vs
  | _, _, .nil => .nil
  | _, _, .cons h t => .cons (RelD.mono hr ht hf h) (RelDs.mono hr ht hf t)
end
end
end RL
namespace RL
open PySem L2
/-- what all states of a run have in common -/
structure U where
  K : PySem.W.Frag
  cn : Str → Addr
  P : Program
  w : World

/-! ### dicts whose keys are tuples of texts, None, True and False -/
inductive PK where
  | non | bl (b : Bool) | str (x : Str)
  deriving DecidableEq
def PK.leaf : PK → Leaf
  | .non => .none
  | .bl b => .num (if b = true then 1 else 0)
  | .str x => .text x
theorem PK.leaf_inj : ∀ {a b : PK}, a.leaf = b.leaf → a = b
  | .non, .non, _ => rfl
  | .bl a, .bl b, h => by
    cases a <;> cases b <;> first | rfl | (exfalso; simp [PK.leaf] at h)
  | .str a, .str b, h => by
    simp [PK.leaf] at h
    rw [h]
  | .non, .bl _, h | .non, .str _, h | .bl _, .non, h | .bl _, .str _, h | .str _, .non, h | .str _, .bl _, h => by simp [PK.leaf] at h
def PK.isOf : PK → Value → Bool
  | .non, .none => true
  | .bl b, .bool c => decide (b = c)
  | .str x, v => Value.isStrOf x v
  | _, _ => false
theorem PK.isLeaf : ∀ {k : PK} {v : Value}, PK.isOf k v = true → Leaf.isOf k.leaf v = true
  | .non, v, h => by cases v <;> first | rfl | exact absurd h Bool.false_ne_true
  | .bl b, v, h => by
    cases v with
    | bool c =>
      have e : b = c := of_decide_eq_true h
      subst e
      show decide _ = true
      cases b <;> rfl
    | _ => exact absurd h Bool.false_ne_true
  | .str x, v, h => h
/-- the kind of such keys -/
def pkKind (P : Program) (w : World) : KeyKind P w PK where
  is := PK.isOf
  hash := fun k => (leafKind P w).hash k.leaf
  inj := fun v a b ha hb => PK.leaf_inj ((leafKind P w).inj v _ _ (PK.isLeaf ha) (PK.isLeaf hb))
  byValue := fun k v h => (leafKind P w).byValue _ v (PK.isLeaf h)
  pyHash := fun hv h => (leafKind P w).pyHash (PK.isLeaf hv) h
  eqBool := fun {A E s a b u v Q} hu hv h => (leafKind P w).eqBool (PK.isLeaf hu) (PK.isLeaf hv) (by
    have e : decide (a.leaf = b.leaf) = decide (a = b) := by
      by_cases q : a = b
      · rw [q]
        simp
      · rw [decide_eq_false q, decide_eq_false fun z => q (PK.leaf_inj z)]
    rw [e]
    exact h)
  «strs» := fun k x t v h => by
    cases k with
    | non => exact absurd h Bool.false_ne_true
    | bl b => exact absurd h Bool.false_ne_true
    | str y => exact (leafKind P w).strs (.text y) x t v h
abbrev tk (P : Program) (w : World) : HeapKind P w (List PK) := tupleKind (pkKind P w)
abbrev Ent := List PK × Addr × Value
def RawP (P : Program) (w : World) (h : Heap) (a : Addr) (xs : List Ent) : Prop :=
  xs.length ≤ sizeLine ∧ (a == sysModules) = false ∧ (xs.map (·.1)).Nodup ∧ ∃ o es ep, h.get? a = some o ∧ o.ExactDict ∧ o.data = .dict es ep ∧ es.toList = xs.map (entryOfKey (tk P w))
/-- a dict of such keys: its entries, as they lie -/
abbrev dP (P : Program) (w : World) (a : Addr) (xs : List Ent) : HO := .ext fun h => RawP P w h a xs
def toPK : D → Option PK
  | .non => some .non
  | .bl b => some (.bl b)
  | .str s => some (.str s)
  | _ => none
def toPKs : List D → Option (List PK)
  | [] => some []
  | d :: l => match toPK d, toPKs l with
    | some k, some ks => some (k :: ks)
    | _, _ => none
theorem toPK_inj : ∀ {d e : D} {k : PK}, toPK d = some k → toPK e = some k → d = e := by
  intro d e k h h'
  cases d <;> simp [toPK] at h <;> subst h <;> cases e <;> simp [toPK] at h' <;> first | rfl | rw [h']
theorem toPKs_inj : ∀ {l m : List D} {k : List PK}, toPKs l = some k → toPKs m = some k → l = m
  | [], [], _, _, _ => rfl
  | [], e :: m, k, h, h' => by
    simp only [toPKs] at h h'
    cases h
    split at h' <;> simp at h'
  | d :: l, [], k, h, h' => by
    simp only [toPKs] at h h'
    cases h'
    split at h <;> simp at h
  | d :: l, e :: m, k, h, h' => by
    simp only [toPKs] at h h'
    split at h
    · rename_i a as h1 h2
      cases h
      split at h'
      · rename_i b bs h3 h4
        cases h'
        rw [toPK_inj h1 h3, toPKs_inj h2 h4]
      · cases h'
    · cases h
section
variable (K : PySem.W.Frag) (ρ : List Addr) (H : Hp)
inductive RelKs : List (D × D) → List (Key × V) → Prop
  | nil : RelKs [] []
  | cons {s : Str} {d : D} {v : V} {ds : List (D × D)} {vs : List (Key × V)} : sOk s = true → RelD K ρ H d v → RelKs ds vs → RelKs ((.str s, d) :: ds) ((.inr s, v) :: vs)
inductive RelPs : List (D × D) → List Ent → Prop
  | nil : RelPs [] []
  | cons {l : List D} {k : List PK} {b : Addr} {d : D} {v : V} {u : Value} {ds : List (D × D)} {xs : List Ent} : toPKs l = some k → RelD K ρ H (.tup l) (.ref b) → RelD K ρ H d v → RelV v u → RelPs ds xs → RelPs ((.tup l, d) :: ds) ((k, b, u) :: xs)
variable (P : Program) (w : World)
/-- a dict as it stands, unlocked -/
def DctU (a : Addr) (kvs : List (D × D)) (u : HO) : Prop := (∃ ks, u = .dK ks ∧ RelKs K ρ H kvs ks) ∨ ∃ xs, u = dP P w a xs ∧ RelPs K ρ H kvs xs ∧ kvs ≠ []
def RelF : Option D → Option V → Prop
  | some d, some v => RelD K ρ H d v
  | none, none => True
  | _, _ => False
inductive RelFs : List (Str × D) → List (Str × V) → Prop
  | nil : RelFs [] []
  | cons {f : Str} {d : D} {v : V} {ds : List (Str × D)} {vs : List (Str × V)} : fieldOk f = true → RelD K ρ H d v → RelFs ds vs → RelFs ((f, d) :: ds) ((f, v) :: vs)
variable (cn : Str → Addr)
def ObRel (a : Addr) : Ob → Prop
  | .lst l => ∃ xs, H a = some (.lst xs) ∧ RelDs K ρ H l xs
  | .rol l => ∃ xs o, H a = some (.frz o (.lst xs)) ∧ RelDs K ρ H l xs ∧ False
  | .dct false kvs => ∃ u, H a = some u ∧ DctU K ρ H P w a kvs u
  | .dct true kvs => ∃ u o, H a = some (.frz o u) ∧ DctU K ρ H P w a kvs u
  | .ins c fs => ∃ dx fs', H a = some (.ins (cn c) dx fs') ∧ RelFs K ρ H fs fs'
end
section
variable (u : U) (ρ : List Addr) (H : Hp)
structure Rep (g : G) : Prop where
  len : ρ.length = g.length
  nod : ρ.Nodup
  obs : ∀ (i : Nat) (o : Ob) (a : Addr), g[i]? = some o → ρ[i]? = some a → ObRel u.K ρ H u.P u.w u.cn a o
end
/-- what happens between two states: new objects are counted, what is not counted stays -/
structure Ev (ρ : List Addr) (H : Hp) (ρ' : List Addr) (H' : Hp) : Prop where
  pre : ∃ new, ρ' = ρ ++ new ∧ ∀ a ∈ new, H a = none
  liv : ∀ a, H' a = none → H a = none
  frm : ∀ a o, H a = some o → a ∉ ρ → H' a = some o
  frz : ∀ a o x, H a = some (.frz o x) → H' a = some (.frz o x)
section
variable {u : U} {ρ ρ' ρ'' : List Addr} {H H' H'' : Hp} {g g' : G}
theorem ndix {l : List Addr} (h : l.Nodup) {i j : Nat} {x : Addr} (a : l[i]? = some x) (b : l[j]? = some x) : i = j := by
  obtain ⟨_, e1⟩ := List.getElem?_eq_some_iff.mp a
  obtain ⟨_, e2⟩ := List.getElem?_eq_some_iff.mp b
  exact (List.getElem_inj h).mp (e1.trans e2.symm)
theorem Ev.refl : Ev ρ H ρ H := ⟨⟨[], by simp, fun a h => absurd h (by simp)⟩, fun _ h => h, fun _ _ h _ => h, fun _ _ _ h => h⟩
theorem Ev.trans (e : Ev ρ H ρ' H') (f : Ev ρ' H' ρ'' H'') : Ev ρ H ρ'' H'' := by
  obtain ⟨⟨n1, rfl, h1⟩, l1, k1, z1⟩ := e
  obtain ⟨⟨n2, rfl, h2⟩, l2, k2, z2⟩ := f
  refine ⟨⟨n1 ++ n2, by simp, fun a m => ?_⟩, fun a h => l1 a (l2 a h), fun a o h n => ?_, fun a o x h => z2 a o x (z1 a o x h)⟩
  · rcases List.mem_append.mp m with m | m
    · exact h1 a m
    · exact l1 a (h2 a m)
  · refine k2 a o (k1 a o h n) fun m => ?_
    rcases List.mem_append.mp m with m | m
    · exact n m
    · rw [h1 a m] at h
      cases h
theorem Ev.ix (e : Ev ρ H ρ' H') : ∀ (n : Nat) (a : Addr), ρ[n]? = some a → ρ'[n]? = some a := by
  obtain ⟨⟨n1, rfl, _⟩, _, _, _⟩ := e
  intro n a h
  rw [List.getElem?_append_left (List.getElem?_eq_some_iff.mp h).1]
  exact h
theorem Rep.there (r : Rep u ρ H g) {a : Addr} (m : a ∈ ρ) : ∃ (i : Nat) (o : Ob), g[i]? = some o ∧ ρ[i]? = some a ∧ ObRel u.K ρ H u.P u.w u.cn a o := by
  obtain ⟨i, hi, e⟩ := List.getElem_of_mem m
  have hg : i < g.length := by rw [← r.len]; exact hi
  have e1 : g[i]? = some g[i] := List.getElem?_eq_getElem hg
  have e2 : ρ[i]? = some a := by rw [List.getElem?_eq_getElem hi, e]
  exact ⟨i, _, e1, e2, r.obs i _ a e1 e2⟩
/-- a counted object is no tuple -/
theorem Rep.notup (r : Rep u ρ H g) {a : Addr} (m : a ∈ ρ) {xs : List V} : ¬ Rd H a (.tup xs) := by
  obtain ⟨i, o, _, _, q⟩ := r.there m
  cases o with
  | lst l =>
    obtain ⟨ys, e, _⟩ := q
    rintro (h | ⟨ob, h⟩) <;> rw [e] at h <;> cases h
  | rol l =>
    obtain ⟨ys, ob, e, _⟩ := q
    rintro (h | ⟨ob', h⟩) <;> rw [e] at h <;> cases h
  | dct k l =>
    cases k with
    | false =>
      obtain ⟨w, e, ⟨ks, rfl, _⟩ | ⟨ks, rfl, _⟩⟩ := q <;> rintro (h | ⟨ob', h⟩) <;> rw [e] at h <;> cases h
    | true =>
      obtain ⟨w, ob, e, ⟨ks, rfl, _⟩ | ⟨ks, rfl, _⟩⟩ := q <;> rintro (h | ⟨ob', h⟩) <;> rw [e] at h <;> cases h
  | ins c fs =>
    obtain ⟨dx, fs', e, _⟩ := q
    rintro (h | ⟨ob, h⟩) <;> rw [e] at h <;> cases h
theorem Ev.tup (e : Ev ρ H ρ' H') (r : Rep u ρ H g) {a : Addr} {xs : List V} (h : SqT u.K H a xs) : SqT u.K H' a xs := by
  rcases h with h | h
  · left
    have n : a ∉ ρ := fun m => r.notup m h
    rcases h with h | ⟨o, h⟩
    · exact .inl (e.frm _ _ h n)
    · exact .inr ⟨o, e.frm _ _ h n⟩
  · exact .inr h
theorem Rep.nofrz (r : Rep u ρ H g) {a : Addr} {ob : Obj} {xs : List V} (h : H a = some (.frz ob (.lst xs))) : a ∉ ρ := fun m => by
  obtain ⟨i, o, _, _, q⟩ := r.there m
  cases o with
  | lst l => obtain ⟨_, e, _⟩ := q; rw [h] at e; cases e
  | rol l => obtain ⟨_, _, _, _, z⟩ := q; exact z
  | dct k l =>
    cases k with
    | false => obtain ⟨_, e, ⟨_, rfl, _⟩ | ⟨_, rfl, _⟩⟩ := q <;> rw [h] at e <;> cases e
    | true => obtain ⟨_, _, e, ⟨_, rfl, _⟩ | ⟨_, rfl, _⟩⟩ := q <;> rw [h] at e <;> cases e
  | ins c fs => obtain ⟨_, _, e, _⟩ := q; rw [h] at e; cases e
theorem Ev.kl (e : Ev ρ H ρ' H') (r : Rep u ρ H g) {a : Addr} {xs : List V} (h : SqF u.K H a xs) : SqF u.K H' a xs := by
  rcases h with ⟨o, h⟩ | h
  · exact .inl ⟨o, e.frm _ _ h (r.nofrz h)⟩
  · exact .inr h
theorem Ev.rel (e : Ev ρ H ρ' H') (r : Rep u ρ H g) {d : D} {v : V} (h : RelD u.K ρ H d v) : RelD u.K ρ' H' d v := h.mono e.ix (fun _ _ q => e.tup r q) fun _ _ q => e.kl r q
theorem Ev.rels (e : Ev ρ H ρ' H') (r : Rep u ρ H g) {d : List D} {v : List V} (h : RelDs u.K ρ H d v) : RelDs u.K ρ' H' d v := h.mono e.ix (fun _ _ q => e.tup r q) fun _ _ q => e.kl r q
theorem RelKs.mono {K : PySem.W.Frag} (m : ∀ {d : D} {v : V}, RelD K ρ H d v → RelD K ρ' H' d v) : ∀ {ds : List (D × D)} {ks : List (Key × V)}, RelKs K ρ H ds ks → RelKs K ρ' H' ds ks
  | _, _, .nil => .nil
  | _, _, .cons k h t => .cons k (m h) (RelKs.mono m t)
theorem RelPs.mono {K : PySem.W.Frag} (m : ∀ {d : D} {v : V}, RelD K ρ H d v → RelD K ρ' H' d v) : ∀ {ds : List (D × D)} {ks : List Ent}, RelPs K ρ H ds ks → RelPs K ρ' H' ds ks
  | _, _, .nil => .nil
  | _, _, .cons h1 h2 h3 h4 t => .cons h1 (m h2) (m h3) h4 (RelPs.mono m t)
theorem DctU.mono (m : ∀ {d : D} {v : V}, RelD u.K ρ H d v → RelD u.K ρ' H' d v) {a : Addr} {kvs : List (D × D)} {o : HO} (h : DctU u.K ρ H u.P u.w a kvs o) : DctU u.K ρ' H' u.P u.w a kvs o := by
  rcases h with ⟨ks, e, r⟩ | ⟨ks, e, r⟩
  · exact .inl ⟨ks, e, r.mono m⟩
  · exact .inr ⟨ks, e, r.1.mono m, r.2⟩
theorem RelDs.monoB {K : PySem.W.Frag} (m : ∀ {d : D} {v : V}, RelD K ρ H d v → RelD K ρ' H' d v) : ∀ {ds : List D} {vs : List V}, RelDs K ρ H ds vs → RelDs K ρ' H' ds vs
  | _, _, .nil => .nil
  | _, _, .cons h t => .cons (m h) (t.monoB m)
theorem RelF.mono {K : PySem.W.Frag} (m : ∀ {d : D} {v : V}, RelD K ρ H d v → RelD K ρ' H' d v) {d : Option D} {v : Option V} (h : RelF K ρ H d v) : RelF K ρ' H' d v := by
  cases d <;> cases v <;> first | exact h | exact m h
theorem RelFs.mono {K : PySem.W.Frag} (m : ∀ {d : D} {v : V}, RelD K ρ H d v → RelD K ρ' H' d v) : ∀ {ds : List (Str × D)} {ks : List (Str × V)}, RelFs K ρ H ds ks → RelFs K ρ' H' ds ks
  | _, _, .nil => .nil
  | _, _, .cons k h t => .cons k (m h) (RelFs.mono m t)
theorem RelFs.length {K : PySem.W.Frag} : ∀ {ds : List (Str × D)} {ks : List (Str × V)}, RelFs K ρ H ds ks → ds.length = ks.length
  | _, _, .nil => rfl
  | _, _, .cons _ h t => by rw [List.length_cons, List.length_cons, t.length]
theorem RelFs.val {K : PySem.W.Frag} (g : Str) : ∀ {ds : List (Str × D)} {ks : List (Str × V)}, RelFs K ρ H ds ks → RelF K ρ H (ds.lookup g) (ks.lookup g)
  | _, _, .nil => True.intro
  | _, _, .cons (f := f) _ h t => by
    by_cases e : g = f
    · subst e
      simp only [List.lookup, beq_self_eq_true]
      exact h
    · have e' : (g == f) = false := by simpa using e
      simp only [List.lookup, e']
      exact t.val g
theorem RelFs.no {K : PySem.W.Frag} {m : Str} (hm : fieldOk m = false) : ∀ {ds : List (Str × D)} {ks : List (Str × V)}, RelFs K ρ H ds ks → ks.lookup m = none
  | _, _, .nil => rfl
  | _, _, .cons (f := f) k h t => by
    by_cases e : m = f
    · rw [e, k] at hm
      cases hm
    · have e' : (m == f) = false := by simpa using e
      simp only [List.lookup, e']
      exact t.no hm
/-- an object that is as it was, seen from a later state -/
theorem ObRel.mono (m : ∀ {d : D} {v : V}, RelD u.K ρ H d v → RelD u.K ρ' H' d v) {a : Addr} (s : H' a = H a) {o : Ob} (h : ObRel u.K ρ H u.P u.w u.cn a o) : ObRel u.K ρ' H' u.P u.w u.cn a o := by
  cases o with
  | lst l => obtain ⟨xs, e, q⟩ := h; exact ⟨xs, s.trans e, q.monoB m⟩
  | rol l => obtain ⟨xs, o, e, q⟩ := h; exact q.2.elim
  | dct k l =>
    cases k with
    | false => obtain ⟨u, e, q⟩ := h; exact ⟨u, s.trans e, q.mono m⟩
    | true => obtain ⟨u, o, e, q⟩ := h; exact ⟨u, o, s.trans e, q.mono m⟩
  | ins c fs => obtain ⟨dx, fs', e, q⟩ := h; exact ⟨dx, fs', s.trans e, q.mono m⟩
theorem Rep.addr (r : Rep u ρ H g) {n : Nat} {o : Ob} (e : g[n]? = some o) : ∃ a, ρ[n]? = some a ∧ ObRel u.K ρ H u.P u.w u.cn a o := by
  have hn : n < ρ.length := by rw [r.len]; exact (List.getElem?_eq_some_iff.mp e).1
  have e2 := List.getElem?_eq_getElem hn
  exact ⟨ρ[n], e2, r.obs n o _ e e2⟩
theorem Rep.tracked (r : Rep u ρ H g) {a : Addr} (m : a ∈ ρ) : ∃ o, H a = some o := by
  obtain ⟨i, o, _, _, q⟩ := r.there m
  cases o with
  | lst l => exact ⟨_, q.choose_spec.1⟩
  | rol l => obtain ⟨_, _, e, _⟩ := q; exact ⟨_, e⟩
  | dct k l =>
    cases k with
    | false => obtain ⟨_, e, _⟩ := q; exact ⟨_, e⟩
    | true => obtain ⟨_, _, e, _⟩ := q; exact ⟨_, e⟩
  | ins c fs => obtain ⟨_, _, e, _⟩ := q; exact ⟨_, e⟩
/-- a new object that is not counted -/
theorem Ev.new (r : Rep u ρ H g) {p : Addr} {o : HO} (h : H p = none) : Ev ρ H ρ (upd H p o) ∧ Rep u ρ (upd H p o) g := by
  have e : Ev ρ H ρ (upd H p o) := by
    refine ⟨⟨[], by simp, fun a h => absurd h (by simp)⟩, fun a z => ?_, fun a u z _ => ?_, fun a u x z => ?_⟩
    · by_cases q : a = p
      · subst q; exact h
      · rwa [upd_ne q] at z
    · rw [upd_ne (ne_of_none z h)]; exact z
    · rw [upd_ne (ne_of_none z h)]; exact z
  refine ⟨e, r.len, r.nod, fun i u a e1 e2 => ?_⟩
  have m : a ∈ ρ := List.mem_of_getElem? e2
  obtain ⟨w, hw⟩ := r.tracked m
  exact (r.obs i u a e1 e2).mono (e.rel r) (by rw [upd_ne (ne_of_none hw h)])
/-- a new object that is counted -/
theorem Ev.cnt (r : Rep u ρ H g) {p : Addr} {o : HO} {ob : Ob} (h : H p = none) (q : ∀ {ρ' : List Addr} {H' : Hp}, Ev ρ H ρ' H' → H' p = some o → ObRel u.K ρ' H' u.P u.w u.cn p ob) :
    Ev ρ H (ρ ++ [p]) (upd H p o) ∧ Rep u (ρ ++ [p]) (upd H p o) (g ++ [ob]) ∧ (ρ ++ [p])[g.length]? = some p := by
  have np : p ∉ ρ := fun m => by
    obtain ⟨w, hw⟩ := r.tracked m
    rw [h] at hw; cases hw
  have e : Ev ρ H (ρ ++ [p]) (upd H p o) := by
    refine ⟨⟨[p], rfl, fun a m => ?_⟩, fun a z => ?_, fun a u z _ => ?_, fun a u x z => ?_⟩
    · rw [List.mem_singleton.mp m]; exact h
    · by_cases q : a = p
      · subst q; exact h
      · rwa [upd_ne q] at z
    · rw [upd_ne (ne_of_none z h)]; exact z
    · rw [upd_ne (ne_of_none z h)]; exact z
  refine ⟨e, ⟨by simp [r.len], ?_, fun i u a e1 e2 => ?_⟩, ?_⟩
  · refine List.nodup_append.mpr ⟨r.nod, by simp, fun a ha b hb => ?_⟩
    rw [List.mem_singleton.mp hb]
    exact fun z => np (z ▸ ha)
  · by_cases hi : i < g.length
    · rw [List.getElem?_append_left hi] at e1
      rw [List.getElem?_append_left (by rw [r.len]; exact hi)] at e2
      have m : a ∈ ρ := List.mem_of_getElem? e2
      obtain ⟨w, hw⟩ := r.tracked m
      exact (r.obs i u a e1 e2).mono (e.rel r) (by rw [upd_ne (ne_of_none hw h)])
    · rw [List.getElem?_append_right (by omega)] at e1
      rw [List.getElem?_append_right (by rw [r.len]; omega)] at e2
      have h0 : i - g.length = 0 := by
        have := (List.getElem?_eq_some_iff.mp e1).1
        simpa using this
      rw [h0] at e1
      rw [r.len, h0] at e2
      cases e1
      cases e2
      exact q e upd_same
  · rw [List.getElem?_append_right (by rw [r.len]; omega), r.len, Nat.sub_self]
    rfl
/-- a counted object is written -/
theorem Ev.wr (r : Rep u ρ H g) {n : Nat} {p : Addr} {o : HO} {ob : Ob} (hp : ρ[n]? = some p) (hn : n < g.length) (nf : ∀ o x, H p ≠ some (.frz o x)) (q : ∀ {ρ' : List Addr} {H' : Hp}, Ev ρ H ρ' H' → H' p = some o → ObRel u.K ρ' H' u.P u.w u.cn p ob) :
    Ev ρ H ρ (upd H p o) ∧ Rep u ρ (upd H p o) (g.set n ob) := by
  have m : p ∈ ρ := List.mem_of_getElem? hp
  have e : Ev ρ H ρ (upd H p o) := by
    refine ⟨⟨[], by simp, fun a h => absurd h (by simp)⟩, fun a z => ?_, fun a u z nz => ?_, fun a u x z => ?_⟩
    · by_cases q : a = p
      · subst q; rw [upd_same] at z; cases z
      · rwa [upd_ne q] at z
    · rw [upd_ne (fun (q : a = p) => nz (by rw [q]; exact m))]; exact z
    · rw [upd_ne (fun (q : a = p) => nf u x (by rw [← q]; exact z))]; exact z
  refine ⟨e, ⟨by simp [r.len], r.nod, fun i u a e1 e2 => ?_⟩⟩
  by_cases hi : i = n
  · subst hi
    rw [hp] at e2
    cases e2
    rw [List.getElem?_set_self hn] at e1
    cases e1
    exact q e upd_same
  · rw [List.getElem?_set_ne (Ne.symm hi)] at e1
    have na : a ≠ p := fun z => by
      subst z
      exact hi (ndix r.nod e2 hp)
    exact (r.obs i u a e1 e2).mono (e.rel r) (by rw [upd_ne na])
end
/-! ### slots -/
def Sl (K : PySem.W.Frag) (ρ : List Addr) (H : Hp) (τ : T) (σ : St) : Prop := ∀ (i : Nat) (d : D), τ[i]? = some (some d) → ∃ v, σ[i]? = some (some v) ∧ RelD K ρ H d v
structure Stt (u : U) (ρ : List Addr) (τ : T) (g : G) (σ : St) (H : Hp) : Prop where
  len : τ.length = σ.length
  sl : Sl u.K ρ H τ σ
  rep : Rep u ρ H g
end RL
namespace RL
open PySem L2
/-- how an error of the program lies -/
def XRel (U₀ : U) (ρ : List Addr) (H : Hp) (e : Exc) (cls : Value) (d : Option Addr) : Prop :=
  cls = .ref (U₀.cn e.cls) ∧ ∃ dx fs, d = some dx ∧ H dx = some (.xd fs) ∧ ∀ f, RelF U₀.K ρ H (e.fs.lookup f) (fs.lookup f)
abbrev RelT (α β : Type) := List Addr → Hp → α → β → Prop
section
variable {U₀ : U} {W : WX} {α β γ δ : Type}
/-- what is wanted behind a computation that began at ρ, H -/
def Post (U₀ : U) (Rl : RelT α β) (W : WX) (σ : St) (ρ : List Addr) (H : Hp) (r : Res α) (Q : β → Hp → Prop) : Prop := match r with
  | .ok a g => ∀ ρ' v H', Ev ρ H ρ' H' → Rep U₀ ρ' H' g → Rl ρ' H' a v → Q v H'
  | .exc e g => ∀ ρ' H' cls d, Ev ρ H ρ' H' → Rep U₀ ρ' H' g → XRel U₀ ρ' H' e cls d → W cls d σ H'
  | .bad => False
variable {Rl : RelT α β} {Rk : RelT γ δ} {σ : St} {ρ ρ' : List Addr} {H H' : Hp}
theorem Post.later {r : Res α} {Q : β → Hp → Prop} (p : Post U₀ Rl W σ ρ H r Q) (e : Ev ρ H ρ' H') : Post U₀ Rl W σ ρ' H' r Q := by
  cases r with
  | ok a g => exact fun ρ2 v H2 e2 r2 q => p ρ2 v H2 (e.trans e2) r2 q
  | exc x g => exact fun ρ2 H2 cls d e2 r2 q => p ρ2 H2 cls d (e.trans e2) r2 q
  | bad => exact p
theorem Post.thn {r : Res α} {k : α → M γ} {Q : δ → Hp → Prop} {Q0 : β → Hp → Prop} (p : Post U₀ Rk W σ ρ H (r.bind k) Q)
    (h : ∀ (ρ1 : List Addr) (v : β) (H1 : Hp) (a : α) (g1 : G), Ev ρ H ρ1 H1 → Rep U₀ ρ1 H1 g1 → Rl ρ1 H1 a v → Post U₀ Rk W σ ρ1 H1 (k a g1) Q → Q0 v H1) : Post U₀ Rl W σ ρ H r Q0 := by
  cases r with
  | ok a g => exact fun ρ1 v H1 e1 r1 q => h ρ1 v H1 a g e1 r1 q (Post.later p e1)
  | exc x g => exact p
  | bad => exact p
theorem Post.imp {r : Res α} {Q Q0 : β → Hp → Prop} (p : Post U₀ Rl W σ ρ H r Q) (h : ∀ v H, Q v H → Q0 v H) : Post U₀ Rl W σ ρ H r Q0 := by
  cases r with
  | ok a g => exact fun ρ1 v H1 e1 r1 q => h _ _ (p ρ1 v H1 e1 r1 q)
  | exc x g => exact p
  | bad => exact p
/-- nothing happened -/
theorem Post.at {a : α} {g : G} {Q : β → Hp → Prop} {v : β} (p : Post U₀ Rl W σ ρ H (.ok a g) Q) (r : Rep U₀ ρ H g) (q : Rl ρ H a v) : Q v H := p ρ v H Ev.refl r q
theorem Stt.later {τ : T} {g g' : G} (s : Stt U₀ ρ τ g σ H) (e : Ev ρ H ρ' H') (r : Rep U₀ ρ' H' g') : Stt U₀ ρ' τ g' σ H' :=
  ⟨s.len, fun i d h => let ⟨v, h1, h2⟩ := s.sl i d h; ⟨v, h1, e.rel s.rep h2⟩, r⟩
theorem Stt.set {τ : T} {g : G} {i : Nat} {d : D} {v : V} (s : Stt U₀ ρ τ g σ H) (r : RelD U₀.K ρ H d v) : Stt U₀ ρ (τ.set i (some d)) g (σ.set i (some v)) H := by
  refine ⟨by simp [s.len], fun j d' h => ?_, s.rep⟩
  by_cases hj : i = j
  · subst hj
    have hi : i < τ.length := by
      have := (List.getElem?_eq_some_iff.mp h).1
      simpa using this
    rw [List.getElem?_set_self hi] at h
    cases h
    exact ⟨v, List.getElem?_set_self (by rw [← s.len]; exact hi), r⟩
  · rw [List.getElem?_set_ne hj] at h ⊢
    exact s.sl j d' h
theorem Stt.none {τ : T} {g : G} {i : Nat} (s : Stt U₀ ρ τ g σ H) : Stt U₀ ρ (τ.set i none) g (σ.set i none) H := by
  refine ⟨by simp [s.len], fun j d' h => ?_, s.rep⟩
  by_cases hj : i = j
  · subst hj
    have hi : i < τ.length := by
      have := (List.getElem?_eq_some_iff.mp h).1
      simpa using this
    rw [List.getElem?_set_self hi] at h
    cases h
  · rw [List.getElem?_set_ne hj] at h ⊢
    exact s.sl j d' h
def rD (U₀ : U) : RelT D V := RelD U₀.K
def rDs (U₀ : U) : RelT (List D) (List V) := RelDs U₀.K
def rB : RelT Bool Bool := fun _ _ a b => a = b
def tE (U₀ : U) (W : WX) (m : ME) : TE := fun σ H Q => ∃ ρ τ g, Stt U₀ ρ τ g σ H ∧ Post U₀ (rD U₀) W σ ρ H (m τ g) Q
def tA (U₀ : U) (W : WX) (m : MA) : TA := fun σ H Q => ∃ ρ τ g, Stt U₀ ρ τ g σ H ∧ Post U₀ (rDs U₀) W σ ρ H (m τ g) Q
def tT (U₀ : U) (W : WX) (m : MT) : TT := fun σ H Q => ∃ ρ τ g, Stt U₀ ρ τ g σ H ∧ Post U₀ rB W σ ρ H (m τ g) Q
end
/-- what a context has in common with all others -/
abbrev ux (X : Cx) (cn : Str → Addr) : U := ⟨X.K, cn, X.prog, X.w⟩
/-! ### expressions, argument lists, tests that follow a plain computation -/
def RE (X : Cx) (cn : Str → Addr) (W : WX) (e : Expr) (m : ME) : Prop := PE X e (tE (ux X cn) W m)
def RA (X : Cx) (cn : Str → Addr) (W : WX) (es : List Expr) (m : MA) : Prop := PA X es (tA (ux X cn) W m)
def RT (X : Cx) (cn : Str → Addr) (W : WX) (e : Expr) (m : MT) : Prop := PT X e (tT (ux X cn) W m)
def RW (X : Cx) (cn : Str → Addr) (W : WX) (e : Expr) (m : MT) : Prop := PW X e (tT (ux X cn) W m)
theorem peI {X : Cx} {e : Expr} {t t' : TE} (h : PE X e t) (i : ∀ σ H Q, t' σ H Q → t σ H Q) : PE X e t' := ⟨fun pins s σ H Q I q => h.run pins s σ H Q I (i σ H Q q)⟩
theorem paI {X : Cx} {e : List Expr} {t t' : TA} (h : PA X e t) (i : ∀ σ H Q, t' σ H Q → t σ H Q) : PA X e t' := ⟨fun pos pins s σ H Q I q => h.run pos pins s σ H Q I (i σ H Q q)⟩
theorem ptI {X : Cx} {e : Expr} {t t' : TT} (h : PT X e t) (i : ∀ σ H Q, t' σ H Q → t σ H Q) : PT X e t' := ⟨fun pins s σ H Q I q => h.run pins s σ H Q I (i σ H Q q)⟩
theorem pwI {X : Cx} {e : Expr} {t t' : TT} (h : PW X e t) (i : ∀ σ H Q, t' σ H Q → t σ H Q) : PW X e t' := ⟨fun whole pins s σ H Q I q => h.run whole pins s σ H Q I (i σ H Q q)⟩
theorem psI {X : Cx} {e : Stmt} {t t' : TS} (h : PS X e t) (i : ∀ Dn σ H, t' Dn σ H → t Dn σ H) : PS X e t' := ⟨fun pins s σ H Q I q => h.run pins s σ H Q I (i Q σ H q)⟩
theorem pssI {X : Cx} {e : List Stmt} {t t' : TS} (h : PSs X e t) (i : ∀ Dn σ H, t' Dn σ H → t Dn σ H) : PSs X e t' := ⟨fun pins s σ H Q I q => h.run pins s σ H Q I (i Q σ H q)⟩
/-- a value that is known -/
def mC (d : D) : ME := fun _ g => .ok d g
def mV (i : Nat) : ME := fun τ g => match τ[i]? with
  | some (some d) => .ok d g
  | _ => .bad
def mNil : MA := fun _ g => .ok [] g
def mCons (a : ME) (r : MA) : MA := fun τ g => (a τ g).bind fun d g1 => (r τ g1).bind fun ds g2 => .ok (d :: ds) g2
/-- an operator on two values -/
def mOp (f : D → D → M D) (a b : ME) : ME := fun τ g => (a τ g).bind fun x g1 => (b τ g1).bind fun y g2 => f x y g2
def mUn (f : D → M D) (a : ME) : ME := fun τ g => (a τ g).bind f
def mUnA (f : List D → M D) (a : MA) : ME := fun τ g => (a τ g).bind f
section
variable {X : Cx} {cn : Str → Addr} {W : WX} {pos : Pos} {a b e : Expr} {es : List Expr} {ma mb : ME} {ml : MA}
theorem re_int {i j} : RE X cn W (.Constant (.int i) j pos) (mC (.int i)) := peI pe_int fun σ H Q ⟨ρ, τ, g, s, p⟩ => p.at s.rep (.int i)
theorem re_bl {i j} : RE X cn W (.Constant (.bool i) j pos) (mC (.bl i)) := peI pe_bl fun σ H Q ⟨ρ, τ, g, s, p⟩ => p.at s.rep (.bl i)
theorem re_non {j} : RE X cn W (.Constant .none j pos) (mC .non) := peI pe_non fun σ H Q ⟨ρ, τ, g, s, p⟩ => p.at s.rep .non
theorem re_str {i j} (h : sOk i = true := by decide +kernel) : RE X cn W (.Constant (.str i) j pos) (mC (.str i)) := peI pe_str fun σ H Q ⟨ρ, τ, g, s, p⟩ => p.at s.rep (.str h)
theorem rv (i : Nat) {x : Str} (hN : X.N[i]? = some x := by rfl) (hv : Vis X.env.scope x := by first | exact Or.inl rfl | exact Or.inr (Or.inl rfl) | exact Or.inr (Or.inr rfl)) (hd : (x == ("__debug__" : Str)) = false := by decide)
    (hcd : (x == ("__classdict__" : Str)) = false := by decide) : RE X cn W (.Name x pos) (mV i) := by
  refine peI (pe_var hN hv hd hcd) fun σ H Q ⟨ρ, τ, g, s, p⟩ => ?_
  unfold mV at p
  split at p
  · rename_i d hd
    obtain ⟨v, h1, h2⟩ := s.sl i d hd
    exact ⟨v, h1, p.at s.rep h2⟩
  · exact p.elim
/-- a constant of a module -/
theorem re_glob {x : Str} {d : D} {v : V} {u : Value} (hg : Gl X x) (hm : X.mg x = some u) (r : RelV v u) (q : ∀ ρ H, RelD X.K ρ H d v) (hd : (x == ("__debug__" : Str)) = false := by decide) : RE X cn W (.Name x pos) (mC d) :=
  peI (pe_glob hg hm r hd) fun σ H Q ⟨ρ, τ, g, s, p⟩ => p.at s.rep (q ρ H)
theorem ra_nil : RA X cn W [] mNil := paI pa_nil fun σ H Q ⟨ρ, τ, g, s, p⟩ => p.at s.rep .nil
theorem ra_cons (ha : RE X cn W e ma) (hr : RA X cn W es ml) (hs : starEach (e :: es) X.env = (false, eval e X.env) :: starEach es X.env := by rfl) : RA X cn W (e :: es) (mCons ma ml) := by
  refine paI (pa_cons ha hr hs) fun σ H Q ⟨ρ, τ, g, s, p⟩ => ?_
  refine ⟨ρ, τ, g, s, p.thn fun ρ1 v H1 d g1 e1 r1 q1 p1 => ?_⟩
  refine ⟨ρ1, τ, g1, s.later e1 r1, p1.thn fun ρ2 vs H2 ds g2 e2 r2 q2 p2 => ?_⟩
  exact p2.at r2 (.cons (e2.rel r1 q1) q2)
/-- a binary operator of the run follows f -/
def S2 (U₀ : U) (r : R2) (f : D → D → M D) : Prop := ∀ (W : WX) (σ : St) (ρ : List Addr) (H : Hp) (g : G) (x y : D) (v u : V) (Q : VK),
  Rep U₀ ρ H g → RelD U₀.K ρ H x v → RelD U₀.K ρ H y u → Post U₀ (rD U₀) W σ ρ H (f x y g) Q → r v u H Q
theorem two_e {r : R2} {f : D → D → M D} (s : S2 (ux X cn) r f) : ∀ σ H Q, tE (ux X cn) W (mOp f ma mb) σ H Q → tOp r (tE (ux X cn) W ma) (tE (ux X cn) W mb) σ H Q := by
  rintro σ H Q ⟨ρ, τ, g, st, p⟩
  refine ⟨ρ, τ, g, st, p.thn fun ρ1 v H1 d g1 e1 r1 q1 p1 => ?_⟩
  refine ⟨ρ1, τ, g1, st.later e1 r1, p1.thn fun ρ2 u H2 d2 g2 e2 r2 q2 p2 => ?_⟩
  exact s W σ ρ2 H2 g2 d d2 v u Q r2 (e2.rel r1 q1) q2 p2
theorem re_op {op : Operator} {r : R2} {f : D → D → M D} (ho : OpR X (binaryOp op) r) (s : S2 (ux X cn) r f) (ha : RE X cn W a ma) (hb : RE X cn W b mb) : RE X cn W (.BinOp a op b pos) (mOp f ma mb) :=
  peI (pe_op ho ha hb) (two_e s)
theorem re_cmp {op : CmpOp} {r : R2} {f : D → D → M D} (ho : OpR X (compareOp op) r) (s : S2 (ux X cn) r f) (ha : RE X cn W a ma) (hb : RE X cn W b mb) (hm : behindInMarks op b = false) : RE X cn W (.Compare a [op] [b] pos) (mOp f ma mb) :=
  peI (pe_cmpR ho ha hb hm) (two_e s)
/-- a built-in function or type, called -/
def SA (U₀ : U) (r : List V → Hp → VK → Prop) (f : List D → M D) : Prop := ∀ (W : WX) (σ : St) (ρ : List Addr) (H : Hp) (g : G) (x : List D) (v : List V) (Q : VK),
  Rep U₀ ρ H g → RelDs U₀.K ρ H x v → Post U₀ (rD U₀) W σ ρ H (f x g) Q → r v H Q
theorem call_e {r : List V → Hp → VK → Prop} {f : List D → M D} (s : SA (ux X cn) r f) : ∀ σ H Q, tE (ux X cn) W (mUnA f ml) σ H Q → tCB r (tA (ux X cn) W ml) σ H Q := by
  rintro σ H Q ⟨ρ, τ, g, st, p⟩
  refine ⟨ρ, τ, g, st, p.thn fun ρ1 v H1 d g1 e1 r1 q1 p1 => ?_⟩
  exact s W σ ρ1 H1 g1 d v Q r1 q1 p1
theorem re_callB {id x : Str} {i : String} {r : List V → Hp → VK → Prop} {f : List D → M D} {p : Pos} (hc : CallR X (.builtin i) r) (s : SA (ux X cn) r f) (hg : Gl X x) (hm : X.mg x = none) (hv : bootBuiltins x = some (.builtin i)) (ha : RA X cn W (e :: es) ml) (hn : x ≠ "__name__" := by decide) (hdb : (x == ("__debug__" : Str)) = false := by decide)
    (he : starEach (e :: es) X.env = (false, eval e X.env) :: starEach es X.env := by rfl) (hpl : (backTo pos (starEach es X.env)).any (·.1) = false := by rfl) : RE X cn W (.Call (.Name x p) (e :: es) [] pos) (mUnA f ml) :=
  peI (pe_callB hc hg hm hv ha hn hdb he hpl) (call_e s)
theorem re_callTy {id x : Str} {i : String} {r : List V → Hp → VK → Prop} {f : List D → M D} {p : Pos} (hc : CallR X (.type i) r) (s : SA (ux X cn) r f) (hg : Gl X x) (hm : X.mg x = none) (hv : bootBuiltins x = some (.type i)) (ha : RA X cn W (e :: es) ml) (hn : x ≠ "__name__" := by decide) (hdb : (x == ("__debug__" : Str)) = false := by decide)
    (he : starEach (e :: es) X.env = (false, eval e X.env) :: starEach es X.env := by rfl) (hpl : (backTo pos (starEach es X.env)).any (·.1) = false := by rfl) : RE X cn W (.Call (.Name x p) (e :: es) [] pos) (mUnA f ml) :=
  peI (pe_callTy hc hg hm hv ha hn hdb he hpl) (call_e s)
end
end RL
namespace RL
open PySem L2
/-! ### the plain meaning of operators -/
def ck (c : Prop) [Decidable c] {α : Type} (r : Res α) : Res α := if c then r else .bad
@[simp] theorem ck_pos {c : Prop} [Decidable c] (h : c) {α : Type} (r : Res α) : ck c r = r := if_pos h
def dget : List (D × D) → D → Option D
  | [], _ => none
  | (k, v) :: r, x => if k = x then some v else dget r x
def dput : List (D × D) → D → D → List (D × D)
  | [], k, v => [(k, v)]
  | (k', v') :: r, k, v => if k' = k then (k, v) :: r else (k', v') :: dput r k v
def ddel : List (D × D) → D → List (D × D)
  | [], _ => []
  | (k, v) :: r, x => if k = x then ddel r x else (k, v) :: ddel r x
/-- a flat value -/
def D.flat : D → Bool
  | .non | .bl _ | .int _ | .str _ => true
  | _ => false
/-- two flat values that may be compared -/
def cmpb : D → D → Bool
  | .non, .bl _ | .non, .int _ | .non, .str _ | .non, .non => true
  | .bl _, .non | .int _, .non | .str _, .non => true
  | .int _, .int _ | .bl _, .bl _ | .str _, .str _ | .int _, .str _ | .str _, .int _ | .bl _, .str _ | .str _, .bl _ => true
  | _, _ => false
section
variable {U₀ : U}
/-- an answer that leaves all as it is -/
theorem Post.same {W : WX} {σ : St} {ρ : List Addr} {H : Hp} {g : G} {d : D} {v : V} {Q : VK} (p : Post U₀ (rD U₀) W σ ρ H (.ok d g) Q) (r : Rep U₀ ρ H g) (q : RelD U₀.K ρ H d v) : Q v H := p.at r q
theorem Post.ck {α β : Type} {Rl : RelT α β} {W : WX} {σ : St} {ρ : List Addr} {H : Hp} {c : Prop} [Decidable c] {r : Res α} {Q : β → Hp → Prop} (p : Post U₀ Rl W σ ρ H (RL.ck c r) Q) : c ∧ Post U₀ Rl W σ ρ H r Q := by
  unfold RL.ck at p
  by_cases h : c
  · rw [if_pos h] at p
    exact ⟨h, p⟩
  · rw [if_neg h] at p
    exact p.elim
def fII (C : Int → Int → Prop) [∀ i j, Decidable (C i j)] (f : Int → Int → D) : D → D → M D := fun x y g => match x, y with
  | .int i, .int j => ck (C i j) (.ok (f i j) g)
  | _, _ => .bad
theorem s2_ii {C C' : Int → Int → Prop} [∀ i j, Decidable (C i j)] {f : Int → Int → D} {f' : Int → Int → V} (hc : ∀ i j, C i j → C' i j) (hf : ∀ i j ρ H, RelD U₀.K ρ H (f i j) (f' i j)) : S2 U₀ (rI C' f') (fII C f) := by
  intro W σ ρ H g x y v u Q r qx qy p
  cases qx <;> first | exact p.elim | skip
  cases qy <;> first | exact p.elim | skip
  rename_i i j
  obtain ⟨h, p⟩ := Post.ck p
  exact ⟨i, j, rfl, rfl, hc i j h, p.at r (hf i j ρ H)⟩
theorem s2_ii0 {f : Int → Int → D} {f' : Int → Int → V} (hf : ∀ i j ρ H, RelD U₀.K ρ H (f i j) (f' i j)) : S2 U₀ (rI0 f') (fII (fun _ _ => True) f) := by
  intro W σ ρ H g x y v u Q r qx qy p
  cases qx <;> first | exact p.elim | skip
  cases qy <;> first | exact p.elim | skip
  rename_i i j
  obtain ⟨h, p⟩ := Post.ck p
  exact ⟨i, j, rfl, rfl, p.at r (hf i j ρ H)⟩
abbrev fAdd := fII (fun _ _ => True) fun i j => .int (i + j)
abbrev fSub := fII (fun _ _ => True) fun i j => .int (i - j)
abbrev fMul := fII (fun i j => (-(2 ^ 64) < i ∧ i < 2 ^ 64) ∨ (-(2 ^ 64) < j ∧ j < 2 ^ 64)) fun i j => .int (i * j)
abbrev fMod := fII (fun _ j => 0 < j) fun i j => .int (i % j)
abbrev fDiv := fII (fun _ j => 0 < j ∧ j < 1073741824) fun i j => .int (i / j)
abbrev fPow := fII (fun i j => 0 ≤ j ∧ j ≤ 1000000 ∧ i.natAbs < 2 ^ 64) fun i j => .int (i ^ j.toNat)
abbrev fLt := fII (fun _ _ => True) fun i j => .bl (decide (i < j))
abbrev fLe := fII (fun _ _ => True) fun i j => .bl (decide (i ≤ j))
abbrev fGt := fII (fun _ _ => True) fun i j => .bl (decide (j < i))
abbrev fGe := fII (fun _ _ => True) fun i j => .bl (decide (j ≤ i))
theorem s_add : S2 U₀ (rI0 fun i j => .int (i + j)) fAdd := s2_ii0 fun i j ρ H => .int _
theorem s_sub : S2 U₀ (rI0 fun i j => .int (i - j)) fSub := s2_ii0 fun i j ρ H => .int _
theorem s_mul : S2 U₀ (rI CMul fun i j => .int (i * j)) fMul := s2_ii (fun i j h => h) fun i j ρ H => .int _
theorem s_mod : S2 U₀ (rI (fun _ j => 0 < j) fun i j => .int (i % j)) fMod := s2_ii (fun i j h => h) fun i j ρ H => .int _
theorem s_div : S2 U₀ (rI CDiv fun i j => .int (i / j)) fDiv := s2_ii (fun i j h => h) fun i j ρ H => .int _
theorem s_pow : S2 U₀ (rI CPow fun i j => .int (i ^ j.toNat)) fPow := s2_ii (fun i j h => h) fun i j ρ H => .int _
theorem s_lt : S2 U₀ (rI0 fun i j => .bl (decide (i < j))) fLt := s2_ii0 fun i j ρ H => .bl _
theorem s_le : S2 U₀ (rI0 fun i j => .bl (decide (i ≤ j))) fLe := s2_ii0 fun i j ρ H => .bl _
theorem s_gt : S2 U₀ (rI0 fun i j => .bl (decide (j < i))) fGt := s2_ii0 fun i j ρ H => .bl _
theorem s_ge : S2 U₀ (rI0 fun i j => .bl (decide (j ≤ i))) fGe := s2_ii0 fun i j ρ H => .bl _
end
/-! == and != of data -/
/-- plain to the ground, at most n deep -/
def gr : Nat → D → Bool
  | 0, _ => false
  | _ + 1, .ref _ => false
  | _ + 1, .kl _ => false
  | n + 1, .tup l => l.all (gr n)
  | _ + 1, _ => true
mutual
/-- where two values differ, it is no True beside a 1 -/
def cm : D → D → Bool
  | .bl _, .int _ => false
  | .int _, .bl _ => false
  | .tup l, .tup l' => cms l l'
  | _, _ => true
def cms : List D → List D → Bool
  | x :: xs, y :: ys => cm x y && cms xs ys
  | _, _ => true
end
mutual
def pd : D → PyData
  | .non => .none
  | .bl b => .bool b
  | .int i => .int i
  | .str s => .str s
  | .tup l => .tuple (pds l)
  | .ref _ => .none
  | .kl _ => .none
def pds : List D → List PyData
  | [] => []
  | d :: l => pd d :: pds l
end
theorem pds_map : ∀ l : List D, pds l = l.map pd
  | [] => rfl
  | d :: l => by rw [pds, List.map_cons, pds_map l]
section
variable {U₀ : U} {ρ : List Addr} {H : Hp}
mutual
theorem dp_of : ∀ (n : Nat) {d : D} {v : V}, RelD U₀.K ρ H d v → gr n d = true → Dp U₀.K H v (pd d)
  | 0, _, _, _, g => by simp [gr] at g
  | n + 1, _, _, .non, g => .non
  | n + 1, _, _, .bl b, g => .bl b
  | n + 1, _, _, .int b, g => .int b
  | n + 1, _, _, .str h, g => .str _
  | n + 1, _, _, .tup h t, g => by
    rw [gr] at g
    exact .tup h (dps_of n t g)
  | n + 1, _, _, .kl h t, g => by simp [gr] at g
  | n + 1, _, _, .ref h, g => by simp [gr] at g
theorem dps_of : ∀ (n : Nat) {d : List D} {v : List V}, RelDs U₀.K ρ H d v → d.all (gr n) = true → DpAll U₀.K H v (pds d)
  | n, _, _, .nil, _ => .nil
  | n, _, _, .cons h t, g => by
    rw [List.all_cons, Bool.and_eq_true] at g
    exact .cons (dp_of n h g.1) (dps_of n t g.2)
end
mutual
theorem lay_of : ∀ {d : D} {v : V}, RelD U₀.K ρ H d v → (pd d).canLay0 = true
  | _, _, .non => by simp [pd, PyData.canLay0]
  | _, _, .bl b => by simp [pd, PyData.canLay0]
  | _, _, .int b => by simp [pd, PyData.canLay0]
  | _, _, .str h => by
    unfold sOk at h
    rw [Bool.and_eq_true] at h
    simp [pd, PyData.canLay0, h.1]
  | _, _, .tup h t => by
    simp only [pd, PyData.canLay0]
    exact lays_of t
  | _, _, .kl h t => by simp [pd, PyData.canLay0]
  | _, _, .ref h => by simp [pd, PyData.canLay0]
theorem lays_of : ∀ {d : List D} {v : List V}, RelDs U₀.K ρ H d v → PyData.canLayAll0 (pds d) = true
  | _, _, .nil => by simp [pds, PyData.canLayAll0]
  | _, _, .cons h t => by simp [pds, PyData.canLayAll0, lay_of h, lays_of t]
end
mutual
theorem dep_of : ∀ (n : Nat) (d : D), gr n d = true → (pd d).depth ≤ n
  | 0, _, g => by simp [gr] at g
  | n + 1, .non, g => by simp [pd, PyData.depth]
  | n + 1, .bl b, g => by simp [pd, PyData.depth]
  | n + 1, .int b, g => by simp [pd, PyData.depth]
  | n + 1, .str h, g => by simp [pd, PyData.depth]
  | n + 1, .tup l, g => by
    rw [gr] at g
    have := deps_of n l g
    simp only [pd, PyData.depth]
    omega
  | n + 1, .kl h, g => by simp [gr] at g
  | n + 1, .ref h, g => by simp [gr] at g
theorem deps_of : ∀ (n : Nat) (l : List D), l.all (gr n) = true → PyData.depthAll (pds l) ≤ n
  | n, [], _ => by simp [pds, PyData.depthAll]
  | n, d :: l, g => by
    rw [List.all_cons, Bool.and_eq_true] at g
    have h1 := dep_of n d g.1
    have h2 := deps_of n l g.2
    simp only [pds, PyData.depthAll]
    omega
end
theorem shp_of {d : D} {v : V} (r : RelD U₀.K ρ H d v) (g : gr 20 d = true) : SeqAt.shaped (pd d) = true := by
  have h := dep_of 20 d g
  show ((pd d).canLay0 && decide ((pd d).depth ≤ 64)) = true
  rw [lay_of r, decide_eq_true (by omega)]
  rfl
theorem shps_of {d : List D} {v : List V} (r : RelDs U₀.K ρ H d v) (g : d.all (gr 20) = true) : SeqAt.shaped (.list (pds d)) = true ∧ SeqAt.shaped (.tuple (pds d)) = true := by
  have h := deps_of 20 d g
  have h2 := lays_of r
  constructor
  · show ((PyData.list (pds d)).canLay0 && decide ((PyData.list (pds d)).depth ≤ 64)) = true
    rw [Bool.and_eq_true]
    exact ⟨by simp only [PyData.canLay0]; exact h2, decide_eq_true (by simp only [PyData.depth]; omega)⟩
  · show ((PyData.tuple (pds d)).canLay0 && decide ((PyData.tuple (pds d)).depth ≤ 64)) = true
    rw [Bool.and_eq_true]
    exact ⟨by simp only [PyData.canLay0]; exact h2, decide_eq_true (by simp only [PyData.depth]; omega)⟩
end
mutual
theorem eqv_of : ∀ (n : Nat) (x y : D), gr n x = true → gr n y = true → cm x y = true → PyData.eqv (pd x) (pd y) = decide (x = y)
  | 0, _, _, g, _, _ => by simp [gr] at g
  | n + 1, .tup l, .tup l', g, g', c => by
    rw [gr] at g g'
    rw [cm] at c
    have h := eqvs_of n l l' g g' c
    simp only [pd, PyData.eqv]
    rw [h]
    simp
  | n + 1, .ref _, _, g, _, _ => by simp [gr] at g
  | n + 1, .kl _, _, g, _, _ => by simp [gr] at g
  | n + 1, _, .ref _, _, g, _ => by simp [gr] at g
  | n + 1, _, .kl _, _, g, _ => by simp [gr] at g
  | n + 1, .bl _, .int _, _, _, c => by simp [cm] at c
  | n + 1, .int _, .bl _, _, _, c => by simp [cm] at c
  | n + 1, .non, .non, _, _, _ => by simp [pd, PyData.eqv]
  | n + 1, .bl a, .bl b, _, _, _ => by
    simp only [pd, PyData.eqv]
    rw [Bool.eq_iff_iff]
    simp
  | n + 1, .int a, .int b, _, _, _ => by
    simp only [pd, PyData.eqv]
    rw [Bool.eq_iff_iff]
    simp
  | n + 1, .str a, .str b, _, _, _ => by
    simp only [pd, PyData.eqv]
    rw [Bool.eq_iff_iff]
    simp
  | n + 1, .non, .bl _, _, _, _ | n + 1, .non, .int _, _, _, _ | n + 1, .non, .str _, _, _, _ | n + 1, .non, .tup _, _, _, _ => by simp [pd, PyData.eqv]
  | n + 1, .bl _, .non, _, _, _ | n + 1, .bl _, .str _, _, _, _ | n + 1, .bl _, .tup _, _, _, _ => by simp [pd, PyData.eqv]
  | n + 1, .int _, .non, _, _, _ | n + 1, .int _, .str _, _, _, _ | n + 1, .int _, .tup _, _, _, _ => by simp [pd, PyData.eqv]
  | n + 1, .str _, .non, _, _, _ | n + 1, .str _, .bl _, _, _, _ | n + 1, .str _, .int _, _, _, _ | n + 1, .str _, .tup _, _, _, _ => by simp [pd, PyData.eqv]
  | n + 1, .tup _, .non, _, _, _ | n + 1, .tup _, .bl _, _, _, _ | n + 1, .tup _, .int _, _, _, _ | n + 1, .tup _, .str _, _, _, _ => by simp [pd, PyData.eqv]
theorem eqvs_of : ∀ (n : Nat) (x y : List D), x.all (gr n) = true → y.all (gr n) = true → cms x y = true → PyData.eqvAll (pds x) (pds y) = decide (x = y)
  | n, [], [], _, _, _ => by simp [pds, PyData.eqvAll]
  | n, [], _ :: _, _, _, _ => by simp [pds, PyData.eqvAll]
  | n, _ :: _, [], _, _, _ => by simp [pds, PyData.eqvAll]
  | n, x :: xs, y :: ys, g, g', c => by
    rw [List.all_cons, Bool.and_eq_true] at g g'
    rw [cms, Bool.and_eq_true] at c
    simp only [pds, PyData.eqvAll]
    rw [eqv_of n x y g.1 g'.1 c.1, eqvs_of n xs ys g.2 g'.2 c.2]
    rw [Bool.eq_iff_iff]
    simp
end
/-- the items of a list or tuple -/
def items (g : G) : D → Option (List D)
  | .tup l => some l
  | .kl l => some l
  | .ref n => match g[n]? with
    | some (.lst l) => some l
    | some (.rol l) => some l
    | _ => none
  | _ => none
def fEq : D → D → M D := fun x y g => match x, y with
  | .ref a, .ref b => match items g (.ref a), items g (.ref b) with
    | some l, some l' => ck (l.all (gr 20) = true ∧ l'.all (gr 20) = true ∧ cms l l' = true) (.ok (.bl (decide (l = l'))) g)
    | _, _ => .bad
  | x, y => ck (gr 20 x = true ∧ gr 20 y = true ∧ cm x y = true) (.ok (.bl (decide (x = y))) g)
def fNe : D → D → M D := fun x y g => match fEq x y g with
  | .ok (.bl b) g => .ok (.bl (!b)) g
  | _ => .bad
/-- what is a list or a tuple of the run -/
def Sq (K : PySem.W.Frag) (H : Hp) (v : V) (xs : List V) : Prop := ∃ a, v = .ref a ∧ (SqL K H a xs ∨ SqT K H a xs)
section
variable {U₀ : U} {ρ : List Addr} {H : Hp} {g : G}
theorem Rep.lst (r : Rep U₀ ρ H g) {n : Nat} {a : Addr} {l : List D} (hn : g[n]? = some (.lst l)) (ha : ρ[n]? = some a) : ∃ xs, H a = some (.lst xs) ∧ RelDs U₀.K ρ H l xs := r.obs n _ a hn ha
theorem Rep.rol (r : Rep U₀ ρ H g) {n : Nat} {a : Addr} {l : List D} (hn : g[n]? = some (.rol l)) (ha : ρ[n]? = some a) : ∃ xs o, H a = some (.frz o (.lst xs)) ∧ RelDs U₀.K ρ H l xs := (r.obs n _ a hn ha).choose_spec.choose_spec.2.2.elim
theorem items_ref (r : Rep U₀ ρ H g) {n : Nat} {a : Addr} {l : List D} (h : items g (.ref n) = some l) (ha : ρ[n]? = some a) : ∃ xs, SqL U₀.K H a xs ∧ RelDs U₀.K ρ H l xs := by
  unfold items at h
  dsimp only at h
  split at h
  · rename_i l' e
    cases h
    obtain ⟨xs, h1, h2⟩ := r.lst e ha
    exact ⟨xs, .of h1, h2⟩
  · rename_i l' e
    cases h
    obtain ⟨xs, o, h1, h2⟩ := r.rol e ha
    exact ⟨xs, .inl (.inr ⟨o, h1⟩), h2⟩
  · cases h
theorem items_sq (r : Rep U₀ ρ H g) {d : D} {v : V} {l : List D} (h : items g d = some l) (q : RelD U₀.K ρ H d v) : ∃ xs, Sq U₀.K H v xs ∧ RelDs U₀.K ρ H l xs := by
  cases q with
  | tup h1 h2 =>
    cases h
    exact ⟨_, ⟨_, rfl, .inr h1⟩, h2⟩
  | kl h1 h2 =>
    cases h
    exact ⟨_, ⟨_, rfl, .inl h1.seq⟩, h2⟩
  | ref ha =>
    obtain ⟨xs, h1, h2⟩ := items_ref r h ha
    exact ⟨xs, ⟨_, rfl, .inl h1⟩, h2⟩
  | _ => cases h
theorem s_eq0 {W : WX} {σ : St} {x y : D} {v u : V} {Q : VK} {k : Bool → Bool} {f : D → D → M D} (hf : f = fEq ∧ (∀ b, k b = b) ∨ f = fNe ∧ ∀ b, k b = !b) (r : Rep U₀ ρ H g) (qx : RelD U₀.K ρ H x v) (qy : RelD U₀.K ρ H y u) (p : Post U₀ (rD U₀) W σ ρ H (f x y g) Q) :
    ∃ d e, Dp U₀.K H v d ∧ Dp U₀.K H u e ∧ SeqAt.shaped d = true ∧ SeqAt.shaped e = true ∧ Q (.bl (k (PyData.eqv d e))) H := by
  have main : ∀ b, fEq x y g = .ok (.bl b) g → Q (.bl (k b)) H := fun b e => by
    rcases hf with ⟨rfl, hk⟩ | ⟨rfl, hk⟩
    · rw [e] at p
      rw [hk]
      exact p.at r (.bl b)
    · unfold fNe at p
      rw [e] at p
      rw [hk]
      exact p.at r (.bl (!b))
  have nobad : fEq x y g ≠ .bad := fun e => by
    rcases hf with ⟨rfl, hk⟩ | ⟨rfl, hk⟩
    · rw [e] at p
      exact p
    · unfold fNe at p
      rw [e] at p
      exact p
  have flat : (fEq x y g = ck (gr 20 x = true ∧ gr 20 y = true ∧ cm x y = true) (.ok (.bl (decide (x = y))) g)) → ∃ d e, Dp U₀.K H v d ∧ Dp U₀.K H u e ∧ SeqAt.shaped d = true ∧ SeqAt.shaped e = true ∧ Q (.bl (k (PyData.eqv d e))) H := fun e => by
    unfold ck at e
    split at e
    · rename_i c
      refine ⟨pd x, pd y, dp_of 20 qx c.1, dp_of 20 qy c.2.1, shp_of qx c.1, shp_of qy c.2.1, ?_⟩
      rw [eqv_of 20 x y c.1 c.2.1 c.2.2]
      exact main _ e
    · exact absurd e nobad
  cases x with
  | ref a =>
    cases y with
    | ref b =>
      unfold fEq at main nobad
      dsimp only at main nobad
      split at nobad
      · rename_i l l' h1 h2
        rw [h1, h2] at main
        dsimp only at main
        unfold ck at nobad main
        split at nobad
        · rename_i c
          rw [if_pos c] at main
          cases qx with
          | ref ha =>
            cases qy with
            | ref hb =>
              obtain ⟨xs, q1, q2⟩ := items_ref r h1 ha
              obtain ⟨ys, q3, q4⟩ := items_ref r h2 hb
              refine ⟨.list (pds l), .list (pds l'), .lst q1 (dps_of 20 q2 c.1), .lst q3 (dps_of 20 q4 c.2.1), (shps_of q2 c.1).1, (shps_of q4 c.2.1).1, ?_⟩
              have e : PyData.eqv (.list (pds l)) (.list (pds l')) = decide (l = l') := by
                simp only [PyData.eqv]
                exact eqvs_of 20 l l' c.1 c.2.1 c.2.2
              rw [e]
              exact main _ rfl
        · exact absurd rfl nobad
      · exact absurd rfl nobad
    | _ => exact flat rfl
  | _ => exact flat (by cases y <;> rfl)
theorem s_eq : S2 U₀ (rEqD U₀.K) fEq := fun W σ ρ H g x y v u Q r qx qy p => by
  obtain ⟨d, e, h1, h2, h3, h4, h5⟩ := s_eq0 (k := fun b => b) (.inl ⟨rfl, fun _ => rfl⟩) r qx qy p
  exact ⟨d, e, h1, h2, h3, h4, h5⟩
theorem s_ne : S2 U₀ (rNeD U₀.K) fNe := fun W σ ρ H g x y v u Q r qx qy p => by
  obtain ⟨d, e, h1, h2, h3, h4, h5⟩ := s_eq0 (k := fun b => !b) (.inr ⟨rfl, fun _ => rfl⟩) r qx qy p
  exact ⟨d, e, h1, h2, h3, h4, h5⟩
end
end RL
namespace RL
open PySem L2
/-! ### dicts of the run: by texts, by tuples -/
section
variable {P : Program} {w : World} {h : Heap} {a : Addr} {xs : List Ent}
theorem RawP.of (x : RawP P w h a xs) (k : ∀ y ∈ xs, (tk P w).is h y.1 y.2.1) : h.DictOfH (tk P w) a xs := by
  obtain ⟨_, _, nd, o, es, ep, h1, h2, h3, h4⟩ := x
  exact ⟨o, es, ep, h1, h2, h3, h4, k, nd⟩
theorem rawP_of (z : xs.length ≤ sizeLine) (q : (a == sysModules) = false) (x : h.DictOfH (tk P w) a xs) : RawP P w h a xs := by
  obtain ⟨o, es, ep, h1, h2, h3, h4, _, nd⟩ := x
  exact ⟨z, q, nd, o, es, ep, h1, h2, h3, h4⟩
theorem dP_ok {H : Hp} (x : RawP P w h a xs) : ObjOk P w H h a (dP P w a xs) := by
  refine ⟨x, ?_, fun h1 h2 y k => ?_⟩
  · obtain ⟨_, _, _, o, es, ep, h1, _⟩ := x
    exact ⟨o, h1⟩
  · obtain ⟨z1, z2, z3, o, es, ep, e1, e2⟩ := y
    exact ⟨z1, z2, z3, o, es, ep, k _ e1, e2⟩
theorem dP_rd {H : Hp} (ok : HOk P w H h) (e : Rd H a (dP P w a xs)) : RawP P w h a xs := (show ObjOk P w H h a (dP P w a xs) from e.ok ok).1
end
section
variable {X : Cx} {cn : Str → Addr} {pins : List (Addr × Obj)} {σ : L2.St} {H : Hp} {s : Shared} {ρ : List Addr} {a b : Addr}
theorem pk_is {P : Program} {w : World} {K : PySem.W.Frag} {d : D} {v : V} {u : Value} {k : PK} (r : RelD K ρ H d v) (ru : RelV v u) (e : toPK d = some k) : (pkKind P w).is k u = true := by
  cases r with
  | non => cases e; cases ru; rfl
  | bl b => cases e; cases ru; exact decide_eq_true rfl
  | str h =>
    cases e
    obtain ⟨t, rfl⟩ := ru
    have q : ∀ x : Str, PK.isOf (.str x) (.str x t) = true := fun x => by simp [PK.isOf, Value.isStrOf]
    exact q _
  | _ => cases e
theorem pks_are {P : Program} {w : World} {K : PySem.W.Frag} : ∀ {l : List D} {vs : List V} {us : List Value} {ks : List PK}, RelDs K ρ H l vs → Vals vs us → toPKs l = some ks → ItemsAre (pkKind P w) ks us
  | _, _, _, _, .nil, .nil, e => by cases e; exact .nil
  | _, _, _, _, .cons h t, .cons r q, e => by
    simp only [toPKs] at e
    split at e
    · rename_i k ks h1 h2
      cases e
      exact .cons (pk_is h r h1) (pks_are t q h2)
    · cases e
/-- a tuple that is a key -/
theorem key_is (I : Inv X pins σ H s) {l : List D} {k : List PK} (r : RelD X.K ρ H (.tup l) (.ref b)) (e : toPKs l = some k) : (tk X.prog X.w).is s.heap k b := by
  cases r with
  | tup h1 h2 =>
    obtain ⟨its, rv, ht, _⟩ := I.tuple h1
    obtain ⟨o, e1, e2, n, e3⟩ := ht
    exact ⟨o, its.toArray, n, e1, e2, e3, by simpa using pks_are h2 rv e⟩
theorem ents_are (I : Inv X pins σ H s) : ∀ {kvs : List (D × D)} {xs : List Ent}, RelPs X.K ρ H kvs xs → ∀ y ∈ xs, (tk X.prog X.w).is s.heap y.1 y.2.1
  | _, _, .nil, y, h => by simp at h
  | _, _, .cons h1 h2 h3 h4 t, y, h => by
    rcases List.mem_cons.mp h with rfl | h
    · exact key_is I h2 h1
    · exact ents_are I t y h
/-- what the dict holds at a key, told plainly -/
def RelG (K : PySem.W.Frag) (ρ : List Addr) (H : Hp) : Option D → Option Value → Prop
  | some d, some u => ∃ v, RelD K ρ H d v ∧ RelV v u
  | none, none => True
  | _, _ => False
theorem RelPs.val {K : PySem.W.Frag} : ∀ {kvs : List (D × D)} {xs : List Ent}, RelPs K ρ H kvs xs → ∀ {l : List D} {k : List PK}, toPKs l = some k → RelG K ρ H (dget kvs (.tup l)) ((atKey xs k).map (·.2))
  | _, _, .nil, l, k, e => True.intro
  | _, _, .cons (l := l') (k := k') (b := b') (u := u') (xs := xs) h1 h2 h3 h4 t, l, k, e => by
    by_cases q : k' = k
    · subst q
      have e' := toPKs_inj h1 e
      subst e'
      have z : atKey ((k', b', u') :: xs) k' = some (b', u') := by simp [atKey, List.find?_cons]
      rw [z]
      unfold dget
      rw [if_pos rfl]
      exact ⟨_, h3, h4⟩
    · have z : atKey ((k', b', u') :: xs) k = atKey xs k := by simp [atKey, List.find?_cons, q]
      rw [z]
      unfold dget
      rw [if_neg (fun z => q (by
        cases z
        rw [h1] at e
        exact Option.some.inj e))]
      exact t.val e
theorem RelPs.put {K : PySem.W.Frag} {d : D} {v : V} {u : Value} (rd : RelD K ρ H d v) (rv : RelV v u) {l : List D} {k : List PK} {c : Addr} (e : toPKs l = some k) (rk : RelD K ρ H (.tup l) (.ref c)) :
    ∀ {kvs : List (D × D)} {xs : List Ent}, RelPs K ρ H kvs xs → (xs.map (·.1)).Nodup → RelPs K ρ H (dput kvs (.tup l) d) (storedH xs k c u) := by
  have snoc : ∀ {kvs : List (D × D)} {xs : List Ent}, RelPs K ρ H kvs xs → (∀ y ∈ xs, y.1 ≠ k) → RelPs K ρ H (dput kvs (.tup l) d) (xs ++ [(k, c, u)]) := by
    intro kvs xs r
    induction r with
    | nil => exact fun _ => .cons e rk rd rv .nil
    | @cons l' k' b' d' v' u' ds xs h1 h2 h3 h4 t ih =>
      intro n
      unfold dput
      rw [if_neg (fun z => n _ List.mem_cons_self (by
        cases z
        rw [h1] at e
        exact Option.some.inj e))]
      exact .cons h1 h2 h3 h4 (ih fun y m => n y (List.mem_cons_of_mem _ m))
  have repl : ∀ {kvs : List (D × D)} {xs : List Ent}, RelPs K ρ H kvs xs → (xs.map (·.1)).Nodup → (∃ y ∈ xs, y.1 = k) → RelPs K ρ H (dput kvs (.tup l) d) (xs.map (putAt k u)) := by
    intro kvs xs r
    induction r with
    | nil => rintro _ ⟨y, m, _⟩; simp at m
    | @cons l' k' b' d' v' u' ds xs h1 h2 h3 h4 t ih =>
      rintro nd ⟨y, m, ey⟩
      rw [List.map_cons, List.nodup_cons] at nd
      rw [List.map_cons]
      unfold dput
      by_cases q : k' = k
      · subst q
        have e' := toPKs_inj h1 e
        subst e'
        rw [if_pos rfl]
        have same : xs.map (putAt k' u) = xs := by
          have g : ∀ zs : List Ent, (∀ z ∈ zs, z.1 ≠ k') → zs.map (putAt k' u) = zs := by
            intro zs
            induction zs with
            | nil => exact fun _ => rfl
            | cons z zs ih =>
              intro hz
              rw [List.map_cons, ih fun y m => hz y (List.mem_cons_of_mem _ m)]
              unfold putAt
              rw [if_neg (hz z List.mem_cons_self)]
          exact g xs fun z m ez => nd.1 (List.mem_map.mpr ⟨z, m, ez⟩)
        rw [same]
        have z : putAt k' u (k', b', u') = (k', b', u) := by simp [putAt]
        rw [z]
        exact .cons h1 h2 rd rv t
      · rw [if_neg (fun z => q (by
          cases z
          rw [h1] at e
          exact Option.some.inj e))]
        have z : putAt k u (k', b', u') = (k', b', u') := by simp [putAt, q]
        rw [z]
        refine .cons h1 h2 h3 h4 (ih nd.2 ?_)
        rcases List.mem_cons.mp m with rfl | m
        · exact absurd ey q
        · exact ⟨y, m, ey⟩
  intro kvs xs r nd
  unfold storedH
  by_cases q : (atKey xs k).isSome = true
  · rw [if_pos q]
    refine repl r nd ?_
    have f : ∀ zs : List Ent, (atKey zs k).isSome = true → ∃ y ∈ zs, y.1 = k := by
      intro zs
      induction zs with
      | nil => intro h; simp [atKey] at h
      | cons z zs ih =>
        intro h
        by_cases ez : z.1 = k
        · exact ⟨z, List.mem_cons_self, ez⟩
        · have : atKey (z :: zs) k = atKey zs k := by simp [atKey, List.find?_cons, ez]
          rw [this] at h
          obtain ⟨y, m, ey⟩ := ih h
          exact ⟨y, List.mem_cons_of_mem _ m, ey⟩
    exact f xs q
  · rw [if_neg q]
    refine snoc r fun y m ey => q ?_
    have f : ∀ zs : List Ent, y ∈ zs → (atKey zs k).isSome = true := by
      intro zs
      induction zs with
      | nil => intro h; simp at h
      | cons z zs ih =>
        intro h
        by_cases ez : z.1 = k
        · simp [atKey, List.find?_cons, ez]
        · have : atKey (z :: zs) k = atKey zs k := by simp [atKey, List.find?_cons, ez]
          rw [this]
          rcases List.mem_cons.mp h with rfl | h
          · exact absurd ey ez
          · exact ih h
    exact f xs m
theorem RelKs.val {K : PySem.W.Frag} : ∀ {kvs : List (D × D)} {ks : List (Key × V)}, RelKs K ρ H kvs ks → ∀ (x : Str), RelF K ρ H (dget kvs (.str x)) (valV ks (.inr x))
  | _, _, .nil, x => True.intro
  | _, _, .cons (s := y) _ h t, x => by
    by_cases q : y = x
    · subst q
      rw [valV_pos rfl]
      unfold dget
      rw [if_pos rfl]
      exact h
    · rw [valV_neg (fun z => q (Sum.inr.inj z))]
      unfold dget
      rw [if_neg (fun z => q (D.str.inj z))]
      exact t.val x
theorem dput_any {kvs : List (D × D)} {ks : List (Key × V)} {K : PySem.W.Frag} (r : RelKs K ρ H kvs ks) (x : Str) : (ks.any fun kv => decide (kv.1 = .inr x)) = (dget kvs (.str x)).isSome := by
  rw [valV_any]
  have q := r.val x
  cases h1 : dget kvs (.str x) <;> cases h2 : valV ks (.inr x) <;> rw [h1, h2] at q <;> first | rfl | exact q.elim
theorem RelKs.put {K : PySem.W.Frag} {d : D} {v : V} (rd : RelD K ρ H d v) {x : Str} (hx : sOk x = true) {kvs : List (D × D)} {ks : List (Key × V)} (r : RelKs K ρ H kvs ks) (nd : (ks.map (·.1)).Nodup) : RelKs K ρ H (dput kvs (.str x) d) (putK ks (.inr x) v) := by
  have snoc : ∀ {kvs : List (D × D)} {xs : List (Key × V)}, RelKs K ρ H kvs xs → dget kvs (.str x) = none → RelKs K ρ H (dput kvs (.str x) d) (xs ++ [(.inr x, v)]) := by
    intro kvs xs r
    induction r with
    | nil => exact fun _ => .cons hx rd .nil
    | @cons y d' v' ds xs k h t ih =>
      intro n
      unfold dget at n
      split at n
      · cases n
      · rename_i q
        unfold dput
        rw [if_neg q]
        exact .cons k h (ih n)
  have same : ∀ {xs : List (Key × V)}, (∀ y ∈ xs, y.1 ≠ .inr x) → (xs.map fun kv => if kv.1 = .inr x then (kv.1, v) else kv) = xs := by
    intro xs
    induction xs with
    | nil => exact fun _ => rfl
    | cons z zs ih =>
      intro hz
      rw [List.map_cons, ih fun y m => hz y (List.mem_cons_of_mem _ m), if_neg (hz _ List.mem_cons_self)]
  have repl : ∀ {kvs : List (D × D)} {xs : List (Key × V)}, RelKs K ρ H kvs xs → (xs.map (·.1)).Nodup → (dget kvs (.str x)).isSome = true → RelKs K ρ H (dput kvs (.str x) d) (xs.map fun kv => if kv.1 = .inr x then (kv.1, v) else kv) := by
    intro kvs xs r
    induction r with
    | nil => intro _ h; simp [dget] at h
    | @cons y d' v' ds xs k h t ih =>
      intro nd n
      rw [List.map_cons, List.nodup_cons] at nd
      rw [List.map_cons]
      unfold dget at n
      unfold dput
      by_cases q : D.str y = .str x
      · rw [if_pos q]
        cases q
        rw [if_pos rfl, same fun z m ez => nd.1 (List.mem_map.mpr ⟨z, m, ez⟩)]
        exact .cons hx rd t
      · rw [if_neg q] at n ⊢
        rw [if_neg (fun z => q (by rw [Sum.inr.inj z]))]
        exact .cons k h (ih nd.2 n)
  unfold putK
  rw [dput_any r x]
  by_cases q : (dget kvs (.str x)).isSome = true
  · rw [if_pos q]
    exact repl r nd q
  · rw [if_neg q]
    refine snoc r ?_
    cases h : dget kvs (.str x) with
    | none => rfl
    | some z => rw [h] at q; exact absurd rfl q
end
end RL
namespace RL
open PySem L2
/-- two keys of one sort -/
def sk : D → D → Bool
  | .str _, .str _ => true
  | .tup _, .tup _ => true
  | _, _ => false
/-- a value that may be a key -/
def keyb : D → Bool
  | .str _ => true
  | .tup l => (toPKs l).isSome
  | _ => false
def kOk (kvs : List (D × D)) (k : D) : Prop := keyb k = true ∧ ∀ p ∈ kvs, sk p.1 k = true
instance (kvs : List (D × D)) (k : D) : Decidable (kOk kvs k) := by unfold kOk; infer_instance
inductive DV (X : Cx) (h : Heap) (ρ : List Addr) (H : Hp) (a : Addr) (kvs : List (D × D)) : D → V → Prop
  | k {x : Str} {ks : List (Key × V)} {vs : List (Key × Value)} : h.DictOf (mixKind X.prog X.w) a vs → RelKs X.K ρ H kvs ks → KV ks vs → vs.length ≤ sizeLine → (a == sysModules) = false → sOk x = true → DV X h ρ H a kvs (.str x) (.str x)
  | p {l : List D} {pk : List PK} {b : Addr} {xs : List Ent} : toPKs l = some pk → h.DictOfH (tk X.prog X.w) a xs → RelPs X.K ρ H kvs xs → (tk X.prog X.w).is h pk b → RelD X.K ρ H (.tup l) (.ref b) → xs.length ≤ sizeLine → (a == sysModules) = false → (xs.map (·.1)).Nodup → DV X h ρ H a kvs (.tup l) (.ref b)
section
variable {X : Cx} {cn : Str → Addr} {pins : List (Addr × Obj)} {σ : L2.St} {H : Hp} {s : Shared} {ρ : List Addr} {a b : Addr} {g : G} {n : Nat} {lk : Bool} {kvs : List (D × D)} {k d e : D} {y v : V} {u r : Value}
theorem Rep.dct {u : U} (R : Rep u ρ H g) (hn : g[n]? = some (.dct lk kvs)) (ha : ρ[n]? = some a) : ∃ w, Rd H a w ∧ DctU u.K ρ H u.P u.w a kvs w := by
  have q := R.obs n _ a hn ha
  cases lk with
  | false => obtain ⟨w, h1, h2⟩ := q; exact ⟨w, .inl h1, h2⟩
  | true => obtain ⟨w, o, h1, h2⟩ := q; exact ⟨w, .inr ⟨o, h1⟩, h2⟩
theorem emptyK {P : Program} {w : World} {h : Heap} (x : RawP P w h a []) : h.DictOf (mixKind P w) a [] := by
  obtain ⟨_, _, _, o, es, ep, h1, h2, h3, h4⟩ := x
  have e : es = #[] := by
    have : es.toList = [] := h4
    simpa using this
  subst e
  exact ⟨o, #[], ep, h1, h2, h3, fun e he => by simp at he, .nil, List.nodup_nil⟩
theorem emptyP {P : Program} {w : World} {h : Heap} (x : h.DictOf (mixKind P w) a []) : h.DictOfH (tk P w) a [] := by
  obtain ⟨o, es, ep, h1, h2, h3, _, h4, _⟩ := x
  have e : es.toList = [] := by
    generalize es.toList = l at h4
    cases h4
    rfl
  exact ⟨o, es, ep, h1, h2, h3, e, fun x hx => by simp at hx, List.nodup_nil⟩
theorem view (I : Inv X pins σ H s) (R : Rep (ux X cn) ρ H g) (hn : g[n]? = some (.dct lk kvs)) (ha : ρ[n]? = some a) (rk : RelD X.K ρ H k y) (ok : kOk kvs k) : DV X s.heap ρ H a kvs k y := by
  obtain ⟨w, hr, q⟩ := R.dct hn ha
  obtain ⟨ok1, ok2⟩ := ok
  cases k with
  | str x =>
    have hx : sOk x = true := by cases rk; assumption
    cases rk
    rcases q with ⟨ks, rfl, q⟩ | ⟨xs, rfl, q⟩
    · obtain ⟨z, hd, vs, rel, dd⟩ := dk_rd I.hok hr
      exact .k dd q rel (by rw [← rel.length]; exact z) hd hx
    · obtain ⟨q, ne⟩ := q
      cases q with
      | nil => exact absurd rfl ne
      | cons h1 h2 h3 h4 t => exact absurd (ok2 _ List.mem_cons_self) (by simp [sk])
  | tup l =>
    have ek : ∃ pk, toPKs l = some pk := Option.isSome_iff_exists.mp ok1
    obtain ⟨pk, ek⟩ := ek
    have rk' := rk
    cases rk with
    | tup h1 h2 =>
      have ki := key_is I rk' ek
      rcases q with ⟨ks, rfl, q⟩ | ⟨xs, rfl, q⟩
      · cases q with
        | nil =>
          obtain ⟨z, hd, vs, rel, dd⟩ := dk_rd I.hok hr
          cases rel
          exact .p ek (emptyP dd) .nil ki rk' (Nat.zero_le _) hd List.nodup_nil
        | cons h t => exact absurd (ok2 _ List.mem_cons_self) (by simp [sk])
      · have z := dP_rd I.hok hr
        exact .p ek (z.of (ents_are I q.1)) q.1 ki rk' z.1 z.2.1 z.2.2.1
  | _ => exact absurd ok1 (by simp [keyb])
theorem DV.typeIs {s : Shared} (w : DV X s.heap ρ H a kvs k y) : s.TypeIs (.ref a) "dict" := by
  cases w with
  | k h _ _ _ _ _ => exact h.typeIs
  | p _ h _ _ _ _ _ _ => exact h.typeIs
theorem RelKV.val {K : PySem.W.Frag} {ks : List (Key × V)} {vs : List (Key × Value)} (r : RelKs K ρ H kvs ks) (q : KV ks vs) (x : Str) : RelG K ρ H (dget kvs (.str x)) (valueAt vs (.inr x)) := by
  have h1 := r.val x
  have h2 := q.val (.inr x)
  cases e1 : dget kvs (.str x) <;> cases e2 : valV ks (.inr x) <;> rw [e1, e2] at h1 <;> cases e3 : valueAt vs (.inr x) <;> rw [e2, e3] at h2 <;> first | exact True.intro | exact h1.elim | exact h2.elim | exact ⟨_, h1, h2⟩
theorem RelG.some_of {K : PySem.W.Frag} {o : Option Value} (h : RelG K ρ H (some d) o) : ∃ v u, o = some u ∧ RelD K ρ H d v ∧ RelV v u := by
  cases o with
  | none => exact h.elim
  | some u => obtain ⟨v, h1, h2⟩ := h; exact ⟨v, u, rfl, h1, h2⟩
theorem RelG.none_of {K : PySem.W.Frag} {o : Option Value} (h : RelG K ρ H none o) : o = none := by
  cases o with
  | none => rfl
  | some u => exact h.elim
theorem RelG.isSome_eq {K : PySem.W.Frag} {x : Option D} {o : Option Value} (h : RelG K ρ H x o) : x.isSome = o.isSome := by
  cases x <;> cases o <;> first | rfl | exact h.elim
variable {A : Around} {E : Value → Shared → Prop}
theorem v_getItem {Q : Value → Shared → Prop} (hu : A.units + 1 < cLine) (I : Inv X pins σ H s) (w : DV X s.heap ρ H a kvs k y) (ry : RelV y u) (hv : dget kvs k = some d) (h : ∀ v w' s', Inv X pins σ H s' → RelD X.K ρ H d v → RelV v w' → Q w' s') :
    wpAny (model X.prog X.w) A (getItem (.ref a) u) Q E s := by
  cases w with
  | k dd q rel z hd hx =>
    rename_i x ks vs
    have g := RelKV.val q rel x
    rw [hv] at g
    obtain ⟨v, w', e1, e2, e3⟩ := g.some_of
    exact wpAny_getItem_of (kV_is (k := .inr x) ry) dd.mapOf e1 (h v w' _ (I.tok _) e2 e3)
  | p ek dd q ki rk z hd nd =>
    rename_i l pk b xs
    cases (show u = Value.ref b from ry)
    have g := q.val ek
    rw [hv] at g
    obtain ⟨v, w', e1, e2, e3⟩ := g.some_of
    obtain ⟨p, hp, hp2⟩ := Option.map_eq_some_iff.mp e1
    refine wpAny_getItem_heap (tupleKind_room_in1 hu) ki dd hp ?_
    rw [hp2]
    exact h v w' _ (I.tok _) e2 e3
theorem v_in {Q : Value → Shared → Prop} (hu : A.units + 1 < cLine) (I : Inv X pins σ H s) (w : DV X s.heap ρ H a kvs k y) (ry : RelV y u) (h : ∀ s', Inv X pins σ H s' → Q (.bool (dget kvs k).isSome) s') :
    wpAny (model X.prog X.w) A (compareOp .In u (.ref a)) Q E s := by
  cases w with
  | k dd q rel z hd hx =>
    rename_i x ks vs
    refine wpAny_in_of (kV_is (k := .inr x) ry) hd dd.mapOf ?_
    rw [← (RelKV.val q rel x).isSome_eq]
    exact h _ (I.tok _)
  | p ek dd q ki rk z hd nd =>
    rename_i l pk b xs
    cases (show u = Value.ref b from ry)
    refine wpAny_in_heap (tupleKind_room_in1 hu) ki hd dd ?_
    have g := (q.val ek).isSome_eq
    rw [Option.isSome_map] at g
    rw [← g]
    exact h _ (I.tok _)
theorem v_notIn {Q : Value → Shared → Prop} (hu : A.units + 1 < cLine) (I : Inv X pins σ H s) (w : DV X s.heap ρ H a kvs k y) (ry : RelV y u) (h : ∀ s', Inv X pins σ H s' → Q (.bool (!(dget kvs k).isSome)) s') :
    wpAny (model X.prog X.w) A (compareOp .NotIn u (.ref a)) Q E s := by
  cases w with
  | k dd q rel z hd hx =>
    rename_i x ks vs
    refine wpAny_notIn_of (kV_is (k := .inr x) ry) hd dd.mapOf ?_
    rw [← (RelKV.val q rel x).isSome_eq]
    exact h _ (I.tok _)
  | p ek dd q ki rk z hd nd =>
    rename_i l pk b xs
    cases (show u = Value.ref b from ry)
    refine PyProof.Rows.wpAny_notIn_heap (tupleKind_room_in1 hu) ki hd dd ?_
    have g := (q.val ek).isSome_eq
    rw [Option.isSome_map] at g
    rw [← g]
    exact h _ (I.tok _)
theorem RelG.getD {K : PySem.W.Frag} {x : Option D} {o : Option Value} (h : RelG K ρ H x o) {w : Value} (q : RelD K ρ H e v) (rw' : RelV v w) : ∃ v', RelD K ρ H (x.getD e) v' ∧ RelV v' (o.getD w) := by
  cases x <;> cases o <;> first | exact h.elim | exact ⟨_, q, rw'⟩ | exact h
theorem v_get2 {Q : Value → Shared → Prop} (hu : A.units + 1 < cLine) (I : Inv X pins σ H s) (w : DV X s.heap ρ H a kvs k y) (ry : RelV y u) (re : RelD X.K ρ H e v) (rv : RelV v r) (h : ∀ v w' s', Inv X pins σ H s' → RelD X.K ρ H ((dget kvs k).getD e) v → RelV v w' → Q w' s') :
    wpAny (model X.prog X.w) A (call (.builtin "dict.get") [.ref a, u, r]) Q E s := by
  cases w with
  | k dd q rel z hd hx =>
    rename_i x ks vs
    obtain ⟨v', e1, e2⟩ := (RelKV.val q rel x).getD re rv
    exact call_meetsIn PySem.F.slot_dict_get dd.typeIs PySem.F.entry_dict_get (PySem.F.args_dict_get_3 _ _ _) (meets_dict_get_default (mixKind X.prog X.w) a (kV_is (k := .inr x) ry) hd r) ⟨_, dd.mapOf, h _ _ _ (I.tok _) e1 e2⟩
  | p ek dd q ki rk z hd nd =>
    rename_i l pk b xs
    cases (show u = Value.ref b from ry)
    obtain ⟨v', e1, e2⟩ := (q.val ek).getD re rv
    exact call_meetsIn PySem.F.slot_dict_get dd.typeIs PySem.F.entry_dict_get (PySem.F.args_dict_get_3 _ _ _) (meetsH_dict_get_default (tk X.prog X.w) a b hd r) ⟨tupleKind_room_in1 hu, pk, xs, ki, dd, h _ _ _ (I.tok _) e1 e2⟩
theorem v_get1 {Q : Value → Shared → Prop} (hu : A.units + 1 < cLine) (I : Inv X pins σ H s) (w : DV X s.heap ρ H a kvs k y) (ry : RelV y u) (h : ∀ v w' s', Inv X pins σ H s' → RelD X.K ρ H ((dget kvs k).getD .non) v → RelV v w' → Q w' s') :
    wpAny (model X.prog X.w) A (call (.builtin "dict.get") [.ref a, u]) Q E s := by
  cases w with
  | k dd q rel z hd hx =>
    rename_i x ks vs
    obtain ⟨v', e1, e2⟩ := (RelKV.val q rel x).getD (e := .non) (v := .non) (w := .none) .non rfl
    exact call_meetsIn PySem.F.slot_dict_get dd.typeIs PySem.F.entry_dict_get (PySem.F.args_dict_get_2 _ _) (meets_dict_get (mixKind X.prog X.w) a (kV_is (k := .inr x) ry) hd) ⟨_, dd.mapOf, h _ _ _ (I.tok _) e1 e2⟩
  | p ek dd q ki rk z hd nd =>
    rename_i l pk b xs
    cases (show u = Value.ref b from ry)
    obtain ⟨v', e1, e2⟩ := (q.val ek).getD (e := .non) (v := .non) (w := .none) .non rfl
    exact call_meetsIn PySem.F.slot_dict_get dd.typeIs PySem.F.entry_dict_get (PySem.F.args_dict_get_2 _ _) (meetsH_dict_get (tk X.prog X.w) a b hd) ⟨tupleKind_room_in1 hu, pk, xs, ki, dd, h _ _ _ (I.tok _) e1 e2⟩
theorem dput_ne (k d : D) : ∀ kvs : List (D × D), dput kvs k d ≠ []
  | [] => by unfold dput; simp
  | p :: r => by unfold dput; split <;> simp
/-- the dict after a store, as an object of the abstract heap -/
theorem v_setItem {Q : Unit → Shared → Prop} (hu : A.units + 1 < cLine) (I : Inv X pins σ H s) (mu : Mut (H a)) (w : DV X s.heap ρ H a kvs k y) (ry : RelV y u) (hl : kvs.length < sizeLine) (rd : RelD X.K ρ H d v) (rv : RelV v r)
    (h : ∀ o s', (∀ {ρ' : List Addr} {H' : Hp}, (∀ {d : D} {v : V}, RelD X.K ρ H d v → RelD X.K ρ' H' d v) → DctU X.K ρ' H' X.prog X.w a (dput kvs k d) o) → Inv X pins σ (upd H a o) s' → Q () s') :
    wpAny (model X.prog X.w) A (setItem (.ref a) u r) Q E s := by
  cases w with
  | k dd q rel z hd hx =>
    rename_i x ks vs
    have nd : (ks.map (·.1)).Nodup := by
      rw [rel.keys]
      obtain ⟨_, _, _, _, _, _, _, _, nd⟩ := dd
      exact nd
    have ql : kvs.length = ks.length := by
      clear h nd hl z rel dd
      induction q with
      | nil => rfl
      | cons _ _ _ ih => rw [List.length_cons, List.length_cons, ih]
    have hl' : (putK ks (.inr x) v).length ≤ sizeLine := by have := length_putK ks (.inr x) v; omega
    refine wpAny_setItem_pairs (hsz := z) (kV_is (k := .inr x) ry) dd fun h' dd' hs => h (.dK (putK ks (.inr x) v)) _ (fun m => .inl ⟨_, rfl, (RelKs.put rd hx q nd).mono m⟩) ?_
    have he : ∃ q, h'.get? a = some q := let ⟨q, _, _, hq, _⟩ := dd'; ⟨q, hq⟩
    exact d_write I mu hs he (dk_new hl' hd (rel.put (.inr x) rv) dd')
  | p ek dd q ki rk z hd nd =>
    rename_i l pk b xs
    cases (show u = Value.ref b from ry)
    have ql : kvs.length = xs.length := by
      clear h nd hl z ki dd
      induction q with
      | nil => rfl
      | cons _ _ _ _ _ ih => rw [List.length_cons, List.length_cons, ih]
    have hl' : (storedH xs pk b r).length ≤ sizeLine := by
      unfold storedH
      split
      · rw [List.length_map]; exact z
      · rw [List.length_append, List.length_singleton]; omega
    refine wpAny_setItem_heap (hsz := z) (tupleKind_room_in1 hu) ki dd fun h' dd' hs => h (dP X.prog X.w a (storedH xs pk b r)) _ (fun m => .inr ⟨_, rfl, (RelPs.put rd rv ek rk q nd).mono m, dput_ne _ _ _⟩) ?_
    have he : ∃ q, h'.get? a = some q := let ⟨q, _, _, hq, _⟩ := dd'; ⟨q, hq⟩
    exact d_write I mu hs he (dP_ok (rawP_of hl' hd dd'))
end
end RL
namespace RL
open PySem L2
/-! ### reading items, membership -/
def fSubs : D → D → M D := fun x k g => match items g x, k with
  | some l, .int i => match atI l i with
    | some d => .ok d g
    | none => .bad
  | some _, _ => .bad
  | none, k => match x with
    | .ref n => match g[n]? with
      | some (.dct _ kvs) => ck (kOk kvs k) (match dget kvs k with
        | some d => .ok d g
        | none => .bad)
      | _ => .bad
    | _ => .bad
def fIn : D → D → M D := fun x y g => match items g y with
  | some l => ck (gr 20 x = true ∧ l.all (gr 20) = true ∧ (l.all fun z => cm z x) = true) (.ok (.bl (decide (x ∈ l))) g)
  | none => match y with
    | .ref n => match g[n]? with
      | some (.dct _ kvs) => ck (kOk kvs x) (.ok (.bl (dget kvs x).isSome) g)
      | _ => .bad
    | _ => .bad
def fNot : D → D → M D := fun x y g => match fIn x y g with
  | .ok (.bl b) g => .ok (.bl (!b)) g
  | _ => .bad
/-- the answer of an operator that leaves all as it is -/
def rPure (U₀ : U) (f : D → D → M D) : R2 := fun v u H Q => ∃ ρ g x y, Rep U₀ ρ H g ∧ RelD U₀.K ρ H x v ∧ RelD U₀.K ρ H y u ∧ ∃ d, f x y g = .ok d g ∧ ∀ w, RelD U₀.K ρ H d w → Q w H
theorem s_pure {U₀ : U} {f : D → D → M D} (h : ∀ x y g d g', f x y g = .ok d g' → g' = g) (he : ∀ x y g e g', f x y g ≠ .exc e g') : S2 U₀ (rPure U₀ f) f := by
  intro W σ ρ H g x y v u Q r qx qy p
  cases e : f x y g with
  | ok d g' =>
    have := h _ _ _ _ _ e
    subst this
    rw [e] at p
    exact ⟨ρ, _, x, y, r, qx, qy, d, e, fun w q => p.at r q⟩
  | exc z g' => exact absurd e (he _ _ _ _ _)
  | bad =>
    rw [e] at p
    exact p.elim
theorem ck_ok {α : Type} {c : Prop} [Decidable c] {r : Res α} {a : α} {g : G} (h : ck c r = .ok a g) : c ∧ r = .ok a g := by
  unfold ck at h
  split at h
  · exact ⟨by assumption, h⟩
  · cases h
theorem ck_exc {α : Type} {c : Prop} [Decidable c] {r : Res α} {a : Exc} {g : G} (h : ck c r = .exc a g) : r = .exc a g := by
  unfold ck at h
  split at h
  · exact h
  · cases h
theorem fSubs_g : ∀ x y g d g', fSubs x y g = .ok d g' → g' = g := by
  intro x y g d g' h
  unfold fSubs at h
  repeat' split at h
  all_goals first
    | (cases h; rfl)
    | cases h
    | (obtain ⟨_, h⟩ := ck_ok h
       first
         | (cases h; rfl)
         | cases h)
theorem fSubs_e : ∀ x y g e g', fSubs x y g ≠ .exc e g' := by
  intro x y g d g' h
  unfold fSubs at h
  repeat' split at h
  all_goals first
    | cases h
    | (have h := ck_exc h
       cases h)
theorem fIn_g : ∀ x y g d g', fIn x y g = .ok d g' → g' = g := by
  intro x y g d g' h
  unfold fIn at h
  repeat' split at h
  all_goals first
    | cases h
    | (obtain ⟨_, h⟩ := ck_ok h
       cases h
       rfl)
theorem fIn_e : ∀ x y g e g', fIn x y g ≠ .exc e g' := by
  intro x y g d g' h
  unfold fIn at h
  repeat' split at h
  all_goals first
    | cases h
    | (have h := ck_exc h
       cases h)
theorem fNot_in {x y d : D} {g g' : G} (h : fNot x y g = .ok d g') : ∃ b, fIn x y g = .ok (.bl b) g ∧ d = .bl (!b) ∧ g' = g := by
  unfold fNot at h
  split at h
  · rename_i b g2 e
    have := fIn_g _ _ _ _ _ e
    subst this
    cases h
    exact ⟨b, e, rfl, rfl⟩
  · cases h
theorem fNot_e : ∀ x y g e g', fNot x y g ≠ .exc e g' := by
  intro x y g e g' h
  unfold fNot at h
  split at h <;> cases h
theorem atI_map {α β : Type} {xs : List α} {ys : List β} (hl : xs.length = ys.length) {i : Int} {x : α} (h : atI xs i = some x) : ∃ j : Nat, xs[j]? = some x ∧ atI ys i = ys[j]? := by
  unfold atI at h ⊢
  rw [← hl]
  cases e : ixN xs.length i with
  | none => rw [e] at h; cases h
  | some j => rw [e] at h; exact ⟨j, h, rfl⟩
theorem RelDs.atI {K : PySem.W.Frag} {ρ : List Addr} {H : Hp} {l : List D} {xs : List V} (r : RelDs K ρ H l xs) {i : Int} {d : D} (h : L2.atI l i = some d) : ∃ v, L2.atI xs i = some v ∧ RelD K ρ H d v := by
  obtain ⟨j, h1, h2⟩ := atI_map r.length h
  obtain ⟨v, h3, h4⟩ := r.get h1
  exact ⟨v, by rw [h2, h3], h4⟩
section
variable {X : Cx} {cn : Str → Addr}
theorem items_none_dct {g : G} {n : Nat} {lk : Bool} {kvs : List (D × D)} (h : g[n]? = some (.dct lk kvs)) : items g (.ref n) = none := by
  unfold items
  dsimp only
  rw [h]
theorem ix_all (hu : X.A.units + 1 < cLine) : IxR X (rPure (ux X cn) fSubs) := by
  intro value slice pins s σ H v u ov iv Q I rv ru h hs
  obtain ⟨ρ, g, x, k, R, qx, qk, d, e, q⟩ := h
  unfold fSubs at e
  split at e
  · rename_i l i hi
    split at e
    · rename_i d' ha
      cases e
      cases qk
      obtain ⟨xs, ⟨a, rfl, sq⟩, rs⟩ := items_sq R hi qx
      obtain ⟨w, h1, h2⟩ := rs.atI ha
      rcases sq with sq | sq
      · exact ix_list value slice pins s σ H _ _ ov iv Q I rv ru ⟨a, xs, i, w, rfl, rfl, sq, h1, q w h2⟩ hs
      · exact ix_tup value slice pins s σ H _ _ ov iv Q I rv ru ⟨a, xs, i, w, rfl, rfl, sq, h1, q w h2⟩ hs
    · cases e
  · cases e
  · split at e
    · split at e
      · rename_i n lk kvs hn
        obtain ⟨hk, e⟩ := ck_ok e
        split at e
        · rename_i d' hd
          cases e
          cases qx with
          | ref ha =>
            rename_i a
            cases (show ov = Value.ref a from rv)
            have w := view I R hn ha qk hk
            exact PyProof.Rows.tail_any w.typeIs PySem.F.slot_dict_getitem.lookup (v_getItem hu I w ru hd fun v' w' s' I' h1 h2 => ⟨v', H, I', h2, q v' h1⟩) hs
        · cases e
      · cases e
    · cases e
theorem any_in {x : D} : ∀ {l : List D}, l.all (gr 20) = true → gr 20 x = true → (l.all fun z => cm z x) = true → ((pds l).any fun z => PyData.eqv z (pd x)) = decide (x ∈ l)
  | [], _, _, _ => by simp [pds]
  | z :: l, h1, h2, h3 => by
    rw [List.all_cons, Bool.and_eq_true] at h1 h3
    rw [pds, List.any_cons, any_in h1.2 h2 h3.2, eqv_of 20 z x h1.1 h2 h3.1]
    by_cases e : z = x
    · subst e; simp
    · have e' : ¬ x = z := fun q => e q.symm
      simp [e, e']
theorem in_go {v u : V} {Q : VK} {b : Bool} {ρ : List Addr} {g : G} {H : Hp} {x y : D} (hu : X.A.units + 65 < cLine) {pins : List (Addr × Obj)} {s : Shared} {σ : L2.St} {ov iv : Value} (I : Inv X pins σ H s) (rv : RelV v ov) (ru : RelV u iv)
    (R : Rep (ux X cn) ρ H g) (qx : RelD X.K ρ H x v) (qy : RelD X.K ρ H y u) (e : fIn x y g = .ok (.bl b) g) : (Q (.bl b) H → wpAny (model X.prog X.w) X.A (compareOp .In ov iv) (EP X pins σ Q) X.xe s) ∧ (Q (.bl (!b)) H → wpAny (model X.prog X.w) X.A (compareOp .NotIn ov iv) (EP X pins σ Q) X.xe s) := by
  unfold fIn at e
  split at e
  · rename_i l hi
    obtain ⟨c, e⟩ := ck_ok e
    cases e
    obtain ⟨xs, ⟨a, rfl, sq⟩, rs⟩ := items_sq R hi qy
    have z := any_in c.2.1 c.1 c.2.2
    have sx := shp_of (U₀ := ux X cn) qx c.1
    obtain ⟨sl, st⟩ := shps_of (U₀ := ux X cn) rs c.2.1
    obtain ⟨as, r1⟩ := Dp.reads I _ v ov (dp_of (U₀ := ux X cn) 20 qx c.1) rv
    rcases sq with sq | sq
    · obtain ⟨bs, r2⟩ := Dp.reads I _ _ iv (Dp.lst sq (dps_of (U₀ := ux X cn) 20 rs c.2.1)) ru
      exact ⟨fun q => SeqAt.in_list_reads r2 r1 (SeqAt.canLay_of_shaped sl) (SeqAt.canLay_of_shaped sx) (PyProof.Rows.room_in_shaped sx hu) ⟨.bl _, H, I, rfl, by rw [z]; exact q⟩,
        fun q => SeqAt.notIn_list_reads r2 r1 (SeqAt.canLay_of_shaped sl) (SeqAt.canLay_of_shaped sx) (PyProof.Rows.room_in_shaped sx hu) ⟨.bl _, H, I, rfl, by rw [z]; exact q⟩⟩
    · obtain ⟨bs, r2⟩ := Dp.reads I _ _ iv (Dp.tup sq (dps_of (U₀ := ux X cn) 20 rs c.2.1)) ru
      exact ⟨fun q => SeqAt.in_tuple_reads r2 r1 (SeqAt.canLay_of_shaped sl) (SeqAt.canLay_of_shaped sx) (PyProof.Rows.room_in_shaped sx hu) ⟨.bl _, H, I, rfl, by rw [z]; exact q⟩,
        fun q => SeqAt.notIn_tuple_reads r2 r1 (SeqAt.canLay_of_shaped sl) (SeqAt.canLay_of_shaped sx) (PyProof.Rows.room_in_shaped sx hu) ⟨.bl _, H, I, rfl, by rw [z]; exact q⟩⟩
  · split at e
    · split at e
      · rename_i n lk kvs hn
        obtain ⟨hk, e⟩ := ck_ok e
        cases e
        cases qy with
        | ref ha =>
          rename_i a
          cases (show iv = Value.ref a from ru)
          have w := view I R hn ha qx hk
          exact ⟨fun q => v_in (by omega) I w rv fun s' I' => ⟨.bl _, H, I', rfl, q⟩, fun q => v_notIn (by omega) I w rv fun s' I' => ⟨.bl _, H, I', rfl, q⟩⟩
      · cases e
    · cases e
theorem fIn_bl {x y d : D} {g : G} (e : fIn x y g = .ok d g) : ∃ b, d = .bl b := by
  unfold fIn at e
  repeat' split at e
  all_goals first
    | cases e
    | (obtain ⟨_, e⟩ := ck_ok e
       cases e
       exact ⟨_, rfl⟩)
theorem op_inA (hu : X.A.units + 65 < cLine) : OpR X (compareOp .In) (rPure (ux X cn) fIn) := by
  intro pins s σ H v u ov iv Q I rv ru h
  obtain ⟨ρ, g, x, k, R, qx, qk, d, e, q⟩ := h
  obtain ⟨b, rfl⟩ := fIn_bl e
  exact (in_go hu I rv ru R qx qk e).1 (q _ (.bl b))
theorem op_notA (hu : X.A.units + 65 < cLine) : OpR X (compareOp .NotIn) (rPure (ux X cn) fNot) := by
  intro pins s σ H v u ov iv Q I rv ru h
  obtain ⟨ρ, g, x, k, R, qx, qk, d, e, q⟩ := h
  obtain ⟨b, e1, rfl, _⟩ := fNot_in e
  exact (in_go hu I rv ru R qx qk e1).2 (q _ (.bl _))
variable {W : WX} {pos : Pos} {a b c e : Expr} {es : List Expr} {ma mb : ME} {ml : MA} {mt mu : MT}
theorem re_sub (hu : X.A.units + 1 < cLine) (ha : RE X cn W a ma) (hb : RE X cn W b mb) (hs : PlainIx b) : RE X cn W (.Subscript a b pos) (mOp fSubs ma mb) :=
  peI (pe_ix (ix_all hu) ha hb hs) (two_e (s_pure fSubs_g fSubs_e))
theorem re_in (hu : X.A.units + 65 < cLine) (ha : RE X cn W a ma) (hb : RE X cn W b mb) (hm : behindInMarks .In b = false := by rfl) : RE X cn W (.Compare a [.In] [b] pos) (mOp fIn ma mb) :=
  re_cmp (op_inA hu) (s_pure fIn_g fIn_e) ha hb hm
theorem re_notIn (hu : X.A.units + 65 < cLine) (ha : RE X cn W a ma) (hb : RE X cn W b mb) (hm : behindInMarks .NotIn b = false := by rfl) : RE X cn W (.Compare a [.NotIn] [b] pos) (mOp fNot ma mb) :=
  re_cmp (op_notA hu) (s_pure (fun _ _ _ _ _ h => (fNot_in h).choose_spec.2.2) fNot_e) ha hb hm
theorem re_eq (hu : X.A.units + 64 < cLine) (ha : RE X cn W a ma) (hb : RE X cn W b mb) : RE X cn W (.Compare a [.Eq] [b] pos) (mOp fEq ma mb) := re_cmp (op_eqD hu) s_eq ha hb (nomark _)
theorem re_ne (hu : X.A.units + 64 < cLine) (ha : RE X cn W a ma) (hb : RE X cn W b mb) : RE X cn W (.Compare a [.NotEq] [b] pos) (mOp fNe ma mb) := re_cmp (op_neD hu) s_ne ha hb (nomark _)
theorem re_lt (ha : RE X cn W a ma) (hb : RE X cn W b mb) : RE X cn W (.Compare a [.Lt] [b] pos) (mOp fLt ma mb) := re_cmp op_lt s_lt ha hb (nomark _)
theorem re_le (ha : RE X cn W a ma) (hb : RE X cn W b mb) : RE X cn W (.Compare a [.LtE] [b] pos) (mOp fLe ma mb) := re_cmp op_le s_le ha hb (nomark _)
theorem re_gt (ha : RE X cn W a ma) (hb : RE X cn W b mb) : RE X cn W (.Compare a [.Gt] [b] pos) (mOp fGt ma mb) := re_cmp op_gt s_gt ha hb (nomark _)
theorem re_ge (ha : RE X cn W a ma) (hb : RE X cn W b mb) : RE X cn W (.Compare a [.GtE] [b] pos) (mOp fGe ma mb) := re_cmp op_ge s_ge ha hb (nomark _)
theorem re_mul (ha : RE X cn W a ma) (hb : RE X cn W b mb) : RE X cn W (.BinOp a .Mult b pos) (mOp fMul ma mb) := re_op op_mul s_mul ha hb
theorem re_minus (ha : RE X cn W a ma) (hb : RE X cn W b mb) : RE X cn W (.BinOp a .Sub b pos) (mOp fSub ma mb) := re_op op_sub s_sub ha hb
theorem re_mod (ha : RE X cn W a ma) (hb : RE X cn W b mb) : RE X cn W (.BinOp a .Mod b pos) (mOp fMod ma mb) := re_op op_mod s_mod ha hb
theorem re_div (ha : RE X cn W a ma) (hb : RE X cn W b mb) : RE X cn W (.BinOp a .FloorDiv b pos) (mOp fDiv ma mb) := re_op op_fdiv s_div ha hb
theorem re_pow (ha : RE X cn W a ma) (hb : RE X cn W b mb) : RE X cn W (.BinOp a .Pow b pos) (mOp fPow ma mb) := re_op op_pow s_pow ha hb
/-! + of ints, of lists, of tuples -/
def fPlus : D → D → M D := fun x y g => match x, y with
  | .int i, .int j => .ok (.int (i + j)) g
  | .ref n, .ref m => match g[n]?, g[m]? with
    | some (.lst l), some (.lst l') => ck (l.length + l'.length ≤ 100000) (.ok (.ref g.length) (g ++ [.lst (l ++ l')]))
    | _, _ => .bad
  | .tup l, .tup l' => ck (0 < l.length ∧ 0 < l'.length ∧ l.length + l'.length ≤ 100000) (.ok (.tup (l ++ l')) g)
  | _, _ => .bad
theorem small_line {n : Nat} (h : n ≤ 100000) : n < sizeLine := Nat.lt_of_le_of_lt h (by rw [sizeLine_eq]; decide)
theorem op_plus : OpR X (binaryOp .Add) (fun x y H Q => rI0 (fun i j => .int (i + j)) x y H Q ∨ (rCat x y H Q ∨ rCatT X.K x y H Q)) := op_add.or (op_cat.or op_catT)
theorem s_plus : S2 (ux X cn) (fun x y H Q => rI0 (fun i j => .int (i + j)) x y H Q ∨ (rCat x y H Q ∨ rCatT X.K x y H Q)) fPlus := by
  intro W σ ρ H g x y v u Q r qx qy p
  unfold fPlus at p
  split at p
  · cases qx
    cases qy
    exact .inl ⟨_, _, rfl, rfl, p.at r (.int _)⟩
  · split at p
    · rename_i n m _ _ l l' h1 h2
      obtain ⟨c, p⟩ := Post.ck p
      cases qx with
      | ref ha =>
        cases qy with
        | ref hb =>
          obtain ⟨xs, e1, r1⟩ := r.lst h1 ha
          obtain ⟨ys, e2, r2⟩ := r.lst h2 hb
          refine .inr (.inl ⟨_, _, xs, ys, rfl, rfl, e1, e2, ?_, fun q hq => ?_⟩)
          · rw [← r1.length, ← r2.length]
            exact Nat.le_of_lt (small_line c)
          · obtain ⟨ev, rp, hx⟩ := Ev.cnt (ob := .lst (l ++ l')) (o := .lst (xs ++ ys)) r hq fun e h => ⟨_, h, (e.rels r r1).app (e.rels r r2)⟩
            exact p _ _ _ ev rp (.ref hx)
    · exact p.elim
  · rename_i l l'
    obtain ⟨c, p⟩ := Post.ck p
    cases qx with
    | tup s1 r1 =>
      rename_i a xs
      cases qy with
      | tup s2 r2 =>
        rename_i b ys
        have n1 : xs ≠ [] := fun z => by
          have := r1.length
          rw [z] at this
          simp at this
          simp [this] at c
        have n2 : ys ≠ [] := fun z => by
          have := r2.length
          rw [z] at this
          simp at this
          simp [this] at c
        refine .inr (.inr ⟨_, _, xs, ys, rfl, rfl, s1, s2, n1, ?_, fun z => absurd z n2, fun _ q hq => ?_⟩)
        · rw [← r1.length, ← r2.length]
          exact Nat.le_of_lt (small_line c.2.2)
        · obtain ⟨ev, rp⟩ := Ev.new (o := .tup (xs ++ ys)) r hq
          exact p _ _ _ ev rp (.tup (.of upd_same) ((ev.rels r r1).app (ev.rels r r2)))
  · exact p.elim
theorem re_plus (ha : RE X cn W a ma) (hb : RE X cn W b mb) : RE X cn W (.BinOp a .Add b pos) (mOp fPlus ma mb) := re_op op_plus s_plus ha hb
end
end RL
namespace RL
open PySem L2
@[simp] theorem ck_true {α : Type} (r : Res α) : ck True r = r := if_pos trivial
/-! ### tests, and, or, not, if .. else -/
def asB : D → M Bool := fun d g => match d with
  | .bl b => .ok b g
  | _ => .bad
def mTest (m : ME) : MT := fun τ g => (m τ g).bind asB
def mAndT (a b : MT) : MT := fun τ g => (a τ g).bind fun c g1 => if c = true then b τ g1 else .ok false g1
def mOrT (a b : MT) : MT := fun τ g => (a τ g).bind fun c g1 => if c = true then .ok true g1 else b τ g1
def mNotT (a : MT) : MT := fun τ g => (a τ g).bind fun c g1 => .ok (!c) g1
def mAnd (a b : ME) : ME := fun τ g => (a τ g).bind fun d g1 => match d with
  | .bl true => b τ g1
  | .bl false => .ok (.bl false) g1
  | _ => .bad
def mOr (a b : ME) : ME := fun τ g => (a τ g).bind fun d g1 => match d with
  | .bl false => b τ g1
  | .bl true => .ok (.bl true) g1
  | _ => .bad
def fNotV : D → M D := fun d g => match d with
  | .bl b => .ok (.bl (!b)) g
  | _ => .bad
def mIf (c : MT) (a b : ME) : ME := fun τ g => (c τ g).bind fun k g1 => if k = true then a τ g1 else b τ g1
def fIsN (b : Bool) : D → M D := fun d g => .ok (.bl (if b = true then decide (d = .non) else !decide (d = .non))) g
section
variable {X : Cx} {cn : Str → Addr} {W : WX} {pos : Pos} {a b c e o : Expr} {es : List Expr} {ma mb me : ME} {ml : MA} {mt mu : MT}
theorem rt_val (h : RE X cn W e me) (he : ∀ whole, isTrue e X.env whole = (do let v ← whole; standAt e.pos; holding [v] (truthy v)) := by intro _; rfl) : RT X cn W e (mTest me) := by
  refine ptI (pt_val h he) fun σ H Q ⟨ρ, τ, g, s, p⟩ => ⟨ρ, τ, g, s, p.thn fun ρ1 v H1 d g1 e1 r1 q1 p1 => ?_⟩
  unfold asB at p1
  cases q1 <;> first | exact p1.elim | exact ⟨_, rfl, p1.at r1 rfl⟩
theorem rt_cmp {op : CmpOp} {r : R2} {f : D → D → M D} (ho : OpR X (compareOp op) r) (s : S2 (ux X cn) r f) (ha : RE X cn W a ma) (hb : RE X cn W b mb) (hm : behindInMarks op b = false) : RT X cn W (.Compare a [op] [b] pos) (mTest (mOp f ma mb)) := by
  refine ptI (pt_cmpR ho ha hb hm) fun σ H Q ⟨ρ, τ, g, st, p⟩ => ?_
  have h : tE (ux X cn) W (mOp f ma mb) σ H (fun x H' => ∃ k, x = .bl k ∧ Q k H') := ⟨ρ, τ, g, st, p.thn fun ρ1 v H1 d g1 e1 r1 q1 p1 => by
    unfold asB at p1
    cases q1 <;> first | exact p1.elim | exact ⟨_, rfl, p1.at r1 rfl⟩⟩
  exact two_e s σ H _ h
theorem rt_isN (ha : RE X cn W a ma) {j pos'} : RT X cn W (.Compare a [.Is] [.Constant .none j pos'] pos) (mTest (mUn (fIsN true) ma)) := by
  refine ptI (pt_cmp (pc_isN ha)) fun σ H Q ⟨ρ, τ, g, st, p⟩ => ?_
  have p' : Post (ux X cn) rB W σ ρ H ((ma τ g).bind fun x g1 => .ok (decide (x = .non)) g1) Q := by
    unfold mTest mUn at p
    cases h : ma τ g <;> rw [h] at p <;> exact p
  refine ⟨ρ, τ, g, st, p'.thn fun ρ1 v H1 d g1 e1 r1 q1 p1 => ⟨_, rfl, ?_⟩⟩
  have z : decide (v = V.non) = decide (d = D.non) := by cases q1 <;> simp
  rw [z]
  exact p1.at r1 rfl
theorem rt_notN (ha : RE X cn W a ma) {j pos'} : RT X cn W (.Compare a [.IsNot] [.Constant .none j pos'] pos) (mTest (mUn (fIsN false) ma)) := by
  refine ptI (pt_cmp (pc_notN ha)) fun σ H Q ⟨ρ, τ, g, st, p⟩ => ?_
  have p' : Post (ux X cn) rB W σ ρ H ((ma τ g).bind fun x g1 => .ok (!decide (x = .non)) g1) Q := by
    unfold mTest mUn at p
    cases h : ma τ g <;> rw [h] at p <;> exact p
  refine ⟨ρ, τ, g, st, p'.thn fun ρ1 v H1 d g1 e1 r1 q1 p1 => ⟨_, rfl, ?_⟩⟩
  have z : decide (v = V.non) = decide (d = D.non) := by cases q1 <;> simp
  rw [z]
  exact p1.at r1 rfl
theorem re_isN (ha : RE X cn W a ma) {j pos'} : RE X cn W (.Compare a [.Is] [.Constant .none j pos'] pos) (mUn (fIsN true) ma) := by
  refine peI (pe_cmp (pc_isN ha)) fun σ H Q ⟨ρ, τ, g, st, p⟩ => ⟨ρ, τ, g, st, p.thn fun ρ1 v H1 d g1 e1 r1 q1 p1 => ?_⟩
  have z : decide (v = V.non) = decide (d = D.non) := by cases q1 <;> simp
  rw [z]
  exact p1.at r1 (.bl _)
theorem re_notN (ha : RE X cn W a ma) {j pos'} : RE X cn W (.Compare a [.IsNot] [.Constant .none j pos'] pos) (mUn (fIsN false) ma) := by
  refine peI (pe_cmp (pc_notN ha)) fun σ H Q ⟨ρ, τ, g, st, p⟩ => ⟨ρ, τ, g, st, p.thn fun ρ1 v H1 d g1 e1 r1 q1 p1 => ?_⟩
  have z : decide (v = V.non) = decide (d = D.non) := by cases q1 <;> simp
  rw [z]
  exact p1.at r1 (.bl _)
theorem rw_and1 (h : RT X cn W a mt) : RW X cn W (.BoolOp .And [a] pos) mt := pw_and1 h
theorem rw_or1 (h : RT X cn W a mt) : RW X cn W (.BoolOp .Or [a] pos) mt := pw_or1 h
theorem rw_and (ha : RT X cn W a mt) (hb : RW X cn W (.BoolOp .And (b :: es) pos) mu) : RW X cn W (.BoolOp .And (a :: b :: es) pos) (mAndT mt mu) := by
  refine pwI (pw_and ha hb) fun σ H Q ⟨ρ, τ, g, s, p⟩ => ⟨ρ, τ, g, s, p.thn fun ρ1 v H1 d g1 e1 r1 q1 p1 => ?_⟩
  cases (show d = v from q1)
  cases v with
  | true => exact ⟨ρ1, τ, g1, s.later e1 r1, p1⟩
  | false => exact p1.at r1 rfl
theorem rw_or (ha : RT X cn W a mt) (hb : RW X cn W (.BoolOp .Or (b :: es) pos) mu) : RW X cn W (.BoolOp .Or (a :: b :: es) pos) (mOrT mt mu) := by
  refine pwI (pw_or ha hb) fun σ H Q ⟨ρ, τ, g, s, p⟩ => ⟨ρ, τ, g, s, p.thn fun ρ1 v H1 d g1 e1 r1 q1 p1 => ?_⟩
  cases (show d = v from q1)
  cases v with
  | true => exact p1.at r1 rfl
  | false => exact ⟨ρ1, τ, g1, s.later e1 r1, p1⟩
theorem rt_w (h : RW X cn W e mt) : RT X cn W e mt := PW.pt h
theorem rt_not (ha : RT X cn W a mt) : RT X cn W (.UnaryOp .Not a pos) (mNotT mt) := by
  refine ptI (pt_not ha) fun σ H Q ⟨ρ, τ, g, s, p⟩ => ⟨ρ, τ, g, s, p.thn fun ρ1 v H1 d g1 e1 r1 q1 p1 => ?_⟩
  cases (show d = v from q1)
  exact p1.at r1 rfl
theorem re_one {op} (h : RE X cn W a ma) : RE X cn W (.BoolOp op [a] pos) ma := pe_one h
theorem re_and (ha : RE X cn W a ma) (hb : RE X cn W (.BoolOp .And (b :: es) pos) mb) : RE X cn W (.BoolOp .And (a :: b :: es) pos) (mAnd ma mb) := by
  refine peI (pe_and ha hb) fun σ H Q ⟨ρ, τ, g, s, p⟩ => ⟨ρ, τ, g, s, p.thn fun ρ1 v H1 d g1 e1 r1 q1 p1 => ?_⟩
  cases q1 <;> first | exact p1.elim | skip
  rename_i k
  refine ⟨k, rfl, ?_⟩
  cases k with
  | true => exact ⟨ρ1, τ, g1, s.later e1 r1, p1⟩
  | false => exact p1.at r1 (.bl _)
theorem re_or (ha : RE X cn W a ma) (hb : RE X cn W (.BoolOp .Or (b :: es) pos) mb) : RE X cn W (.BoolOp .Or (a :: b :: es) pos) (mOr ma mb) := by
  refine peI (pe_or ha hb) fun σ H Q ⟨ρ, τ, g, s, p⟩ => ⟨ρ, τ, g, s, p.thn fun ρ1 v H1 d g1 e1 r1 q1 p1 => ?_⟩
  cases q1 <;> first | exact p1.elim | skip
  rename_i k
  refine ⟨k, rfl, ?_⟩
  cases k with
  | true => exact p1.at r1 (.bl _)
  | false => exact ⟨ρ1, τ, g1, s.later e1 r1, p1⟩
theorem re_not (ha : RE X cn W a ma) : RE X cn W (.UnaryOp .Not a pos) (mUn fNotV ma) := by
  refine peI (pe_not ha) fun σ H Q ⟨ρ, τ, g, s, p⟩ => ⟨ρ, τ, g, s, p.thn fun ρ1 v H1 d g1 e1 r1 q1 p1 => ?_⟩
  cases q1 <;> first | exact p1.elim | exact ⟨_, rfl, p1.at r1 (.bl _)⟩
theorem re_ifx (hc : RT X cn W c mt) (ha : RE X cn W a ma) (hb : RE X cn W b mb) : RE X cn W (.IfExp c a b pos) (mIf mt ma mb) := by
  refine peI (pe_ifExp hc ha hb) fun σ H Q ⟨ρ, τ, g, s, p⟩ => ⟨ρ, τ, g, s, p.thn fun ρ1 v H1 d g1 e1 r1 q1 p1 => ?_⟩
  cases (show d = v from q1)
  cases v with
  | true => exact ⟨ρ1, τ, g1, s.later e1 r1, p1⟩
  | false => exact ⟨ρ1, τ, g1, s.later e1 r1, p1⟩
theorem re_neg {i : Int} {k p2} (h : RE X cn W (.Constant (.int i) k p2) (mC (.int i)) := by exact re_int) : RE X cn W (.UnaryOp .USub (.Constant (.int i) k p2) pos) (mC (.int (-i))) := by
  refine peI (pe_un un_neg h) fun σ H Q ⟨ρ, τ, g, s, p⟩ => ⟨ρ, τ, g, s, fun ρ' v H' e r q => ?_⟩
  cases q
  exact ⟨i, rfl, p ρ' _ H' e r (.int _)⟩
/-! displays -/
def fTup : List D → M D := fun l g => ck (l.length ≤ 1000) (.ok (.tup l) g)
def fLst : List D → M D := fun l g => ck (l.length ≤ 1000) (.ok (.ref g.length) (g ++ [.lst l]))
theorem re_tup {k} (h : RA X cn W es ml) : RE X cn W (.Tuple es k pos) (mUnA fTup ml) := by
  refine peI (pe_tup h) fun σ H Q ⟨ρ, τ, g, s, p⟩ => ⟨ρ, τ, g, s, p.thn fun ρ1 v H1 d g1 e1 r1 q1 p1 => ?_⟩
  obtain ⟨c, p1⟩ := Post.ck p1
  refine ⟨by rw [← RelDs.length q1]; exact Nat.le_of_lt (small1000 c), fun q hq => ?_⟩
  obtain ⟨ev, rp⟩ := Ev.new (o := .tup v) r1 hq
  exact p1 _ _ _ ev rp (.tup (.of upd_same) (ev.rels r1 q1))
theorem re_lst (h : RA X cn W es ml) : RE X cn W (.List es pos) (mUnA fLst ml) := by
  refine peI (pe_lst h) fun σ H Q ⟨ρ, τ, g, s, p⟩ => ⟨ρ, τ, g, s, p.thn fun ρ1 v H1 d g1 e1 r1 q1 p1 => ?_⟩
  obtain ⟨c, p1⟩ := Post.ck p1
  refine ⟨by rw [← RelDs.length q1]; exact Nat.le_of_lt (small1000 c), fun q hq => ?_⟩
  obtain ⟨ev, rp, hx⟩ := Ev.cnt (ob := .lst d) (o := .lst v) r1 hq fun e h => ⟨_, h, e.rels r1 q1⟩
  exact p1 _ _ _ ev rp (.ref hx)
def mDict0 : ME := fun _ g => .ok (.ref g.length) (g ++ [.dct false []])
theorem re_dict0 : RE X cn W (.Dict [] [] pos) mDict0 := by
  refine peI pe_dnewK fun σ H Q ⟨ρ, τ, g, s, p⟩ q hq => ?_
  obtain ⟨ev, rp, hx⟩ := Ev.cnt (ob := .dct false []) (o := .dK []) s.rep hq fun e h => ⟨_, h, .inl ⟨[], rfl, .nil⟩⟩
  exact p _ _ _ ev rp (.ref hx)
/-! attributes of own objects -/
def optR (o : Option D) : M D := fun g => match o with
  | some d => .ok d g
  | none => .bad
@[simp] theorem optR_some (d : D) (g : G) : optR (some d) g = .ok d g := rfl
@[simp] theorem optR_none (g : G) : optR none g = .bad := rfl
/-- the classes cs have no such name of their own -/
def FldOk (K : PySem.W.Frag) (cn : Str → Addr) (cs : List Str) (f : Str) : Prop := fieldOk f = true ∧ ∀ c ∈ cs, Cls K (cn c) ∧ NoAttr K (cn c) f
def fFld (cs : List Str) (f : Str) : D → M D := fun x g => match x with
  | .ref n => match g[n]? with
    | some (.ins c' fs) => ck (c' ∈ cs) (optR (fs.lookup f) g)
    | _ => .bad
  | _ => .bad
theorem RelF.some_of {K : PySem.W.Frag} {ρ : List Addr} {H : Hp} {d : D} {o : Option V} (h : RelF K ρ H (some d) o) : ∃ v, o = some v ∧ RelD K ρ H d v := by
  cases o with
  | none => exact h.elim
  | some v => exact ⟨v, rfl, h⟩
theorem RelF.none_of {K : PySem.W.Frag} {ρ : List Addr} {H : Hp} {o : Option V} (h : RelF K ρ H none o) : o = none := by
  cases o with
  | none => rfl
  | some v => exact h.elim
theorem re_fld {cs : List Str} {f : Str} (hc : FldOk X.K cn cs f) (he : RE X cn W e me) (hb : attributeBase e f X.env (eval e X.env) = eval e X.env := by rfl) : RE X cn W (.Attribute e f pos) (mUn (fFld cs f) me) := by
  refine peI (pe_fld he hb) fun σ H Q ⟨ρ, τ, g, s, p⟩ => ⟨ρ, τ, g, s, p.thn fun ρ1 v H1 d g1 e1 r1 q1 p1 => ?_⟩
  unfold fFld at p1
  split at p1
  · split at p1
    · rename_i n _ c' fs hg
      obtain ⟨hm, p2⟩ := Post.ck p1
      obtain ⟨k1, k2⟩ := hc.2 _ hm
      cases hd : fs.lookup f with
      | some d' =>
        rw [hd] at p2
        cases q1 with
        | ref ha =>
          obtain ⟨dx, fs', h1, h3⟩ := r1.obs n _ _ hg ha
          have h4 := h3.val f
          rw [hd] at h4
          obtain ⟨w, h5, h6⟩ := h4.some_of
          exact ⟨_, _, dx, fs', w, rfl, h1, k1, k2, h5, Post.at (Rl := rD (ux X cn)) p2 r1 h6⟩
      | none =>
        rw [hd] at p2
        exact p2.elim
    · exact p1.elim
  · exact p1.elim
/-! built-in calls -/
def fLen : List D → M D := fun l g => match l with
  | [x] => match items g x with
    | some l => .ok (.int (l.length : Nat)) g
    | none => .bad
  | _ => .bad
theorem s_len : SA (ux X cn) (fun xs H Q => ∃ p ys, xs = [.ref p] ∧ (SqL X.K H p ys ∨ SqT X.K H p ys) ∧ Q (.int ys.length) H) fLen := by
  intro W σ ρ H g x v Q r q p
  unfold fLen at p
  split at p
  · split at p
    · rename_i l hi
      cases q with
      | cons q1 q2 =>
        cases q2
        obtain ⟨xs, ⟨a, rfl, sq⟩, rs⟩ := items_sq r hi q1
        refine ⟨a, xs, rfl, sq, ?_⟩
        rw [← rs.length]
        exact p.at r (.int _)
    · exact p.elim
  · exact p.elim
theorem re_len {p2 : Pos} (hg : Gl X "len") (hm : X.mg "len" = none) (ha : RE X cn W a ma) (hs : starEach [a] X.env = (false, eval a X.env) :: starEach [] X.env := by rfl) : RE X cn W (.Call (.Name "len" p2) [a] [] pos) (mUnA fLen (mCons ma mNil)) :=
  re_callB (id := "len") call_len_seq s_len hg hm PySem.boot_len (ra_cons ha ra_nil hs) (he := hs)
def fInt : List D → M D := fun l g => match l with
  | [.int i] => .ok (.int i) g
  | [.bl b] => .ok (.int (if b = true then 1 else 0)) g
  | _ => .bad
theorem s_int : SA (ux X cn) (fun xs H Q => (∃ i, xs = [.int i] ∧ Q (.int i) H) ∨ ∃ k, xs = [.bl k] ∧ Q (.int (if k then 1 else 0)) H) fInt := by
  intro W σ ρ H g x v Q r q p
  unfold fInt at p
  split at p
  · cases q with
    | cons q1 q2 =>
      cases q2
      cases q1
      exact .inl ⟨_, rfl, p.at r (.int _)⟩
  · cases q with
    | cons q1 q2 =>
      cases q2
      cases q1
      exact .inr ⟨_, rfl, p.at r (.int _)⟩
  · exact p.elim
theorem re_intc {p2 : Pos} (hg : Gl X "int") (hm : X.mg "int" = none) (ha : RE X cn W a ma) (hs : starEach [a] X.env = (false, eval a X.env) :: starEach [] X.env := by rfl) : RE X cn W (.Call (.Name "int" p2) [a] [] pos) (mUnA fInt (mCons ma mNil)) :=
  re_callTy (id := "int") call_int1 s_int hg hm (by decide +kernel) (ra_cons ha ra_nil hs) (he := hs)
def fTuple : List D → M D := fun l g => match l with
  | [x] => match items g x with
    | some l => .ok (.tup l) g
    | none => .bad
  | _ => .bad
theorem s_tuple : SA (ux X cn) (fun xs H Q => ∃ p ys, xs = [.ref p] ∧ ((SqL X.K H p ys ∧ ∀ l, H l = none → Q (.ref l) (upd H l (.tup ys))) ∨ (SqT X.K H p ys ∧ Q (.ref p) H))) fTuple := by
  intro W σ ρ H g x v Q r q p
  unfold fTuple at p
  split at p
  · split at p
    · rename_i l hi
      cases q with
      | cons q1 q2 =>
        cases q2
        obtain ⟨xs, ⟨a, rfl, sq⟩, rs⟩ := items_sq r hi q1
        refine ⟨a, xs, rfl, ?_⟩
        rcases sq with sq | sq
        · refine .inl ⟨sq, fun t ht => ?_⟩
          obtain ⟨ev, rp⟩ := Ev.new (o := .tup xs) r ht
          exact p _ _ _ ev rp (.tup (.of upd_same) (ev.rels r rs))
        · exact .inr ⟨sq, p.at r (.tup sq rs)⟩
    · exact p.elim
  · exact p.elim
theorem re_tuple {p2 : Pos} (hg : Gl X "tuple") (hm : X.mg "tuple" = none) (ha : RE X cn W a ma) (hs : starEach [a] X.env = (false, eval a X.env) :: starEach [] X.env := by rfl) : RE X cn W (.Call (.Name "tuple" p2) [a] [] pos) (mUnA fTuple (mCons ma mNil)) :=
  re_callTy (id := "tuple") call_tuple_of s_tuple hg hm PyProof.Rows.boot_tuple (ra_cons ha ra_nil hs) (he := hs)
/-- True and False of a list -/
def bools : List D → Option (List Bool)
  | [] => some []
  | .bl b :: l => (bools l).map (b :: ·)
  | _ => none
theorem bools_rel {K : PySem.W.Frag} {ρ : List Addr} {H : Hp} : ∀ {l : List D} {vs : List V} {bs : List Bool}, RelDs K ρ H l vs → bools l = some bs → vs = bs.map V.bl
  | _, _, _, .nil, e => by cases e; rfl
  | d :: l, v :: vs, bs, .cons h t, e => by
    cases h <;> simp only [bools] at e <;> first | cases e | skip
    cases e1 : bools l with
    | none => rw [e1] at e; cases e
    | some b => rw [e1] at e; cases e; rw [List.map_cons, bools_rel t e1]
def fAny : List D → M D := fun l g => match l with
  | [.ref n] => match items g (.ref n) with
    | some l => match bools l with
      | some bs => .ok (.bl (bs.any id)) g
      | none => .bad
    | none => .bad
  | _ => .bad
def fAll : List D → M D := fun l g => match l with
  | [.ref n] => match items g (.ref n) with
    | some l => match bools l with
      | some bs => .ok (.bl (bs.all id)) g
      | none => .bad
    | none => .bad
  | _ => .bad
theorem s_any : SA (ux X cn) (rAny X.K) fAny := by
  intro W σ ρ H g x v Q r q p
  unfold fAny at p
  split at p
  · split at p
    · rename_i l hi
      split at p
      · rename_i bs hb
        cases q with
        | cons q1 q2 =>
          cases q2
          cases q1 with
          | ref ha =>
            obtain ⟨xs, sq, rs⟩ := items_ref r hi ha
            have e := bools_rel rs hb
            subst e
            exact ⟨_, bs, rfl, sq, p.at r (.bl _)⟩
      · exact p.elim
    · exact p.elim
  · exact p.elim
theorem s_all : SA (ux X cn) (rAll X.K) fAll := by
  intro W σ ρ H g x v Q r q p
  unfold fAll at p
  split at p
  · split at p
    · rename_i l hi
      split at p
      · rename_i bs hb
        cases q with
        | cons q1 q2 =>
          cases q2
          cases q1 with
          | ref ha =>
            obtain ⟨xs, sq, rs⟩ := items_ref r hi ha
            have e := bools_rel rs hb
            subst e
            exact ⟨_, bs, rfl, sq, p.at r (.bl _)⟩
      · exact p.elim
    · exact p.elim
  · exact p.elim
theorem re_any {p2 : Pos} (hc : X.calm = true) (hg : Gl X "any") (hm : X.mg "any" = none) (ha : RE X cn W a ma) (hs : starEach [a] X.env = (false, eval a X.env) :: starEach [] X.env := by rfl) : RE X cn W (.Call (.Name "any" p2) [a] [] pos) (mUnA fAny (mCons ma mNil)) :=
  re_callB (id := "any") (cr_any hc) s_any hg hm (by decide +kernel) (ra_cons ha ra_nil hs) (he := hs)
theorem re_all {p2 : Pos} (hc : X.calm = true) (hg : Gl X "all") (hm : X.mg "all" = none) (ha : RE X cn W a ma) (hs : starEach [a] X.env = (false, eval a X.env) :: starEach [] X.env := by rfl) : RE X cn W (.Call (.Name "all" p2) [a] [] pos) (mUnA fAll (mCons ma mNil)) :=
  re_callB (id := "all") (cr_all hc) s_all hg hm (by decide +kernel) (ra_cons ha ra_nil hs) (he := hs)
end
end RL
namespace RL
open PySem L2
/-! ### statements -/
section
variable {U₀ : U} {W : WX} {α β : Type} {σ : St} {ρ ρ' : List Addr} {H H' : Hp} {g : G} {τ : T}
def PostS (U₀ : U) (W : WX) (ρ : List Addr) (H : Hp) (r : SR) (E : Ends) : Prop := match r with
  | .nx τ g => ∀ ρ' σ' H', Ev ρ H ρ' H' → Stt U₀ ρ' τ g σ' H' → E.nx σ' H'
  | .rt d g => ∀ ρ' v H', Ev ρ H ρ' H' → Rep U₀ ρ' H' g → RelD U₀.K ρ' H' d v → E.rt v H'
  | .bk τ g => ∀ ρ' σ' H', Ev ρ H ρ' H' → Stt U₀ ρ' τ g σ' H' → E.bk σ' H'
  | .ct τ g => ∀ ρ' σ' H', Ev ρ H ρ' H' → Stt U₀ ρ' τ g σ' H' → E.ct σ' H'
  | .ex e τ g => ∀ ρ' σ' H' cls d, Ev ρ H ρ' H' → Stt U₀ ρ' τ g σ' H' → XRel U₀ ρ' H' e cls d → W cls d σ' H'
  | .bad => False
theorem PostS.later {r : SR} {E : Ends} (p : PostS U₀ W ρ H r E) (e : Ev ρ H ρ' H') : PostS U₀ W ρ' H' r E := by
  cases r with
  | nx τ g => exact fun a b c e2 => p a b c (e.trans e2)
  | rt τ g => exact fun a b c e2 => p a b c (e.trans e2)
  | bk τ g => exact fun a b c e2 => p a b c (e.trans e2)
  | ct τ g => exact fun a b c e2 => p a b c (e.trans e2)
  | ex x τ g => exact fun a b c cls d e2 => p a b c cls d (e.trans e2)
  | bad => exact p
/-- an expression within a statement -/
def Res.st (r : Res α) (τ : T) (k : α → G → SR) : SR := match r with
  | .ok a g => k a g
  | .exc e g => .ex e τ g
  | .bad => .bad
@[simp] theorem Res.st_ok (a : α) (g : G) (k : α → G → SR) : (Res.ok a g).st τ k = k a g := rfl
@[simp] theorem Res.st_exc (e : Exc) (g : G) (k : α → G → SR) : (Res.exc e g : Res α).st τ k = .ex e τ g := rfl
@[simp] theorem Res.st_bad (k : α → G → SR) : (Res.bad : Res α).st τ k = .bad := rfl
theorem PostS.thn {Rl : RelT α β} {r : Res α} {k : α → G → SR} {E : Ends} {Q0 : β → Hp → Prop} (p : PostS U₀ W ρ H (r.st τ k) E) (s : Stt U₀ ρ τ g σ H)
    (h : ∀ (ρ1 : List Addr) (v : β) (H1 : Hp) (a : α) (g1 : G), Ev ρ H ρ1 H1 → Rep U₀ ρ1 H1 g1 → Rl ρ1 H1 a v → Stt U₀ ρ1 τ g1 σ H1 → PostS U₀ W ρ1 H1 (k a g1) E → Q0 v H1) : Post U₀ Rl W σ ρ H r Q0 := by
  cases r with
  | ok a g1 => exact fun ρ1 v H1 e1 r1 q => h ρ1 v H1 a g1 e1 r1 q (s.later e1 r1) (PostS.later p e1)
  | exc x g1 => exact fun ρ1 H1 cls d e1 r1 q => p ρ1 σ H1 cls d e1 (s.later e1 r1) q
  | bad => exact p
end
def tS (U₀ : U) (W : WX) (m : MS) : TS := fun E σ H => ∃ ρ τ g, Stt U₀ ρ τ g σ H ∧ PostS U₀ W ρ H (m τ g) E
def RS (X : Cx) (cn : Str → Addr) (W : WX) (st : Stmt) (m : MS) : Prop := PS X st (tS (ux X cn) W m)
def RSs (X : Cx) (cn : Str → Addr) (W : WX) (st : List Stmt) (m : MS) : Prop := PSs X st (tS (ux X cn) W m)
def mNext : MS := fun τ g => .nx τ g
def mSeq (a b : MS) : MS := fun τ g => match a τ g with
  | .nx τ' g' => b τ' g'
  | r => r
/-- what a target does with a value -/
abbrev MG := D → MS
def tG (U₀ : U) (W : WX) (m : MG) : TG := fun v σ H Q => ∃ ρ τ g d, Stt U₀ ρ τ g σ H ∧ RelD U₀.K ρ H d v ∧ PostS U₀ W ρ H (m d τ g) { nx := Q, rt := fun _ _ => False }
def RG (X : Cx) (cn : Str → Addr) (W : WX) (e : Expr) (m : MG) : Prop := PG X e (tG (ux X cn) W m)
def tGs (U₀ : U) (W : WX) (m : List D → MS) : TGs := fun v σ H Q => ∃ ρ τ g d, Stt U₀ ρ τ g σ H ∧ RelDs U₀.K ρ H d v ∧ PostS U₀ W ρ H (m d τ g) { nx := Q, rt := fun _ _ => False }
def RGs (X : Cx) (cn : Str → Addr) (W : WX) (e : List Expr) (m : List D → MS) : Prop := PGs X e (tGs (ux X cn) W m)
/-- a target gives no other end than the next statement -/
def onlyNx (r : SR) : SR := match r with
  | .nx τ g => .nx τ g
  | .ex e τ g => .ex e τ g
  | _ => .bad
def gN (i : Nat) : MG := fun d τ g => .nx (τ.set i (some d)) g
def gsNil : List D → MS := fun l τ g => match l with
  | [] => .nx τ g
  | _ => .bad
def gsCons (a : MG) (r : List D → MS) : List D → MS := fun l τ g => match l with
  | [] => .bad
  | d :: l => match a d τ g with
    | .nx τ' g' => r l τ' g'
    | _ => .bad
def gTupM (n : Nat) (m : List D → MS) : MG := fun d τ g => match d with
  | .tup l => if l.length = n then m l τ g else .bad
  | _ => .bad
def mAsg (m : ME) (t : MG) : MS := fun τ g => (m τ g).st τ fun d g1 => onlyNx (t d τ g1)
def mDrop (m : ME) : MS := fun τ g => (m τ g).st τ fun _ g1 => .nx τ g1
def mRet (m : ME) : MS := fun τ g => (m τ g).st τ fun d g1 => .rt d g1
def mIfS (c : MT) (a b : MS) : MS := fun τ g => (c τ g).st τ fun k g1 => if k = true then a τ g1 else b τ g1
section
variable {X : Cx} {cn : Str → Addr} {W : WX} {pos : Pos} {e o i c : Expr} {es : List Expr} {st : Stmt} {rest sa sb : List Stmt} {me mo mi : ME} {ma mb : MS} {mt : MT} {mg : MG} {mgs : List D → MS}
theorem rss_nil : RSs X cn W [] mNext := pssI pss_nil fun E σ H ⟨ρ, τ, g, s, p⟩ => p ρ σ H Ev.refl s
theorem seq_imp {t u : TS} (h1 : ∀ E σ H, tS (ux X cn) W ma E σ H → t E σ H) : True := trivial
theorem rss_cons (h1 : RS X cn W st ma) (h2 : RSs X cn W rest mb) : RSs X cn W (st :: rest) (mSeq ma mb) := by
  refine pssI (pss_cons h1 h2) fun E σ H ⟨ρ, τ, g, s, p⟩ => ⟨ρ, τ, g, s, ?_⟩
  unfold mSeq at p
  cases h : ma τ g with
  | nx τ' g' =>
    rw [h] at p
    exact fun ρ' σ' H' e1 s1 => ⟨ρ', τ', g', s1, PostS.later p e1⟩
  | rt d g' => rw [h] at p; exact p
  | bk τ' g' => rw [h] at p; exact p
  | ct τ' g' => rw [h] at p; exact p
  | ex x τ' g' => rw [h] at p; exact p
  | bad => rw [h] at p; exact p
theorem rss_one (h1 : RS X cn W st ma) : RSs X cn W [st] ma := pss_one h1
theorem rs_pass : RS X cn W (.Pass pos) mNext := psI ps_pass fun E σ H ⟨ρ, τ, g, s, p⟩ => p ρ σ H Ev.refl s
theorem rs_break : RS X cn W (.Break pos) (fun τ g => .bk τ g) := psI ps_break fun E σ H ⟨ρ, τ, g, s, p⟩ => p ρ σ H Ev.refl s
theorem rs_cont : RS X cn W (.Continue pos) (fun τ g => .ct τ g) := psI ps_continue fun E σ H ⟨ρ, τ, g, s, p⟩ => p ρ σ H Ev.refl s
/-- a statement that is never come to -/
theorem rs_never : RS X cn W st (fun _ _ => .bad) := psI ps_never fun E σ H ⟨ρ, τ, g, s, p⟩ => p
theorem rss_never : RSs X cn W rest (fun _ _ => .bad) := pssI pss_never fun E σ H ⟨ρ, τ, g, s, p⟩ => p
theorem rs_expr (he : RE X cn W e me) (hs : swapsWith e none pos.line X.env = pure false := by rfl) : RS X cn W (.Expr e pos) (mDrop me) :=
  psI (ps_expr he hs) fun E σ H ⟨ρ, τ, g, s, p⟩ => ⟨ρ, τ, g, s, PostS.thn (Rl := rD (ux X cn)) p s fun ρ1 v H1 d g1 e1 r1 q1 s1 p1 => p1 ρ1 σ H1 Ev.refl s1⟩
theorem rs_ret (he : RE X cn W e me) : RS X cn W (.Return (some e) pos) (mRet me) :=
  psI (ps_ret he) fun E σ H ⟨ρ, τ, g, s, p⟩ => ⟨ρ, τ, g, s, PostS.thn (Rl := rD (ux X cn)) p s fun ρ1 v H1 d g1 e1 r1 q1 s1 p1 => p1 ρ1 v H1 Ev.refl r1 q1⟩
theorem rs_retN : RS X cn W (.Return none pos) (fun τ g => .rt .non g) := psI ps_retN fun E σ H ⟨ρ, τ, g, s, p⟩ => p ρ .non H Ev.refl s.rep .non
theorem rs_if (hc : RT X cn W c mt) (ha : RSs X cn W sa ma) (hb : RSs X cn W sb mb) : RS X cn W (.If c sa sb pos) (mIfS mt ma mb) := by
  refine psI (ps_if hc ha hb) fun E σ H ⟨ρ, τ, g, s, p⟩ => ⟨ρ, τ, g, s, PostS.thn (Rl := rB) p s fun ρ1 v H1 d g1 e1 r1 q1 s1 p1 => ?_⟩
  cases (show d = v from q1)
  cases v with
  | true => exact ⟨ρ1, τ, g1, s1, p1⟩
  | false => exact ⟨ρ1, τ, g1, s1, p1⟩
/-! targets -/
theorem rg_name {i : Nat} {x : Str} (hN : X.N.Nodup) (hi : X.N[i]? = some x) (hx : Loc X.env.scope x) (hf : X.fn x = true ∨ X.env.scope.names.lookup x = some .local := by first | exact .inl rfl | exact .inr rfl | assumption) : RG X cn W (.Name x pos) (gN i) := by
  refine ⟨fun pins s σ H v u Q I r ⟨ρ, τ, g, d, st, q, p⟩ => ?_⟩
  exact (pg_name hN hi hx hf).run pins s σ H v u Q I r (p ρ _ H Ev.refl (st.set q))
theorem rgs_nil : RGs X cn W [] gsNil := by
  refine ⟨fun pins s σ H v u Q I r ⟨ρ, τ, g, d, st, q, p⟩ => ?_⟩
  unfold gsNil at p
  split at p
  · cases q
    exact pgs_nil.run pins s σ H _ u Q I r ⟨rfl, p ρ σ H Ev.refl st⟩
  · exact p.elim
theorem rgs_cons (h1 : RG X cn W e mg) (h2 : RGs X cn W es mgs) (hs : (assignEach (e :: es) X.env).map (·.2) = assign e X.env :: (assignEach es X.env).map (·.2) := by rfl) : RGs X cn W (e :: es) (gsCons mg mgs) := by
  refine ⟨fun pins s σ H v u Q I r ⟨ρ, τ, g, d, st, q, p⟩ => ?_⟩
  unfold gsCons at p
  cases q with
  | nil => exact p.elim
  | @cons d v ds vs q1 q2 =>
    refine (pgs_cons h1 h2 hs).run pins s σ H _ u Q I r ⟨v, vs, rfl, ρ, τ, g, d, st, q1, ?_⟩
    dsimp only at p
    cases h : mg d τ g with
    | nx τ' g' =>
      rw [h] at p
      exact fun ρ' σ' H' e1 s1 => ⟨ρ', τ', g', ds, s1, e1.rels st.rep q2, PostS.later p e1⟩
    | _ => rw [h] at p; exact p.elim
theorem rg_tup {k : Nat} {n : Nat} (hc : X.calm = true) (h : RGs X cn W es mgs) (hn : (assignEach es X.env).length = n := by rfl) (hst : (assignEach es X.env).findIdx? (·.1) = none := by rfl) : RG X cn W (.Tuple es k pos) (gTupM n mgs) := by
  refine ⟨fun pins s σ H v u Q I r ⟨ρ, τ, g, d, st, q, p⟩ => ?_⟩
  unfold gTupM at p
  split at p
  · split at p
    · rename_i l hl
      cases q with
      | @tup _ a xs h1 h2 =>
        exact (pg_tup hc h hn hst).run pins s σ H _ u Q I r ⟨a, xs, rfl, h1, by rw [← h2.length]; exact hl, ρ, τ, g, l, st, h2, p⟩
    · exact p.elim
  · exact p.elim
theorem asg_imp : ∀ E σ H, tS (ux X cn) W (mAsg me mg) E σ H → tAsg (tE (ux X cn) W me) (tG (ux X cn) W mg) E σ H := by
  rintro E σ H ⟨ρ, τ, g, s, p⟩
  refine ⟨ρ, τ, g, s, PostS.thn (Rl := rD (ux X cn)) p s fun ρ1 v H1 d g1 e1 r1 q1 s1 p1 => ⟨ρ1, τ, g1, d, s1, q1, ?_⟩⟩
  cases h : mg d τ g1 with
  | nx τ' g' => rw [h] at p1; exact p1
  | ex x τ' g' => rw [h] at p1; exact p1
  | _ => rw [h] at p1; exact p1.elim
theorem rs_asg {tg : Expr} (he : RE X cn W e me) (hg : RG X cn W tg mg) (hs : swapsWithSole [tg] e pos.line X.env = pure false := by rfl) (hw : swappedStores [tg] e X.env = pure none := by rfl)
    (h1 : (assignEach [tg] X.env).map (·.2) = [assign tg X.env] := by rfl) : RS X cn W (.Assign [tg] e pos) (mAsg me mg) := psI (ps_asg he hg hs hw h1) asg_imp
theorem rs_set {i : Nat} {x : Str} {pos' : Pos} (hN : X.N.Nodup) (hi : X.N[i]? = some x) (hx : Loc X.env.scope x) (he : RE X cn W e me) (hs : swapsWith e (some (.Name x pos')) pos.line X.env = pure false := by rfl) (hf : X.fn x = true ∨ X.env.scope.names.lookup x = some .local := by first | exact .inl rfl | exact .inr rfl | assumption) :
    RS X cn W (.Assign [.Name x pos'] e pos) (mAsg me (gN i)) := by
  refine psI (ps_set hN hi hx he hs hf) fun E σ H ⟨ρ, τ, g, s, p⟩ => ⟨ρ, τ, g, s, PostS.thn (Rl := rD (ux X cn)) p s fun ρ1 v H1 d g1 e1 r1 q1 s1 p1 => ?_⟩
  exact p1 ρ1 _ H1 Ev.refl (s1.set q1)
/-! o[i] = v of lists and dicts -/
def fSet (x k v : D) : G → Option G := fun g => match x with
  | .ref n => match g[n]? with
    | some (.lst l) => match k with
      | .int i => (ixN l.length i).map fun j => g.set n (.lst (l.set j v))
      | _ => none
    | some (.dct false kvs) => if kOk kvs k ∧ kvs.length ≤ 100000 then some (g.set n (.dct false (dput kvs k v))) else none
    | _ => none
  | _ => none
def gSubM (o i : ME) : MG := fun v τ g => (o τ g).st τ fun x g1 => (i τ g1).st τ fun k g2 => match fSet x k v g2 with
  | some g3 => .nx τ g3
  | none => .bad
def rSetA (U₀ : U) : TSet := fun o i v H Q => ∃ ρ g x k d, Rep U₀ ρ H g ∧ RelD U₀.K ρ H x o ∧ RelD U₀.K ρ H k i ∧ RelD U₀.K ρ H d v ∧ ∃ g', fSet x k d g = some g' ∧ ∀ H', Ev ρ H ρ H' → Rep U₀ ρ H' g' → Q H'
theorem set_all (hu : X.A.units + 1 < cLine) : PSet X (rSetA (ux X cn)) := by
  intro pins s σ H o i v ov iv u Q I ro ri rv ⟨ρ, g, x, k, d, R, qx, qk, qd, g', e, q⟩
  unfold fSet at e
  split at e
  · rename_i n
    split at e
    · rename_i l hn
      split at e
      · rename_i j
        obtain ⟨m, hm, rfl⟩ := Option.map_eq_some_iff.mp e
        cases qx with
        | ref ha =>
          cases qk
          obtain ⟨xs, h1, h2⟩ := R.lst hn ha
          refine set_list pins s σ H _ _ v ov iv u Q I ro ri rv ⟨_, xs, j, m, rfl, rfl, h1, by rw [← h2.length]; exact hm, ?_⟩
          obtain ⟨ev, rp⟩ := Ev.wr (ob := .lst (l.set m d)) (o := .lst (xs.set m v)) R ha (List.getElem?_eq_some_iff.mp hn).1 (fun _ _ z => by rw [h1] at z; cases z) fun e h => ⟨_, h, (e.rels R h2).set (e.rel R qd) m⟩
          exact q _ ev rp
      · cases e
    · rename_i kvs hn
      split at e
      · rename_i c
        cases e
        cases qx with
        | ref ha =>
          rename_i a
          cases (show ov = Value.ref a from ro)
          have w := view I R hn ha qk c.1
          have mu : Mut (H a) := by
            obtain ⟨w', h1, h2⟩ := R.obs n _ a hn ha
            rw [h1]
            rcases h2 with ⟨ks, rfl, _⟩ | ⟨ks, rfl, _⟩ <;> exact True.intro
          refine v_setItem hu I mu w ri (small_line c.2) qd rv fun o s' hd I' => ⟨_, I', ?_⟩
          obtain ⟨ev, rp⟩ := Ev.wr (ob := .dct false (dput kvs k d)) (o := o) R ha (List.getElem?_eq_some_iff.mp hn).1 (fun _ _ z => by rw [z] at mu; exact mu) fun e h => ⟨o, h, hd fun z => e.rel R z⟩
          exact q _ ev rp
      · cases e
    · cases e
  · cases e
theorem rg_sub (hu : X.A.units + 1 < cLine) (ho : RE X cn W o mo) (hi : RE X cn W i mi) (ha : ∀ v, assign (.Subscript o i pos) X.env v = (do
      let ov ← holding [v] (eval o X.env)
      let iv ← holding [v, ov] (eval i X.env)
      standAt pos
      holding [v, ov, iv] (setItem ov iv v)
      release [v, ov, iv] []) := by intro _; rfl) : RG X cn W (.Subscript o i pos) (gSubM mo mi) := by
  refine ⟨fun pins s σ H v u Q I r ⟨ρ, τ, g, d, st, q, p⟩ => ?_⟩
  refine (pg_sub ho hi (set_all (cn := cn) hu) ha).run pins s σ H v u Q I r ⟨ρ, τ, g, st, PostS.thn (Rl := rD (ux X cn)) p st fun ρ1 ov H1 x g1 e1 r1 q1 s1 p1 => ?_⟩
  refine ⟨ρ1, τ, g1, s1, PostS.thn (Rl := rD (ux X cn)) p1 s1 fun ρ2 iv H2 k g2 e2 r2 q2 s2 p2 => ?_⟩
  cases h : fSet x k d g2 with
  | none => rw [h] at p2; exact p2.elim
  | some g3 =>
    rw [h] at p2
    exact ⟨ρ2, g2, x, k, d, r2, e2.rel r1 q1, q2, e2.rel r1 (e1.rel st.rep q), g3, h, fun H' ev rp => p2 ρ2 σ H' ev (s2.later ev rp)⟩
/-! o.f = v -/
def setF (f : Str) (d : D) : List (Str × D) → List (Str × D)
  | [] => [(f, d)]
  | (g, e) :: r => if g = f then (f, d) :: r else (g, e) :: setF f d r
theorem RelFs.put {K : PySem.W.Frag} {ρ : List Addr} {H : Hp} {d : D} {v : V} {f : Str} (k : fieldOk f = true) (q : RelD K ρ H d v) : ∀ {fs : List (Str × D)} {vs : List (Str × V)}, RelFs K ρ H fs vs → RelFs K ρ H (setF f d fs) (putF f v vs)
  | _, _, .nil => .cons k q .nil
  | _, _, .cons (f := g) k' h t => by
    unfold setF putF
    by_cases e : g = f
    · subst e
      simp only [if_true]
      exact .cons k q t
    · simp only [if_neg e]
      exact .cons k' h (RelFs.put k q t)
def fPut (cs : List Str) (f : Str) (x v : D) : G → Option G := fun g => match x with
  | .ref n => match g[n]? with
    | some (.ins c' fs) => if c' ∈ cs ∧ fs.length ≤ 300 then some (g.set n (.ins c' (setF f v fs))) else none
    | _ => none
  | _ => none
def mFldS (cs : List Str) (f : Str) (o v : ME) : MS := fun τ g => (v τ g).st τ fun d g1 => (o τ g1).st τ fun x g2 => match fPut cs f x d g2 with
  | some g3 => .nx τ g3
  | none => .bad
theorem rs_fld {cs : List Str} {f : Str} {pos' : Pos} {mv : ME} (hc : FldOk X.K cn cs f) (ho : RE X cn W o mo) (hv : RE X cn W e mv) (hs : swapsWith e (some (.Attribute o f pos')) pos.line X.env = pure false := by rfl) :
    RS X cn W (.Assign [.Attribute o f pos'] e pos) (mFldS cs f mo mv) := by
  refine psI (ps_fld ho hv hs) fun E σ H ⟨ρ, τ, g, s, p⟩ => ⟨ρ, τ, g, s, PostS.thn (Rl := rD (ux X cn)) p s fun ρ1 v H1 d g1 e1 r1 q1 s1 p1 => ?_⟩
  refine ⟨ρ1, τ, g1, s1, PostS.thn (Rl := rD (ux X cn)) p1 s1 fun ρ2 w H2 x g2 e2 r2 q2 s2 p2 => ?_⟩
  cases h : fPut cs f x d g2 with
  | none => rw [h] at p2; exact p2.elim
  | some g3 =>
    rw [h] at p2
    unfold fPut at h
    split at h
    · rename_i n
      split at h
      · rename_i c' fs hg
        split at h
        · rename_i cc
          obtain ⟨hm, hl⟩ := cc
          obtain ⟨k1, k2⟩ := hc.2 _ hm
          cases h
          cases q2 with
          | ref ha =>
            obtain ⟨dx, fs', h1, h3⟩ := r2.obs n _ _ hg ha
            refine ⟨_, _, dx, fs', rfl, h1, k1, k2, by rw [← h3.length]; omega, ?_⟩
            obtain ⟨ev, rp⟩ := Ev.wr (ob := .ins c' (setF f d fs)) (o := .ins (cn c') dx (putF f v fs')) r2 ha (List.getElem?_eq_some_iff.mp hg).1 (fun _ _ z => by rw [h1] at z; cases z) fun e h => ⟨dx, _, h, (h3.put hc.1 (e2.rel r1 q1)).mono fun z => e.rel r2 z⟩
            exact p2 ρ2 σ _ ev (s2.later ev rp)
        · cases h
      · cases h
    · cases h
end
end RL
namespace RL
open PySem L2
/-! ### what a loop goes over: its items, and what must stand still meanwhile -/
abbrev Src := List D × Option (Nat × Ob)
def still (c : Option (Nat × Ob)) (g : G) : Prop := match c with
  | none => True
  | some p => g[p.1]? = some p.2
instance (c : Option (Nat × Ob)) (g : G) : Decidable (still c g) := by
  unfold still
  cases c <;> infer_instance
structure Drw (U₀ : U) (ρ₀ : List Addr) (H₀ : Hp) (s : Src) (J : It) : Prop where
  go : ∀ (ρ : List Addr) (H : Hp) (g : G) (i : Nat) (d : D), Ev ρ₀ H₀ ρ H → Rep U₀ ρ H g → still s.2 g → s.1[i]? = some d → J.go i H ∧ ∀ x H', J.yld i H x H' → Ev ρ H ρ H' ∧ Rep U₀ ρ H' g ∧ RelD U₀.K ρ H' d x ∧ ∀ a o, H a = some o → H' a = some o
  stop : ∀ (ρ : List Addr) (H : Hp) (g : G), Ev ρ₀ H₀ ρ H → Rep U₀ ρ H g → still s.2 g → J.stop s.1.length H
def rI (U₀ : U) : RelT Src It := Drw U₀
abbrev MI := T → M Src
def tI (U₀ : U) (W : WX) (m : MI) : TI := fun σ H R => ∃ ρ τ g, Stt U₀ ρ τ g σ H ∧ Post U₀ (rI U₀) W σ ρ H (m τ g) R
def RI (X : Cx) (cn : Str → Addr) (W : WX) (tg iter : Expr) (m : MI) : Prop := PI X tg iter (tI (ux X cn) W m)
theorem piI {X : Cx} {tg e : Expr} {t t' : TI} (h : PI X tg e t) (i : ∀ σ H R, t' σ H R → t σ H R) : PI X tg e t' := ⟨fun pins s σ H R I q => h.run pins s σ H R I (i σ H R q)⟩
/-! the loop -/
def forGo (c : Option (Nat × Ob)) (mg : MG) (mb : MS) : List D → MS
  | [], τ, g => if still c g then .nx τ g else .bad
  | d :: l, τ, g => if still c g then (match mg d τ g with
    | .nx τ1 g1 => (match mb τ1 g1 with
      | .nx τ2 g2 => forGo c mg mb l τ2 g2
      | .ct τ2 g2 => forGo c mg mb l τ2 g2
      | .bk τ2 g2 => .nx τ2 g2
      | r => r)
    | .ex e τ1 g1 => .ex e τ1 g1
    | _ => .bad) else .bad
def mFor (mi : MI) (mg : MG) (mb : MS) : MS := fun τ g => (mi τ g).st τ fun s g1 => forGo s.2 mg mb s.1 τ g1
section
variable {X : Cx} {cn : Str → Addr} {W : WX} {pos : Pos} {tg iter : Expr} {body : List Stmt} {mi : MI} {mg : MG} {mb : MS}
theorem rs_for (hp : PassesOwn (model X.prog X.w) X.A X.env X.xe) (hc : X.calm = true) (hi : RI X cn W tg iter mi) (hg : RG X cn W tg mg) (hb : RSs X cn W body mb) (hs : ∀ x, foldedSetIterable iter X.env x = pure x := by intro _; rfl) :
    RS X cn W (.For tg iter body [] pos) (mFor mi mg mb) := by
  refine psI (ps_for hp hc hi hg hb hs) fun E σ H ⟨ρ, τ, g, s, p⟩ => ⟨ρ, τ, g, s, PostS.thn (Rl := rI (ux X cn)) p s fun ρ1 J H1 src g1 e1 r1 dr s1 p1 => ?_⟩
  obtain ⟨l, c⟩ := src
  dsimp only at p1
  refine ⟨fun i m σ' H' => ∃ ρ' τ' g', m = l.length - i ∧ i ≤ l.length ∧ Ev ρ1 H1 ρ' H' ∧ Stt (ux X cn) ρ' τ' g' σ' H' ∧ PostS (ux X cn) W ρ' H' (forGo c mg mb (l.drop i) τ' g') E, ⟨l.length, ρ1, τ, g1, rfl, Nat.zero_le _, Ev.refl, s1, p1⟩, ?_⟩
  rintro i m σ' H' ⟨ρ', τ', g', rfl, hi, ev, st, ps⟩
  by_cases hlt : i < l.length
  · have hd : l.drop i = l[i] :: l.drop (i + 1) := List.drop_eq_getElem_cons hlt
    rw [hd] at ps
    unfold forGo at ps
    by_cases hst : still c g'
    · rw [if_pos hst] at ps
      obtain ⟨hgo, hy⟩ := dr.go ρ' H' g' i l[i] ev st.rep hst (List.getElem?_eq_getElem hlt)
      refine .inr ⟨hgo, fun σ2 H2 => ∃ ρ2 τ2 g2, Ev ρ1 H1 ρ2 H2 ∧ Stt (ux X cn) ρ2 τ2 g2 σ2 H2 ∧ PostS (ux X cn) W ρ2 H2 (forGo c mg mb (l.drop (i + 1)) τ2 g2) E, ?_, fun x H2 yl => ?_⟩
      · rintro σ2 H2 ⟨ρ2, τ2, g2, h1, h2, h3⟩
        exact ⟨l.length - (i + 1), by omega, ρ2, τ2, g2, rfl, hlt, h1, h2, h3⟩
      · obtain ⟨ev2, rp2, rd, _⟩ := hy x H2 yl
        have st2 := st.later ev2 rp2
        refine ⟨ρ', τ', g', l[i], st2, rd, ?_⟩
        cases hg' : mg l[i] τ' g' with
        | nx τ1 g2 =>
          rw [hg'] at ps
          dsimp only at ps
          intro ρ3 σ3 H3 ev3 st3
          refine ⟨ρ3, τ1, g2, st3, ?_⟩
          have ps3 := PostS.later (PostS.later ps ev2) ev3
          have evt := (ev.trans ev2).trans ev3
          cases hb' : mb τ1 g2 with
          | nx τ2 g3 =>
            rw [hb'] at ps3
            exact fun ρ4 σ4 H4 ev4 st4 => ⟨ρ4, τ2, g3, evt.trans ev4, st4, PostS.later ps3 ev4⟩
          | ct τ2 g3 =>
            rw [hb'] at ps3
            exact fun ρ4 σ4 H4 ev4 st4 => ⟨ρ4, τ2, g3, evt.trans ev4, st4, PostS.later ps3 ev4⟩
          | bk τ2 g3 => rw [hb'] at ps3; exact ps3
          | rt d g3 => rw [hb'] at ps3; exact ps3
          | ex x τ2 g3 => rw [hb'] at ps3; exact ps3
          | bad => rw [hb'] at ps3; exact ps3
        | ex x τ1 g2 =>
          rw [hg'] at ps
          exact PostS.later ps ev2
        | _ => rw [hg'] at ps; exact ps.elim
    · rw [if_neg hst] at ps
      exact ps.elim
  · have e : i = l.length := by omega
    subst e
    rw [List.drop_length] at ps
    unfold forGo at ps
    by_cases hst : still c g'
    · rw [if_pos hst] at ps
      exact .inl ⟨dr.stop ρ' H' g' ev st.rep hst, ps ρ' σ' H' Ev.refl st⟩
    · rw [if_neg hst] at ps
      exact ps.elim
/-! while -/
def whileGo (c : MT) (b : MS) : Nat → MS
  | 0, _, _ => .bad
  | n + 1, τ, g => (c τ g).st τ fun k g1 => if k = true then (match b τ g1 with
    | .nx τ2 g2 => whileGo c b n τ2 g2
    | .ct τ2 g2 => whileGo c b n τ2 g2
    | .bk τ2 g2 => .nx τ2 g2
    | r => r) else .nx τ g1
theorem rs_while {c : Expr} {mc : MT} (n : Nat) (hp : PassesOwn (model X.prog X.w) X.A X.env X.xe) (hc : RT X cn W c mc) (hb : RSs X cn W body mb) : RS X cn W (.While c body [] pos) (whileGo mc mb n) := by
  refine psI (ps_while hp hc hb) fun E σ H ⟨ρ, τ, g, s, p⟩ => ?_
  refine ⟨fun m σ' H' => ∃ ρ' τ' g', Stt (ux X cn) ρ' τ' g' σ' H' ∧ PostS (ux X cn) W ρ' H' (whileGo mc mb m τ' g') E, ⟨n, ρ, τ, g, s, p⟩, ?_⟩
  rintro m σ' H' ⟨ρ', τ', g', st, ps⟩
  cases m with
  | zero => exact ps.elim
  | succ m =>
    unfold whileGo at ps
    refine ⟨ρ', τ', g', st, PostS.thn (Rl := rB) ps st fun ρ1 v H1 k g1 e1 r1 q1 s1 p1 => ?_⟩
    cases (show k = v from q1)
    cases v with
    | false => exact p1 ρ1 σ' H1 Ev.refl s1
    | true =>
      refine ⟨fun σ2 H2 => ∃ ρ2 τ2 g2, Stt (ux X cn) ρ2 τ2 g2 σ2 H2 ∧ PostS (ux X cn) W ρ2 H2 (whileGo mc mb m τ2 g2) E, fun σ2 H2 h => ⟨m, Nat.lt_succ_self m, h⟩, ρ1, τ', g1, s1, ?_⟩
      cases hb' : mb τ' g1 with
      | nx τ2 g3 =>
        rw [hb'] at p1
        exact fun ρ4 σ4 H4 ev4 st4 => ⟨ρ4, τ2, g3, st4, PostS.later p1 ev4⟩
      | ct τ2 g3 =>
        rw [hb'] at p1
        exact fun ρ4 σ4 H4 ev4 st4 => ⟨ρ4, τ2, g3, st4, PostS.later p1 ev4⟩
      | bk τ2 g3 => rw [hb'] at p1; exact p1
      | rt d g3 => rw [hb'] at p1; exact p1
      | ex x τ2 g3 => rw [hb'] at p1; exact p1
      | bad => rw [hb'] at p1; exact p1
/-! the sources -/
/-- a list or a tuple -/
def srcSeq : D → M Src := fun x g => match x with
  | .tup l => .ok (l, none) g
  | .ref n => match g[n]? with
    | some (.lst l) => .ok (l, some (n, .lst l)) g
    | some (.rol l) => .ok (l, some (n, .rol l)) g
    | _ => .bad
  | _ => .bad
theorem Ev.seqT {u : U} {ρ ρ' : List Addr} {H H' : Hp} {g : G} (e : Ev ρ H ρ' H') (r : Rep u ρ H g) {a : Addr} {xs : List V} (h : SqT u.K H a xs) : SqT u.K H' a xs := e.tup r h
theorem drw_tup {u : U} {ρ : List Addr} {H : Hp} {g : G} {l : List D} {a : Addr} {xs : List V} (R : Rep u ρ H g) (h : SqT u.K H a xs) (rs : RelDs u.K ρ H l xs) : Drw u ρ H (l, none) (Itt u.K a) := by
  refine ⟨fun ρ' H' g' i d ev r _ hd => ?_, fun ρ' H' g' ev r _ => ?_⟩
  · obtain ⟨v, h1, h2⟩ := (ev.rels R rs).get hd
    refine ⟨⟨xs, v, ev.tup R h, h1⟩, fun x H2 ⟨e, q⟩ => ?_⟩
    subst e
    have := q xs (ev.tup R h)
    rw [h1] at this
    cases this
    exact ⟨Ev.refl, r, h2, fun _ _ z => z⟩
  · exact ⟨xs, ev.tup R h, by rw [← rs.length]; exact Nat.le_refl _⟩
theorem drw_lst {u : U} {ρ : List Addr} {H : Hp} {g : G} {l : List D} {n : Nat} {a : Addr} {ob : Ob} (ho : ob = .lst l ∨ ob = .rol l) (R : Rep u ρ H g) (ha : ρ[n]? = some a) : Drw u ρ H (l, some (n, ob)) (Itl u.K a) := by
  have at_ : ∀ (ρ' : List Addr) (H' : Hp) (g' : G), Ev ρ H ρ' H' → Rep u ρ' H' g' → still (some (n, ob)) g' → ∃ xs, SqL u.K H' a xs ∧ RelDs u.K ρ' H' l xs := fun ρ' H' g' ev r st => by
    have st' : g'[n]? = some ob := st
    rcases ho with rfl | rfl
    · obtain ⟨xs, h1, h2⟩ := r.lst st' (ev.ix n a ha)
      exact ⟨xs, .of h1, h2⟩
    · obtain ⟨xs, o, h1, h2⟩ := r.rol st' (ev.ix n a ha)
      exact ⟨xs, .inl (.inr ⟨o, h1⟩), h2⟩
  refine ⟨fun ρ' H' g' i d ev r st hd => ?_, fun ρ' H' g' ev r st => ?_⟩
  · obtain ⟨xs, h0, rs⟩ := at_ ρ' H' g' ev r st
    obtain ⟨v, h1, h2⟩ := rs.get hd
    refine ⟨⟨xs, v, h0, h1⟩, fun x H2 ⟨e, q⟩ => ?_⟩
    subst e
    have := q xs h0
    rw [h1] at this
    cases this
    exact ⟨Ev.refl, r, h2, fun _ _ z => z⟩
  · obtain ⟨xs, h0, rs⟩ := at_ ρ' H' g' ev r st
    exact ⟨xs, h0, by rw [← rs.length]; exact Nat.le_refl _⟩
/-- both in one -/
def iSeq (K : PySem.W.Frag) (tl : TE) : TI := fun σ H R => tl σ H fun x H1 => ∃ a, x = .ref a ∧ (((∃ xs, SqL K H1 a xs) ∧ R (Itl K a) H1) ∨ ((∃ xs, SqT K H1 a xs) ∧ R (Itt K a) H1))
theorem pi_seq {l : Expr} {tl : TE} (hl : PE X l tl) : PI X tg l (iSeq X.K tl) := by
  refine ⟨fun pins s σ H R I h => ?_⟩
  refine thn (hl.run pins s σ H _ I h) fun v s1 ⟨x, H1, I1, r1, q1⟩ => ?_
  obtain ⟨a, e, q⟩ := q1
  subst e
  cases r1
  rcases q with ⟨⟨xs, hq⟩, q⟩ | ⟨⟨xs, hq⟩, q⟩
  · obtain ⟨its, rv, p, hz⟩ := I1.list hq
    exact wpAny_pyIter_list p.isList (pi_one (tk := s1.toks) I1 _ (turn_list a _) ⟨_, Heap.get?_push_size _ rfl, rfl, rfl⟩ q)
  · obtain ⟨its, rv, p, hz⟩ := I1.tuple hq
    exact wpAny_pyIter_tuple (show s1.heap.IsTuple a its.toArray from p) (pi_one (tk := s1.toks) I1 _ (turn_tuple a _) ⟨_, Heap.get?_push_size _ rfl, rfl, rfl⟩ q)
def mSeqI (m : ME) : MI := fun τ g => (m τ g).bind srcSeq
theorem ri_seq {m : ME} (h : RE X cn W iter m) : RI X cn W tg iter (mSeqI m) := by
  refine piI (pi_seq h) fun σ H R ⟨ρ, τ, g, s, p⟩ => ⟨ρ, τ, g, s, p.thn fun ρ1 v H1 d g1 e1 r1 q1 p1 => ?_⟩
  unfold srcSeq at p1
  cases q1 <;> first | exact p1.elim | skip
  · rename_i l a xs h1 h2
    exact ⟨a, rfl, .inr ⟨⟨xs, h1⟩, Post.at (Rl := rI (ux X cn)) p1 r1 (drw_tup r1 h1 h2)⟩⟩
  · rename_i n a ha
    dsimp only at p1
    split at p1
    · rename_i l hg
      obtain ⟨xs, h1, h2⟩ := r1.lst hg ha
      exact ⟨a, rfl, .inl ⟨⟨xs, .of h1⟩, Post.at (Rl := rI (ux X cn)) p1 r1 (drw_lst (.inl rfl) r1 ha)⟩⟩
    · rename_i l hg
      obtain ⟨xs, o, h1, h2⟩ := r1.rol hg ha
      exact ⟨a, rfl, .inl ⟨⟨xs, .inl (.inr ⟨o, h1⟩)⟩, Post.at (Rl := rI (ux X cn)) p1 r1 (drw_lst (.inr rfl) r1 ha)⟩⟩
    · exact p1.elim
/-- range -/
def rng (lo : Int) (n : Nat) : List D := (List.range n).map fun i => .int (lo + (i : Nat))
theorem rng_get {lo : Int} {n i : Nat} {d : D} (h : (rng lo n)[i]? = some d) : i < n ∧ d = .int (lo + (i : Nat)) := by
  unfold rng at h
  rw [List.getElem?_map] at h
  obtain ⟨j, h1, rfl⟩ := Option.map_eq_some_iff.mp h
  have hi := (List.getElem?_eq_some_iff.mp h1)
  obtain ⟨h2, h3⟩ := hi
  rw [List.getElem_range] at h3
  subst h3
  exact ⟨by simpa using h2, rfl⟩
theorem drw_rng {u : U} {ρ : List Addr} {H : Hp} (lo : Int) (n : Nat) : Drw u ρ H (rng lo n, none) (Itr lo n) := by
  refine ⟨fun ρ' H' g' i d ev r _ hd => ?_, fun ρ' H' g' ev r _ => ?_⟩
  · obtain ⟨h1, rfl⟩ := rng_get hd
    refine ⟨h1, fun x H2 ⟨e, q⟩ => ?_⟩
    subst e q
    exact ⟨Ev.refl, r, .int _, fun _ _ z => z⟩
  · show n ≤ (rng lo n).length
    unfold rng
    rw [List.length_map, List.length_range]
    exact Nat.le_refl _
def srcR1 : List D → M Src := fun l g => match l with
  | [.int j] => ck (-(2 ^ 62) ≤ j ∧ j < 2 ^ 62) (.ok (rng 0 j.toNat, none) g)
  | _ => .bad
def srcR2 : List D → M Src := fun l g => match l with
  | [.int i, .int j] => ck (-(2 ^ 62) ≤ i ∧ i < 2 ^ 62 ∧ -(2 ^ 62) ≤ j ∧ j < 2 ^ 62) (.ok (rng i (j - i).toNat, none) g)
  | _ => .bad
theorem ri_range1 {a : Expr} {ma : ME} {p : Pos} (hg : Gl X "range") (hm : X.mg "range" = none) (ha : RE X cn W a ma) (hs : starEach [a] X.env = [(false, eval a X.env)] := by rfl) : RI X cn W tg (.Call (.Name "range" p) [a] [] pos) (fun τ g => (mCons ma mNil τ g).bind srcR1) := by
  refine piI (pi_range1 hg hm (ra_cons ha ra_nil hs) hs) fun σ H R ⟨ρ, τ, g, s, p⟩ => ⟨ρ, τ, g, s, p.thn fun ρ1 v H1 d g1 e1 r1 q1 p1 => ?_⟩
  unfold srcR1 at p1
  split at p1
  · obtain ⟨c, p1⟩ := Post.ck p1
    cases q1 with
    | cons a b =>
      cases b
      cases a
      exact ⟨_, rfl, c.1, c.2, Post.at (Rl := rI (ux X cn)) p1 r1 (drw_rng 0 _)⟩
  · exact p1.elim
theorem ri_range2 {a b : Expr} {ma mb : ME} {p : Pos} (hg : Gl X "range") (hm : X.mg "range" = none) (ha : RE X cn W a ma) (hb : RE X cn W b mb) (hs : starEach [a, b] X.env = [(false, eval a X.env), (false, eval b X.env)] := by rfl) (hs2 : starEach [b] X.env = [(false, eval b X.env)] := by rfl) :
    RI X cn W tg (.Call (.Name "range" p) [a, b] [] pos) (fun τ g => (mCons ma (mCons mb mNil) τ g).bind srcR2) := by
  refine piI (pi_range2 hg hm (ra_cons ha (ra_cons hb ra_nil hs2) (by rw [hs, hs2])) hs hs2) fun σ H R ⟨ρ, τ, g, s, p⟩ => ⟨ρ, τ, g, s, p.thn fun ρ1 v H1 d g1 e1 r1 q1 p1 => ?_⟩
  unfold srcR2 at p1
  split at p1
  · obtain ⟨c, p1⟩ := Post.ck p1
    cases q1 with
    | cons a b =>
      cases b with
      | cons b b' =>
        cases b'
        cases a
        cases b
        exact ⟨_, _, rfl, c, Post.at (Rl := rI (ux X cn)) p1 r1 (drw_rng _ _)⟩
  · exact p1.elim
end
end RL
namespace RL
open PySem L2
/-! ### list comprehensions -/
/-- the target of a comprehension: a name, or names -/
inductive Tg where
  | one (i : Nat) | many (is : List Nat)
def tgsV : List Nat → TGs
  | [] => gNil
  | i :: is => gCons (gName i) (tgsV is)
def tgV (K : PySem.W.Frag) : Tg → TG
  | .one i => gName i
  | .many is => gTup K is.length (tgsV is)
def setAll {α : Type} : List Nat → List α → List (Option α) → List (Option α)
  | i :: is, d :: ds, τ => setAll is ds (τ.set i (some d))
  | _, _, τ => τ
def tgM : Tg → D → T → Option T
  | .one i, d, τ => some (τ.set i (some d))
  | .many is, .tup l, τ => if l.length = is.length then some (setAll is l τ) else none
  | .many _, _, _ => none
def Tg.slots : Tg → List Nat
  | .one i => [i]
  | .many is => is
def wipeT (τ : T) : List Nat → T
  | [] => τ
  | v :: vs => (wipeT τ vs).set v none
theorem wipe_set (σ : St) (i : Nat) (x : Option V) : ∀ vs : List Nat, i ∈ vs → wipe (σ.set i x) vs = wipe σ vs := by
  have aux : ∀ vs : List Nat, wipe (σ.set i x) vs = wipe σ vs ∨ wipe (σ.set i x) vs = (wipe σ vs).set i x := by
    intro vs
    induction vs with
    | nil => exact .inr rfl
    | cons v vs ih =>
      unfold wipe
      rcases ih with ih | ih
      · exact .inl (by rw [ih])
      · rw [ih]
        by_cases e : i = v
        · subst e
          exact .inl (by rw [List.set_set])
        · exact .inr (by rw [List.set_comm _ _ e])
  intro vs
  induction vs with
  | nil => intro h; simp at h
  | cons v vs ih =>
    intro h
    unfold wipe
    rcases List.mem_cons.mp h with rfl | h
    · rcases aux vs with z | z
      · rw [z]
      · rw [z, List.set_set]
    · rw [ih h]
theorem wipe_all (is : List Nat) : ∀ (ds : List V) (σ : St) (vs : List Nat), (∀ i ∈ is, i ∈ vs) → wipe (setAll is ds σ) vs = wipe σ vs := by
  induction is with
  | nil => intro ds σ vs _; rfl
  | cons i is ih =>
    intro ds σ vs h
    cases ds with
    | nil => rfl
    | cons d ds =>
      unfold setAll
      rw [ih ds _ vs fun j hj => h j (List.mem_cons_of_mem _ hj), wipe_set _ _ _ _ (h i List.mem_cons_self)]
theorem tgsV_all : ∀ (is : List Nat) (vs : List V) (σ : St) (H : Hp) (Q : St → Hp → Prop), vs.length = is.length → Q (setAll is vs σ) H → tgsV is vs σ H Q
  | [], [], σ, H, Q, _, q => ⟨rfl, q⟩
  | [], v :: vs, σ, H, Q, h, q => by simp at h
  | i :: is, [], σ, H, Q, h, q => by simp at h
  | i :: is, v :: vs, σ, H, Q, h, q => ⟨v, vs, rfl, tgsV_all is vs _ H Q (by simpa using h) q⟩
section
variable {U₀ : U} {ρ : List Addr} {τ : T} {g : G} {σ : St} {H : Hp}
theorem Stt.wipe (s : Stt U₀ ρ τ g σ H) : ∀ vs : List Nat, Stt U₀ ρ (wipeT τ vs) g (L2.wipe σ vs) H
  | [] => s
  | v :: vs => (s.wipe vs).none
theorem Stt.all {is : List Nat} : ∀ {ds : List D} {vs : List V} {τ : T} {σ : St}, Stt U₀ ρ τ g σ H → RelDs U₀.K ρ H ds vs → Stt U₀ ρ (setAll is ds τ) g (setAll is vs σ) H := by
  induction is with
  | nil => intro ds vs τ σ s _; exact s
  | cons i is ih =>
    intro ds vs τ σ s q
    cases q with
    | nil => exact s
    | cons h t => exact ih (s.set h) t
/-- the target takes its value -/
theorem tg_go {t : Tg} {own : List Nat} (ho : ∀ i ∈ t.slots, i ∈ own) {d : D} {v : V} {τ' : T} (s : Stt U₀ ρ τ g σ H) (q : RelD U₀.K ρ H d v) (h : tgM t d τ = some τ') {Q : St → Hp → Prop} (hq : ∀ σ', Stt U₀ ρ τ' g σ' H → L2.wipe σ' own = L2.wipe σ own → Q σ' H) : tgV U₀.K t v σ H Q := by
  cases t with
  | one i =>
    cases h
    exact hq _ (s.set q) (wipe_set _ _ _ _ (ho i (by simp [Tg.slots])))
  | many is =>
    unfold tgM at h
    split at h
    · rename_i e; cases e
    · rename_i is' l τ' e
      cases e
      split at h
      · rename_i hl
        cases h
        cases q with
        | @tup _ a xs h1 h2 =>
          have hx : xs.length = is.length := by rw [← h2.length]; exact hl
          exact ⟨a, xs, rfl, h1, hx, tgsV_all is xs σ H Q hx (hq _ (s.all h2) (wipe_all is xs σ own ho))⟩
      · cases h
    · cases h
/-- beside a thing that is not counted, which changes -/
theorem Ev.side {ρ ρ' : List Addr} {H H' : Hp} (e : Ev ρ H ρ' H') {a : Addr} (h : H a = none) (o : HO) : Ev ρ H ρ' (upd H' a o) := by
  refine ⟨e.pre, fun b z => ?_, fun b u z n => ?_, fun b u x z => ?_⟩
  · by_cases q : b = a
    · subst q; exact h
    · rw [upd_ne q] at z
      exact e.liv b z
  · rw [upd_ne (ne_of_none z h)]
    exact e.frm b u z n
  · rw [upd_ne (ne_of_none z h)]
    exact e.frz b u x z
theorem side_rel {K : PySem.W.Frag} {a : Addr} {xs : List V} {o : HO} (h : H a = some (.lst xs)) {d : D} {v : V} (r : RelD K ρ H d v) : RelD K ρ (upd H a o) d v :=
  r.mono (fun _ _ z => z) (fun b ys z => by
    rcases z with (z | ⟨ob, z⟩) | z
    · exact .inl (.inl (by rw [upd_ne (ne_of z h (by intro q; cases q))]; exact z))
    · exact .inl (.inr ⟨ob, by rw [upd_ne (ne_of z h (by intro q; cases q))]; exact z⟩)
    · exact .inr z) fun b ys z => by
    rcases z with ⟨ob, z⟩ | z
    · exact .inl ⟨ob, by rw [upd_ne (ne_of z h (by intro q; cases q))]; exact z⟩
    · exact .inr z
theorem Rep.side (r : Rep U₀ ρ H g) {a : Addr} {xs : List V} (o : HO) (h : H a = some (.lst xs)) (n : a ∉ ρ) : Rep U₀ ρ (upd H a o) g :=
  ⟨r.len, r.nod, fun i ob b e1 e2 => (r.obs i ob b e1 e2).mono (fun z => side_rel h z) (by
    have m : b ∈ ρ := List.mem_of_getElem? e2
    exact upd_ne (fun (z : b = a) => n (by rw [← z]; exact m)))⟩
theorem RelDs.side {K : PySem.W.Frag} {a : Addr} {xs : List V} {o : HO} (h : H a = some (.lst xs)) {d : List D} {v : List V} (r : RelDs K ρ H d v) : RelDs K ρ (upd H a o) d v := r.monoB fun z => side_rel h z
end
def lcGo (c : Option (Nat × Ob)) (t : Tg) (mt : MT) (me : ME) (τ₀ : T) : List D → List D → M (List D)
  | [], acc, g => if still c g then .ok acc g else .bad
  | d :: l, acc, g => if still c g then (match tgM t d τ₀ with
    | none => .bad
    | some τ1 => (match mt τ1 g with
      | .ok true g1 => (match me τ1 g1 with
        | .ok y g2 => if acc.length ≤ 100000 then lcGo c t mt me τ₀ l (acc ++ [y]) g2 else .bad
        | _ => .bad)
      | .ok false g1 => lcGo c t mt me τ₀ l acc g1
      | _ => .bad)) else .bad
def mLc (own : List Nat) (mi : MI) (t : Tg) (mt : MT) (me : ME) : ME := fun τ g => (mi τ g).bind fun s g1 => (lcGo s.2 t mt me (wipeT τ own) s.1 [] g1).bind fun l g2 => .ok (.ref g2.length) (g2 ++ [.lst l])
abbrev WN : WX := fun _ _ _ _ => False
def mYes : MT := fun _ g => .ok true g
section
variable {X : Cx} {cn : Str → Addr} {W : WX} {pos : Pos}
def RTs (X : Cx) (cn : Str → Addr) (W : WX) (ifs : List Expr) (m : MT) : Prop := PTs X ifs (tT (ux X cn) W m)
theorem rts_nil : RTs X cn W [] mYes := ⟨fun pins s σ H Q I ⟨ρ, τ, g, st, p⟩ => pts_nil.run pins s σ H Q I (p.at st.rep rfl)⟩
theorem rts_one {c : Expr} {m : MT} (h : RT X cn W c m) : RTs X cn W [c] m := pts_one h
theorem lc_imp {own : List Nat} {mi : MI} {t : Tg} {mt : MT} {me : ME} (ho : ∀ i ∈ t.slots, i ∈ own) : ∀ σ H Q, tE (ux X cn) W (mLc own mi t mt me) σ H Q → tLc (tI (ux X cn) W mi) (tgV X.K t) (tT (ux X cn) WN mt) (tE (ux X cn) WN me) own σ H Q := by
  rintro σ H Q ⟨ρ, τ, g, s, p⟩
  refine ⟨ρ, τ, g, s, p.thn fun ρ1 J H1 src g1 e1 r1 dr p1 => fun A hA => ?_⟩
  obtain ⟨l, c⟩ := src
  dsimp only at p1
  have s1 : Stt (ux X cn) ρ1 τ g1 σ H1 := s.later e1 r1
  refine ⟨fun i m H' => ∃ ρ' g' acc xs, m = l.length - i ∧ i ≤ l.length ∧ Ev ρ1 H1 ρ' H' ∧ Rep (ux X cn) ρ' H' g' ∧ A ∉ ρ' ∧ H' A = some (.lst xs) ∧ RelDs X.K ρ' H' acc xs ∧
    Post (ux X cn) (rD (ux X cn)) W σ ρ1 H1 ((lcGo c t mt me (wipeT τ own) (l.drop i) acc g').bind fun l g2 => .ok (.ref g2.length) (g2 ++ [.lst l])) Q, ?_, ?_⟩
  · obtain ⟨e2, r2⟩ := Ev.new (o := .lst []) r1 hA
    refine ⟨l.length, ρ1, g1, [], [], rfl, Nat.zero_le _, e2, r2, fun m => ?_, upd_same, .nil, p1⟩
    obtain ⟨o, ho⟩ := r1.tracked m
    rw [hA] at ho
    cases ho
  · rintro i m H' ⟨ρ', g', acc, xs, rfl, hi, ev, rp, nA, hx, rl, ps⟩
    by_cases hlt : i < l.length
    · have hd : l.drop i = l[i] :: l.drop (i + 1) := List.drop_eq_getElem_cons hlt
      rw [hd] at ps
      unfold lcGo at ps
      by_cases hst : still c g'
      · rw [if_pos hst] at ps
        obtain ⟨hgo, hy⟩ := dr.go ρ' H' g' i l[i] ev rp hst (List.getElem?_eq_getElem hlt)
        refine .inr ⟨hgo, fun H2 => ∃ ρ' g' acc xs, Ev ρ1 H1 ρ' H2 ∧ Rep (ux X cn) ρ' H2 g' ∧ A ∉ ρ' ∧ H2 A = some (.lst xs) ∧ RelDs X.K ρ' H2 acc xs ∧
          Post (ux X cn) (rD (ux X cn)) W σ ρ1 H1 ((lcGo c t mt me (wipeT τ own) (l.drop (i + 1)) acc g').bind fun l g2 => .ok (.ref g2.length) (g2 ++ [.lst l])) Q, ?_, fun x H2 yl => ?_⟩
        · rintro H2 ⟨ρ2, g2, acc2, xs2, h1, h2, h3, h4, h5, h6⟩
          exact ⟨l.length - (i + 1), by omega, ρ2, g2, acc2, xs2, rfl, hlt, h1, h2, h3, h4, h5, h6⟩
        · obtain ⟨ev2, rp2, rd, kp⟩ := hy x H2 yl
          have st2 : Stt (ux X cn) ρ' (wipeT τ own) g' (wipe σ own) H2 := (s1.later (ev.trans ev2) rp2).wipe own
          cases ht : tgM t l[i] (wipeT τ own) with
          | none => rw [ht] at ps; exact ps.elim
          | some τ1 =>
            rw [ht] at ps
            dsimp only at ps
            refine tg_go (U₀ := ux X cn) ho st2 rd ht fun σ2 st3 hw => ⟨?_, ?_⟩
            · rw [hw]
              have ww : ∀ (vs : List Nat), (∀ i ∈ vs, i ∈ own) → wipe (wipe σ own) vs = wipe σ own := by
                intro vs
                have ab : ∀ (ws : List Nat) (j : Nat), j ∈ ws → (wipe σ ws).set j none = wipe σ ws := by
                  intro ws
                  induction ws with
                  | nil => intro j h; simp at h
                  | cons w ws ih =>
                    intro j h
                    unfold wipe
                    rcases List.mem_cons.mp h with rfl | h
                    · rw [List.set_set]
                    · by_cases e : w = j
                      · subst e; rw [List.set_set]
                      · rw [List.set_comm _ _ e, ih j h]
                induction vs with
                | nil => intro _; rfl
                | cons v vs ih =>
                  intro h
                  show (wipe (wipe σ own) vs).set v none = wipe σ own
                  rw [ih fun i hi => h i (List.mem_cons_of_mem _ hi)]
                  exact ab own v (h v List.mem_cons_self)
              exact ww own fun i h => h
            · cases hm : mt τ1 g' with
              | bad => rw [hm] at ps; exact ps.elim
              | exc x g2 => rw [hm] at ps; exact ps.elim
              | ok b g2 =>
                rw [hm] at ps
                refine ⟨ρ', τ1, g', st3, ?_⟩
                rw [hm]
                intro ρ3 b' H3 ev3 rp3 q3
                cases (show b = b' from q3)
                have nA3 : A ∉ ρ3 := fun z => by
                  obtain ⟨⟨new, rfl, hn⟩, _, _, _⟩ := ev3
                  rcases List.mem_append.mp z with z | z
                  · exact nA z
                  · have := hn A z
                    rw [kp A _ hx] at this
                    cases this
                have hx3 : H3 A = some (.lst xs) := ev3.frm _ _ (kp A _ hx) nA
                have ev13 := (ev.trans ev2).trans ev3
                have rl3 := ev3.rels rp2 (ev2.rels rp rl)
                cases b with
                | false =>
                  rw [if_neg Bool.false_ne_true]
                  exact ⟨ρ3, g2, acc, xs, ev13, rp3, nA3, hx3, rl3, ps⟩
                | true =>
                  rw [if_pos rfl]
                  dsimp only at ps
                  refine ⟨ρ3, τ1, g2, st3.later ev3 rp3, ?_⟩
                  cases he : me τ1 g2 with
                  | bad => rw [he] at ps; exact ps.elim
                  | exc x g3 => rw [he] at ps; exact ps.elim
                  | ok y g3 =>
                    rw [he] at ps
                    dsimp only at ps
                    by_cases hz : acc.length ≤ 100000
                    · rw [if_pos hz] at ps
                      intro ρ4 v H4 ev4 rp4 q4
                      have nA4 : A ∉ ρ4 := fun z => by
                        obtain ⟨⟨new, rfl, hn⟩, _, _, _⟩ := ev4
                        rcases List.mem_append.mp z with z | z
                        · exact nA3 z
                        · have := hn A z
                          rw [hx3] at this
                          cases this
                      have hx4 : H4 A = some (.lst xs) := ev4.frm _ _ hx3 nA3
                      have rl4 := ev4.rels rp3 rl3
                      refine ⟨xs, hx4, by rw [← rl4.length]; exact small_line hz, ρ4, g3, acc ++ [y], xs ++ [v], (ev13.trans ev4).side hA _, rp4.side _ hx4 nA4, nA4, upd_same, ?_, ps⟩
                      exact (rl4.side hx4).app (.one (side_rel hx4 q4))
                    · rw [if_neg hz] at ps
                      exact ps.elim
      · rw [if_neg hst] at ps
        exact ps.elim
    · have e : i = l.length := by omega
      subst e
      rw [List.drop_length] at ps
      unfold lcGo at ps
      by_cases hst : still c g'
      · rw [if_pos hst] at ps
        refine .inl ⟨dr.stop ρ' H' g' ev rp hst, ?_⟩
        have len : (ρ' ++ [A])[g'.length]? = some A := by
          rw [List.getElem?_append_right (by rw [rp.len]; omega), rp.len, Nat.sub_self]
          rfl
        have ev' : Ev ρ1 H1 (ρ' ++ [A]) H' := by
          obtain ⟨⟨new, rfl, hn⟩, e2, e3, e4⟩ := ev
          exact ⟨⟨new ++ [A], by simp, fun a m => by
            rcases List.mem_append.mp m with m | m
            · exact hn a m
            · rw [List.mem_singleton.mp m]; exact hA⟩, e2, e3, e4⟩
        have ix : ∀ (n : Nat) (a : Addr), ρ'[n]? = some a → (ρ' ++ [A])[n]? = some a := fun n a h => by
          rw [List.getElem?_append_left (List.getElem?_eq_some_iff.mp h).1]
          exact h
        have mo : ∀ {d : D} {v : V}, RelD X.K ρ' H' d v → RelD X.K (ρ' ++ [A]) H' d v := fun z => z.mono ix (fun _ _ z => z) fun _ _ z => z
        refine ps (ρ' ++ [A]) _ H' ev' ⟨by simp [rp.len], ?_, fun j o a e1 e2 => ?_⟩ (.ref len)
        · refine List.nodup_append.mpr ⟨rp.nod, by simp, fun a ha b hb => ?_⟩
          rw [List.mem_singleton.mp hb]
          exact fun z => nA (z ▸ ha)
        · by_cases hj : j < g'.length
          · rw [List.getElem?_append_left hj] at e1
            rw [List.getElem?_append_left (by rw [rp.len]; exact hj)] at e2
            exact (rp.obs j o a e1 e2).mono (u := ux X cn) mo rfl
          · rw [List.getElem?_append_right (by omega)] at e1
            rw [List.getElem?_append_right (by rw [rp.len]; omega)] at e2
            have h0 : j - g'.length = 0 := by
              have := (List.getElem?_eq_some_iff.mp e1).1
              simpa using this
            rw [h0] at e1
            rw [rp.len, h0] at e2
            cases e1
            cases e2
            exact ⟨xs, hx, rl.monoB mo⟩
      · rw [if_neg hst] at ps
        exact ps.elim
theorem re_lc {elt tg iter : Expr} {ifs : List Expr} {scope : Scope} {own : List (Str × Nat)} {mi : MI} {t : Tg} {mt : MT} {me : ME} (hc : X.calm = true) (hN : X.N.Nodup) (hi : RI X cn W tg iter mi) (ok : BlkOk X.N X.env.scope scope own) (ho : ∀ i ∈ t.slots, i ∈ own.map (·.2))
    (hg : ∀ (s : Shared) (H : Hp) (C : Addr) (cl : List (Str × Addr)) (fp : List Addr), PG (X.blk s H scope (compEnvC scope cl C X.env) fp) tg (tgV X.K t)) (ht : ∀ (s : Shared) (H : Hp) (C : Addr) (cl : List (Str × Addr)) (fp : List Addr), RTs (X.blk s H scope (compEnvC scope cl C X.env) fp) cn WN ifs mt)
    (he : ∀ (s : Shared) (H : Hp) (C : Addr) (cl : List (Str × Addr)) (fp : List Addr), RE (X.blk s H scope (compEnvC scope cl C X.env) fp) cn WN elt me) (hs : ∀ x, foldedSetIterable iter X.env x = pure x := by intro _; rfl) :
    RE X cn W (.ListComp elt [⟨tg, iter, ifs, 0⟩] scope pos) (mLc (own.map (·.2)) mi t mt me) := peI (pe_lc (tt := tT (ux X cn) WN mt) (te := tE (ux X cn) WN me) hc hN hi ok hg (fun a b c d e => ht a b c d e) (fun a b c d e => he a b c d e) hs) (lc_imp ho)
theorem rs_setLc {i : Nat} {y : Str} {py spos : Pos} {elt tg iter : Expr} {ifs : List Expr} {scope : Scope} {own : List (Str × Nat)} {mi : MI} {t : Tg} {mt : MT} {me : ME} (hc : X.calm = true) (hN : X.N.Nodup) (hy : X.N[i]? = some y) (hyl : X.env.scope.names.lookup y = some .local)
    (hsw : swapsWith (.ListComp elt [⟨tg, iter, ifs, 0⟩] scope pos) (some (.Name y py)) spos.line X.env = pure true) (hi : RI X cn W tg iter mi) (ok : BlkOk X.N X.env.scope scope own) (ho : ∀ i ∈ t.slots, i ∈ own.map (·.2))
    (hg : ∀ (s : Shared) (H : Hp) (C : Addr) (cl : List (Str × Addr)) (fp : List Addr), PG (X.blk s H scope (compEnvC scope cl C X.env) fp) tg (tgV X.K t)) (ht : ∀ (s : Shared) (H : Hp) (C : Addr) (cl : List (Str × Addr)) (fp : List Addr), RTs (X.blk s H scope (compEnvC scope cl C X.env) fp) cn WN ifs mt)
    (he : ∀ (s : Shared) (H : Hp) (C : Addr) (cl : List (Str × Addr)) (fp : List Addr), RE (X.blk s H scope (compEnvC scope cl C X.env) fp) cn WN elt me) (hs : ∀ x, foldedSetIterable iter X.env x = pure x := by intro _; rfl) :
    RS X cn W (.Assign [.Name y py] (.ListComp elt [⟨tg, iter, ifs, 0⟩] scope pos) spos) (mAsg (mLc (own.map (·.2)) mi t mt me) (gN i)) := by
  refine psI (ps_setLc (tt := tT (ux X cn) WN mt) (te := tE (ux X cn) WN me) hc hN hy hyl hsw hi ok hg (fun a b c d e => ht a b c d e) (fun a b c d e => he a b c d e) hs) fun E σ H ⟨ρ, τ, g, s, p⟩ => lc_imp ho σ H _ ⟨ρ, τ, g, s, PostS.thn (Rl := rD (ux X cn)) p s fun ρ1 v H1 d g1 e1 r1 q1 s1 p1 => ?_⟩
  exact p1 ρ1 _ H1 Ev.refl (s1.set q1)
end
end RL
namespace RL
open PySem L2
open PyProof.Rows (envOfC)
/-! ### defs and calls -/
/-- what a context has, whose exceptions follow W -/
structure Fit (X : Cx) (W : WX) : Prop where
  tk : Takes X W
  pw : PassesOwn (model X.prog X.w) X.A X.env X.xe
  calm : X.calm = true
theorem Fit.blk {X : Cx} {W : WX} (F : Fit X W) {s : Shared} {H : Hp} {sc : Scope} {ce : Env} {fp : List Addr} : Fit (X.blk s H sc ce fp) WN := ⟨takes_none5, PassesOwn.never, F.calm⟩
/-- a def follows mf -/
def spM (u : U) (n : Nat) (mf : List D → M D) : Sp := fun vs H Q E => ∃ ρ g ds, ds.length = n ∧ RelDs u.K ρ H ds vs ∧ Rep u ρ H g ∧ Post u (rD u) (fun cls d _ H' => E cls d H') [] ρ H (mf ds g) Q
def runF (N : Nat) (mb : MS) (ds : List D) : M D := fun g => match mb (ds.map some ++ List.replicate (N - ds.length) none) g with
  | .nx _ g' => .ok .non g'
  | .rt d g' => .ok d g'
  | .ex e _ g' => .exc e g'
  | _ => .bad
section
variable {P : Program} {w : World} {K : PySem.W.Frag} {mg : Str → Option Value} {base : Heap} {cn : Str → Addr}
theorem spM_len {u : U} {n : Nat} {mf : List D → M D} : ∀ vs H Q E, spM u n mf vs H Q E → vs.length = n := fun vs H Q E ⟨ρ, g, ds, h, r, _⟩ => by rw [← r.length, h]
theorem start_sl {ρ : List Addr} {H : Hp} {N : List Str} : ∀ {ds : List D} {vs : List V}, RelDs K ρ H ds vs → Sl K ρ H (ds.map some ++ List.replicate (N.length - ds.length) none) (start N vs) := by
  intro ds vs r i d h
  have hi : i < (ds.map some).length := by
    by_cases hi : i < (ds.map some).length
    · exact hi
    · rw [List.getElem?_append_right (by omega), List.getElem?_replicate] at h
      split at h <;> cases h
  rw [List.getElem?_append_left hi, List.getElem?_map] at h
  cases e : ds[i]? with
  | none => rw [e] at h; cases h
  | some d' =>
    rw [e] at h
    cases h
    obtain ⟨v, h1, h2⟩ := r.get e
    refine ⟨v, ?_, h2⟩
    unfold L2.start
    rw [List.getElem?_append_left (by rw [List.length_map, ← r.length]; simpa using hi), List.getElem?_map, h1]
    rfl
theorem start_stt {u : U} {ρ : List Addr} {H : Hp} {N : List Str} {ds : List D} {vs : List V} {g : G} (r : RelDs u.K ρ H ds vs) (R : Rep u ρ H g) : Stt u ρ (ds.map some ++ List.replicate (N.length - ds.length) none) g (start N vs) H :=
  ⟨by unfold L2.start; simp [r.length], start_sl r, R⟩
theorem run_post {u : U} {ρ : List Addr} {H : Hp} {r : SR} {Q : VK} {E : XK} (p : Post u (rD u) (fun cls d _ H' => E cls d H') [] ρ H (match r with
    | .nx _ g' => .ok .non g'
    | .rt d g' => .ok d g'
    | .ex e _ g' => .exc e g'
    | _ => .bad : Res D) Q) : PostS u (fun cls d _ H' => E cls d H') ρ H r { nx := fun _ H' => Q .non H', rt := Q } := by
  cases r with
  | nx τ g => exact fun ρ' σ' H' e s => p ρ' .non H' e s.rep .non
  | rt d g => exact fun ρ' v H' e R q => p ρ' v H' e R q
  | bk τ g => exact p.elim
  | ct τ g => exact p.elim
  | ex x τ g => exact fun ρ' σ' H' cls d e s q => p ρ' H' cls d e s.rep q
  | bad => exact p.elim
abbrev cxE (P : Program) (w : World) (K : PySem.W.Frag) (mg : Str → Option Value) (base : Heap) (N : List Str) (qual : Str) (sc : Scope) (f : Addr) (cdv : Value) (A : Around) (outer : List Env) (s : Shared) (H : Hp) (E : XK) : Cx := cxOf (L2.CX P w) P w K mg base N qual sc f cdv A outer s H E
theorem fit_cx {N : List Str} {qual : Str} {sc : Scope} {f : Addr} {cdv : Value} {A : Around} {outer : List Env} {s : Shared} {H : Hp} {E : XK} : Fit (cxE P w K mg base N qual sc f cdv A outer s H E) (fun cls d _ H => E cls d H) := ⟨takes_of rfl rfl rfl rfl, passes_of rfl, rfl⟩
/-- what a def's body must be shown to do -/
def BodyM (P : Program) (w : World) (K : PySem.W.Frag) (mg : Str → Option Value) (base : Heap) (cn : Str → Addr) (k : Nat) (N : List Str) (qual : Str) (sc : Scope) (f : Addr) (body : List Stmt) (mb : MS) : Prop :=
  ∀ (cdv : Value) (A : Around) (outer : List Env) (s : Shared) (H : Hp) (E : XK), Room k (A.deeper (envOfC qual sc s.heap.objs.size f cdv)) → RSs (cxE P w K mg base N qual sc f cdv A outer s H E) cn (fun cls d _ H => E cls d H) body mb
theorem fnM {x qual : Str} {st : Stmt} {f : Addr} {fd : FuncData} {N ps : List Str} {k : Nat} {mb : MS} (F : Fun K x qual st f fd) (S : FnScope N ps (defScope st))
    (hb : BodyM P w K mg base cn k N qual (defScope st) f (defBody st) mb) : FnOk P w K mg base (L2.CX P w) (k + 1) f fd ps (spM ⟨K, cn, P, w⟩ ps.length (runF N.length mb)) :=
  F.okX S spM_len fun cdv A outer s H vs Q E hr h => ⟨_, hb cdv A outer s H E hr, by
    obtain ⟨ρ, g, ds, h1, h2, h3, h4⟩ := h
    exact ⟨ρ, _, g, start_stt h2 h3, run_post h4⟩⟩
theorem fnMD {x qual : Str} {params : Arguments} {body : List Stmt} {scope : Scope} {dvs : List V} {kws : List (Str × V)} {f : Addr} {fd : FuncData} {N ps : List Str} {k : Nat} {mb : MS} (F : FunD K x qual params body scope dvs kws f fd) (S : FnScope N ps scope)
    (hb : BodyM P w K mg base cn k N qual scope f body mb) : FnOk P w K mg base (L2.CX P w) (k + 1) f fd ps (spM ⟨K, cn, P, w⟩ ps.length (runF N.length mb)) :=
  F.ok S spM_len fun cdv A outer s H vs Q E hr h => ⟨_, hb cdv A outer s H E hr, by
    obtain ⟨ρ, g, ds, h1, h2, h3, h4⟩ := h
    exact ⟨ρ, _, g, start_stt h2 h3, run_post h4⟩⟩
/-- a def that is never run -/
theorem fn_bad {f : Addr} {fd : FuncData} {ps : List Str} {k : Nat} : FnOk P w K mg base (L2.CX P w) k f fd ps (spM ⟨K, cn, P, w⟩ ps.length fun _ _ => .bad) :=
  ⟨spM_len, fun A outer s H args us vs Q E _ _ _ _ h => by
    obtain ⟨ρ, g, ds, h1, h2, h3, h4⟩ := h
    exact h4.elim⟩
/-- a def as its callers see it: n values are written, then stand the values es -/
structure DefM (P : Program) (w : World) (K : PySem.W.Frag) (mg : Str → Option Value) (base : Heap) (cn : Str → Addr) (k : Nat) (f : Addr) (n : Nat) (es : List D) (mf : List D → M D) : Prop where
  ok : ∃ (fd : FuncData) (ps : List Str) (bs : List Value) (dvs : List V), FnOk P w K mg base (L2.CX P w) k f fd ps (spM ⟨K, cn, P, w⟩ (n + es.length) mf) ∧ Binds K fd ps bs ∧ Vals dvs bs ∧ ∀ ρ H, RelDs K ρ H es dvs
  kp : PySem.W.keepIn K (.ref f) = true
theorem DefM.mono {k j : Nat} {f : Addr} {n : Nat} {es : List D} {mf : List D → M D} (h : DefM P w K mg base cn j f n es mf) (l : j ≤ k) : DefM P w K mg base cn k f n es mf := by
  obtain ⟨fd, ps, bs, dvs, F, a, b, c⟩ := h.ok
  exact ⟨⟨fd, ps, bs, dvs, F.mono l, a, b, c⟩, h.kp⟩
theorem defM0 {k : Nat} {f : Addr} {fd : FuncData} {ps : List Str} {n : Nat} {mf : List D → M D} (F : FnOk P w K mg base (L2.CX P w) k f fd ps (spM ⟨K, cn, P, w⟩ n mf)) (b : Binds K fd ps []) (kp : PySem.W.keepIn K (.ref f) = true) : DefM P w K mg base cn k f n [] mf :=
  ⟨⟨fd, ps, [], [], F, b, .nil, fun _ _ => .nil⟩, kp⟩
end
/-- called with the values x, behind which the values es stand -/
def fCall (n : Nat) (es : List D) (mf : List D → M D) : List D → M D := fun x g => ck (x.length = n) (mf (x ++ es) g)
/-- a method: its object is one of the classes cs -/
def isIns (cs : List Str) : D → G → Prop := fun x g => match x with
  | .ref n => match g[n]? with
    | some (.ins c _) => c ∈ cs
    | _ => False
  | _ => False
instance (cs : List Str) (x : D) (g : G) : Decidable (isIns cs x g) := by
  unfold isIns
  split
  · split <;> infer_instance
  · infer_instance
def mMeth (cs : List Str) (n : Nat) (es : List D) (mf : List D → M D) (o : ME) (a : MA) : ME := fun τ g => (o τ g).bind fun x g1 => ck (isIns cs x g1) ((a τ g1).bind fun l g2 => fCall n es mf (x :: l) g2)
def MethOk (K : PySem.W.Frag) (cn : Str → Addr) (cs : List Str) (m : Str) (f : Addr) : Prop := fieldOk m = false ∧ ∀ c ∈ cs, Cls K (cn c) ∧ Meth K (cn c) m f
theorem isIns_at {cs : List Str} {x : D} {g : G} (h : isIns cs x g) : ∃ n c fs, x = .ref n ∧ g[n]? = some (.ins c fs) ∧ c ∈ cs := by
  unfold isIns at h
  split at h
  · split at h
    · rename_i hg
      exact ⟨_, _, _, rfl, hg, h⟩
    · exact h.elim
  · exact h.elim
section
variable {X : Cx} {cn : Str → Addr} {W : WX} {k n : Nat} {es : List D} {mf : List D → M D} {f : Addr} {x m : Str} {p pos apos : Pos} {e o : Expr} {el : List Expr} {ml : MA} {mo : ME}
theorem post_sp {σ : L2.St} {H : Hp} {Q : VK} {vs dvs : List V} {ρ : List Addr} {g : G} {ds : List D} (R : Rep (ux X cn) ρ H g) (q : RelDs X.K ρ H ds vs) (hv : RelDs X.K ρ H es dvs) (h : Post (ux X cn) (rD (ux X cn)) W σ ρ H (fCall n es mf ds g) Q) : spM ⟨X.K, cn, X.prog, X.w⟩ (n + es.length) mf (vs ++ dvs) H Q (WE W σ) := by
  obtain ⟨hl, h2⟩ := Post.ck h
  refine ⟨ρ, g, ds ++ es, by rw [List.length_append, hl], q.app hv, R, ?_⟩
  revert h2
  cases mf (ds ++ es) g <;> exact id
/-- the callee runs -/
theorem run_defM {pins : List (Addr × Obj)} {σ : St} {H : Hp} {s : Shared} {Q : VK} {us : List Value} {vs : List V} {ρ : List Addr} {g : G} {ds : List D} (Df : DefM X.prog X.w X.K X.mg X.base cn k f n es mf) (hr : Room k X.A) (tk : Takes X W)
    (I : Inv X pins σ H s) (r : Vals vs us) (R : Rep (ux X cn) ρ H g) (q : RelDs X.K ρ H ds vs) (h : Post (ux X cn) (rD (ux X cn)) W σ ρ H (fCall n es mf ds g) Q) : wpAny (model X.prog X.w) X.A (call (.ref f) us) (EP X pins σ Q) X.xe s := by
  obtain ⟨fd, ps, bs, dvs, Fn, hb, hd, hv⟩ := Df.ok
  exact run_fnSD (E := WE W) Fn hr hb hd (passAt tk σ) I r (post_sp R q (hv ρ H) h)
theorem re_call (F : Fit X W) (Df : DefM X.prog X.w X.K X.mg X.base cn k f n es mf) (hr : Room k X.A) (hg : Gl X x) (hm : X.mg x = some (.ref f)) (ha : RA X cn W (e :: el) ml) (hdb : (x == ("__debug__" : Str)) = false := by decide)
    (he : starEach (e :: el) X.env = (false, eval e X.env) :: starEach el X.env := by rfl) (hpl : (backTo pos (starEach el X.env)).any (·.1) = false := by rfl) : RE X cn W (.Call (.Name x p) (e :: el) [] pos) (mUnA (fCall n es mf) ml) := by
  obtain ⟨fd, ps, bs, dvs, Fn, hb, hd, hv⟩ := Df.ok
  exact peI (pe_callSD Fn hr hg hm Df.kp hb hd (fun σ => passAt F.tk σ) ha hdb he hpl) fun σ H Q ⟨ρ, τ, g, st, h⟩ => ⟨ρ, τ, g, st, h.thn fun ρ1 vs H1 ds g1 e1 r1 q1 p1 => post_sp r1 q1 (hv ρ1 H1) p1⟩
theorem re_call0 (F : Fit X W) (Df : DefM X.prog X.w X.K X.mg X.base cn k f n es mf) (hr : Room k X.A) (hg : Gl X x) (hm : X.mg x = some (.ref f)) (hdb : (x == ("__debug__" : Str)) = false := by decide) : RE X cn W (.Call (.Name x p) [] [] pos) (mUnA (fCall n es mf) mNil) :=
  ⟨fun pins s σ H Q I ⟨ρ, τ, g, st, h⟩ => wpAny_Call_Name_kw (ld_glob I hg hm (PySem.W.callWith_K0 I.kIn Df.kp (run_defM (us := []) Df hr F.tk I .nil st.rep .nil h)) hdb)⟩
theorem re_meth {cs : List Str} {pl : Sem Bool} (F : Fit X W) (hM : MethOk X.K cn cs m f) (D : DefM X.prog X.w X.K X.mg X.base cn k f n es mf) (hr : Room k X.A) (ho : RE X cn W o mo) (ha : RA X cn W (e :: el) ml)
    (hst : starEach (e :: el) X.env = (false, eval e X.env) :: starEach el X.env := by rfl) (hpl : (backTo pos (starEach el X.env)).any (·.1) = false := by rfl)
    (ht : eval (.Call (.Attribute o m apos) (e :: el) [] pos) X.env = (do
      let ov ← eval o X.env
      standAt apos.atName
      let (f, first) ← holding [ov] (getMethod ov m pl)
      callWith pos f first (backTo pos (starEach (e :: el) X.env)) (backToKw pos (keywordEach [] X.env))) := by rfl) : RE X cn W (.Call (.Attribute o m apos) (e :: el) [] pos) (mMeth cs n es mf mo ml) := by
  refine ⟨fun pins s σ H Q I ⟨ρ, τ, g, st, h⟩ => ?_⟩
  refine PySem.W.methodCall_KW (pl := pl) (thn (ho.run pins s σ H (fun ov H1 => ∃ ρ1 g1 x, Stt (ux X cn) ρ1 τ g1 σ H1 ∧ RelD X.K ρ1 H1 x ov ∧ Post (ux X cn) (rD (ux X cn)) W σ ρ1 H1 (ck (isIns cs x g1) ((ml τ g1).bind fun l g2 => fCall n es mf (x :: l) g2)) Q) I ⟨ρ, τ, g, st, h.thn fun ρ1 v H1 d g1 e1 r1 q1 p1 => ⟨ρ1, g1, d, st.later e1 r1, q1, p1⟩⟩) fun u s1 ⟨ov, H1, I1, rx, ρ1, g1, x, st1, qx, p1⟩ => ?_) ht
  obtain ⟨hi, p2⟩ := Post.ck p1
  obtain ⟨i, c, fs, rfl, hg, hc⟩ := isIns_at hi
  cases qx with
  | ref hai =>
    rename_i a
    obtain rfl : u = Value.ref a := rx
    obtain ⟨dx, fs', h1, h3⟩ := st1.rep.obs i _ _ hg hai
    obtain ⟨c1, c2⟩ := hM.2 c hc
    refine getmeth_ok I1 h1 c1 c2 (h3.no hM.1) ?_
    refine PySem.W.callWith_K (first := [.ref a]) (h₀ := X.base) I.ok.mod.kin c2.kp (thn (ha.run pos pins s1 σ H1 (fun vs H2 => ∃ ρ2 g2 l, Rep (ux X cn) ρ2 H2 g2 ∧ RelDs X.K ρ2 H2 l vs ∧ RelD X.K ρ2 H2 (.ref i) (.ref a) ∧ Post (ux X cn) (rD (ux X cn)) W σ ρ2 H2 (fCall n es mf (.ref i :: l) g2) Q) I1
      ⟨ρ1, τ, g1, st1, p2.thn fun ρ2 vs H2 l g2 e2 r2 q2 p3 => ⟨ρ2, g2, l, r2, q2, e2.rel st1.rep (.ref hai), p3⟩⟩) fun us s2 ⟨vs, H2, I2, r, ρ2, g2, l, r2, q2, qi, p3⟩ => ⟨I2.kIn, ?_⟩) hst hpl
    exact run_defM (us := .ref a :: us) (vs := .ref a :: vs) D hr F.tk I2 (.cons rfl r) r2 (.cons qi q2) p3
theorem re_meth0 {cs : List Str} {pl : Sem Bool} (F : Fit X W) (hM : MethOk X.K cn cs m f) (D : DefM X.prog X.w X.K X.mg X.base cn k f n es mf) (hr : Room k X.A) (ho : RE X cn W o mo)
    (ht : eval (.Call (.Attribute o m apos) [] [] pos) X.env = (do
      let ov ← eval o X.env
      standAt apos.atName
      let (f, first) ← holding [ov] (getMethod ov m pl)
      callWith pos f first (backTo pos (starEach [] X.env)) (backToKw pos (keywordEach [] X.env))) := by rfl) : RE X cn W (.Call (.Attribute o m apos) [] [] pos) (mMeth cs n es mf mo mNil) := by
  refine ⟨fun pins s σ H Q I ⟨ρ, τ, g, st, h⟩ => ?_⟩
  refine PySem.W.methodCall_KW (pl := pl) (thn (ho.run pins s σ H (fun ov H1 => ∃ ρ1 g1 x, Stt (ux X cn) ρ1 τ g1 σ H1 ∧ RelD X.K ρ1 H1 x ov ∧ Post (ux X cn) (rD (ux X cn)) W σ ρ1 H1 (ck (isIns cs x g1) ((mNil τ g1).bind fun l g2 => fCall n es mf (x :: l) g2)) Q) I ⟨ρ, τ, g, st, h.thn fun ρ1 v H1 d g1 e1 r1 q1 p1 => ⟨ρ1, g1, d, st.later e1 r1, q1, p1⟩⟩) fun u s1 ⟨ov, H1, I1, rx, ρ1, g1, x, st1, qx, p1⟩ => ?_) ht
  obtain ⟨hi, p2⟩ := Post.ck p1
  obtain ⟨i, c, fs, rfl, hg, hc⟩ := isIns_at hi
  cases qx with
  | ref hai =>
    rename_i a
    obtain rfl : u = Value.ref a := rx
    obtain ⟨dx, fs', h1, h3⟩ := st1.rep.obs i _ _ hg hai
    obtain ⟨c1, c2⟩ := hM.2 c hc
    refine getmeth_ok I1 h1 c1 c2 (h3.no hM.1) ?_
    exact PySem.W.callWith_K0 (first := [.ref a]) I1.kIn c2.kp (run_defM (us := [.ref a]) (vs := [.ref a]) D hr F.tk I1 (.cons rfl .nil) st1.rep (.cons (.ref hai) .nil) p2)
/-- no error is let out -/
def noX {α : Type} : Res α → Res α
  | .exc _ _ => .bad
  | r => r
/-- a property -/
theorem re_prop {cs : List Str} {pr : Str → Addr} (F : Fit X W) (hP : ∀ c ∈ cs, Cls X.K (cn c) ∧ PropOf X.K (cn c) m (pr c) f) (D : DefM X.prog X.w X.K X.mg X.base cn k f 1 [] mf) (hr : Room (k + 1) X.A) (ho : RE X cn W o mo) (hab : attributeBase o m X.env (eval o X.env) = eval o X.env := by rfl) :
    RE X cn W (.Attribute o m pos) (fun τ g => (mo τ g).bind fun x g1 => ck (isIns cs x g1) (noX (mf [x] g1))) := by
  obtain ⟨fd, ps, bs, dvs, Fn, hb, hd, hv⟩ := D.ok
  refine ⟨fun pins s σ H Q I ⟨ρ, τ, g, st, h⟩ => ?_⟩
  refine attr_of hab (thn (ho.run pins s σ H (fun ov H1 => ∃ ρ1 g1 x, Stt (ux X cn) ρ1 τ g1 σ H1 ∧ RelD X.K ρ1 H1 x ov ∧ Post (ux X cn) (rD (ux X cn)) W σ ρ1 H1 (ck (isIns cs x g1) (noX (mf [x] g1))) Q) I ⟨ρ, τ, g, st, h.thn fun ρ1 v H1 d g1 e1 r1 q1 p1 => ⟨ρ1, g1, d, st.later e1 r1, q1, p1⟩⟩) fun u s1 ⟨ov, H1, I1, rx, ρ1, g1, x, st1, qx, p1⟩ => ?_)
  obtain ⟨hi, p2⟩ := Post.ck p1
  obtain ⟨i, c, fs, rfl, hg, hc⟩ := isIns_at hi
  cases qx with
  | ref hai =>
    rename_i a
    obtain rfl : u = Value.ref a := rx
    obtain ⟨dx, fs', h1, h3⟩ := st1.rep.obs i _ _ hg hai
    obtain ⟨c1, c2⟩ := hP c hc
    have hs : spM ⟨X.K, cn, X.prog, X.w⟩ (1 + ([] : List RL.D).length) mf (.ref a :: dvs) H1 Q E0 := by
      refine ⟨ρ1, g1, [.ref i], rfl, .cons (.ref hai) (hv ρ1 H1), st1.rep, ?_⟩
      revert p2
      cases mf [.ref i] g1 with
      | ok d g' => exact id
      | exc e g' => exact False.elim
      | bad => exact False.elim
    exact getprop_ok I1 h1 c1 c2 Fn hr hb hd passL hs
end
end RL
namespace RL
open PySem L2
open PyProof.Rows (envOfC)
/-! ### new objects -/
def fMake (c : Str) (n : Nat) (es : List D) (mf : List D → M D) : List D → M D := fun l g => (noX (fCall (n + 1) es mf (.ref g.length :: l) (g ++ [.ins c []]))).bind fun d g2 => ck (d = .non) (.ok (.ref g.length) g2)
section
variable {X : Cx} {cn : Str → Addr} {W : WX} {k n : Nat} {es : List D} {mf : List D → M D} {f : Addr} {x m c : Str} {p pos apos : Pos} {e o : Expr} {el : List Expr} {ml : MA} {mo : ME}
/-- a new object, then its __init__, which lets no error out -/
theorem make_sp {σ : L2.St} {H : Hp} {Q : VK} {vs dvs : List V} {ρ : List Addr} {g : G} {ds : List D} {a dx : Addr} (R : Rep (ux X cn) ρ H g) (q : RelDs X.K ρ H ds vs) (hv : ∀ ρ H, RelDs X.K ρ H es dvs) (ha : H a = none) (hd : H dx = none) (ne : dx ≠ a)
    (h : Post (ux X cn) (rD (ux X cn)) W σ ρ H (fMake c n es mf ds g) Q) : spM ⟨X.K, cn, X.prog, X.w⟩ (n + 1 + es.length) mf (.ref a :: (vs ++ dvs)) (upd (upd H dx (.own a)) a (.ins (cn c) dx [])) (fun v H2 => v = .non ∧ Q (.ref a) H2) E0 := by
  obtain ⟨ev1, R1⟩ := Ev.new (o := .own a) R hd
  obtain ⟨ev2, R2, at2⟩ := Ev.cnt (o := .ins (cn c) dx []) (ob := .ins c []) R1 (p := a) (by rw [upd_ne (Ne.symm ne)]; exact ha) fun e z => ⟨_, _, z, .nil⟩
  have ev := ev1.trans ev2
  unfold fMake fCall at h
  by_cases hl : (D.ref g.length :: ds).length = n + 1
  · rw [ck_pos hl, List.cons_append] at h
    refine ⟨_, _, .ref g.length :: (ds ++ es), ?_, .cons (.ref at2) ((ev.rels R q).app (hv _ _)), R2, ?_⟩
    · have hl' : ds.length + 1 = n + 1 := hl
      rw [List.length_cons, List.length_append]
      omega
    · revert h
      cases mf (.ref g.length :: (ds ++ es)) (g ++ [.ins c []]) with
      | ok d g2 =>
        intro h
        obtain ⟨hd', h2⟩ := Post.ck (show Post (ux X cn) (rD (ux X cn)) W σ ρ H (ck (d = .non) (.ok (.ref g.length) g2)) Q from h)
        subst hd'
        intro ρ' v H' e' r' q'
        cases q'
        exact ⟨rfl, h2 ρ' _ H' (ev.trans e') r' (.ref (e'.ix _ _ at2))⟩
      | exc x g2 => exact fun h => h.elim
      | bad => exact fun h => h.elim
  · unfold ck at h
    rw [if_neg hl] at h
    exact h.elim
theorem re_make (F : Fit X W) (MK : Mk X.K (cn c) f) (Df : DefM X.prog X.w X.K X.mg X.base cn k f (n + 1) es mf) (hr : Room (k + 1) X.A) (hg : Gl X x) (hm : X.mg x = some (.ref (cn c))) (ha : RA X cn W (e :: el) ml) (hdb : (x == ("__debug__" : Str)) = false := by decide)
    (he : starEach (e :: el) X.env = (false, eval e X.env) :: starEach el X.env := by rfl) (hpl : (backTo pos (starEach el X.env)).any (·.1) = false := by rfl) : RE X cn W (.Call (.Name x p) (e :: el) [] pos) (mUnA (fMake c n es mf) ml) := by
  obtain ⟨fd, ps, bs, dvs, Fn, hb, hd, hv⟩ := Df.ok
  exact peI (pe_make MK Fn hr hg hm hb hd passL ha hdb he hpl) fun σ H Q ⟨ρ, τ, g, st, h⟩ => ⟨ρ, τ, g, st, h.thn fun ρ1 vs H1 ds g1 e1 r1 q1 p1 a dx h1 h2 h3 => make_sp r1 q1 hv h1 h2 h3 p1⟩
theorem re_make0 (F : Fit X W) (MK : Mk X.K (cn c) f) (Df : DefM X.prog X.w X.K X.mg X.base cn k f (n + 1) es mf) (hr : Room (k + 1) X.A) (hg : Gl X x) (hm : X.mg x = some (.ref (cn c))) (hdb : (x == ("__debug__" : Str)) = false := by decide) : RE X cn W (.Call (.Name x p) [] [] pos) (mUnA (fMake c n es mf) mNil) := by
  obtain ⟨fd, ps, bs, dvs, Fn, hb, hd, hv⟩ := Df.ok
  exact peI (pe_make0 MK Fn hr hg hm hb hd passL hdb) fun σ H Q ⟨ρ, τ, g, st, h⟩ a dx h1 h2 h3 => make_sp (vs := []) st.rep .nil hv h1 h2 h3 h
end
/-! ### keywords -/
structure DefK (P : Program) (w : World) (K : PySem.W.Frag) (mg : Str → Option Value) (base : Heap) (cn : Str → Addr) (k : Nat) (f : Addr) (n : Nat) (ks : List Str) (gD : List D → List D → List D) (mf : List D → M D) : Prop where
  ok : ∃ (fd : FuncData) (ps : List Str) (m : Nat) (gv : List Value → List Value → List Value) (gV : List V → List V → List V), FnOk P w K mg base (L2.CX P w) k f fd ps (spM ⟨K, cn, P, w⟩ m mf) ∧ KBn K fd ps n ks gv gV ∧
    ∀ (ρ : List Addr) (H : Hp) (ds zs : List D) (vs us : List V), RelDs K ρ H ds vs → RelDs K ρ H zs us → ds.length = n → zs.length = ks.length → (gD ds zs).length = m ∧ RelDs K ρ H (gD ds zs) (gV vs us)
  kp : PySem.W.keepIn K (.ref f) = true
def RK (X : Cx) (cn : Str → Addr) (W : WX) (kws : List Keyword) (m : MA) : Prop := L2.PK X kws (tA (ux X cn) W m)
def fCallK (n : Nat) (ks : List Str) (gD : List D → List D → List D) (mf : List D → M D) : List D → List D → M D := fun x z g => ck (x.length = n ∧ z.length = ks.length) (mf (gD x z) g)
def mMethK (cs : List Str) (n : Nat) (ks : List Str) (gD : List D → List D → List D) (mf : List D → M D) (o : ME) (a b : MA) : ME := fun τ g => (o τ g).bind fun x g1 => ck (isIns cs x g1) ((a τ g1).bind fun l g2 => (b τ g2).bind fun z g3 => fCallK n ks gD mf (x :: l) z g3)
section
variable {X : Cx} {cn : Str → Addr} {W : WX} {k n : Nat} {ks : List Str} {gD : List D → List D → List D} {mf : List D → M D} {f : Addr} {x m c : Str} {p pos apos kpos : Pos} {e o : Expr} {el : List Expr} {kws : List Keyword} {ml mk : MA} {mo me : ME} {nm : Option Str}
theorem pkI {X : Cx} {e : List Keyword} {t t' : TA} (h : L2.PK X e t) (i : ∀ σ H Q, t' σ H Q → t σ H Q) : L2.PK X e t' := ⟨fun pos pins s σ H Q I q => h.run pos pins s σ H Q I (i σ H Q q)⟩
theorem rk_nil : RK X cn W [] mNil := pkI pk_nil fun σ H Q ⟨ρ, τ, g, s, p⟩ => p.at s.rep .nil
theorem rk_cons (ha : RE X cn W e me) (hr : RK X cn W kws ml) : RK X cn W (⟨nm, e, kpos⟩ :: kws) (mCons me ml) := by
  refine pkI (pk_cons ha hr) fun σ H Q ⟨ρ, τ, g, s, p⟩ => ?_
  refine ⟨ρ, τ, g, s, p.thn fun ρ1 v H1 d g1 e1 r1 q1 p1 => ?_⟩
  refine ⟨ρ1, τ, g1, s.later e1 r1, p1.thn fun ρ2 vs H2 ds g2 e2 r2 q2 p2 => ?_⟩
  exact p2.at r2 (.cons (e2.rel r1 q1) q2)
theorem run_defK {pins : List (Addr × Obj)} {σ : St} {H : Hp} {s : Shared} {Q : VK} {us ws : List Value} {vs zs : List V} {ρ : List Addr} {g : G} {ds es : List D} (Df : DefK X.prog X.w X.K X.mg X.base cn k f n ks gD mf) (hr : Room k X.A) (tk : Takes X W)
    (I : Inv X pins σ H s) (r : Vals vs us) (rz : Vals zs ws) (R : Rep (ux X cn) ρ H g) (q : RelDs X.K ρ H ds vs) (qz : RelDs X.K ρ H es zs) (h : Post (ux X cn) (rD (ux X cn)) W σ ρ H (fCallK n ks gD mf ds es g) Q) :
    wpAny (model X.prog X.w) X.A (call (.ref f) us (ks.zip ws)) (EP X pins σ Q) X.xe s := by
  obtain ⟨fd, ps, m, gv, gV, F, hb, hv⟩ := Df.ok
  obtain ⟨⟨hl, hl2⟩, h2⟩ := Post.ck h
  obtain ⟨hm, hq⟩ := hv ρ H ds es vs zs q qz hl hl2
  have hs : spM ⟨X.K, cn, X.prog, X.w⟩ m mf (gV vs zs) H Q (WE W σ) := ⟨ρ, g, gD ds es, hm, hq, R, by
    revert h2
    cases mf (gD ds es) g with
    | ok d g' => exact id
    | exc e g' => exact id
    | bad => exact id⟩
  have r2 := hb.rel r rz
  refine wpAny_call (codeAny_mono (F.run X.A X.stack s H ⟨us, ks.zip ws⟩ (gv us ws) (gV vs zs) Q (WE W σ) hr I.env0 (hb.to s us ws I.kIn (by rw [← r.length, ← q.length, hl]) (by rw [← rz.length, ← qz.length, hl2])) r2 hs) ?_)
  rintro (er | fl) s' hq
  · exact passAt tk σ pins H s er s' I hq
  · cases fl <;> first | exact I.after hq | exact hq.elim
theorem re_methK {cs : List Str} {pl : Sem Bool} (F : Fit X W) (hM : MethOk X.K cn cs m f) (Df : DefK X.prog X.w X.K X.mg X.base cn k f n ks gD mf) (hr : Room k X.A) (ho : RE X cn W o mo) (ha : RA X cn W (e :: el) ml) (hk : RK X cn W kws mk)
    (hall : (backToKw pos (keywordEach kws X.env)).all (·.1.isSome) = true := by rfl) (hks : (backToKw pos (keywordEach kws X.env)).filterMap (·.1) = ks := by rfl)
    (hst : starEach (e :: el) X.env = (false, eval e X.env) :: starEach el X.env := by rfl) (hpl : ((backTo pos (starEach (e :: el) X.env)).any (·.1) || (backToKw pos (keywordEach kws X.env)).any (·.1.isNone)) = false := by rfl)
    (ht : eval (.Call (.Attribute o m apos) (e :: el) kws pos) X.env = (do
      let ov ← eval o X.env
      standAt apos.atName
      let (f, first) ← holding [ov] (getMethod ov m pl)
      callWith pos f first (backTo pos (starEach (e :: el) X.env)) (backToKw pos (keywordEach kws X.env))) := by rfl) : RE X cn W (.Call (.Attribute o m apos) (e :: el) kws pos) (mMethK cs n ks gD mf mo ml mk) := by
  refine ⟨fun pins s σ H Q I ⟨ρ, τ, g, st, h⟩ => ?_⟩
  refine PySem.W.methodCall_KW (pl := pl) (thn (ho.run pins s σ H (fun ov H1 => ∃ ρ1 g1 x, Stt (ux X cn) ρ1 τ g1 σ H1 ∧ RelD X.K ρ1 H1 x ov ∧ Post (ux X cn) (rD (ux X cn)) W σ ρ1 H1 (ck (isIns cs x g1) ((ml τ g1).bind fun l g2 => (mk τ g2).bind fun z g3 => fCallK n ks gD mf (x :: l) z g3)) Q) I ⟨ρ, τ, g, st, h.thn fun ρ1 v H1 d g1 e1 r1 q1 p1 => ⟨ρ1, g1, d, st.later e1 r1, q1, p1⟩⟩) fun u s1 ⟨ov, H1, I1, rx, ρ1, g1, x, st1, qx, p1⟩ => ?_) ht
  obtain ⟨hi, p2⟩ := Post.ck p1
  obtain ⟨i, c, fs, rfl, hg, hc⟩ := isIns_at hi
  cases qx with
  | ref hai =>
    rename_i a
    obtain rfl : u = Value.ref a := rx
    obtain ⟨dx, fs', h1, h3⟩ := st1.rep.obs i _ _ hg hai
    obtain ⟨c1, c2⟩ := hM.2 c hc
    refine getmeth_ok I1 h1 c1 c2 (h3.no hM.1) ?_
    refine PySem.W.callWith_KW (first := [.ref a]) (h₀ := X.base) I.ok.mod.kin c2.kp hall (thn (ha.run pos pins s1 σ H1 (fun vs H2 => ∃ ρ2 g2 l, Stt (ux X cn) ρ2 τ g2 σ H2 ∧ RelDs X.K ρ2 H2 l vs ∧ RelD X.K ρ2 H2 (.ref i) (.ref a) ∧ Post (ux X cn) (rD (ux X cn)) W σ ρ2 H2 ((mk τ g2).bind fun z g3 => fCallK n ks gD mf (.ref i :: l) z g3) Q) I1
      ⟨ρ1, τ, g1, st1, p2.thn fun ρ2 vs H2 l g2 e2 r2 q2 p3 => ⟨ρ2, g2, l, st1.later e2 r2, q2, e2.rel st1.rep (.ref hai), p3⟩⟩) fun us s2 ⟨vs, H2, I2, r, ρ2, g2, l, st2, q2, qi, p3⟩ => ?_) hpl hst
    refine thn (hk.run pos pins s2 σ H2 (fun zs H3 => ∃ ρ3 g3 z, Rep (ux X cn) ρ3 H3 g3 ∧ RelDs X.K ρ3 H3 l vs ∧ RelD X.K ρ3 H3 (.ref i) (.ref a) ∧ RelDs X.K ρ3 H3 z zs ∧ Post (ux X cn) (rD (ux X cn)) W σ ρ3 H3 (fCallK n ks gD mf (.ref i :: l) z g3) Q) I2
      ⟨ρ2, τ, g2, st2, p3.thn fun ρ3 zs H3 z g3 e3 r3 q3 p4 => ⟨ρ3, g3, z, r3, e3.rels st2.rep q2, e3.rel st2.rep qi, q3, p4⟩⟩) fun ws s3 ⟨zs, H3, I3, rz, ρ3, g3, z, r3, ql, qi3, qz, p4⟩ => ⟨I3.kIn, ?_⟩
    rw [hks]
    exact run_defK (us := .ref a :: us) (vs := .ref a :: vs) Df hr F.tk I3 (.cons rfl r) rz r3 (.cons qi3 ql) qz p4
theorem re_callK (F : Fit X W) (Df : DefK X.prog X.w X.K X.mg X.base cn k f n ks gD mf) (hr : Room k X.A) (hg : Gl X x) (hm : X.mg x = some (.ref f)) (ha : RA X cn W (e :: el) ml) (hk : RK X cn W kws mk)
    (hall : (backToKw pos (keywordEach kws X.env)).all (·.1.isSome) = true := by rfl) (hks : (backToKw pos (keywordEach kws X.env)).filterMap (·.1) = ks := by rfl) (hdb : (x == ("__debug__" : Str)) = false := by decide)
    (he : starEach (e :: el) X.env = (false, eval e X.env) :: starEach el X.env := by rfl) (hpl : ((backTo pos (starEach (e :: el) X.env)).any (·.1) || (backToKw pos (keywordEach kws X.env)).any (·.1.isNone)) = false := by rfl) :
    RE X cn W (.Call (.Name x p) (e :: el) kws pos) (fun τ g => (ml τ g).bind fun l g1 => (mk τ g1).bind fun z g2 => fCallK n ks gD mf l z g2) := by
  refine ⟨fun pins s σ H Q I ⟨ρ, τ, g, st, h⟩ => ?_⟩
  refine wpAny_Call_Name_kw (ld_glob I hg hm ?_ hdb)
  refine PySem.W.callWith_KW (h₀ := X.base) I.ok.mod.kin Df.kp hall (thn (ha.run pos pins s σ H (fun vs H2 => ∃ ρ2 g2 l, Stt (ux X cn) ρ2 τ g2 σ H2 ∧ RelDs X.K ρ2 H2 l vs ∧ Post (ux X cn) (rD (ux X cn)) W σ ρ2 H2 ((mk τ g2).bind fun z g3 => fCallK n ks gD mf l z g3) Q) I
      ⟨ρ, τ, g, st, h.thn fun ρ2 vs H2 l g2 e2 r2 q2 p3 => ⟨ρ2, g2, l, st.later e2 r2, q2, p3⟩⟩) fun us s2 ⟨vs, H2, I2, r, ρ2, g2, l, st2, q2, p3⟩ => ?_) hpl he
  refine thn (hk.run pos pins s2 σ H2 (fun zs H3 => ∃ ρ3 g3 z, Rep (ux X cn) ρ3 H3 g3 ∧ RelDs X.K ρ3 H3 l vs ∧ RelDs X.K ρ3 H3 z zs ∧ Post (ux X cn) (rD (ux X cn)) W σ ρ3 H3 (fCallK n ks gD mf l z g3) Q) I2
      ⟨ρ2, τ, g2, st2, p3.thn fun ρ3 zs H3 z g3 e3 r3 q3 p4 => ⟨ρ3, g3, z, r3, e3.rels st2.rep q2, q3, p4⟩⟩) fun ws s3 ⟨zs, H3, I3, rz, ρ3, g3, z, r3, ql, qz, p4⟩ => ⟨I3.kIn, ?_⟩
  rw [hks]
  exact run_defK Df hr F.tk I3 r rz r3 ql qz p4
end
section
variable {K : PySem.W.Frag} {x qual : Str} {params : Arguments} {body : List Stmt} {scope : Scope} {dvs : List V} {kws : List (Str × V)} {f : Addr} {fd : FuncData} {ps : List Str}
/-- every parameter is written, some by keywords -/
theorem kb_all (F : FunD K x qual params body scope [] kws f fd) (n : Nat) (ks : List Str) (g : {α : Type} → List α → List α → List α)
    (hrel : ∀ {vs zs : List V} {us ws : List Value}, Vals vs us → Vals zs ws → Vals (g vs zs) (g us ws))
    (h : ∀ (kV doc pm : Value) (an : Option Addr) (cdv ct : Value) (us ws : List Value), us.length = n → ws.length = ks.length → bindArgs (PySem.W.fnOf x qual params body scope .none kV doc pm an cdv ct) ⟨us, ks.zip ws⟩ = pure (ps.zip (g us ws))) :
    KBn K fd ps n ks (fun us ws => g us ws) (fun vs zs => g vs zs) := by
  obtain ⟨oc, od, dV, kV, doc, pm, an, cdv, ct, osl, rfl, lk, hcd, hD, hK⟩ := F.ex
  rcases hD with ⟨_, rfl⟩ | ⟨e, _⟩
  · exact ⟨fun s us ws X l1 l2 => .of_eq (h kV doc pm an cdv ct us ws l1 l2), fun r1 r2 => hrel r1 r2⟩
  · exact absurd rfl e
end
end RL
/-! the name of an own error's class -/
namespace PySem.W
open PySem PySem.Spec PySem.Calls PyProof.Rows Builtin Builtin.ObjectAttr
section
variable {prog : Program} {w : World} {A : Around} {E : Value → Shared → Prop} {K : Frag} {x D : Addr} {ox : Obj} {hp : Heap} {g : Array GenState} {d : Drawn} {t : Nat} {os : OsState}
theorem onB : onTheHeap (Value.builtin "BaseException.__getattribute__") = false := rfl
theorem neB : (Value.builtin "BaseException.__getattribute__" == Value.builtin "object.__getattribute__") = false := by decide +kernel
theorem open_exc {name : Str} {expr : Bool} {Q : Value → Shared → Prop} {gt : Option Value} (ty : Looks (model prog w) hp (typeOf (.ref x)) (.ref D)) (ga : Looks (model prog w) hp (typeLookup (.ref D) "__getattribute__") (some (.builtin "BaseException.__getattribute__"))) (gg : Looks (model prog w) hp (typeLookup (.ref D) "__getattr__") gt)
    {v : Value} {s2 : Shared} (hv : handedIn v = true) (h : wpAny (model prog w) A (call (.builtin "BaseException.__getattribute__") [.ref x, .str name t]) (fun a s' => a = v ∧ s' = s2) (fun _ _ => False) ⟨hp, g, d, t + 1, os⟩) (q : Q v s2) : wpAny (model prog w) A (getAttr (.ref x) name expr) Q E ⟨hp, g, d, t, os⟩ := by
  have on : onTheHeap (Value.ref D) = true := rfl
  unfold getAttr getAttrBy
  refine wpAny_bind (wpAny_mkText ?_)
  repeat lk
  simp only [on, neB, Bool.and_false, Bool.false_eq_true, if_false]
  refine wpAny_attempt (m := holding gt.toList (callGetattribute (.ref x) (.str name t) (.builtin "BaseException.__getattribute__") expr)) (wpAny_holding ?_)
  have e1 : callGetattribute (.ref x) (.str name t) (.builtin "BaseException.__getattribute__") expr = call (.builtin "BaseException.__getattribute__") [.ref x, .str name t] := by
    unfold callGetattribute boundAndCalled
    simp only [onB, Bool.and_false, Bool.false_eq_true, if_false]
    rw [PySem.F.excAttr_ValueError.ga.bind (.ref x)]
    rfl
  rw [e1]
  refine wpAny_mono h (fun a s' ⟨e2, e3⟩ => ?_) fun _ _ z => z.elim
  subst e2
  subst e3
  show wpAny _ _ (handedOut a) Q E s'
  rw [handedOut_of hv]
  exact wpAny_pure q
theorem body_exc {name : Str} {f o : Value} {ox : Obj} {R : Result → Shared → Prop} (I : InstAt hp x ox D none) (X : K.In hp) (sub : subIn K (.ref D) (.type "BaseException") = some true) (hf : findObj K D none name = some (.bind f o)) {v : Value} (hv : handedIn v = true)
    (hc : ∀ {R : Result → Shared → Prop} {A : Around}, R (.ok (.ret v)) ⟨hp, g, d, t + 1, os⟩ → codeAny (model prog w) A (.call f ⟨[o, .ref x, .ref D], []⟩) R ⟨hp, g, d, t + 1, os⟩) :
    wpAny (model prog w) A (call (.builtin "BaseException.__getattribute__") [.ref x, .str name t]) (fun a s' => a = v ∧ s' = ⟨hp, g, d, t + 1, os⟩) (fun _ _ => False) ⟨hp, g, d, t + 1, os⟩ := by
  have ty := I.type (M := model prog w)
  have fnd := looks_find (M := model prog w) X I hf
  have isE : Looks (model prog w) hp (isInstance (.ref x) (.type "BaseException")) true := ty.andThen (looks_subIn X sub)
  have ga := PySem.F.excAttr_ValueError.ga
  have chk : ∀ {A : Around} {E : Value → Shared → Prop} {Q : Unit → Shared → Prop}, Q () ⟨hp, g, d, t + 1, os⟩ → wpAny (model prog w) A (checkBuiltinCall "BaseException.__getattribute__" ⟨[.ref x, .str name t], []⟩) Q E ⟨hp, g, d, t + 1, os⟩ := fun q =>
    check_slot (i := "BaseException.__getattribute__") (owner := "BaseException") (n := "__getattribute__") (s := ⟨hp, g, d, t + 1, os⟩) (by decide +kernel) (by decide +kernel) isE (PySem.F.args_bexc_ga _ _) q
  refine wpAny_call (codeAny_call_builtin ga.plain PySem.F.entry_bexc_ga (chk ?_))
  have sa : slotArgs "__getattribute__" 1 ⟨[.ref x, .str name t], []⟩ = pure (.ref x, [.str name t]) := by
    first | rfl | (simp only [slotArgs]; rfl)
  unfold Builtin.«object.__getattribute__»
  rw [sa]
  refine wpAny_bind (wpAny_pure (wpAny_bind (wpAny_pure (wpAny_bind (ty.at (wpAny_bind (fnd.at ?_)))))))
  show wpAny _ _ (bindTo f o (.ref x) (.ref D)) _ _ _
  unfold bindTo
  refine wpAny_bind (wpAny_holding (wpAny_call (hc ?_)))
  exact wpAny_pure ⟨rfl, rfl⟩
structure NamC (K : Frag) (D : Addr) (nm : Str) : Prop where
  ga : findIn K (.ref D) "__getattribute__" = some (some (.builtin "BaseException.__getattribute__"))
  gg : findIn K (.ref D) "__getattr__" = some none
  exC : subIn K (.ref D) (.type "BaseException") = some true
  hdC : hasDictIn K D = true
  cl : findIn K (.ref D) "__class__" = some (some (.builtin "object.__class__"))
  sp : specialIn K (.builtin "object.__class__") "__get__" = some (some (.builtin "getset_descriptor.__get__"))
  tk : takesIn K (.builtin "object.__class__") = some true
  mr : mroIn K D (.type "object") = some true
  rd : readsIn K D (.type "type") = true
  nn : findCls K (.ref D) (.type "type") "__name__" = some (.get (.builtin "getset_descriptor.__get__") (.builtin "type.__name__") (.ref D) (.type "type"))
  sl : ∃ o tk, K.lookup D = some o ∧ o.slots[2]? = some (some (.str nm tk))
theorem cn_class {nm : Str} {expr : Bool} {s : Shared} {Q : Value → Shared → Prop} (T : NamC K D nm) (X : K.In s.heap) (I : InstAt s.heap x ox D none) (q : Q (.ref D) { s with toks := s.toks + 1 }) : wpAny (model prog w) A (getAttr (.ref x) "__class__" expr) Q E s := by
  have hf : findObj K D none "__class__" = some (.bind (.builtin "getset_descriptor.__get__") (.builtin "object.__class__")) := findObj_dataN (Option.isSome_iff_exists.mpr ⟨_, (any_some T.hdC).choose_spec.1⟩) T.cl T.sp T.tk
  obtain ⟨h0, g0, d0, t0, o0⟩ := s
  exact open_exc I.type (looks_findIn X T.ga) (looks_findIn X T.gg) rfl (body_exc (R := fun _ _ => True) I X T.exC hf rfl fun r => class_get (s := ⟨h0, g0, d0, t0 + 1, o0⟩) X I T.mr r) q
/-- the name, kept in the class's own slot -/
theorem cn_get {nm : Str} {tk : Tok} {o : Obj} {s : Shared} {R : Result → Shared → Prop} (X : K.In s.heap) (ty : typeIn K (.ref D) = some (.type "type")) (l : K.lookup D = some o) (hs : o.slots[2]? = some (some (.str nm tk))) (q : R (.ok (.ret (.str nm tk))) s) :
    codeAny (model prog w) A (.call (.builtin "getset_descriptor.__get__") ⟨[.builtin "type.__name__", .ref D, .type "type"], []⟩) R s := by
  have tD := looks_typeIn (M := model prog w) X ty
  have tt : Looks (model prog w) s.heap (isSubtype (.type "type") (.type "type")) true := .of_pure (by rw [isSubtype_type]; kernel_rfl)
  have gs := KF.slot_gs
  refine codeAny_call_builtin gs.plain KF.entry_gs (gs.check _ _ _ _ _ _ _ _ ktyn_type (KF.args_gs _ _ _) ?_)
  unfold Builtin.«getset_descriptor.__get__» Builtin.Getset_descriptor.descrGet
  rw [dga_obj, pure_bind]
  show wpAny _ _ (Builtin.Getset_descriptor.descrGetter (.builtin "type.__name__") (some (.ref D))) _ _ _
  unfold Builtin.Getset_descriptor.descrGetter Builtin.Getset_descriptor.descrCheckInstance Builtin.Getset_descriptor.descrNameAndClass isInstance
  simp only [ktyn_owner]
  obtain ⟨h0, g0, d0, t0, o0⟩ := s
  repeat lk
  refine And.intro (Code.quiet_builtin _ (by decide +kernel)) (codeAny_builtin ktyn_entry ?_)
  unfold Builtin.«type.__name__» keptObject slotAt
  dsimp only
  refine wpAny_bind (wpAny_bind (wpAny_loadPart (X _ _ l) ?_))
  refine wpAny_pure ?_
  rw [hs]
  exact wpAny_pure q
end
end PySem.W
namespace RL
open PySem L2
open PyProof.Rows (envOfC)
def tCN (K : PySem.W.Frag) (to : TE) : TE := fun σ H Q => to σ H fun x H1 => ∃ a C nm, x = .ref a ∧ H1 a = some (exo a C none) ∧ PySem.W.NamC K C nm ∧ Q (.str nm) H1
theorem pe_cname {X : Cx} {o : Expr} {to : TE} {p1 p2 : Pos} (ho : PE X o to) (hb1 : attributeBase o "__class__" X.env (eval o X.env) = eval o X.env := by rfl)
    (hb2 : attributeBase (.Attribute o "__class__" p1) "__name__" X.env (eval (.Attribute o "__class__" p1) X.env) = eval (.Attribute o "__class__" p1) X.env := by rfl) : PE X (.Attribute (.Attribute o "__class__" p1) "__name__" p2) (tCN X.K to) := by
  refine ⟨fun pins s σ H Q I h => ?_⟩
  refine attr_of hb2 (attr_of hb1 (thn (ho.run pins s σ H _ I h) fun u s1 ⟨x, H1, I1, rx, a, C, nm, ex, ea, T, q⟩ => ?_))
  subst ex
  obtain rfl : u = Value.ref a := rx
  obtain ⟨t1, he⟩ := exo_at I1.hok ea
  refine PySem.W.cn_class T I1.kIn ⟨he, rfl, by unfold PySem.W.notCls; rfl, trivial⟩ ?_
  have I2 := I1.tok (s1.toks + 1)
  obtain ⟨o, tk, l, hs⟩ := T.sl
  refine PySem.W.cls_read I2.kIn T.rd T.nn ?_
  have ty : PySem.W.typeIn X.K (.ref C) = some (.type "type") := by
    have := T.rd
    simp only [PySem.W.readsIn, Bool.and_eq_true, beq_iff_eq] at this
    exact this.1.1.1.2
  show wpAny _ _ (do ret (← holding [Value.builtin "type.__name__"] (call (.builtin "getset_descriptor.__get__") [.builtin "type.__name__", .ref C, .type "type"]))) _ _ _
  refine wpAny_bind (PySem.wpAny_holding (wpAny_call (PySem.W.cn_get (I2.tok _).kIn ty l hs ?_)))
  refine wpAny_pure ?_
  show wpAny _ _ (handedOut (.str nm tk)) _ _ _
  rw [PySem.W.handedOut_of rfl]
  exact wpAny_pure ⟨.str nm, H1, I2.tok _, ⟨tk, rfl⟩, q⟩
/-! ### the wording of an error: some text -/
def leafOk : D → Bool
  | .non => true
  | .bl _ => true
  | .str _ => true
  | _ => false
def wOk : D → Bool
  | .non => true
  | .str _ => true
  | .tup l => l.all leafOk && decide (l.length ≤ 20)
  | _ => false
def rowOk : D → Bool
  | .non => true
  | .int i => decide (0 ≤ i) && decide (i ≤ 1000000)
  | _ => false
theorem sOk_repr {x : Str} (h : sOk x = true) : (reprText x).length ≤ 10002 := by
  unfold sOk at h
  simp only [Bool.and_eq_true, decide_eq_true_eq] at h
  have h1 := StrLaws.reprText_len x fun c hc => by
    have h2 := h.1
    unfold PyData.strOk at h2
    rw [Array.all_eq_true_iff_forall_mem] at h2
    have h3 := of_decide_eq_true (h2 c (Array.mem_def.mpr hc))
    omega
  omega
section
variable {K : PySem.W.Frag} {ρ : List Addr} {H : Hp} {P : Program} {w : World}
theorem leaf_repr {d : D} {v : V} {u : Value} (h : leafOk d = true) (r : RelD K ρ H d v) (rv : RelV v u) : ∃ t, ReprIs P w u t ∧ t.length ≤ 10002 := by
  cases r with
  | non => cases rv; exact ⟨_, ReprIs.none, by decide⟩
  | bl b => cases rv; exact ⟨_, ReprIs.bool b, by cases b <;> decide⟩
  | str hs =>
    obtain ⟨t, rfl⟩ := rv
    have := sOk_repr hs
    exact ⟨_, ReprIs.str _ t (by rw [sizeLine_eq]; omega), this⟩
  | int i => exact absurd h (by simp [leafOk])
  | tup a b => exact absurd h (by simp [leafOk])
  | kl a b => exact absurd h (by simp [leafOk])
  | ref a => exact absurd h (by simp [leafOk])
theorem leaves_repr : ∀ {l : List D} {vs : List V} {us : List Value}, l.all leafOk = true → RelDs K ρ H l vs → Vals vs us → ∃ ts, ReprAll P w us ts ∧ piled ts ≤ l.length * 10004
  | _, _, _, _, .nil, .nil => ⟨[], .nil, by simp [piled]⟩
  | _, _, _, h, .cons q1 q2, .cons r1 r2 => by
    simp only [List.all_cons, Bool.and_eq_true] at h
    obtain ⟨t, h1, h2⟩ := leaf_repr (P := P) (w := w) h.1 q1 r1
    obtain ⟨ts, h3, h4⟩ := leaves_repr h.2 q2 r2
    refine ⟨t :: ts, .cons h1 h3, ?_⟩
    rw [piled_cons, List.length_cons]
    omega
end
/-- {x!r} of what an error is made with: some text -/
def tFmtW (K : PySem.W.Frag) (te : TE) : TE := fun σ H Q => te σ H fun x H1 => ∃ ρ d, RelD K ρ H1 d x ∧ wOk d = true ∧ ∀ m : Str, m.length ≤ 300000 → Q (.str m) H1
theorem pe_fmtW {X : Cx} {e : Expr} {te : TE} {pos : Pos} {k : Nat} (hr : Room k X.A) (he : PE X e te) : PE X (.FormattedValue e 114 none pos) (tFmtW X.K te) := by
  refine ⟨fun pins s σ H Q I h => ?_⟩
  refine wpAny_FormattedValue_repr (thn (he.run pins s σ H _ I h) fun v s1 hv => ?_)
  obtain ⟨x, H1, I1, r1, ρ, d, q, hw, hq⟩ := hv
  cases q with
  | non =>
    cases r1
    refine pyReprObj_none (wpAny_formatField_str ⟨.str "None", H1, I1.tok _, ⟨_, rfl⟩, hq _ (by decide)⟩ ⟨.str "None", H1, I1.tok _, ⟨_, rfl⟩, hq _ (by decide)⟩ (by decide))
  | @str y hs =>
    obtain ⟨t, rfl⟩ := r1
    have hz := sOk_repr hs
    have hz2 : (reprText y).length ≤ sizeLine := by rw [sizeLine_eq]; omega
    exact pyReprObj_str (wpAny_formatField_str ⟨.str (reprText y), H1, I1.tok _, ⟨_, rfl⟩, hq _ (by omega)⟩ ⟨.str (reprText y), H1, I1.tok _, ⟨_, rfl⟩, hq _ (by omega)⟩ hz2) hz2
  | bl b => exact absurd hw (by simp [wOk])
  | int i => exact absurd hw (by simp [wOk])
  | ref a => exact absurd hw (by simp [wOk])
  | kl a b => exact absurd hw (by simp [wOk])
  | @tup l a xs ht hl =>
    cases r1
    obtain ⟨its, rv, ⟨o, ho, hcl, n, hd⟩, _⟩ := I1.tuple ht
    simp only [wOk, Bool.and_eq_true, decide_eq_true_eq] at hw
    obtain ⟨ts, h1, h2⟩ := leaves_repr (P := X.prog) (w := X.w) hw.1 hl rv
    have htx := fmt_text ts
    have hu := hr.units
    have hts : (tupleText ts).length ≤ 210000 := by omega
    refine wpAny_pyReprObj_slot (by omega) ⟨o, ho, hcl⟩ PySem.F.slot_tuple_repr (fmt_tuple_repr ho hcl hd h1 (by rw [sizeLine_eq]; omega) fun m u tk hm => ?_)
    refine ⟨m, u, rfl, ?_⟩
    exact wpAny_formatField_str ⟨.str m, H1, I1.tok _, ⟨_, rfl⟩, hq m (by omega)⟩ ⟨.str m, H1, (I1.tok _).tok _, ⟨_, rfl⟩, hq m (by omega)⟩ (by rw [sizeLine_eq]; omega)
/-- what the wording of an error promises -/
def spWd (K : PySem.W.Frag) : Sp := fun vs H Q _ => ∃ nm vw vr ρ dw dr, vs = [.str nm, vw, vr] ∧ nm.length ≤ 1000 ∧ RelD K ρ H dw vw ∧ RelD K ρ H dr vr ∧ wOk dw = true ∧ rowOk dr = true ∧ ∀ m : Str, Q (.str m) H
/-- what a class of errors must have -/
structure ErrC (K : PySem.W.Frag) (C : Addr) : Prop where
  oex : OexC K C
  nam : ∃ nm, PySem.W.NamC K C nm ∧ nm.length ≤ 1000
  what : PySem.W.findIn K (.ref C) "what" = some none
  row : PySem.W.findIn K (.ref C) "row" = some none
/-- what the making of an error promises -/
def spAE (K : PySem.W.Frag) : Sp := fun vs H Q _ => ∃ a C vw vr ρ dw dr, vs = [.ref a, vw, vr] ∧ ErrC K C ∧ H a = some (exo a C none) ∧ RelD K ρ H dw vw ∧ RelD K ρ H dr vr ∧ wOk dw = true ∧ rowOk dr = true ∧
  ∀ dx, H dx = none → dx ≠ a → Q .non (upd (upd (upd H dx (exd dx [("what", vw)])) a (exo a C (some dx))) dx (exd dx [("row", vr), ("what", vw)]))
/-! ### raise -/
def exc1 (c : Str) : List D → Option Exc
  | [w] => if wOk w = true then some ⟨c, [("row", .non), ("what", w)]⟩ else none
  | _ => none
def exc2 (c : Str) : List D → Option Exc
  | [w, r] => if wOk w = true ∧ rowOk r = true then some ⟨c, [("row", r), ("what", w)]⟩ else none
  | _ => none
def mRaise (f : List D → Option Exc) (ml : MA) : MS := fun τ g => (ml τ g).st τ fun l g1 => match f l with
  | some x => .ex x τ g1
  | none => .bad
structure Err (P : Program) (w : World) (K : PySem.W.Frag) (mg : Str → Option Value) (base : Heap) (k : Nat) (C f : Addr) : Prop where
  cls : ErrC K C
  ini : PySem.W.findIn K (.ref C) "__init__" = some (some (.ref f))
  tyi : PySem.W.typeIn K (.ref f) = some (.type "function")
  fn : ∃ fd, FnOk P w K mg base (L2.CX P w) k f fd ["self", "what", "row"] (spAE K) ∧ Binds K fd ["self", "what", "row"] [] ∧ Binds K fd ["self", "what", "row"] [.none]
theorem relD_upd {K : PySem.W.Frag} {ρ : List Addr} {H : Hp} {a : Addr} {o : HO} (h : H a = none) {d : D} {v : V} (r : RelD K ρ H d v) : RelD K ρ (upd H a o) d v :=
  r.mono (fun _ _ z => z) (fun b xs z => by
    rcases z with (z | ⟨o', z⟩) | z
    · exact .inl (.inl (by rw [upd_ne (ne_of_none z h)]; exact z))
    · exact .inl (.inr ⟨o', by rw [upd_ne (ne_of_none z h)]; exact z⟩)
    · exact .inr z) fun b xs z => by
    rcases z with ⟨o', z⟩ | z
    · exact .inl ⟨o', by rw [upd_ne (ne_of_none z h)]; exact z⟩
    · exact .inr z
section
variable {X : Cx} {cn : Str → Addr} {W : WX} {k : Nat} {c x : Str} {f : Addr} {p pos pos' : Pos} {e : Expr} {el : List Expr} {ml : MA}
theorem raise_go {σ : St} {H1 : Hp} {ρ : List Addr} {τ : T} {g : G} {dw dr : D} {vw vr : V} {a : Addr} {C : Addr} (hC : ErrC X.K C) (hc : C = cn c) (st : Stt (ux X cn) ρ τ g σ H1) (qw : RelD X.K ρ H1 dw vw) (qr : RelD X.K ρ H1 dr vr) (hw : wOk dw = true) (hr : rowOk dr = true) (ha : H1 a = none)
    (h : PostS (ux X cn) W ρ H1 (.ex ⟨c, [("row", dr), ("what", dw)]⟩ τ g) E) : spAE X.K [.ref a, vw, vr] (upd H1 a (exo a C none)) (fun v H2 => v = .non ∧ ∃ (d : Addr) (fs : List (Str × V)), H2 a = some (exo a C (some d)) ∧ H2 d = some (exd d fs) ∧ H1 d = none ∧ W (.ref C) (some d) σ (upd (del H2 a) d (.xd fs))) (fun _ _ _ => False) := by
  refine ⟨a, C, vw, vr, ρ, dw, dr, rfl, hC, upd_same, relD_upd ha qw, relD_upd ha qr, hw, hr, fun dx hd hne => ⟨rfl, dx, [("row", vr), ("what", vw)], ?_, upd_same, ?_, ?_⟩⟩
  · rw [upd_ne (Ne.symm hne), upd_same]
  · rw [upd_ne hne] at hd
    exact hd
  · rw [upd_ne hne] at hd
    have e : upd (del (upd (upd (upd (upd H1 a (exo a C none)) dx (exd dx [("what", vw)])) a (exo a C (some dx))) dx (exd dx [("row", vr), ("what", vw)])) a) dx (.xd [("row", vr), ("what", vw)]) = upd H1 dx (.xd [("row", vr), ("what", vw)]) := by
      funext b
      by_cases h1 : b = dx
      · subst h1; rw [upd_same, upd_same]
      · rw [upd_ne h1, upd_ne h1]
        by_cases h2 : b = a
        · subst h2; rw [del_same, ha]
        · rw [del_ne h2, upd_ne h1, upd_ne h2, upd_ne h1, upd_ne h2]
    rw [e]
    obtain ⟨ev, rp⟩ := Ev.new (o := .xd [("row", vr), ("what", vw)]) st.rep hd
    refine h ρ σ _ _ _ ev (st.later ev rp) ⟨by rw [hc], dx, _, rfl, upd_same, fun z => ?_⟩
    by_cases z1 : z = "row"
    · subst z1
      exact ev.rel st.rep qr
    · by_cases z2 : z = "what"
      · subst z2
        exact ev.rel st.rep qw
      · have e1 : (z == "row") = false := by simpa using z1
        have e2 : (z == "what") = false := by simpa using z2
        simp only [List.lookup, e1, e2]
        trivial
theorem rs_raise1 (F : Fit X W) (D : Err X.prog X.w X.K X.mg X.base k (cn c) f) (hr : Room (k + 1) X.A) (hg : Gl X x) (hm : X.mg x = some (.ref (cn c))) (ha : RA X cn W (e :: el) ml) (hdb : (x == ("__debug__" : Str)) = false := by decide)
    (he : starEach (e :: el) X.env = (false, eval e X.env) :: starEach el X.env := by rfl) (hpl : (backTo pos (starEach el X.env)).any (·.1) = false := by rfl) :
    RS X cn W (.Raise (some (.Call (.Name x p) (e :: el) [] pos)) none pos') (mRaise (exc1 c) ml) := by
  obtain ⟨fd, Fn, b2, b1⟩ := D.fn
  refine psI (ps_raise F.calm F.tk (pmk_oex (dvs := [.non]) D.cls.oex D.ini D.tyi Fn hr b1 (.cons rfl .nil) passL hg hm ha hdb he hpl)) fun E σ H ⟨ρ, τ, g, s, p⟩ => ?_
  refine ⟨ρ, τ, g, s, PostS.thn (Rl := rDs (ux X cn)) p s fun ρ1 vs H1 l g1 e1 r1 q1 s1 p1 => ?_⟩
  cases h : exc1 c l with
  | none => rw [h] at p1; exact p1.elim
  | some x =>
    rw [h] at p1
    unfold exc1 at h
    split at h
    · split at h
      · rename_i w hw
        cases h
        cases q1 with
        | cons q q0 =>
          cases q0
          exact ⟨by simp, fun a ha' => raise_go D.cls rfl s1 q .non hw rfl ha' p1⟩
      · cases h
    · cases h
theorem rs_raise2 (F : Fit X W) (D : Err X.prog X.w X.K X.mg X.base k (cn c) f) (hr : Room (k + 1) X.A) (hg : Gl X x) (hm : X.mg x = some (.ref (cn c))) (ha : RA X cn W (e :: el) ml) (hdb : (x == ("__debug__" : Str)) = false := by decide)
    (he : starEach (e :: el) X.env = (false, eval e X.env) :: starEach el X.env := by rfl) (hpl : (backTo pos (starEach el X.env)).any (·.1) = false := by rfl) :
    RS X cn W (.Raise (some (.Call (.Name x p) (e :: el) [] pos)) none pos') (mRaise (exc2 c) ml) := by
  obtain ⟨fd, Fn, b2, b1⟩ := D.fn
  refine psI (ps_raise F.calm F.tk (pmk_oex (dvs := []) D.cls.oex D.ini D.tyi Fn hr b2 .nil passL hg hm ha hdb he hpl)) fun E σ H ⟨ρ, τ, g, s, p⟩ => ?_
  refine ⟨ρ, τ, g, s, PostS.thn (Rl := rDs (ux X cn)) p s fun ρ1 vs H1 l g1 e1 r1 q1 s1 p1 => ?_⟩
  cases h : exc2 c l with
  | none => rw [h] at p1; exact p1.elim
  | some x =>
    rw [h] at p1
    unfold exc2 at h
    split at h
    · split at h
      · rename_i w r hw
        cases h
        cases q1 with
        | cons q q0 =>
          cases q0 with
          | cons q' q0 =>
            cases q0
            exact ⟨by simp, fun a ha' => raise_go D.cls rfl s1 q q' hw.1 hw.2 ha' p1⟩
      · cases h
    · cases h
end
end RL
namespace RL
open PySem L2 PySem.Spec
open PyProof.Rows (envOfC)
/-! ### try, by the library's rules for it (ps_try_as, ps_try_many) -/
def clrE (i : Nat) (D : Ends) : Ends := { nx := fun σ' H' => D.nx (σ'.set i none) H', rt := D.rt, bk := fun σ' H' => D.bk (σ'.set i none) H', ct := fun σ' H' => D.ct (σ'.set i none) H' }
/-! ### the same over plain computations -/
/-- which classes of errors a clause takes -/
def subE (e c : Str) : Bool := e == c || c == "AccessError"
def clrR (i : Nat) : SR → SR
  | .nx τ g => .nx (τ.set i none) g
  | .bk τ g => .bk (τ.set i none) g
  | .ct τ g => .ct (τ.set i none) g
  | .ex _ _ _ => .bad
  | r => r
def noEx : SR → SR
  | .ex _ _ _ => .bad
  | r => r
abbrev MClause := Str × Option Nat × (Exc → MS)
def hGo (x : Exc) : List MClause → MS
  | [] => fun τ g => .ex x τ g
  | (c, none, ms) :: r => fun τ g => if subE x.cls c = true then noEx (ms x τ g) else hGo x r τ g
  | (c, some i, ms) :: r => fun τ g => if subE x.cls c = true then clrR i (ms x (τ.set i none) g) else hGo x r τ g
def mTry (es : List Str) (l : List MClause) (mb : MS) : MS := fun τ g => match mb τ g with
  | .ex x τ1 g1 => if x.cls ∈ es then hGo x l τ1 g1 else .bad
  | r => r
/-- a suite: what it does with the error x, at a, in slot i -/
def tX (U₀ : U) (es : List Str) (i : Option Nat) (ms : Exc → MS) : Addr → Value → Option Addr → TS := fun a cls d E σ H => ∃ ρ τ g x, x.cls ∈ es ∧ Stt U₀ ρ τ g σ H ∧ XRel U₀ ρ H x cls d ∧ (∀ j, i = some j → j < σ.length → σ[j]? = some (some (.ref a))) ∧ PostS U₀ WN ρ H (ms x τ g) E
section
variable {X : Cx} {cn : Str → Addr} {W : WX} {es : List Str} {body : List Stmt} {pos : Pos} {mb : MS} {U₀ : U}
theorem Stt.held {ρ : List Addr} {τ : T} {g : G} {σ : L2.St} {H : Hp} {i : Nat} {v : V} (s : Stt U₀ ρ τ g σ H) : Stt U₀ ρ (τ.set i Option.none) g (σ.set i (some v)) H := by
  refine ⟨by simp [s.len], fun j d' h => ?_, s.rep⟩
  by_cases hj : i = j
  · subst hj
    have hi : i < τ.length := by
      have := (List.getElem?_eq_some_iff.mp h).1
      simpa using this
    rw [List.getElem?_set_self hi] at h
    cases h
  · rw [List.getElem?_set_ne hj] at h ⊢
    exact s.sl j d' h
theorem noEx_post {ρ : List Addr} {H : Hp} {r : SR} {D : Ends} (p : PostS U₀ W ρ H (noEx r) D) : PostS U₀ WN ρ H r D := by
  cases r with
  | ex x τ g => exact p.elim
  | _ => exact p
theorem clr_post {ρ : List Addr} {H : Hp} {r : SR} {D : Ends} {i : Nat} (p : PostS U₀ W ρ H (clrR i r) D) : PostS U₀ WN ρ H r (clrE i D) := by
  cases r with
  | nx τ g => exact fun ρ' σ' H' e s => p ρ' _ H' e s.none
  | bk τ g => exact fun ρ' σ' H' e s => p ρ' _ H' e s.none
  | ct τ g => exact fun ρ' σ' H' e s => p ρ' _ H' e s.none
  | ex x τ g => exact p.elim
  | _ => exact p
/-- which errors a clause names -/
def CatchOk (X : Cx) (cn : Str → Addr) (es : List Str) (x c : Str) : Prop := Names X x (.ref (cn c)) ∧ ∀ e ∈ es, PySem.W.exmOne X.K (.ref (cn e)) (.ref (cn c)) = some (subE e c)
/-- a suite of a clause follows ms -/
def SuiteOk (X : Cx) (cn : Str → Addr) (es : List Str) (i : Option Nat) (suite : List Stmt) (ms : Exc → MS) : Prop := ∀ (a : Addr) (oe : PySem.Obj) (cls : Value) (d : Option Addr) (pn : List (Addr × PySem.Obj)), Zc cls d oe → (∃ vs, oe.data = .fields vs) → PSs (X.suite a ((a, oe) :: pn)) suite (tX (ux X cn) es i ms a cls d)
theorem try_split {l : List MClause} {τ : T} {g : G} {ρ : List Addr} {H : Hp} {D : Ends} {Wi : WX} (p : PostS (ux X cn) W ρ H (mTry es l mb τ g) D)
    (hw : ∀ (x : Exc) (τ1 : T) (g1 : G) (ρ' : List Addr) (σ' : L2.St) (H' : Hp) (cls : Value) (d : Option Addr), x.cls ∈ es → Stt (ux X cn) ρ' τ1 g1 σ' H' → XRel (ux X cn) ρ' H' x cls d → PostS (ux X cn) W ρ' H' (hGo x l τ1 g1) D → Wi cls d σ' H') : PostS (ux X cn) Wi ρ H (mb τ g) D := by
  unfold mTry at p
  cases h : mb τ g with
  | ex x τ1 g1 =>
    rw [h] at p
    dsimp only at p
    split at p
    · rename_i hx
      exact fun ρ' σ' H' cls d e1 s1 q1 => hw x τ1 g1 ρ' σ' H' cls d hx s1 q1 (PostS.later p e1)
    · exact p.elim
  | _ => rw [h] at p; exact p
/-- one clause with a name -/
theorem rs_tryN {x n c : Str} {i : Nat} {ms : Exc → MS} {b₀ : Stmt} {suite : List Stmt} {np pos' : Pos} (F : Fit X W) (hs : X.stack = X.env :: X.outer) (hf : X.env.frame = some X.env.locals) (hN : X.N.Nodup) (hi : X.N[i]? = some n) (hln : X.env.kindOf n = some .local)
    (hb : ∀ (W' : WX) (pn : List (Addr × PySem.Obj)) (xe : Value → Shared → Prop), Fit (X.tr pn xe) W' → RSs (X.tr pn xe) cn W' body mb) (hc : CatchOk X cn es x c) (hsu : SuiteOk X cn es (some i) (b₀ :: suite) ms) :
    RS X cn W (.Try body [.ExceptHandler (some (.Name x np)) (some n) (b₀ :: suite) pos'] [] [] pos) (mTry es [(c, some i, ms)] mb) := by
  refine psI (ps_try_as (tb := fun W' => tS (ux X cn) W' mb) hs hf hN hi hln hc.1 F.tk (fun W' pn xe tk pw => hb W' pn xe ⟨tk, pw, F.calm⟩) hsu) fun D σ H ⟨ρ, τ, g, s, p⟩ => ⟨ρ, τ, g, s, try_split p fun e τ1 g1 ρ' σ' H' cls d hx s1 q1 p1 => ?_⟩
  have ec := q1.1
  subst ec
  refine ⟨_, hc.2 _ hx, fun hy a ha => ?_, fun hy => ?_⟩
  · unfold hGo at p1
    rw [if_pos hy] at p1
    refine ⟨ρ', τ1.set i none, g1, e, hx, s1.held, q1, fun j z hj => ?_, clr_post p1⟩
    cases z
    rw [List.length_set] at hj
    exact List.getElem?_set_self hj
  · unfold hGo at p1
    rw [hy, if_neg Bool.false_ne_true] at p1
    exact p1 ρ' σ' H' _ _ Ev.refl s1 q1
/-- one clause without a name -/
theorem rs_tryP {x c : Str} {ms : Exc → MS} {b₀ : Stmt} {suite : List Stmt} {np pos' : Pos} (F : Fit X W) (hs : X.stack = X.env :: X.outer) (hf : X.env.frame = some X.env.locals)
    (hb : ∀ (W' : WX) (pn : List (Addr × PySem.Obj)) (xe : Value → Shared → Prop), Fit (X.tr pn xe) W' → RSs (X.tr pn xe) cn W' body mb) (hc : CatchOk X cn es x c) (hsu : SuiteOk X cn es none (b₀ :: suite) ms) :
    RS X cn W (.Try body [.ExceptHandler (some (.Name x np)) none (b₀ :: suite) pos'] [] [] pos) (mTry es [(c, none, ms)] mb) := by
  refine psI (ps_try_many (tb := fun W' => tS (ux X cn) W' mb) hs hf F.tk (fun W' pn xe tk pw => hb W' pn xe ⟨tk, pw, F.calm⟩) (.cons hc.1 hsu .nil)) fun D σ H ⟨ρ, τ, g, s, p⟩ => ⟨ρ, τ, g, s, try_split p fun e τ1 g1 ρ' σ' H' cls d hx s1 q1 p1 => ?_⟩
  have ec := q1.1
  subst ec
  refine ⟨_, hc.2 _ hx, fun hy a ha => ?_, fun hy => ?_⟩
  · unfold hGo at p1
    rw [if_pos hy] at p1
    exact ⟨ρ', τ1, g1, e, hx, s1, q1, fun j z => (by cases z), noEx_post p1⟩
  · unfold hGo at p1
    rw [hy, if_neg Bool.false_ne_true] at p1
    exact p1 ρ' σ' H' _ _ Ev.refl s1 q1
end
end RL
namespace RL
open PySem L2 PySem.Spec
/-! ### the caught error, read in its suite -/
section
variable {U₀ : U} {ρ ρ' : List Addr} {H H' : Hp} {g : G}
theorem Rep.noxd (r : Rep U₀ ρ H g) {a : Addr} {fs : List (Str × V)} (h : H a = some (.xd fs)) : a ∉ ρ := fun m => by
  obtain ⟨i, o, _, _, q⟩ := r.there m
  cases o with
  | lst l => obtain ⟨_, e, _⟩ := q; rw [h] at e; cases e
  | rol l => obtain ⟨_, _, e, _⟩ := q; rw [h] at e; cases e
  | dct k l =>
    cases k with
    | false => obtain ⟨_, e, ⟨_, rfl, _⟩ | ⟨_, rfl, _⟩⟩ := q <;> rw [h] at e <;> cases e
    | true => obtain ⟨_, _, e, _⟩ := q; rw [h] at e; cases e
  | ins c fs => obtain ⟨_, _, e, _⟩ := q; rw [h] at e; cases e
theorem XRel.later {x : Exc} {cls : Value} {d : Option Addr} (q : XRel U₀ ρ H x cls d) (e : Ev ρ H ρ' H') (r : Rep U₀ ρ H g) : XRel U₀ ρ' H' x cls d := by
  obtain ⟨h1, dx, fs, h2, h3, h4⟩ := q
  exact ⟨h1, dx, fs, h2, e.frm _ _ h3 (r.noxd h3), fun f => (h4 f).mono fun z => e.rel r z⟩
end
/-- the error x lies at a, which stands in slot i -/
structure XAt (U₀ : U) (es : List Str) (i : Option Nat) (a : Addr) (cls : Value) (d : Option Addr) (x : Exc) (ρ : List Addr) (σ : L2.St) (H : Hp) : Prop where
  mem : x.cls ∈ es
  rel : XRel U₀ ρ H x cls d
  sl : ∀ j, i = some j → j < σ.length → σ[j]? = some (some (.ref a))
theorem XAt.later {U₀ : U} {es : List Str} {i : Option Nat} {a : Addr} {cls : Value} {d : Option Addr} {x : Exc} {ρ ρ' : List Addr} {σ : L2.St} {H H' : Hp} {g : G} (q : XAt U₀ es i a cls d x ρ σ H) (e : Ev ρ H ρ' H') (r : Rep U₀ ρ H g) : XAt U₀ es i a cls d x ρ' σ H' := ⟨q.mem, q.rel.later e r, q.sl⟩
def tEX (U₀ : U) (es : List Str) (i : Option Nat) (a : Addr) (cls : Value) (d : Option Addr) (m : Exc → ME) : TE := fun σ H Q => ∃ ρ τ g x, XAt U₀ es i a cls d x ρ σ H ∧ Stt U₀ ρ τ g σ H ∧ Post U₀ (rD U₀) WN σ ρ H (m x τ g) Q
def tAX (U₀ : U) (es : List Str) (i : Option Nat) (a : Addr) (cls : Value) (d : Option Addr) (m : Exc → MA) : TA := fun σ H Q => ∃ ρ τ g x, XAt U₀ es i a cls d x ρ σ H ∧ Stt U₀ ρ τ g σ H ∧ Post U₀ (rDs U₀) WN σ ρ H (m x τ g) Q
def mXf (f : Str) : Exc → ME := fun x _ g => optR (x.fs.lookup f) g
def mRetX (m : Exc → ME) : Exc → MS := fun x => mRet (m x)
def ExF (K : PySem.W.Frag) (cn : Str → Addr) (es : List Str) (f : Str) : Prop := ∀ c ∈ es, XfC K (cn c) ∧ PySem.W.findIn K (.ref (cn c)) f = some none
section
variable {X : Cx} {cn : Str → Addr} {es : List Str} {i : Nat} {io : Option Nat} {a : Addr} {oe : PySem.Obj} {cls : Value} {d : Option Addr} {pn : List (Addr × PySem.Obj)} {e e2 : Expr} {el : List Expr} {m m2 : Exc → ME} {ml : Exc → MA} {pos : Pos} {n f : Str}
theorem rex_of {m : ME} (h : RE (X.suite a pn) cn WN e m) : PE (X.suite a pn) e (tEX (ux X cn) es io a cls d fun _ => m) := peI h fun σ H Q ⟨ρ, τ, g, x, xa, st, p⟩ => ⟨ρ, τ, g, st, p⟩
theorem rex_fld {p2 : Pos} (T : ExF X.K cn es f) (hz : Zc cls d oe) (hf : ∃ vs, oe.data = .fields vs) (hi : X.N[i]? = some n) (hv : Vis X.env.scope n) (hb : attributeBase (.Name n p2) f X.env (eval (.Name n p2) X.env) = eval (.Name n p2) X.env := by rfl) (hd : (n == ("__debug__" : Str)) = false := by decide)
    (hcd : (n == ("__classdict__" : Str)) = false := by decide) : PE (X.suite a ((a, oe) :: pn)) (.Attribute (.Name n p2) f pos) (tEX (ux X cn) es (some i) a cls d (mXf f)) := by
  refine ⟨fun pins s σ H Q I ⟨ρ, τ, g, x, xa, st, p⟩ => ?_⟩
  obtain ⟨T1, T2⟩ := T _ xa.mem
  obtain ⟨hc, dx, fs, hdx, hx, hr⟩ := xa.rel
  have hi2 : i < σ.length := by
    rw [I.len]
    exact (List.getElem?_eq_some_iff.mp hi).1
  unfold mXf at p
  cases hl : x.fs.lookup f with
  | none => rw [hl] at p; exact p.elim
  | some dv =>
    rw [hl] at p
    have h4 := hr f
    rw [hl] at h4
    obtain ⟨v, h5, h6⟩ := h4.some_of
    exact (pe_xf (C := cn x.cls) T1 T2 hz hf (pe_var hi hv hd hcd) hb).run pins s σ H Q I ⟨_, xa.sl i rfl hi2, rfl, hc, dx, fs, v, hdx, hx, h5, Post.at (Rl := rD (ux X cn)) p st.rep h6⟩
theorem rax_nil : PA (X.suite a pn) [] (tAX (ux X cn) es io a cls d fun _ => mNil) := paI pa_nil fun σ H Q ⟨ρ, τ, g, x, xa, st, p⟩ => p.at st.rep .nil
theorem rax_cons (ha : PE (X.suite a pn) e (tEX (ux X cn) es io a cls d m)) (hr : PA (X.suite a pn) el (tAX (ux X cn) es io a cls d ml)) (hs : starEach (e :: el) X.env = (false, eval e X.env) :: starEach el X.env := by rfl) : PA (X.suite a pn) (e :: el) (tAX (ux X cn) es io a cls d fun x => mCons (m x) (ml x)) := by
  refine paI (pa_cons ha hr hs) fun σ H Q ⟨ρ, τ, g, x, xa, s, p⟩ => ?_
  refine ⟨ρ, τ, g, x, xa, s, p.thn fun ρ1 v H1 d1 g1 e1 r1 q1 p1 => ?_⟩
  refine ⟨ρ1, τ, g1, x, xa.later e1 s.rep, s.later e1 r1, p1.thn fun ρ2 vs H2 ds g2 e2 r2 q2 p2 => ?_⟩
  exact p2.at r2 (.cons (e2.rel r1 q1) q2)
theorem rex_tup {k} (h : PA (X.suite a pn) el (tAX (ux X cn) es io a cls d ml)) : PE (X.suite a pn) (.Tuple el k pos) (tEX (ux X cn) es io a cls d fun x => mUnA fTup (ml x)) := by
  refine peI (pe_tup h) fun σ H Q ⟨ρ, τ, g, x, xa, s, p⟩ => ⟨ρ, τ, g, x, xa, s, p.thn fun ρ1 vs H1 l g1 e1 r1 q1 p1 => ?_⟩
  obtain ⟨hl, p2⟩ := Post.ck p1
  refine ⟨by rw [← q1.length]; exact Nat.le_trans hl (by rw [sizeLine_eq]; decide), fun p hp => ?_⟩
  obtain ⟨ev, rp⟩ := Ev.new (o := .tup vs) r1 hp
  exact p2 ρ1 _ _ ev rp (.tup (.inl (.inl upd_same)) (ev.rels r1 q1))
theorem rex_isN (ha : PE (X.suite a pn) e (tEX (ux X cn) es io a cls d m)) {j pos'} : PE (X.suite a pn) (.Compare e [.Is] [.Constant .none j pos'] pos) (tEX (ux X cn) es io a cls d fun x => mUn (fIsN true) (m x)) := by
  refine peI (pe_cmp (pc_isN ha)) fun σ H Q ⟨ρ, τ, g, x, xa, st, p⟩ => ⟨ρ, τ, g, x, xa, st, p.thn fun ρ1 v H1 d1 g1 e1 r1 q1 p1 => ?_⟩
  have z : decide (v = V.non) = decide (d1 = RL.D.non) := by cases q1 <;> simp
  rw [z]
  exact p1.at r1 (.bl _)
theorem rex_cmp {op : CmpOp} {r : R2} {f : RL.D → RL.D → M RL.D} (ho : OpR (X.suite a pn) (compareOp op) r) (s : S2 (ux X cn) r f) (ha : PE (X.suite a pn) e (tEX (ux X cn) es io a cls d m)) (hb : PE (X.suite a pn) e2 (tEX (ux X cn) es io a cls d m2)) (hm : behindInMarks op e2 = false) :
    PE (X.suite a pn) (.Compare e [op] [e2] pos) (tEX (ux X cn) es io a cls d fun x => mOp f (m x) (m2 x)) := by
  refine peI (pe_cmpR ho ha hb hm) ?_
  rintro σ H Q ⟨ρ, τ, g, x, xa, st, p⟩
  refine ⟨ρ, τ, g, x, xa, st, p.thn fun ρ1 v H1 d1 g1 e1 r1 q1 p1 => ?_⟩
  refine ⟨ρ1, τ, g1, x, xa.later e1 st.rep, st.later e1 r1, p1.thn fun ρ2 u H2 d2 g2 e2 r2 q2 p2 => ?_⟩
  exact s WN σ ρ2 H2 g2 d1 d2 v u Q r2 (e2.rel r1 q1) q2 p2
theorem rex_and (ha : PE (X.suite a pn) e (tEX (ux X cn) es io a cls d m)) (hb : PE (X.suite a pn) (.BoolOp .And (e2 :: el) pos) (tEX (ux X cn) es io a cls d m2)) : PE (X.suite a pn) (.BoolOp .And (e :: e2 :: el) pos) (tEX (ux X cn) es io a cls d fun x => mAnd (m x) (m2 x)) := by
  refine peI (pe_and ha hb) fun σ H Q ⟨ρ, τ, g, x, xa, s, p⟩ => ⟨ρ, τ, g, x, xa, s, p.thn fun ρ1 v H1 d1 g1 e1 r1 q1 p1 => ?_⟩
  cases q1 <;> first | exact p1.elim | skip
  rename_i k
  refine ⟨k, rfl, ?_⟩
  cases k with
  | true => exact ⟨ρ1, τ, g1, x, xa.later e1 s.rep, s.later e1 r1, p1⟩
  | false => exact p1.at r1 (.bl _)
theorem rex_one {op} (h : PE (X.suite a pn) e (tEX (ux X cn) es io a cls d m)) : PE (X.suite a pn) (.BoolOp op [e] pos) (tEX (ux X cn) es io a cls d m) := pe_one h
theorem rsx_ret (he : PE (X.suite a pn) e (tEX (ux X cn) es io a cls d m)) : PSs (X.suite a pn) [.Return (some e) pos] (tX (ux X cn) es io (mRetX m) a cls d) :=
  pssI (pss_one (ps_ret he)) fun E σ H ⟨ρ, τ, g, x, hx, s, q, sl, p⟩ => ⟨ρ, τ, g, x, ⟨hx, q, sl⟩, s, PostS.thn (Rl := rD (ux X cn)) p s fun ρ1 v H1 d g1 e1 r1 q1 s1 p1 => p1 ρ1 v H1 Ev.refl r1 q1⟩
theorem rsx_of {sl : List Stmt} {ms : MS} (h : RSs (X.suite a pn) cn WN sl ms) : PSs (X.suite a pn) sl (tX (ux X cn) es io (fun _ => ms) a cls d) :=
  pssI h fun E σ H ⟨ρ, τ, g, x, hx, s, q, sl, p⟩ => ⟨ρ, τ, g, s, p⟩
end
end RL
namespace RL
open PySem L2 PySem.Spec
/-! ### types -/
inductive Ty where
  | non | bl | int | str | tup | lst | dct
  deriving DecidableEq
def Ty.name : Ty → String
  | .non => "NoneType"
  | .bl => "bool"
  | .int => "int"
  | .str => "str"
  | .tup => "tuple"
  | .lst => "list"
  | .dct => "dict"
def isaT (t T : Ty) : Bool := decide (t = T) || (decide (t = .bl) && decide (T = .int))
def tyD (g : G) : D → Option Ty
  | .non => some .non
  | .bl _ => some .bl
  | .int _ => some .int
  | .str _ => some .str
  | .tup _ => some .tup
  | .kl _ => some .lst
  | .ref n => match g[n]? with
    | some (.lst _) => some .lst
    | some (.rol _) => some .lst
    | some (.dct _ _) => some .dct
    | _ => none
theorem kit_all : ∀ t T : Ty, T ≠ .non → kitB t.name T.name = some (isaT t T) := by
  intro t T h
  cases T <;> first | exact absurd rfl h | (cases t <;> decide +kernel)
def fIsi (T : Ty) : D → M D := fun x g => match tyD g x with
  | some t => ck (t ≠ .dct ∧ T ≠ .non) (.ok (.bl (isaT t T)) g)
  | none => .bad
section
variable {X : Cx} {cn : Str → Addr} {W : WX} {m : ME} {e : Expr} {p p2 pos : Pos}
theorem re_isi {T : Ty} {x : Str} (hx : x = Str.ofString T.name) (hg : Gl X "isinstance") (hm : X.mg "isinstance" = none) (hgT : Gl X x) (hmT : X.mg x = none) (hv : bootBuiltins x = some (.type T.name)) (he : RE X cn W e m) (hn : x ≠ "__name__" := by decide) (hd : (x == ("__debug__" : Str)) = false := by decide)
    (hs : starEach [e, .Name x p2] X.env = (false, eval e X.env) :: starEach [.Name x p2] X.env := by rfl) (hpl : (backTo pos (starEach [.Name x p2] X.env)).any (·.1) = false := by rfl) : RE X cn W (.Call (.Name "isinstance" p) [e, .Name x p2] [] pos) (mUn (fIsi T) m) := by
  refine peI (pe_callB call_isi hg hm PyProof.Rows.boot_isinstance (pa_cons he (pa_cons (pe_bltn (v := .ty T.name) hgT hmT hv rfl hn hd) pa_nil) hs) (he := hs) (hpl := hpl)) fun σ H Q ⟨ρ, τ, g, s, p⟩ => ⟨ρ, τ, g, s, p.thn fun ρ1 v H1 d g1 e1 r1 q1 p1 => ?_⟩
  unfold fIsi at p1
  split at p1
  · rename_i t ht
    obtain ⟨⟨h1, h2⟩, p2⟩ := Post.ck p1
    have ty : TyX X.K H1 v (.type t.name) := by
      cases q1 with
      | non => cases ht; exact .base .non
      | bl b => cases ht; exact .base (.bl b)
      | int i => cases ht; exact .base (.int i)
      | str hs => cases ht; exact .base (.str _)
      | tup hq _ =>
        cases ht
        rcases hq with (hq | ⟨o, hq⟩) | ⟨o, its, n, hk, hc, _⟩
        · exact .base (.tup hq)
        · exact .fTuple hq
        · exact .kTuple hk hc
      | kl hq _ =>
        cases ht
        rcases hq with ⟨o, hq⟩ | ⟨o, its, n, hk, hc, _⟩
        · exact .base (.frz hq)
        · exact .kList hk hc
      | ref ha =>
        unfold tyD at ht
        dsimp only at ht
        split at ht
        · rename_i l hg
          cases ht
          obtain ⟨xs, h, _⟩ := r1.lst hg ha
          exact .base (.lst h)
        · rename_i l hg
          cases ht
          obtain ⟨xs, o, h, _⟩ := r1.rol hg ha
          exact .base (.frz h)
        · cases ht
          exact absurd rfl h1
        · cases ht
    exact ⟨v, _, _, _, _, rfl, .ty _, ty, kit_ty (kit_all t T h2), Post.at (Rl := rD (ux X cn)) p2 r1 (.bl _)⟩
  · exact p1.elim
end
/-! ### methods of built-in types -/
theorem ty_is {X : Cx} {cn : Str → Addr} {pins : List (Addr × PySem.Obj)} {σ : L2.St} {H : Hp} {s : Shared} {ρ : List Addr} {g : G} {d : D} {v : V} {u : Value} {T : Ty} (I : Inv X pins σ H s) (R : Rep (ux X cn) ρ H g) (q : RelD X.K ρ H d v) (r : RelV v u) (ht : tyD g d = some T) (hT : T = .str ∨ T = .lst ∨ T = .dct) :
    s.TypeIs u T.name ∧ ∀ a, u = .ref a → ∃ ob, s.heap.get? a = some ob ∧ ob.dict = none := by
  cases q with
  | non => cases ht; simp at hT
  | bl b => cases ht; simp at hT
  | int i => cases ht; simp at hT
  | tup _ _ => cases ht; simp at hT
  | kl hq _ =>
    cases ht
    exact tyV_is I r (.inl ⟨rfl, _, hq.seq⟩)
  | str hs =>
    cases ht
    exact tyV_is I r (show tyV X.K "str" (.str _) H from rfl)
  | @ref n a ha =>
    unfold tyD at ht
    dsimp only at ht
    split at ht
    · rename_i l hg
      cases ht
      obtain ⟨xs, h, _⟩ := R.lst hg ha
      exact tyV_is I r (.inl ⟨rfl, xs, .of h⟩)
    · rename_i l hg
      cases ht
      obtain ⟨xs, o, h, _⟩ := R.rol hg ha
      exact tyV_is I r (.inl ⟨rfl, xs, .inl (.inr ⟨o, h⟩)⟩)
    · rename_i lk kvs hg
      cases ht
      cases r
      obtain ⟨w, h1, h2⟩ := R.dct hg ha
      have z : ∃ o, s.heap.get? a = some o ∧ o.ExactDict := by
        rcases h2 with ⟨ks, rfl, _⟩ | ⟨xs, rfl, _⟩
        · obtain ⟨_, _, _, _, o, _, _, e, ex, _⟩ := h1.ok I.hok
          exact ⟨o, e, ex⟩
        · obtain ⟨_, _, _, o, _, _, e, ex, _⟩ := dP_rd I.hok h1
          exact ⟨o, e, ex⟩
      obtain ⟨o, e, ex⟩ := z
      refine ⟨⟨o, e, ex.1⟩, fun a e2 => ?_⟩
      cases e2
      exact ⟨o, e, ex.2.1⟩
    · cases ht
def mBM (T : Ty) (f : D → List D → M D) (o : ME) (a : MA) : ME := fun τ g => (o τ g).bind fun x g1 => ck (tyD g1 x = some T) ((a τ g1).bind fun l g2 => f x l g2)
/-- the built-in's method id follows f -/
def MtD (X : Cx) (cn : Str → Addr) (id : String) (f : D → List D → M D) : Prop := ∀ (W : WX) (pins : List (Addr × PySem.Obj)) (s : Shared) (σ : L2.St) (H : Hp) (x : V) (xs : List V) (v : Value) (us : List Value) (Q : VK) (ρ : List Addr) (g : G) (d : D) (l : List D),
  Inv X pins σ H s → RelV x v → Vals xs us → Rep (ux X cn) ρ H g → RelD X.K ρ H d x → RelDs X.K ρ H l xs → Post (ux X cn) (rD (ux X cn)) W σ ρ H (f d l g) Q → wpAny (model X.prog X.w) X.A (call (.builtin id) (v :: us)) (EP X pins σ Q) X.xe s
section
variable {X : Cx} {cn : Str → Addr} {W : WX} {mo : ME} {ml : MA} {o e : Expr} {es : List Expr} {apos cpos : Pos} {T : Ty} {id : String} {name : Str} {f : D → List D → M D}
theorem re_bm0 (hT : T = .str ∨ T = .lst ∨ T = .dct) (pa : PlainAttrs T.name) (slot : Slot T.name name id) (hty : typeOf (.builtin id) = pure (.type "method_descriptor")) (hm : MtD X cn id f) (ho : RE X cn W o mo)
    (hbase : attributeBase o name X.env (eval o X.env) = eval o X.env := by rfl) (hline : (apos.endLine == cpos.line) = true := by rfl) : RE X cn W (.Call (.Attribute o name apos) [] [] cpos) (mBM T f mo mNil) := by
  refine ⟨fun pins s σ H Q I ⟨ρ, τ, g, st, h⟩ => ?_⟩
  refine wpAny_Call_method0_late hbase hline (thn (ho.run pins s σ H (fun ov H1 => ∃ ρ1 g1 x, Rep (ux X cn) ρ1 H1 g1 ∧ RelD X.K ρ1 H1 x ov ∧ Post (ux X cn) (rD (ux X cn)) W σ ρ1 H1 (ck (tyD g1 x = some T) ((mNil τ g1).bind fun l g2 => f x l g2)) Q) I ⟨ρ, τ, g, st, h.thn fun ρ1 v H1 d g1 e1 r1 q1 p1 => ⟨ρ1, g1, d, r1, q1, p1⟩⟩) fun v s1 ⟨x, H1, I1, rx, ρ1, g1, d, r1, q1, p1⟩ => ?_)
  obtain ⟨ht, p2⟩ := Post.ck p1
  obtain ⟨h1, h2⟩ := ty_is I1 r1 q1 rx ht hT
  exact ⟨T.name, id, pa, slot, hty, h1, h2, Calls.callWith_builtin rfl (PySem.evalArgs_none (hm W pins s1 σ H1 x [] v [] Q ρ1 g1 d [] I1 rx .nil r1 q1 .nil p2))⟩
theorem re_bm (hT : T = .str ∨ T = .lst ∨ T = .dct) (pa : PlainAttrs T.name) (slot : Slot T.name name id) (hty : typeOf (.builtin id) = pure (.type "method_descriptor")) (hm : MtD X cn id f) (ho : RE X cn W o mo) (ha : RA X cn W (e :: es) ml)
    (hbase : attributeBase o name X.env (eval o X.env) = eval o X.env := by rfl)
    (hfew : ((backTo cpos (starEach (e :: es) X.env)).all (fun x => !x.1) && (backToKw cpos (keywordEach [] X.env)).all (fun x => x.1.isSome)
      && decide ((e :: es).length + ([] : List Keyword).length + (if ([] : List Keyword).isEmpty then 0 else 1) < 30)) = true := by rfl)
    (hline : (apos.endLine == cpos.line) = true := by rfl) (hs : starEach (e :: es) X.env = (false, eval e X.env) :: starEach es X.env := by rfl) (hplain : (backTo cpos (starEach es X.env)).any (·.1) = false := by rfl) :
    RE X cn W (.Call (.Attribute o name apos) (e :: es) [] cpos) (mBM T f mo ml) := by
  refine ⟨fun pins s σ H Q I ⟨ρ, τ, g, st, h⟩ => ?_⟩
  refine wpAny_Call_method_late hbase hfew hline rfl (thn (ho.run pins s σ H (fun ov H1 => ∃ ρ1 g1 x, Stt (ux X cn) ρ1 τ g1 σ H1 ∧ RelD X.K ρ1 H1 x ov ∧ Post (ux X cn) (rD (ux X cn)) W σ ρ1 H1 (ck (tyD g1 x = some T) ((ml τ g1).bind fun l g2 => f x l g2)) Q) I ⟨ρ, τ, g, st, h.thn fun ρ1 v H1 d g1 e1 r1 q1 p1 => ⟨ρ1, g1, d, st.later e1 r1, q1, p1⟩⟩) fun v s1 ⟨x, H1, I1, rx, ρ1, g1, d, st1, q1, p1⟩ => ?_)
  obtain ⟨ht, p2⟩ := Post.ck p1
  obtain ⟨h1, h2⟩ := ty_is I1 st1.rep q1 rx ht hT
  refine ⟨T.name, id, pa, slot, hty, h1, h2, ?_⟩
  have hA := ha.run cpos pins s1 σ H1 (fun vs H2 => ∃ ρ2 g2 l, Rep (ux X cn) ρ2 H2 g2 ∧ RelDs X.K ρ2 H2 l vs ∧ RelD X.K ρ2 H2 d x ∧ Post (ux X cn) (rD (ux X cn)) W σ ρ2 H2 (f d l g2) Q) I1 ⟨ρ1, τ, g1, st1, p2.thn fun ρ2 vs H2 l g2 e2 r2 q2 p3 => ⟨ρ2, g2, l, r2, q2, e2.rel st1.rep q1, p3⟩⟩
  rw [hs] at hA ⊢
  refine Calls.callWith_builtin (by show (false || (backTo cpos (starEach es X.env)).any (·.1)) = false; rw [hplain] <;> rfl) (Calls.evalArgs_plain ?_)
  exact thn hA fun us s2 ⟨vs, H2, I2, r2, ρ2, g2, l, rp2, ql, qd, p3⟩ => hm W pins s2 σ H2 x vs v us Q ρ2 g2 d l I2 rx r2 rp2 qd ql p3
/-! list.append, dict.get -/
def fApp : D → List D → M D := fun x l g => match x with
  | .ref n => match g[n]? with
    | some (.lst ys) => match l with
      | [y] => ck (ys.length ≤ 100000) (.ok .non (g.set n (.lst (ys ++ [y]))))
      | _ => .bad
    | _ => .bad
  | _ => .bad
theorem m_app : MtD X cn "list.append" fApp := by
  intro W pins s σ H x xs v us Q ρ g d l I rx rs R qd ql p
  unfold fApp at p
  split at p
  · rename_i n
    split at p
    · rename_i ys hg
      split at p
      · rename_i y
        obtain ⟨hl, p2⟩ := Post.ck p
        cases qd with
        | ref ha =>
          cases ql with
          | cons q0 qn =>
            cases qn
            obtain ⟨zs, h1, h2⟩ := R.lst hg ha
            refine mt_append pins s σ H _ _ v us Q I rx rs ⟨_, zs, _, rfl, rfl, h1, by rw [← h2.length]; exact small_line hl, ?_⟩
            obtain ⟨ev, rp⟩ := Ev.wr (ob := .lst (ys ++ [y])) (o := .lst (zs ++ [_])) R ha (List.getElem?_eq_some_iff.mp hg).1 (fun _ _ z => by rw [h1] at z; cases z) fun e h => ⟨_, h, (e.rels R h2).app (.one (e.rel R q0))⟩
            exact p2 ρ .non _ ev rp .non
      · exact p.elim
    · exact p.elim
  · exact p.elim
theorem re_app (ho : RE X cn W o mo) (ha : RA X cn W (e :: es) ml)
    (hbase : attributeBase o "append" X.env (eval o X.env) = eval o X.env := by rfl)
    (hfew : ((backTo cpos (starEach (e :: es) X.env)).all (fun x => !x.1) && (backToKw cpos (keywordEach [] X.env)).all (fun x => x.1.isSome)
      && decide ((e :: es).length + ([] : List Keyword).length + (if ([] : List Keyword).isEmpty then 0 else 1) < 30)) = true := by rfl)
    (hline : (apos.endLine == cpos.line) = true := by rfl) (hs : starEach (e :: es) X.env = (false, eval e X.env) :: starEach es X.env := by rfl) (hplain : (backTo cpos (starEach es X.env)).any (·.1) = false := by rfl) :
    RE X cn W (.Call (.Attribute o "append" apos) (e :: es) [] cpos) (mBM .lst fApp mo ml) := re_bm (.inr (.inl rfl)) PySem.F.plainAttrs_list PySem.F.slot_list_append PySem.F.type_list_append m_app ho ha hbase hfew hline hs hplain
def fGet : D → List D → M D := fun x l g => match x with
  | .ref n => match g[n]? with
    | some (.dct _ kvs) => match l with
      | [k] => ck (kOk kvs k) (.ok ((dget kvs k).getD .non) g)
      | [k, e] => ck (kOk kvs k) (.ok ((dget kvs k).getD e) g)
      | _ => .bad
    | _ => .bad
  | _ => .bad
theorem m_get (hu : X.A.units + 1 < cLine) : MtD X cn "dict.get" fGet := by
  intro W pins s σ H x xs v us Q ρ g d l I rx rs R qd ql p
  unfold fGet at p
  split at p
  · rename_i n
    split at p
    · rename_i lk kvs hg
      cases qd with
      | ref ha =>
        rename_i a
        cases (show v = Value.ref a from rx)
        split at p
        · rename_i k
          obtain ⟨hk, p2⟩ := Post.ck p
          cases ql with
          | cons q0 qn =>
            cases qn
            cases rs with
            | cons r0 rn =>
              cases rn
              exact v_get1 hu I (view I R hg ha q0 hk) r0 fun v w' s' I' q' rv => ⟨v, H, I', rv, Post.at (Rl := rD (ux X cn)) p2 R q'⟩
        · rename_i k e
          obtain ⟨hk, p2⟩ := Post.ck p
          cases ql with
          | cons q0 qn =>
            cases qn with
            | cons q1 qn =>
              cases qn
              cases rs with
              | cons r0 rn =>
                cases rn with
                | cons r1 rn =>
                  cases rn
                  exact v_get2 hu I (view I R hg ha q0 hk) r0 q1 r1 fun v w' s' I' q' rv => ⟨v, H, I', rv, Post.at (Rl := rD (ux X cn)) p2 R q'⟩
        · exact p.elim
    · exact p.elim
  · exact p.elim
theorem re_get (hu : X.A.units + 1 < cLine) (ho : RE X cn W o mo) (ha : RA X cn W (e :: es) ml)
    (hbase : attributeBase o "get" X.env (eval o X.env) = eval o X.env := by rfl)
    (hfew : ((backTo cpos (starEach (e :: es) X.env)).all (fun x => !x.1) && (backToKw cpos (keywordEach [] X.env)).all (fun x => x.1.isSome)
      && decide ((e :: es).length + ([] : List Keyword).length + (if ([] : List Keyword).isEmpty then 0 else 1) < 30)) = true := by rfl)
    (hline : (apos.endLine == cpos.line) = true := by rfl) (hs : starEach (e :: es) X.env = (false, eval e X.env) :: starEach es X.env := by rfl) (hplain : (backTo cpos (starEach es X.env)).any (·.1) = false := by rfl) :
    RE X cn W (.Call (.Attribute o "get" apos) (e :: es) [] cpos) (mBM .dct fGet mo ml) := re_bm (.inr (.inr rfl)) PySem.F.plainAttrs_dict PySem.F.slot_dict_get PySem.F.type_dict_get (m_get hu) ho ha hbase hfew hline hs hplain
end
end RL
namespace RL
open PySem L2
def mRange1 (a : ME) : MI := fun τ g => (mCons a mNil τ g).bind srcR1
def mRange2 (a b : ME) : MI := fun τ g => (mCons a (mCons b mNil) τ g).bind srcR2
def mRetN : MS := fun _ g => .rt .non g
theorem hu1 {k : Nat} {A : Around} (r : Room k A) : A.units + 1 < cLine := by have := r.un; omega
theorem hu64 {k : Nat} {A : Around} (r : Room k A) : A.units + 64 < cLine := by have := r.un; omega
theorem hu65 {k : Nat} {A : Around} (r : Room k A) : A.units + 65 < cLine := by have := r.un; omega
section
variable {X : Cx} {cn : Str → Addr} {W : WX} {a b : Expr} {ma mb : ME} {pos : Pos}
theorem rt_in (hu : X.A.units + 65 < cLine) (ha : RE X cn W a ma) (hb : RE X cn W b mb) (hm : behindInMarks .In b = false := by rfl) : RT X cn W (.Compare a [.In] [b] pos) (mTest (mOp fIn ma mb)) := rt_cmp (op_inA hu) (s_pure fIn_g fIn_e) ha hb hm
theorem rt_notIn (hu : X.A.units + 65 < cLine) (ha : RE X cn W a ma) (hb : RE X cn W b mb) (hm : behindInMarks .NotIn b = false := by rfl) : RT X cn W (.Compare a [.NotIn] [b] pos) (mTest (mOp fNot ma mb)) := rt_cmp (op_notA hu) (s_pure (fun x y g d g' h => (fNot_in h).choose_spec.2.2) fNot_e) ha hb hm
theorem rt_eq (hu : X.A.units + 64 < cLine) (ha : RE X cn W a ma) (hb : RE X cn W b mb) : RT X cn W (.Compare a [.Eq] [b] pos) (mTest (mOp fEq ma mb)) := rt_cmp (op_eqD hu) s_eq ha hb (nomark _)
theorem rt_ne (hu : X.A.units + 64 < cLine) (ha : RE X cn W a ma) (hb : RE X cn W b mb) : RT X cn W (.Compare a [.NotEq] [b] pos) (mTest (mOp fNe ma mb)) := rt_cmp (op_neD hu) s_ne ha hb (nomark _)
theorem rt_lt (ha : RE X cn W a ma) (hb : RE X cn W b mb) : RT X cn W (.Compare a [.Lt] [b] pos) (mTest (mOp fLt ma mb)) := rt_cmp op_lt s_lt ha hb (nomark _)
theorem rt_le (ha : RE X cn W a ma) (hb : RE X cn W b mb) : RT X cn W (.Compare a [.LtE] [b] pos) (mTest (mOp fLe ma mb)) := rt_cmp op_le s_le ha hb (nomark _)
theorem rt_gt (ha : RE X cn W a ma) (hb : RE X cn W b mb) : RT X cn W (.Compare a [.Gt] [b] pos) (mTest (mOp fGt ma mb)) := rt_cmp op_gt s_gt ha hb (nomark _)
theorem rt_ge (ha : RE X cn W a ma) (hb : RE X cn W b mb) : RT X cn W (.Compare a [.GtE] [b] pos) (mTest (mOp fGe ma mb)) := rt_cmp op_ge s_ge ha hb (nomark _)
end
end RL
namespace RL
open PySem L2
/-! ### plain computations: what their operators give -/
section
variable {g : G}
theorem eqI (i j : Int) : fEq (.int i) (.int j) g = .ok (.bl (decide (i = j))) g := by
  have : fEq (.int i) (.int j) g = ck (gr 20 (.int i) = true ∧ gr 20 (.int j) = true ∧ cm (.int i) (.int j) = true) (.ok (.bl (decide (D.int i = D.int j))) g) := rfl
  rw [this, ck_pos ⟨rfl, rfl, rfl⟩]
  simp
theorem eqS (i j : Str) : fEq (.str i) (.str j) g = .ok (.bl (decide (i = j))) g := by
  have : fEq (.str i) (.str j) g = ck (gr 20 (.str i) = true ∧ gr 20 (.str j) = true ∧ cm (.str i) (.str j) = true) (.ok (.bl (decide (D.str i = D.str j))) g) := rfl
  rw [this, ck_pos ⟨rfl, rfl, rfl⟩]
  simp
theorem eqB (i j : Bool) : fEq (.bl i) (.bl j) g = .ok (.bl (decide (i = j))) g := by
  have : fEq (.bl i) (.bl j) g = ck (gr 20 (.bl i) = true ∧ gr 20 (.bl j) = true ∧ cm (.bl i) (.bl j) = true) (.ok (.bl (decide (D.bl i = D.bl j))) g) := rfl
  rw [this, ck_pos ⟨rfl, rfl, rfl⟩]
  simp
theorem eqN (j : D) (h : j = .non ∨ (∃ s, j = .str s)) : fEq (.non) j g = .ok (.bl (decide (D.non = j))) g := by
  rcases h with rfl | ⟨s, rfl⟩
  · have : fEq .non .non g = ck (gr 20 .non = true ∧ gr 20 .non = true ∧ cm .non .non = true) (.ok (.bl (decide (D.non = D.non))) g) := rfl
    rw [this, ck_pos ⟨rfl, rfl, rfl⟩]
  · have : fEq .non (.str s) g = ck (gr 20 .non = true ∧ gr 20 (.str s) = true ∧ cm .non (.str s) = true) (.ok (.bl (decide (D.non = D.str s))) g) := rfl
    rw [this, ck_pos ⟨rfl, rfl, rfl⟩]
theorem plusI (i j : Int) : fPlus (.int i) (.int j) g = .ok (.int (i + j)) g := rfl
theorem subI (i j : Int) : fSub (.int i) (.int j) g = .ok (.int (i - j)) g := ck_pos trivial _
theorem mulI (i j : Int) (h : (-(2 ^ 64) < i ∧ i < 2 ^ 64) ∨ (-(2 ^ 64) < j ∧ j < 2 ^ 64)) : fMul (.int i) (.int j) g = .ok (.int (i * j)) g := ck_pos h _
theorem modI (i j : Int) (h : 0 < j) : fMod (.int i) (.int j) g = .ok (.int (i % j)) g := ck_pos h _
theorem divI (i j : Int) (h : 0 < j) (h2 : j < 1073741824) : fDiv (.int i) (.int j) g = .ok (.int (i / j)) g := ck_pos ⟨h, h2⟩ _
theorem powI (i j : Int) (h : 0 ≤ j) (h1 : j ≤ 1000000) (h2 : i.natAbs < 2 ^ 64) : fPow (.int i) (.int j) g = .ok (.int (i ^ j.toNat)) g := ck_pos ⟨h, h1, h2⟩ _
theorem ltI (i j : Int) : fLt (.int i) (.int j) g = .ok (.bl (decide (i < j))) g := ck_pos trivial _
theorem leI (i j : Int) : fLe (.int i) (.int j) g = .ok (.bl (decide (i ≤ j))) g := ck_pos trivial _
theorem gtI (i j : Int) : fGt (.int i) (.int j) g = .ok (.bl (decide (j < i))) g := ck_pos trivial _
theorem geI (i j : Int) : fGe (.int i) (.int j) g = .ok (.bl (decide (j ≤ i))) g := ck_pos trivial _
theorem neI (i j : Int) : fNe (.int i) (.int j) g = .ok (.bl (!decide (i = j))) g := by unfold fNe; rw [eqI]
theorem neS (i j : Str) : fNe (.str i) (.str j) g = .ok (.bl (!decide (i = j))) g := by unfold fNe; rw [eqS]
theorem gr_strs : ∀ l : List Str, (l.map D.str).all (gr 20) = true
  | [] => rfl
  | _ :: l => by simp only [List.map_cons, List.all_cons, gr_strs l]; rfl
theorem cm_strs (x : Str) : ∀ l : List Str, ((l.map D.str).all fun z => cm z (.str x)) = true
  | [] => rfl
  | _ :: l => by simp only [List.map_cons, List.all_cons, cm_strs x l]; rfl
theorem mem_strs (x : Str) (l : List Str) : D.str x ∈ l.map D.str ↔ x ∈ l := by simp
theorem in_strs {y : D} {l : List Str} (x : Str) (h : items g y = some (l.map D.str)) : fIn (.str x) y g = .ok (.bl (decide (x ∈ l))) g := by
  unfold fIn
  rw [h]
  dsimp only
  rw [ck_pos ⟨rfl, gr_strs l, cm_strs x l⟩, decide_eq_decide.mpr (mem_strs x l)]
theorem lk_row (w r : D) : List.lookup ("row" : Str) [("row", r), ("what", w)] = some r := rfl
theorem lk_what (w r : D) : List.lookup ("what" : Str) [("row", r), ("what", w)] = some w := rfl
theorem what_row : (("what" : Str) == ("row" : Str)) = false := by decide
/-! step by step -/
theorem ev2 {f : D → D → M D} {a b : ME} {τ : T} {g1 g2 : G} {x y : D} {r : Res D} (ha : a τ g = .ok x g1) (hb : b τ g1 = .ok y g2) (h : f x y g2 = r) : mOp f a b τ g = r := by
  unfold mOp
  rw [ha]
  show (b τ g1).bind _ = r
  rw [hb]
  exact h
theorem evInt {e : ME} {τ : T} {g1 : G} {i : Int} (h : e τ g = .ok (.int i) g1) : mUnA fInt (mCons e mNil) τ g = .ok (.int i) g1 := by
  unfold mUnA mCons
  rw [h]
  rfl
theorem asg_ok {e : ME} {τ : T} {g1 : G} {d : D} {i : Nat} (h : e τ g = .ok d g1) : mAsg e (gN i) τ g = .nx (τ.set i (some d)) g1 := by
  unfold mAsg
  rw [h]
  rfl
theorem if_t {c : MT} {a b : MS} {τ : T} {g1 : G} (h : c τ g = .ok true g1) : mIfS c a b τ g = a τ g1 := by
  unfold mIfS
  rw [h]
  rfl
theorem if_f {c : MT} {a b : MS} {τ : T} {g1 : G} (h : c τ g = .ok false g1) : mIfS c a b τ g = b τ g1 := by
  unfold mIfS
  rw [h]
  rfl
theorem tst {e : ME} {τ : T} {g1 : G} {b : Bool} (h : e τ g = .ok (.bl b) g1) : mTest e τ g = .ok b g1 := by
  unfold mTest
  rw [h]
  rfl
theorem subs_at {n : Nat} {l : List D} {i : Int} {d : D} (h : g[n]? = some (.lst l)) (h2 : L2.atI l i = some d) : fSubs (.ref n) (.int i) g = .ok d g := by
  unfold fSubs items
  dsimp only
  rw [h]
  dsimp only
  rw [h2]
theorem app_at {n : Nat} {l : List D} {d : D} (h : g[n]? = some (.lst l)) (hl : l.length ≤ 100000) : fApp (.ref n) [d] g = .ok .non (g.set n (.lst (l ++ [d]))) := by
  unfold fApp
  dsimp only
  rw [h]
  exact ck_pos hl _
theorem ty_lst {n : Nat} {l : List D} (h : g[n]? = some (.lst l)) : tyD g (.ref n) = some .lst := by
  unfold tyD
  dsimp only
  rw [h]
theorem ty_dct {n : Nat} {k : Bool} {l : List (D × D)} (h : g[n]? = some (.dct k l)) : tyD g (.ref n) = some .dct := by
  unfold tyD
  dsimp only
  rw [h]
theorem drop_ok {e : ME} {τ : T} {g1 : G} {d : D} (h : e τ g = .ok d g1) : mDrop e τ g = .nx τ g1 := by
  unfold mDrop
  rw [h]
  rfl
theorem bm_ok {t : Ty} {f : D → List D → M D} {o : ME} {a : MA} {τ : T} {g1 g2 : G} {x : D} {l : List D} {r : Res D} (ho : o τ g = .ok x g1) (ht : tyD g1 x = some t) (ha : a τ g1 = .ok l g2) (h : f x l g2 = r) : mBM t f o a τ g = r := by
  unfold mBM
  rw [ho]
  show ck _ ((a τ g1).bind _) = r
  rw [ck_pos ht, ha]
  exact h
theorem cons_ok {e : ME} {a : MA} {τ : T} {g1 g2 : G} {d : D} {l : List D} (h : e τ g = .ok d g1) (ha : a τ g1 = .ok l g2) : mCons e a τ g = .ok (d :: l) g2 := by
  unfold mCons
  rw [h]
  show (a τ g1).bind _ = _
  rw [ha]
  rfl
theorem nil_ok {τ : T} : mNil τ g = .ok [] g := rfl
theorem srcR1_ok {n : Nat} (hn : n ≤ 100000) : srcR1 [.int (n : Int)] g = .ok (rng 0 n, none) g := by
  have hz : (n : Int) ≤ 100000 := by omega
  have h0 := Int.natCast_nonneg n
  show ck _ (Res.ok (rng 0 (n : Int).toNat, (none : Option (Nat × Ob))) g) = _
  rw [Int.toNat_natCast]
  generalize (n : Int) = z at hz h0
  refine ck_pos ⟨Int.le_trans ?_ h0, Int.lt_of_le_of_lt hz ?_⟩ _ <;> decide
theorem range1_ok {e : ME} {τ : T} {g1 : G} {n : Nat} (h : e τ g = .ok (.int (n : Int)) g1) (hn : n ≤ 100000) : mRange1 e τ g = .ok (rng 0 n, none) g1 := by
  unfold mRange1
  rw [cons_ok h nil_ok, Res.bind_ok, srcR1_ok hn]
theorem for_ok {mi : MI} {mg : MG} {mb : MS} {τ : T} {g1 : G} {l : List D} {c : Option (Nat × Ob)} (h : mi τ g = .ok (l, c) g1) : mFor mi mg mb τ g = forGo c mg mb l τ g1 := by
  unfold mFor
  rw [h]
  rfl
theorem len_at {n : Nat} {l : List D} (h : g[n]? = some (.lst l)) : fLen [.ref n] g = .ok (.int (l.length : Nat)) g := by
  unfold fLen items
  dsimp only
  rw [h]
theorem una_ok {f : List D → M D} {a : MA} {τ : T} {g1 : G} {l : List D} {r : Res D} (ha : a τ g = .ok l g1) (h : f l g1 = r) : mUnA f a τ g = r := by
  unfold mUnA
  rw [ha]
  exact h
theorem ret_ok {e : ME} {τ : T} {g1 : G} {d : D} (h : e τ g = .ok d g1) : mRet e τ g = .rt d g1 := by
  unfold mRet
  rw [h]
  rfl
theorem plusL {n m : Nat} {l l' : List D} (h : g[n]? = some (.lst l)) (h' : g[m]? = some (.lst l')) (hl : l.length + l'.length ≤ 100000) : fPlus (.ref n) (.ref m) g = .ok (.ref g.length) (g ++ [.lst (l ++ l')]) := by
  unfold fPlus
  dsimp only
  rw [h, h']
  exact ck_pos hl _
theorem call_ok {n : Nat} {es : List D} {mf : List D → M D} {l : List D} {r : Res D} (hn : l.length = n) (h : mf (l ++ es) g = r) : fCall n es mf l g = r := by
  unfold fCall
  rw [ck_pos hn]
  exact h
/-- what is read stands on -/
theorem app_get {o : Ob} {n : Nat} {l : G} (h : g[n]? = some o) : (g ++ l)[n]? = some o := by rw [List.getElem?_append_left (List.getElem?_eq_some_iff.mp h).1]; exact h
theorem end_get {o : Ob} : (g ++ [o])[g.length]? = some o := by simp
/-! steps -/
theorem seq_nx {a b : MS} {τ τ' : T} {g g' : G} (h : a τ g = .nx τ' g') : mSeq a b τ g = b τ' g' := by unfold mSeq; rw [h]
theorem seq_rt {a b : MS} {τ : T} {g g' : G} {d : D} (h : a τ g = .rt d g') : mSeq a b τ g = .rt d g' := by unfold mSeq; rw [h]
theorem seq_ex {a b : MS} {τ τ' : T} {g g' : G} {e : Exc} (h : a τ g = .ex e τ' g') : mSeq a b τ g = .ex e τ' g' := by unfold mSeq; rw [h]
/-- a loop over what stays -/
theorem for_rule {mg : MG} {mb : MS} (I : Nat → T → G → Prop) (Z : SR → Prop) (l : List D) (hs : ∀ i d τ g, l[i]? = some d → I i τ g → ∃ τ1 g1, mg d τ g = .nx τ1 g1 ∧ (match mb τ1 g1 with
    | .nx τ2 g2 => I (i + 1) τ2 g2
    | .ct τ2 g2 => I (i + 1) τ2 g2
    | .bk τ2 g2 => Z (.nx τ2 g2)
    | r => Z r)) (he : ∀ τ g, I l.length τ g → Z (.nx τ g)) {τ : T} (h0 : I 0 τ g) : Z (forGo none mg mb l τ g) := by
  have key : ∀ (n i : Nat) (τ : T) (g : G), l.length - i = n → i ≤ l.length → I i τ g → Z (forGo none mg mb (l.drop i) τ g) := by
    intro n
    induction n with
    | zero =>
      intro i τ g hn hi h
      have : i = l.length := by omega
      subst this
      rw [List.drop_length]
      unfold forGo
      rw [if_pos (show still none _ from trivial)]
      exact he _ _ h
    | succ n ih =>
      intro i τ g hn hi h
      have hlt : i < l.length := by omega
      rw [List.drop_eq_getElem_cons hlt]
      unfold forGo
      rw [if_pos (show still none _ from trivial)]
      obtain ⟨τ1, g1, h1, h2⟩ := hs i l[i] τ g (List.getElem?_eq_getElem hlt) h
      rw [h1]
      dsimp only
      cases hb : mb τ1 g1 with
      | nx τ2 g2 => rw [hb] at h2; exact ih (i + 1) _ _ (by omega) (by omega) h2
      | ct τ2 g2 => rw [hb] at h2; exact ih (i + 1) _ _ (by omega) (by omega) h2
      | bk τ2 g2 => rw [hb] at h2; exact h2
      | rt d g2 => rw [hb] at h2; exact h2
      | ex e τ2 g2 => rw [hb] at h2; exact h2
      | bad => rw [hb] at h2; exact h2
  exact key l.length 0 τ g rfl (Nat.zero_le _) h0
/-- a loop that always runs through -/
theorem for_all {mg : MG} {mb : MS} (I : Nat → T → G → Prop) (l : List D) (hs : ∀ i d τ g, l[i]? = some d → I i τ g → ∃ τ1 g1, mg d τ g = .nx τ1 g1 ∧ ∃ τ2 g2, mb τ1 g1 = .nx τ2 g2 ∧ I (i + 1) τ2 g2) {τ : T} (h0 : I 0 τ g) : ∃ τ' g', forGo none mg mb l τ g = .nx τ' g' ∧ I l.length τ' g' :=
  for_rule I (fun r => ∃ τ' g', r = .nx τ' g' ∧ I l.length τ' g') l (fun i d τ g hd hi => by
    obtain ⟨τ1, g1, h1, τ2, g2, h2, h3⟩ := hs i d τ g hd hi
    exact ⟨τ1, g1, h1, by rw [h2]; exact h3⟩) (fun τ g h => ⟨τ, g, rfl, h⟩) h0
end
end RL
namespace RL
open PySem L2
/-! ### slices of lists -/
/-- a part of a slice, left out or an int -/
abbrev MP := T → M (Option Int)
def rP : RelT (Option Int) (Option Int) := fun _ _ a b => a = b
def tP (U₀ : U) (W : WX) (m : MP) : TO := fun σ H Q => ∃ ρ τ g, Stt U₀ ρ τ g σ H ∧ Post U₀ rP W σ ρ H (m τ g) Q
def RP (X : Cx) (cn : Str → Addr) (W : WX) (e : Option Expr) (m : MP) : Prop := PO X e (tP (ux X cn) W m)
theorem poI {X : Cx} {e : Option Expr} {t t' : TO} (h : PO X e t) (i : ∀ σ H Q, t' σ H Q → t σ H Q) : PO X e t' := ⟨fun pins s σ H Q I q => h.run pins s σ H Q I (i σ H Q q)⟩
def pNo : MP := fun _ g => .ok none g
def pInt (m : ME) : MP := fun τ g => (m τ g).bind fun d g1 => match d with
  | .int i => .ok (some i) g1
  | _ => .bad
/-- from a on, b - a items -/
def cutD (l : List D) (lo hi : Option Int) : List D :=
  let a := HT.sIx l.length 0 lo
  let b := HT.sIx l.length l.length hi
  (l.drop a).take (b - a)
def fSl (x : D) (lo hi : Option Int) : M D := fun g => match x with
  | .tup _ => .bad
  | x => match items g x with
    | some l => .ok (.ref g.length) (g ++ [.lst (cutD l lo hi)])
    | none => .bad
def mSl (a : ME) (b c : MP) : ME := fun τ g => (a τ g).bind fun x g1 => (b τ g1).bind fun lo g2 => (c τ g2).bind fun hi g3 => fSl x lo hi g3
section
variable {X : Cx} {cn : Str → Addr} {W : WX} {a : Expr} {lo hi : Option Expr} {e : Expr} {ma me : ME} {ml mh : MP} {pos p2 : Pos}
theorem rp_no : RP X cn W none pNo := poI po_none fun σ H Q ⟨ρ, τ, g, s, p⟩ => p.at s.rep rfl
theorem rp_int (h : RE X cn W e me) : RP X cn W (some e) (pInt me) := poI (po_some h) fun σ H Q ⟨ρ, τ, g, s, p⟩ => ⟨ρ, τ, g, s, p.thn fun ρ1 v H1 d g1 e1 r1 q1 p1 => by
  cases q1 <;> first | exact p1.elim | exact ⟨_, rfl, p1.at r1 rfl⟩⟩
theorem cut_rel {K : PySem.W.Frag} {ρ : List Addr} {H : Hp} {l : List D} {xs : List V} (r : RelDs K ρ H l xs) (u v : Option Int) : RelDs K ρ H (cutD l u v) (cutV xs u v) := by
  unfold cutD cutV
  rw [r.length]
  exact (r.drop _).take _
theorem re_slice (ha : RE X cn W a ma) (hl : RP X cn W lo ml) (hh : RP X cn W hi mh) : RE X cn W (.Subscript a (.Slice lo hi none p2) pos) (mSl ma ml mh) := by
  refine peI (pe_slice (sl_list (X := X)) ha hl hh) fun σ H Q ⟨ρ, τ, g, s, p⟩ => ⟨ρ, τ, g, s, p.thn fun ρ1 v H1 d g1 e1 r1 q1 p1 => ?_⟩
  refine ⟨ρ1, τ, g1, s.later e1 r1, p1.thn fun ρ2 l H2 l' g2 e2 r2 q2 p2 => ?_⟩
  refine ⟨ρ2, τ, g2, (s.later e1 r1).later e2 r2, p2.thn fun ρ3 u H3 u' g3 e3 r3 q3 p3 => ?_⟩
  cases (show l' = l from q2)
  cases (show u' = u from q3)
  have qd := e3.rel r2 (e2.rel r1 q1)
  have key : ∀ (z : List D), items g3 d = some z → (∀ w, d ≠ .tup w) → Post (ux X cn) (rD (ux X cn)) W σ ρ3 H3 (.ok (.ref g3.length) (g3 ++ [.lst (cutD z l u)])) Q → rSlL X.K v l u H3 Q := by
    intro z hz hn p
    have hs : ∃ a xs, v = .ref a ∧ SqL X.K H3 a xs ∧ RelDs X.K ρ3 H3 z xs := by
      cases qd with
      | tup h1 h2 => exact absurd rfl (hn _)
      | kl h1 h2 =>
        cases hz
        exact ⟨_, _, rfl, h1.seq, h2⟩
      | ref ha =>
        obtain ⟨xs, h1, h2⟩ := items_ref r3 hz ha
        exact ⟨_, xs, rfl, h1, h2⟩
      | _ => cases hz
    obtain ⟨a, xs, rfl, h1, h2⟩ := hs
    refine ⟨a, xs, rfl, h1, fun q hq => ?_⟩
    obtain ⟨ev, rp, len⟩ := Ev.cnt (o := .lst (cutV xs l u)) (ob := .lst (cutD z l u)) r3 hq fun e h => ⟨_, h, cut_rel (e.rels r3 h2) l u⟩
    exact p _ _ _ ev rp (.ref len)
  unfold fSl at p3
  split at p3
  · exact p3.elim
  · rename_i hn
    split at p3
    · rename_i z hz
      exact key z hz hn p3
    · exact p3.elim
end
end RL
namespace RL
open PySem L2
/-! ### dicts as a whole -/
def allS (kvs : List (D × D)) : Bool := kvs.all fun p => match p.1 with
  | .str _ => true
  | _ => false
section
variable {K : PySem.W.Frag} {ρ : List Addr} {H : Hp} {P : Program} {w : World} {a : Addr}
/-- a dict of texts lies as one -/
theorem DctU.texts {kvs : List (D × D)} {u : HO} (h : DctU K ρ H P w a kvs u) (c : allS kvs = true) : ∃ ks, u = .dK ks ∧ RelKs K ρ H kvs ks := by
  rcases h with h | ⟨xs, _, r, ne⟩
  · exact h
  · cases r with
    | nil => exact absurd rfl ne
    | cons _ _ _ _ _ => simp [allS] at c
theorem RelKs.len {kvs : List (D × D)} {ks : List (Key × V)} (r : RelKs K ρ H kvs ks) : kvs.length = ks.length := by
  induction r with
  | nil => rfl
  | cons _ _ _ ih => rw [List.length_cons, List.length_cons, ih]
theorem RelPs.len {kvs : List (D × D)} {ks : List Ent} (r : RelPs K ρ H kvs ks) : kvs.length = ks.length := by
  induction r with
  | nil => rfl
  | cons _ _ _ _ _ ih => rw [List.length_cons, List.length_cons, ih]
theorem RelKs.keys {kvs : List (D × D)} {ks : List (Key × V)} (r : RelKs K ρ H kvs ks) : RelDs K ρ H (kvs.map (·.1)) (ks.map fun kv => kV kv.1) := by
  induction r with
  | nil => exact .nil
  | cons h _ _ ih => exact .cons (.str h) ih
theorem RelPs.keys {kvs : List (D × D)} {ks : List Ent} (r : RelPs K ρ H kvs ks) : RelDs K ρ H (kvs.map (·.1)) (ks.map fun x => V.ref x.2.1) := by
  induction r with
  | nil => exact .nil
  | cons _ h _ _ _ ih => exact .cons h ih
end
/-! list(d) -/
def fList : List D → M D := fun l g => match l with
  | [x] => match items g x with
    | some l => .ok (.ref g.length) (g ++ [.lst l])
    | none => match x with
      | .ref n => match g[n]? with
        | some (.dct _ kvs) => .ok (.ref g.length) (g ++ [.lst (kvs.map (·.1))])
        | _ => .bad
      | _ => .bad
  | _ => .bad
section
variable {X : Cx} {cn : Str → Addr} {W : WX} {pos : Pos} {a : Expr} {ma : ME}
/-- the keys of a dict of tuples -/
theorem list_dP (hc : X.calm = true) {pins : List (Addr × PySem.Obj)} {s : Shared} {σ : St} {H : Hp} {d : Addr} {xs : List Ent} {Q : VK} (I : Inv X pins σ H s) (hd : Rd H d (dP X.prog X.w d xs)) (q : ∀ p, H p = none → Q (.ref p) (upd H p (.lst (xs.map fun x => V.ref x.2.1)))) :
    wpAny (model X.prog X.w) X.A (call (.type "list") [.ref d]) (EP X pins σ Q) X.xe s := by
  obtain ⟨z, lo, nd, o, es, ep, ho, hx, hdt, he⟩ := dP_rd I.hok hd
  have ln : es.size = xs.length := size_of_entries he
  refine PySem.W.kdl_call (kdl_raw lo hx hdt) (I.ok.hd hc) ho (by rw [ln]; exact z) fun h' tk items c' kp new at_ => ?_
  have sz : (xs.map fun x => V.ref x.2.1).length = items.toList.length := by rw [List.length_map, ← ln, ← at_.1, Array.length_toList]
  have vals : Vals (xs.map fun x => V.ref x.2.1) items.toList := vals_of_at sz fun j x v h1 h2 => by
    rw [List.getElem?_map] at h1
    obtain ⟨y, hy, rfl⟩ := Option.map_eq_some_iff.mp h1
    obtain ⟨en, e1, rfl⟩ := at_.2 j v (by rw [← Array.getElem?_toList]; exact h2)
    rw [entry_at he j, hy] at e1
    cases e1
    rfl
  exact ⟨.ref _, _, I.laid (t' := tk) (o := .lst (xs.map fun x => V.ref x.2.1)) kp (Nat.le_refl _) ⟨by rw [List.length_map]; exact z, items.toList, c', vals, new⟩, rfl, q _ (I.hok.fresh (Nat.le_refl _))⟩
def rListA (X : Cx) (cn : Str → Addr) : List V → Hp → VK → Prop := fun xs H Q => (∃ p ys, xs = [.ref p] ∧ (SqL X.K H p ys ∨ SqT X.K H p ys) ∧ ∀ l, H l = none → Q (.ref l) (upd H l (.lst ys))) ∨
  ((∃ (b : Addr) (kvs : List (Key × V)), xs = [.ref b] ∧ Rd H b (.dK kvs) ∧ ∀ p, H p = none → Q (.ref p) (upd H p (.lst (kvs.map fun kv => kV kv.1)))) ∨
  ∃ (b : Addr) (ys : List Ent), xs = [.ref b] ∧ Rd H b (dP X.prog X.w b ys) ∧ ∀ p, H p = none → Q (.ref p) (upd H p (.lst (ys.map fun x => V.ref x.2.1))))
theorem call_listA (hc : X.calm = true) : CallR X (.type "list") (rListA X cn) := by
  intro pins s σ H xs us Q I r h
  rcases h with h | h | ⟨b, ys, rfl, hd, q⟩
  · exact call_list_of pins s σ H xs us Q I r h
  · exact call_listD hc pins s σ H xs us Q I r h
  · obtain ⟨u, rfl, rx⟩ := r.one
    cases rx
    exact list_dP hc I hd q
theorem s_list : SA (ux X cn) (rListA X cn) fList := by
  intro W σ ρ H g x v Q r q p
  unfold fList at p
  split at p
  · rename_i x
    cases q with
    | cons q1 q2 =>
      cases q2
      split at p
      · rename_i l hi
        obtain ⟨xs, ⟨a, rfl, sq⟩, rs⟩ := items_sq r hi q1
        refine .inl ⟨a, xs, rfl, sq, fun t ht => ?_⟩
        obtain ⟨ev, rp, hx⟩ := Ev.cnt (ob := .lst l) (o := .lst xs) r ht fun e h => ⟨_, h, e.rels r rs⟩
        exact p _ _ _ ev rp (.ref hx)
      · split at p
        · split at p
          · rename_i n _ lk kvs hg
            cases q1 with
            | ref ha =>
              obtain ⟨u, h1, h2⟩ := r.dct hg ha
              rcases h2 with ⟨ks, rfl, rk⟩ | ⟨xs, rfl, rk, _⟩
              · refine .inr (.inl ⟨_, ks, rfl, h1, fun t ht => ?_⟩)
                obtain ⟨ev, rp, hx⟩ := Ev.cnt (ob := .lst (kvs.map (·.1))) (o := .lst (ks.map fun kv => kV kv.1)) r ht fun e h => ⟨_, h, e.rels r rk.keys⟩
                exact p _ _ _ ev rp (.ref hx)
              · refine .inr (.inr ⟨_, xs, rfl, h1, fun t ht => ?_⟩)
                obtain ⟨ev, rp, hx⟩ := Ev.cnt (ob := .lst (kvs.map (·.1))) (o := .lst (xs.map fun x => V.ref x.2.1)) r ht fun e h => ⟨_, h, e.rels r rk.keys⟩
                exact p _ _ _ ev rp (.ref hx)
          · exact p.elim
        · exact p.elim
  · exact p.elim
theorem re_listc {p2 : Pos} (hc : X.calm = true) (hg : Gl X "list") (hm : X.mg "list" = none) (ha : RE X cn W a ma) (hs : starEach [a] X.env = (false, eval a X.env) :: starEach [] X.env := by rfl) : RE X cn W (.Call (.Name "list" p2) [a] [] pos) (mUnA fList (mCons ma mNil)) :=
  re_callTy (id := "list") (call_listA (cn := cn) hc) s_list hg hm PyProof.Rows.boot_list (ra_cons ha ra_nil hs) (he := hs)
end
/-! d.update(e), of texts -/
def dupd (kvs more : List (D × D)) : List (D × D) := more.foldl (fun acc p => dput acc p.1 p.2) kvs
def fUpd : D → List D → M D := fun x l g => match x, l with
  | .ref n, [.ref m] => match g[n]?, g[m]? with
    | some (.dct false kvs), some (.dct _ more) => ck (n ≠ m ∧ allS kvs = true ∧ allS more = true ∧ kvs.length + more.length ≤ 100000) (.ok .non (g.set n (.dct false (dupd kvs more))))
    | _, _ => .bad
  | _, _ => .bad
theorem putK_nd {kvs : List (Key × V)} {k : Key} {v : V} (h : (kvs.map (·.1)).Nodup) : ((putK kvs k v).map (·.1)).Nodup := by
  cases e : valV kvs k with
  | none => exact nd_putK v h e
  | some u =>
    have : (kvs.any fun kv => decide (kv.1 = k)) = true := by rw [valV_any, e]; rfl
    unfold putK
    rw [if_pos this, List.map_map]
    have q : ((fun x : Key × V => x.1) ∘ fun kv => if kv.1 = k then (kv.1, v) else kv) = fun kv => kv.1 := by
      funext kv
      simp only [Function.comp]
      split <;> rfl
    rw [q]
    exact h
theorem RelKs.upd {K : PySem.W.Frag} {ρ : List Addr} {H : Hp} {more : List (D × D)} {ms : List (Key × V)} (r : RelKs K ρ H more ms) : ∀ {kvs : List (D × D)} {ks : List (Key × V)}, RelKs K ρ H kvs ks → (ks.map (·.1)).Nodup → RelKs K ρ H (dupd kvs more) (mergeK ks ms) := by
  induction r with
  | nil => exact fun h _ => h
  | cons h rd _ ih => exact fun q nd => ih (RelKs.put rd h q nd) (putK_nd nd)
theorem s_upd {X : Cx} {cn : Str → Addr} : MtD X cn "dict.update" fUpd := by
  intro W pins s σ H x xs v us Q ρ g d l I rx rs R qd ql p
  unfold fUpd at p
  split at p
  · rename_i n m
    split at p
    · rename_i kvs lk more hn hm
      obtain ⟨⟨ne, c1, c2, hz⟩, p2⟩ := Post.ck p
      cases qd with
      | @ref _ a ha =>
        cases (show v = Value.ref a from rx)
        cases ql with
        | cons q0 qn =>
          cases qn
          cases q0 with
          | @ref _ b hb =>
            obtain ⟨u, rfl, ru⟩ := rs.one
            cases ru
            obtain ⟨u1, h1, d1⟩ := R.obs n _ a hn ha
            obtain ⟨ks, rfl, r1⟩ := d1.texts c1
            obtain ⟨u2, h2, d2⟩ := R.dct hm hb
            obtain ⟨ms, rfl, r2⟩ := d2.texts c2
            obtain ⟨z1, lo1, vs1, rel1, dd1⟩ := dk_of I.hok h1
            obtain ⟨z2, lo2, vs2, rel2, dd2⟩ := dk_rd I.hok h2
            have nab : a ≠ b := fun e => ne (ndix R.nod ha (by rw [e]; exact hb))
            have lz : ks.length + ms.length ≤ 100000 := by rw [← r1.len, ← r2.len]; exact hz
            have nd : (ks.map (·.1)).Nodup := by
              rw [rel1.keys]
              obtain ⟨_, _, _, _, _, _, _, _, nd⟩ := dd1
              exact nd
            refine call_meetsIn PySem.F.slot_dict_update dd1.typeIs PySem.F.entry_dict_update (PySem.F.args_dict_update_2 _ _) (meets_dict_update (mixKind X.prog X.w) a b nab lo2)
              ⟨vs1, vs2, dd1, dd2, by rw [← rel1.length, ← rel2.length]; exact Nat.le_of_lt (small_line lz), fun h' e1 e2 sb => ?_⟩
            have hz' : (mergeK ks ms).length ≤ sizeLine := Nat.le_trans (length_mergeK ms ks) (Nat.le_of_lt (small_line lz))
            have he : ∃ q, h'.get? a = some q := let ⟨q, _, _, hq, _⟩ := e1; ⟨q, hq⟩
            obtain ⟨ev, rp⟩ := Ev.wr (ob := .dct false (dupd kvs more)) (o := .dK (mergeK ks ms)) R ha (List.getElem?_eq_some_iff.mp hn).1 (fun _ _ z => by rw [h1] at z; cases z) fun e h => ⟨_, h, .inl ⟨_, rfl, (r2.upd r1 nd).mono fun z => e.rel R z⟩⟩
            exact ⟨.non, _, d_write I (by rw [h1]; exact True.intro) sb he (dk_new hz' lo1 (rel2.merge rel1) e1), rfl, p2 _ _ _ ev rp .non⟩
    · exact p.elim
  · exact p.elim
section
variable {X : Cx} {cn : Str → Addr} {W : WX} {mo : ME} {ml : MA} {o e : Expr} {es : List Expr} {apos cpos : Pos}
theorem re_upd (ho : RE X cn W o mo) (ha : RA X cn W (e :: es) ml)
    (hbase : attributeBase o "update" X.env (eval o X.env) = eval o X.env := by rfl)
    (hfew : ((backTo cpos (starEach (e :: es) X.env)).all (fun x => !x.1) && (backToKw cpos (keywordEach [] X.env)).all (fun x => x.1.isSome)
      && decide ((e :: es).length + ([] : List Keyword).length + (if ([] : List Keyword).isEmpty then 0 else 1) < 30)) = true := by rfl)
    (hline : (apos.endLine == cpos.line) = true := by rfl) (hs : starEach (e :: es) X.env = (false, eval e X.env) :: starEach es X.env := by rfl) (hplain : (backTo cpos (starEach es X.env)).any (·.1) = false := by rfl) :
    RE X cn W (.Call (.Attribute o "update" apos) (e :: es) [] cpos) (mBM .dct fUpd mo ml) := re_bm (.inr (.inr rfl)) PySem.F.plainAttrs_dict PySem.F.slot_dict_update PySem.F.type_dict_update s_upd ho ha hbase hfew hline hs hplain
end
end RL
namespace RL
open PySem L2
/-! ### loops over the keys of a dict, which is locked meanwhile -/
/-- what is known of a locked dict -/
structure Lk (s : Shared) (d : Addr) (o : PySem.Obj) (ks : List V) : Prop where
  lo : (d == sysModules) = false
  here : s.heap.get? d = some o
  exact : o.ExactDict
  ent : ∃ es ep, o.data = .dict es ep ∧ es.size = ks.length ∧ ∀ (i : Nat) (v : V), ks[i]? = some v → ∃ en : DictEntry, es[i]? = some en ∧ RelV v en.key
section
variable {X : Cx} {cn : Str → Addr} {pins : List (Addr × PySem.Obj)} {σ : St} {H : Hp} {s : Shared} {d : Addr} {o : PySem.Obj} {ρ : List Addr}
theorem lk_dK {ks : List (Key × V)} (I : Inv X pins σ H s) (h : H d = some (.frz o (.dK ks))) : Lk s d o (ks.map fun kv => kV kv.1) := by
  obtain ⟨lo, here, ex, es, ep, vs, hdt, hsz, kv, hm⟩ := I.frzK h
  refine ⟨lo, here, ex, es, ep, hdt, by rw [List.length_map]; exact hsz, fun i v e => ?_⟩
  obtain ⟨q, e1, e2, e3, e4, e5, e6⟩ := hm
  rw [here] at e2
  cases e2
  rw [hdt] at e4
  cases e4
  rw [List.getElem?_map] at e
  obtain ⟨⟨k, w⟩, h1, rfl⟩ := Option.map_eq_some_iff.mp e
  obtain ⟨u, hu, _⟩ := kv_get kv h1
  have l2 : i < es.size := by rw [hsz]; exact (List.getElem?_eq_some_iff.mp h1).1
  exact ⟨es[i], Array.getElem?_eq_getElem l2, relV_key (e6.1.get? (e := es[i]) (by simp [l2]) hu).1⟩
theorem lk_dP {xs : List Ent} (I : Inv X pins σ H s) (h : H d = some (.frz o (dP X.prog X.w d xs))) : Lk s d o (xs.map fun x => V.ref x.2.1) := by
  obtain ⟨here, r, _⟩ := I.hok d _ h
  obtain ⟨_, lo, _, o', es, ep, ho, ex, hdt, he⟩ := r
  rw [here] at ho
  cases ho
  refine ⟨lo, here, ex, es, ep, hdt, by rw [List.length_map]; exact size_of_entries he, fun i v e => ?_⟩
  rw [List.getElem?_map] at e
  obtain ⟨y, hy, rfl⟩ := Option.map_eq_some_iff.mp e
  exact ⟨entryOfKey (tk X.prog X.w) y, by rw [entry_at he i, hy]; rfl, rfl⟩
/-- the keys, one after the other: nothing changes but the iterator -/
def Itx (d : Addr) (o : PySem.Obj) (u : HO) (ks : List V) : It where
  go i H := H d = some (.frz o u) ∧ i < ks.length
  yld i H x H' := H' = H ∧ ks[i]? = some x
  stop i H := H d = some (.frz o u) ∧ ks.length ≤ i
theorem turn_x {P : Program} {w : World} {K : PySem.W.Frag} {tg : Expr} {u : HO} {ks : List V} {it : Addr} {es : Array DictEntry} {ep : Nat} (hd : o.data = .dict es ep) (hn : es.size = ks.length) (hk : ∀ (i : Nat) (v : V), ks[i]? = some v → ∃ en : DictEntry, es[i]? = some en ∧ RelV v en.key) :
    Turn P w K tg (Itx d o u ks) [it] it fun i h => h.IsKeyIter it d i ks.length ep := by
  have one : ∀ {b : Addr}, b ∈ [it] → b = it := fun hb => by simpa using hb
  refine ⟨List.mem_singleton.mpr rfl, ?obj, ?keep, ?item, ?fin, fun A i s Q E st q => wpAny_pyIter_keyiter st q⟩
  case obj =>
    rintro i h ⟨ob, e1, _, e2⟩ b hb
    rw [one hb]
    exact ⟨ob, e1, fun v z => by rw [e2] at z; cases z⟩
  case keep => exact fun i h h' st all => st.at fun ob e => all it (List.mem_singleton.mpr rfl) ob e
  case item =>
    rintro X rfl rfl rfl _ i pins s σ H E I fr st ⟨hf, lt⟩
    obtain ⟨a0, a1, a2, a3, a4, a5⟩ := fr it (List.mem_singleton.mpr rfl)
    obtain ⟨en, e1, e2⟩ := hk i ks[i] (List.getElem?_eq_getElem lt)
    refine next_key_item st (I.hok d _ hf).1 hd hn e1 fun h' st' but => ⟨_, rfl, ?_⟩
    obtain ⟨ob, b1, b2, b3⟩ := id st'
    refine go_of (s := { s with heap := h' }) b1 b2 b3 (by decide) ⟨ks[i], H, ?_, e2, ⟨rfl, List.getElem?_eq_getElem lt⟩, st', fun b hb => by rw [one hb]; exact a0⟩
    exact I.turned (t' := s.toks) (fun b ob ne e => (but.2 b ne).trans e) a0 a1 a3 a4 a5
  case fin =>
    rintro X rfl rfl rfl calm i pins s σ H E I fr st ⟨hf, ge⟩
    obtain ⟨a0, a1, a2, a3, a4, a5⟩ := fr it (List.mem_singleton.mpr rfl)
    exact next_key_end (I.ok.hd calm) st (I.hok d _ hf).1 hd hn ge fun h' ext => ⟨rfl, I.turned (t' := s.toks) (fun b ob ne e => ext b ob ne e) a0 a1 a3 a4 a5⟩
end
/-- the keys of a locked dict -/
def srcKeys : D → M Src := fun x g => match x with
  | .ref n => match g[n]? with
    | some (.dct true kvs) => .ok (kvs.map (·.1), some (n, .dct true kvs)) g
    | _ => .bad
  | _ => .bad
def mKeysI (m : ME) : MI := fun τ g => (m τ g).bind srcKeys
theorem drw_x {u : U} {ρ : List Addr} {H : Hp} {g : G} {n : Nat} {a : Addr} {o : PySem.Obj} {h : HO} {l : List D} {ks : List V} {ob : Ob} (R : Rep u ρ H g) (hH : H a = some (.frz o h)) (rs : RelDs u.K ρ H l ks) : Drw u ρ H (l, some (n, ob)) (Itx a o h ks) := by
  refine ⟨fun ρ' H' g' i d ev r _ hd => ?_, fun ρ' H' g' ev r _ => ⟨ev.frz _ _ _ hH, by rw [← rs.length]; exact Nat.le_refl _⟩⟩
  obtain ⟨v, h1, h2⟩ := (ev.rels R rs).get hd
  refine ⟨⟨ev.frz _ _ _ hH, (List.getElem?_eq_some_iff.mp h1).1⟩, fun x H2 ⟨e, q⟩ => ?_⟩
  subst e
  rw [h1] at q
  cases q
  exact ⟨Ev.refl, r, h2, fun _ _ z => z⟩
section
variable {X : Cx} {cn : Str → Addr} {W : WX} {tg iter : Expr} {m : ME}
def iKx (X : Cx) (t : TE) : TI := fun σ H R => t σ H fun x H1 => ∃ d o u ks, x = .ref d ∧ H1 d = some (.frz o u) ∧ ((∃ kv, u = .dK kv ∧ ks = kv.map fun z => kV z.1) ∨ ∃ xs, u = dP X.prog X.w d xs ∧ ks = xs.map fun z => V.ref z.2.1) ∧ R (Itx d o u ks) H1
theorem pi_x {t : TE} (h : PE X iter t) : PI X tg iter (iKx X t) := by
  refine ⟨fun pins s σ H R I q => thn (h.run pins s σ H _ I q) fun v s1 ⟨x, H1, I1, rx, d, o, u, ks, e, hf, c, q1⟩ => ?_⟩
  subst e
  obtain rfl : v = Value.ref d := rx
  have L : Lk s1 d o ks := by
    rcases c with ⟨kv, rfl, rfl⟩ | ⟨xs, rfl, rfl⟩
    · exact lk_dK I1 hf
    · exact lk_dP I1 hf
  obtain ⟨lo, here, ex, es, ep, hdt, hn, hk⟩ := L
  refine iter_keys lo here ex hdt (pi_one (tk := s1.toks) I1 _ (turn_x hdt hn hk) ⟨_, Heap.get?_push_size _ rfl, rfl, ?_⟩ q1)
  rw [← hn]
  rfl
theorem ri_keys (h : RE X cn W iter m) : RI X cn W tg iter (mKeysI m) := by
  refine piI (pi_x h) fun σ H R ⟨ρ, τ, g, s, p⟩ => ⟨ρ, τ, g, s, p.thn fun ρ1 v H1 d g1 e1 r1 q1 p1 => ?_⟩
  unfold srcKeys at p1
  split at p1
  · rename_i n
    split at p1
    · rename_i kvs hg
      cases q1 with
      | @ref _ a ha =>
        obtain ⟨u, o, h1, h2⟩ := r1.obs n _ a hg ha
        rcases h2 with ⟨ks, rfl, rk⟩ | ⟨xs, rfl, rk, _⟩
        · exact ⟨a, o, _, _, rfl, h1, .inl ⟨ks, rfl, rfl⟩, Post.at (Rl := rI (ux X cn)) p1 r1 (drw_x r1 h1 rk.keys)⟩
        · exact ⟨a, o, _, _, rfl, h1, .inr ⟨xs, rfl, rfl⟩, Post.at (Rl := rI (ux X cn)) p1 r1 (drw_x r1 h1 rk.keys)⟩
    · exact p1.elim
  · exact p1.elim
end
/-! the lock -/
def lockAt (m : ME) (τ : T) (g : G) : Option (Nat × List (D × D)) := match m τ g with
  | .ok (.ref n) _ => match g[n]? with
    | some (.dct false kvs) => some (n, kvs)
    | _ => none
  | _ => none
theorem lockAt_some {m : ME} {τ : T} {g : G} {n : Nat} {kvs : List (D × D)} (h : lockAt m τ g = some (n, kvs)) : g[n]? = some (.dct false kvs) := by
  unfold lockAt at h
  split at h
  · split at h
    · rename_i hg
      cases h
      exact hg
    · cases h
  · cases h
def unlG (n : Nat) (kvs : List (D × D)) (g : G) : Option G := if g[n]? = some (.dct true kvs) then some (g.set n (.dct false kvs)) else none
def unlS (n : Nat) (kvs : List (D × D)) : SR → SR
  | .nx τ g => match unlG n kvs g with
    | some g' => .nx τ g'
    | none => .bad
  | .rt d g => match unlG n kvs g with
    | some g' => .rt d g'
    | none => .bad
  | .bk τ g => match unlG n kvs g with
    | some g' => .bk τ g'
    | none => .bad
  | .ct τ g => match unlG n kvs g with
    | some g' => .ct τ g'
    | none => .bad
  | _ => .bad
def mLockS (m : ME) (b : MS) : MS := fun τ g => match lockAt m τ g with
  | some (n, kvs) => unlS n kvs (b τ (g.set n (.dct true kvs)))
  | none => .bad
def unlE {α : Type} (n : Nat) (kvs : List (D × D)) : Res α → Res α
  | .ok d g => match unlG n kvs g with
    | some g' => .ok d g'
    | none => .bad
  | _ => .bad
def mLockE (m : ME) (b : ME) : ME := fun τ g => match lockAt m τ g with
  | some (n, kvs) => unlE n kvs (b τ (g.set n (.dct true kvs)))
  | none => .bad
section
variable {U₀ : U} {ρ ρ' : List Addr} {H H' : Hp} {g g' : G} {n : Nat} {a : Addr} {kvs : List (D × D)} {o : HO} {od : PySem.Obj}
theorem DctU.mut {K : PySem.W.Frag} {P : Program} {w : World} (h : DctU K ρ H P w a kvs o) : Mut (some o) := by
  rcases h with ⟨ks, rfl, _⟩ | ⟨ks, rfl, _⟩ <;> exact True.intro
theorem lock_rep (R : Rep U₀ ρ H g) (hn : g[n]? = some (.dct false kvs)) (ha : ρ[n]? = some a) (hH : H a = some o) (q : DctU U₀.K ρ H U₀.P U₀.w a kvs o) (od : PySem.Obj) :
    Ev ρ H ρ (upd H a (.frz od o)) ∧ Rep U₀ ρ (upd H a (.frz od o)) (g.set n (.dct true kvs)) :=
  Ev.wr (ob := .dct true kvs) (o := .frz od o) R ha (List.getElem?_eq_some_iff.mp hn).1 (fun o' x z => by
    rw [hH] at z
    cases z
    exact q.mut) fun e h => ⟨o, od, h, q.mono fun z => e.rel R z⟩
/-- behind it all is as if there had been no lock -/
theorem unlock_rep (R : Rep U₀ ρ H g) (hn : g[n]? = some (.dct false kvs)) (ha : ρ[n]? = some a) (hH : H a = some o) (q : DctU U₀.K ρ H U₀.P U₀.w a kvs o) (ev : Ev ρ (upd H a (.frz od o)) ρ' H') (R' : Rep U₀ ρ' H' g') {g2 : G} (hg2 : unlG n kvs g' = some g2) :
    H' a = some (.frz od o) ∧ Ev ρ H ρ' (upd H' a o) ∧ Rep U₀ ρ' (upd H' a o) g2 ∧ ∀ {d : D} {v : V}, RelD U₀.K ρ' H' d v → RelD U₀.K ρ' (upd H' a o) d v := by
  unfold unlG at hg2
  split at hg2
  · rename_i hn'
    cases hg2
    have ma : a ∈ ρ := List.mem_of_getElem? ha
    have mu := q.mut
    have h1 : H' a = some (.frz od o) := ev.frz _ _ _ upd_same
    have ha' : ρ'[n]? = some a := ev.ix n a ha
    have notup : ∀ xs, o ≠ .tup xs := fun xs z => by rw [z] at mu; exact mu
    have nolst : ∀ xs, o ≠ .lst xs := fun xs z => by
      rcases q with ⟨_, e, _⟩ | ⟨_, e, _⟩ <;> rw [e] at z <;> cases z
    have mo : ∀ {d : D} {v : V}, RelD U₀.K ρ' H' d v → RelD U₀.K ρ' (upd H' a o) d v := fun z => z.mono (fun _ _ z => z) (fun b ys z => by
      rcases z with (z | ⟨ob, z⟩) | z
      · exact .inl (.inl (by rw [upd_ne (fun (e : b = a) => by rw [e, h1] at z; cases z)]; exact z))
      · exact .inl (.inr ⟨ob, by rw [upd_ne (fun (e : b = a) => by rw [e, h1] at z; cases z; exact notup _ rfl)]; exact z⟩)
      · exact .inr z) fun b ys z => by
      rcases z with ⟨ob, z⟩ | z
      · exact .inl ⟨ob, by rw [upd_ne (fun (e : b = a) => by rw [e, h1] at z; cases z; exact nolst _ rfl)]; exact z⟩
      · exact .inr z
    have up : ∀ {b : Addr}, b ≠ a → (upd H a (.frz od o)) b = H b := fun ne => upd_ne ne
    refine ⟨h1, ⟨?_, fun b z => ?_, fun b u z nm => ?_, fun b u x z => ?_⟩, ⟨by rw [List.length_set]; exact R'.len, R'.nod, fun i ob b e1 e2 => ?_⟩, mo⟩
    · obtain ⟨new, e, h⟩ := ev.pre
      refine ⟨new, e, fun b m => ?_⟩
      have z := h b m
      have ne : b ≠ a := fun e => by rw [e, upd_same] at z; cases z
      rwa [up ne] at z
    · have ne : b ≠ a := fun e => by rw [e, upd_same] at z; cases z
      rw [upd_ne ne] at z
      have y := ev.liv b z
      rwa [up ne] at y
    · have ne : b ≠ a := fun e => nm (by rw [e]; exact ma)
      rw [upd_ne ne]
      exact ev.frm b u (by rw [up ne]; exact z) nm
    · have ne : b ≠ a := fun e => by
        rw [e, hH] at z
        cases z
        exact mu
      rw [upd_ne ne]
      exact ev.frz b u x (by rw [up ne]; exact z)
    · by_cases hi : i = n
      · subst hi
        rw [ha'] at e2
        cases e2
        rw [List.getElem?_set_self (List.getElem?_eq_some_iff.mp hn').1] at e1
        cases e1
        obtain ⟨u', od', h2, h3⟩ := R'.obs i _ a hn' ha'
        rw [h1] at h2
        cases h2
        exact ⟨o, upd_same, h3.mono mo⟩
      · rw [List.getElem?_set_ne (Ne.symm hi)] at e1
        have ne : b ≠ a := fun e => by
          subst e
          exact hi (ndix R'.nod e2 ha')
        exact (R'.obs i ob b e1 e2).mono mo (by rw [upd_ne ne])
  · cases hg2
end
section
variable {X : Cx} {cn : Str → Addr} {W : WX} {st : Stmt} {e : Expr} {m b : ME} {ms : MS}
theorem rs_lock (m : ME) (h : RS X cn W st ms) : RS X cn W st (mLockS m ms) := by
  refine psI (ps_lock h) fun E σ H ⟨ρ, τ, g, s, p⟩ => ?_
  unfold mLockS at p
  split at p
  · rename_i n kvs hl
    have hn := lockAt_some hl
    obtain ⟨a, ha, o, hH, q⟩ := s.rep.addr hn
    refine ⟨a, o, hH, q.mut, fun od => ?_⟩
    obtain ⟨ev, R⟩ := lock_rep s.rep hn ha hH q od
    refine ⟨ρ, τ, _, s.later ev R, ?_⟩
    revert p
    cases ms τ (g.set n (.dct true kvs)) with
    | nx τ' g' =>
      intro p ρ' σ' H' e1 s1
      dsimp only [unlS] at p
      cases hu : unlG n kvs g' with
      | none => rw [hu] at p; exact p.elim
      | some g2 =>
        rw [hu] at p
        obtain ⟨z1, z2, z3, z4⟩ := unlock_rep s.rep hn ha hH q e1 s1.rep hu
        exact ⟨z1, p ρ' σ' _ z2 ⟨s1.len, fun i d hd => let ⟨v, y1, y2⟩ := s1.sl i d hd; ⟨v, y1, z4 y2⟩, z3⟩⟩
    | bk τ' g' =>
      intro p ρ' σ' H' e1 s1
      dsimp only [unlS] at p
      cases hu : unlG n kvs g' with
      | none => rw [hu] at p; exact p.elim
      | some g2 =>
        rw [hu] at p
        obtain ⟨z1, z2, z3, z4⟩ := unlock_rep s.rep hn ha hH q e1 s1.rep hu
        exact ⟨z1, p ρ' σ' _ z2 ⟨s1.len, fun i d hd => let ⟨v, y1, y2⟩ := s1.sl i d hd; ⟨v, y1, z4 y2⟩, z3⟩⟩
    | ct τ' g' =>
      intro p ρ' σ' H' e1 s1
      dsimp only [unlS] at p
      cases hu : unlG n kvs g' with
      | none => rw [hu] at p; exact p.elim
      | some g2 =>
        rw [hu] at p
        obtain ⟨z1, z2, z3, z4⟩ := unlock_rep s.rep hn ha hH q e1 s1.rep hu
        exact ⟨z1, p ρ' σ' _ z2 ⟨s1.len, fun i d hd => let ⟨v, y1, y2⟩ := s1.sl i d hd; ⟨v, y1, z4 y2⟩, z3⟩⟩
    | rt d g' =>
      intro p ρ' v H' e1 r1 q1
      dsimp only [unlS] at p
      cases hu : unlG n kvs g' with
      | none => rw [hu] at p; exact p.elim
      | some g2 =>
        rw [hu] at p
        obtain ⟨z1, z2, z3, z4⟩ := unlock_rep s.rep hn ha hH q e1 r1 hu
        exact ⟨z1, p ρ' v _ z2 z3 (z4 q1)⟩
    | ex x τ' g' => exact fun p => p.elim
    | bad => exact fun p => p.elim
  · exact p.elim
theorem re_lock (m : ME) (h : RE X cn W e b) : RE X cn W e (mLockE m b) := by
  refine peI (pe_lock h) fun σ H Q ⟨ρ, τ, g, s, p⟩ => ?_
  unfold mLockE at p
  split at p
  · rename_i n kvs hl
    have hn := lockAt_some hl
    obtain ⟨a, ha, o, hH, q⟩ := s.rep.addr hn
    refine ⟨a, o, hH, q.mut, fun od => ?_⟩
    obtain ⟨ev, R⟩ := lock_rep s.rep hn ha hH q od
    refine ⟨ρ, τ, _, s.later ev R, ?_⟩
    revert p
    cases b τ (g.set n (.dct true kvs)) with
    | ok d g' =>
      intro p ρ' v H' e1 r1 q1
      dsimp only [unlE] at p
      cases hu : unlG n kvs g' with
      | none => rw [hu] at p; exact p.elim
      | some g2 =>
        rw [hu] at p
        obtain ⟨z1, z2, z3, z4⟩ := unlock_rep s.rep hn ha hH q e1 r1 hu
        exact ⟨z1, p ρ' v _ z2 z3 (z4 q1)⟩
    | exc x g' => exact fun p => p.elim
    | bad => exact fun p => p.elim
  · exact p.elim
end
end RL
namespace RL
open PySem L2
/-! ### dict displays: keys are texts -/
def mPairs : List (ME × ME) → T → M (List (D × D))
  | [], _ => fun g => .ok [] g
  | (mk, mv) :: r, τ => fun g => (mk τ g).bind fun k g1 => (mv τ g1).bind fun v g2 => (mPairs r τ g2).bind fun l g3 => .ok ((k, v) :: l) g3
def mDisp (ps : List (ME × ME)) : ME := fun τ g => (mPairs ps τ g).bind fun l g1 => ck (allS l = true ∧ l.length ≤ 15) (.ok (.ref g1.length) (g1 ++ [.dct false (dupd [] l)]))
section
variable {X : Cx} {cn : Str → Addr} {W : WX} {pos : Pos}
inductive RPs (X : Cx) (cn : Str → Addr) (W : WX) : List (Option Expr) → List Expr → List (ME × ME) → Prop
  | nil : RPs X cn W [] [] []
  | cons {k v : Expr} {ks : List (Option Expr)} {vs : List Expr} {mk mv : ME} {ps : List (ME × ME)} : RE X cn W k mk → RE X cn W v mv → RPs X cn W ks vs ps → RPs X cn W (some k :: ks) (v :: vs) ((mk, mv) :: ps)
theorem rps_pps {ks : List (Option Expr)} {vs : List Expr} {ps : List (ME × ME)} (h : RPs X cn W ks vs ps) : PPs X pos ks vs (ps.map fun p => (tE (ux X cn) W p.1, tE (ux X cn) W p.2)) := by
  induction h with
  | nil => exact pps_nil
  | cons h1 h2 _ ih => exact pps_cons h1 h2 ih
theorem rps_len {ks : List (Option Expr)} {vs : List Expr} {ps : List (ME × ME)} (h : RPs X cn W ks vs ps) : ks.length = vs.length ∧ ks.all (·.isSome) = true := by
  induction h with
  | nil => exact ⟨rfl, rfl⟩
  | cons _ _ _ ih => exact ⟨by rw [List.length_cons, List.length_cons, ih.1], by rw [List.all_cons, ih.2]; rfl⟩
/-- the pairs that were made -/
inductive RelVs (K : PySem.W.Frag) (ρ : List Addr) (H : Hp) : List (D × D) → List (V × V) → Prop
  | nil : RelVs K ρ H [] []
  | cons {k d : D} {x y : V} {l : List (D × D)} {vs : List (V × V)} : RelD K ρ H k x → RelD K ρ H d y → RelVs K ρ H l vs → RelVs K ρ H ((k, d) :: l) ((x, y) :: vs)
theorem RelVs.mono {K : PySem.W.Frag} {ρ ρ' : List Addr} {H H' : Hp} (m : ∀ {d : D} {v : V}, RelD K ρ H d v → RelD K ρ' H' d v) {l : List (D × D)} {vs : List (V × V)} (h : RelVs K ρ H l vs) : RelVs K ρ' H' l vs := by
  induction h with
  | nil => exact .nil
  | cons a b _ ih => exact .cons (m a) (m b) ih
theorem RelVs.texts {K : PySem.W.Frag} {ρ : List Addr} {H : Hp} {l : List (D × D)} {vs : List (V × V)} (h : RelVs K ρ H l vs) (c : allS l = true) : ∃ ks : List (Key × V), vs = ks.map (fun kv => (kV kv.1, kv.2)) ∧ RelKs K ρ H l ks := by
  induction h with
  | nil => exact ⟨[], rfl, .nil⟩
  | cons a b _ ih =>
    obtain ⟨c1, c2⟩ := (Bool.and_eq_true _ _).mp (show (_ && _) = true from c)
    obtain ⟨ks, rfl, r⟩ := ih c2
    cases a with
    | @str s h => exact ⟨(.inr s, _) :: ks, rfl, .cons h b r⟩
    | _ => cases c1
theorem Post.thn2 {U₀ : U} {α γ β δ : Type} {Rl : RelT α β} {Rk : RelT γ δ} {σ : St} {ρ ρb : List Addr} {H Hb : Hp} {r : Res α} {k : α → M γ} {Q : δ → Hp → Prop} {Q0 : β → Hp → Prop} (p : Post U₀ Rk W σ ρb Hb (r.bind k) Q) (e0 : Ev ρb Hb ρ H)
    (h : ∀ (ρ1 : List Addr) (v : β) (H1 : Hp) (a : α) (g1 : G), Ev ρ H ρ1 H1 → Rep U₀ ρ1 H1 g1 → Rl ρ1 H1 a v → Post U₀ Rk W σ ρb Hb (k a g1) Q → Q0 v H1) : Post U₀ Rl W σ ρ H r Q0 := by
  cases r with
  | ok a g => exact fun ρ1 v H1 e1 r1 q => h ρ1 v H1 a g e1 r1 q p
  | exc x g => exact fun ρ1 H1 cls d e1 r1 q => p ρ1 H1 cls d (e0.trans e1) r1 q
  | bad => exact p
theorem pairs_imp {ps : List (ME × ME)} {α : Type} {Rk : RelT α V} {ρb : List Addr} {Hb : Hp} : ∀ {σ : St} {H : Hp} {ρ : List Addr} {τ : T} {g : G} {k : List (D × D) → M α} {Q : V → Hp → Prop} {Q0 : List (V × V) → Hp → Prop}, Ev ρb Hb ρ H → Stt (ux X cn) ρ τ g σ H → Post (ux X cn) Rk W σ ρb Hb ((mPairs ps τ g).bind k) Q →
    (∀ (ρ1 : List Addr) (vs : List (V × V)) (H1 : Hp) (l : List (D × D)) (g1 : G), Ev ρ H ρ1 H1 → Rep (ux X cn) ρ1 H1 g1 → RelVs X.K ρ1 H1 l vs → Post (ux X cn) Rk W σ ρb Hb (k l g1) Q → Q0 vs H1) → tPairs (ps.map fun p => (tE (ux X cn) W p.1, tE (ux X cn) W p.2)) σ H Q0 := by
  induction ps with
  | nil => exact fun e0 s p h => h _ [] _ [] _ Ev.refl s.rep .nil p
  | cons q ps ih =>
    obtain ⟨mk, mv⟩ := q
    intro σ H ρ τ g k Q Q0 e0 s p h
    have p' : Post (ux X cn) Rk W σ ρb Hb ((mk τ g).bind fun x g1 => (mv τ g1).bind fun y g2 => (mPairs ps τ g2).bind fun l g3 => k ((x, y) :: l) g3) Q := by
      have e : ((mPairs ((mk, mv) :: ps) τ g).bind k) = ((mk τ g).bind fun x g1 => (mv τ g1).bind fun y g2 => (mPairs ps τ g2).bind fun l g3 => k ((x, y) :: l) g3) := by
        show ((mk τ g).bind fun x g1 => (mv τ g1).bind fun y g2 => (mPairs ps τ g2).bind fun l g3 => .ok ((x, y) :: l) g3).bind k = _
        cases mk τ g with
        | ok x g1 =>
          dsimp only [Res.bind_ok]
          cases mv τ g1 with
          | ok y g2 =>
            dsimp only [Res.bind_ok]
            cases mPairs ps τ g2 <;> rfl
          | exc _ _ => rfl
          | bad => rfl
        | exc _ _ => rfl
        | bad => rfl
      rw [← e]
      exact p
    refine ⟨ρ, τ, g, s, p'.thn2 e0 fun ρ1 x H1 dk g1 e1 r1 q1 p1 => ⟨ρ1, τ, g1, s.later e1 r1, p1.thn2 (e0.trans e1) fun ρ2 y H2 dv g2 e2 r2 q2 p2 => ?_⟩⟩
    refine ih ((e0.trans e1).trans e2) (s.later (e1.trans e2) r2) p2 fun ρ3 vs H3 l g3 e3 r3 q3 p3 => ?_
    exact h ρ3 _ H3 _ g3 ((e1.trans e2).trans e3) r3 (.cons (e3.rel r2 (e2.rel r1 q1)) (e3.rel r2 q2) q3) p3
theorem re_disp {ks : List (Option Expr)} {vs : List Expr} {ps : List (ME × ME)} (h : RPs X cn W ks vs ps) (h0 : ks ≠ []) (h15 : ks.length ≤ 15) : RE X cn W (.Dict ks vs pos) (mDisp ps) := by
  obtain ⟨hl, hall⟩ := rps_len h
  refine peI (pe_disp (rps_pps h) hall hl h0 h15) fun σ H Q ⟨ρ, τ, g, s, p⟩ A hA => ?_
  obtain ⟨e0, r0⟩ := Ev.new (o := .dK []) s.rep hA
  have nA : A ∉ ρ := fun m => by
    obtain ⟨o, ho⟩ := s.rep.tracked m
    rw [hA] at ho
    cases ho
  refine pairs_imp e0 (s.later e0 r0) p fun ρ1 vs H1 l g1 e1 r1 q1 p1 => ?_
  obtain ⟨⟨c1, c2⟩, p2⟩ := Post.ck p1
  obtain ⟨ks', rfl, rk⟩ := q1.texts c1
  have hx : H1 A = some (.dK []) := e1.frm _ _ upd_same nA
  have nA1 : A ∉ ρ1 := fun z => by
    obtain ⟨⟨new, rfl, hn⟩, _, _, _⟩ := e1
    rcases List.mem_append.mp z with z | z
    · exact nA z
    · have := hn A z
      rw [upd_same] at this
      cases this
  refine ⟨hx, ks', rfl, by rw [← rk.len]; exact c2, ?_⟩
  have mo : ∀ {d : D} {v : V}, RelD X.K ρ1 H1 d v → RelD X.K (ρ1 ++ [A]) (upd H1 A (.dK (mergeK [] ks'))) d v := fun z => z.mono (fun n a h => by
      rw [List.getElem?_append_left (List.getElem?_eq_some_iff.mp h).1]
      exact h) (fun b ys z => by
      rcases z with (z | ⟨ob, z⟩) | z
      · exact .inl (.inl (by rw [upd_ne (fun (e : b = A) => by rw [e, hx] at z; cases z)]; exact z))
      · exact .inl (.inr ⟨ob, by rw [upd_ne (fun (e : b = A) => by rw [e, hx] at z; cases z)]; exact z⟩)
      · exact .inr z) fun b ys z => by
      rcases z with ⟨ob, z⟩ | z
      · exact .inl ⟨ob, by rw [upd_ne (fun (e : b = A) => by rw [e, hx] at z; cases z)]; exact z⟩
      · exact .inr z
  have len : (ρ1 ++ [A])[g1.length]? = some A := by
    rw [List.getElem?_append_right (by rw [r1.len]; omega), r1.len, Nat.sub_self]
    rfl
  have ev : Ev ρ H (ρ1 ++ [A]) (upd H1 A (.dK (mergeK [] ks'))) := by
    obtain ⟨⟨new, e2, hn⟩, e3, e4, e5⟩ := (e0.trans e1).side hA (.dK (mergeK [] ks'))
    refine ⟨⟨new ++ [A], by rw [e2, List.append_assoc], fun a m => ?_⟩, e3, e4, e5⟩
    rcases List.mem_append.mp m with m | m
    · exact hn a m
    · rw [List.mem_singleton.mp m]; exact hA
  refine p2 (ρ1 ++ [A]) _ _ ev ⟨by simp [r1.len], ?_, fun j ob b e1 e2 => ?_⟩ (.ref len)
  · refine List.nodup_append.mpr ⟨r1.nod, by simp, fun a ha b hb => ?_⟩
    rw [List.mem_singleton.mp hb]
    exact fun z => nA1 (z ▸ ha)
  · by_cases hj : j < g1.length
    · rw [List.getElem?_append_left hj] at e1
      rw [List.getElem?_append_left (by rw [r1.len]; exact hj)] at e2
      exact (r1.obs j ob b e1 e2).mono (u := ux X cn) mo (upd_ne fun e => nA1 (by rw [← e]; exact List.mem_of_getElem? e2))
    · rw [List.getElem?_append_right (by omega)] at e1
      rw [List.getElem?_append_right (by rw [r1.len]; omega)] at e2
      have h0 : j - g1.length = 0 := by
        have := (List.getElem?_eq_some_iff.mp e1).1
        simpa using this
      rw [h0] at e1
      rw [r1.len, h0] at e2
      cases e1
      cases e2
      exact ⟨_, upd_same, .inl ⟨_, rfl, (RelKs.upd (rk.mono mo) .nil List.nodup_nil)⟩⟩
end
end RL
namespace RL
open PySem L2
/-! ### keywords in any order, some of them lacking -/
def pick {α : Type} : List Nat → List α → List α
  | [], _ => []
  | i :: is, l => match l[i]? with
    | some x => x :: pick is l
    | none => pick is l
theorem pick_len {α : Type} {l : List α} : ∀ {is : List Nat}, (is.all fun i => decide (i < l.length)) = true → (pick is l).length = is.length
  | [], _ => rfl
  | i :: is, h => by
    obtain ⟨h1, h2⟩ := (Bool.and_eq_true _ _).mp (show (_ && _) = true from h)
    have h1 : i < l.length := of_decide_eq_true h1
    show (match l[i]? with
      | some x => x :: pick is l
      | none => pick is l).length = _
    rw [List.getElem?_eq_getElem h1]
    show (pick is l).length + 1 = is.length + 1
    rw [pick_len h2]
theorem vals_at : ∀ {vs : List V} {us : List Value}, Vals vs us → ∀ i : Nat, (∃ v u, vs[i]? = some v ∧ us[i]? = some u ∧ RelV v u) ∨ (vs[i]? = none ∧ us[i]? = none)
  | _, _, .nil, i => .inr ⟨by simp, by simp⟩
  | _, _, .cons h t, 0 => .inl ⟨_, _, rfl, rfl, h⟩
  | _, _, .cons h t, i + 1 => by simpa using vals_at t i
theorem vals_pick {vs : List V} {us : List Value} (h : Vals vs us) : ∀ is : List Nat, Vals (pick is vs) (pick is us)
  | [] => .nil
  | i :: is => by
    unfold pick
    rcases vals_at h i with ⟨v, u, e1, e2, r⟩ | ⟨e1, e2⟩
    · rw [e1, e2]
      exact .cons r (vals_pick h is)
    · rw [e1, e2]
      exact vals_pick h is
section
variable {K : PySem.W.Frag} {ρ : List Addr} {H : Hp}
theorem rels_at : ∀ {ds : List D} {vs : List V}, RelDs K ρ H ds vs → ∀ i : Nat, (∃ d v, ds[i]? = some d ∧ vs[i]? = some v ∧ RelD K ρ H d v) ∨ (ds[i]? = none ∧ vs[i]? = none)
  | _, _, .nil, i => .inr ⟨by simp, by simp⟩
  | _, _, .cons h t, 0 => .inl ⟨_, _, rfl, rfl, h⟩
  | _, _, .cons h t, i + 1 => by simpa using rels_at t i
theorem rels_pick {ds : List D} {vs : List V} (h : RelDs K ρ H ds vs) : ∀ is : List Nat, RelDs K ρ H (pick is ds) (pick is vs)
  | [] => .nil
  | i :: is => by
    unfold pick
    rcases rels_at h i with ⟨v, u, e1, e2, r⟩ | ⟨e1, e2⟩
    · rw [e1, e2]
      exact .cons r (rels_pick h is)
    · rw [e1, e2]
      exact rels_pick h is
end
section
variable {P : Program} {w : World} {K : PySem.W.Frag} {mg : Str → Option Value} {base : Heap} {cn : Str → Addr} {k m n : Nat} {f : Addr} {fd : FuncData} {ps ks : List Str} {mf : List D → M D} {idx : List Nat} {dms : List D} {ms : List (Str × V)}
theorem dk_of (F : FnOk P w K mg base (L2.CX P w) k f fd ps (spM ⟨K, cn, P, w⟩ m mf)) (hb : ∃ mv : List Value, KBn K fd ps n ks (fun us ws => us ++ pick idx (mv ++ ws)) (fun vs zs => vs ++ pick idx (ms.map (·.2) ++ zs)))
    (hms : ∀ ρ H, RelDs K ρ H dms (ms.map (·.2))) (hi : (idx.all fun i => decide (i < dms.length + ks.length)) = true) (hm : n + idx.length = m) (kp : PySem.W.keepIn K (.ref f) = true) :
    DefK P w K mg base cn k f n ks (fun ds zs => ds ++ pick idx (dms ++ zs)) mf := by
  obtain ⟨mv, b⟩ := hb
  refine ⟨⟨fd, ps, m, _, _, F, b, fun ρ H ds zs vs us q r h1 h2 => ⟨?_, q.app (rels_pick ((hms ρ H).app r) idx)⟩⟩, kp⟩
  rw [List.length_append, h1, pick_len (by rw [List.length_append, h2]; exact hi), hm]
/-- all are written -/
theorem dk_all {x qual : Str} {params : Arguments} {body : List Stmt} {scope : Scope} {kws : List (Str × V)} (D : FunD K x qual params body scope [] kws f fd) (F : FnOk P w K mg base (L2.CX P w) k f fd ps (spM ⟨K, cn, P, w⟩ m mf)) (hi : (idx.all fun i => decide (i < ks.length)) = true) (hm : n + idx.length = m) (kp : PySem.W.keepIn K (.ref f) = true)
    (h : ∀ (kV doc pm : Value) (an : Option Addr) (cdv ct : Value) (us ws : List Value), us.length = n → ws.length = ks.length → bindArgs (PySem.W.fnOf x qual params body scope .none kV doc pm an cdv ct) ⟨us, ks.zip ws⟩ = pure (ps.zip (us ++ pick idx ws))) :
    DefK P w K mg base cn k f n ks (fun ds zs => ds ++ pick idx ([] ++ zs)) mf :=
  dk_of (ms := []) F ⟨[], kb_all D n ks (fun us ws => us ++ pick idx ([] ++ ws)) (fun r1 r2 => r1.append (vals_pick r2 idx)) h⟩ (fun _ _ => .nil) (by rw [List.length_nil, Nat.zero_add]; exact hi) hm kp
/-- some lack -/
theorem dk_some {x qual : Str} {params : Arguments} {body : List Stmt} {scope : Scope} {kws : List (Str × V)} (D : FunD K x qual params body scope [] kws f fd) (F : FnOk P w K mg base (L2.CX P w) k f fd ps (spM ⟨K, cn, P, w⟩ m mf)) (ms : List (Str × V)) (hk : kws ≠ []) (hq : ∀ q ∈ ms, q ∈ kws)
    (hms : ∀ ρ H, RelDs K ρ H dms (ms.map (·.2))) (hi : (idx.all fun i => decide (i < dms.length + ks.length)) = true) (hm : n + idx.length = m) (kp : PySem.W.keepIn K (.ref f) = true)
    (h : ∀ (D : Addr) (doc pm : Value) (an : Option Addr) (cdv ct : Value) (us mv ws : List Value), us.length = n → mv.length = ms.length → ws.length = ks.length →
      KwChain D ((ms.map (·.1)).zip mv) (bindArgs (PySem.W.fnOf x qual params body scope .none (.ref D) doc pm an cdv ct) ⟨us, ks.zip ws⟩) (ps.zip (us ++ pick idx (mv ++ ws)))) :
    DefK P w K mg base cn k f n ks (fun ds zs => ds ++ pick idx (dms ++ zs)) mf :=
  dk_of F (D.kbinds0 n ks ms (fun us mv ws => us ++ pick idx (mv ++ ws)) hk hq (fun r1 r2 r3 => r1.append (vals_pick (r2.append r3) idx)) h) hms hi hm kp
end
/-- a property, as rgen writes it -/
def mProp (cs : List Str) (mf : List D → M D) (o : ME) : ME := fun τ g => (o τ g).bind fun x g1 => ck (isIns cs x g1) (noX (mf [x] g1))
def PropOk (K : PySem.W.Frag) (cn : Str → Addr) (cs : List Str) (m : Str) (f : Addr) : Prop := ∃ pr : Str → Addr, ∀ c ∈ cs, Cls K (cn c) ∧ PropOf K (cn c) m (pr c) f
theorem re_pr {X : Cx} {cn : Str → Addr} {W : WX} {k : Nat} {mf : List D → M D} {f : Addr} {m : Str} {pos : Pos} {o : Expr} {mo : ME} {cs : List Str} (F : Fit X W) (hP : PropOk X.K cn cs m f) (Df : DefM X.prog X.w X.K X.mg X.base cn k f 1 [] mf) (hr : Room (k + 1) X.A) (ho : RE X cn W o mo) (hab : attributeBase o m X.env (eval o X.env) = eval o X.env := by rfl) :
    RE X cn W (.Attribute o m pos) (mProp cs mf mo) := by
  obtain ⟨pr, hp⟩ := hP
  exact re_prop F hp Df hr ho hab
end RL
namespace RL
open PySem L2
/-! ### plain side: dicts of texts -/
def sd (l : List (Str × D)) : List (D × D) := l.map fun p => (.str p.1, p.2)
theorem sd_nil : sd [] = [] := rfl
theorem sd_app (l m : List (Str × D)) : sd (l ++ m) = sd l ++ sd m := by simp [sd]
theorem sd_len (l : List (Str × D)) : (sd l).length = l.length := by simp [sd]
theorem sd_get (x : Str) : ∀ l : List (Str × D), dget (sd l) (.str x) = l.lookup x
  | [] => rfl
  | (k, v) :: l => by
    show dget ((D.str k, v) :: sd l) (.str x) = _
    unfold dget
    by_cases h : k = x
    · subst h
      simp [List.lookup]
    · have h2 : (x == k) = false := by simpa using fun z => h (Eq.symm z)
      rw [if_neg fun z => h (D.str.inj z), sd_get x l]
      simp only [List.lookup, h2]
theorem sd_put (x : Str) (d : D) : ∀ l : List (Str × D), l.lookup x = none → dput (sd l) (.str x) d = sd (l ++ [(x, d)])
  | [], _ => rfl
  | (k, v) :: l, h => by
    by_cases e : k = x
    · subst e
      simp [List.lookup] at h
    · have h2 : (x == k) = false := by simpa using fun z => e (Eq.symm z)
      simp only [List.lookup, h2] at h
      show dput ((D.str k, v) :: sd l) (.str x) d = (D.str k, v) :: sd (l ++ [(x, d)])
      unfold dput
      rw [if_neg fun z => e (D.str.inj z), sd_put x d l h]
theorem sd_ok (x : Str) (l : List (Str × D)) : kOk (sd l) (.str x) := by
  refine ⟨rfl, fun p hp => ?_⟩
  obtain ⟨q, _, rfl⟩ := List.mem_map.mp hp
  rfl
theorem sd_allS (l : List (Str × D)) : allS (sd l) = true := by
  unfold allS sd
  rw [List.all_map]
  exact List.all_eq_true.mpr fun _ _ => rfl
theorem sd_keys (l : List (Str × D)) : (sd l).map (·.1) = (l.map (·.1)).map D.str := by simp [sd]
theorem look_none {l : List (Str × D)} {x : Str} : l.lookup x = none ↔ x ∉ l.map (·.1) := by
  induction l with
  | nil => simp
  | cons p l ih =>
    obtain ⟨k, v⟩ := p
    by_cases h : x = k
    · subst h
      simp [List.lookup]
    · have h2 : (x == k) = false := by simpa using h
      simp only [List.lookup, h2, List.map_cons, List.mem_cons, h, false_or]
      exact ih
theorem look_some {l : List (Str × D)} {x : Str} : (l.lookup x).isSome = decide (x ∈ l.map (·.1)) := by
  by_cases h : x ∈ l.map (·.1)
  · rw [decide_eq_true h]
    cases e : l.lookup x with
    | none => exact absurd h (look_none.mp e)
    | some _ => rfl
  · rw [decide_eq_false h, look_none.mpr h]
    rfl
/-- one dict behind another, without common keys -/
theorem sd_upd : ∀ (m l : List (Str × D)), (m.map (·.1)).Nodup → (∀ x ∈ m.map (·.1), x ∉ l.map (·.1)) → dupd (sd l) (sd m) = sd (l ++ m)
  | [], l, _, _ => by simp [dupd, sd]
  | (k, v) :: m, l, nd, h => by
    rw [List.map_cons, List.nodup_cons] at nd
    have h0 : l.lookup k = none := look_none.mpr (h k (by simp))
    show dupd (dput (sd l) (.str k) v) (sd m) = _
    rw [sd_put k v l h0, sd_upd m (l ++ [(k, v)]) nd.2 fun x hx hc => ?_]
    · simp
    · rw [List.map_append, List.mem_append] at hc
      rcases hc with hc | hc
      · exact h x (List.mem_cons_of_mem _ hx) hc
      · have : x = k := by simpa using hc
        subst this
        exact nd.1 hx
section
variable {g : G} {τ : T} {n : Nat} {k : Bool} {l : List (Str × D)} {x : Str} {d : D}
theorem in_sd (h : g[n]? = some (.dct k (sd l))) : fIn (.str x) (.ref n) g = .ok (.bl (decide (x ∈ l.map (·.1)))) g := by
  unfold fIn items
  dsimp only
  rw [h]
  dsimp only
  rw [ck_pos (sd_ok x l), sd_get, look_some]
theorem notin_sd (h : g[n]? = some (.dct k (sd l))) : fNot (.str x) (.ref n) g = .ok (.bl (!decide (x ∈ l.map (·.1)))) g := by
  unfold fNot
  rw [in_sd h]
theorem subs_sd (h : g[n]? = some (.dct k (sd l))) (hd : l.lookup x = some d) : fSubs (.ref n) (.str x) g = .ok d g := by
  unfold fSubs items
  dsimp only
  rw [h]
  dsimp only
  rw [ck_pos (sd_ok x l), sd_get, hd]
theorem get_sd {e : D} (h : g[n]? = some (.dct k (sd l))) : fGet (.ref n) [.str x, e] g = .ok ((l.lookup x).getD e) g := by
  unfold fGet
  dsimp only
  rw [h]
  show ck _ _ = _
  rw [ck_pos (sd_ok x l), sd_get]
theorem get1_sd (h : g[n]? = some (.dct k (sd l))) : fGet (.ref n) [.str x] g = .ok ((l.lookup x).getD .non) g := by
  unfold fGet
  dsimp only
  rw [h]
  show ck _ _ = _
  rw [ck_pos (sd_ok x l), sd_get]
theorem set_sd {e o i : ME} {g1 g2 g3 : G} {v : D} (he : e τ g = .ok v g1) (ho : o τ g1 = .ok (.ref n) g2) (hi : i τ g2 = .ok (.str x) g3) (h : g3[n]? = some (.dct false (sd l))) (hn : x ∉ l.map (·.1)) (hl : l.length ≤ 100000) : mAsg e (gSubM o i) τ g = .nx τ (g3.set n (.dct false (sd (l ++ [(x, v)])))) := by
  unfold mAsg
  rw [he]
  show onlyNx (gSubM o i v τ g1) = _
  unfold gSubM
  rw [ho]
  show onlyNx ((i τ g2).st τ _) = _
  rw [hi]
  have : fSet (.ref n) (.str x) v g3 = some (g3.set n (.dct false (sd (l ++ [(x, v)])))) := by
    unfold fSet
    dsimp only
    rw [h]
    show (if _ then _ else _) = _
    rw [if_pos ⟨sd_ok x l, by rw [sd_len]; exact hl⟩, sd_put x v l (look_none.mpr hn)]
  show onlyNx (match fSet (.ref n) (.str x) v g3 with | some g4 => .nx τ g4 | none => .bad) = _
  rw [this]
  rfl
theorem list_sd (h : g[n]? = some (.dct k (sd l))) : fList [.ref n] g = .ok (.ref g.length) (g ++ [.lst ((l.map (·.1)).map .str)]) := by
  unfold fList items
  dsimp only
  rw [h]
  dsimp only
  rw [sd_keys]
theorem upd_sd {m : Nat} {k2 : Bool} {more : List (Str × D)} (h : g[n]? = some (.dct false (sd l))) (h2 : g[m]? = some (.dct k2 (sd more))) (ne : n ≠ m) (nd : (more.map (·.1)).Nodup) (dj : ∀ x ∈ more.map (·.1), x ∉ l.map (·.1)) (hl : l.length + more.length ≤ 100000) : fUpd (.ref n) [.ref m] g = .ok .non (g.set n (.dct false (sd (l ++ more)))) := by
  unfold fUpd
  dsimp only
  rw [h, h2]
  show ck _ _ = _
  rw [ck_pos ⟨ne, sd_allS l, sd_allS more, by rw [sd_len, sd_len]; exact hl⟩, sd_upd more l nd dj]
theorem fld_ok {cs : List Str} {f c : Str} {fs : List (Str × D)} (h : g[n]? = some (.ins c fs)) (hc : c ∈ cs) (hf : fs.lookup f = some d) : fFld cs f (.ref n) g = .ok d g := by
  unfold fFld
  dsimp only
  rw [h]
  show ck _ _ = _
  rw [ck_pos hc, hf]
  rfl
theorem un_ok {f : D → M D} {e : ME} {g1 : G} {r : Res D} (h : e τ g = .ok d g1) (h2 : f d g1 = r) : mUn f e τ g = r := by
  unfold mUn
  rw [h]
  exact h2
theorem isN_ok (b : Bool) (d : D) : fIsN b d g = .ok (.bl (if b = true then decide (d = .non) else !decide (d = .non))) g := by
  cases b <;> rfl
end
/-! loops over lists that stand still -/
section
variable {g : G}
theorem for_ruleC {c : Option (Nat × Ob)} {mg : MG} {mb : MS} (I : Nat → T → G → Prop) (Z : SR → Prop) (l : List D) (hc : ∀ i τ g, I i τ g → still c g) (hs : ∀ i d τ g, l[i]? = some d → I i τ g → ∃ τ1 g1, mg d τ g = .nx τ1 g1 ∧ (match mb τ1 g1 with
    | .nx τ2 g2 => I (i + 1) τ2 g2
    | .ct τ2 g2 => I (i + 1) τ2 g2
    | .bk τ2 g2 => Z (.nx τ2 g2)
    | r => Z r)) (he : ∀ τ g, I l.length τ g → Z (.nx τ g)) {τ : T} (h0 : I 0 τ g) : Z (forGo c mg mb l τ g) := by
  have key : ∀ (n i : Nat) (τ : T) (g : G), l.length - i = n → i ≤ l.length → I i τ g → Z (forGo c mg mb (l.drop i) τ g) := by
    intro n
    induction n with
    | zero =>
      intro i τ g hn hi h
      have : i = l.length := by omega
      subst this
      rw [List.drop_length]
      unfold forGo
      rw [if_pos (hc _ _ _ h)]
      exact he _ _ h
    | succ n ih =>
      intro i τ g hn hi h
      have hlt : i < l.length := by omega
      rw [List.drop_eq_getElem_cons hlt]
      unfold forGo
      rw [if_pos (hc _ _ _ h)]
      obtain ⟨τ1, g1, h1, h2⟩ := hs i l[i] τ g (List.getElem?_eq_getElem hlt) h
      rw [h1]
      dsimp only
      cases hb : mb τ1 g1 with
      | nx τ2 g2 => rw [hb] at h2; exact ih (i + 1) _ _ (by omega) (by omega) h2
      | ct τ2 g2 => rw [hb] at h2; exact ih (i + 1) _ _ (by omega) (by omega) h2
      | bk τ2 g2 => rw [hb] at h2; exact h2
      | rt d g2 => rw [hb] at h2; exact h2
      | ex e τ2 g2 => rw [hb] at h2; exact h2
      | bad => rw [hb] at h2; exact h2
  exact key l.length 0 τ g rfl (Nat.zero_le _) h0
theorem for_allC {c : Option (Nat × Ob)} {mg : MG} {mb : MS} (I : Nat → T → G → Prop) (l : List D) (hc : ∀ i τ g, I i τ g → still c g) (hs : ∀ i d τ g, l[i]? = some d → I i τ g → ∃ τ1 g1, mg d τ g = .nx τ1 g1 ∧ ∃ τ2 g2, mb τ1 g1 = .nx τ2 g2 ∧ I (i + 1) τ2 g2) {τ : T} (h0 : I 0 τ g) : ∃ τ' g', forGo c mg mb l τ g = .nx τ' g' ∧ I l.length τ' g' :=
  for_ruleC I (fun r => ∃ τ' g', r = .nx τ' g' ∧ I l.length τ' g') l hc (fun i d τ g hd hi => by
    obtain ⟨τ1, g1, h1, τ2, g2, h2, h3⟩ := hs i d τ g hd hi
    exact ⟨τ1, g1, h1, by rw [h2]; exact h3⟩) (fun τ g h => ⟨τ, g, rfl, h⟩) h0
/-- a comprehension whose parts change nothing -/
theorem lc_pure {c : Option (Nat × Ob)} {t : Tg} {mt : MT} {me : ME} {τ₀ : T} (p : D → Bool) (f : D → D) (hc : still c g) : ∀ (l acc : List D), (∀ d ∈ l, ∃ τ1, tgM t d τ₀ = some τ1 ∧ mt τ1 g = .ok (p d) g ∧ (p d = true → me τ1 g = .ok (f d) g)) → acc.length + l.length ≤ 100000 → lcGo c t mt me τ₀ l acc g = .ok (acc ++ (l.filter p).map f) g
  | [], acc, _, _ => by
    unfold lcGo
    rw [if_pos hc]
    simp
  | d :: l, acc, h, hl => by
    obtain ⟨τ1, h1, h2, h3⟩ := h d List.mem_cons_self
    unfold lcGo
    rw [if_pos hc, h1]
    dsimp only
    rw [h2]
    rw [List.length_cons] at hl
    cases hp : p d with
    | true =>
      dsimp only
      rw [h3 hp]
      dsimp only
      rw [if_pos (by omega), lc_pure p f hc l _ (fun e he => h e (List.mem_cons_of_mem _ he)) (by rw [List.length_append, List.length_singleton]; omega), List.filter_cons_of_pos hp]
      simp
    | false =>
      dsimp only
      rw [lc_pure p f hc l _ (fun e he => h e (List.mem_cons_of_mem _ he)) (by omega), List.filter_cons_of_neg (by rw [hp]; simp)]
theorem lc_ok {own : List Nat} {mi : MI} {t : Tg} {mt : MT} {me : ME} {τ : T} {l : List D} {c : Option (Nat × Ob)} {g1 : G} (p : D → Bool) (f : D → D) (hi : mi τ g = .ok (l, c) g1) (hc : still c g1) (h : ∀ d ∈ l, ∃ τ1, tgM t d (wipeT τ own) = some τ1 ∧ mt τ1 g1 = .ok (p d) g1 ∧ (p d = true → me τ1 g1 = .ok (f d) g1)) (hl : l.length ≤ 100000) :
    mLc own mi t mt me τ g = .ok (.ref g1.length) (g1 ++ [.lst ((l.filter p).map f)]) := by
  unfold mLc
  rw [hi, Res.bind_ok]
  rw [lc_pure p f hc l [] h (by simpa using hl), Res.bind_ok, List.nil_append]
/-- sources -/
theorem seqT_ok {m : ME} {τ : T} {g1 : G} {l : List D} (h : m τ g = .ok (.tup l) g1) : mSeqI m τ g = .ok (l, none) g1 := by
  unfold mSeqI
  rw [h]
  rfl
theorem seqL_ok {m : ME} {τ : T} {g1 : G} {n : Nat} {l : List D} (h : m τ g = .ok (.ref n) g1) (hn : g1[n]? = some (.lst l)) : mSeqI m τ g = .ok (l, some (n, .lst l)) g1 := by
  unfold mSeqI srcSeq
  rw [h, Res.bind_ok]
  dsimp only
  rw [hn]
theorem keys_ok {m : ME} {τ : T} {g1 : G} {n : Nat} {kvs : List (D × D)} (h : m τ g = .ok (.ref n) g1) (hn : g1[n]? = some (.dct true kvs)) : mKeysI m τ g = .ok (kvs.map (·.1), some (n, .dct true kvs)) g1 := by
  unfold mKeysI srcKeys
  rw [h, Res.bind_ok]
  dsimp only
  rw [hn]
/-- a locked expression that leaves all but new things as it was -/
theorem lockE_ok {m b : ME} {τ : T} {n : Nat} {kvs : List (D × D)} {d : D} {l : G} {g0 : G} (h : m τ g = .ok (.ref n) g0) (hn : g[n]? = some (.dct false kvs)) (hb : b τ (g.set n (.dct true kvs)) = .ok d (g.set n (.dct true kvs) ++ l)) : mLockE m b τ g = .ok d (g ++ l) := by
  have hlt := (List.getElem?_eq_some_iff.mp hn).1
  have hg : g.set n (.dct false kvs) = g := by
    apply List.ext_getElem?
    intro i
    by_cases e : i = n
    · subst e
      rw [List.getElem?_set_self hlt, hn]
    · rw [List.getElem?_set_ne (Ne.symm e)]
  unfold mLockE lockAt
  rw [h]
  dsimp only
  rw [hn]
  dsimp only
  rw [hb]
  have e1 : (g.set n (.dct true kvs) ++ l)[n]? = some (.dct true kvs) := by
    rw [List.getElem?_append_left (by rw [List.length_set]; exact hlt), List.getElem?_set_self hlt]
  unfold unlE unlG
  dsimp only
  rw [if_pos e1]
  dsimp only
  rw [List.set_append_left _ _ (by rw [List.length_set]; exact hlt), List.set_set, hg]
end
end RL
namespace RL
open PySem L2
/-! ### what a computation leaves as it was: all old things but those of S -/
structure Gx (S : List Nat) (g g' : G) : Prop where
  len : g.length ≤ g'.length
  old : ∀ n, n < g.length → n ∉ S → g'[n]? = g[n]?
section
variable {S S' : List Nat} {g g' g'' : G} {n : Nat} {o : Ob} {l : G}
theorem Gx.refl : Gx S g g := ⟨Nat.le_refl _, fun _ _ _ => rfl⟩
theorem Gx.get (h : Gx S g g') (e : g[n]? = some o) (hn : n ∉ S) : g'[n]? = some o := by
  rw [h.old n (List.getElem?_eq_some_iff.mp e).1 hn]
  exact e
theorem Gx.get0 (h : Gx [] g g') (e : g[n]? = some o) : g'[n]? = some o := h.get e (by simp)
theorem Gx.trans (h : Gx S g g') (h' : Gx S' g' g'') (hs : ∀ n ∈ S, n ∈ S') : Gx S' g g'' :=
  ⟨Nat.le_trans h.len h'.len, fun n hn hS => by rw [h'.old n (Nat.lt_of_lt_of_le hn h.len) hS, h.old n hn fun z => hS (hs n z)]⟩
theorem Gx.mono (h : Gx S g g') (hs : ∀ n ∈ S, n ∈ S') : Gx S' g g' := ⟨h.len, fun n hn hS => h.old n hn fun z => hS (hs n z)⟩
theorem Gx.app : Gx S g (g ++ l) := ⟨by simp, fun n hn _ => List.getElem?_append_left hn⟩
theorem Gx.set (h : n ∈ S) : Gx S g (g.set n o) := ⟨by simp, fun m _ hS => List.getElem?_set_ne (fun z => hS (by rw [← z]; exact h))⟩
/-- what is changed is new -/
theorem Gx.fresh (h : Gx S g g') (h' : Gx S' g' g'') (hs : ∀ n ∈ S', n ∈ S ∨ g.length ≤ n) : Gx S g g'' :=
  ⟨Nat.le_trans h.len h'.len, fun n hn hS => by
    rw [h'.old n (Nat.lt_of_lt_of_le hn h.len) fun z => ?_, h.old n hn hS]
    rcases hs n z with z | z
    · exact hS z
    · omega⟩
theorem lt_of_get (e : g[n]? = some o) : n < g.length := (List.getElem?_eq_some_iff.mp e).1
theorem set_get (h : n < g.length) : (g.set n o)[n]? = some o := List.getElem?_set_self h
theorem set_ne {m : Nat} {o' : Ob} (h : g[m]? = some o) (ne : m ≠ n) : (g.set n o')[m]? = some o := by rw [List.getElem?_set_ne (Ne.symm ne)]; exact h
end
/-! ### evaluation, step by step -/
section
variable {g g1 g2 : G} {τ : T} {d : D}
theorem ev_v {i : Nat} (h : τ[i]? = some (some d)) : mV i τ g = .ok d g := by
  unfold mV
  rw [h]
theorem ev_c : mC d τ g = .ok d g := rfl
theorem tup_ok {l : List D} (h : l.length ≤ 1000) : fTup l g = .ok (.tup l) g := ck_pos h _
theorem lst_ok {l : List D} (h : l.length ≤ 1000) : fLst l g = .ok (.ref g.length) (g ++ [.lst l]) := ck_pos h _
theorem tuple_at {n : Nat} {l : List D} (h : g[n]? = some (.lst l)) : fTuple [.ref n] g = .ok (.tup l) g := by
  unfold fTuple items
  dsimp only
  rw [h]
theorem tuple_t {l : List D} : fTuple [.tup l] g = .ok (.tup l) g := rfl
theorem len_t {l : List D} : fLen [.tup l] g = .ok (.int (l.length : Nat)) g := rfl
theorem not_ok {b : Bool} {c : MT} (h : c τ g = .ok b g1) : mNotT c τ g = .ok (!b) g1 := by
  unfold mNotT
  rw [h]
  rfl
theorem and_t {a b : MT} {r : Res Bool} (h : a τ g = .ok true g1) (h2 : b τ g1 = r) : mAndT a b τ g = r := by
  unfold mAndT
  rw [h]
  exact h2
theorem and_f {a b : MT} (h : a τ g = .ok false g1) : mAndT a b τ g = .ok false g1 := by
  unfold mAndT
  rw [h]
  rfl
theorem or_t {a b : MT} (h : a τ g = .ok true g1) : mOrT a b τ g = .ok true g1 := by
  unfold mOrT
  rw [h]
  rfl
theorem or_f {a b : MT} {r : Res Bool} (h : a τ g = .ok false g1) (h2 : b τ g1 = r) : mOrT a b τ g = r := by
  unfold mOrT
  rw [h]
  exact h2
theorem meth_ok {cs : List Str} {n : Nat} {es : List D} {mf : List D → M D} {o : ME} {a : MA} {m : Nat} {c : Str} {fs : List (Str × D)} {l : List D} {r : Res D} (ho : o τ g = .ok (.ref m) g1) (hm : g1[m]? = some (.ins c fs)) (hc : c ∈ cs) (ha : a τ g1 = .ok l g2) (hl : l.length + 1 = n) (h : mf (.ref m :: (l ++ es)) g2 = r) : mMeth cs n es mf o a τ g = r := by
  unfold mMeth
  rw [ho, Res.bind_ok]
  have : isIns cs (.ref m) g1 := by
    unfold isIns
    dsimp only
    rw [hm]
    exact hc
  rw [ck_pos this, ha, Res.bind_ok]
  unfold fCall
  rw [ck_pos (show (D.ref m :: l).length = n from hl)]
  exact h
theorem methK_ok {cs : List Str} {n : Nat} {ks : List Str} {gD : List D → List D → List D} {mf : List D → M D} {o : ME} {a b : MA} {m : Nat} {c : Str} {fs : List (Str × D)} {l z : List D} {g3 : G} {r : Res D} (ho : o τ g = .ok (.ref m) g1) (hm : g1[m]? = some (.ins c fs)) (hc : c ∈ cs) (ha : a τ g1 = .ok l g2) (hb : b τ g2 = .ok z g3) (hl : l.length + 1 = n) (hz : z.length = ks.length) (h : mf (gD (.ref m :: l) z) g3 = r) : mMethK cs n ks gD mf o a b τ g = r := by
  unfold mMethK
  rw [ho, Res.bind_ok]
  have : isIns cs (.ref m) g1 := by
    unfold isIns
    dsimp only
    rw [hm]
    exact hc
  rw [ck_pos this, ha, Res.bind_ok, hb, Res.bind_ok]
  unfold fCallK
  rw [ck_pos ⟨hl, hz⟩]
  exact h
theorem prop_ok {cs : List Str} {mf : List D → M D} {o : ME} {m : Nat} {c : Str} {fs : List (Str × D)} (ho : o τ g = .ok (.ref m) g1) (hm : g1[m]? = some (.ins c fs)) (hc : c ∈ cs) (h : mf [.ref m] g1 = .ok d g2) : mProp cs mf o τ g = .ok d g2 := by
  unfold mProp
  rw [ho, Res.bind_ok]
  have : isIns cs (.ref m) g1 := by
    unfold isIns
    dsimp only
    rw [hm]
    exact hc
  rw [ck_pos this, h]
  rfl
theorem asg_ex {e : ME} {t : MG} {x : Exc} (h : e τ g = .exc x g1) : mAsg e t τ g = .ex x τ g1 := by
  unfold mAsg
  rw [h]
  rfl
theorem drop_ex {e : ME} {x : Exc} (h : e τ g = .exc x g1) : mDrop e τ g = .ex x τ g1 := by
  unfold mDrop
  rw [h]
  rfl
theorem raise_ok {f : List D → Option Exc} {a : MA} {l : List D} {x : Exc} (ha : a τ g = .ok l g1) (h : f l = some x) : mRaise f a τ g = .ex x τ g1 := by
  unfold mRaise
  rw [ha]
  dsimp only [Res.st_ok]
  rw [h]
theorem exc1_str {c : Str} {x : Str} : exc1 c [.str x] = some ⟨c, [("row", .non), ("what", .str x)]⟩ := rfl
theorem run_nx {N : Nat} {mb : MS} {ds : List D} {τ' : T} (h : mb (ds.map some ++ List.replicate (N - ds.length) none) g = .nx τ' g1) : runF N mb ds g = .ok .non g1 := by
  unfold runF
  rw [h]
theorem run_rt {N : Nat} {mb : MS} {ds : List D} (h : mb (ds.map some ++ List.replicate (N - ds.length) none) g = .rt d g1) : runF N mb ds g = .ok d g1 := by
  unfold runF
  rw [h]
theorem run_ex {N : Nat} {mb : MS} {ds : List D} {x : Exc} {τ' : T} (h : mb (ds.map some ++ List.replicate (N - ds.length) none) g = .ex x τ' g1) : runF N mb ds g = .exc x g1 := by
  unfold runF
  rw [h]
theorem next_ok : mNext τ g = .nx τ g := rfl
theorem if_n2 {c : MT} {a : MS} (h : c τ g = .ok false g1) : mIfS c a mNext τ g = .nx τ g1 := by
  rw [if_f h]
  rfl
theorem if_tr {c : MT} {a b : MS} {r : SR} (h : c τ g = .ok true g1) (h2 : a τ g1 = r) : mIfS c a b τ g = r := by
  rw [if_t h]
  exact h2
theorem if_fr {c : MT} {a b : MS} {r : SR} (h : c τ g = .ok false g1) (h2 : b τ g1 = r) : mIfS c a b τ g = r := by
  rw [if_f h]
  exact h2
theorem disp1_ok {mk mv : ME} {x : Str} {d : D} (hk : mk τ g = .ok (.str x) g1) (hv : mv τ g1 = .ok d g2) : mDisp [(mk, mv)] τ g = .ok (.ref g2.length) (g2 ++ [.dct false (sd [(x, d)])]) := by
  unfold mDisp mPairs mPairs
  rw [hk, Res.bind_ok, hv, Res.bind_ok]
  rfl
theorem fldS_ok {cs : List Str} {f : Str} {o v : ME} {m : Nat} {c : Str} {fs : List (Str × D)} (hv : v τ g = .ok d g1) (ho : o τ g1 = .ok (.ref m) g2) (hm : g2[m]? = some (.ins c fs)) (hc : c ∈ cs) (hl : fs.length ≤ 300) : mFldS cs f o v τ g = .nx τ (g2.set m (.ins c (setF f d fs))) := by
  unfold mFldS
  rw [hv]
  show ((o τ g1).st τ _) = _
  rw [ho]
  have : fPut cs f (.ref m) d g2 = some (g2.set m (.ins c (setF f d fs))) := by
    unfold fPut
    dsimp only
    rw [hm]
    exact if_pos ⟨hc, hl⟩
  show (match fPut cs f (.ref m) d g2 with | some g3 => SR.nx τ g3 | none => .bad) = _
  rw [this]
end
/-! ### loops -/
def BodyR (I : T → G → Prop) (Z : SR → Prop) : SR → Prop
  | .nx τ g => I τ g
  | .ct τ g => I τ g
  | .bk τ g => Z (.nx τ g)
  | r => Z r
theorem body_nx {I : T → G → Prop} {Z : SR → Prop} {r : SR} {τ : T} {g : G} (h : r = .nx τ g) (k : I τ g) : BodyR I Z r := by rw [h]; exact k
theorem body_ct {I : T → G → Prop} {Z : SR → Prop} {r : SR} {τ : T} {g : G} (h : r = .ct τ g) (k : I τ g) : BodyR I Z r := by rw [h]; exact k
theorem body_bk {I : T → G → Prop} {Z : SR → Prop} {r : SR} {τ : T} {g : G} (h : r = .bk τ g) (k : Z (.nx τ g)) : BodyR I Z r := by rw [h]; exact k
theorem body_rt {I : T → G → Prop} {Z : SR → Prop} {r : SR} {d : D} {g : G} (h : r = .rt d g) (k : Z (.rt d g)) : BodyR I Z r := by rw [h]; exact k
theorem body_ex {I : T → G → Prop} {Z : SR → Prop} {r : SR} {x : Exc} {τ : T} {g : G} (h : r = .ex x τ g) (k : Z (.ex x τ g)) : BodyR I Z r := by rw [h]; exact k
def thenS (r : SR) (b : MS) : SR := match r with
  | .nx τ g => b τ g
  | r => r
theorem seq_then {a b : MS} {τ : T} {g : G} : mSeq a b τ g = thenS (a τ g) b := rfl
/-- the rule for a loop: I holds ahead of each turn, Z is what is wanted of the end -/
theorem loop {c : Option (Nat × Ob)} {mi : MI} {mg : MG} {mb : MS} {g g1 : G} {τ : T} (l : List D) (I : Nat → T → G → Prop) (Z : SR → Prop) (hm : mi τ g = .ok (l, c) g1) (hc : ∀ i τ g, I i τ g → still c g) (h0 : I 0 τ g1)
    (hs : ∀ i d τ g, l[i]? = some d → I i τ g → ∃ τ1 g2, mg d τ g = .nx τ1 g2 ∧ BodyR (I (i + 1)) Z (mb τ1 g2)) (he : ∀ τ g, I l.length τ g → Z (.nx τ g)) : Z (mFor mi mg mb τ g) := by
  rw [for_ok hm]
  refine for_ruleC I Z l hc (fun i d τ g hd hi => ?_) he h0
  obtain ⟨τ1, g2, h1, h2⟩ := hs i d τ g hd hi
  refine ⟨τ1, g2, h1, ?_⟩
  revert h2
  cases mb τ1 g2 <;> exact id
/-- a loop that runs through -/
theorem loop_all {c : Option (Nat × Ob)} {mi : MI} {mg : MG} {mb : MS} {g g1 : G} {τ : T} (l : List D) (I : Nat → T → G → Prop) (hm : mi τ g = .ok (l, c) g1) (hc : ∀ i τ g, I i τ g → still c g) (h0 : I 0 τ g1)
    (hs : ∀ i d τ g, l[i]? = some d → I i τ g → ∃ τ1 g2, mg d τ g = .nx τ1 g2 ∧ BodyR (I (i + 1)) (fun _ => False) (mb τ1 g2)) : ∃ τ' g', mFor mi mg mb τ g = .nx τ' g' ∧ I l.length τ' g' :=
  loop l I (fun r => ∃ τ' g', r = .nx τ' g' ∧ I l.length τ' g') hm hc h0 (fun i d τ g hd hi => by
    obtain ⟨τ1, g2, h1, h2⟩ := hs i d τ g hd hi
    refine ⟨τ1, g2, h1, ?_⟩
    revert h2
    cases mb τ1 g2 with
    | nx _ _ => exact id
    | ct _ _ => exact id
    | _ => exact False.elim) fun τ g h => ⟨τ, g, rfl, h⟩
end RL
namespace RL
open PySem L2
/-! ### the next statement -/
theorem seq_go {a b : MS} {τ τ' : T} {g g' : G} {r : SR} (h : a τ g = .nx τ' g') (h2 : b τ' g' = r) : mSeq a b τ g = r := (seq_nx h).trans h2
end RL
namespace RL
open PySem L2 PySem.Spec
/-! ### several clauses, each with a name or without one -/
/-- what the clauses ask of an error: the slot of the name holds it, and is empty behind the suite -/
def wCl (K : PySem.W.Frag) (Wo : WX) (D : Ends) : List (Value × Option Nat × (Addr → Value → Option Addr → TS)) → WX
  | [] => Wo
  | (c, none, ts) :: r => fun cls d σ H => ∃ y, PySem.W.exmOne K cls c = some y ∧ (y = true → ∀ a, H a = none → ts a cls d D σ H) ∧ (y = false → wCl K Wo D r cls d σ H)
  | (c, some i, ts) :: r => fun cls d σ H => ∃ y, PySem.W.exmOne K cls c = some y ∧ (y = true → ∀ a, H a = none → ts a cls d (clrE i D) (σ.set i (some (.ref a))) H) ∧ (y = false → wCl K Wo D r cls d σ H)
def Suit (X : Cx) (suite : List Stmt) (ts : Addr → Value → Option Addr → TS) : Prop := ∀ (a : Addr) (oe : PySem.Obj) (cls : Value) (d : Option Addr) (pn : List (Addr × PySem.Obj)), Zc cls d oe → (∃ vs, oe.data = .fields vs) → PSs (X.suite a ((a, oe) :: pn)) suite (ts a cls d)
inductive ClOk (X : Cx) : List ExceptHandler → List (Value × Option Nat × (Addr → Value → Option Addr → TS)) → Prop
  | nil : ClOk X [] []
  | plain {x : Str} {c : Value} {ts : Addr → Value → Option Addr → TS} {b₀ : Stmt} {suite : List Stmt} {np p : Pos} {hs : List ExceptHandler} {l : List (Value × Option Nat × (Addr → Value → Option Addr → TS))} :
      Names X x c → Suit X (b₀ :: suite) ts → ClOk X hs l → ClOk X (.ExceptHandler (some (.Name x np)) none (b₀ :: suite) p :: hs) ((c, none, ts) :: l)
  | named {x n : Str} {i : Nat} {c : Value} {ts : Addr → Value → Option Addr → TS} {b₀ : Stmt} {suite : List Stmt} {np p : Pos} {hs : List ExceptHandler} {l : List (Value × Option Nat × (Addr → Value → Option Addr → TS))} :
      Names X x c → X.N[i]? = some n → X.env.kindOf n = some .local → Suit X (b₀ :: suite) ts → ClOk X hs l → ClOk X (.ExceptHandler (some (.Name x np)) (some n) (b₀ :: suite) p :: hs) ((c, some i, ts) :: l)
/-- the error a lies on the ground; sI is how all was before it was made -/
structure Down (X : Cx) (pins : List (Addr × PySem.Obj)) (σ : St) (H : Hp) (sI s : Shared) (B : Heap) (a : Addr) (cls : Value) (d : Option Addr) : Prop where
  inv : Inv X pins σ H sI
  old : ∀ b o, sI.heap.get? b = some o → b ∉ frs X.stack → B.get? b = some o
  up : sI.heap.UpToSlots s.heap
  fly : HandSPX.FlyingZ B (X.env :: X.outer) a (Zc cls d) s.heap
  na : H a = none
  os : s.os = sI.os
  gens : PyProof.Rows.AllBare s.gens
section
variable {X : Cx} {pins : List (Addr × PySem.Obj)} {σ : St} {H : Hp} {sI s : Shared} {B : Heap} {a : Addr} {cls : Value} {d : Option Addr} {D : Ends} {Wo : WX}
theorem Down.state (g : Down X pins σ H sI s B a cls d) : Inv X pins σ H s := Inv.landed g.inv g.old g.fly.1 g.up g.os g.gens
theorem Down.noframe (g : Down X pins σ H sI s B a cls d) : a ∉ frs (X.env :: X.outer) := fun m => by
  obtain ⟨oe, vs, e1, _, e2⟩ := g.fly.there
  obtain ⟨_, o, e3, no⟩ := g.fly.2.2.1.mem m
  rw [e3] at e1
  cases e1
  exact no _ e2
/-- as a suite sees it -/
theorem Down.seen (hf : X.env.frame = some X.env.locals) (g : Down X pins σ H sI s B a cls d) : ∃ oe, Zc cls d oe ∧ (∃ vs, oe.data = .fields vs) ∧ s.heap.get? a = some oe ∧ Inv (X.suite a ((a, oe) :: (X.pn ++ pins))) [] σ H s := by
  obtain ⟨oe, vs, e1, z, e2⟩ := g.fly.there
  have nf := g.noframe
  refine ⟨oe, z, ⟨vs, e2⟩, e1, g.state.suite e1 e2 g.na (fun q => nf ?_) fun q => nf ?_⟩
  · exact List.mem_filterMap.mpr ⟨X.env, by simp, by rw [hf, q]⟩
  · obtain ⟨env, he, q⟩ := List.mem_filterMap.mp q
    exact List.mem_filterMap.mpr ⟨env, by simp [he], q⟩
/-- no clause took it -/
theorem Down.goes_on (hs : X.stack = X.env :: X.outer) (hf : X.env.frame = some X.env.locals) (tk : Takes X Wo) (g : Down X pins σ H sI s B a cls d) (w : Wo cls d σ H) : wpAny (model X.prog X.w) X.A (handleBy (.ref a) X.env []) (SP X pins D) X.xe s := by
  refine wpAny_handleBy_nil ?_
  obtain ⟨_, _, _, oe, vs, T, oT, ts, e1, _, e2, e3, _⟩ := id g.fly
  have out : wpAny (model X.prog X.w) X.A (setFlight (.ref a) X.env.frame) (fun _ s1 => wpAny (model X.prog X.w) X.A (throw (.ref a) : Sem Flow) (SP X pins D) X.xe s1) X.xe s := by
    rw [hf]
    exact HandSPX.setFlight_upZ g.fly fun h1 held up1 => wpAny_throw (tk _ _ ⟨a, B, sI, pins, σ, H, cls, d, rfl, g.inv, g.old, g.up.trans up1, .inr (.inr (by rw [hs]; exact held)), g.na, g.os, g.gens, w⟩)
  unfold PySem.passOn
  refine wpAny_bind (wpAny_field e1 e2 e3 ?_)
  have nn : (Value.ref T == Value.none) = false := rfl
  rw [nn]
  first
    | exact wpAny_bind (wpAny_pure (wpAny_bind out))
    | exact wpAny_bind out
/-- the class in a clause's head -/
theorem Down.asked (hf : X.env.frame = some X.env.locals) (g : Down X pins σ H sI s B a cls d) {x : Str} {c : Value} {np : Pos} {y : Bool} (hc : Names X x c) (hy : PySem.W.exmOne X.K cls c = some y) {R : Result → Shared → Prop} {t : Option Str} {p : Pos} (k : R (.ok (if y = true then .brk else .next)) s) :
    codeAny (model X.prog X.w) (X.A.mark (some (.ref a))) (.handlers (.ref a) [.ExceptHandler (some (.Name x np)) none [] p] X.env) R s := by
  obtain ⟨oe, z, _, e1, S⟩ := g.seen hf
  have ty : PySem.W.Looks (model X.prog X.w) s.heap (typeOf (.ref a)) cls := fun A Q E s' keep q => wpAny_typeOf_ref (keep _ _ e1) (by rw [z.1]; exact q)
  refine codeAny_handlers_test ?_
  have m := PySem.W.exm_one (M := model X.prog X.w) g.state.kIn ty hy
  obtain ⟨h1, h2, h3 | ⟨h3, h4, h5⟩⟩ := hc
  · exact ld_glob (X := X.suite a ((a, oe) :: (X.pn ++ pins))) S h1 h3 (m.here k) h2
  · exact ld_blt (X := X.suite a ((a, oe) :: (X.pn ++ pins))) S h1 h3 h4 (m.here k) h5 h2
theorem Down.later (g : Down X pins σ H sI s B a cls d) {h : Heap} (f : HandSPX.FlyingZ B (X.env :: X.outer) a (Zc cls d) h) (u : s.heap.UpToSlots h) : Down X pins σ H sI { s with heap := h } B a cls d := ⟨g.inv, g.old, g.up.trans u, f, g.na, g.os, g.gens⟩
/-- what a suite ends with, told of the statement around it -/
theorem left_suite {q : Addr × PySem.Obj} {f : Flow} {s1 : Shared} (ok : X.Ok) (h : SP (X.suite a (q :: (X.pn ++ pins))) [] D f s1) : SP X pins D f s1 := by
  cases f with
  | next => obtain ⟨σ', H', S, k⟩ := h; exact ⟨σ', H', S.unsuite ok, k⟩
  | brk => obtain ⟨σ', H', S, k⟩ := h; exact ⟨σ', H', S.unsuite ok, k⟩
  | cont => obtain ⟨σ', H', S, k⟩ := h; exact ⟨σ', H', S.unsuite ok, k⟩
  | ret u => obtain ⟨v, σ', H', S, r, k⟩ := h; exact ⟨v, σ', H', S.unsuite ok, r, k⟩
/-- the name goes -/
theorem name_goes {i : Nat} {n : Str} {p : Pos} {f : Flow} {s1 : Shared} (hN : X.N.Nodup) (hi : X.N[i]? = some n) (hl : X.env.kindOf n = some .local) (h : SP X pins (clrE i D) f s1) : wpAny (model X.prog X.w) X.A (do bindName X.env n .none; unbindBehindTheSuite X.env n p) (fun _ s2 => SP X pins D f s2) X.xe s1 := by
  cases f with
  | next => obtain ⟨σ', H', S, k⟩ := h; exact gone_ok S hN hi hl fun _ S2 => ⟨_, H', S2, k⟩
  | brk => obtain ⟨σ', H', S, k⟩ := h; exact gone_ok S hN hi hl fun _ S2 => ⟨_, H', S2, k⟩
  | cont => obtain ⟨σ', H', S, k⟩ := h; exact gone_ok S hN hi hl fun _ S2 => ⟨_, H', S2, k⟩
  | ret u => obtain ⟨v, σ', H', S, r, k⟩ := h; exact gone_ok S hN hi hl fun _ S2 => ⟨v, _, H', S2, r, k⟩
/-- the clauses, one after the other -/
theorem Down.clauses (hs : X.stack = X.env :: X.outer) (hf : X.env.frame = some X.env.locals) (hN : X.N.Nodup) (tk : Takes X Wo) (ok : X.Ok) {hds : List ExceptHandler} {l : List (Value × Option Nat × (Addr → Value → Option Addr → TS))} (c : ClOk X hds l) (g : Down X pins σ H sI s B a cls d) (w : wCl X.K Wo D l cls d σ H) :
    wpAny (model X.prog X.w) X.A (handleBy (.ref a) X.env hds) (SP X pins D) X.xe s := by
  induction c with
  | nil => exact g.goes_on hs hf tk w
  | plain hc hsu _ ih =>
    obtain ⟨y, hy, yes, no⟩ := w
    refine wpAny_handleBy_cons (g.asked hf (t := none) hc hy ?_) nofun
    cases y with
    | false => exact ih (no rfl)
    | true =>
      refine codeAny_handlers_suite (HandSPX.lands_againZ g.fly fun h1 f1 u1 => ?_)
      obtain ⟨oe, z, fd, _, S⟩ := (g.later f1 u1).seen hf
      exact wpAny_mono ((hsu a oe cls d _ z fd).run [] _ σ H D S (yes rfl a g.na)) (fun f s1 q => left_suite ok q) fun _ _ q => q.elim
  | named hc hi hl hsu _ ih =>
    obtain ⟨y, hy, yes, no⟩ := w
    refine wpAny_handleBy_cons (g.asked hf (t := none) hc hy ?_) nofun
    cases y with
    | false => exact ih (no rfl)
    | true =>
      refine codeAny_handlers_suite_as (HandSPX.lands_againZ g.fly fun h1 f1 u1 => ?_)
      obtain ⟨oe, z, fd, _, S⟩ := (g.later f1 u1).seen hf
      refine store_ok (X := X.suite a ((a, oe) :: (X.pn ++ pins))) (v := .ref a) S hN hi (.inl hl) rfl (fun s1 S1 => ?_) (.inr hl)
      exact wpAny_mono ((hsu a oe cls d _ z fd).run [] s1 _ H _ S1 (yes rfl a g.na)) (fun f s2 q => name_goes hN hi hl (left_suite ok q)) fun _ _ q => q.elim
/-- try with clauses -/
theorem ps_try_cl {body : List Stmt} {h₀ : ExceptHandler} {hds : List ExceptHandler} {l : List (Value × Option Nat × (Addr → Value → Option Addr → TS))} {pos : Pos} {tb : WX → TS} (hs : X.stack = X.env :: X.outer) (hf : X.env.frame = some X.env.locals) (hN : X.N.Nodup) (tk : Takes X Wo)
    (hb : ∀ (W : WX) (pn : List (Addr × PySem.Obj)) (xe : Value → Shared → Prop), Takes (X.tr pn xe) W → PassesOwn (model X.prog X.w) X.A X.env xe → PSs (X.tr pn xe) body (tb W)) (c : ClOk X (h₀ :: hds) l) : PS X (.Try body (h₀ :: hds) [] [] pos) (fun D σ H => tb (wCl X.K Wo D l) D σ H) := by
  refine ⟨fun pins s σ H D I h => ?_⟩
  have catch_ : Takes (X.tr (X.pn ++ pins) (fun e s1 => wpAny (model X.prog X.w) X.A (noteFrame e X.env) (fun _ s2 => wpAny (model X.prog X.w) X.A (setFlight e none) (fun _ s3 => wpAny (model X.prog X.w) X.A (handleBy e X.env (h₀ :: hds)) (SP X pins D) X.xe s3) X.xe s2) X.xe s1)) (wCl X.K Wo D l) := by
    rintro _ s1 ⟨a, B, sI, pn, σ1, H1, cls, d, rfl, J, old, up, sky, na, os, gens, w⟩
    refine Sky.land (L := X.env.locals) (outer := X.outer) (Z := Zc cls d) (B := B) Zc.steady (by rw [I.ok.frames, hs]) hf (by rw [← hs]; exact sky) fun h2 fl up2 => ?_
    exact Down.clauses hs hf hN tk I.ok c ⟨J.ofTry I.ok, old, up.trans up2, fl, na, os, gens⟩ w
  have run := (hb (wCl X.K Wo D l) (X.pn ++ pins) _ catch_ PassesOwn.looking).run [] s σ H D (I.toTry _) h
  refine wpAny_Try_except (wpAny_mono run (fun f s1 q => ?_) fun _ _ q => q)
  cases f with
  | next => obtain ⟨σ', H', S, k⟩ := q; exact wpAny_execs_nil ⟨σ', H', S.ofTry I.ok, k⟩
  | brk => obtain ⟨σ', H', S, k⟩ := q; exact ⟨σ', H', S.ofTry I.ok, k⟩
  | cont => obtain ⟨σ', H', S, k⟩ := q; exact ⟨σ', H', S.ofTry I.ok, k⟩
  | ret u => obtain ⟨v, σ', H', S, r, k⟩ := q; exact ⟨v, σ', H', S.ofTry I.ok, r, k⟩
end
end RL
namespace RL
open PySem L2 PySem.Spec
/-! ### clauses over plain computations -/
section
variable {X : Cx} {cn : Str → Addr} {W : WX} {es : List Str} {body : List Stmt} {pos : Pos} {mb : MS}
inductive RCl (X : Cx) (cn : Str → Addr) (es : List Str) : List ExceptHandler → List MClause → Prop
  | nil : RCl X cn es [] []
  | plain {x c : Str} {ms : Exc → MS} {b₀ : Stmt} {suite : List Stmt} {np p : Pos} {hs : List ExceptHandler} {l : List MClause} :
      CatchOk X cn es x c → SuiteOk X cn es none (b₀ :: suite) ms → RCl X cn es hs l → RCl X cn es (.ExceptHandler (some (.Name x np)) none (b₀ :: suite) p :: hs) ((c, none, ms) :: l)
  | named {x n c : Str} {i : Nat} {ms : Exc → MS} {b₀ : Stmt} {suite : List Stmt} {np p : Pos} {hs : List ExceptHandler} {l : List MClause} :
      X.N[i]? = some n → X.env.kindOf n = some .local → CatchOk X cn es x c → SuiteOk X cn es (some i) (b₀ :: suite) ms → RCl X cn es hs l → RCl X cn es (.ExceptHandler (some (.Name x np)) (some n) (b₀ :: suite) p :: hs) ((c, some i, ms) :: l)
def clsOf (X : Cx) (cn : Str → Addr) (es : List Str) (l : List MClause) : List (Value × Option Nat × (Addr → Value → Option Addr → TS)) := l.map fun q => (.ref (cn q.1), q.2.1, tX (ux X cn) es q.2.1 q.2.2)
theorem rcl_ok {hs : List ExceptHandler} {l : List MClause} (h : RCl X cn es hs l) : ClOk X hs (clsOf X cn es l) := by
  induction h with
  | nil => exact .nil
  | plain hc hsu _ ih => exact .plain hc.1 hsu ih
  | named hi hl hc hsu _ ih => exact .named hc.1 hi hl hsu ih
theorem hgo_wish {hs : List ExceptHandler} {l : List MClause} (h : RCl X cn es hs l) {e : Exc} (hx : e.cls ∈ es) {D : Ends} {d : Option Addr} {τ : T} {g : G} {ρ : List Addr} {σ : St} {H : Hp} (s : Stt (ux X cn) ρ τ g σ H) (q : XRel (ux X cn) ρ H e (.ref (cn e.cls)) d) (p : PostS (ux X cn) W ρ H (hGo e l τ g) D) :
    wCl X.K W D (clsOf X cn es l) (.ref (cn e.cls)) d σ H := by
  induction h with
  | nil => exact p ρ σ H _ _ Ev.refl s q
  | @plain x c ms _ _ _ _ _ l hc hsu _ ih =>
    have p' : PostS (ux X cn) W ρ H (if subE e.cls c = true then noEx (ms e τ g) else hGo e l τ g) D := p
    refine ⟨_, hc.2 _ hx, fun hy a ha => ?_, fun hy => ih ?_⟩
    · rw [if_pos hy] at p'
      exact ⟨ρ, τ, g, e, hx, s, q, fun j z => (by cases z), noEx_post p'⟩
    · rw [hy, if_neg Bool.false_ne_true] at p'
      exact p'
  | @named x n c i ms _ _ _ _ _ l hi hl hc hsu _ ih =>
    have p' : PostS (ux X cn) W ρ H (if subE e.cls c = true then clrR i (ms e (τ.set i none) g) else hGo e l τ g) D := p
    refine ⟨_, hc.2 _ hx, fun hy a ha => ?_, fun hy => ih ?_⟩
    · rw [if_pos hy] at p'
      refine ⟨ρ, τ.set i none, g, e, hx, s.held, q, fun j z hj => ?_, clr_post p'⟩
      cases z
      rw [List.length_set] at hj
      exact List.getElem?_set_self hj
    · rw [hy, if_neg Bool.false_ne_true] at p'
      exact p'
/-- try with clauses -/
theorem rs_tryL {h₀ : ExceptHandler} {hds : List ExceptHandler} {l : List MClause} (F : Fit X W) (hs : X.stack = X.env :: X.outer) (hf : X.env.frame = some X.env.locals) (hN : X.N.Nodup)
    (hb : ∀ (W' : WX) (pn : List (Addr × PySem.Obj)) (xe : Value → Shared → Prop), Fit (X.tr pn xe) W' → RSs (X.tr pn xe) cn W' body mb) (c : RCl X cn es (h₀ :: hds) l) : RS X cn W (.Try body (h₀ :: hds) [] [] pos) (mTry es l mb) := by
  refine psI (ps_try_cl (tb := fun W' => tS (ux X cn) W' mb) hs hf hN F.tk (fun W' pn xe tk pw => hb W' pn xe ⟨tk, pw, F.calm⟩) (rcl_ok c)) fun D σ H ⟨ρ, τ, g, s, p⟩ => ⟨ρ, τ, g, s, try_split p fun e τ1 g1 ρ' σ' H' cls d hx s1 q1 p1 => ?_⟩
  have ec := q1.1
  subst ec
  exact hgo_wish c hx s1 q1 p1
end
end RL
namespace RL
open PySem L2
/-! ### lists: one of them only read, or laid several times -/
def fPlusK : D → D → M D := fun x y g => match x, y with
  | .kl l, .ref m => match g[m]? with
    | some (.lst l') => ck (l.length + l'.length ≤ 100000) (.ok (.ref g.length) (g ++ [.lst (l ++ l')]))
    | _ => .bad
  | _, _ => .bad
def fRep : D → D → M D := fun x y g => match x, y with
  | .ref n, .int k => match g[n]? with
    | some (.lst l) => ck (0 ≤ k ∧ k ≤ 1000 ∧ l.length ≤ 100) (.ok (.ref g.length) (g ++ [.lst (List.replicate k.toNat l).flatten]))
    | _ => .bad
  | _, _ => .bad
section
variable {X : Cx} {cn : Str → Addr} {W : WX} {pos : Pos} {a b e o : Expr} {es : List Expr} {ma mb mo : ME} {ml : MA} {apos cpos : Pos}
def rCatS (K : PySem.W.Frag) : R2 := fun x y H Q => ∃ l b xs zs, x = .ref l ∧ y = .ref b ∧ SqL K H l xs ∧ SqL K H b zs ∧ xs.length + zs.length ≤ sizeLine ∧ ∀ p, H p = none → Q (.ref p) (upd H p (.lst (xs ++ zs)))
theorem op_catS : OpR X (binaryOp .Add) (rCatS X.K) := by
  rintro pins s σ H _ _ v u Q I rv ru ⟨l, b, xs, zs, rfl, rfl, sl, sb, hz, q⟩
  cases rv
  cases ru
  obtain ⟨is, r1, ⟨⟨c1, d1, t1, s1⟩, n1, g1, e1, _, f1⟩, _⟩ := I.list sl
  obtain ⟨js, r2, ⟨⟨c2, d2, t2, s2⟩, n2, g2, e2, _, f2⟩, _⟩ := I.list sb
  simp only at e1 f1 e2 f2
  subst e1 f1 e2 f2
  have hl : is.toArray.size + js.toArray.size ≤ sizeLine := by
    rw [List.size_toArray, List.size_toArray, ← r1.length, ← r2.length]
    exact hz
  refine PySem.concat_meets ⟨_, g1, rfl⟩ ⟨_, g2, rfl⟩ noFill_list_add seq_list_add PySem.F.slot_list_add PySem.F.entry_list_add (PySem.F.args_list_add_2 _ _) (PyProof.Rows.list_addW l b is.toArray js.toArray n1 n2 d1 d2 s1 s2 hl) ⟨g1, g2, ?_⟩
  have e : is.toArray ++ js.toArray = (is ++ js).toArray := by simp
  rw [e]
  exact ⟨.ref _, _, I.lnew (t' := s.toks) (r1.append r2) (by rw [List.length_append]; exact hz), rfl, q _ I.fresh⟩
theorem s_plusK : S2 (ux X cn) (rCatS X.K) fPlusK := by
  intro W σ ρ H g x y v u Q r qx qy p
  unfold fPlusK at p
  split at p
  · rename_i l m
    split at p
    · rename_i l' hm
      obtain ⟨c, p⟩ := Post.ck p
      cases qx with
      | kl h1 h2 =>
        cases qy with
        | ref hb =>
          obtain ⟨ys, e2, r2⟩ := r.lst hm hb
          refine ⟨_, _, _, ys, rfl, rfl, h1.seq, .of e2, ?_, fun q hq => ?_⟩
          · rw [← h2.length, ← r2.length]
            exact Nat.le_of_lt (small_line c)
          · obtain ⟨ev, rp, hx⟩ := Ev.cnt (ob := .lst (l ++ l')) (o := .lst _) r hq fun e h => ⟨_, h, (e.rels r h2).app (e.rels r r2)⟩
            exact p _ _ _ ev rp (.ref hx)
    · exact p.elim
  · exact p.elim
theorem re_plusK (ha : RE X cn W a ma) (hb : RE X cn W b mb) : RE X cn W (.BinOp a .Add b pos) (mOp fPlusK ma mb) := re_op op_catS s_plusK ha hb
theorem rels_rep {K : PySem.W.Frag} {ρ : List Addr} {H : Hp} {l : List D} {xs : List V} (r : RelDs K ρ H l xs) : ∀ k : Nat, RelDs K ρ H (List.replicate k l).flatten (List.replicate k xs).flatten
  | 0 => .nil
  | k + 1 => by
    rw [List.replicate_succ, List.replicate_succ, List.flatten_cons, List.flatten_cons]
    exact r.app (rels_rep r k)
theorem s_rep : S2 (ux X cn) rRep fRep := by
  intro W σ ρ H g x y v u Q r qx qy p
  unfold fRep at p
  split at p
  · rename_i n k
    split at p
    · rename_i l hn
      obtain ⟨⟨c1, c2, c3⟩, p⟩ := Post.ck p
      cases qx with
      | ref ha =>
        cases qy
        obtain ⟨xs, e1, r1⟩ := r.lst hn ha
        refine ⟨_, k, xs, rfl, rfl, e1, by omega, by omega, ?_, fun q hq => ?_⟩
        · rw [← r1.length, sizeLine_eq]
          have : k.toNat ≤ 1000 := by omega
          exact Nat.le_trans (Nat.mul_le_mul c3 this) (by decide)
        · obtain ⟨ev, rp, hx⟩ := Ev.cnt (ob := .lst (List.replicate k.toNat l).flatten) (o := .lst _) r hq fun e h => ⟨_, h, rels_rep (e.rels r r1) _⟩
          exact p _ _ _ ev rp (.ref hx)
    · exact p.elim
  · exact p.elim
theorem re_rep (ha : RE X cn W a ma) (hb : RE X cn W b mb) : RE X cn W (.BinOp a .Mult b pos) (mOp fRep ma mb) := re_op op_rep s_rep ha hb
/-! texts: split -/
def fSplit : D → List D → M D := fun x l g => match x, l with
  | .str a, [.str b] => ck ((b.length == 0) = false ∧ a.length ≤ 1000 ∧ (Txt.split a b).all sOk = true) (.ok (.ref g.length) (g ++ [.lst ((Txt.split a b).map .str)]))
  | _, _ => .bad
theorem rels_strs {K : PySem.W.Frag} {ρ : List Addr} {H : Hp} : ∀ {l : List Str}, l.all sOk = true → RelDs K ρ H (l.map D.str) (l.map V.str)
  | [], _ => .nil
  | _ :: _, h => by
    obtain ⟨h1, h2⟩ := (Bool.and_eq_true _ _).mp (show (_ && _) = true from h)
    exact .cons (.str h1) (rels_strs h2)
theorem m_split : MtD X cn "str.split" fSplit := by
  intro W pins s σ H x xs v us Q ρ g d l I rx rs R qd ql p
  unfold fSplit at p
  split at p
  · rename_i a b
    obtain ⟨⟨c1, c2, c3⟩, p2⟩ := Post.ck p
    cases qd
    cases ql with
    | cons q0 qn =>
      cases qn
      cases q0
      refine mt_split pins s σ H _ _ v us Q I rx rs ⟨a, b, rfl, rfl, c1, by rw [sizeLine_eq]; omega, fun q hq => ?_⟩
      obtain ⟨ev, rp, hx⟩ := Ev.cnt (ob := .lst ((Txt.split a b).map .str)) (o := .lst ((Txt.split a b).map V.str)) R hq fun e h => ⟨_, h, rels_strs c3⟩
      exact p2 _ _ _ ev rp (.ref hx)
  · exact p.elim
theorem re_split (ho : RE X cn W o mo) (ha : RA X cn W (e :: es) ml)
    (hbase : attributeBase o "split" X.env (eval o X.env) = eval o X.env := by rfl)
    (hfew : ((backTo cpos (starEach (e :: es) X.env)).all (fun x => !x.1) && (backToKw cpos (keywordEach [] X.env)).all (fun x => x.1.isSome)
      && decide ((e :: es).length + ([] : List Keyword).length + (if ([] : List Keyword).isEmpty then 0 else 1) < 30)) = true := by rfl)
    (hline : (apos.endLine == cpos.line) = true := by rfl) (hs : starEach (e :: es) X.env = (false, eval e X.env) :: starEach es X.env := by rfl) (hplain : (backTo cpos (starEach es X.env)).any (·.1) = false := by rfl) :
    RE X cn W (.Call (.Attribute o "split" apos) (e :: es) [] cpos) (mBM .str fSplit mo ml) := re_bm (.inl rfl) PySem.F.plainAttrs_str PySem.F.slot_str_split PySem.F.type_str_split m_split ho ha hbase hfew hline hs hplain
/-! a constant of the module that is a text -/
theorem re_gstr {x s : Str} (hg : Gl X x) (hm : ∃ t, X.mg x = some (.str s t)) (h : sOk s = true := by decide +kernel) (hd : (x == ("__debug__" : Str)) = false := by decide) : RE X cn W (.Name x pos) (mC (.str s)) := by
  obtain ⟨t, e⟩ := hm
  exact re_glob hg e (v := .str s) ⟨t, rfl⟩ (fun _ _ => .str h) hd
end
/-! C.f(o, ..): a def read off its class -/
def CFun (K : PySem.W.Frag) (C : Addr) (m : Str) (f : Addr) : Prop := ∃ mc, ClX.CRead K C mc ∧ PySem.W.findCls K (.ref C) mc m = some (.val (.ref f))
section
variable {X : Cx} {cn : Str → Addr} {W : WX} {k n : Nat} {es : List D} {mf : List D → M D} {f C : Addr} {x m : Str} {p pos apos : Pos} {e : Expr} {el : List Expr} {ml : MA}
theorem re_cfun {pl : Sem Bool} (F : Fit X W) (hC : CFun X.K C m f) (Df : DefM X.prog X.w X.K X.mg X.base cn k f n es mf) (hr : Room k X.A) (hg : Gl X x) (hm : X.mg x = some (.ref C)) (ha : RA X cn W (e :: el) ml) (hdb : (x == ("__debug__" : Str)) = false := by decide)
    (hst : starEach (e :: el) X.env = (false, eval e X.env) :: starEach el X.env := by rfl) (hpl : (backTo pos (starEach el X.env)).any (·.1) = false := by rfl)
    (ht : eval (.Call (.Attribute (.Name x p) m apos) (e :: el) [] pos) X.env = (do
      let ov ← eval (.Name x p) X.env
      standAt apos.atName
      let (f, first) ← holding [ov] (getMethod ov m pl)
      callWith pos f first (backTo pos (starEach (e :: el) X.env)) (backToKw pos (keywordEach [] X.env))) := by rfl) : RE X cn W (.Call (.Attribute (.Name x p) m apos) (e :: el) [] pos) (mUnA (fCall n es mf) ml) := by
  refine ⟨fun pins s σ H Q I ⟨ρ, τ, g, st, h⟩ => ?_⟩
  obtain ⟨mc, rd, at_⟩ := hC
  refine PySem.W.methodCall_KW (pl := pl) (ld_glob I hg hm ?_ hdb) ht
  refine PySem.W.method_cls I.kIn rd.ga (ClX.getcval_ok I rd (v := .ref f) ⟨at_, rfl⟩ fun s1 I1 => ?_)
  refine PySem.W.callWith_K (first := []) (h₀ := X.base) I.ok.mod.kin Df.kp (thn (ha.run pos pins s1 σ H (fun vs H2 => ∃ ρ2 g2 l, Rep (ux X cn) ρ2 H2 g2 ∧ RelDs X.K ρ2 H2 l vs ∧ Post (ux X cn) (rD (ux X cn)) W σ ρ2 H2 (fCall n es mf l g2) Q) I1
    ⟨ρ, τ, g, st, h.thn fun ρ2 vs H2 l g2 e2 r2 q2 p3 => ⟨ρ2, g2, l, r2, q2, p3⟩⟩) fun us s2 ⟨vs, H2, I2, r, ρ2, g2, l, r2, q2, p3⟩ => ⟨I2.kIn, ?_⟩) hst hpl
  exact run_defM (us := us) (vs := vs) Df hr F.tk I2 r r2 q2 p3
end
/-! d.setdefault(k, v), of texts -/
def fSetd : D → List D → M D := fun x l g => match x, l with
  | .ref n, [.str k, v] => match g[n]? with
    | some (.dct false kvs) => ck (allS kvs = true ∧ kvs.length ≤ 100000) (match dget kvs (.str k) with
      | some d => .ok d g
      | none => .ok v (g.set n (.dct false (dput kvs (.str k) v))))
    | _ => .bad
  | _, _ => .bad
theorem m_setd {X : Cx} {cn : Str → Addr} : MtD X cn "dict.setdefault" fSetd := by
  intro W pins s σ H x xs v us Q ρ g d l I rx rs R qd ql p
  unfold fSetd at p
  split at p
  · rename_i n k e
    split at p
    · rename_i kvs hn
      obtain ⟨⟨c1, hz⟩, p2⟩ := Post.ck p
      cases qd with
      | @ref _ a ha =>
        cases (show v = Value.ref a from rx)
        cases ql with
        | @cons _ y1 _ _ q0 qn =>
          cases qn with
          | @cons _ y2 _ _ q1 qn =>
            cases qn
            have hk : sOk k = true := by cases q0; assumption
            cases q0
            cases rs with
            | @cons _ u1 _ _ r0 rn =>
              cases rn with
              | @cons _ u2 _ _ r1 rn =>
                cases rn
                obtain ⟨u, h1, d1⟩ := R.obs n _ a hn ha
                obtain ⟨ks, rfl, rk⟩ := d1.texts c1
                obtain ⟨z1, lo, vs, rel, dd⟩ := L2.dk_of I.hok h1
                have lz : ks.length ≤ 100000 := by rw [← rk.len]; exact hz
                have nd : (ks.map (·.1)).Nodup := by
                  rw [rel.keys]
                  obtain ⟨_, _, _, _, _, _, _, _, nd⟩ := dd
                  exact nd
                have gv := RelKV.val rk rel k
                refine call_meetsIn PySem.F.slot_dict_setdefault dd.typeIs PySem.F.entry_dict_setdefault (PySem.F.args_dict_setdefault_3 _ _ _) (kt_meets_setdefault (mixKind X.prog X.w) a (kV_is (k := .inr k) r0) lo u2)
                  ⟨vs, dd, by rw [← rel.length]; exact z1, fun w hw => ?_, fun hw h' d' sb => ?_⟩
                · cases e1 : dget kvs (.str k) with
                  | none => rw [e1, hw] at gv; exact gv.elim
                  | some d' =>
                    rw [e1, hw] at gv
                    rw [e1] at p2
                    obtain ⟨y, g1, g2⟩ := gv
                    exact ⟨y, H, I.tok _, g2, Post.at (Rl := rD (ux X cn)) p2 R g1⟩
                · cases e1 : dget kvs (.str k) with
                  | some d' => rw [e1, hw] at gv; exact gv.elim
                  | none =>
                    rw [e1] at p2
                    have hl' : (putK ks (.inr k) y2).length ≤ sizeLine := by
                      have := length_putK ks (.inr k) y2
                      rw [sizeLine_eq]
                      omega
                    have he : ∃ q, h'.get? a = some q := let ⟨q, _, _, hq, _⟩ := d'; ⟨q, hq⟩
                    obtain ⟨ev, rp⟩ := Ev.wr (ob := .dct false (dput kvs (.str k) e)) (o := .dK (putK ks (.inr k) y2)) R ha (List.getElem?_eq_some_iff.mp hn).1 (fun _ _ z => by rw [h1] at z; cases z) fun e' h => ⟨_, h, .inl ⟨_, rfl, (RelKs.put q1 hk rk nd).mono fun z => e'.rel R z⟩⟩
                    have J := d_write (t' := s.toks + 1) I (by rw [h1]; exact True.intro) sb he (dk_new hl' lo (rel.put (.inr k) r1) d')
                    exact ⟨y2, _, J, r1, p2 _ _ _ ev rp (ev.rel R q1)⟩
    · exact p.elim
  · exact p.elim
section
variable {X : Cx} {cn : Str → Addr} {W : WX} {mo : ME} {ml : MA} {o e : Expr} {es : List Expr} {apos cpos : Pos}
theorem re_setd (ho : RE X cn W o mo) (ha : RA X cn W (e :: es) ml)
    (hbase : attributeBase o "setdefault" X.env (eval o X.env) = eval o X.env := by rfl)
    (hfew : ((backTo cpos (starEach (e :: es) X.env)).all (fun x => !x.1) && (backToKw cpos (keywordEach [] X.env)).all (fun x => x.1.isSome)
      && decide ((e :: es).length + ([] : List Keyword).length + (if ([] : List Keyword).isEmpty then 0 else 1) < 30)) = true := by rfl)
    (hline : (apos.endLine == cpos.line) = true := by rfl) (hs : starEach (e :: es) X.env = (false, eval e X.env) :: starEach es X.env := by rfl) (hplain : (backTo cpos (starEach es X.env)).any (·.1) = false := by rfl) :
    RE X cn W (.Call (.Attribute o "setdefault" apos) (e :: es) [] cpos) (mBM .dct fSetd mo ml) := re_bm (.inr (.inr rfl)) PySem.F.plainAttrs_dict PySem.F.slot_dict_setdefault PySem.F.type_dict_setdefault m_setd ho ha hbase hfew hline hs hplain
end
end RL
namespace RL
open PySem L2
/-! ### plain side: dicts whose keys are written by f -/
structure KF {K : Type} (f : K → D) : Prop where
  inj : ∀ a b, f a = f b → a = b
  ok : ∀ a, keyb (f a) = true
  sk : ∀ a b, sk (f a) (f b) = true
  gr : ∀ a, RL.gr 20 (f a) = true
  cm : ∀ a b, RL.cm (f a) (f b) = true
abbrev S2' := Str × Str
abbrev S3' := Str × Str × Str
def d2 (p : S2') : D := .tup [.str p.1, .str p.2]
def d3 (p : S3') : D := .tup [.str p.1, .str p.2.1, .str p.2.2]
theorem kfS : KF D.str := ⟨fun _ _ h => D.str.inj h, fun _ => rfl, fun _ _ => rfl, fun _ => rfl, fun _ _ => rfl⟩
theorem kf2 : KF d2 := ⟨fun a b h => by
  simp only [d2, D.tup.injEq, List.cons.injEq, D.str.injEq, and_true] at h
  exact Prod.ext h.1 h.2, fun _ => rfl, fun _ _ => rfl, fun _ => rfl, fun _ _ => rfl⟩
theorem kf3 : KF d3 := ⟨fun a b h => by
  simp only [d3, D.tup.injEq, List.cons.injEq, D.str.injEq, and_true] at h
  exact Prod.ext h.1 (Prod.ext h.2.1 h.2.2), fun _ => rfl, fun _ _ => rfl, fun _ => rfl, fun _ _ => rfl⟩
def kd {K : Type} (f : K → D) (l : List (K × D)) : List (D × D) := l.map fun p => (f p.1, p.2)
section
variable {K : Type} [BEq K] [LawfulBEq K] {f : K → D}
theorem kd_app (l m : List (K × D)) : kd f (l ++ m) = kd f l ++ kd f m := by simp [kd]
theorem kd_len (l : List (K × D)) : (kd f l).length = l.length := by simp [kd]
theorem kd_sd (l : List (Str × D)) : kd D.str l = sd l := rfl
theorem kd_get (F : KF f) (x : K) : ∀ l : List (K × D), dget (kd f l) (f x) = l.lookup x
  | [] => rfl
  | (k, v) :: l => by
    show dget ((f k, v) :: kd f l) (f x) = _
    unfold dget
    by_cases h : k = x
    · subst h
      simp [List.lookup]
    · have h2 : (x == k) = false := by simpa using fun z => h (Eq.symm z)
      rw [if_neg fun z => h (F.inj _ _ z), kd_get F x l]
      simp only [List.lookup, h2]
theorem kd_put (F : KF f) (x : K) (d : D) : ∀ l : List (K × D), l.lookup x = none → dput (kd f l) (f x) d = kd f (l ++ [(x, d)])
  | [], _ => rfl
  | (k, v) :: l, h => by
    by_cases e : k = x
    · subst e
      simp [List.lookup] at h
    · have h2 : (x == k) = false := by simpa using fun z => e (Eq.symm z)
      simp only [List.lookup, h2] at h
      show dput ((f k, v) :: kd f l) (f x) d = (f k, v) :: kd f (l ++ [(x, d)])
      unfold dput
      rw [if_neg fun z => e (F.inj _ _ z), kd_put F x d l h]
theorem kd_ok (F : KF f) (x : K) (l : List (K × D)) : kOk (kd f l) (f x) := by
  refine ⟨F.ok x, fun p hp => ?_⟩
  obtain ⟨q, _, rfl⟩ := List.mem_map.mp hp
  exact F.sk _ _
theorem kd_keys (l : List (K × D)) : (kd f l).map (·.1) = (l.map (·.1)).map f := by simp [kd]
theorem lk_none {V : Type} {l : List (K × V)} {x : K} : l.lookup x = none ↔ x ∉ l.map (·.1) := by
  induction l with
  | nil => simp
  | cons p l ih =>
    obtain ⟨k, v⟩ := p
    by_cases h : x = k
    · subst h
      simp [List.lookup]
    · have h2 : (x == k) = false := by simpa using h
      simp only [List.lookup, h2, List.map_cons, List.mem_cons, h, false_or]
      exact ih
theorem lk_isSome {V : Type} {l : List (K × V)} {x : K} : (l.lookup x).isSome = decide (x ∈ l.map (·.1)) := by
  by_cases h : x ∈ l.map (·.1)
  · rw [decide_eq_true h]
    cases e : l.lookup x with
    | none => exact absurd h (lk_none.mp e)
    | some _ => rfl
  · rw [decide_eq_false h, lk_none.mpr h]
    rfl
theorem lk_map {V W : Type} (h : V → W) (x : K) : ∀ l : List (K × V), (l.map fun p => (p.1, h p.2)).lookup x = (l.lookup x).map h
  | [] => rfl
  | (k, v) :: l => by
    show List.lookup x ((k, h v) :: l.map fun p => (p.1, h p.2)) = _
    by_cases e : x = k
    · subst e
      simp [List.lookup]
    · have h2 : (x == k) = false := by simpa using e
      simp only [List.lookup, h2]
      exact lk_map h x l
theorem lk_app {V : Type} {l m : List (K × V)} {x : K} {v : V} (h : l.lookup x = some v) : (l ++ m).lookup x = some v := by
  induction l with
  | nil => simp at h
  | cons p l ih =>
    obtain ⟨k, w⟩ := p
    rw [List.cons_append]
    by_cases e : x = k
    · subst e
      simp [List.lookup] at h ⊢
      exact h
    · have h2 : (x == k) = false := by simpa using e
      simp only [List.lookup, h2] at h ⊢
      exact ih h
theorem lk_app2 {V : Type} {l m : List (K × V)} {x : K} (h : l.lookup x = none) : (l ++ m).lookup x = m.lookup x := by
  induction l with
  | nil => rfl
  | cons p l ih =>
    obtain ⟨k, w⟩ := p
    rw [List.cons_append]
    by_cases e : x = k
    · subst e
      simp [List.lookup] at h
    · have h2 : (x == k) = false := by simpa using e
      simp only [List.lookup, h2] at h ⊢
      exact ih h
theorem lk_last {V : Type} {l : List (K × V)} {x : K} {v : V} (h : l.lookup x = none) : (l ++ [(x, v)]).lookup x = some v := by
  rw [lk_app2 h]
  simp [List.lookup]
theorem lk_mem {V : Type} {l : List (K × V)} {x : K} {v : V} (h : l.lookup x = some v) : (x, v) ∈ l := by
  induction l with
  | nil => simp at h
  | cons p l ih =>
    obtain ⟨k, w⟩ := p
    by_cases e : x = k
    · subst e
      simp [List.lookup] at h
      subst h
      exact List.mem_cons_self
    · have h2 : (x == k) = false := by simpa using e
      simp only [List.lookup, h2] at h
      exact List.mem_cons_of_mem _ (ih h)
theorem lk_of_mem {V : Type} {l : List (K × V)} {x : K} (h : x ∈ l.map (·.1)) : ∃ v, l.lookup x = some v := by
  cases e : l.lookup x with
  | none => exact absurd h (lk_none.mp e)
  | some v => exact ⟨v, rfl⟩
theorem lk_nd {V : Type} {l : List (K × V)} {x : K} {v : V} (nd : (l.map (·.1)).Nodup) (h : (x, v) ∈ l) : l.lookup x = some v := by
  induction l with
  | nil => simp at h
  | cons p l ih =>
    obtain ⟨k, w⟩ := p
    rw [List.map_cons, List.nodup_cons] at nd
    rcases List.mem_cons.mp h with h | h
    · cases h
      simp [List.lookup]
    · have e : x ≠ k := fun z => nd.1 (z ▸ List.mem_map.mpr ⟨_, h, rfl⟩)
      have h2 : (x == k) = false := by simpa using e
      simp only [List.lookup, h2]
      exact ih nd.2 h
end
section
variable {K : Type} [BEq K] [LawfulBEq K] {f : K → D} {g : G} {τ : T} {n : Nat} {k : Bool} {l : List (K × D)} {x : K} {d : D}
theorem in_kd (F : KF f) (h : g[n]? = some (.dct k (kd f l))) : fIn (f x) (.ref n) g = .ok (.bl (decide (x ∈ l.map (·.1)))) g := by
  unfold fIn items
  dsimp only
  rw [h]
  dsimp only
  rw [ck_pos (kd_ok F x l), kd_get F, lk_isSome]
theorem notin_kd (F : KF f) (h : g[n]? = some (.dct k (kd f l))) : fNot (f x) (.ref n) g = .ok (.bl (!decide (x ∈ l.map (·.1)))) g := by
  unfold fNot
  rw [in_kd F h]
theorem subs_kd (F : KF f) (h : g[n]? = some (.dct k (kd f l))) (hd : l.lookup x = some d) : fSubs (.ref n) (f x) g = .ok d g := by
  have kk := kd_ok F x l
  have e := kd_get F x l
  rw [hd] at e
  have z := F.ok x
  unfold fSubs items
  generalize f x = y at *
  cases y with
  | str s =>
    dsimp only
    rw [h]
    dsimp only
    rw [ck_pos kk, e]
  | tup t =>
    dsimp only
    rw [h]
    dsimp only
    rw [ck_pos kk, e]
  | _ => cases z
theorem get_kd (F : KF f) {e : D} (h : g[n]? = some (.dct k (kd f l))) : fGet (.ref n) [f x, e] g = .ok ((l.lookup x).getD e) g := by
  unfold fGet
  dsimp only
  rw [h]
  show ck _ _ = _
  rw [ck_pos (kd_ok F x l), kd_get F]
theorem set_kd (F : KF f) {e o i : ME} {g1 g2 g3 : G} {v : D} (he : e τ g = .ok v g1) (ho : o τ g1 = .ok (.ref n) g2) (hi : i τ g2 = .ok (f x) g3) (h : g3[n]? = some (.dct false (kd f l))) (hn : l.lookup x = none) (hl : l.length ≤ 100000) : mAsg e (gSubM o i) τ g = .nx τ (g3.set n (.dct false (kd f (l ++ [(x, v)])))) := by
  unfold mAsg
  rw [he]
  show onlyNx (gSubM o i v τ g1) = _
  unfold gSubM
  rw [ho]
  show onlyNx ((i τ g2).st τ _) = _
  rw [hi]
  have : fSet (.ref n) (f x) v g3 = some (g3.set n (.dct false (kd f (l ++ [(x, v)])))) := by
    unfold fSet
    dsimp only
    rw [h]
    show (if _ then _ else _) = _
    rw [if_pos ⟨kd_ok F x l, by rw [kd_len]; exact hl⟩, kd_put F x v l hn]
  show onlyNx (match fSet (.ref n) (f x) v g3 with | some g4 => .nx τ g4 | none => .bad) = _
  rw [this]
  rfl
theorem list_kd (h : g[n]? = some (.dct k (kd f l))) : fList [.ref n] g = .ok (.ref g.length) (g ++ [.lst ((l.map (·.1)).map f)]) := by
  unfold fList items
  dsimp only
  rw [h]
  dsimp only
  rw [kd_keys]
theorem in_lf (F : KF f) {y : D} {l : List K} {x : K} (h : items g y = some (l.map f)) : fIn (f x) y g = .ok (.bl (decide (x ∈ l))) g := by
  unfold fIn
  rw [h]
  dsimp only
  rw [ck_pos ⟨F.gr x, by rw [List.all_map]; exact List.all_eq_true.mpr fun _ _ => F.gr _, by rw [List.all_map]; exact List.all_eq_true.mpr fun _ _ => F.cm _ _⟩, decide_eq_decide.mpr (show f x ∈ l.map f ↔ x ∈ l from ⟨fun h => by
    obtain ⟨y, hy, e⟩ := List.mem_map.mp h
    rw [← F.inj _ _ e]
    exact hy, fun h => List.mem_map.mpr ⟨x, h, rfl⟩⟩)]
theorem notin_lf (F : KF f) {y : D} {l : List K} {x : K} (h : items g y = some (l.map f)) : fNot (f x) y g = .ok (.bl (!decide (x ∈ l))) g := by
  unfold fNot
  rw [in_lf F h]
end
section
variable {g : G} {τ : T} {n : Nat} {k : Bool}
theorem items_at {l : List D} (h : g[n]? = some (.lst l)) : items g (.ref n) = some l := by
  unfold items
  dsimp only
  rw [h]
/-- setdefault, of texts -/
theorem setd_old {l : List (Str × D)} {x : Str} {v d : D} (h : g[n]? = some (.dct false (sd l))) (hz : l.length ≤ 100000) (hd : l.lookup x = some d) : fSetd (.ref n) [.str x, v] g = .ok d g := by
  unfold fSetd
  dsimp only
  rw [h]
  show ck _ _ = _
  rw [ck_pos ⟨sd_allS l, by rw [sd_len]; exact hz⟩, sd_get, hd]
theorem setd_new {l : List (Str × D)} {x : Str} {v : D} (h : g[n]? = some (.dct false (sd l))) (hz : l.length ≤ 100000) (hd : l.lookup x = none) : fSetd (.ref n) [.str x, v] g = .ok v (g.set n (.dct false (sd (l ++ [(x, v)])))) := by
  unfold fSetd
  dsimp only
  rw [h]
  show ck _ _ = _
  rw [ck_pos ⟨sd_allS l, by rw [sd_len]; exact hz⟩, sd_get, hd, sd_put x v l hd]
theorem plusK {l l' : List D} {m : Nat} (h : g[m]? = some (.lst l')) (hl : l.length + l'.length ≤ 100000) : fPlusK (.kl l) (.ref m) g = .ok (.ref g.length) (g ++ [.lst (l ++ l')]) := by
  unfold fPlusK
  dsimp only
  rw [h]
  exact ck_pos hl _
theorem rep_at {l : List D} {k : Int} (h : g[n]? = some (.lst l)) (h1 : 0 ≤ k) (h2 : k ≤ 1000) (h3 : l.length ≤ 100) : fRep (.ref n) (.int k) g = .ok (.ref g.length) (g ++ [.lst (List.replicate k.toNat l).flatten]) := by
  unfold fRep
  dsimp only
  rw [h]
  exact ck_pos ⟨h1, h2, h3⟩ _
/-- no wish: left or right -/
theorem andE_t {a b : ME} {g1 : G} {r : Res D} (h : a τ g = .ok (.bl true) g1) (h2 : b τ g1 = r) : mAnd a b τ g = r := by
  unfold mAnd
  rw [h]
  exact h2
theorem andE_f {a b : ME} {g1 : G} (h : a τ g = .ok (.bl false) g1) : mAnd a b τ g = .ok (.bl false) g1 := by
  unfold mAnd
  rw [h]
  rfl
theorem ifE_t {c : MT} {a b : ME} {g1 : G} {r : Res D} (h : c τ g = .ok true g1) (h2 : a τ g1 = r) : mIf c a b τ g = r := by
  unfold mIf
  rw [h]
  exact h2
theorem ifE_f {c : MT} {a b : ME} {g1 : G} {r : Res D} (h : c τ g = .ok false g1) (h2 : b τ g1 = r) : mIf c a b τ g = r := by
  unfold mIf
  rw [h]
  exact h2
/-- the first part of g stays: reading behind it -/
theorem get_R {b R : G} {m : Nat} (h : b.length ≤ m) : (b ++ R)[m]? = R[m - b.length]? := List.getElem?_append_right h
end
end RL
namespace RL
open PySem L2
/-! ### plain side: the same, for pairs and triples of texts, and for dicts that hold texts -/
def vs {K : Type} (l : List (K × Str)) : List (K × D) := l.map fun p => (p.1, .str p.2)
section
variable {K : Type} [BEq K] [LawfulBEq K]
theorem vs_keys (l : List (K × Str)) : (vs l).map (·.1) = l.map (·.1) := by simp [vs, List.map_map, Function.comp_def]
theorem vs_lk (l : List (K × Str)) (x : K) : (vs l).lookup x = (l.lookup x).map D.str := lk_map D.str x l
theorem vs_app (l m : List (K × Str)) : vs (l ++ m) = vs l ++ vs m := by simp [vs]
theorem vs_len (l : List (K × Str)) : (vs l).length = l.length := by simp [vs]
end
section
variable {g : G} {τ : T} {n : Nat} {k : Bool} {a b c : Str} {d : D}
theorem in_d2 {l : List (S2' × D)} (h : g[n]? = some (.dct k (kd d2 l))) : fIn (.tup [.str a, .str b]) (.ref n) g = .ok (.bl (decide ((a, b) ∈ l.map (·.1)))) g := in_kd kf2 (x := (a, b)) h
theorem in_d3 {l : List (S3' × D)} (h : g[n]? = some (.dct k (kd d3 l))) : fIn (.tup [.str a, .str b, .str c]) (.ref n) g = .ok (.bl (decide ((a, b, c) ∈ l.map (·.1)))) g := in_kd kf3 (x := (a, b, c)) h
theorem notin_d2 {l : List (S2' × D)} (h : g[n]? = some (.dct k (kd d2 l))) : fNot (.tup [.str a, .str b]) (.ref n) g = .ok (.bl (!decide ((a, b) ∈ l.map (·.1)))) g := notin_kd kf2 (x := (a, b)) h
theorem notin_d3 {l : List (S3' × D)} (h : g[n]? = some (.dct k (kd d3 l))) : fNot (.tup [.str a, .str b, .str c]) (.ref n) g = .ok (.bl (!decide ((a, b, c) ∈ l.map (·.1)))) g := notin_kd kf3 (x := (a, b, c)) h
theorem subs_d2 {l : List (S2' × D)} (h : g[n]? = some (.dct k (kd d2 l))) (hd : l.lookup (a, b) = some d) : fSubs (.ref n) (.tup [.str a, .str b]) g = .ok d g := subs_kd kf2 (x := (a, b)) h hd
theorem subs_d3 {l : List (S3' × D)} (h : g[n]? = some (.dct k (kd d3 l))) (hd : l.lookup (a, b, c) = some d) : fSubs (.ref n) (.tup [.str a, .str b, .str c]) g = .ok d g := subs_kd kf3 (x := (a, b, c)) h hd
theorem set_d2 {l : List (S2' × D)} {e o i : ME} {g1 g2 g3 : G} {v : D} (he : e τ g = .ok v g1) (ho : o τ g1 = .ok (.ref n) g2) (hi : i τ g2 = .ok (.tup [.str a, .str b]) g3) (h : g3[n]? = some (.dct false (kd d2 l))) (hn : l.lookup (a, b) = none) (hl : l.length ≤ 100000) : mAsg e (gSubM o i) τ g = .nx τ (g3.set n (.dct false (kd d2 (l ++ [((a, b), v)])))) := set_kd kf2 (x := (a, b)) he ho hi h hn hl
theorem set_d3 {l : List (S3' × D)} {e o i : ME} {g1 g2 g3 : G} {v : D} (he : e τ g = .ok v g1) (ho : o τ g1 = .ok (.ref n) g2) (hi : i τ g2 = .ok (.tup [.str a, .str b, .str c]) g3) (h : g3[n]? = some (.dct false (kd d3 l))) (hn : l.lookup (a, b, c) = none) (hl : l.length ≤ 100000) : mAsg e (gSubM o i) τ g = .nx τ (g3.set n (.dct false (kd d3 (l ++ [((a, b, c), v)])))) := set_kd kf3 (x := (a, b, c)) he ho hi h hn hl
theorem inl_d2 {y : D} {l : List S2'} (h : items g y = some (l.map d2)) : fIn (.tup [.str a, .str b]) y g = .ok (.bl (decide ((a, b) ∈ l))) g := in_lf kf2 (x := (a, b)) h
theorem notinl_d2 {y : D} {l : List S2'} (h : items g y = some (l.map d2)) : fNot (.tup [.str a, .str b]) y g = .ok (.bl (!decide ((a, b) ∈ l))) g := notin_lf kf2 (x := (a, b)) h
end
/-! a loop that looks for the first text with P -/
theorem find_cut {us : List Str} {P : Str → Bool} {i : Nat} {u : Str} (h : us[i]? = some u) (hI : ∀ v ∈ us.take i, P v = false) (hp : P u = true) : us.find? P = some u := by
  have hi := (List.getElem?_eq_some_iff.mp h).1
  have hs : us = us.take i ++ u :: us.drop (i + 1) := by
    have := List.drop_eq_getElem_cons hi
    rw [(List.getElem?_eq_some_iff.mp h).2] at this
    rw [← this, List.take_append_drop]
  rw [hs, List.find?_append, List.find?_eq_none.mpr fun v hv => by rw [hI v hv]; simp, List.find?_cons_of_pos hp]
  rfl
theorem loop_find {c : Option (Nat × Ob)} {mi : MI} {mg : MG} {mb : MS} {g : G} {τ : T} {x0 : Option D} (us : List Str) (P : Str → Bool) (F : Option D → T) (hm : mi τ g = .ok (us.map D.str, c) g) (hc : still c g) (h0 : τ = F x0) (hg : ∀ u x, mg (.str u) (F x) g = .nx (F (some (.str u))) g)
    (hb : ∀ u ∈ us, mb (F (some (.str u))) g = if P u = true then .rt (.str u) g else .nx (F (some (.str u))) g) :
    (∃ u, us.find? P = some u ∧ mFor mi mg mb τ g = .rt (.str u) g) ∨ (us.find? P = none ∧ ∃ x, mFor mi mg mb τ g = .nx (F x) g) := by
  refine loop (us.map D.str) (fun i τ G => G = g ∧ (∃ x, τ = F x) ∧ ∀ u ∈ us.take i, P u = false) (fun r => (∃ u, us.find? P = some u ∧ r = .rt (.str u) g) ∨ (us.find? P = none ∧ ∃ x, r = .nx (F x) g)) hm (fun _ _ _ h => by rw [h.1]; exact hc) ⟨rfl, ⟨_, h0⟩, by simp⟩ ?_ ?_
  · rintro i d τ G hd ⟨rfl, ⟨x, rfl⟩, hI⟩
    rw [List.getElem?_map] at hd
    obtain ⟨u, hu, rfl⟩ := Option.map_eq_some_iff.mp hd
    refine ⟨_, _, hg u x, ?_⟩
    rw [hb u (List.mem_of_getElem? hu)]
    cases c : P u with
    | true =>
      rw [if_pos rfl]
      exact .inl ⟨u, find_cut hu hI c, rfl⟩
    | false =>
      rw [if_neg (by simp)]
      refine ⟨rfl, ⟨_, rfl⟩, fun v hv => ?_⟩
      rw [List.take_add_one, hu] at hv
      rcases List.mem_append.mp hv with hv | hv
      · exact hI v hv
      · have : v = u := by simpa using hv
        rw [this]
        exact c
  · rintro τ G ⟨rfl, ⟨x, rfl⟩, hI⟩
    rw [List.length_map, List.take_length] at hI
    exact .inr ⟨List.find?_eq_none.mpr fun v hv => by rw [hI v hv]; simp, x, rfl⟩
end RL
namespace RL
open PySem L2
/-! ### comprehensions whose parts make new things -/
section
variable {g : G} {τ : T}
theorem still_ext {c : Option (Nat × Ob)} {X : G} (h : still c g) : still c (g ++ X) := by
  cases c with
  | none => trivial
  | some p => exact app_get (show g[p.1]? = some p.2 from h)
theorem lcGo_ext {c : Option (Nat × Ob)} {t : Tg} {mt : MT} {me : ME} {τ₀ : T} (p : D → Bool) (f : D → D) (hc : still c g) : ∀ (l acc : List D) (X : G), (∀ d ∈ l, ∀ X : G, ∃ τ1, tgM t d τ₀ = some τ1 ∧ ∃ Y, mt τ1 (g ++ X) = .ok (p d) (g ++ X ++ Y) ∧ (p d = true → ∃ Z, me τ1 (g ++ X ++ Y) = .ok (f d) (g ++ X ++ Y ++ Z))) → acc.length + l.length ≤ 100000 → ∃ Y, lcGo c t mt me τ₀ l acc (g ++ X) = .ok (acc ++ (l.filter p).map f) (g ++ X ++ Y)
  | [], acc, X, _, _ => by
    unfold lcGo
    rw [if_pos (still_ext hc)]
    exact ⟨[], by simp⟩
  | d :: l, acc, X, h, hl => by
    obtain ⟨τ1, h1, Y, h2, h3⟩ := h d List.mem_cons_self X
    unfold lcGo
    rw [if_pos (still_ext hc), h1]
    dsimp only
    rw [h2]
    rw [List.length_cons] at hl
    cases hp : p d with
    | true =>
      obtain ⟨Z, h4⟩ := h3 hp
      dsimp only
      rw [h4]
      dsimp only
      rw [if_pos (by omega), List.append_assoc, List.append_assoc]
      obtain ⟨W, e⟩ := lcGo_ext p f hc l (acc ++ [f d]) (X ++ (Y ++ Z)) (fun e he => h e (List.mem_cons_of_mem _ he)) (by rw [List.length_append, List.length_singleton]; omega)
      refine ⟨Y ++ Z ++ W, ?_⟩
      rw [e, List.filter_cons_of_pos hp]
      simp
    | false =>
      dsimp only
      rw [List.append_assoc]
      obtain ⟨W, e⟩ := lcGo_ext p f hc l acc (X ++ Y) (fun e he => h e (List.mem_cons_of_mem _ he)) (by omega)
      refine ⟨Y ++ W, ?_⟩
      rw [e, List.filter_cons_of_neg (by rw [hp]; simp)]
      simp
theorem lc_ext {own : List Nat} {mi : MI} {t : Tg} {mt : MT} {me : ME} {l : List D} {c : Option (Nat × Ob)} {X0 : G} (p : D → Bool) (f : D → D) (hi : mi τ g = .ok (l, c) (g ++ X0)) (hc : still c (g ++ X0)) (h : ∀ d ∈ l, ∀ X : G, ∃ τ1, tgM t d (wipeT τ own) = some τ1 ∧ ∃ Y, mt τ1 (g ++ X) = .ok (p d) (g ++ X ++ Y) ∧ (p d = true → ∃ Z, me τ1 (g ++ X ++ Y) = .ok (f d) (g ++ X ++ Y ++ Z))) (hl : l.length ≤ 100000) :
    ∃ X, mLc own mi t mt me τ g = .ok (.ref (g ++ X).length) (g ++ X ++ [.lst ((l.filter p).map f)]) := by
  unfold mLc
  rw [hi, Res.bind_ok]
  obtain ⟨Y, e⟩ := lcGo_ext (g := g ++ X0) (c := c) (t := t) (mt := mt) (me := me) (τ₀ := wipeT τ own) p f hc l [] [] (fun d hd X => by
    obtain ⟨τ1, h1, Y, h2, h3⟩ := h d hd (X0 ++ X)
    rw [← List.append_assoc] at h2 h3
    exact ⟨τ1, h1, Y, h2, h3⟩) (by simpa using hl)
  rw [List.append_nil] at e
  rw [e, Res.bind_ok]
  exact ⟨X0 ++ Y, by simp⟩
theorem filt_map {p : Str → Bool} {q : D → Bool} {l : List Str} (h : ∀ z ∈ l, q (.str z) = p z) : (l.map D.str).filter q = (l.filter p).map D.str := by
  induction l with
  | nil => rfl
  | cons x l ih =>
    rw [List.map_cons, List.filter_cons, List.filter_cons, h x List.mem_cons_self, ih fun z hz => h z (List.mem_cons_of_mem _ hz)]
    cases p x <;> rfl
/-- a comprehension over texts that keeps those with p -/
def onS (p : Str → Bool) : D → Bool
  | .str z => p z
  | _ => false
theorem lc_strs {own : List Nat} {mi : MI} {t : Tg} {mt : MT} {me : ME} {l : List Str} {c : Option (Nat × Ob)} {X0 : G} (p : Str → Bool) (hi : mi τ g = .ok (l.map D.str, c) (g ++ X0)) (hc : still c (g ++ X0)) (h : ∀ z ∈ l, ∀ X : G, (∃ W, X = X0 ++ W) → ∃ τ1, tgM t (.str z) (wipeT τ own) = some τ1 ∧ ∃ Y, mt τ1 (g ++ X) = .ok (p z) (g ++ X ++ Y) ∧ me τ1 (g ++ X ++ Y) = .ok (.str z) (g ++ X ++ Y)) (hl : l.length ≤ 100000) :
    ∃ X, mLc own mi t mt me τ g = .ok (.ref (g ++ X).length) (g ++ X ++ [.lst ((l.filter p).map D.str)]) := by
  unfold mLc
  rw [hi, Res.bind_ok]
  obtain ⟨Y, e⟩ := lcGo_ext (g := g ++ X0) (c := c) (t := t) (mt := mt) (me := me) (τ₀ := wipeT τ own) (onS p) id hc (l.map D.str) [] [] (fun d hd X => by
    obtain ⟨z, hz, rfl⟩ := List.mem_map.mp hd
    obtain ⟨τ1, h1, Y, h2, h3⟩ := h z hz (X0 ++ X) ⟨X, rfl⟩
    rw [← List.append_assoc] at h2 h3
    exact ⟨τ1, h1, Y, h2, fun _ => ⟨[], by rw [List.append_nil]; exact h3⟩⟩) (by simpa using hl)
  rw [List.append_nil] at e
  rw [e, Res.bind_ok]
  refine ⟨X0 ++ Y, ?_⟩
  rw [filt_map (p := p) fun z _ => rfl]
  simp
end
end RL
namespace RL
open PySem L2
/-! ### slices -/
section
variable {g g1 g2 g3 : G} {τ : T} {l : List D}
theorem sl_ok {a : ME} {b c : MP} {r : Nat} {u v : Option Int} (ha : a τ g = .ok (.ref r) g1) (hb : b τ g1 = .ok u g2) (hc : c τ g2 = .ok v g3) (hr : g3[r]? = some (.lst l)) : mSl a b c τ g = .ok (.ref g3.length) (g3 ++ [.lst (cutD l u v)]) := by
  unfold mSl
  rw [ha, Res.bind_ok, hb, Res.bind_ok, hc, Res.bind_ok]
  unfold fSl items
  dsimp only
  rw [hr]
theorem pno_ok : pNo τ g = .ok none g := rfl
theorem pint_ok {e : ME} {i : Int} (h : e τ g = .ok (.int i) g1) : pInt e τ g = .ok (some i) g1 := by
  unfold pInt
  rw [h]
  rfl
theorem six_n {n d k : Nat} (h : k ≤ n) : HT.sIx n d (some (k : Int)) = k := by
  rw [HT.sIx_nat]
  omega
theorem cut_to {k : Nat} (h : k ≤ l.length) : cutD l none (some (k : Int)) = l.take k := by
  unfold cutD
  rw [HT.sIx_none, six_n h]
  simp
theorem cut_from {k : Nat} (h : k ≤ l.length) : cutD l (some (k : Int)) none = l.drop k := by
  unfold cutD
  rw [HT.sIx_none, six_n h]
  dsimp only
  rw [← List.length_drop, List.take_length]
theorem cut_mid {a b : Nat} (h : a ≤ l.length) (h2 : b ≤ l.length) : cutD l (some (a : Int)) (some (b : Int)) = (l.drop a).take (b - a) := by
  unfold cutD
  rw [six_n h, six_n h2]
end
/-! lists of lists of texts, told by their places -/
def lsts (g : G) (lo : Nat) : List D → List (List Str) → Prop
  | [], [] => True
  | .ref n :: rs, p :: ps => lo ≤ n ∧ g[n]? = some (.lst (p.map D.str)) ∧ lsts g lo rs ps
  | _, _ => False
theorem lsts_mono {g g' : G} {lo : Nat} : ∀ {rs : List D} {ps : List (List Str)}, lsts g lo rs ps → (∀ (n : Nat) (o : Ob), lo ≤ n → g[n]? = some o → g'[n]? = some o) → lsts g' lo rs ps
  | [], [], _, _ => trivial
  | .ref n :: rs, p :: ps, ⟨h1, h2, h3⟩, f => ⟨h1, f n _ h1 h2, lsts_mono h3 f⟩
  | [], _ :: _, h, _ => h.elim
  | .ref _ :: _, [], h, _ => h.elim
  | .non :: _, [], h, _ | .non :: _, _ :: _, h, _ => h.elim
  | .bl _ :: _, [], h, _ | .bl _ :: _, _ :: _, h, _ => h.elim
  | .int _ :: _, [], h, _ | .int _ :: _, _ :: _, h, _ => h.elim
  | .str _ :: _, [], h, _ | .str _ :: _, _ :: _, h, _ => h.elim
  | .tup _ :: _, [], h, _ | .tup _ :: _, _ :: _, h, _ => h.elim
  | .kl _ :: _, [], h, _ | .kl _ :: _, _ :: _, h, _ => h.elim
theorem lsts_snoc {g : G} {lo n : Nat} {p : List Str} (h1 : lo ≤ n) (h2 : g[n]? = some (.lst (p.map D.str))) : ∀ {rs : List D} {ps : List (List Str)}, lsts g lo rs ps → lsts g lo (rs ++ [.ref n]) (ps ++ [p])
  | [], [], _ => ⟨h1, h2, trivial⟩
  | .ref m :: rs, q :: ps, ⟨a, b, c⟩ => ⟨a, b, lsts_snoc h1 h2 c⟩
  | [], _ :: _, h => h.elim
  | .ref _ :: _, [], h => h.elim
  | .non :: _, [], h | .non :: _, _ :: _, h => h.elim
  | .bl _ :: _, [], h | .bl _ :: _, _ :: _, h => h.elim
  | .int _ :: _, [], h | .int _ :: _, _ :: _, h => h.elim
  | .str _ :: _, [], h | .str _ :: _, _ :: _, h => h.elim
  | .tup _ :: _, [], h | .tup _ :: _, _ :: _, h => h.elim
  | .kl _ :: _, [], h | .kl _ :: _, _ :: _, h => h.elim
theorem lsts_len {g : G} {lo : Nat} : ∀ {rs : List D} {ps : List (List Str)}, lsts g lo rs ps → rs.length = ps.length
  | [], [], _ => rfl
  | .ref m :: rs, q :: ps, ⟨a, b, c⟩ => by rw [List.length_cons, List.length_cons, lsts_len c]
  | [], _ :: _, h => h.elim
  | .ref _ :: _, [], h => h.elim
  | .non :: _, [], h | .non :: _, _ :: _, h => h.elim
  | .bl _ :: _, [], h | .bl _ :: _, _ :: _, h => h.elim
  | .int _ :: _, [], h | .int _ :: _, _ :: _, h => h.elim
  | .str _ :: _, [], h | .str _ :: _, _ :: _, h => h.elim
  | .tup _ :: _, [], h | .tup _ :: _, _ :: _, h => h.elim
  | .kl _ :: _, [], h | .kl _ :: _, _ :: _, h => h.elim
theorem lsts_low {g : G} {a b : Nat} (hab : a ≤ b) : ∀ {rs : List D} {ps : List (List Str)}, lsts g b rs ps → lsts g a rs ps := by
  intro rs
  induction rs with
  | nil => intro ps h; cases ps with
    | nil => trivial
    | cons _ _ => exact h.elim
  | cons d rs ih =>
    intro ps h
    cases ps with
    | nil => cases d <;> exact h.elim
    | cons p ps =>
      cases d with
      | ref n => exact ⟨Nat.le_trans hab h.1, h.2.1, ih h.2.2⟩
      | _ => exact h.elim
end RL
namespace My
open PySem L2 RL
def topS (i : Nat) : Stmt := PySem.Challenge.pw_whomayname_k14_member_refusals.main.body.getD i (.Pass ⟨0, 0, 0, 0⟩)
def errsL : List Str := ["Joined", "Misfit", "Taken", "Unknown"]
abbrev cs_Packages : List Str := ["Packages", "Library"]
abbrev cs_Lineage : List Str := ["Lineage", "Library"]
abbrev cs_Library : List Str := ["Library"]
abbrev FUEL : Nat := 1000000
abbrev gd_Lineage_link_2_inside_bases : List D → List D → List D := fun a z => a ++ pick [0, 1] ([] ++ z)
abbrev gd_Library_add_later_2_package_inside_bases : List D → List D → List D := fun a z => a ++ pick [0, 1, 2] ([] ++ z)
abbrev gd_Library_add_class_2_maker_inside_bases : List D → List D → List D := fun a z => a ++ pick [1, 0, 2, 3] ([.non] ++ z)
abbrev gd_Library_add_class_2_maker_package_bases : List D → List D → List D := fun a z => a ++ pick [1, 2, 0, 3] ([.non] ++ z)
abbrev gd_Library_add_member_3_kind_level : List D → List D → List D := fun a z => a ++ pick [1, 2, 0] ([.non] ++ z)
abbrev gd_Library_add_member_3_kind_level_write : List D → List D → List D := fun a z => a ++ pick [0, 1, 2] ([] ++ z)
abbrev gd_Packages_add_package_2_sealed : List D → List D → List D := fun a z => a ++ pick [0] ([] ++ z)
abbrev s_wording : Stmt := topS 7
abbrev s_AccessError_init : Stmt := inClass (topS 2) 0
abbrev s_Packages_init : Stmt := inClass (topS 10) 0
theorem sc_Packages_init : FnScope ["self"] ["self"] (defScope s_Packages_init) := ⟨rfl, rfl, rfl, by decide +kernel, rfl, by decide +kernel, by decide +kernel⟩
def m_Packages_init : MS := (mFldS cs_Packages "_sealed" (mV 0) mDict0)
def f_Packages_init : List D → M D := runF 1 m_Packages_init
abbrev s_Packages_add_package : Stmt := inClass (topS 10) 1
theorem sc_Packages_add_package : FnScope ["self", "name", "sealed"] ["self", "name", "sealed"] (defScope s_Packages_add_package) := ⟨rfl, rfl, rfl, by decide +kernel, rfl, by decide +kernel, by decide +kernel⟩
def m_Packages_add_package : MS := (mSeq (mIfS (mTest (mOp fIn (mV 1) (mUn (fFld cs_Packages "_sealed") (mV 0)))) (mRaise (exc1 "Taken") (mCons (mV 1) mNil)) mNext)
  (mAsg (mV 2) (gSubM (mUn (fFld cs_Packages "_sealed") (mV 0)) (mV 1))))
def f_Packages_add_package : List D → M D := runF 3 m_Packages_add_package
abbrev s_Lineage_init : Stmt := inClass (topS 11) 0
theorem sc_Lineage_init : FnScope ["self"] ["self"] (defScope s_Lineage_init) := ⟨rfl, rfl, rfl, by decide +kernel, rfl, by decide +kernel, by decide +kernel⟩
def m_Lineage_init : MS := (mSeq (mFldS cs_Lineage "_outer" (mV 0) mDict0)
  (mSeq (mFldS cs_Lineage "_bases" (mV 0) mDict0)
  (mFldS cs_Lineage "_lines" (mV 0) mDict0)))
def f_Lineage_init : List D → M D := runF 1 m_Lineage_init
abbrev s_Lineage__check_known : Stmt := inClass (topS 11) 11
theorem sc_Lineage__check_known : FnScope ["self", "name"] ["self", "name"] (defScope s_Lineage__check_known) := ⟨rfl, rfl, rfl, by decide +kernel, rfl, by decide +kernel, by decide +kernel⟩
def m_Lineage__check_known : MS := (mIfS (mTest (mOp fNot (mV 1) (mUn (fFld cs_Lineage "_lines") (mV 0)))) (mRaise (exc1 "Unknown") (mCons (mV 1) mNil)) mNext)
def f_Lineage__check_known : List D → M D := runF 2 m_Lineage__check_known
abbrev s_Lineage__check_name : Stmt := inClass (topS 11) 12
theorem sc_Lineage__check_name : FnScope ["self", "name", "inside"] ["self", "name", "inside"] (defScope s_Lineage__check_name) := ⟨rfl, rfl, rfl, by decide +kernel, rfl, by decide +kernel, by decide +kernel⟩
def m_Lineage__check_name : MS := (mSeq (mIfS (mTest (mOp fIn (mV 1) (mUn (fFld cs_Lineage "_lines") (mV 0)))) (mRaise (exc1 "Taken") (mCons (mV 1) mNil)) mNext)
  (mIfS (mTest (mUn (fIsN false) (mV 2))) (mDrop (mMeth cs_Lineage 2 [] f_Lineage__check_known (mV 0) (mCons (mV 2) mNil))) mNext))
def f_Lineage__check_name : List D → M D := runF 3 m_Lineage__check_name
abbrev s_Lineage_first_unknown : Stmt := inClass (topS 11) 9
theorem sc_Lineage_first_unknown : FnScope ["self", "names", "name"] ["self", "names"] (defScope s_Lineage_first_unknown) := ⟨rfl, rfl, rfl, by decide +kernel, rfl, by decide +kernel, by decide +kernel⟩
def m_Lineage_first_unknown : MS := (mSeq (mFor (mSeqI (mV 1)) (gN 2) (mIfS (mTest (mOp fNot (mV 2) (mUn (fFld cs_Lineage "_lines") (mV 0)))) (mRet (mV 2)) mNext))
  (mRet (mC .non)))
def f_Lineage_first_unknown : List D → M D := runF 3 m_Lineage_first_unknown
abbrev s_Lineage_first_joined : Stmt := inClass (topS 11) 10
theorem sc_Lineage_first_joined : FnScope ["self", "bases", "covered", "base", "line", "upper"] ["self", "bases"] (defScope s_Lineage_first_joined) := ⟨rfl, rfl, rfl, by decide +kernel, rfl, by decide +kernel, by decide +kernel⟩
def m_Lineage_first_joined : MS := (mSeq (mAsg mDict0 (gN 2))
  (mSeq (mFor (mSeqI (mV 1)) (gN 3) (mSeq (mAsg (mOp fSubs (mUn (fFld cs_Lineage "_lines") (mV 0)) (mV 3)) (gN 4))
  (mSeq (mIfS (mTest (mUnA fAny (mCons (mLockE (mV 4) (mLc ([("upper", 5)].map (·.2)) (mKeysI (mV 4)) (.one 5) mYes (mOp fIn (mV 5) (mV 2)))) mNil))) (mRet (mV 3)) mNext)
  (mDrop (mBM .dct fUpd (mV 2) (mCons (mV 4) mNil))))))
  (mRet (mC .non))))
def f_Lineage_first_joined : List D → M D := runF 6 m_Lineage_first_joined
abbrev s_Lineage__check_bases : Stmt := inClass (topS 11) 13
theorem sc_Lineage__check_bases : FnScope ["self", "bases", "unknown", "joined"] ["self", "bases"] (defScope s_Lineage__check_bases) := ⟨rfl, rfl, rfl, by decide +kernel, rfl, by decide +kernel, by decide +kernel⟩
def m_Lineage__check_bases : MS := (mSeq (mAsg (mMeth cs_Lineage 2 [] f_Lineage_first_unknown (mV 0) (mCons (mV 1) mNil)) (gN 2))
  (mSeq (mIfS (mTest (mUn (fIsN false) (mV 2))) (mRaise (exc1 "Unknown") (mCons (mV 2) mNil)) mNext)
  (mSeq (mAsg (mMeth cs_Lineage 2 [] f_Lineage_first_joined (mV 0) (mCons (mV 1) mNil)) (gN 3))
  (mIfS (mTest (mUn (fIsN false) (mV 3))) (mRaise (exc1 "Joined") (mCons (mV 3) mNil)) mNext))))
def f_Lineage__check_bases : List D → M D := runF 4 m_Lineage__check_bases
abbrev s_Lineage_link : Stmt := inClass (topS 11) 1
theorem sc_Lineage_link : FnScope ["self", "name", "inside", "bases", "line", "base"] ["self", "name", "inside", "bases"] (defScope s_Lineage_link) := ⟨rfl, rfl, rfl, by decide +kernel, rfl, by decide +kernel, by decide +kernel⟩
def m_Lineage_link : MS := (mSeq (mAsg (mUnA fTuple (mCons (mV 3) mNil)) (gN 3))
  (mSeq (mDrop (mMeth cs_Lineage 3 [] f_Lineage__check_name (mV 0) (mCons (mV 1) (mCons (mV 2) mNil))))
  (mSeq (mDrop (mMeth cs_Lineage 2 [] f_Lineage__check_bases (mV 0) (mCons (mV 3) mNil)))
  (mSeq (mAsg (mDisp [((mV 1), (mC (.bl true)))]) (gN 4))
  (mSeq (mFor (mSeqI (mV 3)) (gN 5) (mDrop (mBM .dct fUpd (mV 4) (mCons (mOp fSubs (mUn (fFld cs_Lineage "_lines") (mV 0)) (mV 5)) mNil))))
  (mSeq (mAsg (mV 2) (gSubM (mUn (fFld cs_Lineage "_outer") (mV 0)) (mV 1)))
  (mSeq (mAsg (mV 3) (gSubM (mUn (fFld cs_Lineage "_bases") (mV 0)) (mV 1)))
  (mAsg (mV 4) (gSubM (mUn (fFld cs_Lineage "_lines") (mV 0)) (mV 1))))))))))
def f_Lineage_link : List D → M D := runF 6 m_Lineage_link
abbrev s_Lineage_is_below : Stmt := inClass (topS 11) 2
theorem sc_Lineage_is_below : FnScope ["self", "lower", "upper"] ["self", "lower", "upper"] (defScope s_Lineage_is_below) := ⟨rfl, rfl, rfl, by decide +kernel, rfl, by decide +kernel, by decide +kernel⟩
def m_Lineage_is_below : MS := (mRet (mOr (mOp fEq (mV 1) (mV 2)) (mOp fIn (mV 2) (mBM .dct fGet (mUn (fFld cs_Lineage "_lines") (mV 0)) (mCons (mV 1) (mCons (mUnA fTup mNil) mNil))))))
def f_Lineage_is_below : List D → M D := runF 3 m_Lineage_is_below
abbrev s_Lineage_classes : Stmt := inClass (topS 11) 3
theorem sc_Lineage_classes : FnScope ["self"] ["self"] (defScope s_Lineage_classes) := ⟨rfl, rfl, rfl, by decide +kernel, rfl, by decide +kernel, by decide +kernel⟩
def m_Lineage_classes : MS := (mRet (mUnA fList (mCons (mUn (fFld cs_Lineage "_lines") (mV 0)) mNil)))
def f_Lineage_classes : List D → M D := runF 1 m_Lineage_classes
abbrev s_Library_init : Stmt := inClass (topS 12) 0
theorem sc_Library_init : FnScope ["self"] ["self"] (defScope s_Library_init) := ⟨rfl, rfl, rfl, by decide +kernel, rfl, by decide +kernel, by decide +kernel⟩
def m_Library_init : MS := (mSeq (mDrop (mUnA (fCall 1 [] f_Packages_init) (mCons (mV 0) mNil)))
  (mSeq (mDrop (mUnA (fCall 1 [] f_Lineage_init) (mCons (mV 0) mNil)))
  (mSeq (mFldS cs_Library "_packages" (mV 0) mDict0)
  (mSeq (mFldS cs_Library "_roots" (mV 0) mDict0)
  (mSeq (mFldS cs_Library "_kinds" (mV 0) mDict0)
  (mSeq (mFldS cs_Library "_levels" (mV 0) mDict0)
  (mFldS cs_Library "_uses" (mV 0) mDict0)))))))
def f_Library_init : List D → M D := runF 1 m_Library_init
abbrev s_Library_package_of : Stmt := inClass (topS 12) 9
theorem sc_Library_package_of : FnScope ["self", "name"] ["self", "name"] (defScope s_Library_package_of) := ⟨rfl, rfl, rfl, by decide +kernel, rfl, by decide +kernel, by decide +kernel⟩
def m_Library_package_of : MS := (mRet (mBM .dct fGet (mUn (fFld cs_Library "_packages") (mV 0)) (mCons (mV 1) mNil)))
def f_Library_package_of : List D → M D := runF 2 m_Library_package_of
abbrev s_Library_add_later : Stmt := inClass (topS 12) 2
theorem sc_Library_add_later : FnScope ["self", "name", "package", "inside", "bases"] ["self", "name", "package", "inside", "bases"] (defScope s_Library_add_later) := ⟨rfl, rfl, rfl, by decide +kernel, rfl, by decide +kernel, by decide +kernel⟩
def m_Library_add_later : MS := (mSeq (mDrop (mMethK cs_Lineage 2 ["inside", "bases"] gd_Lineage_link_2_inside_bases f_Lineage_link (mV 0) (mCons (mV 1) mNil) (mCons (mV 3) (mCons (mV 4) mNil))))
  (mAsg (mIf (mTest (mUn (fIsN true) (mV 3))) (mV 2) (mMeth cs_Library 2 [] f_Library_package_of (mV 0) (mCons (mV 3) mNil))) (gSubM (mUn (fFld cs_Library "_packages") (mV 0)) (mV 1))))
def f_Library_add_later : List D → M D := runF 5 m_Library_add_later
abbrev s_Library_add_class : Stmt := inClass (topS 12) 1
theorem sc_Library_add_class : FnScope ["self", "name", "maker", "package", "inside", "bases"] ["self", "name", "maker", "package", "inside", "bases"] (defScope s_Library_add_class) := ⟨rfl, rfl, rfl, by decide +kernel, rfl, by decide +kernel, by decide +kernel⟩
def m_Library_add_class : MS := (mSeq (mDrop (mMeth cs_Lineage 3 [] f_Lineage__check_name (mV 0) (mCons (mV 1) (mCons (mV 4) mNil))))
  (mSeq (mIfS (mAndT (mTest (mUn (fIsN true) (mV 4))) (mTest (mOp fNot (mV 3) (mUn (fFld cs_Packages "_sealed") (mV 0))))) (mRaise (exc1 "Unknown") (mCons (mV 3) mNil)) mNext)
  (mSeq (mDrop (mMethK cs_Library 2 ["package", "inside", "bases"] gd_Library_add_later_2_package_inside_bases f_Library_add_later (mV 0) (mCons (mV 1) mNil) (mCons (mV 3) (mCons (mV 4) (mCons (mV 5) mNil)))))
  (mAsg (mV 2) (gSubM (mUn (fFld cs_Library "_levels") (mV 0)) (mUnA fTup (mCons (mV 1) (mCons (mC (.str "new")) (mCons (mC (.str "make")) mNil)))))))))
def f_Library_add_class : List D → M D := runF 6 m_Library_add_class
abbrev s_Library__may_declare : Stmt := inClass (topS 12) 22
theorem sc_Library__may_declare : FnScope ["self", "owner", "name", "kind", "root"] ["self", "owner", "name", "kind"] (defScope s_Library__may_declare) := ⟨rfl, rfl, rfl, by decide +kernel, rfl, by decide +kernel, by decide +kernel⟩
def m_Library__may_declare : MS := (mSeq (mIfS (mTest (mOp fEq (mV 2) (mC (.str "new")))) (mRet (mC (.bl false))) mNext)
  (mSeq (mIfS (mTest (mOp fNot (mV 2) (mUn (fFld cs_Library "_roots") (mV 0)))) (mRet (mC (.bl true))) mNext)
  (mSeq (mAsg (mOp fSubs (mUn (fFld cs_Library "_roots") (mV 0)) (mV 2)) (gN 4))
  (mRet (mAnd (mOp fEq (mV 3) (mC (.str "method"))) (mAnd (mOp fEq (mOp fSubs (mUn (fFld cs_Library "_kinds") (mV 0)) (mUnA fTup (mCons (mV 4) (mCons (mV 2) mNil)))) (mC (.str "method"))) (mMeth cs_Lineage 3 [] f_Lineage_is_below (mV 0) (mCons (mV 1) (mCons (mV 4) mNil)))))))))
def f_Library__may_declare : List D → M D := runF 5 m_Library__may_declare
abbrev s_Library_add_member : Stmt := inClass (topS 12) 3
theorem sc_Library_add_member : FnScope ["self", "owner", "name", "kind", "level", "write"] ["self", "owner", "name", "kind", "level", "write"] (defScope s_Library_add_member) := ⟨rfl, rfl, rfl, by decide +kernel, rfl, by decide +kernel, by decide +kernel⟩
def m_Library_add_member : MS := (mSeq (mDrop (mMeth cs_Lineage 2 [] f_Lineage__check_known (mV 0) (mCons (mV 1) mNil)))
  (mSeq (mIfS (mTest (mOp fIn (mUnA fTup (mCons (mV 1) (mCons (mV 2) mNil))) (mUn (fFld cs_Library "_kinds") (mV 0)))) (mRaise (exc1 "Taken") (mCons (mV 2) mNil)) mNext)
  (mSeq (mIfS (mNotT (mTest (mMeth cs_Library 4 [] f_Library__may_declare (mV 0) (mCons (mV 1) (mCons (mV 2) (mCons (mV 3) mNil)))))) (mRaise (exc1 "Misfit") (mCons (mV 2) mNil)) mNext)
  (mSeq (mAsg (mV 3) (gSubM (mUn (fFld cs_Library "_kinds") (mV 0)) (mUnA fTup (mCons (mV 1) (mCons (mV 2) mNil)))))
  (mSeq (mDrop (mBM .dct fSetd (mUn (fFld cs_Library "_roots") (mV 0)) (mCons (mV 2) (mCons (mV 1) mNil))))
  (mIfS (mTest (mOp fEq (mV 3) (mC (.str "field")))) (mSeq (mAsg (mV 4) (gSubM (mUn (fFld cs_Library "_levels") (mV 0)) (mUnA fTup (mCons (mV 1) (mCons (mV 2) (mCons (mC (.str "read")) mNil))))))
  (mAsg (mIf (mTest (mUn (fIsN true) (mV 5))) (mV 4) (mV 5)) (gSubM (mUn (fFld cs_Library "_levels") (mV 0)) (mUnA fTup (mCons (mV 1) (mCons (mV 2) (mCons (mC (.str "write")) mNil))))))) (mAsg (mV 4) (gSubM (mUn (fFld cs_Library "_levels") (mV 0)) (mUnA fTup (mCons (mV 1) (mCons (mV 2) (mCons (mC (.str "call")) mNil))))))))))))
def f_Library_add_member : List D → M D := runF 6 m_Library_add_member
abbrev s_Library__base_towards : Stmt := inClass (topS 12) 23
theorem sc_Library__base_towards : FnScope ["self", "lower", "upper", "base"] ["self", "lower", "upper"] (defScope s_Library__base_towards) := ⟨rfl, rfl, rfl, by decide +kernel, rfl, by decide +kernel, by decide +kernel⟩
def m_Library__base_towards : MS := (mSeq (mFor (mSeqI (mOp fSubs (mUn (fFld cs_Lineage "_bases") (mV 0)) (mV 1))) (gN 3) (mIfS (mTest (mMeth cs_Lineage 3 [] f_Lineage_is_below (mV 0) (mCons (mV 3) (mCons (mV 2) mNil)))) (mRet (mV 3)) mNext))
  (mRet (mC .non)))
def f_Library__base_towards : List D → M D := runF 4 m_Library__base_towards
abbrev s_Library_owner_of : Stmt := inClass (topS 12) 5
theorem sc_Library_owner_of : FnScope ["self", "through", "name", "root", "owner"] ["self", "through", "name"] (defScope s_Library_owner_of) := ⟨rfl, rfl, rfl, by decide +kernel, rfl, by decide +kernel, by decide +kernel⟩
def m_Library_owner_of : MS := (mSeq (mAsg (mBM .dct fGet (mUn (fFld cs_Library "_roots") (mV 0)) (mCons (mV 2) mNil)) (gN 3))
  (mSeq (mIfS (mOrT (mTest (mUn (fIsN true) (mV 3))) (mNotT (mTest (mMeth cs_Lineage 3 [] f_Lineage_is_below (mV 0) (mCons (mV 1) (mCons (mV 3) mNil)))))) (mRet (mC .non)) mNext)
  (mSeq (mAsg (mV 1) (gN 4))
  (mSeq (whileGo (mTest (mOp fNot (mUnA fTup (mCons (mV 4) (mCons (mV 2) mNil))) (mUn (fFld cs_Library "_kinds") (mV 0)))) (mAsg (mMeth cs_Library 3 [] f_Library__base_towards (mV 0) (mCons (mV 4) (mCons (mV 3) mNil))) (gN 4)) FUEL)
  (mRet (mV 4))))))
def f_Library_owner_of : List D → M D := runF 5 m_Library_owner_of
abbrev s_Library_level_of : Stmt := inClass (topS 12) 6
theorem sc_Library_level_of : FnScope ["self", "mark"] ["self", "mark"] (defScope s_Library_level_of) := ⟨rfl, rfl, rfl, by decide +kernel, rfl, by decide +kernel, by decide +kernel⟩
def m_Library_level_of : MS := (mSeq (mIfS (mTest (mOp fNot (mV 1) (mUn (fFld cs_Library "_levels") (mV 0)))) (mRaise (exc1 "Unknown") (mCons (mV 1) mNil)) mNext)
  (mRet (mOp fSubs (mUn (fFld cs_Library "_levels") (mV 0)) (mV 1))))
def f_Library_level_of : List D → M D := runF 2 m_Library_level_of
abbrev s_Library_marks : Stmt := inClass (topS 12) 7
theorem sc_Library_marks : FnScope ["self"] ["self"] (defScope s_Library_marks) := ⟨rfl, rfl, rfl, by decide +kernel, rfl, by decide +kernel, by decide +kernel⟩
def m_Library_marks : MS := (mRet (mUnA fList (mCons (mUn (fFld cs_Library "_levels") (mV 0)) mNil)))
def f_Library_marks : List D → M D := runF 1 m_Library_marks
abbrev s_l_digits : Stmt := topS 14
theorem sc_l_digits : FnScope ["_law_script", "_law_at", "_law_sizes", "_law_cell", "_law_great", "_law_row", "_law_size", "_law_mixed"] ["_law_script", "_law_at", "_law_sizes"] (defScope s_l_digits) := ⟨rfl, rfl, rfl, by decide +kernel, rfl, by decide +kernel, by decide +kernel⟩
def m_l_digits : MS := (mSeq (mAsg (mOp fSubs (mOp fPlusK (mV 0) (mOp fRep (mUnA fLst (mCons (mC (.int 0)) mNil)) (mC (.int 63)))) (mV 1)) (gN 3))
  (mSeq (mAsg (mOp fGe (mV 3) (mOp fPow (mC (.int 10)) (mC (.int 18)))) (gN 4))
  (mSeq (mAsg (mUnA fLst mNil) (gN 5))
  (mSeq (mFor (mSeqI (mV 2)) (gN 6) (mSeq (mAsg (mOp fMod (mUnA fInt (mCons (mOp fPlus (mOp fPlus (mOp fPlus (mOp fMul (mV 3) (mC (.int 48271))) (mOp fMul (mV 1) (mC (.int 1009)))) (mOp fMul (mUnA fLen (mCons (mV 5) mNil)) (mC (.int 69621)))) (mC (.int 5))) mNil)) (mC (.int 2147483647))) (gN 7))
  (mSeq (mAsg (mOp fDiv (mOp fMod (mUnA fInt (mCons (mOp fPlus (mOp fPlus (mOp fMul (mV 7) (mV 7)) (mV 3)) (mOp fMul (mUnA fLen (mCons (mV 5) mNil)) (mC (.int 7919)))) mNil)) (mC (.int 2147483629))) (mC (.int 7))) (gN 7))
  (mSeq (mIfS (mTest (mV 4)) (mSeq (mAsg (mV 3) (gN 7))
  (mAsg (mOp fDiv (mV 3) (mV 6)) (gN 3))) mNext)
  (mDrop (mBM .lst fApp (mV 5) (mCons (mOp fMod (mUnA fInt (mCons (mV 7) mNil)) (mV 6)) mNil)))))))
  (mRet (mV 5))))))
def f_l_digits : List D → M D := runF 8 m_l_digits
abbrev s_l_name : Stmt := topS 15
theorem sc_l_name : FnScope ["_law_start", "_law_k", "_law_pool"] ["_law_start", "_law_k"] (defScope s_l_name) := ⟨rfl, rfl, rfl, by decide +kernel, rfl, by decide +kernel, by decide +kernel⟩
def m_l_name : MS := (mSeq (mAsg (mC (.str "a b2 cab d e0 fox gg h1 ice j kilo lo mmm n9 oak p q7 rr s tin 0 v wax abcdefghijkl yes z0o")) (gN 2))
  (mRet (mOp fSubs (mBM .str fSplit (mV 2) (mCons (mC (.str " ")) mNil)) (mOp fMod (mUnA fInt (mCons (mOp fPlus (mV 0) (mOp fMul (mC (.int 7)) (mV 1))) mNil)) (mC (.int 26))))))
def f_l_name : List D → M D := runF 3 m_l_name
abbrev s_l_products : Stmt := topS 16
theorem sc_l_products : FnScope ["_law_script", "_law_at", "_law_words", "_law_picks", "_law_found", "_law_k"] ["_law_script", "_law_at"] (defScope s_l_products) := ⟨rfl, rfl, rfl, by decide +kernel, rfl, by decide +kernel, by decide +kernel⟩
def m_l_products : MS := (mSeq (mAsg (mBM .str fSplit (mC (.str "own nested around below heir package any")) (mCons (mC (.str " ")) mNil)) (gN 2))
  (mSeq (mAsg (mUnA (fCall 3 [] f_l_digits) (mCons (mV 0) (mCons (mV 1) (mCons (mUnA fLst (mCons (mC (.int 4)) (mCons (mC (.int 7)) (mCons (mC (.int 7)) (mCons (mC (.int 2)) (mCons (mC (.int 7)) (mCons (mC (.int 7)) (mCons (mC (.int 2)) (mCons (mC (.int 7)) (mCons (mC (.int 7)) (mCons (mC (.int 2)) mNil))))))))))) mNil)))) (gN 3))
  (mSeq (mAsg (mUnA fLst mNil) (gN 4))
  (mSeq (mFor (mRange1 (mOp fSubs (mV 3) (mC (.int 0)))) (gN 5) (mDrop (mBM .lst fApp (mV 4) (mCons (mSl (mUnA fLst (mCons (mOp fSubs (mV 2) (mOp fSubs (mV 3) (mOp fPlus (mC (.int 1)) (mOp fMul (mC (.int 3)) (mV 5))))) (mCons (mOp fSubs (mV 2) (mOp fSubs (mV 3) (mOp fPlus (mC (.int 2)) (mOp fMul (mC (.int 3)) (mV 5))))) mNil))) pNo (pInt (mOp fPlus (mC (.int 1)) (mOp fSubs (mV 3) (mOp fPlus (mC (.int 3)) (mOp fMul (mC (.int 3)) (mV 5))))))) mNil))))
  (mRet (mV 4))))))
def f_l_products : List D → M D := runF 6 m_l_products
abbrev s_l_inside : Stmt := topS 17
theorem sc_l_inside : FnScope ["_law_part", "_law_whole", "_law_thing"] ["_law_part", "_law_whole"] (defScope s_l_inside) := ⟨rfl, rfl, rfl, by decide +kernel, rfl, by decide +kernel, by decide +kernel⟩
def m_l_inside : MS := (mRet (mOp fEq (mUnA fLen (mCons (mLc ([("_law_thing", 2)].map (·.2)) (mSeqI (mV 0)) (.one 2) (mTest (mOp fNot (mV 2) (mV 1))) (mV 2)) mNil)) (mC (.int 0))))
def f_l_inside : List D → M D := runF 3 m_l_inside
abbrev s_l_up : Stmt := topS 18
theorem sc_l_up : FnScope ["_law_world", "_law_name_here", "_law_line", "_law_up_here"] ["_law_world", "_law_name_here"] (defScope s_l_up) := ⟨rfl, rfl, rfl, by decide +kernel, rfl, by decide +kernel, by decide +kernel⟩
def m_l_up (self : List D → M D) : MS := (mSeq (mAsg (mUnA fLst (mCons (mV 1) mNil)) (gN 2))
  (mSeq (mFor (mSeqI (mOp fSubs (mOp fSubs (mV 0) (mC (.str "ups"))) (mV 1))) (gN 3) (mAsg (mOp fPlus (mV 2) (mUnA (fCall 2 [] self) (mCons (mV 0) (mCons (mV 3) mNil)))) (gN 2)))
  (mRet (mV 2))))
def f_l_up : Nat → List D → M D
  | 0 => fun _ _ => .bad
  | n + 1 => runF 4 (m_l_up (f_l_up n))
abbrev s_l_joins : Stmt := topS 19
theorem sc_l_joins : FnScope ["_law_world", "_law_ups", "_law_up_here", "_law_line", "_law_other", "_law_x"] ["_law_world", "_law_ups", "_law_up_here"] (defScope s_l_joins) := ⟨rfl, rfl, rfl, by decide +kernel, rfl, by decide +kernel, by decide +kernel⟩
def m_l_joins : MS := (mSeq (mAsg (mUnA (fCall 2 [] (f_l_up 30)) (mCons (mV 0) (mCons (mV 2) mNil))) (gN 3))
  (mRet (mOp fGt (mUnA fLen (mCons (mLc ([("_law_other", 4)].map (·.2)) (mSeqI (mV 1)) (.one 4) (mTest (mOp fGt (mUnA fLen (mCons (mLc ([("_law_x", 5)].map (·.2)) (mSeqI (mUnA (fCall 2 [] (f_l_up 30)) (mCons (mV 0) (mCons (mV 4) mNil)))) (.one 5) (mTest (mOp fIn (mV 5) (mV 3))) (mV 5)) mNil)) (mC (.int 0)))) (mV 4)) mNil)) (mC (.int 0)))))
def f_l_joins : List D → M D := runF 6 m_l_joins
abbrev s_l_owner : Stmt := topS 20
theorem sc_l_owner : FnScope ["_law_world", "_law_through", "_law_name_here", "_law_found", "_law_upper"] ["_law_world", "_law_through", "_law_name_here"] (defScope s_l_owner) := ⟨rfl, rfl, rfl, by decide +kernel, rfl, by decide +kernel, by decide +kernel⟩
def m_l_owner : MS := (mSeq (mAsg (mLc ([("_law_upper", 4)].map (·.2)) (mSeqI (mUnA (fCall 2 [] (f_l_up 30)) (mCons (mV 0) (mCons (mV 1) mNil)))) (.one 4) (mTest (mOp fIn (mUnA fTup (mCons (mV 4) (mCons (mV 2) mNil))) (mOp fSubs (mV 0) (mC (.str "decl"))))) (mV 4)) (gN 3))
  (mRet (mOp fSubs (mOp fPlus (mV 3) (mUnA fLst (mCons (mC .non) mNil))) (mC (.int 0)))))
def f_l_owner : List D → M D := runF 5 m_l_owner
abbrev s_l_note : Stmt := topS 21
theorem sc_l_note : FnScope ["_law_world", "_law_name_here", "_law_pack", "_law_outer", "_law_ups"] ["_law_world", "_law_name_here", "_law_pack", "_law_outer", "_law_ups"] (defScope s_l_note) := ⟨rfl, rfl, rfl, by decide +kernel, rfl, by decide +kernel, by decide +kernel⟩
def m_l_note : MS := (mSeq (mAsg (mV 3) (gSubM (mOp fSubs (mV 0) (mC (.str "outer"))) (mV 1)))
  (mSeq (mAsg (mV 4) (gSubM (mOp fSubs (mV 0) (mC (.str "ups"))) (mV 1)))
  (mAsg (mV 2) (gSubM (mOp fSubs (mV 0) (mC (.str "pack"))) (mV 1)))))
def f_l_note : List D → M D := runF 5 m_l_note
abbrev s_l_add_class : Stmt := topS 22
theorem sc_l_add_class : FnScope ["_law_script", "_law_world", "_law_library", "_law_k", "_law_picks", "_law_name_here", "_law_rank", "_law_outer", "_law_pack", "_law_ups", "_law_pick"] ["_law_script", "_law_world", "_law_library", "_law_k"] (defScope s_l_add_class) := ⟨rfl, rfl, rfl, by decide +kernel, rfl, by decide +kernel, by decide +kernel⟩
def m_l_add_class : MS := (mSeq (mAsg (mUnA (fCall 3 [] f_l_digits) (mCons (mV 0) (mCons (mOp fPlus (mC (.int 8)) (mV 3)) (mCons (mUnA fLst (mCons (mC (.int 4)) (mCons (mC (.int 4)) (mCons (mC (.int 5)) (mCons (mC (.int 6)) (mCons (mC (.int 6)) (mCons (mC (.int 6)) mNil))))))) mNil)))) (gN 4))
  (mSeq (mAsg (mUnA (fCall 2 [] f_l_name) (mCons (mOp fSubs (mOp fSubs (mV 1) (mC (.str "starts"))) (mC (.int 2))) (mCons (mV 3) mNil))) (gN 5))
  (mSeq (mAsg (mOp fSubs (mOp fSubs (mV 1) (mC (.str "levels"))) (mOp fMod (mOp fSubs (mV 4) (mC (.int 5))) (mUnA fLen (mCons (mOp fSubs (mV 1) (mC (.str "levels"))) mNil)))) (gN 6))
  (mSeq (mAsg (mC .non) (gN 7))
  (mSeq (mAsg (mOp fSubs (mOp fSubs (mV 1) (mC (.str "packs"))) (mOp fMod (mOp fSubs (mV 4) (mC (.int 0))) (mUnA fLen (mCons (mOp fSubs (mV 1) (mC (.str "packs"))) mNil)))) (gN 8))
  (mSeq (mAsg (mUnA fLst mNil) (gN 9))
  (mSeq (mFor (mSeqI (mSl (mV 4) (pInt (mC (.int 3))) (pInt (mC (.int 5))))) (gN 10) (mIfS (mAndT (mTest (mOp fLt (mV 10) (mV 3))) (mNotT (mTest (mUnA (fCall 3 [] f_l_joins) (mCons (mV 1) (mCons (mV 9) (mCons (mOp fSubs (mOp fSubs (mV 1) (mC (.str "order"))) (mV 10)) mNil))))))) (mDrop (mBM .lst fApp (mV 9) (mCons (mOp fSubs (mOp fSubs (mV 1) (mC (.str "order"))) (mV 10)) mNil))) mNext))
  (mSeq (mIfS (mAndT (mTest (mOp fEq (mOp fSubs (mV 4) (mC (.int 1))) (mC (.int 0)))) (mTest (mOp fGt (mV 3) (mC (.int 0))))) (mSeq (mAsg (mOp fSubs (mOp fSubs (mV 1) (mC (.str "order"))) (mOp fMod (mOp fSubs (mV 4) (mC (.int 2))) (mV 3))) (gN 7))
  (mSeq (mAsg (mOp fSubs (mOp fSubs (mV 1) (mC (.str "pack"))) (mV 7)) (gN 8))
  (mDrop (mMethK cs_Library 2 ["maker", "inside", "bases"] gd_Library_add_class_2_maker_inside_bases f_Library_add_class (mV 2) (mCons (mV 5) mNil) (mCons (mV 6) (mCons (mV 7) (mCons (mUnA fTuple (mCons (mV 9) mNil)) mNil))))))) (mDrop (mMethK cs_Library 2 ["maker", "package", "bases"] gd_Library_add_class_2_maker_package_bases f_Library_add_class (mV 2) (mCons (mV 5) mNil) (mCons (mV 6) (mCons (mV 8) (mCons (mUnA fTuple (mCons (mV 9) mNil)) mNil))))))
  (mSeq (mAsg (mV 6) (gSubM (mOp fSubs (mV 1) (mC (.str "mark"))) (mUnA fTup (mCons (mV 5) (mCons (mC (.str "new")) (mCons (mC (.str "make")) mNil))))))
  (mSeq (mDrop (mBM .lst fApp (mOp fSubs (mV 1) (mC (.str "order"))) (mCons (mV 5) mNil)))
  (mDrop (mUnA (fCall 5 [] f_l_note) (mCons (mV 1) (mCons (mV 5) (mCons (mV 8) (mCons (mV 7) (mCons (mV 9) mNil)))))))))))))))))
def f_l_add_class : List D → M D := runF 11 m_l_add_class
abbrev s_l_add_member : Stmt := topS 23
theorem sc_l_add_member : FnScope ["_law_script", "_law_world", "_law_library", "_law_k", "_law_picks", "_law_owner_here", "_law_name_here", "_law_brand", "_law_rank", "_law_other", "_law_again_here", "_law_x"] ["_law_script", "_law_world", "_law_library", "_law_k"] (defScope s_l_add_member) := ⟨rfl, rfl, rfl, by decide +kernel, rfl, by decide +kernel, by decide +kernel⟩
def m_l_add_member : MS := (mSeq (mAsg (mUnA (fCall 3 [] f_l_digits) (mCons (mV 0) (mCons (mOp fPlus (mC (.int 13)) (mV 3)) (mCons (mUnA fLst (mCons (mC (.int 5)) (mCons (mC (.int 2)) (mCons (mC (.int 8)) (mCons (mC (.int 4)) (mCons (mC (.int 6)) (mCons (mC (.int 6)) mNil))))))) mNil)))) (gN 4))
  (mSeq (mAsg (mOp fSubs (mOp fSubs (mV 1) (mC (.str "order"))) (mOp fMod (mOp fSubs (mV 4) (mC (.int 0))) (mUnA fLen (mCons (mOp fSubs (mV 1) (mC (.str "order"))) mNil)))) (gN 5))
  (mSeq (mAsg (mUnA (fCall 2 [] f_l_name) (mCons (mOp fSubs (mOp fSubs (mV 1) (mC (.str "starts"))) (mC (.int 3))) (mCons (mV 3) mNil))) (gN 6))
  (mSeq (mAsg (mOp fSubs (mUnA fLst (mCons (mC (.str "method")) (mCons (mC (.str "field")) (mCons (mC (.str "static")) (mCons (mC (.str "method")) mNil))))) (mOp fSubs (mV 4) (mC (.int 3)))) (gN 7))
  (mSeq (mAsg (mOp fSubs (mOp fSubs (mV 1) (mC (.str "levels"))) (mOp fMod (mOp fSubs (mV 4) (mC (.int 4))) (mUnA fLen (mCons (mOp fSubs (mV 1) (mC (.str "levels"))) mNil)))) (gN 8))
  (mSeq (mAsg (mOp fSubs (mOp fSubs (mV 1) (mC (.str "levels"))) (mOp fMod (mOp fSubs (mV 4) (mC (.int 5))) (mUnA fLen (mCons (mOp fSubs (mV 1) (mC (.str "levels"))) mNil)))) (gN 9))
  (mSeq (mLockS (mOp fSubs (mV 1) (mC (.str "root"))) (mAsg (mLc ([("_law_x", 11)].map (·.2)) (mKeysI (mOp fSubs (mV 1) (mC (.str "root")))) (.one 11) (mAndT (mTest (mOp fEq (mOp fSubs (mOp fSubs (mV 1) (mC (.str "kind"))) (mV 11)) (mC (.str "method")))) (mTest (mOp fNot (mUnA fTup (mCons (mV 5) (mCons (mV 11) mNil))) (mOp fSubs (mV 1) (mC (.str "decl")))))) (mV 11)) (gN 10)))
  (mSeq (mAsg (mLc ([("_law_x", 11)].map (·.2)) (mSeqI (mV 10)) (.one 11) (mTest (mOp fIn (mOp fSubs (mOp fSubs (mV 1) (mC (.str "root"))) (mV 11)) (mUnA (fCall 2 [] (f_l_up 30)) (mCons (mV 1) (mCons (mV 5) mNil))))) (mV 11)) (gN 10))
  (mSeq (mIfS (mAndT (mTest (mOp fEq (mOp fSubs (mV 4) (mC (.int 1))) (mC (.int 0)))) (mTest (mOp fGt (mUnA fLen (mCons (mV 10) mNil)) (mC (.int 0))))) (mSeq (mAsg (mOp fSubs (mV 10) (mOp fMod (mOp fSubs (mV 4) (mC (.int 2))) (mUnA fLen (mCons (mV 10) mNil)))) (gN 6))
  (mAsg (mC (.str "method")) (gN 7))) (mSeq (mAsg (mV 5) (gSubM (mOp fSubs (mV 1) (mC (.str "root"))) (mV 6)))
  (mAsg (mV 7) (gSubM (mOp fSubs (mV 1) (mC (.str "kind"))) (mV 6)))))
  (mSeq (mDrop (mBM .lst fApp (mOp fSubs (mV 1) (mC (.str "decl"))) (mCons (mUnA fTup (mCons (mV 5) (mCons (mV 6) mNil))) mNil)))
  (mIfS (mTest (mOp fEq (mV 7) (mC (.str "field")))) (mSeq (mDrop (mMethK cs_Library 3 ["kind", "level", "write"] gd_Library_add_member_3_kind_level_write f_Library_add_member (mV 2) (mCons (mV 5) (mCons (mV 6) mNil)) (mCons (mC (.str "field")) (mCons (mV 8) (mCons (mV 9) mNil)))))
  (mSeq (mAsg (mV 8) (gSubM (mOp fSubs (mV 1) (mC (.str "mark"))) (mUnA fTup (mCons (mV 5) (mCons (mV 6) (mCons (mC (.str "read")) mNil))))))
  (mAsg (mV 9) (gSubM (mOp fSubs (mV 1) (mC (.str "mark"))) (mUnA fTup (mCons (mV 5) (mCons (mV 6) (mCons (mC (.str "write")) mNil)))))))) (mSeq (mDrop (mMethK cs_Library 3 ["kind", "level"] gd_Library_add_member_3_kind_level f_Library_add_member (mV 2) (mCons (mV 5) (mCons (mV 6) mNil)) (mCons (mV 7) (mCons (mV 8) mNil))))
  (mAsg (mV 8) (gSubM (mOp fSubs (mV 1) (mC (.str "mark"))) (mUnA fTup (mCons (mV 5) (mCons (mV 6) (mCons (mC (.str "call")) mNil))))))))))))))))))
def f_l_add_member : List D → M D := runF 12 m_l_add_member
abbrev s_l_add_use : Stmt := topS 24
def f_l_add_use : List D → M D := fun _ _ => .bad
abbrev s_l_ground : Stmt := topS 25
theorem sc_l_ground : FnScope ["_law_script", "_law_library", "_law_caps", "_law_sizes", "_law_picks", "_law_world", "_law_k", "_law_shut", "_law_pack"] ["_law_script", "_law_library", "_law_caps"] (defScope s_l_ground) := ⟨rfl, rfl, rfl, by decide +kernel, rfl, by decide +kernel, by decide +kernel⟩
def m_l_ground : MS := (mSeq (mAsg (mOp fPlus (mSl (mV 2) pNo (pInt (mC (.int 3)))) (mUnA fLst (mCons (mOp fPlus (mOp fSubs (mV 2) (mC (.int 3))) (mC (.int 1))) (mCons (mOp fPlus (mOp fSubs (mV 2) (mC (.int 4))) (mC (.int 1))) (mCons (mC (.int 26)) (mCons (mC (.int 26)) (mCons (mC (.int 26)) (mCons (mC (.int 26)) mNil)))))))) (gN 3))
  (mSeq (mAsg (mUnA (fCall 3 [] f_l_digits) (mCons (mV 0) (mCons (mC (.int 0)) (mCons (mV 3) mNil)))) (gN 4))
  (mSeq (mAsg (mDisp [((mC (.str "order")), (mUnA fLst mNil)), ((mC (.str "outer")), mDict0), ((mC (.str "ups")), mDict0), ((mC (.str "pack")), mDict0), ((mC (.str "decl")), (mUnA fLst mNil)), ((mC (.str "kind")), mDict0), ((mC (.str "root")), mDict0), ((mC (.str "mark")), mDict0)]) (gN 5))
  (mSeq (mAsg (mUnA fLst mNil) (gSubM (mV 5) (mC (.str "uses"))))
  (mSeq (mAsg (mUnA fLst mNil) (gSubM (mV 5) (mC (.str "later"))))
  (mSeq (mAsg mDict0 (gSubM (mV 5) (mC (.str "words"))))
  (mSeq (mAsg (mSl (mV 4) (pInt (mC (.int 5))) pNo) (gSubM (mV 5) (mC (.str "starts"))))
  (mSeq (mAsg (mLc ([("_law_k", 6)].map (·.2)) (mRange1 (mOp fPlus (mC (.int 1)) (mOp fSubs (mV 4) (mC (.int 2))))) (.one 6) mYes (mUnA (fCall 2 [] f_l_name) (mCons (mOp fSubs (mV 4) (mC (.int 5))) (mCons (mV 6) mNil)))) (gSubM (mV 5) (mC (.str "levels"))))
  (mSeq (mFor (mRange1 (mOp fPlus (mC (.int 1)) (mOp fSubs (mV 4) (mC (.int 2))))) (gN 6) (mAsg (mUnA (fCall 2 [] f_l_products) (mCons (mV 0) (mCons (mOp fPlus (mC (.int 1)) (mV 6)) mNil))) (gSubM (mOp fSubs (mV 5) (mC (.str "words"))) (mOp fSubs (mOp fSubs (mV 5) (mC (.str "levels"))) (mV 6)))))
  (mSeq (mAsg (mLc ([("_law_k", 6)].map (·.2)) (mRange1 (mOp fPlus (mC (.int 1)) (mOp fSubs (mV 4) (mC (.int 0))))) (.one 6) mYes (mUnA (fCall 2 [] f_l_name) (mCons (mOp fSubs (mV 4) (mC (.int 6))) (mCons (mV 6) mNil)))) (gSubM (mV 5) (mC (.str "packs"))))
  (mSeq (mAsg (mUnA (fCall 3 [] f_l_digits) (mCons (mV 0) (mCons (mC (.int 7)) (mCons (mUnA fLst (mCons (mC (.int 3)) (mCons (mC (.int 3)) (mCons (mC (.int 3)) (mCons (mC (.int 3)) mNil))))) mNil)))) (gN 7))
  (mSeq (mAsg (mLc ([("_law_k", 6)].map (·.2)) (mRange1 (mOp fPlus (mC (.int 1)) (mOp fSubs (mV 4) (mC (.int 0))))) (.one 6) (mTest (mOp fEq (mOp fSubs (mV 7) (mV 6)) (mC (.int 0)))) (mOp fSubs (mOp fSubs (mV 5) (mC (.str "packs"))) (mV 6))) (gSubM (mV 5) (mC (.str "sealed"))))
  (mSeq (mFor (mSeqI (mOp fSubs (mV 5) (mC (.str "packs")))) (gN 8) (mDrop (mMethK cs_Packages 2 ["sealed"] gd_Packages_add_package_2_sealed f_Packages_add_package (mV 1) (mCons (mV 8) mNil) (mCons (mOp fIn (mV 8) (mOp fSubs (mV 5) (mC (.str "sealed")))) mNil))))
  (mSeq (mFor (mRange1 (mOp fPlus (mC (.int 1)) (mOp fSubs (mV 4) (mC (.int 1))))) (gN 6) (mDrop (mUnA (fCall 4 [] f_l_add_class) (mCons (mV 0) (mCons (mV 5) (mCons (mV 1) (mCons (mV 6) mNil)))))))
  (mSeq (mFor (mRange1 (mOp fSubs (mV 4) (mC (.int 3)))) (gN 6) (mDrop (mUnA (fCall 4 [] f_l_add_member) (mCons (mV 0) (mCons (mV 5) (mCons (mV 1) (mCons (mV 6) mNil)))))))
  (mSeq (mFor (mRange1 (mOp fSubs (mV 4) (mC (.int 4)))) (gN 6) (mDrop (mUnA (fCall 4 [] f_l_add_use) (mCons (mV 0) (mCons (mV 5) (mCons (mV 1) (mCons (mV 6) mNil)))))))
  (mRet (mV 5))))))))))))))))))
def f_l_ground : List D → M D := runF 9 m_l_ground
abbrev s_l_bag : Stmt := topS 26
theorem sc_l_bag : FnScope ["_law_told", "_law_due"] ["_law_told", "_law_due"] (defScope s_l_bag) := ⟨rfl, rfl, rfl, by decide +kernel, rfl, by decide +kernel, by decide +kernel⟩
def m_l_bag : MS := (mSeq (mIfS (mOrT (mNotT (mTest (mUn (fIsi .lst) (mV 0)))) (mTest (mOp fNe (mUnA fLen (mCons (mV 0) mNil)) (mUnA fLen (mCons (mV 1) mNil))))) (mRet (mC (.bl false))) mNext)
  (mRet (mAnd (mUnA (fCall 2 [] f_l_inside) (mCons (mV 0) (mCons (mV 1) mNil))) (mUnA (fCall 2 [] f_l_inside) (mCons (mV 1) (mCons (mV 0) mNil))))))
def f_l_bag : List D → M D := runF 2 m_l_bag
abbrev s_l_again : Stmt := topS 27
theorem sc_l_again : FnScope ["_law_world", "_law_library", "_law_mark", "_law_through", "_law_name_here"] ["_law_world", "_law_library"] (defScope s_l_again) := ⟨rfl, rfl, rfl, by decide +kernel, rfl, by decide +kernel, by decide +kernel⟩
def m_l_again : MS := (mSeq (mIfS (mOrT (mTest (mOp fNe (mProp cs_Lineage f_Lineage_classes (mV 1)) (mOp fSubs (mV 0) (mC (.str "order"))))) (mNotT (mTest (mUnA (fCall 2 [] f_l_bag) (mCons (mProp cs_Library f_Library_marks (mV 1)) (mCons (mUnA fList (mCons (mOp fSubs (mV 0) (mC (.str "mark"))) mNil)) mNil)))))) (mRet (mC (.bl false))) mNext)
  (mSeq (mLockS (mOp fSubs (mV 0) (mC (.str "mark"))) (mFor (mKeysI (mOp fSubs (mV 0) (mC (.str "mark")))) (gN 2) (mIfS (mTest (mOp fNe (mMeth cs_Library 2 [] f_Library_level_of (mV 1) (mCons (mV 2) mNil)) (mOp fSubs (mOp fSubs (mV 0) (mC (.str "mark"))) (mV 2)))) (mRet (mC (.bl false))) mNext)))
  (mSeq (mFor (mSeqI (mOp fSubs (mV 0) (mC (.str "order")))) (gN 3) (mLockS (mOp fSubs (mV 0) (mC (.str "root"))) (mFor (mKeysI (mOp fSubs (mV 0) (mC (.str "root")))) (gN 4) (mIfS (mTest (mOp fNe (mMeth cs_Library 3 [] f_Library_owner_of (mV 1) (mCons (mV 3) (mCons (mV 4) mNil))) (mUnA (fCall 3 [] f_l_owner) (mCons (mV 0) (mCons (mV 3) (mCons (mV 4) mNil)))))) (mRet (mC (.bl false))) mNext))))
  (mRet (mC (.bl true))))))
def f_l_again : List D → M D := runF 5 m_l_again
abbrev s_l_member_fault : Stmt := topS 28
theorem sc_l_member_fault : FnScope ["_law_world", "_law_owner_here", "_law_name_here", "_law_brand"] ["_law_world", "_law_owner_here", "_law_name_here", "_law_brand"] (defScope s_l_member_fault) := ⟨rfl, rfl, rfl, by decide +kernel, rfl, by decide +kernel, by decide +kernel⟩
def m_l_member_fault : MS := (mSeq (mIfS (mTest (mOp fNot (mV 1) (mOp fSubs (mV 0) (mC (.str "pack"))))) (mRet (mUnA fTup (mCons (mC (.str "Unknown")) (mCons (mC .non) (mCons (mV 1) mNil))))) mNext)
  (mSeq (mIfS (mTest (mOp fIn (mUnA fTup (mCons (mV 1) (mCons (mV 2) mNil))) (mOp fSubs (mV 0) (mC (.str "decl"))))) (mRet (mUnA fTup (mCons (mC (.str "Taken")) (mCons (mC .non) (mCons (mV 2) mNil))))) mNext)
  (mSeq (mIfS (mTest (mOp fEq (mV 2) (mC (.str "new")))) (mRet (mUnA fTup (mCons (mC (.str "Misfit")) (mCons (mC .non) (mCons (mV 2) mNil))))) mNext)
  (mSeq (mIfS (mTest (mOp fIn (mV 2) (mOp fSubs (mV 0) (mC (.str "root"))))) (mIfS (mOrT (mTest (mOp fNe (mV 3) (mC (.str "method")))) (mOrT (mTest (mOp fNe (mOp fSubs (mOp fSubs (mV 0) (mC (.str "kind"))) (mV 2)) (mC (.str "method")))) (mTest (mOp fNot (mOp fSubs (mOp fSubs (mV 0) (mC (.str "root"))) (mV 2)) (mUnA (fCall 2 [] (f_l_up 30)) (mCons (mV 0) (mCons (mV 1) mNil))))))) (mRet (mUnA fTup (mCons (mC (.str "Misfit")) (mCons (mC .non) (mCons (mV 2) mNil))))) mNext) mNext)
  (mRet (mC (.str "added")))))))
def f_l_member_fault : List D → M D := runF 4 m_l_member_fault
abbrev s_l_try : Stmt := topS 29
theorem sc_l_try : FnScope ["_law_library", "_law_owner_here", "_law_name_here", "_law_brand", "_law_rank", "_law_other", "e"] ["_law_library", "_law_owner_here", "_law_name_here", "_law_brand", "_law_rank", "_law_other"] (defScope s_l_try) := ⟨rfl, rfl, rfl, by decide +kernel, rfl, by decide +kernel, by decide +kernel⟩
def m_l_try : MS := (mSeq (mTry errsL [("Unknown", some 6, mRetX (fun x => mUnA fTup ((fun x => mCons ((fun _ => (mC (.str "Unknown"))) x) ((fun x => mCons ((mXf "row") x) ((fun x => mCons ((mXf "what") x) ((fun _ => mNil) x)) x)) x)) x))), ("Taken", some 6, mRetX (fun x => mUnA fTup ((fun x => mCons ((fun _ => (mC (.str "Taken"))) x) ((fun x => mCons ((mXf "row") x) ((fun x => mCons ((mXf "what") x) ((fun _ => mNil) x)) x)) x)) x))), ("Misfit", some 6, mRetX (fun x => mUnA fTup ((fun x => mCons ((fun _ => (mC (.str "Misfit"))) x) ((fun x => mCons ((mXf "row") x) ((fun x => mCons ((mXf "what") x) ((fun _ => mNil) x)) x)) x)) x)))] (mIfS (mAndT (mTest (mOp fEq (mV 3) (mC (.str "field")))) (mTest (mOp fNe (mV 5) (mV 4)))) (mDrop (mMethK cs_Library 3 ["kind", "level", "write"] gd_Library_add_member_3_kind_level_write f_Library_add_member (mV 0) (mCons (mV 1) (mCons (mV 2) mNil)) (mCons (mC (.str "field")) (mCons (mV 4) (mCons (mV 5) mNil))))) (mDrop (mMethK cs_Library 3 ["kind", "level"] gd_Library_add_member_3_kind_level f_Library_add_member (mV 0) (mCons (mV 1) (mCons (mV 2) mNil)) (mCons (mV 3) (mCons (mV 4) mNil))))))
  (mRet (mC (.str "added"))))
def f_l_try : List D → M D := runF 7 m_l_try
abbrev s_law : Stmt := topS 30
theorem sc_law : FnScope ["_law_script", "_law_library", "_law_world", "_law_k", "_law_picks", "_law_owners", "_law_owner_here", "_law_name_here", "_law_brand", "_law_rank", "_law_other", "_law_due", "_law_j"] ["_law_script"] (defScope s_law) := ⟨rfl, rfl, rfl, by decide +kernel, rfl, by decide +kernel, by decide +kernel⟩
def m_law : MS := (mSeq (mAsg (mUnA (fMake "Library" 0 [] f_Library_init) mNil) (gN 1))
  (mSeq (mAsg (mUnA (fCall 3 [] f_l_ground) (mCons (mV 0) (mCons (mV 1) (mCons (mUnA fLst (mCons (mC (.int 2)) (mCons (mC (.int 5)) (mCons (mC (.int 3)) (mCons (mC (.int 0)) (mCons (mC (.int 0)) mNil)))))) mNil)))) (gN 2))
  (mSeq (mFor (mRange1 (mC (.int 8))) (gN 3) (mSeq (mAsg (mUnA (fCall 3 [] f_l_digits) (mCons (mV 0) (mCons (mOp fPlus (mC (.int 41)) (mV 3)) (mCons (mUnA fLst (mCons (mC (.int 6)) (mCons (mC (.int 5)) (mCons (mC (.int 5)) (mCons (mC (.int 4)) (mCons (mC (.int 4)) mNil)))))) mNil)))) (gN 4))
  (mSeq (mAsg (mOp fPlus (mOp fSubs (mV 2) (mC (.str "order"))) (mUnA fLst (mCons (mUnA (fCall 2 [] f_l_name) (mCons (mOp fSubs (mOp fSubs (mV 2) (mC (.str "starts"))) (mC (.int 2))) (mCons (mC (.int 20)) mNil))) mNil))) (gN 5))
  (mSeq (mAsg (mOp fSubs (mV 5) (mOp fMod (mOp fSubs (mV 4) (mC (.int 0))) (mUnA fLen (mCons (mV 5) mNil)))) (gN 6))
  (mSeq (mAsg (mOp fSubs (mOp fPlus (mUnA fLst (mCons (mC (.str "new")) mNil)) (mLc ([("_law_j", 12)].map (·.2)) (mRange1 (mC (.int 4))) (.one 12) mYes (mUnA (fCall 2 [] f_l_name) (mCons (mOp fSubs (mOp fSubs (mV 2) (mC (.str "starts"))) (mC (.int 3))) (mCons (mV 12) mNil))))) (mOp fSubs (mV 4) (mC (.int 1)))) (gN 7))
  (mSeq (mAsg (mOp fSubs (mUnA fLst (mCons (mC (.str "method")) (mCons (mC (.str "field")) (mCons (mC (.str "static")) (mCons (mC (.str "method")) (mCons (mC (.str "method")) mNil)))))) (mOp fSubs (mV 4) (mC (.int 2)))) (gN 8))
  (mSeq (mAsg (mOp fSubs (mOp fSubs (mV 2) (mC (.str "levels"))) (mOp fMod (mOp fSubs (mV 4) (mC (.int 3))) (mUnA fLen (mCons (mOp fSubs (mV 2) (mC (.str "levels"))) mNil)))) (gN 9))
  (mSeq (mAsg (mOp fSubs (mOp fSubs (mV 2) (mC (.str "levels"))) (mOp fMod (mOp fSubs (mV 4) (mC (.int 4))) (mUnA fLen (mCons (mOp fSubs (mV 2) (mC (.str "levels"))) mNil)))) (gN 10))
  (mSeq (mAsg (mUnA (fCall 4 [] f_l_member_fault) (mCons (mV 2) (mCons (mV 6) (mCons (mV 7) (mCons (mV 8) mNil))))) (gN 11))
  (mSeq (mIfS (mTest (mOp fNe (mUnA (fCall 6 [] f_l_try) (mCons (mV 1) (mCons (mV 6) (mCons (mV 7) (mCons (mV 8) (mCons (mV 9) (mCons (mV 10) mNil))))))) (mV 11))) (mRet (mC (.bl false))) mNext)
  (mSeq (mIfS (mTest (mOp fEq (mV 11) (mC (.str "added")))) (mSeq (mDrop (mBM .lst fApp (mOp fSubs (mV 2) (mC (.str "decl"))) (mCons (mUnA fTup (mCons (mV 6) (mCons (mV 7) mNil))) mNil)))
  (mSeq (mIfS (mTest (mOp fNot (mV 7) (mOp fSubs (mV 2) (mC (.str "root"))))) (mSeq (mAsg (mV 6) (gSubM (mOp fSubs (mV 2) (mC (.str "root"))) (mV 7)))
  (mAsg (mV 8) (gSubM (mOp fSubs (mV 2) (mC (.str "kind"))) (mV 7)))) mNext)
  (mIfS (mTest (mOp fEq (mV 8) (mC (.str "field")))) (mSeq (mAsg (mV 9) (gSubM (mOp fSubs (mV 2) (mC (.str "mark"))) (mUnA fTup (mCons (mV 6) (mCons (mV 7) (mCons (mC (.str "read")) mNil))))))
  (mAsg (mV 10) (gSubM (mOp fSubs (mV 2) (mC (.str "mark"))) (mUnA fTup (mCons (mV 6) (mCons (mV 7) (mCons (mC (.str "write")) mNil))))))) (mAsg (mV 9) (gSubM (mOp fSubs (mV 2) (mC (.str "mark"))) (mUnA fTup (mCons (mV 6) (mCons (mV 7) (mCons (mC (.str "call")) mNil))))))))) mNext)
  (mIfS (mNotT (mTest (mUnA (fCall 2 [] f_l_again) (mCons (mV 2) (mCons (mV 1) mNil))))) (mRet (mC (.bl false))) mNext))))))))))))
  (mRet (mC (.bl true))))))
def f_law : List D → M D := runF 13 m_law
end My
namespace My
open PySem L2 RL
structure Fx (K : PySem.W.Frag) (mg : Str → Option Value) (cn : Str → Addr) where
  a_wording : Addr
  fd_wording : FuncData
  a_AccessError_init : Addr
  fd_AccessError_init : FuncData
  a_Packages_init : Addr
  fd_Packages_init : FuncData
  a_Packages_add_package : Addr
  fd_Packages_add_package : FuncData
  a_Lineage_init : Addr
  fd_Lineage_init : FuncData
  a_Lineage__check_known : Addr
  fd_Lineage__check_known : FuncData
  a_Lineage__check_name : Addr
  fd_Lineage__check_name : FuncData
  a_Lineage_first_unknown : Addr
  fd_Lineage_first_unknown : FuncData
  a_Lineage_first_joined : Addr
  fd_Lineage_first_joined : FuncData
  a_Lineage__check_bases : Addr
  fd_Lineage__check_bases : FuncData
  a_Lineage_link : Addr
  fd_Lineage_link : FuncData
  a_Lineage_is_below : Addr
  fd_Lineage_is_below : FuncData
  a_Lineage_classes : Addr
  fd_Lineage_classes : FuncData
  a_Library_init : Addr
  fd_Library_init : FuncData
  a_Library_package_of : Addr
  fd_Library_package_of : FuncData
  a_Library_add_later : Addr
  fd_Library_add_later : FuncData
  a_Library_add_class : Addr
  fd_Library_add_class : FuncData
  a_Library__may_declare : Addr
  fd_Library__may_declare : FuncData
  a_Library_add_member : Addr
  fd_Library_add_member : FuncData
  a_Library__base_towards : Addr
  fd_Library__base_towards : FuncData
  a_Library_owner_of : Addr
  fd_Library_owner_of : FuncData
  a_Library_level_of : Addr
  fd_Library_level_of : FuncData
  a_Library_marks : Addr
  fd_Library_marks : FuncData
  a_l_digits : Addr
  fd_l_digits : FuncData
  a_l_name : Addr
  fd_l_name : FuncData
  a_l_products : Addr
  fd_l_products : FuncData
  a_l_inside : Addr
  fd_l_inside : FuncData
  a_l_up : Addr
  fd_l_up : FuncData
  a_l_joins : Addr
  fd_l_joins : FuncData
  a_l_owner : Addr
  fd_l_owner : FuncData
  a_l_note : Addr
  fd_l_note : FuncData
  a_l_add_class : Addr
  fd_l_add_class : FuncData
  a_l_add_member : Addr
  fd_l_add_member : FuncData
  a_l_add_use : Addr
  fd_l_add_use : FuncData
  a_l_ground : Addr
  fd_l_ground : FuncData
  a_l_bag : Addr
  fd_l_bag : FuncData
  a_l_again : Addr
  fd_l_again : FuncData
  a_l_member_fault : Addr
  fd_l_member_fault : FuncData
  a_l_try : Addr
  fd_l_try : FuncData
  g_any : mg "any" = none
  g_int : mg "int" = none
  g_isinstance : mg "isinstance" = none
  g_len : mg "len" = none
  g_list : mg "list" = none
  g_range : mg "range" = none
  g_tuple : mg "tuple" = none
  fl_bases : FldOk K cn cs_Lineage "_bases"
  fl_kinds : FldOk K cn cs_Library "_kinds"
  fl_levels : FldOk K cn cs_Library "_levels"
  fl_lines : FldOk K cn cs_Lineage "_lines"
  fl_outer : FldOk K cn cs_Lineage "_outer"
  fl_packages : FldOk K cn cs_Library "_packages"
  fl_roots : FldOk K cn cs_Library "_roots"
  fl_sealed : FldOk K cn cs_Packages "_sealed"
  fl_uses : FldOk K cn cs_Library "_uses"
  F_wording : Fun K "_wording" "_wording" s_wording a_wording fd_wording
  m_wording : mg "_wording" = some (.ref a_wording)
  F_AccessError_init : FunD K "__init__" "AccessError.__init__" (defArgs s_AccessError_init) (defBody s_AccessError_init) (defScope s_AccessError_init) [V.non] [] a_AccessError_init fd_AccessError_init
  F_Packages_init : Fun K "__init__" "Packages.__init__" s_Packages_init a_Packages_init fd_Packages_init
  F_Packages_add_package : FunD K "add_package" "Packages.add_package" (defArgs s_Packages_add_package) (defBody s_Packages_add_package) (defScope s_Packages_add_package) [] [("sealed", V.bl false)] a_Packages_add_package fd_Packages_add_package
  F_Lineage_init : Fun K "__init__" "Lineage.__init__" s_Lineage_init a_Lineage_init fd_Lineage_init
  F_Lineage__check_known : Fun K "_check_known" "Lineage._check_known" s_Lineage__check_known a_Lineage__check_known fd_Lineage__check_known
  F_Lineage__check_name : Fun K "_check_name" "Lineage._check_name" s_Lineage__check_name a_Lineage__check_name fd_Lineage__check_name
  F_Lineage_first_unknown : Fun K "first_unknown" "Lineage.first_unknown" s_Lineage_first_unknown a_Lineage_first_unknown fd_Lineage_first_unknown
  F_Lineage_first_joined : Fun K "first_joined" "Lineage.first_joined" s_Lineage_first_joined a_Lineage_first_joined fd_Lineage_first_joined
  F_Lineage__check_bases : Fun K "_check_bases" "Lineage._check_bases" s_Lineage__check_bases a_Lineage__check_bases fd_Lineage__check_bases
  t0_Lineage_link_bases : Addr
  e0_Lineage_link_bases : ∀ H, SqT K H t0_Lineage_link_bases []
  F_Lineage_link : FunD K "link" "Lineage.link" (defArgs s_Lineage_link) (defBody s_Lineage_link) (defScope s_Lineage_link) [] [("inside", V.non), ("bases", V.ref t0_Lineage_link_bases)] a_Lineage_link fd_Lineage_link
  F_Lineage_is_below : Fun K "is_below" "Lineage.is_below" s_Lineage_is_below a_Lineage_is_below fd_Lineage_is_below
  F_Lineage_classes : Fun K "classes" "Lineage.classes" s_Lineage_classes a_Lineage_classes fd_Lineage_classes
  F_Library_init : Fun K "__init__" "Library.__init__" s_Library_init a_Library_init fd_Library_init
  F_Library_package_of : Fun K "package_of" "Library.package_of" s_Library_package_of a_Library_package_of fd_Library_package_of
  F_Library_add_later : FunD K "add_later" "Library.add_later" (defArgs s_Library_add_later) (defBody s_Library_add_later) (defScope s_Library_add_later) [] [] a_Library_add_later fd_Library_add_later
  t0_Library_add_class_bases : Addr
  e0_Library_add_class_bases : ∀ H, SqT K H t0_Library_add_class_bases []
  F_Library_add_class : FunD K "add_class" "Library.add_class" (defArgs s_Library_add_class) (defBody s_Library_add_class) (defScope s_Library_add_class) [] [("package", V.non), ("inside", V.non), ("bases", V.ref t0_Library_add_class_bases)] a_Library_add_class fd_Library_add_class
  F_Library__may_declare : Fun K "_may_declare" "Library._may_declare" s_Library__may_declare a_Library__may_declare fd_Library__may_declare
  F_Library_add_member : FunD K "add_member" "Library.add_member" (defArgs s_Library_add_member) (defBody s_Library_add_member) (defScope s_Library_add_member) [] [("write", V.non)] a_Library_add_member fd_Library_add_member
  F_Library__base_towards : Fun K "_base_towards" "Library._base_towards" s_Library__base_towards a_Library__base_towards fd_Library__base_towards
  F_Library_owner_of : Fun K "owner_of" "Library.owner_of" s_Library_owner_of a_Library_owner_of fd_Library_owner_of
  F_Library_level_of : Fun K "level_of" "Library.level_of" s_Library_level_of a_Library_level_of fd_Library_level_of
  F_Library_marks : Fun K "marks" "Library.marks" s_Library_marks a_Library_marks fd_Library_marks
  F_l_digits : Fun K "_law_digits" "_law_digits" s_l_digits a_l_digits fd_l_digits
  m_l_digits : mg "_law_digits" = some (.ref a_l_digits)
  F_l_name : Fun K "_law_name" "_law_name" s_l_name a_l_name fd_l_name
  m_l_name : mg "_law_name" = some (.ref a_l_name)
  F_l_products : Fun K "_law_products" "_law_products" s_l_products a_l_products fd_l_products
  m_l_products : mg "_law_products" = some (.ref a_l_products)
  F_l_inside : Fun K "_law_inside" "_law_inside" s_l_inside a_l_inside fd_l_inside
  m_l_inside : mg "_law_inside" = some (.ref a_l_inside)
  F_l_up : Fun K "_law_up" "_law_up" s_l_up a_l_up fd_l_up
  m_l_up : mg "_law_up" = some (.ref a_l_up)
  F_l_joins : Fun K "_law_joins" "_law_joins" s_l_joins a_l_joins fd_l_joins
  m_l_joins : mg "_law_joins" = some (.ref a_l_joins)
  F_l_owner : Fun K "_law_owner" "_law_owner" s_l_owner a_l_owner fd_l_owner
  m_l_owner : mg "_law_owner" = some (.ref a_l_owner)
  F_l_note : Fun K "_law_note" "_law_note" s_l_note a_l_note fd_l_note
  m_l_note : mg "_law_note" = some (.ref a_l_note)
  F_l_add_class : Fun K "_law_add_class" "_law_add_class" s_l_add_class a_l_add_class fd_l_add_class
  m_l_add_class : mg "_law_add_class" = some (.ref a_l_add_class)
  F_l_add_member : Fun K "_law_add_member" "_law_add_member" s_l_add_member a_l_add_member fd_l_add_member
  m_l_add_member : mg "_law_add_member" = some (.ref a_l_add_member)
  F_l_add_use : Fun K "_law_add_use" "_law_add_use" s_l_add_use a_l_add_use fd_l_add_use
  m_l_add_use : mg "_law_add_use" = some (.ref a_l_add_use)
  F_l_ground : Fun K "_law_ground" "_law_ground" s_l_ground a_l_ground fd_l_ground
  m_l_ground : mg "_law_ground" = some (.ref a_l_ground)
  F_l_bag : Fun K "_law_bag" "_law_bag" s_l_bag a_l_bag fd_l_bag
  m_l_bag : mg "_law_bag" = some (.ref a_l_bag)
  F_l_again : Fun K "_law_again" "_law_again" s_l_again a_l_again fd_l_again
  m_l_again : mg "_law_again" = some (.ref a_l_again)
  F_l_member_fault : Fun K "_law_member_fault" "_law_member_fault" s_l_member_fault a_l_member_fault fd_l_member_fault
  m_l_member_fault : mg "_law_member_fault" = some (.ref a_l_member_fault)
  F_l_try : Fun K "_law_try" "_law_try" s_l_try a_l_try fd_l_try
  m_l_try : mg "_law_try" = some (.ref a_l_try)
  me_Library__base_towards : MethOk K cn cs_Library "_base_towards" a_Library__base_towards
  me_Library__may_declare : MethOk K cn cs_Library "_may_declare" a_Library__may_declare
  me_Library_add_class : MethOk K cn cs_Library "add_class" a_Library_add_class
  me_Library_add_later : MethOk K cn cs_Library "add_later" a_Library_add_later
  me_Library_add_member : MethOk K cn cs_Library "add_member" a_Library_add_member
  me_Library_level_of : MethOk K cn cs_Library "level_of" a_Library_level_of
  me_Library_owner_of : MethOk K cn cs_Library "owner_of" a_Library_owner_of
  me_Library_package_of : MethOk K cn cs_Library "package_of" a_Library_package_of
  me_Lineage__check_bases : MethOk K cn cs_Lineage "_check_bases" a_Lineage__check_bases
  me_Lineage__check_known : MethOk K cn cs_Lineage "_check_known" a_Lineage__check_known
  me_Lineage__check_name : MethOk K cn cs_Lineage "_check_name" a_Lineage__check_name
  me_Lineage_first_joined : MethOk K cn cs_Lineage "first_joined" a_Lineage_first_joined
  me_Lineage_first_unknown : MethOk K cn cs_Lineage "first_unknown" a_Lineage_first_unknown
  me_Lineage_is_below : MethOk K cn cs_Lineage "is_below" a_Lineage_is_below
  me_Lineage_link : MethOk K cn cs_Lineage "link" a_Lineage_link
  me_Packages_add_package : MethOk K cn cs_Packages "add_package" a_Packages_add_package
  pr_Library_marks : PropOk K cn cs_Library "marks" a_Library_marks
  pr_Lineage_classes : PropOk K cn cs_Lineage "classes" a_Lineage_classes
  cf_Lineage_init : CFun K (cn "Lineage") "__init__" a_Lineage_init
  c_Lineage : mg "Lineage" = some (.ref (cn "Lineage"))
  cf_Packages_init : CFun K (cn "Packages") "__init__" a_Packages_init
  c_Packages : mg "Packages" = some (.ref (cn "Packages"))
  gs_MAKER : ∃ t, mg "MAKER" = some (.str "new" t)
  mk_Library : Mk K (cn "Library") a_Library_init
  c_Library : mg "Library" = some (.ref (cn "Library"))
  c_Joined : mg "Joined" = some (.ref (cn "Joined"))
  c_Misfit : mg "Misfit" = some (.ref (cn "Misfit"))
  c_Taken : mg "Taken" = some (.ref (cn "Taken"))
  c_Unknown : mg "Unknown" = some (.ref (cn "Unknown"))
  ec_Joined : ErrC K (cn "Joined")
  ei_Joined : PySem.W.findIn K (.ref (cn "Joined")) "__init__" = some (some (.ref a_AccessError_init))
  ec_Misfit : ErrC K (cn "Misfit")
  ei_Misfit : PySem.W.findIn K (.ref (cn "Misfit")) "__init__" = some (some (.ref a_AccessError_init))
  ec_Taken : ErrC K (cn "Taken")
  ei_Taken : PySem.W.findIn K (.ref (cn "Taken")) "__init__" = some (some (.ref a_AccessError_init))
  ec_Unknown : ErrC K (cn "Unknown")
  ei_Unknown : PySem.W.findIn K (.ref (cn "Unknown")) "__init__" = some (some (.ref a_AccessError_init))
  et : PySem.W.typeIn K (.ref a_AccessError_init) = some (.type "function")
  g_ValueError : mg "ValueError" = none
  ve : PySem.W.findCls K (.type "ValueError") (.type "type") "__init__" = some (.val (.builtin "ValueError.__init__"))
  ex_Misfit : ∀ e ∈ errsL, PySem.W.exmOne K (.ref (cn e)) (.ref (cn "Misfit")) = some (subE e "Misfit")
  ex_Taken : ∀ e ∈ errsL, PySem.W.exmOne K (.ref (cn e)) (.ref (cn "Taken")) = some (subE e "Taken")
  ex_Unknown : ∀ e ∈ errsL, PySem.W.exmOne K (.ref (cn e)) (.ref (cn "Unknown")) = some (subE e "Unknown")
  xf_row : ExF K cn errsL "row"
  xf_what : ExF K cn errsL "what"
section
variable {P : Program} {w : World} {K : PySem.W.Frag} {mg : Str → Option Value} {base : Heap} {cn : Str → Addr}
theorem row_text {i : Int} (h : rowOk (.int i) = true) : i.natAbs.log2 < 1920 ∧ (Str.ofString (toString i)).length ≤ 8 := by
  simp only [rowOk, Bool.and_eq_true, decide_eq_true_eq] at h
  have h1 : i.natAbs ≤ 1000000 := by omega
  refine ⟨?_, ?_⟩
  · by_cases z : i.natAbs = 0
    · rw [z]
      decide
    · have h2 : i.natAbs < 2 ^ 20 := Nat.lt_of_le_of_lt h1 (by decide)
      have := (Nat.log2_lt z).mpr h2
      omega
  · have := int_text_length_le10 (a := i) (k := 7) (by decide) (Nat.lt_of_le_of_lt h1 (by decide))
    rw [ofString_length]
    omega
theorem wd_fn (T : Fx K mg cn) : FnOk P w K mg base (L2.CX P w) 1 T.a_wording T.fd_wording ["name", "what", "row"] (spWd K) := by
  refine T.F_wording.okX (N := ["name", "what", "row"]) ⟨rfl, rfl, rfl, by decide +kernel, rfl, by decide +kernel, by decide +kernel⟩ (fun vs H Q E h => ?_) (fun cdv A outer s H vs Q E hr h => ?_)
  · obtain ⟨nm, vw, vr, _, _, _, e, _⟩ := h
    rw [e]
    rfl
  · obtain ⟨nm, vw, vr, ρ, dw, dr, rfl, hn, qw, qr, hw, hrw, hq⟩ := h
    refine ⟨_, pss_cons (ps_if (pt_cmp (pc_isN (pv 2))) (pss_one (ps_ret (pe_joined (.cons (pe_fmt (pv 0)) (.cons pe_str (.cons (pe_fmtW hr (pv 1)) .nil)))))) pss_nil)
      (pss_one (ps_ret (pe_joined (.cons pe_str (.cons (pe_fmt (pv 2)) (.cons pe_str (.cons (pe_fmt (pv 0)) (.cons pe_str (.cons (pe_fmtW hr (pv 1)) .nil))))))))), ?_⟩
    have la : ∀ (a b : Str), (a ++ b).length = a.length + b.length := fun a b => strLen_append a b
    have l0 : (Str.empty).length = 0 := rfl
    have l2 : (": " : Str).length = 2 := rfl
    have l4 : ("row " : Str).length = 4 := rfl
    cases qr with
    | non =>
      refine ⟨.non, rfl, _, rfl, ?_⟩
      show tJs _ _ _ _ _
      refine ⟨_, rfl, .inl ⟨nm, rfl, by rw [sizeLine_eq]; omega, nm, rfl, by rw [la, sizeLine_eq]; omega, ?_⟩⟩
      refine ⟨_, rfl, by rw [la, la, sizeLine_eq]; omega, ?_⟩
      exact ⟨vw, rfl, ρ, dw, qw, hw, fun m hm => ⟨m, rfl, by rw [la, la, la, sizeLine_eq]; omega, hq _⟩⟩
    | int i =>
      obtain ⟨t1, t2⟩ := row_text hrw
      refine ⟨.int i, rfl, _, rfl, ?_⟩
      show tJs _ _ _ _ _
      refine ⟨_, rfl, by rw [la, sizeLine_eq]; omega, ?_⟩
      refine ⟨_, rfl, .inr ⟨i, rfl, t1, _, rfl, by rw [la, la, sizeLine_eq]; omega, ?_⟩⟩
      refine ⟨_, rfl, by rw [la, la, la, sizeLine_eq]; omega, ?_⟩
      refine ⟨_, rfl, .inl ⟨nm, rfl, by rw [sizeLine_eq]; omega, nm, rfl, by rw [la, la, la, la, sizeLine_eq]; omega, ?_⟩⟩
      refine ⟨_, rfl, by rw [la, la, la, la, la, sizeLine_eq]; omega, ?_⟩
      exact ⟨vw, rfl, ρ, dw, qw, hw, fun m hm => ⟨m, rfl, by rw [la, la, la, la, la, la, sizeLine_eq]; omega, hq _⟩⟩
    | _ => exact absurd hrw (by simp [rowOk])
theorem ae_ok (T : Fx K mg cn) : FnOk P w K mg base (L2.CX P w) 2 T.a_AccessError_init T.fd_AccessError_init ["self", "what", "row"] (spAE K) := by
  refine T.F_AccessError_init.ok (N := ["self", "what", "row", "name"]) ⟨rfl, rfl, rfl, by decide +kernel, rfl, by decide +kernel, by decide +kernel⟩ (fun vs H Q E h => ?_) (fun cdv A outer s H vs Q E hr h => ?_)
  · obtain ⟨a, C, vw, vr, _, _, _, e, _⟩ := h
    rw [e]
    rfl
  · obtain ⟨a, C, vw, vr, ρ, dw, dr, rfl, hC, ha, qw, qr, hw, hrw, hq⟩ := h
    have nd : (["self", "what", "row", "name"] : List Str).Nodup := by decide +kernel
    have hbind := T.F_wording.binds (ps := ["name", "what", "row"]) fun _ _ _ _ _ _ us hl => match us, hl with | [_, _, _], _ => rfl
    refine ⟨_, pss_cons (ps_set (i := 3) nd rfl (Or.inl rfl) (pe_cname (pv 0)))
      (pss_cons (ps_expr (pe_veinit (by rfl) T.g_ValueError T.ve (pa_cons (pv 0) (pa_cons (pe_call (dvs := []) (wd_fn T) hr (by rfl) T.m_wording T.F_wording.kp hbind .nil passL (pa_cons (pv 3) (pa_cons (pv 1) (pa_cons (pv 2) pa_nil)))) pa_nil))))
      (pss_cons (ps_ost (pv 0) (pv 1)) (pss_one (ps_ost (pv 0) (pv 2))))), ?_⟩
    obtain ⟨nm, hnm, hl⟩ := hC.nam
    refine ⟨.ref a, rfl, a, C, nm, rfl, ha, hnm, ?_⟩
    refine ⟨.ref a, rfl, .str nm, rfl, vw, rfl, vr, rfl, ?_⟩
    refine ⟨nm, vw, vr, ρ, dw, dr, rfl, hl, qw, qr, hw, hrw, fun m => ⟨a, C, _, rfl, by simp, hC.oex, ha, ?_⟩⟩
    refine ⟨vw, rfl, .ref a, rfl, a, C, rfl, hC.oex, hC.what, .inl ⟨ha, fun dx hd hne => ?_⟩⟩
    refine ⟨vr, rfl, .ref a, rfl, a, C, rfl, hC.oex, hC.row, .inr ⟨dx, [("what", vw)], upd_same, ?_, by simp, ?_⟩⟩
    · rw [upd_ne hne, upd_same]
    · exact hq dx hd hne
theorem ae_fn (T : Fx K mg cn) : ∃ fd, FnOk P w K mg base (L2.CX P w) 2 T.a_AccessError_init fd ["self", "what", "row"] (spAE K) ∧ Binds K fd ["self", "what", "row"] [] ∧ Binds K fd ["self", "what", "row"] [.none] := by
  refine ⟨_, ae_ok T, ?_, ?_⟩
  · obtain ⟨ds, r, b⟩ := T.F_AccessError_init.binds1 (ps := ["self", "what", "row"]) 3 1 (by simp) rfl fun Tt kV doc pm an cdv ct us its h1 h2 => match us, its, h1, h2 with | [_, _, _], [_], _, _ => ⟨_, rfl, rfl⟩
    cases r
    exact b
  · obtain ⟨ds, r, b⟩ := T.F_AccessError_init.binds1 (ps := ["self", "what", "row"]) 2 0 (by simp) rfl fun Tt kV doc pm an cdv ct us its h1 h2 => match us, its, h1, h2 with | [_, _], [_], _, _ => ⟨_, rfl, rfl⟩
    cases r with
    | cons r0 rn =>
      cases rn
      cases r0
      exact b
theorem er_Joined (T : Fx K mg cn) : Err P w K mg base 2 (cn "Joined") T.a_AccessError_init := ⟨T.ec_Joined, T.ei_Joined, T.et, ae_fn T⟩
theorem er_Misfit (T : Fx K mg cn) : Err P w K mg base 2 (cn "Misfit") T.a_AccessError_init := ⟨T.ec_Misfit, T.ei_Misfit, T.et, ae_fn T⟩
theorem er_Taken (T : Fx K mg cn) : Err P w K mg base 2 (cn "Taken") T.a_AccessError_init := ⟨T.ec_Taken, T.ei_Taken, T.et, ae_fn T⟩
theorem er_Unknown (T : Fx K mg cn) : Err P w K mg base 2 (cn "Unknown") T.a_AccessError_init := ⟨T.ec_Unknown, T.ei_Unknown, T.et, ae_fn T⟩
theorem d_l_add_use (T : Fx K mg cn) : DefM P w K mg base cn 1 T.a_l_add_use 4 [] f_l_add_use := defM0 (ps := ["_law_script", "_law_world", "_law_library", "_law_k"]) fn_bad (T.F_l_add_use.binds (ps := ["_law_script", "_law_world", "_law_library", "_law_k"]) fun _ _ _ _ _ _ us hl => match us, hl with | [_, _, _, _], _ => rfl) T.F_l_add_use.kp
theorem b_Packages_init (T : Fx K mg cn) : BodyM P w K mg base cn 0 ["self"] "Packages.__init__" (defScope s_Packages_init) T.a_Packages_init (defBody s_Packages_init) m_Packages_init := fun cdv A outer s H E hr => by
  have F : Fit (cxE P w K mg base ["self"] "Packages.__init__" (defScope s_Packages_init) T.a_Packages_init cdv A outer s H E) (fun cls d _ H => E cls d H) := fit_cx
  have nd := sc_Packages_init.nd
  exact (rss_one (rs_fld T.fl_sealed (rv 0) re_dict0))
theorem d_Packages_init (T : Fx K mg cn) : DefM P w K mg base cn 1 T.a_Packages_init 1 [] f_Packages_init := defM0 (ps := ["self"]) (fnM T.F_Packages_init sc_Packages_init (b_Packages_init T)) (T.F_Packages_init.binds (ps := ["self"]) fun _ _ _ _ _ _ us hl => match us, hl with | [_], _ => rfl) T.F_Packages_init.kp
theorem b_Packages_add_package (T : Fx K mg cn) : BodyM P w K mg base cn 3 ["self", "name", "sealed"] "Packages.add_package" (defScope s_Packages_add_package) T.a_Packages_add_package (defBody s_Packages_add_package) m_Packages_add_package := fun cdv A outer s H E hr => by
  have F : Fit (cxE P w K mg base ["self", "name", "sealed"] "Packages.add_package" (defScope s_Packages_add_package) T.a_Packages_add_package cdv A outer s H E) (fun cls d _ H => E cls d H) := fit_cx
  have nd := sc_Packages_add_package.nd
  exact (rss_cons (rs_if (rt_in (hu65 hr) (rv 1) (re_fld T.fl_sealed (rv 0))) (rss_one (rs_raise1 (c := "Taken") F (er_Taken T) (hr.mono (by decide : 3 ≤ 3)) (by rfl) T.c_Taken (ra_cons (rv 1) ra_nil))) rss_nil)
  (rss_one (rs_asg (rv 2) (rg_sub (hu1 hr) (re_fld T.fl_sealed (rv 0)) (rv 1)))))
theorem fn_Packages_add_package (T : Fx K mg cn) : FnOk P w K mg base (L2.CX P w) 4 T.a_Packages_add_package T.fd_Packages_add_package ["self", "name", "sealed"] (spM ⟨K, cn, P, w⟩ 3 f_Packages_add_package) := fnMD T.F_Packages_add_package sc_Packages_add_package (b_Packages_add_package T)
theorem d_Packages_add_package_2_sealed (T : Fx K mg cn) : DefK P w K mg base cn 4 T.a_Packages_add_package 2 ["sealed"] gd_Packages_add_package_2_sealed f_Packages_add_package := dk_all T.F_Packages_add_package (idx := [0]) (fn_Packages_add_package T) (by decide) rfl T.F_Packages_add_package.kp (fun kV doc pm an cdv ct us ws h1 h2 => match us, ws, h1, h2 with | [_, _], [_], _, _ => rfl)
theorem b_Lineage_init (T : Fx K mg cn) : BodyM P w K mg base cn 0 ["self"] "Lineage.__init__" (defScope s_Lineage_init) T.a_Lineage_init (defBody s_Lineage_init) m_Lineage_init := fun cdv A outer s H E hr => by
  have F : Fit (cxE P w K mg base ["self"] "Lineage.__init__" (defScope s_Lineage_init) T.a_Lineage_init cdv A outer s H E) (fun cls d _ H => E cls d H) := fit_cx
  have nd := sc_Lineage_init.nd
  exact (rss_cons (rs_fld T.fl_outer (rv 0) re_dict0)
  (rss_cons (rs_fld T.fl_bases (rv 0) re_dict0)
  (rss_one (rs_fld T.fl_lines (rv 0) re_dict0))))
theorem d_Lineage_init (T : Fx K mg cn) : DefM P w K mg base cn 1 T.a_Lineage_init 1 [] f_Lineage_init := defM0 (ps := ["self"]) (fnM T.F_Lineage_init sc_Lineage_init (b_Lineage_init T)) (T.F_Lineage_init.binds (ps := ["self"]) fun _ _ _ _ _ _ us hl => match us, hl with | [_], _ => rfl) T.F_Lineage_init.kp
theorem b_Lineage__check_known (T : Fx K mg cn) : BodyM P w K mg base cn 3 ["self", "name"] "Lineage._check_known" (defScope s_Lineage__check_known) T.a_Lineage__check_known (defBody s_Lineage__check_known) m_Lineage__check_known := fun cdv A outer s H E hr => by
  have F : Fit (cxE P w K mg base ["self", "name"] "Lineage._check_known" (defScope s_Lineage__check_known) T.a_Lineage__check_known cdv A outer s H E) (fun cls d _ H => E cls d H) := fit_cx
  have nd := sc_Lineage__check_known.nd
  exact (rss_one (rs_if (rt_notIn (hu65 hr) (rv 1) (re_fld T.fl_lines (rv 0))) (rss_one (rs_raise1 (c := "Unknown") F (er_Unknown T) (hr.mono (by decide : 3 ≤ 3)) (by rfl) T.c_Unknown (ra_cons (rv 1) ra_nil))) rss_nil))
theorem d_Lineage__check_known (T : Fx K mg cn) : DefM P w K mg base cn 4 T.a_Lineage__check_known 2 [] f_Lineage__check_known := defM0 (ps := ["self", "name"]) (fnM T.F_Lineage__check_known sc_Lineage__check_known (b_Lineage__check_known T)) (T.F_Lineage__check_known.binds (ps := ["self", "name"]) fun _ _ _ _ _ _ us hl => match us, hl with | [_, _], _ => rfl) T.F_Lineage__check_known.kp
theorem b_Lineage__check_name (T : Fx K mg cn) : BodyM P w K mg base cn 4 ["self", "name", "inside"] "Lineage._check_name" (defScope s_Lineage__check_name) T.a_Lineage__check_name (defBody s_Lineage__check_name) m_Lineage__check_name := fun cdv A outer s H E hr => by
  have F : Fit (cxE P w K mg base ["self", "name", "inside"] "Lineage._check_name" (defScope s_Lineage__check_name) T.a_Lineage__check_name cdv A outer s H E) (fun cls d _ H => E cls d H) := fit_cx
  have nd := sc_Lineage__check_name.nd
  exact (rss_cons (rs_if (rt_in (hu65 hr) (rv 1) (re_fld T.fl_lines (rv 0))) (rss_one (rs_raise1 (c := "Taken") F (er_Taken T) (hr.mono (by decide : 3 ≤ 4)) (by rfl) T.c_Taken (ra_cons (rv 1) ra_nil))) rss_nil)
  (rss_one (rs_if (rt_notN (rv 2)) (rss_one (rs_expr (re_meth F T.me_Lineage__check_known (d_Lineage__check_known T) (hr.mono (by decide : 4 ≤ 4)) (rv 0) (ra_cons (rv 2) ra_nil)))) rss_nil)))
theorem d_Lineage__check_name (T : Fx K mg cn) : DefM P w K mg base cn 5 T.a_Lineage__check_name 3 [] f_Lineage__check_name := defM0 (ps := ["self", "name", "inside"]) (fnM T.F_Lineage__check_name sc_Lineage__check_name (b_Lineage__check_name T)) (T.F_Lineage__check_name.binds (ps := ["self", "name", "inside"]) fun _ _ _ _ _ _ us hl => match us, hl with | [_, _, _], _ => rfl) T.F_Lineage__check_name.kp
theorem b_Lineage_first_unknown (T : Fx K mg cn) : BodyM P w K mg base cn 0 ["self", "names", "name"] "Lineage.first_unknown" (defScope s_Lineage_first_unknown) T.a_Lineage_first_unknown (defBody s_Lineage_first_unknown) m_Lineage_first_unknown := fun cdv A outer s H E hr => by
  have F : Fit (cxE P w K mg base ["self", "names", "name"] "Lineage.first_unknown" (defScope s_Lineage_first_unknown) T.a_Lineage_first_unknown cdv A outer s H E) (fun cls d _ H => E cls d H) := fit_cx
  have nd := sc_Lineage_first_unknown.nd
  exact (rss_cons (rs_for F.pw F.calm (ri_seq (rv 1)) (rg_name (i := 2) nd rfl (Or.inl rfl)) (rss_one (rs_if (rt_notIn (hu65 hr) (rv 2) (re_fld T.fl_lines (rv 0))) (rss_one (rs_ret (rv 2))) rss_nil)))
  (rss_one (rs_ret re_non)))
theorem d_Lineage_first_unknown (T : Fx K mg cn) : DefM P w K mg base cn 1 T.a_Lineage_first_unknown 2 [] f_Lineage_first_unknown := defM0 (ps := ["self", "names"]) (fnM T.F_Lineage_first_unknown sc_Lineage_first_unknown (b_Lineage_first_unknown T)) (T.F_Lineage_first_unknown.binds (ps := ["self", "names"]) fun _ _ _ _ _ _ us hl => match us, hl with | [_, _], _ => rfl) T.F_Lineage_first_unknown.kp
theorem b_Lineage_first_joined (T : Fx K mg cn) : BodyM P w K mg base cn 0 ["self", "bases", "covered", "base", "line", "upper"] "Lineage.first_joined" (defScope s_Lineage_first_joined) T.a_Lineage_first_joined (defBody s_Lineage_first_joined) m_Lineage_first_joined := fun cdv A outer s H E hr => by
  have F : Fit (cxE P w K mg base ["self", "bases", "covered", "base", "line", "upper"] "Lineage.first_joined" (defScope s_Lineage_first_joined) T.a_Lineage_first_joined cdv A outer s H E) (fun cls d _ H => E cls d H) := fit_cx
  have nd := sc_Lineage_first_joined.nd
  exact (rss_cons (rs_set (i := 2) nd rfl (Or.inr rfl) re_dict0)
  (rss_cons (rs_for F.pw F.calm (ri_seq (rv 1)) (rg_name (i := 3) nd rfl (Or.inl rfl)) (rss_cons (rs_set (i := 4) nd rfl (Or.inl rfl) (re_sub (hu1 hr) (re_fld T.fl_lines (rv 0)) (rv 3) (fun _ _ => rfl)))
  (rss_cons (rs_if (rt_val (re_any F.calm (by rfl) T.g_any (re_lock (mV 4) (re_lc (own := [("upper", 5)]) (t := (.one 5)) F.calm nd (ri_keys (rv 4)) (blkOk_by (own := [("upper", 5)]) (N := ["self", "bases", "covered", "base", "line", "upper"]) (sc := defScope s_Lineage_first_joined) (by decide +kernel)) (by decide) (fun _ _ _ _ _ => pg_name (i := 5) nd rfl (Or.inl rfl)) (fun _ _ _ _ _ => rts_nil) (fun _ _ _ _ _ => (re_in (hu65 hr) (rv 5) (rv 2))))))) (rss_one (rs_ret (rv 3))) rss_nil)
  (rss_one (rs_expr (re_upd (rv 2) (ra_cons (rv 4) ra_nil)))))))
  (rss_one (rs_ret re_non))))
theorem d_Lineage_first_joined (T : Fx K mg cn) : DefM P w K mg base cn 1 T.a_Lineage_first_joined 2 [] f_Lineage_first_joined := defM0 (ps := ["self", "bases"]) (fnM T.F_Lineage_first_joined sc_Lineage_first_joined (b_Lineage_first_joined T)) (T.F_Lineage_first_joined.binds (ps := ["self", "bases"]) fun _ _ _ _ _ _ us hl => match us, hl with | [_, _], _ => rfl) T.F_Lineage_first_joined.kp
theorem b_Lineage__check_bases (T : Fx K mg cn) : BodyM P w K mg base cn 3 ["self", "bases", "unknown", "joined"] "Lineage._check_bases" (defScope s_Lineage__check_bases) T.a_Lineage__check_bases (defBody s_Lineage__check_bases) m_Lineage__check_bases := fun cdv A outer s H E hr => by
  have F : Fit (cxE P w K mg base ["self", "bases", "unknown", "joined"] "Lineage._check_bases" (defScope s_Lineage__check_bases) T.a_Lineage__check_bases cdv A outer s H E) (fun cls d _ H => E cls d H) := fit_cx
  have nd := sc_Lineage__check_bases.nd
  exact (rss_cons (rs_set (i := 2) nd rfl (Or.inl rfl) (re_meth F T.me_Lineage_first_unknown (d_Lineage_first_unknown T) (hr.mono (by decide : 1 ≤ 3)) (rv 0) (ra_cons (rv 1) ra_nil)))
  (rss_cons (rs_if (rt_notN (rv 2)) (rss_one (rs_raise1 (c := "Unknown") F (er_Unknown T) (hr.mono (by decide : 3 ≤ 3)) (by rfl) T.c_Unknown (ra_cons (rv 2) ra_nil))) rss_nil)
  (rss_cons (rs_set (i := 3) nd rfl (Or.inl rfl) (re_meth F T.me_Lineage_first_joined (d_Lineage_first_joined T) (hr.mono (by decide : 1 ≤ 3)) (rv 0) (ra_cons (rv 1) ra_nil)))
  (rss_one (rs_if (rt_notN (rv 3)) (rss_one (rs_raise1 (c := "Joined") F (er_Joined T) (hr.mono (by decide : 3 ≤ 3)) (by rfl) T.c_Joined (ra_cons (rv 3) ra_nil))) rss_nil)))))
theorem d_Lineage__check_bases (T : Fx K mg cn) : DefM P w K mg base cn 4 T.a_Lineage__check_bases 2 [] f_Lineage__check_bases := defM0 (ps := ["self", "bases"]) (fnM T.F_Lineage__check_bases sc_Lineage__check_bases (b_Lineage__check_bases T)) (T.F_Lineage__check_bases.binds (ps := ["self", "bases"]) fun _ _ _ _ _ _ us hl => match us, hl with | [_, _], _ => rfl) T.F_Lineage__check_bases.kp
theorem b_Lineage_link (T : Fx K mg cn) : BodyM P w K mg base cn 5 ["self", "name", "inside", "bases", "line", "base"] "Lineage.link" (defScope s_Lineage_link) T.a_Lineage_link (defBody s_Lineage_link) m_Lineage_link := fun cdv A outer s H E hr => by
  have F : Fit (cxE P w K mg base ["self", "name", "inside", "bases", "line", "base"] "Lineage.link" (defScope s_Lineage_link) T.a_Lineage_link cdv A outer s H E) (fun cls d _ H => E cls d H) := fit_cx
  have nd := sc_Lineage_link.nd
  exact (rss_cons (rs_set (i := 3) nd rfl (Or.inl rfl) (re_tuple (by rfl) T.g_tuple (rv 3)))
  (rss_cons (rs_expr (re_meth F T.me_Lineage__check_name (d_Lineage__check_name T) (hr.mono (by decide : 5 ≤ 5)) (rv 0) (ra_cons (rv 1) (ra_cons (rv 2) ra_nil))))
  (rss_cons (rs_expr (re_meth F T.me_Lineage__check_bases (d_Lineage__check_bases T) (hr.mono (by decide : 4 ≤ 5)) (rv 0) (ra_cons (rv 3) ra_nil)))
  (rss_cons (rs_set (i := 4) nd rfl (Or.inl rfl) (re_disp (.cons (rv 1) re_bl (.nil)) (fun z => by cases z) (by decide)))
  (rss_cons (rs_for F.pw F.calm (ri_seq (rv 3)) (rg_name (i := 5) nd rfl (Or.inl rfl)) (rss_one (rs_expr (re_upd (rv 4) (ra_cons (re_sub (hu1 hr) (re_fld T.fl_lines (rv 0)) (rv 5) (fun _ _ => rfl)) ra_nil)))))
  (rss_cons (rs_asg (rv 2) (rg_sub (hu1 hr) (re_fld T.fl_outer (rv 0)) (rv 1)))
  (rss_cons (rs_asg (rv 3) (rg_sub (hu1 hr) (re_fld T.fl_bases (rv 0)) (rv 1)))
  (rss_one (rs_asg (rv 4) (rg_sub (hu1 hr) (re_fld T.fl_lines (rv 0)) (rv 1)))))))))))
theorem fn_Lineage_link (T : Fx K mg cn) : FnOk P w K mg base (L2.CX P w) 6 T.a_Lineage_link T.fd_Lineage_link ["self", "name", "inside", "bases"] (spM ⟨K, cn, P, w⟩ 4 f_Lineage_link) := fnMD T.F_Lineage_link sc_Lineage_link (b_Lineage_link T)
theorem d_Lineage_link_2_inside_bases (T : Fx K mg cn) : DefK P w K mg base cn 6 T.a_Lineage_link 2 ["inside", "bases"] gd_Lineage_link_2_inside_bases f_Lineage_link := dk_all T.F_Lineage_link (idx := [0, 1]) (fn_Lineage_link T) (by decide) rfl T.F_Lineage_link.kp (fun kV doc pm an cdv ct us ws h1 h2 => match us, ws, h1, h2 with | [_, _], [_, _], _, _ => rfl)
theorem b_Lineage_is_below (T : Fx K mg cn) : BodyM P w K mg base cn 0 ["self", "lower", "upper"] "Lineage.is_below" (defScope s_Lineage_is_below) T.a_Lineage_is_below (defBody s_Lineage_is_below) m_Lineage_is_below := fun cdv A outer s H E hr => by
  have F : Fit (cxE P w K mg base ["self", "lower", "upper"] "Lineage.is_below" (defScope s_Lineage_is_below) T.a_Lineage_is_below cdv A outer s H E) (fun cls d _ H => E cls d H) := fit_cx
  have nd := sc_Lineage_is_below.nd
  exact (rss_one (rs_ret (re_or (re_eq (hu64 hr) (rv 1) (rv 2)) (re_one (re_in (hu65 hr) (rv 2) (re_get (hu1 hr) (re_fld T.fl_lines (rv 0)) (ra_cons (rv 1) (ra_cons (re_tup ra_nil) ra_nil))))))))
theorem d_Lineage_is_below (T : Fx K mg cn) : DefM P w K mg base cn 1 T.a_Lineage_is_below 3 [] f_Lineage_is_below := defM0 (ps := ["self", "lower", "upper"]) (fnM T.F_Lineage_is_below sc_Lineage_is_below (b_Lineage_is_below T)) (T.F_Lineage_is_below.binds (ps := ["self", "lower", "upper"]) fun _ _ _ _ _ _ us hl => match us, hl with | [_, _, _], _ => rfl) T.F_Lineage_is_below.kp
theorem b_Lineage_classes (T : Fx K mg cn) : BodyM P w K mg base cn 0 ["self"] "Lineage.classes" (defScope s_Lineage_classes) T.a_Lineage_classes (defBody s_Lineage_classes) m_Lineage_classes := fun cdv A outer s H E hr => by
  have F : Fit (cxE P w K mg base ["self"] "Lineage.classes" (defScope s_Lineage_classes) T.a_Lineage_classes cdv A outer s H E) (fun cls d _ H => E cls d H) := fit_cx
  have nd := sc_Lineage_classes.nd
  exact (rss_one (rs_ret (re_listc F.calm (by rfl) T.g_list (re_fld T.fl_lines (rv 0)))))
theorem d_Lineage_classes (T : Fx K mg cn) : DefM P w K mg base cn 1 T.a_Lineage_classes 1 [] f_Lineage_classes := defM0 (ps := ["self"]) (fnM T.F_Lineage_classes sc_Lineage_classes (b_Lineage_classes T)) (T.F_Lineage_classes.binds (ps := ["self"]) fun _ _ _ _ _ _ us hl => match us, hl with | [_], _ => rfl) T.F_Lineage_classes.kp
theorem b_Library_init (T : Fx K mg cn) : BodyM P w K mg base cn 1 ["self"] "Library.__init__" (defScope s_Library_init) T.a_Library_init (defBody s_Library_init) m_Library_init := fun cdv A outer s H E hr => by
  have F : Fit (cxE P w K mg base ["self"] "Library.__init__" (defScope s_Library_init) T.a_Library_init cdv A outer s H E) (fun cls d _ H => E cls d H) := fit_cx
  have nd := sc_Library_init.nd
  exact (rss_cons (rs_expr (re_cfun F T.cf_Packages_init (d_Packages_init T) (hr.mono (by decide : 1 ≤ 1)) (by rfl) T.c_Packages (ra_cons (rv 0) ra_nil)))
  (rss_cons (rs_expr (re_cfun F T.cf_Lineage_init (d_Lineage_init T) (hr.mono (by decide : 1 ≤ 1)) (by rfl) T.c_Lineage (ra_cons (rv 0) ra_nil)))
  (rss_cons (rs_fld T.fl_packages (rv 0) re_dict0)
  (rss_cons (rs_fld T.fl_roots (rv 0) re_dict0)
  (rss_cons (rs_fld T.fl_kinds (rv 0) re_dict0)
  (rss_cons (rs_fld T.fl_levels (rv 0) re_dict0)
  (rss_one (rs_fld T.fl_uses (rv 0) re_dict0))))))))
theorem d_Library_init (T : Fx K mg cn) : DefM P w K mg base cn 2 T.a_Library_init 1 [] f_Library_init := defM0 (ps := ["self"]) (fnM T.F_Library_init sc_Library_init (b_Library_init T)) (T.F_Library_init.binds (ps := ["self"]) fun _ _ _ _ _ _ us hl => match us, hl with | [_], _ => rfl) T.F_Library_init.kp
theorem b_Library_package_of (T : Fx K mg cn) : BodyM P w K mg base cn 0 ["self", "name"] "Library.package_of" (defScope s_Library_package_of) T.a_Library_package_of (defBody s_Library_package_of) m_Library_package_of := fun cdv A outer s H E hr => by
  have F : Fit (cxE P w K mg base ["self", "name"] "Library.package_of" (defScope s_Library_package_of) T.a_Library_package_of cdv A outer s H E) (fun cls d _ H => E cls d H) := fit_cx
  have nd := sc_Library_package_of.nd
  exact (rss_one (rs_ret (re_get (hu1 hr) (re_fld T.fl_packages (rv 0)) (ra_cons (rv 1) ra_nil))))
theorem d_Library_package_of (T : Fx K mg cn) : DefM P w K mg base cn 1 T.a_Library_package_of 2 [] f_Library_package_of := defM0 (ps := ["self", "name"]) (fnM T.F_Library_package_of sc_Library_package_of (b_Library_package_of T)) (T.F_Library_package_of.binds (ps := ["self", "name"]) fun _ _ _ _ _ _ us hl => match us, hl with | [_, _], _ => rfl) T.F_Library_package_of.kp
theorem b_Library_add_later (T : Fx K mg cn) : BodyM P w K mg base cn 6 ["self", "name", "package", "inside", "bases"] "Library.add_later" (defScope s_Library_add_later) T.a_Library_add_later (defBody s_Library_add_later) m_Library_add_later := fun cdv A outer s H E hr => by
  have F : Fit (cxE P w K mg base ["self", "name", "package", "inside", "bases"] "Library.add_later" (defScope s_Library_add_later) T.a_Library_add_later cdv A outer s H E) (fun cls d _ H => E cls d H) := fit_cx
  have nd := sc_Library_add_later.nd
  exact (rss_cons (rs_expr (re_methK F T.me_Lineage_link (d_Lineage_link_2_inside_bases T) (hr.mono (by decide : 6 ≤ 6)) (rv 0) (ra_cons (rv 1) ra_nil) (rk_cons (rv 3) (rk_cons (rv 4) rk_nil))))
  (rss_one (rs_asg (re_ifx (rt_isN (rv 3)) (rv 2) (re_meth F T.me_Library_package_of (d_Library_package_of T) (hr.mono (by decide : 1 ≤ 6)) (rv 0) (ra_cons (rv 3) ra_nil))) (rg_sub (hu1 hr) (re_fld T.fl_packages (rv 0)) (rv 1)))))
theorem fn_Library_add_later (T : Fx K mg cn) : FnOk P w K mg base (L2.CX P w) 7 T.a_Library_add_later T.fd_Library_add_later ["self", "name", "package", "inside", "bases"] (spM ⟨K, cn, P, w⟩ 5 f_Library_add_later) := fnMD T.F_Library_add_later sc_Library_add_later (b_Library_add_later T)
theorem d_Library_add_later_2_package_inside_bases (T : Fx K mg cn) : DefK P w K mg base cn 7 T.a_Library_add_later 2 ["package", "inside", "bases"] gd_Library_add_later_2_package_inside_bases f_Library_add_later := dk_all T.F_Library_add_later (idx := [0, 1, 2]) (fn_Library_add_later T) (by decide) rfl T.F_Library_add_later.kp (fun kV doc pm an cdv ct us ws h1 h2 => match us, ws, h1, h2 with | [_, _], [_, _, _], _, _ => rfl)
theorem b_Library_add_class (T : Fx K mg cn) : BodyM P w K mg base cn 7 ["self", "name", "maker", "package", "inside", "bases"] "Library.add_class" (defScope s_Library_add_class) T.a_Library_add_class (defBody s_Library_add_class) m_Library_add_class := fun cdv A outer s H E hr => by
  have F : Fit (cxE P w K mg base ["self", "name", "maker", "package", "inside", "bases"] "Library.add_class" (defScope s_Library_add_class) T.a_Library_add_class cdv A outer s H E) (fun cls d _ H => E cls d H) := fit_cx
  have nd := sc_Library_add_class.nd
  exact (rss_cons (rs_expr (re_meth F T.me_Lineage__check_name (d_Lineage__check_name T) (hr.mono (by decide : 5 ≤ 7)) (rv 0) (ra_cons (rv 1) (ra_cons (rv 4) ra_nil))))
  (rss_cons (rs_if (rt_w (rw_and (rt_isN (rv 4)) (rw_and1 (rt_notIn (hu65 hr) (rv 3) (re_fld T.fl_sealed (rv 0)))))) (rss_one (rs_raise1 (c := "Unknown") F (er_Unknown T) (hr.mono (by decide : 3 ≤ 7)) (by rfl) T.c_Unknown (ra_cons (rv 3) ra_nil))) rss_nil)
  (rss_cons (rs_expr (re_methK F T.me_Library_add_later (d_Library_add_later_2_package_inside_bases T) (hr.mono (by decide : 7 ≤ 7)) (rv 0) (ra_cons (rv 1) ra_nil) (rk_cons (rv 3) (rk_cons (rv 4) (rk_cons (rv 5) rk_nil)))))
  (rss_one (rs_asg (rv 2) (rg_sub (hu1 hr) (re_fld T.fl_levels (rv 0)) (re_tup (ra_cons (rv 1) (ra_cons (re_gstr (by rfl) T.gs_MAKER) (ra_cons (re_str) ra_nil))))))))))
theorem fn_Library_add_class (T : Fx K mg cn) : FnOk P w K mg base (L2.CX P w) 8 T.a_Library_add_class T.fd_Library_add_class ["self", "name", "maker", "package", "inside", "bases"] (spM ⟨K, cn, P, w⟩ 6 f_Library_add_class) := fnMD T.F_Library_add_class sc_Library_add_class (b_Library_add_class T)
theorem d_Library_add_class_2_maker_inside_bases (T : Fx K mg cn) : DefK P w K mg base cn 8 T.a_Library_add_class 2 ["maker", "inside", "bases"] gd_Library_add_class_2_maker_inside_bases f_Library_add_class := dk_some T.F_Library_add_class (idx := [1, 0, 2, 3]) (fn_Library_add_class T) [("package", V.non)] (by simp) (by simp) (fun _ _ => .cons .non (.nil)) (by decide) rfl T.F_Library_add_class.kp (fun DD doc pm an cdv ct us mv ws h1 h2 h3 => match us, mv, ws, h1, h2, h3 with | [_, _], [_], [_, _, _], _, _, _ => ⟨_, _, _, _, _, _, rfl, rfl, rfl⟩)
theorem d_Library_add_class_2_maker_package_bases (T : Fx K mg cn) : DefK P w K mg base cn 8 T.a_Library_add_class 2 ["maker", "package", "bases"] gd_Library_add_class_2_maker_package_bases f_Library_add_class := dk_some T.F_Library_add_class (idx := [1, 2, 0, 3]) (fn_Library_add_class T) [("inside", V.non)] (by simp) (by simp) (fun _ _ => .cons .non (.nil)) (by decide) rfl T.F_Library_add_class.kp (fun DD doc pm an cdv ct us mv ws h1 h2 h3 => match us, mv, ws, h1, h2, h3 with | [_, _], [_], [_, _, _], _, _, _ => ⟨_, _, _, _, _, _, rfl, rfl, rfl⟩)
theorem b_Library__may_declare (T : Fx K mg cn) : BodyM P w K mg base cn 1 ["self", "owner", "name", "kind", "root"] "Library._may_declare" (defScope s_Library__may_declare) T.a_Library__may_declare (defBody s_Library__may_declare) m_Library__may_declare := fun cdv A outer s H E hr => by
  have F : Fit (cxE P w K mg base ["self", "owner", "name", "kind", "root"] "Library._may_declare" (defScope s_Library__may_declare) T.a_Library__may_declare cdv A outer s H E) (fun cls d _ H => E cls d H) := fit_cx
  have nd := sc_Library__may_declare.nd
  exact (rss_cons (rs_if (rt_eq (hu64 hr) (rv 2) (re_gstr (by rfl) T.gs_MAKER)) (rss_one (rs_ret re_bl)) rss_nil)
  (rss_cons (rs_if (rt_notIn (hu65 hr) (rv 2) (re_fld T.fl_roots (rv 0))) (rss_one (rs_ret re_bl)) rss_nil)
  (rss_cons (rs_set (i := 4) nd rfl (Or.inl rfl) (re_sub (hu1 hr) (re_fld T.fl_roots (rv 0)) (rv 2) (fun _ _ => rfl)))
  (rss_one (rs_ret (re_and (re_eq (hu64 hr) (rv 3) (re_str)) (re_and (re_eq (hu64 hr) (re_sub (hu1 hr) (re_fld T.fl_kinds (rv 0)) (re_tup (ra_cons (rv 4) (ra_cons (rv 2) ra_nil))) (fun _ _ => rfl)) (re_str)) (re_one (re_meth F T.me_Lineage_is_below (d_Lineage_is_below T) (hr.mono (by decide : 1 ≤ 1)) (rv 0) (ra_cons (rv 1) (ra_cons (rv 4) ra_nil)))))))))))
theorem d_Library__may_declare (T : Fx K mg cn) : DefM P w K mg base cn 2 T.a_Library__may_declare 4 [] f_Library__may_declare := defM0 (ps := ["self", "owner", "name", "kind"]) (fnM T.F_Library__may_declare sc_Library__may_declare (b_Library__may_declare T)) (T.F_Library__may_declare.binds (ps := ["self", "owner", "name", "kind"]) fun _ _ _ _ _ _ us hl => match us, hl with | [_, _, _, _], _ => rfl) T.F_Library__may_declare.kp
theorem b_Library_add_member (T : Fx K mg cn) : BodyM P w K mg base cn 4 ["self", "owner", "name", "kind", "level", "write"] "Library.add_member" (defScope s_Library_add_member) T.a_Library_add_member (defBody s_Library_add_member) m_Library_add_member := fun cdv A outer s H E hr => by
  have F : Fit (cxE P w K mg base ["self", "owner", "name", "kind", "level", "write"] "Library.add_member" (defScope s_Library_add_member) T.a_Library_add_member cdv A outer s H E) (fun cls d _ H => E cls d H) := fit_cx
  have nd := sc_Library_add_member.nd
  exact (rss_cons (rs_expr (re_meth F T.me_Lineage__check_known (d_Lineage__check_known T) (hr.mono (by decide : 4 ≤ 4)) (rv 0) (ra_cons (rv 1) ra_nil)))
  (rss_cons (rs_if (rt_in (hu65 hr) (re_tup (ra_cons (rv 1) (ra_cons (rv 2) ra_nil))) (re_fld T.fl_kinds (rv 0))) (rss_one (rs_raise1 (c := "Taken") F (er_Taken T) (hr.mono (by decide : 3 ≤ 4)) (by rfl) T.c_Taken (ra_cons (rv 2) ra_nil))) rss_nil)
  (rss_cons (rs_if (rt_not (rt_val (re_meth F T.me_Library__may_declare (d_Library__may_declare T) (hr.mono (by decide : 2 ≤ 4)) (rv 0) (ra_cons (rv 1) (ra_cons (rv 2) (ra_cons (rv 3) ra_nil)))))) (rss_one (rs_raise1 (c := "Misfit") F (er_Misfit T) (hr.mono (by decide : 3 ≤ 4)) (by rfl) T.c_Misfit (ra_cons (rv 2) ra_nil))) rss_nil)
  (rss_cons (rs_asg (rv 3) (rg_sub (hu1 hr) (re_fld T.fl_kinds (rv 0)) (re_tup (ra_cons (rv 1) (ra_cons (rv 2) ra_nil)))))
  (rss_cons (rs_expr (re_setd (re_fld T.fl_roots (rv 0)) (ra_cons (rv 2) (ra_cons (rv 1) ra_nil))))
  (rss_one (rs_if (rt_eq (hu64 hr) (rv 3) (re_str)) (rss_cons (rs_asg (rv 4) (rg_sub (hu1 hr) (re_fld T.fl_levels (rv 0)) (re_tup (ra_cons (rv 1) (ra_cons (rv 2) (ra_cons (re_str) ra_nil))))))
  (rss_one (rs_asg (re_ifx (rt_isN (rv 5)) (rv 4) (rv 5)) (rg_sub (hu1 hr) (re_fld T.fl_levels (rv 0)) (re_tup (ra_cons (rv 1) (ra_cons (rv 2) (ra_cons (re_str) ra_nil)))))))) (rss_one (rs_asg (rv 4) (rg_sub (hu1 hr) (re_fld T.fl_levels (rv 0)) (re_tup (ra_cons (rv 1) (ra_cons (rv 2) (ra_cons (re_str) ra_nil))))))))))))))
theorem fn_Library_add_member (T : Fx K mg cn) : FnOk P w K mg base (L2.CX P w) 5 T.a_Library_add_member T.fd_Library_add_member ["self", "owner", "name", "kind", "level", "write"] (spM ⟨K, cn, P, w⟩ 6 f_Library_add_member) := fnMD T.F_Library_add_member sc_Library_add_member (b_Library_add_member T)
theorem d_Library_add_member_3_kind_level (T : Fx K mg cn) : DefK P w K mg base cn 5 T.a_Library_add_member 3 ["kind", "level"] gd_Library_add_member_3_kind_level f_Library_add_member := dk_some T.F_Library_add_member (idx := [1, 2, 0]) (fn_Library_add_member T) [("write", V.non)] (by simp) (by simp) (fun _ _ => .cons .non (.nil)) (by decide) rfl T.F_Library_add_member.kp (fun DD doc pm an cdv ct us mv ws h1 h2 h3 => match us, mv, ws, h1, h2, h3 with | [_, _, _], [_], [_, _], _, _, _ => ⟨_, _, _, _, _, _, rfl, rfl, rfl⟩)
theorem d_Library_add_member_3_kind_level_write (T : Fx K mg cn) : DefK P w K mg base cn 5 T.a_Library_add_member 3 ["kind", "level", "write"] gd_Library_add_member_3_kind_level_write f_Library_add_member := dk_all T.F_Library_add_member (idx := [0, 1, 2]) (fn_Library_add_member T) (by decide) rfl T.F_Library_add_member.kp (fun kV doc pm an cdv ct us ws h1 h2 => match us, ws, h1, h2 with | [_, _, _], [_, _, _], _, _ => rfl)
theorem b_Library__base_towards (T : Fx K mg cn) : BodyM P w K mg base cn 1 ["self", "lower", "upper", "base"] "Library._base_towards" (defScope s_Library__base_towards) T.a_Library__base_towards (defBody s_Library__base_towards) m_Library__base_towards := fun cdv A outer s H E hr => by
  have F : Fit (cxE P w K mg base ["self", "lower", "upper", "base"] "Library._base_towards" (defScope s_Library__base_towards) T.a_Library__base_towards cdv A outer s H E) (fun cls d _ H => E cls d H) := fit_cx
  have nd := sc_Library__base_towards.nd
  exact (rss_cons (rs_for F.pw F.calm (ri_seq (re_sub (hu1 hr) (re_fld T.fl_bases (rv 0)) (rv 1) (fun _ _ => rfl))) (rg_name (i := 3) nd rfl (Or.inl rfl)) (rss_one (rs_if (rt_val (re_meth F T.me_Lineage_is_below (d_Lineage_is_below T) (hr.mono (by decide : 1 ≤ 1)) (rv 0) (ra_cons (rv 3) (ra_cons (rv 2) ra_nil)))) (rss_one (rs_ret (rv 3))) rss_nil)))
  (rss_one (rs_ret re_non)))
theorem d_Library__base_towards (T : Fx K mg cn) : DefM P w K mg base cn 2 T.a_Library__base_towards 3 [] f_Library__base_towards := defM0 (ps := ["self", "lower", "upper"]) (fnM T.F_Library__base_towards sc_Library__base_towards (b_Library__base_towards T)) (T.F_Library__base_towards.binds (ps := ["self", "lower", "upper"]) fun _ _ _ _ _ _ us hl => match us, hl with | [_, _, _], _ => rfl) T.F_Library__base_towards.kp
theorem b_Library_owner_of (T : Fx K mg cn) : BodyM P w K mg base cn 2 ["self", "through", "name", "root", "owner"] "Library.owner_of" (defScope s_Library_owner_of) T.a_Library_owner_of (defBody s_Library_owner_of) m_Library_owner_of := fun cdv A outer s H E hr => by
  have F : Fit (cxE P w K mg base ["self", "through", "name", "root", "owner"] "Library.owner_of" (defScope s_Library_owner_of) T.a_Library_owner_of cdv A outer s H E) (fun cls d _ H => E cls d H) := fit_cx
  have nd := sc_Library_owner_of.nd
  exact (rss_cons (rs_set (i := 3) nd rfl (Or.inl rfl) (re_get (hu1 hr) (re_fld T.fl_roots (rv 0)) (ra_cons (rv 2) ra_nil)))
  (rss_cons (rs_if (rt_w (rw_or (rt_isN (rv 3)) (rw_or1 (rt_not (rt_val (re_meth F T.me_Lineage_is_below (d_Lineage_is_below T) (hr.mono (by decide : 1 ≤ 2)) (rv 0) (ra_cons (rv 1) (ra_cons (rv 3) ra_nil)))))))) (rss_one (rs_ret re_non)) rss_nil)
  (rss_cons (rs_set (i := 4) nd rfl (Or.inl rfl) (rv 1))
  (rss_cons (rs_while FUEL F.pw (rt_notIn (hu65 hr) (re_tup (ra_cons (rv 4) (ra_cons (rv 2) ra_nil))) (re_fld T.fl_kinds (rv 0))) (rss_one (rs_set (i := 4) nd rfl (Or.inl rfl) (re_meth F T.me_Library__base_towards (d_Library__base_towards T) (hr.mono (by decide : 2 ≤ 2)) (rv 0) (ra_cons (rv 4) (ra_cons (rv 3) ra_nil))))))
  (rss_one (rs_ret (rv 4)))))))
theorem d_Library_owner_of (T : Fx K mg cn) : DefM P w K mg base cn 3 T.a_Library_owner_of 3 [] f_Library_owner_of := defM0 (ps := ["self", "through", "name"]) (fnM T.F_Library_owner_of sc_Library_owner_of (b_Library_owner_of T)) (T.F_Library_owner_of.binds (ps := ["self", "through", "name"]) fun _ _ _ _ _ _ us hl => match us, hl with | [_, _, _], _ => rfl) T.F_Library_owner_of.kp
theorem b_Library_level_of (T : Fx K mg cn) : BodyM P w K mg base cn 3 ["self", "mark"] "Library.level_of" (defScope s_Library_level_of) T.a_Library_level_of (defBody s_Library_level_of) m_Library_level_of := fun cdv A outer s H E hr => by
  have F : Fit (cxE P w K mg base ["self", "mark"] "Library.level_of" (defScope s_Library_level_of) T.a_Library_level_of cdv A outer s H E) (fun cls d _ H => E cls d H) := fit_cx
  have nd := sc_Library_level_of.nd
  exact (rss_cons (rs_if (rt_notIn (hu65 hr) (rv 1) (re_fld T.fl_levels (rv 0))) (rss_one (rs_raise1 (c := "Unknown") F (er_Unknown T) (hr.mono (by decide : 3 ≤ 3)) (by rfl) T.c_Unknown (ra_cons (rv 1) ra_nil))) rss_nil)
  (rss_one (rs_ret (re_sub (hu1 hr) (re_fld T.fl_levels (rv 0)) (rv 1) (fun _ _ => rfl)))))
theorem d_Library_level_of (T : Fx K mg cn) : DefM P w K mg base cn 4 T.a_Library_level_of 2 [] f_Library_level_of := defM0 (ps := ["self", "mark"]) (fnM T.F_Library_level_of sc_Library_level_of (b_Library_level_of T)) (T.F_Library_level_of.binds (ps := ["self", "mark"]) fun _ _ _ _ _ _ us hl => match us, hl with | [_, _], _ => rfl) T.F_Library_level_of.kp
theorem b_Library_marks (T : Fx K mg cn) : BodyM P w K mg base cn 0 ["self"] "Library.marks" (defScope s_Library_marks) T.a_Library_marks (defBody s_Library_marks) m_Library_marks := fun cdv A outer s H E hr => by
  have F : Fit (cxE P w K mg base ["self"] "Library.marks" (defScope s_Library_marks) T.a_Library_marks cdv A outer s H E) (fun cls d _ H => E cls d H) := fit_cx
  have nd := sc_Library_marks.nd
  exact (rss_one (rs_ret (re_listc F.calm (by rfl) T.g_list (re_fld T.fl_levels (rv 0)))))
theorem d_Library_marks (T : Fx K mg cn) : DefM P w K mg base cn 1 T.a_Library_marks 1 [] f_Library_marks := defM0 (ps := ["self"]) (fnM T.F_Library_marks sc_Library_marks (b_Library_marks T)) (T.F_Library_marks.binds (ps := ["self"]) fun _ _ _ _ _ _ us hl => match us, hl with | [_], _ => rfl) T.F_Library_marks.kp
theorem b_l_digits (T : Fx K mg cn) : BodyM P w K mg base cn 0 ["_law_script", "_law_at", "_law_sizes", "_law_cell", "_law_great", "_law_row", "_law_size", "_law_mixed"] "_law_digits" (defScope s_l_digits) T.a_l_digits (defBody s_l_digits) m_l_digits := fun cdv A outer s H E hr => by
  have F : Fit (cxE P w K mg base ["_law_script", "_law_at", "_law_sizes", "_law_cell", "_law_great", "_law_row", "_law_size", "_law_mixed"] "_law_digits" (defScope s_l_digits) T.a_l_digits cdv A outer s H E) (fun cls d _ H => E cls d H) := fit_cx
  have nd := sc_l_digits.nd
  exact (rss_cons (rs_set (i := 3) nd rfl (Or.inl rfl) (re_sub (hu1 hr) (re_plusK (rv 0) (re_rep (re_lst (ra_cons re_int ra_nil)) re_int)) (rv 1) (fun _ _ => rfl)))
  (rss_cons (rs_set (i := 4) nd rfl (Or.inl rfl) (re_ge  (rv 3) (re_pow re_int re_int)))
  (rss_cons (rs_set (i := 5) nd rfl (Or.inl rfl) (re_lst ra_nil))
  (rss_cons (rs_for F.pw F.calm (ri_seq (rv 2)) (rg_name (i := 6) nd rfl (Or.inl rfl)) (rss_cons (rs_set (i := 7) nd rfl (Or.inl rfl) (re_mod (re_intc (by rfl) T.g_int (re_plus (re_plus (re_plus (re_mul (rv 3) re_int) (re_mul (rv 1) re_int)) (re_mul (re_len (by rfl) T.g_len (rv 5)) re_int)) re_int)) re_int))
  (rss_cons (rs_set (i := 7) nd rfl (Or.inl rfl) (re_div (re_mod (re_intc (by rfl) T.g_int (re_plus (re_plus (re_mul (rv 7) (rv 7)) (rv 3)) (re_mul (re_len (by rfl) T.g_len (rv 5)) re_int))) re_int) re_int))
  (rss_cons (rs_if (rt_val (rv 4)) (rss_cons (rs_set (i := 7) nd rfl (Or.inl rfl) (rv 3))
  (rss_one (rs_set (i := 3) nd rfl (Or.inl rfl) (re_div (rv 3) (rv 6))))) rss_nil)
  (rss_one (rs_expr (re_app (rv 5) (ra_cons (re_mod (re_intc (by rfl) T.g_int (rv 7)) (rv 6)) ra_nil))))))))
  (rss_one (rs_ret (rv 5)))))))
theorem d_l_digits (T : Fx K mg cn) : DefM P w K mg base cn 1 T.a_l_digits 3 [] f_l_digits := defM0 (ps := ["_law_script", "_law_at", "_law_sizes"]) (fnM T.F_l_digits sc_l_digits (b_l_digits T)) (T.F_l_digits.binds (ps := ["_law_script", "_law_at", "_law_sizes"]) fun _ _ _ _ _ _ us hl => match us, hl with | [_, _, _], _ => rfl) T.F_l_digits.kp
theorem b_l_name (T : Fx K mg cn) : BodyM P w K mg base cn 0 ["_law_start", "_law_k", "_law_pool"] "_law_name" (defScope s_l_name) T.a_l_name (defBody s_l_name) m_l_name := fun cdv A outer s H E hr => by
  have F : Fit (cxE P w K mg base ["_law_start", "_law_k", "_law_pool"] "_law_name" (defScope s_l_name) T.a_l_name cdv A outer s H E) (fun cls d _ H => E cls d H) := fit_cx
  have nd := sc_l_name.nd
  exact (rss_cons (rs_set (i := 2) nd rfl (Or.inl rfl) (re_str))
  (rss_one (rs_ret (re_sub (hu1 hr) (re_split (rv 2) (ra_cons (re_str) ra_nil)) (re_mod (re_intc (by rfl) T.g_int (re_plus (rv 0) (re_mul re_int (rv 1)))) re_int) (fun _ _ => rfl)))))
theorem d_l_name (T : Fx K mg cn) : DefM P w K mg base cn 1 T.a_l_name 2 [] f_l_name := defM0 (ps := ["_law_start", "_law_k"]) (fnM T.F_l_name sc_l_name (b_l_name T)) (T.F_l_name.binds (ps := ["_law_start", "_law_k"]) fun _ _ _ _ _ _ us hl => match us, hl with | [_, _], _ => rfl) T.F_l_name.kp
theorem b_l_products (T : Fx K mg cn) : BodyM P w K mg base cn 1 ["_law_script", "_law_at", "_law_words", "_law_picks", "_law_found", "_law_k"] "_law_products" (defScope s_l_products) T.a_l_products (defBody s_l_products) m_l_products := fun cdv A outer s H E hr => by
  have F : Fit (cxE P w K mg base ["_law_script", "_law_at", "_law_words", "_law_picks", "_law_found", "_law_k"] "_law_products" (defScope s_l_products) T.a_l_products cdv A outer s H E) (fun cls d _ H => E cls d H) := fit_cx
  have nd := sc_l_products.nd
  exact (rss_cons (rs_set (i := 2) nd rfl (Or.inl rfl) (re_split (re_str) (ra_cons (re_str) ra_nil)))
  (rss_cons (rs_set (i := 3) nd rfl (Or.inl rfl) (re_call F (d_l_digits T) (hr.mono (by decide : 1 ≤ 1)) (by rfl) T.m_l_digits (ra_cons (rv 0) (ra_cons (rv 1) (ra_cons (re_lst (ra_cons re_int (ra_cons re_int (ra_cons re_int (ra_cons re_int (ra_cons re_int (ra_cons re_int (ra_cons re_int (ra_cons re_int (ra_cons re_int (ra_cons re_int ra_nil))))))))))) ra_nil)))))
  (rss_cons (rs_set (i := 4) nd rfl (Or.inl rfl) (re_lst ra_nil))
  (rss_cons (rs_for F.pw F.calm (ri_range1 (by rfl) T.g_range (re_sub (hu1 hr) (rv 3) re_int (fun _ _ => rfl))) (rg_name (i := 5) nd rfl (Or.inl rfl)) (rss_one (rs_expr (re_app (rv 4) (ra_cons (re_slice (re_lst (ra_cons (re_sub (hu1 hr) (rv 2) (re_sub (hu1 hr) (rv 3) (re_plus re_int (re_mul re_int (rv 5))) (fun _ _ => rfl)) (fun _ _ => rfl)) (ra_cons (re_sub (hu1 hr) (rv 2) (re_sub (hu1 hr) (rv 3) (re_plus re_int (re_mul re_int (rv 5))) (fun _ _ => rfl)) (fun _ _ => rfl)) ra_nil))) rp_no (rp_int (re_plus re_int (re_sub (hu1 hr) (rv 3) (re_plus re_int (re_mul re_int (rv 5))) (fun _ _ => rfl))))) ra_nil)))))
  (rss_one (rs_ret (rv 4)))))))
theorem d_l_products (T : Fx K mg cn) : DefM P w K mg base cn 2 T.a_l_products 2 [] f_l_products := defM0 (ps := ["_law_script", "_law_at"]) (fnM T.F_l_products sc_l_products (b_l_products T)) (T.F_l_products.binds (ps := ["_law_script", "_law_at"]) fun _ _ _ _ _ _ us hl => match us, hl with | [_, _], _ => rfl) T.F_l_products.kp
theorem b_l_inside (T : Fx K mg cn) : BodyM P w K mg base cn 0 ["_law_part", "_law_whole", "_law_thing"] "_law_inside" (defScope s_l_inside) T.a_l_inside (defBody s_l_inside) m_l_inside := fun cdv A outer s H E hr => by
  have F : Fit (cxE P w K mg base ["_law_part", "_law_whole", "_law_thing"] "_law_inside" (defScope s_l_inside) T.a_l_inside cdv A outer s H E) (fun cls d _ H => E cls d H) := fit_cx
  have nd := sc_l_inside.nd
  exact (rss_one (rs_ret (re_eq (hu64 hr) (re_len (by rfl) T.g_len (re_lc (own := [("_law_thing", 2)]) (t := (.one 2)) F.calm nd (ri_seq (rv 0)) (blkOk_by (own := [("_law_thing", 2)]) (N := ["_law_part", "_law_whole", "_law_thing"]) (sc := defScope s_l_inside) (by decide +kernel)) (by decide) (fun _ _ _ _ _ => pg_name (i := 2) nd rfl (Or.inl rfl)) (fun _ _ _ _ _ => (rts_one (rt_notIn (hu65 hr) (rv 2) (rv 1)))) (fun _ _ _ _ _ => (rv 2)))) re_int)))
theorem d_l_inside (T : Fx K mg cn) : DefM P w K mg base cn 1 T.a_l_inside 2 [] f_l_inside := defM0 (ps := ["_law_part", "_law_whole"]) (fnM T.F_l_inside sc_l_inside (b_l_inside T)) (T.F_l_inside.binds (ps := ["_law_part", "_law_whole"]) fun _ _ _ _ _ _ us hl => match us, hl with | [_, _], _ => rfl) T.F_l_inside.kp
theorem b_l_up (T : Fx K mg cn) {n : Nat} {self : List D → M D} (hself : DefM P w K mg base cn n T.a_l_up 2 [] self) : BodyM P w K mg base cn n ["_law_world", "_law_name_here", "_law_line", "_law_up_here"] "_law_up" (defScope s_l_up) T.a_l_up (defBody s_l_up) (m_l_up self) := fun cdv A outer s H E hr => by
  have F : Fit (cxE P w K mg base ["_law_world", "_law_name_here", "_law_line", "_law_up_here"] "_law_up" (defScope s_l_up) T.a_l_up cdv A outer s H E) (fun cls d _ H => E cls d H) := fit_cx
  have nd := sc_l_up.nd
  exact (rss_cons (rs_set (i := 2) nd rfl (Or.inl rfl) (re_lst (ra_cons (rv 1) ra_nil)))
  (rss_cons (rs_for F.pw F.calm (ri_seq (re_sub (hu1 hr) (re_sub (hu1 hr) (rv 0) (re_str) (fun _ _ => rfl)) (rv 1) (fun _ _ => rfl))) (rg_name (i := 3) nd rfl (Or.inl rfl)) (rss_one (rs_set (i := 2) nd rfl (Or.inl rfl) (re_plus (rv 2) (re_call F hself hr (by rfl) T.m_l_up (ra_cons (rv 0) (ra_cons (rv 3) ra_nil)))))))
  (rss_one (rs_ret (rv 2)))))
theorem d_l_upN (T : Fx K mg cn) : ∀ n, DefM P w K mg base cn n T.a_l_up 2 [] (f_l_up n)
  | 0 => defM0 (ps := ["_law_world", "_law_name_here"]) fn_bad (T.F_l_up.binds (ps := ["_law_world", "_law_name_here"]) fun _ _ _ _ _ _ us hl => match us, hl with | [_, _], _ => rfl) T.F_l_up.kp
  | n + 1 => defM0 (ps := ["_law_world", "_law_name_here"]) (fnM T.F_l_up sc_l_up (b_l_up T (d_l_upN T n))) (T.F_l_up.binds (ps := ["_law_world", "_law_name_here"]) fun _ _ _ _ _ _ us hl => match us, hl with | [_, _], _ => rfl) T.F_l_up.kp
theorem d_l_up (T : Fx K mg cn) : DefM P w K mg base cn 30 T.a_l_up 2 [] (f_l_up 30) := d_l_upN T 30
theorem b_l_joins (T : Fx K mg cn) : BodyM P w K mg base cn 30 ["_law_world", "_law_ups", "_law_up_here", "_law_line", "_law_other", "_law_x"] "_law_joins" (defScope s_l_joins) T.a_l_joins (defBody s_l_joins) m_l_joins := fun cdv A outer s H E hr => by
  have F : Fit (cxE P w K mg base ["_law_world", "_law_ups", "_law_up_here", "_law_line", "_law_other", "_law_x"] "_law_joins" (defScope s_l_joins) T.a_l_joins cdv A outer s H E) (fun cls d _ H => E cls d H) := fit_cx
  have nd := sc_l_joins.nd
  exact (rss_cons (rs_set (i := 3) nd rfl (Or.inr rfl) (re_call F (d_l_up T) (hr.mono (by decide : 30 ≤ 30)) (by rfl) T.m_l_up (ra_cons (rv 0) (ra_cons (rv 2) ra_nil))))
  (rss_one (rs_ret (re_gt  (re_len (by rfl) T.g_len (re_lc (own := [("_law_other", 4)]) (t := (.one 4)) F.calm nd (ri_seq (rv 1)) (blkOk_by (own := [("_law_other", 4)]) (N := ["_law_world", "_law_ups", "_law_up_here", "_law_line", "_law_other", "_law_x"]) (sc := defScope s_l_joins) (by decide +kernel)) (by decide) (fun _ _ _ _ _ => pg_name (i := 4) nd rfl (Or.inl rfl)) (fun _ _ _ _ _ => (rts_one (rt_gt  (re_len (by rfl) T.g_len (re_lc (own := [("_law_x", 5)]) (t := (.one 5)) F.blk.calm nd (ri_seq (re_call F.blk (d_l_up T) (hr.mono (by decide : 30 ≤ 30)) (by rfl) T.m_l_up (ra_cons (rv 0) (ra_cons (rv 4) ra_nil)))) (blkOk_by (own := [("_law_x", 5)]) (N := ["_law_world", "_law_ups", "_law_up_here", "_law_line", "_law_other", "_law_x"]) (by rfl)) (by decide) (fun _ _ _ _ _ => pg_name (i := 5) nd rfl (Or.inl rfl)) (fun _ _ _ _ _ => (rts_one (rt_in (hu65 hr) (rv 5) (rv 3)))) (fun _ _ _ _ _ => (rv 5)))) re_int))) (fun _ _ _ _ _ => (rv 4)))) re_int))))
theorem d_l_joins (T : Fx K mg cn) : DefM P w K mg base cn 31 T.a_l_joins 3 [] f_l_joins := defM0 (ps := ["_law_world", "_law_ups", "_law_up_here"]) (fnM T.F_l_joins sc_l_joins (b_l_joins T)) (T.F_l_joins.binds (ps := ["_law_world", "_law_ups", "_law_up_here"]) fun _ _ _ _ _ _ us hl => match us, hl with | [_, _, _], _ => rfl) T.F_l_joins.kp
theorem b_l_owner (T : Fx K mg cn) : BodyM P w K mg base cn 30 ["_law_world", "_law_through", "_law_name_here", "_law_found", "_law_upper"] "_law_owner" (defScope s_l_owner) T.a_l_owner (defBody s_l_owner) m_l_owner := fun cdv A outer s H E hr => by
  have F : Fit (cxE P w K mg base ["_law_world", "_law_through", "_law_name_here", "_law_found", "_law_upper"] "_law_owner" (defScope s_l_owner) T.a_l_owner cdv A outer s H E) (fun cls d _ H => E cls d H) := fit_cx
  have nd := sc_l_owner.nd
  exact (rss_cons (rs_setLc (i := 3) (own := [("_law_upper", 4)]) (t := (.one 4)) F.calm nd rfl rfl rfl (ri_seq (re_call F (d_l_up T) (hr.mono (by decide : 30 ≤ 30)) (by rfl) T.m_l_up (ra_cons (rv 0) (ra_cons (rv 1) ra_nil)))) (blkOk_by (own := [("_law_upper", 4)]) (N := ["_law_world", "_law_through", "_law_name_here", "_law_found", "_law_upper"]) (sc := defScope s_l_owner) (by decide +kernel)) (by decide) (fun _ _ _ _ _ => pg_name (i := 4) nd rfl (Or.inl rfl)) (fun _ _ _ _ _ => (rts_one (rt_in (hu65 hr) (re_tup (ra_cons (rv 4) (ra_cons (rv 2) ra_nil))) (re_sub (hu1 hr) (rv 0) (re_str) (fun _ _ => rfl))))) (fun _ _ _ _ _ => (rv 4)))
  (rss_one (rs_ret (re_sub (hu1 hr) (re_plus (rv 3) (re_lst (ra_cons re_non ra_nil))) re_int (fun _ _ => rfl)))))
theorem d_l_owner (T : Fx K mg cn) : DefM P w K mg base cn 31 T.a_l_owner 3 [] f_l_owner := defM0 (ps := ["_law_world", "_law_through", "_law_name_here"]) (fnM T.F_l_owner sc_l_owner (b_l_owner T)) (T.F_l_owner.binds (ps := ["_law_world", "_law_through", "_law_name_here"]) fun _ _ _ _ _ _ us hl => match us, hl with | [_, _, _], _ => rfl) T.F_l_owner.kp
theorem b_l_note (T : Fx K mg cn) : BodyM P w K mg base cn 0 ["_law_world", "_law_name_here", "_law_pack", "_law_outer", "_law_ups"] "_law_note" (defScope s_l_note) T.a_l_note (defBody s_l_note) m_l_note := fun cdv A outer s H E hr => by
  have F : Fit (cxE P w K mg base ["_law_world", "_law_name_here", "_law_pack", "_law_outer", "_law_ups"] "_law_note" (defScope s_l_note) T.a_l_note cdv A outer s H E) (fun cls d _ H => E cls d H) := fit_cx
  have nd := sc_l_note.nd
  exact (rss_cons (rs_asg (rv 3) (rg_sub (hu1 hr) (re_sub (hu1 hr) (rv 0) (re_str) (fun _ _ => rfl)) (rv 1)))
  (rss_cons (rs_asg (rv 4) (rg_sub (hu1 hr) (re_sub (hu1 hr) (rv 0) (re_str) (fun _ _ => rfl)) (rv 1)))
  (rss_one (rs_asg (rv 2) (rg_sub (hu1 hr) (re_sub (hu1 hr) (rv 0) (re_str) (fun _ _ => rfl)) (rv 1))))))
theorem d_l_note (T : Fx K mg cn) : DefM P w K mg base cn 1 T.a_l_note 5 [] f_l_note := defM0 (ps := ["_law_world", "_law_name_here", "_law_pack", "_law_outer", "_law_ups"]) (fnM T.F_l_note sc_l_note (b_l_note T)) (T.F_l_note.binds (ps := ["_law_world", "_law_name_here", "_law_pack", "_law_outer", "_law_ups"]) fun _ _ _ _ _ _ us hl => match us, hl with | [_, _, _, _, _], _ => rfl) T.F_l_note.kp
theorem b_l_add_class (T : Fx K mg cn) : BodyM P w K mg base cn 31 ["_law_script", "_law_world", "_law_library", "_law_k", "_law_picks", "_law_name_here", "_law_rank", "_law_outer", "_law_pack", "_law_ups", "_law_pick"] "_law_add_class" (defScope s_l_add_class) T.a_l_add_class (defBody s_l_add_class) m_l_add_class := fun cdv A outer s H E hr => by
  have F : Fit (cxE P w K mg base ["_law_script", "_law_world", "_law_library", "_law_k", "_law_picks", "_law_name_here", "_law_rank", "_law_outer", "_law_pack", "_law_ups", "_law_pick"] "_law_add_class" (defScope s_l_add_class) T.a_l_add_class cdv A outer s H E) (fun cls d _ H => E cls d H) := fit_cx
  have nd := sc_l_add_class.nd
  exact (rss_cons (rs_set (i := 4) nd rfl (Or.inl rfl) (re_call F (d_l_digits T) (hr.mono (by decide : 1 ≤ 31)) (by rfl) T.m_l_digits (ra_cons (rv 0) (ra_cons (re_plus re_int (rv 3)) (ra_cons (re_lst (ra_cons re_int (ra_cons re_int (ra_cons re_int (ra_cons re_int (ra_cons re_int (ra_cons re_int ra_nil))))))) ra_nil)))))
  (rss_cons (rs_set (i := 5) nd rfl (Or.inl rfl) (re_call F (d_l_name T) (hr.mono (by decide : 1 ≤ 31)) (by rfl) T.m_l_name (ra_cons (re_sub (hu1 hr) (re_sub (hu1 hr) (rv 1) (re_str) (fun _ _ => rfl)) re_int (fun _ _ => rfl)) (ra_cons (rv 3) ra_nil))))
  (rss_cons (rs_set (i := 6) nd rfl (Or.inl rfl) (re_sub (hu1 hr) (re_sub (hu1 hr) (rv 1) (re_str) (fun _ _ => rfl)) (re_mod (re_sub (hu1 hr) (rv 4) re_int (fun _ _ => rfl)) (re_len (by rfl) T.g_len (re_sub (hu1 hr) (rv 1) (re_str) (fun _ _ => rfl)))) (fun _ _ => rfl)))
  (rss_cons (rs_set (i := 7) nd rfl (Or.inl rfl) re_non)
  (rss_cons (rs_set (i := 8) nd rfl (Or.inl rfl) (re_sub (hu1 hr) (re_sub (hu1 hr) (rv 1) (re_str) (fun _ _ => rfl)) (re_mod (re_sub (hu1 hr) (rv 4) re_int (fun _ _ => rfl)) (re_len (by rfl) T.g_len (re_sub (hu1 hr) (rv 1) (re_str) (fun _ _ => rfl)))) (fun _ _ => rfl)))
  (rss_cons (rs_set (i := 9) nd rfl (Or.inl rfl) (re_lst ra_nil))
  (rss_cons (rs_for F.pw F.calm (ri_seq (re_slice (rv 4) (rp_int re_int) (rp_int re_int))) (rg_name (i := 10) nd rfl (Or.inl rfl)) (rss_one (rs_if (rt_w (rw_and (rt_lt  (rv 10) (rv 3)) (rw_and1 (rt_not (rt_val (re_call F (d_l_joins T) (hr.mono (by decide : 31 ≤ 31)) (by rfl) T.m_l_joins (ra_cons (rv 1) (ra_cons (rv 9) (ra_cons (re_sub (hu1 hr) (re_sub (hu1 hr) (rv 1) (re_str) (fun _ _ => rfl)) (rv 10) (fun _ _ => rfl)) ra_nil))))))))) (rss_one (rs_expr (re_app (rv 9) (ra_cons (re_sub (hu1 hr) (re_sub (hu1 hr) (rv 1) (re_str) (fun _ _ => rfl)) (rv 10) (fun _ _ => rfl)) ra_nil)))) rss_nil)))
  (rss_cons (rs_if (rt_w (rw_and (rt_eq (hu64 hr) (re_sub (hu1 hr) (rv 4) re_int (fun _ _ => rfl)) re_int) (rw_and1 (rt_gt  (rv 3) re_int)))) (rss_cons (rs_set (i := 7) nd rfl (Or.inl rfl) (re_sub (hu1 hr) (re_sub (hu1 hr) (rv 1) (re_str) (fun _ _ => rfl)) (re_mod (re_sub (hu1 hr) (rv 4) re_int (fun _ _ => rfl)) (rv 3)) (fun _ _ => rfl)))
  (rss_cons (rs_set (i := 8) nd rfl (Or.inl rfl) (re_sub (hu1 hr) (re_sub (hu1 hr) (rv 1) (re_str) (fun _ _ => rfl)) (rv 7) (fun _ _ => rfl)))
  (rss_one (rs_expr (re_methK F T.me_Library_add_class (d_Library_add_class_2_maker_inside_bases T) (hr.mono (by decide : 8 ≤ 31)) (rv 2) (ra_cons (rv 5) ra_nil) (rk_cons (rv 6) (rk_cons (rv 7) (rk_cons (re_tuple (by rfl) T.g_tuple (rv 9)) rk_nil)))))))) (rss_one (rs_expr (re_methK F T.me_Library_add_class (d_Library_add_class_2_maker_package_bases T) (hr.mono (by decide : 8 ≤ 31)) (rv 2) (ra_cons (rv 5) ra_nil) (rk_cons (rv 6) (rk_cons (rv 8) (rk_cons (re_tuple (by rfl) T.g_tuple (rv 9)) rk_nil)))))))
  (rss_cons (rs_asg (rv 6) (rg_sub (hu1 hr) (re_sub (hu1 hr) (rv 1) (re_str) (fun _ _ => rfl)) (re_tup (ra_cons (rv 5) (ra_cons (re_str) (ra_cons (re_str) ra_nil))))))
  (rss_cons (rs_expr (re_app (re_sub (hu1 hr) (rv 1) (re_str) (fun _ _ => rfl)) (ra_cons (rv 5) ra_nil)))
  (rss_one (rs_expr (re_call F (d_l_note T) (hr.mono (by decide : 1 ≤ 31)) (by rfl) T.m_l_note (ra_cons (rv 1) (ra_cons (rv 5) (ra_cons (rv 8) (ra_cons (rv 7) (ra_cons (rv 9) ra_nil))))))))))))))))))
theorem d_l_add_class (T : Fx K mg cn) : DefM P w K mg base cn 32 T.a_l_add_class 4 [] f_l_add_class := defM0 (ps := ["_law_script", "_law_world", "_law_library", "_law_k"]) (fnM T.F_l_add_class sc_l_add_class (b_l_add_class T)) (T.F_l_add_class.binds (ps := ["_law_script", "_law_world", "_law_library", "_law_k"]) fun _ _ _ _ _ _ us hl => match us, hl with | [_, _, _, _], _ => rfl) T.F_l_add_class.kp
theorem b_l_add_member (T : Fx K mg cn) : BodyM P w K mg base cn 30 ["_law_script", "_law_world", "_law_library", "_law_k", "_law_picks", "_law_owner_here", "_law_name_here", "_law_brand", "_law_rank", "_law_other", "_law_again_here", "_law_x"] "_law_add_member" (defScope s_l_add_member) T.a_l_add_member (defBody s_l_add_member) m_l_add_member := fun cdv A outer s H E hr => by
  have F : Fit (cxE P w K mg base ["_law_script", "_law_world", "_law_library", "_law_k", "_law_picks", "_law_owner_here", "_law_name_here", "_law_brand", "_law_rank", "_law_other", "_law_again_here", "_law_x"] "_law_add_member" (defScope s_l_add_member) T.a_l_add_member cdv A outer s H E) (fun cls d _ H => E cls d H) := fit_cx
  have nd := sc_l_add_member.nd
  exact (rss_cons (rs_set (i := 4) nd rfl (Or.inl rfl) (re_call F (d_l_digits T) (hr.mono (by decide : 1 ≤ 30)) (by rfl) T.m_l_digits (ra_cons (rv 0) (ra_cons (re_plus re_int (rv 3)) (ra_cons (re_lst (ra_cons re_int (ra_cons re_int (ra_cons re_int (ra_cons re_int (ra_cons re_int (ra_cons re_int ra_nil))))))) ra_nil)))))
  (rss_cons (rs_set (i := 5) nd rfl (Or.inr rfl) (re_sub (hu1 hr) (re_sub (hu1 hr) (rv 1) (re_str) (fun _ _ => rfl)) (re_mod (re_sub (hu1 hr) (rv 4) re_int (fun _ _ => rfl)) (re_len (by rfl) T.g_len (re_sub (hu1 hr) (rv 1) (re_str) (fun _ _ => rfl)))) (fun _ _ => rfl)))
  (rss_cons (rs_set (i := 6) nd rfl (Or.inl rfl) (re_call F (d_l_name T) (hr.mono (by decide : 1 ≤ 30)) (by rfl) T.m_l_name (ra_cons (re_sub (hu1 hr) (re_sub (hu1 hr) (rv 1) (re_str) (fun _ _ => rfl)) re_int (fun _ _ => rfl)) (ra_cons (rv 3) ra_nil))))
  (rss_cons (rs_set (i := 7) nd rfl (Or.inl rfl) (re_sub (hu1 hr) (re_lst (ra_cons (re_str) (ra_cons (re_str) (ra_cons (re_str) (ra_cons (re_str) ra_nil))))) (re_sub (hu1 hr) (rv 4) re_int (fun _ _ => rfl)) (fun _ _ => rfl)))
  (rss_cons (rs_set (i := 8) nd rfl (Or.inl rfl) (re_sub (hu1 hr) (re_sub (hu1 hr) (rv 1) (re_str) (fun _ _ => rfl)) (re_mod (re_sub (hu1 hr) (rv 4) re_int (fun _ _ => rfl)) (re_len (by rfl) T.g_len (re_sub (hu1 hr) (rv 1) (re_str) (fun _ _ => rfl)))) (fun _ _ => rfl)))
  (rss_cons (rs_set (i := 9) nd rfl (Or.inl rfl) (re_sub (hu1 hr) (re_sub (hu1 hr) (rv 1) (re_str) (fun _ _ => rfl)) (re_mod (re_sub (hu1 hr) (rv 4) re_int (fun _ _ => rfl)) (re_len (by rfl) T.g_len (re_sub (hu1 hr) (rv 1) (re_str) (fun _ _ => rfl)))) (fun _ _ => rfl)))
  (rss_cons (rs_lock (mOp fSubs (mV 1) (mC (.str "root"))) (rs_setLc (i := 10) (own := [("_law_x", 11)]) (t := (.one 11)) F.calm nd rfl rfl rfl (ri_keys (re_sub (hu1 hr) (rv 1) (re_str) (fun _ _ => rfl))) (blkOk_by (own := [("_law_x", 11)]) (N := ["_law_script", "_law_world", "_law_library", "_law_k", "_law_picks", "_law_owner_here", "_law_name_here", "_law_brand", "_law_rank", "_law_other", "_law_again_here", "_law_x"]) (sc := defScope s_l_add_member) (by decide +kernel)) (by decide) (fun _ _ _ _ _ => pg_name (i := 11) nd rfl (Or.inl rfl)) (fun _ _ _ _ _ => (rts_one (rt_w (rw_and (rt_eq (hu64 hr) (re_sub (hu1 hr) (re_sub (hu1 hr) (rv 1) (re_str) (fun _ _ => rfl)) (rv 11) (fun _ _ => rfl)) (re_str)) (rw_and1 (rt_notIn (hu65 hr) (re_tup (ra_cons (rv 5) (ra_cons (rv 11) ra_nil))) (re_sub (hu1 hr) (rv 1) (re_str) (fun _ _ => rfl)))))))) (fun _ _ _ _ _ => (rv 11))))
  (rss_cons (rs_setLc (i := 10) (own := [("_law_x", 11)]) (t := (.one 11)) F.calm nd rfl rfl rfl (ri_seq (rv 10)) (blkOk_by (own := [("_law_x", 11)]) (N := ["_law_script", "_law_world", "_law_library", "_law_k", "_law_picks", "_law_owner_here", "_law_name_here", "_law_brand", "_law_rank", "_law_other", "_law_again_here", "_law_x"]) (sc := defScope s_l_add_member) (by decide +kernel)) (by decide) (fun _ _ _ _ _ => pg_name (i := 11) nd rfl (Or.inl rfl)) (fun _ _ _ _ _ => (rts_one (rt_in (hu65 hr) (re_sub (hu1 hr) (re_sub (hu1 hr) (rv 1) (re_str) (fun _ _ => rfl)) (rv 11) (fun _ _ => rfl)) (re_call F.blk (d_l_up T) (hr.mono (by decide : 30 ≤ 30)) (by rfl) T.m_l_up (ra_cons (rv 1) (ra_cons (rv 5) ra_nil)))))) (fun _ _ _ _ _ => (rv 11)))
  (rss_cons (rs_if (rt_w (rw_and (rt_eq (hu64 hr) (re_sub (hu1 hr) (rv 4) re_int (fun _ _ => rfl)) re_int) (rw_and1 (rt_gt  (re_len (by rfl) T.g_len (rv 10)) re_int)))) (rss_cons (rs_set (i := 6) nd rfl (Or.inl rfl) (re_sub (hu1 hr) (rv 10) (re_mod (re_sub (hu1 hr) (rv 4) re_int (fun _ _ => rfl)) (re_len (by rfl) T.g_len (rv 10))) (fun _ _ => rfl)))
  (rss_one (rs_set (i := 7) nd rfl (Or.inl rfl) (re_str)))) (rss_cons (rs_asg (rv 5) (rg_sub (hu1 hr) (re_sub (hu1 hr) (rv 1) (re_str) (fun _ _ => rfl)) (rv 6)))
  (rss_one (rs_asg (rv 7) (rg_sub (hu1 hr) (re_sub (hu1 hr) (rv 1) (re_str) (fun _ _ => rfl)) (rv 6))))))
  (rss_cons (rs_expr (re_app (re_sub (hu1 hr) (rv 1) (re_str) (fun _ _ => rfl)) (ra_cons (re_tup (ra_cons (rv 5) (ra_cons (rv 6) ra_nil))) ra_nil)))
  (rss_one (rs_if (rt_eq (hu64 hr) (rv 7) (re_str)) (rss_cons (rs_expr (re_methK F T.me_Library_add_member (d_Library_add_member_3_kind_level_write T) (hr.mono (by decide : 5 ≤ 30)) (rv 2) (ra_cons (rv 5) (ra_cons (rv 6) ra_nil)) (rk_cons (re_str) (rk_cons (rv 8) (rk_cons (rv 9) rk_nil)))))
  (rss_cons (rs_asg (rv 8) (rg_sub (hu1 hr) (re_sub (hu1 hr) (rv 1) (re_str) (fun _ _ => rfl)) (re_tup (ra_cons (rv 5) (ra_cons (rv 6) (ra_cons (re_str) ra_nil))))))
  (rss_one (rs_asg (rv 9) (rg_sub (hu1 hr) (re_sub (hu1 hr) (rv 1) (re_str) (fun _ _ => rfl)) (re_tup (ra_cons (rv 5) (ra_cons (rv 6) (ra_cons (re_str) ra_nil))))))))) (rss_cons (rs_expr (re_methK F T.me_Library_add_member (d_Library_add_member_3_kind_level T) (hr.mono (by decide : 5 ≤ 30)) (rv 2) (ra_cons (rv 5) (ra_cons (rv 6) ra_nil)) (rk_cons (rv 7) (rk_cons (rv 8) rk_nil))))
  (rss_one (rs_asg (rv 8) (rg_sub (hu1 hr) (re_sub (hu1 hr) (rv 1) (re_str) (fun _ _ => rfl)) (re_tup (ra_cons (rv 5) (ra_cons (rv 6) (ra_cons (re_str) ra_nil))))))))))))))))))))
theorem d_l_add_member (T : Fx K mg cn) : DefM P w K mg base cn 31 T.a_l_add_member 4 [] f_l_add_member := defM0 (ps := ["_law_script", "_law_world", "_law_library", "_law_k"]) (fnM T.F_l_add_member sc_l_add_member (b_l_add_member T)) (T.F_l_add_member.binds (ps := ["_law_script", "_law_world", "_law_library", "_law_k"]) fun _ _ _ _ _ _ us hl => match us, hl with | [_, _, _, _], _ => rfl) T.F_l_add_member.kp
theorem b_l_ground (T : Fx K mg cn) : BodyM P w K mg base cn 32 ["_law_script", "_law_library", "_law_caps", "_law_sizes", "_law_picks", "_law_world", "_law_k", "_law_shut", "_law_pack"] "_law_ground" (defScope s_l_ground) T.a_l_ground (defBody s_l_ground) m_l_ground := fun cdv A outer s H E hr => by
  have F : Fit (cxE P w K mg base ["_law_script", "_law_library", "_law_caps", "_law_sizes", "_law_picks", "_law_world", "_law_k", "_law_shut", "_law_pack"] "_law_ground" (defScope s_l_ground) T.a_l_ground cdv A outer s H E) (fun cls d _ H => E cls d H) := fit_cx
  have nd := sc_l_ground.nd
  exact (rss_cons (rs_set (i := 3) nd rfl (Or.inl rfl) (re_plus (re_slice (rv 2) rp_no (rp_int re_int)) (re_lst (ra_cons (re_plus (re_sub (hu1 hr) (rv 2) re_int (fun _ _ => rfl)) re_int) (ra_cons (re_plus (re_sub (hu1 hr) (rv 2) re_int (fun _ _ => rfl)) re_int) (ra_cons re_int (ra_cons re_int (ra_cons re_int (ra_cons re_int ra_nil)))))))))
  (rss_cons (rs_set (i := 4) nd rfl (Or.inr rfl) (re_call F (d_l_digits T) (hr.mono (by decide : 1 ≤ 32)) (by rfl) T.m_l_digits (ra_cons (rv 0) (ra_cons re_int (ra_cons (rv 3) ra_nil)))))
  (rss_cons (rs_set (i := 5) nd rfl (Or.inr rfl) (re_disp (.cons (re_str) (re_lst ra_nil) (.cons (re_str) re_dict0 (.cons (re_str) re_dict0 (.cons (re_str) re_dict0 (.cons (re_str) (re_lst ra_nil) (.cons (re_str) re_dict0 (.cons (re_str) re_dict0 (.cons (re_str) re_dict0 (.nil))))))))) (fun z => by cases z) (by decide)))
  (rss_cons (rs_asg (re_lst ra_nil) (rg_sub (hu1 hr) (rv 5) (re_str)))
  (rss_cons (rs_asg (re_lst ra_nil) (rg_sub (hu1 hr) (rv 5) (re_str)))
  (rss_cons (rs_asg re_dict0 (rg_sub (hu1 hr) (rv 5) (re_str)))
  (rss_cons (rs_asg (re_slice (rv 4) (rp_int re_int) rp_no) (rg_sub (hu1 hr) (rv 5) (re_str)))
  (rss_cons (rs_asg (re_lc (own := [("_law_k", 6)]) (t := (.one 6)) F.calm nd (ri_range1 (by rfl) T.g_range (re_plus re_int (re_sub (hu1 hr) (rv 4) re_int (fun _ _ => rfl)))) (blkOk_by (own := [("_law_k", 6)]) (N := ["_law_script", "_law_library", "_law_caps", "_law_sizes", "_law_picks", "_law_world", "_law_k", "_law_shut", "_law_pack"]) (sc := defScope s_l_ground) (by decide +kernel)) (by decide) (fun _ _ _ _ _ => pg_name (i := 6) nd rfl (Or.inl rfl)) (fun _ _ _ _ _ => rts_nil) (fun _ _ _ _ _ => (re_call F.blk (d_l_name T) (hr.mono (by decide : 1 ≤ 32)) (by rfl) T.m_l_name (ra_cons (re_sub (hu1 hr) (rv 4) re_int (fun _ _ => rfl)) (ra_cons (rv 6) ra_nil))))) (rg_sub (hu1 hr) (rv 5) (re_str)))
  (rss_cons (rs_for F.pw F.calm (ri_range1 (by rfl) T.g_range (re_plus re_int (re_sub (hu1 hr) (rv 4) re_int (fun _ _ => rfl)))) (rg_name (i := 6) nd rfl (Or.inl rfl)) (rss_one (rs_asg (re_call F (d_l_products T) (hr.mono (by decide : 2 ≤ 32)) (by rfl) T.m_l_products (ra_cons (rv 0) (ra_cons (re_plus re_int (rv 6)) ra_nil))) (rg_sub (hu1 hr) (re_sub (hu1 hr) (rv 5) (re_str) (fun _ _ => rfl)) (re_sub (hu1 hr) (re_sub (hu1 hr) (rv 5) (re_str) (fun _ _ => rfl)) (rv 6) (fun _ _ => rfl))))))
  (rss_cons (rs_asg (re_lc (own := [("_law_k", 6)]) (t := (.one 6)) F.calm nd (ri_range1 (by rfl) T.g_range (re_plus re_int (re_sub (hu1 hr) (rv 4) re_int (fun _ _ => rfl)))) (blkOk_by (own := [("_law_k", 6)]) (N := ["_law_script", "_law_library", "_law_caps", "_law_sizes", "_law_picks", "_law_world", "_law_k", "_law_shut", "_law_pack"]) (sc := defScope s_l_ground) (by decide +kernel)) (by decide) (fun _ _ _ _ _ => pg_name (i := 6) nd rfl (Or.inl rfl)) (fun _ _ _ _ _ => rts_nil) (fun _ _ _ _ _ => (re_call F.blk (d_l_name T) (hr.mono (by decide : 1 ≤ 32)) (by rfl) T.m_l_name (ra_cons (re_sub (hu1 hr) (rv 4) re_int (fun _ _ => rfl)) (ra_cons (rv 6) ra_nil))))) (rg_sub (hu1 hr) (rv 5) (re_str)))
  (rss_cons (rs_set (i := 7) nd rfl (Or.inr rfl) (re_call F (d_l_digits T) (hr.mono (by decide : 1 ≤ 32)) (by rfl) T.m_l_digits (ra_cons (rv 0) (ra_cons re_int (ra_cons (re_lst (ra_cons re_int (ra_cons re_int (ra_cons re_int (ra_cons re_int ra_nil))))) ra_nil)))))
  (rss_cons (rs_asg (re_lc (own := [("_law_k", 6)]) (t := (.one 6)) F.calm nd (ri_range1 (by rfl) T.g_range (re_plus re_int (re_sub (hu1 hr) (rv 4) re_int (fun _ _ => rfl)))) (blkOk_by (own := [("_law_k", 6)]) (N := ["_law_script", "_law_library", "_law_caps", "_law_sizes", "_law_picks", "_law_world", "_law_k", "_law_shut", "_law_pack"]) (sc := defScope s_l_ground) (by decide +kernel)) (by decide) (fun _ _ _ _ _ => pg_name (i := 6) nd rfl (Or.inl rfl)) (fun _ _ _ _ _ => (rts_one (rt_eq (hu64 hr) (re_sub (hu1 hr) (rv 7) (rv 6) (fun _ _ => rfl)) re_int))) (fun _ _ _ _ _ => (re_sub (hu1 hr) (re_sub (hu1 hr) (rv 5) (re_str) (fun _ _ => rfl)) (rv 6) (fun _ _ => rfl)))) (rg_sub (hu1 hr) (rv 5) (re_str)))
  (rss_cons (rs_for F.pw F.calm (ri_seq (re_sub (hu1 hr) (rv 5) (re_str) (fun _ _ => rfl))) (rg_name (i := 8) nd rfl (Or.inl rfl)) (rss_one (rs_expr (re_methK F T.me_Packages_add_package (d_Packages_add_package_2_sealed T) (hr.mono (by decide : 4 ≤ 32)) (rv 1) (ra_cons (rv 8) ra_nil) (rk_cons (re_in (hu65 hr) (rv 8) (re_sub (hu1 hr) (rv 5) (re_str) (fun _ _ => rfl))) rk_nil)))))
  (rss_cons (rs_for F.pw F.calm (ri_range1 (by rfl) T.g_range (re_plus re_int (re_sub (hu1 hr) (rv 4) re_int (fun _ _ => rfl)))) (rg_name (i := 6) nd rfl (Or.inl rfl)) (rss_one (rs_expr (re_call F (d_l_add_class T) (hr.mono (by decide : 32 ≤ 32)) (by rfl) T.m_l_add_class (ra_cons (rv 0) (ra_cons (rv 5) (ra_cons (rv 1) (ra_cons (rv 6) ra_nil))))))))
  (rss_cons (rs_for F.pw F.calm (ri_range1 (by rfl) T.g_range (re_sub (hu1 hr) (rv 4) re_int (fun _ _ => rfl))) (rg_name (i := 6) nd rfl (Or.inl rfl)) (rss_one (rs_expr (re_call F (d_l_add_member T) (hr.mono (by decide : 31 ≤ 32)) (by rfl) T.m_l_add_member (ra_cons (rv 0) (ra_cons (rv 5) (ra_cons (rv 1) (ra_cons (rv 6) ra_nil))))))))
  (rss_cons (rs_for F.pw F.calm (ri_range1 (by rfl) T.g_range (re_sub (hu1 hr) (rv 4) re_int (fun _ _ => rfl))) (rg_name (i := 6) nd rfl (Or.inl rfl)) (rss_one (rs_expr (re_call F (d_l_add_use T) (hr.mono (by decide : 1 ≤ 32)) (by rfl) T.m_l_add_use (ra_cons (rv 0) (ra_cons (rv 5) (ra_cons (rv 1) (ra_cons (rv 6) ra_nil))))))))
  (rss_one (rs_ret (rv 5)))))))))))))))))))
theorem d_l_ground (T : Fx K mg cn) : DefM P w K mg base cn 33 T.a_l_ground 3 [] f_l_ground := defM0 (ps := ["_law_script", "_law_library", "_law_caps"]) (fnM T.F_l_ground sc_l_ground (b_l_ground T)) (T.F_l_ground.binds (ps := ["_law_script", "_law_library", "_law_caps"]) fun _ _ _ _ _ _ us hl => match us, hl with | [_, _, _], _ => rfl) T.F_l_ground.kp
theorem b_l_bag (T : Fx K mg cn) : BodyM P w K mg base cn 1 ["_law_told", "_law_due"] "_law_bag" (defScope s_l_bag) T.a_l_bag (defBody s_l_bag) m_l_bag := fun cdv A outer s H E hr => by
  have F : Fit (cxE P w K mg base ["_law_told", "_law_due"] "_law_bag" (defScope s_l_bag) T.a_l_bag cdv A outer s H E) (fun cls d _ H => E cls d H) := fit_cx
  have nd := sc_l_bag.nd
  exact (rss_cons (rs_if (rt_w (rw_or (rt_not (rt_val (re_isi (T := .lst) rfl (by rfl) T.g_isinstance (by rfl) T.g_list PyProof.Rows.boot_list (rv 0)))) (rw_or1 (rt_ne (hu64 hr) (re_len (by rfl) T.g_len (rv 0)) (re_len (by rfl) T.g_len (rv 1)))))) (rss_one (rs_ret re_bl)) rss_nil)
  (rss_one (rs_ret (re_and (re_call F (d_l_inside T) (hr.mono (by decide : 1 ≤ 1)) (by rfl) T.m_l_inside (ra_cons (rv 0) (ra_cons (rv 1) ra_nil))) (re_one (re_call F (d_l_inside T) (hr.mono (by decide : 1 ≤ 1)) (by rfl) T.m_l_inside (ra_cons (rv 1) (ra_cons (rv 0) ra_nil))))))))
theorem d_l_bag (T : Fx K mg cn) : DefM P w K mg base cn 2 T.a_l_bag 2 [] f_l_bag := defM0 (ps := ["_law_told", "_law_due"]) (fnM T.F_l_bag sc_l_bag (b_l_bag T)) (T.F_l_bag.binds (ps := ["_law_told", "_law_due"]) fun _ _ _ _ _ _ us hl => match us, hl with | [_, _], _ => rfl) T.F_l_bag.kp
theorem b_l_again (T : Fx K mg cn) : BodyM P w K mg base cn 31 ["_law_world", "_law_library", "_law_mark", "_law_through", "_law_name_here"] "_law_again" (defScope s_l_again) T.a_l_again (defBody s_l_again) m_l_again := fun cdv A outer s H E hr => by
  have F : Fit (cxE P w K mg base ["_law_world", "_law_library", "_law_mark", "_law_through", "_law_name_here"] "_law_again" (defScope s_l_again) T.a_l_again cdv A outer s H E) (fun cls d _ H => E cls d H) := fit_cx
  have nd := sc_l_again.nd
  exact (rss_cons (rs_if (rt_w (rw_or (rt_ne (hu64 hr) (re_pr F T.pr_Lineage_classes (d_Lineage_classes T) (hr.mono (by decide : 2 ≤ 31)) (rv 1)) (re_sub (hu1 hr) (rv 0) (re_str) (fun _ _ => rfl))) (rw_or1 (rt_not (rt_val (re_call F (d_l_bag T) (hr.mono (by decide : 2 ≤ 31)) (by rfl) T.m_l_bag (ra_cons (re_pr F T.pr_Library_marks (d_Library_marks T) (hr.mono (by decide : 2 ≤ 31)) (rv 1)) (ra_cons (re_listc F.calm (by rfl) T.g_list (re_sub (hu1 hr) (rv 0) (re_str) (fun _ _ => rfl))) ra_nil)))))))) (rss_one (rs_ret re_bl)) rss_nil)
  (rss_cons (rs_lock (mOp fSubs (mV 0) (mC (.str "mark"))) (rs_for F.pw F.calm (ri_keys (re_sub (hu1 hr) (rv 0) (re_str) (fun _ _ => rfl))) (rg_name (i := 2) nd rfl (Or.inl rfl)) (rss_one (rs_if (rt_ne (hu64 hr) (re_meth F T.me_Library_level_of (d_Library_level_of T) (hr.mono (by decide : 4 ≤ 31)) (rv 1) (ra_cons (rv 2) ra_nil)) (re_sub (hu1 hr) (re_sub (hu1 hr) (rv 0) (re_str) (fun _ _ => rfl)) (rv 2) (fun _ _ => rfl))) (rss_one (rs_ret re_bl)) rss_nil))))
  (rss_cons (rs_for F.pw F.calm (ri_seq (re_sub (hu1 hr) (rv 0) (re_str) (fun _ _ => rfl))) (rg_name (i := 3) nd rfl (Or.inl rfl)) (rss_one (rs_lock (mOp fSubs (mV 0) (mC (.str "root"))) (rs_for F.pw F.calm (ri_keys (re_sub (hu1 hr) (rv 0) (re_str) (fun _ _ => rfl))) (rg_name (i := 4) nd rfl (Or.inl rfl)) (rss_one (rs_if (rt_ne (hu64 hr) (re_meth F T.me_Library_owner_of (d_Library_owner_of T) (hr.mono (by decide : 3 ≤ 31)) (rv 1) (ra_cons (rv 3) (ra_cons (rv 4) ra_nil))) (re_call F (d_l_owner T) (hr.mono (by decide : 31 ≤ 31)) (by rfl) T.m_l_owner (ra_cons (rv 0) (ra_cons (rv 3) (ra_cons (rv 4) ra_nil))))) (rss_one (rs_ret re_bl)) rss_nil))))))
  (rss_one (rs_ret re_bl)))))
theorem d_l_again (T : Fx K mg cn) : DefM P w K mg base cn 32 T.a_l_again 2 [] f_l_again := defM0 (ps := ["_law_world", "_law_library"]) (fnM T.F_l_again sc_l_again (b_l_again T)) (T.F_l_again.binds (ps := ["_law_world", "_law_library"]) fun _ _ _ _ _ _ us hl => match us, hl with | [_, _], _ => rfl) T.F_l_again.kp
theorem b_l_member_fault (T : Fx K mg cn) : BodyM P w K mg base cn 30 ["_law_world", "_law_owner_here", "_law_name_here", "_law_brand"] "_law_member_fault" (defScope s_l_member_fault) T.a_l_member_fault (defBody s_l_member_fault) m_l_member_fault := fun cdv A outer s H E hr => by
  have F : Fit (cxE P w K mg base ["_law_world", "_law_owner_here", "_law_name_here", "_law_brand"] "_law_member_fault" (defScope s_l_member_fault) T.a_l_member_fault cdv A outer s H E) (fun cls d _ H => E cls d H) := fit_cx
  have nd := sc_l_member_fault.nd
  exact (rss_cons (rs_if (rt_notIn (hu65 hr) (rv 1) (re_sub (hu1 hr) (rv 0) (re_str) (fun _ _ => rfl))) (rss_one (rs_ret (re_tup (ra_cons (re_str) (ra_cons re_non (ra_cons (rv 1) ra_nil)))))) rss_nil)
  (rss_cons (rs_if (rt_in (hu65 hr) (re_tup (ra_cons (rv 1) (ra_cons (rv 2) ra_nil))) (re_sub (hu1 hr) (rv 0) (re_str) (fun _ _ => rfl))) (rss_one (rs_ret (re_tup (ra_cons (re_str) (ra_cons re_non (ra_cons (rv 2) ra_nil)))))) rss_nil)
  (rss_cons (rs_if (rt_eq (hu64 hr) (rv 2) (re_str)) (rss_one (rs_ret (re_tup (ra_cons (re_str) (ra_cons re_non (ra_cons (rv 2) ra_nil)))))) rss_nil)
  (rss_cons (rs_if (rt_in (hu65 hr) (rv 2) (re_sub (hu1 hr) (rv 0) (re_str) (fun _ _ => rfl))) (rss_one (rs_if (rt_w (rw_or (rt_ne (hu64 hr) (rv 3) (re_str)) (rw_or (rt_ne (hu64 hr) (re_sub (hu1 hr) (re_sub (hu1 hr) (rv 0) (re_str) (fun _ _ => rfl)) (rv 2) (fun _ _ => rfl)) (re_str)) (rw_or1 (rt_notIn (hu65 hr) (re_sub (hu1 hr) (re_sub (hu1 hr) (rv 0) (re_str) (fun _ _ => rfl)) (rv 2) (fun _ _ => rfl)) (re_call F (d_l_up T) (hr.mono (by decide : 30 ≤ 30)) (by rfl) T.m_l_up (ra_cons (rv 0) (ra_cons (rv 1) ra_nil)))))))) (rss_one (rs_ret (re_tup (ra_cons (re_str) (ra_cons re_non (ra_cons (rv 2) ra_nil)))))) rss_nil)) rss_nil)
  (rss_one (rs_ret (re_str)))))))
theorem d_l_member_fault (T : Fx K mg cn) : DefM P w K mg base cn 31 T.a_l_member_fault 4 [] f_l_member_fault := defM0 (ps := ["_law_world", "_law_owner_here", "_law_name_here", "_law_brand"]) (fnM T.F_l_member_fault sc_l_member_fault (b_l_member_fault T)) (T.F_l_member_fault.binds (ps := ["_law_world", "_law_owner_here", "_law_name_here", "_law_brand"]) fun _ _ _ _ _ _ us hl => match us, hl with | [_, _, _, _], _ => rfl) T.F_l_member_fault.kp
theorem b_l_try (T : Fx K mg cn) : BodyM P w K mg base cn 5 ["_law_library", "_law_owner_here", "_law_name_here", "_law_brand", "_law_rank", "_law_other", "e"] "_law_try" (defScope s_l_try) T.a_l_try (defBody s_l_try) m_l_try := fun cdv A outer s H E hr => by
  have F : Fit (cxE P w K mg base ["_law_library", "_law_owner_here", "_law_name_here", "_law_brand", "_law_rank", "_law_other", "e"] "_law_try" (defScope s_l_try) T.a_l_try cdv A outer s H E) (fun cls d _ H => E cls d H) := fit_cx
  have nd := sc_l_try.nd
  exact (rss_cons (rs_tryL (es := errsL) F rfl rfl nd (fun W pn xe F => (rss_one (rs_if (rt_w (rw_and (rt_eq (hu64 hr) (rv 3) (re_str)) (rw_and1 (rt_ne (hu64 hr) (rv 5) (rv 4))))) (rss_one (rs_expr (re_methK F T.me_Library_add_member (d_Library_add_member_3_kind_level_write T) (hr.mono (by decide : 5 ≤ 5)) (rv 0) (ra_cons (rv 1) (ra_cons (rv 2) ra_nil)) (rk_cons (re_str) (rk_cons (rv 4) (rk_cons (rv 5) rk_nil)))))) (rss_one (rs_expr (re_methK F T.me_Library_add_member (d_Library_add_member_3_kind_level T) (hr.mono (by decide : 5 ≤ 5)) (rv 0) (ra_cons (rv 1) (ra_cons (rv 2) ra_nil)) (rk_cons (rv 3) (rk_cons (rv 4) rk_nil)))))))) (.named (c := "Unknown") (i := 6) rfl (by rfl) ⟨⟨by rfl, by decide, .inl T.c_Unknown⟩, T.ex_Unknown⟩ (fun a oe cls d pn hz hf => rsx_ret (rex_tup (rax_cons (rex_of (re_str)) (rax_cons (rex_fld T.xf_row hz hf rfl (Or.inl rfl)) (rax_cons (rex_fld T.xf_what hz hf rfl (Or.inl rfl)) rax_nil))))) (.named (c := "Taken") (i := 6) rfl (by rfl) ⟨⟨by rfl, by decide, .inl T.c_Taken⟩, T.ex_Taken⟩ (fun a oe cls d pn hz hf => rsx_ret (rex_tup (rax_cons (rex_of (re_str)) (rax_cons (rex_fld T.xf_row hz hf rfl (Or.inl rfl)) (rax_cons (rex_fld T.xf_what hz hf rfl (Or.inl rfl)) rax_nil))))) (.named (c := "Misfit") (i := 6) rfl (by rfl) ⟨⟨by rfl, by decide, .inl T.c_Misfit⟩, T.ex_Misfit⟩ (fun a oe cls d pn hz hf => rsx_ret (rex_tup (rax_cons (rex_of (re_str)) (rax_cons (rex_fld T.xf_row hz hf rfl (Or.inl rfl)) (rax_cons (rex_fld T.xf_what hz hf rfl (Or.inl rfl)) rax_nil))))) (.nil)))))
  (rss_one (rs_ret (re_str))))
theorem d_l_try (T : Fx K mg cn) : DefM P w K mg base cn 6 T.a_l_try 6 [] f_l_try := defM0 (ps := ["_law_library", "_law_owner_here", "_law_name_here", "_law_brand", "_law_rank", "_law_other"]) (fnM T.F_l_try sc_l_try (b_l_try T)) (T.F_l_try.binds (ps := ["_law_library", "_law_owner_here", "_law_name_here", "_law_brand", "_law_rank", "_law_other"]) fun _ _ _ _ _ _ us hl => match us, hl with | [_, _, _, _, _, _], _ => rfl) T.F_l_try.kp
theorem b_law (T : Fx K mg cn) {a_law : Addr} : BodyM P w K mg base cn 33 ["_law_script", "_law_library", "_law_world", "_law_k", "_law_picks", "_law_owners", "_law_owner_here", "_law_name_here", "_law_brand", "_law_rank", "_law_other", "_law_due", "_law_j"] "law" (defScope s_law) a_law (defBody s_law) m_law := fun cdv A outer s H E hr => by
  have F : Fit (cxE P w K mg base ["_law_script", "_law_library", "_law_world", "_law_k", "_law_picks", "_law_owners", "_law_owner_here", "_law_name_here", "_law_brand", "_law_rank", "_law_other", "_law_due", "_law_j"] "law" (defScope s_law) a_law cdv A outer s H E) (fun cls d _ H => E cls d H) := fit_cx
  have nd := sc_law.nd
  exact (rss_cons (rs_set (i := 1) nd rfl (Or.inl rfl) (re_make0 (c := "Library") F T.mk_Library (d_Library_init T) (hr.mono (by decide : 3 ≤ 33)) (by rfl) T.c_Library))
  (rss_cons (rs_set (i := 2) nd rfl (Or.inr rfl) (re_call F (d_l_ground T) (hr.mono (by decide : 33 ≤ 33)) (by rfl) T.m_l_ground (ra_cons (rv 0) (ra_cons (rv 1) (ra_cons (re_lst (ra_cons re_int (ra_cons re_int (ra_cons re_int (ra_cons re_int (ra_cons re_int ra_nil)))))) ra_nil)))))
  (rss_cons (rs_for F.pw F.calm (ri_range1 (by rfl) T.g_range re_int) (rg_name (i := 3) nd rfl (Or.inl rfl)) (rss_cons (rs_set (i := 4) nd rfl (Or.inl rfl) (re_call F (d_l_digits T) (hr.mono (by decide : 1 ≤ 33)) (by rfl) T.m_l_digits (ra_cons (rv 0) (ra_cons (re_plus re_int (rv 3)) (ra_cons (re_lst (ra_cons re_int (ra_cons re_int (ra_cons re_int (ra_cons re_int (ra_cons re_int ra_nil)))))) ra_nil)))))
  (rss_cons (rs_set (i := 5) nd rfl (Or.inl rfl) (re_plus (re_sub (hu1 hr) (rv 2) (re_str) (fun _ _ => rfl)) (re_lst (ra_cons (re_call F (d_l_name T) (hr.mono (by decide : 1 ≤ 33)) (by rfl) T.m_l_name (ra_cons (re_sub (hu1 hr) (re_sub (hu1 hr) (rv 2) (re_str) (fun _ _ => rfl)) re_int (fun _ _ => rfl)) (ra_cons re_int ra_nil))) ra_nil))))
  (rss_cons (rs_set (i := 6) nd rfl (Or.inl rfl) (re_sub (hu1 hr) (rv 5) (re_mod (re_sub (hu1 hr) (rv 4) re_int (fun _ _ => rfl)) (re_len (by rfl) T.g_len (rv 5))) (fun _ _ => rfl)))
  (rss_cons (rs_set (i := 7) nd rfl (Or.inl rfl) (re_sub (hu1 hr) (re_plus (re_lst (ra_cons (re_str) ra_nil)) (re_lc (own := [("_law_j", 12)]) (t := (.one 12)) F.calm nd (ri_range1 (by rfl) T.g_range re_int) (blkOk_by (own := [("_law_j", 12)]) (N := ["_law_script", "_law_library", "_law_world", "_law_k", "_law_picks", "_law_owners", "_law_owner_here", "_law_name_here", "_law_brand", "_law_rank", "_law_other", "_law_due", "_law_j"]) (sc := defScope s_law) (by decide +kernel)) (by decide) (fun _ _ _ _ _ => pg_name (i := 12) nd rfl (Or.inl rfl)) (fun _ _ _ _ _ => rts_nil) (fun _ _ _ _ _ => (re_call F.blk (d_l_name T) (hr.mono (by decide : 1 ≤ 33)) (by rfl) T.m_l_name (ra_cons (re_sub (hu1 hr) (re_sub (hu1 hr) (rv 2) (re_str) (fun _ _ => rfl)) re_int (fun _ _ => rfl)) (ra_cons (rv 12) ra_nil)))))) (re_sub (hu1 hr) (rv 4) re_int (fun _ _ => rfl)) (fun _ _ => rfl)))
  (rss_cons (rs_set (i := 8) nd rfl (Or.inl rfl) (re_sub (hu1 hr) (re_lst (ra_cons (re_str) (ra_cons (re_str) (ra_cons (re_str) (ra_cons (re_str) (ra_cons (re_str) ra_nil)))))) (re_sub (hu1 hr) (rv 4) re_int (fun _ _ => rfl)) (fun _ _ => rfl)))
  (rss_cons (rs_set (i := 9) nd rfl (Or.inl rfl) (re_sub (hu1 hr) (re_sub (hu1 hr) (rv 2) (re_str) (fun _ _ => rfl)) (re_mod (re_sub (hu1 hr) (rv 4) re_int (fun _ _ => rfl)) (re_len (by rfl) T.g_len (re_sub (hu1 hr) (rv 2) (re_str) (fun _ _ => rfl)))) (fun _ _ => rfl)))
  (rss_cons (rs_set (i := 10) nd rfl (Or.inl rfl) (re_sub (hu1 hr) (re_sub (hu1 hr) (rv 2) (re_str) (fun _ _ => rfl)) (re_mod (re_sub (hu1 hr) (rv 4) re_int (fun _ _ => rfl)) (re_len (by rfl) T.g_len (re_sub (hu1 hr) (rv 2) (re_str) (fun _ _ => rfl)))) (fun _ _ => rfl)))
  (rss_cons (rs_set (i := 11) nd rfl (Or.inl rfl) (re_call F (d_l_member_fault T) (hr.mono (by decide : 31 ≤ 33)) (by rfl) T.m_l_member_fault (ra_cons (rv 2) (ra_cons (rv 6) (ra_cons (rv 7) (ra_cons (rv 8) ra_nil))))))
  (rss_cons (rs_if (rt_ne (hu64 hr) (re_call F (d_l_try T) (hr.mono (by decide : 6 ≤ 33)) (by rfl) T.m_l_try (ra_cons (rv 1) (ra_cons (rv 6) (ra_cons (rv 7) (ra_cons (rv 8) (ra_cons (rv 9) (ra_cons (rv 10) ra_nil))))))) (rv 11)) (rss_one (rs_ret re_bl)) rss_nil)
  (rss_cons (rs_if (rt_eq (hu64 hr) (rv 11) (re_str)) (rss_cons (rs_expr (re_app (re_sub (hu1 hr) (rv 2) (re_str) (fun _ _ => rfl)) (ra_cons (re_tup (ra_cons (rv 6) (ra_cons (rv 7) ra_nil))) ra_nil)))
  (rss_cons (rs_if (rt_notIn (hu65 hr) (rv 7) (re_sub (hu1 hr) (rv 2) (re_str) (fun _ _ => rfl))) (rss_cons (rs_asg (rv 6) (rg_sub (hu1 hr) (re_sub (hu1 hr) (rv 2) (re_str) (fun _ _ => rfl)) (rv 7)))
  (rss_one (rs_asg (rv 8) (rg_sub (hu1 hr) (re_sub (hu1 hr) (rv 2) (re_str) (fun _ _ => rfl)) (rv 7))))) rss_nil)
  (rss_one (rs_if (rt_eq (hu64 hr) (rv 8) (re_str)) (rss_cons (rs_asg (rv 9) (rg_sub (hu1 hr) (re_sub (hu1 hr) (rv 2) (re_str) (fun _ _ => rfl)) (re_tup (ra_cons (rv 6) (ra_cons (rv 7) (ra_cons (re_str) ra_nil))))))
  (rss_one (rs_asg (rv 10) (rg_sub (hu1 hr) (re_sub (hu1 hr) (rv 2) (re_str) (fun _ _ => rfl)) (re_tup (ra_cons (rv 6) (ra_cons (rv 7) (ra_cons (re_str) ra_nil)))))))) (rss_one (rs_asg (rv 9) (rg_sub (hu1 hr) (re_sub (hu1 hr) (rv 2) (re_str) (fun _ _ => rfl)) (re_tup (ra_cons (rv 6) (ra_cons (rv 7) (ra_cons (re_str) ra_nil))))))))))) rss_nil)
  (rss_one (rs_if (rt_not (rt_val (re_call F (d_l_again T) (hr.mono (by decide : 32 ≤ 33)) (by rfl) T.m_l_again (ra_cons (rv 2) (ra_cons (rv 1) ra_nil))))) (rss_one (rs_ret re_bl)) rss_nil)))))))))))))
  (rss_one (rs_ret re_bl)))))
end
end My
namespace My
open PySem L2 RL
/-! the lineage -/
structure LE where
  nm : Str
  out : D
  ups : List Str
  ks : List Str
  rl : Nat
  ru : Nat
abbrev kt (ks : List Str) : List (Str × D) := ks.map fun k => (k, D.bl true)
theorem kt_keys (ks : List Str) : (kt ks).map (·.1) = ks := by simp [kt, List.map_map, Function.comp_def]
def findE (ls : List LE) (x : Str) : Option LE := ls.find? fun e => e.nm == x
def nmsOf (ls : List LE) : List Str := ls.map (·.nm)
def ksOf (ls : List LE) (x : Str) : List Str := match findE ls x with
  | some e => e.ks
  | none => []
theorem look_map (f : LE → D) (x : Str) : ∀ ls : List LE, (ls.map fun e => (e.nm, f e)).lookup x = (findE ls x).map f
  | [] => rfl
  | e :: ls => by
    show List.lookup x ((e.nm, f e) :: ls.map fun e => (e.nm, f e)) = _
    unfold findE
    by_cases h : e.nm = x
    · subst h
      simp [List.lookup, List.find?]
    · have h1 : (x == e.nm) = false := by simpa using fun z => h (Eq.symm z)
      have h2 : (e.nm == x) = false := by simpa using h
      simp only [List.lookup, h1, List.find?, h2]
      exact look_map f x ls
theorem keys_map (f : LE → D) (ls : List LE) : (ls.map fun e => (e.nm, f e)).map (·.1) = nmsOf ls := by simp [nmsOf, List.map_map, Function.comp_def]
theorem findE_mem {ls : List LE} {x : Str} {e : LE} (h : findE ls x = some e) : e ∈ ls ∧ e.nm = x := ⟨List.mem_of_find?_eq_some h, by simpa using List.find?_some h⟩
theorem findE_of {ls : List LE} {x : Str} (h : x ∈ nmsOf ls) : ∃ e, findE ls x = some e := by
  cases e : findE ls x with
  | some e' => exact ⟨e', rfl⟩
  | none =>
    obtain ⟨y, hy, rfl⟩ := List.mem_map.mp h
    have := List.find?_eq_none.mp e y hy
    simp at this
theorem findE_none {ls : List LE} {x : Str} (h : x ∉ nmsOf ls) : findE ls x = none := by
  cases e : findE ls x with
  | none => rfl
  | some e' => exact absurd (List.mem_map.mpr ⟨e', (findE_mem e).1, (findE_mem e).2⟩) h
theorem findE_app {ls m : List LE} {x : Str} {e : LE} (h : findE ls x = some e) : findE (ls ++ m) x = some e := by
  unfold findE at h ⊢
  rw [List.find?_append, h]
  rfl
theorem findE_app2 {ls m : List LE} {x : Str} (h : x ∉ nmsOf ls) : findE (ls ++ m) x = findE m x := by
  have := findE_none h
  unfold findE at this ⊢
  rw [List.find?_append, this]
  rfl
structure LinOk (ls : List LE) : Prop where
  nd : (nmsOf ls).Nodup
  ks : ∀ e ∈ ls, e.ks = e.nm :: e.ups.flatMap (ksOf ls)
  kn : ∀ e ∈ ls, e.ks.Nodup
  sub : ∀ e ∈ ls, ∀ x ∈ e.ks, x ∈ nmsOf ls
  ups : ∀ e ∈ ls, ∀ u ∈ e.ups, u ∈ nmsOf ls
theorem LinOk.nil : LinOk [] := ⟨List.nodup_nil, by simp, by simp, by simp, by simp⟩
theorem ksOf_some {ls : List LE} {x : Str} {e : LE} (h : findE ls x = some e) : ksOf ls x = e.ks := by
  unfold ksOf
  rw [h]
theorem LinOk.ksn {ls : List LE} (h : LinOk ls) (x : Str) : (ksOf ls x).Nodup := by
  unfold ksOf
  cases e : findE ls x with
  | none => exact List.nodup_nil
  | some e' => exact h.kn e' (findE_mem e).1
theorem LinOk.kss {ls : List LE} (h : LinOk ls) {x y : Str} (hy : y ∈ ksOf ls x) : y ∈ nmsOf ls := by
  unfold ksOf at hy
  cases e : findE ls x with
  | none => rw [e] at hy; simp at hy
  | some e' => rw [e] at hy; exact h.sub e' (findE_mem e).1 y hy
theorem LinOk.self {ls : List LE} (h : LinOk ls) {x : Str} (hx : x ∈ nmsOf ls) : x ∈ ksOf ls x := by
  obtain ⟨e, he⟩ := findE_of hx
  obtain ⟨h1, rfl⟩ := findE_mem he
  rw [ksOf_some he, h.ks e h1]
  exact List.mem_cons_self
theorem LinOk.klen {ls : List LE} (h : LinOk ls) (x : Str) : (ksOf ls x).length ≤ ls.length := by
  have : (ksOf ls x).length ≤ (nmsOf ls).length := (h.ksn x).length_le_of_subset fun y hy => h.kss hy
  simpa [nmsOf] using this
theorem mem_nms {ls : List LE} {e : LE} (h : e ∈ ls) : e.nm ∈ nmsOf ls := List.mem_map.mpr ⟨e, h, rfl⟩
theorem ksOf_app {ls m : List LE} {x : Str} (h : x ∈ nmsOf ls) : ksOf (ls ++ m) x = ksOf ls x := by
  obtain ⟨e, he⟩ := findE_of h
  rw [ksOf_some he, ksOf_some (findE_app he)]
theorem flat_app {ls m : List LE} {us : List Str} (h : ∀ u ∈ us, u ∈ nmsOf ls) : us.flatMap (ksOf (ls ++ m)) = us.flatMap (ksOf ls) := by
  induction us with
  | nil => rfl
  | cons u us ih =>
    rw [List.flatMap_cons, List.flatMap_cons, ksOf_app (h u List.mem_cons_self), ih fun v hv => h v (List.mem_cons_of_mem _ hv)]
theorem nms_app (ls m : List LE) : nmsOf (ls ++ m) = nmsOf ls ++ nmsOf m := by simp [nmsOf]
/-- one more class -/
theorem LinOk.snoc {ls : List LE} (h : LinOk ls) {nm : Str} {out : D} {us : List Str} {rl ru : Nat} (hn : nm ∉ nmsOf ls) (hu : ∀ u ∈ us, u ∈ nmsOf ls) (nd : (us.flatMap (ksOf ls)).Nodup) : LinOk (ls ++ [⟨nm, out, us, nm :: us.flatMap (ksOf ls), rl, ru⟩]) := by
  have hk : ∀ x ∈ us.flatMap (ksOf ls), x ∈ nmsOf ls := fun x hx => by
    obtain ⟨u, _, hx⟩ := List.mem_flatMap.mp hx
    exact h.kss hx
  refine ⟨?_, fun e he => ?_, fun e he => ?_, fun e he x hx => ?_, fun e he u hx => ?_⟩
  · rw [nms_app]
    refine List.nodup_append.mpr ⟨h.nd, by simp [nmsOf], fun a ha b hb => ?_⟩
    have : b = nm := by simpa [nmsOf] using hb
    subst this
    exact fun z => hn (z ▸ ha)
  · rcases List.mem_append.mp he with he | he
    · rw [flat_app (h.ups e he)]
      exact h.ks e he
    · rw [List.mem_singleton.mp he]
      show _ = nm :: us.flatMap _
      rw [flat_app hu]
  · rcases List.mem_append.mp he with he | he
    · exact h.kn e he
    · rw [List.mem_singleton.mp he]
      exact List.nodup_cons.mpr ⟨fun z => hn (hk _ z), nd⟩
  · rw [nms_app, List.mem_append]
    rcases List.mem_append.mp he with he | he
    · exact .inl (h.sub e he x hx)
    · rw [List.mem_singleton.mp he] at hx
      rcases List.mem_cons.mp hx with rfl | hx
      · exact .inr (by simp [nmsOf])
      · exact .inl (hk x hx)
  · rw [nms_app, List.mem_append]
    rcases List.mem_append.mp he with he | he
    · exact .inl (h.ups e he u hx)
    · rw [List.mem_singleton.mp he] at hx
      exact .inl (hu u hx)
/-- the first base that joins -/
def joinF (ls : List LE) : List Str → List Str → Option Str
  | _, [] => none
  | seen, u :: us => if (ksOf ls u).any (fun x => decide (x ∈ seen)) = true then some u else joinF ls (seen ++ ksOf ls u) us
theorem joinF_none {ls : List LE} (h : LinOk ls) : ∀ (us seen : List Str), joinF ls seen us = none → seen.Nodup → (seen ++ us.flatMap (ksOf ls)).Nodup
  | [], seen, _, nd => by simpa using nd
  | u :: us, seen, e, nd => by
    unfold joinF at e
    split at e
    · cases e
    · rename_i c
      rw [List.flatMap_cons, ← List.append_assoc]
      refine joinF_none h us _ e (List.nodup_append.mpr ⟨nd, h.ksn u, fun a ha b hb z => c ?_⟩)
      subst z
      exact List.any_eq_true.mpr ⟨a, hb, decide_eq_true ha⟩
structure LinG (g : G) (p a b q : Nat) (ls : List LE) : Prop where
  obj : ∃ c fs, g[p]? = some (.ins c fs) ∧ c ∈ cs_Lineage ∧ fs.lookup ("_outer" : Str) = some (.ref a) ∧ fs.lookup ("_bases" : Str) = some (.ref b) ∧ fs.lookup ("_lines" : Str) = some (.ref q)
  outer : g[a]? = some (.dct false (sd (ls.map fun e => (e.nm, e.out))))
  bases : g[b]? = some (.dct false (sd (ls.map fun e => (e.nm, .tup (e.ups.map D.str)))))
  lines : g[q]? = some (.dct false (sd (ls.map fun e => (e.nm, .ref e.rl))))
  line : ∀ e ∈ ls, g[e.rl]? = some (.dct false (sd (kt e.ks)))
  abq : a ≠ b ∧ a ≠ q ∧ b ≠ q
  rls : ∀ e ∈ ls, e.rl ≠ a ∧ e.rl ≠ b ∧ e.rl ≠ q
section
variable {g g' : G} {p a b q : Nat} {ls : List LE} {nm x y : Str} {S : List Nat}
theorem LinG.pa (h : LinG g p a b q ls) : p ≠ a ∧ p ≠ b ∧ p ≠ q := by
  obtain ⟨c, fs, h1, _⟩ := h.obj
  refine ⟨fun e => ?_, fun e => ?_, fun e => ?_⟩
  · rw [e, h.outer] at h1; cases h1
  · rw [e, h.bases] at h1; cases h1
  · rw [e, h.lines] at h1; cases h1
theorem LinG.frame (h : LinG g p a b q ls) (x : Gx S g g') (hs : p ∉ S ∧ a ∉ S ∧ b ∉ S ∧ q ∉ S) (hl : ∀ e ∈ ls, e.rl ∉ S) : LinG g' p a b q ls := by
  obtain ⟨c, fs, h1, h2⟩ := h.obj
  exact ⟨⟨c, fs, x.get h1 hs.1, h2⟩, x.get h.outer hs.2.1, x.get h.bases hs.2.2.1, x.get h.lines hs.2.2.2, fun e he => x.get (h.line e he) (hl e he), h.abq, h.rls⟩
theorem LinG.frame0 (h : LinG g p a b q ls) (x : Gx [] g g') : LinG g' p a b q ls := h.frame x (by simp) (by simp)
theorem lin_fld (h : LinG g p a b q ls) : (fFld cs_Lineage "_outer" (.ref p) g = .ok (.ref a) g) ∧ (fFld cs_Lineage "_bases" (.ref p) g = .ok (.ref b) g) ∧ (fFld cs_Lineage "_lines" (.ref p) g = .ok (.ref q) g) := by
  obtain ⟨c, fs, h1, h2, h3, h4, h5⟩ := h.obj
  exact ⟨fld_ok h1 h2 h3, fld_ok h1 h2 h4, fld_ok h1 h2 h5⟩
theorem in_lines (h : LinG g p a b q ls) : fIn (.str x) (.ref q) g = .ok (.bl (decide (x ∈ nmsOf ls))) g := by
  rw [in_sd h.lines, keys_map]
theorem notin_lines (h : LinG g p a b q ls) : fNot (.str x) (.ref q) g = .ok (.bl (!decide (x ∈ nmsOf ls))) g := by
  rw [notin_sd h.lines, keys_map]
theorem check_known (h : LinG g p a b q ls) : f_Lineage__check_known [.ref p, .str x] g = if x ∈ nmsOf ls then .ok .non g else .exc ⟨"Unknown", [("row", .non), ("what", .str x)]⟩ g := by
  unfold f_Lineage__check_known
  have h1 : mTest (mOp fNot (mV 1) (mUn (fFld cs_Lineage "_lines") (mV 0))) [some (.ref p), some (.str x)] g = .ok (!decide (x ∈ nmsOf ls)) g := tst (ev2 (ev_v rfl) (un_ok (ev_v rfl) (lin_fld h).2.2) (notin_lines h))
  by_cases c : x ∈ nmsOf ls
  · rw [if_pos c]
    rw [decide_eq_true c] at h1
    exact run_nx (if_n2 h1)
  · rw [if_neg c]
    rw [decide_eq_false c] at h1
    exact run_ex (if_tr h1 (raise_ok (cons_ok (ev_v rfl) nil_ok) exc1_str))
def outOk (ls : List LE) (out : D) : Prop := out = .non ∨ ∃ o ∈ nmsOf ls, out = .str o
def nameErr (ls : List LE) (nm : Str) (out : D) : Option Exc := if nm ∈ nmsOf ls then some ⟨"Taken", [("row", .non), ("what", .str nm)]⟩ else match out with
  | .str o => if o ∈ nmsOf ls then none else some ⟨"Unknown", [("row", .non), ("what", .str o)]⟩
  | _ => none
def resE (g : G) : Option Exc → Res D
  | none => .ok .non g
  | some e => .exc e g
theorem check_name {out : D} (h : LinG g p a b q ls) (ho : out = .non ∨ ∃ o, out = .str o) : f_Lineage__check_name [.ref p, .str nm, out] g = resE g (nameErr ls nm out) := by
  unfold f_Lineage__check_name nameErr
  have h1 : mTest (mOp fIn (mV 1) (mUn (fFld cs_Lineage "_lines") (mV 0))) [some (.ref p), some (.str nm), some out] g = .ok (decide (nm ∈ nmsOf ls)) g := tst (ev2 (ev_v rfl) (un_ok (ev_v rfl) (lin_fld h).2.2) (in_lines h))
  obtain ⟨c, fs, o1, o2, _⟩ := h.obj
  by_cases k : nm ∈ nmsOf ls
  · rw [if_pos k]
    rw [decide_eq_true k] at h1
    exact run_ex (seq_ex (if_tr h1 (raise_ok (cons_ok (ev_v rfl) nil_ok) exc1_str)))
  · rw [if_neg k]
    rw [decide_eq_false k] at h1
    have h2 : mTest (mUn (fIsN false) (mV 2)) [some (.ref p), some (.str nm), some out] g = .ok (!decide (out = .non)) g := tst (un_ok (ev_v rfl) (isN_ok false out))
    rcases ho with rfl | ⟨o, rfl⟩
    · exact run_nx ((seq_nx (if_n2 h1)).trans (if_n2 h2))
    · have hk := check_known (x := o) h
      dsimp only
      by_cases k2 : o ∈ nmsOf ls
      · rw [if_pos k2] at hk ⊢
        exact run_nx ((seq_nx (if_n2 h1)).trans (if_tr h2 (drop_ok (meth_ok (ev_v rfl) o1 o2 (cons_ok (ev_v rfl) nil_ok) rfl hk))))
      · rw [if_neg k2] at hk ⊢
        exact run_ex ((seq_nx (if_n2 h1)).trans (if_tr h2 (drop_ex (meth_ok (ev_v rfl) o1 o2 (cons_ok (ev_v rfl) nil_ok) rfl hk))))
def optS : Option Str → D
  | some x => .str x
  | none => .non
theorem first_unknown (h : LinG g p a b q ls) (us : List Str) : f_Lineage_first_unknown [.ref p, .tup (us.map D.str)] g = .ok (optS (us.find? fun u => !decide (u ∈ nmsOf ls))) g := by
  unfold f_Lineage_first_unknown
  refine run_rt ?_
  show m_Lineage_first_unknown [some (.ref p), some (.tup (us.map D.str)), none] g = _
  refine loop (us.map D.str) (fun i τ G => G = g ∧ (∃ x, τ = [some (.ref p), some (.tup (us.map D.str)), x]) ∧ ∀ u ∈ us.take i, u ∈ nmsOf ls) (fun r => thenS r (mRet (mC .non)) = .rt (optS (us.find? fun u => !decide (u ∈ nmsOf ls))) g) (seqT_ok (ev_v rfl)) (fun _ _ _ _ => trivial) ⟨rfl, ⟨_, rfl⟩, by simp⟩ ?_ ?_
  · rintro i d τ G hd ⟨rfl, ⟨x, rfl⟩, hI⟩
    rw [List.getElem?_map] at hd
    obtain ⟨u, hu, rfl⟩ := Option.map_eq_some_iff.mp hd
    refine ⟨_, _, rfl, ?_⟩
    have h1 : mTest (mOp fNot (mV 2) (mUn (fFld cs_Lineage "_lines") (mV 0))) [some (.ref p), some (.tup (us.map D.str)), some (.str u)] G = .ok (!decide (u ∈ nmsOf ls)) G := tst (ev2 (ev_v rfl) (un_ok (ev_v rfl) (lin_fld h).2.2) (notin_lines h))
    have hi := (List.getElem?_eq_some_iff.mp hu).1
    have ht : us.take (i + 1) = us.take i ++ [u] := by
      rw [List.take_add_one, hu]
      rfl
    by_cases c : u ∈ nmsOf ls
    · rw [decide_eq_true c] at h1
      refine body_nx (if_n2 h1) ⟨rfl, ⟨_, rfl⟩, fun v hv => ?_⟩
      rw [ht] at hv
      rcases List.mem_append.mp hv with hv | hv
      · exact hI v hv
      · rw [List.mem_singleton.mp hv]; exact c
    · rw [decide_eq_false c] at h1
      refine body_rt (if_tr h1 (ret_ok (ev_v rfl))) ?_
      have e : us.find? (fun u => !decide (u ∈ nmsOf ls)) = some u := by
        have hs : us = us.take i ++ u :: us.drop (i + 1) := by
          have := List.drop_eq_getElem_cons hi
          rw [(List.getElem?_eq_some_iff.mp hu).2] at this
          rw [← this, List.take_append_drop]
        rw [hs, List.find?_append, List.find?_eq_none.mpr fun v hv => by rw [decide_eq_true (hI v hv)]; simp]
        rw [List.find?_cons_of_pos (by rw [decide_eq_false c]; rfl)]
        rfl
      rw [e]
      rfl
  · rintro τ G ⟨rfl, ⟨x, rfl⟩, hI⟩
    rw [List.length_map, List.take_length] at hI
    rw [List.find?_eq_none.mpr fun v hv => by rw [decide_eq_true (hI v hv)]; simp]
    rfl
end
end My
namespace My
open PySem L2 RL
section
variable {g g' : G} {p a b q : Nat} {ls : List LE} {nm x y : Str} {S : List Nat}
theorem still_at {n : Nat} {o : Ob} {g : G} (h : g[n]? = some o) : still (some (n, o)) g := h
theorem take_succ {α : Type} {l : List α} {i : Nat} {x : α} (h : l[i]? = some x) : l.take (i + 1) = l.take i ++ [x] := by
  rw [List.take_add_one, h]
  rfl
theorem line_at (h : LinG g p a b q ls) (hx : x ∈ nmsOf ls) : ∃ e ∈ ls, findE ls x = some e ∧ fSubs (.ref q) (.str x) g = .ok (.ref e.rl) g ∧ g[e.rl]? = some (.dct false (sd (kt (ksOf ls x)))) := by
  obtain ⟨e, he⟩ := findE_of hx
  refine ⟨e, (findE_mem he).1, he, subs_sd h.lines ?_, ?_⟩
  · rw [look_map, he]
    rfl
  · rw [ksOf_some he]
    exact h.line e (findE_mem he).1
theorem bools_map (f : Str → Bool) : ∀ l : List Str, bools (l.map fun x => D.bl (f x)) = some (l.map f)
  | [] => rfl
  | x :: l => by
    show (bools (l.map fun x => D.bl (f x))).map (f x :: ·) = _
    rw [bools_map f l]
    rfl
theorem any_at {n : Nat} {l : List D} {bs : List Bool} (h : g[n]? = some (.lst l)) (hb : bools l = some bs) : fAny [.ref n] g = .ok (.bl (bs.any id)) g := by
  unfold fAny items
  dsimp only
  rw [h]
  dsimp only
  rw [hb]
/-- one new dict of keys, behind it what else is new -/
theorem get_mid {X : G} {o : Ob} : (g ++ [o] ++ X)[g.length]? = some o := by
  rw [List.append_assoc, List.getElem?_append_right (Nat.le_refl _), Nat.sub_self]
  rfl
theorem set_mid {X : G} {o o' : Ob} : (g ++ [o] ++ X).set g.length o' = g ++ [o'] ++ X := by
  rw [List.append_assoc, List.set_append_right _ _ (Nat.le_refl _), Nat.sub_self]
  simp
theorem gx_mid {X : G} {o : Ob} : Gx S g (g ++ [o] ++ X) := by
  rw [List.append_assoc]
  exact Gx.app
theorem get_tail {Y : G} {o : Ob} : (Y ++ [o])[Y.length]? = some o := by
  rw [List.getElem?_append_right (Nat.le_refl _), Nat.sub_self]
  rfl
theorem first_joined (h : LinG g p a b q ls) (ok : LinOk ls) (us : List Str) (hu : ∀ u ∈ us, u ∈ nmsOf ls) (hz : us.length ≤ 1000) (hl : ls.length ≤ 90) :
    ∃ X, f_Lineage_first_joined [.ref p, .tup (us.map D.str)] g = .ok (optS (joinF ls [] us)) (g ++ X) := by
  unfold f_Lineage_first_joined
  suffices hh : ∃ X, m_Lineage_first_joined [some (.ref p), some (.tup (us.map D.str)), none, none, none, none] g = .rt (optS (joinF ls [] us)) (g ++ X) by
    obtain ⟨X, hX⟩ := hh
    exact ⟨X, run_rt hX⟩
  unfold m_Lineage_first_joined
  rw [seq_nx (asg_ok (show mDict0 _ g = .ok (.ref g.length) (g ++ [.dct false (sd [])]) from rfl))]
  refine loop (us.map D.str) (fun i τ G => (∃ x3 x4 x5, τ = [some (.ref p), some (.tup (us.map D.str)), some (.ref g.length), x3, x4, x5]) ∧ ∃ seen X, G = g ++ [Ob.dct false (sd (kt seen))] ++ X ∧ seen.length ≤ 90 ∧ seen.Nodup ∧ (∀ x ∈ seen, x ∈ nmsOf ls) ∧ joinF ls [] us = joinF ls seen (us.drop i))
    (fun r => ∃ X, thenS r (mRet (mC .non)) = .rt (optS (joinF ls [] us)) (g ++ X)) (seqT_ok (ev_v rfl)) (fun _ _ _ _ => trivial) ⟨⟨_, _, _, rfl⟩, [], [], by simp [sd, kt], by simp, by simp, by simp, by simp⟩ ?_ ?_
  · rintro i d τ G hd ⟨⟨x3, x4, x5, rfl⟩, seen, X, rfl, hs, nds, sub, hj⟩
    rw [List.getElem?_map] at hd
    obtain ⟨u, hu1, rfl⟩ := Option.map_eq_some_iff.mp hd
    refine ⟨_, _, rfl, ?_⟩
    have gx : Gx [] g (g ++ [Ob.dct false (sd (kt seen))] ++ X) := gx_mid
    have h' := h.frame0 gx
    have un := hu u (List.mem_of_getElem? hu1)
    obtain ⟨e, em, _, e1, e2⟩ := line_at h' un
    have ne : e.rl ≠ g.length := fun z => by
      have := lt_of_get (h.line e em)
      omega
    have hdrop : us.drop i = u :: us.drop (i + 1) := by
      have hi := (List.getElem?_eq_some_iff.mp hu1).1
      rw [← (List.getElem?_eq_some_iff.mp hu1).2]
      exact List.drop_eq_getElem_cons hi
    rw [hdrop] at hj
    rw [show joinF ls seen (u :: us.drop (i + 1)) = if ((ksOf ls u).any fun x => decide (x ∈ seen)) = true then some u else joinF ls (seen ++ ksOf ls u) (us.drop (i + 1)) from rfl] at hj
    refine (show BodyR _ _ (mSeq _ _ [some (.ref p), some (.tup (us.map D.str)), some (.ref g.length), some (.str u), x4, x5] _) from ?_)
    rw [seq_nx (asg_ok (ev2 (un_ok (ev_v rfl) (lin_fld h').2.2) (ev_v rfl) e1))]
    -- the test
    have kl : (ksOf ls u).length ≤ ls.length := ok.klen u
    have t1 : mLockE (mV 4) (mLc ([("upper", 5)].map (·.2)) (mKeysI (mV 4)) (.one 5) mYes (mOp fIn (mV 5) (mV 2))) [some (.ref p), some (.tup (us.map D.str)), some (.ref g.length), some (.str u), some (.ref e.rl), x5] (g ++ [Ob.dct false (sd (kt seen))] ++ X) =
        .ok (.ref (g ++ [Ob.dct false (sd (kt seen))] ++ X).length) (g ++ [Ob.dct false (sd (kt seen))] ++ X ++ [.lst ((ksOf ls u).map fun x => .bl (decide (x ∈ seen)))]) := by
      refine lockE_ok (ev_v rfl) e2 ?_
      have e3 : ((g ++ [Ob.dct false (sd (kt seen))] ++ X).set e.rl (Ob.dct true (sd (kt (ksOf ls u)))))[e.rl]? = some (.dct true (sd (kt (ksOf ls u)))) := set_get (lt_of_get e2)
      have e4 : ((g ++ [Ob.dct false (sd (kt seen))] ++ X).set e.rl (Ob.dct true (sd (kt (ksOf ls u)))))[g.length]? = some (.dct false (sd (kt seen))) := set_ne get_mid (Ne.symm ne)
      have lc := lc_ok (own := [("upper", 5)].map (·.2)) (τ := [some (.ref p), some (.tup (us.map D.str)), some (.ref g.length), some (.str u), some (.ref e.rl), x5]) (mi := mKeysI (mV 4)) (t := .one 5) (mt := mYes) (me := mOp fIn (mV 5) (mV 2))
        (fun _ => true) (fun d => match d with | .str x => .bl (decide (x ∈ seen)) | d => d) (keys_ok (ev_v rfl) e3) (still_at e3) (fun d hd => ?_) (by rw [List.length_map, sd_len, List.length_map]; omega)
      · rw [lc, List.length_set, sd_keys, kt_keys, List.filter_eq_self.mpr (fun _ _ => rfl), List.map_map]
        rfl
      · rw [sd_keys, kt_keys] at hd
        obtain ⟨x, _, rfl⟩ := List.mem_map.mp hd
        refine ⟨_, rfl, rfl, fun _ => ?_⟩
        have := in_sd (x := x) e4
        rw [kt_keys] at this
        exact ev2 (ev_v rfl) (ev_v rfl) this
    have t2 : mTest (mUnA fAny (mCons (mLockE (mV 4) (mLc ([("upper", 5)].map (·.2)) (mKeysI (mV 4)) (.one 5) mYes (mOp fIn (mV 5) (mV 2)))) mNil)) [some (.ref p), some (.tup (us.map D.str)), some (.ref g.length), some (.str u), some (.ref e.rl), x5] (g ++ [Ob.dct false (sd (kt seen))] ++ X) =
        .ok ((ksOf ls u).any fun x => decide (x ∈ seen)) (g ++ [Ob.dct false (sd (kt seen))] ++ X ++ [.lst ((ksOf ls u).map fun x => .bl (decide (x ∈ seen)))]) := by
      refine tst (una_ok (cons_ok t1 nil_ok) ?_)
      rw [any_at get_tail (bools_map _ _)]
      simp [List.any_map]
    cases c : (ksOf ls u).any fun x => decide (x ∈ seen) with
    | true =>
      rw [c] at t2
      rw [if_pos c] at hj
      refine body_rt (seq_rt (if_tr t2 (ret_ok (ev_v rfl)))) ?_
      rw [hj]
      exact ⟨_, by rw [List.append_assoc, List.append_assoc]; rfl⟩
    | false =>
      rw [c] at t2
      rw [if_neg (by rw [c]; simp)] at hj
      have dj : ∀ x ∈ ksOf ls u, x ∉ seen := fun x hx hc => by
        have := List.any_eq_false.mp c x hx
        rw [decide_eq_true hc] at this
        exact this rfl
      have gx2 : Gx [] (g ++ [Ob.dct false (sd (kt seen))] ++ X) (g ++ [Ob.dct false (sd (kt seen))] ++ X ++ [.lst ((ksOf ls u).map fun x => .bl (decide (x ∈ seen)))]) := Gx.app
      have nd2 : (seen ++ ksOf ls u).Nodup := List.nodup_append.mpr ⟨nds, ok.ksn u, fun x hx y hy z => dj y hy (z ▸ hx)⟩
      have sub2 : ∀ x ∈ seen ++ ksOf ls u, x ∈ nmsOf ls := fun x hx => by
        rcases List.mem_append.mp hx with hx | hx
        · exact sub x hx
        · exact ok.kss hx
      have hs2 : (seen ++ ksOf ls u).length ≤ 90 := by
        have := nd2.length_le_of_subset sub2
        have e : (nmsOf ls).length = ls.length := by simp [nmsOf]
        omega
      have up := upd_sd (gx2.get0 get_mid) (gx2.get0 e2) (Ne.symm ne) (by rw [kt_keys]; exact ok.ksn u) (fun x hx hc => by rw [kt_keys] at hx hc; exact dj x hx hc) (by rw [List.length_map, List.length_map]; omega)
      refine body_nx ((seq_nx (if_n2 t2)).trans (drop_ok (bm_ok (ev_v rfl) (ty_dct (gx2.get0 get_mid)) (cons_ok (ev_v rfl) nil_ok) up))) ⟨⟨_, _, _, rfl⟩, seen ++ ksOf ls u, X ++ [.lst ((ksOf ls u).map fun x => .bl (decide (x ∈ seen)))], ?_, hs2, nd2, sub2, hj⟩
      rw [List.append_assoc (g ++ [_]) X, set_mid]
      simp [kt]
  · rintro τ G ⟨⟨x3, x4, x5, rfl⟩, seen, X, rfl, hs, nds, sub, hj⟩
    rw [List.length_map, List.drop_length] at hj
    rw [hj]
    exact ⟨[Ob.dct false (sd (kt seen))] ++ X, by rw [← List.append_assoc]; rfl⟩
end
end My
namespace My
open PySem L2 RL
section
variable {g g' : G} {p a b q : Nat} {ls : List LE} {nm x y : Str} {S : List Nat}
theorem gx_two {X Y : G} : Gx S g (g ++ X ++ Y) := by
  rw [List.append_assoc]
  exact Gx.app
def baseErr (ls : List LE) (us : List Str) : Option Exc := match us.find? fun u => !decide (u ∈ nmsOf ls) with
  | some u => some ⟨"Unknown", [("row", .non), ("what", .str u)]⟩
  | none => match joinF ls [] us with
    | some u => some ⟨"Joined", [("row", .non), ("what", .str u)]⟩
    | none => none
theorem check_bases (h : LinG g p a b q ls) (ok : LinOk ls) (us : List Str) (hz : us.length ≤ 1000) (hl : ls.length ≤ 90) :
    ∃ X, f_Lineage__check_bases [.ref p, .tup (us.map D.str)] g = resE (g ++ X) (baseErr ls us) := by
  obtain ⟨c, fs, o1, o2, _⟩ := h.obj
  have f1 := first_unknown h us
  unfold f_Lineage__check_bases baseErr
  have s1 : mAsg (mMeth cs_Lineage 2 [] f_Lineage_first_unknown (mV 0) (mCons (mV 1) mNil)) (gN 2) [some (.ref p), some (.tup (us.map D.str)), none, none] g = .nx [some (.ref p), some (.tup (us.map D.str)), some (optS (us.find? fun u => !decide (u ∈ nmsOf ls))), none] g :=
    asg_ok (meth_ok (ev_v rfl) o1 o2 (cons_ok (ev_v rfl) nil_ok) rfl f1)
  cases e1 : us.find? fun u => !decide (u ∈ nmsOf ls) with
  | some u =>
    rw [e1] at s1
    refine ⟨[], ?_⟩
    rw [List.append_nil]
    exact run_ex ((seq_nx s1).trans (seq_ex (if_tr (tst (un_ok (ev_v rfl) (isN_ok false _))) (raise_ok (cons_ok (ev_v rfl) nil_ok) exc1_str))))
  | none =>
    rw [e1] at s1
    have hu : ∀ u ∈ us, u ∈ nmsOf ls := fun u hu => by
      have := List.find?_eq_none.mp e1 u hu
      simpa using this
    obtain ⟨X, f2⟩ := first_joined h ok us hu hz hl
    refine ⟨X, ?_⟩
    have s2 : mAsg (mMeth cs_Lineage 2 [] f_Lineage_first_joined (mV 0) (mCons (mV 1) mNil)) (gN 3) [some (.ref p), some (.tup (us.map D.str)), some (optS none), none] g = .nx [some (.ref p), some (.tup (us.map D.str)), some (optS none), some (optS (joinF ls [] us))] (g ++ X) :=
      asg_ok (meth_ok (ev_v rfl) o1 o2 (cons_ok (ev_v rfl) nil_ok) rfl f2)
    have t1 : mIfS (mTest (mUn (fIsN false) (mV 2))) (mRaise (exc1 "Unknown") (mCons (mV 2) mNil)) mNext [some (.ref p), some (.tup (us.map D.str)), some (optS none), none] g = .nx [some (.ref p), some (.tup (us.map D.str)), some (optS none), none] g := if_n2 (tst (un_ok (ev_v rfl) (isN_ok false _)))
    cases e2 : joinF ls [] us with
    | some u =>
      rw [e2] at s2
      exact run_ex ((seq_nx s1).trans ((seq_nx t1).trans ((seq_nx s2).trans (if_tr (tst (un_ok (ev_v rfl) (isN_ok false _))) (raise_ok (cons_ok (ev_v rfl) nil_ok) exc1_str)))))
    | none =>
      rw [e2] at s2
      exact run_nx ((seq_nx s1).trans ((seq_nx t1).trans ((seq_nx s2).trans (if_n2 (tst (un_ok (ev_v rfl) (isN_ok false _)))))))
theorem nd_take {f : Str → List Str} {us : List Str} (nd : (us.flatMap f).Nodup) (i : Nat) : ((us.take i).flatMap f).Nodup := by
  have e : us.flatMap f = (us.take i).flatMap f ++ (us.drop i).flatMap f := by rw [← List.flatMap_append, List.take_append_drop]
  rw [e] at nd
  exact (List.nodup_append.mp nd).1
def linkErr (ls : List LE) (nm : Str) (out : D) (us : List Str) : Option Exc := match nameErr ls nm out with
  | some e => some e
  | none => baseErr ls us
def ent (ls : List LE) (nm : Str) (out : D) (us : List Str) (rl ru : Nat) : LE := ⟨nm, out, us, nm :: us.flatMap (ksOf ls), rl, ru⟩
theorem link_bad {out : D} {us : List Str} {x : Exc} {d : D} (h : LinG g p a b q ls) (ok : LinOk ls) (ho : out = .non ∨ ∃ o, out = .str o) (hd : fTuple [d] g = .ok (.tup (us.map D.str)) g) (hz : us.length ≤ 1000) (hl : ls.length ≤ 90) (he : linkErr ls nm out us = some x) :
    ∃ X, f_Lineage_link [.ref p, .str nm, out, d] g = .exc x (g ++ X) := by
  obtain ⟨c, fs, o1, o2, _⟩ := h.obj
  have f1 := check_name (nm := nm) h ho
  obtain ⟨X, f2⟩ := check_bases h ok us hz hl
  have s0 : mAsg (mUnA fTuple (mCons (mV 3) mNil)) (gN 3) [some (.ref p), some (.str nm), some out, some d, none, none] g = .nx [some (.ref p), some (.str nm), some out, some (.tup (us.map D.str)), none, none] g := asg_ok (una_ok (cons_ok (ev_v rfl) nil_ok) hd)
  unfold f_Lineage_link
  unfold linkErr at he
  cases e1 : nameErr ls nm out with
  | some e =>
    rw [e1] at he f1
    cases he
    refine ⟨[], ?_⟩
    rw [List.append_nil]
    exact run_ex ((seq_nx s0).trans (seq_ex (drop_ex (meth_ok (ev_v rfl) o1 o2 (cons_ok (ev_v rfl) (cons_ok (ev_v rfl) nil_ok)) rfl f1))))
  | none =>
    rw [e1] at he f1
    dsimp only at he
    rw [he] at f2
    exact ⟨X, run_ex ((seq_nx s0).trans ((seq_nx (drop_ok (meth_ok (ev_v rfl) o1 o2 (cons_ok (ev_v rfl) (cons_ok (ev_v rfl) nil_ok)) rfl f1))).trans (seq_ex (drop_ex (meth_ok (ev_v rfl) o1 o2 (cons_ok (ev_v rfl) nil_ok) rfl f2)))))⟩
/-- what is there when a class has been added -/
def linkG (g X : G) (a b q : Nat) (ls : List LE) (nm : Str) (out : D) (us : List Str) : G := (((g ++ X ++ [Ob.dct false (sd (kt (nm :: us.flatMap (ksOf ls))))]).set a (.dct false (sd ((ls.map fun e => (e.nm, e.out)) ++ [(nm, out)])))).set b (.dct false (sd ((ls.map fun e => (e.nm, .tup (e.ups.map D.str))) ++ [(nm, .tup (us.map D.str))])))).set q (.dct false (sd ((ls.map fun e => (e.nm, .ref e.rl)) ++ [(nm, .ref (g ++ X).length)])))
theorem link_x {out : D} {us : List Str} {d : D} (h : LinG g p a b q ls) (ok : LinOk ls) (ho : out = .non ∨ ∃ o, out = .str o) (hd : fTuple [d] g = .ok (.tup (us.map D.str)) g) (hz : us.length ≤ 1000) (hl : ls.length ≤ 90) (he : linkErr ls nm out us = none) :
    ∃ X : List Ob, f_Lineage_link [.ref p, .str nm, out, d] g = .ok .non (linkG g X a b q ls nm out us) ∧ Gx [a, b, q] g (linkG g X a b q ls nm out us) ∧ g.length ≤ (g ++ X).length ∧ (g ++ X).length < (linkG g X a b q ls nm out us).length ∧ ∀ ru, LinG (linkG g X a b q ls nm out us) p a b q (ls ++ [ent ls nm out us (g ++ X).length ru]) ∧ LinOk (ls ++ [ent ls nm out us (g ++ X).length ru]) := by
  obtain ⟨c, fs, o1, o2, _⟩ := h.obj
  have f1 := check_name (nm := nm) h ho
  obtain ⟨X, f2⟩ := check_bases h ok us hz hl
  have s0 : mAsg (mUnA fTuple (mCons (mV 3) mNil)) (gN 3) [some (.ref p), some (.str nm), some out, some d, none, none] g = .nx [some (.ref p), some (.str nm), some out, some (.tup (us.map D.str)), none, none] g := asg_ok (una_ok (cons_ok (ev_v rfl) nil_ok) hd)
  unfold linkErr at he
  cases e1 : nameErr ls nm out with
  | some e => rw [e1] at he; cases he
  | none =>
    rw [e1] at he f1
    dsimp only at he
    rw [he] at f2
    have nn : nm ∉ nmsOf ls := fun z => by
      unfold nameErr at e1
      rw [if_pos z] at e1
      cases e1
    have hu : ∀ u ∈ us, u ∈ nmsOf ls := fun u hu => by
      unfold baseErr at he
      cases e2 : us.find? fun u => !decide (u ∈ nmsOf ls) with
      | some u => rw [e2] at he; cases he
      | none =>
        have := List.find?_eq_none.mp e2 u hu
        simpa using this
    have hj : joinF ls [] us = none := by
      unfold baseErr at he
      cases e2 : us.find? fun u => !decide (u ∈ nmsOf ls) with
      | some u => rw [e2] at he; cases he
      | none =>
        rw [e2] at he
        cases e3 : joinF ls [] us with
        | some u => rw [e3] at he; cases he
        | none => rfl
    have nd := joinF_none ok us [] hj List.nodup_nil
    rw [List.nil_append] at nd
    -- the line
    have sub : ∀ i, ∀ x ∈ (us.take i).flatMap (ksOf ls), x ∈ nmsOf ls := fun i x hx => by
      obtain ⟨u, _, hx⟩ := List.mem_flatMap.mp hx
      exact ok.kss hx
    have flat_len : ∀ i, ((us.take i).flatMap (ksOf ls)).length ≤ 90 := fun i => by
      have := (nd_take nd i).length_le_of_subset (sub i)
      have e : (nmsOf ls).length = ls.length := by simp [nmsOf]
      omega
    have lp : ∃ τ' G, mFor (mSeqI (mV 3)) (gN 5) (mDrop (mBM .dct fUpd (mV 4) (mCons (mOp fSubs (mUn (fFld cs_Lineage "_lines") (mV 0)) (mV 5)) mNil))) [some (.ref p), some (.str nm), some out, some (.tup (us.map D.str)), some (.ref (g ++ X).length), none] (g ++ X ++ [.dct false (sd (kt [nm]))]) = .nx τ' G ∧
        (∃ x5, τ' = [some (.ref p), some (.str nm), some out, some (.tup (us.map D.str)), some (.ref (g ++ X).length), x5]) ∧ G = g ++ X ++ [.dct false (sd (kt (nm :: (us.take (us.map D.str).length).flatMap (ksOf ls))))] := by
      refine loop_all (mi := mSeqI (mV 3)) (us.map D.str) (fun i τ G => (∃ x5, τ = [some (.ref p), some (.str nm), some out, some (.tup (us.map D.str)), some (.ref (g ++ X).length), x5]) ∧ G = g ++ X ++ [.dct false (sd (kt (nm :: (us.take i).flatMap (ksOf ls))))])
        (seqT_ok (ev_v rfl)) (fun _ _ _ _ => trivial) ⟨⟨_, rfl⟩, rfl⟩ ?_
      · rintro i d τ G hd ⟨⟨x5, rfl⟩, rfl⟩
        rw [List.getElem?_map] at hd
        obtain ⟨u, hu1, rfl⟩ := Option.map_eq_some_iff.mp hd
        refine ⟨_, _, rfl, ?_⟩
        have gx : Gx [] g (g ++ X ++ [.dct false (sd (kt (nm :: (us.take i).flatMap (ksOf ls))))]) := gx_two
        have h' := h.frame0 gx
        have un := hu u (List.mem_of_getElem? hu1)
        obtain ⟨e, em, _, z1, z2⟩ := line_at h' un
        have ne : e.rl ≠ (g ++ X).length := fun z => by
          have := lt_of_get (h.line e em)
          rw [z, List.length_append] at this
          omega
        have kl : (ksOf ls u).length ≤ ls.length := ok.klen u
        have ht := take_succ hu1
        have nd3 : ((us.take i).flatMap (ksOf ls) ++ ksOf ls u).Nodup := by
          have := nd_take nd (i + 1)
          rw [ht, List.flatMap_append, List.flatMap_singleton] at this
          exact this
        have up := upd_sd (g := g ++ X ++ [Ob.dct false (sd (kt (nm :: (us.take i).flatMap (ksOf ls))))]) (l := kt (nm :: (us.take i).flatMap (ksOf ls))) end_get z2 (Ne.symm ne) (by rw [kt_keys]; exact ok.ksn u) (fun x hx hc => by
          rw [kt_keys] at hx hc
          rcases List.mem_cons.mp hc with rfl | hc
          · exact nn (ok.kss hx)
          · exact (List.nodup_append.mp nd3).2.2 x hc x hx rfl) (by
          have := flat_len i
          rw [List.length_map, List.length_map, List.length_cons]
          omega)
        refine body_nx (drop_ok (bm_ok (ev_v rfl) (ty_dct end_get) (cons_ok (ev2 (un_ok (ev_v rfl) (lin_fld h').2.2) (ev_v rfl) z1) nil_ok) up)) ⟨⟨_, rfl⟩, ?_⟩
        rw [List.set_append_right _ _ (Nat.le_refl _), Nat.sub_self, ht, List.flatMap_append, List.flatMap_singleton]
        simp [kt]
    obtain ⟨_, G, lp, ⟨x5, rfl⟩, rfl⟩ := lp
    rw [List.length_map, List.take_length] at lp
    have gx : Gx [] g (g ++ X ++ [.dct false (sd (kt (nm :: us.flatMap (ksOf ls))))]) := gx_two
    have h3 := h.frame0 gx
    have ll : ∀ f : LE → D, (ls.map fun e => (e.nm, f e)).length ≤ 100000 := fun f => by rw [List.length_map]; omega
    have nk : ∀ f : LE → D, nm ∉ (ls.map fun e => (e.nm, f e)).map (·.1) := fun f => by rw [keys_map]; exact nn
    -- the three stores
    have w1 := set_sd (τ := [some (.ref p), some (.str nm), some out, some (.tup (us.map D.str)), some (.ref (g ++ X).length), x5]) (e := mV 2) (o := mUn (fFld cs_Lineage "_outer") (mV 0)) (i := mV 1) (ev_v rfl) (un_ok (ev_v rfl) (lin_fld h3).1) (ev_v rfl) h3.outer (nk _) (ll _)
    obtain ⟨c3, fs3, p1, p2, p3, p4, p5⟩ := h3.obj
    have pa := h3.pa
    have q1 := h3.abq
    generalize hG : g ++ X ++ [Ob.dct false (sd (kt (nm :: us.flatMap (ksOf ls))))] = G0 at *
    have w2 := set_sd (τ := [some (.ref p), some (.str nm), some out, some (.tup (us.map D.str)), some (.ref (g ++ X).length), x5]) (e := mV 3) (o := mUn (fFld cs_Lineage "_bases") (mV 0)) (i := mV 1) (g := G0.set a (.dct false (sd ((ls.map fun e => (e.nm, e.out)) ++ [(nm, out)])))) (ev_v rfl) (un_ok (ev_v rfl) (fld_ok (set_ne p1 pa.1) p2 p4)) (ev_v rfl) (set_ne h3.bases (Ne.symm q1.1)) (nk _) (ll _)
    have w3 := set_sd (τ := [some (.ref p), some (.str nm), some out, some (.tup (us.map D.str)), some (.ref (g ++ X).length), x5]) (e := mV 4) (o := mUn (fFld cs_Lineage "_lines") (mV 0)) (i := mV 1) (g := (G0.set a (.dct false (sd ((ls.map fun e => (e.nm, e.out)) ++ [(nm, out)])))).set b (.dct false (sd ((ls.map fun e => (e.nm, .tup (e.ups.map D.str))) ++ [(nm, .tup (us.map D.str))])))) (ev_v rfl) (un_ok (ev_v rfl) (fld_ok (set_ne (set_ne p1 pa.1) pa.2.1) p2 p5)) (ev_v rfl) (set_ne (set_ne h3.lines (Ne.symm q1.2.1)) (Ne.symm q1.2.2)) (nk _) (ll _)
    have gl : g.length ≤ (g ++ X).length := by rw [List.length_append]; omega
    have newl : G0[(g ++ X).length]? = some (.dct false (sd (kt (nm :: us.flatMap (ksOf ls))))) := by rw [← hG]; exact end_get
    have la := lt_of_get h.outer
    have lb := lt_of_get h.bases
    have lq := lt_of_get h.lines
    refine ⟨X, ?_⟩
    unfold linkG
    rw [hG]
    refine ⟨?_, ?_, gl, ?_, fun ru => ⟨⟨⟨c3, fs3, set_ne (set_ne (set_ne p1 pa.1) pa.2.1) pa.2.2, p2, p3, p4, p5⟩, ?_, ?_, ?_, fun e he => ?_, q1, fun e he => ?_⟩, ok.snoc nn hu nd⟩⟩
    · unfold f_Lineage_link
      have z5 := (seq_nx (b := mSeq (mAsg (mV 2) (gSubM (mUn (fFld cs_Lineage "_outer") (mV 0)) (mV 1))) (mSeq (mAsg (mV 3) (gSubM (mUn (fFld cs_Lineage "_bases") (mV 0)) (mV 1))) (mAsg (mV 4) (gSubM (mUn (fFld cs_Lineage "_lines") (mV 0)) (mV 1))))) lp).trans ((seq_nx w1).trans ((seq_nx w2).trans w3))
      have z4 := fun bb => seq_nx (b := bb) (asg_ok (i := 4) (disp1_ok (τ := [some (.ref p), some (.str nm), some out, some (.tup (us.map D.str)), none, none]) (g := g ++ X) (mk := mV 1) (mv := mC (.bl true)) (ev_v rfl) ev_c))
      exact run_nx ((seq_nx s0).trans ((seq_nx (drop_ok (meth_ok (ev_v rfl) o1 o2 (cons_ok (ev_v rfl) (cons_ok (ev_v rfl) nil_ok)) rfl f1))).trans ((seq_nx (drop_ok (meth_ok (ev_v rfl) o1 o2 (cons_ok (ev_v rfl) nil_ok) rfl f2))).trans ((z4 _).trans z5))))
    · have y1 : Gx [a, b, q] g G0 := gx.mono (by simp)
      exact ((y1.trans (Gx.set (by simp)) fun _ h => h).trans (Gx.set (by simp)) fun _ h => h).trans (Gx.set (by simp)) fun _ h => h
    · rw [List.length_set, List.length_set, List.length_set]
      exact lt_of_get newl
    · rw [List.map_append]
      exact set_ne (set_ne (set_get (lt_of_get h3.outer)) q1.1) q1.2.1
    · rw [List.map_append]
      exact set_ne (set_get (by rw [List.length_set]; exact lt_of_get h3.bases)) q1.2.2
    · rw [List.map_append]
      exact set_get (by rw [List.length_set, List.length_set]; exact lt_of_get h3.lines)
    · rcases List.mem_append.mp he with he | he
      · obtain ⟨r1, r2, r3⟩ := h3.rls e he
        exact set_ne (set_ne (set_ne (h3.line e he) r1) r2) r3
      · rw [List.mem_singleton.mp he]
        exact set_ne (set_ne (set_ne newl (by show (g ++ X).length ≠ a; omega)) (by show (g ++ X).length ≠ b; omega)) (by show (g ++ X).length ≠ q; omega)
    · rcases List.mem_append.mp he with he | he
      · exact h3.rls e he
      · rw [List.mem_singleton.mp he]
        show (g ++ X).length ≠ a ∧ (g ++ X).length ≠ b ∧ (g ++ X).length ≠ q
        omega
theorem link_good {out : D} {us : List Str} {d : D} (h : LinG g p a b q ls) (ok : LinOk ls) (ho : out = .non ∨ ∃ o, out = .str o) (hd : fTuple [d] g = .ok (.tup (us.map D.str)) g) (hz : us.length ≤ 1000) (hl : ls.length ≤ 90) (he : linkErr ls nm out us = none) :
    ∃ g' rl, f_Lineage_link [.ref p, .str nm, out, d] g = .ok .non g' ∧ Gx [a, b, q] g g' ∧ g.length ≤ rl ∧ rl < g'.length ∧ ∀ ru, LinG g' p a b q (ls ++ [ent ls nm out us rl ru]) ∧ LinOk (ls ++ [ent ls nm out us rl ru]) := by
  obtain ⟨X, e1, e2, e3, e4, e5⟩ := link_x (nm := nm) h ok ho hd hz hl he
  exact ⟨_, _, e1, e2, e3, e4, e5⟩
theorem is_below (h : LinG g p a b q ls) : f_Lineage_is_below [.ref p, .str x, .str y] g = .ok (.bl (decide (x = y) || decide (y ∈ ksOf ls x))) g := by
  unfold f_Lineage_is_below
  refine run_rt (ret_ok ?_)
  unfold mOr
  have e1 : mOp fEq (mV 1) (mV 2) [some (.ref p), some (.str x), some (.str y)] g = .ok (.bl (decide (x = y))) g := ev2 (ev_v rfl) (ev_v rfl) (eqS _ _)
  show (mOp fEq (mV 1) (mV 2) [some (.ref p), some (.str x), some (.str y)] g).bind _ = _
  rw [e1, Res.bind_ok]
  by_cases c : x = y
  · rw [decide_eq_true c]
    rfl
  · rw [decide_eq_false c]
    show mOp fIn (mV 2) _ _ g = _
    have e2 : mBM .dct fGet (mUn (fFld cs_Lineage "_lines") (mV 0)) (mCons (mV 1) (mCons (mUnA fTup mNil) mNil)) [some (.ref p), some (.str x), some (.str y)] g = .ok (((ls.map fun e => (e.nm, D.ref e.rl)).lookup x).getD (.tup [])) g :=
      bm_ok (un_ok (ev_v rfl) (lin_fld h).2.2) (ty_dct h.lines) (cons_ok (ev_v rfl) (cons_ok (una_ok nil_ok (tup_ok (by simp))) nil_ok)) (get_sd h.lines)
    refine ev2 (ev_v rfl) e2 ?_
    rw [look_map]
    cases e3 : findE ls x with
    | none =>
      have : ksOf ls x = [] := by unfold ksOf; rw [e3]
      rw [this]
      rfl
    | some e =>
      rw [ksOf_some e3]
      have := in_sd (x := y) (h.line e (findE_mem e3).1)
      rw [kt_keys] at this
      exact this
theorem classes_ok (h : LinG g p a b q ls) : f_Lineage_classes [.ref p] g = .ok (.ref g.length) (g ++ [.lst ((nmsOf ls).map D.str)]) := by
  unfold f_Lineage_classes
  refine run_rt (ret_ok (una_ok (cons_ok (un_ok (ev_v rfl) (lin_fld h).2.2) nil_ok) ?_))
  rw [list_sd h.lines, keys_map]
end
end My
namespace My
open PySem L2 RL
/-! the cones -/
section
variable {ls : List LE} {x y z r : Str}
theorem ks_eq (ok : LinOk ls) (hx : x ∈ nmsOf ls) : ∃ e ∈ ls, findE ls x = some e ∧ e.nm = x ∧ ksOf ls x = x :: e.ups.flatMap (ksOf ls) := by
  obtain ⟨e, he⟩ := findE_of hx
  obtain ⟨h1, h2⟩ := findE_mem he
  exact ⟨e, h1, he, h2, by rw [ksOf_some he, ok.ks e h1, h2]⟩
theorem len_flat {f : Str → List Str} {u : Str} : ∀ {us : List Str}, u ∈ us → (f u).length ≤ (us.flatMap f).length
  | v :: us, h => by
    rw [List.flatMap_cons, List.length_append]
    rcases List.mem_cons.mp h with rfl | h
    · omega
    · have := len_flat (f := f) h
      omega
theorem ks_trans (ok : LinOk ls) : ∀ (n : Nat) (x y z : Str), (ksOf ls x).length ≤ n → y ∈ ksOf ls x → z ∈ ksOf ls y → z ∈ ksOf ls x
  | 0, x, y, z, hn, hy, _ => by
    have := List.length_pos_of_mem hy
    omega
  | n + 1, x, y, z, hn, hy, hz => by
    have hx : x ∈ nmsOf ls := by
      by_cases c : x ∈ nmsOf ls
      · exact c
      · unfold ksOf at hy
        rw [findE_none c] at hy
        simp at hy
    obtain ⟨e, h1, h2, h3, h4⟩ := ks_eq ok hx
    rw [h4, List.mem_cons] at hy
    rcases hy with rfl | hy
    · exact hz
    · obtain ⟨u, hu, hy⟩ := List.mem_flatMap.mp hy
      have hl := len_flat (f := ksOf ls) hu
      rw [h4, List.length_cons] at hn
      rw [h4]
      exact List.mem_cons_of_mem _ (List.mem_flatMap.mpr ⟨u, hu, ks_trans ok n u y z (by omega) hy hz⟩)
theorem ks_tr (ok : LinOk ls) (hy : y ∈ ksOf ls x) (hz : z ∈ ksOf ls y) : z ∈ ksOf ls x := ks_trans ok _ x y z (Nat.le_refl _) hy hz
theorem ks_known (ok : LinOk ls) (hy : y ∈ ksOf ls x) : x ∈ nmsOf ls := by
  by_cases c : x ∈ nmsOf ls
  · exact c
  · unfold ksOf at hy
    rw [findE_none c] at hy
    simp at hy
/-- the first base that leads to r -/
def towF (ls : List LE) (y r : Str) : Option Str := match findE ls y with
  | some e => e.ups.find? fun b => decide (b = r) || decide (r ∈ ksOf ls b)
  | none => none
theorem find_step (ok : LinOk ls) {P : Str → Bool} (hP : ∀ u, P u = true → r ∈ ksOf ls u) (hr : P r = true) (hy : r ∈ ksOf ls y) (ny : P y = false) :
    ∃ b, towF ls y r = some b ∧ r ∈ ksOf ls b ∧ (ksOf ls b).length < (ksOf ls y).length ∧ (ksOf ls y).find? P = (ksOf ls b).find? P := by
  have yn := ks_known ok hy
  obtain ⟨e, h1, h2, h3, h4⟩ := ks_eq ok yn
  rw [h4, List.mem_cons] at hy
  have nr : r ≠ y := fun z => by rw [z, ny] at hr; cases hr
  have hy : r ∈ e.ups.flatMap (ksOf ls) := hy.resolve_left nr
  obtain ⟨u, hu, hru⟩ := List.mem_flatMap.mp hy
  unfold towF
  rw [h2]
  dsimp only
  cases c : e.ups.find? fun b => decide (b = r) || decide (r ∈ ksOf ls b) with
  | none =>
    have := List.find?_eq_none.mp c u hu
    simp [hru] at this
  | some b =>
    have hb : r ∈ ksOf ls b := by
      have := List.find?_some c
      rw [Bool.or_eq_true, decide_eq_true_eq, decide_eq_true_eq] at this
      rcases this with rfl | h
      · exact ok.self (ok.kss hru)
      · exact h
    obtain ⟨_, pre, post, hs, hpre⟩ := List.find?_eq_some_iff_append.mp c
    refine ⟨b, rfl, hb, ?_, ?_⟩
    · have := len_flat (f := ksOf ls) (List.mem_of_find?_eq_some c)
      rw [h4, List.length_cons]
      omega
    · rw [h4, List.find?_cons_of_neg (by rw [ny]; simp), hs, List.flatMap_append, List.flatMap_cons, List.find?_append, List.find?_append]
      have e1 : (pre.flatMap (ksOf ls)).find? P = none := by
        refine List.find?_eq_none.mpr fun v hv hp => ?_
        obtain ⟨w, hw, hv⟩ := List.mem_flatMap.mp hv
        have := hpre w hw
        have q : r ∈ ksOf ls w := ks_tr ok hv (hP v hp)
        simp [q] at this
      rw [e1, Option.none_or]
      cases e2 : (ksOf ls b).find? P with
      | some _ => rfl
      | none =>
        have := List.find?_eq_none.mp e2 r hb
        rw [hr] at this
        exact absurd rfl this
end
end My
namespace My
open PySem L2 RL
/-! while -/
theorem while_all {c : MT} {b : MS} (I : Nat → T → G → Prop) (Z : T → G → Prop) (hs : ∀ m τ g, I m τ g → (∃ g1, c τ g = .ok false g1 ∧ Z τ g1) ∨ ∃ g1 τ2 g2 m', c τ g = .ok true g1 ∧ b τ g1 = .nx τ2 g2 ∧ m' < m ∧ I m' τ2 g2) :
    ∀ (n m : Nat) (τ : T) (g : G), m < n → I m τ g → ∃ τ' g', whileGo c b n τ g = .nx τ' g' ∧ Z τ' g' := by
  intro n
  induction n with
  | zero => intro m τ g h; omega
  | succ n ih =>
    intro m τ g h hI
    unfold whileGo
    rcases hs m τ g hI with ⟨g1, h1, h2⟩ | ⟨g1, τ2, g2, m', h1, h2, h3, h4⟩
    · rw [h1]
      exact ⟨τ, g1, rfl, h2⟩
    · rw [h1]
      show ∃ τ' g', (if true = true then (match b τ g1 with
        | .nx τ2 g2 => whileGo c b n τ2 g2
        | .ct τ2 g2 => whileGo c b n τ2 g2
        | .bk τ2 g2 => .nx τ2 g2
        | r => r) else .nx τ g1) = .nx τ' g' ∧ Z τ' g'
      rw [if_pos rfl, h2]
      exact ih m' τ2 g2 (by omega) h4
end My
namespace My
open PySem L2 RL
/-! the library -/
structure LibA where
  (p sl o b q pk rt kd lv us : Nat)
def libO (A : LibA) : Ob := .ins "Library" [("_sealed", .ref A.sl), ("_outer", .ref A.o), ("_bases", .ref A.b), ("_lines", .ref A.q), ("_packages", .ref A.pk), ("_roots", .ref A.rt), ("_kinds", .ref A.kd), ("_levels", .ref A.lv), ("_uses", .ref A.us)]
structure LibSt where
  sealed : List (Str × D)
  ls : List LE
  packs : List (Str × D)
  roots : List (Str × Str)
  kinds : List (S2' × Str)
  levels : List (S3' × Str)
  uses : List (D × D)
structure LibG (g : G) (A : LibA) (s : LibSt) : Prop where
  obj : g[A.p]? = some (libO A)
  sl : g[A.sl]? = some (.dct false (sd s.sealed))
  lin : LinG g A.p A.o A.b A.q s.ls
  pk : g[A.pk]? = some (.dct false (sd s.packs))
  rt : g[A.rt]? = some (.dct false (sd (vs s.roots)))
  kd : g[A.kd]? = some (.dct false (RL.kd d2 (vs s.kinds)))
  lv : g[A.lv]? = some (.dct false (RL.kd d3 (vs s.levels)))
  ud : g[A.us]? = some (.dct false s.uses)
  nd : [A.p, A.sl, A.o, A.b, A.q, A.pk, A.rt, A.kd, A.lv, A.us].Nodup
  far : ∀ e ∈ s.ls, e.rl ∉ [A.p, A.sl, A.o, A.b, A.q, A.pk, A.rt, A.kd, A.lv, A.us]
structure MemOk (s : LibSt) : Prop where
  rk : ∀ o n, (o, n) ∈ s.kinds.map (·.1) → ∃ r, s.roots.lookup n = some r ∧ r ∈ ksOf s.ls o
  rr : ∀ n r, s.roots.lookup n = some r → (r, n) ∈ s.kinds.map (·.1)
  rn : (s.roots.map (·.1)).Nodup
def decB (s : LibSt) (n u : Str) : Bool := decide ((u, n) ∈ s.kinds.map (·.1))
section
variable {g : G} {A : LibA} {s : LibSt} {x y r n : Str}
theorem lib_fld {f : Str} {d : D} {cs : List Str} (h : LibG g A s) (hc : ("Library" : Str) ∈ cs) (hf : ([("_sealed", .ref A.sl), ("_outer", .ref A.o), ("_bases", .ref A.b), ("_lines", .ref A.q), ("_packages", .ref A.pk), ("_roots", .ref A.rt), ("_kinds", .ref A.kd), ("_levels", .ref A.lv), ("_uses", .ref A.us)] : List (Str × D)).lookup f = some d) : fFld cs f (.ref A.p) g = .ok d g := fld_ok h.obj hc hf
theorem lib_meth {cs : List Str} {k : Nat} {es : List D} {mf : List D → M D} {o : ME} {a : MA} {τ : RL.T} {l : List D} {res : Res D} {g0 g1 : G} (ho : o τ g0 = .ok (.ref A.p) g1) (h : LibG g1 A s) (hc : ("Library" : Str) ∈ cs) (ha : a τ g1 = .ok l g) (hl : l.length + 1 = k) (e : mf (.ref A.p :: (l ++ es)) g = res) : mMeth cs k es mf o a τ g0 = res := meth_ok ho h.obj hc ha hl e
theorem package_of (h : LibG g A s) : f_Library_package_of [.ref A.p, .str x] g = .ok ((s.packs.lookup x).getD .non) g := by
  have e := h.pk
  have f := lib_fld (f := "_packages") (cs := cs_Library) h (by simp) rfl
  exact run_rt (ret_ok (bm_ok (un_ok (ev_v rfl) f) (ty_dct e) (cons_ok (ev_v rfl) nil_ok) (get1_sd e)))
theorem ups_eq (ok : LinOk s.ls) (h : LibG g A s) (hy : y ∈ nmsOf s.ls) : ∃ e, findE s.ls y = some e ∧ fSubs (.ref A.b) (.str y) g = .ok (.tup (e.ups.map D.str)) g := by
  obtain ⟨e, he⟩ := findE_of hy
  refine ⟨e, he, subs_sd h.lin.bases ?_⟩
  rw [look_map, he]
  rfl
theorem base_towards (ok : LinOk s.ls) (h : LibG g A s) (hy : y ∈ nmsOf s.ls) : f_Library__base_towards [.ref A.p, .str y, .str r] g = .ok (optS (towF s.ls y r)) g := by
  obtain ⟨e, he, hs⟩ := ups_eq ok h hy
  have f := lib_fld (f := "_bases") (cs := cs_Lineage) h (by simp) rfl
  have lp := loop_find (mi := mSeqI (mOp fSubs (mUn (fFld cs_Lineage "_bases") (mV 0)) (mV 1))) (mg := gN 3) (mb := mIfS (mTest (mMeth cs_Lineage 3 [] f_Lineage_is_below (mV 0) (mCons (mV 3) (mCons (mV 2) mNil)))) (mRet (mV 3)) mNext) (x0 := none) e.ups (fun b => decide (b = r) || decide (r ∈ ksOf s.ls b)) (fun x3 => [some (.ref A.p), some (.str y), some (.str r), x3])
    (seqT_ok (ev2 (un_ok (ev_v rfl) f) (ev_v rfl) hs)) trivial rfl (fun _ _ => rfl) fun u _ => by
      have t := tst (lib_meth (cs := cs_Lineage) (es := []) (mf := f_Lineage_is_below) (o := mV 0) (a := mCons (mV 3) (mCons (mV 2) mNil)) (τ := [some (.ref A.p), some (.str y), some (.str r), some (.str u)]) (ev_v rfl) h (by simp) (cons_ok (ev_v rfl) (cons_ok (ev_v rfl) nil_ok)) rfl (is_below (x := u) (y := r) h.lin))
      cases c : decide (u = r) || decide (r ∈ ksOf s.ls u) with
      | true =>
        rw [c] at t
        rw [if_pos rfl]
        exact if_tr t (ret_ok (ev_v rfl))
      | false =>
        rw [c] at t
        rw [if_neg (by simp)]
        exact if_n2 t
  unfold f_Library__base_towards towF
  rw [he]
  dsimp only
  rcases lp with ⟨u, c, lp⟩ | ⟨c, x3, lp⟩
  · rw [c]
    exact run_rt (seq_rt lp)
  · rw [c]
    exact run_rt (seq_go lp (ret_ok ev_c))
/-- who has the member -/
theorem owner_of (ok : LinOk s.ls) (mo : MemOk s) (hz : s.ls.length ≤ 90) (h : LibG g A s) : f_Library_owner_of [.ref A.p, .str x, .str n] g = .ok (optS ((ksOf s.ls x).find? (decB s n))) g := by
  have f := lib_fld (f := "_roots") (cs := cs_Library) h (by simp) rfl
  have e := h.rt
  have s1 : mAsg (mBM .dct fGet (mUn (fFld cs_Library "_roots") (mV 0)) (mCons (mV 2) mNil)) (gN 3) [some (.ref A.p), some (.str x), some (.str n), none, none] g = .nx [some (.ref A.p), some (.str x), some (.str n), some (((s.roots.lookup n).map D.str).getD .non), none] g :=
    asg_ok (bm_ok (un_ok (ev_v rfl) f) (ty_dct e) (cons_ok (ev_v rfl) nil_ok) (by rw [get1_sd e, vs_lk]))
  unfold f_Library_owner_of
  refine run_rt (seq_go s1 ?_)
  cases c : s.roots.lookup n with
  | none =>
    have nf : (ksOf s.ls x).find? (decB s n) = none := List.find?_eq_none.mpr fun u hu hp => by
      obtain ⟨r, hr, _⟩ := mo.rk u n (of_decide_eq_true hp)
      rw [c] at hr
      cases hr
    rw [nf]
    exact seq_rt (if_tr (or_t (tst (un_ok (ev_v rfl) (isN_ok true _)))) (ret_ok ev_c))
  | some r =>
    have hr := mo.rr n r c
    have t1 : mOrT (mTest (mUn (fIsN true) (mV 3))) (mNotT (mTest (mMeth cs_Lineage 3 [] f_Lineage_is_below (mV 0) (mCons (mV 1) (mCons (mV 3) mNil))))) [some (.ref A.p), some (.str x), some (.str n), some (.str r), none] g = .ok (!(decide (x = r) || decide (r ∈ ksOf s.ls x))) g :=
      or_f (tst (un_ok (ev_v rfl) (isN_ok true _))) (not_ok (tst (lib_meth (ev_v rfl) h (by simp) (cons_ok (ev_v rfl) (cons_ok (ev_v rfl) nil_ok)) rfl (is_below h.lin))))
    have rn : r ∈ nmsOf s.ls := by
      obtain ⟨_, _, q⟩ := mo.rk r n hr
      exact ks_known ok q
    by_cases d : r ∈ ksOf s.ls x
    · rw [decide_eq_true d, Bool.or_true] at t1
      have s2 : mAsg (mV 1) (gN 4) [some (.ref A.p), some (.str x), some (.str n), some (.str r), none] g = .nx [some (.ref A.p), some (.str x), some (.str n), some (.str r), some (.str x)] g := asg_ok (ev_v rfl)
      have key := while_all (c := mTest (mOp fNot (mUnA fTup (mCons (mV 4) (mCons (mV 2) mNil))) (mUn (fFld cs_Library "_kinds") (mV 0)))) (b := mAsg (mMeth cs_Library 3 [] f_Library__base_towards (mV 0) (mCons (mV 4) (mCons (mV 3) mNil))) (gN 4))
        (fun m τ G => G = g ∧ ∃ y, τ = [some (.ref A.p), some (.str x), some (.str n), some (.str r), some (.str y)] ∧ m = (ksOf s.ls y).length ∧ r ∈ ksOf s.ls y ∧ (ksOf s.ls x).find? (decB s n) = (ksOf s.ls y).find? (decB s n))
        (fun τ G => G = g ∧ ∃ y, τ = [some (.ref A.p), some (.str x), some (.str n), some (.str r), some (.str y)] ∧ (ksOf s.ls x).find? (decB s n) = some y) (fun m τ G ⟨hG, y, hτ, hm, hy, hf⟩ => by
          subst hG hτ
          have yn := ks_known ok hy
          have t2 := tst (ev2 (τ := [some (.ref A.p), some (.str x), some (.str n), some (.str r), some (.str y)]) (una_ok (a := mCons (mV 4) (mCons (mV 2) mNil)) (cons_ok (ev_v rfl) (cons_ok (ev_v rfl) nil_ok)) (tup_ok (by simp))) (un_ok (e := mV 0) (ev_v rfl) (lib_fld (f := "_kinds") (cs := cs_Library) h (by simp) rfl)) (notin_d2 h.kd))
          rw [vs_keys] at t2
          cases cd : decB s n y with
          | true =>
            left
            refine ⟨G, ?_, rfl, y, rfl, ?_⟩
            · unfold decB at cd
              rw [cd] at t2
              exact t2
            · obtain ⟨e, h1, h2, h3, h4⟩ := ks_eq ok yn
              rw [hf, h4, List.find?_cons_of_pos cd]
          | false =>
            right
            obtain ⟨b, b1, b2, b3, b4⟩ := find_step ok (P := decB s n) (r := r) (y := y) (fun u hu => by
              obtain ⟨r', hr', q⟩ := mo.rk u n (of_decide_eq_true hu)
              rw [c] at hr'
              cases hr'
              exact q) (decide_eq_true hr) hy cd
            refine ⟨G, _, G, (ksOf s.ls b).length, ?_, asg_ok (lib_meth (ev_v rfl) h (by simp) (cons_ok (ev_v rfl) (cons_ok (ev_v rfl) nil_ok)) rfl (base_towards ok h yn)), by omega, rfl, b, by rw [b1]; rfl, rfl, b2, by rw [hf, b4]⟩
            unfold decB at cd
            rw [cd] at t2
            exact t2) FUEL (ksOf s.ls x).length [some (.ref A.p), some (.str x), some (.str n), some (.str r), some (.str x)] g (by have := ok.klen x; show _ < 1000000; omega) ⟨rfl, x, rfl, rfl, d, rfl⟩
      obtain ⟨_, _, k1, rfl, y, rfl, k2⟩ := key
      rw [k2]
      exact seq_go (if_n2 t1) (seq_go s2 (seq_go k1 (ret_ok (ev_v rfl))))
    · have xr : x ≠ r := fun z => d (by rw [z]; exact ok.self rn)
      rw [decide_eq_false d, decide_eq_false xr] at t1
      have nf : (ksOf s.ls x).find? (decB s n) = none := List.find?_eq_none.mpr fun u hu hp => by
        obtain ⟨r', hr', q⟩ := mo.rk u n (of_decide_eq_true hp)
        rw [c] at hr'
        cases hr'
        exact d (ks_tr ok hu q)
      rw [nf]
      exact seq_rt (if_tr t1 (ret_ok ev_c))
end
end My
namespace My
open PySem L2 RL
/-! the library: what is declared -/
def rootsAdd (s : LibSt) (o n : Str) : List (Str × Str) := if n ∈ s.roots.map (·.1) then s.roots else s.roots ++ [(n, o)]
def levsOf (o n k l : Str) (w : Option Str) : List (S3' × Str) := if k = ("field" : Str) then [((o, n, "read"), l), ((o, n, "write"), w.getD l)] else [((o, n, "call"), l)]
def memSt (s : LibSt) (o n k l : Str) (w : Option Str) : LibSt := { s with kinds := s.kinds ++ [((o, n), k)], roots := rootsAdd s o n, levels := s.levels ++ levsOf o n k l w }
def memG (g : G) (A : LibA) (s : LibSt) : G := ((g.set A.kd (.dct false (RL.kd d2 (vs s.kinds)))).set A.rt (.dct false (sd (vs s.roots)))).set A.lv (.dct false (RL.kd d3 (vs s.levels)))
def mayB (s : LibSt) (o n k : Str) : Bool := !decide (n = ("new" : Str)) && (match s.roots.lookup n with
  | none => true
  | some r => decide (k = ("method" : Str)) && (decide (s.kinds.lookup (r, n) = some ("method" : Str)) && (decide (o = r) || decide (r ∈ ksOf s.ls o))))
def memErr (s : LibSt) (o n k : Str) : Option Exc := if o ∉ nmsOf s.ls then some ⟨"Unknown", [("row", .non), ("what", .str o)]⟩ else if (o, n) ∈ s.kinds.map (·.1) then some ⟨"Taken", [("row", .non), ("what", .str n)]⟩ else if mayB s o n k = false then some ⟨"Misfit", [("row", .non), ("what", .str n)]⟩ else none
structure LevOk (s : LibSt) : Prop where
  lv : ∀ o n w, (o, n, w) ∈ s.levels.map (·.1) → (n = ("new" : Str) ∧ w = ("make" : Str) ∧ o ∈ nmsOf s.ls) ∨ (o, n) ∈ s.kinds.map (·.1)
  nn : ∀ o, (o, ("new" : Str)) ∉ s.kinds.map (·.1)
  z0 : s.ls.length ≤ 80
  y1 : s.levels.length ≤ 2 * s.kinds.length + s.ls.length
  y2 : s.kinds.length ≤ 400
  y3 : s.roots.length ≤ s.kinds.length
theorem LevOk.z1 {s : LibSt} (h : LevOk s) : s.levels.length ≤ 1000 := by
  obtain ⟨_, _, h0, h1, h2, h3⟩ := h
  omega
theorem LevOk.z2 {s : LibSt} (h : LevOk s) : s.kinds.length ≤ 1000 := by
  obtain ⟨_, _, h0, h1, h2, h3⟩ := h
  omega
theorem LevOk.z3 {s : LibSt} (h : LevOk s) : s.roots.length ≤ 1000 := by
  obtain ⟨_, _, h0, h1, h2, h3⟩ := h
  omega
section
variable {g : G} {A : LibA} {s : LibSt} {x y r n o k l : Str}
theorem may_declare (mo : MemOk s) (h : LibG g A s) : f_Library__may_declare [.ref A.p, .str o, .str n, .str k] g = .ok (.bl (mayB s o n k)) g := by
  have f1 := lib_fld (f := "_roots") (cs := cs_Library) h (by simp) rfl
  have f2 := lib_fld (f := "_kinds") (cs := cs_Library) h (by simp) rfl
  have t1 : mTest (mOp fEq (mV 2) (mC (.str "new"))) [some (.ref A.p), some (.str o), some (.str n), some (.str k), none] g = .ok (decide (n = ("new" : Str))) g := tst (ev2 (ev_v rfl) ev_c (eqS _ _))
  unfold f_Library__may_declare mayB
  by_cases c1 : n = ("new" : Str)
  · rw [decide_eq_true c1] at t1 ⊢
    exact run_rt (seq_rt (if_tr t1 (ret_ok ev_c)))
  · rw [decide_eq_false c1] at t1 ⊢
    have t2 := tst (ev2 (τ := [some (.ref A.p), some (.str o), some (.str n), some (.str k), none]) (a := mV 2) (ev_v rfl) (un_ok (e := mV 0) (ev_v rfl) f1) (notin_sd h.rt))
    rw [vs_keys, ← lk_isSome] at t2
    refine run_rt (seq_go (if_n2 t1) ?_)
    cases c2 : s.roots.lookup n with
    | none =>
      rw [c2] at t2
      exact seq_rt (if_tr t2 (ret_ok ev_c))
    | some r =>
      rw [c2] at t2
      have s1 : mAsg (mOp fSubs (mUn (fFld cs_Library "_roots") (mV 0)) (mV 2)) (gN 4) [some (.ref A.p), some (.str o), some (.str n), some (.str k), none] g = .nx [some (.ref A.p), some (.str o), some (.str n), some (.str k), some (.str r)] g :=
        asg_ok (ev2 (un_ok (ev_v rfl) f1) (ev_v rfl) (subs_sd h.rt (by rw [vs_lk, c2]; rfl)))
      refine seq_go (if_n2 t2) (seq_go s1 (ret_ok ?_))
      have e1 : mOp fEq (mV 3) (mC (.str "method")) [some (.ref A.p), some (.str o), some (.str n), some (.str k), some (.str r)] g = .ok (.bl (decide (k = ("method" : Str)))) g := ev2 (ev_v rfl) ev_c (eqS _ _)
      obtain ⟨v, hv⟩ := lk_of_mem (mo.rr n r c2)
      have e2 : mOp fEq (mOp fSubs (mUn (fFld cs_Library "_kinds") (mV 0)) (mUnA fTup (mCons (mV 4) (mCons (mV 2) mNil)))) (mC (.str "method")) [some (.ref A.p), some (.str o), some (.str n), some (.str k), some (.str r)] g = .ok (.bl (decide (v = ("method" : Str)))) g :=
        ev2 (ev2 (un_ok (ev_v rfl) f2) (una_ok (cons_ok (ev_v rfl) (cons_ok (ev_v rfl) nil_ok)) (tup_ok (by simp))) (subs_d2 h.kd (d := .str v) (by rw [vs_lk, hv]; rfl))) ev_c (eqS _ _)
      have e3 : mMeth cs_Lineage 3 [] f_Lineage_is_below (mV 0) (mCons (mV 1) (mCons (mV 4) mNil)) [some (.ref A.p), some (.str o), some (.str n), some (.str k), some (.str r)] g = .ok (.bl (decide (o = r) || decide (r ∈ ksOf s.ls o))) g :=
        lib_meth (ev_v rfl) h (by simp) (cons_ok (ev_v rfl) (cons_ok (ev_v rfl) nil_ok)) rfl (is_below h.lin)
      dsimp only
      rw [hv]
      have e4 : decide (some v = some ("method" : Str)) = decide (v = ("method" : Str)) := by simp
      rw [e4]
      cases d1 : decide (k = ("method" : Str)) with
      | false =>
        rw [d1] at e1
        exact andE_f e1
      | true =>
        rw [d1] at e1
        refine andE_t e1 ?_
        cases d2 : decide (v = ("method" : Str)) with
        | false =>
          rw [d2] at e2
          exact andE_f e2
        | true =>
          rw [d2] at e2
          exact andE_t e2 e3
theorem set_same {m : Nat} {o : Ob} {g : G} (h : g[m]? = some o) : g.set m o = g := by
  apply List.ext_getElem?
  intro i
  by_cases e : i = m
  · subst e
    rw [List.getElem?_set_self (lt_of_get h), h]
  · rw [List.getElem?_set_ne (Ne.symm e)]
theorem set_swap {g : G} {a b : Nat} {x y : Ob} (h : a ≠ b) : (g.set a x).set b y = (g.set b y).set a x := List.set_comm x y h
theorem vs_snoc {K : Type} (l : List (K × Str)) (k : K) (v : Str) : vs l ++ [(k, D.str v)] = vs (l ++ [(k, v)]) := by simp [vs]
abbrev stM (A : LibA) (o n k l : Str) (w : Option Str) : RL.T := [some (.ref A.p), some (.str o), some (.str n), some (.str k), some (.str l), some (optS w)]
theorem add_member_bad {w : Option Str} {e : Exc} (mo : MemOk s) (h : LibG g A s) (he : memErr s o n k = some e) : f_Library_add_member [.ref A.p, .str o, .str n, .str k, .str l, optS w] g = .exc e g := by
  have f2 := lib_fld (f := "_kinds") (cs := cs_Library) h (by simp) rfl
  have c0 := check_known (x := o) h.lin
  have t1 := tst (ev2 (τ := stM A o n k l w) (una_ok (a := mCons (mV 1) (mCons (mV 2) mNil)) (cons_ok (ev_v rfl) (cons_ok (ev_v rfl) nil_ok)) (tup_ok (by simp))) (un_ok (e := mV 0) (ev_v rfl) f2) (in_d2 h.kd))
  rw [vs_keys] at t1
  have t2 := not_ok (tst (lib_meth (cs := cs_Library) (k := 4) (es := []) (mf := f_Library__may_declare) (o := mV 0) (a := mCons (mV 1) (mCons (mV 2) (mCons (mV 3) mNil))) (τ := stM A o n k l w) (ev_v rfl) h (by simp) (cons_ok (ev_v rfl) (cons_ok (ev_v rfl) (cons_ok (ev_v rfl) nil_ok))) rfl (may_declare (o := o) (n := n) (k := k) mo h)))
  unfold memErr at he
  unfold f_Library_add_member
  refine run_ex (τ' := stM A o n k l w) ?_
  by_cases c1 : o ∈ nmsOf s.ls
  · rw [if_pos c1] at c0
    rw [if_neg (by simpa using c1)] at he
    have s0 : mDrop (mMeth cs_Lineage 2 [] f_Lineage__check_known (mV 0) (mCons (mV 1) mNil)) (stM A o n k l w) g = .nx (stM A o n k l w) g := drop_ok (lib_meth (ev_v rfl) h (by simp) (cons_ok (ev_v rfl) nil_ok) rfl c0)
    refine seq_go s0 ?_
    by_cases c2 : (o, n) ∈ s.kinds.map (·.1)
    · rw [if_pos c2] at he
      cases he
      rw [decide_eq_true c2] at t1
      exact seq_ex (if_tr t1 (raise_ok (cons_ok (ev_v rfl) nil_ok) exc1_str))
    · rw [if_neg c2] at he
      rw [decide_eq_false c2] at t1
      refine seq_go (if_n2 t1) ?_
      by_cases c3 : mayB s o n k = false
      · rw [if_pos c3] at he
        cases he
        rw [c3] at t2
        exact seq_ex (if_tr t2 (raise_ok (cons_ok (ev_v rfl) nil_ok) exc1_str))
      · rw [if_neg c3] at he
        cases he
  · rw [if_neg c1] at c0
    rw [if_pos c1] at he
    cases he
    exact seq_ex (drop_ex (lib_meth (ev_v rfl) h (by simp) (cons_ok (ev_v rfl) nil_ok) rfl c0))
theorem add_member_good {w : Option Str} (mo : MemOk s) (lo : LevOk s) (h : LibG g A s) (he : memErr s o n k = none) : f_Library_add_member [.ref A.p, .str o, .str n, .str k, .str l, optS w] g = .ok .non (memG g A (memSt s o n k l w)) := by
  have f2 := lib_fld (f := "_kinds") (cs := cs_Library) h (by simp) rfl
  have c0 := check_known (x := o) h.lin
  have t1 := tst (ev2 (τ := stM A o n k l w) (una_ok (a := mCons (mV 1) (mCons (mV 2) mNil)) (cons_ok (ev_v rfl) (cons_ok (ev_v rfl) nil_ok)) (tup_ok (by simp))) (un_ok (e := mV 0) (ev_v rfl) f2) (in_d2 h.kd))
  rw [vs_keys] at t1
  have t2 := not_ok (tst (lib_meth (cs := cs_Library) (k := 4) (es := []) (mf := f_Library__may_declare) (o := mV 0) (a := mCons (mV 1) (mCons (mV 2) (mCons (mV 3) mNil))) (τ := stM A o n k l w) (ev_v rfl) h (by simp) (cons_ok (ev_v rfl) (cons_ok (ev_v rfl) (cons_ok (ev_v rfl) nil_ok))) rfl (may_declare (o := o) (n := n) (k := k) mo h)))
  unfold memErr at he
  unfold f_Library_add_member
  refine run_nx (τ' := stM A o n k l w) ?_
  have c1 : o ∈ nmsOf s.ls := Classical.byContradiction fun c => by rw [if_pos c] at he; cases he
  rw [if_pos c1] at c0
  rw [if_neg (by simpa using c1)] at he
  have s0 : mDrop (mMeth cs_Lineage 2 [] f_Lineage__check_known (mV 0) (mCons (mV 1) mNil)) (stM A o n k l w) g = .nx (stM A o n k l w) g := drop_ok (lib_meth (ev_v rfl) h (by simp) (cons_ok (ev_v rfl) nil_ok) rfl c0)
  refine seq_go s0 ?_
  have c2 : (o, n) ∉ s.kinds.map (·.1) := fun c => by rw [if_pos c] at he; cases he
  rw [if_neg c2] at he
  rw [decide_eq_false c2] at t1
  refine seq_go (if_n2 t1) ?_
  have c3 : mayB s o n k = true := by
    cases c : mayB s o n k with
    | true => rfl
    | false => rw [if_pos c] at he; cases he
  rw [c3] at t2
  refine seq_go (if_n2 t2) ?_
  have nd := h.nd
  simp only [List.nodup_cons, List.mem_cons, List.not_mem_nil, not_or, or_false] at nd
  obtain ⟨⟨p1, p2, p3, p4, p5, p6, p7, p8, p9⟩, _, _, _, _, _, ⟨r1, r2, _⟩, ⟨k1, _⟩, _⟩ := nd
  -- kinds
  have w1 := set_d2 (τ := stM A o n k l w) (e := mV 3) (o := mUn (fFld cs_Library "_kinds") (mV 0)) (i := mUnA fTup (mCons (mV 1) (mCons (mV 2) mNil))) (v := .str k) (ev_v rfl) (un_ok (ev_v rfl) f2) (una_ok (cons_ok (ev_v rfl) (cons_ok (ev_v rfl) nil_ok)) (tup_ok (by simp))) h.kd (by rw [vs_lk, lk_none.mpr c2]; rfl) (by rw [vs_len]; have := lo.z2; omega)
  rw [vs_snoc] at w1
  refine seq_go w1 ?_
  -- roots
  have o1 : (g.set A.kd (.dct false (RL.kd d2 (vs (s.kinds ++ [((o, n), k)])))))[A.p]? = some (libO A) := set_ne h.obj p7
  have f3 : fFld cs_Library "_roots" (.ref A.p) (g.set A.kd (.dct false (RL.kd d2 (vs (s.kinds ++ [((o, n), k)]))))) = .ok (.ref A.rt) _ := fld_ok o1 (by simp) rfl
  have rt1 : (g.set A.kd (.dct false (RL.kd d2 (vs (s.kinds ++ [((o, n), k)])))))[A.rt]? = some (.dct false (sd (vs s.roots))) := set_ne h.rt r1
  have lv1 : (g.set A.kd (.dct false (RL.kd d2 (vs (s.kinds ++ [((o, n), k)])))))[A.lv]? = some (.dct false (RL.kd d3 (vs s.levels))) := set_ne h.lv (Ne.symm k1)
  have eG : ∀ G, G = g.set A.kd (.dct false (RL.kd d2 (vs (s.kinds ++ [((o, n), k)])))) → memG g A (memSt s o n k l w) = (G.set A.rt (.dct false (sd (vs (rootsAdd s o n))))).set A.lv (.dct false (RL.kd d3 (vs (s.levels ++ levsOf o n k l w)))) := fun G e => by rw [e]; rfl
  rw [eG _ rfl]
  generalize g.set A.kd (.dct false (RL.kd d2 (vs (s.kinds ++ [((o, n), k)])))) = g1 at *
  have w2 : mDrop (mBM .dct fSetd (mUn (fFld cs_Library "_roots") (mV 0)) (mCons (mV 2) (mCons (mV 1) mNil))) (stM A o n k l w) g1 = .nx (stM A o n k l w) (g1.set A.rt (.dct false (sd (vs (rootsAdd s o n))))) := by
    unfold rootsAdd
    by_cases c : n ∈ s.roots.map (·.1)
    · obtain ⟨r, hr⟩ := lk_of_mem c
      rw [if_pos c, set_same rt1]
      exact drop_ok (bm_ok (un_ok (ev_v rfl) f3) (ty_dct rt1) (cons_ok (ev_v rfl) (cons_ok (ev_v rfl) nil_ok)) (setd_old rt1 (by rw [vs_len]; have := lo.z3; omega) (d := .str r) (by rw [vs_lk, hr]; rfl)))
    · rw [if_neg c, ← vs_snoc]
      exact drop_ok (bm_ok (un_ok (ev_v rfl) f3) (ty_dct rt1) (cons_ok (ev_v rfl) (cons_ok (ev_v rfl) nil_ok)) (setd_new rt1 (by rw [vs_len]; have := lo.z3; omega) (by rw [vs_lk, lk_none.mpr c]; rfl)))
  refine seq_go w2 ?_
  have o2 : (g1.set A.rt (.dct false (sd (vs (rootsAdd s o n)))))[A.p]? = some (libO A) := set_ne o1 p6
  have lv2 : (g1.set A.rt (.dct false (sd (vs (rootsAdd s o n)))))[A.lv]? = some (.dct false (RL.kd d3 (vs s.levels))) := set_ne lv1 (Ne.symm r2)
  generalize g1.set A.rt (.dct false (sd (vs (rootsAdd s o n)))) = g2 at *
  -- levels
  have f4 : fFld cs_Library "_levels" (.ref A.p) g2 = .ok (.ref A.lv) _ := fld_ok o2 (by simp) rfl
  have fresh : ∀ wy : Str, wy ≠ ("make" : Str) → s.levels.lookup (o, n, wy) = none := fun wy hw => lk_none.mpr fun hm => by
    rcases lo.lv o n wy hm with ⟨_, h2, _⟩ | h2
    · exact hw h2
    · exact c2 h2
  have t3 : mTest (mOp fEq (mV 3) (mC (.str "field"))) (stM A o n k l w) g2 = .ok (decide (k = ("field" : Str))) g2 := tst (ev2 (ev_v rfl) ev_c (eqS _ _))
  by_cases c4 : k = ("field" : Str)
  · rw [decide_eq_true c4] at t3
    have w3 := set_d3 (τ := stM A o n k l w) (e := mV 4) (o := mUn (fFld cs_Library "_levels") (mV 0)) (i := mUnA fTup (mCons (mV 1) (mCons (mV 2) (mCons (mC (.str "read")) mNil)))) (v := .str l) (ev_v rfl) (un_ok (ev_v rfl) f4) (una_ok (cons_ok (ev_v rfl) (cons_ok (ev_v rfl) (cons_ok ev_c nil_ok))) (tup_ok (by simp))) lv2 (by rw [vs_lk, fresh "read" (by decide)]; rfl) (by rw [vs_len]; have := lo.z1; omega)
    rw [vs_snoc] at w3
    have f5 : fFld cs_Library "_levels" (.ref A.p) (g2.set A.lv (.dct false (RL.kd d3 (vs (s.levels ++ [((o, n, ("read" : Str)), l)]))))) = .ok (.ref A.lv) _ := fld_ok (set_ne o2 p8) (by simp) rfl
    have ew : mIf (mTest (mUn (fIsN true) (mV 5))) (mV 4) (mV 5) (stM A o n k l w) (g2.set A.lv (.dct false (RL.kd d3 (vs (s.levels ++ [((o, n, ("read" : Str)), l)]))))) = .ok (.str (w.getD l)) (g2.set A.lv (.dct false (RL.kd d3 (vs (s.levels ++ [((o, n, ("read" : Str)), l)]))))) := by
      cases w with
      | none => exact ifE_t (tst (un_ok (ev_v rfl) (isN_ok true _))) (ev_v rfl)
      | some v => exact ifE_f (tst (un_ok (ev_v rfl) (isN_ok true _))) (ev_v rfl)
    have w4 := set_d3 (τ := stM A o n k l w) (e := mIf (mTest (mUn (fIsN true) (mV 5))) (mV 4) (mV 5)) (o := mUn (fFld cs_Library "_levels") (mV 0)) (i := mUnA fTup (mCons (mV 1) (mCons (mV 2) (mCons (mC (.str "write")) mNil)))) ew (un_ok (ev_v rfl) f5) (una_ok (cons_ok (ev_v rfl) (cons_ok (ev_v rfl) (cons_ok ev_c nil_ok))) (tup_ok (by simp))) (set_get (lt_of_get lv2)) (by
      have nw : (o, n, ("write" : Str)) ∉ ([((o, n, ("read" : Str)), l)] : List (S3' × Str)).map (·.1) := fun z => by
        have z := (Prod.mk.inj (Prod.mk.inj (List.mem_singleton.mp z)).2).2
        exact absurd z (by decide)
      rw [vs_lk, lk_app2 (fresh "write" (by decide)), lk_none.mpr nw]
      rfl) (by rw [vs_len, List.length_append]; have := lo.z1; simp; omega)
    rw [vs_snoc, List.set_set, List.append_assoc] at w4
    refine (if_tr t3 (seq_go w3 (w4.trans ?_)))
    unfold levsOf
    rw [if_pos c4]
    rfl
  · rw [decide_eq_false c4] at t3
    have w3 := set_d3 (τ := stM A o n k l w) (e := mV 4) (o := mUn (fFld cs_Library "_levels") (mV 0)) (i := mUnA fTup (mCons (mV 1) (mCons (mV 2) (mCons (mC (.str "call")) mNil)))) (v := .str l) (ev_v rfl) (un_ok (ev_v rfl) f4) (una_ok (cons_ok (ev_v rfl) (cons_ok (ev_v rfl) (cons_ok ev_c nil_ok))) (tup_ok (by simp))) lv2 (by rw [vs_lk, fresh "call" (by decide)]; rfl) (by rw [vs_len]; have := lo.z1; omega)
    rw [vs_snoc] at w3
    refine (if_fr t3 (w3.trans ?_))
    unfold levsOf
    rw [if_neg c4]
end
end My
namespace My
open PySem L2 RL
/-! the library: classes, levels, marks, packages -/
def newMark (nm : Str) : S3' := (nm, ("new" : Str), ("make" : Str))
def clsSt (s : LibSt) (nm : Str) (out : D) (us : List Str) (pd : D) (mk : Str) (rl ru : Nat) : LibSt := { s with ls := s.ls ++ [ent s.ls nm out us rl ru], packs := s.packs ++ [(nm, pd)], levels := s.levels ++ [(newMark nm, mk)] }
def clsG (g X : G) (A : LibA) (s : LibSt) (nm : Str) (out : D) (us : List Str) (pd : D) (mk : Str) : G := ((linkG g X A.o A.b A.q s.ls nm out us).set A.pk (.dct false (sd (s.packs ++ [(nm, pd)])))).set A.lv (.dct false (RL.kd d3 (vs (s.levels ++ [(newMark nm, mk)]))))
/-- the ways of the marks are those of the kinds -/
def KOk (s : LibSt) : Prop := ∀ o n w, (o, n, w) ∈ s.levels.map (·.1) → (n = ("new" : Str) ∧ w = ("make" : Str)) ∨ ∃ r k, s.roots.lookup n = some r ∧ s.kinds.lookup (r, n) = some k ∧ (o, n) ∈ s.kinds.map (·.1) ∧ (k = ("field" : Str) → w = ("read" : Str) ∨ w = ("write" : Str)) ∧ (k ≠ ("field" : Str) → w = ("call" : Str))
structure LibOk (s : LibSt) : Prop where
  lin : LinOk s.ls
  mem : MemOk s
  lev : LevOk s
  pk : s.packs.map (·.1) = nmsOf s.ls
  z : s.ls.length ≤ 80
  kw : KOk s
def packD (s : LibSt) (pk out : D) : D := match out with
  | .str o => (s.packs.lookup o).getD .non
  | _ => pk
theorem nd_of {A : LibA} {P : Prop} (nd : [A.p, A.sl, A.o, A.b, A.q, A.pk, A.rt, A.kd, A.lv, A.us].Nodup) (f : A.p ≠ A.sl ∧ A.p ≠ A.o ∧ A.p ≠ A.b ∧ A.p ≠ A.q ∧ A.p ≠ A.pk ∧ A.p ≠ A.rt ∧ A.p ≠ A.kd ∧ A.p ≠ A.lv ∧ A.sl ≠ A.o ∧ A.sl ≠ A.b ∧ A.sl ≠ A.q ∧ A.sl ≠ A.pk ∧ A.sl ≠ A.rt ∧ A.sl ≠ A.kd ∧ A.sl ≠ A.lv ∧ A.o ≠ A.b ∧ A.o ≠ A.q ∧ A.o ≠ A.pk ∧ A.o ≠ A.rt ∧ A.o ≠ A.kd ∧ A.o ≠ A.lv ∧ A.b ≠ A.q ∧ A.b ≠ A.pk ∧ A.b ≠ A.rt ∧ A.b ≠ A.kd ∧ A.b ≠ A.lv ∧ A.q ≠ A.pk ∧ A.q ≠ A.rt ∧ A.q ≠ A.kd ∧ A.q ≠ A.lv ∧ A.pk ≠ A.rt ∧ A.pk ≠ A.kd ∧ A.pk ≠ A.lv ∧ A.rt ≠ A.kd ∧ A.rt ≠ A.lv ∧ A.kd ≠ A.lv → P) : P := by
  simp only [List.nodup_cons, List.mem_cons, List.not_mem_nil, not_or, or_false] at nd
  obtain ⟨⟨a1, a2, a3, a4, a5, a6, a7, a8, _⟩, ⟨b2, b3, b4, b5, b6, b7, b8, _⟩, ⟨c3, c4, c5, c6, c7, c8, _⟩, ⟨d4, d5, d6, d7, d8, _⟩, ⟨e5, e6, e7, e8, _⟩, ⟨f6, f7, f8, _⟩, ⟨g7, g8, _⟩, ⟨h8, _⟩, _⟩ := nd
  exact f ⟨a1, a2, a3, a4, a5, a6, a7, a8, b2, b3, b4, b5, b6, b7, b8, c3, c4, c5, c6, c7, c8, d4, d5, d6, d7, d8, e5, e6, e7, e8, f6, f7, f8, g7, g8, h8⟩
section
variable {g : G} {A : LibA} {s : LibSt} {x y r n o k l nm mk : Str}
theorem lib_methK {cs : List Str} {k : Nat} {ks : List Str} {gD : List D → List D → List D} {mf : List D → M D} {o : ME} {a b : MA} {τ : RL.T} {l z : List D} {res : Res D} {g0 g1 g2 : G} (ho : o τ g0 = .ok (.ref A.p) g1) (h : LibG g1 A s) (hc : ("Library" : Str) ∈ cs) (ha : a τ g1 = .ok l g2) (hb : b τ g2 = .ok z g) (hl : l.length + 1 = k) (hz : z.length = ks.length) (e : mf (gD (.ref A.p :: l) z) g = res) : mMethK cs k ks gD mf o a b τ g0 = res := methK_ok ho h.obj hc ha hb hl hz e
/-- everything but the lineage stays when a class is linked -/
theorem add_later_good {out pk d : D} {us : List Str} (ok : LibOk s) (h : LibG g A s) (ho : out = .non ∨ ∃ o, out = .str o) (hd : fTuple [d] g = .ok (.tup (us.map D.str)) g) (hz : us.length ≤ 1000) (he : linkErr s.ls nm out us = none) :
    ∃ X : List Ob, f_Library_add_later [.ref A.p, .str nm, pk, out, d] g = .ok .non ((linkG g X A.o A.b A.q s.ls nm out us).set A.pk (.dct false (sd (s.packs ++ [(nm, packD s pk out)])))) ∧ Gx [A.o, A.b, A.q] g (linkG g X A.o A.b A.q s.ls nm out us) ∧ g.length ≤ (g ++ X).length ∧ (g ++ X).length < (linkG g X A.o A.b A.q s.ls nm out us).length ∧
      ∀ ru, LinG (linkG g X A.o A.b A.q s.ls nm out us) A.p A.o A.b A.q (s.ls ++ [ent s.ls nm out us (g ++ X).length ru]) ∧ LinOk (s.ls ++ [ent s.ls nm out us (g ++ X).length ru]) := by
  have hzz := ok.z
  obtain ⟨X, e1, gx, e3, e4, e5⟩ := link_x (nm := nm) h.lin ok.lin ho hd hz (by omega) he
  refine ⟨X, ?_, gx, e3, e4, e5⟩
  refine nd_of h.nd fun nd => ?_
  obtain ⟨a1, a2, a3, a4, a5, a6, a7, a8, b2, b3, b4, b5, b6, b7, b8, c3, c4, c5, c6, c7, c8, d4, d5, d6, d7, d8, e5', e6, e7, e8, f6, f7, f8, g7, g8, h8⟩ := nd
  have nn : nm ∉ nmsOf s.ls := fun c => by
    unfold linkErr nameErr at he
    rw [if_pos c] at he
    cases he
  have s1 : mDrop (mMethK cs_Lineage 2 ["inside", "bases"] gd_Lineage_link_2_inside_bases f_Lineage_link (mV 0) (mCons (mV 1) mNil) (mCons (mV 3) (mCons (mV 4) mNil))) [some (.ref A.p), some (.str nm), some pk, some out, some d] g = .nx [some (.ref A.p), some (.str nm), some pk, some out, some d] (linkG g X A.o A.b A.q s.ls nm out us) :=
    drop_ok (lib_methK (ev_v rfl) h (by simp) (cons_ok (ev_v rfl) nil_ok) (cons_ok (ev_v rfl) (cons_ok (ev_v rfl) nil_ok)) rfl rfl e1)
  have ob1 := gx.get h.obj (by simp only [List.mem_cons, List.not_mem_nil, or_false, not_or]; exact ⟨a2, a3, a4⟩)
  have pk1 := gx.get h.pk (by simp only [List.mem_cons, List.not_mem_nil, or_false, not_or]; exact ⟨Ne.symm c5, Ne.symm d5, Ne.symm e5'⟩)
  generalize linkG g X A.o A.b A.q s.ls nm out us = g1 at *
  unfold f_Library_add_later
  refine run_nx (τ' := [some (.ref A.p), some (.str nm), some pk, some out, some d]) (seq_go s1 ?_)
  have fp : fFld cs_Library "_packages" (.ref A.p) g1 = .ok (.ref A.pk) g1 := fld_ok ob1 (by simp) rfl
  refine set_sd ?_ (un_ok (ev_v rfl) fp) (ev_v rfl) pk1 (by rw [ok.pk]; exact nn) (by
    have : s.packs.length = s.ls.length := by rw [← List.length_map (f := (·.1)), ok.pk]; simp [nmsOf]
    omega)
  rcases ho with rfl | ⟨o', rfl⟩
  · exact ifE_t (tst (un_ok (ev_v rfl) (isN_ok true _))) (ev_v rfl)
  · refine ifE_f (tst (un_ok (ev_v rfl) (isN_ok true _))) (meth_ok (ev_v rfl) ob1 (by simp) (cons_ok (ev_v rfl) nil_ok) rfl ?_)
    exact run_rt (ret_ok (bm_ok (un_ok (ev_v rfl) fp) (ty_dct pk1) (cons_ok (ev_v rfl) nil_ok) (get1_sd pk1)))
theorem add_class_good {out pk d : D} {us : List Str} (ok : LibOk s) (h : LibG g A s) (ho : out = .non ∨ ∃ o, out = .str o) (hd : fTuple [d] g = .ok (.tup (us.map D.str)) g) (hz : us.length ≤ 1000) (he : linkErr s.ls nm out us = none) (hp : out = .non → ∃ q, pk = .str q ∧ q ∈ s.sealed.map (·.1)) :
    ∃ X : List Ob, f_Library_add_class [.ref A.p, .str nm, .str mk, pk, out, d] g = .ok .non (clsG g X A s nm out us (packD s pk out) mk) ∧ ∀ ru, LibG (clsG g X A s nm out us (packD s pk out) mk) A (clsSt s nm out us (packD s pk out) mk (g ++ X).length ru) ∧ LinOk (clsSt s nm out us (packD s pk out) mk (g ++ X).length ru).ls := by
  obtain ⟨X, e1, gx, e3, e4, e5⟩ := add_later_good (nm := nm) (pk := pk) ok h ho hd hz he
  have nn : nm ∉ nmsOf s.ls := fun c => by
    unfold linkErr nameErr at he
    rw [if_pos c] at he
    cases he
  have en : nameErr s.ls nm out = none := by
    unfold linkErr at he
    cases c : nameErr s.ls nm out with
    | none => rfl
    | some _ => rw [c] at he; cases he
  have c0 := check_name (nm := nm) h.lin ho
  rw [en] at c0
  have big : ∀ z ∈ [A.p, A.sl, A.o, A.b, A.q, A.pk, A.rt, A.kd, A.lv], z < g.length := by
    simp only [List.mem_cons, List.not_mem_nil, or_false, forall_eq_or_imp, forall_eq]
    exact ⟨lt_of_get h.obj, lt_of_get h.sl, lt_of_get h.lin.outer, lt_of_get h.lin.bases, lt_of_get h.lin.lines, lt_of_get h.pk, lt_of_get h.rt, lt_of_get h.kd, lt_of_get h.lv⟩
  refine ⟨X, ?_, fun ru => ?_⟩
  · refine nd_of h.nd fun nd => ?_
    obtain ⟨a1, a2, a3, a4, a5, a6, a7, a8, b2, b3, b4, b5, b6, b7, b8, c3, c4, c5, c6, c7, c8, d4, d5, d6, d7, d8, e5', e6, e7, e8, f6, f7, f8, g7, g8, h8⟩ := nd
    have s1 : mDrop (mMeth cs_Lineage 3 [] f_Lineage__check_name (mV 0) (mCons (mV 1) (mCons (mV 4) mNil))) [some (.ref A.p), some (.str nm), some (.str mk), some pk, some out, some d] g = .nx [some (.ref A.p), some (.str nm), some (.str mk), some pk, some out, some d] g :=
      drop_ok (lib_meth (ev_v rfl) h (by simp) (cons_ok (ev_v rfl) (cons_ok (ev_v rfl) nil_ok)) rfl c0)
    have t1 : mTest (mUn (fIsN true) (mV 4)) [some (.ref A.p), some (.str nm), some (.str mk), some pk, some out, some d] g = .ok (decide (out = .non)) g := tst (un_ok (ev_v rfl) (isN_ok true _))
    have t2 : mAndT (mTest (mUn (fIsN true) (mV 4))) (mTest (mOp fNot (mV 3) (mUn (fFld cs_Packages "_sealed") (mV 0)))) [some (.ref A.p), some (.str nm), some (.str mk), some pk, some out, some d] g = .ok false g := by
      by_cases c : out = .non
      · obtain ⟨q, rfl, hq⟩ := hp c
        rw [decide_eq_true c] at t1
        have := notin_sd (x := q) h.sl
        rw [decide_eq_true hq] at this
        exact and_t t1 (tst (ev2 (ev_v rfl) (un_ok (ev_v rfl) (lib_fld h (by simp) rfl)) this))
      · rw [decide_eq_false c] at t1
        exact and_f t1
    unfold f_Library_add_class
    refine run_nx (τ' := [some (.ref A.p), some (.str nm), some (.str mk), some pk, some out, some d]) (seq_go s1 (seq_go (if_n2 t2) ?_))
    have s2 : mDrop (mMethK cs_Library 2 ["package", "inside", "bases"] gd_Library_add_later_2_package_inside_bases f_Library_add_later (mV 0) (mCons (mV 1) mNil) (mCons (mV 3) (mCons (mV 4) (mCons (mV 5) mNil)))) [some (.ref A.p), some (.str nm), some (.str mk), some pk, some out, some d] g = .nx [some (.ref A.p), some (.str nm), some (.str mk), some pk, some out, some d] _ :=
      drop_ok (lib_methK (ev_v rfl) h (by simp) (cons_ok (ev_v rfl) nil_ok) (cons_ok (ev_v rfl) (cons_ok (ev_v rfl) (cons_ok (ev_v rfl) nil_ok))) rfl rfl e1)
    refine seq_go s2 ?_
    have ob1 := set_ne (n := A.pk) (o' := .dct false (sd (s.packs ++ [(nm, packD s pk out)]))) (gx.get h.obj (by simp only [List.mem_cons, List.not_mem_nil, or_false, not_or]; exact ⟨a2, a3, a4⟩)) a5
    have lv1 := set_ne (n := A.pk) (o' := .dct false (sd (s.packs ++ [(nm, packD s pk out)]))) (gx.get h.lv (by simp only [List.mem_cons, List.not_mem_nil, or_false, not_or]; exact ⟨Ne.symm c8, Ne.symm d8, Ne.symm e8⟩)) (Ne.symm f8)
    have w := set_d3 (τ := [some (.ref A.p), some (.str nm), some (.str mk), some pk, some out, some d]) (e := mV 2) (o := mUn (fFld cs_Library "_levels") (mV 0)) (i := mUnA fTup (mCons (mV 1) (mCons (mC (.str "new")) (mCons (mC (.str "make")) mNil)))) (v := .str mk) (ev_v rfl) (un_ok (ev_v rfl) (fld_ok ob1 (by simp) rfl)) (una_ok (cons_ok (ev_v rfl) (cons_ok ev_c (cons_ok ev_c nil_ok))) (tup_ok (by simp))) lv1 (by
      rw [vs_lk, lk_none.mpr fun hm => ?_]
      · rfl
      · rcases ok.lev.lv _ _ _ hm with ⟨_, _, h3⟩ | h3
        · exact nn h3
        · exact ok.lev.nn _ h3) (by rw [vs_len]; have := ok.lev.z1; omega)
    rw [vs_snoc] at w
    exact w
  · refine nd_of h.nd fun nd => ?_
    obtain ⟨a1, a2, a3, a4, a5, a6, a7, a8, b2, b3, b4, b5, b6, b7, b8, c3, c4, c5, c6, c7, c8, d4, d5, d6, d7, d8, e5', e6, e7, e8, f6, f7, f8, g7, g8, h8⟩ := nd
    obtain ⟨l1, l2⟩ := e5 ru
    have big2 : ∀ z ∈ [A.p, A.sl, A.o, A.b, A.q, A.pk, A.rt, A.kd, A.lv, A.us], z < g.length := fun z hz => by
      by_cases c : z = A.us
      · rw [c]; exact lt_of_get h.ud
      · refine big z ?_
        simp only [List.mem_cons, List.not_mem_nil, or_false] at hz ⊢
        omega
    have farE : ∀ e ∈ s.ls ++ [ent s.ls nm out us (g ++ X).length ru], e.rl ∉ [A.p, A.sl, A.o, A.b, A.q, A.pk, A.rt, A.kd, A.lv, A.us] := fun e he => by
      rcases List.mem_append.mp he with he | he
      · exact h.far e he
      · rw [List.mem_singleton.mp he]
        intro hm
        have := big2 _ hm
        have e : (ent s.ls nm out us (g ++ X).length ru).rl = (g ++ X).length := rfl
        omega
    have gx2 : Gx [A.pk, A.lv] (linkG g X A.o A.b A.q s.ls nm out us) (clsG g X A s nm out us (packD s pk out) mk) := (Gx.set (by simp)).trans (Gx.set (by simp)) fun _ h => h
    have gx3 : Gx [A.o, A.b, A.q, A.pk, A.lv] g (clsG g X A s nm out us (packD s pk out) mk) := gx.trans (gx2.mono fun n hn => by
      simp only [List.mem_cons, List.not_mem_nil, or_false] at hn ⊢
      omega) fun n hn => by
      simp only [List.mem_cons, List.not_mem_nil, or_false] at hn ⊢
      omega
    have out5 : ∀ z, z ≠ A.o → z ≠ A.b → z ≠ A.q → z ≠ A.pk → z ≠ A.lv → z ∉ [A.o, A.b, A.q, A.pk, A.lv] := fun z h1 h2 h3 h4 h5 => by
      simp only [List.mem_cons, List.not_mem_nil, or_false]
      omega
    have out2 : ∀ z, z ≠ A.pk → z ≠ A.lv → z ∉ [A.pk, A.lv] := fun z h4 h5 => by
      simp only [List.mem_cons, List.not_mem_nil, or_false]
      omega
    have kl := lt_of_get h.lv
    have kp := lt_of_get h.pk
    have gl := gx.len
    refine ⟨⟨gx3.get h.obj (out5 _ a2 a3 a4 a5 a8), gx3.get h.sl (out5 _ b2 b3 b4 b5 b8), l1.frame gx2 ⟨out2 _ a5 a8, out2 _ c5 c8, out2 _ d5 d8, out2 _ e5' e8⟩ (fun e he => ?_), ?_, gx3.get h.rt (out5 _ (Ne.symm c6) (Ne.symm d6) (Ne.symm e6) (Ne.symm f6) g8), gx3.get h.kd (out5 _ (Ne.symm c7) (Ne.symm d7) (Ne.symm e7) (Ne.symm f7) h8), ?_, gx3.get h.ud ?_, h.nd, farE⟩, l2⟩
    · have := farE e he
      intro hm
      refine this ?_
      simp only [List.mem_cons, List.not_mem_nil, or_false] at hm ⊢
      omega
    · exact set_ne (set_get (by omega)) f8
    · exact set_get (by rw [List.length_set]; omega)
    · have nd := h.nd
      simp only [List.nodup_cons, List.mem_cons, List.not_mem_nil, not_or, or_false] at nd
      refine out5 _ ?_ ?_ ?_ ?_ ?_ <;> omega
theorem level_of (h : LibG g A s) : f_Library_level_of [.ref A.p, .tup [.str o, .str n, .str k]] g = match s.levels.lookup (o, n, k) with
    | some v => .ok (.str v) g
    | none => .exc ⟨"Unknown", [("row", .non), ("what", .tup [.str o, .str n, .str k])]⟩ g := by
  have f := lib_fld (f := "_levels") (cs := cs_Library) h (by simp) rfl
  have t1 := tst (ev2 (τ := [some (.ref A.p), some (.tup [.str o, .str n, .str k])]) (a := mV 1) (ev_v rfl) (un_ok (e := mV 0) (ev_v rfl) f) (notin_d3 h.lv))
  rw [vs_keys, ← lk_isSome] at t1
  unfold f_Library_level_of
  cases c : s.levels.lookup (o, n, k) with
  | some v =>
    rw [c] at t1
    exact run_rt (seq_go (if_n2 t1) (ret_ok (ev2 (un_ok (ev_v rfl) f) (ev_v rfl) (subs_d3 h.lv (by rw [vs_lk, c]; rfl)))))
  | none =>
    rw [c] at t1
    exact run_ex (seq_ex (if_tr t1 (raise_ok (cons_ok (ev_v rfl) nil_ok) rfl)))
theorem marks_ok (h : LibG g A s) : f_Library_marks [.ref A.p] g = .ok (.ref g.length) (g ++ [.lst ((s.levels.map (·.1)).map d3)]) := by
  unfold f_Library_marks
  refine run_rt (ret_ok (una_ok (cons_ok (un_ok (ev_v rfl) (lib_fld h (by simp) rfl)) nil_ok) ?_))
  rw [list_kd h.lv, vs_keys]
theorem LibG.frame {g' : G} (h : LibG g A s) {S : List Nat} (x : Gx S g g') (hs : ∀ z ∈ [A.p, A.sl, A.o, A.b, A.q, A.pk, A.rt, A.kd, A.lv, A.us], z ∉ S) (hl : ∀ e ∈ s.ls, e.rl ∉ S) : LibG g' A s := by
  simp only [List.mem_cons, List.not_mem_nil, or_false, forall_eq_or_imp, forall_eq] at hs
  obtain ⟨h1, h2, h3, h4, h5, h6, h7, h8, h9, h10⟩ := hs
  exact ⟨x.get h.obj h1, x.get h.sl h2, h.lin.frame x ⟨h1, h3, h4, h5⟩ hl, x.get h.pk h6, x.get h.rt h7, x.get h.kd h8, x.get h.lv h9, x.get h.ud h10, h.nd, h.far⟩
theorem LibG.frame0 {g' : G} (h : LibG g A s) (x : Gx [] g g') : LibG g' A s := h.frame x (by simp) (by simp)
end
end My
namespace My
open PySem L2 RL
/-! the library: what holds, holds on -/
section
variable {g : G} {A : LibA} {s : LibSt} {x y r n o k l nm mk : Str}
theorem memG_gx : Gx [A.kd, A.rt, A.lv] g (memG g A s) := ((Gx.set (by simp)).trans (Gx.set (by simp)) fun _ h => h).trans (Gx.set (by simp)) fun _ h => h
theorem LibG.mem {w : Option Str} (h : LibG g A s) : LibG (memG g A (memSt s o n k l w)) A (memSt s o n k l w) := by
  have gx := memG_gx (g := g) (A := A) (s := memSt s o n k l w)
  have e1 := lt_of_get h.kd
  have e2 := lt_of_get h.rt
  have e3 := lt_of_get h.lv
  have e4 := gx.len
  refine nd_of h.nd fun nd => ?_
  obtain ⟨a1, a2, a3, a4, a5, a6, a7, a8, b2, b3, b4, b5, b6, b7, b8, c3, c4, c5, c6, c7, c8, d4, d5, d6, d7, d8, e5', e6, e7, e8, f6, f7, f8, g7, g8, h8⟩ := nd
  have out3 : ∀ z, z ≠ A.kd → z ≠ A.rt → z ≠ A.lv → z ∉ [A.kd, A.rt, A.lv] := fun z h1 h2 h3 => by
    simp only [List.mem_cons, List.not_mem_nil, or_false]
    omega
  refine ⟨gx.get h.obj (out3 _ a7 a6 a8), gx.get h.sl (out3 _ b7 b6 b8), h.lin.frame gx ⟨out3 _ a7 a6 a8, out3 _ c7 c6 c8, out3 _ d7 d6 d8, out3 _ e7 e6 e8⟩ (fun e he => ?_), gx.get h.pk (out3 _ f7 f6 f8), ?_, ?_, ?_, gx.get h.ud ?_, h.nd, h.far⟩
  · have := h.far e he
    intro hm
    refine this ?_
    simp only [List.mem_cons, List.not_mem_nil, or_false] at hm ⊢
    omega
  · exact set_ne (set_get (by rw [List.length_set]; exact e2)) g8
  · exact set_ne (set_ne (set_get e1) (Ne.symm g7)) h8
  · exact set_get (by rw [List.length_set, List.length_set]; exact e3)
  · have nd := h.nd
    simp only [List.nodup_cons, List.mem_cons, List.not_mem_nil, not_or, or_false] at nd
    refine out3 _ ?_ ?_ ?_ <;> omega
theorem LinOk.one {ls : List LE} (ok : LinOk ls) {out : D} {us : List Str} {rl ru : Nat} (he : linkErr ls nm out us = none) : nm ∉ nmsOf ls ∧ (∀ u ∈ us, u ∈ nmsOf ls) ∧ LinOk (ls ++ [ent ls nm out us rl ru]) := by
  unfold linkErr at he
  cases e1 : nameErr ls nm out with
  | some e => rw [e1] at he; cases he
  | none =>
    rw [e1] at he
    dsimp only at he
    have nn : nm ∉ nmsOf ls := fun z => by
      unfold nameErr at e1
      rw [if_pos z] at e1
      cases e1
    have hu : ∀ u ∈ us, u ∈ nmsOf ls := fun u hu => by
      unfold baseErr at he
      cases e2 : us.find? fun u => !decide (u ∈ nmsOf ls) with
      | some u => rw [e2] at he; cases he
      | none =>
        have := List.find?_eq_none.mp e2 u hu
        simpa using this
    have hj : joinF ls [] us = none := by
      unfold baseErr at he
      cases e2 : us.find? fun u => !decide (u ∈ nmsOf ls) with
      | some u => rw [e2] at he; cases he
      | none =>
        rw [e2] at he
        cases e3 : joinF ls [] us with
        | some u => rw [e3] at he; cases he
        | none => rfl
    have nd := joinF_none ok us [] hj List.nodup_nil
    rw [List.nil_append] at nd
    exact ⟨nn, hu, ok.snoc nn hu nd⟩
theorem LibOk.cls {out pd : D} {us : List Str} {rl ru : Nat} (ok : LibOk s) (he : linkErr s.ls nm out us = none) (hz : s.ls.length < 80) : LibOk (clsSt s nm out us pd mk rl ru) := by
  obtain ⟨nn, hu, lin⟩ := ok.lin.one (rl := rl) (ru := ru) he
  have nms : nmsOf (s.ls ++ [ent s.ls nm out us rl ru]) = nmsOf s.ls ++ [nm] := by rw [nms_app]; rfl
  refine ⟨lin, ⟨fun o n hm => ?_, ok.mem.rr, ok.mem.rn⟩, ⟨fun o n w hm => ?_, ok.lev.nn, ?_, ?_, ok.lev.y2, ok.lev.y3⟩, ?_, ?_, fun o n w hm => ?_⟩
  · obtain ⟨r, h1, h2⟩ := ok.mem.rk o n hm
    exact ⟨r, h1, by show r ∈ ksOf (s.ls ++ _) o; rw [ksOf_app (ks_known ok.lin h2)]; exact h2⟩
  · rw [show (clsSt s nm out us pd mk rl ru).levels.map (·.1) = s.levels.map (·.1) ++ [newMark nm] by simp [clsSt]] at hm
    show (n = ("new" : Str) ∧ w = ("make" : Str) ∧ o ∈ nmsOf (s.ls ++ [ent s.ls nm out us rl ru])) ∨ (o, n) ∈ s.kinds.map (·.1)
    rw [nms]
    rcases List.mem_append.mp hm with hm | hm
    · rcases ok.lev.lv o n w hm with ⟨h1, h2, h3⟩ | h
      · exact .inl ⟨h1, h2, List.mem_append_left _ h3⟩
      · exact .inr h
    · cases List.mem_singleton.mp hm
      exact .inl ⟨rfl, rfl, List.mem_append_right _ (List.mem_singleton.mpr rfl)⟩
  · show (s.ls ++ [ent s.ls nm out us rl ru]).length ≤ 80
    rw [List.length_append]
    show s.ls.length + 1 ≤ 80
    omega
  · show (s.levels ++ [(newMark nm, mk)]).length ≤ 2 * s.kinds.length + (s.ls ++ [ent s.ls nm out us rl ru]).length
    have := ok.lev.y1
    rw [List.length_append, List.length_append]
    show s.levels.length + 1 ≤ 2 * s.kinds.length + (s.ls.length + 1)
    omega
  · show (s.packs ++ [(nm, pd)]).map (·.1) = nmsOf (s.ls ++ [ent s.ls nm out us rl ru])
    rw [nms, List.map_append, ok.pk]
    rfl
  · show (s.ls ++ [ent s.ls nm out us rl ru]).length ≤ 80
    rw [List.length_append]
    show s.ls.length + 1 ≤ 80
    omega
  · rw [show (clsSt s nm out us pd mk rl ru).levels.map (·.1) = s.levels.map (·.1) ++ [newMark nm] by simp [clsSt]] at hm
    rcases List.mem_append.mp hm with hm | hm
    · exact ok.kw o n w hm
    · cases List.mem_singleton.mp hm
      exact .inl ⟨rfl, rfl⟩
theorem roots_old {n' r : Str} (h : s.roots.lookup n' = some r) : (rootsAdd s o n).lookup n' = some r := by
  unfold rootsAdd
  split
  · exact h
  · exact lk_app h
theorem rootsAdd_nd (h : (s.roots.map (·.1)).Nodup) : ((rootsAdd s o n).map (·.1)).Nodup := by
  unfold rootsAdd
  split
  · exact h
  · rename_i c
    rw [List.map_append]
    refine List.nodup_append.mpr ⟨h, by simp, fun a ha b hb => ?_⟩
    have : b = n := by simpa using hb
    rw [this]
    exact fun z => c (z ▸ ha)
theorem LibOk.memS {w : Option Str} (ok : LibOk s) (he : memErr s o n k = none) (hz : s.kinds.length < 400) : LibOk (memSt s o n k l w) := by
  unfold memErr at he
  have c1 : o ∈ nmsOf s.ls := Classical.byContradiction fun c => by rw [if_pos c] at he; cases he
  rw [if_neg (by simpa using c1)] at he
  have c2 : (o, n) ∉ s.kinds.map (·.1) := fun c => by rw [if_pos c] at he; cases he
  rw [if_neg c2] at he
  have c3 : mayB s o n k = true := by
    cases c : mayB s o n k with
    | true => rfl
    | false => rw [if_pos c] at he; cases he
  unfold mayB at c3
  rw [Bool.and_eq_true] at c3
  have c4 : n ≠ ("new" : Str) := by
    have := c3.1
    simpa using this
  have kk : (memSt s o n k l w).kinds.map (·.1) = s.kinds.map (·.1) ++ [(o, n)] := by simp [memSt]
  have self := ok.lin.self c1
  have root : ∃ r, (rootsAdd s o n).lookup n = some r ∧ r ∈ ksOf s.ls o := by
    cases c5 : s.roots.lookup n with
    | some r =>
      refine ⟨r, roots_old c5, ?_⟩
      have := c3.2
      rw [c5] at this
      dsimp only at this
      rw [Bool.and_eq_true, Bool.and_eq_true, Bool.or_eq_true, decide_eq_true_eq, decide_eq_true_eq, decide_eq_true_eq, decide_eq_true_eq] at this
      rcases this.2.2 with h | h
      · rw [← h]; exact self
      · exact h
    | none =>
      refine ⟨o, ?_, self⟩
      unfold rootsAdd
      rw [if_neg (lk_none.mp c5)]
      exact lk_last c5
  refine ⟨ok.lin, ⟨fun o' n' hm => ?_, fun n' r hr => ?_, rootsAdd_nd ok.mem.rn⟩, ⟨fun o' n' w' hm => ?_, fun o' hm => ?_, ok.lev.z0, ?_, ?_, ?_⟩, ok.pk, ok.z, fun o' n' w' hm => ?_⟩
  · rw [kk] at hm
    rcases List.mem_append.mp hm with hm | hm
    · obtain ⟨r, h1, h2⟩ := ok.mem.rk o' n' hm
      exact ⟨r, roots_old h1, h2⟩
    · cases List.mem_singleton.mp hm
      exact root
  · rw [kk]
    have hr : (rootsAdd s o n).lookup n' = some r := hr
    cases c5 : s.roots.lookup n' with
    | some r' =>
      rw [roots_old c5] at hr
      cases hr
      exact List.mem_append_left _ (ok.mem.rr n' _ c5)
    | none =>
      unfold rootsAdd at hr
      split at hr
      · rw [c5] at hr; cases hr
      · rw [lk_app2 c5] at hr
        have := lk_mem hr
        cases List.mem_singleton.mp this
        exact List.mem_append_right _ (List.mem_singleton.mpr rfl)
  · rw [kk]
    have hm : (o', n', w') ∈ s.levels.map (·.1) ++ (levsOf o n k l w).map (·.1) := by simpa [memSt] using hm
    rcases List.mem_append.mp hm with hm | hm
    · rcases ok.lev.lv o' n' w' hm with h | h
      · exact .inl h
      · exact .inr (List.mem_append_left _ h)
    · right
      refine List.mem_append_right _ (List.mem_singleton.mpr ?_)
      unfold levsOf at hm
      split at hm
      · simp only [List.map_cons, List.map_nil, List.mem_cons, List.not_mem_nil, or_false, Prod.mk.injEq] at hm
        rcases hm with ⟨h1, h2, _⟩ | ⟨h1, h2, _⟩ <;> rw [h1, h2]
      · simp only [List.map_cons, List.map_nil, List.mem_cons, List.not_mem_nil, or_false, Prod.mk.injEq] at hm
        rw [hm.1, hm.2.1]
  · rw [kk] at hm
    rcases List.mem_append.mp hm with hm | hm
    · exact ok.lev.nn o' hm
    · have := List.mem_singleton.mp hm
      exact c4 (Prod.mk.inj this).2.symm
  · show (s.levels ++ levsOf o n k l w).length ≤ 2 * (s.kinds ++ [((o, n), k)]).length + s.ls.length
    have := ok.lev.y1
    have z : (levsOf o n k l w).length ≤ 2 := by unfold levsOf; split <;> simp
    rw [List.length_append, List.length_append, List.length_singleton]
    omega
  · show (s.kinds ++ [((o, n), k)]).length ≤ 400
    rw [List.length_append, List.length_singleton]
    omega
  · show (rootsAdd s o n).length ≤ (s.kinds ++ [((o, n), k)]).length
    have := ok.lev.y3
    unfold rootsAdd
    split
    · rw [List.length_append]; omega
    · rw [List.length_append, List.length_append, List.length_singleton, List.length_singleton]; omega
  · rw [kk]
    have hm : (o', n', w') ∈ s.levels.map (·.1) ++ (levsOf o n k l w).map (·.1) := by simpa [memSt] using hm
    rcases List.mem_append.mp hm with hm | hm
    · rcases ok.kw o' n' w' hm with h | ⟨r, k', h1, h2, h3, h4, h5⟩
      · exact .inl h
      · exact .inr ⟨r, k', roots_old h1, lk_app h2, List.mem_append_left _ h3, h4, h5⟩
    · right
      have rk : ∃ r, (rootsAdd s o n).lookup n = some r ∧ (s.kinds ++ [((o, n), k)]).lookup (r, n) = some k := by
        cases c5 : s.roots.lookup n with
        | some r =>
          refine ⟨r, roots_old c5, ?_⟩
          have := c3.2
          rw [c5] at this
          dsimp only at this
          rw [Bool.and_eq_true, Bool.and_eq_true, decide_eq_true_eq, decide_eq_true_eq] at this
          rw [this.1]
          exact lk_app this.2.1
        | none =>
          refine ⟨o, ?_, lk_last (lk_none.mpr c2)⟩
          unfold rootsAdd
          rw [if_neg (lk_none.mp c5)]
          exact lk_last c5
      obtain ⟨r, r1, r2⟩ := rk
      unfold levsOf at hm
      split at hm
      · rename_i hf
        simp only [List.map_cons, List.map_nil, List.mem_cons, List.not_mem_nil, or_false, Prod.mk.injEq] at hm
        rcases hm with ⟨h1, h2, h3⟩ | ⟨h1, h2, h3⟩
        · subst h1 h2 h3
          exact ⟨r, k, r1, r2, List.mem_append_right _ (List.mem_singleton.mpr rfl), fun _ => .inl rfl, fun z => absurd hf z⟩
        · subst h1 h2 h3
          exact ⟨r, k, r1, r2, List.mem_append_right _ (List.mem_singleton.mpr rfl), fun _ => .inr rfl, fun z => absurd hf z⟩
      · rename_i hf
        simp only [List.map_cons, List.map_nil, List.mem_cons, List.not_mem_nil, or_false, Prod.mk.injEq] at hm
        obtain ⟨h1, h2, h3⟩ := hm
        subst h1 h2 h3
        exact ⟨r, k, r1, r2, List.mem_append_right _ (List.mem_singleton.mpr rfl), fun z => absurd z hf, fun _ => rfl⟩
end
end My
namespace My
open PySem L2 RL
/-! the digits -/
def cell0 (ns : List Int) (j : Nat) : Int := ns[j]?.getD 0
def digSt (g : Bool) (j : Int) (st : Int × List Int) (s : Int) : Int × List Int :=
  let k : Int := (st.2.length : Int)
  let m1 : Int := (st.1 * 48271 + j * 1009 + k * 69621 + 5) % 2147483647
  let m2 : Int := (m1 * m1 + st.1 + k * 7919) % 2147483629 / 7
  (if g then st.1 / s else st.1, st.2 ++ [(if g then st.1 else m2) % s])
def digR (ns : List Int) (j : Nat) (szs : List Int) : Int × List Int := szs.foldl (digSt (decide ((10 : Int) ^ (18 : Int).toNat ≤ cell0 ns j)) j) (cell0 ns j, [])
def digF (ns : List Int) (j : Nat) (szs : List Int) : List Int := (digR ns j szs).2
theorem digSt_len (g : Bool) (j : Int) : ∀ (szs : List Int) (st : Int × List Int), (szs.foldl (digSt g j) st).2.length = st.2.length + szs.length
  | [], st => by simp
  | s :: szs, st => by
    rw [List.foldl_cons, digSt_len g j szs]
    simp [digSt]
    omega
theorem digSt_ok (g : Bool) (j : Int) : ∀ (szs : List Int) (st : Int × List Int), (∀ s ∈ szs, 0 < s) → ∀ (i : Nat) (s : Int), szs[i]? = some s → ∃ d, (szs.foldl (digSt g j) st).2[st.2.length + i]? = some d ∧ 0 ≤ d ∧ d < s
  | [], st, _, i, s, h => by simp at h
  | s0 :: szs, st, hp, i, s, h => by
    rw [List.foldl_cons]
    have hp' : ∀ s ∈ szs, 0 < s := fun s m => hp s (List.mem_cons_of_mem _ m)
    cases i with
    | zero =>
      cases h
      have h0 : ∀ (l : List Int) (st : Int × List Int) (n : Nat) (d : Int), st.2[n]? = some d → (l.foldl (digSt g j) st).2[n]? = some d := by
        intro l
        induction l with
        | nil => intro st n d h; exact h
        | cons a l ih =>
          intro st n d h
          rw [List.foldl_cons]
          refine ih _ n d ?_
          simp only [digSt]
          rw [List.getElem?_append_left (List.getElem?_eq_some_iff.mp h).1]
          exact h
      have hs := hp s0 List.mem_cons_self
      refine ⟨_, h0 szs _ st.2.length _ (by simp only [digSt]; rw [List.getElem?_append_right (Nat.le_refl _), Nat.sub_self]; rfl), Int.emod_nonneg _ (by omega), Int.emod_lt_of_pos _ hs⟩
    | succ i =>
      have h' : szs[i]? = some s := by simpa using h
      obtain ⟨d, h1, h2⟩ := digSt_ok g j szs (digSt g j st s0) hp' i s h'
      refine ⟨d, ?_, h2⟩
      rw [← h1]
      congr 1
      simp [digSt]
      omega
theorem digF_at {ns szs : List Int} {j i : Nat} {s : Int} (hp : ∀ s ∈ szs, 0 < s) (h : szs[i]? = some s) : ∃ d, (digF ns j szs)[i]? = some d ∧ 0 ≤ d ∧ d < s := by
  obtain ⟨d, h1, h2⟩ := digSt_ok (decide ((10 : Int) ^ (18 : Int).toNat ≤ cell0 ns j)) j szs (cell0 ns j, []) hp i s h
  exact ⟨d, by unfold digF digR; rw [← h1]; simp, h2⟩
theorem digF_len (ns : List Int) (j : Nat) (szs : List Int) : (digF ns j szs).length = szs.length := by
  unfold digF digR
  rw [digSt_len]
  simp
theorem subs_it {g : G} {x : D} {l : List D} {i : Int} {d : D} (h : items g x = some l) (h2 : L2.atI l i = some d) : fSubs x (.int i) g = .ok d g := by
  unfold fSubs
  rw [h]
  dsimp only
  rw [h2]
theorem len_it {g : G} {x : D} {l : List D} (h : items g x = some l) : fLen [x] g = .ok (.int (l.length : Nat)) g := by
  unfold fLen
  dsimp only
  rw [h]
theorem set_last {α : Type} {g : List α} {a b : α} : (g ++ [a]).set g.length b = g ++ [b] := by simp
end My
namespace My
open PySem L2 RL
theorem atI_n {α : Type} {l : List α} {n : Nat} {x : α} (h : l[n]? = some x) : L2.atI l (n : Int) = some x := by
  have hn := (List.getElem?_eq_some_iff.mp h).1
  unfold L2.atI L2.ixN
  simp [hn]
  exact (List.getElem?_eq_some_iff.mp h).2
end My
namespace My
open PySem L2 RL
/-! the digits, of a script with zeros behind it -/
def digB : MS := mSeq (mAsg (mOp fMod (mUnA fInt (mCons (mOp fPlus (mOp fPlus (mOp fPlus (mOp fMul (mV 3) (mC (.int 48271))) (mOp fMul (mV 1) (mC (.int 1009)))) (mOp fMul (mUnA fLen (mCons (mV 5) mNil)) (mC (.int 69621)))) (mC (.int 5))) mNil)) (mC (.int 2147483647))) (gN 7))
  (mSeq (mAsg (mOp fDiv (mOp fMod (mUnA fInt (mCons (mOp fPlus (mOp fPlus (mOp fMul (mV 7) (mV 7)) (mV 3)) (mOp fMul (mUnA fLen (mCons (mV 5) mNil)) (mC (.int 7919)))) mNil)) (mC (.int 2147483629))) (mC (.int 7))) (gN 7))
  (mSeq (mIfS (mTest (mV 4)) (mSeq (mAsg (mV 3) (gN 7))
  (mAsg (mOp fDiv (mV 3) (mV 6)) (gN 3))) mNext)
  (mDrop (mBM .lst fApp (mV 5) (mCons (mOp fMod (mUnA fInt (mCons (mV 7) mNil)) (mV 6)) mNil)))))
theorem m_dig : m_l_digits = mSeq (mAsg (mOp fSubs (mOp fPlusK (mV 0) (mOp fRep (mUnA fLst (mCons (mC (.int 0)) mNil)) (mC (.int 63)))) (mV 1)) (gN 3)) (mSeq (mAsg (mOp fGe (mV 3) (mOp fPow (mC (.int 10)) (mC (.int 18)))) (gN 4)) (mSeq (mAsg (mUnA fLst mNil) (gN 5)) (mSeq (mFor (mSeqI (mV 2)) (gN 6) digB) (mRet (mV 5))))) := rfl
abbrev zer : List D := (List.replicate 63 [D.int 0]).flatten
abbrev digT (ns : List Int) : G := [.lst [.int 0], .lst zer, .lst (ns.map D.int ++ zer)]
theorem zer_eq : zer = (List.replicate 63 (0 : Int)).map D.int := by decide +kernel
section
variable {g : G} {x0 : D} {z : Nat} {ns szs : List Int} {j : Nat}
theorem m1_small (x : Int) : -(2 ^ 64) < x % 2147483647 ∧ x % 2147483647 < 2 ^ 64 := by
  have h1 := Int.emod_nonneg x (b := 2147483647) (by decide)
  have h2 := Int.emod_lt_of_pos x (b := 2147483647) (by decide)
  omega
theorem dig_cell (hj : j < 63) (hn : ns.length ≤ 63) : mAsg (mOp fSubs (mOp fPlusK (mV 0) (mOp fRep (mUnA fLst (mCons (mC (.int 0)) mNil)) (mC (.int 63)))) (mV 1)) (gN 3) [some (.kl (ns.map D.int)), some (.int j), some (.ref z), none, none, none, none, none] g = .nx [some (.kl (ns.map D.int)), some (.int j), some (.ref z), some (.int (cell0 ns j)), none, none, none, none] (g ++ digT ns) := by
  have hat : L2.atI (ns.map D.int ++ zer) (j : Int) = some (.int (cell0 ns j)) := by
    refine atI_n ?_
    rw [zer_eq, ← List.map_append, List.getElem?_map]
    have : (ns ++ List.replicate 63 (0 : Int))[j]? = some (cell0 ns j) := by
      unfold cell0
      by_cases c : j < ns.length
      · rw [List.getElem?_append_left c, List.getElem?_eq_getElem c]
        rfl
      · rw [List.getElem?_append_right (by omega), List.getElem?_replicate, if_pos (by omega), List.getElem?_eq_none (by omega)]
        rfl
    rw [this]
    rfl
  have e1 : mUnA fLst (mCons (mC (.int 0)) mNil) [some (.kl (ns.map D.int)), some (.int j), some (.ref z), none, none, none, none, none] g = .ok (.ref g.length) (g ++ [.lst [.int 0]]) := una_ok (cons_ok ev_c nil_ok) (lst_ok (by simp))
  have e2 : mOp fRep (mUnA fLst (mCons (mC (.int 0)) mNil)) (mC (.int 63)) [some (.kl (ns.map D.int)), some (.int j), some (.ref z), none, none, none, none, none] g = .ok (.ref (g ++ [Ob.lst [.int 0]]).length) (g ++ [.lst [.int 0]] ++ [.lst zer]) := ev2 e1 ev_c (rep_at end_get (by decide) (by decide) (by decide))
  have e3 := ev2 (a := mV 0) (f := fPlusK) (x := .kl (ns.map D.int)) (τ := [some (.kl (ns.map D.int)), some (.int j), some (.ref z), none, none, none, none, none]) (g := g) (ev_v rfl) e2 (plusK end_get (by
    rw [zer_eq, List.length_map, List.length_map, List.length_replicate]
    omega))
  have e4 : g ++ digT ns = g ++ [.lst [.int 0]] ++ [.lst zer] ++ [.lst (ns.map D.int ++ zer)] := by simp [digT]
  rw [e4]
  exact asg_ok (ev2 e3 (ev_v rfl) (subs_at end_get hat))
theorem dig_body {j : Int} {G : G} {r : Nat} {c sz : Int} {row : List Int} {gr : Bool} {x7 : Option D} (hr : G[r]? = some (.lst (row.map D.int))) (hp0 : 0 < sz) (hp1 : sz < 1073741824) (hl : row.length ≤ 100000) :
    ∃ x7', digB [some x0, some (.int j), some (.ref z), some (.int c), some (.bl gr), some (.ref r), some (.int sz), x7] G =
      .nx [some x0, some (.int j), some (.ref z), some (.int (digSt gr j (c, row) sz).1), some (.bl gr), some (.ref r), some (.int sz), x7'] (G.set r (.lst ((digSt gr j (c, row) sz).2.map D.int))) := by
  have c1 : ∀ i : Int, (-(2 ^ 64) < i ∧ i < 2 ^ 64) ∨ (-(2 ^ 64) < (48271 : Int) ∧ (48271 : Int) < 2 ^ 64) := fun i => .inr ⟨by decide, by decide⟩
  have c2 : ∀ i : Int, (-(2 ^ 64) < i ∧ i < 2 ^ 64) ∨ (-(2 ^ 64) < (1009 : Int) ∧ (1009 : Int) < 2 ^ 64) := fun i => .inr ⟨by decide, by decide⟩
  have c3 : ∀ i : Int, (-(2 ^ 64) < i ∧ i < 2 ^ 64) ∨ (-(2 ^ 64) < (69621 : Int) ∧ (69621 : Int) < 2 ^ 64) := fun i => .inr ⟨by decide, by decide⟩
  have c4 : ∀ i : Int, (-(2 ^ 64) < i ∧ i < 2 ^ 64) ∨ (-(2 ^ 64) < (7919 : Int) ∧ (7919 : Int) < 2 ^ 64) := fun i => .inr ⟨by decide, by decide⟩
  have ln : ∀ τ : RL.T, τ[5]? = some (some (.ref r)) → mUnA fLen (mCons (mV 5) mNil) τ G = .ok (.int (row.length : Int)) G := fun τ ht => una_ok (cons_ok (ev_v ht) nil_ok) (by rw [len_at hr, List.length_map])
  generalize hk : (row.length : Int) = k at ln
  have hm := m1_small (c * 48271 + j * 1009 + k * 69621 + 5)
  have e1 : mAsg (mOp fMod (mUnA fInt (mCons (mOp fPlus (mOp fPlus (mOp fPlus (mOp fMul (mV 3) (mC (.int 48271))) (mOp fMul (mV 1) (mC (.int 1009)))) (mOp fMul (mUnA fLen (mCons (mV 5) mNil)) (mC (.int 69621)))) (mC (.int 5))) mNil)) (mC (.int 2147483647))) (gN 7) [some x0, some (.int j), some (.ref z), some (.int c), some (.bl gr), some (.ref r), some (.int sz), x7] G = .nx [some x0, some (.int j), some (.ref z), some (.int c), some (.bl gr), some (.ref r), some (.int sz), some (.int ((c * 48271 + j * 1009 + k * 69621 + 5) % 2147483647))] G :=
    asg_ok (ev2 (evInt (ev2 (ev2 (ev2 (ev2 (ev_v rfl) ev_c (mulI _ _ (c1 _))) (ev2 (ev_v rfl) ev_c (mulI _ _ (c2 _))) (plusI _ _)) (ev2 (ln _ rfl) ev_c (mulI _ _ (c3 _))) (plusI _ _)) ev_c (plusI _ _))) ev_c (modI _ _ (by decide)))
  generalize hm1 : (c * 48271 + j * 1009 + k * 69621 + 5) % 2147483647 = m1 at e1 hm
  have e2 : mAsg (mOp fDiv (mOp fMod (mUnA fInt (mCons (mOp fPlus (mOp fPlus (mOp fMul (mV 7) (mV 7)) (mV 3)) (mOp fMul (mUnA fLen (mCons (mV 5) mNil)) (mC (.int 7919)))) mNil)) (mC (.int 2147483629))) (mC (.int 7))) (gN 7) [some x0, some (.int j), some (.ref z), some (.int c), some (.bl gr), some (.ref r), some (.int sz), some (.int m1)] G = .nx [some x0, some (.int j), some (.ref z), some (.int c), some (.bl gr), some (.ref r), some (.int sz), some (.int ((m1 * m1 + c + k * 7919) % 2147483629 / 7))] G :=
    asg_ok (ev2 (ev2 (evInt (ev2 (ev2 (ev2 (ev_v rfl) (ev_v rfl) (mulI _ _ (.inl hm))) (ev_v rfl) (plusI _ _)) (ev2 (ln _ rfl) ev_c (mulI _ _ (c4 _))) (plusI _ _))) ev_c (modI _ _ (by decide))) ev_c (divI _ _ (by decide) (by decide)))
  generalize hm2 : (m1 * m1 + c + k * 7919) % 2147483629 / 7 = m2 at e2
  have hd : digSt gr j (c, row) sz = (if gr then c / sz else c, row ++ [(if gr then c else m2) % sz]) := by
    unfold digSt
    dsimp only
    rw [hk, hm1, hm2]
  rw [hd]
  unfold digB
  rw [seq_nx e1, seq_nx e2]
  have hap : ∀ (c' m' : Int), mDrop (mBM .lst fApp (mV 5) (mCons (mOp fMod (mUnA fInt (mCons (mV 7) mNil)) (mV 6)) mNil)) [some x0, some (.int j), some (.ref z), some (.int c'), some (.bl gr), some (.ref r), some (.int sz), some (.int m')] G = .nx [some x0, some (.int j), some (.ref z), some (.int c'), some (.bl gr), some (.ref r), some (.int sz), some (.int m')] (G.set r (.lst (row.map D.int ++ [.int (m' % sz)]))) := fun c' m' =>
    drop_ok (bm_ok (ev_v rfl) (ty_lst hr) (cons_ok (ev2 (evInt (ev_v rfl)) (ev_v rfl) (modI _ _ hp0)) nil_ok) (app_at hr (by rw [List.length_map]; exact hl)))
  cases gr with
  | true =>
    refine ⟨some (.int c), ?_⟩
    have e3 : mIfS (mTest (mV 4)) (mSeq (mAsg (mV 3) (gN 7)) (mAsg (mOp fDiv (mV 3) (mV 6)) (gN 3))) mNext [some x0, some (.int j), some (.ref z), some (.int c), some (.bl true), some (.ref r), some (.int sz), some (.int m2)] G = .nx [some x0, some (.int j), some (.ref z), some (.int (c / sz)), some (.bl true), some (.ref r), some (.int sz), some (.int c)] G :=
      (if_t (tst (ev_v rfl))).trans ((seq_nx (asg_ok (ev_v rfl))).trans (asg_ok (ev2 (ev_v rfl) (ev_v rfl) (divI _ _ hp0 hp1))))
    rw [seq_nx e3, hap, List.map_append]
    rfl
  | false =>
    refine ⟨some (.int m2), ?_⟩
    have e3 : mIfS (mTest (mV 4)) (mSeq (mAsg (mV 3) (gN 7)) (mAsg (mOp fDiv (mV 3) (mV 6)) (gN 3))) mNext [some x0, some (.int j), some (.ref z), some (.int c), some (.bl false), some (.ref r), some (.int sz), some (.int m2)] G = .nx [some x0, some (.int j), some (.ref z), some (.int c), some (.bl false), some (.ref r), some (.int sz), some (.int m2)] G :=
      (if_f (tst (ev_v rfl))).trans rfl
    rw [seq_nx e3, hap, List.map_append]
    rfl
theorem dig_eq (hz : g[z]? = some (.lst (szs.map D.int))) (hl : szs.length ≤ 64) (hp : ∀ x ∈ szs, 0 < x ∧ x ≤ 1000) (hj : j < 63) (hn : ns.length ≤ 63) :
    f_l_digits [.kl (ns.map D.int), .int j, .ref z] g = .ok (.ref (g ++ digT ns).length) (g ++ digT ns ++ [.lst ((digF ns j szs).map D.int)]) := by
  unfold f_l_digits
  rw [m_dig]
  refine run_rt (seq_go (dig_cell hj hn) ?_)
  have h2 : mAsg (mOp fGe (mV 3) (mOp fPow (mC (.int 10)) (mC (.int 18)))) (gN 4) [some (.kl (ns.map D.int)), some (.int j), some (.ref z), some (.int (cell0 ns j)), none, none, none, none] (g ++ digT ns) = .nx [some (.kl (ns.map D.int)), some (.int j), some (.ref z), some (.int (cell0 ns j)), some (.bl (decide ((10 : Int) ^ (18 : Int).toNat ≤ cell0 ns j))), none, none, none] (g ++ digT ns) := asg_ok (ev2 (ev_v rfl) (ev2 ev_c ev_c (powI _ _ (by decide) (by decide) (by decide))) (geI _ _))
  refine seq_go h2 (seq_go (asg_ok (una_ok nil_ok (lst_ok (by simp)))) ?_)
  have hz2 : ∀ o, (g ++ digT ns ++ [o])[z]? = some (.lst (szs.map D.int)) := fun o => app_get (app_get hz)
  generalize g ++ digT ns = g1 at *
  obtain ⟨τ', g', lp, x6, x7, rfl, rfl⟩ := loop_all (mi := mSeqI (mV 2)) (mg := gN 6) (mb := digB) (τ := [some (.kl (ns.map D.int)), some (.int j), some (.ref z), some (.int (cell0 ns j)), some (.bl (decide ((10 : Int) ^ (18 : Int).toNat ≤ cell0 ns j))), some (.ref g1.length), none, none]) (g := g1 ++ [.lst []])
    (szs.map D.int) (fun i τ G => ∃ x6 x7, τ = [some (.kl (ns.map D.int)), some (.int j), some (.ref z), some (.int ((szs.take i).foldl (digSt (decide ((10 : Int) ^ (18 : Int).toNat ≤ cell0 ns j)) j) (cell0 ns j, [])).1), some (.bl (decide ((10 : Int) ^ (18 : Int).toNat ≤ cell0 ns j))), some (.ref g1.length), x6, x7] ∧ G = g1 ++ [.lst ((((szs.take i).foldl (digSt (decide ((10 : Int) ^ (18 : Int).toNat ≤ cell0 ns j)) j) (cell0 ns j, [])).2).map D.int)])
    (seqL_ok (ev_v rfl) (hz2 _)) (fun i τ G ⟨_, _, _, e⟩ => by rw [e]; exact hz2 _) ⟨none, none, rfl, rfl⟩ (fun i d τ G hd ⟨x6, x7, e1, e2⟩ => by
      subst e1 e2
      rw [List.getElem?_map] at hd
      obtain ⟨s, hs, rfl⟩ := Option.map_eq_some_iff.mp hd
      refine ⟨_, _, rfl, ?_⟩
      have hsz := hp s (List.mem_of_getElem? hs)
      have hF : (szs.take (i + 1)).foldl (digSt (decide ((10 : Int) ^ (18 : Int).toNat ≤ cell0 ns j)) j) (cell0 ns j, []) = digSt (decide ((10 : Int) ^ (18 : Int).toNat ≤ cell0 ns j)) j ((szs.take i).foldl (digSt (decide ((10 : Int) ^ (18 : Int).toNat ≤ cell0 ns j)) j) (cell0 ns j, [])) s := by
        rw [List.take_add_one, hs]
        simp
      have hlen : ((szs.take i).foldl (digSt (decide ((10 : Int) ^ (18 : Int).toNat ≤ cell0 ns j)) j) (cell0 ns j, [])).2.length ≤ 64 := by rw [digSt_len, List.length_take]; simp; omega
      rw [hF]
      obtain ⟨x7', h⟩ := dig_body (x0 := .kl (ns.map D.int)) (z := z) (j := j) (gr := decide ((10 : Int) ^ (18 : Int).toNat ≤ cell0 ns j)) (x7 := x7) (c := ((szs.take i).foldl (digSt (decide ((10 : Int) ^ (18 : Int).toNat ≤ cell0 ns j)) j) (cell0 ns j, [])).1) (row := ((szs.take i).foldl (digSt (decide ((10 : Int) ^ (18 : Int).toNat ≤ cell0 ns j)) j) (cell0 ns j, [])).2) (sz := s) (G := g1 ++ [.lst ((((szs.take i).foldl (digSt (decide ((10 : Int) ^ (18 : Int).toNat ≤ cell0 ns j)) j) (cell0 ns j, [])).2).map D.int)]) (r := g1.length) end_get hsz.1 (by omega) (by omega)
      rw [set_last] at h
      exact body_nx h ⟨_, x7', rfl, rfl⟩)
  rw [List.length_map, List.take_length] at lp
  exact seq_go lp (ret_ok (ev_v rfl))
end
/-! the names -/
def poolL : List Str := ["a", "b2", "cab", "d", "e0", "fox", "gg", "h1", "ice", "j", "kilo", "lo", "mmm", "n9", "oak", "p", "q7", "rr", "s", "tin", "0", "v", "wax", "abcdefghijkl", "yes", "z0o"]
def nameF (a b : Int) : Str := poolL.getD ((a + 7 * b) % 26).toNat ""
theorem nameF_at (a b : Int) : L2.atI (poolL.map D.str) ((a + 7 * b) % 26) = some (.str (nameF a b)) := by
  have h1 := Int.emod_nonneg (a + 7 * b) (b := 26) (by decide)
  have h2 := Int.emod_lt_of_pos (a + 7 * b) (b := 26) (by decide)
  unfold nameF
  generalize (a + 7 * b) % 26 = z at h1 h2
  obtain ⟨n, rfl⟩ := Int.eq_ofNat_of_zero_le h1
  have hn : n < poolL.length := by show n < 26; omega
  refine atI_n ?_
  rw [List.getElem?_map, List.getElem?_eq_getElem hn, Int.toNat_natCast, List.getD_eq_getElem?_getD, List.getElem?_eq_getElem hn]
  rfl
theorem split_pool : Txt.split ("a b2 cab d e0 fox gg h1 ice j kilo lo mmm n9 oak p q7 rr s tin 0 v wax abcdefghijkl yes z0o" : Str) (" " : Str) = poolL := by decide +kernel
theorem split_ok {g : G} {s : Str} {l : List Str} (h1 : s.length ≤ 1000) (h2 : Txt.split s (" " : Str) = l) (h3 : l.all sOk = true) : fSplit (.str s) [.str " "] g = .ok (.ref g.length) (g ++ [.lst (l.map D.str)]) := by
  unfold fSplit
  dsimp only
  rw [h2, ck_pos ⟨by decide, h1, h3⟩]
theorem name_eq (a b : Int) (g : G) : f_l_name [.int a, .int b] g = .ok (.str (nameF a b)) (g ++ [.lst (poolL.map D.str)]) := by
  unfold f_l_name
  refine run_rt (seq_go (asg_ok ev_c) (ret_ok (ev2 (bm_ok (ev_v rfl) rfl (cons_ok ev_c nil_ok) (split_ok (by decide) split_pool (by decide +kernel))) (ev2 (evInt (ev2 (ev_v rfl) (ev2 ev_c (ev_v rfl) (mulI _ _ (.inl ⟨by decide, by decide⟩))) (plusI _ _))) ev_c (modI _ _ (by decide))) (subs_at end_get (nameF_at a b)))))
theorem nameF_inj {a : Int} {i j : Nat} (hi : i < 26) (hj : j < 26) (h : nameF a (i : Int) = nameF a (j : Int)) : i = j := by
  have nd : poolL.Nodup := by decide
  have at_ : ∀ k : Nat, ∃ n : Nat, n < 26 ∧ (n : Int) = (a + 7 * (k : Int)) % 26 ∧ poolL[n]? = some (nameF a (k : Int)) := fun k => by
    have h1 := Int.emod_nonneg (a + 7 * (k : Int)) (b := 26) (by decide)
    have h2 := Int.emod_lt_of_pos (a + 7 * (k : Int)) (b := 26) (by decide)
    unfold nameF
    generalize (a + 7 * (k : Int)) % 26 = z at h1 h2
    obtain ⟨n, rfl⟩ := Int.eq_ofNat_of_zero_le h1
    have hn : n < poolL.length := by show n < 26; omega
    refine ⟨n, by omega, rfl, ?_⟩
    rw [Int.toNat_natCast, List.getD_eq_getElem?_getD, List.getElem?_eq_getElem hn]
    rfl
  obtain ⟨n, n1, n2, n3⟩ := at_ i
  obtain ⟨m, m1, m2, m3⟩ := at_ j
  rw [h, ← m3] at n3
  have e : n = m := (List.getElem?_inj (by show n < 26; omega) nd).mp n3
  omega
theorem nameF_mem (a b : Int) : nameF a b ∈ poolL := by
  have := nameF_at a b
  unfold nameF
  have h1 := Int.emod_nonneg (a + 7 * b) (b := 26) (by decide)
  have h2 := Int.emod_lt_of_pos (a + 7 * b) (b := 26) (by decide)
  generalize (a + 7 * b) % 26 = z at *
  obtain ⟨n, rfl⟩ := Int.eq_ofNat_of_zero_le h1
  have hn : n < poolL.length := by show n < 26; omega
  rw [Int.toNat_natCast, List.getD_eq_getElem?_getD, List.getElem?_eq_getElem hn]
  exact List.getElem_mem hn
end My
namespace My
open PySem L2 RL
/-! products -/
def wordL : List Str := ["own", "nested", "around", "below", "heir", "package", "any"]
theorem split_words : Txt.split ("own nested around below heir package any" : Str) (" " : Str) = wordL := by decide +kernel
abbrev prodS : List Int := [4, 7, 7, 2, 7, 7, 2, 7, 7, 2]
def pk (ns : List Int) (j i : Nat) : Int := (digF ns j prodS).getD i 0
theorem dig_get {ns : List Int} {j i : Nat} {szs : List Int} {s : Int} (hp : ∀ s ∈ szs, 0 < s) (h : szs[i]? = some s) : (digF ns j szs)[i]? = some ((digF ns j szs).getD i 0) ∧ 0 ≤ (digF ns j szs).getD i 0 ∧ (digF ns j szs).getD i 0 < s := by
  obtain ⟨d, h1, h2⟩ := digF_at (ns := ns) (j := j) hp h
  rw [List.getD_eq_getElem?_getD, h1]
  exact ⟨rfl, h2⟩
def wd (i : Int) : Str := wordL.getD i.toNat ""
theorem wd_at {i : Int} (h0 : 0 ≤ i) (h1 : i < 7) : L2.atI (wordL.map D.str) i = some (.str (wd i)) := by
  obtain ⟨n, rfl⟩ := Int.eq_ofNat_of_zero_le h0
  have hn : n < wordL.length := by show n < 7; omega
  refine atI_n ?_
  unfold wd
  rw [List.getElem?_map, List.getElem?_eq_getElem hn, Int.toNat_natCast, List.getD_eq_getElem?_getD, List.getElem?_eq_getElem hn]
  rfl
def prod1 (ns : List Int) (j k : Nat) : List Str := [wd (pk ns j (1 + 3 * k)), wd (pk ns j (2 + 3 * k))].take (1 + pk ns j (3 + 3 * k)).toNat
def prodF (ns : List Int) (j : Nat) : List (List Str) := (List.range (pk ns j 0).toNat).map (prod1 ns j)
theorem pk_ok {ns : List Int} {j i : Nat} {s : Int} (h : prodS[i]? = some s) : (digF ns j prodS)[i]? = some (pk ns j i) ∧ 0 ≤ pk ns j i ∧ pk ns j i < s := dig_get (by decide) h
section
variable {g : G} {ns : List Int} {j : Nat}
theorem prod_eq (hj : j < 63) (hn : ns.length ≤ 63) : ∃ (X : List Ob) (r : Nat) (rs : List D), f_l_products [.kl (ns.map D.int), .int j] g = .ok (.ref r) (g ++ X) ∧ g.length ≤ r ∧ (g ++ X)[r]? = some (.lst rs) ∧ lsts (g ++ X) g.length rs (prodF ns j) := by
  have a1 : mAsg (mBM .str fSplit (mC (.str "own nested around below heir package any")) (mCons (mC (.str " ")) mNil)) (gN 2) [some (.kl (ns.map D.int)), some (.int j), none, none, none, none] g = .nx [some (.kl (ns.map D.int)), some (.int j), some (.ref g.length), none, none, none] (g ++ [.lst (wordL.map D.str)]) :=
    asg_ok (bm_ok ev_c rfl (cons_ok ev_c nil_ok) (split_ok (by decide) split_words (by decide +kernel)))
  have hz : (g ++ [.lst (wordL.map D.str)] ++ [Ob.lst (prodS.map D.int)])[(g ++ [Ob.lst (wordL.map D.str)]).length]? = some (.lst (prodS.map D.int)) := end_get
  have dg := dig_eq (ns := ns) (j := j) hz (by decide) (by decide) hj hn
  have a2 : mAsg (mUnA (fCall 3 [] f_l_digits) (mCons (mV 0) (mCons (mV 1) (mCons (mUnA fLst (mCons (mC (.int 4)) (mCons (mC (.int 7)) (mCons (mC (.int 7)) (mCons (mC (.int 2)) (mCons (mC (.int 7)) (mCons (mC (.int 7)) (mCons (mC (.int 2)) (mCons (mC (.int 7)) (mCons (mC (.int 7)) (mCons (mC (.int 2)) mNil))))))))))) mNil)))) (gN 3) [some (.kl (ns.map D.int)), some (.int j), some (.ref g.length), none, none, none] (g ++ [.lst (wordL.map D.str)]) =
      .nx [some (.kl (ns.map D.int)), some (.int j), some (.ref g.length), some (.ref (g ++ [Ob.lst (wordL.map D.str)] ++ [Ob.lst (prodS.map D.int)] ++ digT ns).length), none, none] (g ++ [.lst (wordL.map D.str)] ++ [.lst (prodS.map D.int)] ++ digT ns ++ [.lst ((digF ns j prodS).map D.int)]) :=
    asg_ok (una_ok (cons_ok (ev_v rfl) (cons_ok (ev_v rfl) (cons_ok (una_ok (by repeat' first | assumption | with_reducible exact ev_c | with_reducible exact nil_ok | with_reducible exact plusI _ _ | with_reducible exact subI _ _ | with_reducible exact ltI _ _ | with_reducible exact leI _ _ | with_reducible exact gtI _ _ | with_reducible exact geI _ _ | with_reducible exact eqI _ _ | with_reducible exact eqS _ _ | with_reducible exact neI _ _ | with_reducible exact neS _ _ | with_reducible exact isN_ok _ _ | with_reducible exact len_t | with_reducible exact tuple_t | exact end_get | ((with_reducible apply ev_v); exact rfl) | (with_reducible apply cons_ok) | (with_reducible apply evInt) | (with_reducible apply una_ok) | (with_reducible apply ev2) | (with_reducible apply un_ok) | (with_reducible apply bm_ok) | (with_reducible apply meth_ok) | (with_reducible apply methK_ok) | (with_reducible apply prop_ok) | (with_reducible apply tst) | (with_reducible apply not_ok) | (with_reducible apply asg_ok) | (with_reducible apply drop_ok) | (with_reducible apply if_n2) | (with_reducible apply mulI) | (with_reducible apply modI) | (with_reducible apply divI) | (with_reducible apply subs_at) | (with_reducible apply subs_sd) | (with_reducible apply len_at) | (with_reducible apply tuple_at) | (with_reducible apply tup_ok) | (with_reducible apply lst_ok) | (with_reducible apply fld_ok) | (with_reducible apply app_at) | (with_reducible apply call_ok) | (with_reducible apply ty_lst) | (with_reducible apply ty_dct) | (with_reducible apply app_get) | exact rfl | decide | omega | (simp; done)) (lst_ok (by simp))) nil_ok))) (call_ok rfl dg))
  have hw : (g ++ [.lst (wordL.map D.str)] ++ [.lst (prodS.map D.int)] ++ digT ns ++ [.lst ((digF ns j prodS).map D.int)])[g.length]? = some (.lst (wordL.map D.str)) := app_get (app_get (app_get end_get))
  have hp : (g ++ [.lst (wordL.map D.str)] ++ [.lst (prodS.map D.int)] ++ digT ns ++ [.lst ((digF ns j prodS).map D.int)])[(g ++ [Ob.lst (wordL.map D.str)] ++ [Ob.lst (prodS.map D.int)] ++ digT ns).length]? = some (.lst ((digF ns j prodS).map D.int)) := end_get
  have eG : ∃ X0, g ++ [.lst (wordL.map D.str)] ++ [.lst (prodS.map D.int)] ++ digT ns ++ [.lst ((digF ns j prodS).map D.int)] = g ++ X0 := ⟨[.lst (wordL.map D.str)] ++ [.lst (prodS.map D.int)] ++ digT ns ++ [.lst ((digF ns j prodS).map D.int)], by simp⟩
  have lP : g.length ≤ (g ++ [Ob.lst (wordL.map D.str)] ++ [Ob.lst (prodS.map D.int)] ++ digT ns).length := by simp only [List.length_append]; omega
  generalize (g ++ [Ob.lst (wordL.map D.str)] ++ [Ob.lst (prodS.map D.int)] ++ digT ns).length = q at *
  obtain ⟨X0, eG⟩ := eG
  rw [eG] at a2 hw hp
  have a3 : mAsg (mUnA fLst mNil) (gN 4) [some (.kl (ns.map D.int)), some (.int j), some (.ref g.length), some (.ref q), none, none] (g ++ X0) = .nx [some (.kl (ns.map D.int)), some (.int j), some (.ref g.length), some (.ref q), some (.ref (g ++ X0).length), none] (g ++ X0 ++ [.lst []]) := asg_ok (una_ok nil_ok (lst_ok (by simp)))
  obtain ⟨p0a, p0b, p0c⟩ := pk_ok (ns := ns) (j := j) (i := 0) (s := 4) rfl
  have atP : ∀ i : Nat, i < 10 → L2.atI ((digF ns j prodS).map D.int) (i : Int) = some (.int (pk ns j i)) := fun i hi => by
    have hl := digF_len ns j prodS
    obtain ⟨s, hs⟩ : ∃ s, prodS[i]? = some s := ⟨_, List.getElem?_eq_getElem (by show i < 10; exact hi)⟩
    refine atI_n ?_
    rw [List.getElem?_map, (pk_ok (ns := ns) (j := j) hs).1]
    rfl
  have qlt : q < (g ++ X0).length := lt_of_get hp
  have wlt : g.length < (g ++ X0).length := lt_of_get hw
  generalize hr : (g ++ X0).length = r at *
  have rg : mRange1 (mOp fSubs (mV 3) (mC (.int 0))) [some (.kl (ns.map D.int)), some (.int j), some (.ref g.length), some (.ref q), some (.ref r), none] (g ++ X0 ++ [.lst []]) = .ok (rng 0 (pk ns j 0).toNat, none) (g ++ X0 ++ [.lst []]) :=
    range1_ok (by
      rw [Int.toNat_of_nonneg p0b]
      exact ev2 (ev_v rfl) ev_c (subs_at (app_get hp) (atP 0 (by omega)))) (by omega)
  obtain ⟨τ', G', lp, rs, X, x5, rfl, rfl, h1, h2⟩ := loop_all (c := none) (mi := mRange1 (mOp fSubs (mV 3) (mC (.int 0)))) (mg := gN 5) (mb := mDrop (mBM .lst fApp (mV 4) (mCons (mSl (mUnA fLst (mCons (mOp fSubs (mV 2) (mOp fSubs (mV 3) (mOp fPlus (mC (.int 1)) (mOp fMul (mC (.int 3)) (mV 5))))) (mCons (mOp fSubs (mV 2) (mOp fSubs (mV 3) (mOp fPlus (mC (.int 2)) (mOp fMul (mC (.int 3)) (mV 5))))) mNil))) pNo (pInt (mOp fPlus (mC (.int 1)) (mOp fSubs (mV 3) (mOp fPlus (mC (.int 3)) (mOp fMul (mC (.int 3)) (mV 5))))))) mNil))) (τ := [some (.kl (ns.map D.int)), some (.int j), some (.ref g.length), some (.ref q), some (.ref r), none]) (g := g ++ X0 ++ [.lst []])
    (rng 0 (pk ns j 0).toNat) (fun i τ G => ∃ (rs : List D) (X : List Ob) (x5 : Option D), τ = [some (.kl (ns.map D.int)), some (.int j), some (.ref g.length), some (.ref q), some (.ref r), x5] ∧ G = g ++ X0 ++ [.lst rs] ++ X ∧ lsts G (r + 1) rs ((List.range i).map (prod1 ns j)) ∧ i ≤ 4)
    rg (fun _ _ _ _ => trivial) ⟨[], [], none, rfl, by simp, trivial, by omega⟩ (fun i d τ G hd ⟨rs, X, x5, e1, e2, h1, h2⟩ => by
      subst e1 e2
      obtain ⟨hi, hd2⟩ := rng_get hd
      subst hd2
      refine ⟨_, _, rfl, ?_⟩
      have hi3 : i < 3 := by omega
      have e0 : (0 : Int) + (i : Int) = (i : Int) := by omega
      rw [e0]
      have G1 : (g ++ X0 ++ [Ob.lst rs] ++ X)[g.length]? = some (.lst (wordL.map D.str)) := app_get (app_get hw)
      have G2 : (g ++ X0 ++ [Ob.lst rs] ++ X)[q]? = some (.lst ((digF ns j prodS).map D.int)) := app_get (app_get hp)
      have G3 : (g ++ X0 ++ [Ob.lst rs] ++ X)[r]? = some (.lst rs) := app_get (by rw [← hr]; exact end_get)
      have rl : r < (g ++ X0 ++ [Ob.lst rs] ++ X).length := lt_of_get G3
      have sp : ∀ o : Ob, (g ++ X0 ++ [Ob.lst rs] ++ X).set r o = g ++ X0 ++ [o] ++ X := fun o => by
        rw [List.append_assoc, List.set_append_right _ _ (by omega), ← hr, Nat.sub_self]
        simp
      generalize hG : g ++ X0 ++ [Ob.lst rs] ++ X = G at *
      have lr : rs.length ≤ 100000 := by rw [lsts_len h1]; simp; omega
      have ix : ∀ (a : Nat), a < 4 → ∀ (τ : RL.T), τ[5]? = some (some (.int (i : Int))) → ∀ GG, mOp fPlus (mC (.int (a : Int))) (mOp fMul (mC (.int 3)) (mV 5)) τ GG = .ok (.int ((a + 3 * i : Nat) : Int)) GG := fun a _ τ ht GG => by
        have : ((a + 3 * i : Nat) : Int) = (a : Int) + 3 * (i : Int) := by omega
        rw [this]
        exact ev2 ev_c (ev2 ev_c (ev_v ht) (mulI _ _ (.inl ⟨by decide, by decide⟩))) (plusI _ _)
      obtain ⟨_, a1, a2⟩ := pk_ok (ns := ns) (j := j) (i := 1 + 3 * i) (s := 7) (by
        match i, hi3 with
        | 0, _ => rfl
        | 1, _ => rfl
        | 2, _ => rfl)
      obtain ⟨_, b1, b2⟩ := pk_ok (ns := ns) (j := j) (i := 2 + 3 * i) (s := 7) (by
        match i, hi3 with
        | 0, _ => rfl
        | 1, _ => rfl
        | 2, _ => rfl)
      obtain ⟨_, c1, c2⟩ := pk_ok (ns := ns) (j := j) (i := 3 + 3 * i) (s := 2) (by
        match i, hi3 with
        | 0, _ => rfl
        | 1, _ => rfl
        | 2, _ => rfl)
      have w1 : mUnA fLst (mCons (mOp fSubs (mV 2) (mOp fSubs (mV 3) (mOp fPlus (mC (.int 1)) (mOp fMul (mC (.int 3)) (mV 5))))) (mCons (mOp fSubs (mV 2) (mOp fSubs (mV 3) (mOp fPlus (mC (.int 2)) (mOp fMul (mC (.int 3)) (mV 5))))) mNil)) [some (.kl (ns.map D.int)), some (.int j), some (.ref g.length), some (.ref q), some (.ref r), some (.int (i : Int))] G = .ok (.ref G.length) (G ++ [.lst [.str (wd (pk ns j (1 + 3 * i))), .str (wd (pk ns j (2 + 3 * i)))]]) :=
        una_ok (cons_ok (ev2 (ev_v rfl) (ev2 (ev_v rfl) (ix 1 (by omega) _ rfl _) (subs_at G2 (atP _ (by omega)))) (subs_at G1 (wd_at a1 a2))) (cons_ok (ev2 (ev_v rfl) (ev2 (ev_v rfl) (ix 2 (by omega) _ rfl _) (subs_at G2 (atP _ (by omega)))) (subs_at G1 (wd_at b1 b2))) nil_ok)) (lst_ok (by simp))
      have w2 : mOp fPlus (mC (.int 1)) (mOp fSubs (mV 3) (mOp fPlus (mC (.int 3)) (mOp fMul (mC (.int 3)) (mV 5)))) [some (.kl (ns.map D.int)), some (.int j), some (.ref g.length), some (.ref q), some (.ref r), some (.int (i : Int))] (G ++ [.lst [.str (wd (pk ns j (1 + 3 * i))), .str (wd (pk ns j (2 + 3 * i)))]]) = .ok (.int (((1 + pk ns j (3 + 3 * i)).toNat : Nat) : Int)) (G ++ [.lst [.str (wd (pk ns j (1 + 3 * i))), .str (wd (pk ns j (2 + 3 * i)))]]) := by
        rw [Int.toNat_of_nonneg (by omega)]
        exact ev2 ev_c (ev2 (ev_v rfl) (ix 3 (by omega) _ rfl _) (subs_at (app_get G2) (atP _ (by omega)))) (plusI _ _)
      have w3 := sl_ok w1 pno_ok (pint_ok w2) end_get
      rw [cut_to (by show _ ≤ 2; omega)] at w3
      have ep : [D.str (wd (pk ns j (1 + 3 * i))), .str (wd (pk ns j (2 + 3 * i)))].take (1 + pk ns j (3 + 3 * i)).toNat = (prod1 ns j i).map D.str := by
        unfold prod1
        rw [List.map_take]
        rfl
      rw [ep] at w3
      have w4 := drop_ok (bm_ok (o := mV 4) (τ := [some (.kl (ns.map D.int)), some (.int j), some (.ref g.length), some (.ref q), some (.ref r), some (.int (i : Int))]) (g := G) (ev_v rfl) (ty_lst G3) (cons_ok w3 nil_ok) (app_at (app_get (app_get G3)) lr))
      refine body_nx w4 ⟨rs ++ [.ref (G ++ [Ob.lst [.str (wd (pk ns j (1 + 3 * i))), .str (wd (pk ns j (2 + 3 * i)))]]).length], X ++ [Ob.lst [.str (wd (pk ns j (1 + 3 * i))), .str (wd (pk ns j (2 + 3 * i)))]] ++ [Ob.lst ((prod1 ns j i).map D.str)], some (.int (i : Int)), rfl, ?_, ?_, by omega⟩
      · rw [List.append_assoc, List.set_append_left _ _ rl, sp]
        simp
      · rw [List.range_succ, List.map_append]
        refine lsts_snoc (by rw [List.length_append]; omega) ?_ (lsts_mono h1 fun n o hn ho => ?_)
        · rw [List.getElem?_set_ne (by rw [List.length_append]; omega)]
          exact end_get
        · rw [List.getElem?_set_ne (by omega)]
          exact app_get (app_get ho))
  refine ⟨X0 ++ [.lst rs] ++ X, r, rs, ?_, by rw [← hr, List.length_append]; omega, ?_, ?_⟩
  · unfold f_l_products
    rw [← List.append_assoc, ← List.append_assoc]
    exact run_rt (seq_go a1 (seq_go a2 (seq_go a3 (seq_go lp (ret_ok (ev_v rfl))))))
  · rw [← List.append_assoc, ← List.append_assoc]
    exact app_get (by rw [← hr]; exact end_get)
  · rw [← List.append_assoc, ← List.append_assoc]
    rw [show (rng 0 (pk ns j 0).toNat).length = (pk ns j 0).toNat from by simp [rng]] at h1
    unfold prodF
    have low : ∀ (GG : G) (a b : Nat), a ≤ b → ∀ (rs : List D) (ps : List (List Str)), lsts GG b rs ps → lsts GG a rs ps := by
      intro GG a b hab rs
      induction rs with
      | nil => intro ps h; cases ps with
        | nil => trivial
        | cons _ _ => exact h.elim
      | cons d rs ih =>
        intro ps h
        cases ps with
        | nil => cases d <;> exact h.elim
        | cons p ps =>
          cases d with
          | ref n => exact ⟨Nat.le_trans hab h.1, h.2.1, ih ps h.2.2⟩
          | _ => exact h.elim
    exact low _ _ _ (by omega) _ _ h1
end
end My
namespace My
open PySem L2 RL
/-! up, joins, owner -/
structure WldG (g : G) (w u o : Nat) (ls : List LE) : Prop where
  top : ∃ l, g[w]? = some (.dct false (sd l)) ∧ l.lookup ("ups" : Str) = some (.ref u) ∧ l.lookup ("order" : Str) = some (.ref o)
  ups : g[u]? = some (.dct false (sd (ls.map fun e => (e.nm, .ref e.ru))))
  ord : g[o]? = some (.lst ((nmsOf ls).map D.str))
  each : ∀ e ∈ ls, g[e.ru]? = some (.lst (e.ups.map D.str))
section
variable {g g' : G} {w u o : Nat} {ls : List LE} {nm x y : Str} {S : List Nat}
theorem WldG.frame0 (h : WldG g w u o ls) (x : Gx [] g g') : WldG g' w u o ls := by
  obtain ⟨l, h1, h2⟩ := h.top
  exact ⟨⟨l, x.get0 h1, h2⟩, x.get0 h.ups, x.get0 h.ord, fun e he => x.get0 (h.each e he)⟩
theorem wld_ups (h : WldG g w u o ls) : fSubs (.ref w) (.str "ups") g = .ok (.ref u) g := by
  obtain ⟨l, h1, h2, h3⟩ := h.top
  exact subs_sd h1 h2
theorem wld_ord (h : WldG g w u o ls) : fSubs (.ref w) (.str "order") g = .ok (.ref o) g := by
  obtain ⟨l, h1, h2, h3⟩ := h.top
  exact subs_sd h1 h3
theorem gx_app (X : G) : Gx [] g (g ++ X) := Gx.app
/-- the way up is the cone, in its order -/
theorem up_ok : ∀ (n : Nat) {g : G} {x : Str}, WldG g w u o ls → LinOk ls → ls.length ≤ 80 → x ∈ nmsOf ls → (ksOf ls x).length ≤ n → ∃ (X : List Ob) (r : Nat), f_l_up n [.ref w, .str x] g = .ok (.ref r) (g ++ X) ∧ g.length ≤ r ∧ (g ++ X)[r]? = some (.lst ((ksOf ls x).map D.str))
  | 0, g, x, h, ok, hl, hx, hn => by
    have := List.length_pos_of_mem (ok.self hx)
    omega
  | n + 1, g, x, h, ok, hl, hx, hn => by
    obtain ⟨e, em, ef, enm, ek⟩ := ks_eq ok hx
    have kl := ok.klen x
    have us : fSubs (.ref u) (.str x) g = .ok (.ref e.ru) g := subs_sd h.ups (by rw [look_map, ef]; rfl)
    have s1 : mAsg (mUnA fLst (mCons (mV 1) mNil)) (gN 2) [some (.ref w), some (.str x), none, none] g = .nx [some (.ref w), some (.str x), some (.ref g.length), none] (g ++ [.lst [.str x]]) := asg_ok (una_ok (cons_ok (ev_v rfl) nil_ok) (lst_ok (by simp)))
    have h1 := h.frame0 (gx_app [.lst [.str x]])
    obtain ⟨τ', g', lp, r, X, x3, hτ, hg, hge, hr⟩ := loop_all (mi := mSeqI (mOp fSubs (mOp fSubs (mV 0) (mC (.str "ups"))) (mV 1))) (mg := gN 3) (mb := mAsg (mOp fPlus (mV 2) (mUnA (fCall 2 [] (f_l_up n)) (mCons (mV 0) (mCons (mV 3) mNil)))) (gN 2)) (τ := [some (.ref w), some (.str x), some (.ref g.length), none]) (g := g ++ [.lst [.str x]])
      (e.ups.map D.str) (fun i τ G => ∃ (r : Nat) (X : List Ob) (x3 : Option D), τ = [some (.ref w), some (.str x), some (.ref r), x3] ∧ G = g ++ X ∧ g.length ≤ r ∧ G[r]? = some (.lst ((x :: (e.ups.take i).flatMap (ksOf ls)).map D.str)))
      (seqL_ok (ev2 (ev2 (ev_v rfl) ev_c (wld_ups h1)) (ev_v rfl) (subs_sd h1.ups (by rw [look_map, ef]; rfl))) (h1.each e em)) (fun i τ G ⟨r, X, x3, _, hg, _⟩ => by rw [hg]; exact (gx_app X).get0 (h.each e em)) ⟨g.length, _, none, rfl, rfl, Nat.le_refl _, end_get⟩ (fun i d τ G hd ⟨r, X, x3, hτ, hg, hge, hr⟩ => by
        subst hτ hg
        rw [List.getElem?_map] at hd
        obtain ⟨v, hv, rfl⟩ := Option.map_eq_some_iff.mp hd
        have vm := List.mem_of_getElem? hv
        have fl := len_flat (f := ksOf ls) vm
        rw [ek, List.length_cons] at hn kl
        obtain ⟨Y, r2, e1, e2, e3⟩ := up_ok n (h.frame0 (gx_app X)) ok hl (ok.ups e em v vm) (by omega)
        have hr2 := (gx_app Y).get0 hr
        have tk : e.ups.take (i + 1) = e.ups.take i ++ [v] := by rw [List.take_add_one, hv]; rfl
        have tl : ((e.ups.take i).flatMap (ksOf ls)).length ≤ (e.ups.flatMap (ksOf ls)).length := by
          have : e.ups.flatMap (ksOf ls) = (e.ups.take i).flatMap (ksOf ls) ++ (e.ups.drop i).flatMap (ksOf ls) := by rw [← List.flatMap_append, List.take_append_drop]
          rw [this, List.length_append]
          omega
        refine ⟨_, _, rfl, body_nx (asg_ok (ev2 (ev_v rfl) (una_ok (cons_ok (ev_v rfl) (cons_ok (ev_v rfl) nil_ok)) (call_ok rfl e1)) (plusL hr2 e3 ?_))) ⟨(g ++ X ++ Y).length, X ++ Y ++ [.lst ((x :: (e.ups.take i).flatMap (ksOf ls)).map D.str ++ (ksOf ls v).map D.str)], some (.str v), rfl, by simp, by simp only [List.length_append]; omega, ?_⟩⟩
        · rw [List.length_map, List.length_map, List.length_cons]
          omega
        · rw [end_get, tk, List.flatMap_append, List.flatMap_singleton, ← List.map_append]
          rfl)
    subst hτ hg
    rw [List.length_map, List.take_length, ← ek] at hr
    refine ⟨X, r, ?_, hge, hr⟩
    unfold f_l_up
    exact run_rt (seq_go s1 (seq_go lp (ret_ok (ev_v rfl))))
def joinsB (ls : List LE) (us : List Str) (x : Str) : Bool := us.any fun v => (ksOf ls v).any fun z => decide (z ∈ ksOf ls x)
theorem filt_cnt {l : List Str} {p : Str → Bool} {q : D → Bool} (h : ∀ z, q (.str z) = p z) : decide ((0 : Int) < ((((l.map D.str).filter q).map id).length : Nat)) = l.any p := by
  rw [List.map_id, Bool.eq_iff_iff, decide_eq_true_eq, List.any_eq_true]
  constructor
  · intro hp
    have hp : 0 < ((l.map D.str).filter q).length := by omega
    obtain ⟨d, hd⟩ := List.exists_mem_of_length_pos hp
    obtain ⟨h1, h2⟩ := List.mem_filter.mp hd
    obtain ⟨z, hz, rfl⟩ := List.mem_map.mp h1
    exact ⟨z, hz, by rw [← h]; exact h2⟩
  · rintro ⟨z, h1, h2⟩
    have : D.str z ∈ (l.map D.str).filter q := List.mem_filter.mpr ⟨List.mem_map.mpr ⟨z, h1, rfl⟩, by rw [h]; exact h2⟩
    have := List.length_pos_of_mem this
    omega
end
end My
namespace My
open PySem L2 RL
section
variable {g g' : G} {w u o : Nat} {ls : List LE} {nm x y : Str} {S : List Nat}
theorem lstr_pos (l : List Str) : decide ((0 : Int) < (((l.map D.str).length : Nat) : Int)) = decide (l ≠ []) := by
  rw [decide_eq_decide, List.length_map]
  cases l with
  | nil => simp
  | cons a l => simp
theorem filt_any (l : List Str) (p : Str → Bool) : decide (l.filter p ≠ []) = l.any p := by
  rw [Bool.eq_iff_iff, decide_eq_true_eq, List.any_eq_true]
  constructor
  · intro h
    obtain ⟨z, hz⟩ := List.exists_mem_of_ne_nil _ h
    exact ⟨z, (List.mem_filter.mp hz).1, (List.mem_filter.mp hz).2⟩
  · rintro ⟨z, h1, h2⟩ h
    have := List.mem_filter.mpr ⟨h1, h2⟩
    rw [h] at this
    simp at this
/-- the things of l that lie in the cone of x, counted -/
theorem cnt_ok {c : Option (Nat × Ob)} {own : List Nat} {mi : MI} {t : Tg} {mt : MT} {me : ME} {τ : RL.T} {l : List Str} {X0 : G} (p : Str → Bool) (hi : mi τ g = .ok (l.map D.str, c) (g ++ X0)) (hc : still c (g ++ X0)) (h : ∀ z ∈ l, ∀ X : G, (∃ W, X = X0 ++ W) → ∃ τ1, tgM t (.str z) (wipeT τ own) = some τ1 ∧ ∃ Y, mt τ1 (g ++ X) = .ok (p z) (g ++ X ++ Y) ∧ me τ1 (g ++ X ++ Y) = .ok (.str z) (g ++ X ++ Y)) (hl : l.length ≤ 100000) :
    ∃ X, mOp fGt (mUnA fLen (mCons (mLc own mi t mt me) mNil)) (mC (.int 0)) τ g = .ok (.bl (l.any p)) (g ++ X) := by
  obtain ⟨X, e⟩ := lc_strs p hi hc h hl
  refine ⟨X ++ [.lst ((l.filter p).map D.str)], ?_⟩
  rw [← List.append_assoc, ← filt_any, ← lstr_pos]
  exact ev2 (una_ok (cons_ok e nil_ok) (len_at end_get)) ev_c (gtI _ 0)
theorem joins_ok {n : Nat} {us : List Str} (h : WldG g w u o ls) (ok : LinOk ls) (hl : ls.length ≤ 30) (hn : g[n]? = some (.lst (us.map D.str))) (hu : ∀ v ∈ us, v ∈ nmsOf ls) (hz : us.length ≤ 1000) (hx : x ∈ nmsOf ls) :
    ∃ X : List Ob, f_l_joins [.ref w, .ref n, .str x] g = .ok (.bl (joinsB ls us x)) (g ++ X) := by
  have kl := ok.klen x
  obtain ⟨X0, r, e0, hge, hr⟩ := up_ok 30 h ok (by omega) hx (by omega)
  have a0 : mAsg (mUnA (fCall 2 [] (f_l_up 30)) (mCons (mV 0) (mCons (mV 2) mNil))) (gN 3) [some (.ref w), some (.ref n), some (.str x), none, none, none] g = .nx [some (.ref w), some (.ref n), some (.str x), some (.ref r), none, none] (g ++ X0) := asg_ok (una_ok (cons_ok (ev_v rfl) (cons_ok (ev_v rfl) nil_ok)) (call_ok rfl e0))
  obtain ⟨X, e⟩ := cnt_ok (g := g ++ X0) (own := [("_law_other", 4)].map (·.2)) (mi := mSeqI (mV 1)) (t := .one 4) (mt := mTest (mOp fGt (mUnA fLen (mCons (mLc ([("_law_x", 5)].map (·.2)) (mSeqI (mUnA (fCall 2 [] (f_l_up 30)) (mCons (mV 0) (mCons (mV 4) mNil)))) (.one 5) (mTest (mOp fIn (mV 5) (mV 3))) (mV 5)) mNil)) (mC (.int 0)))) (me := mV 4) (τ := [some (.ref w), some (.ref n), some (.str x), some (.ref r), none, none]) (X0 := []) (l := us) (fun v => (ksOf ls v).any fun z => decide (z ∈ ksOf ls x))
    (c := some (n, .lst (us.map D.str))) (by rw [List.append_nil]; exact seqL_ok (ev_v rfl) ((gx_app X0).get0 hn)) (by rw [List.append_nil]; exact (gx_app X0).get0 hn) (fun v hv X _ => by
      have hG : g ++ X0 ++ X = g ++ (X0 ++ X) := List.append_assoc _ _ _
      have hv' := hu v hv
      have kv := ok.klen v
      have hr' := (gx_app X).get0 hr
      rw [hG] at hr' ⊢
      obtain ⟨X2, r2, e2, hge2, hr2⟩ := up_ok 30 (h.frame0 (gx_app (X0 ++ X))) ok (by omega) hv' (by omega)
      obtain ⟨X3, e3⟩ := cnt_ok (g := g ++ (X0 ++ X)) (own := [("_law_x", 5)].map (·.2)) (mi := mSeqI (mUnA (fCall 2 [] (f_l_up 30)) (mCons (mV 0) (mCons (mV 4) mNil)))) (t := .one 5) (mt := mTest (mOp fIn (mV 5) (mV 3))) (me := mV 5) (τ := [some (.ref w), some (.ref n), some (.str x), some (.ref r), some (.str v), none]) (X0 := X2) (l := ksOf ls v) (fun z => decide (z ∈ ksOf ls x))
        (seqL_ok (una_ok (cons_ok (ev_v rfl) (cons_ok (ev_v rfl) nil_ok)) (call_ok rfl e2)) hr2) (still_at hr2) (fun z hz Y ⟨W, hW⟩ => by
          refine ⟨_, rfl, [], ?_, ?_⟩
          · rw [List.append_nil]
            exact tst (ev2 (ev_v rfl) (ev_v rfl) (in_strs z (items_at ((gx_app Y).get0 hr'))))
          · rw [List.append_nil]
            exact ev_v rfl) (by omega)
      exact ⟨_, rfl, X3, tst e3, ev_v rfl⟩) (by omega)
  refine ⟨X0 ++ X, ?_⟩
  unfold f_l_joins
  refine run_rt (seq_go a0 (ret_ok ?_))
  rw [← List.append_assoc]
  exact e
/-- the first class of the cone that declares the name -/
theorem owner_ok {n : Str} {dc : Nat} {l : List (Str × D)} {kl : List S2'} (h : WldG g w u o ls) (ok : LinOk ls) (hl : ls.length ≤ 30) (hw : g[w]? = some (.dct false (sd l))) (hd : l.lookup ("decl" : Str) = some (.ref dc)) (hk : g[dc]? = some (.lst (kl.map d2))) (hx : x ∈ nmsOf ls) :
    ∃ X : List Ob, f_l_owner [.ref w, .str x, .str n] g = .ok (optS ((ksOf ls x).find? fun u => decide ((u, n) ∈ kl))) (g ++ X) := by
  have kl' := ok.klen x
  obtain ⟨X0, r, e0, hge, hr⟩ := up_ok 30 h ok (by omega) hx (by omega)
  obtain ⟨X, e⟩ := lc_strs (g := g) (own := [("_law_upper", 4)].map (·.2)) (mi := mSeqI (mUnA (fCall 2 [] (f_l_up 30)) (mCons (mV 0) (mCons (mV 1) mNil)))) (t := .one 4) (mt := mTest (mOp fIn (mUnA fTup (mCons (mV 4) (mCons (mV 2) mNil))) (mOp fSubs (mV 0) (mC (.str "decl"))))) (me := mV 4) (τ := [some (.ref w), some (.str x), some (.str n), none, none]) (X0 := X0) (l := ksOf ls x) (fun u => decide ((u, n) ∈ kl))
    (seqL_ok (una_ok (cons_ok (ev_v rfl) (cons_ok (ev_v rfl) nil_ok)) (call_ok rfl e0)) hr) (still_at hr) (fun z hz X _ => by
      refine ⟨_, rfl, [], ?_, ?_⟩
      · rw [List.append_nil]
        exact tst (ev2 (una_ok (cons_ok (ev_v rfl) (cons_ok (ev_v rfl) nil_ok)) (tup_ok (by simp))) (ev2 (ev_v rfl) ev_c (subs_sd ((gx_app X).get0 hw) hd)) (inl_d2 (items_at ((gx_app X).get0 hk))))
      · rw [List.append_nil]
        exact ev_v rfl) (by omega)
  refine ⟨X ++ [.lst (((ksOf ls x).filter fun u => decide ((u, n) ∈ kl)).map D.str)] ++ [.lst [.non]] ++ [.lst (((ksOf ls x).filter fun u => decide ((u, n) ∈ kl)).map D.str ++ [.non])], ?_⟩
  unfold f_l_owner
  have a1 := asg_ok (i := 3) e
  have fl := List.length_filter_le (fun u => decide ((u, n) ∈ kl)) (ksOf ls x)
  refine run_rt (seq_go a1 (ret_ok (ev2 (ev2 (ev_v rfl) (una_ok (cons_ok ev_c nil_ok) (lst_ok (by simp))) (plusL (app_get end_get) end_get ?_)) ev_c ?_)))
  · rw [List.length_map, List.length_singleton]
    omega
  · rw [← List.append_assoc, ← List.append_assoc, ← List.append_assoc]
    refine subs_at end_get ?_
    have key : ∀ l : List Str, L2.atI ((l.filter fun u => decide ((u, n) ∈ kl)).map D.str ++ [.non]) 0 = some (optS (l.find? fun u => decide ((u, n) ∈ kl))) := by
      intro l
      have e0 : (0 : Int) = ((0 : Nat) : Int) := rfl
      rw [e0]
      refine atI_n ?_
      induction l with
      | nil => rfl
      | cons v l ih =>
        rw [List.filter_cons, List.find?_cons]
        cases c : decide ((v, n) ∈ kl) with
        | true => rfl
        | false => exact ih
    exact key _
end
end My
namespace My
open PySem L2 RL
/-! what stands in front of all else: the library and the law's own picture of it -/
abbrev A0 : LibA := ⟨0, 1, 2, 3, 4, 5, 6, 7, 8, 9⟩
structure Ctx where
  (o10 o11 o12 o13 o14 o15 o16 o17 o27 o28 o29 : Ob)
  st : List Int
  (lv pk sl : Nat)
  (levels packs : List Str)
def outL (ls : List LE) : List (Str × D) := ls.map fun e => (e.nm, e.out)
def basL (ls : List LE) : List (Str × D) := ls.map fun e => (e.nm, .tup (e.ups.map D.str))
def linL (ls : List LE) : List (Str × D) := ls.map fun e => (e.nm, .ref e.rl)
def upsL (ls : List LE) : List (Str × D) := ls.map fun e => (e.nm, .ref e.ru)
def kindL (s : LibSt) : List (Str × D) := s.roots.map fun p => (p.1, D.str ((s.kinds.lookup (p.2, p.1)).getD ""))
def worldL (c : Ctx) : List (Str × D) := [("order", .ref 18), ("outer", .ref 19), ("ups", .ref 20), ("pack", .ref 21), ("decl", .ref 22), ("kind", .ref 23), ("root", .ref 24), ("mark", .ref 25), ("uses", .ref 27), ("later", .ref 28), ("words", .ref 29), ("starts", .ref 30), ("levels", .ref c.lv), ("packs", .ref c.pk), ("sealed", .ref c.sl)]
def base2 (c : Ctx) (s t : LibSt) : G := [libO A0, .dct false (sd t.sealed), .dct false (sd (outL t.ls)), .dct false (sd (basL t.ls)), .dct false (sd (linL t.ls)), .dct false (sd t.packs), .dct false (sd (vs t.roots)), .dct false (kd d2 (vs t.kinds)), .dct false (kd d3 (vs t.levels)), .dct false t.uses,
  c.o10, c.o11, c.o12, c.o13, c.o14, c.o15, c.o16, c.o17,
  .lst ((nmsOf s.ls).map D.str), .dct false (sd (outL s.ls)), .dct false (sd (upsL s.ls)), .dct false (sd s.packs), .lst ((s.kinds.map (·.1)).map d2), .dct false (sd (kindL s)), .dct false (sd (vs s.roots)), .dct false (kd d3 (vs s.levels)), .dct false (sd (worldL c)), c.o27, c.o28, c.o29, .lst (c.st.map D.int)]
abbrev base (c : Ctx) (s : LibSt) : G := base2 c s s
structure Fz (R : G) (c : Ctx) (ls : List LE) : Prop where
  line : ∀ e ∈ ls, 31 ≤ e.rl ∧ R[e.rl - 31]? = some (.dct false (sd (kt e.ks)))
  ups : ∀ e ∈ ls, 31 ≤ e.ru ∧ R[e.ru - 31]? = some (.lst (e.ups.map D.str))
  lv : 31 ≤ c.lv ∧ R[c.lv - 31]? = some (.lst (c.levels.map D.str))
  pk : 31 ≤ c.pk ∧ R[c.pk - 31]? = some (.lst (c.packs.map D.str))
section
variable {R X : G} {c : Ctx} {s t : LibSt} {ls : List LE}
theorem base_len : (base2 c s t).length = 31 := rfl
theorem at_R {n : Nat} {o : Ob} (h : 31 ≤ n) (e : R[n - 31]? = some o) : (base2 c s t ++ R)[n]? = some o := by
  rw [get_R (by rw [base_len]; exact h)]
  exact e
theorem Fz.app (h : Fz R c ls) : Fz (R ++ X) c ls :=
  ⟨fun e he => ⟨(h.line e he).1, app_get (h.line e he).2⟩, fun e he => ⟨(h.ups e he).1, app_get (h.ups e he).2⟩, ⟨h.lv.1, app_get h.lv.2⟩, ⟨h.pk.1, app_get h.pk.2⟩⟩
theorem Fz.lib (h : Fz R c t.ls) : LibG (base2 c s t ++ R) A0 t := by
  refine ⟨rfl, rfl, ⟨⟨"Library", _, rfl, by simp, rfl, rfl, rfl⟩, rfl, rfl, rfl, fun e he => at_R (h.line e he).1 (h.line e he).2, by decide, fun e he => ?_⟩, rfl, rfl, rfl, rfl, rfl, by decide, fun e he => ?_⟩
  · have := (h.line e he).1
    show e.rl ≠ 2 ∧ e.rl ≠ 3 ∧ e.rl ≠ 4
    omega
  · have := (h.line e he).1
    simp only [List.mem_cons, List.not_mem_nil, or_false]
    omega
theorem Fz.wld (h : Fz R c s.ls) : WldG (base2 c s t ++ R) 26 20 18 s.ls :=
  ⟨⟨worldL c, rfl, rfl, rfl⟩, rfl, rfl, fun e he => at_R (h.ups e he).1 (h.ups e he).2⟩
theorem wkey {k : Str} {n : Nat} (h : (worldL c).lookup k = some (.ref n)) : fSubs (.ref 26) (.str k) (base2 c s t ++ R) = .ok (.ref n) (base2 c s t ++ R) := subs_sd (l := worldL c) rfl h
end
/-- the state after so many classes and members -/
structure Inv (c : Ctx) (s : LibSt) (k m : Nat) : Prop where
  ok : LibOk s
  sl : s.sealed.map (·.1) = c.packs
  pk0 : c.packs ≠ []
  lv0 : c.levels ≠ []
  zp : c.packs.length ≤ 100
  zl : c.levels.length ≤ 100
  st : ∃ a b d e, c.st = [a, b, d, e]
  len : s.ls.length = k
  nms : ∀ x ∈ nmsOf s.ls, ∃ j : Nat, j < k ∧ x = nameF (c.st.getD 2 0) (j : Int)
  pks : ∀ x d, s.packs.lookup x = some d → ∃ q ∈ c.packs, d = .str q
  mlen : s.kinds.length = m
  mns : ∀ x ∈ s.roots.map (·.1), ∃ j : Nat, j < m ∧ x = nameF (c.st.getD 3 0) (j : Int)
end My
namespace My
open PySem L2 RL
section
variable {g g' : G} {w u o : Nat} {ls : List LE} {nm x y : Str} {S : List Nat}
/-- bases that do not join, taken up one by one, let the lineage have them -/
theorem joinF_ok (ok : LinOk ls) : ∀ (us seen : List Str), (∀ v ∈ us, ∀ z ∈ ksOf ls v, z ∉ seen) → us.Pairwise (fun v v' => ∀ z ∈ ksOf ls v', z ∉ ksOf ls v) → joinF ls seen us = none
  | [], _, _, _ => rfl
  | v :: us, seen, h, pw => by
    rw [List.pairwise_cons] at pw
    unfold joinF
    rw [if_neg, joinF_ok ok us _ (fun v' hv' z hz hc => ?_) pw.2]
    · rcases List.mem_append.mp hc with hc | hc
      · exact h v' (List.mem_cons_of_mem _ hv') z hz hc
      · exact pw.1 v' hv' z hz hc
    · intro hc
      obtain ⟨z, h1, h2⟩ := List.any_eq_true.mp hc
      exact h v List.mem_cons_self z h1 (of_decide_eq_true h2)
theorem link_none {out : D} {us : List Str} (ok : LinOk ls) (hn : nm ∉ nmsOf ls) (ho : outOk ls out) (hu : ∀ v ∈ us, v ∈ nmsOf ls) (pw : us.Pairwise (fun v v' => ∀ z ∈ ksOf ls v', z ∉ ksOf ls v)) : linkErr ls nm out us = none := by
  unfold linkErr nameErr baseErr
  rw [if_neg hn]
  have e1 : us.find? (fun u => !decide (u ∈ nmsOf ls)) = none := List.find?_eq_none.mpr fun v hv => by rw [decide_eq_true (hu v hv)]; simp
  have e2 := joinF_ok ok us [] (fun _ _ _ _ h => by simp at h) pw
  rcases ho with rfl | ⟨s, hs, rfl⟩
  · dsimp only
    rw [e1]
    dsimp only
    rw [e2]
  · dsimp only
    rw [if_pos hs]
    dsimp only
    rw [e1]
    dsimp only
    rw [e2]
end
end My
namespace My
open PySem L2 RL
/-! a class of the law -/
def good (ls : List LE) (us : List Str) : Prop := (∀ v ∈ us, v ∈ nmsOf ls) ∧ us.Pairwise (fun v v' => ∀ z ∈ ksOf ls v', z ∉ ksOf ls v)
def pickB : MS := mIfS (mAndT (mTest (mOp fLt (mV 10) (mV 3))) (mNotT (mTest (mUnA (fCall 3 [] f_l_joins) (mCons (mV 1) (mCons (mV 9) (mCons (mOp fSubs (mOp fSubs (mV 1) (mC (.str "order"))) (mV 10)) mNil))))))) (mDrop (mBM .lst fApp (mV 9) (mCons (mOp fSubs (mOp fSubs (mV 1) (mC (.str "order"))) (mV 10)) mNil))) mNext
abbrev slC (ns : List Int) (k : Nat) (x4 x5 x6 x7 x8 x9 x10 : Option D) : RL.T := [some (.kl (ns.map D.int)), some (.ref 26), some (.ref 0), some (.int (k : Int)), x4, x5, x6, x7, x8, x9, x10]
section
variable {gA : G} {ns : List Int} {ls : List LE} {k : Nat}
theorem ord_at {g : G} {w u o n : Nat} (h : WldG g w u o ls) (hn : n < ls.length) : ∃ x, (nmsOf ls)[n]? = some x ∧ x ∈ nmsOf ls ∧ ∀ (τ : RL.T) (a b : ME), a τ g = .ok (.ref w) g → b τ g = .ok (.int (n : Int)) g → mOp fSubs (mOp fSubs a (mC (.str "order"))) b τ g = .ok (.str x) g := by
  have hl : n < (nmsOf ls).length := by simp only [nmsOf, List.length_map]; exact hn
  refine ⟨(nmsOf ls)[n], List.getElem?_eq_getElem hl, List.getElem_mem hl, fun τ a b ha hb => ?_⟩
  exact ev2 (ev2 ha ev_c (wld_ord h)) hb (subs_at h.ord (atI_n (by rw [List.getElem?_map, List.getElem?_eq_getElem hl]; rfl)))
theorem pick_ok {us : List Str} {B : G} {z : Int} {x4 x5 x6 x7 x8 : Option D} (h : WldG gA 26 20 18 ls) (ok : LinOk ls) (hl : ls.length = k) (hk : k ≤ 30) (hz : 0 ≤ z) (hu : good ls us) (hlen : us.length ≤ 10) :
    ∃ us' Y, pickB (slC ns k x4 x5 x6 x7 x8 (some (.ref gA.length)) (some (.int z))) (gA ++ [.lst (us.map D.str)] ++ B) = .nx (slC ns k x4 x5 x6 x7 x8 (some (.ref gA.length)) (some (.int z))) (gA ++ [.lst (us'.map D.str)] ++ (B ++ Y)) ∧ good ls us' ∧ us'.length ≤ us.length + 1 := by
  have hr : (gA ++ [Ob.lst (us.map D.str)] ++ B)[gA.length]? = some (.lst (us.map D.str)) := get_mid
  have h' : WldG (gA ++ [Ob.lst (us.map D.str)] ++ B) 26 20 18 ls := h.frame0 gx_mid
  have sp : ∀ (o : Ob) (Y : G), (gA ++ [Ob.lst (us.map D.str)] ++ B ++ Y).set gA.length o = gA ++ [o] ++ (B ++ Y) := fun o Y => by
    rw [List.append_assoc (gA ++ [_]), set_mid]
  generalize hG : gA ++ [Ob.lst (us.map D.str)] ++ B = G at *
  have t1 : mTest (mOp fLt (mV 10) (mV 3)) (slC ns k x4 x5 x6 x7 x8 (some (.ref gA.length)) (some (.int z))) G = .ok (decide (z < (k : Int))) G := tst (ev2 (ev_v rfl) (ev_v rfl) (ltI _ _))
  unfold pickB
  by_cases c : z < (k : Int)
  · rw [decide_eq_true c] at t1
    obtain ⟨n, rfl⟩ := Int.eq_ofNat_of_zero_le hz
    obtain ⟨x, x1, x2, x3⟩ := ord_at (n := n) h' (by omega)
    obtain ⟨X, j1⟩ := joins_ok h' ok (by omega) hr hu.1 (by omega) x2
    have t2 := not_ok (tst (una_ok (τ := slC ns k x4 x5 x6 x7 x8 (some (.ref gA.length)) (some (.int (n : Int)))) (a := mCons (mV 1) (mCons (mV 9) (mCons (mOp fSubs (mOp fSubs (mV 1) (mC (.str "order"))) (mV 10)) mNil))) (cons_ok (ev_v rfl) (cons_ok (ev_v rfl) (cons_ok (x3 _ _ _ (ev_v rfl) (ev_v rfl)) nil_ok))) (call_ok (n := 3) (es := []) rfl j1)))
    have t3 := and_t t1 t2
    cases cj : joinsB ls us x with
    | true =>
      rw [cj] at t3
      refine ⟨us, X, ?_, hu, by omega⟩
      rw [← List.append_assoc, hG]
      exact if_n2 t3
    | false =>
      rw [cj] at t3
      obtain ⟨y, y1, y2, y3⟩ := ord_at (n := n) (h'.frame0 (gx_app X)) (by omega)
      rw [x1] at y1
      cases y1
      refine ⟨us ++ [x], X, ?_, ⟨fun v hv => ?_, ?_⟩, by simp⟩
      · have e := if_tr t3 (drop_ok (bm_ok (o := mV 9) (ev_v rfl) (ty_lst (app_get hr)) (cons_ok (y3 _ (mV 1) (mV 10) (ev_v rfl) (ev_v rfl)) nil_ok) (app_at (app_get hr) (by rw [List.length_map]; omega)))) (b := mNext)
        rw [sp] at e
        rw [e]
        simp
      · rcases List.mem_append.mp hv with hv | hv
        · exact hu.1 v hv
        · rw [List.mem_singleton.mp hv]; exact x2
      · refine List.pairwise_append.mpr ⟨hu.2, by simp, fun v hv v' hv' z hz hc => ?_⟩
        rw [List.mem_singleton.mp hv'] at hz
        have := List.any_eq_false.mp cj v hv
        exact this (List.any_eq_true.mpr ⟨z, hc, decide_eq_true hz⟩)
  · rw [decide_eq_false c] at t1
    refine ⟨us, [], ?_, hu, by omega⟩
    rw [List.append_nil, hG]
    exact if_n2 (and_f t1)
theorem picks_ok {q : Nat} {l : List Int} {B : G} {x4 x5 x6 x7 x8 : Option D} {mi : MI} (h : WldG gA 26 20 18 ls) (ok : LinOk ls) (hl : ls.length = k) (hk : k ≤ 30) (hz : ∀ z ∈ l, 0 ≤ z) (hq : l.length ≤ 8)
    (hm : mi (slC ns k x4 x5 x6 x7 x8 (some (.ref gA.length)) none) (gA ++ [.lst []]) = .ok (l.map D.int, some (q, .lst (l.map D.int))) (gA ++ [.lst []] ++ B)) (hs : (gA ++ [Ob.lst []] ++ B)[q]? = some (.lst (l.map D.int))) (hqq : gA.length < q) :
    ∃ us x10 B', mFor mi (gN 10) pickB (slC ns k x4 x5 x6 x7 x8 (some (.ref gA.length)) none) (gA ++ [.lst []]) = .nx (slC ns k x4 x5 x6 x7 x8 (some (.ref gA.length)) x10) (gA ++ [.lst (us.map D.str)] ++ B') ∧ good ls us ∧ us.length ≤ 10 := by
  have hq2 : B[q - gA.length - 1]? = some (.lst (l.map D.int)) := by
    rw [List.append_assoc, List.getElem?_append_right (by omega)] at hs
    rw [← hs, List.getElem?_append_right (by show 1 ≤ _; omega)]
    rfl
  have keep : ∀ (o : Ob) (Y : G), (gA ++ [o] ++ (B ++ Y))[q]? = some (.lst (l.map D.int)) := fun o Y => by
    rw [List.append_assoc, List.getElem?_append_right (by omega), List.getElem?_append_right (by show 1 ≤ _; omega)]
    exact app_get hq2
  obtain ⟨τ', G', lp, us, x10, Y, rfl, rfl, h1, h2⟩ := loop_all (mi := mi) (mg := gN 10) (mb := pickB) (τ := slC ns k x4 x5 x6 x7 x8 (some (.ref gA.length)) none) (g := gA ++ [.lst []]) (l.map D.int)
    (fun i τ G => ∃ us x10 Y, τ = slC ns k x4 x5 x6 x7 x8 (some (.ref gA.length)) x10 ∧ G = gA ++ [Ob.lst (us.map D.str)] ++ (B ++ Y) ∧ good ls us ∧ us.length ≤ i ∧ i ≤ l.length) hm (fun i τ G ⟨us, x10, Y, _, e, _⟩ => by rw [e]; exact keep _ _) ⟨[], none, [], rfl, by simp, ⟨by simp, List.Pairwise.nil⟩, by simp, by simp⟩ (fun i d τ G hd ⟨us, x10, Y, e1, e2, h1, h2, h3⟩ => by
      subst e1 e2
      have hi : i < l.length := by
        have := (List.getElem?_eq_some_iff.mp hd).1
        rwa [List.length_map] at this
      rw [List.getElem?_map] at hd
      obtain ⟨z, hz', rfl⟩ := Option.map_eq_some_iff.mp hd
      obtain ⟨us', Z, e, g1, g2⟩ := pick_ok (gA := gA) (ns := ns) (B := B ++ Y) (x4 := x4) (x5 := x5) (x6 := x6) (x7 := x7) (x8 := x8) h ok hl hk (hz z (List.mem_of_getElem? hz')) h1 (by omega)
      rw [List.append_assoc B] at e
      exact ⟨_, _, rfl, body_nx e ⟨us', _, Y ++ Z, rfl, rfl, g1, by omega, by omega⟩⟩)
  exact ⟨us, x10, B ++ Y, lp, h1, by rw [List.length_map] at h2; omega⟩
end
end My
namespace My
open PySem L2 RL
theorem dig4 (ns : List Int) (j : Nat) (s0 s1 s2 s3 : Int) (hp : ∀ s ∈ [s0, s1, s2, s3], 0 < s) : ∃ d0 d1 d2 d3, digF ns j [s0, s1, s2, s3] = [d0, d1, d2, d3] ∧ (0 ≤ d0 ∧ d0 < s0) ∧ (0 ≤ d1 ∧ d1 < s1) ∧ (0 ≤ d2 ∧ d2 < s2) ∧ (0 ≤ d3 ∧ d3 < s3) := by
  have hl := digF_len ns j [s0, s1, s2, s3]
  obtain ⟨d0, a0, b0⟩ := digF_at (ns := ns) (j := j) hp (i := 0) (s := s0) rfl
  obtain ⟨d1, a1, b1⟩ := digF_at (ns := ns) (j := j) hp (i := 1) (s := s1) rfl
  obtain ⟨d2, a2, b2⟩ := digF_at (ns := ns) (j := j) hp (i := 2) (s := s2) rfl
  obtain ⟨d3, a3, b3⟩ := digF_at (ns := ns) (j := j) hp (i := 3) (s := s3) rfl
  refine ⟨d0, d1, d2, d3, ?_, b0, b1, b2, b3⟩
  generalize digF ns j [s0, s1, s2, s3] = l at *
  match l, hl with
  | [e0, e1, e2, e3], _ =>
    cases a0
    cases a1
    cases a2
    cases a3
    rfl
theorem dig6 (ns : List Int) (j : Nat) (s0 s1 s2 s3 s4 s5 : Int) (hp : ∀ s ∈ [s0, s1, s2, s3, s4, s5], 0 < s) : ∃ d0 d1 d2 d3 d4 d5, digF ns j [s0, s1, s2, s3, s4, s5] = [d0, d1, d2, d3, d4, d5] ∧ (0 ≤ d0 ∧ d0 < s0) ∧ (0 ≤ d1 ∧ d1 < s1) ∧ (0 ≤ d2 ∧ d2 < s2) ∧ (0 ≤ d3 ∧ d3 < s3) ∧ (0 ≤ d4 ∧ d4 < s4) ∧ (0 ≤ d5 ∧ d5 < s5) := by
  have hl := digF_len ns j [s0, s1, s2, s3, s4, s5]
  obtain ⟨d0, a0, b0⟩ := digF_at (ns := ns) (j := j) hp (i := 0) (s := s0) rfl
  obtain ⟨d1, a1, b1⟩ := digF_at (ns := ns) (j := j) hp (i := 1) (s := s1) rfl
  obtain ⟨d2, a2, b2⟩ := digF_at (ns := ns) (j := j) hp (i := 2) (s := s2) rfl
  obtain ⟨d3, a3, b3⟩ := digF_at (ns := ns) (j := j) hp (i := 3) (s := s3) rfl
  obtain ⟨d4, a4, b4⟩ := digF_at (ns := ns) (j := j) hp (i := 4) (s := s4) rfl
  obtain ⟨d5, a5, b5⟩ := digF_at (ns := ns) (j := j) hp (i := 5) (s := s5) rfl
  refine ⟨d0, d1, d2, d3, d4, d5, ?_, b0, b1, b2, b3, b4, b5⟩
  generalize digF ns j [s0, s1, s2, s3, s4, s5] = l at *
  match l, hl with
  | [e0, e1, e2, e3, e4, e5], _ =>
    cases a0
    cases a1
    cases a2
    cases a3
    cases a4
    cases a5
    rfl
theorem dig9 (ns : List Int) (j : Nat) (s0 s1 s2 s3 s4 s5 s6 s7 s8 : Int) (hp : ∀ s ∈ [s0, s1, s2, s3, s4, s5, s6, s7, s8], 0 < s) : ∃ d0 d1 d2 d3 d4 d5 d6 d7 d8, digF ns j [s0, s1, s2, s3, s4, s5, s6, s7, s8] = [d0, d1, d2, d3, d4, d5, d6, d7, d8] ∧ (0 ≤ d0 ∧ d0 < s0) ∧ (0 ≤ d1 ∧ d1 < s1) ∧ (0 ≤ d2 ∧ d2 < s2) ∧ (0 ≤ d3 ∧ d3 < s3) ∧ (0 ≤ d4 ∧ d4 < s4) ∧ (0 ≤ d5 ∧ d5 < s5) ∧ (0 ≤ d6 ∧ d6 < s6) ∧ (0 ≤ d7 ∧ d7 < s7) ∧ (0 ≤ d8 ∧ d8 < s8) := by
  have hl := digF_len ns j [s0, s1, s2, s3, s4, s5, s6, s7, s8]
  obtain ⟨d0, a0, b0⟩ := digF_at (ns := ns) (j := j) hp (i := 0) (s := s0) rfl
  obtain ⟨d1, a1, b1⟩ := digF_at (ns := ns) (j := j) hp (i := 1) (s := s1) rfl
  obtain ⟨d2, a2, b2⟩ := digF_at (ns := ns) (j := j) hp (i := 2) (s := s2) rfl
  obtain ⟨d3, a3, b3⟩ := digF_at (ns := ns) (j := j) hp (i := 3) (s := s3) rfl
  obtain ⟨d4, a4, b4⟩ := digF_at (ns := ns) (j := j) hp (i := 4) (s := s4) rfl
  obtain ⟨d5, a5, b5⟩ := digF_at (ns := ns) (j := j) hp (i := 5) (s := s5) rfl
  obtain ⟨d6, a6, b6⟩ := digF_at (ns := ns) (j := j) hp (i := 6) (s := s6) rfl
  obtain ⟨d7, a7, b7⟩ := digF_at (ns := ns) (j := j) hp (i := 7) (s := s7) rfl
  obtain ⟨d8, a8, b8⟩ := digF_at (ns := ns) (j := j) hp (i := 8) (s := s8) rfl
  refine ⟨d0, d1, d2, d3, d4, d5, d6, d7, d8, ?_, b0, b1, b2, b3, b4, b5, b6, b7, b8⟩
  generalize digF ns j [s0, s1, s2, s3, s4, s5, s6, s7, s8] = l at *
  match l, hl with
  | [e0, e1, e2, e3, e4, e5, e6, e7, e8], _ =>
    cases a0
    cases a1
    cases a2
    cases a3
    cases a4
    cases a5
    cases a6
    cases a7
    cases a8
    rfl
end My
namespace My
open PySem L2 RL
theorem ext_app {α : Type} {R A B : List α} (h : ∃ Y, A = R ++ Y) : ∃ Y, A ++ B = R ++ Y := by
  obtain ⟨Y, e⟩ := h
  exact ⟨Y ++ B, by rw [e, List.append_assoc]⟩
theorem pickL {l : List Str} (h : l ≠ []) (z : Int) : ∃ x ∈ l, L2.atI (l.map D.str) (z % ((l.map D.str).length : Nat)) = some (.str x) := by
  have hl : 0 < l.length := List.length_pos_iff.mpr h
  rw [List.length_map]
  have h1 := Int.emod_nonneg z (b := (l.length : Int)) (by omega)
  have h2 := Int.emod_lt_of_pos z (b := (l.length : Int)) (by omega)
  generalize z % (l.length : Int) = y at h1 h2
  obtain ⟨n, rfl⟩ := Int.eq_ofNat_of_zero_le h1
  have hn : n < l.length := by omega
  exact ⟨l[n], List.getElem_mem hn, atI_n (by rw [List.getElem?_map, List.getElem?_eq_getElem hn]; rfl)⟩
/-- one thing of a list of the world, chosen -/
theorem choose_ok {g : G} {τ : RL.T} {c : Ctx} {a b : ME} {k : Str} {n : Nat} {l : List Str} {z : Int} (hw : g[26]? = some (.dct false (sd (worldL c)))) (hk : (worldL c).lookup k = some (.ref n)) (hl : g[n]? = some (.lst (l.map D.str))) (h0 : l ≠ []) (ha : a τ g = .ok (.ref 26) g) (hb : b τ g = .ok (.int z) g) :
    ∃ x ∈ l, mOp fSubs (mOp fSubs a (mC (.str k))) (mOp fMod b (mUnA fLen (mCons (mOp fSubs a (mC (.str k))) mNil))) τ g = .ok (.str x) g := by
  obtain ⟨x, hx, e⟩ := pickL h0 z
  have hp : 0 < l.length := List.length_pos_iff.mpr h0
  exact ⟨x, hx, ev2 (ev2 ha ev_c (subs_sd hw hk)) (ev2 hb (una_ok (cons_ok (ev2 ha ev_c (subs_sd hw hk)) nil_ok) (len_at hl)) (modI _ _ (by rw [List.length_map]; omega))) (subs_at hl e)⟩
theorem outL_snoc (ls : List LE) (e : LE) : outL (ls ++ [e]) = outL ls ++ [(e.nm, e.out)] := by simp [outL]
theorem basL_snoc (ls : List LE) (e : LE) : basL (ls ++ [e]) = basL ls ++ [(e.nm, .tup (e.ups.map D.str))] := by simp [basL]
theorem linL_snoc (ls : List LE) (e : LE) : linL (ls ++ [e]) = linL ls ++ [(e.nm, .ref e.rl)] := by simp [linL]
theorem upsL_snoc (ls : List LE) (e : LE) : upsL (ls ++ [e]) = upsL ls ++ [(e.nm, .ref e.ru)] := by simp [upsL]
theorem nms_snoc (ls : List LE) (e : LE) : (nmsOf (ls ++ [e])).map D.str = (nmsOf ls).map D.str ++ [.str e.nm] := by simp [nmsOf]
section
variable {R X : G} {c : Ctx} {s : LibSt} {nm mk : Str} {out pd : D} {us : List Str} {rl ru : Nat}
theorem cls_base (h : rl = (base2 c s s ++ R ++ X).length) : clsG (base2 c s s ++ R) X A0 s nm out us pd mk = base2 c s (clsSt s nm out us pd mk rl ru) ++ (R ++ X ++ [Ob.dct false (sd (kt (nm :: us.flatMap (ksOf s.ls))))]) := by
  unfold clsG linkG
  rw [← h]
  have e1 := outL_snoc s.ls (ent s.ls nm out us rl ru)
  have e2 := basL_snoc s.ls (ent s.ls nm out us rl ru)
  have e3 := linL_snoc s.ls (ent s.ls nm out us rl ru)
  unfold clsSt base2
  dsimp only
  rw [e1, e2, e3]
  rfl
/-- what the world is told of a class -/
def wldG (g : G) (s : LibSt) (nm mk : Str) (out pd : D) (ru : Nat) : G := ((((g.set 25 (.dct false (kd d3 (vs (s.levels ++ [(newMark nm, mk)]))))).set 18 (.lst ((nmsOf s.ls).map D.str ++ [.str nm]))).set 19 (.dct false (sd (outL s.ls ++ [(nm, out)])))).set 20 (.dct false (sd (upsL s.ls ++ [(nm, .ref ru)])))).set 21 (.dct false (sd (s.packs ++ [(nm, pd)])))
theorem wld_base : wldG (base2 c s (clsSt s nm out us pd mk rl ru) ++ R) s nm mk out pd ru = base c (clsSt s nm out us pd mk rl ru) ++ R := by
  unfold wldG base base2
  have e1 := outL_snoc s.ls (ent s.ls nm out us rl ru)
  have e2 := upsL_snoc s.ls (ent s.ls nm out us rl ru)
  have e3 := nms_snoc s.ls (ent s.ls nm out us rl ru)
  have e4 : (clsSt s nm out us pd mk rl ru).ls = s.ls ++ [ent s.ls nm out us rl ru] := rfl
  rw [e4, e1, e2, e3]
  rfl
theorem keys_out (ls : List LE) : (outL ls).map (·.1) = nmsOf ls := keys_map _ ls
theorem keys_ups (ls : List LE) : (upsL ls).map (·.1) = nmsOf ls := keys_map _ ls
theorem note_ok {g : G} {pd out : D} (hw : g[26]? = some (.dct false (sd (worldL c)))) (h1 : g[19]? = some (.dct false (sd (outL s.ls)))) (h2 : g[20]? = some (.dct false (sd (upsL s.ls)))) (h3 : g[21]? = some (.dct false (sd s.packs))) (hn : nm ∉ nmsOf s.ls) (hp : s.packs.map (·.1) = nmsOf s.ls) (hz : s.ls.length ≤ 80) :
    f_l_note [.ref 26, .str nm, pd, out, .ref ru] g = .ok .non (((g.set 19 (.dct false (sd (outL s.ls ++ [(nm, out)])))).set 20 (.dct false (sd (upsL s.ls ++ [(nm, .ref ru)])))).set 21 (.dct false (sd (s.packs ++ [(nm, pd)])))) := by
  have l1 : (outL s.ls).length ≤ 100000 := by unfold outL; rw [List.length_map]; omega
  have l2 : (upsL s.ls).length ≤ 100000 := by unfold upsL; rw [List.length_map]; omega
  have l3 : s.packs.length ≤ 100000 := by rw [← List.length_map (f := (·.1)), hp]; simp only [nmsOf, List.length_map]; omega
  have w1 := set_sd (τ := [some (.ref 26), some (.str nm), some pd, some out, some (.ref ru)]) (e := mV 3) (o := mOp fSubs (mV 0) (mC (.str "outer"))) (i := mV 1) (ev_v rfl) (ev2 (ev_v rfl) ev_c (subs_sd hw rfl)) (ev_v rfl) h1 (by rw [keys_out]; exact hn) l1
  have w2 := set_sd (τ := [some (.ref 26), some (.str nm), some pd, some out, some (.ref ru)]) (e := mV 4) (o := mOp fSubs (mV 0) (mC (.str "ups"))) (i := mV 1) (ev_v rfl) (ev2 (ev_v rfl) ev_c (subs_sd (set_ne (n := 19) (o' := .dct false (sd (outL s.ls ++ [(nm, out)]))) hw (by decide)) rfl)) (ev_v rfl) (set_ne h2 (by decide)) (by rw [keys_ups]; exact hn) l2
  have w3 := set_sd (τ := [some (.ref 26), some (.str nm), some pd, some out, some (.ref ru)]) (e := mV 2) (o := mOp fSubs (mV 0) (mC (.str "pack"))) (i := mV 1) (ev_v rfl) (ev2 (ev_v rfl) ev_c (subs_sd (set_ne (n := 20) (o' := .dct false (sd (upsL s.ls ++ [(nm, .ref ru)]))) (set_ne (n := 19) (o' := .dct false (sd (outL s.ls ++ [(nm, out)]))) hw (by decide)) (by decide)) rfl)) (ev_v rfl) (set_ne (set_ne h3 (by decide)) (by decide)) (by rw [hp]; exact hn) l3
  unfold f_l_note
  exact run_nx (seq_go w1 (seq_go w2 w3))
end
end My
namespace My
open PySem L2 RL
abbrev addB : MS := (mIfS (mAndT (mTest (mOp fEq (mOp fSubs (mV 4) (mC (.int 1))) (mC (.int 0)))) (mTest (mOp fGt (mV 3) (mC (.int 0))))) (mSeq (mAsg (mOp fSubs (mOp fSubs (mV 1) (mC (.str "order"))) (mOp fMod (mOp fSubs (mV 4) (mC (.int 2))) (mV 3))) (gN 7))
  (mSeq (mAsg (mOp fSubs (mOp fSubs (mV 1) (mC (.str "pack"))) (mV 7)) (gN 8))
  (mDrop (mMethK cs_Library 2 ["maker", "inside", "bases"] gd_Library_add_class_2_maker_inside_bases f_Library_add_class (mV 2) (mCons (mV 5) mNil) (mCons (mV 6) (mCons (mV 7) (mCons (mUnA fTuple (mCons (mV 9) mNil)) mNil))))))) (mDrop (mMethK cs_Library 2 ["maker", "package", "bases"] gd_Library_add_class_2_maker_package_bases f_Library_add_class (mV 2) (mCons (mV 5) mNil) (mCons (mV 6) (mCons (mV 8) (mCons (mUnA fTuple (mCons (mV 9) mNil)) mNil))))))
section
variable {R : G} {c : Ctx} {s : LibSt} {ns : List Int} {k m : Nat}
theorem Fz.cls {X : G} {nm mk : Str} {out pd : D} {us : List Str} {rl ru : Nat} (h : Fz R c s.ls) (hrl : rl = (base2 c s s ++ R ++ X).length) (h1 : 31 ≤ ru) (h2 : R[ru - 31]? = some (.lst (us.map D.str))) : Fz (R ++ X ++ [Ob.dct false (sd (kt (nm :: us.flatMap (ksOf s.ls))))]) c (clsSt s nm out us pd mk rl ru).ls := by
  have h' : Fz (R ++ X ++ [Ob.dct false (sd (kt (nm :: us.flatMap (ksOf s.ls))))]) c s.ls := h.app.app
  have lr : rl = 31 + (R ++ X).length := by rw [hrl, List.append_assoc, List.length_append, base_len]
  refine ⟨fun e he => ?_, fun e he => ?_, h'.lv, h'.pk⟩
  · rcases List.mem_append.mp he with he | he
    · exact h'.line e he
    · rw [List.mem_singleton.mp he]
      refine ⟨by show 31 ≤ rl; omega, ?_⟩
      show (_)[rl - 31]? = _
      rw [show rl - 31 = (R ++ X).length by omega]
      exact end_get
  · rcases List.mem_append.mp he with he | he
    · exact h'.ups e he
    · rw [List.mem_singleton.mp he]
      exact ⟨h1, app_get (app_get h2)⟩
theorem Inv.cls {nm mk : Str} {out pd : D} {us : List Str} {rl ru : Nat} (h : Inv c s k m) (he : linkErr s.ls nm out us = none) (hz : s.ls.length < 80) (hnm : nm = nameF (c.st.getD 2 0) (k : Int)) (hp : ∃ q ∈ c.packs, pd = .str q) : Inv c (clsSt s nm out us pd mk rl ru) (k + 1) m := by
  refine ⟨h.ok.cls he hz, h.sl, h.pk0, h.lv0, h.zp, h.zl, h.st, ?_, fun x hx => ?_, fun x d hd => ?_, h.mlen, h.mns⟩
  · show (s.ls ++ [_]).length = _
    rw [List.length_append, h.len]
    rfl
  · have hx : x ∈ nmsOf (s.ls ++ [ent s.ls nm out us rl ru]) := hx
    rw [nms_app] at hx
    rcases List.mem_append.mp hx with hx | hx
    · obtain ⟨j, hj, e⟩ := h.nms x hx
      exact ⟨j, by omega, e⟩
    · have : x = nm := by simpa [nmsOf, ent] using hx
      exact ⟨k, by omega, by rw [this, hnm]⟩
  · have hd : (s.packs ++ [(nm, pd)]).lookup x = some d := hd
    cases e : s.packs.lookup x with
    | some d' =>
      rw [lk_app e] at hd
      cases hd
      exact h.pks x _ e
    | none =>
      rw [lk_app2 e] at hd
      have := lk_mem hd
      cases List.mem_singleton.mp this
      exact hp
theorem add_class_lawX (h : Inv c s k m) (fz : Fz R c s.ls) (hk : k < 13) (hn : ns.length ≤ 63) :
    ∃ s' R', f_l_add_class [.kl (ns.map D.int), .ref 26, .ref 0, .int (k : Int)] (base c s ++ R) = .ok .non (base c s' ++ R') ∧ Inv c s' (k + 1) m ∧ Fz R' c s'.ls ∧ ∃ Y, R' = R ++ Y := by
  obtain ⟨a0, a1, a2, a3, hst⟩ := h.st
  have hlen := h.len
  -- the digits
  have hz : (base c s ++ R ++ [Ob.lst ([(4 : Int), 4, 5, 6, 6, 6].map D.int)])[(base c s ++ R).length]? = some (.lst ([(4 : Int), 4, 5, 6, 6, 6].map D.int)) := end_get
  obtain ⟨d0, d1, d2, d3, d4, d5, dd, b0, b1, b2, b3, b4, b5⟩ := dig6 ns (8 + k) 4 4 5 6 6 6 (by simp)
  have dg := dig_eq (ns := ns) (j := 8 + k) hz (by simp) (by simp) (by omega) hn
  rw [dd] at dg
  have ij : ((8 + k : Nat) : Int) = 8 + (k : Int) := by omega
  rw [ij] at dg
  have s1 : mAsg (mUnA (fCall 3 [] f_l_digits) (mCons (mV 0) (mCons (mOp fPlus (mC (.int 8)) (mV 3)) (mCons (mUnA fLst (mCons (mC (.int 4)) (mCons (mC (.int 4)) (mCons (mC (.int 5)) (mCons (mC (.int 6)) (mCons (mC (.int 6)) (mCons (mC (.int 6)) mNil))))))) mNil)))) (gN 4) (slC ns k none none none none none none none) (base c s ++ R) = .nx (slC ns k (some (.ref (base c s ++ R ++ [Ob.lst ([(4 : Int), 4, 5, 6, 6, 6].map D.int)] ++ digT ns).length)) none none none none none none) (base c s ++ R ++ [Ob.lst ([(4 : Int), 4, 5, 6, 6, 6].map D.int)] ++ digT ns ++ [Ob.lst ([d0, d1, d2, d3, d4, d5].map D.int)]) :=
    asg_ok (una_ok (cons_ok (ev_v rfl) (cons_ok (ev2 ev_c (ev_v rfl) (plusI _ _)) (cons_ok (una_ok (by repeat' first | assumption | with_reducible exact ev_c | with_reducible exact nil_ok | with_reducible exact plusI _ _ | with_reducible exact subI _ _ | with_reducible exact ltI _ _ | with_reducible exact leI _ _ | with_reducible exact gtI _ _ | with_reducible exact geI _ _ | with_reducible exact eqI _ _ | with_reducible exact eqS _ _ | with_reducible exact neI _ _ | with_reducible exact neS _ _ | with_reducible exact isN_ok _ _ | with_reducible exact len_t | with_reducible exact tuple_t | exact end_get | ((with_reducible apply ev_v); exact rfl) | (with_reducible apply cons_ok) | (with_reducible apply evInt) | (with_reducible apply una_ok) | (with_reducible apply ev2) | (with_reducible apply un_ok) | (with_reducible apply bm_ok) | (with_reducible apply meth_ok) | (with_reducible apply methK_ok) | (with_reducible apply prop_ok) | (with_reducible apply tst) | (with_reducible apply not_ok) | (with_reducible apply asg_ok) | (with_reducible apply drop_ok) | (with_reducible apply if_n2) | (with_reducible apply mulI) | (with_reducible apply modI) | (with_reducible apply divI) | (with_reducible apply subs_at) | (with_reducible apply subs_sd) | (with_reducible apply len_at) | (with_reducible apply tuple_at) | (with_reducible apply tup_ok) | (with_reducible apply lst_ok) | (with_reducible apply fld_ok) | (with_reducible apply app_at) | (with_reducible apply call_ok) | (with_reducible apply ty_lst) | (with_reducible apply ty_dct) | (with_reducible apply app_get) | exact rfl | decide | omega | (simp; done)) (lst_ok (by simp))) nil_ok))) (call_ok rfl dg))
  have hp : (base c s ++ R ++ [Ob.lst ([(4 : Int), 4, 5, 6, 6, 6].map D.int)] ++ digT ns ++ [Ob.lst ([d0, d1, d2, d3, d4, d5].map D.int)])[(base c s ++ R ++ [Ob.lst ([(4 : Int), 4, 5, 6, 6, 6].map D.int)] ++ digT ns).length]? = some (.lst ([d0, d1, d2, d3, d4, d5].map D.int)) := end_get
  have eR : base c s ++ R ++ [Ob.lst ([(4 : Int), 4, 5, 6, 6, 6].map D.int)] ++ digT ns ++ [Ob.lst ([d0, d1, d2, d3, d4, d5].map D.int)] = base c s ++ (R ++ ([Ob.lst ([(4 : Int), 4, 5, 6, 6, 6].map D.int)] ++ digT ns ++ [Ob.lst ([d0, d1, d2, d3, d4, d5].map D.int)])) := by simp only [List.append_assoc]
  rw [eR] at s1 hp
  have fz1 : Fz (R ++ ([Ob.lst ([(4 : Int), 4, 5, 6, 6, 6].map D.int)] ++ digT ns ++ [Ob.lst ([d0, d1, d2, d3, d4, d5].map D.int)])) c s.ls := fz.app
  generalize (base c s ++ R ++ [Ob.lst ([(4 : Int), 4, 5, 6, 6, 6].map D.int)] ++ digT ns).length = q at *
  have x1 : ∃ Y, R ++ ([Ob.lst ([(4 : Int), 4, 5, 6, 6, 6].map D.int)] ++ digT ns ++ [Ob.lst ([d0, d1, d2, d3, d4, d5].map D.int)]) = R ++ Y := ⟨_, rfl⟩
  generalize R ++ ([Ob.lst ([(4 : Int), 4, 5, 6, 6, 6].map D.int)] ++ digT ns ++ [Ob.lst ([d0, d1, d2, d3, d4, d5].map D.int)]) = R1 at *
  clear hz dg eR
  -- the name
  have hnF : nameF a2 (k : Int) = nameF (c.st.getD 2 0) (k : Int) := by rw [hst]; rfl
  have s2 : mAsg (mUnA (fCall 2 [] f_l_name) (mCons (mOp fSubs (mOp fSubs (mV 1) (mC (.str "starts"))) (mC (.int 2))) (mCons (mV 3) mNil))) (gN 5) (slC ns k (some (.ref q)) none none none none none none) (base c s ++ R1) = .nx (slC ns k (some (.ref q)) (some (.str (nameF a2 (k : Int)))) none none none none none) (base c s ++ R1 ++ [.lst (poolL.map D.str)]) :=
    asg_ok (una_ok (cons_ok (ev2 (ev2 (ev_v rfl) ev_c (wkey rfl)) ev_c (subs_at (l := c.st.map D.int) rfl (by rw [hst]; rfl))) (cons_ok (ev_v rfl) nil_ok)) (call_ok rfl (name_eq a2 (k : Int) _)))
  have hp2 := app_get (l := [.lst (poolL.map D.str)]) hp
  rw [List.append_assoc] at s2 hp2
  have fz2 : Fz (R1 ++ [.lst (poolL.map D.str)]) c s.ls := fz1.app
  have x2 : ∃ Y, R1 ++ [.lst (poolL.map D.str)] = R ++ Y := ext_app x1
  generalize R1 ++ [.lst (poolL.map D.str)] = R2 at *
  have nn : nameF a2 (k : Int) ∉ nmsOf s.ls := fun hx => by
    obtain ⟨j, hj, e⟩ := h.nms _ hx
    rw [hnF] at e
    have := nameF_inj (i := k) (j := j) (by omega) (by omega) e
    omega
  generalize nameF a2 (k : Int) = nm at *
  -- rank and package
  have at5 : L2.atI ([d0, d1, d2, d3, d4, d5].map D.int) 5 = some (.int d5) := rfl
  obtain ⟨mk, _, e3⟩ := choose_ok (g := base c s ++ R2) (τ := slC ns k (some (.ref q)) (some (.str nm)) none none none none none) (c := c) (a := mV 1) (b := mOp fSubs (mV 4) (mC (.int 5))) (k := "levels") (z := d5) rfl rfl (at_R fz2.lv.1 fz2.lv.2) h.lv0 (ev_v rfl) (ev2 (ev_v rfl) ev_c (subs_at hp2 rfl))
  have s3 := asg_ok (i := 6) e3
  have s4 : mAsg (mC .non) (gN 7) (slC ns k (some (.ref q)) (some (.str nm)) (some (.str mk)) none none none none) (base c s ++ R2) = .nx (slC ns k (some (.ref q)) (some (.str nm)) (some (.str mk)) (some .non) none none none) (base c s ++ R2) := asg_ok ev_c
  obtain ⟨pq, hpq, e5⟩ := choose_ok (g := base c s ++ R2) (τ := slC ns k (some (.ref q)) (some (.str nm)) (some (.str mk)) (some .non) none none none) (c := c) (a := mV 1) (b := mOp fSubs (mV 4) (mC (.int 0))) (k := "packs") (z := d0) rfl rfl (at_R fz2.pk.1 fz2.pk.2) h.pk0 (ev_v rfl) (ev2 (ev_v rfl) ev_c (subs_at hp2 rfl))
  have s5 := asg_ok (i := 8) e5
  have s6 : mAsg (mUnA fLst mNil) (gN 9) (slC ns k (some (.ref q)) (some (.str nm)) (some (.str mk)) (some .non) (some (.str pq)) none none) (base c s ++ R2) = .nx (slC ns k (some (.ref q)) (some (.str nm)) (some (.str mk)) (some .non) (some (.str pq)) (some (.ref (base c s ++ R2).length)) none) (base c s ++ R2 ++ [.lst []]) := asg_ok (una_ok nil_ok (lst_ok (by simp)))
  -- the bases
  have hqr := lt_of_get hp2
  have hsl := sl_ok (a := mV 4) (b := pInt (mC (.int 3))) (c := pInt (mC (.int 5))) (τ := slC ns k (some (.ref q)) (some (.str nm)) (some (.str mk)) (some .non) (some (.str pq)) (some (.ref (base c s ++ R2).length)) none) (g := base c s ++ R2 ++ [.lst []]) (u := some ((3 : Nat) : Int)) (v := some ((5 : Nat) : Int)) (ev_v rfl) (pint_ok ev_c) (pint_ok ev_c) (app_get hp2)
  rw [cut_mid (by show 3 ≤ 6; omega) (by show 5 ≤ 6; omega)] at hsl
  obtain ⟨us, x10, B, lp, hu, hul⟩ := picks_ok (gA := base c s ++ R2) (ns := ns) (ls := s.ls) (k := k) (q := (base c s ++ R2 ++ [Ob.lst []]).length) (l := [d3, d4]) (B := [Ob.lst ([d3, d4].map D.int)]) (x4 := some (.ref q)) (x5 := some (.str nm)) (x6 := some (.str mk)) (x7 := some .non) (x8 := some (.str pq)) (mi := mSeqI (mSl (mV 4) (pInt (mC (.int 3))) (pInt (mC (.int 5))))) fz2.wld h.ok.lin hlen (by omega) (by simp; omega) (by simp) (seqL_ok hsl end_get) end_get (by simp)
  have eU : base c s ++ R2 ++ [Ob.lst (us.map D.str)] ++ B = base c s ++ (R2 ++ ([Ob.lst (us.map D.str)] ++ B)) := by simp only [List.append_assoc]
  have hq3 : (base c s ++ R2 ++ [Ob.lst (us.map D.str)] ++ B)[q]? = some (.lst ([d0, d1, d2, d3, d4, d5].map D.int)) := app_get (app_get hp2)
  have hr3 : (base c s ++ R2 ++ [Ob.lst (us.map D.str)] ++ B)[(base c s ++ R2).length]? = some (.lst (us.map D.str)) := get_mid
  rw [eU] at lp hq3 hr3
  have fz3 : Fz (R2 ++ ([Ob.lst (us.map D.str)] ++ B)) c s.ls := fz2.app
  have hr : (base c s ++ R2).length = 31 + R2.length := by rw [List.length_append, base_len]
  have hr31 : 31 ≤ (base c s ++ R2).length := by omega
  have hrR : (R2 ++ ([Ob.lst (us.map D.str)] ++ B))[(base c s ++ R2).length - 31]? = some (.lst (us.map D.str)) := by
    rw [hr, show 31 + R2.length - 31 = R2.length by omega, ← List.append_assoc]
    exact get_mid
  generalize (base c s ++ R2).length = r at *
  have x3 : ∃ Y, R2 ++ ([Ob.lst (us.map D.str)] ++ B) = R ++ Y := ext_app x2
  generalize R2 ++ ([Ob.lst (us.map D.str)] ++ B) = R3 at *
  clear eU hsl
  -- the library
  have main : ∀ (out pk pd : D) (τ : RL.T) (b : MS), (out = .non ∨ ∃ o ∈ nmsOf s.ls, out = .str o) → (out = .non → ∃ q ∈ c.packs, pk = .str q) → pd = packD s pk out →
      τ = slC ns k (some (.ref q)) (some (.str nm)) (some (.str mk)) (some out) (some pd) (some (.ref r)) x10 →
      (∀ G1, f_Library_add_class [.ref 0, .str nm, .str mk, pk, out, .tup (us.map D.str)] (base c s ++ R3) = .ok .non G1 → b (slC ns k (some (.ref q)) (some (.str nm)) (some (.str mk)) (some .non) (some (.str pq)) (some (.ref r)) x10) (base c s ++ R3) = .nx τ G1) →
      ∃ s' R', (mSeq b (mSeq (mAsg (mV 6) (gSubM (mOp fSubs (mV 1) (mC (.str "mark"))) (mUnA fTup (mCons (mV 5) (mCons (mC (.str "new")) (mCons (mC (.str "make")) mNil))))))
  (mSeq (mDrop (mBM .lst fApp (mOp fSubs (mV 1) (mC (.str "order"))) (mCons (mV 5) mNil)))
  (mDrop (mUnA (fCall 5 [] f_l_note) (mCons (mV 1) (mCons (mV 5) (mCons (mV 8) (mCons (mV 7) (mCons (mV 9) mNil)))))))))) (slC ns k (some (.ref q)) (some (.str nm)) (some (.str mk)) (some .non) (some (.str pq)) (some (.ref r)) x10) (base c s ++ R3) = .nx τ (base c s' ++ R') ∧ Inv c s' (k + 1) m ∧ Fz R' c s'.ls ∧ ∃ Y, R' = R ++ Y := by
    intro out pk pd τ b ho hpk hpd hτ hb
    have ho2 : outOk s.ls out := ho
    have hl := link_none (nm := nm) h.ok.lin nn ho2 hu.1 hu.2
    obtain ⟨X, e1, e2⟩ := add_class_good (nm := nm) (mk := mk) (out := out) (pk := pk) (d := .tup (us.map D.str)) (us := us) (A := A0) h.ok fz3.lib (by
      rcases ho with e | ⟨o, _, e⟩
      · exact .inl e
      · exact .inr ⟨o, e⟩) tuple_t (by omega) hl (fun e => by
      obtain ⟨q', hq', e'⟩ := hpk e
      exact ⟨q', e', by rw [h.sl]; exact hq'⟩)
    have b1 := hb _ e1
    rw [← hpd] at b1
    obtain ⟨rl, hrl⟩ : ∃ rl, rl = (base2 c s s ++ R3 ++ X).length := ⟨_, rfl⟩
    rw [cls_base (ru := r) hrl] at b1
    have hpd2 : ∃ q ∈ c.packs, pd = .str q := by
      rcases ho with e | ⟨o, ho', e⟩
      · obtain ⟨q', h1, h2⟩ := hpk e
        refine ⟨q', h1, ?_⟩
        rw [hpd, e]
        exact h2
      · rw [hpd, e]
        obtain ⟨d, hd⟩ := lk_of_mem (l := s.packs) (x := o) (by rw [h.ok.pk]; exact ho')
        obtain ⟨q', h1, h2⟩ := h.pks o d hd
        refine ⟨q', h1, ?_⟩
        show (s.packs.lookup o).getD .non = _
        rw [hd, h2]
        rfl
    have inv' : Inv c (clsSt s nm out us pd mk rl r) (k + 1) m := h.cls hl (by omega) hnF hpd2
    have fz' := fz3.cls (nm := nm) (mk := mk) (out := out) (pd := pd) (us := us) (X := X) hrl hr31 hrR
    refine ⟨_, _, ?_, inv', fz', ext_app (ext_app x3)⟩
    rw [← wld_base]
    refine seq_go b1 ?_
    generalize R3 ++ X ++ [Ob.dct false (sd (kt (nm :: us.flatMap (ksOf s.ls))))] = R4 at *
    subst hτ
    have w9 := set_d3 (τ := slC ns k (some (.ref q)) (some (.str nm)) (some (.str mk)) (some out) (some pd) (some (.ref r)) x10) (e := mV 6) (o := mOp fSubs (mV 1) (mC (.str "mark"))) (i := mUnA fTup (mCons (mV 5) (mCons (mC (.str "new")) (mCons (mC (.str "make")) mNil)))) (v := .str mk) (l := vs s.levels) (g := base2 c s (clsSt s nm out us pd mk rl r) ++ R4) (ev_v rfl) (ev2 (ev_v rfl) ev_c (wkey rfl)) (una_ok (cons_ok (ev_v rfl) (cons_ok ev_c (cons_ok ev_c nil_ok))) (tup_ok (by simp))) rfl (by
      rw [vs_lk, lk_none.mpr fun hm => ?_]
      · rfl
      · rcases h.ok.lev.lv _ _ _ hm with ⟨_, _, h3⟩ | h3
        · exact nn h3
        · exact h.ok.lev.nn _ h3) (by rw [vs_len]; have := h.ok.lev.z1; omega)
    rw [vs_snoc] at w9
    refine seq_go w9 ?_
    refine seq_go (drop_ok (bm_ok (ev2 (ev_v rfl) ev_c (subs_sd (l := worldL c) rfl rfl)) (ty_lst (l := (nmsOf s.ls).map D.str) rfl) (cons_ok (ev_v rfl) nil_ok) (app_at rfl (by rw [List.length_map]; simp only [nmsOf, List.length_map]; omega)))) ?_
    exact drop_ok (una_ok (cons_ok (ev_v rfl) (cons_ok (ev_v rfl) (cons_ok (ev_v rfl) (cons_ok (ev_v rfl) (cons_ok (ev_v rfl) nil_ok))))) (call_ok rfl (note_ok (c := c) rfl rfl rfl rfl nn h.ok.pk h.ok.z)))
  have t1 : mTest (mOp fEq (mOp fSubs (mV 4) (mC (.int 1))) (mC (.int 0))) (slC ns k (some (.ref q)) (some (.str nm)) (some (.str mk)) (some .non) (some (.str pq)) (some (.ref r)) x10) (base c s ++ R3) = .ok (decide (d1 = 0)) (base c s ++ R3) := tst (ev2 (ev2 (ev_v rfl) ev_c (subs_at hq3 rfl)) ev_c (eqI _ _))
  have t2 : mTest (mOp fGt (mV 3) (mC (.int 0))) (slC ns k (some (.ref q)) (some (.str nm)) (some (.str mk)) (some .non) (some (.str pq)) (some (.ref r)) x10) (base c s ++ R3) = .ok (decide (0 < (k : Int))) (base c s ++ R3) := tst (ev2 (ev_v rfl) ev_c (gtI _ _))
  have fin : ∀ (s' : LibSt) (R' : G) (τ : RL.T), (mSeq addB
  (mSeq (mAsg (mV 6) (gSubM (mOp fSubs (mV 1) (mC (.str "mark"))) (mUnA fTup (mCons (mV 5) (mCons (mC (.str "new")) (mCons (mC (.str "make")) mNil))))))
  (mSeq (mDrop (mBM .lst fApp (mOp fSubs (mV 1) (mC (.str "order"))) (mCons (mV 5) mNil)))
  (mDrop (mUnA (fCall 5 [] f_l_note) (mCons (mV 1) (mCons (mV 5) (mCons (mV 8) (mCons (mV 7) (mCons (mV 9) mNil)))))))))) (slC ns k (some (.ref q)) (some (.str nm)) (some (.str mk)) (some .non) (some (.str pq)) (some (.ref r)) x10) (base c s ++ R3) = .nx τ (base c s' ++ R') →
      f_l_add_class [.kl (ns.map D.int), .ref 26, .ref 0, .int (k : Int)] (base c s ++ R) = .ok .non (base c s' ++ R') := fun s' R' τ e => by
    unfold f_l_add_class
    exact run_nx (seq_go s1 (seq_go s2 (seq_go s3 (seq_go s4 (seq_go s5 (seq_go s6 (seq_go lp e)))))))
  have tp : mUnA fTuple (mCons (mV 9) mNil) (slC ns k (some (.ref q)) (some (.str nm)) (some (.str mk)) (some .non) (some (.str pq)) (some (.ref r)) x10) (base c s ++ R3) = .ok (.tup (us.map D.str)) (base c s ++ R3) := una_ok (cons_ok (ev_v rfl) nil_ok) (tuple_at hr3)
  have els : ∀ (tt : mAndT (mTest (mOp fEq (mOp fSubs (mV 4) (mC (.int 1))) (mC (.int 0)))) (mTest (mOp fGt (mV 3) (mC (.int 0)))) (slC ns k (some (.ref q)) (some (.str nm)) (some (.str mk)) (some .non) (some (.str pq)) (some (.ref r)) x10) (base c s ++ R3) = .ok false (base c s ++ R3)), ∃ s' R', f_l_add_class [.kl (ns.map D.int), .ref 26, .ref 0, .int (k : Int)] (base c s ++ R) = .ok .non (base c s' ++ R') ∧ Inv c s' (k + 1) m ∧ Fz R' c s'.ls ∧ ∃ Y, R' = R ++ Y := fun tt => by
    obtain ⟨s', R', e, i1, i2⟩ := main .non (.str pq) (.str pq) _ addB (.inl rfl) (fun _ => ⟨pq, hpq, rfl⟩) rfl rfl (fun G1 hG => if_fr tt (drop_ok (lib_methK (ev_v rfl) fz3.lib (by simp) (cons_ok (ev_v rfl) nil_ok) (cons_ok (ev_v rfl) (cons_ok (ev_v rfl) (cons_ok tp nil_ok))) rfl rfl hG)))
    exact ⟨s', R', fin s' R' _ e, i1, i2⟩
  by_cases c1 : d1 = 0
  · rw [decide_eq_true c1] at t1
    by_cases c2 : 0 < (k : Int)
    · rw [decide_eq_true c2] at t2
      have h1 := Int.emod_nonneg d2 (b := (k : Int)) (by omega)
      have h2 := Int.emod_lt_of_pos d2 (b := (k : Int)) c2
      have em : mOp fMod (mOp fSubs (mV 4) (mC (.int 2))) (mV 3) (slC ns k (some (.ref q)) (some (.str nm)) (some (.str mk)) (some .non) (some (.str pq)) (some (.ref r)) x10) (base c s ++ R3) = .ok (.int (d2 % (k : Int))) (base c s ++ R3) := ev2 (ev2 (ev_v rfl) ev_c (subs_at hq3 rfl)) (ev_v rfl) (modI _ _ c2)
      generalize d2 % (k : Int) = z at h1 h2 em
      obtain ⟨n, rfl⟩ := Int.eq_ofNat_of_zero_le h1
      obtain ⟨o, o1, o2, o3⟩ := ord_at (n := n) (fz3.wld (t := s)) (by omega)
      have w1 := asg_ok (i := 7) (o3 _ (mV 1) (mOp fMod (mOp fSubs (mV 4) (mC (.int 2))) (mV 3)) (ev_v rfl) em)
      obtain ⟨d, hd⟩ := lk_of_mem (l := s.packs) (x := o) (by rw [h.ok.pk]; exact o2)
      have w2 : mAsg (mOp fSubs (mOp fSubs (mV 1) (mC (.str "pack"))) (mV 7)) (gN 8) (slC ns k (some (.ref q)) (some (.str nm)) (some (.str mk)) (some (.str o)) (some (.str pq)) (some (.ref r)) x10) (base c s ++ R3) = .nx (slC ns k (some (.ref q)) (some (.str nm)) (some (.str mk)) (some (.str o)) (some d) (some (.ref r)) x10) (base c s ++ R3) := asg_ok (ev2 (ev2 (ev_v rfl) ev_c (wkey rfl)) (ev_v rfl) (subs_sd (l := s.packs) rfl hd))
      have tp2 : mUnA fTuple (mCons (mV 9) mNil) (slC ns k (some (.ref q)) (some (.str nm)) (some (.str mk)) (some (.str o)) (some d) (some (.ref r)) x10) (base c s ++ R3) = .ok (.tup (us.map D.str)) (base c s ++ R3) := una_ok (cons_ok (ev_v rfl) nil_ok) (tuple_at hr3)
      obtain ⟨s', R', e, i1, i2⟩ := main (.str o) .non d _ addB (.inr ⟨o, o2, rfl⟩) (fun e => by cases e) (by show d = (s.packs.lookup o).getD .non; rw [hd]; rfl) rfl (fun G1 hG => if_tr (and_t t1 t2) (seq_go w1 (seq_go w2 (drop_ok (lib_methK (ev_v rfl) fz3.lib (by simp) (cons_ok (ev_v rfl) nil_ok) (cons_ok (ev_v rfl) (cons_ok (ev_v rfl) (cons_ok tp2 nil_ok))) rfl rfl hG)))))
      exact ⟨s', R', fin s' R' _ e, i1, i2⟩
    · rw [decide_eq_false c2] at t2
      exact els (and_t t1 t2)
  · rw [decide_eq_false c1] at t1
    exact els (and_f t1)
theorem add_class_law (h : Inv c s k m) (fz : Fz R c s.ls) (hk : k < 13) (hn : ns.length ≤ 63) :
    ∃ s' R', f_l_add_class [.kl (ns.map D.int), .ref 26, .ref 0, .int (k : Int)] (base c s ++ R) = .ok .non (base c s' ++ R') ∧ Inv c s' (k + 1) m ∧ Fz R' c s'.ls := by
  obtain ⟨s', R', h1, h2, h3, _⟩ := add_class_lawX (ns := ns) h fz hk hn
  exact ⟨s', R', h1, h2, h3⟩
end
end My
namespace My
open PySem L2 RL
/-! a member of the law -/
theorem lk_mapK {K V W : Type} [BEq K] [LawfulBEq K] (h : K → V → W) (x : K) : ∀ l : List (K × V), (l.map fun p => (p.1, h p.1 p.2)).lookup x = (l.lookup x).map (h x)
  | [] => rfl
  | (k, v) :: l => by
    show List.lookup x ((k, h k v) :: l.map fun p => (p.1, h p.1 p.2)) = _
    by_cases e : x = k
    · subst e
      simp [List.lookup]
    · have h2 : (x == k) = false := by simpa using e
      simp only [List.lookup, h2]
      exact lk_mapK h x l
theorem kindL_lk (s : LibSt) (x : Str) : (kindL s).lookup x = (s.roots.lookup x).map fun r => D.str ((s.kinds.lookup (r, x)).getD "") := lk_mapK (fun x r => D.str ((s.kinds.lookup (r, x)).getD "")) x s.roots
theorem kindL_keys (s : LibSt) : (kindL s).map (·.1) = s.roots.map (·.1) := by simp [kindL, List.map_map, Function.comp_def]
theorem lockS_ok {m : ME} {b : MS} {τ τ' : RL.T} {n : Nat} {kvs : List (D × D)} {l g g0 : G} (h : m τ g = .ok (.ref n) g0) (hn : g[n]? = some (.dct false kvs)) (hb : b τ (g.set n (.dct true kvs)) = .nx τ' (g.set n (.dct true kvs) ++ l)) : mLockS m b τ g = .nx τ' (g ++ l) := by
  have hlt := lt_of_get hn
  have hg := set_same hn
  unfold mLockS lockAt
  rw [h]
  dsimp only
  rw [hn]
  dsimp only
  rw [hb]
  have e1 : (g.set n (.dct true kvs) ++ l)[n]? = some (.dct true kvs) := by
    rw [List.getElem?_append_left (by rw [List.length_set]; exact hlt), List.getElem?_set_self hlt]
  unfold unlS unlG
  dsimp only
  rw [if_pos e1]
  dsimp only
  rw [List.set_append_left _ _ (by rw [List.length_set]; exact hlt), List.set_set, hg]
def pA (s : LibSt) (o x : Str) : Bool := decide ((s.roots.lookup x).map (fun r => (s.kinds.lookup (r, x)).getD "") = some ("method" : Str)) && !decide ((o, x) ∈ s.kinds.map (·.1))
def pB (s : LibSt) (o x : Str) : Bool := match s.roots.lookup x with
  | some r => decide (r ∈ ksOf s.ls o)
  | none => false
section
variable {R : G} {c : Ctx} {s : LibSt} {ns : List Int} {k m : Nat} {o n b l : Str} {w : Option Str}
theorem kind_app {x r : Str} (ok : LibOk s) (hx : (x, r) ∈ s.roots) : (s.kinds ++ [((o, n), b)]).lookup (r, x) = s.kinds.lookup (r, x) := by
  obtain ⟨v, hv⟩ := lk_of_mem (ok.mem.rr x r (lk_nd ok.mem.rn hx))
  rw [hv]
  exact lk_app hv
theorem kindL_old (ok : LibOk s) (hr : rootsAdd s o n = s.roots) : kindL (memSt s o n b l w) = kindL s := by
  unfold kindL
  show (rootsAdd s o n).map _ = _
  rw [hr]
  apply List.map_congr_left
  rintro ⟨x, r⟩ hp
  show (x, D.str (((s.kinds ++ [((o, n), b)]).lookup (r, x)).getD "")) = _
  rw [kind_app ok hp]
theorem kindL_new (ok : LibOk s) (hn : n ∉ s.roots.map (·.1)) (hk : (o, n) ∉ s.kinds.map (·.1)) : kindL (memSt s o n b l w) = kindL s ++ [(n, .str b)] := by
  unfold kindL
  show (rootsAdd s o n).map _ = _
  unfold rootsAdd
  rw [if_neg hn, List.map_append]
  congr 1
  · apply List.map_congr_left
    rintro ⟨x, r⟩ hp
    show (x, D.str (((s.kinds ++ [((o, n), b)]).lookup (r, x)).getD "")) = _
    rw [kind_app ok hp]
  · show [(n, D.str (((s.kinds ++ [((o, n), b)]).lookup (o, n)).getD ""))] = _
    rw [lk_last (lk_none.mpr hk)]
    rfl
/-- all but the marks are told to the world -/
def memT (s : LibSt) (o n b l : Str) (w : Option Str) : LibSt := { memSt s o n b l w with levels := s.levels }
theorem memT_kinds : (memT s o n b l w).kinds.map (·.1) = s.kinds.map (·.1) ++ [(o, n)] := by
  show (s.kinds ++ [((o, n), b)]).map (·.1) = _
  rw [List.map_append]
  rfl
theorem mem_old (ok : LibOk s) (hr : n ∈ s.roots.map (·.1)) : (base c s ++ R).set 22 (.lst ((s.kinds.map (·.1)).map d2 ++ [d2 (o, n)])) = base2 c (memT s o n b l w) s ++ R := by
  have e0 : rootsAdd s o n = s.roots := if_pos hr
  have e1 : kindL (memT s o n b l w) = kindL s := kindL_old (l := l) (w := w) ok e0
  have e3 : (memT s o n b l w).roots = s.roots := e0
  unfold base base2
  rw [e1, memT_kinds, e3, List.map_append]
  rfl
theorem mem_new (ok : LibOk s) (hn : n ∉ s.roots.map (·.1)) (hk : (o, n) ∉ s.kinds.map (·.1)) : (((base c s ++ R).set 24 (.dct false (sd (vs s.roots ++ [(n, .str o)])))).set 23 (.dct false (sd (kindL s ++ [(n, .str b)])))).set 22 (.lst ((s.kinds.map (·.1)).map d2 ++ [d2 (o, n)])) = base2 c (memT s o n b l w) s ++ R := by
  have e1 : kindL (memT s o n b l w) = kindL s ++ [(n, .str b)] := kindL_new (l := l) (w := w) ok hn hk
  have e3 : vs (memT s o n b l w).roots = vs s.roots ++ [(n, .str o)] := by
    show vs (rootsAdd s o n) = _
    unfold rootsAdd
    rw [if_neg hn, vs_snoc]
  unfold base base2
  rw [e1, memT_kinds, e3, List.map_append]
  rfl
theorem mem_lib : memG (base2 c (memT s o n b l w) s ++ R) A0 (memSt s o n b l w) = base2 c (memT s o n b l w) (memSt s o n b l w) ++ R := rfl
theorem mem_mark : (base2 c (memT s o n b l w) (memSt s o n b l w) ++ R).set 25 (.dct false (kd d3 (vs (s.levels ++ levsOf o n b l w)))) = base c (memSt s o n b l w) ++ R := rfl
theorem Inv.mem (h : Inv c s k m) (he : memErr s o n b = none) (hz : s.kinds.length < 400) (hn : n ∈ s.roots.map (·.1) ∨ n = nameF (c.st.getD 3 0) (m : Int)) : Inv c (memSt s o n b l w) k (m + 1) := by
  refine ⟨h.ok.memS he hz, h.sl, h.pk0, h.lv0, h.zp, h.zl, h.st, h.len, h.nms, h.pks, ?_, fun x hx => ?_⟩
  · show (s.kinds ++ [_]).length = _
    rw [List.length_append, h.mlen]
    rfl
  · have hx : x ∈ (rootsAdd s o n).map (·.1) := hx
    have old : x ∈ s.roots.map (·.1) → ∃ j : Nat, j < m + 1 ∧ x = nameF (c.st.getD 3 0) (j : Int) := fun hx => by
      obtain ⟨j, hj, e⟩ := h.mns x hx
      exact ⟨j, by omega, e⟩
    unfold rootsAdd at hx
    split at hx
    · exact old hx
    · rw [List.map_append] at hx
      rcases List.mem_append.mp hx with hx | hx
      · exact old hx
      · have : x = n := by simpa using hx
        subst this
        rcases hn with hn | hn
        · exact old hn
        · exact ⟨m, by omega, hn⟩
theorem new_pool (a : Int) (k : Int) : nameF a k ≠ ("new" : Str) := fun e => by
  have := nameF_mem a k
  rw [e] at this
  exact absurd this (by decide)
theorem memErr_new (ok : LibOk s) (ho : o ∈ nmsOf s.ls) (hn : n ∉ s.roots.map (·.1)) (nn : n ≠ ("new" : Str)) : (o, n) ∉ s.kinds.map (·.1) ∧ memErr s o n b = none := by
  have c2 : (o, n) ∉ s.kinds.map (·.1) := fun c => by
    obtain ⟨r, hr, _⟩ := ok.mem.rk o n c
    exact hn (by
      have := lk_isSome (l := s.roots) (x := n)
      rw [hr] at this
      exact of_decide_eq_true this.symm)
  refine ⟨c2, ?_⟩
  unfold memErr
  rw [if_neg (by simpa using ho), if_neg c2, if_neg]
  unfold mayB
  rw [lk_none.mpr hn, decide_eq_false nn]
  simp
theorem memErr_again (ok : LibOk s) (ho : o ∈ nmsOf s.ls) (h1 : pA s o n = true) (h2 : pB s o n = true) (nn : n ≠ ("new" : Str)) : memErr s o n ("method" : Str) = none := by
  unfold pA at h1
  unfold pB at h2
  rw [Bool.and_eq_true, decide_eq_true_eq] at h1
  have c2 : (o, n) ∉ s.kinds.map (·.1) := by simpa using h1.2
  cases c : s.roots.lookup n with
  | none => rw [c] at h2; cases h2
  | some r =>
    rw [c] at h2 h1
    have h2 := of_decide_eq_true h2
    obtain ⟨v, hv⟩ := lk_of_mem (ok.mem.rr n r c)
    have h3 := h1.1
    simp only [Option.map_some, hv, Option.getD_some, Option.some.injEq] at h3
    unfold memErr
    rw [if_neg (by simpa using ho), if_neg c2, if_neg]
    unfold mayB
    rw [c, decide_eq_false nn]
    dsimp only
    rw [hv, h3, decide_eq_true h2]
    simp
end
end My
namespace My
open PySem L2 RL
abbrev slM (ns : List Int) (k : Nat) (x4 x5 x6 x7 x8 x9 x10 x11 : Option D) : RL.T := [some (.kl (ns.map D.int)), some (.ref 26), some (.ref 0), some (.int (k : Int)), x4, x5, x6, x7, x8, x9, x10, x11]
abbrev declM : MS := mSeq (mDrop (mBM .lst fApp (mOp fSubs (mV 1) (mC (.str "decl"))) (mCons (mUnA fTup (mCons (mV 5) (mCons (mV 6) mNil))) mNil)))
  (mIfS (mTest (mOp fEq (mV 7) (mC (.str "field")))) (mSeq (mDrop (mMethK cs_Library 3 ["kind", "level", "write"] gd_Library_add_member_3_kind_level_write f_Library_add_member (mV 2) (mCons (mV 5) (mCons (mV 6) mNil)) (mCons (mC (.str "field")) (mCons (mV 8) (mCons (mV 9) mNil)))))
  (mSeq (mAsg (mV 8) (gSubM (mOp fSubs (mV 1) (mC (.str "mark"))) (mUnA fTup (mCons (mV 5) (mCons (mV 6) (mCons (mC (.str "read")) mNil))))))
  (mAsg (mV 9) (gSubM (mOp fSubs (mV 1) (mC (.str "mark"))) (mUnA fTup (mCons (mV 5) (mCons (mV 6) (mCons (mC (.str "write")) mNil)))))))) (mSeq (mDrop (mMethK cs_Library 3 ["kind", "level"] gd_Library_add_member_3_kind_level f_Library_add_member (mV 2) (mCons (mV 5) (mCons (mV 6) mNil)) (mCons (mV 7) (mCons (mV 8) mNil))))
  (mAsg (mV 8) (gSubM (mOp fSubs (mV 1) (mC (.str "mark"))) (mUnA fTup (mCons (mV 5) (mCons (mV 6) (mCons (mC (.str "call")) mNil))))))))
section
variable {R : G} {c : Ctx} {s : LibSt} {ns : List Int} {k m : Nat} {o n b l l2 : Str}
theorem fresh_mark {wy : Str} (ok : LibOk s) (hk : (o, n) ∉ s.kinds.map (·.1)) (hw : wy ≠ ("make" : Str)) : s.levels.lookup (o, n, wy) = none := lk_none.mpr fun hm => by
  rcases ok.lev.lv o n wy hm with ⟨_, h2, _⟩ | h2
  · exact hw h2
  · exact hk h2
theorem declM_ok {x4 x10 x11 : Option D} {G : RL.G} (h : Inv c s k m) (fz : Fz R c s.ls) (h26 : G[26]? = some (.dct false (sd (worldL c)))) (h22 : G[22]? = some (.lst ((s.kinds.map (·.1)).map d2))) (hG : ∀ w, G.set 22 (.lst ((s.kinds.map (·.1)).map d2 ++ [d2 (o, n)])) = base2 c (memT s o n b l w) s ++ R) (he : memErr s o n b = none) (hk : (o, n) ∉ s.kinds.map (·.1)) :
    ∃ w, declM (slM ns m x4 (some (.str o)) (some (.str n)) (some (.str b)) (some (.str l)) (some (.str l2)) x10 x11) G = .nx (slM ns m x4 (some (.str o)) (some (.str n)) (some (.str b)) (some (.str l)) (some (.str l2)) x10 x11) (base c (memSt s o n b l w) ++ R) := by
  obtain ⟨w, hw⟩ : ∃ w : Option Str, w = if b = ("field" : Str) then some l2 else none := ⟨_, rfl⟩
  refine ⟨w, ?_⟩
  have z1 := h.ok.lev.z1
  have z2 := h.ok.lev.z2
  have s10 : mDrop (mBM .lst fApp (mOp fSubs (mV 1) (mC (.str "decl"))) (mCons (mUnA fTup (mCons (mV 5) (mCons (mV 6) mNil))) mNil)) (slM ns m x4 (some (.str o)) (some (.str n)) (some (.str b)) (some (.str l)) (some (.str l2)) x10 x11) G = .nx (slM ns m x4 (some (.str o)) (some (.str n)) (some (.str b)) (some (.str l)) (some (.str l2)) x10 x11) (G.set 22 (.lst ((s.kinds.map (·.1)).map d2 ++ [d2 (o, n)]))) :=
    drop_ok (bm_ok (ev2 (ev_v rfl) ev_c (subs_sd h26 rfl)) (ty_lst h22) (cons_ok (una_ok (cons_ok (ev_v rfl) (cons_ok (ev_v rfl) nil_ok)) (tup_ok (by simp))) nil_ok) (app_at h22 (by rw [List.length_map, List.length_map]; omega)))
  rw [hG w] at s10
  refine seq_go s10 ?_
  have e1 := add_member_good (l := l) (w := w) (o := o) (n := n) (k := b) h.ok.mem h.ok.lev (Fz.lib (s := memT s o n b l w) (c := c) fz) he
  rw [mem_lib] at e1
  have lb := Fz.lib (s := memT s o n b l w) (c := c) fz
  have t1 : mTest (mOp fEq (mV 7) (mC (.str "field"))) (slM ns m x4 (some (.str o)) (some (.str n)) (some (.str b)) (some (.str l)) (some (.str l2)) x10 x11) (base2 c (memT s o n b l w) s ++ R) = .ok (decide (b = ("field" : Str))) (base2 c (memT s o n b l w) s ++ R) := tst (ev2 (ev_v rfl) ev_c (eqS _ _))
  rw [← mem_mark]
  by_cases cb : b = ("field" : Str)
  · rw [decide_eq_true cb] at t1
    rw [if_pos cb] at hw
    refine if_tr t1 ?_
    have s11 : mDrop (mMethK cs_Library 3 ["kind", "level", "write"] gd_Library_add_member_3_kind_level_write f_Library_add_member (mV 2) (mCons (mV 5) (mCons (mV 6) mNil)) (mCons (mC (.str "field")) (mCons (mV 8) (mCons (mV 9) mNil)))) (slM ns m x4 (some (.str o)) (some (.str n)) (some (.str b)) (some (.str l)) (some (.str l2)) x10 x11) (base2 c (memT s o n b l w) s ++ R) = .nx (slM ns m x4 (some (.str o)) (some (.str n)) (some (.str b)) (some (.str l)) (some (.str l2)) x10 x11) (base2 c (memT s o n b l w) (memSt s o n b l w) ++ R) :=
      drop_ok (lib_methK (ev_v rfl) lb (by simp) (cons_ok (ev_v rfl) (cons_ok (ev_v rfl) nil_ok)) (cons_ok ev_c (cons_ok (ev_v rfl) (cons_ok (ev_v rfl) nil_ok))) rfl rfl (by
        rw [hw, cb] at e1 ⊢
        exact e1))
    refine seq_go s11 ?_
    have w3 := set_d3 (τ := slM ns m x4 (some (.str o)) (some (.str n)) (some (.str b)) (some (.str l)) (some (.str l2)) x10 x11) (e := mV 8) (o := mOp fSubs (mV 1) (mC (.str "mark"))) (i := mUnA fTup (mCons (mV 5) (mCons (mV 6) (mCons (mC (.str "read")) mNil)))) (v := .str l) (l := vs s.levels) (g := base2 c (memT s o n b l w) (memSt s o n b l w) ++ R) (ev_v rfl) (ev2 (ev_v rfl) ev_c (wkey rfl)) (una_ok (cons_ok (ev_v rfl) (cons_ok (ev_v rfl) (cons_ok ev_c nil_ok))) (tup_ok (by simp))) rfl (by rw [vs_lk, fresh_mark h.ok hk (by decide)]; rfl) (by rw [vs_len]; omega)
    rw [vs_snoc] at w3
    refine seq_go w3 ?_
    have nw : (o, n, ("write" : Str)) ∉ ([((o, n, ("read" : Str)), l)] : List (S3' × Str)).map (·.1) := fun z => by
      have z := (Prod.mk.inj (Prod.mk.inj (List.mem_singleton.mp z)).2).2
      exact absurd z (by decide)
    have w4 := set_d3 (τ := slM ns m x4 (some (.str o)) (some (.str n)) (some (.str b)) (some (.str l)) (some (.str l2)) x10 x11) (e := mV 9) (o := mOp fSubs (mV 1) (mC (.str "mark"))) (i := mUnA fTup (mCons (mV 5) (mCons (mV 6) (mCons (mC (.str "write")) mNil)))) (v := .str l2) (l := vs (s.levels ++ [((o, n, ("read" : Str)), l)])) (n := 25) (g := (base2 c (memT s o n b l w) (memSt s o n b l w) ++ R).set 25 (.dct false (kd d3 (vs (s.levels ++ [((o, n, ("read" : Str)), l)]))))) (ev_v rfl) (ev2 (ev_v rfl) ev_c (subs_sd (l := worldL c) rfl rfl)) (una_ok (cons_ok (ev_v rfl) (cons_ok (ev_v rfl) (cons_ok ev_c nil_ok))) (tup_ok (by simp))) rfl (by
      rw [vs_lk, lk_app2 (fresh_mark h.ok hk (by decide)), lk_none.mpr nw]
      rfl) (by rw [vs_len, List.length_append]; simp; omega)
    rw [vs_snoc, List.set_set, List.append_assoc] at w4
    refine w4.trans ?_
    unfold levsOf
    rw [if_pos cb, hw]
    rfl
  · rw [decide_eq_false cb] at t1
    rw [if_neg cb] at hw
    refine if_fr t1 ?_
    have s11 : mDrop (mMethK cs_Library 3 ["kind", "level"] gd_Library_add_member_3_kind_level f_Library_add_member (mV 2) (mCons (mV 5) (mCons (mV 6) mNil)) (mCons (mV 7) (mCons (mV 8) mNil))) (slM ns m x4 (some (.str o)) (some (.str n)) (some (.str b)) (some (.str l)) (some (.str l2)) x10 x11) (base2 c (memT s o n b l w) s ++ R) = .nx (slM ns m x4 (some (.str o)) (some (.str n)) (some (.str b)) (some (.str l)) (some (.str l2)) x10 x11) (base2 c (memT s o n b l w) (memSt s o n b l w) ++ R) :=
      drop_ok (lib_methK (ev_v rfl) lb (by simp) (cons_ok (ev_v rfl) (cons_ok (ev_v rfl) nil_ok)) (cons_ok (ev_v rfl) (cons_ok (ev_v rfl) nil_ok)) rfl rfl (by
        rw [hw] at e1 ⊢
        exact e1))
    refine seq_go s11 ?_
    have w3 := set_d3 (τ := slM ns m x4 (some (.str o)) (some (.str n)) (some (.str b)) (some (.str l)) (some (.str l2)) x10 x11) (e := mV 8) (o := mOp fSubs (mV 1) (mC (.str "mark"))) (i := mUnA fTup (mCons (mV 5) (mCons (mV 6) (mCons (mC (.str "call")) mNil)))) (v := .str l) (l := vs s.levels) (g := base2 c (memT s o n b l w) (memSt s o n b l w) ++ R) (ev_v rfl) (ev2 (ev_v rfl) ev_c (wkey rfl)) (una_ok (cons_ok (ev_v rfl) (cons_ok (ev_v rfl) (cons_ok ev_c nil_ok))) (tup_ok (by simp))) rfl (by rw [vs_lk, fresh_mark h.ok hk (by decide)]; rfl) (by rw [vs_len]; omega)
    rw [vs_snoc] at w3
    refine w3.trans ?_
    unfold levsOf
    rw [if_neg cb]
theorem keys_vs (g : G) {τ : RL.T} {m : ME} {n : Nat} {r : List (Str × Str)} (h : m τ g = .ok (.ref n) g) (hn : g[n]? = some (.dct true (sd (vs r)))) : mKeysI m τ g = .ok ((r.map (·.1)).map D.str, some (n, .dct true (sd (vs r)))) g := by
  rw [keys_ok h hn, sd_keys, vs_keys]
end
end My
namespace My
open PySem L2 RL
section
variable {R : G} {c : Ctx} {s : LibSt} {ns : List Int} {k m : Nat}
abbrev selM : MS := mIfS (mAndT (mTest (mOp fEq (mOp fSubs (mV 4) (mC (.int 1))) (mC (.int 0)))) (mTest (mOp fGt (mUnA fLen (mCons (mV 10) mNil)) (mC (.int 0))))) (mSeq (mAsg (mOp fSubs (mV 10) (mOp fMod (mOp fSubs (mV 4) (mC (.int 2))) (mUnA fLen (mCons (mV 10) mNil)))) (gN 6))
  (mAsg (mC (.str "method")) (gN 7))) (mSeq (mAsg (mV 5) (gSubM (mOp fSubs (mV 1) (mC (.str "root"))) (mV 6)))
  (mAsg (mV 7) (gSubM (mOp fSubs (mV 1) (mC (.str "kind"))) (mV 6))))
abbrev againA : ME := mLc ([("_law_x", 11)].map (·.2)) (mKeysI (mOp fSubs (mV 1) (mC (.str "root")))) (.one 11) (mAndT (mTest (mOp fEq (mOp fSubs (mOp fSubs (mV 1) (mC (.str "kind"))) (mV 11)) (mC (.str "method")))) (mTest (mOp fNot (mUnA fTup (mCons (mV 5) (mCons (mV 11) mNil))) (mOp fSubs (mV 1) (mC (.str "decl")))))) (mV 11)
abbrev againB : ME := mLc ([("_law_x", 11)].map (·.2)) (mSeqI (mV 10)) (.one 11) (mTest (mOp fIn (mOp fSubs (mOp fSubs (mV 1) (mC (.str "root"))) (mV 11)) (mUnA (fCall 2 [] (f_l_up 30)) (mCons (mV 1) (mCons (mV 5) mNil))))) (mV 11)
theorem m_mem : m_l_add_member = (mSeq (mAsg (mUnA (fCall 3 [] f_l_digits) (mCons (mV 0) (mCons (mOp fPlus (mC (.int 13)) (mV 3)) (mCons (mUnA fLst (mCons (mC (.int 5)) (mCons (mC (.int 2)) (mCons (mC (.int 8)) (mCons (mC (.int 4)) (mCons (mC (.int 6)) (mCons (mC (.int 6)) mNil))))))) mNil)))) (gN 4))
  (mSeq (mAsg (mOp fSubs (mOp fSubs (mV 1) (mC (.str "order"))) (mOp fMod (mOp fSubs (mV 4) (mC (.int 0))) (mUnA fLen (mCons (mOp fSubs (mV 1) (mC (.str "order"))) mNil)))) (gN 5))
  (mSeq (mAsg (mUnA (fCall 2 [] f_l_name) (mCons (mOp fSubs (mOp fSubs (mV 1) (mC (.str "starts"))) (mC (.int 3))) (mCons (mV 3) mNil))) (gN 6))
  (mSeq (mAsg (mOp fSubs (mUnA fLst (mCons (mC (.str "method")) (mCons (mC (.str "field")) (mCons (mC (.str "static")) (mCons (mC (.str "method")) mNil))))) (mOp fSubs (mV 4) (mC (.int 3)))) (gN 7))
  (mSeq (mAsg (mOp fSubs (mOp fSubs (mV 1) (mC (.str "levels"))) (mOp fMod (mOp fSubs (mV 4) (mC (.int 4))) (mUnA fLen (mCons (mOp fSubs (mV 1) (mC (.str "levels"))) mNil)))) (gN 8))
  (mSeq (mAsg (mOp fSubs (mOp fSubs (mV 1) (mC (.str "levels"))) (mOp fMod (mOp fSubs (mV 4) (mC (.int 5))) (mUnA fLen (mCons (mOp fSubs (mV 1) (mC (.str "levels"))) mNil)))) (gN 9))
  (mSeq (mLockS (mOp fSubs (mV 1) (mC (.str "root"))) (mAsg againA (gN 10)))
  (mSeq (mAsg againB (gN 10))
  (mSeq selM declM))))))))) := rfl
theorem pA_cases (o x : Str) (g : G) (τ : RL.T) (h1 : g[26]? = some (.dct false (sd (worldL c)))) (h2 : g[23]? = some (.dct false (sd (kindL s)))) (h3 : g[22]? = some (.lst ((s.kinds.map (·.1)).map d2))) (hx : x ∈ s.roots.map (·.1)) (hw : mV 1 τ g = .ok (.ref 26) g) (ho : mV 5 τ g = .ok (.str o) g) (hxx : mV 11 τ g = .ok (.str x) g) :
    mAndT (mTest (mOp fEq (mOp fSubs (mOp fSubs (mV 1) (mC (.str "kind"))) (mV 11)) (mC (.str "method")))) (mTest (mOp fNot (mUnA fTup (mCons (mV 5) (mCons (mV 11) mNil))) (mOp fSubs (mV 1) (mC (.str "decl"))))) τ g = .ok (pA s o x) g := by
  obtain ⟨r, hr⟩ := lk_of_mem hx
  have hk : (kindL s).lookup x = some (.str ((s.kinds.lookup (r, x)).getD "")) := by rw [kindL_lk, hr]; rfl
  have t1 := tst (ev2 (ev2 (ev2 hw (ev_c (d := .str "kind")) (subs_sd h1 rfl)) hxx (subs_sd h2 hk)) (ev_c (d := .str "method")) (eqS _ _))
  have t2 := tst (ev2 (una_ok (cons_ok ho (cons_ok hxx nil_ok)) (tup_ok (by simp))) (ev2 hw (ev_c (d := .str "decl")) (subs_sd h1 rfl)) (notinl_d2 (items_at h3)))
  unfold pA
  rw [hr]
  have e : decide ((some r).map (fun r => (s.kinds.lookup (r, x)).getD "") = some ("method" : Str)) = decide ((s.kinds.lookup (r, x)).getD "" = ("method" : Str)) := by simp
  rw [e]
  cases cc : decide ((s.kinds.lookup (r, x)).getD "" = ("method" : Str)) with
  | true => rw [cc] at t1; exact and_t t1 t2
  | false => rw [cc] at t1; exact and_f t1
theorem add_member_lawX (h : Inv c s k m) (fz : Fz R c s.ls) (hk0 : 0 < k) (hk : k < 13) (hm : m < 26) (hn : ns.length ≤ 63) :
    ∃ s' R', f_l_add_member [.kl (ns.map D.int), .ref 26, .ref 0, .int (m : Int)] (base c s ++ R) = .ok .non (base c s' ++ R') ∧ Inv c s' k (m + 1) ∧ Fz R' c s'.ls ∧ ∃ Y, R' = R ++ Y := by
  obtain ⟨a0, a1, a2, a3, hst⟩ := h.st
  have hlen := h.len
  have hml := h.mlen
  have hrl := h.ok.lev.y3
  -- the digits
  have hz : (base c s ++ R ++ [Ob.lst ([(5 : Int), 2, 8, 4, 6, 6].map D.int)])[(base c s ++ R).length]? = some (.lst ([(5 : Int), 2, 8, 4, 6, 6].map D.int)) := end_get
  obtain ⟨d0, d1, d2, d3, d4, d5, dd, b0, b1, b2, b3, b4, b5⟩ := dig6 ns (13 + m) 5 2 8 4 6 6 (by simp)
  have dg := dig_eq (ns := ns) (j := 13 + m) hz (by simp) (by simp) (by omega) hn
  rw [dd] at dg
  have ij : ((13 + m : Nat) : Int) = 13 + (m : Int) := by omega
  rw [ij] at dg
  have s1 : mAsg (mUnA (fCall 3 [] f_l_digits) (mCons (mV 0) (mCons (mOp fPlus (mC (.int 13)) (mV 3)) (mCons (mUnA fLst (mCons (mC (.int 5)) (mCons (mC (.int 2)) (mCons (mC (.int 8)) (mCons (mC (.int 4)) (mCons (mC (.int 6)) (mCons (mC (.int 6)) mNil))))))) mNil)))) (gN 4) (slM ns m none none none none none none none none) (base c s ++ R) = .nx (slM ns m (some (.ref (base c s ++ R ++ [Ob.lst ([(5 : Int), 2, 8, 4, 6, 6].map D.int)] ++ digT ns).length)) none none none none none none none) (base c s ++ R ++ [Ob.lst ([(5 : Int), 2, 8, 4, 6, 6].map D.int)] ++ digT ns ++ [Ob.lst ([d0, d1, d2, d3, d4, d5].map D.int)]) :=
    asg_ok (una_ok (cons_ok (ev_v rfl) (cons_ok (ev2 ev_c (ev_v rfl) (plusI _ _)) (cons_ok (una_ok (by repeat' first | assumption | with_reducible exact ev_c | with_reducible exact nil_ok | with_reducible exact plusI _ _ | with_reducible exact subI _ _ | with_reducible exact ltI _ _ | with_reducible exact leI _ _ | with_reducible exact gtI _ _ | with_reducible exact geI _ _ | with_reducible exact eqI _ _ | with_reducible exact eqS _ _ | with_reducible exact neI _ _ | with_reducible exact neS _ _ | with_reducible exact isN_ok _ _ | with_reducible exact len_t | with_reducible exact tuple_t | exact end_get | ((with_reducible apply ev_v); exact rfl) | (with_reducible apply cons_ok) | (with_reducible apply evInt) | (with_reducible apply una_ok) | (with_reducible apply ev2) | (with_reducible apply un_ok) | (with_reducible apply bm_ok) | (with_reducible apply meth_ok) | (with_reducible apply methK_ok) | (with_reducible apply prop_ok) | (with_reducible apply tst) | (with_reducible apply not_ok) | (with_reducible apply asg_ok) | (with_reducible apply drop_ok) | (with_reducible apply if_n2) | (with_reducible apply mulI) | (with_reducible apply modI) | (with_reducible apply divI) | (with_reducible apply subs_at) | (with_reducible apply subs_sd) | (with_reducible apply len_at) | (with_reducible apply tuple_at) | (with_reducible apply tup_ok) | (with_reducible apply lst_ok) | (with_reducible apply fld_ok) | (with_reducible apply app_at) | (with_reducible apply call_ok) | (with_reducible apply ty_lst) | (with_reducible apply ty_dct) | (with_reducible apply app_get) | exact rfl | decide | omega | (simp; done)) (lst_ok (by simp))) nil_ok))) (call_ok rfl dg))
  have hp : (base c s ++ R ++ [Ob.lst ([(5 : Int), 2, 8, 4, 6, 6].map D.int)] ++ digT ns ++ [Ob.lst ([d0, d1, d2, d3, d4, d5].map D.int)])[(base c s ++ R ++ [Ob.lst ([(5 : Int), 2, 8, 4, 6, 6].map D.int)] ++ digT ns).length]? = some (.lst ([d0, d1, d2, d3, d4, d5].map D.int)) := end_get
  have eR : base c s ++ R ++ [Ob.lst ([(5 : Int), 2, 8, 4, 6, 6].map D.int)] ++ digT ns ++ [Ob.lst ([d0, d1, d2, d3, d4, d5].map D.int)] = base c s ++ (R ++ ([Ob.lst ([(5 : Int), 2, 8, 4, 6, 6].map D.int)] ++ digT ns ++ [Ob.lst ([d0, d1, d2, d3, d4, d5].map D.int)])) := by simp only [List.append_assoc]
  rw [eR] at s1 hp
  have fz1 : Fz (R ++ ([Ob.lst ([(5 : Int), 2, 8, 4, 6, 6].map D.int)] ++ digT ns ++ [Ob.lst ([d0, d1, d2, d3, d4, d5].map D.int)])) c s.ls := fz.app
  generalize (base c s ++ R ++ [Ob.lst ([(5 : Int), 2, 8, 4, 6, 6].map D.int)] ++ digT ns).length = q at *
  have x1 : ∃ Y, R ++ ([Ob.lst ([(5 : Int), 2, 8, 4, 6, 6].map D.int)] ++ digT ns ++ [Ob.lst ([d0, d1, d2, d3, d4, d5].map D.int)]) = R ++ Y := ⟨_, rfl⟩
  generalize R ++ ([Ob.lst ([(5 : Int), 2, 8, 4, 6, 6].map D.int)] ++ digT ns ++ [Ob.lst ([d0, d1, d2, d3, d4, d5].map D.int)]) = R1 at *
  clear hz dg eR
  -- the owner
  have ne0 : nmsOf s.ls ≠ [] := fun e => by
    have := congrArg List.length e
    simp only [nmsOf, List.length_map, List.length_nil] at this
    omega
  obtain ⟨o, ho, e2⟩ := choose_ok (g := base c s ++ R1) (τ := slM ns m (some (.ref q)) none none none none none none none) (c := c) (a := mV 1) (b := mOp fSubs (mV 4) (mC (.int 0))) (k := "order") (n := 18) (l := nmsOf s.ls) (z := d0) rfl rfl rfl ne0 (ev_v rfl) (ev2 (ev_v rfl) ev_c (subs_at hp rfl))
  have s2 := asg_ok (i := 5) e2
  -- the name
  have hnF : nameF a3 (m : Int) = nameF (c.st.getD 3 0) (m : Int) := by rw [hst]; rfl
  have s3 : mAsg (mUnA (fCall 2 [] f_l_name) (mCons (mOp fSubs (mOp fSubs (mV 1) (mC (.str "starts"))) (mC (.int 3))) (mCons (mV 3) mNil))) (gN 6) (slM ns m (some (.ref q)) (some (.str o)) none none none none none none) (base c s ++ R1) = .nx (slM ns m (some (.ref q)) (some (.str o)) (some (.str (nameF a3 (m : Int)))) none none none none none) (base c s ++ R1 ++ [.lst (poolL.map D.str)]) :=
    asg_ok (una_ok (cons_ok (ev2 (ev2 (ev_v rfl) ev_c (wkey rfl)) ev_c (subs_at (l := c.st.map D.int) rfl (by rw [hst]; rfl))) (cons_ok (ev_v rfl) nil_ok)) (call_ok rfl (name_eq a3 (m : Int) _)))
  have nn : nameF a3 (m : Int) ∉ s.roots.map (·.1) := fun hx => by
    obtain ⟨j, hj, e⟩ := h.mns _ hx
    rw [hnF] at e
    have := nameF_inj (i := m) (j := j) (by omega) (by omega) e
    omega
  have nw : nameF a3 (m : Int) ≠ ("new" : Str) := new_pool _ _
  generalize nameF a3 (m : Int) = n at *
  -- the kind
  obtain ⟨br, hbr, e4⟩ : ∃ br ∈ (["method", "field", "static", "method"] : List Str), L2.atI ((["method", "field", "static", "method"] : List Str).map D.str) d3 = some (.str br) := by
    obtain ⟨z, rfl⟩ := Int.eq_ofNat_of_zero_le b3.1
    have hz : z < (["method", "field", "static", "method"] : List Str).length := by show z < 4; omega
    exact ⟨_, List.getElem_mem hz, atI_n (by rw [List.getElem?_map, List.getElem?_eq_getElem hz]; rfl)⟩
  have s4 : mAsg (mOp fSubs (mUnA fLst (mCons (mC (.str "method")) (mCons (mC (.str "field")) (mCons (mC (.str "static")) (mCons (mC (.str "method")) mNil))))) (mOp fSubs (mV 4) (mC (.int 3)))) (gN 7) (slM ns m (some (.ref q)) (some (.str o)) (some (.str n)) none none none none none) (base c s ++ R1 ++ [.lst (poolL.map D.str)]) = .nx (slM ns m (some (.ref q)) (some (.str o)) (some (.str n)) (some (.str br)) none none none none) (base c s ++ R1 ++ [.lst (poolL.map D.str)] ++ [.lst ((["method", "field", "static", "method"] : List Str).map D.str)]) :=
    asg_ok (ev2 (una_ok (cons_ok ev_c (cons_ok ev_c (cons_ok ev_c (cons_ok ev_c nil_ok)))) (lst_ok (by simp))) (ev2 (ev_v rfl) ev_c (subs_at (app_get (app_get hp)) rfl)) (subs_at end_get e4))
  have hp2 : (base c s ++ R1 ++ [Ob.lst (poolL.map D.str)] ++ [Ob.lst ((["method", "field", "static", "method"] : List Str).map D.str)])[q]? = some (.lst ([d0, d1, d2, d3, d4, d5].map D.int)) := app_get (app_get hp)
  have eR : base c s ++ R1 ++ [Ob.lst (poolL.map D.str)] ++ [Ob.lst ((["method", "field", "static", "method"] : List Str).map D.str)] = base c s ++ (R1 ++ ([Ob.lst (poolL.map D.str)] ++ [Ob.lst ((["method", "field", "static", "method"] : List Str).map D.str)])) := by simp only [List.append_assoc]
  rw [eR] at s4 hp2
  have fz2 : Fz (R1 ++ ([Ob.lst (poolL.map D.str)] ++ [Ob.lst ((["method", "field", "static", "method"] : List Str).map D.str)])) c s.ls := fz1.app
  have x2 : ∃ Y, R1 ++ ([Ob.lst (poolL.map D.str)] ++ [Ob.lst ((["method", "field", "static", "method"] : List Str).map D.str)]) = R ++ Y := ext_app x1
  generalize R1 ++ ([Ob.lst (poolL.map D.str)] ++ [Ob.lst ((["method", "field", "static", "method"] : List Str).map D.str)]) = R2 at *
  clear eR
  -- the levels
  obtain ⟨l, _, e5⟩ := choose_ok (g := base c s ++ R2) (τ := slM ns m (some (.ref q)) (some (.str o)) (some (.str n)) (some (.str br)) none none none none) (c := c) (a := mV 1) (b := mOp fSubs (mV 4) (mC (.int 4))) (k := "levels") (z := d4) rfl rfl (at_R fz2.lv.1 fz2.lv.2) h.lv0 (ev_v rfl) (ev2 (ev_v rfl) ev_c (subs_at hp2 rfl))
  have s5 := asg_ok (i := 8) e5
  obtain ⟨l2, _, e6⟩ := choose_ok (g := base c s ++ R2) (τ := slM ns m (some (.ref q)) (some (.str o)) (some (.str n)) (some (.str br)) (some (.str l)) none none none) (c := c) (a := mV 1) (b := mOp fSubs (mV 4) (mC (.int 5))) (k := "levels") (z := d5) rfl rfl (at_R fz2.lv.1 fz2.lv.2) h.lv0 (ev_v rfl) (ev2 (ev_v rfl) ev_c (subs_at hp2 rfl))
  have s6 := asg_ok (i := 9) e6
  -- the names to declare again
  have rlen : (s.roots.map (·.1)).length ≤ 1000 := by rw [List.length_map]; omega
  obtain ⟨X, e7⟩ := lc_strs (g := (base c s ++ R2).set 24 (.dct true (sd (vs s.roots)))) (τ := slM ns m (some (.ref q)) (some (.str o)) (some (.str n)) (some (.str br)) (some (.str l)) (some (.str l2)) none none) (own := [("_law_x", 11)].map (·.2)) (mi := mKeysI (mOp fSubs (mV 1) (mC (.str "root")))) (t := .one 11) (mt := mAndT (mTest (mOp fEq (mOp fSubs (mOp fSubs (mV 1) (mC (.str "kind"))) (mV 11)) (mC (.str "method")))) (mTest (mOp fNot (mUnA fTup (mCons (mV 5) (mCons (mV 11) mNil))) (mOp fSubs (mV 1) (mC (.str "decl")))))) (me := mV 11) (l := s.roots.map (·.1)) (c := some (24, .dct true (sd (vs s.roots)))) (X0 := []) (pA s o)
    (by rw [List.append_nil]; exact keys_vs _ (ev2 (ev_v rfl) ev_c (subs_sd (l := worldL c) rfl rfl)) rfl) (by rw [List.append_nil]; rfl) (fun z hz X _ => by
      refine ⟨_, rfl, [], ?_, ?_⟩
      · rw [List.append_nil]
        exact pA_cases o z _ _ rfl rfl rfl hz (ev_v rfl) (ev_v rfl) (ev_v rfl)
      · rw [List.append_nil]
        exact ev_v rfl) (by omega)
  have s7 : mLockS (mOp fSubs (mV 1) (mC (.str "root"))) (mAsg againA (gN 10)) (slM ns m (some (.ref q)) (some (.str o)) (some (.str n)) (some (.str br)) (some (.str l)) (some (.str l2)) none none) (base c s ++ R2) = .nx (slM ns m (some (.ref q)) (some (.str o)) (some (.str n)) (some (.str br)) (some (.str l)) (some (.str l2)) (some (.ref (base c s ++ (R2 ++ X)).length)) none) (base c s ++ R2 ++ (X ++ [.lst (((s.roots.map (·.1)).filter (pA s o)).map D.str)])) := by
    refine lockS_ok (ev2 (ev_v rfl) ev_c (wkey rfl)) rfl ?_
    have := asg_ok (i := 10) e7
    rw [List.append_assoc] at this
    have ll : ((base c s ++ R2).set 24 (.dct true (sd (vs s.roots))) ++ X).length = (base c s ++ (R2 ++ X)).length := by simp only [List.length_append, List.length_set]; omega
    rw [ll] at this
    exact this
  have eR : base c s ++ R2 ++ (X ++ [Ob.lst (((s.roots.map (·.1)).filter (pA s o)).map D.str)]) = base c s ++ (R2 ++ X ++ [Ob.lst (((s.roots.map (·.1)).filter (pA s o)).map D.str)]) := by simp only [List.append_assoc]
  have hr7 : (base c s ++ (R2 ++ X ++ [Ob.lst (((s.roots.map (·.1)).filter (pA s o)).map D.str)]))[(base c s ++ (R2 ++ X)).length]? = some (.lst (((s.roots.map (·.1)).filter (pA s o)).map D.str)) := by
    rw [← List.append_assoc]
    exact end_get
  have hp3 : (base c s ++ (R2 ++ X ++ [Ob.lst (((s.roots.map (·.1)).filter (pA s o)).map D.str)]))[q]? = some (.lst ([d0, d1, d2, d3, d4, d5].map D.int)) := by
    rw [← eR]
    exact app_get hp2
  rw [eR] at s7
  have fz3 : Fz (R2 ++ X ++ [Ob.lst (((s.roots.map (·.1)).filter (pA s o)).map D.str)]) c s.ls := fz2.app.app
  generalize (base c s ++ (R2 ++ X)).length = r at *
  have x3 : ∃ Y, R2 ++ X ++ [Ob.lst (((s.roots.map (·.1)).filter (pA s o)).map D.str)] = R ++ Y := ext_app (ext_app x2)
  generalize R2 ++ X ++ [Ob.lst (((s.roots.map (·.1)).filter (pA s o)).map D.str)] = R3 at *
  clear eR e7
  have fl1 := List.length_filter_le (pA s o) (s.roots.map (·.1))
  have kl := h.ok.lin.klen o
  obtain ⟨X, e8⟩ := lc_strs (g := base c s ++ R3) (τ := slM ns m (some (.ref q)) (some (.str o)) (some (.str n)) (some (.str br)) (some (.str l)) (some (.str l2)) (some (.ref r)) none) (own := [("_law_x", 11)].map (·.2)) (mi := mSeqI (mV 10)) (t := .one 11) (mt := mTest (mOp fIn (mOp fSubs (mOp fSubs (mV 1) (mC (.str "root"))) (mV 11)) (mUnA (fCall 2 [] (f_l_up 30)) (mCons (mV 1) (mCons (mV 5) mNil))))) (me := mV 11) (l := (s.roots.map (·.1)).filter (pA s o)) (c := some (r, .lst (((s.roots.map (·.1)).filter (pA s o)).map D.str))) (X0 := []) (pB s o)
    (by rw [List.append_nil]; exact seqL_ok (ev_v rfl) hr7) (by rw [List.append_nil]; exact hr7) (fun z hz X _ => by
      have hz2 := (List.mem_filter.mp hz).1
      obtain ⟨rt, hrt⟩ := lk_of_mem hz2
      obtain ⟨Y, r2, u1, u2, u3⟩ := up_ok 30 ((fz3.wld (t := s)).frame0 (gx_app X)) h.ok.lin h.ok.z ho (by omega)
      refine ⟨_, rfl, Y, tst (ev2 (ev2 (ev2 (ev_v rfl) ev_c (subs_sd (l := worldL c) rfl rfl)) (ev_v rfl) (subs_sd (l := vs s.roots) (d := .str rt) rfl (by rw [vs_lk, hrt]; rfl))) (una_ok (cons_ok (ev_v rfl) (cons_ok (ev_v rfl) nil_ok)) (call_ok rfl u1)) ?_), ev_v rfl⟩
      rw [in_strs rt (items_at u3)]
      unfold pB
      rw [hrt]) (by omega)
  have s8 := asg_ok (i := 10) e8
  generalize hAL : ((s.roots.map (·.1)).filter (pA s o)).filter (pB s o) = AL at *
  have inAL : ∀ x ∈ AL, x ∈ s.roots.map (·.1) ∧ pA s o x = true ∧ pB s o x = true := fun x hx => by
    rw [← hAL] at hx
    obtain ⟨h1, h2⟩ := List.mem_filter.mp hx
    obtain ⟨h3, h4⟩ := List.mem_filter.mp h1
    exact ⟨h3, h4, h2⟩
  have eR : base c s ++ R3 ++ X ++ [Ob.lst (AL.map D.str)] = base c s ++ (R3 ++ X ++ [Ob.lst (AL.map D.str)]) := by simp only [List.append_assoc]
  have hr8 : (base c s ++ R3 ++ X ++ [Ob.lst (AL.map D.str)])[(base c s ++ R3 ++ X).length]? = some (.lst (AL.map D.str)) := end_get
  have hp4 : (base c s ++ R3 ++ X ++ [Ob.lst (AL.map D.str)])[q]? = some (.lst ([d0, d1, d2, d3, d4, d5].map D.int)) := app_get (app_get hp3)
  rw [eR] at hr8 hp4 s8
  have fz4 : Fz (R3 ++ X ++ [Ob.lst (AL.map D.str)]) c s.ls := fz3.app.app
  generalize (base c s ++ R3 ++ X).length = r8 at *
  have x4 : ∃ Y, R3 ++ X ++ [Ob.lst (AL.map D.str)] = R ++ Y := ext_app (ext_app x3)
  generalize R3 ++ X ++ [Ob.lst (AL.map D.str)] = R4 at *
  clear eR e8
  -- which
  have fin : ∀ (s' : LibSt) (R' : G) (τ : RL.T), mSeq selM declM (slM ns m (some (.ref q)) (some (.str o)) (some (.str n)) (some (.str br)) (some (.str l)) (some (.str l2)) (some (.ref r8)) none) (base c s ++ R4) = .nx τ (base c s' ++ R') → f_l_add_member [.kl (ns.map D.int), .ref 26, .ref 0, .int (m : Int)] (base c s ++ R) = .ok .non (base c s' ++ R') := fun s' R' τ e => by
    unfold f_l_add_member
    rw [m_mem]
    exact run_nx (seq_go s1 (seq_go s2 (seq_go s3 (seq_go s4 (seq_go s5 (seq_go s6 (seq_go s7 (seq_go s8 e))))))))
  have t1 : mTest (mOp fEq (mOp fSubs (mV 4) (mC (.int 1))) (mC (.int 0))) (slM ns m (some (.ref q)) (some (.str o)) (some (.str n)) (some (.str br)) (some (.str l)) (some (.str l2)) (some (.ref r8)) none) (base c s ++ R4) = .ok (decide (d1 = 0)) (base c s ++ R4) := tst (ev2 (ev2 (ev_v rfl) ev_c (subs_at hp4 rfl)) ev_c (eqI _ _))
  have t2 : mTest (mOp fGt (mUnA fLen (mCons (mV 10) mNil)) (mC (.int 0))) (slM ns m (some (.ref q)) (some (.str o)) (some (.str n)) (some (.str br)) (some (.str l)) (some (.str l2)) (some (.ref r8)) none) (base c s ++ R4) = .ok (decide (AL ≠ [])) (base c s ++ R4) := by
    rw [← lstr_pos]
    exact tst (ev2 (una_ok (cons_ok (ev_v rfl) nil_ok) (len_at hr8)) ev_c (gtI _ _))
  have els : mAndT (mTest (mOp fEq (mOp fSubs (mV 4) (mC (.int 1))) (mC (.int 0)))) (mTest (mOp fGt (mUnA fLen (mCons (mV 10) mNil)) (mC (.int 0)))) (slM ns m (some (.ref q)) (some (.str o)) (some (.str n)) (some (.str br)) (some (.str l)) (some (.str l2)) (some (.ref r8)) none) (base c s ++ R4) = .ok false (base c s ++ R4) → ∃ s' R', f_l_add_member [.kl (ns.map D.int), .ref 26, .ref 0, .int (m : Int)] (base c s ++ R) = .ok .non (base c s' ++ R') ∧ Inv c s' k (m + 1) ∧ Fz R' c s'.ls ∧ ∃ Y, R' = R ++ Y := fun tt => by
    obtain ⟨hk2, he⟩ := memErr_new (b := br) h.ok ho nn nw
    have w1 := set_sd (τ := slM ns m (some (.ref q)) (some (.str o)) (some (.str n)) (some (.str br)) (some (.str l)) (some (.str l2)) (some (.ref r8)) none) (e := mV 5) (o := mOp fSubs (mV 1) (mC (.str "root"))) (i := mV 6) (l := vs s.roots) (n := 24) (g := base c s ++ R4) (ev_v rfl) (ev2 (ev_v rfl) ev_c (wkey rfl)) (ev_v rfl) rfl (by rw [vs_keys]; exact nn) (by rw [vs_len]; omega)
    have w2 := set_sd (τ := slM ns m (some (.ref q)) (some (.str o)) (some (.str n)) (some (.str br)) (some (.str l)) (some (.str l2)) (some (.ref r8)) none) (e := mV 7) (o := mOp fSubs (mV 1) (mC (.str "kind"))) (i := mV 6) (l := kindL s) (n := 23) (g := (base c s ++ R4).set 24 (.dct false (sd (vs s.roots ++ [(n, .str o)])))) (ev_v rfl) (ev2 (ev_v rfl) ev_c (subs_sd (l := worldL c) rfl rfl)) (ev_v rfl) rfl (by rw [kindL_keys]; exact nn) (by rw [← List.length_map (f := (·.1)), kindL_keys]; omega)
    obtain ⟨w, hw⟩ := declM_ok (ns := ns) (l := l) (l2 := l2) (x4 := some (.ref q)) (x10 := some (.ref r8)) (x11 := none) (G := ((base c s ++ R4).set 24 (.dct false (sd (vs s.roots ++ [(n, .str o)])))).set 23 (.dct false (sd (kindL s ++ [(n, .str br)])))) h fz4 rfl rfl (fun w => mem_new h.ok nn hk2) he hk2
    exact ⟨_, R4, fin _ R4 _ (seq_go (if_fr tt (seq_go w1 w2)) hw), h.mem he (by omega) (.inr hnF), fz4, x4⟩
  by_cases c1 : d1 = 0
  · rw [decide_eq_true c1] at t1
    by_cases c2 : AL ≠ []
    · rw [decide_eq_true c2] at t2
      obtain ⟨x, hx, ex⟩ := pickL c2 d2
      obtain ⟨i1, i2, i3⟩ := inAL x hx
      have hp0 : 0 < AL.length := List.length_pos_iff.mpr c2
      have w1 : mAsg (mOp fSubs (mV 10) (mOp fMod (mOp fSubs (mV 4) (mC (.int 2))) (mUnA fLen (mCons (mV 10) mNil)))) (gN 6) (slM ns m (some (.ref q)) (some (.str o)) (some (.str n)) (some (.str br)) (some (.str l)) (some (.str l2)) (some (.ref r8)) none) (base c s ++ R4) = .nx (slM ns m (some (.ref q)) (some (.str o)) (some (.str x)) (some (.str br)) (some (.str l)) (some (.str l2)) (some (.ref r8)) none) (base c s ++ R4) :=
        asg_ok (ev2 (ev_v rfl) (ev2 (ev2 (ev_v rfl) ev_c (subs_at hp4 rfl)) (una_ok (cons_ok (ev_v rfl) nil_ok) (len_at hr8)) (modI _ _ (by rw [List.length_map]; omega))) (subs_at hr8 ex))
      have w2 : mAsg (mC (.str "method")) (gN 7) (slM ns m (some (.ref q)) (some (.str o)) (some (.str x)) (some (.str br)) (some (.str l)) (some (.str l2)) (some (.ref r8)) none) (base c s ++ R4) = .nx (slM ns m (some (.ref q)) (some (.str o)) (some (.str x)) (some (.str "method")) (some (.str l)) (some (.str l2)) (some (.ref r8)) none) (base c s ++ R4) := asg_ok ev_c
      have xw : x ≠ ("new" : Str) := by
        obtain ⟨j, _, e⟩ := h.mns x i1
        rw [e]
        exact new_pool _ _
      have he := memErr_again h.ok ho i2 i3 xw
      have hk2 : (o, x) ∉ s.kinds.map (·.1) := by
        unfold pA at i2
        rw [Bool.and_eq_true] at i2
        simpa using i2.2
      obtain ⟨w, hw⟩ := declM_ok (ns := ns) (l := l) (l2 := l2) (x4 := some (.ref q)) (x10 := some (.ref r8)) (x11 := none) (G := base c s ++ R4) h fz4 rfl rfl (fun w => mem_old h.ok i1) he hk2
      exact ⟨_, R4, fin _ R4 _ (seq_go (if_tr (and_t t1 t2) (seq_go w1 w2)) hw), h.mem he (by omega) (.inl i1), fz4, x4⟩
    · rw [decide_eq_false c2] at t2
      exact els (and_t t1 t2)
  · rw [decide_eq_false c1] at t1
    exact els (and_f t1)
end
end My
namespace My
open PySem L2 RL
/-! the ground -/
abbrev slG (ns : List Int) (x3 x4 x5 x6 x7 x8 : Option D) : RL.T := [some (.kl (ns.map D.int)), some (.ref 0), some (.ref 10), x3, x4, x5, x6, x7, x8]
def s0 (sl : List (Str × D)) : LibSt := ⟨sl, [], [], [], [], [], []⟩
theorem Inv.start {c : Ctx} {sl : List (Str × D)} (h1 : sl.map (·.1) = c.packs) (h2 : c.packs ≠ []) (h3 : c.levels ≠ []) (h4 : c.packs.length ≤ 100) (h5 : c.levels.length ≤ 100) (h6 : ∃ a b d e, c.st = [a, b, d, e]) : Inv c (s0 sl) 0 0 :=
  ⟨⟨LinOk.nil, ⟨by simp [s0], by simp [s0], by simp [s0]⟩, ⟨by simp [s0], by simp [s0], by simp [s0], by simp [s0], by simp [s0], by simp [s0]⟩, rfl, by simp [s0], fun _ _ _ hm => by simp [s0] at hm⟩, h1, h2, h3, h4, h5, h6, rfl, by simp [s0, nmsOf], by simp [s0], rfl, by simp [s0]⟩
theorem rng_map (n : Nat) : rng 0 n = (List.range n).map fun (i : Nat) => D.int (0 + (i : Int)) := by simp [rng]
/-- names, one after the other -/
theorem names_ok {g : G} {τ : RL.T} {mi : MI} {q n j : Nat} {a : Int} {ps : List Int} {own : List Nat} (hm : mi τ g = .ok (rng 0 n, none) g) (hn : n ≤ 1000) (hq : g[q]? = some (.lst (ps.map D.int))) (hj : ps[j]? = some a) (h4 : ∀ d : D, ∃ τ1, tgM (.one 6) d (wipeT τ own) = some τ1 ∧ τ1[4]? = some (some (.ref q)) ∧ τ1[6]? = some (some d)) :
    ∃ X, mLc own mi (.one 6) mYes (mUnA (fCall 2 [] f_l_name) (mCons (mOp fSubs (mV 4) (mC (.int (j : Int)))) (mCons (mV 6) mNil))) τ g = .ok (.ref (g ++ X).length) (g ++ X ++ [.lst (((List.range n).map fun (i : Nat) => nameF a (i : Int)).map D.str)]) := by
  obtain ⟨X, e⟩ := lc_ext (g := g) (τ := τ) (own := own) (mi := mi) (t := .one 6) (mt := mYes) (me := mUnA (fCall 2 [] f_l_name) (mCons (mOp fSubs (mV 4) (mC (.int (j : Int)))) (mCons (mV 6) mNil))) (l := rng 0 n) (c := none) (X0 := []) (fun _ => true) (fun d => match d with | .int i => .str (nameF a i) | _ => .non) (by rw [List.append_nil]; exact hm) trivial (fun d hd X => by
    rw [rng_map] at hd
    obtain ⟨i, _, rfl⟩ := List.mem_map.mp hd
    obtain ⟨τ1, t1, t2, t3⟩ := h4 (.int (0 + (i : Int)))
    refine ⟨τ1, t1, [], by rw [List.append_nil]; rfl, fun _ => ⟨[.lst (poolL.map D.str)], ?_⟩⟩
    rw [List.append_nil]
    exact una_ok (cons_ok (ev2 (ev_v t2) ev_c (subs_at ((gx_app X).get0 hq) (atI_n (by rw [List.getElem?_map, hj]; rfl)))) (cons_ok (ev_v t3) nil_ok)) (call_ok rfl (name_eq a _ _))) (by simp [rng]; omega)
  refine ⟨X, ?_⟩
  rw [e, rng_map, List.filter_eq_self.mpr fun _ _ => rfl, List.map_map, List.map_map]
  have : ∀ i : Nat, nameF a (0 + (i : Int)) = nameF a (i : Int) := fun i => by rw [Int.zero_add]
  simp only [Function.comp_def, this]
theorem names_nd (a : Int) (n : Nat) (hn : n ≤ 26) : ((List.range n).map fun (i : Nat) => nameF a (i : Int)).Nodup := by
  refine List.pairwise_map.mpr ?_
  refine List.Pairwise.imp_of_mem ?_ (List.nodup_range (n := n))
  intro i j hi hj hne e
  rw [List.mem_range] at hi hj
  exact hne (nameF_inj (by omega) (by omega) e)
/-- packages, one after the other -/
theorem add_package {g : G} {n : Nat} {fs : List (Str × D)} {l : List (Str × D)} {x : Str} {b : Bool} (ho : g[0]? = some (.ins "Library" fs)) (hf : fs.lookup ("_sealed" : Str) = some (.ref 1)) (h1 : g[1]? = some (.dct false (sd l))) (hx : x ∉ l.map (·.1)) (hl : l.length ≤ 1000) :
    f_Packages_add_package [.ref 0, .str x, .bl b] g = .ok .non (g.set 1 (.dct false (sd (l ++ [(x, .bl b)])))) := by
  have ff : fFld cs_Packages "_sealed" (.ref 0) g = .ok (.ref 1) g := fld_ok ho (by simp) hf
  have t1 := tst (ev2 (τ := [some (.ref 0), some (.str x), some (.bl b)]) (a := mV 1) (ev_v rfl) (un_ok (e := mV 0) (ev_v rfl) ff) (in_sd h1))
  rw [decide_eq_false hx] at t1
  unfold f_Packages_add_package
  exact run_nx (seq_go (if_n2 t1) (set_sd (ev_v rfl) (un_ok (ev_v rfl) ff) (ev_v rfl) h1 hx (by omega)))
end My
namespace My
open PySem L2 RL
abbrev capG (caps : List Int) : G := [libO A0, .dct false [], .dct false [], .dct false [], .dct false [], .dct false [], .dct false [], .dct false [], .dct false [], .dct false [], .lst (caps.map D.int)]
abbrev ctx0 (ns : List Int) (c0 c1 c2 c3 : Int) (ps : List Int) (st : List Int) (wd : Ob) (lv pk sl : Nat) (levels packs : List Str) : Ctx := ⟨.lst [.int c0, .int c1, .int c2, .int c3, .int 0], .lst [.int c0, .int c1, .int c2], .lst [.int (c3 + 1), .int (0 + 1), .int 26, .int 26, .int 26, .int 26], .lst [.int c0, .int c1, .int c2, .int (c3 + 1), .int (0 + 1), .int 26, .int 26, .int 26, .int 26], .lst [.int 0], .lst zer, .lst (ns.map D.int ++ zer), .lst (ps.map D.int), .lst [], .lst [], wd, st, lv, pk, sl, levels, packs⟩
abbrev w8 : List (Str × D) := [("order", .ref 18), ("outer", .ref 19), ("ups", .ref 20), ("pack", .ref 21), ("decl", .ref 22), ("kind", .ref 23), ("root", .ref 24), ("mark", .ref 25)]
abbrev w9 : List (Str × D) := [("order", .ref 18), ("outer", .ref 19), ("ups", .ref 20), ("pack", .ref 21), ("decl", .ref 22), ("kind", .ref 23), ("root", .ref 24), ("mark", .ref 25), ("uses", .ref 27)]
abbrev w10 : List (Str × D) := [("order", .ref 18), ("outer", .ref 19), ("ups", .ref 20), ("pack", .ref 21), ("decl", .ref 22), ("kind", .ref 23), ("root", .ref 24), ("mark", .ref 25), ("uses", .ref 27), ("later", .ref 28)]
abbrev w11 : List (Str × D) := [("order", .ref 18), ("outer", .ref 19), ("ups", .ref 20), ("pack", .ref 21), ("decl", .ref 22), ("kind", .ref 23), ("root", .ref 24), ("mark", .ref 25), ("uses", .ref 27), ("later", .ref 28), ("words", .ref 29)]
abbrev w12 : List (Str × D) := [("order", .ref 18), ("outer", .ref 19), ("ups", .ref 20), ("pack", .ref 21), ("decl", .ref 22), ("kind", .ref 23), ("root", .ref 24), ("mark", .ref 25), ("uses", .ref 27), ("later", .ref 28), ("words", .ref 29), ("starts", .ref 30)]
abbrev hP (ns : List Int) (c0 c1 c2 c3 : Int) (ps : List D) (w : List (Str × D)) (tl : G) : G := [libO A0, .dct false [], .dct false [], .dct false [], .dct false [], .dct false [], .dct false [], .dct false [], .dct false [], .dct false [], .lst [.int c0, .int c1, .int c2, .int c3, .int 0], .lst [.int c0, .int c1, .int c2], .lst [.int (c3 + 1), .int (0 + 1), .int 26, .int 26, .int 26, .int 26], .lst [.int c0, .int c1, .int c2, .int (c3 + 1), .int (0 + 1), .int 26, .int 26, .int 26, .int 26], .lst [.int 0], .lst zer, .lst (ns.map D.int ++ zer), .lst ps, .lst [], .dct false [], .dct false [], .dct false [], .lst [], .dct false [], .dct false [], .dct false [], .dct false (sd w)] ++ tl
/-- the ground, the world's own dict told by w -/
def preG (c : Ctx) (sl : List (Str × D)) (w : List (Str × D)) : G := (base c (s0 sl)).set 26 (.dct false (sd w))
section
variable {ns : List Int} {c0 c1 c2 c3 : Int}
theorem grd_a (hn : ns.length ≤ 63) (p0 : 0 < c0 ∧ c0 ≤ 4) (p1 : 0 < c1 ∧ c1 ≤ 12) (p2 : 0 < c2 ∧ c2 ≤ 20) (p3 : 0 ≤ c3 ∧ c3 ≤ 25) (b : MS) : ∃ d0 d1 d2 d3 d5 d6 d7 d8 : Int, (0 ≤ d0 ∧ d0 < c0) ∧ (0 ≤ d1 ∧ d1 < c1) ∧ (0 ≤ d2 ∧ d2 < c2) ∧ (0 ≤ d3 ∧ d3 < c3 + 1) ∧
    (mSeq (mAsg (mOp fPlus (mSl (mV 2) pNo (pInt (mC (.int 3)))) (mUnA fLst (mCons (mOp fPlus (mOp fSubs (mV 2) (mC (.int 3))) (mC (.int 1))) (mCons (mOp fPlus (mOp fSubs (mV 2) (mC (.int 4))) (mC (.int 1))) (mCons (mC (.int 26)) (mCons (mC (.int 26)) (mCons (mC (.int 26)) (mCons (mC (.int 26)) mNil)))))))) (gN 3))
  (mSeq (mAsg (mUnA (fCall 3 [] f_l_digits) (mCons (mV 0) (mCons (mC (.int 0)) (mCons (mV 3) mNil)))) (gN 4))
  (mSeq (mAsg (mDisp [((mC (.str "order")), (mUnA fLst mNil)), ((mC (.str "outer")), mDict0), ((mC (.str "ups")), mDict0), ((mC (.str "pack")), mDict0), ((mC (.str "decl")), (mUnA fLst mNil)), ((mC (.str "kind")), mDict0), ((mC (.str "root")), mDict0), ((mC (.str "mark")), mDict0)]) (gN 5))
  (mSeq (mAsg (mUnA fLst mNil) (gSubM (mV 5) (mC (.str "uses"))))
  (mSeq (mAsg (mUnA fLst mNil) (gSubM (mV 5) (mC (.str "later"))))
  (mSeq (mAsg mDict0 (gSubM (mV 5) (mC (.str "words"))))
  (mSeq (mAsg (mSl (mV 4) (pInt (mC (.int 5))) pNo) (gSubM (mV 5) (mC (.str "starts")))) b))))))) (slG ns none none none none none none) (capG [c0, c1, c2, c3, 0]) =
    b (slG ns (some (.ref 13)) (some (.ref 17)) (some (.ref 26)) none none none) (preG (ctx0 ns c0 c1 c2 c3 [d0, d1, d2, d3, 0, d5, d6, d7, d8] [d5, d6, d7, d8] (.dct false []) 0 0 0 [] []) [] w12) := by
  obtain ⟨d0, d1, d2, d3, d4, d5, d6, d7, d8, dd, b0, b1, b2, b3, b4, b5, b6, b7, b8⟩ := dig9 ns 0 c0 c1 c2 (c3 + 1) (0 + 1) 26 26 26 26 (by simp; omega)
  have e4 : d4 = 0 := by omega
  subst e4
  refine ⟨d0, d1, d2, d3, d5, d6, d7, d8, b0, b1, b2, b3, ?_⟩
  have s1 : mAsg (mOp fPlus (mSl (mV 2) pNo (pInt (mC (.int 3)))) (mUnA fLst (mCons (mOp fPlus (mOp fSubs (mV 2) (mC (.int 3))) (mC (.int 1))) (mCons (mOp fPlus (mOp fSubs (mV 2) (mC (.int 4))) (mC (.int 1))) (mCons (mC (.int 26)) (mCons (mC (.int 26)) (mCons (mC (.int 26)) (mCons (mC (.int 26)) mNil)))))))) (gN 3) (slG ns none none none none none none) (capG [c0, c1, c2, c3, 0]) = .nx (slG ns (some (.ref 13)) none none none none none) (capG [c0, c1, c2, c3, 0] ++ [.lst [.int c0, .int c1, .int c2], .lst [.int (c3 + 1), .int (0 + 1), .int 26, .int 26, .int 26, .int 26], .lst [.int c0, .int c1, .int c2, .int (c3 + 1), .int (0 + 1), .int 26, .int 26, .int 26, .int 26]]) := rfl
  refine seq_go s1 ?_
  have dg := dig_eq (ns := ns) (j := 0) (z := 13) (szs := [c0, c1, c2, c3 + 1, 0 + 1, 26, 26, 26, 26]) (g := capG [c0, c1, c2, c3, 0] ++ [.lst [.int c0, .int c1, .int c2], .lst [.int (c3 + 1), .int (0 + 1), .int 26, .int 26, .int 26, .int 26], .lst [.int c0, .int c1, .int c2, .int (c3 + 1), .int (0 + 1), .int 26, .int 26, .int 26, .int 26]]) rfl (by simp) (by simp; omega) (by omega) hn
  rw [dd] at dg
  have s2 := asg_ok (i := 4) (una_ok (τ := slG ns (some (.ref 13)) none none none none none) (a := mCons (mV 0) (mCons (mC (.int 0)) (mCons (mV 3) mNil))) (cons_ok (ev_v rfl) (cons_ok ev_c (cons_ok (ev_v rfl) nil_ok))) (call_ok (n := 3) (es := []) rfl dg))
  refine seq_go s2 ?_
  have s3 : mAsg (mDisp [((mC (.str "order")), (mUnA fLst mNil)), ((mC (.str "outer")), mDict0), ((mC (.str "ups")), mDict0), ((mC (.str "pack")), mDict0), ((mC (.str "decl")), (mUnA fLst mNil)), ((mC (.str "kind")), mDict0), ((mC (.str "root")), mDict0), ((mC (.str "mark")), mDict0)]) (gN 5) (slG ns (some (.ref 13)) (some (.ref 17)) none none none none) (capG [c0, c1, c2, c3, 0] ++ [.lst [.int c0, .int c1, .int c2], .lst [.int (c3 + 1), .int (0 + 1), .int 26, .int 26, .int 26, .int 26], .lst [.int c0, .int c1, .int c2, .int (c3 + 1), .int (0 + 1), .int 26, .int 26, .int 26, .int 26]] ++ digT ns ++ [.lst ([d0, d1, d2, d3, 0, d5, d6, d7, d8].map D.int)]) = .nx (slG ns (some (.ref 13)) (some (.ref 17)) (some (.ref 26)) none none none) (hP ns c0 c1 c2 c3 [.int d0, .int d1, .int d2, .int d3, .int 0, .int d5, .int d6, .int d7, .int d8] w8 []) := rfl
  refine seq_go s3 ?_
  have s4 : mAsg (mUnA fLst mNil) (gSubM (mV 5) (mC (.str "uses"))) (slG ns (some (.ref 13)) (some (.ref 17)) (some (.ref 26)) none none none) (hP ns c0 c1 c2 c3 [.int d0, .int d1, .int d2, .int d3, .int 0, .int d5, .int d6, .int d7, .int d8] w8 []) = .nx (slG ns (some (.ref 13)) (some (.ref 17)) (some (.ref 26)) none none none) (hP ns c0 c1 c2 c3 [.int d0, .int d1, .int d2, .int d3, .int 0, .int d5, .int d6, .int d7, .int d8] w9 [.lst []]) := rfl
  refine seq_go s4 ?_
  have s5 : mAsg (mUnA fLst mNil) (gSubM (mV 5) (mC (.str "later"))) (slG ns (some (.ref 13)) (some (.ref 17)) (some (.ref 26)) none none none) (hP ns c0 c1 c2 c3 [.int d0, .int d1, .int d2, .int d3, .int 0, .int d5, .int d6, .int d7, .int d8] w9 [.lst []]) = .nx (slG ns (some (.ref 13)) (some (.ref 17)) (some (.ref 26)) none none none) (hP ns c0 c1 c2 c3 [.int d0, .int d1, .int d2, .int d3, .int 0, .int d5, .int d6, .int d7, .int d8] w10 [.lst [], .lst []]) := rfl
  refine seq_go s5 ?_
  have s6 : mAsg mDict0 (gSubM (mV 5) (mC (.str "words"))) (slG ns (some (.ref 13)) (some (.ref 17)) (some (.ref 26)) none none none) (hP ns c0 c1 c2 c3 [.int d0, .int d1, .int d2, .int d3, .int 0, .int d5, .int d6, .int d7, .int d8] w10 [.lst [], .lst []]) = .nx (slG ns (some (.ref 13)) (some (.ref 17)) (some (.ref 26)) none none none) (hP ns c0 c1 c2 c3 [.int d0, .int d1, .int d2, .int d3, .int 0, .int d5, .int d6, .int d7, .int d8] w11 [.lst [], .lst [], .dct false []]) := rfl
  refine seq_go s6 ?_
  have s7 : mAsg (mSl (mV 4) (pInt (mC (.int 5))) pNo) (gSubM (mV 5) (mC (.str "starts"))) (slG ns (some (.ref 13)) (some (.ref 17)) (some (.ref 26)) none none none) (hP ns c0 c1 c2 c3 [.int d0, .int d1, .int d2, .int d3, .int 0, .int d5, .int d6, .int d7, .int d8] w11 [.lst [], .lst [], .dct false []]) = .nx (slG ns (some (.ref 13)) (some (.ref 17)) (some (.ref 26)) none none none) (hP ns c0 c1 c2 c3 [.int d0, .int d1, .int d2, .int d3, .int 0, .int d5, .int d6, .int d7, .int d8] w12 [.lst [], .lst [], .dct false [], .lst [.int d5, .int d6, .int d7, .int d8]]) := rfl
  exact seq_go s7 rfl
end
end My
namespace My
open PySem L2 RL
section
variable {ns : List Int} {c : Ctx} {sl w : List (Str × D)} {R R' : G} {τ : RL.T}
theorem wset {e : ME} {key : Str} {d : D} (h5 : τ[5]? = some (some (.ref 26))) (he : e τ (preG c sl w ++ R) = .ok d (preG c sl w ++ R')) (hk : key ∉ w.map (·.1)) (hl : w.length ≤ 1000) : mAsg e (gSubM (mV 5) (mC (.str key))) τ (preG c sl w ++ R) = .nx τ (preG c sl (w ++ [(key, d)]) ++ R') :=
  set_sd (l := w) (n := 26) he (ev_v h5) ev_c rfl hk (by omega)
theorem wget {a : ME} {k : Str} {d : D} (ha : a τ (preG c sl w ++ R) = .ok (.ref 26) (preG c sl w ++ R)) (hk : w.lookup k = some d) : mOp fSubs a (mC (.str k)) τ (preG c sl w ++ R) = .ok d (preG c sl w ++ R) := ev2 ha ev_c (subs_sd (l := w) rfl hk)
theorem pre_len : (preG c sl w).length = 31 := rfl
theorem at_P {n : Nat} {o : Ob} (h : 31 ≤ n) (e : R[n - 31]? = some o) : (preG c sl w ++ R)[n]? = some o := by
  rw [get_R (by rw [pre_len]; exact h)]
  exact e
/-- what is told of the words -/
def Wd (R : G) (ns : List Int) (wl : List (Str × D)) : Prop := ∀ i x d, wl[i]? = some (x, d) → ∃ r rs, d = .ref r ∧ 31 ≤ r ∧ R[r - 31]? = some (.lst rs) ∧ lsts (List.replicate 31 (Ob.lst []) ++ R) 31 rs (prodF ns (1 + i))
theorem Wd.app {X : G} {wl : List (Str × D)} (h : Wd R ns wl) : Wd (R ++ X) ns wl := fun i x d e => by
  obtain ⟨r, rs, h1, h2, h3, h4⟩ := h i x d e
  refine ⟨r, rs, h1, h2, app_get h3, lsts_mono h4 fun n o hn ho => ?_⟩
  rw [← List.append_assoc]
  exact app_get ho
abbrev wordB : MS := mAsg (mUnA (fCall 2 [] f_l_products) (mCons (mV 0) (mCons (mOp fPlus (mC (.int 1)) (mV 6)) mNil))) (gSubM (mOp fSubs (mV 5) (mC (.str "words"))) (mOp fSubs (mOp fSubs (mV 5) (mC (.str "levels"))) (mV 6)))
def wdC (c : Ctx) (wl : List (Str × D)) : Ctx := { c with o29 := .dct false (sd wl) }
theorem wlook {x k : Str} {d : D} {w : List (Str × D)} (h : w.lookup k = some d) (y : Str × D) : (w ++ [y]).lookup k = some d := lk_app h
theorem words_ok {lv n : Nat} {L : List Str} {x3 x4 x7 x8 : Option D} {mi : MI} (hn : ns.length ≤ 63) (hL : L.length = n) (hz : n ≤ 30) (nd : L.Nodup) (h1 : w.lookup ("words" : Str) = some (.ref 29)) (h2 : w.lookup ("levels" : Str) = some (.ref lv)) (h3 : 31 ≤ lv) (h4 : R[lv - 31]? = some (.lst (L.map D.str)))
    (hm : mi (slG ns x3 x4 (some (.ref 26)) none x7 x8) (preG (wdC c []) sl w ++ R) = .ok (rng 0 n, none) (preG (wdC c []) sl w ++ R)) :
    ∃ wl x6 X, mFor mi (gN 6) wordB (slG ns x3 x4 (some (.ref 26)) none x7 x8) (preG (wdC c []) sl w ++ R) = .nx (slG ns x3 x4 (some (.ref 26)) x6 x7 x8) (preG (wdC c wl) sl w ++ (R ++ X)) ∧ wl.map (·.1) = L ∧ Wd (R ++ X) ns wl := by
  obtain ⟨τ', g', lp, wl, x6, X, rfl, rfl, k1, k2, k3⟩ := loop_all (c := none) (mi := mi) (mg := gN 6) (mb := wordB) (τ := slG ns x3 x4 (some (.ref 26)) none x7 x8) (g := preG (wdC c []) sl w ++ R)
    (rng 0 n) (fun i τ G => ∃ wl x6 X, τ = slG ns x3 x4 (some (.ref 26)) x6 x7 x8 ∧ G = preG (wdC c wl) sl w ++ (R ++ X) ∧ wl.map (·.1) = L.take i ∧ Wd (R ++ X) ns wl ∧ i ≤ n) hm (fun _ _ _ _ => trivial) ⟨[], none, [], rfl, by simp, by simp, fun i x d e => by simp at e, by omega⟩ (fun i d τ G hd ⟨wl, x6, X, e1, e2, k1, k2, k3⟩ => by
      subst e1 e2
      obtain ⟨hi, hd2⟩ := rng_get hd
      subst hd2
      refine ⟨_, _, rfl, ?_⟩
      have hiL : i < L.length := by omega
      have wlen : wl.length = i := by
        rw [← List.length_map (f := (·.1)), k1, List.length_take]
        omega
      obtain ⟨Y, r, rs, p1, p2, p3, p4⟩ := prod_eq (g := preG (wdC c wl) sl w ++ (R ++ X)) (ns := ns) (j := 1 + i) (by omega) hn
      have e0 : (1 : Int) + (0 + (i : Int)) = ((1 + i : Nat) : Int) := by omega
      have e : wordB (slG ns x3 x4 (some (.ref 26)) (some (.int (0 + (i : Int)))) x7 x8) (preG (wdC c wl) sl w ++ (R ++ X)) = .nx (slG ns x3 x4 (some (.ref 26)) (some (.int (0 + (i : Int)))) x7 x8) ((preG (wdC c wl) sl w ++ (R ++ X) ++ Y).set 29 (.dct false (sd (wl ++ [(L[i], .ref r)])))) := by
        refine set_sd (l := wl) (n := 29) (una_ok (cons_ok (ev_v rfl) (cons_ok (ev2 ev_c (ev_v rfl) (plusI _ _)) nil_ok)) (call_ok rfl (by rw [← e0] at p1; exact p1))) (ev2 (ev_v rfl) ev_c (subs_sd (l := w) rfl h1)) (ev2 (ev2 (ev_v rfl) ev_c (subs_sd (l := w) rfl h2)) (ev_v rfl) (subs_at (l := L.map D.str) (app_get (at_P h3 (app_get h4))) ?_)) rfl ?_ (by omega)
        · rw [Int.zero_add]
          exact atI_n (by rw [List.getElem?_map, List.getElem?_eq_getElem hiL]; rfl)
        · rw [k1]
          intro hm
          obtain ⟨j, hj, e⟩ := List.mem_iff_getElem.mp hm
          rw [List.getElem_take] at e
          rw [List.length_take] at hj
          have := (List.getElem_inj nd).mp e
          omega
      refine body_nx e ⟨wl ++ [(L[i], .ref r)], _, X ++ Y, rfl, ?_, ?_, fun j x d hj => ?_, by omega⟩
      · rw [← List.append_assoc R X Y]
        rfl
      · rw [List.map_append, k1]
        exact List.take_append_getElem hiL
      · rw [← List.append_assoc]
        by_cases hjl : j < wl.length
        · rw [List.getElem?_append_left hjl] at hj
          exact k2.app j x d hj
        · rw [List.getElem?_append_right (by omega)] at hj
          have j0 : j - wl.length = 0 := by
            have := (List.getElem?_eq_some_iff.mp hj).1
            simp at this
            omega
          rw [j0] at hj
          cases hj
          have ji : j = i := by omega
          subst ji
          have pl : (preG (wdC c wl) sl w ++ (R ++ X)).length = 31 + (R ++ X).length := by rw [List.length_append, pre_len]
          refine ⟨r, rs, rfl, by omega, ?_, ?_⟩
          · rw [List.append_assoc, get_R (by rw [pre_len]; omega), pre_len] at p3
            exact p3
          · have low := lsts_mono (g' := List.replicate 31 (Ob.lst []) ++ (R ++ X ++ Y)) p4 fun n o hn ho => by
              rw [List.append_assoc, get_R (by rw [pre_len]; omega), pre_len] at ho
              rw [get_R (by simp; omega)]
              simpa using ho
            exact lsts_low (by omega) low)
  refine ⟨wl, x6, X, lp, ?_, k2⟩
  rw [k1, show (rng 0 n).length = n from by simp [rng], ← hL, List.take_length]
end
end My
namespace My
open PySem L2 RL
section
variable {ns : List Int} {c : Ctx} {sl w : List (Str × D)} {R R' : G} {τ : RL.T}
theorem rg_ok {ps : List Int} {j : Nat} {n : Nat} {g : G} (h4 : τ[4]? = some (some (.ref 17))) (hq : g[17]? = some (.lst (ps.map D.int))) (hj : ps[j]? = some (n : Int)) (hn : n ≤ 1000) : mRange1 (mOp fPlus (mC (.int 1)) (mOp fSubs (mV 4) (mC (.int (j : Int))))) τ g = .ok (rng 0 (1 + n), none) g :=
  range1_ok (by
    have : (((1 + n : Nat)) : Int) = 1 + (n : Int) := by omega
    rw [this]
    exact ev2 ev_c (ev2 (ev_v h4) ev_c (subs_at hq (atI_n (by rw [List.getElem?_map, hj]; rfl)))) (plusI _ _)) (by omega)
theorem rg1_ok {ps : List Int} {j : Nat} {n : Nat} {g : G} (h4 : τ[4]? = some (some (.ref 17))) (hq : g[17]? = some (.lst (ps.map D.int))) (hj : ps[j]? = some (n : Int)) (hn : n ≤ 1000) : mRange1 (mOp fSubs (mV 4) (mC (.int (j : Int)))) τ g = .ok (rng 0 n, none) g :=
  range1_ok (ev2 (ev_v h4) ev_c (subs_at hq (atI_n (by rw [List.getElem?_map, hj]; rfl)))) (by omega)
abbrev packB : MS := mDrop (mMethK cs_Packages 2 ["sealed"] gd_Packages_add_package_2_sealed f_Packages_add_package (mV 1) (mCons (mV 8) mNil) (mCons (mOp fIn (mV 8) (mOp fSubs (mV 5) (mC (.str "sealed")))) mNil))
theorem packs_ok {pk sd' : Nat} {L M : List Str} {x3 x4 x6 x7 : Option D} (nd : L.Nodup) (hz : L.length ≤ 100) (h1 : w.lookup ("packs" : Str) = some (.ref pk)) (h2 : w.lookup ("sealed" : Str) = some (.ref sd')) (h3 : 31 ≤ pk) (h4 : R[pk - 31]? = some (.lst (L.map D.str))) (h5 : 31 ≤ sd') (h6 : R[sd' - 31]? = some (.lst (M.map D.str))) :
    ∃ sl x8, mFor (mSeqI (mOp fSubs (mV 5) (mC (.str "packs")))) (gN 8) packB (slG ns x3 x4 (some (.ref 26)) x6 x7 none) (preG c [] w ++ R) = .nx (slG ns x3 x4 (some (.ref 26)) x6 x7 x8) (preG c sl w ++ R) ∧ sl.map (·.1) = L := by
  obtain ⟨τ', g', lp, sl, x8, rfl, rfl, k1⟩ := loop_all (mi := mSeqI (mOp fSubs (mV 5) (mC (.str "packs")))) (mg := gN 8) (mb := packB) (τ := slG ns x3 x4 (some (.ref 26)) x6 x7 none) (g := preG c [] w ++ R)
    (L.map D.str) (fun i τ G => ∃ sl x8, τ = slG ns x3 x4 (some (.ref 26)) x6 x7 x8 ∧ G = preG c sl w ++ R ∧ sl.map (·.1) = L.take i) (seqL_ok (wget (ev_v rfl) h1) (at_P h3 h4)) (fun i τ G ⟨sl, x8, _, e, _⟩ => by rw [e]; exact at_P h3 h4) ⟨[], none, rfl, rfl, by simp⟩ (fun i d τ G hd ⟨sl, x8, e1, e2, k1⟩ => by
      subst e1 e2
      rw [List.getElem?_map] at hd
      obtain ⟨x, hx, rfl⟩ := Option.map_eq_some_iff.mp hd
      have hi := (List.getElem?_eq_some_iff.mp hx).1
      have len : sl.length = i := by
        rw [← List.length_map (f := (·.1)), k1, List.length_take]
        omega
      have e := add_package (g := preG c sl w ++ R) (n := 0) (fs := [("_sealed", .ref 1), ("_outer", .ref 2), ("_bases", .ref 3), ("_lines", .ref 4), ("_packages", .ref 5), ("_roots", .ref 6), ("_kinds", .ref 7), ("_levels", .ref 8), ("_uses", .ref 9)]) (l := sl) (x := x) (b := decide (x ∈ M)) rfl rfl rfl (by
        rw [k1]
        intro hm
        obtain ⟨j, hj, e⟩ := List.mem_iff_getElem.mp hm
        rw [List.getElem_take] at e
        rw [List.length_take] at hj
        have hx2 := (List.getElem?_eq_some_iff.mp hx).2
        rw [← hx2] at e
        have := (List.getElem_inj nd).mp e
        omega) (by omega)
      refine ⟨_, _, rfl, body_nx (drop_ok (methK_ok (ev_v rfl) (m := 0) (c := "Library") rfl (by simp) (cons_ok (ev_v rfl) nil_ok) (cons_ok (ev2 (ev_v rfl) (wget (ev_v rfl) h2) (in_strs x (items_at (at_P h5 h6)))) nil_ok) rfl rfl e)) ⟨sl ++ [(x, .bl (decide (x ∈ M)))], _, rfl, rfl, ?_⟩⟩
      rw [List.map_append, k1, List.take_add_one, hx]
      rfl)
  rw [List.length_map, List.take_length] at k1
  exact ⟨sl, x8, lp, k1⟩
/-- what is chosen of the packages -/
theorem sealed_ok {q7 pk n : Nat} {L : List Str} {es : List Int} {x3 x8 : Option D} {mi : MI} {G : RL.G} (h26 : G[26]? = some (.dct false (sd w))) (hw : w.lookup ("packs" : Str) = some (.ref pk)) (hp : G[pk]? = some (.lst (L.map D.str))) (h7 : G[q7]? = some (.lst (es.map D.int))) (hL : L.length = n) (hE : n ≤ es.length) (hn : n ≤ 1000)
    (hm : mi (slG ns x3 (some (.ref 17)) (some (.ref 26)) none (some (.ref q7)) x8) G = .ok (rng 0 n, none) G) {x6 : Option D} (hm : mi (slG ns x3 (some (.ref 17)) (some (.ref 26)) x6 (some (.ref q7)) x8) G = .ok (rng 0 n, none) G) :
    ∃ M : List Str, mLc ([("_law_k", 6)].map (·.2)) mi (.one 6) (mTest (mOp fEq (mOp fSubs (mV 7) (mV 6)) (mC (.int 0)))) (mOp fSubs (mOp fSubs (mV 5) (mC (.str "packs"))) (mV 6)) (slG ns x3 (some (.ref 17)) (some (.ref 26)) x6 (some (.ref q7)) x8) G = .ok (.ref G.length) (G ++ [.lst (M.map D.str)]) := by
  have e := lc_ok (own := [("_law_k", 6)].map (·.2)) (mi := mi) (t := .one 6) (mt := mTest (mOp fEq (mOp fSubs (mV 7) (mV 6)) (mC (.int 0)))) (me := mOp fSubs (mOp fSubs (mV 5) (mC (.str "packs"))) (mV 6)) (τ := slG ns x3 (some (.ref 17)) (some (.ref 26)) x6 (some (.ref q7)) x8) (g := G) (g1 := G) (l := rng 0 n) (c := none) (fun d => match d with | .int i => decide (es.getD i.toNat 0 = 0) | _ => false) (fun d => .str (match d with | .int i => L.getD i.toNat "" | _ => "")) hm trivial (fun d hd => by
    rw [rng_map] at hd
    obtain ⟨i, hi, rfl⟩ := List.mem_map.mp hd
    rw [List.mem_range] at hi
    have z : (0 : Int) + (i : Int) = (i : Int) := by omega
    rw [z]
    refine ⟨_, rfl, ?_, fun _ => ?_⟩
    · have at7 : L2.atI (es.map D.int) (i : Int) = some (.int (es.getD i 0)) := atI_n (by rw [List.getElem?_map, List.getElem?_eq_getElem (by omega), List.getD_eq_getElem?_getD, List.getElem?_eq_getElem (by omega)]; rfl)
      exact tst (ev2 (ev2 (ev_v rfl) (ev_v rfl) (subs_at h7 at7)) ev_c (eqI _ _))
    · have at5 : L2.atI (L.map D.str) (i : Int) = some (.str (L.getD i "")) := atI_n (by rw [List.getElem?_map, List.getElem?_eq_getElem (by omega), List.getD_eq_getElem?_getD, List.getElem?_eq_getElem (by omega)]; rfl)
      exact ev2 (ev2 (ev_v rfl) ev_c (subs_sd h26 hw)) (ev_v rfl) (subs_at hp at5)) (by simp [rng]; omega)
  refine ⟨((rng 0 n).filter fun d => match d with | .int i => decide (es.getD i.toNat 0 = 0) | _ => false).map fun d => (match d with | .int i => L.getD i.toNat "" | _ => ""), ?_⟩
  rw [e, List.map_map]
  rfl
end
end My
namespace My
open PySem L2 RL
section
variable {ns : List Int} {c0 c1 c2 c3 : Int}
abbrev ctxE (ns : List Int) (c0 c1 c2 c3 : Int) (ps st : List Int) (wl : List (Str × D)) (lv pk sl : Nat) (levels packs : List Str) : Ctx := ctx0 ns c0 c1 c2 c3 ps st (.dct false (sd wl)) lv pk sl levels packs
theorem ground_law (hn : ns.length ≤ 63) (p0 : 0 < c0 ∧ c0 ≤ 4) (p1 : 0 < c1 ∧ c1 ≤ 12) (p2 : 0 < c2 ∧ c2 ≤ 20) (p3 : 0 ≤ c3 ∧ c3 ≤ 25) :
    ∃ (c : Ctx) (s : LibSt) (R : G) (k m : Nat) (wl : List (Str × D)), f_l_ground [.kl (ns.map D.int), .ref 0, .ref 10] (capG [c0, c1, c2, c3, 0]) = .ok (.ref 26) (base c s ++ R) ∧ Inv c s k m ∧ Fz R c s.ls ∧ 0 < k ∧ (k : Int) ≤ c1 ∧ (m : Int) ≤ c3 ∧ c.o27 = .lst [] ∧ c.o29 = .dct false (sd wl) ∧ wl.map (·.1) = c.levels ∧ Wd R ns wl := by
  obtain ⟨d0, d1, d2, d3, d5, d6, d7, d8, b0, b1, b2, b3, ga⟩ := grd_a hn p0 p1 p2 p3 (mSeq (mAsg (mLc ([("_law_k", 6)].map (·.2)) (mRange1 (mOp fPlus (mC (.int 1)) (mOp fSubs (mV 4) (mC (.int 2))))) (.one 6) mYes (mUnA (fCall 2 [] f_l_name) (mCons (mOp fSubs (mV 4) (mC (.int 5))) (mCons (mV 6) mNil)))) (gSubM (mV 5) (mC (.str "levels"))))
  (mSeq (mFor (mRange1 (mOp fPlus (mC (.int 1)) (mOp fSubs (mV 4) (mC (.int 2))))) (gN 6) wordB)
  (mSeq (mAsg (mLc ([("_law_k", 6)].map (·.2)) (mRange1 (mOp fPlus (mC (.int 1)) (mOp fSubs (mV 4) (mC (.int 0))))) (.one 6) mYes (mUnA (fCall 2 [] f_l_name) (mCons (mOp fSubs (mV 4) (mC (.int 6))) (mCons (mV 6) mNil)))) (gSubM (mV 5) (mC (.str "packs"))))
  (mSeq (mAsg (mUnA (fCall 3 [] f_l_digits) (mCons (mV 0) (mCons (mC (.int 7)) (mCons (mUnA fLst (mCons (mC (.int 3)) (mCons (mC (.int 3)) (mCons (mC (.int 3)) (mCons (mC (.int 3)) mNil))))) mNil)))) (gN 7))
  (mSeq (mAsg (mLc ([("_law_k", 6)].map (·.2)) (mRange1 (mOp fPlus (mC (.int 1)) (mOp fSubs (mV 4) (mC (.int 0))))) (.one 6) (mTest (mOp fEq (mOp fSubs (mV 7) (mV 6)) (mC (.int 0)))) (mOp fSubs (mOp fSubs (mV 5) (mC (.str "packs"))) (mV 6))) (gSubM (mV 5) (mC (.str "sealed"))))
  (mSeq (mFor (mSeqI (mOp fSubs (mV 5) (mC (.str "packs")))) (gN 8) packB)
  (mSeq (mFor (mRange1 (mOp fPlus (mC (.int 1)) (mOp fSubs (mV 4) (mC (.int 1))))) (gN 6) (mDrop (mUnA (fCall 4 [] f_l_add_class) (mCons (mV 0) (mCons (mV 5) (mCons (mV 1) (mCons (mV 6) mNil)))))))
  (mSeq (mFor (mRange1 (mOp fSubs (mV 4) (mC (.int 3)))) (gN 6) (mDrop (mUnA (fCall 4 [] f_l_add_member) (mCons (mV 0) (mCons (mV 5) (mCons (mV 1) (mCons (mV 6) mNil)))))))
  (mSeq (mFor (mRange1 (mOp fSubs (mV 4) (mC (.int 4)))) (gN 6) (mDrop (mUnA (fCall 4 [] f_l_add_use) (mCons (mV 0) (mCons (mV 5) (mCons (mV 1) (mCons (mV 6) mNil)))))))
  (mRet (mV 5)))))))))))
  obtain ⟨n0, rfl⟩ := Int.eq_ofNat_of_zero_le b0.1
  obtain ⟨n1, rfl⟩ := Int.eq_ofNat_of_zero_le b1.1
  obtain ⟨n2, rfl⟩ := Int.eq_ofNat_of_zero_le b2.1
  obtain ⟨n3, rfl⟩ := Int.eq_ofNat_of_zero_le b3.1
  generalize hps : [(n0 : Int), (n1 : Int), (n2 : Int), (n3 : Int), 0, d5, d6, d7, d8] = ps at ga
  have q0 : ps[0]? = some (n0 : Int) := by rw [← hps]; rfl
  have q1 : ps[1]? = some (n1 : Int) := by rw [← hps]; rfl
  have q2 : ps[2]? = some (n2 : Int) := by rw [← hps]; rfl
  have q3 : ps[3]? = some (n3 : Int) := by rw [← hps]; rfl
  have q4 : ps[4]? = some ((0 : Nat) : Int) := by rw [← hps]; rfl
  have q5 : ps[5]? = some d5 := by rw [← hps]; rfl
  have q6 : ps[6]? = some d6 := by rw [← hps]; rfl
  generalize hst : [d5, d6, d7, d8] = st at ga
  have pn : preG (ctx0 ns c0 c1 c2 c3 ps st (.dct false []) 0 0 0 [] []) [] w12 = preG (ctxE ns c0 c1 c2 c3 ps st [] 0 0 0 [] []) [] w12 ++ [] := rfl
  rw [pn] at ga
  -- levels
  obtain ⟨X1, e1⟩ := names_ok (g := preG (ctxE ns c0 c1 c2 c3 ps st [] 0 0 0 [] []) [] w12 ++ []) (τ := slG ns (some (.ref 13)) (some (.ref 17)) (some (.ref 26)) none none none) (mi := mRange1 (mOp fPlus (mC (.int 1)) (mOp fSubs (mV 4) (mC (.int 2))))) (own := [("_law_k", 6)].map (·.2)) (q := 17) (n := 1 + n2) (j := 5) (a := d5) (ps := ps) (rg_ok (j := 2) rfl rfl q2 (by omega)) (by omega) rfl q5 (fun d => ⟨_, rfl, rfl, rfl⟩)
  generalize hLV : (List.range (1 + n2)).map (fun (i : Nat) => nameF d5 (i : Int)) = LV at e1
  have lvL : LV.length = 1 + n2 := by rw [← hLV]; simp
  have lvN : LV.Nodup := by rw [← hLV]; exact names_nd _ _ (by omega)
  rw [List.append_assoc] at e1
  have s8 := wset (key := "levels") (R' := ([] : G) ++ X1 ++ [.lst (LV.map D.str)]) rfl (by rw [List.append_assoc ([] : G)]; rw [List.append_assoc] at e1; exact e1) (by decide) (by decide)
  generalize hlv : (preG (ctxE ns c0 c1 c2 c3 ps st [] 0 0 0 [] []) [] w12 ++ ([] ++ X1)).length = lv at s8
  have lv31 : lv = 31 + X1.length := by rw [← hlv, List.length_append, pre_len]; simp
  have hR1 : (([] : G) ++ X1 ++ [Ob.lst (LV.map D.str)])[lv - 31]? = some (.lst (LV.map D.str)) := by
    rw [lv31, show 31 + X1.length - 31 = ([] ++ X1 : G).length by simp]
    exact end_get
  generalize ([] : G) ++ X1 ++ [Ob.lst (LV.map D.str)] = R1 at *
  generalize hw13 : w12 ++ [(("levels" : Str), D.ref lv)] = w13 at s8
  have k13 : w13.map (·.1) = w12.map (·.1) ++ [("levels" : Str)] := by rw [← hw13]; rfl
  have w13a : w13.lookup ("words" : Str) = some (.ref 29) := by rw [← hw13]; rfl
  have w13b : w13.lookup ("levels" : Str) = some (.ref lv) := by rw [← hw13]; rfl
  -- words
  obtain ⟨wl, x6, X2, s9, wk, wd⟩ := words_ok (ns := ns) (c := ctxE ns c0 c1 c2 c3 ps st [] 0 0 0 [] []) (sl := []) (w := w13) (R := R1) (lv := lv) (n := 1 + n2) (L := LV) (x3 := some (.ref 13)) (x4 := some (.ref 17)) (x7 := none) (x8 := none) (mi := mRange1 (mOp fPlus (mC (.int 1)) (mOp fSubs (mV 4) (mC (.int 2))))) hn lvL (by omega) lvN w13a w13b (by omega) hR1 (rg_ok (j := 2) rfl rfl q2 (by omega))
  have s9' : mFor (mRange1 (mOp fPlus (mC (.int 1)) (mOp fSubs (mV 4) (mC (.int 2))))) (gN 6) wordB (slG ns (some (.ref 13)) (some (.ref 17)) (some (.ref 26)) none none none) (preG (ctxE ns c0 c1 c2 c3 ps st [] 0 0 0 [] []) [] w13 ++ R1) = .nx (slG ns (some (.ref 13)) (some (.ref 17)) (some (.ref 26)) x6 none none) (preG (ctxE ns c0 c1 c2 c3 ps st wl 0 0 0 [] []) [] w13 ++ (R1 ++ X2)) := s9
  clear s9
  have hR2 := app_get (l := X2) hR1
  generalize R1 ++ X2 = R2 at *
  -- packages
  obtain ⟨X3, e3⟩ := names_ok (g := preG (ctxE ns c0 c1 c2 c3 ps st wl 0 0 0 [] []) [] w13 ++ R2) (τ := slG ns (some (.ref 13)) (some (.ref 17)) (some (.ref 26)) x6 none none) (mi := mRange1 (mOp fPlus (mC (.int 1)) (mOp fSubs (mV 4) (mC (.int 0))))) (own := [("_law_k", 6)].map (·.2)) (q := 17) (n := 1 + n0) (j := 6) (a := d6) (ps := ps) (rg_ok (j := 0) rfl rfl q0 (by omega)) (by omega) rfl q6 (fun d => ⟨_, rfl, rfl, rfl⟩)
  generalize hPK : (List.range (1 + n0)).map (fun (i : Nat) => nameF d6 (i : Int)) = PK at e3
  have pkL : PK.length = 1 + n0 := by rw [← hPK]; simp
  have pkN : PK.Nodup := by rw [← hPK]; exact names_nd _ _ (by omega)
  rw [List.append_assoc, List.append_assoc] at e3
  have s10 := wset (key := "packs") (R' := R2 ++ X3 ++ [.lst (PK.map D.str)]) (τ := slG ns (some (.ref 13)) (some (.ref 17)) (some (.ref 26)) x6 none none) rfl e3 (by rw [k13]; decide) (by rw [← hw13]; simp)
  generalize hpk : (preG (ctxE ns c0 c1 c2 c3 ps st wl 0 0 0 [] []) [] w13 ++ (R2 ++ X3)).length = pk at s10
  have pk31 : pk = 31 + (R2 ++ X3).length := by rw [← hpk, List.length_append, pre_len]
  have hP3 : (R2 ++ X3 ++ [Ob.lst (PK.map D.str)])[pk - 31]? = some (.lst (PK.map D.str)) := by
    rw [pk31, show 31 + (R2 ++ X3).length - 31 = (R2 ++ X3 : G).length by omega]
    exact end_get
  have hR3 : (R2 ++ X3 ++ [Ob.lst (PK.map D.str)])[lv - 31]? = some (.lst (LV.map D.str)) := app_get (app_get hR2)
  have wd3 : Wd (R2 ++ X3 ++ [Ob.lst (PK.map D.str)]) ns wl := wd.app.app
  generalize R2 ++ X3 ++ [Ob.lst (PK.map D.str)] = R3 at *
  generalize hw14 : w13 ++ [(("packs" : Str), D.ref pk)] = w14 at s10
  have k14 : w14.map (·.1) = w12.map (·.1) ++ [("levels" : Str), ("packs" : Str)] := by rw [← hw14, ← hw13]; rfl
  have w14b : w14.lookup ("packs" : Str) = some (.ref pk) := by rw [← hw14, ← hw13]; rfl
  -- which are sealed
  have hz : (preG (ctxE ns c0 c1 c2 c3 ps st wl 0 0 0 [] []) [] w14 ++ R3 ++ [Ob.lst ([(3 : Int), 3, 3, 3].map D.int)])[(preG (ctxE ns c0 c1 c2 c3 ps st wl 0 0 0 [] []) [] w14 ++ R3).length]? = some (.lst ([(3 : Int), 3, 3, 3].map D.int)) := end_get
  have dg := dig_eq (ns := ns) (j := 7) hz (by simp) (by simp) (by omega) hn
  have esl := digF_len ns 7 [3, 3, 3, 3]
  generalize digF ns 7 [3, 3, 3, 3] = es at dg esl
  have s11 := asg_ok (i := 7) (una_ok (τ := slG ns (some (.ref 13)) (some (.ref 17)) (some (.ref 26)) x6 none none) (a := mCons (mV 0) (mCons (mC (.int 7)) (mCons (mUnA fLst (mCons (mC (.int 3)) (mCons (mC (.int 3)) (mCons (mC (.int 3)) (mCons (mC (.int 3)) mNil))))) mNil))) (g := preG (ctxE ns c0 c1 c2 c3 ps st wl 0 0 0 [] []) [] w14 ++ R3) (cons_ok (ev_v rfl) (cons_ok ev_c (cons_ok (una_ok (by repeat' first | assumption | with_reducible exact ev_c | with_reducible exact nil_ok | with_reducible exact plusI _ _ | with_reducible exact subI _ _ | with_reducible exact ltI _ _ | with_reducible exact leI _ _ | with_reducible exact gtI _ _ | with_reducible exact geI _ _ | with_reducible exact eqI _ _ | with_reducible exact eqS _ _ | with_reducible exact neI _ _ | with_reducible exact neS _ _ | with_reducible exact isN_ok _ _ | with_reducible exact len_t | with_reducible exact tuple_t | exact end_get | ((with_reducible apply ev_v); exact rfl) | (with_reducible apply cons_ok) | (with_reducible apply evInt) | (with_reducible apply una_ok) | (with_reducible apply ev2) | (with_reducible apply un_ok) | (with_reducible apply bm_ok) | (with_reducible apply meth_ok) | (with_reducible apply methK_ok) | (with_reducible apply prop_ok) | (with_reducible apply tst) | (with_reducible apply not_ok) | (with_reducible apply asg_ok) | (with_reducible apply drop_ok) | (with_reducible apply if_n2) | (with_reducible apply mulI) | (with_reducible apply modI) | (with_reducible apply divI) | (with_reducible apply subs_at) | (with_reducible apply subs_sd) | (with_reducible apply len_at) | (with_reducible apply tuple_at) | (with_reducible apply tup_ok) | (with_reducible apply lst_ok) | (with_reducible apply fld_ok) | (with_reducible apply app_at) | (with_reducible apply call_ok) | (with_reducible apply ty_lst) | (with_reducible apply ty_dct) | (with_reducible apply app_get) | exact rfl | decide | omega | (simp; done)) (lst_ok (by simp))) nil_ok))) (call_ok (n := 3) (es := []) rfl dg))
  have h7 : (preG (ctxE ns c0 c1 c2 c3 ps st wl 0 0 0 [] []) [] w14 ++ R3 ++ [Ob.lst ([(3 : Int), 3, 3, 3].map D.int)] ++ digT ns ++ [Ob.lst (es.map D.int)])[(preG (ctxE ns c0 c1 c2 c3 ps st wl 0 0 0 [] []) [] w14 ++ R3 ++ [Ob.lst ([(3 : Int), 3, 3, 3].map D.int)] ++ digT ns).length]? = some (.lst (es.map D.int)) := end_get
  have eR : preG (ctxE ns c0 c1 c2 c3 ps st wl 0 0 0 [] []) [] w14 ++ R3 ++ [Ob.lst ([(3 : Int), 3, 3, 3].map D.int)] ++ digT ns ++ [Ob.lst (es.map D.int)] = preG (ctxE ns c0 c1 c2 c3 ps st wl 0 0 0 [] []) [] w14 ++ (R3 ++ ([Ob.lst ([(3 : Int), 3, 3, 3].map D.int)] ++ digT ns ++ [Ob.lst (es.map D.int)])) := by simp only [List.append_assoc]
  rw [eR] at s11 h7
  generalize (preG (ctxE ns c0 c1 c2 c3 ps st wl 0 0 0 [] []) [] w14 ++ R3 ++ [Ob.lst ([(3 : Int), 3, 3, 3].map D.int)] ++ digT ns).length = q7 at *
  have hP4 := app_get (l := [Ob.lst ([(3 : Int), 3, 3, 3].map D.int)] ++ digT ns ++ [Ob.lst (es.map D.int)]) hP3
  have hR4 := app_get (l := [Ob.lst ([(3 : Int), 3, 3, 3].map D.int)] ++ digT ns ++ [Ob.lst (es.map D.int)]) hR3
  have wd4 : Wd (R3 ++ ([Ob.lst ([(3 : Int), 3, 3, 3].map D.int)] ++ digT ns ++ [Ob.lst (es.map D.int)])) ns wl := wd3.app
  generalize R3 ++ ([Ob.lst ([(3 : Int), 3, 3, 3].map D.int)] ++ digT ns ++ [Ob.lst (es.map D.int)]) = R4 at *
  clear hz dg eR
  obtain ⟨M, e12⟩ := sealed_ok (ns := ns) (w := w14) (q7 := q7) (pk := pk) (n := 1 + n0) (L := PK) (es := es) (x3 := some (.ref 13)) (x6 := x6) (x8 := none) (mi := mRange1 (mOp fPlus (mC (.int 1)) (mOp fSubs (mV 4) (mC (.int 0))))) (G := preG (ctxE ns c0 c1 c2 c3 ps st wl 0 0 0 [] []) [] w14 ++ R4) rfl w14b (at_P (by omega) hP4) h7 pkL (by rw [esl]; show _ ≤ 4; omega) (by omega) (rg_ok (j := 0) rfl rfl q0 (by omega)) (rg_ok (j := 0) rfl rfl q0 (by omega))
  rw [List.append_assoc] at e12
  have s12 := wset (key := "sealed") (τ := slG ns (some (.ref 13)) (some (.ref 17)) (some (.ref 26)) x6 (some (.ref q7)) none) rfl e12 (by rw [k14]; decide) (by rw [← hw14, ← hw13]; simp)
  generalize hsl : (preG (ctxE ns c0 c1 c2 c3 ps st wl 0 0 0 [] []) [] w14 ++ R4).length = sl at s12
  have sl31 : sl = 31 + R4.length := by rw [← hsl, List.length_append, pre_len]
  have hS5 : (R4 ++ [Ob.lst (M.map D.str)])[sl - 31]? = some (.lst (M.map D.str)) := by
    rw [sl31, show 31 + R4.length - 31 = R4.length by omega]
    exact end_get
  have hP5 : (R4 ++ [Ob.lst (M.map D.str)])[pk - 31]? = some (.lst (PK.map D.str)) := app_get hP4
  have hR5 : (R4 ++ [Ob.lst (M.map D.str)])[lv - 31]? = some (.lst (LV.map D.str)) := app_get hR4
  have wd5 : Wd (R4 ++ [Ob.lst (M.map D.str)]) ns wl := wd4.app
  generalize R4 ++ [Ob.lst (M.map D.str)] = R5 at *
  have hw15 : w14 ++ [(("sealed" : Str), D.ref sl)] = worldL (ctxE ns c0 c1 c2 c3 ps st wl lv pk sl LV PK) := by rw [← hw14, ← hw13]; rfl
  rw [hw15] at s12
  -- packages in the library
  obtain ⟨se, x8, s13, sek⟩ := packs_ok (ns := ns) (c := ctxE ns c0 c1 c2 c3 ps st wl 0 0 0 [] []) (w := worldL (ctxE ns c0 c1 c2 c3 ps st wl lv pk sl LV PK)) (R := R5) (pk := pk) (sd' := sl) (L := PK) (M := M) (x3 := some (.ref 13)) (x4 := some (.ref 17)) (x6 := x6) (x7 := some (.ref q7)) pkN (by omega) rfl rfl (by omega) hP5 (by omega) hS5
  have s13' : mFor (mSeqI (mOp fSubs (mV 5) (mC (.str "packs")))) (gN 8) packB (slG ns (some (.ref 13)) (some (.ref 17)) (some (.ref 26)) x6 (some (.ref q7)) none) (preG (ctxE ns c0 c1 c2 c3 ps st wl 0 0 0 [] []) [] (worldL (ctxE ns c0 c1 c2 c3 ps st wl lv pk sl LV PK)) ++ R5) = .nx (slG ns (some (.ref 13)) (some (.ref 17)) (some (.ref 26)) x6 (some (.ref q7)) x8) (base (ctxE ns c0 c1 c2 c3 ps st wl lv pk sl LV PK) (s0 se) ++ R5) := s13
  clear s13
  have cst : (ctxE ns c0 c1 c2 c3 ps st wl lv pk sl LV PK).st = st := rfl
  have clv : (ctxE ns c0 c1 c2 c3 ps st wl lv pk sl LV PK).levels = LV := rfl
  have o17 : (ctxE ns c0 c1 c2 c3 ps st wl lv pk sl LV PK).o17 = .lst (ps.map D.int) := rfl
  have o27 : (ctxE ns c0 c1 c2 c3 ps st wl lv pk sl LV PK).o27 = .lst [] := rfl
  have o29 : (ctxE ns c0 c1 c2 c3 ps st wl lv pk sl LV PK).o29 = .dct false (sd wl) := rfl
  have fz0 : Fz R5 (ctxE ns c0 c1 c2 c3 ps st wl lv pk sl LV PK) (s0 se).ls := ⟨by simp [s0], by simp [s0], ⟨by show 31 ≤ lv; omega, hR5⟩, ⟨by show 31 ≤ pk; omega, hP5⟩⟩
  have inv0 : Inv (ctxE ns c0 c1 c2 c3 ps st wl lv pk sl LV PK) (s0 se) 0 0 := Inv.start sek (fun e => by
      have e : PK = [] := e
      rw [e, List.length_nil] at pkL
      omega) (fun e => by
      have e : LV = [] := e
      rw [e, List.length_nil] at lvL
      omega) (by show PK.length ≤ 100; omega) (by show LV.length ≤ 100; omega) ⟨d5, d6, d7, d8, hst.symm⟩
  generalize hc : ctxE ns c0 c1 c2 c3 ps st wl lv pk sl LV PK = c at *
  have p17 : ∀ (s : LibSt) (R : G), (base c s ++ R)[17]? = some (.lst (ps.map D.int)) := fun s R => by rw [← o17]; rfl
  -- classes
  obtain ⟨τ', g', lp1, s, R6, x6', rfl, rfl, inv1, fz1, wd6⟩ := loop_all (c := none) (mi := mRange1 (mOp fPlus (mC (.int 1)) (mOp fSubs (mV 4) (mC (.int 1))))) (mg := gN 6) (mb := mDrop (mUnA (fCall 4 [] f_l_add_class) (mCons (mV 0) (mCons (mV 5) (mCons (mV 1) (mCons (mV 6) mNil)))))) (τ := slG ns (some (.ref 13)) (some (.ref 17)) (some (.ref 26)) x6 (some (.ref q7)) x8) (g := base c (s0 se) ++ R5)
    (rng 0 (1 + n1)) (fun i τ G => ∃ s R x6, τ = slG ns (some (.ref 13)) (some (.ref 17)) (some (.ref 26)) x6 (some (.ref q7)) x8 ∧ G = base c s ++ R ∧ Inv c s i 0 ∧ Fz R c s.ls ∧ Wd R ns wl) (rg_ok (j := 1) rfl (p17 _ _) q1 (by omega)) (fun _ _ _ _ => trivial) ⟨s0 se, R5, x6, rfl, rfl, inv0, fz0, wd5⟩ (fun i d τ G hd ⟨s, R, x6, e1, e2, iv, fz, wd⟩ => by
      subst e1 e2
      obtain ⟨hi, hd2⟩ := rng_get hd
      subst hd2
      refine ⟨_, _, rfl, ?_⟩
      obtain ⟨s', R', e, iv', fz', Y, hY⟩ := add_class_lawX (ns := ns) iv fz (by omega) hn
      have z : (0 : Int) + (i : Int) = (i : Int) := by omega
      rw [← z] at e
      exact body_nx (drop_ok (una_ok (cons_ok (ev_v rfl) (cons_ok (ev_v rfl) (cons_ok (ev_v rfl) (cons_ok (ev_v rfl) nil_ok)))) (call_ok rfl e))) ⟨s', R', _, rfl, rfl, iv', fz', by rw [hY]; exact wd.app⟩)
  rw [show (rng 0 (1 + n1)).length = 1 + n1 from by simp [rng]] at inv1
  -- members
  obtain ⟨τ', g', lp2, t, R7, x6'', rfl, rfl, inv2, fz2, wd7⟩ := loop_all (c := none) (mi := mRange1 (mOp fSubs (mV 4) (mC (.int 3)))) (mg := gN 6) (mb := mDrop (mUnA (fCall 4 [] f_l_add_member) (mCons (mV 0) (mCons (mV 5) (mCons (mV 1) (mCons (mV 6) mNil)))))) (τ := slG ns (some (.ref 13)) (some (.ref 17)) (some (.ref 26)) x6' (some (.ref q7)) x8) (g := base c s ++ R6)
    (rng 0 n3) (fun i τ G => ∃ s R x6, τ = slG ns (some (.ref 13)) (some (.ref 17)) (some (.ref 26)) x6 (some (.ref q7)) x8 ∧ G = base c s ++ R ∧ Inv c s (1 + n1) i ∧ Fz R c s.ls ∧ Wd R ns wl) (rg1_ok (j := 3) rfl (p17 _ _) q3 (by omega)) (fun _ _ _ _ => trivial) ⟨s, R6, x6', rfl, rfl, inv1, fz1, wd6⟩ (fun i d τ G hd ⟨s, R, x6, e1, e2, iv, fz, wd⟩ => by
      subst e1 e2
      obtain ⟨hi, hd2⟩ := rng_get hd
      subst hd2
      refine ⟨_, _, rfl, ?_⟩
      obtain ⟨s', R', e, iv', fz', Y, hY⟩ := add_member_lawX (ns := ns) iv fz (by omega) (by omega) (by omega) hn
      have z : (0 : Int) + (i : Int) = (i : Int) := by omega
      rw [← z] at e
      exact body_nx (drop_ok (una_ok (cons_ok (ev_v rfl) (cons_ok (ev_v rfl) (cons_ok (ev_v rfl) (cons_ok (ev_v rfl) nil_ok)))) (call_ok rfl e))) ⟨s', R', _, rfl, rfl, iv', fz', by rw [hY]; exact wd.app⟩)
  rw [show (rng 0 n3).length = n3 from by simp [rng]] at inv2
  -- no uses
  have lp3 : mFor (mRange1 (mOp fSubs (mV 4) (mC (.int 4)))) (gN 6) (mDrop (mUnA (fCall 4 [] f_l_add_use) (mCons (mV 0) (mCons (mV 5) (mCons (mV 1) (mCons (mV 6) mNil)))))) (slG ns (some (.ref 13)) (some (.ref 17)) (some (.ref 26)) x6'' (some (.ref q7)) x8) (base c t ++ R7) = .nx (slG ns (some (.ref 13)) (some (.ref 17)) (some (.ref 26)) x6'' (some (.ref q7)) x8) (base c t ++ R7) := by
    refine (for_ok (l := rng 0 0) (c := none) (g1 := base c t ++ R7) (rg1_ok (τ := slG ns (some (.ref 13)) (some (.ref 17)) (some (.ref 26)) x6'' (some (.ref q7)) x8) (j := 4) (n := 0) rfl (p17 _ _) q4 (by omega))).trans ?_
    rfl
  refine ⟨c, t, R7, 1 + n1, n3, wl, ?_, inv2, fz2, by omega, by omega, by omega, o27, o29, by rw [clv]; exact wk, wd7⟩
  unfold f_l_ground
  refine run_rt (ga.trans ?_)
  exact seq_go s8 (seq_go s9' (seq_go s10 (seq_go s11 (seq_go s12 (seq_go s13' (seq_go lp1 (seq_go lp2 (seq_go lp3 (ret_ok (ev_v rfl))))))))))
end
end My
namespace My
open PySem L2 RL
/-! what is asked -/
section
variable {g : G} {τ : RL.T}
theorem notin_D {y d : D} {l : List D} (h : items g y = some l) (h1 : gr 20 d = true) (h2 : l.all (gr 20) = true) (h3 : (l.all fun z => cm z d) = true) : fNot d y g = .ok (.bl (!decide (d ∈ l))) g := by
  unfold fNot fIn
  rw [h]
  dsimp only
  rw [ck_pos ⟨h1, h2, h3⟩]
theorem lf_gr {K : Type} {f : K → D} (F : KF f) (l : List K) : (l.map f).all (gr 20) = true := by
  rw [List.all_map]
  exact List.all_eq_true.mpr fun _ _ => F.gr _
theorem lf_cm {K : Type} {f : K → D} (F : KF f) (l : List K) (x : K) : ((l.map f).all fun z => cm z (f x)) = true := by
  rw [List.all_map]
  exact List.all_eq_true.mpr fun _ _ => F.cm _ _
theorem inside_ok {K : Type} {f : K → D} (F : KF f) {a b : Nat} {l m : List K} (ha : g[a]? = some (.lst (l.map f))) (hb : g[b]? = some (.lst (m.map f))) (hl : l.length ≤ 10000) (hs : ∀ x ∈ l, x ∈ m) : ∃ X : List Ob, f_l_inside [.ref a, .ref b] g = .ok (.bl true) (g ++ X) := by
  have e := lc_ok (own := [("_law_thing", 2)].map (·.2)) (mi := mSeqI (mV 0)) (t := .one 2) (mt := mTest (mOp fNot (mV 2) (mV 1))) (me := mV 2) (τ := [some (.ref a), some (.ref b), none]) (g := g) (g1 := g) (l := l.map f) (c := some (a, .lst (l.map f))) (fun d => !decide (d ∈ m.map f)) id (seqL_ok (ev_v rfl) ha) ha (fun d hd => by
    obtain ⟨x, hx, rfl⟩ := List.mem_map.mp hd
    refine ⟨_, rfl, tst (ev2 (ev_v rfl) (ev_v rfl) ?_), fun _ => ev_v rfl⟩
    exact notin_D (items_at hb) (F.gr x) (lf_gr F m) (lf_cm F m x)) (by rw [List.length_map]; omega)
  have nl : (l.map f).filter (fun d => !decide (d ∈ m.map f)) = [] := by
    rw [List.filter_eq_nil_iff]
    intro d hd
    obtain ⟨x, hx, rfl⟩ := List.mem_map.mp hd
    rw [decide_eq_true (List.mem_map.mpr ⟨x, hs x hx, rfl⟩)]
    simp
  rw [nl] at e
  refine ⟨[.lst []], ?_⟩
  unfold f_l_inside
  exact run_rt (ret_ok (ev2 (una_ok (cons_ok e nil_ok) (len_at end_get)) ev_c (eqI _ _)))
theorem bag_ok {K : Type} {f : K → D} (F : KF f) {a b : Nat} {l m : List K} (ha : g[a]? = some (.lst (l.map f))) (hb : g[b]? = some (.lst (m.map f))) (hl : l.length ≤ 10000) (hlm : l.length = m.length) (hs : ∀ x, x ∈ l ↔ x ∈ m) : ∃ X : List Ob, f_l_bag [.ref a, .ref b] g = .ok (.bl true) (g ++ X) := by
  obtain ⟨X, e1⟩ := inside_ok F ha hb hl fun x hx => (hs x).mp hx
  obtain ⟨Y, e2⟩ := inside_ok F (g := g ++ X) (app_get hb) (app_get ha) (by omega) fun x hx => (hs x).mpr hx
  refine ⟨X ++ Y, ?_⟩
  have t1 : mTest (mUn (fIsi .lst) (mV 0)) [some (.ref a), some (.ref b)] g = .ok true g := tst (un_ok (ev_v rfl) (by
    unfold fIsi
    rw [ty_lst ha]
    exact ck_pos ⟨by decide, by decide⟩ _))
  have t2 : mTest (mOp fNe (mUnA fLen (mCons (mV 0) mNil)) (mUnA fLen (mCons (mV 1) mNil))) [some (.ref a), some (.ref b)] g = .ok false g := tst (ev2 (una_ok (cons_ok (ev_v rfl) nil_ok) (len_at ha)) (una_ok (cons_ok (ev_v rfl) nil_ok) (len_at hb)) (by
    rw [neI, List.length_map, List.length_map, hlm]
    simp))
  unfold f_l_bag
  refine run_rt (seq_go (if_n2 (or_f (not_ok t1) t2)) (ret_ok ?_))
  rw [← List.append_assoc]
  exact andE_t (una_ok (cons_ok (ev_v rfl) (cons_ok (ev_v rfl) nil_ok)) (call_ok rfl e1)) (una_ok (cons_ok (ev_v rfl) (cons_ok (ev_v rfl) nil_ok)) (call_ok rfl e2))
theorem ne_refs {a b : Nat} {l : List Str} (ha : g[a]? = some (.lst (l.map D.str))) (hb : g[b]? = some (.lst (l.map D.str))) : fNe (.ref a) (.ref b) g = .ok (.bl false) g := by
  have hc : ∀ l : List Str, cms (l.map D.str) (l.map D.str) = true := by
    intro l
    induction l with
    | nil => rfl
    | cons x l ih => exact ih
  unfold fNe fEq
  dsimp only
  rw [items_at ha, items_at hb]
  dsimp only
  rw [ck_pos ⟨gr_strs l, gr_strs l, hc l⟩]
  simp
theorem ne_opt (x : Option Str) : fNe (optS x) (optS x) g = .ok (.bl false) g := by
  cases x with
  | none =>
    have : fEq (optS none) (optS none) g = .ok (.bl (decide (D.non = D.non))) g := ck_pos ⟨rfl, rfl, rfl⟩ _
    unfold fNe
    rw [this]
    simp
  | some s =>
    show fNe (.str s) (.str s) g = _
    rw [neS]
    simp
end
end My
namespace My
open PySem L2 RL
section
variable {R : G} {c : Ctx} {s : LibSt} {k m : Nat}
theorem lib_set {n : Nat} {o : Ob} (fz : Fz R c s.ls) (h1 : 10 ≤ n) (h2 : n < 31) : LibG ((base c s ++ R).set n o) A0 s :=
  (fz.lib (s := s)).frame (Gx.set (S := [n]) (by simp)) (by
    intro z hz hm
    simp only [List.mem_cons, List.not_mem_nil, or_false] at hz hm
    omega) (fun e he hm => by
    have := (fz.line e he).1
    simp only [List.mem_cons, List.not_mem_nil, or_false] at hm
    omega)
theorem wld_set24 {o : Ob} (fz : Fz R c s.ls) : WldG ((base c s ++ R).set 24 o) 26 20 18 s.ls :=
  ⟨⟨worldL c, rfl, rfl, rfl⟩, rfl, rfl, fun e he => set_ne (at_R (fz.ups e he).1 (fz.ups e he).2) (by have := (fz.ups e he).1; omega)⟩
abbrev levB : MS := mIfS (mTest (mOp fNe (mMeth cs_Library 2 [] f_Library_level_of (mV 1) (mCons (mV 2) mNil)) (mOp fSubs (mOp fSubs (mV 0) (mC (.str "mark"))) (mV 2)))) (mRet (mC (.bl false))) mNext
abbrev ownB : MS := mIfS (mTest (mOp fNe (mMeth cs_Library 3 [] f_Library_owner_of (mV 1) (mCons (mV 3) (mCons (mV 4) mNil))) (mUnA (fCall 3 [] f_l_owner) (mCons (mV 0) (mCons (mV 3) (mCons (mV 4) mNil)))))) (mRet (mC (.bl false))) mNext
theorem m_again : m_l_again = (mSeq (mIfS (mOrT (mTest (mOp fNe (mProp cs_Lineage f_Lineage_classes (mV 1)) (mOp fSubs (mV 0) (mC (.str "order"))))) (mNotT (mTest (mUnA (fCall 2 [] f_l_bag) (mCons (mProp cs_Library f_Library_marks (mV 1)) (mCons (mUnA fList (mCons (mOp fSubs (mV 0) (mC (.str "mark"))) mNil)) mNil)))))) (mRet (mC (.bl false))) mNext)
  (mSeq (mLockS (mOp fSubs (mV 0) (mC (.str "mark"))) (mFor (mKeysI (mOp fSubs (mV 0) (mC (.str "mark")))) (gN 2) levB))
  (mSeq (mFor (mSeqI (mOp fSubs (mV 0) (mC (.str "order")))) (gN 3) (mLockS (mOp fSubs (mV 0) (mC (.str "root"))) (mFor (mKeysI (mOp fSubs (mV 0) (mC (.str "root")))) (gN 4) ownB)))
  (mRet (mC (.bl true)))))) := rfl
theorem again_ok (ok : LibOk s) (fz : Fz R c s.ls) (hk : s.ls.length ≤ 30) : ∃ X : List Ob, f_l_again [.ref 26, .ref 0] (base c s ++ R) = .ok (.bl true) (base c s ++ (R ++ X)) := by
  have z1 := ok.lev.z1
  have hlv : (s.levels.map (·.1)).length = s.levels.length := by rw [List.length_map]
  have nl : (nmsOf s.ls).length = s.ls.length := by simp only [nmsOf, List.length_map]
  -- the classes and the marks
  have L0 := fz.lib (s := s)
  have a1 : mTest (mOp fNe (mProp cs_Lineage f_Lineage_classes (mV 1)) (mOp fSubs (mV 0) (mC (.str "order")))) [some (.ref 26), some (.ref 0), none, none, none] (base c s ++ R) = .ok false (base c s ++ R ++ [.lst ((nmsOf s.ls).map D.str)]) :=
    tst (ev2 (prop_ok (m := 0) (ev_v rfl) L0.obj (by simp) (classes_ok L0.lin)) (ev2 (ev_v rfl) ev_c (subs_sd (l := worldL c) rfl rfl)) (ne_refs end_get rfl))
  have L1 : LibG (base c s ++ R ++ [.lst ((nmsOf s.ls).map D.str)]) A0 s := L0.frame0 (gx_app _)
  have hm : (base c s ++ R ++ [.lst ((nmsOf s.ls).map D.str)] ++ [Ob.lst ((s.levels.map (·.1)).map d3)])[25]? = some (.dct false (kd d3 (vs s.levels))) := rfl
  have l2 := list_kd hm
  rw [vs_keys] at l2
  obtain ⟨X1, e1⟩ := bag_ok kf3 (g := base c s ++ R ++ [.lst ((nmsOf s.ls).map D.str)] ++ [Ob.lst ((s.levels.map (·.1)).map d3)] ++ [Ob.lst ((s.levels.map (·.1)).map d3)]) (app_get end_get) end_get (l := s.levels.map (·.1)) (m := s.levels.map (·.1)) (by omega) rfl (fun _ => Iff.rfl)
  have a2 : mNotT (mTest (mUnA (fCall 2 [] f_l_bag) (mCons (mProp cs_Library f_Library_marks (mV 1)) (mCons (mUnA fList (mCons (mOp fSubs (mV 0) (mC (.str "mark"))) mNil)) mNil)))) [some (.ref 26), some (.ref 0), none, none, none] (base c s ++ R ++ [.lst ((nmsOf s.ls).map D.str)]) = .ok (!true) _ :=
    not_ok (tst (una_ok (cons_ok (prop_ok (m := 0) (ev_v rfl) L1.obj (by simp) (marks_ok L1)) (cons_ok (una_ok (cons_ok (ev2 (ev_v rfl) ev_c (subs_sd (l := worldL c) rfl rfl)) nil_ok) l2) nil_ok)) (call_ok rfl e1)))
  have s1 := if_n2 (a := mRet (mC (.bl false))) (or_f a1 a2)
  have eR : base c s ++ R ++ [Ob.lst ((nmsOf s.ls).map D.str)] ++ [Ob.lst ((s.levels.map (·.1)).map d3)] ++ [Ob.lst ((s.levels.map (·.1)).map d3)] ++ X1 = base c s ++ (R ++ ([Ob.lst ((nmsOf s.ls).map D.str)] ++ [Ob.lst ((s.levels.map (·.1)).map d3)] ++ [Ob.lst ((s.levels.map (·.1)).map d3)] ++ X1)) := by simp only [List.append_assoc]
  rw [eR] at s1
  have x1 : ∃ Y, R ++ ([Ob.lst ((nmsOf s.ls).map D.str)] ++ [Ob.lst ((s.levels.map (·.1)).map d3)] ++ [Ob.lst ((s.levels.map (·.1)).map d3)] ++ X1) = R ++ Y := ⟨_, rfl⟩
  have fz1 : Fz (R ++ ([Ob.lst ((nmsOf s.ls).map D.str)] ++ [Ob.lst ((s.levels.map (·.1)).map d3)] ++ [Ob.lst ((s.levels.map (·.1)).map d3)] ++ X1)) c s.ls := fz.app
  generalize R ++ ([Ob.lst ((nmsOf s.ls).map D.str)] ++ [Ob.lst ((s.levels.map (·.1)).map d3)] ++ [Ob.lst ((s.levels.map (·.1)).map d3)] ++ X1) = R1 at *
  clear eR e1 l2 hm a1 a2
  -- the levels
  have LL : LibG ((base c s ++ R1).set 25 (.dct true (kd d3 (vs s.levels)))) A0 s := lib_set fz1 (by omega) (by omega)
  have kk : mKeysI (mOp fSubs (mV 0) (mC (.str "mark"))) [some (.ref 26), some (.ref 0), none, none, none] ((base c s ++ R1).set 25 (.dct true (kd d3 (vs s.levels)))) = .ok ((s.levels.map (·.1)).map d3, some (25, .dct true (kd d3 (vs s.levels)))) ((base c s ++ R1).set 25 (.dct true (kd d3 (vs s.levels)))) := by
    rw [keys_ok (ev2 (ev_v rfl) ev_c (subs_sd (l := worldL c) rfl rfl)) rfl, kd_keys, vs_keys]
  obtain ⟨τ', g', lp, x2, rfl, rfl⟩ := loop_all (mi := mKeysI (mOp fSubs (mV 0) (mC (.str "mark")))) (mg := gN 2) (mb := levB) (τ := [some (.ref 26), some (.ref 0), none, none, none]) (g := (base c s ++ R1).set 25 (.dct true (kd d3 (vs s.levels))))
    ((s.levels.map (·.1)).map d3) (fun i τ G => ∃ x2, τ = [some (.ref 26), some (.ref 0), x2, none, none] ∧ G = (base c s ++ R1).set 25 (.dct true (kd d3 (vs s.levels)))) kk (fun i τ G ⟨_, _, e⟩ => by rw [e]; rfl) ⟨none, rfl, rfl⟩ (fun i d τ G hd ⟨x2, e1, e2⟩ => by
      subst e1 e2
      rw [List.getElem?_map] at hd
      obtain ⟨⟨o, n, w⟩, hx, rfl⟩ := Option.map_eq_some_iff.mp hd
      refine ⟨_, _, rfl, ?_⟩
      obtain ⟨v, hv⟩ := lk_of_mem (List.mem_of_getElem? hx)
      have e := level_of (o := o) (n := n) (k := w) LL
      rw [hv] at e
      dsimp only at e
      refine body_nx (if_n2 (tst (ev2 (lib_meth (A := A0) (l := [d3 (o, n, w)]) (ev_v rfl) LL (by simp) (cons_ok (ev_v rfl) nil_ok) rfl e) (ev2 (ev2 (ev_v rfl) ev_c (subs_sd (l := worldL c) rfl rfl)) (ev_v rfl) (subs_d3 (l := vs s.levels) (d := .str v) rfl (by rw [vs_lk, hv]; rfl))) (by rw [neS]; simp)))) ⟨_, rfl, rfl⟩)
  have s2 : mLockS (mOp fSubs (mV 0) (mC (.str "mark"))) (mFor (mKeysI (mOp fSubs (mV 0) (mC (.str "mark")))) (gN 2) levB) [some (.ref 26), some (.ref 0), none, none, none] (base c s ++ R1) = .nx [some (.ref 26), some (.ref 0), x2, none, none] (base c s ++ R1 ++ []) :=
    lockS_ok (ev2 (ev_v rfl) ev_c (wkey rfl)) rfl (by rw [List.append_nil]; exact lp)
  rw [List.append_nil] at s2
  -- the owners
  obtain ⟨τ', g', lp2, x3, x4, X, rfl, rfl⟩ := loop_all (mi := mSeqI (mOp fSubs (mV 0) (mC (.str "order")))) (mg := gN 3) (mb := mLockS (mOp fSubs (mV 0) (mC (.str "root"))) (mFor (mKeysI (mOp fSubs (mV 0) (mC (.str "root")))) (gN 4) ownB)) (τ := [some (.ref 26), some (.ref 0), x2, none, none]) (g := base c s ++ R1)
    ((nmsOf s.ls).map D.str) (fun i τ G => ∃ x3 x4 X, τ = [some (.ref 26), some (.ref 0), x2, x3, x4] ∧ G = base c s ++ (R1 ++ X)) (c := some (18, .lst ((nmsOf s.ls).map D.str))) (seqL_ok (ev2 (ev_v rfl) ev_c (wkey rfl)) rfl) (fun i τ G ⟨_, _, _, _, e⟩ => by rw [e]; rfl) ⟨none, none, [], rfl, by rw [List.append_nil]⟩ (fun i d τ G hd ⟨x3, x4, X, e1, e2⟩ => by
      subst e1 e2
      rw [List.getElem?_map] at hd
      obtain ⟨x, hx, rfl⟩ := Option.map_eq_some_iff.mp hd
      have xn := List.mem_of_getElem? hx
      refine ⟨_, _, rfl, ?_⟩
      have fz2 : Fz (R1 ++ X) c s.ls := fz1.app
      generalize hR2 : R1 ++ X = R2 at *
      have LG : LibG ((base c s ++ R2).set 24 (.dct true (sd (vs s.roots)))) A0 s := lib_set fz2 (by omega) (by omega)
      have WG : WldG ((base c s ++ R2).set 24 (.dct true (sd (vs s.roots)))) 26 20 18 s.ls := wld_set24 fz2
      obtain ⟨τ', g', lp3, x4', Y, rfl, rfl⟩ := loop_all (mi := mKeysI (mOp fSubs (mV 0) (mC (.str "root")))) (mg := gN 4) (mb := ownB) (τ := [some (.ref 26), some (.ref 0), x2, some (.str x), x4]) (g := (base c s ++ R2).set 24 (.dct true (sd (vs s.roots))))
        ((s.roots.map (·.1)).map D.str) (fun i τ G => ∃ x4 Y, τ = [some (.ref 26), some (.ref 0), x2, some (.str x), x4] ∧ G = (base c s ++ R2).set 24 (.dct true (sd (vs s.roots))) ++ Y) (keys_vs _ (ev2 (ev_v rfl) ev_c (subs_sd (l := worldL c) rfl rfl)) rfl) (fun i τ G ⟨_, Y, _, e⟩ => by rw [e]; rfl) ⟨x4, [], rfl, by rw [List.append_nil]⟩ (fun j d τ G hd ⟨x4, Y, e1, e2⟩ => by
          subst e1 e2
          rw [List.getElem?_map] at hd
          obtain ⟨n, hn, rfl⟩ := Option.map_eq_some_iff.mp hd
          refine ⟨_, _, rfl, ?_⟩
          have LY := LG.frame0 (gx_app Y)
          have o1 := owner_of (x := x) (n := n) ok.lin ok.mem (by omega) LY
          obtain ⟨Z, o2⟩ := owner_ok (x := x) (n := n) (l := worldL c) (dc := 22) (kl := s.kinds.map (·.1)) (WG.frame0 (gx_app Y)) ok.lin (by omega) rfl rfl rfl xn
          refine body_nx (if_n2 (tst (ev2 (lib_meth (A := A0) (l := [.str x, .str n]) (ev_v rfl) LY (by simp) (cons_ok (ev_v rfl) (cons_ok (ev_v rfl) nil_ok)) rfl o1) (una_ok (cons_ok (ev_v rfl) (cons_ok (ev_v rfl) (cons_ok (ev_v rfl) nil_ok))) (call_ok rfl o2)) (ne_opt _)))) ⟨_, Y ++ Z, rfl, by rw [List.append_assoc]⟩)
      have l3 := lockS_ok (m := mOp fSubs (mV 0) (mC (.str "root"))) (τ := [some (.ref 26), some (.ref 0), x2, some (.str x), x4]) (g := base c s ++ R2) (ev2 (ev_v rfl) ev_c (wkey rfl)) rfl lp3
      refine body_nx l3 ⟨_, x4', X ++ Y, rfl, ?_⟩
      rw [← List.append_assoc R1, hR2, List.append_assoc])
  obtain ⟨Y1, hY1⟩ := x1
  refine ⟨Y1 ++ X, ?_⟩
  unfold f_l_again
  rw [m_again]
  rw [← List.append_assoc R, ← hY1]
  exact run_rt (seq_go s1 (seq_go s2 (seq_go lp2 (ret_ok ev_c))))
end
end My
namespace My
open PySem L2 RL
/-! what is due of a declaration -/
def dueM (s : LibSt) (o n b : Str) : D := if o ∉ nmsOf s.ls then .tup [.str "Unknown", .non, .str o] else if (o, n) ∈ s.kinds.map (·.1) then .tup [.str "Taken", .non, .str n] else if mayB s o n b = false then .tup [.str "Misfit", .non, .str n] else .str "added"
section
variable {R : G} {c : Ctx} {s : LibSt} {o n b l l2 : Str}
theorem due_none (h : memErr s o n b = none) : dueM s o n b = .str "added" := by
  unfold memErr at h
  unfold dueM
  by_cases c1 : o ∉ nmsOf s.ls
  · rw [if_pos c1] at h; cases h
  · rw [if_neg c1] at h ⊢
    by_cases c2 : (o, n) ∈ s.kinds.map (·.1)
    · rw [if_pos c2] at h; cases h
    · rw [if_neg c2] at h ⊢
      by_cases c3 : mayB s o n b = false
      · rw [if_pos c3] at h; cases h
      · rw [if_neg c3]
theorem due_some {e : Exc} (h : memErr s o n b = some e) : ∃ cl x, e = ⟨cl, [("row", .non), ("what", .str x)]⟩ ∧ (cl = ("Unknown" : Str) ∨ cl = ("Taken" : Str) ∨ cl = ("Misfit" : Str)) ∧ dueM s o n b = .tup [.str cl, .non, .str x] := by
  unfold memErr at h
  unfold dueM
  by_cases c1 : o ∉ nmsOf s.ls
  · rw [if_pos c1] at h ⊢
    cases h
    exact ⟨_, _, rfl, .inl rfl, rfl⟩
  · rw [if_neg c1] at h ⊢
    by_cases c2 : (o, n) ∈ s.kinds.map (·.1)
    · rw [if_pos c2] at h ⊢
      cases h
      exact ⟨_, _, rfl, .inr (.inl rfl), rfl⟩
    · rw [if_neg c2] at h ⊢
      by_cases c3 : mayB s o n b = false
      · rw [if_pos c3] at h ⊢
        cases h
        exact ⟨_, _, rfl, .inr (.inr rfl), rfl⟩
      · rw [if_neg c3] at h; cases h
theorem due_same {g : G} : fNe (dueM s o n b) (dueM s o n b) g = .ok (.bl false) g := by
  cases h : memErr s o n b with
  | none =>
    rw [due_none h, neS]
    simp
  | some e =>
    obtain ⟨cl, x, _, _, h⟩ := due_some h
    rw [h]
    have : fEq (.tup [.str cl, .non, .str x]) (.tup [.str cl, .non, .str x]) g = .ok (.bl (decide (D.tup [.str cl, .non, .str x] = D.tup [.str cl, .non, .str x]))) g := ck_pos ⟨rfl, rfl, rfl⟩ _
    unfold fNe
    rw [this]
    simp
theorem due_added {g : G} : fEq (dueM s o n b) (.str "added") g = .ok (.bl (decide (memErr s o n b = none))) g := by
  cases h : memErr s o n b with
  | none =>
    rw [due_none h, eqS]
    simp
  | some e =>
    obtain ⟨cl, x, _, _, h⟩ := due_some h
    rw [h]
    have : fEq (.tup [.str cl, .non, .str x]) (.str "added") g = .ok (.bl (decide (D.tup [.str cl, .non, .str x] = D.str "added"))) g := ck_pos ⟨rfl, rfl, rfl⟩ _
    rw [this]
    simp
theorem fault_ok (ok : LibOk s) (fz : Fz R c s.ls) (hk : s.ls.length ≤ 30) : ∃ X : List Ob, f_l_member_fault [.ref 26, .str o, .str n, .str b] (base c s ++ R) = .ok (dueM s o n b) (base c s ++ (R ++ X)) := by
  have t1 := tst (ev2 (τ := [some (.ref 26), some (.str o), some (.str n), some (.str b)]) (g := base c s ++ R) (a := mV 1) (b := mOp fSubs (mV 0) (mC (.str "pack"))) (ev_v rfl) (ev2 (ev_v rfl) ev_c (wkey rfl)) (notin_sd (l := s.packs) rfl))
  rw [ok.pk] at t1
  have t2 := tst (ev2 (τ := [some (.ref 26), some (.str o), some (.str n), some (.str b)]) (g := base c s ++ R) (a := mUnA fTup (mCons (mV 1) (mCons (mV 2) mNil))) (b := mOp fSubs (mV 0) (mC (.str "decl"))) (una_ok (cons_ok (ev_v rfl) (cons_ok (ev_v rfl) nil_ok)) (tup_ok (by simp))) (ev2 (ev_v rfl) ev_c (wkey rfl)) (inl_d2 (items_at (l := (s.kinds.map (·.1)).map d2) rfl)))
  have t3 : mTest (mOp fEq (mV 2) (mC (.str "new"))) [some (.ref 26), some (.str o), some (.str n), some (.str b)] (base c s ++ R) = .ok (decide (n = ("new" : Str))) (base c s ++ R) := tst (ev2 (ev_v rfl) ev_c (eqS _ _))
  have t4 := tst (ev2 (τ := [some (.ref 26), some (.str o), some (.str n), some (.str b)]) (g := base c s ++ R) (a := mV 2) (b := mOp fSubs (mV 0) (mC (.str "root"))) (ev_v rfl) (ev2 (ev_v rfl) ev_c (wkey rfl)) (in_sd (l := vs s.roots) rfl))
  rw [vs_keys, ← lk_isSome] at t4
  have rtup : ∀ (cl : Str) (i : Nat) (x : Str), ([some (.ref 26), some (.str o), some (.str n), some (.str b)] : RL.T)[i]? = some (some (.str x)) → ∀ g, mRet (mUnA fTup (mCons (mC (.str cl)) (mCons (mC .non) (mCons (mV i) mNil)))) [some (.ref 26), some (.str o), some (.str n), some (.str b)] g = .rt (.tup [.str cl, .non, .str x]) g := fun cl i x h g => ret_ok (una_ok (cons_ok ev_c (cons_ok ev_c (cons_ok (ev_v h) nil_ok))) (tup_ok (by simp)))
  have fin : ∀ (d : D) (X : G), m_l_member_fault [some (.ref 26), some (.str o), some (.str n), some (.str b)] (base c s ++ R) = .rt d (base c s ++ R ++ X) → f_l_member_fault [.ref 26, .str o, .str n, .str b] (base c s ++ R) = .ok d (base c s ++ (R ++ X)) := fun d X e => by
    rw [← List.append_assoc]
    exact run_rt e
  unfold dueM
  unfold m_l_member_fault at fin
  by_cases c1 : o ∉ nmsOf s.ls
  · rw [if_pos c1]
    rw [decide_eq_false c1] at t1
    exact ⟨[], fin _ _ (by rw [List.append_nil]; exact seq_rt (if_tr t1 (rtup _ _ _ rfl _)))⟩
  · rw [if_neg c1]
    have c1' : o ∈ nmsOf s.ls := by simpa using c1
    rw [decide_eq_true c1'] at t1
    by_cases c2 : (o, n) ∈ s.kinds.map (·.1)
    · rw [if_pos c2]
      rw [decide_eq_true c2] at t2
      exact ⟨[], fin _ _ (by rw [List.append_nil]; exact seq_go (if_n2 t1) (seq_rt (if_tr t2 (rtup _ _ _ rfl _))))⟩
    · rw [if_neg c2]
      rw [decide_eq_false c2] at t2
      by_cases c3 : n = ("new" : Str)
      · have hm : mayB s o n b = false := by
          unfold mayB
          rw [decide_eq_true c3]
          rfl
        rw [decide_eq_true c3] at t3
        rw [if_pos hm]
        exact ⟨[], fin _ _ (by rw [List.append_nil]; exact seq_go (if_n2 t1) (seq_go (if_n2 t2) (seq_rt (if_tr t3 (rtup _ _ _ rfl _)))))⟩
      · rw [decide_eq_false c3] at t3
        cases c4 : s.roots.lookup n with
        | none =>
          have hm : mayB s o n b = true := by
            unfold mayB
            rw [decide_eq_false c3, c4]
            rfl
          rw [c4] at t4
          rw [if_neg (by rw [hm]; simp)]
          exact ⟨[], fin _ _ (by rw [List.append_nil]; exact seq_go (if_n2 t1) (seq_go (if_n2 t2) (seq_go (if_n2 t3) (seq_go (if_n2 t4) (ret_ok ev_c)))))⟩
        | some r =>
          rw [c4] at t4
          obtain ⟨v, hv⟩ := lk_of_mem (ok.mem.rr n r c4)
          have kl := ok.lin.klen o
          have hk2 : (kindL s).lookup n = some (.str v) := by rw [kindL_lk, c4]; show some (D.str ((s.kinds.lookup (r, n)).getD "")) = _; rw [hv]; rfl
          obtain ⟨X, r2, e1, e2, e3⟩ := up_ok 30 (fz.wld (t := s)) ok.lin ok.z c1' (by omega)
          have u1 : mTest (mOp fNe (mV 3) (mC (.str "method"))) [some (.ref 26), some (.str o), some (.str n), some (.str b)] (base c s ++ R) = .ok (!decide (b = ("method" : Str))) (base c s ++ R) := tst (ev2 (ev_v rfl) ev_c (neS _ _))
          have u2 := tst (ev2 (τ := [some (.ref 26), some (.str o), some (.str n), some (.str b)]) (g := base c s ++ R) (a := mOp fSubs (mOp fSubs (mV 0) (mC (.str "kind"))) (mV 2)) (b := mC (.str "method")) (ev2 (ev2 (ev_v rfl) ev_c (wkey rfl)) (ev_v rfl) (subs_sd (l := kindL s) rfl hk2)) ev_c (neS _ _))
          have u3 : mTest (mOp fNot (mOp fSubs (mOp fSubs (mV 0) (mC (.str "root"))) (mV 2)) (mUnA (fCall 2 [] (f_l_up 30)) (mCons (mV 0) (mCons (mV 1) mNil)))) [some (.ref 26), some (.str o), some (.str n), some (.str b)] (base c s ++ R) = .ok (!decide (r ∈ ksOf s.ls o)) (base c s ++ R ++ X) := by
            refine tst (ev2 (ev2 (ev2 (ev_v rfl) ev_c (wkey rfl)) (ev_v rfl) (subs_sd (l := vs s.roots) (d := .str r) rfl (by rw [vs_lk, c4]; rfl))) (una_ok (cons_ok (ev_v rfl) (cons_ok (ev_v rfl) nil_ok)) (call_ok rfl e1)) ?_)
            unfold fNot
            rw [in_strs r (items_at e3)]
          have e4 : decide (some v = some ("method" : Str)) = decide (v = ("method" : Str)) := by simp
          have e5 : (decide (o = r) || decide (r ∈ ksOf s.ls o)) = decide (r ∈ ksOf s.ls o) := by
            by_cases q : o = r
            · subst q
              rw [decide_eq_true (ok.lin.self c1'), Bool.or_true]
            · rw [decide_eq_false q, Bool.false_or]
          have hm : mayB s o n b = (decide (b = ("method" : Str)) && (decide (v = ("method" : Str)) && decide (r ∈ ksOf s.ls o))) := by
            unfold mayB
            rw [c4, decide_eq_false c3]
            dsimp only
            rw [hv, e4, e5]
            rfl
          have out : ∀ (Z : G) (d : D), (mIfS (mOrT (mTest (mOp fNe (mV 3) (mC (.str "method")))) (mOrT (mTest (mOp fNe (mOp fSubs (mOp fSubs (mV 0) (mC (.str "kind"))) (mV 2)) (mC (.str "method")))) (mTest (mOp fNot (mOp fSubs (mOp fSubs (mV 0) (mC (.str "root"))) (mV 2)) (mUnA (fCall 2 [] (f_l_up 30)) (mCons (mV 0) (mCons (mV 1) mNil))))))) (mRet (mUnA fTup (mCons (mC (.str "Misfit")) (mCons (mC .non) (mCons (mV 2) mNil))))) mNext) [some (.ref 26), some (.str o), some (.str n), some (.str b)] (base c s ++ R) = .rt d (base c s ++ R ++ Z) → ∃ X : List Ob, f_l_member_fault [.ref 26, .str o, .str n, .str b] (base c s ++ R) = .ok d (base c s ++ (R ++ X)) := fun Z d e => ⟨Z, fin _ _ (seq_go (if_n2 t1) (seq_go (if_n2 t2) (seq_go (if_n2 t3) (seq_rt (if_tr t4 e)))))⟩
          cases d1 : decide (b = ("method" : Str)) with
          | false =>
            rw [d1] at u1 hm
            rw [if_pos (show mayB s o n b = false by rw [hm]; rfl)]
            exact out [] _ (by rw [List.append_nil]; exact if_tr (or_t u1) (rtup _ _ _ rfl _))
          | true =>
            rw [d1] at u1 hm
            cases d2 : decide (v = ("method" : Str)) with
            | false =>
              rw [d2] at u2 hm
              rw [if_pos (show mayB s o n b = false by rw [hm]; rfl)]
              exact out [] _ (by rw [List.append_nil]; exact if_tr (or_f u1 (or_t u2)) (rtup _ _ _ rfl _))
            | true =>
              rw [d2] at u2 hm
              cases d3 : decide (r ∈ ksOf s.ls o) with
              | false =>
                rw [d3] at u3 hm
                rw [if_pos (show mayB s o n b = false by rw [hm]; rfl)]
                exact out X _ (if_tr (or_f u1 (or_f u2 u3)) (rtup _ _ _ rfl _))
              | true =>
                rw [d3] at u3 hm
                rw [if_neg (by rw [hm]; simp)]
                exact ⟨X, fin _ _ (seq_go (if_n2 t1) (seq_go (if_n2 t2) (seq_go (if_n2 t3) (seq_go (if_tr t4 (if_n2 (or_f u1 (or_f u2 u3)))) (ret_ok ev_c)))))⟩
abbrev tryB : MS := mIfS (mAndT (mTest (mOp fEq (mV 3) (mC (.str "field")))) (mTest (mOp fNe (mV 5) (mV 4)))) (mDrop (mMethK cs_Library 3 ["kind", "level", "write"] gd_Library_add_member_3_kind_level_write f_Library_add_member (mV 0) (mCons (mV 1) (mCons (mV 2) mNil)) (mCons (mC (.str "field")) (mCons (mV 4) (mCons (mV 5) mNil))))) (mDrop (mMethK cs_Library 3 ["kind", "level"] gd_Library_add_member_3_kind_level f_Library_add_member (mV 0) (mCons (mV 1) (mCons (mV 2) mNil)) (mCons (mV 3) (mCons (mV 4) mNil))))
abbrev stT (A : LibA) (o n b l l2 : Str) : RL.T := [some (.ref A.p), some (.str o), some (.str n), some (.str b), some (.str l), some (.str l2), none]
def wOf (b l l2 : Str) : Option Str := if b = ("field" : Str) ∧ l2 ≠ l then some l2 else none
theorem try_body {g : G} {A : LibA} (h : LibG g A s) {r : Res D} {q : SR} (he : f_Library_add_member [.ref A.p, .str o, .str n, .str b, .str l, optS (wOf b l l2)] g = r) (hd : ∀ e : ME, e (stT A o n b l l2) g = r → mDrop e (stT A o n b l l2) g = q) : tryB (stT A o n b l l2) g = q := by
  have t1 : mTest (mOp fEq (mV 3) (mC (.str "field"))) (stT A o n b l l2) g = .ok (decide (b = ("field" : Str))) g := tst (ev2 (ev_v rfl) ev_c (eqS _ _))
  have t2 : mTest (mOp fNe (mV 5) (mV 4)) (stT A o n b l l2) g = .ok (!decide (l2 = l)) g := tst (ev2 (ev_v rfl) (ev_v rfl) (neS _ _))
  have els : wOf b l l2 = none → mDrop (mMethK cs_Library 3 ["kind", "level"] gd_Library_add_member_3_kind_level f_Library_add_member (mV 0) (mCons (mV 1) (mCons (mV 2) mNil)) (mCons (mV 3) (mCons (mV 4) mNil))) (stT A o n b l l2) g = q := fun hw => by
    rw [hw] at he
    exact hd _ (lib_methK (ev_v rfl) h (by simp) (cons_ok (ev_v rfl) (cons_ok (ev_v rfl) nil_ok)) (cons_ok (ev_v rfl) (cons_ok (ev_v rfl) nil_ok)) rfl rfl he)
  by_cases c1 : b = ("field" : Str)
  · rw [decide_eq_true c1] at t1
    by_cases c2 : l2 = l
    · rw [decide_eq_true c2] at t2
      exact if_fr (and_t t1 t2) (els (if_neg fun h => h.2 c2))
    · rw [decide_eq_false c2] at t2
      have hw : wOf b l l2 = some l2 := if_pos ⟨c1, c2⟩
      rw [hw] at he
      refine if_tr (and_t t1 t2) (hd _ (lib_methK (ev_v rfl) h (by simp) (cons_ok (ev_v rfl) (cons_ok (ev_v rfl) nil_ok)) (cons_ok ev_c (cons_ok (ev_v rfl) (cons_ok (ev_v rfl) nil_ok))) rfl rfl ?_))
      rw [c1] at he
      exact he
  · rw [decide_eq_false c1] at t1
    exact if_fr (and_f t1) (els (if_neg fun h => c1 h.1))
theorem try_good {g : G} {A : LibA} (ok : LibOk s) (h : LibG g A s) (he : memErr s o n b = none) : f_l_try [.ref A.p, .str o, .str n, .str b, .str l, .str l2] g = .ok (dueM s o n b) (memG g A (memSt s o n b l (wOf b l l2))) := by
  have e := add_member_good (l := l) (w := wOf b l l2) ok.mem ok.lev h he
  have hb := try_body (l := l) (l2 := l2) h e fun _ z => drop_ok z
  rw [due_none he]
  unfold f_l_try
  refine run_rt (seq_go (τ' := stT A o n b l l2) (g' := memG g A (memSt s o n b l (wOf b l l2))) ?_ (ret_ok ev_c))
  unfold mTry
  show (match tryB (stT A o n b l l2) g with | .ex x τ1 g1 => _ | r => r) = _
  rw [hb]
theorem try_bad {g : G} {A : LibA} {x : Exc} (ok : LibOk s) (h : LibG g A s) (he : memErr s o n b = some x) : f_l_try [.ref A.p, .str o, .str n, .str b, .str l, .str l2] g = .ok (dueM s o n b) g := by
  have e := add_member_bad (l := l) (w := wOf b l l2) ok.mem h he
  have hb := try_body (l := l) (l2 := l2) h e fun _ z => drop_ex z
  obtain ⟨cl, y, hx, hc, hd⟩ := due_some he
  rw [hd]
  unfold f_l_try
  refine run_rt (seq_rt ?_)
  unfold mTry
  show (match tryB (stT A o n b l l2) g with | .ex x τ1 g1 => _ | r => r) = _
  rw [hb, hx]
  rcases hc with rfl | rfl | rfl
  · dsimp only
    rw [if_pos (by decide)]
    unfold hGo
    rw [if_pos (show subE "Unknown" "Unknown" = true by decide)]
    rfl
  · dsimp only
    rw [if_pos (by decide)]
    unfold hGo
    rw [if_neg (show ¬ subE "Taken" "Unknown" = true by decide)]
    unfold hGo
    rw [if_pos (show subE "Taken" "Taken" = true by decide)]
    rfl
  · dsimp only
    rw [if_pos (by decide)]
    unfold hGo
    rw [if_neg (show ¬ subE "Misfit" "Unknown" = true by decide)]
    unfold hGo
    rw [if_neg (show ¬ subE "Misfit" "Taken" = true by decide)]
    unfold hGo
    rw [if_pos (show subE "Misfit" "Misfit" = true by decide)]
    rfl
end
end My
namespace My
open PySem L2 RL
theorem dig5 (ns : List Int) (j : Nat) (s0 s1 s2 s3 s4 : Int) (hp : ∀ s ∈ [s0, s1, s2, s3, s4], 0 < s) : ∃ d0 d1 d2 d3 d4, digF ns j [s0, s1, s2, s3, s4] = [d0, d1, d2, d3, d4] ∧ (0 ≤ d0 ∧ d0 < s0) ∧ (0 ≤ d1 ∧ d1 < s1) ∧ (0 ≤ d2 ∧ d2 < s2) ∧ (0 ≤ d3 ∧ d3 < s3) ∧ (0 ≤ d4 ∧ d4 < s4) := by
  have hl := digF_len ns j [s0, s1, s2, s3, s4]
  obtain ⟨d0, a0, b0⟩ := digF_at (ns := ns) (j := j) hp (i := 0) (s := s0) rfl
  obtain ⟨d1, a1, b1⟩ := digF_at (ns := ns) (j := j) hp (i := 1) (s := s1) rfl
  obtain ⟨d2, a2, b2⟩ := digF_at (ns := ns) (j := j) hp (i := 2) (s := s2) rfl
  obtain ⟨d3, a3, b3⟩ := digF_at (ns := ns) (j := j) hp (i := 3) (s := s3) rfl
  obtain ⟨d4, a4, b4⟩ := digF_at (ns := ns) (j := j) hp (i := 4) (s := s4) rfl
  refine ⟨d0, d1, d2, d3, d4, ?_, b0, b1, b2, b3, b4⟩
  generalize digF ns j [s0, s1, s2, s3, s4] = l at *
  match l, hl with
  | [e0, e1, e2, e3, e4], _ =>
    cases a0
    cases a1
    cases a2
    cases a3
    cases a4
    rfl
end My
namespace My
open PySem L2 RL
section
variable {R : G} {c : Ctx} {s : LibSt} {ns : List Int} {o n b l l2 : Str}
/-- names, one after the other, from a start that the world tells -/
theorem names_ok2 {g : G} {τ : RL.T} {mi : MI} {N sx : Nat} {a : Int} {own : List Nat} {es : ME} (hm : mi τ g = .ok (rng 0 N, none) g) (hn : N ≤ 1000) (h4 : ∀ (d : D) (X : G), ∃ τ1, tgM (.one sx) d (wipeT τ own) = some τ1 ∧ es τ1 (g ++ X) = .ok (.int a) (g ++ X) ∧ τ1[sx]? = some (some d)) :
    ∃ X, mLc own mi (.one sx) mYes (mUnA (fCall 2 [] f_l_name) (mCons es (mCons (mV sx) mNil))) τ g = .ok (.ref (g ++ X).length) (g ++ X ++ [.lst (((List.range N).map fun (i : Nat) => nameF a (i : Int)).map D.str)]) := by
  obtain ⟨X, e⟩ := lc_ext (g := g) (τ := τ) (own := own) (mi := mi) (t := .one sx) (mt := mYes) (me := mUnA (fCall 2 [] f_l_name) (mCons es (mCons (mV sx) mNil))) (l := rng 0 N) (c := none) (X0 := []) (fun _ => true) (fun d => match d with | .int i => .str (nameF a i) | _ => .non) (by rw [List.append_nil]; exact hm) trivial (fun d hd X => by
    rw [rng_map] at hd
    obtain ⟨i, _, rfl⟩ := List.mem_map.mp hd
    obtain ⟨τ1, t1, t2, t3⟩ := h4 (.int (0 + (i : Int))) X
    refine ⟨τ1, t1, [], by rw [List.append_nil]; rfl, fun _ => ⟨[.lst (poolL.map D.str)], ?_⟩⟩
    rw [List.append_nil]
    exact una_ok (cons_ok t2 (cons_ok (ev_v t3) nil_ok)) (call_ok rfl (name_eq a _ _))) (by simp [rng]; omega)
  refine ⟨X, ?_⟩
  rw [e, rng_map, List.filter_eq_self.mpr fun _ _ => rfl, List.map_map, List.map_map]
  have : ∀ i : Nat, nameF a (0 + (i : Int)) = nameF a (i : Int) := fun i => by rw [Int.zero_add]
  simp only [Function.comp_def, this]
/-- the world follows the library -/
theorem wld_new {w : Option Str} (ok : LibOk s) (hn : n ∉ s.roots.map (·.1)) (hk : (o, n) ∉ s.kinds.map (·.1)) : ((((base2 c s (memSt s o n b l w) ++ R).set 22 (.lst ((s.kinds.map (·.1)).map d2 ++ [d2 (o, n)]))).set 24 (.dct false (sd (vs s.roots ++ [(n, .str o)])))).set 23 (.dct false (sd (kindL s ++ [(n, .str b)])))).set 25 (.dct false (kd d3 (vs (s.levels ++ levsOf o n b l w)))) = base c (memSt s o n b l w) ++ R := by
  have e1 : kindL (memSt s o n b l w) = kindL s ++ [(n, .str b)] := kindL_new (l := l) (w := w) ok hn hk
  have e2 : (memSt s o n b l w).kinds.map (·.1) = s.kinds.map (·.1) ++ [(o, n)] := memT_kinds (l := l) (w := w)
  have e3 : vs (memSt s o n b l w).roots = vs s.roots ++ [(n, .str o)] := by
    show vs (rootsAdd s o n) = _
    unfold rootsAdd
    rw [if_neg hn, vs_snoc]
  unfold base base2
  rw [e1, e2, e3, List.map_append]
  rfl
theorem wld_old {w : Option Str} (ok : LibOk s) (hn : n ∈ s.roots.map (·.1)) : ((base2 c s (memSt s o n b l w) ++ R).set 22 (.lst ((s.kinds.map (·.1)).map d2 ++ [d2 (o, n)]))).set 25 (.dct false (kd d3 (vs (s.levels ++ levsOf o n b l w)))) = base c (memSt s o n b l w) ++ R := by
  have e0 : rootsAdd s o n = s.roots := if_pos hn
  have e1 : kindL (memSt s o n b l w) = kindL s := kindL_old (l := l) (w := w) ok e0
  have e2 : (memSt s o n b l w).kinds.map (·.1) = s.kinds.map (·.1) ++ [(o, n)] := memT_kinds (l := l) (w := w)
  have e3 : (memSt s o n b l w).roots = s.roots := e0
  unfold base base2
  rw [e1, e2, e3, List.map_append]
  rfl
abbrev sl14 (ns : List Int) (x3 x4 x5 x6 x7 x8 x9 x10 x11 x12 : Option D) : RL.T := [some (.kl (ns.map D.int)), some (.ref 0), some (.ref 26), x3, x4, x5, x6, x7, x8, x9, x10, x11, x12]
abbrev markS : MS := mIfS (mTest (mOp fEq (mV 8) (mC (.str "field")))) (mSeq (mAsg (mV 9) (gSubM (mOp fSubs (mV 2) (mC (.str "mark"))) (mUnA fTup (mCons (mV 6) (mCons (mV 7) (mCons (mC (.str "read")) mNil))))))
  (mAsg (mV 10) (gSubM (mOp fSubs (mV 2) (mC (.str "mark"))) (mUnA fTup (mCons (mV 6) (mCons (mV 7) (mCons (mC (.str "write")) mNil))))))) (mAsg (mV 9) (gSubM (mOp fSubs (mV 2) (mC (.str "mark"))) (mUnA fTup (mCons (mV 6) (mCons (mV 7) (mCons (mC (.str "call")) mNil))))))
abbrev addS : MS := mSeq (mDrop (mBM .lst fApp (mOp fSubs (mV 2) (mC (.str "decl"))) (mCons (mUnA fTup (mCons (mV 6) (mCons (mV 7) mNil))) mNil)))
  (mSeq (mIfS (mTest (mOp fNot (mV 7) (mOp fSubs (mV 2) (mC (.str "root"))))) (mSeq (mAsg (mV 6) (gSubM (mOp fSubs (mV 2) (mC (.str "root"))) (mV 7)))
  (mAsg (mV 8) (gSubM (mOp fSubs (mV 2) (mC (.str "kind"))) (mV 7)))) mNext) markS)
section
variable {x3 x4 x5 x11 x12 : Option D}
theorem markS_ok {G : RL.G} (ok : LibOk s) (h26 : G[26]? = some (.dct false (sd (worldL c)))) (h25 : G[25]? = some (.dct false (kd d3 (vs s.levels)))) (hk : (o, n) ∉ s.kinds.map (·.1)) : markS (sl14 ns x3 x4 x5 (some (.str o)) (some (.str n)) (some (.str b)) (some (.str l)) (some (.str l2)) x11 x12) G = .nx (sl14 ns x3 x4 x5 (some (.str o)) (some (.str n)) (some (.str b)) (some (.str l)) (some (.str l2)) x11 x12) (G.set 25 (.dct false (kd d3 (vs (s.levels ++ levsOf o n b l (wOf b l l2)))))) := by
  have z1 := ok.lev.z1
  have t1 : mTest (mOp fEq (mV 8) (mC (.str "field"))) (sl14 ns x3 x4 x5 (some (.str o)) (some (.str n)) (some (.str b)) (some (.str l)) (some (.str l2)) x11 x12) G = .ok (decide (b = ("field" : Str))) G := tst (ev2 (ev_v rfl) ev_c (eqS _ _))
  have l25 := lt_of_get h25
  by_cases cb : b = ("field" : Str)
  · rw [decide_eq_true cb] at t1
    refine if_tr t1 ?_
    have w3 := set_d3 (τ := sl14 ns x3 x4 x5 (some (.str o)) (some (.str n)) (some (.str b)) (some (.str l)) (some (.str l2)) x11 x12) (e := mV 9) (o := mOp fSubs (mV 2) (mC (.str "mark"))) (i := mUnA fTup (mCons (mV 6) (mCons (mV 7) (mCons (mC (.str "read")) mNil)))) (v := .str l) (ev_v rfl) (ev2 (ev_v rfl) ev_c (subs_sd h26 rfl)) (una_ok (cons_ok (ev_v rfl) (cons_ok (ev_v rfl) (cons_ok ev_c nil_ok))) (tup_ok (by simp))) h25 (by rw [vs_lk, fresh_mark ok hk (by decide)]; rfl) (by rw [vs_len]; omega)
    rw [vs_snoc] at w3
    refine seq_go w3 ?_
    have nw : (o, n, ("write" : Str)) ∉ ([((o, n, ("read" : Str)), l)] : List (S3' × Str)).map (·.1) := fun z => by
      have z := (Prod.mk.inj (Prod.mk.inj (List.mem_singleton.mp z)).2).2
      exact absurd z (by decide)
    have w4 := set_d3 (τ := sl14 ns x3 x4 x5 (some (.str o)) (some (.str n)) (some (.str b)) (some (.str l)) (some (.str l2)) x11 x12) (e := mV 10) (o := mOp fSubs (mV 2) (mC (.str "mark"))) (i := mUnA fTup (mCons (mV 6) (mCons (mV 7) (mCons (mC (.str "write")) mNil)))) (v := .str l2) (l := vs (s.levels ++ [((o, n, ("read" : Str)), l)])) (n := 25) (g := G.set 25 (.dct false (kd d3 (vs (s.levels ++ [((o, n, ("read" : Str)), l)]))))) (ev_v rfl) (ev2 (ev_v rfl) ev_c (subs_sd (set_ne h26 (by decide)) rfl)) (una_ok (cons_ok (ev_v rfl) (cons_ok (ev_v rfl) (cons_ok ev_c nil_ok))) (tup_ok (by simp))) (set_get l25) (by
      rw [vs_lk, lk_app2 (fresh_mark ok hk (by decide)), lk_none.mpr nw]
      rfl) (by rw [vs_len, List.length_append]; simp; omega)
    rw [vs_snoc, List.set_set, List.append_assoc] at w4
    refine w4.trans ?_
    have ew : (wOf b l l2).getD l = l2 := by
      unfold wOf
      by_cases e : l2 = l
      · rw [if_neg fun h => h.2 e, e]
        rfl
      · rw [if_pos ⟨cb, e⟩]
        rfl
    unfold levsOf
    rw [if_pos cb, ew]
    rfl
  · rw [decide_eq_false cb] at t1
    refine if_fr t1 ?_
    have w3 := set_d3 (τ := sl14 ns x3 x4 x5 (some (.str o)) (some (.str n)) (some (.str b)) (some (.str l)) (some (.str l2)) x11 x12) (e := mV 9) (o := mOp fSubs (mV 2) (mC (.str "mark"))) (i := mUnA fTup (mCons (mV 6) (mCons (mV 7) (mCons (mC (.str "call")) mNil)))) (v := .str l) (ev_v rfl) (ev2 (ev_v rfl) ev_c (subs_sd h26 rfl)) (una_ok (cons_ok (ev_v rfl) (cons_ok (ev_v rfl) (cons_ok ev_c nil_ok))) (tup_ok (by simp))) h25 (by rw [vs_lk, fresh_mark ok hk (by decide)]; rfl) (by rw [vs_len]; omega)
    rw [vs_snoc] at w3
    refine w3.trans ?_
    unfold levsOf
    rw [if_neg cb]
theorem addS_ok (ok : LibOk s) (he : memErr s o n b = none) : addS (sl14 ns x3 x4 x5 (some (.str o)) (some (.str n)) (some (.str b)) (some (.str l)) (some (.str l2)) x11 x12) (base2 c s (memSt s o n b l (wOf b l l2)) ++ R) = .nx (sl14 ns x3 x4 x5 (some (.str o)) (some (.str n)) (some (.str b)) (some (.str l)) (some (.str l2)) x11 x12) (base c (memSt s o n b l (wOf b l l2)) ++ R) := by
  have hk : (o, n) ∉ s.kinds.map (·.1) := fun h => by
    unfold memErr at he
    by_cases c1 : o ∉ nmsOf s.ls
    · rw [if_pos c1] at he; cases he
    · rw [if_neg c1, if_pos h] at he; cases he
  have z2 := ok.lev.z2
  have z3 := ok.lev.z3
  generalize hw : wOf b l l2 = w
  have s10 : mDrop (mBM .lst fApp (mOp fSubs (mV 2) (mC (.str "decl"))) (mCons (mUnA fTup (mCons (mV 6) (mCons (mV 7) mNil))) mNil)) (sl14 ns x3 x4 x5 (some (.str o)) (some (.str n)) (some (.str b)) (some (.str l)) (some (.str l2)) x11 x12) (base2 c s (memSt s o n b l w) ++ R) = .nx (sl14 ns x3 x4 x5 (some (.str o)) (some (.str n)) (some (.str b)) (some (.str l)) (some (.str l2)) x11 x12) ((base2 c s (memSt s o n b l w) ++ R).set 22 (.lst ((s.kinds.map (·.1)).map d2 ++ [d2 (o, n)]))) :=
    drop_ok (bm_ok (ev2 (ev_v rfl) ev_c (wkey rfl)) (ty_lst (l := (s.kinds.map (·.1)).map d2) rfl) (cons_ok (una_ok (cons_ok (ev_v rfl) (cons_ok (ev_v rfl) nil_ok)) (tup_ok (by simp))) nil_ok) (app_at rfl (by rw [List.length_map, List.length_map]; omega)))
  refine seq_go s10 ?_
  have t1 := tst (ev2 (τ := sl14 ns x3 x4 x5 (some (.str o)) (some (.str n)) (some (.str b)) (some (.str l)) (some (.str l2)) x11 x12) (g := (base2 c s (memSt s o n b l w) ++ R).set 22 (.lst ((s.kinds.map (·.1)).map d2 ++ [d2 (o, n)]))) (a := mV 7) (b := mOp fSubs (mV 2) (mC (.str "root"))) (ev_v rfl) (ev2 (ev_v rfl) ev_c (subs_sd (l := worldL c) rfl rfl)) (notin_sd (l := vs s.roots) rfl))
  rw [vs_keys] at t1
  by_cases c1 : n ∈ s.roots.map (·.1)
  · rw [decide_eq_true c1] at t1
    refine seq_go (if_n2 t1) ?_
    rw [← wld_old ok c1]
    have := markS_ok (ns := ns) (c := c) (l := l) (l2 := l2) (b := b) (x3 := x3) (x4 := x4) (x5 := x5) (x11 := x11) (x12 := x12) (G := (base2 c s (memSt s o n b l w) ++ R).set 22 (.lst ((s.kinds.map (·.1)).map d2 ++ [d2 (o, n)]))) ok rfl rfl hk
    rw [hw] at this
    exact this
  · rw [decide_eq_false c1] at t1
    have w1 := set_sd (τ := sl14 ns x3 x4 x5 (some (.str o)) (some (.str n)) (some (.str b)) (some (.str l)) (some (.str l2)) x11 x12) (e := mV 6) (o := mOp fSubs (mV 2) (mC (.str "root"))) (i := mV 7) (l := vs s.roots) (n := 24) (g := (base2 c s (memSt s o n b l w) ++ R).set 22 (.lst ((s.kinds.map (·.1)).map d2 ++ [d2 (o, n)]))) (ev_v rfl) (ev2 (ev_v rfl) ev_c (subs_sd (l := worldL c) rfl rfl)) (ev_v rfl) rfl (by rw [vs_keys]; exact c1) (by rw [vs_len]; omega)
    have w2 := set_sd (τ := sl14 ns x3 x4 x5 (some (.str o)) (some (.str n)) (some (.str b)) (some (.str l)) (some (.str l2)) x11 x12) (e := mV 8) (o := mOp fSubs (mV 2) (mC (.str "kind"))) (i := mV 7) (l := kindL s) (n := 23) (g := ((base2 c s (memSt s o n b l w) ++ R).set 22 (.lst ((s.kinds.map (·.1)).map d2 ++ [d2 (o, n)]))).set 24 (.dct false (sd (vs s.roots ++ [(n, .str o)])))) (ev_v rfl) (ev2 (ev_v rfl) ev_c (subs_sd (l := worldL c) rfl rfl)) (ev_v rfl) rfl (by rw [kindL_keys]; exact c1) (by rw [← List.length_map (f := (·.1)), kindL_keys, List.length_map]; omega)
    refine seq_go (if_tr t1 (seq_go w1 w2)) ?_
    rw [← wld_new ok c1 hk]
    have := markS_ok (ns := ns) (c := c) (l := l) (l2 := l2) (b := b) (x3 := x3) (x4 := x4) (x5 := x5) (x11 := x11) (x12 := x12) (G := (((base2 c s (memSt s o n b l w) ++ R).set 22 (.lst ((s.kinds.map (·.1)).map d2 ++ [d2 (o, n)]))).set 24 (.dct false (sd (vs s.roots ++ [(n, .str o)])))).set 23 (.dct false (sd (kindL s ++ [(n, .str b)])))) ok rfl rfl hk
    rw [hw] at this
    exact this
end
end
end My
namespace My
open PySem L2 RL
section
variable {ns : List Int}
abbrev nameL : ME := mLc ([("_law_j", 12)].map (·.2)) (mRange1 (mC (.int 4))) (.one 12) mYes (mUnA (fCall 2 [] f_l_name) (mCons (mOp fSubs (mOp fSubs (mV 2) (mC (.str "starts"))) (mC (.int 3))) (mCons (mV 12) mNil)))
abbrev endS : MS := mSeq (mIfS (mTest (mOp fNe (mUnA (fCall 6 [] f_l_try) (mCons (mV 1) (mCons (mV 6) (mCons (mV 7) (mCons (mV 8) (mCons (mV 9) (mCons (mV 10) mNil))))))) (mV 11))) (mRet (mC (.bl false))) mNext)
  (mSeq (mIfS (mTest (mOp fEq (mV 11) (mC (.str "added")))) addS mNext)
  (mIfS (mNotT (mTest (mUnA (fCall 2 [] f_l_again) (mCons (mV 2) (mCons (mV 1) mNil))))) (mRet (mC (.bl false))) mNext))
abbrev attB : MS := mSeq (mAsg (mUnA (fCall 3 [] f_l_digits) (mCons (mV 0) (mCons (mOp fPlus (mC (.int 41)) (mV 3)) (mCons (mUnA fLst (mCons (mC (.int 6)) (mCons (mC (.int 5)) (mCons (mC (.int 5)) (mCons (mC (.int 4)) (mCons (mC (.int 4)) mNil)))))) mNil)))) (gN 4))
  (mSeq (mAsg (mOp fPlus (mOp fSubs (mV 2) (mC (.str "order"))) (mUnA fLst (mCons (mUnA (fCall 2 [] f_l_name) (mCons (mOp fSubs (mOp fSubs (mV 2) (mC (.str "starts"))) (mC (.int 2))) (mCons (mC (.int 20)) mNil))) mNil))) (gN 5))
  (mSeq (mAsg (mOp fSubs (mV 5) (mOp fMod (mOp fSubs (mV 4) (mC (.int 0))) (mUnA fLen (mCons (mV 5) mNil)))) (gN 6))
  (mSeq (mAsg (mOp fSubs (mOp fPlus (mUnA fLst (mCons (mC (.str "new")) mNil)) nameL) (mOp fSubs (mV 4) (mC (.int 1)))) (gN 7))
  (mSeq (mAsg (mOp fSubs (mUnA fLst (mCons (mC (.str "method")) (mCons (mC (.str "field")) (mCons (mC (.str "static")) (mCons (mC (.str "method")) (mCons (mC (.str "method")) mNil)))))) (mOp fSubs (mV 4) (mC (.int 2)))) (gN 8))
  (mSeq (mAsg (mOp fSubs (mOp fSubs (mV 2) (mC (.str "levels"))) (mOp fMod (mOp fSubs (mV 4) (mC (.int 3))) (mUnA fLen (mCons (mOp fSubs (mV 2) (mC (.str "levels"))) mNil)))) (gN 9))
  (mSeq (mAsg (mOp fSubs (mOp fSubs (mV 2) (mC (.str "levels"))) (mOp fMod (mOp fSubs (mV 4) (mC (.int 4))) (mUnA fLen (mCons (mOp fSubs (mV 2) (mC (.str "levels"))) mNil)))) (gN 10))
  (mSeq (mAsg (mUnA (fCall 4 [] f_l_member_fault) (mCons (mV 2) (mCons (mV 6) (mCons (mV 7) (mCons (mV 8) mNil))))) (gN 11))
  endS)))))))
theorem m_law14 : m_law = (mSeq (mAsg (mUnA (fMake "Library" 0 [] f_Library_init) mNil) (gN 1))
  (mSeq (mAsg (mUnA (fCall 3 [] f_l_ground) (mCons (mV 0) (mCons (mV 1) (mCons (mUnA fLst (mCons (mC (.int 2)) (mCons (mC (.int 5)) (mCons (mC (.int 3)) (mCons (mC (.int 0)) (mCons (mC (.int 0)) mNil)))))) mNil)))) (gN 2))
  (mSeq (mFor (mRange1 (mC (.int 8))) (gN 3) attB)
  (mRet (mC (.bl true)))))) := rfl
section
variable {R : G} {c : Ctx} {s : LibSt} {o n b l l2 : Str} {x3 x4 x5 x12 : Option D}
theorem endS_ok (ok : LibOk s) (fz : Fz R c s.ls) (hk : s.ls.length ≤ 30) (hm : s.kinds.length < 400) : ∃ t X, endS (sl14 ns x3 x4 x5 (some (.str o)) (some (.str n)) (some (.str b)) (some (.str l)) (some (.str l2)) (some (dueM s o n b)) x12) (base c s ++ R) = .nx (sl14 ns x3 x4 x5 (some (.str o)) (some (.str n)) (some (.str b)) (some (.str l)) (some (.str l2)) (some (dueM s o n b)) x12) (base c t ++ (R ++ X)) ∧ LibOk t ∧ t.ls = s.ls ∧ t.kinds.length ≤ s.kinds.length + 1 := by
  have args : ∀ g : RL.G, mCons (mV 1) (mCons (mV 6) (mCons (mV 7) (mCons (mV 8) (mCons (mV 9) (mCons (mV 10) mNil))))) (sl14 ns x3 x4 x5 (some (.str o)) (some (.str n)) (some (.str b)) (some (.str l)) (some (.str l2)) (some (dueM s o n b)) x12) g = .ok [.ref 0, .str o, .str n, .str b, .str l, .str l2] g := fun g => cons_ok (ev_v rfl) (cons_ok (ev_v rfl) (cons_ok (ev_v rfl) (cons_ok (ev_v rfl) (cons_ok (ev_v rfl) (cons_ok (ev_v rfl) nil_ok)))))
  have ag : ∀ (t : LibSt) (R : RL.G), LibOk t → Fz R c t.ls → t.ls.length ≤ 30 → ∃ X, (mIfS (mNotT (mTest (mUnA (fCall 2 [] f_l_again) (mCons (mV 2) (mCons (mV 1) mNil))))) (mRet (mC (.bl false))) mNext) (sl14 ns x3 x4 x5 (some (.str o)) (some (.str n)) (some (.str b)) (some (.str l)) (some (.str l2)) (some (dueM s o n b)) x12) (base c t ++ R) = .nx (sl14 ns x3 x4 x5 (some (.str o)) (some (.str n)) (some (.str b)) (some (.str l)) (some (.str l2)) (some (dueM s o n b)) x12) (base c t ++ (R ++ X)) := fun t R ok fz hk => by
    obtain ⟨X, e⟩ := again_ok ok fz hk
    exact ⟨X, if_n2 (not_ok (b := true) (tst (una_ok (cons_ok (ev_v rfl) (cons_ok (ev_v rfl) nil_ok)) (call_ok rfl e))))⟩
  cases he : memErr s o n b with
  | none =>
    have e := try_good (l := l) (l2 := l2) ok (fz.lib (s := s)) he
    have em : memG (base2 c s s ++ R) A0 (memSt s o n b l (wOf b l l2)) = base2 c s (memSt s o n b l (wOf b l l2)) ++ R := rfl
    rw [em] at e
    have t1 := tst (ev2 (una_ok (args _) (call_ok (n := 6) (es := []) rfl e)) (ev_v (i := 11) rfl) due_same)
    have t2 := tst (ev2 (τ := sl14 ns x3 x4 x5 (some (.str o)) (some (.str n)) (some (.str b)) (some (.str l)) (some (.str l2)) (some (dueM s o n b)) x12) (g := base2 c s (memSt s o n b l (wOf b l l2)) ++ R) (a := mV 11) (b := mC (.str "added")) (ev_v rfl) ev_c due_added)
    rw [he, decide_eq_true rfl] at t2
    have ok' : LibOk (memSt s o n b l (wOf b l l2)) := ok.memS he hm
    obtain ⟨X, e3⟩ := ag (memSt s o n b l (wOf b l l2)) R ok' fz hk
    exact ⟨memSt s o n b l (wOf b l l2), X, seq_go (if_n2 t1) (seq_go (if_tr t2 (addS_ok ok he)) e3), ok', rfl, by show (s.kinds ++ [_]).length ≤ _; rw [List.length_append]; exact Nat.le_refl _⟩
  | some x =>
    have e := try_bad (l := l) (l2 := l2) ok (fz.lib (s := s)) he
    have t1 := tst (ev2 (una_ok (args _) (call_ok (n := 6) (es := []) rfl e)) (ev_v (i := 11) rfl) due_same)
    have t2 := tst (ev2 (τ := sl14 ns x3 x4 x5 (some (.str o)) (some (.str n)) (some (.str b)) (some (.str l)) (some (.str l2)) (some (dueM s o n b)) x12) (g := base2 c s s ++ R) (a := mV 11) (b := mC (.str "added")) (ev_v rfl) ev_c due_added)
    rw [he, decide_eq_false nofun] at t2
    obtain ⟨X, e3⟩ := ag s R ok fz hk
    exact ⟨s, X, seq_go (if_n2 t1) (seq_go (if_n2 t2) e3), ok, rfl, Nat.le_succ _⟩
theorem attB_ok {i : Nat} {x6 x7 x8 x9 x10 x11 : Option D} (hns : ns.length ≤ 63) (hi : i < 9) (ok : LibOk s) (fz : Fz R c s.ls) (hk : s.ls.length ≤ 30) (hm : s.kinds.length < 400) (h0 : c.levels ≠ []) (hst : ∃ a b d e, c.st = [a, b, d, e]) : ∃ y4 y5 y6 y7 y8 y9 y10 y11 t R', attB (sl14 ns (some (.int (i : Int))) x4 x5 x6 x7 x8 x9 x10 x11 x12) (base c s ++ R) = .nx (sl14 ns (some (.int (i : Int))) y4 y5 y6 y7 y8 y9 y10 y11 x12) (base c t ++ R') ∧ LibOk t ∧ Fz R' c t.ls ∧ t.ls = s.ls ∧ t.kinds.length ≤ s.kinds.length + 1 := by
  obtain ⟨a0, a1, a2, a3, hst⟩ := hst
  have nl : (nmsOf s.ls).length = s.ls.length := by simp only [nmsOf, List.length_map]
  -- the digits
  have hz : (base c s ++ R ++ [Ob.lst ([(6 : Int), 5, 5, 4, 4].map D.int)])[(base c s ++ R).length]? = some (.lst ([(6 : Int), 5, 5, 4, 4].map D.int)) := end_get
  obtain ⟨d0, d1, d2, d3, d4, dd, b0, b1, b2, b3, b4⟩ := dig5 ns (41 + i) 6 5 5 4 4 (by simp)
  have dg := dig_eq (ns := ns) (j := 41 + i) hz (by simp) (by simp) (by omega) hns
  rw [dd] at dg
  have ij : ((41 + i : Nat) : Int) = 41 + (i : Int) := by omega
  rw [ij] at dg
  have s1 : mAsg (mUnA (fCall 3 [] f_l_digits) (mCons (mV 0) (mCons (mOp fPlus (mC (.int 41)) (mV 3)) (mCons (mUnA fLst (mCons (mC (.int 6)) (mCons (mC (.int 5)) (mCons (mC (.int 5)) (mCons (mC (.int 4)) (mCons (mC (.int 4)) mNil)))))) mNil)))) (gN 4) (sl14 ns (some (.int (i : Int))) x4 x5 x6 x7 x8 x9 x10 x11 x12) (base c s ++ R) = .nx (sl14 ns (some (.int (i : Int))) (some (.ref (base c s ++ R ++ [Ob.lst ([(6 : Int), 5, 5, 4, 4].map D.int)] ++ digT ns).length)) x5 x6 x7 x8 x9 x10 x11 x12) (base c s ++ R ++ [Ob.lst ([(6 : Int), 5, 5, 4, 4].map D.int)] ++ digT ns ++ [Ob.lst ([d0, d1, d2, d3, d4].map D.int)]) :=
    asg_ok (una_ok (cons_ok (ev_v rfl) (cons_ok (ev2 ev_c (ev_v rfl) (plusI _ _)) (cons_ok (una_ok (by repeat' first | assumption | with_reducible exact ev_c | with_reducible exact nil_ok | with_reducible exact plusI _ _ | with_reducible exact subI _ _ | with_reducible exact ltI _ _ | with_reducible exact leI _ _ | with_reducible exact gtI _ _ | with_reducible exact geI _ _ | with_reducible exact eqI _ _ | with_reducible exact eqS _ _ | with_reducible exact neI _ _ | with_reducible exact neS _ _ | with_reducible exact isN_ok _ _ | with_reducible exact len_t | with_reducible exact tuple_t | exact end_get | ((with_reducible apply ev_v); exact rfl) | (with_reducible apply cons_ok) | (with_reducible apply evInt) | (with_reducible apply una_ok) | (with_reducible apply ev2) | (with_reducible apply un_ok) | (with_reducible apply bm_ok) | (with_reducible apply meth_ok) | (with_reducible apply methK_ok) | (with_reducible apply prop_ok) | (with_reducible apply tst) | (with_reducible apply not_ok) | (with_reducible apply asg_ok) | (with_reducible apply drop_ok) | (with_reducible apply if_n2) | (with_reducible apply mulI) | (with_reducible apply modI) | (with_reducible apply divI) | (with_reducible apply subs_at) | (with_reducible apply subs_sd) | (with_reducible apply len_at) | (with_reducible apply tuple_at) | (with_reducible apply tup_ok) | (with_reducible apply lst_ok) | (with_reducible apply fld_ok) | (with_reducible apply app_at) | (with_reducible apply call_ok) | (with_reducible apply ty_lst) | (with_reducible apply ty_dct) | (with_reducible apply app_get) | exact rfl | decide | omega | (simp; done)) (lst_ok (by simp))) nil_ok))) (call_ok rfl dg))
  have hp : (base c s ++ R ++ [Ob.lst ([(6 : Int), 5, 5, 4, 4].map D.int)] ++ digT ns ++ [Ob.lst ([d0, d1, d2, d3, d4].map D.int)])[(base c s ++ R ++ [Ob.lst ([(6 : Int), 5, 5, 4, 4].map D.int)] ++ digT ns).length]? = some (.lst ([d0, d1, d2, d3, d4].map D.int)) := end_get
  have eR : base c s ++ R ++ [Ob.lst ([(6 : Int), 5, 5, 4, 4].map D.int)] ++ digT ns ++ [Ob.lst ([d0, d1, d2, d3, d4].map D.int)] = base c s ++ (R ++ ([Ob.lst ([(6 : Int), 5, 5, 4, 4].map D.int)] ++ digT ns ++ [Ob.lst ([d0, d1, d2, d3, d4].map D.int)])) := by simp only [List.append_assoc]
  rw [eR] at s1 hp
  have fz1 : Fz (R ++ ([Ob.lst ([(6 : Int), 5, 5, 4, 4].map D.int)] ++ digT ns ++ [Ob.lst ([d0, d1, d2, d3, d4].map D.int)])) c s.ls := fz.app
  generalize (base c s ++ R ++ [Ob.lst ([(6 : Int), 5, 5, 4, 4].map D.int)] ++ digT ns).length = q at *
  generalize R ++ ([Ob.lst ([(6 : Int), 5, 5, 4, 4].map D.int)] ++ digT ns ++ [Ob.lst ([d0, d1, d2, d3, d4].map D.int)]) = R1 at *
  clear hz dg eR
  -- the owners
  have nmA : mUnA (fCall 2 [] f_l_name) (mCons (mOp fSubs (mOp fSubs (mV 2) (mC (.str "starts"))) (mC (.int 2))) (mCons (mC (.int 20)) mNil)) (sl14 ns (some (.int (i : Int))) (some (.ref q)) x5 x6 x7 x8 x9 x10 x11 x12) (base c s ++ R1) = .ok (.str (nameF a2 20)) (base c s ++ R1 ++ [.lst (poolL.map D.str)]) :=
    una_ok (cons_ok (ev2 (ev2 (ev_v rfl) ev_c (wkey rfl)) ev_c (subs_at (l := c.st.map D.int) rfl (by rw [hst]; rfl))) (cons_ok ev_c nil_ok)) (call_ok rfl (name_eq a2 20 _))
  generalize nameF a2 20 = nm2 at nmA
  have s2 := asg_ok (i := 5) (ev2 (a := mOp fSubs (mV 2) (mC (.str "order"))) (f := fPlus) (x := .ref 18) (τ := sl14 ns (some (.int (i : Int))) (some (.ref q)) x5 x6 x7 x8 x9 x10 x11 x12) (g := base c s ++ R1) (ev2 (ev_v rfl) ev_c (wkey rfl)) (una_ok (cons_ok nmA nil_ok) (lst_ok (by simp))) (plusL (l := (nmsOf s.ls).map D.str) rfl end_get (by rw [List.length_map]; simp; omega)))
  have e5 : (nmsOf s.ls).map D.str ++ [.str nm2] = (nmsOf s.ls ++ [nm2]).map D.str := by simp
  rw [e5] at s2
  have h5 : (base c s ++ R1 ++ [Ob.lst (poolL.map D.str)] ++ [Ob.lst [.str nm2]] ++ [Ob.lst ((nmsOf s.ls ++ [nm2]).map D.str)])[(base c s ++ R1 ++ [Ob.lst (poolL.map D.str)] ++ [Ob.lst [.str nm2]]).length]? = some (.lst ((nmsOf s.ls ++ [nm2]).map D.str)) := end_get
  have hp2 : (base c s ++ R1 ++ [Ob.lst (poolL.map D.str)] ++ [Ob.lst [.str nm2]] ++ [Ob.lst ((nmsOf s.ls ++ [nm2]).map D.str)])[q]? = some (.lst ([d0, d1, d2, d3, d4].map D.int)) := app_get (app_get (app_get hp))
  have eR : base c s ++ R1 ++ [Ob.lst (poolL.map D.str)] ++ [Ob.lst [.str nm2]] ++ [Ob.lst ((nmsOf s.ls ++ [nm2]).map D.str)] = base c s ++ (R1 ++ ([Ob.lst (poolL.map D.str)] ++ [Ob.lst [.str nm2]] ++ [Ob.lst ((nmsOf s.ls ++ [nm2]).map D.str)])) := by simp only [List.append_assoc]
  rw [eR] at s2 h5 hp2
  have fz2 : Fz (R1 ++ ([Ob.lst (poolL.map D.str)] ++ [Ob.lst [.str nm2]] ++ [Ob.lst ((nmsOf s.ls ++ [nm2]).map D.str)])) c s.ls := fz1.app
  generalize (base c s ++ R1 ++ [Ob.lst (poolL.map D.str)] ++ [Ob.lst [.str nm2]]).length = q5 at *
  generalize R1 ++ ([Ob.lst (poolL.map D.str)] ++ [Ob.lst [.str nm2]] ++ [Ob.lst ((nmsOf s.ls ++ [nm2]).map D.str)]) = R2 at *
  clear eR
  -- the owner
  obtain ⟨o, _, eo⟩ := pickL (l := nmsOf s.ls ++ [nm2]) (by simp) d0
  have s3 : mAsg (mOp fSubs (mV 5) (mOp fMod (mOp fSubs (mV 4) (mC (.int 0))) (mUnA fLen (mCons (mV 5) mNil)))) (gN 6) (sl14 ns (some (.int (i : Int))) (some (.ref q)) (some (.ref q5)) x6 x7 x8 x9 x10 x11 x12) (base c s ++ R2) = .nx (sl14 ns (some (.int (i : Int))) (some (.ref q)) (some (.ref q5)) (some (.str o)) x7 x8 x9 x10 x11 x12) (base c s ++ R2) :=
    asg_ok (ev2 (ev_v rfl) (ev2 (ev2 (ev_v rfl) ev_c (subs_at hp2 rfl)) (una_ok (cons_ok (ev_v rfl) nil_ok) (len_at h5)) (modI _ _ (by rw [List.length_map, List.length_append, List.length_singleton]; omega))) (subs_at h5 eo))
  -- the name
  obtain ⟨X, en⟩ := names_ok2 (g := base c s ++ R2 ++ [.lst [.str "new"]]) (τ := sl14 ns (some (.int (i : Int))) (some (.ref q)) (some (.ref q5)) (some (.str o)) x7 x8 x9 x10 x11 x12) (mi := mRange1 (mC (.int 4))) (N := 4) (sx := 12) (a := a3) (own := [("_law_j", 12)].map (·.2)) (es := mOp fSubs (mOp fSubs (mV 2) (mC (.str "starts"))) (mC (.int 3))) (range1_ok (n := 4) ev_c (by omega)) (by omega) (fun d X => ⟨_, rfl, ev2 (ev2 (ev_v rfl) ev_c (subs_sd (l := worldL c) rfl rfl)) ev_c (subs_at (l := c.st.map D.int) rfl (by rw [hst]; rfl)), rfl⟩)
  generalize hNL : (List.range 4).map (fun (i : Nat) => nameF a3 (i : Int)) = NL at en
  have lNL : NL.length = 4 := by rw [← hNL]; rfl
  obtain ⟨n, en2⟩ : ∃ n, L2.atI ([D.str "new"] ++ NL.map D.str) d1 = some (.str n) := by
    obtain ⟨z, rfl⟩ := Int.eq_ofNat_of_zero_le b1.1
    have hz : z < (("new" : Str) :: NL).length := by rw [List.length_cons]; omega
    exact ⟨_, atI_n (l := [D.str "new"] ++ NL.map D.str) (by show ((("new" : Str) :: NL).map D.str)[z]? = _; rw [List.getElem?_map, List.getElem?_eq_getElem hz]; rfl)⟩
  have s4 := asg_ok (i := 7) (ev2 (a := mOp fPlus (mUnA fLst (mCons (mC (.str "new")) mNil)) nameL) (f := fSubs) (b := mOp fSubs (mV 4) (mC (.int 1))) (ev2 (a := mUnA fLst (mCons (mC (.str "new")) mNil)) (f := fPlus) (x := .ref (base c s ++ R2).length) (τ := sl14 ns (some (.int (i : Int))) (some (.ref q)) (some (.ref q5)) (some (.str o)) x7 x8 x9 x10 x11 x12) (g := base c s ++ R2) (una_ok (cons_ok ev_c nil_ok) (lst_ok (by simp))) en (plusL (app_get (app_get end_get)) end_get (by rw [List.length_map, lNL]; simp))) (ev2 (ev_v rfl) ev_c (subs_at (app_get (app_get (app_get (app_get hp2)))) rfl)) (subs_at end_get en2))
  have hp3 : (base c s ++ R2 ++ [Ob.lst [.str "new"]] ++ X ++ [Ob.lst (NL.map D.str)] ++ [Ob.lst ([D.str "new"] ++ NL.map D.str)])[q]? = some (.lst ([d0, d1, d2, d3, d4].map D.int)) := app_get (app_get (app_get (app_get hp2)))
  have eR : base c s ++ R2 ++ [Ob.lst [.str "new"]] ++ X ++ [Ob.lst (NL.map D.str)] ++ [Ob.lst ([D.str "new"] ++ NL.map D.str)] = base c s ++ (R2 ++ ([Ob.lst [.str "new"]] ++ X ++ [Ob.lst (NL.map D.str)] ++ [Ob.lst ([D.str "new"] ++ NL.map D.str)])) := by simp only [List.append_assoc]
  rw [eR] at s4 hp3
  have fz3 : Fz (R2 ++ ([Ob.lst [.str "new"]] ++ X ++ [Ob.lst (NL.map D.str)] ++ [Ob.lst ([D.str "new"] ++ NL.map D.str)])) c s.ls := fz2.app
  generalize R2 ++ ([Ob.lst [.str "new"]] ++ X ++ [Ob.lst (NL.map D.str)] ++ [Ob.lst ([D.str "new"] ++ NL.map D.str)]) = R3 at *
  clear eR
  -- the kind
  obtain ⟨b, eb⟩ : ∃ b, L2.atI ((["method", "field", "static", "method", "method"] : List Str).map D.str) d2 = some (.str b) := by
    obtain ⟨z, rfl⟩ := Int.eq_ofNat_of_zero_le b2.1
    have hz : z < (["method", "field", "static", "method", "method"] : List Str).length := by show z < 5; omega
    exact ⟨_, atI_n (by rw [List.getElem?_map, List.getElem?_eq_getElem hz]; rfl)⟩
  have s5 : mAsg (mOp fSubs (mUnA fLst (mCons (mC (.str "method")) (mCons (mC (.str "field")) (mCons (mC (.str "static")) (mCons (mC (.str "method")) (mCons (mC (.str "method")) mNil)))))) (mOp fSubs (mV 4) (mC (.int 2)))) (gN 8) (sl14 ns (some (.int (i : Int))) (some (.ref q)) (some (.ref q5)) (some (.str o)) (some (.str n)) x8 x9 x10 x11 x12) (base c s ++ R3) = .nx (sl14 ns (some (.int (i : Int))) (some (.ref q)) (some (.ref q5)) (some (.str o)) (some (.str n)) (some (.str b)) x9 x10 x11 x12) (base c s ++ R3 ++ [.lst ((["method", "field", "static", "method", "method"] : List Str).map D.str)]) :=
    asg_ok (ev2 (una_ok (cons_ok ev_c (cons_ok ev_c (cons_ok ev_c (cons_ok ev_c (cons_ok ev_c nil_ok))))) (lst_ok (by simp))) (ev2 (ev_v rfl) ev_c (subs_at (app_get hp3) rfl)) (subs_at end_get eb))
  have hp4 := app_get (l := [.lst ((["method", "field", "static", "method", "method"] : List Str).map D.str)]) hp3
  rw [List.append_assoc (base c s) R3] at s5 hp4
  have fz4 : Fz (R3 ++ [.lst ((["method", "field", "static", "method", "method"] : List Str).map D.str)]) c s.ls := fz3.app
  generalize R3 ++ [Ob.lst ((["method", "field", "static", "method", "method"] : List Str).map D.str)] = R4 at *
  -- the levels
  obtain ⟨l, _, e9⟩ := choose_ok (g := base c s ++ R4) (τ := sl14 ns (some (.int (i : Int))) (some (.ref q)) (some (.ref q5)) (some (.str o)) (some (.str n)) (some (.str b)) x9 x10 x11 x12) (c := c) (a := mV 2) (b := mOp fSubs (mV 4) (mC (.int 3))) (k := "levels") (z := d3) rfl rfl (at_R fz4.lv.1 fz4.lv.2) h0 (ev_v rfl) (ev2 (ev_v rfl) ev_c (subs_at hp4 rfl))
  have s6 := asg_ok (i := 9) e9
  obtain ⟨l2, _, e10⟩ := choose_ok (g := base c s ++ R4) (τ := sl14 ns (some (.int (i : Int))) (some (.ref q)) (some (.ref q5)) (some (.str o)) (some (.str n)) (some (.str b)) (some (.str l)) x10 x11 x12) (c := c) (a := mV 2) (b := mOp fSubs (mV 4) (mC (.int 4))) (k := "levels") (z := d4) rfl rfl (at_R fz4.lv.1 fz4.lv.2) h0 (ev_v rfl) (ev2 (ev_v rfl) ev_c (subs_at hp4 rfl))
  have s7 := asg_ok (i := 10) e10
  -- what is due
  obtain ⟨X5, e11⟩ := fault_ok (o := o) (n := n) (b := b) ok fz4 hk
  have s8 := asg_ok (i := 11) (una_ok (τ := sl14 ns (some (.int (i : Int))) (some (.ref q)) (some (.ref q5)) (some (.str o)) (some (.str n)) (some (.str b)) (some (.str l)) (some (.str l2)) x11 x12) (a := mCons (mV 2) (mCons (mV 6) (mCons (mV 7) (mCons (mV 8) mNil)))) (cons_ok (ev_v rfl) (cons_ok (ev_v rfl) (cons_ok (ev_v rfl) (cons_ok (ev_v rfl) nil_ok)))) (call_ok (n := 4) (es := []) rfl e11))
  obtain ⟨t, X6, e12, k1, k2, k3⟩ := endS_ok (ns := ns) (o := o) (n := n) (b := b) (l := l) (l2 := l2) (x3 := some (.int (i : Int))) (x4 := some (.ref q)) (x5 := some (.ref q5)) (x12 := x12) ok (fz4.app (X := X5)) hk hm
  refine ⟨_, _, _, _, _, _, _, _, t, R4 ++ X5 ++ X6, seq_go s1 (seq_go s2 (seq_go s3 (seq_go s4 (seq_go s5 (seq_go s6 (seq_go s7 (seq_go s8 e12))))))), k1, ?_, k2, k3⟩
  rw [k2]
  exact fz4.app.app
end
theorem law_eq (hns : ns.length ≤ 63) : ∃ g', f_law [.kl (ns.map D.int)] [] = .ok (.bl true) g' := by
  have s1 : mAsg (mUnA (fMake "Library" 0 [] f_Library_init) mNil) (gN 1) [some (.kl (ns.map D.int)), none, none, none, none, none, none, none, none, none, none, none, none] [] = .nx [some (.kl (ns.map D.int)), some (.ref 0), none, none, none, none, none, none, none, none, none, none, none] [libO A0, .dct false [], .dct false [], .dct false [], .dct false [], .dct false [], .dct false [], .dct false [], .dct false [], .dct false []] := rfl
  obtain ⟨c, s, R, k, m, wl, gr0, iv, fz, k0, k1, m1, _⟩ := ground_law (ns := ns) (c0 := 2) (c1 := 5) (c2 := 3) (c3 := 0) hns (by omega) (by omega) (by omega) (by omega)
  have cp : mUnA fLst (mCons (mC (.int 2)) (mCons (mC (.int 5)) (mCons (mC (.int 3)) (mCons (mC (.int 0)) (mCons (mC (.int 0)) mNil))))) [some (.kl (ns.map D.int)), some (.ref 0), none, none, none, none, none, none, none, none, none, none, none] [libO A0, .dct false [], .dct false [], .dct false [], .dct false [], .dct false [], .dct false [], .dct false [], .dct false [], .dct false []] = .ok (.ref 10) (capG [2, 5, 3, 0, 0]) := rfl
  have s2 := asg_ok (i := 2) (una_ok (a := mCons (mV 0) (mCons (mV 1) (mCons (mUnA fLst (mCons (mC (.int 2)) (mCons (mC (.int 5)) (mCons (mC (.int 3)) (mCons (mC (.int 0)) (mCons (mC (.int 0)) mNil)))))) mNil))) (τ := [some (.kl (ns.map D.int)), some (.ref 0), none, none, none, none, none, none, none, none, none, none, none]) (cons_ok (ev_v rfl) (cons_ok (ev_v rfl) (cons_ok cp nil_ok))) (call_ok (n := 3) (es := []) rfl gr0))
  have hlen := iv.len
  have hml := iv.mlen
  obtain ⟨τ', g', lp, _⟩ := loop_all (c := none) (mi := mRange1 (mC (.int 8))) (mg := gN 3) (mb := attB) (τ := sl14 ns none none none none none none none none none none) (g := base c s ++ R)
    (rng 0 8) (fun i τ G => ∃ t R' x3 x4 x5 x6 x7 x8 x9 x10 x11, τ = sl14 ns x3 x4 x5 x6 x7 x8 x9 x10 x11 none ∧ G = base c t ++ R' ∧ LibOk t ∧ Fz R' c t.ls ∧ t.ls = s.ls ∧ t.kinds.length ≤ s.kinds.length + i ∧ i ≤ 8) (range1_ok (n := 8) ev_c (by omega)) (fun _ _ _ _ => trivial) ⟨s, R, none, none, none, none, none, none, none, none, none, rfl, rfl, iv.ok, fz, rfl, by omega, by omega⟩ (fun i d τ G hd ⟨t, R', x3, x4, x5, x6, x7, x8, x9, x10, x11, e1, e2, k1, k2, k3, k4, k5⟩ => by
      subst e1 e2
      obtain ⟨hi, hd2⟩ := rng_get hd
      subst hd2
      refine ⟨_, _, rfl, ?_⟩
      have z : (0 : Int) + (i : Int) = (i : Int) := by omega
      rw [z]
      obtain ⟨y4, y5, y6, y7, y8, y9, y10, y11, t', R'', e, j1, j2, j3, j4⟩ := attB_ok (ns := ns) (x4 := x4) (x5 := x5) (x6 := x6) (x7 := x7) (x8 := x8) (x9 := x9) (x10 := x10) (x11 := x11) (x12 := none) hns (i := i) (by omega) k1 k2 (by rw [k3]; omega) (by omega) iv.lv0 iv.st
      exact body_nx e ⟨t', R'', _, _, _, _, _, _, _, _, _, rfl, rfl, j1, j2, by rw [j3, k3], by omega, by omega⟩)
  refine ⟨g', ?_⟩
  unfold f_law
  rw [m_law14]
  exact run_rt (seq_go s1 (seq_go s2 (seq_go lp (ret_ok ev_c))))
end
end My
namespace My
open PySem L2 RL
def spLaw (K : PySem.W.Frag) : Sp := fun vs H Q _ => ∃ (a : Addr) (ns : List Int), vs = [.ref a] ∧ SqL K H a (ns.map V.int) ∧ Only H ∧ ns.length ≤ 63 ∧ ∀ H', Q (.bl true) H'
theorem ints_rel {K : PySem.W.Frag} {ρ : List Addr} {H : Hp} : ∀ ns : List Int, RelDs K ρ H (ns.map D.int) (ns.map V.int)
  | [] => .nil
  | _ :: ns => .cons (.int _) (ints_rel ns)
theorem tup0 {K : PySem.W.Frag} {H : Hp} {a : Addr} {od : Option Addr} {n : Nat} {sl : Array (Option Value)} (h : K.lookup a = some ⟨.type "tuple", od, .seq #[] n, sl⟩) : SqT K H a [] := .inr ⟨_, #[], n, h, rfl, rfl, Nat.zero_le _, .nil⟩
theorem law_sp {K : PySem.W.Frag} {cn : Str → Addr} {P : Program} {w : World} : ∀ vs H Q E, spLaw K vs H Q E → spM ⟨K, cn, P, w⟩ 1 f_law vs H Q E := by
  rintro vs H Q E ⟨a, ns, rfl, hs, ho, hln, hq⟩
  have hf : SqF K H a (ns.map V.int) := by
    rcases hs with (hs | hs) | hs
    · rcases ho a with z | ⟨o, xs, z⟩
      · rw [z] at hs; cases hs
      · rw [z] at hs; cases hs
    · exact .inl hs
    · exact .inr hs
  obtain ⟨g', e⟩ := law_eq (ns := ns) hln
  refine ⟨[], [], [.kl (ns.map D.int)], rfl, .one (.kl hf (ints_rel ns)), ⟨rfl, List.nodup_nil, fun i o a h => by simp at h⟩, ?_⟩
  rw [e]
  intro ρ' v H' _ _ q
  cases q
  exact hq H'
theorem all_mk {l : PySem.W.OpenLaw} {w : World} {K : PySem.W.Frag} {h : Heap} {mg : Str → Option Value} {fa : Addr} (X : K.In h) (G : h.Ns mainGlobals mg) (hfa : mg "law" = some (.ref fa))
    {C_Packages : Addr}
    {C_Lineage : Addr}
    {C_Library : Addr}
    {E_Joined : Addr}
    {E_Misfit : Addr}
    {E_Taken : Addr}
    {E_Unknown : Addr}
    {fwording : Addr} {odwording anwording : Option Addr} {slwording : Array (Option Value)} {ocwording dcwording pmwording cdwording ctwording kVwording : Value}
    {TD_AccessError_init : Addr} {oTD_AccessError_init : Option Addr} {nTD_AccessError_init : Nat} {slTD_AccessError_init : Array (Option Value)}
    {fAccessError_init : Addr} {odAccessError_init anAccessError_init : Option Addr} {slAccessError_init : Array (Option Value)} {ocAccessError_init dcAccessError_init pmAccessError_init cdAccessError_init ctAccessError_init kVAccessError_init : Value}
    {fPackages_init : Addr} {odPackages_init anPackages_init : Option Addr} {slPackages_init : Array (Option Value)} {ocPackages_init dcPackages_init pmPackages_init cdPackages_init ctPackages_init kVPackages_init : Value}
    {DK_Packages_add_package : Addr}
    {fPackages_add_package : Addr} {odPackages_add_package anPackages_add_package : Option Addr} {slPackages_add_package : Array (Option Value)} {ocPackages_add_package dcPackages_add_package pmPackages_add_package cdPackages_add_package ctPackages_add_package : Value}
    {fLineage_init : Addr} {odLineage_init anLineage_init : Option Addr} {slLineage_init : Array (Option Value)} {ocLineage_init dcLineage_init pmLineage_init cdLineage_init ctLineage_init kVLineage_init : Value}
    {fLineage__check_known : Addr} {odLineage__check_known anLineage__check_known : Option Addr} {slLineage__check_known : Array (Option Value)} {ocLineage__check_known dcLineage__check_known pmLineage__check_known cdLineage__check_known ctLineage__check_known kVLineage__check_known : Value}
    {fLineage__check_name : Addr} {odLineage__check_name anLineage__check_name : Option Addr} {slLineage__check_name : Array (Option Value)} {ocLineage__check_name dcLineage__check_name pmLineage__check_name cdLineage__check_name ctLineage__check_name kVLineage__check_name : Value}
    {fLineage_first_unknown : Addr} {odLineage_first_unknown anLineage_first_unknown : Option Addr} {slLineage_first_unknown : Array (Option Value)} {ocLineage_first_unknown dcLineage_first_unknown pmLineage_first_unknown cdLineage_first_unknown ctLineage_first_unknown kVLineage_first_unknown : Value}
    {fLineage_first_joined : Addr} {odLineage_first_joined anLineage_first_joined : Option Addr} {slLineage_first_joined : Array (Option Value)} {ocLineage_first_joined dcLineage_first_joined pmLineage_first_joined cdLineage_first_joined ctLineage_first_joined kVLineage_first_joined : Value}
    {fLineage__check_bases : Addr} {odLineage__check_bases anLineage__check_bases : Option Addr} {slLineage__check_bases : Array (Option Value)} {ocLineage__check_bases dcLineage__check_bases pmLineage__check_bases cdLineage__check_bases ctLineage__check_bases kVLineage__check_bases : Value}
    {DK_Lineage_link : Addr}
    {TT_Lineage_link_bases : Addr} {oTT_Lineage_link_bases : Option Addr} {nTT_Lineage_link_bases : Nat} {slTT_Lineage_link_bases : Array (Option Value)}
    {fLineage_link : Addr} {odLineage_link anLineage_link : Option Addr} {slLineage_link : Array (Option Value)} {ocLineage_link dcLineage_link pmLineage_link cdLineage_link ctLineage_link : Value}
    {fLineage_is_below : Addr} {odLineage_is_below anLineage_is_below : Option Addr} {slLineage_is_below : Array (Option Value)} {ocLineage_is_below dcLineage_is_below pmLineage_is_below cdLineage_is_below ctLineage_is_below kVLineage_is_below : Value}
    {pLineage_classes_Lineage : Addr} {restLineage_classes_Lineage : List Value}
    {pLineage_classes_Library : Addr} {restLineage_classes_Library : List Value}
    {fLineage_classes : Addr} {odLineage_classes anLineage_classes : Option Addr} {slLineage_classes : Array (Option Value)} {ocLineage_classes dcLineage_classes pmLineage_classes cdLineage_classes ctLineage_classes kVLineage_classes : Value}
    {fLibrary_init : Addr} {odLibrary_init anLibrary_init : Option Addr} {slLibrary_init : Array (Option Value)} {ocLibrary_init dcLibrary_init pmLibrary_init cdLibrary_init ctLibrary_init kVLibrary_init : Value}
    {fLibrary_package_of : Addr} {odLibrary_package_of anLibrary_package_of : Option Addr} {slLibrary_package_of : Array (Option Value)} {ocLibrary_package_of dcLibrary_package_of pmLibrary_package_of cdLibrary_package_of ctLibrary_package_of kVLibrary_package_of : Value}
    {fLibrary_add_later : Addr} {odLibrary_add_later anLibrary_add_later : Option Addr} {slLibrary_add_later : Array (Option Value)} {ocLibrary_add_later dcLibrary_add_later pmLibrary_add_later cdLibrary_add_later ctLibrary_add_later kVLibrary_add_later : Value}
    {DK_Library_add_class : Addr}
    {TT_Library_add_class_bases : Addr} {oTT_Library_add_class_bases : Option Addr} {nTT_Library_add_class_bases : Nat} {slTT_Library_add_class_bases : Array (Option Value)}
    {fLibrary_add_class : Addr} {odLibrary_add_class anLibrary_add_class : Option Addr} {slLibrary_add_class : Array (Option Value)} {ocLibrary_add_class dcLibrary_add_class pmLibrary_add_class cdLibrary_add_class ctLibrary_add_class : Value}
    {fLibrary__may_declare : Addr} {odLibrary__may_declare anLibrary__may_declare : Option Addr} {slLibrary__may_declare : Array (Option Value)} {ocLibrary__may_declare dcLibrary__may_declare pmLibrary__may_declare cdLibrary__may_declare ctLibrary__may_declare kVLibrary__may_declare : Value}
    {DK_Library_add_member : Addr}
    {fLibrary_add_member : Addr} {odLibrary_add_member anLibrary_add_member : Option Addr} {slLibrary_add_member : Array (Option Value)} {ocLibrary_add_member dcLibrary_add_member pmLibrary_add_member cdLibrary_add_member ctLibrary_add_member : Value}
    {fLibrary__base_towards : Addr} {odLibrary__base_towards anLibrary__base_towards : Option Addr} {slLibrary__base_towards : Array (Option Value)} {ocLibrary__base_towards dcLibrary__base_towards pmLibrary__base_towards cdLibrary__base_towards ctLibrary__base_towards kVLibrary__base_towards : Value}
    {fLibrary_owner_of : Addr} {odLibrary_owner_of anLibrary_owner_of : Option Addr} {slLibrary_owner_of : Array (Option Value)} {ocLibrary_owner_of dcLibrary_owner_of pmLibrary_owner_of cdLibrary_owner_of ctLibrary_owner_of kVLibrary_owner_of : Value}
    {fLibrary_level_of : Addr} {odLibrary_level_of anLibrary_level_of : Option Addr} {slLibrary_level_of : Array (Option Value)} {ocLibrary_level_of dcLibrary_level_of pmLibrary_level_of cdLibrary_level_of ctLibrary_level_of kVLibrary_level_of : Value}
    {pLibrary_marks_Library : Addr} {restLibrary_marks_Library : List Value}
    {fLibrary_marks : Addr} {odLibrary_marks anLibrary_marks : Option Addr} {slLibrary_marks : Array (Option Value)} {ocLibrary_marks dcLibrary_marks pmLibrary_marks cdLibrary_marks ctLibrary_marks kVLibrary_marks : Value}
    {fl_digits : Addr} {odl_digits anl_digits : Option Addr} {sll_digits : Array (Option Value)} {ocl_digits dcl_digits pml_digits cdl_digits ctl_digits kVl_digits : Value}
    {fl_name : Addr} {odl_name anl_name : Option Addr} {sll_name : Array (Option Value)} {ocl_name dcl_name pml_name cdl_name ctl_name kVl_name : Value}
    {fl_products : Addr} {odl_products anl_products : Option Addr} {sll_products : Array (Option Value)} {ocl_products dcl_products pml_products cdl_products ctl_products kVl_products : Value}
    {fl_inside : Addr} {odl_inside anl_inside : Option Addr} {sll_inside : Array (Option Value)} {ocl_inside dcl_inside pml_inside cdl_inside ctl_inside kVl_inside : Value}
    {fl_up : Addr} {odl_up anl_up : Option Addr} {sll_up : Array (Option Value)} {ocl_up dcl_up pml_up cdl_up ctl_up kVl_up : Value}
    {fl_joins : Addr} {odl_joins anl_joins : Option Addr} {sll_joins : Array (Option Value)} {ocl_joins dcl_joins pml_joins cdl_joins ctl_joins kVl_joins : Value}
    {fl_owner : Addr} {odl_owner anl_owner : Option Addr} {sll_owner : Array (Option Value)} {ocl_owner dcl_owner pml_owner cdl_owner ctl_owner kVl_owner : Value}
    {fl_note : Addr} {odl_note anl_note : Option Addr} {sll_note : Array (Option Value)} {ocl_note dcl_note pml_note cdl_note ctl_note kVl_note : Value}
    {fl_add_class : Addr} {odl_add_class anl_add_class : Option Addr} {sll_add_class : Array (Option Value)} {ocl_add_class dcl_add_class pml_add_class cdl_add_class ctl_add_class kVl_add_class : Value}
    {fl_add_member : Addr} {odl_add_member anl_add_member : Option Addr} {sll_add_member : Array (Option Value)} {ocl_add_member dcl_add_member pml_add_member cdl_add_member ctl_add_member kVl_add_member : Value}
    {fl_add_use : Addr} {odl_add_use anl_add_use : Option Addr} {sll_add_use : Array (Option Value)} {ocl_add_use dcl_add_use pml_add_use cdl_add_use ctl_add_use kVl_add_use : Value}
    {fl_ground : Addr} {odl_ground anl_ground : Option Addr} {sll_ground : Array (Option Value)} {ocl_ground dcl_ground pml_ground cdl_ground ctl_ground kVl_ground : Value}
    {fl_bag : Addr} {odl_bag anl_bag : Option Addr} {sll_bag : Array (Option Value)} {ocl_bag dcl_bag pml_bag cdl_bag ctl_bag kVl_bag : Value}
    {fl_again : Addr} {odl_again anl_again : Option Addr} {sll_again : Array (Option Value)} {ocl_again dcl_again pml_again cdl_again ctl_again kVl_again : Value}
    {fl_member_fault : Addr} {odl_member_fault anl_member_fault : Option Addr} {sll_member_fault : Array (Option Value)} {ocl_member_fault dcl_member_fault pml_member_fault cdl_member_fault ctl_member_fault kVl_member_fault : Value}
    {fl_try : Addr} {odl_try anl_try : Option Addr} {sll_try : Array (Option Value)} {ocl_try dcl_try pml_try cdl_try ctl_try kVl_try : Value}
    {flaw : Addr} {odlaw anlaw : Option Addr} {sllaw : Array (Option Value)} {oclaw dclaw pmlaw cdlaw ctlaw kVlaw : Value}
    {tg_MAKER : Tok}
    {nm_Joined q_Joined : Str} {NT_Joined : Addr} {bs_Joined : List Value} {CA_Joined : Addr} {sn_Joined : List Str} {sub_Joined : List Value} {ab_Joined : Bool} {col_Joined : Option Bool} {dd_Joined : Option Addr} {m0_Joined m1_Joined m3_Joined m5_Joined : Option Value} {n_Joined : Str} {tk_Joined : Tok}
    {nm_Misfit q_Misfit : Str} {NT_Misfit : Addr} {bs_Misfit : List Value} {CA_Misfit : Addr} {sn_Misfit : List Str} {sub_Misfit : List Value} {ab_Misfit : Bool} {col_Misfit : Option Bool} {dd_Misfit : Option Addr} {m0_Misfit m1_Misfit m3_Misfit m5_Misfit : Option Value} {n_Misfit : Str} {tk_Misfit : Tok}
    {nm_Taken q_Taken : Str} {NT_Taken : Addr} {bs_Taken : List Value} {CA_Taken : Addr} {sn_Taken : List Str} {sub_Taken : List Value} {ab_Taken : Bool} {col_Taken : Option Bool} {dd_Taken : Option Addr} {m0_Taken m1_Taken m3_Taken m5_Taken : Option Value} {n_Taken : Str} {tk_Taken : Tok}
    {nm_Unknown q_Unknown : Str} {NT_Unknown : Addr} {bs_Unknown : List Value} {CA_Unknown : Addr} {sn_Unknown : List Str} {sub_Unknown : List Value} {ab_Unknown : Bool} {col_Unknown : Option Bool} {dd_Unknown : Option Addr} {m0_Unknown m1_Unknown m3_Unknown m5_Unknown : Option Value} {n_Unknown : Str} {tk_Unknown : Tok}
    (z_ValueError : PySem.W.nsIn K mainGlobals "ValueError" = some none)
    (z_any : PySem.W.nsIn K mainGlobals "any" = some none)
    (z_int : PySem.W.nsIn K mainGlobals "int" = some none)
    (z_isinstance : PySem.W.nsIn K mainGlobals "isinstance" = some none)
    (z_len : PySem.W.nsIn K mainGlobals "len" = some none)
    (z_list : PySem.W.nsIn K mainGlobals "list" = some none)
    (z_range : PySem.W.nsIn K mainGlobals "range" = some none)
    (z_tuple : PySem.W.nsIn K mainGlobals "tuple" = some none)
    (aC_Packages : PySem.W.nsIn K mainGlobals "Packages" = some (some (.ref C_Packages)))
    (aC_Lineage : PySem.W.nsIn K mainGlobals "Lineage" = some (some (.ref C_Lineage)))
    (aC_Library : PySem.W.nsIn K mainGlobals "Library" = some (some (.ref C_Library)))
    (aE_Joined : PySem.W.nsIn K mainGlobals "Joined" = some (some (.ref E_Joined)))
    (aE_Misfit : PySem.W.nsIn K mainGlobals "Misfit" = some (some (.ref E_Misfit)))
    (aE_Taken : PySem.W.nsIn K mainGlobals "Taken" = some (some (.ref E_Taken)))
    (aE_Unknown : PySem.W.nsIn K mainGlobals "Unknown" = some (some (.ref E_Unknown)))
    (awording : PySem.W.nsIn K mainGlobals "_wording" = some (some (.ref fwording)))
    (lwording : K.lookup fwording = some ⟨ocwording, odwording, .func (PySem.W.fnOf "_wording" "_wording" (defArgs s_wording) (defBody s_wording) (defScope s_wording) .none kVwording dcwording pmwording anwording cdwording ctwording), slwording⟩)
    (cwording : PySem.W.codeIn K cdwording "_wording" = true)
    (kwording : PySem.W.keepIn K (.ref fwording) = true)
    (aAccessError_init_Joined : PySem.W.findIn K (.ref E_Joined) "__init__" = some (some (.ref fAccessError_init)))
    (lAccessError_init : K.lookup fAccessError_init = some ⟨ocAccessError_init, odAccessError_init, .func (PySem.W.fnOf "__init__" "AccessError.__init__" (defArgs s_AccessError_init) (defBody s_AccessError_init) (defScope s_AccessError_init) (.ref TD_AccessError_init) kVAccessError_init dcAccessError_init pmAccessError_init anAccessError_init cdAccessError_init ctAccessError_init), slAccessError_init⟩)
    (cAccessError_init : PySem.W.codeIn K cdAccessError_init "AccessError.__init__" = true)
    (kAccessError_init : PySem.W.keepIn K (.ref fAccessError_init) = true)
    (lTD_AccessError_init : K.lookup TD_AccessError_init = some ⟨.type "tuple", oTD_AccessError_init, .seq #[.none] nTD_AccessError_init, slTD_AccessError_init⟩)
    (aPackages_init_Packages : PySem.W.findIn K (.ref C_Packages) "__init__" = some (some (.ref fPackages_init)))
    (iPackages_init : PySem.W.isFn K (.ref fPackages_init) = true)
    (lPackages_init : K.lookup fPackages_init = some ⟨ocPackages_init, odPackages_init, .func (PySem.W.fnOf "__init__" "Packages.__init__" (defArgs s_Packages_init) (defBody s_Packages_init) (defScope s_Packages_init) .none kVPackages_init dcPackages_init pmPackages_init anPackages_init cdPackages_init ctPackages_init), slPackages_init⟩)
    (cPackages_init : PySem.W.codeIn K cdPackages_init "Packages.__init__" = true)
    (kPackages_init : PySem.W.keepIn K (.ref fPackages_init) = true)
    (aPackages_add_package_Packages : PySem.W.findIn K (.ref C_Packages) "add_package" = some (some (.ref fPackages_add_package)))
    (aPackages_add_package_Library : PySem.W.findIn K (.ref C_Library) "add_package" = some (some (.ref fPackages_add_package)))
    (iPackages_add_package : PySem.W.isFn K (.ref fPackages_add_package) = true)
    (lPackages_add_package : K.lookup fPackages_add_package = some ⟨ocPackages_add_package, odPackages_add_package, .func (PySem.W.fnOf "add_package" "Packages.add_package" (defArgs s_Packages_add_package) (defBody s_Packages_add_package) (defScope s_Packages_add_package) .none (.ref DK_Packages_add_package) dcPackages_add_package pmPackages_add_package anPackages_add_package cdPackages_add_package ctPackages_add_package), slPackages_add_package⟩)
    (cPackages_add_package : PySem.W.codeIn K cdPackages_add_package "Packages.add_package" = true)
    (kPackages_add_package : PySem.W.keepIn K (.ref fPackages_add_package) = true)
    (lD_Packages_add_package_sealed : PySem.W.nsIn K DK_Packages_add_package "sealed" = some (some (.bool false)))
    (aLineage_init_Lineage : PySem.W.findIn K (.ref C_Lineage) "__init__" = some (some (.ref fLineage_init)))
    (iLineage_init : PySem.W.isFn K (.ref fLineage_init) = true)
    (lLineage_init : K.lookup fLineage_init = some ⟨ocLineage_init, odLineage_init, .func (PySem.W.fnOf "__init__" "Lineage.__init__" (defArgs s_Lineage_init) (defBody s_Lineage_init) (defScope s_Lineage_init) .none kVLineage_init dcLineage_init pmLineage_init anLineage_init cdLineage_init ctLineage_init), slLineage_init⟩)
    (cLineage_init : PySem.W.codeIn K cdLineage_init "Lineage.__init__" = true)
    (kLineage_init : PySem.W.keepIn K (.ref fLineage_init) = true)
    (aLineage__check_known_Lineage : PySem.W.findIn K (.ref C_Lineage) "_check_known" = some (some (.ref fLineage__check_known)))
    (aLineage__check_known_Library : PySem.W.findIn K (.ref C_Library) "_check_known" = some (some (.ref fLineage__check_known)))
    (iLineage__check_known : PySem.W.isFn K (.ref fLineage__check_known) = true)
    (lLineage__check_known : K.lookup fLineage__check_known = some ⟨ocLineage__check_known, odLineage__check_known, .func (PySem.W.fnOf "_check_known" "Lineage._check_known" (defArgs s_Lineage__check_known) (defBody s_Lineage__check_known) (defScope s_Lineage__check_known) .none kVLineage__check_known dcLineage__check_known pmLineage__check_known anLineage__check_known cdLineage__check_known ctLineage__check_known), slLineage__check_known⟩)
    (cLineage__check_known : PySem.W.codeIn K cdLineage__check_known "Lineage._check_known" = true)
    (kLineage__check_known : PySem.W.keepIn K (.ref fLineage__check_known) = true)
    (aLineage__check_name_Lineage : PySem.W.findIn K (.ref C_Lineage) "_check_name" = some (some (.ref fLineage__check_name)))
    (aLineage__check_name_Library : PySem.W.findIn K (.ref C_Library) "_check_name" = some (some (.ref fLineage__check_name)))
    (iLineage__check_name : PySem.W.isFn K (.ref fLineage__check_name) = true)
    (lLineage__check_name : K.lookup fLineage__check_name = some ⟨ocLineage__check_name, odLineage__check_name, .func (PySem.W.fnOf "_check_name" "Lineage._check_name" (defArgs s_Lineage__check_name) (defBody s_Lineage__check_name) (defScope s_Lineage__check_name) .none kVLineage__check_name dcLineage__check_name pmLineage__check_name anLineage__check_name cdLineage__check_name ctLineage__check_name), slLineage__check_name⟩)
    (cLineage__check_name : PySem.W.codeIn K cdLineage__check_name "Lineage._check_name" = true)
    (kLineage__check_name : PySem.W.keepIn K (.ref fLineage__check_name) = true)
    (aLineage_first_unknown_Lineage : PySem.W.findIn K (.ref C_Lineage) "first_unknown" = some (some (.ref fLineage_first_unknown)))
    (aLineage_first_unknown_Library : PySem.W.findIn K (.ref C_Library) "first_unknown" = some (some (.ref fLineage_first_unknown)))
    (iLineage_first_unknown : PySem.W.isFn K (.ref fLineage_first_unknown) = true)
    (lLineage_first_unknown : K.lookup fLineage_first_unknown = some ⟨ocLineage_first_unknown, odLineage_first_unknown, .func (PySem.W.fnOf "first_unknown" "Lineage.first_unknown" (defArgs s_Lineage_first_unknown) (defBody s_Lineage_first_unknown) (defScope s_Lineage_first_unknown) .none kVLineage_first_unknown dcLineage_first_unknown pmLineage_first_unknown anLineage_first_unknown cdLineage_first_unknown ctLineage_first_unknown), slLineage_first_unknown⟩)
    (cLineage_first_unknown : PySem.W.codeIn K cdLineage_first_unknown "Lineage.first_unknown" = true)
    (kLineage_first_unknown : PySem.W.keepIn K (.ref fLineage_first_unknown) = true)
    (aLineage_first_joined_Lineage : PySem.W.findIn K (.ref C_Lineage) "first_joined" = some (some (.ref fLineage_first_joined)))
    (aLineage_first_joined_Library : PySem.W.findIn K (.ref C_Library) "first_joined" = some (some (.ref fLineage_first_joined)))
    (iLineage_first_joined : PySem.W.isFn K (.ref fLineage_first_joined) = true)
    (lLineage_first_joined : K.lookup fLineage_first_joined = some ⟨ocLineage_first_joined, odLineage_first_joined, .func (PySem.W.fnOf "first_joined" "Lineage.first_joined" (defArgs s_Lineage_first_joined) (defBody s_Lineage_first_joined) (defScope s_Lineage_first_joined) .none kVLineage_first_joined dcLineage_first_joined pmLineage_first_joined anLineage_first_joined cdLineage_first_joined ctLineage_first_joined), slLineage_first_joined⟩)
    (cLineage_first_joined : PySem.W.codeIn K cdLineage_first_joined "Lineage.first_joined" = true)
    (kLineage_first_joined : PySem.W.keepIn K (.ref fLineage_first_joined) = true)
    (aLineage__check_bases_Lineage : PySem.W.findIn K (.ref C_Lineage) "_check_bases" = some (some (.ref fLineage__check_bases)))
    (aLineage__check_bases_Library : PySem.W.findIn K (.ref C_Library) "_check_bases" = some (some (.ref fLineage__check_bases)))
    (iLineage__check_bases : PySem.W.isFn K (.ref fLineage__check_bases) = true)
    (lLineage__check_bases : K.lookup fLineage__check_bases = some ⟨ocLineage__check_bases, odLineage__check_bases, .func (PySem.W.fnOf "_check_bases" "Lineage._check_bases" (defArgs s_Lineage__check_bases) (defBody s_Lineage__check_bases) (defScope s_Lineage__check_bases) .none kVLineage__check_bases dcLineage__check_bases pmLineage__check_bases anLineage__check_bases cdLineage__check_bases ctLineage__check_bases), slLineage__check_bases⟩)
    (cLineage__check_bases : PySem.W.codeIn K cdLineage__check_bases "Lineage._check_bases" = true)
    (kLineage__check_bases : PySem.W.keepIn K (.ref fLineage__check_bases) = true)
    (aLineage_link_Lineage : PySem.W.findIn K (.ref C_Lineage) "link" = some (some (.ref fLineage_link)))
    (aLineage_link_Library : PySem.W.findIn K (.ref C_Library) "link" = some (some (.ref fLineage_link)))
    (iLineage_link : PySem.W.isFn K (.ref fLineage_link) = true)
    (lLineage_link : K.lookup fLineage_link = some ⟨ocLineage_link, odLineage_link, .func (PySem.W.fnOf "link" "Lineage.link" (defArgs s_Lineage_link) (defBody s_Lineage_link) (defScope s_Lineage_link) .none (.ref DK_Lineage_link) dcLineage_link pmLineage_link anLineage_link cdLineage_link ctLineage_link), slLineage_link⟩)
    (cLineage_link : PySem.W.codeIn K cdLineage_link "Lineage.link" = true)
    (kLineage_link : PySem.W.keepIn K (.ref fLineage_link) = true)
    (lD_Lineage_link_inside : PySem.W.nsIn K DK_Lineage_link "inside" = some (some (.none)))
    (lD_Lineage_link_bases : PySem.W.nsIn K DK_Lineage_link "bases" = some (some (.ref TT_Lineage_link_bases)))
    (lT_Lineage_link_bases : K.lookup TT_Lineage_link_bases = some ⟨.type "tuple", oTT_Lineage_link_bases, .seq #[] nTT_Lineage_link_bases, slTT_Lineage_link_bases⟩)
    (aLineage_is_below_Lineage : PySem.W.findIn K (.ref C_Lineage) "is_below" = some (some (.ref fLineage_is_below)))
    (aLineage_is_below_Library : PySem.W.findIn K (.ref C_Library) "is_below" = some (some (.ref fLineage_is_below)))
    (iLineage_is_below : PySem.W.isFn K (.ref fLineage_is_below) = true)
    (lLineage_is_below : K.lookup fLineage_is_below = some ⟨ocLineage_is_below, odLineage_is_below, .func (PySem.W.fnOf "is_below" "Lineage.is_below" (defArgs s_Lineage_is_below) (defBody s_Lineage_is_below) (defScope s_Lineage_is_below) .none kVLineage_is_below dcLineage_is_below pmLineage_is_below anLineage_is_below cdLineage_is_below ctLineage_is_below), slLineage_is_below⟩)
    (cLineage_is_below : PySem.W.codeIn K cdLineage_is_below "Lineage.is_below" = true)
    (kLineage_is_below : PySem.W.keepIn K (.ref fLineage_is_below) = true)
    (paLineage_classes_Lineage : PySem.W.findIn K (.ref C_Lineage) "classes" = some (some (.ref pLineage_classes_Lineage)))
    (pgLineage_classes_Lineage : PySem.W.specialIn K (.ref pLineage_classes_Lineage) "__get__" = some (some (.builtin "property.__get__")))
    (ptLineage_classes_Lineage : PySem.W.takesIn K (.ref pLineage_classes_Lineage) = some true)
    (prLineage_classes_Lineage : PySem.W.recIn K pLineage_classes_Lineage "property" = some (.ref fLineage_classes :: restLineage_classes_Lineage))
    (paLineage_classes_Library : PySem.W.findIn K (.ref C_Library) "classes" = some (some (.ref pLineage_classes_Library)))
    (pgLineage_classes_Library : PySem.W.specialIn K (.ref pLineage_classes_Library) "__get__" = some (some (.builtin "property.__get__")))
    (ptLineage_classes_Library : PySem.W.takesIn K (.ref pLineage_classes_Library) = some true)
    (prLineage_classes_Library : PySem.W.recIn K pLineage_classes_Library "property" = some (.ref fLineage_classes :: restLineage_classes_Library))
    (lLineage_classes : K.lookup fLineage_classes = some ⟨ocLineage_classes, odLineage_classes, .func (PySem.W.fnOf "classes" "Lineage.classes" (defArgs s_Lineage_classes) (defBody s_Lineage_classes) (defScope s_Lineage_classes) .none kVLineage_classes dcLineage_classes pmLineage_classes anLineage_classes cdLineage_classes ctLineage_classes), slLineage_classes⟩)
    (cLineage_classes : PySem.W.codeIn K cdLineage_classes "Lineage.classes" = true)
    (kLineage_classes : PySem.W.keepIn K (.ref fLineage_classes) = true)
    (aLibrary_init_Library : PySem.W.findIn K (.ref C_Library) "__init__" = some (some (.ref fLibrary_init)))
    (iLibrary_init : PySem.W.isFn K (.ref fLibrary_init) = true)
    (lLibrary_init : K.lookup fLibrary_init = some ⟨ocLibrary_init, odLibrary_init, .func (PySem.W.fnOf "__init__" "Library.__init__" (defArgs s_Library_init) (defBody s_Library_init) (defScope s_Library_init) .none kVLibrary_init dcLibrary_init pmLibrary_init anLibrary_init cdLibrary_init ctLibrary_init), slLibrary_init⟩)
    (cLibrary_init : PySem.W.codeIn K cdLibrary_init "Library.__init__" = true)
    (kLibrary_init : PySem.W.keepIn K (.ref fLibrary_init) = true)
    (aLibrary_package_of_Library : PySem.W.findIn K (.ref C_Library) "package_of" = some (some (.ref fLibrary_package_of)))
    (iLibrary_package_of : PySem.W.isFn K (.ref fLibrary_package_of) = true)
    (lLibrary_package_of : K.lookup fLibrary_package_of = some ⟨ocLibrary_package_of, odLibrary_package_of, .func (PySem.W.fnOf "package_of" "Library.package_of" (defArgs s_Library_package_of) (defBody s_Library_package_of) (defScope s_Library_package_of) .none kVLibrary_package_of dcLibrary_package_of pmLibrary_package_of anLibrary_package_of cdLibrary_package_of ctLibrary_package_of), slLibrary_package_of⟩)
    (cLibrary_package_of : PySem.W.codeIn K cdLibrary_package_of "Library.package_of" = true)
    (kLibrary_package_of : PySem.W.keepIn K (.ref fLibrary_package_of) = true)
    (aLibrary_add_later_Library : PySem.W.findIn K (.ref C_Library) "add_later" = some (some (.ref fLibrary_add_later)))
    (iLibrary_add_later : PySem.W.isFn K (.ref fLibrary_add_later) = true)
    (lLibrary_add_later : K.lookup fLibrary_add_later = some ⟨ocLibrary_add_later, odLibrary_add_later, .func (PySem.W.fnOf "add_later" "Library.add_later" (defArgs s_Library_add_later) (defBody s_Library_add_later) (defScope s_Library_add_later) .none kVLibrary_add_later dcLibrary_add_later pmLibrary_add_later anLibrary_add_later cdLibrary_add_later ctLibrary_add_later), slLibrary_add_later⟩)
    (cLibrary_add_later : PySem.W.codeIn K cdLibrary_add_later "Library.add_later" = true)
    (kLibrary_add_later : PySem.W.keepIn K (.ref fLibrary_add_later) = true)
    (aLibrary_add_class_Library : PySem.W.findIn K (.ref C_Library) "add_class" = some (some (.ref fLibrary_add_class)))
    (iLibrary_add_class : PySem.W.isFn K (.ref fLibrary_add_class) = true)
    (lLibrary_add_class : K.lookup fLibrary_add_class = some ⟨ocLibrary_add_class, odLibrary_add_class, .func (PySem.W.fnOf "add_class" "Library.add_class" (defArgs s_Library_add_class) (defBody s_Library_add_class) (defScope s_Library_add_class) .none (.ref DK_Library_add_class) dcLibrary_add_class pmLibrary_add_class anLibrary_add_class cdLibrary_add_class ctLibrary_add_class), slLibrary_add_class⟩)
    (cLibrary_add_class : PySem.W.codeIn K cdLibrary_add_class "Library.add_class" = true)
    (kLibrary_add_class : PySem.W.keepIn K (.ref fLibrary_add_class) = true)
    (lD_Library_add_class_package : PySem.W.nsIn K DK_Library_add_class "package" = some (some (.none)))
    (lD_Library_add_class_inside : PySem.W.nsIn K DK_Library_add_class "inside" = some (some (.none)))
    (lD_Library_add_class_bases : PySem.W.nsIn K DK_Library_add_class "bases" = some (some (.ref TT_Library_add_class_bases)))
    (lT_Library_add_class_bases : K.lookup TT_Library_add_class_bases = some ⟨.type "tuple", oTT_Library_add_class_bases, .seq #[] nTT_Library_add_class_bases, slTT_Library_add_class_bases⟩)
    (aLibrary__may_declare_Library : PySem.W.findIn K (.ref C_Library) "_may_declare" = some (some (.ref fLibrary__may_declare)))
    (iLibrary__may_declare : PySem.W.isFn K (.ref fLibrary__may_declare) = true)
    (lLibrary__may_declare : K.lookup fLibrary__may_declare = some ⟨ocLibrary__may_declare, odLibrary__may_declare, .func (PySem.W.fnOf "_may_declare" "Library._may_declare" (defArgs s_Library__may_declare) (defBody s_Library__may_declare) (defScope s_Library__may_declare) .none kVLibrary__may_declare dcLibrary__may_declare pmLibrary__may_declare anLibrary__may_declare cdLibrary__may_declare ctLibrary__may_declare), slLibrary__may_declare⟩)
    (cLibrary__may_declare : PySem.W.codeIn K cdLibrary__may_declare "Library._may_declare" = true)
    (kLibrary__may_declare : PySem.W.keepIn K (.ref fLibrary__may_declare) = true)
    (aLibrary_add_member_Library : PySem.W.findIn K (.ref C_Library) "add_member" = some (some (.ref fLibrary_add_member)))
    (iLibrary_add_member : PySem.W.isFn K (.ref fLibrary_add_member) = true)
    (lLibrary_add_member : K.lookup fLibrary_add_member = some ⟨ocLibrary_add_member, odLibrary_add_member, .func (PySem.W.fnOf "add_member" "Library.add_member" (defArgs s_Library_add_member) (defBody s_Library_add_member) (defScope s_Library_add_member) .none (.ref DK_Library_add_member) dcLibrary_add_member pmLibrary_add_member anLibrary_add_member cdLibrary_add_member ctLibrary_add_member), slLibrary_add_member⟩)
    (cLibrary_add_member : PySem.W.codeIn K cdLibrary_add_member "Library.add_member" = true)
    (kLibrary_add_member : PySem.W.keepIn K (.ref fLibrary_add_member) = true)
    (lD_Library_add_member_write : PySem.W.nsIn K DK_Library_add_member "write" = some (some (.none)))
    (aLibrary__base_towards_Library : PySem.W.findIn K (.ref C_Library) "_base_towards" = some (some (.ref fLibrary__base_towards)))
    (iLibrary__base_towards : PySem.W.isFn K (.ref fLibrary__base_towards) = true)
    (lLibrary__base_towards : K.lookup fLibrary__base_towards = some ⟨ocLibrary__base_towards, odLibrary__base_towards, .func (PySem.W.fnOf "_base_towards" "Library._base_towards" (defArgs s_Library__base_towards) (defBody s_Library__base_towards) (defScope s_Library__base_towards) .none kVLibrary__base_towards dcLibrary__base_towards pmLibrary__base_towards anLibrary__base_towards cdLibrary__base_towards ctLibrary__base_towards), slLibrary__base_towards⟩)
    (cLibrary__base_towards : PySem.W.codeIn K cdLibrary__base_towards "Library._base_towards" = true)
    (kLibrary__base_towards : PySem.W.keepIn K (.ref fLibrary__base_towards) = true)
    (aLibrary_owner_of_Library : PySem.W.findIn K (.ref C_Library) "owner_of" = some (some (.ref fLibrary_owner_of)))
    (iLibrary_owner_of : PySem.W.isFn K (.ref fLibrary_owner_of) = true)
    (lLibrary_owner_of : K.lookup fLibrary_owner_of = some ⟨ocLibrary_owner_of, odLibrary_owner_of, .func (PySem.W.fnOf "owner_of" "Library.owner_of" (defArgs s_Library_owner_of) (defBody s_Library_owner_of) (defScope s_Library_owner_of) .none kVLibrary_owner_of dcLibrary_owner_of pmLibrary_owner_of anLibrary_owner_of cdLibrary_owner_of ctLibrary_owner_of), slLibrary_owner_of⟩)
    (cLibrary_owner_of : PySem.W.codeIn K cdLibrary_owner_of "Library.owner_of" = true)
    (kLibrary_owner_of : PySem.W.keepIn K (.ref fLibrary_owner_of) = true)
    (aLibrary_level_of_Library : PySem.W.findIn K (.ref C_Library) "level_of" = some (some (.ref fLibrary_level_of)))
    (iLibrary_level_of : PySem.W.isFn K (.ref fLibrary_level_of) = true)
    (lLibrary_level_of : K.lookup fLibrary_level_of = some ⟨ocLibrary_level_of, odLibrary_level_of, .func (PySem.W.fnOf "level_of" "Library.level_of" (defArgs s_Library_level_of) (defBody s_Library_level_of) (defScope s_Library_level_of) .none kVLibrary_level_of dcLibrary_level_of pmLibrary_level_of anLibrary_level_of cdLibrary_level_of ctLibrary_level_of), slLibrary_level_of⟩)
    (cLibrary_level_of : PySem.W.codeIn K cdLibrary_level_of "Library.level_of" = true)
    (kLibrary_level_of : PySem.W.keepIn K (.ref fLibrary_level_of) = true)
    (paLibrary_marks_Library : PySem.W.findIn K (.ref C_Library) "marks" = some (some (.ref pLibrary_marks_Library)))
    (pgLibrary_marks_Library : PySem.W.specialIn K (.ref pLibrary_marks_Library) "__get__" = some (some (.builtin "property.__get__")))
    (ptLibrary_marks_Library : PySem.W.takesIn K (.ref pLibrary_marks_Library) = some true)
    (prLibrary_marks_Library : PySem.W.recIn K pLibrary_marks_Library "property" = some (.ref fLibrary_marks :: restLibrary_marks_Library))
    (lLibrary_marks : K.lookup fLibrary_marks = some ⟨ocLibrary_marks, odLibrary_marks, .func (PySem.W.fnOf "marks" "Library.marks" (defArgs s_Library_marks) (defBody s_Library_marks) (defScope s_Library_marks) .none kVLibrary_marks dcLibrary_marks pmLibrary_marks anLibrary_marks cdLibrary_marks ctLibrary_marks), slLibrary_marks⟩)
    (cLibrary_marks : PySem.W.codeIn K cdLibrary_marks "Library.marks" = true)
    (kLibrary_marks : PySem.W.keepIn K (.ref fLibrary_marks) = true)
    (al_digits : PySem.W.nsIn K mainGlobals "_law_digits" = some (some (.ref fl_digits)))
    (ll_digits : K.lookup fl_digits = some ⟨ocl_digits, odl_digits, .func (PySem.W.fnOf "_law_digits" "_law_digits" (defArgs s_l_digits) (defBody s_l_digits) (defScope s_l_digits) .none kVl_digits dcl_digits pml_digits anl_digits cdl_digits ctl_digits), sll_digits⟩)
    (cl_digits : PySem.W.codeIn K cdl_digits "_law_digits" = true)
    (kl_digits : PySem.W.keepIn K (.ref fl_digits) = true)
    (al_name : PySem.W.nsIn K mainGlobals "_law_name" = some (some (.ref fl_name)))
    (ll_name : K.lookup fl_name = some ⟨ocl_name, odl_name, .func (PySem.W.fnOf "_law_name" "_law_name" (defArgs s_l_name) (defBody s_l_name) (defScope s_l_name) .none kVl_name dcl_name pml_name anl_name cdl_name ctl_name), sll_name⟩)
    (cl_name : PySem.W.codeIn K cdl_name "_law_name" = true)
    (kl_name : PySem.W.keepIn K (.ref fl_name) = true)
    (al_products : PySem.W.nsIn K mainGlobals "_law_products" = some (some (.ref fl_products)))
    (ll_products : K.lookup fl_products = some ⟨ocl_products, odl_products, .func (PySem.W.fnOf "_law_products" "_law_products" (defArgs s_l_products) (defBody s_l_products) (defScope s_l_products) .none kVl_products dcl_products pml_products anl_products cdl_products ctl_products), sll_products⟩)
    (cl_products : PySem.W.codeIn K cdl_products "_law_products" = true)
    (kl_products : PySem.W.keepIn K (.ref fl_products) = true)
    (al_inside : PySem.W.nsIn K mainGlobals "_law_inside" = some (some (.ref fl_inside)))
    (ll_inside : K.lookup fl_inside = some ⟨ocl_inside, odl_inside, .func (PySem.W.fnOf "_law_inside" "_law_inside" (defArgs s_l_inside) (defBody s_l_inside) (defScope s_l_inside) .none kVl_inside dcl_inside pml_inside anl_inside cdl_inside ctl_inside), sll_inside⟩)
    (cl_inside : PySem.W.codeIn K cdl_inside "_law_inside" = true)
    (kl_inside : PySem.W.keepIn K (.ref fl_inside) = true)
    (al_up : PySem.W.nsIn K mainGlobals "_law_up" = some (some (.ref fl_up)))
    (ll_up : K.lookup fl_up = some ⟨ocl_up, odl_up, .func (PySem.W.fnOf "_law_up" "_law_up" (defArgs s_l_up) (defBody s_l_up) (defScope s_l_up) .none kVl_up dcl_up pml_up anl_up cdl_up ctl_up), sll_up⟩)
    (cl_up : PySem.W.codeIn K cdl_up "_law_up" = true)
    (kl_up : PySem.W.keepIn K (.ref fl_up) = true)
    (al_joins : PySem.W.nsIn K mainGlobals "_law_joins" = some (some (.ref fl_joins)))
    (ll_joins : K.lookup fl_joins = some ⟨ocl_joins, odl_joins, .func (PySem.W.fnOf "_law_joins" "_law_joins" (defArgs s_l_joins) (defBody s_l_joins) (defScope s_l_joins) .none kVl_joins dcl_joins pml_joins anl_joins cdl_joins ctl_joins), sll_joins⟩)
    (cl_joins : PySem.W.codeIn K cdl_joins "_law_joins" = true)
    (kl_joins : PySem.W.keepIn K (.ref fl_joins) = true)
    (al_owner : PySem.W.nsIn K mainGlobals "_law_owner" = some (some (.ref fl_owner)))
    (ll_owner : K.lookup fl_owner = some ⟨ocl_owner, odl_owner, .func (PySem.W.fnOf "_law_owner" "_law_owner" (defArgs s_l_owner) (defBody s_l_owner) (defScope s_l_owner) .none kVl_owner dcl_owner pml_owner anl_owner cdl_owner ctl_owner), sll_owner⟩)
    (cl_owner : PySem.W.codeIn K cdl_owner "_law_owner" = true)
    (kl_owner : PySem.W.keepIn K (.ref fl_owner) = true)
    (al_note : PySem.W.nsIn K mainGlobals "_law_note" = some (some (.ref fl_note)))
    (ll_note : K.lookup fl_note = some ⟨ocl_note, odl_note, .func (PySem.W.fnOf "_law_note" "_law_note" (defArgs s_l_note) (defBody s_l_note) (defScope s_l_note) .none kVl_note dcl_note pml_note anl_note cdl_note ctl_note), sll_note⟩)
    (cl_note : PySem.W.codeIn K cdl_note "_law_note" = true)
    (kl_note : PySem.W.keepIn K (.ref fl_note) = true)
    (al_add_class : PySem.W.nsIn K mainGlobals "_law_add_class" = some (some (.ref fl_add_class)))
    (ll_add_class : K.lookup fl_add_class = some ⟨ocl_add_class, odl_add_class, .func (PySem.W.fnOf "_law_add_class" "_law_add_class" (defArgs s_l_add_class) (defBody s_l_add_class) (defScope s_l_add_class) .none kVl_add_class dcl_add_class pml_add_class anl_add_class cdl_add_class ctl_add_class), sll_add_class⟩)
    (cl_add_class : PySem.W.codeIn K cdl_add_class "_law_add_class" = true)
    (kl_add_class : PySem.W.keepIn K (.ref fl_add_class) = true)
    (al_add_member : PySem.W.nsIn K mainGlobals "_law_add_member" = some (some (.ref fl_add_member)))
    (ll_add_member : K.lookup fl_add_member = some ⟨ocl_add_member, odl_add_member, .func (PySem.W.fnOf "_law_add_member" "_law_add_member" (defArgs s_l_add_member) (defBody s_l_add_member) (defScope s_l_add_member) .none kVl_add_member dcl_add_member pml_add_member anl_add_member cdl_add_member ctl_add_member), sll_add_member⟩)
    (cl_add_member : PySem.W.codeIn K cdl_add_member "_law_add_member" = true)
    (kl_add_member : PySem.W.keepIn K (.ref fl_add_member) = true)
    (al_add_use : PySem.W.nsIn K mainGlobals "_law_add_use" = some (some (.ref fl_add_use)))
    (ll_add_use : K.lookup fl_add_use = some ⟨ocl_add_use, odl_add_use, .func (PySem.W.fnOf "_law_add_use" "_law_add_use" (defArgs s_l_add_use) (defBody s_l_add_use) (defScope s_l_add_use) .none kVl_add_use dcl_add_use pml_add_use anl_add_use cdl_add_use ctl_add_use), sll_add_use⟩)
    (cl_add_use : PySem.W.codeIn K cdl_add_use "_law_add_use" = true)
    (kl_add_use : PySem.W.keepIn K (.ref fl_add_use) = true)
    (al_ground : PySem.W.nsIn K mainGlobals "_law_ground" = some (some (.ref fl_ground)))
    (ll_ground : K.lookup fl_ground = some ⟨ocl_ground, odl_ground, .func (PySem.W.fnOf "_law_ground" "_law_ground" (defArgs s_l_ground) (defBody s_l_ground) (defScope s_l_ground) .none kVl_ground dcl_ground pml_ground anl_ground cdl_ground ctl_ground), sll_ground⟩)
    (cl_ground : PySem.W.codeIn K cdl_ground "_law_ground" = true)
    (kl_ground : PySem.W.keepIn K (.ref fl_ground) = true)
    (al_bag : PySem.W.nsIn K mainGlobals "_law_bag" = some (some (.ref fl_bag)))
    (ll_bag : K.lookup fl_bag = some ⟨ocl_bag, odl_bag, .func (PySem.W.fnOf "_law_bag" "_law_bag" (defArgs s_l_bag) (defBody s_l_bag) (defScope s_l_bag) .none kVl_bag dcl_bag pml_bag anl_bag cdl_bag ctl_bag), sll_bag⟩)
    (cl_bag : PySem.W.codeIn K cdl_bag "_law_bag" = true)
    (kl_bag : PySem.W.keepIn K (.ref fl_bag) = true)
    (al_again : PySem.W.nsIn K mainGlobals "_law_again" = some (some (.ref fl_again)))
    (ll_again : K.lookup fl_again = some ⟨ocl_again, odl_again, .func (PySem.W.fnOf "_law_again" "_law_again" (defArgs s_l_again) (defBody s_l_again) (defScope s_l_again) .none kVl_again dcl_again pml_again anl_again cdl_again ctl_again), sll_again⟩)
    (cl_again : PySem.W.codeIn K cdl_again "_law_again" = true)
    (kl_again : PySem.W.keepIn K (.ref fl_again) = true)
    (al_member_fault : PySem.W.nsIn K mainGlobals "_law_member_fault" = some (some (.ref fl_member_fault)))
    (ll_member_fault : K.lookup fl_member_fault = some ⟨ocl_member_fault, odl_member_fault, .func (PySem.W.fnOf "_law_member_fault" "_law_member_fault" (defArgs s_l_member_fault) (defBody s_l_member_fault) (defScope s_l_member_fault) .none kVl_member_fault dcl_member_fault pml_member_fault anl_member_fault cdl_member_fault ctl_member_fault), sll_member_fault⟩)
    (cl_member_fault : PySem.W.codeIn K cdl_member_fault "_law_member_fault" = true)
    (kl_member_fault : PySem.W.keepIn K (.ref fl_member_fault) = true)
    (al_try : PySem.W.nsIn K mainGlobals "_law_try" = some (some (.ref fl_try)))
    (ll_try : K.lookup fl_try = some ⟨ocl_try, odl_try, .func (PySem.W.fnOf "_law_try" "_law_try" (defArgs s_l_try) (defBody s_l_try) (defScope s_l_try) .none kVl_try dcl_try pml_try anl_try cdl_try ctl_try), sll_try⟩)
    (cl_try : PySem.W.codeIn K cdl_try "_law_try" = true)
    (kl_try : PySem.W.keepIn K (.ref fl_try) = true)
    (alaw : PySem.W.nsIn K mainGlobals "law" = some (some (.ref flaw)))
    (llaw : K.lookup flaw = some ⟨oclaw, odlaw, .func (PySem.W.fnOf "law" "law" (defArgs s_law) (defBody s_law) (defScope s_law) .none kVlaw dclaw pmlaw anlaw cdlaw ctlaw), sllaw⟩)
    (claw : PySem.W.codeIn K cdlaw "law" = true)
    (klaw : PySem.W.keepIn K (.ref flaw) = true)
    (pg_Packages : PySem.W.plainGet K C_Packages Str.empty = true)
    (hd_Packages : PySem.W.hasDictIn K C_Packages = true)
    (po_Packages : PySem.W.plainOver K C_Packages = true)
    (sa_Packages : PySem.W.findIn K (.ref C_Packages) "__setattr__" = some (some (.builtin "object.__setattr__")))
    (mk_Packages : PySem.W.makesIn K C_Packages = true)
    (kc_Packages : PySem.W.keepIn K (.ref C_Packages) = true)
    (pg_Lineage : PySem.W.plainGet K C_Lineage Str.empty = true)
    (hd_Lineage : PySem.W.hasDictIn K C_Lineage = true)
    (po_Lineage : PySem.W.plainOver K C_Lineage = true)
    (sa_Lineage : PySem.W.findIn K (.ref C_Lineage) "__setattr__" = some (some (.builtin "object.__setattr__")))
    (mk_Lineage : PySem.W.makesIn K C_Lineage = true)
    (kc_Lineage : PySem.W.keepIn K (.ref C_Lineage) = true)
    (pg_Library : PySem.W.plainGet K C_Library Str.empty = true)
    (hd_Library : PySem.W.hasDictIn K C_Library = true)
    (po_Library : PySem.W.plainOver K C_Library = true)
    (sa_Library : PySem.W.findIn K (.ref C_Library) "__setattr__" = some (some (.builtin "object.__setattr__")))
    (mk_Library : PySem.W.makesIn K C_Library = true)
    (kc_Library : PySem.W.keepIn K (.ref C_Library) = true)
    (nf_bases_Lineage : PySem.W.findIn K (.ref C_Lineage) "_bases" = some none)
    (nf_bases_Library : PySem.W.findIn K (.ref C_Library) "_bases" = some none)
    (nf_kinds_Library : PySem.W.findIn K (.ref C_Library) "_kinds" = some none)
    (nf_levels_Library : PySem.W.findIn K (.ref C_Library) "_levels" = some none)
    (nf_lines_Lineage : PySem.W.findIn K (.ref C_Lineage) "_lines" = some none)
    (nf_lines_Library : PySem.W.findIn K (.ref C_Library) "_lines" = some none)
    (nf_outer_Lineage : PySem.W.findIn K (.ref C_Lineage) "_outer" = some none)
    (nf_outer_Library : PySem.W.findIn K (.ref C_Library) "_outer" = some none)
    (nf_packages_Library : PySem.W.findIn K (.ref C_Library) "_packages" = some none)
    (nf_roots_Library : PySem.W.findIn K (.ref C_Library) "_roots" = some none)
    (nf_sealed_Packages : PySem.W.findIn K (.ref C_Packages) "_sealed" = some none)
    (nf_sealed_Library : PySem.W.findIn K (.ref C_Library) "_sealed" = some none)
    (nf_uses_Library : PySem.W.findIn K (.ref C_Library) "_uses" = some none)
    (cr_Lineage___init__ : PySem.W.readsIn K C_Lineage (.type "type") = true)
    (cg_Lineage___init__ : PySem.W.specialIn K (.ref C_Lineage) "__getattribute__" = some (some (.builtin "type.__getattribute__")))
    (cv_Lineage___init__ : PySem.W.findCls K (.ref C_Lineage) (.type "type") "__init__" = some (.val (.ref fLineage_init)))
    (cr_Packages___init__ : PySem.W.readsIn K C_Packages (.type "type") = true)
    (cg_Packages___init__ : PySem.W.specialIn K (.ref C_Packages) "__getattribute__" = some (some (.builtin "type.__getattribute__")))
    (cv_Packages___init__ : PySem.W.findCls K (.ref C_Packages) (.type "type") "__init__" = some (.val (.ref fPackages_init)))
    (gs_MAKER : PySem.W.nsIn K mainGlobals "MAKER" = some (some (.str "new" tg_MAKER)))
    (tiA : PySem.W.typeIn K (.ref fAccessError_init) = some (.type "function"))
    (ve : PySem.W.findCls K (.type "ValueError") (.type "type") "__init__" = some (.val (.builtin "ValueError.__init__")))
    (x_Joined : K.lookup E_Joined = some (excClassObj nm_Joined q_Joined E_Joined NT_Joined bs_Joined [.ref CA_Joined, .type "ValueError", .type "Exception", .type "BaseException", .type "object"] true sn_Joined sub_Joined ab_Joined col_Joined dd_Joined m0_Joined m1_Joined (some (.str n_Joined tk_Joined)) m3_Joined m5_Joined "ValueError.__new__"))
    (hn_Joined : n_Joined.length ≤ 1000)
    (sa_Joined : PySem.W.findIn K (.ref E_Joined) "__setattr__" = some (some (.builtin "object.__setattr__")))
    (exb_Joined : PySem.W.subIn K (.ref E_Joined) (.type "BaseException") = some true)
    (ty_Joined : PySem.W.typeIn K (.ref E_Joined) = some (.type "type"))
    (kc_Joined : PySem.W.keepIn K (.ref E_Joined) = true)
    (ga_Joined : PySem.W.findIn K (.ref E_Joined) "__getattribute__" = some (some (.builtin "BaseException.__getattribute__")))
    (gg_Joined : PySem.W.findIn K (.ref E_Joined) "__getattr__" = some none)
    (hd_Joined : PySem.W.hasDictIn K E_Joined = true)
    (cl_Joined : PySem.W.findIn K (.ref E_Joined) "__class__" = some (some (.builtin "object.__class__")))
    (spc_Joined : PySem.W.specialIn K (.builtin "object.__class__") "__get__" = some (some (.builtin "getset_descriptor.__get__")))
    (tkc_Joined : PySem.W.takesIn K (.builtin "object.__class__") = some true)
    (mr2_Joined : PySem.W.mroIn K E_Joined (.type "object") = some true)
    (rd_Joined : PySem.W.readsIn K E_Joined (.type "type") = true)
    (nn_Joined : PySem.W.findCls K (.ref E_Joined) (.type "type") "__name__" = some (.get (.builtin "getset_descriptor.__get__") (.builtin "type.__name__") (.ref E_Joined) (.type "type")))
    (wh_Joined : PySem.W.findIn K (.ref E_Joined) "what" = some none)
    (ro_Joined : PySem.W.findIn K (.ref E_Joined) "row" = some none)
    (x_Misfit : K.lookup E_Misfit = some (excClassObj nm_Misfit q_Misfit E_Misfit NT_Misfit bs_Misfit [.ref CA_Misfit, .type "ValueError", .type "Exception", .type "BaseException", .type "object"] true sn_Misfit sub_Misfit ab_Misfit col_Misfit dd_Misfit m0_Misfit m1_Misfit (some (.str n_Misfit tk_Misfit)) m3_Misfit m5_Misfit "ValueError.__new__"))
    (hn_Misfit : n_Misfit.length ≤ 1000)
    (sa_Misfit : PySem.W.findIn K (.ref E_Misfit) "__setattr__" = some (some (.builtin "object.__setattr__")))
    (exb_Misfit : PySem.W.subIn K (.ref E_Misfit) (.type "BaseException") = some true)
    (ty_Misfit : PySem.W.typeIn K (.ref E_Misfit) = some (.type "type"))
    (kc_Misfit : PySem.W.keepIn K (.ref E_Misfit) = true)
    (ga_Misfit : PySem.W.findIn K (.ref E_Misfit) "__getattribute__" = some (some (.builtin "BaseException.__getattribute__")))
    (gg_Misfit : PySem.W.findIn K (.ref E_Misfit) "__getattr__" = some none)
    (hd_Misfit : PySem.W.hasDictIn K E_Misfit = true)
    (cl_Misfit : PySem.W.findIn K (.ref E_Misfit) "__class__" = some (some (.builtin "object.__class__")))
    (spc_Misfit : PySem.W.specialIn K (.builtin "object.__class__") "__get__" = some (some (.builtin "getset_descriptor.__get__")))
    (tkc_Misfit : PySem.W.takesIn K (.builtin "object.__class__") = some true)
    (mr2_Misfit : PySem.W.mroIn K E_Misfit (.type "object") = some true)
    (rd_Misfit : PySem.W.readsIn K E_Misfit (.type "type") = true)
    (nn_Misfit : PySem.W.findCls K (.ref E_Misfit) (.type "type") "__name__" = some (.get (.builtin "getset_descriptor.__get__") (.builtin "type.__name__") (.ref E_Misfit) (.type "type")))
    (wh_Misfit : PySem.W.findIn K (.ref E_Misfit) "what" = some none)
    (ro_Misfit : PySem.W.findIn K (.ref E_Misfit) "row" = some none)
    (aAccessError_init_Misfit : PySem.W.findIn K (.ref E_Misfit) "__init__" = some (some (.ref fAccessError_init)))
    (x_Taken : K.lookup E_Taken = some (excClassObj nm_Taken q_Taken E_Taken NT_Taken bs_Taken [.ref CA_Taken, .type "ValueError", .type "Exception", .type "BaseException", .type "object"] true sn_Taken sub_Taken ab_Taken col_Taken dd_Taken m0_Taken m1_Taken (some (.str n_Taken tk_Taken)) m3_Taken m5_Taken "ValueError.__new__"))
    (hn_Taken : n_Taken.length ≤ 1000)
    (sa_Taken : PySem.W.findIn K (.ref E_Taken) "__setattr__" = some (some (.builtin "object.__setattr__")))
    (exb_Taken : PySem.W.subIn K (.ref E_Taken) (.type "BaseException") = some true)
    (ty_Taken : PySem.W.typeIn K (.ref E_Taken) = some (.type "type"))
    (kc_Taken : PySem.W.keepIn K (.ref E_Taken) = true)
    (ga_Taken : PySem.W.findIn K (.ref E_Taken) "__getattribute__" = some (some (.builtin "BaseException.__getattribute__")))
    (gg_Taken : PySem.W.findIn K (.ref E_Taken) "__getattr__" = some none)
    (hd_Taken : PySem.W.hasDictIn K E_Taken = true)
    (cl_Taken : PySem.W.findIn K (.ref E_Taken) "__class__" = some (some (.builtin "object.__class__")))
    (spc_Taken : PySem.W.specialIn K (.builtin "object.__class__") "__get__" = some (some (.builtin "getset_descriptor.__get__")))
    (tkc_Taken : PySem.W.takesIn K (.builtin "object.__class__") = some true)
    (mr2_Taken : PySem.W.mroIn K E_Taken (.type "object") = some true)
    (rd_Taken : PySem.W.readsIn K E_Taken (.type "type") = true)
    (nn_Taken : PySem.W.findCls K (.ref E_Taken) (.type "type") "__name__" = some (.get (.builtin "getset_descriptor.__get__") (.builtin "type.__name__") (.ref E_Taken) (.type "type")))
    (wh_Taken : PySem.W.findIn K (.ref E_Taken) "what" = some none)
    (ro_Taken : PySem.W.findIn K (.ref E_Taken) "row" = some none)
    (aAccessError_init_Taken : PySem.W.findIn K (.ref E_Taken) "__init__" = some (some (.ref fAccessError_init)))
    (x_Unknown : K.lookup E_Unknown = some (excClassObj nm_Unknown q_Unknown E_Unknown NT_Unknown bs_Unknown [.ref CA_Unknown, .type "ValueError", .type "Exception", .type "BaseException", .type "object"] true sn_Unknown sub_Unknown ab_Unknown col_Unknown dd_Unknown m0_Unknown m1_Unknown (some (.str n_Unknown tk_Unknown)) m3_Unknown m5_Unknown "ValueError.__new__"))
    (hn_Unknown : n_Unknown.length ≤ 1000)
    (sa_Unknown : PySem.W.findIn K (.ref E_Unknown) "__setattr__" = some (some (.builtin "object.__setattr__")))
    (exb_Unknown : PySem.W.subIn K (.ref E_Unknown) (.type "BaseException") = some true)
    (ty_Unknown : PySem.W.typeIn K (.ref E_Unknown) = some (.type "type"))
    (kc_Unknown : PySem.W.keepIn K (.ref E_Unknown) = true)
    (ga_Unknown : PySem.W.findIn K (.ref E_Unknown) "__getattribute__" = some (some (.builtin "BaseException.__getattribute__")))
    (gg_Unknown : PySem.W.findIn K (.ref E_Unknown) "__getattr__" = some none)
    (hd_Unknown : PySem.W.hasDictIn K E_Unknown = true)
    (cl_Unknown : PySem.W.findIn K (.ref E_Unknown) "__class__" = some (some (.builtin "object.__class__")))
    (spc_Unknown : PySem.W.specialIn K (.builtin "object.__class__") "__get__" = some (some (.builtin "getset_descriptor.__get__")))
    (tkc_Unknown : PySem.W.takesIn K (.builtin "object.__class__") = some true)
    (mr2_Unknown : PySem.W.mroIn K E_Unknown (.type "object") = some true)
    (rd_Unknown : PySem.W.readsIn K E_Unknown (.type "type") = true)
    (nn_Unknown : PySem.W.findCls K (.ref E_Unknown) (.type "type") "__name__" = some (.get (.builtin "getset_descriptor.__get__") (.builtin "type.__name__") (.ref E_Unknown) (.type "type")))
    (wh_Unknown : PySem.W.findIn K (.ref E_Unknown) "what" = some none)
    (ro_Unknown : PySem.W.findIn K (.ref E_Unknown) "row" = some none)
    (aAccessError_init_Unknown : PySem.W.findIn K (.ref E_Unknown) "__init__" = some (some (.ref fAccessError_init)))
    (su_Joined_Misfit : PySem.W.subIn K (.ref E_Joined) (.ref E_Misfit) = some false)
    (su_Misfit_Misfit : PySem.W.subIn K (.ref E_Misfit) (.ref E_Misfit) = some true)
    (su_Taken_Misfit : PySem.W.subIn K (.ref E_Taken) (.ref E_Misfit) = some false)
    (su_Unknown_Misfit : PySem.W.subIn K (.ref E_Unknown) (.ref E_Misfit) = some false)
    (su_Joined_Taken : PySem.W.subIn K (.ref E_Joined) (.ref E_Taken) = some false)
    (su_Misfit_Taken : PySem.W.subIn K (.ref E_Misfit) (.ref E_Taken) = some false)
    (su_Taken_Taken : PySem.W.subIn K (.ref E_Taken) (.ref E_Taken) = some true)
    (su_Unknown_Taken : PySem.W.subIn K (.ref E_Unknown) (.ref E_Taken) = some false)
    (su_Joined_Unknown : PySem.W.subIn K (.ref E_Joined) (.ref E_Unknown) = some false)
    (su_Misfit_Unknown : PySem.W.subIn K (.ref E_Misfit) (.ref E_Unknown) = some false)
    (su_Taken_Unknown : PySem.W.subIn K (.ref E_Taken) (.ref E_Unknown) = some false)
    (su_Unknown_Unknown : PySem.W.subIn K (.ref E_Unknown) (.ref E_Unknown) = some true)
    : ∃ fd : FuncData, (∀ (s : Shared) (v : Value), BindsTo s fd ⟨[v], []⟩ [("_law_script", v)]) ∧ ∀ base : Heap, K.In base → base.Ns mainGlobals mg → FnOk l.prog w K mg base (L2.CX l.prog w) 34 fa fd ["_law_script"] (spLaw K) := by
  have e := hfa.symm.trans (PySem.W.mg_of X G alaw)
  cases e
  obtain ⟨cn, hC_Packages, hC_Lineage, hC_Library, hE_Joined, hE_Misfit, hE_Taken, hE_Unknown⟩ : ∃ cn : Str → Addr, cn "Packages" = C_Packages ∧ cn "Lineage" = C_Lineage ∧ cn "Library" = C_Library ∧ cn "Joined" = E_Joined ∧ cn "Misfit" = E_Misfit ∧ cn "Taken" = E_Taken ∧ cn "Unknown" = E_Unknown := ⟨fun c => if c = "Packages" then C_Packages else if c = "Lineage" then C_Lineage else if c = "Library" then C_Library else if c = "Joined" then E_Joined else if c = "Misfit" then E_Misfit else if c = "Taken" then E_Taken else E_Unknown, if_pos rfl, (if_neg (by decide)).trans (if_pos rfl), (if_neg (by decide)).trans ((if_neg (by decide)).trans (if_pos rfl)), (if_neg (by decide)).trans ((if_neg (by decide)).trans ((if_neg (by decide)).trans (if_pos rfl))), (if_neg (by decide)).trans ((if_neg (by decide)).trans ((if_neg (by decide)).trans ((if_neg (by decide)).trans (if_pos rfl)))), (if_neg (by decide)).trans ((if_neg (by decide)).trans ((if_neg (by decide)).trans ((if_neg (by decide)).trans ((if_neg (by decide)).trans (if_pos rfl))))), (if_neg (by decide)).trans ((if_neg (by decide)).trans ((if_neg (by decide)).trans ((if_neg (by decide)).trans ((if_neg (by decide)).trans ((if_neg (by decide)).trans (rfl))))))⟩
  subst hC_Packages
  subst hC_Lineage
  subst hC_Library
  subst hE_Joined
  subst hE_Misfit
  subst hE_Taken
  subst hE_Unknown
  have T : Fx K mg cn := {
    a_wording := fwording,
    fd_wording := _,
    a_AccessError_init := fAccessError_init,
    fd_AccessError_init := _,
    a_Packages_init := fPackages_init,
    fd_Packages_init := _,
    a_Packages_add_package := fPackages_add_package,
    fd_Packages_add_package := _,
    a_Lineage_init := fLineage_init,
    fd_Lineage_init := _,
    a_Lineage__check_known := fLineage__check_known,
    fd_Lineage__check_known := _,
    a_Lineage__check_name := fLineage__check_name,
    fd_Lineage__check_name := _,
    a_Lineage_first_unknown := fLineage_first_unknown,
    fd_Lineage_first_unknown := _,
    a_Lineage_first_joined := fLineage_first_joined,
    fd_Lineage_first_joined := _,
    a_Lineage__check_bases := fLineage__check_bases,
    fd_Lineage__check_bases := _,
    a_Lineage_link := fLineage_link,
    fd_Lineage_link := _,
    a_Lineage_is_below := fLineage_is_below,
    fd_Lineage_is_below := _,
    a_Lineage_classes := fLineage_classes,
    fd_Lineage_classes := _,
    a_Library_init := fLibrary_init,
    fd_Library_init := _,
    a_Library_package_of := fLibrary_package_of,
    fd_Library_package_of := _,
    a_Library_add_later := fLibrary_add_later,
    fd_Library_add_later := _,
    a_Library_add_class := fLibrary_add_class,
    fd_Library_add_class := _,
    a_Library__may_declare := fLibrary__may_declare,
    fd_Library__may_declare := _,
    a_Library_add_member := fLibrary_add_member,
    fd_Library_add_member := _,
    a_Library__base_towards := fLibrary__base_towards,
    fd_Library__base_towards := _,
    a_Library_owner_of := fLibrary_owner_of,
    fd_Library_owner_of := _,
    a_Library_level_of := fLibrary_level_of,
    fd_Library_level_of := _,
    a_Library_marks := fLibrary_marks,
    fd_Library_marks := _,
    a_l_digits := fl_digits,
    fd_l_digits := _,
    a_l_name := fl_name,
    fd_l_name := _,
    a_l_products := fl_products,
    fd_l_products := _,
    a_l_inside := fl_inside,
    fd_l_inside := _,
    a_l_up := fl_up,
    fd_l_up := _,
    a_l_joins := fl_joins,
    fd_l_joins := _,
    a_l_owner := fl_owner,
    fd_l_owner := _,
    a_l_note := fl_note,
    fd_l_note := _,
    a_l_add_class := fl_add_class,
    fd_l_add_class := _,
    a_l_add_member := fl_add_member,
    fd_l_add_member := _,
    a_l_add_use := fl_add_use,
    fd_l_add_use := _,
    a_l_ground := fl_ground,
    fd_l_ground := _,
    a_l_bag := fl_bag,
    fd_l_bag := _,
    a_l_again := fl_again,
    fd_l_again := _,
    a_l_member_fault := fl_member_fault,
    fd_l_member_fault := _,
    a_l_try := fl_try,
    fd_l_try := _,
    g_any := PySem.W.mg_none_of X G z_any,
    g_int := PySem.W.mg_none_of X G z_int,
    g_isinstance := PySem.W.mg_none_of X G z_isinstance,
    g_len := PySem.W.mg_none_of X G z_len,
    g_list := PySem.W.mg_none_of X G z_list,
    g_range := PySem.W.mg_none_of X G z_range,
    g_tuple := PySem.W.mg_none_of X G z_tuple,
    fl_bases := ⟨by decide +kernel, fun c hc => by (simp only [cs_Lineage, List.mem_cons, List.not_mem_nil, or_false] at hc; rcases hc with rfl | rfl <;> first | exact ⟨⟨pg_Lineage, hd_Lineage, po_Lineage, sa_Lineage⟩, nf_bases_Lineage⟩ | exact ⟨⟨pg_Library, hd_Library, po_Library, sa_Library⟩, nf_bases_Library⟩)⟩,
    fl_kinds := ⟨by decide +kernel, fun c hc => by cases List.mem_singleton.mp hc; exact ⟨⟨pg_Library, hd_Library, po_Library, sa_Library⟩, nf_kinds_Library⟩⟩,
    fl_levels := ⟨by decide +kernel, fun c hc => by cases List.mem_singleton.mp hc; exact ⟨⟨pg_Library, hd_Library, po_Library, sa_Library⟩, nf_levels_Library⟩⟩,
    fl_lines := ⟨by decide +kernel, fun c hc => by (simp only [cs_Lineage, List.mem_cons, List.not_mem_nil, or_false] at hc; rcases hc with rfl | rfl <;> first | exact ⟨⟨pg_Lineage, hd_Lineage, po_Lineage, sa_Lineage⟩, nf_lines_Lineage⟩ | exact ⟨⟨pg_Library, hd_Library, po_Library, sa_Library⟩, nf_lines_Library⟩)⟩,
    fl_outer := ⟨by decide +kernel, fun c hc => by (simp only [cs_Lineage, List.mem_cons, List.not_mem_nil, or_false] at hc; rcases hc with rfl | rfl <;> first | exact ⟨⟨pg_Lineage, hd_Lineage, po_Lineage, sa_Lineage⟩, nf_outer_Lineage⟩ | exact ⟨⟨pg_Library, hd_Library, po_Library, sa_Library⟩, nf_outer_Library⟩)⟩,
    fl_packages := ⟨by decide +kernel, fun c hc => by cases List.mem_singleton.mp hc; exact ⟨⟨pg_Library, hd_Library, po_Library, sa_Library⟩, nf_packages_Library⟩⟩,
    fl_roots := ⟨by decide +kernel, fun c hc => by cases List.mem_singleton.mp hc; exact ⟨⟨pg_Library, hd_Library, po_Library, sa_Library⟩, nf_roots_Library⟩⟩,
    fl_sealed := ⟨by decide +kernel, fun c hc => by (simp only [cs_Packages, List.mem_cons, List.not_mem_nil, or_false] at hc; rcases hc with rfl | rfl <;> first | exact ⟨⟨pg_Packages, hd_Packages, po_Packages, sa_Packages⟩, nf_sealed_Packages⟩ | exact ⟨⟨pg_Library, hd_Library, po_Library, sa_Library⟩, nf_sealed_Library⟩)⟩,
    fl_uses := ⟨by decide +kernel, fun c hc => by cases List.mem_singleton.mp hc; exact ⟨⟨pg_Library, hd_Library, po_Library, sa_Library⟩, nf_uses_Library⟩⟩,
    F_wording := fun_mk (st := s_wording) lwording cwording kwording,
    m_wording := PySem.W.mg_of X G awording,
    F_AccessError_init := ⟨⟨_, _, _, _, _, _, _, _, _, _, rfl, lAccessError_init, cAccessError_init, .inr ⟨by simp, TD_AccessError_init, _, _, _, rfl, lTD_AccessError_init, rfl, .cons rfl (.nil)⟩, .inl rfl⟩, kAccessError_init⟩,
    F_Packages_init := fun_mk (st := s_Packages_init) lPackages_init cPackages_init kPackages_init,
    F_Packages_add_package := ⟨⟨_, _, _, _, _, _, _, _, _, _, rfl, lPackages_add_package, cPackages_add_package, .inl ⟨rfl, rfl⟩, .inr ⟨DK_Packages_add_package, rfl, by simp only [List.forall_mem_cons, List.not_mem_nil, false_implies, implies_true, and_true]; exact ⟨_, lD_Packages_add_package_sealed, rfl⟩⟩⟩, kPackages_add_package⟩,
    F_Lineage_init := fun_mk (st := s_Lineage_init) lLineage_init cLineage_init kLineage_init,
    F_Lineage__check_known := fun_mk (st := s_Lineage__check_known) lLineage__check_known cLineage__check_known kLineage__check_known,
    F_Lineage__check_name := fun_mk (st := s_Lineage__check_name) lLineage__check_name cLineage__check_name kLineage__check_name,
    F_Lineage_first_unknown := fun_mk (st := s_Lineage_first_unknown) lLineage_first_unknown cLineage_first_unknown kLineage_first_unknown,
    F_Lineage_first_joined := fun_mk (st := s_Lineage_first_joined) lLineage_first_joined cLineage_first_joined kLineage_first_joined,
    F_Lineage__check_bases := fun_mk (st := s_Lineage__check_bases) lLineage__check_bases cLineage__check_bases kLineage__check_bases,
    t0_Lineage_link_bases := TT_Lineage_link_bases,
    e0_Lineage_link_bases := fun H => tup0 lT_Lineage_link_bases,
    F_Lineage_link := ⟨⟨_, _, _, _, _, _, _, _, _, _, rfl, lLineage_link, cLineage_link, .inl ⟨rfl, rfl⟩, .inr ⟨DK_Lineage_link, rfl, by simp only [List.forall_mem_cons, List.not_mem_nil, false_implies, implies_true, and_true]; exact ⟨⟨_, lD_Lineage_link_inside, rfl⟩, ⟨_, lD_Lineage_link_bases, rfl⟩⟩⟩⟩, kLineage_link⟩,
    F_Lineage_is_below := fun_mk (st := s_Lineage_is_below) lLineage_is_below cLineage_is_below kLineage_is_below,
    F_Lineage_classes := fun_mk (st := s_Lineage_classes) lLineage_classes cLineage_classes kLineage_classes,
    F_Library_init := fun_mk (st := s_Library_init) lLibrary_init cLibrary_init kLibrary_init,
    F_Library_package_of := fun_mk (st := s_Library_package_of) lLibrary_package_of cLibrary_package_of kLibrary_package_of,
    F_Library_add_later := ⟨⟨_, _, _, _, _, _, _, _, _, _, rfl, lLibrary_add_later, cLibrary_add_later, .inl ⟨rfl, rfl⟩, .inl rfl⟩, kLibrary_add_later⟩,
    t0_Library_add_class_bases := TT_Library_add_class_bases,
    e0_Library_add_class_bases := fun H => tup0 lT_Library_add_class_bases,
    F_Library_add_class := ⟨⟨_, _, _, _, _, _, _, _, _, _, rfl, lLibrary_add_class, cLibrary_add_class, .inl ⟨rfl, rfl⟩, .inr ⟨DK_Library_add_class, rfl, by simp only [List.forall_mem_cons, List.not_mem_nil, false_implies, implies_true, and_true]; exact ⟨⟨_, lD_Library_add_class_package, rfl⟩, ⟨_, lD_Library_add_class_inside, rfl⟩, ⟨_, lD_Library_add_class_bases, rfl⟩⟩⟩⟩, kLibrary_add_class⟩,
    F_Library__may_declare := fun_mk (st := s_Library__may_declare) lLibrary__may_declare cLibrary__may_declare kLibrary__may_declare,
    F_Library_add_member := ⟨⟨_, _, _, _, _, _, _, _, _, _, rfl, lLibrary_add_member, cLibrary_add_member, .inl ⟨rfl, rfl⟩, .inr ⟨DK_Library_add_member, rfl, by simp only [List.forall_mem_cons, List.not_mem_nil, false_implies, implies_true, and_true]; exact ⟨_, lD_Library_add_member_write, rfl⟩⟩⟩, kLibrary_add_member⟩,
    F_Library__base_towards := fun_mk (st := s_Library__base_towards) lLibrary__base_towards cLibrary__base_towards kLibrary__base_towards,
    F_Library_owner_of := fun_mk (st := s_Library_owner_of) lLibrary_owner_of cLibrary_owner_of kLibrary_owner_of,
    F_Library_level_of := fun_mk (st := s_Library_level_of) lLibrary_level_of cLibrary_level_of kLibrary_level_of,
    F_Library_marks := fun_mk (st := s_Library_marks) lLibrary_marks cLibrary_marks kLibrary_marks,
    F_l_digits := fun_mk (st := s_l_digits) ll_digits cl_digits kl_digits,
    m_l_digits := PySem.W.mg_of X G al_digits,
    F_l_name := fun_mk (st := s_l_name) ll_name cl_name kl_name,
    m_l_name := PySem.W.mg_of X G al_name,
    F_l_products := fun_mk (st := s_l_products) ll_products cl_products kl_products,
    m_l_products := PySem.W.mg_of X G al_products,
    F_l_inside := fun_mk (st := s_l_inside) ll_inside cl_inside kl_inside,
    m_l_inside := PySem.W.mg_of X G al_inside,
    F_l_up := fun_mk (st := s_l_up) ll_up cl_up kl_up,
    m_l_up := PySem.W.mg_of X G al_up,
    F_l_joins := fun_mk (st := s_l_joins) ll_joins cl_joins kl_joins,
    m_l_joins := PySem.W.mg_of X G al_joins,
    F_l_owner := fun_mk (st := s_l_owner) ll_owner cl_owner kl_owner,
    m_l_owner := PySem.W.mg_of X G al_owner,
    F_l_note := fun_mk (st := s_l_note) ll_note cl_note kl_note,
    m_l_note := PySem.W.mg_of X G al_note,
    F_l_add_class := fun_mk (st := s_l_add_class) ll_add_class cl_add_class kl_add_class,
    m_l_add_class := PySem.W.mg_of X G al_add_class,
    F_l_add_member := fun_mk (st := s_l_add_member) ll_add_member cl_add_member kl_add_member,
    m_l_add_member := PySem.W.mg_of X G al_add_member,
    F_l_add_use := fun_mk (st := s_l_add_use) ll_add_use cl_add_use kl_add_use,
    m_l_add_use := PySem.W.mg_of X G al_add_use,
    F_l_ground := fun_mk (st := s_l_ground) ll_ground cl_ground kl_ground,
    m_l_ground := PySem.W.mg_of X G al_ground,
    F_l_bag := fun_mk (st := s_l_bag) ll_bag cl_bag kl_bag,
    m_l_bag := PySem.W.mg_of X G al_bag,
    F_l_again := fun_mk (st := s_l_again) ll_again cl_again kl_again,
    m_l_again := PySem.W.mg_of X G al_again,
    F_l_member_fault := fun_mk (st := s_l_member_fault) ll_member_fault cl_member_fault kl_member_fault,
    m_l_member_fault := PySem.W.mg_of X G al_member_fault,
    F_l_try := fun_mk (st := s_l_try) ll_try cl_try kl_try,
    m_l_try := PySem.W.mg_of X G al_try,
    me_Library__base_towards := ⟨by decide +kernel, fun c hc => by cases List.mem_singleton.mp hc; exact ⟨⟨pg_Library, hd_Library, po_Library, sa_Library⟩, ⟨aLibrary__base_towards_Library, iLibrary__base_towards, kLibrary__base_towards⟩⟩⟩,
    me_Library__may_declare := ⟨by decide +kernel, fun c hc => by cases List.mem_singleton.mp hc; exact ⟨⟨pg_Library, hd_Library, po_Library, sa_Library⟩, ⟨aLibrary__may_declare_Library, iLibrary__may_declare, kLibrary__may_declare⟩⟩⟩,
    me_Library_add_class := ⟨by decide +kernel, fun c hc => by cases List.mem_singleton.mp hc; exact ⟨⟨pg_Library, hd_Library, po_Library, sa_Library⟩, ⟨aLibrary_add_class_Library, iLibrary_add_class, kLibrary_add_class⟩⟩⟩,
    me_Library_add_later := ⟨by decide +kernel, fun c hc => by cases List.mem_singleton.mp hc; exact ⟨⟨pg_Library, hd_Library, po_Library, sa_Library⟩, ⟨aLibrary_add_later_Library, iLibrary_add_later, kLibrary_add_later⟩⟩⟩,
    me_Library_add_member := ⟨by decide +kernel, fun c hc => by cases List.mem_singleton.mp hc; exact ⟨⟨pg_Library, hd_Library, po_Library, sa_Library⟩, ⟨aLibrary_add_member_Library, iLibrary_add_member, kLibrary_add_member⟩⟩⟩,
    me_Library_level_of := ⟨by decide +kernel, fun c hc => by cases List.mem_singleton.mp hc; exact ⟨⟨pg_Library, hd_Library, po_Library, sa_Library⟩, ⟨aLibrary_level_of_Library, iLibrary_level_of, kLibrary_level_of⟩⟩⟩,
    me_Library_owner_of := ⟨by decide +kernel, fun c hc => by cases List.mem_singleton.mp hc; exact ⟨⟨pg_Library, hd_Library, po_Library, sa_Library⟩, ⟨aLibrary_owner_of_Library, iLibrary_owner_of, kLibrary_owner_of⟩⟩⟩,
    me_Library_package_of := ⟨by decide +kernel, fun c hc => by cases List.mem_singleton.mp hc; exact ⟨⟨pg_Library, hd_Library, po_Library, sa_Library⟩, ⟨aLibrary_package_of_Library, iLibrary_package_of, kLibrary_package_of⟩⟩⟩,
    me_Lineage__check_bases := ⟨by decide +kernel, fun c hc => by (simp only [cs_Lineage, List.mem_cons, List.not_mem_nil, or_false] at hc; rcases hc with rfl | rfl <;> first | exact ⟨⟨pg_Lineage, hd_Lineage, po_Lineage, sa_Lineage⟩, ⟨aLineage__check_bases_Lineage, iLineage__check_bases, kLineage__check_bases⟩⟩ | exact ⟨⟨pg_Library, hd_Library, po_Library, sa_Library⟩, ⟨aLineage__check_bases_Library, iLineage__check_bases, kLineage__check_bases⟩⟩)⟩,
    me_Lineage__check_known := ⟨by decide +kernel, fun c hc => by (simp only [cs_Lineage, List.mem_cons, List.not_mem_nil, or_false] at hc; rcases hc with rfl | rfl <;> first | exact ⟨⟨pg_Lineage, hd_Lineage, po_Lineage, sa_Lineage⟩, ⟨aLineage__check_known_Lineage, iLineage__check_known, kLineage__check_known⟩⟩ | exact ⟨⟨pg_Library, hd_Library, po_Library, sa_Library⟩, ⟨aLineage__check_known_Library, iLineage__check_known, kLineage__check_known⟩⟩)⟩,
    me_Lineage__check_name := ⟨by decide +kernel, fun c hc => by (simp only [cs_Lineage, List.mem_cons, List.not_mem_nil, or_false] at hc; rcases hc with rfl | rfl <;> first | exact ⟨⟨pg_Lineage, hd_Lineage, po_Lineage, sa_Lineage⟩, ⟨aLineage__check_name_Lineage, iLineage__check_name, kLineage__check_name⟩⟩ | exact ⟨⟨pg_Library, hd_Library, po_Library, sa_Library⟩, ⟨aLineage__check_name_Library, iLineage__check_name, kLineage__check_name⟩⟩)⟩,
    me_Lineage_first_joined := ⟨by decide +kernel, fun c hc => by (simp only [cs_Lineage, List.mem_cons, List.not_mem_nil, or_false] at hc; rcases hc with rfl | rfl <;> first | exact ⟨⟨pg_Lineage, hd_Lineage, po_Lineage, sa_Lineage⟩, ⟨aLineage_first_joined_Lineage, iLineage_first_joined, kLineage_first_joined⟩⟩ | exact ⟨⟨pg_Library, hd_Library, po_Library, sa_Library⟩, ⟨aLineage_first_joined_Library, iLineage_first_joined, kLineage_first_joined⟩⟩)⟩,
    me_Lineage_first_unknown := ⟨by decide +kernel, fun c hc => by (simp only [cs_Lineage, List.mem_cons, List.not_mem_nil, or_false] at hc; rcases hc with rfl | rfl <;> first | exact ⟨⟨pg_Lineage, hd_Lineage, po_Lineage, sa_Lineage⟩, ⟨aLineage_first_unknown_Lineage, iLineage_first_unknown, kLineage_first_unknown⟩⟩ | exact ⟨⟨pg_Library, hd_Library, po_Library, sa_Library⟩, ⟨aLineage_first_unknown_Library, iLineage_first_unknown, kLineage_first_unknown⟩⟩)⟩,
    me_Lineage_is_below := ⟨by decide +kernel, fun c hc => by (simp only [cs_Lineage, List.mem_cons, List.not_mem_nil, or_false] at hc; rcases hc with rfl | rfl <;> first | exact ⟨⟨pg_Lineage, hd_Lineage, po_Lineage, sa_Lineage⟩, ⟨aLineage_is_below_Lineage, iLineage_is_below, kLineage_is_below⟩⟩ | exact ⟨⟨pg_Library, hd_Library, po_Library, sa_Library⟩, ⟨aLineage_is_below_Library, iLineage_is_below, kLineage_is_below⟩⟩)⟩,
    me_Lineage_link := ⟨by decide +kernel, fun c hc => by (simp only [cs_Lineage, List.mem_cons, List.not_mem_nil, or_false] at hc; rcases hc with rfl | rfl <;> first | exact ⟨⟨pg_Lineage, hd_Lineage, po_Lineage, sa_Lineage⟩, ⟨aLineage_link_Lineage, iLineage_link, kLineage_link⟩⟩ | exact ⟨⟨pg_Library, hd_Library, po_Library, sa_Library⟩, ⟨aLineage_link_Library, iLineage_link, kLineage_link⟩⟩)⟩,
    me_Packages_add_package := ⟨by decide +kernel, fun c hc => by (simp only [cs_Packages, List.mem_cons, List.not_mem_nil, or_false] at hc; rcases hc with rfl | rfl <;> first | exact ⟨⟨pg_Packages, hd_Packages, po_Packages, sa_Packages⟩, ⟨aPackages_add_package_Packages, iPackages_add_package, kPackages_add_package⟩⟩ | exact ⟨⟨pg_Library, hd_Library, po_Library, sa_Library⟩, ⟨aPackages_add_package_Library, iPackages_add_package, kPackages_add_package⟩⟩)⟩,
    pr_Library_marks := ⟨fun c => pLibrary_marks_Library, fun c hc => by cases List.mem_singleton.mp hc; exact ⟨⟨pg_Library, hd_Library, po_Library, sa_Library⟩, ⟨paLibrary_marks_Library, pgLibrary_marks_Library, ptLibrary_marks_Library, ⟨_, prLibrary_marks_Library⟩⟩⟩⟩,
    pr_Lineage_classes := ⟨fun c => if c = "Lineage" then pLineage_classes_Lineage else pLineage_classes_Library, fun c hc => by (simp only [cs_Lineage, List.mem_cons, List.not_mem_nil, or_false] at hc; rcases hc with rfl | rfl <;> first | exact ⟨⟨pg_Lineage, hd_Lineage, po_Lineage, sa_Lineage⟩, ⟨paLineage_classes_Lineage, pgLineage_classes_Lineage, ptLineage_classes_Lineage, ⟨_, prLineage_classes_Lineage⟩⟩⟩ | exact ⟨⟨pg_Library, hd_Library, po_Library, sa_Library⟩, ⟨paLineage_classes_Library, pgLineage_classes_Library, ptLineage_classes_Library, ⟨_, prLineage_classes_Library⟩⟩⟩)⟩,
    cf_Lineage_init := ⟨.type "type", ⟨cr_Lineage___init__, cg_Lineage___init__⟩, cv_Lineage___init__⟩,
    c_Lineage := PySem.W.mg_of X G aC_Lineage,
    cf_Packages_init := ⟨.type "type", ⟨cr_Packages___init__, cg_Packages___init__⟩, cv_Packages___init__⟩,
    c_Packages := PySem.W.mg_of X G aC_Packages,
    gs_MAKER := ⟨_, PySem.W.mg_of X G gs_MAKER⟩,
    mk_Library := ⟨mk_Library, aLibrary_init_Library, iLibrary_init, kc_Library⟩,
    c_Library := PySem.W.mg_of X G aC_Library,
    c_Joined := PySem.W.mg_of X G aE_Joined,
    c_Misfit := PySem.W.mg_of X G aE_Misfit,
    c_Taken := PySem.W.mg_of X G aE_Taken,
    c_Unknown := PySem.W.mg_of X G aE_Unknown,
    ec_Joined := ⟨⟨⟨_, _, _, _, _, _, _, _, _, _, _, _, _, _, _, x_Joined, rfl⟩, sa_Joined, exb_Joined, ty_Joined, kc_Joined⟩, ⟨_, ⟨ga_Joined, gg_Joined, exb_Joined, hd_Joined, cl_Joined, spc_Joined, tkc_Joined, mr2_Joined, rd_Joined, nn_Joined, ⟨_, _, x_Joined, rfl⟩⟩, hn_Joined⟩, wh_Joined, ro_Joined⟩,
    ei_Joined := aAccessError_init_Joined,
    ec_Misfit := ⟨⟨⟨_, _, _, _, _, _, _, _, _, _, _, _, _, _, _, x_Misfit, rfl⟩, sa_Misfit, exb_Misfit, ty_Misfit, kc_Misfit⟩, ⟨_, ⟨ga_Misfit, gg_Misfit, exb_Misfit, hd_Misfit, cl_Misfit, spc_Misfit, tkc_Misfit, mr2_Misfit, rd_Misfit, nn_Misfit, ⟨_, _, x_Misfit, rfl⟩⟩, hn_Misfit⟩, wh_Misfit, ro_Misfit⟩,
    ei_Misfit := aAccessError_init_Misfit,
    ec_Taken := ⟨⟨⟨_, _, _, _, _, _, _, _, _, _, _, _, _, _, _, x_Taken, rfl⟩, sa_Taken, exb_Taken, ty_Taken, kc_Taken⟩, ⟨_, ⟨ga_Taken, gg_Taken, exb_Taken, hd_Taken, cl_Taken, spc_Taken, tkc_Taken, mr2_Taken, rd_Taken, nn_Taken, ⟨_, _, x_Taken, rfl⟩⟩, hn_Taken⟩, wh_Taken, ro_Taken⟩,
    ei_Taken := aAccessError_init_Taken,
    ec_Unknown := ⟨⟨⟨_, _, _, _, _, _, _, _, _, _, _, _, _, _, _, x_Unknown, rfl⟩, sa_Unknown, exb_Unknown, ty_Unknown, kc_Unknown⟩, ⟨_, ⟨ga_Unknown, gg_Unknown, exb_Unknown, hd_Unknown, cl_Unknown, spc_Unknown, tkc_Unknown, mr2_Unknown, rd_Unknown, nn_Unknown, ⟨_, _, x_Unknown, rfl⟩⟩, hn_Unknown⟩, wh_Unknown, ro_Unknown⟩,
    ei_Unknown := aAccessError_init_Unknown,
    et := tiA,
    g_ValueError := PySem.W.mg_none_of X G z_ValueError,
    ve := ve,
    ex_Misfit := fun c hc => by (simp only [errsL, List.mem_cons, List.not_mem_nil, or_false] at hc; rcases hc with rfl | rfl | rfl | rfl <;> first | exact ((PySem.W.exm_ref exb_Misfit hd_Misfit ty_Misfit su_Joined_Misfit).trans rfl) | exact ((PySem.W.exm_ref exb_Misfit hd_Misfit ty_Misfit su_Misfit_Misfit).trans rfl) | exact ((PySem.W.exm_ref exb_Misfit hd_Misfit ty_Misfit su_Taken_Misfit).trans rfl) | exact ((PySem.W.exm_ref exb_Misfit hd_Misfit ty_Misfit su_Unknown_Misfit).trans rfl)),
    ex_Taken := fun c hc => by (simp only [errsL, List.mem_cons, List.not_mem_nil, or_false] at hc; rcases hc with rfl | rfl | rfl | rfl <;> first | exact ((PySem.W.exm_ref exb_Taken hd_Taken ty_Taken su_Joined_Taken).trans rfl) | exact ((PySem.W.exm_ref exb_Taken hd_Taken ty_Taken su_Misfit_Taken).trans rfl) | exact ((PySem.W.exm_ref exb_Taken hd_Taken ty_Taken su_Taken_Taken).trans rfl) | exact ((PySem.W.exm_ref exb_Taken hd_Taken ty_Taken su_Unknown_Taken).trans rfl)),
    ex_Unknown := fun c hc => by (simp only [errsL, List.mem_cons, List.not_mem_nil, or_false] at hc; rcases hc with rfl | rfl | rfl | rfl <;> first | exact ((PySem.W.exm_ref exb_Unknown hd_Unknown ty_Unknown su_Joined_Unknown).trans rfl) | exact ((PySem.W.exm_ref exb_Unknown hd_Unknown ty_Unknown su_Misfit_Unknown).trans rfl) | exact ((PySem.W.exm_ref exb_Unknown hd_Unknown ty_Unknown su_Taken_Unknown).trans rfl) | exact ((PySem.W.exm_ref exb_Unknown hd_Unknown ty_Unknown su_Unknown_Unknown).trans rfl)),
    xf_row := fun c hc => by (simp only [errsL, List.mem_cons, List.not_mem_nil, or_false] at hc; rcases hc with rfl | rfl | rfl | rfl <;> first | exact ⟨⟨ga_Joined, gg_Joined, exb_Joined, hd_Joined⟩, ro_Joined⟩ | exact ⟨⟨ga_Misfit, gg_Misfit, exb_Misfit, hd_Misfit⟩, ro_Misfit⟩ | exact ⟨⟨ga_Taken, gg_Taken, exb_Taken, hd_Taken⟩, ro_Taken⟩ | exact ⟨⟨ga_Unknown, gg_Unknown, exb_Unknown, hd_Unknown⟩, ro_Unknown⟩),
    xf_what := fun c hc => by (simp only [errsL, List.mem_cons, List.not_mem_nil, or_false] at hc; rcases hc with rfl | rfl | rfl | rfl <;> first | exact ⟨⟨ga_Joined, gg_Joined, exb_Joined, hd_Joined⟩, wh_Joined⟩ | exact ⟨⟨ga_Misfit, gg_Misfit, exb_Misfit, hd_Misfit⟩, wh_Misfit⟩ | exact ⟨⟨ga_Taken, gg_Taken, exb_Taken, hd_Taken⟩, wh_Taken⟩ | exact ⟨⟨ga_Unknown, gg_Unknown, exb_Unknown, hd_Unknown⟩, wh_Unknown⟩) }
  refine ⟨PySem.W.fnOf "law" "law" (defArgs s_law) (defBody s_law) (defScope s_law) .none kVlaw dclaw pmlaw anlaw cdlaw ctlaw, fun s v => .of_eq rfl, fun base _ _ => ?_⟩
  have Fl := fun_mk (st := s_law) llaw claw klaw
  exact (fnM (P := l.prog) (w := w) (mg := mg) (base := base) (cn := cn) (ps := ["_law_script"]) Fl sc_law (b_law T)).imp law_sp
theorem walk {l : PySem.W.OpenLaw} {q : Program} {loose : List Str} {XP : (Str → Option Value) → Heap → Prop} {YP : World → Heap → Prop} {d : DefRec} {K : Params → PySem.W.Frag} (hn : l.most = some 63) (hdf : d.params.defaults = [])
    (hY : ∀ (w : World) (h : Heap), YP w h → (K w.params).In h)
    (F : ∀ (w : World) (mg : Str → Option Value) (fa : Addr) (h : Heap), (K w.params).In h → h.Ns mainGlobals mg → mg d.name = some (.ref fa) →
      ∃ fd : FuncData, (∀ (s : Shared) (u : Value), BindsTo s fd ⟨[u], []⟩ [("_law_script", u)]) ∧ ∀ base : Heap, (K w.params).In base → base.Ns mainGlobals mg → FnOk l.prog w (K w.params) mg base (L2.CX l.prog w) 34 fa fd ["_law_script"] (spLaw (K w.params))) :
    PySem.W.WalkO q loose XP YP l.row.toRowW d [] (fun f vs => PySem.call f vs) :=
  L2.walk_of (n := 63) (k := 34) (x := "_law_script") (CX := fun w => L2.CX l.prog w) (sp := fun w => spLaw (K w.params)) hn (by decide) hdf ⟨rfl, by decide, by decide⟩ hY F (fun _ _ a ns hln hO hS => ⟨a, ns, rfl, hS, hO, hln, fun _ => rfl⟩)
    fun _ _ _ _ _ h => by
      obtain ⟨_, _, _, _, _, _, _, _, _, _, _, _, z⟩ := h
      exact z.elim
end My
open PySem PySem.W PyProof.Rows
set_option maxRecDepth 100000 in
set_option maxHeartbeats 0 in
theorem PySem.Challenge.cw_whomayname_k14_member_refusals_holds : PySem.Challenge.rw_whomayname_k14_member_refusals.Holds := by
  w_on; o_law; k_head; (case hw => w_witness2)
  k_fill
  refine My.walk (l := PySem.Challenge.rw_whomayname_k14_member_refusals) rfl rfl (fun w h Y => PySem.W.kIn_of Y) ?F
  case F =>
    intro w mg fa h KX G hmg
    refine' My.all_mk KX G hmg ?z_ValueError ?z_any ?z_int ?z_isinstance ?z_len ?z_list ?z_range ?z_tuple ?aC_Packages ?aC_Lineage ?aC_Library ?aE_Joined ?aE_Misfit ?aE_Taken ?aE_Unknown ?awording ?lwording ?cwording ?kwording ?aAccessError_init_Joined ?lAccessError_init ?cAccessError_init ?kAccessError_init ?lTD_AccessError_init ?aPackages_init_Packages ?iPackages_init ?lPackages_init ?cPackages_init ?kPackages_init ?aPackages_add_package_Packages ?aPackages_add_package_Library ?iPackages_add_package ?lPackages_add_package ?cPackages_add_package ?kPackages_add_package ?lD_Packages_add_package_sealed ?aLineage_init_Lineage ?iLineage_init ?lLineage_init ?cLineage_init ?kLineage_init ?aLineage__check_known_Lineage ?aLineage__check_known_Library ?iLineage__check_known ?lLineage__check_known ?cLineage__check_known ?kLineage__check_known ?aLineage__check_name_Lineage ?aLineage__check_name_Library ?iLineage__check_name ?lLineage__check_name ?cLineage__check_name ?kLineage__check_name ?aLineage_first_unknown_Lineage ?aLineage_first_unknown_Library ?iLineage_first_unknown ?lLineage_first_unknown ?cLineage_first_unknown ?kLineage_first_unknown ?aLineage_first_joined_Lineage ?aLineage_first_joined_Library ?iLineage_first_joined ?lLineage_first_joined ?cLineage_first_joined ?kLineage_first_joined ?aLineage__check_bases_Lineage ?aLineage__check_bases_Library ?iLineage__check_bases ?lLineage__check_bases ?cLineage__check_bases ?kLineage__check_bases ?aLineage_link_Lineage ?aLineage_link_Library ?iLineage_link ?lLineage_link ?cLineage_link ?kLineage_link ?lD_Lineage_link_inside ?lD_Lineage_link_bases ?lT_Lineage_link_bases ?aLineage_is_below_Lineage ?aLineage_is_below_Library ?iLineage_is_below ?lLineage_is_below ?cLineage_is_below ?kLineage_is_below ?paLineage_classes_Lineage ?pgLineage_classes_Lineage ?ptLineage_classes_Lineage ?prLineage_classes_Lineage ?paLineage_classes_Library ?pgLineage_classes_Library ?ptLineage_classes_Library ?prLineage_classes_Library ?lLineage_classes ?cLineage_classes ?kLineage_classes ?aLibrary_init_Library ?iLibrary_init ?lLibrary_init ?cLibrary_init ?kLibrary_init ?aLibrary_package_of_Library ?iLibrary_package_of ?lLibrary_package_of ?cLibrary_package_of ?kLibrary_package_of ?aLibrary_add_later_Library ?iLibrary_add_later ?lLibrary_add_later ?cLibrary_add_later ?kLibrary_add_later ?aLibrary_add_class_Library ?iLibrary_add_class ?lLibrary_add_class ?cLibrary_add_class ?kLibrary_add_class ?lD_Library_add_class_package ?lD_Library_add_class_inside ?lD_Library_add_class_bases ?lT_Library_add_class_bases ?aLibrary__may_declare_Library ?iLibrary__may_declare ?lLibrary__may_declare ?cLibrary__may_declare ?kLibrary__may_declare ?aLibrary_add_member_Library ?iLibrary_add_member ?lLibrary_add_member ?cLibrary_add_member ?kLibrary_add_member ?lD_Library_add_member_write ?aLibrary__base_towards_Library ?iLibrary__base_towards ?lLibrary__base_towards ?cLibrary__base_towards ?kLibrary__base_towards ?aLibrary_owner_of_Library ?iLibrary_owner_of ?lLibrary_owner_of ?cLibrary_owner_of ?kLibrary_owner_of ?aLibrary_level_of_Library ?iLibrary_level_of ?lLibrary_level_of ?cLibrary_level_of ?kLibrary_level_of ?paLibrary_marks_Library ?pgLibrary_marks_Library ?ptLibrary_marks_Library ?prLibrary_marks_Library ?lLibrary_marks ?cLibrary_marks ?kLibrary_marks ?al_digits ?ll_digits ?cl_digits ?kl_digits ?al_name ?ll_name ?cl_name ?kl_name ?al_products ?ll_products ?cl_products ?kl_products ?al_inside ?ll_inside ?cl_inside ?kl_inside ?al_up ?ll_up ?cl_up ?kl_up ?al_joins ?ll_joins ?cl_joins ?kl_joins ?al_owner ?ll_owner ?cl_owner ?kl_owner ?al_note ?ll_note ?cl_note ?kl_note ?al_add_class ?ll_add_class ?cl_add_class ?kl_add_class ?al_add_member ?ll_add_member ?cl_add_member ?kl_add_member ?al_add_use ?ll_add_use ?cl_add_use ?kl_add_use ?al_ground ?ll_ground ?cl_ground ?kl_ground ?al_bag ?ll_bag ?cl_bag ?kl_bag ?al_again ?ll_again ?cl_again ?kl_again ?al_member_fault ?ll_member_fault ?cl_member_fault ?kl_member_fault ?al_try ?ll_try ?cl_try ?kl_try ?alaw ?llaw ?claw ?klaw ?pg_Packages ?hd_Packages ?po_Packages ?sa_Packages ?mk_Packages ?kc_Packages ?pg_Lineage ?hd_Lineage ?po_Lineage ?sa_Lineage ?mk_Lineage ?kc_Lineage ?pg_Library ?hd_Library ?po_Library ?sa_Library ?mk_Library ?kc_Library ?nf_bases_Lineage ?nf_bases_Library ?nf_kinds_Library ?nf_levels_Library ?nf_lines_Lineage ?nf_lines_Library ?nf_outer_Lineage ?nf_outer_Library ?nf_packages_Library ?nf_roots_Library ?nf_sealed_Packages ?nf_sealed_Library ?nf_uses_Library ?cr_Lineage___init__ ?cg_Lineage___init__ ?cv_Lineage___init__ ?cr_Packages___init__ ?cg_Packages___init__ ?cv_Packages___init__ ?gs_MAKER ?tiA ?ve ?x_Joined ?hn_Joined ?sa_Joined ?exb_Joined ?ty_Joined ?kc_Joined ?ga_Joined ?gg_Joined ?hd_Joined ?cl_Joined ?spc_Joined ?tkc_Joined ?mr2_Joined ?rd_Joined ?nn_Joined ?wh_Joined ?ro_Joined ?x_Misfit ?hn_Misfit ?sa_Misfit ?exb_Misfit ?ty_Misfit ?kc_Misfit ?ga_Misfit ?gg_Misfit ?hd_Misfit ?cl_Misfit ?spc_Misfit ?tkc_Misfit ?mr2_Misfit ?rd_Misfit ?nn_Misfit ?wh_Misfit ?ro_Misfit ?aAccessError_init_Misfit ?x_Taken ?hn_Taken ?sa_Taken ?exb_Taken ?ty_Taken ?kc_Taken ?ga_Taken ?gg_Taken ?hd_Taken ?cl_Taken ?spc_Taken ?tkc_Taken ?mr2_Taken ?rd_Taken ?nn_Taken ?wh_Taken ?ro_Taken ?aAccessError_init_Taken ?x_Unknown ?hn_Unknown ?sa_Unknown ?exb_Unknown ?ty_Unknown ?kc_Unknown ?ga_Unknown ?gg_Unknown ?hd_Unknown ?cl_Unknown ?spc_Unknown ?tkc_Unknown ?mr2_Unknown ?rd_Unknown ?nn_Unknown ?wh_Unknown ?ro_Unknown ?aAccessError_init_Unknown ?su_Joined_Misfit ?su_Misfit_Misfit ?su_Taken_Misfit ?su_Unknown_Misfit ?su_Joined_Taken ?su_Misfit_Taken ?su_Taken_Taken ?su_Unknown_Taken ?su_Joined_Unknown ?su_Misfit_Unknown ?su_Taken_Unknown ?su_Unknown_Unknown
    (case z_ValueError => k_is)
    (case z_any => k_is)
    (case z_int => k_is)
    (case z_isinstance => k_is)
    (case z_len => k_is)
    (case z_list => k_is)
    (case z_range => k_is)
    (case z_tuple => k_is)
    (case aC_Packages => k_is)
    (case aC_Lineage => k_is)
    (case aC_Library => k_is)
    (case aE_Joined => k_is)
    (case aE_Misfit => k_is)
    (case aE_Taken => k_is)
    (case aE_Unknown => k_is)
    (case awording => k_is)
    (case lwording => k_is)
    (case cwording => k_is)
    (case kwording => k_is)
    (case aAccessError_init_Joined => k_is)
    (case lAccessError_init => k_is)
    (case cAccessError_init => k_is)
    (case kAccessError_init => k_is)
    (case lTD_AccessError_init => k_is)
    (case aPackages_init_Packages => k_is)
    (case iPackages_init => k_is)
    (case lPackages_init => k_is)
    (case cPackages_init => k_is)
    (case kPackages_init => k_is)
    (case aPackages_add_package_Packages => k_is)
    (case aPackages_add_package_Library => k_is)
    (case iPackages_add_package => k_is)
    (case lPackages_add_package => k_is)
    (case cPackages_add_package => k_is)
    (case kPackages_add_package => k_is)
    (case lD_Packages_add_package_sealed => k_is)
    (case aLineage_init_Lineage => k_is)
    (case iLineage_init => k_is)
    (case lLineage_init => k_is)
    (case cLineage_init => k_is)
    (case kLineage_init => k_is)
    (case aLineage__check_known_Lineage => k_is)
    (case aLineage__check_known_Library => k_is)
    (case iLineage__check_known => k_is)
    (case lLineage__check_known => k_is)
    (case cLineage__check_known => k_is)
    (case kLineage__check_known => k_is)
    (case aLineage__check_name_Lineage => k_is)
    (case aLineage__check_name_Library => k_is)
    (case iLineage__check_name => k_is)
    (case lLineage__check_name => k_is)
    (case cLineage__check_name => k_is)
    (case kLineage__check_name => k_is)
    (case aLineage_first_unknown_Lineage => k_is)
    (case aLineage_first_unknown_Library => k_is)
    (case iLineage_first_unknown => k_is)
    (case lLineage_first_unknown => k_is)
    (case cLineage_first_unknown => k_is)
    (case kLineage_first_unknown => k_is)
    (case aLineage_first_joined_Lineage => k_is)
    (case aLineage_first_joined_Library => k_is)
    (case iLineage_first_joined => k_is)
    (case lLineage_first_joined => k_is)
    (case cLineage_first_joined => k_is)
    (case kLineage_first_joined => k_is)
    (case aLineage__check_bases_Lineage => k_is)
    (case aLineage__check_bases_Library => k_is)
    (case iLineage__check_bases => k_is)
    (case lLineage__check_bases => k_is)
    (case cLineage__check_bases => k_is)
    (case kLineage__check_bases => k_is)
    (case aLineage_link_Lineage => k_is)
    (case aLineage_link_Library => k_is)
    (case iLineage_link => k_is)
    (case lLineage_link => k_is)
    (case cLineage_link => k_is)
    (case kLineage_link => k_is)
    (case lD_Lineage_link_inside => k_is)
    (case lD_Lineage_link_bases => k_is)
    (case lT_Lineage_link_bases => k_is)
    (case aLineage_is_below_Lineage => k_is)
    (case aLineage_is_below_Library => k_is)
    (case iLineage_is_below => k_is)
    (case lLineage_is_below => k_is)
    (case cLineage_is_below => k_is)
    (case kLineage_is_below => k_is)
    (case paLineage_classes_Lineage => k_is)
    (case pgLineage_classes_Lineage => k_is)
    (case ptLineage_classes_Lineage => k_is)
    (case prLineage_classes_Lineage => k_is)
    (case paLineage_classes_Library => k_is)
    (case pgLineage_classes_Library => k_is)
    (case ptLineage_classes_Library => k_is)
    (case prLineage_classes_Library => k_is)
    (case lLineage_classes => k_is)
    (case cLineage_classes => k_is)
    (case kLineage_classes => k_is)
    (case aLibrary_init_Library => k_is)
    (case iLibrary_init => k_is)
    (case lLibrary_init => k_is)
    (case cLibrary_init => k_is)
    (case kLibrary_init => k_is)
    (case aLibrary_package_of_Library => k_is)
    (case iLibrary_package_of => k_is)
    (case lLibrary_package_of => k_is)
    (case cLibrary_package_of => k_is)
    (case kLibrary_package_of => k_is)
    (case aLibrary_add_later_Library => k_is)
    (case iLibrary_add_later => k_is)
    (case lLibrary_add_later => k_is)
    (case cLibrary_add_later => k_is)
    (case kLibrary_add_later => k_is)
    (case aLibrary_add_class_Library => k_is)
    (case iLibrary_add_class => k_is)
    (case lLibrary_add_class => k_is)
    (case cLibrary_add_class => k_is)
    (case kLibrary_add_class => k_is)
    (case lD_Library_add_class_package => k_is)
    (case lD_Library_add_class_inside => k_is)
    (case lD_Library_add_class_bases => k_is)
    (case lT_Library_add_class_bases => k_is)
    (case aLibrary__may_declare_Library => k_is)
    (case iLibrary__may_declare => k_is)
    (case lLibrary__may_declare => k_is)
    (case cLibrary__may_declare => k_is)
    (case kLibrary__may_declare => k_is)
    (case aLibrary_add_member_Library => k_is)
    (case iLibrary_add_member => k_is)
    (case lLibrary_add_member => k_is)
    (case cLibrary_add_member => k_is)
    (case kLibrary_add_member => k_is)
    (case lD_Library_add_member_write => k_is)
    (case aLibrary__base_towards_Library => k_is)
    (case iLibrary__base_towards => k_is)
    (case lLibrary__base_towards => k_is)
    (case cLibrary__base_towards => k_is)
    (case kLibrary__base_towards => k_is)
    (case aLibrary_owner_of_Library => k_is)
    (case iLibrary_owner_of => k_is)
    (case lLibrary_owner_of => k_is)
    (case cLibrary_owner_of => k_is)
    (case kLibrary_owner_of => k_is)
    (case aLibrary_level_of_Library => k_is)
    (case iLibrary_level_of => k_is)
    (case lLibrary_level_of => k_is)
    (case cLibrary_level_of => k_is)
    (case kLibrary_level_of => k_is)
    (case paLibrary_marks_Library => k_is)
    (case pgLibrary_marks_Library => k_is)
    (case ptLibrary_marks_Library => k_is)
    (case prLibrary_marks_Library => k_is)
    (case lLibrary_marks => k_is)
    (case cLibrary_marks => k_is)
    (case kLibrary_marks => k_is)
    (case al_digits => k_is)
    (case ll_digits => k_is)
    (case cl_digits => k_is)
    (case kl_digits => k_is)
    (case al_name => k_is)
    (case ll_name => k_is)
    (case cl_name => k_is)
    (case kl_name => k_is)
    (case al_products => k_is)
    (case ll_products => k_is)
    (case cl_products => k_is)
    (case kl_products => k_is)
    (case al_inside => k_is)
    (case ll_inside => k_is)
    (case cl_inside => k_is)
    (case kl_inside => k_is)
    (case al_up => k_is)
    (case ll_up => k_is)
    (case cl_up => k_is)
    (case kl_up => k_is)
    (case al_joins => k_is)
    (case ll_joins => k_is)
    (case cl_joins => k_is)
    (case kl_joins => k_is)
    (case al_owner => k_is)
    (case ll_owner => k_is)
    (case cl_owner => k_is)
    (case kl_owner => k_is)
    (case al_note => k_is)
    (case ll_note => k_is)
    (case cl_note => k_is)
    (case kl_note => k_is)
    (case al_add_class => k_is)
    (case ll_add_class => k_is)
    (case cl_add_class => k_is)
    (case kl_add_class => k_is)
    (case al_add_member => k_is)
    (case ll_add_member => k_is)
    (case cl_add_member => k_is)
    (case kl_add_member => k_is)
    (case al_add_use => k_is)
    (case ll_add_use => k_is)
    (case cl_add_use => k_is)
    (case kl_add_use => k_is)
    (case al_ground => k_is)
    (case ll_ground => k_is)
    (case cl_ground => k_is)
    (case kl_ground => k_is)
    (case al_bag => k_is)
    (case ll_bag => k_is)
    (case cl_bag => k_is)
    (case kl_bag => k_is)
    (case al_again => k_is)
    (case ll_again => k_is)
    (case cl_again => k_is)
    (case kl_again => k_is)
    (case al_member_fault => k_is)
    (case ll_member_fault => k_is)
    (case cl_member_fault => k_is)
    (case kl_member_fault => k_is)
    (case al_try => k_is)
    (case ll_try => k_is)
    (case cl_try => k_is)
    (case kl_try => k_is)
    (case alaw => k_is)
    (case llaw => k_is)
    (case claw => k_is)
    (case klaw => k_is)
    (case pg_Packages => k_is)
    (case hd_Packages => k_is)
    (case po_Packages => k_is)
    (case sa_Packages => k_is)
    (case mk_Packages => k_is)
    (case kc_Packages => k_is)
    (case pg_Lineage => k_is)
    (case hd_Lineage => k_is)
    (case po_Lineage => k_is)
    (case sa_Lineage => k_is)
    (case mk_Lineage => k_is)
    (case kc_Lineage => k_is)
    (case pg_Library => k_is)
    (case hd_Library => k_is)
    (case po_Library => k_is)
    (case sa_Library => k_is)
    (case mk_Library => k_is)
    (case kc_Library => k_is)
    (case nf_bases_Lineage => k_is)
    (case nf_bases_Library => k_is)
    (case nf_kinds_Library => k_is)
    (case nf_levels_Library => k_is)
    (case nf_lines_Lineage => k_is)
    (case nf_lines_Library => k_is)
    (case nf_outer_Lineage => k_is)
    (case nf_outer_Library => k_is)
    (case nf_packages_Library => k_is)
    (case nf_roots_Library => k_is)
    (case nf_sealed_Packages => k_is)
    (case nf_sealed_Library => k_is)
    (case nf_uses_Library => k_is)
    (case cr_Lineage___init__ => k_is)
    (case cg_Lineage___init__ => k_is)
    (case cv_Lineage___init__ => k_is)
    (case cr_Packages___init__ => k_is)
    (case cg_Packages___init__ => k_is)
    (case cv_Packages___init__ => k_is)
    (case gs_MAKER => k_is)
    (case tiA => k_is)
    (case ve => k_is)
    (case x_Joined => k_is)
    (case hn_Joined => decide)
    (case sa_Joined => k_is)
    (case exb_Joined => k_is)
    (case ty_Joined => k_is)
    (case kc_Joined => k_is)
    (case ga_Joined => k_is)
    (case gg_Joined => k_is)
    (case hd_Joined => k_is)
    (case cl_Joined => k_is)
    (case spc_Joined => k_is)
    (case tkc_Joined => k_is)
    (case mr2_Joined => k_is)
    (case rd_Joined => k_is)
    (case nn_Joined => k_is)
    (case wh_Joined => k_is)
    (case ro_Joined => k_is)
    (case x_Misfit => k_is)
    (case hn_Misfit => decide)
    (case sa_Misfit => k_is)
    (case exb_Misfit => k_is)
    (case ty_Misfit => k_is)
    (case kc_Misfit => k_is)
    (case ga_Misfit => k_is)
    (case gg_Misfit => k_is)
    (case hd_Misfit => k_is)
    (case cl_Misfit => k_is)
    (case spc_Misfit => k_is)
    (case tkc_Misfit => k_is)
    (case mr2_Misfit => k_is)
    (case rd_Misfit => k_is)
    (case nn_Misfit => k_is)
    (case wh_Misfit => k_is)
    (case ro_Misfit => k_is)
    (case aAccessError_init_Misfit => k_is)
    (case x_Taken => k_is)
    (case hn_Taken => decide)
    (case sa_Taken => k_is)
    (case exb_Taken => k_is)
    (case ty_Taken => k_is)
    (case kc_Taken => k_is)
    (case ga_Taken => k_is)
    (case gg_Taken => k_is)
    (case hd_Taken => k_is)
    (case cl_Taken => k_is)
    (case spc_Taken => k_is)
    (case tkc_Taken => k_is)
    (case mr2_Taken => k_is)
    (case rd_Taken => k_is)
    (case nn_Taken => k_is)
    (case wh_Taken => k_is)
    (case ro_Taken => k_is)
    (case aAccessError_init_Taken => k_is)
    (case x_Unknown => k_is)
    (case hn_Unknown => decide)
    (case sa_Unknown => k_is)
    (case exb_Unknown => k_is)
    (case ty_Unknown => k_is)
    (case kc_Unknown => k_is)
    (case ga_Unknown => k_is)
    (case gg_Unknown => k_is)
    (case hd_Unknown => k_is)
    (case cl_Unknown => k_is)
    (case spc_Unknown => k_is)
    (case tkc_Unknown => k_is)
    (case mr2_Unknown => k_is)
    (case rd_Unknown => k_is)
    (case nn_Unknown => k_is)
    (case wh_Unknown => k_is)
    (case ro_Unknown => k_is)
    (case aAccessError_init_Unknown => k_is)
    (case su_Joined_Misfit => first | rfl | k_is)
    (case su_Misfit_Misfit => first | rfl | k_is)
    (case su_Taken_Misfit => first | rfl | k_is)
    (case su_Unknown_Misfit => first | rfl | k_is)
    (case su_Joined_Taken => first | rfl | k_is)
    (case su_Misfit_Taken => first | rfl | k_is)
    (case su_Taken_Taken => first | rfl | k_is)
    (case su_Unknown_Taken => first | rfl | k_is)
    (case su_Joined_Unknown => first | rfl | k_is)
    (case su_Misfit_Unknown => first | rfl | k_is)
    (case su_Taken_Unknown => first | rfl | k_is)
    (case su_Unknown_Unknown => first | rfl | k_is)
