import PyProof.Rows.All
import Wide.All
import OpenK.AllK
import Wide.FinOn
import HandS.ForMost
import HandS.IsInst
import HandS.Evl
import HandS.ClsMeth
import HandS.Star
import HandS.Property
import HandS.Deep
import HandS.Conv
import HandS.Exc
import HandS.TryOnly
import HandS.TryMany
import HandS.ExcOwn
import HandS.WordsExc
import HandS.ExcInit
import HandS.Defaults
import HandS.MakeKw
import HandS.Flow
import KE.KDictKeyed
import HandS.CallSlots
import HandS.ExcIs
import HandS.ExcField
import HandS.FStr
import HandS.FStrTup
import PySem.Challenge.RW_whomayname_k09_packages
set_option Elab.async false
set_option linter.all false
set_option maxRecDepth 100000
set_option maxHeartbeats 4000000
namespace RL
open PySem L2
/-! plain values: tuples are values, all that changes is behind a number -/
inductive D where
  | non | bl (b : Bool) | int (i : Int) | str (s : Str) | tup (l : List D) | kl (l : List D) | ref (n : Nat)
  deriving Inhabited
mutual
def D.dec : (a b : D) → Decidable (a = b)
  | .non, .non => .isTrue rfl
  | .bl a, .bl b => if h : a = b then .isTrue (by rw [h]) else .isFalse fun z => h (D.bl.inj z)
  | .int a, .int b => if h : a = b then .isTrue (by rw [h]) else .isFalse fun z => h (D.int.inj z)
  | .str a, .str b => if h : a = b then .isTrue (by rw [h]) else .isFalse fun z => h (D.str.inj z)
  | .ref a, .ref b => if h : a = b then .isTrue (by rw [h]) else .isFalse fun z => h (D.ref.inj z)
  | .tup a, .tup b => match D.decs a b with
    | .isTrue h => .isTrue (by rw [h])
    | .isFalse h => .isFalse fun z => h (D.tup.inj z)
  | .kl a, .kl b => match D.decs a b with
    | .isTrue h => .isTrue (by rw [h])
    | .isFalse h => .isFalse fun z => h (D.kl.inj z)
  | .kl _, .non | .kl _, .bl _ | .kl _, .int _ | .kl _, .str _ | .kl _, .tup _ | .kl _, .ref _ => .isFalse nofun
  | .non, .kl _ | .bl _, .kl _ | .int _, .kl _ | .str _, .kl _ | .tup _, .kl _ | .ref _, .kl _ => .isFalse nofun
  | .non, .bl _ | .non, .int _ | .non, .str _ | .non, .tup _ | .non, .ref _ => .isFalse nofun
  | .bl _, .non | .bl _, .int _ | .bl _, .str _ | .bl _, .tup _ | .bl _, .ref _ => .isFalse nofun
  | .int _, .non | .int _, .bl _ | .int _, .str _ | .int _, .tup _ | .int _, .ref _ => .isFalse nofun
  | .str _, .non | .str _, .bl _ | .str _, .int _ | .str _, .tup _ | .str _, .ref _ => .isFalse nofun
  | .tup _, .non | .tup _, .bl _ | .tup _, .int _ | .tup _, .str _ | .tup _, .ref _ => .isFalse nofun
  | .ref _, .non | .ref _, .bl _ | .ref _, .int _ | .ref _, .str _ | .ref _, .tup _ => .isFalse nofun
def D.decs : (a b : List D) → Decidable (a = b)
  | [], [] => .isTrue rfl
  | [], _ :: _ => .isFalse nofun
  | _ :: _, [] => .isFalse nofun
  | x :: xs, y :: ys => match D.dec x y, D.decs xs ys with
    | .isTrue h, .isTrue h' => .isTrue (by rw [h, h'])
    | .isFalse h, _ => .isFalse fun z => h (List.cons.inj z).1
    | _, .isFalse h => .isFalse fun z => h (List.cons.inj z).2
end
instance : DecidableEq D := D.dec
/-- what stands behind a number: a list, a list that is only read, a dict (locked while a loop goes over it), an object of an own class -/
inductive Ob where
  | lst (l : List D) | rol (l : List D) | dct (k : Bool) (l : List (D × D)) | ins (c : Str) (fs : List (Str × D))
  deriving DecidableEq
abbrev G := List Ob
/-- an own error: its class, and its fields -/
structure Exc where
  cls : Str
  fs : List (Str × D)
inductive Res (α : Type) where
  | ok (a : α) (g : G) | exc (e : Exc) (g : G) | bad
abbrev M (α : Type) := G → Res α
def Res.bind {α β : Type} (r : Res α) (k : α → M β) : Res β := match r with
  | .ok a g => k a g
  | .exc e g => .exc e g
  | .bad => .bad
@[simp] theorem Res.bind_ok {α β : Type} (a : α) (g : G) (k : α → M β) : (Res.ok a g).bind k = k a g := rfl
@[simp] theorem Res.bind_exc {α β : Type} (e : Exc) (g : G) (k : α → M β) : (Res.exc e g : Res α).bind k = .exc e g := rfl
@[simp] theorem Res.bind_bad {α β : Type} (k : α → M β) : (Res.bad : Res α).bind k = .bad := rfl
/-- slots -/
abbrev T := List (Option D)
abbrev ME := T → M D
abbrev MA := T → M (List D)
abbrev MT := T → M Bool
inductive SR where
  | nx (t : T) (g : G) | rt (d : D) (g : G) | bk (t : T) (g : G) | ct (t : T) (g : G) | ex (e : Exc) (t : T) (g : G) | bad
abbrev MS := T → G → SR

/-- texts that occur: code points, and not too many -/
def sOk (s : Str) : Bool := PyData.strOk s && decide (s.length ≤ 1000)
/-- the names of fields: no method has one of them -/
def fieldNames : List Str := ["_acts", "_bases", "_book", "_cast", "_classes", "_house", "_kinds", "_known", "_later", "_let", "_levels", "_library", "_lines", "_other", "_outer", "_packages", "_programs", "_roots", "_rules", "_sealed", "_uses", "bodies", "farther", "here", "rows", "there", "third"]
def fieldOk (f : Str) : Bool := fieldNames.contains f
/-! ### how plain values stand for those of the run -/
/-- a list that is only read: the script -/
def SqF (K : PySem.W.Frag) (H : Hp) (a : Addr) (xs : List V) : Prop := (∃ o, H a = some (.frz o (.lst xs))) ∨ ∃ (o : Obj) (its : Array Value) (n : Nat), K.lookup a = some o ∧ o.cls = .type "list" ∧ o.dict = none ∧ o.data = .seq its n ∧ its.size ≤ sizeLine ∧ Vals xs its.toList
theorem SqF.seq {K : PySem.W.Frag} {H : Hp} {a : Addr} {xs : List V} (h : SqF K H a xs) : SqL K H a xs := by
  rcases h with h | h
  · exact .inl (.inr h)
  · exact .inr h
section
variable (K : PySem.W.Frag) (ρ : List Addr) (H : Hp)
mutual
inductive RelD : D → V → Prop
  | non : RelD .non .non
  | bl (b : Bool) : RelD (.bl b) (.bl b)
  | int (i : Int) : RelD (.int i) (.int i)
  | str {s : Str} : sOk s = true → RelD (.str s) (.str s)
  | tup {l : List D} {a : Addr} {xs : List V} : SqT K H a xs → RelDs l xs → RelD (.tup l) (.ref a)
  | kl {l : List D} {a : Addr} {xs : List V} : SqF K H a xs → RelDs l xs → RelD (.kl l) (.ref a)
  | ref {n : Nat} {a : Addr} : ρ[n]? = some a → RelD (.ref n) (.ref a)
inductive RelDs : List D → List V → Prop
  | nil : RelDs [] []
  | cons {d : D} {v : V} {ds : List D} {vs : List V} : RelD d v → RelDs ds vs → RelDs (d :: ds) (v :: vs)
end
end
section
variable {K : PySem.W.Frag} {ρ ρ' : List Addr} {H H' : Hp}
theorem RelDs.length : ∀ {ds : List D} {vs : List V}, RelDs K ρ H ds vs → ds.length = vs.length
  | _, _, .nil => rfl
  | _, _, .cons _ t => by rw [List.length_cons, List.length_cons, t.length]
theorem RelDs.get : ∀ {ds : List D} {vs : List V}, RelDs K ρ H ds vs → ∀ {i : Nat} {d : D}, ds[i]? = some d → ∃ v, vs[i]? = some v ∧ RelD K ρ H d v
  | _, _, .nil, _, _, e => by simp at e
  | _, _, .cons h _, 0, _, e => by
    cases e
    exact ⟨_, rfl, h⟩
  | _, _, .cons _ t, i + 1, d, e => by
    obtain ⟨v, h1, h2⟩ := t.get (i := i) (d := d) (by simpa using e)
    exact ⟨v, by simpa using h1, h2⟩
theorem RelDs.app : ∀ {ds : List D} {vs : List V} {es : List D} {us : List V}, RelDs K ρ H ds vs → RelDs K ρ H es us → RelDs K ρ H (ds ++ es) (vs ++ us)
  | _, _, _, _, .nil, h => h
  | _, _, _, _, .cons q t, h => .cons q (t.app h)
theorem RelDs.one {d : D} {v : V} (h : RelD K ρ H d v) : RelDs K ρ H [d] [v] := .cons h .nil
theorem RelDs.take : ∀ {ds : List D} {vs : List V} (n : Nat), RelDs K ρ H ds vs → RelDs K ρ H (ds.take n) (vs.take n)
  | _, _, 0, _ => .nil
  | _, _, _ + 1, .nil => .nil
  | _, _, n + 1, .cons h t => .cons h (t.take n)
theorem RelDs.drop : ∀ {ds : List D} {vs : List V} (n : Nat), RelDs K ρ H ds vs → RelDs K ρ H (ds.drop n) (vs.drop n)
  | _, _, 0, h => h
  | _, _, _ + 1, .nil => .nil
  | _, _, n + 1, .cons _ t => t.drop n
theorem RelDs.set {d : D} {v : V} (q : RelD K ρ H d v) : ∀ {ds : List D} {vs : List V} (n : Nat), RelDs K ρ H ds vs → RelDs K ρ H (ds.set n d) (vs.set n v)
  | _, _, _, .nil => .nil
  | _, _, 0, .cons _ t => .cons q t
  | _, _, n + 1, .cons h t => .cons h (RelDs.set q n t)
mutual
theorem RelD.mono (hr : ∀ (n : Nat) (a : Addr), ρ[n]? = some a → ρ'[n]? = some a) (ht : ∀ a xs, SqT K H a xs → SqT K H' a xs) (hf : ∀ a xs, SqF K H a xs → SqF K H' a xs) : ∀ {d : D} {v : V}, RelD K ρ H d v → RelD K ρ' H' d v
  | _, _, .non => .non
  | _, _, .bl b => .bl b
  | _, _, .int i => .int i
  | _, _, .str h => .str h
  | _, _, .tup h t => .tup (ht _ _ h) (RelDs.mono hr ht hf t)
  | _, _, .kl h t => .kl (hf _ _ h) (RelDs.mono hr ht hf t)
  | _, _, .ref h => .ref (hr _ _ h)
theorem RelDs.mono (hr : ∀ (n : Nat) (a : Addr), ρ[n]? = some a → ρ'[n]? = some a) (ht : ∀ a xs, SqT K H a xs → SqT K H' a xs) (hf : ∀ a xs, SqF K H a xs → SqF K H' a xs) : ∀ {ds : List D} {vs : List V}, RelDs K ρ H ds vs → RelDs K ρ' H' ds vs
  | _, _, .nil => .nil
  | _, _, .cons h t => .cons (RelD.mono hr ht hf h) (RelDs.mono hr ht hf t)
end
end
end RL
namespace RL
open PySem L2
/-- what all states of a run have in common -/
structure U where
  K : PySem.W.Frag
  cn : Str → Addr
  P : Program
  w : World

/-! ### dicts whose keys are tuples of texts, None, True and False -/
inductive PK where
  | non | bl (b : Bool) | str (x : Str)
  deriving DecidableEq
def PK.leaf : PK → Leaf
  | .non => .none
  | .bl b => .num (if b = true then 1 else 0)
  | .str x => .text x
theorem PK.leaf_inj : ∀ {a b : PK}, a.leaf = b.leaf → a = b
  | .non, .non, _ => rfl
  | .bl a, .bl b, h => by
    cases a <;> cases b <;> first | rfl | (exfalso; simp [PK.leaf] at h)
  | .str a, .str b, h => by
    simp [PK.leaf] at h
    rw [h]
  | .non, .bl _, h | .non, .str _, h | .bl _, .non, h | .bl _, .str _, h | .str _, .non, h | .str _, .bl _, h => by simp [PK.leaf] at h
def PK.isOf : PK → Value → Bool
  | .non, .none => true
  | .bl b, .bool c => decide (b = c)
  | .str x, v => Value.isStrOf x v
  | _, _ => false
theorem PK.isLeaf : ∀ {k : PK} {v : Value}, PK.isOf k v = true → Leaf.isOf k.leaf v = true
  | .non, v, h => by cases v <;> first | rfl | exact absurd h Bool.false_ne_true
  | .bl b, v, h => by
    cases v with
    | bool c =>
      have e : b = c := of_decide_eq_true h
      subst e
      show decide _ = true
      cases b <;> rfl
    | _ => exact absurd h Bool.false_ne_true
  | .str x, v, h => h
/-- the kind of such keys -/
def pkKind (P : Program) (w : World) : KeyKind P w PK where
  is := PK.isOf
  hash := fun k => (leafKind P w).hash k.leaf
  inj := fun v a b ha hb => PK.leaf_inj ((leafKind P w).inj v _ _ (PK.isLeaf ha) (PK.isLeaf hb))
  byValue := fun k v h => (leafKind P w).byValue _ v (PK.isLeaf h)
  pyHash := fun hv h => (leafKind P w).pyHash (PK.isLeaf hv) h
  eqBool := fun {A E s a b u v Q} hu hv h => (leafKind P w).eqBool (PK.isLeaf hu) (PK.isLeaf hv) (by
    have e : decide (a.leaf = b.leaf) = decide (a = b) := by
      by_cases q : a = b
      · rw [q]
        simp
      · rw [decide_eq_false q, decide_eq_false fun z => q (PK.leaf_inj z)]
    rw [e]
    exact h)
  «strs» := fun k x t v h => by
    cases k with
    | non => exact absurd h Bool.false_ne_true
    | bl b => exact absurd h Bool.false_ne_true
    | str y => exact (leafKind P w).strs (.text y) x t v h
abbrev tk (P : Program) (w : World) : HeapKind P w (List PK) := tupleKind (pkKind P w)
abbrev Ent := List PK × Addr × Value
def RawP (P : Program) (w : World) (h : Heap) (a : Addr) (xs : List Ent) : Prop :=
  xs.length ≤ sizeLine ∧ (a == sysModules) = false ∧ (xs.map (·.1)).Nodup ∧ ∃ o es ep, h.get? a = some o ∧ o.ExactDict ∧ o.data = .dict es ep ∧ es.toList = xs.map (entryOfKey (tk P w))
/-- a dict of such keys: its entries, as they lie -/
abbrev dP (P : Program) (w : World) (a : Addr) (xs : List Ent) : HO := .ext fun h => RawP P w h a xs
def toPK : D → Option PK
  | .non => some .non
  | .bl b => some (.bl b)
  | .str s => some (.str s)
  | _ => none
def toPKs : List D → Option (List PK)
  | [] => some []
  | d :: l => match toPK d, toPKs l with
    | some k, some ks => some (k :: ks)
    | _, _ => none
theorem toPK_inj : ∀ {d e : D} {k : PK}, toPK d = some k → toPK e = some k → d = e := by
  intro d e k h h'
  cases d <;> simp [toPK] at h <;> subst h <;> cases e <;> simp [toPK] at h' <;> first | rfl | rw [h']
theorem toPKs_inj : ∀ {l m : List D} {k : List PK}, toPKs l = some k → toPKs m = some k → l = m
  | [], [], _, _, _ => rfl
  | [], e :: m, k, h, h' => by
    simp only [toPKs] at h h'
    cases h
    split at h' <;> simp at h'
  | d :: l, [], k, h, h' => by
    simp only [toPKs] at h h'
    cases h'
    split at h <;> simp at h
  | d :: l, e :: m, k, h, h' => by
    simp only [toPKs] at h h'
    split at h
    · rename_i a as h1 h2
      cases h
      split at h'
      · rename_i b bs h3 h4
        cases h'
        rw [toPK_inj h1 h3, toPKs_inj h2 h4]
      · cases h'
    · cases h
section
variable (K : PySem.W.Frag) (ρ : List Addr) (H : Hp)
inductive RelKs : List (D × D) → List (Key × V) → Prop
  | nil : RelKs [] []
  | cons {s : Str} {d : D} {v : V} {ds : List (D × D)} {vs : List (Key × V)} : RelD K ρ H d v → RelKs ds vs → RelKs ((.str s, d) :: ds) ((.inr s, v) :: vs)
inductive RelPs : List (D × D) → List Ent → Prop
  | nil : RelPs [] []
  | cons {l : List D} {k : List PK} {b : Addr} {d : D} {v : V} {u : Value} {ds : List (D × D)} {xs : List Ent} : toPKs l = some k → RelD K ρ H (.tup l) (.ref b) → RelD K ρ H d v → RelV v u → RelPs ds xs → RelPs ((.tup l, d) :: ds) ((k, b, u) :: xs)
variable (P : Program) (w : World)
/-- a dict as it stands, unlocked -/
def DctU (a : Addr) (kvs : List (D × D)) (u : HO) : Prop := (∃ ks, u = .dK ks ∧ RelKs K ρ H kvs ks) ∨ ∃ xs, u = dP P w a xs ∧ RelPs K ρ H kvs xs
def RelF : Option D → Option V → Prop
  | some d, some v => RelD K ρ H d v
  | none, none => True
  | _, _ => False
inductive RelFs : List (Str × D) → List (Str × V) → Prop
  | nil : RelFs [] []
  | cons {f : Str} {d : D} {v : V} {ds : List (Str × D)} {vs : List (Str × V)} : fieldOk f = true → RelD K ρ H d v → RelFs ds vs → RelFs ((f, d) :: ds) ((f, v) :: vs)
variable (cn : Str → Addr)
def ObRel (a : Addr) : Ob → Prop
  | .lst l => ∃ xs, H a = some (.lst xs) ∧ RelDs K ρ H l xs
  | .rol l => ∃ xs o, H a = some (.frz o (.lst xs)) ∧ RelDs K ρ H l xs ∧ False
  | .dct false kvs => ∃ u, H a = some u ∧ DctU K ρ H P w a kvs u
  | .dct true kvs => ∃ u o, H a = some (.frz o u) ∧ DctU K ρ H P w a kvs u
  | .ins c fs => ∃ dx fs', H a = some (.ins (cn c) dx fs') ∧ RelFs K ρ H fs fs'
end
section
variable (u : U) (ρ : List Addr) (H : Hp)
structure Rep (g : G) : Prop where
  len : ρ.length = g.length
  nod : ρ.Nodup
  obs : ∀ (i : Nat) (o : Ob) (a : Addr), g[i]? = some o → ρ[i]? = some a → ObRel u.K ρ H u.P u.w u.cn a o
end
/-- what happens between two states: new objects are counted, what is not counted stays -/
structure Ev (ρ : List Addr) (H : Hp) (ρ' : List Addr) (H' : Hp) : Prop where
  pre : ∃ new, ρ' = ρ ++ new ∧ ∀ a ∈ new, H a = none
  liv : ∀ a, H' a = none → H a = none
  frm : ∀ a o, H a = some o → a ∉ ρ → H' a = some o
section
variable {u : U} {ρ ρ' ρ'' : List Addr} {H H' H'' : Hp} {g g' : G}
theorem ndix {l : List Addr} (h : l.Nodup) {i j : Nat} {x : Addr} (a : l[i]? = some x) (b : l[j]? = some x) : i = j := by
  obtain ⟨_, e1⟩ := List.getElem?_eq_some_iff.mp a
  obtain ⟨_, e2⟩ := List.getElem?_eq_some_iff.mp b
  exact (List.getElem_inj h).mp (e1.trans e2.symm)
theorem Ev.refl : Ev ρ H ρ H := ⟨⟨[], by simp, fun a h => absurd h (by simp)⟩, fun _ h => h, fun _ _ h _ => h⟩
theorem Ev.trans (e : Ev ρ H ρ' H') (f : Ev ρ' H' ρ'' H'') : Ev ρ H ρ'' H'' := by
  obtain ⟨⟨n1, rfl, h1⟩, l1, k1⟩ := e
  obtain ⟨⟨n2, rfl, h2⟩, l2, k2⟩ := f
  refine ⟨⟨n1 ++ n2, by simp, fun a m => ?_⟩, fun a h => l1 a (l2 a h), fun a o h n => ?_⟩
  · rcases List.mem_append.mp m with m | m
    · exact h1 a m
    · exact l1 a (h2 a m)
  · refine k2 a o (k1 a o h n) fun m => ?_
    rcases List.mem_append.mp m with m | m
    · exact n m
    · rw [h1 a m] at h
      cases h
theorem Ev.ix (e : Ev ρ H ρ' H') : ∀ (n : Nat) (a : Addr), ρ[n]? = some a → ρ'[n]? = some a := by
  obtain ⟨⟨n1, rfl, _⟩, _, _⟩ := e
  intro n a h
  rw [List.getElem?_append_left (List.getElem?_eq_some_iff.mp h).1]
  exact h
theorem Rep.there (r : Rep u ρ H g) {a : Addr} (m : a ∈ ρ) : ∃ (i : Nat) (o : Ob), g[i]? = some o ∧ ρ[i]? = some a ∧ ObRel u.K ρ H u.P u.w u.cn a o := by
  obtain ⟨i, hi, e⟩ := List.getElem_of_mem m
  have hg : i < g.length := by rw [← r.len]; exact hi
  have e1 : g[i]? = some g[i] := List.getElem?_eq_getElem hg
  have e2 : ρ[i]? = some a := by rw [List.getElem?_eq_getElem hi, e]
  exact ⟨i, _, e1, e2, r.obs i _ a e1 e2⟩
/-- a counted object is no tuple -/
theorem Rep.notup (r : Rep u ρ H g) {a : Addr} (m : a ∈ ρ) {xs : List V} : ¬ Rd H a (.tup xs) := by
  obtain ⟨i, o, _, _, q⟩ := r.there m
  cases o with
  | lst l =>
    obtain ⟨ys, e, _⟩ := q
    rintro (h | ⟨ob, h⟩) <;> rw [e] at h <;> cases h
  | rol l =>
    obtain ⟨ys, ob, e, _⟩ := q
    rintro (h | ⟨ob', h⟩) <;> rw [e] at h <;> cases h
  | dct k l =>
    cases k with
    | false =>
      obtain ⟨w, e, ⟨ks, rfl, _⟩ | ⟨ks, rfl, _⟩⟩ := q <;> rintro (h | ⟨ob', h⟩) <;> rw [e] at h <;> cases h
    | true =>
      obtain ⟨w, ob, e, ⟨ks, rfl, _⟩ | ⟨ks, rfl, _⟩⟩ := q <;> rintro (h | ⟨ob', h⟩) <;> rw [e] at h <;> cases h
  | ins c fs =>
    obtain ⟨dx, fs', e, _⟩ := q
    rintro (h | ⟨ob, h⟩) <;> rw [e] at h <;> cases h
theorem Ev.tup (e : Ev ρ H ρ' H') (r : Rep u ρ H g) {a : Addr} {xs : List V} (h : SqT u.K H a xs) : SqT u.K H' a xs := by
  rcases h with h | h
  · left
    have n : a ∉ ρ := fun m => r.notup m h
    rcases h with h | ⟨o, h⟩
    · exact .inl (e.frm _ _ h n)
    · exact .inr ⟨o, e.frm _ _ h n⟩
  · exact .inr h
theorem Rep.nofrz (r : Rep u ρ H g) {a : Addr} {ob : Obj} {xs : List V} (h : H a = some (.frz ob (.lst xs))) : a ∉ ρ := fun m => by
  obtain ⟨i, o, _, _, q⟩ := r.there m
  cases o with
  | lst l => obtain ⟨_, e, _⟩ := q; rw [h] at e; cases e
  | rol l => obtain ⟨_, _, _, _, z⟩ := q; exact z
  | dct k l =>
    cases k with
    | false => obtain ⟨_, e, ⟨_, rfl, _⟩ | ⟨_, rfl, _⟩⟩ := q <;> rw [h] at e <;> cases e
    | true => obtain ⟨_, _, e, ⟨_, rfl, _⟩ | ⟨_, rfl, _⟩⟩ := q <;> rw [h] at e <;> cases e
  | ins c fs => obtain ⟨_, _, e, _⟩ := q; rw [h] at e; cases e
theorem Ev.kl (e : Ev ρ H ρ' H') (r : Rep u ρ H g) {a : Addr} {xs : List V} (h : SqF u.K H a xs) : SqF u.K H' a xs := by
  rcases h with ⟨o, h⟩ | h
  · exact .inl ⟨o, e.frm _ _ h (r.nofrz h)⟩
  · exact .inr h
theorem Ev.rel (e : Ev ρ H ρ' H') (r : Rep u ρ H g) {d : D} {v : V} (h : RelD u.K ρ H d v) : RelD u.K ρ' H' d v := h.mono e.ix (fun _ _ q => e.tup r q) fun _ _ q => e.kl r q
theorem Ev.rels (e : Ev ρ H ρ' H') (r : Rep u ρ H g) {d : List D} {v : List V} (h : RelDs u.K ρ H d v) : RelDs u.K ρ' H' d v := h.mono e.ix (fun _ _ q => e.tup r q) fun _ _ q => e.kl r q
theorem RelKs.mono {K : PySem.W.Frag} (m : ∀ {d : D} {v : V}, RelD K ρ H d v → RelD K ρ' H' d v) : ∀ {ds : List (D × D)} {ks : List (Key × V)}, RelKs K ρ H ds ks → RelKs K ρ' H' ds ks
  | _, _, .nil => .nil
  | _, _, .cons h t => .cons (m h) (RelKs.mono m t)
theorem RelPs.mono {K : PySem.W.Frag} (m : ∀ {d : D} {v : V}, RelD K ρ H d v → RelD K ρ' H' d v) : ∀ {ds : List (D × D)} {ks : List Ent}, RelPs K ρ H ds ks → RelPs K ρ' H' ds ks
  | _, _, .nil => .nil
  | _, _, .cons h1 h2 h3 h4 t => .cons h1 (m h2) (m h3) h4 (RelPs.mono m t)
theorem DctU.mono (m : ∀ {d : D} {v : V}, RelD u.K ρ H d v → RelD u.K ρ' H' d v) {a : Addr} {kvs : List (D × D)} {o : HO} (h : DctU u.K ρ H u.P u.w a kvs o) : DctU u.K ρ' H' u.P u.w a kvs o := by
  rcases h with ⟨ks, e, r⟩ | ⟨ks, e, r⟩
  · exact .inl ⟨ks, e, r.mono m⟩
  · exact .inr ⟨ks, e, r.mono m⟩
theorem RelDs.monoB {K : PySem.W.Frag} (m : ∀ {d : D} {v : V}, RelD K ρ H d v → RelD K ρ' H' d v) : ∀ {ds : List D} {vs : List V}, RelDs K ρ H ds vs → RelDs K ρ' H' ds vs
  | _, _, .nil => .nil
  | _, _, .cons h t => .cons (m h) (t.monoB m)
theorem RelF.mono {K : PySem.W.Frag} (m : ∀ {d : D} {v : V}, RelD K ρ H d v → RelD K ρ' H' d v) {d : Option D} {v : Option V} (h : RelF K ρ H d v) : RelF K ρ' H' d v := by
  cases d <;> cases v <;> first | exact h | exact m h
theorem RelFs.mono {K : PySem.W.Frag} (m : ∀ {d : D} {v : V}, RelD K ρ H d v → RelD K ρ' H' d v) : ∀ {ds : List (Str × D)} {ks : List (Str × V)}, RelFs K ρ H ds ks → RelFs K ρ' H' ds ks
  | _, _, .nil => .nil
  | _, _, .cons k h t => .cons k (m h) (RelFs.mono m t)
theorem RelFs.length {K : PySem.W.Frag} : ∀ {ds : List (Str × D)} {ks : List (Str × V)}, RelFs K ρ H ds ks → ds.length = ks.length
  | _, _, .nil => rfl
  | _, _, .cons _ h t => by rw [List.length_cons, List.length_cons, t.length]
theorem RelFs.val {K : PySem.W.Frag} (g : Str) : ∀ {ds : List (Str × D)} {ks : List (Str × V)}, RelFs K ρ H ds ks → RelF K ρ H (ds.lookup g) (ks.lookup g)
  | _, _, .nil => True.intro
  | _, _, .cons (f := f) _ h t => by
    by_cases e : g = f
    · subst e
      simp only [List.lookup, beq_self_eq_true]
      exact h
    · have e' : (g == f) = false := by simpa using e
      simp only [List.lookup, e']
      exact t.val g
theorem RelFs.no {K : PySem.W.Frag} {m : Str} (hm : fieldOk m = false) : ∀ {ds : List (Str × D)} {ks : List (Str × V)}, RelFs K ρ H ds ks → ks.lookup m = none
  | _, _, .nil => rfl
  | _, _, .cons (f := f) k h t => by
    by_cases e : m = f
    · rw [e, k] at hm
      cases hm
    · have e' : (m == f) = false := by simpa using e
      simp only [List.lookup, e']
      exact t.no hm
/-- an object that is as it was, seen from a later state -/
theorem ObRel.mono (m : ∀ {d : D} {v : V}, RelD u.K ρ H d v → RelD u.K ρ' H' d v) {a : Addr} (s : H' a = H a) {o : Ob} (h : ObRel u.K ρ H u.P u.w u.cn a o) : ObRel u.K ρ' H' u.P u.w u.cn a o := by
  cases o with
  | lst l => obtain ⟨xs, e, q⟩ := h; exact ⟨xs, s.trans e, q.monoB m⟩
  | rol l => obtain ⟨xs, o, e, q⟩ := h; exact q.2.elim
  | dct k l =>
    cases k with
    | false => obtain ⟨u, e, q⟩ := h; exact ⟨u, s.trans e, q.mono m⟩
    | true => obtain ⟨u, o, e, q⟩ := h; exact ⟨u, o, s.trans e, q.mono m⟩
  | ins c fs => obtain ⟨dx, fs', e, q⟩ := h; exact ⟨dx, fs', s.trans e, q.mono m⟩
theorem Rep.addr (r : Rep u ρ H g) {n : Nat} {o : Ob} (e : g[n]? = some o) : ∃ a, ρ[n]? = some a ∧ ObRel u.K ρ H u.P u.w u.cn a o := by
  have hn : n < ρ.length := by rw [r.len]; exact (List.getElem?_eq_some_iff.mp e).1
  have e2 := List.getElem?_eq_getElem hn
  exact ⟨ρ[n], e2, r.obs n o _ e e2⟩
theorem Rep.tracked (r : Rep u ρ H g) {a : Addr} (m : a ∈ ρ) : ∃ o, H a = some o := by
  obtain ⟨i, o, _, _, q⟩ := r.there m
  cases o with
  | lst l => exact ⟨_, q.choose_spec.1⟩
  | rol l => obtain ⟨_, _, e, _⟩ := q; exact ⟨_, e⟩
  | dct k l =>
    cases k with
    | false => obtain ⟨_, e, _⟩ := q; exact ⟨_, e⟩
    | true => obtain ⟨_, _, e, _⟩ := q; exact ⟨_, e⟩
  | ins c fs => obtain ⟨_, _, e, _⟩ := q; exact ⟨_, e⟩
/-- a new object that is not counted -/
theorem Ev.new (r : Rep u ρ H g) {p : Addr} {o : HO} (h : H p = none) : Ev ρ H ρ (upd H p o) ∧ Rep u ρ (upd H p o) g := by
  have e : Ev ρ H ρ (upd H p o) := by
    refine ⟨⟨[], by simp, fun a h => absurd h (by simp)⟩, fun a z => ?_, fun a u z _ => ?_⟩
    · by_cases q : a = p
      · subst q; exact h
      · rwa [upd_ne q] at z
    · rw [upd_ne (ne_of_none z h)]; exact z
  refine ⟨e, r.len, r.nod, fun i u a e1 e2 => ?_⟩
  have m : a ∈ ρ := List.mem_of_getElem? e2
  obtain ⟨w, hw⟩ := r.tracked m
  exact (r.obs i u a e1 e2).mono (e.rel r) (by rw [upd_ne (ne_of_none hw h)])
/-- a new object that is counted -/
theorem Ev.cnt (r : Rep u ρ H g) {p : Addr} {o : HO} {ob : Ob} (h : H p = none) (q : ∀ {ρ' : List Addr} {H' : Hp}, Ev ρ H ρ' H' → H' p = some o → ObRel u.K ρ' H' u.P u.w u.cn p ob) :
    Ev ρ H (ρ ++ [p]) (upd H p o) ∧ Rep u (ρ ++ [p]) (upd H p o) (g ++ [ob]) ∧ (ρ ++ [p])[g.length]? = some p := by
  have np : p ∉ ρ := fun m => by
    obtain ⟨w, hw⟩ := r.tracked m
    rw [h] at hw; cases hw
  have e : Ev ρ H (ρ ++ [p]) (upd H p o) := by
    refine ⟨⟨[p], rfl, fun a m => ?_⟩, fun a z => ?_, fun a u z _ => ?_⟩
    · rw [List.mem_singleton.mp m]; exact h
    · by_cases q : a = p
      · subst q; exact h
      · rwa [upd_ne q] at z
    · rw [upd_ne (ne_of_none z h)]; exact z
  refine ⟨e, ⟨by simp [r.len], ?_, fun i u a e1 e2 => ?_⟩, ?_⟩
  · refine List.nodup_append.mpr ⟨r.nod, by simp, fun a ha b hb => ?_⟩
    rw [List.mem_singleton.mp hb]
    exact fun z => np (z ▸ ha)
  · by_cases hi : i < g.length
    · rw [List.getElem?_append_left hi] at e1
      rw [List.getElem?_append_left (by rw [r.len]; exact hi)] at e2
      have m : a ∈ ρ := List.mem_of_getElem? e2
      obtain ⟨w, hw⟩ := r.tracked m
      exact (r.obs i u a e1 e2).mono (e.rel r) (by rw [upd_ne (ne_of_none hw h)])
    · rw [List.getElem?_append_right (by omega)] at e1
      rw [List.getElem?_append_right (by rw [r.len]; omega)] at e2
      have h0 : i - g.length = 0 := by
        have := (List.getElem?_eq_some_iff.mp e1).1
        simpa using this
      rw [h0] at e1
      rw [r.len, h0] at e2
      cases e1
      cases e2
      exact q e upd_same
  · rw [List.getElem?_append_right (by rw [r.len]; omega), r.len, Nat.sub_self]
    rfl
/-- a counted object is written -/
theorem Ev.wr (r : Rep u ρ H g) {n : Nat} {p : Addr} {o : HO} {ob : Ob} (hp : ρ[n]? = some p) (hn : n < g.length) (q : ∀ {ρ' : List Addr} {H' : Hp}, Ev ρ H ρ' H' → H' p = some o → ObRel u.K ρ' H' u.P u.w u.cn p ob) :
    Ev ρ H ρ (upd H p o) ∧ Rep u ρ (upd H p o) (g.set n ob) := by
  have m : p ∈ ρ := List.mem_of_getElem? hp
  have e : Ev ρ H ρ (upd H p o) := by
    refine ⟨⟨[], by simp, fun a h => absurd h (by simp)⟩, fun a z => ?_, fun a u z nz => ?_⟩
    · by_cases q : a = p
      · subst q; rw [upd_same] at z; cases z
      · rwa [upd_ne q] at z
    · rw [upd_ne (fun (q : a = p) => nz (by rw [q]; exact m))]; exact z
  refine ⟨e, ⟨by simp [r.len], r.nod, fun i u a e1 e2 => ?_⟩⟩
  by_cases hi : i = n
  · subst hi
    rw [hp] at e2
    cases e2
    rw [List.getElem?_set_self hn] at e1
    cases e1
    exact q e upd_same
  · rw [List.getElem?_set_ne (Ne.symm hi)] at e1
    have na : a ≠ p := fun z => by
      subst z
      exact hi (ndix r.nod e2 hp)
    exact (r.obs i u a e1 e2).mono (e.rel r) (by rw [upd_ne na])
end
/-! ### slots -/
def Sl (K : PySem.W.Frag) (ρ : List Addr) (H : Hp) (τ : T) (σ : St) : Prop := ∀ (i : Nat) (d : D), τ[i]? = some (some d) → ∃ v, σ[i]? = some (some v) ∧ RelD K ρ H d v
structure Stt (u : U) (ρ : List Addr) (τ : T) (g : G) (σ : St) (H : Hp) : Prop where
  len : τ.length = σ.length
  sl : Sl u.K ρ H τ σ
  rep : Rep u ρ H g
end RL
namespace RL
open PySem L2
/-- how an error of the program lies -/
def XRel (U₀ : U) (ρ : List Addr) (H : Hp) (e : Exc) (cls : Value) (d : Option Addr) : Prop :=
  cls = .ref (U₀.cn e.cls) ∧ ∃ dx fs, d = some dx ∧ H dx = some (.xd fs) ∧ ∀ f, RelF U₀.K ρ H (e.fs.lookup f) (fs.lookup f)
abbrev RelT (α β : Type) := List Addr → Hp → α → β → Prop
section
variable {U₀ : U} {W : WX} {α β γ δ : Type}
/-- what is wanted behind a computation that began at ρ, H -/
def Post (U₀ : U) (Rl : RelT α β) (W : WX) (σ : St) (ρ : List Addr) (H : Hp) (r : Res α) (Q : β → Hp → Prop) : Prop := match r with
  | .ok a g => ∀ ρ' v H', Ev ρ H ρ' H' → Rep U₀ ρ' H' g → Rl ρ' H' a v → Q v H'
  | .exc e g => ∀ ρ' H' cls d, Ev ρ H ρ' H' → Rep U₀ ρ' H' g → XRel U₀ ρ' H' e cls d → W cls d σ H'
  | .bad => False
variable {Rl : RelT α β} {Rk : RelT γ δ} {σ : St} {ρ ρ' : List Addr} {H H' : Hp}
theorem Post.later {r : Res α} {Q : β → Hp → Prop} (p : Post U₀ Rl W σ ρ H r Q) (e : Ev ρ H ρ' H') : Post U₀ Rl W σ ρ' H' r Q := by
  cases r with
  | ok a g => exact fun ρ2 v H2 e2 r2 q => p ρ2 v H2 (e.trans e2) r2 q
  | exc x g => exact fun ρ2 H2 cls d e2 r2 q => p ρ2 H2 cls d (e.trans e2) r2 q
  | bad => exact p
theorem Post.thn {r : Res α} {k : α → M γ} {Q : δ → Hp → Prop} {Q0 : β → Hp → Prop} (p : Post U₀ Rk W σ ρ H (r.bind k) Q)
    (h : ∀ (ρ1 : List Addr) (v : β) (H1 : Hp) (a : α) (g1 : G), Ev ρ H ρ1 H1 → Rep U₀ ρ1 H1 g1 → Rl ρ1 H1 a v → Post U₀ Rk W σ ρ1 H1 (k a g1) Q → Q0 v H1) : Post U₀ Rl W σ ρ H r Q0 := by
  cases r with
  | ok a g => exact fun ρ1 v H1 e1 r1 q => h ρ1 v H1 a g e1 r1 q (Post.later p e1)
  | exc x g => exact p
  | bad => exact p
theorem Post.imp {r : Res α} {Q Q0 : β → Hp → Prop} (p : Post U₀ Rl W σ ρ H r Q) (h : ∀ v H, Q v H → Q0 v H) : Post U₀ Rl W σ ρ H r Q0 := by
  cases r with
  | ok a g => exact fun ρ1 v H1 e1 r1 q => h _ _ (p ρ1 v H1 e1 r1 q)
  | exc x g => exact p
  | bad => exact p
/-- nothing happened -/
theorem Post.at {a : α} {g : G} {Q : β → Hp → Prop} {v : β} (p : Post U₀ Rl W σ ρ H (.ok a g) Q) (r : Rep U₀ ρ H g) (q : Rl ρ H a v) : Q v H := p ρ v H Ev.refl r q
theorem Stt.later {τ : T} {g g' : G} (s : Stt U₀ ρ τ g σ H) (e : Ev ρ H ρ' H') (r : Rep U₀ ρ' H' g') : Stt U₀ ρ' τ g' σ H' :=
  ⟨s.len, fun i d h => let ⟨v, h1, h2⟩ := s.sl i d h; ⟨v, h1, e.rel s.rep h2⟩, r⟩
theorem Stt.set {τ : T} {g : G} {i : Nat} {d : D} {v : V} (s : Stt U₀ ρ τ g σ H) (r : RelD U₀.K ρ H d v) : Stt U₀ ρ (τ.set i (some d)) g (σ.set i (some v)) H := by
  refine ⟨by simp [s.len], fun j d' h => ?_, s.rep⟩
  by_cases hj : i = j
  · subst hj
    have hi : i < τ.length := by
      have := (List.getElem?_eq_some_iff.mp h).1
      simpa using this
    rw [List.getElem?_set_self hi] at h
    cases h
    exact ⟨v, List.getElem?_set_self (by rw [← s.len]; exact hi), r⟩
  · rw [List.getElem?_set_ne hj] at h ⊢
    exact s.sl j d' h
theorem Stt.none {τ : T} {g : G} {i : Nat} (s : Stt U₀ ρ τ g σ H) : Stt U₀ ρ (τ.set i none) g (σ.set i none) H := by
  refine ⟨by simp [s.len], fun j d' h => ?_, s.rep⟩
  by_cases hj : i = j
  · subst hj
    have hi : i < τ.length := by
      have := (List.getElem?_eq_some_iff.mp h).1
      simpa using this
    rw [List.getElem?_set_self hi] at h
    cases h
  · rw [List.getElem?_set_ne hj] at h ⊢
    exact s.sl j d' h
def rD (U₀ : U) : RelT D V := RelD U₀.K
def rDs (U₀ : U) : RelT (List D) (List V) := RelDs U₀.K
def rB : RelT Bool Bool := fun _ _ a b => a = b
def tE (U₀ : U) (W : WX) (m : ME) : TE := fun σ H Q => ∃ ρ τ g, Stt U₀ ρ τ g σ H ∧ Post U₀ (rD U₀) W σ ρ H (m τ g) Q
def tA (U₀ : U) (W : WX) (m : MA) : TA := fun σ H Q => ∃ ρ τ g, Stt U₀ ρ τ g σ H ∧ Post U₀ (rDs U₀) W σ ρ H (m τ g) Q
def tT (U₀ : U) (W : WX) (m : MT) : TT := fun σ H Q => ∃ ρ τ g, Stt U₀ ρ τ g σ H ∧ Post U₀ rB W σ ρ H (m τ g) Q
end
/-- what a context has in common with all others -/
abbrev ux (X : Cx) (cn : Str → Addr) : U := ⟨X.K, cn, X.prog, X.w⟩
/-! ### expressions, argument lists, tests that follow a plain computation -/
def RE (X : Cx) (cn : Str → Addr) (W : WX) (e : Expr) (m : ME) : Prop := PE X e (tE (ux X cn) W m)
def RA (X : Cx) (cn : Str → Addr) (W : WX) (es : List Expr) (m : MA) : Prop := PA X es (tA (ux X cn) W m)
def RT (X : Cx) (cn : Str → Addr) (W : WX) (e : Expr) (m : MT) : Prop := PT X e (tT (ux X cn) W m)
def RW (X : Cx) (cn : Str → Addr) (W : WX) (e : Expr) (m : MT) : Prop := PW X e (tT (ux X cn) W m)
theorem peI {X : Cx} {e : Expr} {t t' : TE} (h : PE X e t) (i : ∀ σ H Q, t' σ H Q → t σ H Q) : PE X e t' := ⟨fun pins s σ H Q I q => h.run pins s σ H Q I (i σ H Q q)⟩
theorem paI {X : Cx} {e : List Expr} {t t' : TA} (h : PA X e t) (i : ∀ σ H Q, t' σ H Q → t σ H Q) : PA X e t' := ⟨fun pos pins s σ H Q I q => h.run pos pins s σ H Q I (i σ H Q q)⟩
theorem ptI {X : Cx} {e : Expr} {t t' : TT} (h : PT X e t) (i : ∀ σ H Q, t' σ H Q → t σ H Q) : PT X e t' := ⟨fun pins s σ H Q I q => h.run pins s σ H Q I (i σ H Q q)⟩
theorem pwI {X : Cx} {e : Expr} {t t' : TT} (h : PW X e t) (i : ∀ σ H Q, t' σ H Q → t σ H Q) : PW X e t' := ⟨fun whole pins s σ H Q I q => h.run whole pins s σ H Q I (i σ H Q q)⟩
theorem psI {X : Cx} {e : Stmt} {t t' : TS} (h : PS X e t) (i : ∀ Dn σ H, t' Dn σ H → t Dn σ H) : PS X e t' := ⟨fun pins s σ H Q I q => h.run pins s σ H Q I (i Q σ H q)⟩
theorem pssI {X : Cx} {e : List Stmt} {t t' : TS} (h : PSs X e t) (i : ∀ Dn σ H, t' Dn σ H → t Dn σ H) : PSs X e t' := ⟨fun pins s σ H Q I q => h.run pins s σ H Q I (i Q σ H q)⟩
/-- a value that is known -/
def mC (d : D) : ME := fun _ g => .ok d g
def mV (i : Nat) : ME := fun τ g => match τ[i]? with
  | some (some d) => .ok d g
  | _ => .bad
def mNil : MA := fun _ g => .ok [] g
def mCons (a : ME) (r : MA) : MA := fun τ g => (a τ g).bind fun d g1 => (r τ g1).bind fun ds g2 => .ok (d :: ds) g2
/-- an operator on two values -/
def mOp (f : D → D → M D) (a b : ME) : ME := fun τ g => (a τ g).bind fun x g1 => (b τ g1).bind fun y g2 => f x y g2
def mUn (f : D → M D) (a : ME) : ME := fun τ g => (a τ g).bind f
def mUnA (f : List D → M D) (a : MA) : ME := fun τ g => (a τ g).bind f
section
variable {X : Cx} {cn : Str → Addr} {W : WX} {pos : Pos} {a b e : Expr} {es : List Expr} {ma mb : ME} {ml : MA}
theorem re_int {i j} : RE X cn W (.Constant (.int i) j pos) (mC (.int i)) := peI pe_int fun σ H Q ⟨ρ, τ, g, s, p⟩ => p.at s.rep (.int i)
theorem re_bl {i j} : RE X cn W (.Constant (.bool i) j pos) (mC (.bl i)) := peI pe_bl fun σ H Q ⟨ρ, τ, g, s, p⟩ => p.at s.rep (.bl i)
theorem re_non {j} : RE X cn W (.Constant .none j pos) (mC .non) := peI pe_non fun σ H Q ⟨ρ, τ, g, s, p⟩ => p.at s.rep .non
theorem re_str {i j} (h : sOk i = true := by decide +kernel) : RE X cn W (.Constant (.str i) j pos) (mC (.str i)) := peI pe_str fun σ H Q ⟨ρ, τ, g, s, p⟩ => p.at s.rep (.str h)
theorem rv (i : Nat) {x : Str} (hN : X.N[i]? = some x := by rfl) (hv : Vis X.env.scope x := by first | exact Or.inl rfl | exact Or.inr (Or.inl rfl) | exact Or.inr (Or.inr rfl)) (hd : (x == ("__debug__" : Str)) = false := by decide)
    (hcd : (x == ("__classdict__" : Str)) = false := by decide) : RE X cn W (.Name x pos) (mV i) := by
  refine peI (pe_var hN hv hd hcd) fun σ H Q ⟨ρ, τ, g, s, p⟩ => ?_
  unfold mV at p
  split at p
  · rename_i d hd
    obtain ⟨v, h1, h2⟩ := s.sl i d hd
    exact ⟨v, h1, p.at s.rep h2⟩
  · exact p.elim
/-- a constant of a module -/
theorem re_glob {x : Str} {d : D} {v : V} {u : Value} (hg : Gl X x) (hm : X.mg x = some u) (r : RelV v u) (q : ∀ ρ H, RelD X.K ρ H d v) (hd : (x == ("__debug__" : Str)) = false := by decide) : RE X cn W (.Name x pos) (mC d) :=
  peI (pe_glob hg hm r hd) fun σ H Q ⟨ρ, τ, g, s, p⟩ => p.at s.rep (q ρ H)
theorem ra_nil : RA X cn W [] mNil := paI pa_nil fun σ H Q ⟨ρ, τ, g, s, p⟩ => p.at s.rep .nil
theorem ra_cons (ha : RE X cn W e ma) (hr : RA X cn W es ml) (hs : starEach (e :: es) X.env = (false, eval e X.env) :: starEach es X.env := by rfl) : RA X cn W (e :: es) (mCons ma ml) := by
  refine paI (pa_cons ha hr hs) fun σ H Q ⟨ρ, τ, g, s, p⟩ => ?_
  refine ⟨ρ, τ, g, s, p.thn fun ρ1 v H1 d g1 e1 r1 q1 p1 => ?_⟩
  refine ⟨ρ1, τ, g1, s.later e1 r1, p1.thn fun ρ2 vs H2 ds g2 e2 r2 q2 p2 => ?_⟩
  exact p2.at r2 (.cons (e2.rel r1 q1) q2)
/-- a binary operator of the run follows f -/
def S2 (U₀ : U) (r : R2) (f : D → D → M D) : Prop := ∀ (W : WX) (σ : St) (ρ : List Addr) (H : Hp) (g : G) (x y : D) (v u : V) (Q : VK),
  Rep U₀ ρ H g → RelD U₀.K ρ H x v → RelD U₀.K ρ H y u → Post U₀ (rD U₀) W σ ρ H (f x y g) Q → r v u H Q
theorem two_e {r : R2} {f : D → D → M D} (s : S2 (ux X cn) r f) : ∀ σ H Q, tE (ux X cn) W (mOp f ma mb) σ H Q → tOp r (tE (ux X cn) W ma) (tE (ux X cn) W mb) σ H Q := by
  rintro σ H Q ⟨ρ, τ, g, st, p⟩
  refine ⟨ρ, τ, g, st, p.thn fun ρ1 v H1 d g1 e1 r1 q1 p1 => ?_⟩
  refine ⟨ρ1, τ, g1, st.later e1 r1, p1.thn fun ρ2 u H2 d2 g2 e2 r2 q2 p2 => ?_⟩
  exact s W σ ρ2 H2 g2 d d2 v u Q r2 (e2.rel r1 q1) q2 p2
theorem re_op {op : Operator} {r : R2} {f : D → D → M D} (ho : OpR X (binaryOp op) r) (s : S2 (ux X cn) r f) (ha : RE X cn W a ma) (hb : RE X cn W b mb) : RE X cn W (.BinOp a op b pos) (mOp f ma mb) :=
  peI (pe_op ho ha hb) (two_e s)
theorem re_cmp {op : CmpOp} {r : R2} {f : D → D → M D} (ho : OpR X (compareOp op) r) (s : S2 (ux X cn) r f) (ha : RE X cn W a ma) (hb : RE X cn W b mb) (hm : behindInMarks op b = false) : RE X cn W (.Compare a [op] [b] pos) (mOp f ma mb) :=
  peI (pe_cmpR ho ha hb hm) (two_e s)
/-- a built-in function or type, called -/
def SA (U₀ : U) (r : List V → Hp → VK → Prop) (f : List D → M D) : Prop := ∀ (W : WX) (σ : St) (ρ : List Addr) (H : Hp) (g : G) (x : List D) (v : List V) (Q : VK),
  Rep U₀ ρ H g → RelDs U₀.K ρ H x v → Post U₀ (rD U₀) W σ ρ H (f x g) Q → r v H Q
theorem call_e {r : List V → Hp → VK → Prop} {f : List D → M D} (s : SA (ux X cn) r f) : ∀ σ H Q, tE (ux X cn) W (mUnA f ml) σ H Q → tCB r (tA (ux X cn) W ml) σ H Q := by
  rintro σ H Q ⟨ρ, τ, g, st, p⟩
  refine ⟨ρ, τ, g, st, p.thn fun ρ1 v H1 d g1 e1 r1 q1 p1 => ?_⟩
  exact s W σ ρ1 H1 g1 d v Q r1 q1 p1
theorem re_callB {id x : Str} {i : String} {r : List V → Hp → VK → Prop} {f : List D → M D} {p : Pos} (hc : CallR X (.builtin i) r) (s : SA (ux X cn) r f) (hg : Gl X x) (hm : X.mg x = none) (hv : bootBuiltins x = some (.builtin i)) (ha : RA X cn W (e :: es) ml) (hn : x ≠ "__name__" := by decide) (hdb : (x == ("__debug__" : Str)) = false := by decide)
    (he : starEach (e :: es) X.env = (false, eval e X.env) :: starEach es X.env := by rfl) (hpl : (backTo pos (starEach es X.env)).any (·.1) = false := by rfl) : RE X cn W (.Call (.Name x p) (e :: es) [] pos) (mUnA f ml) :=
  peI (pe_callB hc hg hm hv ha hn hdb he hpl) (call_e s)
theorem re_callTy {id x : Str} {i : String} {r : List V → Hp → VK → Prop} {f : List D → M D} {p : Pos} (hc : CallR X (.type i) r) (s : SA (ux X cn) r f) (hg : Gl X x) (hm : X.mg x = none) (hv : bootBuiltins x = some (.type i)) (ha : RA X cn W (e :: es) ml) (hn : x ≠ "__name__" := by decide) (hdb : (x == ("__debug__" : Str)) = false := by decide)
    (he : starEach (e :: es) X.env = (false, eval e X.env) :: starEach es X.env := by rfl) (hpl : (backTo pos (starEach es X.env)).any (·.1) = false := by rfl) : RE X cn W (.Call (.Name x p) (e :: es) [] pos) (mUnA f ml) :=
  peI (pe_callTy hc hg hm hv ha hn hdb he hpl) (call_e s)
end
end RL
namespace RL
open PySem L2
/-! ### the plain meaning of operators -/
def ck (c : Prop) [Decidable c] {α : Type} (r : Res α) : Res α := if c then r else .bad
@[simp] theorem ck_pos {c : Prop} [Decidable c] (h : c) {α : Type} (r : Res α) : ck c r = r := if_pos h
def dget : List (D × D) → D → Option D
  | [], _ => none
  | (k, v) :: r, x => if k = x then some v else dget r x
def dput : List (D × D) → D → D → List (D × D)
  | [], k, v => [(k, v)]
  | (k', v') :: r, k, v => if k' = k then (k, v) :: r else (k', v') :: dput r k v
def ddel : List (D × D) → D → List (D × D)
  | [], _ => []
  | (k, v) :: r, x => if k = x then ddel r x else (k, v) :: ddel r x
/-- a flat value -/
def D.flat : D → Bool
  | .non | .bl _ | .int _ | .str _ => true
  | _ => false
/-- two flat values that may be compared -/
def cmpb : D → D → Bool
  | .non, .bl _ | .non, .int _ | .non, .str _ | .non, .non => true
  | .bl _, .non | .int _, .non | .str _, .non => true
  | .int _, .int _ | .bl _, .bl _ | .str _, .str _ | .int _, .str _ | .str _, .int _ | .bl _, .str _ | .str _, .bl _ => true
  | _, _ => false
section
variable {U₀ : U}
/-- an answer that leaves all as it is -/
theorem Post.same {W : WX} {σ : St} {ρ : List Addr} {H : Hp} {g : G} {d : D} {v : V} {Q : VK} (p : Post U₀ (rD U₀) W σ ρ H (.ok d g) Q) (r : Rep U₀ ρ H g) (q : RelD U₀.K ρ H d v) : Q v H := p.at r q
theorem Post.ck {α β : Type} {Rl : RelT α β} {W : WX} {σ : St} {ρ : List Addr} {H : Hp} {c : Prop} [Decidable c] {r : Res α} {Q : β → Hp → Prop} (p : Post U₀ Rl W σ ρ H (RL.ck c r) Q) : c ∧ Post U₀ Rl W σ ρ H r Q := by
  unfold RL.ck at p
  by_cases h : c
  · rw [if_pos h] at p
    exact ⟨h, p⟩
  · rw [if_neg h] at p
    exact p.elim
def fII (C : Int → Int → Prop) [∀ i j, Decidable (C i j)] (f : Int → Int → D) : D → D → M D := fun x y g => match x, y with
  | .int i, .int j => ck (C i j) (.ok (f i j) g)
  | _, _ => .bad
theorem s2_ii {C C' : Int → Int → Prop} [∀ i j, Decidable (C i j)] {f : Int → Int → D} {f' : Int → Int → V} (hc : ∀ i j, C i j → C' i j) (hf : ∀ i j ρ H, RelD U₀.K ρ H (f i j) (f' i j)) : S2 U₀ (rI C' f') (fII C f) := by
  intro W σ ρ H g x y v u Q r qx qy p
  cases qx <;> first | exact p.elim | skip
  cases qy <;> first | exact p.elim | skip
  rename_i i j
  obtain ⟨h, p⟩ := Post.ck p
  exact ⟨i, j, rfl, rfl, hc i j h, p.at r (hf i j ρ H)⟩
theorem s2_ii0 {f : Int → Int → D} {f' : Int → Int → V} (hf : ∀ i j ρ H, RelD U₀.K ρ H (f i j) (f' i j)) : S2 U₀ (rI0 f') (fII (fun _ _ => True) f) := by
  intro W σ ρ H g x y v u Q r qx qy p
  cases qx <;> first | exact p.elim | skip
  cases qy <;> first | exact p.elim | skip
  rename_i i j
  obtain ⟨h, p⟩ := Post.ck p
  exact ⟨i, j, rfl, rfl, p.at r (hf i j ρ H)⟩
abbrev fAdd := fII (fun _ _ => True) fun i j => .int (i + j)
abbrev fSub := fII (fun _ _ => True) fun i j => .int (i - j)
abbrev fMul := fII (fun i j => (-(2 ^ 64) < i ∧ i < 2 ^ 64) ∨ (-(2 ^ 64) < j ∧ j < 2 ^ 64)) fun i j => .int (i * j)
abbrev fMod := fII (fun _ j => 0 < j) fun i j => .int (i % j)
abbrev fDiv := fII (fun _ j => 0 < j ∧ j < 1073741824) fun i j => .int (i / j)
abbrev fPow := fII (fun i j => 0 ≤ j ∧ j ≤ 1000000 ∧ i.natAbs < 2 ^ 64) fun i j => .int (i ^ j.toNat)
abbrev fLt := fII (fun _ _ => True) fun i j => .bl (decide (i < j))
abbrev fLe := fII (fun _ _ => True) fun i j => .bl (decide (i ≤ j))
abbrev fGt := fII (fun _ _ => True) fun i j => .bl (decide (j < i))
abbrev fGe := fII (fun _ _ => True) fun i j => .bl (decide (j ≤ i))
theorem s_add : S2 U₀ (rI0 fun i j => .int (i + j)) fAdd := s2_ii0 fun i j ρ H => .int _
theorem s_sub : S2 U₀ (rI0 fun i j => .int (i - j)) fSub := s2_ii0 fun i j ρ H => .int _
theorem s_mul : S2 U₀ (rI CMul fun i j => .int (i * j)) fMul := s2_ii (fun i j h => h) fun i j ρ H => .int _
theorem s_mod : S2 U₀ (rI (fun _ j => 0 < j) fun i j => .int (i % j)) fMod := s2_ii (fun i j h => h) fun i j ρ H => .int _
theorem s_div : S2 U₀ (rI CDiv fun i j => .int (i / j)) fDiv := s2_ii (fun i j h => h) fun i j ρ H => .int _
theorem s_pow : S2 U₀ (rI CPow fun i j => .int (i ^ j.toNat)) fPow := s2_ii (fun i j h => h) fun i j ρ H => .int _
theorem s_lt : S2 U₀ (rI0 fun i j => .bl (decide (i < j))) fLt := s2_ii0 fun i j ρ H => .bl _
theorem s_le : S2 U₀ (rI0 fun i j => .bl (decide (i ≤ j))) fLe := s2_ii0 fun i j ρ H => .bl _
theorem s_gt : S2 U₀ (rI0 fun i j => .bl (decide (j < i))) fGt := s2_ii0 fun i j ρ H => .bl _
theorem s_ge : S2 U₀ (rI0 fun i j => .bl (decide (j ≤ i))) fGe := s2_ii0 fun i j ρ H => .bl _
end
/-! == and != of data -/
/-- plain to the ground, at most n deep -/
def gr : Nat → D → Bool
  | 0, _ => false
  | _ + 1, .ref _ => false
  | _ + 1, .kl _ => false
  | n + 1, .tup l => l.all (gr n)
  | _ + 1, _ => true
mutual
/-- where two values differ, it is no True beside a 1 -/
def cm : D → D → Bool
  | .bl _, .int _ => false
  | .int _, .bl _ => false
  | .tup l, .tup l' => cms l l'
  | _, _ => true
def cms : List D → List D → Bool
  | x :: xs, y :: ys => cm x y && cms xs ys
  | _, _ => true
end
mutual
def pd : D → PyData
  | .non => .none
  | .bl b => .bool b
  | .int i => .int i
  | .str s => .str s
  | .tup l => .tuple (pds l)
  | .ref _ => .none
  | .kl _ => .none
def pds : List D → List PyData
  | [] => []
  | d :: l => pd d :: pds l
end
theorem pds_map : ∀ l : List D, pds l = l.map pd
  | [] => rfl
  | d :: l => by rw [pds, List.map_cons, pds_map l]
section
variable {U₀ : U} {ρ : List Addr} {H : Hp}
mutual
theorem dp_of : ∀ (n : Nat) {d : D} {v : V}, RelD U₀.K ρ H d v → gr n d = true → Dp U₀.K H v (pd d)
  | 0, _, _, _, g => by simp [gr] at g
  | n + 1, _, _, .non, g => .non
  | n + 1, _, _, .bl b, g => .bl b
  | n + 1, _, _, .int b, g => .int b
  | n + 1, _, _, .str h, g => .str _
  | n + 1, _, _, .tup h t, g => by
    rw [gr] at g
    exact .tup h (dps_of n t g)
  | n + 1, _, _, .kl h t, g => by simp [gr] at g
  | n + 1, _, _, .ref h, g => by simp [gr] at g
theorem dps_of : ∀ (n : Nat) {d : List D} {v : List V}, RelDs U₀.K ρ H d v → d.all (gr n) = true → DpAll U₀.K H v (pds d)
  | n, _, _, .nil, _ => .nil
  | n, _, _, .cons h t, g => by
    rw [List.all_cons, Bool.and_eq_true] at g
    exact .cons (dp_of n h g.1) (dps_of n t g.2)
end
mutual
theorem lay_of : ∀ {d : D} {v : V}, RelD U₀.K ρ H d v → (pd d).canLay0 = true
  | _, _, .non => by simp [pd, PyData.canLay0]
  | _, _, .bl b => by simp [pd, PyData.canLay0]
  | _, _, .int b => by simp [pd, PyData.canLay0]
  | _, _, .str h => by
    unfold sOk at h
    rw [Bool.and_eq_true] at h
    simp [pd, PyData.canLay0, h.1]
  | _, _, .tup h t => by
    simp only [pd, PyData.canLay0]
    exact lays_of t
  | _, _, .kl h t => by simp [pd, PyData.canLay0]
  | _, _, .ref h => by simp [pd, PyData.canLay0]
theorem lays_of : ∀ {d : List D} {v : List V}, RelDs U₀.K ρ H d v → PyData.canLayAll0 (pds d) = true
  | _, _, .nil => by simp [pds, PyData.canLayAll0]
  | _, _, .cons h t => by simp [pds, PyData.canLayAll0, lay_of h, lays_of t]
end
mutual
theorem dep_of : ∀ (n : Nat) (d : D), gr n d = true → (pd d).depth ≤ n
  | 0, _, g => by simp [gr] at g
  | n + 1, .non, g => by simp [pd, PyData.depth]
  | n + 1, .bl b, g => by simp [pd, PyData.depth]
  | n + 1, .int b, g => by simp [pd, PyData.depth]
  | n + 1, .str h, g => by simp [pd, PyData.depth]
  | n + 1, .tup l, g => by
    rw [gr] at g
    have := deps_of n l g
    simp only [pd, PyData.depth]
    omega
  | n + 1, .kl h, g => by simp [gr] at g
  | n + 1, .ref h, g => by simp [gr] at g
theorem deps_of : ∀ (n : Nat) (l : List D), l.all (gr n) = true → PyData.depthAll (pds l) ≤ n
  | n, [], _ => by simp [pds, PyData.depthAll]
  | n, d :: l, g => by
    rw [List.all_cons, Bool.and_eq_true] at g
    have h1 := dep_of n d g.1
    have h2 := deps_of n l g.2
    simp only [pds, PyData.depthAll]
    omega
end
theorem shp_of {d : D} {v : V} (r : RelD U₀.K ρ H d v) (g : gr 20 d = true) : SeqAt.shaped (pd d) = true := by
  have h := dep_of 20 d g
  show ((pd d).canLay0 && decide ((pd d).depth ≤ 64)) = true
  rw [lay_of r, decide_eq_true (by omega)]
  rfl
theorem shps_of {d : List D} {v : List V} (r : RelDs U₀.K ρ H d v) (g : d.all (gr 20) = true) : SeqAt.shaped (.list (pds d)) = true ∧ SeqAt.shaped (.tuple (pds d)) = true := by
  have h := deps_of 20 d g
  have h2 := lays_of r
  constructor
  · show ((PyData.list (pds d)).canLay0 && decide ((PyData.list (pds d)).depth ≤ 64)) = true
    rw [Bool.and_eq_true]
    exact ⟨by simp only [PyData.canLay0]; exact h2, decide_eq_true (by simp only [PyData.depth]; omega)⟩
  · show ((PyData.tuple (pds d)).canLay0 && decide ((PyData.tuple (pds d)).depth ≤ 64)) = true
    rw [Bool.and_eq_true]
    exact ⟨by simp only [PyData.canLay0]; exact h2, decide_eq_true (by simp only [PyData.depth]; omega)⟩
end
mutual
theorem eqv_of : ∀ (n : Nat) (x y : D), gr n x = true → gr n y = true → cm x y = true → PyData.eqv (pd x) (pd y) = decide (x = y)
  | 0, _, _, g, _, _ => by simp [gr] at g
  | n + 1, .tup l, .tup l', g, g', c => by
    rw [gr] at g g'
    rw [cm] at c
    have h := eqvs_of n l l' g g' c
    simp only [pd, PyData.eqv]
    rw [h]
    simp
  | n + 1, .ref _, _, g, _, _ => by simp [gr] at g
  | n + 1, .kl _, _, g, _, _ => by simp [gr] at g
  | n + 1, _, .ref _, _, g, _ => by simp [gr] at g
  | n + 1, _, .kl _, _, g, _ => by simp [gr] at g
  | n + 1, .bl _, .int _, _, _, c => by simp [cm] at c
  | n + 1, .int _, .bl _, _, _, c => by simp [cm] at c
  | n + 1, .non, .non, _, _, _ => by simp [pd, PyData.eqv]
  | n + 1, .bl a, .bl b, _, _, _ => by
    simp only [pd, PyData.eqv]
    rw [Bool.eq_iff_iff]
    simp
  | n + 1, .int a, .int b, _, _, _ => by
    simp only [pd, PyData.eqv]
    rw [Bool.eq_iff_iff]
    simp
  | n + 1, .str a, .str b, _, _, _ => by
    simp only [pd, PyData.eqv]
    rw [Bool.eq_iff_iff]
    simp
  | n + 1, .non, .bl _, _, _, _ | n + 1, .non, .int _, _, _, _ | n + 1, .non, .str _, _, _, _ | n + 1, .non, .tup _, _, _, _ => by simp [pd, PyData.eqv]
  | n + 1, .bl _, .non, _, _, _ | n + 1, .bl _, .str _, _, _, _ | n + 1, .bl _, .tup _, _, _, _ => by simp [pd, PyData.eqv]
  | n + 1, .int _, .non, _, _, _ | n + 1, .int _, .str _, _, _, _ | n + 1, .int _, .tup _, _, _, _ => by simp [pd, PyData.eqv]
  | n + 1, .str _, .non, _, _, _ | n + 1, .str _, .bl _, _, _, _ | n + 1, .str _, .int _, _, _, _ | n + 1, .str _, .tup _, _, _, _ => by simp [pd, PyData.eqv]
  | n + 1, .tup _, .non, _, _, _ | n + 1, .tup _, .bl _, _, _, _ | n + 1, .tup _, .int _, _, _, _ | n + 1, .tup _, .str _, _, _, _ => by simp [pd, PyData.eqv]
theorem eqvs_of : ∀ (n : Nat) (x y : List D), x.all (gr n) = true → y.all (gr n) = true → cms x y = true → PyData.eqvAll (pds x) (pds y) = decide (x = y)
  | n, [], [], _, _, _ => by simp [pds, PyData.eqvAll]
  | n, [], _ :: _, _, _, _ => by simp [pds, PyData.eqvAll]
  | n, _ :: _, [], _, _, _ => by simp [pds, PyData.eqvAll]
  | n, x :: xs, y :: ys, g, g', c => by
    rw [List.all_cons, Bool.and_eq_true] at g g'
    rw [cms, Bool.and_eq_true] at c
    simp only [pds, PyData.eqvAll]
    rw [eqv_of n x y g.1 g'.1 c.1, eqvs_of n xs ys g.2 g'.2 c.2]
    rw [Bool.eq_iff_iff]
    simp
end
/-- the items of a list or tuple -/
def items (g : G) : D → Option (List D)
  | .tup l => some l
  | .kl l => some l
  | .ref n => match g[n]? with
    | some (.lst l) => some l
    | some (.rol l) => some l
    | _ => none
  | _ => none
def fEq : D → D → M D := fun x y g => match x, y with
  | .ref a, .ref b => match items g (.ref a), items g (.ref b) with
    | some l, some l' => ck (l.all (gr 20) = true ∧ l'.all (gr 20) = true ∧ cms l l' = true) (.ok (.bl (decide (l = l'))) g)
    | _, _ => .bad
  | x, y => ck (gr 20 x = true ∧ gr 20 y = true ∧ cm x y = true) (.ok (.bl (decide (x = y))) g)
def fNe : D → D → M D := fun x y g => match fEq x y g with
  | .ok (.bl b) g => .ok (.bl (!b)) g
  | _ => .bad
/-- what is a list or a tuple of the run -/
def Sq (K : PySem.W.Frag) (H : Hp) (v : V) (xs : List V) : Prop := ∃ a, v = .ref a ∧ (SqL K H a xs ∨ SqT K H a xs)
section
variable {U₀ : U} {ρ : List Addr} {H : Hp} {g : G}
theorem Rep.lst (r : Rep U₀ ρ H g) {n : Nat} {a : Addr} {l : List D} (hn : g[n]? = some (.lst l)) (ha : ρ[n]? = some a) : ∃ xs, H a = some (.lst xs) ∧ RelDs U₀.K ρ H l xs := r.obs n _ a hn ha
theorem Rep.rol (r : Rep U₀ ρ H g) {n : Nat} {a : Addr} {l : List D} (hn : g[n]? = some (.rol l)) (ha : ρ[n]? = some a) : ∃ xs o, H a = some (.frz o (.lst xs)) ∧ RelDs U₀.K ρ H l xs := (r.obs n _ a hn ha).choose_spec.choose_spec.2.2.elim
theorem items_ref (r : Rep U₀ ρ H g) {n : Nat} {a : Addr} {l : List D} (h : items g (.ref n) = some l) (ha : ρ[n]? = some a) : ∃ xs, SqL U₀.K H a xs ∧ RelDs U₀.K ρ H l xs := by
  unfold items at h
  dsimp only at h
  split at h
  · rename_i l' e
    cases h
    obtain ⟨xs, h1, h2⟩ := r.lst e ha
    exact ⟨xs, .of h1, h2⟩
  · rename_i l' e
    cases h
    obtain ⟨xs, o, h1, h2⟩ := r.rol e ha
    exact ⟨xs, .inl (.inr ⟨o, h1⟩), h2⟩
  · cases h
theorem items_sq (r : Rep U₀ ρ H g) {d : D} {v : V} {l : List D} (h : items g d = some l) (q : RelD U₀.K ρ H d v) : ∃ xs, Sq U₀.K H v xs ∧ RelDs U₀.K ρ H l xs := by
  cases q with
  | tup h1 h2 =>
    cases h
    exact ⟨_, ⟨_, rfl, .inr h1⟩, h2⟩
  | kl h1 h2 =>
    cases h
    exact ⟨_, ⟨_, rfl, .inl h1.seq⟩, h2⟩
  | ref ha =>
    obtain ⟨xs, h1, h2⟩ := items_ref r h ha
    exact ⟨xs, ⟨_, rfl, .inl h1⟩, h2⟩
  | _ => cases h
theorem s_eq0 {W : WX} {σ : St} {x y : D} {v u : V} {Q : VK} {k : Bool → Bool} {f : D → D → M D} (hf : f = fEq ∧ (∀ b, k b = b) ∨ f = fNe ∧ ∀ b, k b = !b) (r : Rep U₀ ρ H g) (qx : RelD U₀.K ρ H x v) (qy : RelD U₀.K ρ H y u) (p : Post U₀ (rD U₀) W σ ρ H (f x y g) Q) :
    ∃ d e, Dp U₀.K H v d ∧ Dp U₀.K H u e ∧ SeqAt.shaped d = true ∧ SeqAt.shaped e = true ∧ Q (.bl (k (PyData.eqv d e))) H := by
  have main : ∀ b, fEq x y g = .ok (.bl b) g → Q (.bl (k b)) H := fun b e => by
    rcases hf with ⟨rfl, hk⟩ | ⟨rfl, hk⟩
    · rw [e] at p
      rw [hk]
      exact p.at r (.bl b)
    · unfold fNe at p
      rw [e] at p
      rw [hk]
      exact p.at r (.bl (!b))
  have nobad : fEq x y g ≠ .bad := fun e => by
    rcases hf with ⟨rfl, hk⟩ | ⟨rfl, hk⟩
    · rw [e] at p
      exact p
    · unfold fNe at p
      rw [e] at p
      exact p
  have flat : (fEq x y g = ck (gr 20 x = true ∧ gr 20 y = true ∧ cm x y = true) (.ok (.bl (decide (x = y))) g)) → ∃ d e, Dp U₀.K H v d ∧ Dp U₀.K H u e ∧ SeqAt.shaped d = true ∧ SeqAt.shaped e = true ∧ Q (.bl (k (PyData.eqv d e))) H := fun e => by
    unfold ck at e
    split at e
    · rename_i c
      refine ⟨pd x, pd y, dp_of 20 qx c.1, dp_of 20 qy c.2.1, shp_of qx c.1, shp_of qy c.2.1, ?_⟩
      rw [eqv_of 20 x y c.1 c.2.1 c.2.2]
      exact main _ e
    · exact absurd e nobad
  cases x with
  | ref a =>
    cases y with
    | ref b =>
      unfold fEq at main nobad
      dsimp only at main nobad
      split at nobad
      · rename_i l l' h1 h2
        rw [h1, h2] at main
        dsimp only at main
        unfold ck at nobad main
        split at nobad
        · rename_i c
          rw [if_pos c] at main
          cases qx with
          | ref ha =>
            cases qy with
            | ref hb =>
              obtain ⟨xs, q1, q2⟩ := items_ref r h1 ha
              obtain ⟨ys, q3, q4⟩ := items_ref r h2 hb
              refine ⟨.list (pds l), .list (pds l'), .lst q1 (dps_of 20 q2 c.1), .lst q3 (dps_of 20 q4 c.2.1), (shps_of q2 c.1).1, (shps_of q4 c.2.1).1, ?_⟩
              have e : PyData.eqv (.list (pds l)) (.list (pds l')) = decide (l = l') := by
                simp only [PyData.eqv]
                exact eqvs_of 20 l l' c.1 c.2.1 c.2.2
              rw [e]
              exact main _ rfl
        · exact absurd rfl nobad
      · exact absurd rfl nobad
    | _ => exact flat rfl
  | _ => exact flat (by cases y <;> rfl)
theorem s_eq : S2 U₀ (rEqD U₀.K) fEq := fun W σ ρ H g x y v u Q r qx qy p => by
  obtain ⟨d, e, h1, h2, h3, h4, h5⟩ := s_eq0 (k := fun b => b) (.inl ⟨rfl, fun _ => rfl⟩) r qx qy p
  exact ⟨d, e, h1, h2, h3, h4, h5⟩
theorem s_ne : S2 U₀ (rNeD U₀.K) fNe := fun W σ ρ H g x y v u Q r qx qy p => by
  obtain ⟨d, e, h1, h2, h3, h4, h5⟩ := s_eq0 (k := fun b => !b) (.inr ⟨rfl, fun _ => rfl⟩) r qx qy p
  exact ⟨d, e, h1, h2, h3, h4, h5⟩
end
end RL
namespace RL
open PySem L2
/-! ### dicts of the run: by texts, by tuples -/
section
variable {P : Program} {w : World} {h : Heap} {a : Addr} {xs : List Ent}
theorem RawP.of (x : RawP P w h a xs) (k : ∀ y ∈ xs, (tk P w).is h y.1 y.2.1) : h.DictOfH (tk P w) a xs := by
  obtain ⟨_, _, nd, o, es, ep, h1, h2, h3, h4⟩ := x
  exact ⟨o, es, ep, h1, h2, h3, h4, k, nd⟩
theorem rawP_of (z : xs.length ≤ sizeLine) (q : (a == sysModules) = false) (x : h.DictOfH (tk P w) a xs) : RawP P w h a xs := by
  obtain ⟨o, es, ep, h1, h2, h3, h4, _, nd⟩ := x
  exact ⟨z, q, nd, o, es, ep, h1, h2, h3, h4⟩
theorem dP_ok {H : Hp} (x : RawP P w h a xs) : ObjOk P w H h a (dP P w a xs) := by
  refine ⟨x, ?_, fun h1 h2 y k => ?_⟩
  · obtain ⟨_, _, _, o, es, ep, h1, _⟩ := x
    exact ⟨o, h1⟩
  · obtain ⟨z1, z2, z3, o, es, ep, e1, e2⟩ := y
    exact ⟨z1, z2, z3, o, es, ep, k _ e1, e2⟩
theorem dP_rd {H : Hp} (ok : HOk P w H h) (e : Rd H a (dP P w a xs)) : RawP P w h a xs := (show ObjOk P w H h a (dP P w a xs) from e.ok ok).1
end
section
variable {X : Cx} {cn : Str → Addr} {pins : List (Addr × Obj)} {σ : L2.St} {H : Hp} {s : Shared} {ρ : List Addr} {a b : Addr}
theorem pk_is {P : Program} {w : World} {K : PySem.W.Frag} {d : D} {v : V} {u : Value} {k : PK} (r : RelD K ρ H d v) (ru : RelV v u) (e : toPK d = some k) : (pkKind P w).is k u = true := by
  cases r with
  | non => cases e; cases ru; rfl
  | bl b => cases e; cases ru; exact decide_eq_true rfl
  | str h =>
    cases e
    obtain ⟨t, rfl⟩ := ru
    have q : ∀ x : Str, PK.isOf (.str x) (.str x t) = true := fun x => by simp [PK.isOf, Value.isStrOf]
    exact q _
  | _ => cases e
theorem pks_are {P : Program} {w : World} {K : PySem.W.Frag} : ∀ {l : List D} {vs : List V} {us : List Value} {ks : List PK}, RelDs K ρ H l vs → Vals vs us → toPKs l = some ks → ItemsAre (pkKind P w) ks us
  | _, _, _, _, .nil, .nil, e => by cases e; exact .nil
  | _, _, _, _, .cons h t, .cons r q, e => by
    simp only [toPKs] at e
    split at e
    · rename_i k ks h1 h2
      cases e
      exact .cons (pk_is h r h1) (pks_are t q h2)
    · cases e
/-- a tuple that is a key -/
theorem key_is (I : Inv X pins σ H s) {l : List D} {k : List PK} (r : RelD X.K ρ H (.tup l) (.ref b)) (e : toPKs l = some k) : (tk X.prog X.w).is s.heap k b := by
  cases r with
  | tup h1 h2 =>
    obtain ⟨its, rv, ht, _⟩ := I.tuple h1
    obtain ⟨o, e1, e2, n, e3⟩ := ht
    exact ⟨o, its.toArray, n, e1, e2, e3, by simpa using pks_are h2 rv e⟩
theorem ents_are (I : Inv X pins σ H s) : ∀ {kvs : List (D × D)} {xs : List Ent}, RelPs X.K ρ H kvs xs → ∀ y ∈ xs, (tk X.prog X.w).is s.heap y.1 y.2.1
  | _, _, .nil, y, h => by simp at h
  | _, _, .cons h1 h2 h3 h4 t, y, h => by
    rcases List.mem_cons.mp h with rfl | h
    · exact key_is I h2 h1
    · exact ents_are I t y h
/-- what the dict holds at a key, told plainly -/
def RelG (K : PySem.W.Frag) (ρ : List Addr) (H : Hp) : Option D → Option Value → Prop
  | some d, some u => ∃ v, RelD K ρ H d v ∧ RelV v u
  | none, none => True
  | _, _ => False
theorem RelPs.val {K : PySem.W.Frag} : ∀ {kvs : List (D × D)} {xs : List Ent}, RelPs K ρ H kvs xs → ∀ {l : List D} {k : List PK}, toPKs l = some k → RelG K ρ H (dget kvs (.tup l)) ((atKey xs k).map (·.2))
  | _, _, .nil, l, k, e => True.intro
  | _, _, .cons (l := l') (k := k') (b := b') (u := u') (xs := xs) h1 h2 h3 h4 t, l, k, e => by
    by_cases q : k' = k
    · subst q
      have e' := toPKs_inj h1 e
      subst e'
      have z : atKey ((k', b', u') :: xs) k' = some (b', u') := by simp [atKey, List.find?_cons]
      rw [z]
      unfold dget
      rw [if_pos rfl]
      exact ⟨_, h3, h4⟩
    · have z : atKey ((k', b', u') :: xs) k = atKey xs k := by simp [atKey, List.find?_cons, q]
      rw [z]
      unfold dget
      rw [if_neg (fun z => q (by
        cases z
        rw [h1] at e
        exact Option.some.inj e))]
      exact t.val e
theorem RelPs.put {K : PySem.W.Frag} {d : D} {v : V} {u : Value} (rd : RelD K ρ H d v) (rv : RelV v u) {l : List D} {k : List PK} {c : Addr} (e : toPKs l = some k) (rk : RelD K ρ H (.tup l) (.ref c)) :
    ∀ {kvs : List (D × D)} {xs : List Ent}, RelPs K ρ H kvs xs → (xs.map (·.1)).Nodup → RelPs K ρ H (dput kvs (.tup l) d) (storedH xs k c u) := by
  have snoc : ∀ {kvs : List (D × D)} {xs : List Ent}, RelPs K ρ H kvs xs → (∀ y ∈ xs, y.1 ≠ k) → RelPs K ρ H (dput kvs (.tup l) d) (xs ++ [(k, c, u)]) := by
    intro kvs xs r
    induction r with
    | nil => exact fun _ => .cons e rk rd rv .nil
    | @cons l' k' b' d' v' u' ds xs h1 h2 h3 h4 t ih =>
      intro n
      unfold dput
      rw [if_neg (fun z => n _ List.mem_cons_self (by
        cases z
        rw [h1] at e
        exact Option.some.inj e))]
      exact .cons h1 h2 h3 h4 (ih fun y m => n y (List.mem_cons_of_mem _ m))
  have repl : ∀ {kvs : List (D × D)} {xs : List Ent}, RelPs K ρ H kvs xs → (xs.map (·.1)).Nodup → (∃ y ∈ xs, y.1 = k) → RelPs K ρ H (dput kvs (.tup l) d) (xs.map (putAt k u)) := by
    intro kvs xs r
    induction r with
    | nil => rintro _ ⟨y, m, _⟩; simp at m
    | @cons l' k' b' d' v' u' ds xs h1 h2 h3 h4 t ih =>
      rintro nd ⟨y, m, ey⟩
      rw [List.map_cons, List.nodup_cons] at nd
      rw [List.map_cons]
      unfold dput
      by_cases q : k' = k
      · subst q
        have e' := toPKs_inj h1 e
        subst e'
        rw [if_pos rfl]
        have same : xs.map (putAt k' u) = xs := by
          have g : ∀ zs : List Ent, (∀ z ∈ zs, z.1 ≠ k') → zs.map (putAt k' u) = zs := by
            intro zs
            induction zs with
            | nil => exact fun _ => rfl
            | cons z zs ih =>
              intro hz
              rw [List.map_cons, ih fun y m => hz y (List.mem_cons_of_mem _ m)]
              unfold putAt
              rw [if_neg (hz z List.mem_cons_self)]
          exact g xs fun z m ez => nd.1 (List.mem_map.mpr ⟨z, m, ez⟩)
        rw [same]
        have z : putAt k' u (k', b', u') = (k', b', u) := by simp [putAt]
        rw [z]
        exact .cons h1 h2 rd rv t
      · rw [if_neg (fun z => q (by
          cases z
          rw [h1] at e
          exact Option.some.inj e))]
        have z : putAt k u (k', b', u') = (k', b', u') := by simp [putAt, q]
        rw [z]
        refine .cons h1 h2 h3 h4 (ih nd.2 ?_)
        rcases List.mem_cons.mp m with rfl | m
        · exact absurd ey q
        · exact ⟨y, m, ey⟩
  intro kvs xs r nd
  unfold storedH
  by_cases q : (atKey xs k).isSome = true
  · rw [if_pos q]
    refine repl r nd ?_
    have f : ∀ zs : List Ent, (atKey zs k).isSome = true → ∃ y ∈ zs, y.1 = k := by
      intro zs
      induction zs with
      | nil => intro h; simp [atKey] at h
      | cons z zs ih =>
        intro h
        by_cases ez : z.1 = k
        · exact ⟨z, List.mem_cons_self, ez⟩
        · have : atKey (z :: zs) k = atKey zs k := by simp [atKey, List.find?_cons, ez]
          rw [this] at h
          obtain ⟨y, m, ey⟩ := ih h
          exact ⟨y, List.mem_cons_of_mem _ m, ey⟩
    exact f xs q
  · rw [if_neg q]
    refine snoc r fun y m ey => q ?_
    have f : ∀ zs : List Ent, y ∈ zs → (atKey zs k).isSome = true := by
      intro zs
      induction zs with
      | nil => intro h; simp at h
      | cons z zs ih =>
        intro h
        by_cases ez : z.1 = k
        · simp [atKey, List.find?_cons, ez]
        · have : atKey (z :: zs) k = atKey zs k := by simp [atKey, List.find?_cons, ez]
          rw [this]
          rcases List.mem_cons.mp h with rfl | h
          · exact absurd ey ez
          · exact ih h
    exact f xs m
theorem RelKs.val {K : PySem.W.Frag} : ∀ {kvs : List (D × D)} {ks : List (Key × V)}, RelKs K ρ H kvs ks → ∀ (x : Str), RelF K ρ H (dget kvs (.str x)) (valV ks (.inr x))
  | _, _, .nil, x => True.intro
  | _, _, .cons (s := y) h t, x => by
    by_cases q : y = x
    · subst q
      rw [valV_pos rfl]
      unfold dget
      rw [if_pos rfl]
      exact h
    · rw [valV_neg (fun z => q (Sum.inr.inj z))]
      unfold dget
      rw [if_neg (fun z => q (D.str.inj z))]
      exact t.val x
theorem dput_any {kvs : List (D × D)} {ks : List (Key × V)} {K : PySem.W.Frag} (r : RelKs K ρ H kvs ks) (x : Str) : (ks.any fun kv => decide (kv.1 = .inr x)) = (dget kvs (.str x)).isSome := by
  rw [valV_any]
  have q := r.val x
  cases h1 : dget kvs (.str x) <;> cases h2 : valV ks (.inr x) <;> rw [h1, h2] at q <;> first | rfl | exact q.elim
theorem RelKs.put {K : PySem.W.Frag} {d : D} {v : V} (rd : RelD K ρ H d v) {x : Str} {kvs : List (D × D)} {ks : List (Key × V)} (r : RelKs K ρ H kvs ks) (nd : (ks.map (·.1)).Nodup) : RelKs K ρ H (dput kvs (.str x) d) (putK ks (.inr x) v) := by
  have snoc : ∀ {kvs : List (D × D)} {xs : List (Key × V)}, RelKs K ρ H kvs xs → dget kvs (.str x) = none → RelKs K ρ H (dput kvs (.str x) d) (xs ++ [(.inr x, v)]) := by
    intro kvs xs r
    induction r with
    | nil => exact fun _ => .cons rd .nil
    | @cons y d' v' ds xs h t ih =>
      intro n
      unfold dget at n
      split at n
      · cases n
      · rename_i q
        unfold dput
        rw [if_neg q]
        exact .cons h (ih n)
  have same : ∀ {xs : List (Key × V)}, (∀ y ∈ xs, y.1 ≠ .inr x) → (xs.map fun kv => if kv.1 = .inr x then (kv.1, v) else kv) = xs := by
    intro xs
    induction xs with
    | nil => exact fun _ => rfl
    | cons z zs ih =>
      intro hz
      rw [List.map_cons, ih fun y m => hz y (List.mem_cons_of_mem _ m), if_neg (hz _ List.mem_cons_self)]
  have repl : ∀ {kvs : List (D × D)} {xs : List (Key × V)}, RelKs K ρ H kvs xs → (xs.map (·.1)).Nodup → (dget kvs (.str x)).isSome = true → RelKs K ρ H (dput kvs (.str x) d) (xs.map fun kv => if kv.1 = .inr x then (kv.1, v) else kv) := by
    intro kvs xs r
    induction r with
    | nil => intro _ h; simp [dget] at h
    | @cons y d' v' ds xs h t ih =>
      intro nd n
      rw [List.map_cons, List.nodup_cons] at nd
      rw [List.map_cons]
      unfold dget at n
      unfold dput
      by_cases q : D.str y = .str x
      · rw [if_pos q]
        cases q
        rw [if_pos rfl, same fun z m ez => nd.1 (List.mem_map.mpr ⟨z, m, ez⟩)]
        exact .cons rd t
      · rw [if_neg q] at n ⊢
        rw [if_neg (fun z => q (by rw [Sum.inr.inj z]))]
        exact .cons h (ih nd.2 n)
  unfold putK
  rw [dput_any r x]
  by_cases q : (dget kvs (.str x)).isSome = true
  · rw [if_pos q]
    exact repl r nd q
  · rw [if_neg q]
    refine snoc r ?_
    cases h : dget kvs (.str x) with
    | none => rfl
    | some z => rw [h] at q; exact absurd rfl q
end
end RL
namespace RL
open PySem L2
/-- two keys of one sort -/
def sk : D → D → Bool
  | .str _, .str _ => true
  | .tup _, .tup _ => true
  | _, _ => false
/-- a value that may be a key -/
def keyb : D → Bool
  | .str _ => true
  | .tup l => (toPKs l).isSome
  | _ => false
def kOk (kvs : List (D × D)) (k : D) : Prop := keyb k = true ∧ ∀ p ∈ kvs, sk p.1 k = true
instance (kvs : List (D × D)) (k : D) : Decidable (kOk kvs k) := by unfold kOk; infer_instance
inductive DV (X : Cx) (h : Heap) (ρ : List Addr) (H : Hp) (a : Addr) (kvs : List (D × D)) : D → V → Prop
  | k {x : Str} {ks : List (Key × V)} {vs : List (Key × Value)} : h.DictOf (mixKind X.prog X.w) a vs → RelKs X.K ρ H kvs ks → KV ks vs → vs.length ≤ sizeLine → (a == sysModules) = false → DV X h ρ H a kvs (.str x) (.str x)
  | p {l : List D} {pk : List PK} {b : Addr} {xs : List Ent} : toPKs l = some pk → h.DictOfH (tk X.prog X.w) a xs → RelPs X.K ρ H kvs xs → (tk X.prog X.w).is h pk b → RelD X.K ρ H (.tup l) (.ref b) → xs.length ≤ sizeLine → (a == sysModules) = false → (xs.map (·.1)).Nodup → DV X h ρ H a kvs (.tup l) (.ref b)
section
variable {X : Cx} {cn : Str → Addr} {pins : List (Addr × Obj)} {σ : L2.St} {H : Hp} {s : Shared} {ρ : List Addr} {a b : Addr} {g : G} {n : Nat} {lk : Bool} {kvs : List (D × D)} {k d e : D} {y v : V} {u r : Value}
theorem Rep.dct {u : U} (R : Rep u ρ H g) (hn : g[n]? = some (.dct lk kvs)) (ha : ρ[n]? = some a) : ∃ w, Rd H a w ∧ DctU u.K ρ H u.P u.w a kvs w := by
  have q := R.obs n _ a hn ha
  cases lk with
  | false => obtain ⟨w, h1, h2⟩ := q; exact ⟨w, .inl h1, h2⟩
  | true => obtain ⟨w, o, h1, h2⟩ := q; exact ⟨w, .inr ⟨o, h1⟩, h2⟩
theorem emptyK {P : Program} {w : World} {h : Heap} (x : RawP P w h a []) : h.DictOf (mixKind P w) a [] := by
  obtain ⟨_, _, _, o, es, ep, h1, h2, h3, h4⟩ := x
  have e : es = #[] := by
    have : es.toList = [] := h4
    simpa using this
  subst e
  exact ⟨o, #[], ep, h1, h2, h3, fun e he => by simp at he, .nil, List.nodup_nil⟩
theorem emptyP {P : Program} {w : World} {h : Heap} (x : h.DictOf (mixKind P w) a []) : h.DictOfH (tk P w) a [] := by
  obtain ⟨o, es, ep, h1, h2, h3, _, h4, _⟩ := x
  have e : es.toList = [] := by
    generalize es.toList = l at h4
    cases h4
    rfl
  exact ⟨o, es, ep, h1, h2, h3, e, fun x hx => by simp at hx, List.nodup_nil⟩
theorem view (I : Inv X pins σ H s) (R : Rep (ux X cn) ρ H g) (hn : g[n]? = some (.dct lk kvs)) (ha : ρ[n]? = some a) (rk : RelD X.K ρ H k y) (ok : kOk kvs k) : DV X s.heap ρ H a kvs k y := by
  obtain ⟨w, hr, q⟩ := R.dct hn ha
  obtain ⟨ok1, ok2⟩ := ok
  cases k with
  | str x =>
    cases rk
    rcases q with ⟨ks, rfl, q⟩ | ⟨xs, rfl, q⟩
    · obtain ⟨z, hd, vs, rel, dd⟩ := dk_rd I.hok hr
      exact .k dd q rel (by rw [← rel.length]; exact z) hd
    · cases q with
      | nil =>
        have z := dP_rd I.hok hr
        exact .k (emptyK z) .nil .nil (Nat.zero_le _) z.2.1
      | cons h1 h2 h3 h4 t => exact absurd (ok2 _ List.mem_cons_self) (by simp [sk])
  | tup l =>
    have ek : ∃ pk, toPKs l = some pk := Option.isSome_iff_exists.mp ok1
    obtain ⟨pk, ek⟩ := ek
    have rk' := rk
    cases rk with
    | tup h1 h2 =>
      have ki := key_is I rk' ek
      rcases q with ⟨ks, rfl, q⟩ | ⟨xs, rfl, q⟩
      · cases q with
        | nil =>
          obtain ⟨z, hd, vs, rel, dd⟩ := dk_rd I.hok hr
          cases rel
          exact .p ek (emptyP dd) .nil ki rk' (Nat.zero_le _) hd List.nodup_nil
        | cons h t => exact absurd (ok2 _ List.mem_cons_self) (by simp [sk])
      · have z := dP_rd I.hok hr
        exact .p ek (z.of (ents_are I q)) q ki rk' z.1 z.2.1 z.2.2.1
  | _ => exact absurd ok1 (by simp [keyb])
theorem DV.typeIs {s : Shared} (w : DV X s.heap ρ H a kvs k y) : s.TypeIs (.ref a) "dict" := by
  cases w with
  | k h _ _ _ _ => exact h.typeIs
  | p _ h _ _ _ _ _ _ => exact h.typeIs
theorem RelKV.val {K : PySem.W.Frag} {ks : List (Key × V)} {vs : List (Key × Value)} (r : RelKs K ρ H kvs ks) (q : KV ks vs) (x : Str) : RelG K ρ H (dget kvs (.str x)) (valueAt vs (.inr x)) := by
  have h1 := r.val x
  have h2 := q.val (.inr x)
  cases e1 : dget kvs (.str x) <;> cases e2 : valV ks (.inr x) <;> rw [e1, e2] at h1 <;> cases e3 : valueAt vs (.inr x) <;> rw [e2, e3] at h2 <;> first | exact True.intro | exact h1.elim | exact h2.elim | exact ⟨_, h1, h2⟩
theorem RelG.some_of {K : PySem.W.Frag} {o : Option Value} (h : RelG K ρ H (some d) o) : ∃ v u, o = some u ∧ RelD K ρ H d v ∧ RelV v u := by
  cases o with
  | none => exact h.elim
  | some u => obtain ⟨v, h1, h2⟩ := h; exact ⟨v, u, rfl, h1, h2⟩
theorem RelG.none_of {K : PySem.W.Frag} {o : Option Value} (h : RelG K ρ H none o) : o = none := by
  cases o with
  | none => rfl
  | some u => exact h.elim
theorem RelG.isSome_eq {K : PySem.W.Frag} {x : Option D} {o : Option Value} (h : RelG K ρ H x o) : x.isSome = o.isSome := by
  cases x <;> cases o <;> first | rfl | exact h.elim
variable {A : Around} {E : Value → Shared → Prop}
theorem v_getItem {Q : Value → Shared → Prop} (hu : A.units + 1 < cLine) (I : Inv X pins σ H s) (w : DV X s.heap ρ H a kvs k y) (ry : RelV y u) (hv : dget kvs k = some d) (h : ∀ v w' s', Inv X pins σ H s' → RelD X.K ρ H d v → RelV v w' → Q w' s') :
    wpAny (model X.prog X.w) A (getItem (.ref a) u) Q E s := by
  cases w with
  | k dd q rel z hd =>
    rename_i x ks vs
    have g := RelKV.val q rel x
    rw [hv] at g
    obtain ⟨v, w', e1, e2, e3⟩ := g.some_of
    exact wpAny_getItem_of (kV_is (k := .inr x) ry) dd.mapOf e1 (h v w' _ (I.tok _) e2 e3)
  | p ek dd q ki rk z hd nd =>
    rename_i l pk b xs
    cases (show u = Value.ref b from ry)
    have g := q.val ek
    rw [hv] at g
    obtain ⟨v, w', e1, e2, e3⟩ := g.some_of
    obtain ⟨p, hp, hp2⟩ := Option.map_eq_some_iff.mp e1
    refine wpAny_getItem_heap (tupleKind_room_in1 hu) ki dd hp ?_
    rw [hp2]
    exact h v w' _ (I.tok _) e2 e3
theorem v_in {Q : Value → Shared → Prop} (hu : A.units + 1 < cLine) (I : Inv X pins σ H s) (w : DV X s.heap ρ H a kvs k y) (ry : RelV y u) (h : ∀ s', Inv X pins σ H s' → Q (.bool (dget kvs k).isSome) s') :
    wpAny (model X.prog X.w) A (compareOp .In u (.ref a)) Q E s := by
  cases w with
  | k dd q rel z hd =>
    rename_i x ks vs
    refine wpAny_in_of (kV_is (k := .inr x) ry) hd dd.mapOf ?_
    rw [← (RelKV.val q rel x).isSome_eq]
    exact h _ (I.tok _)
  | p ek dd q ki rk z hd nd =>
    rename_i l pk b xs
    cases (show u = Value.ref b from ry)
    refine wpAny_in_heap (tupleKind_room_in1 hu) ki hd dd ?_
    have g := (q.val ek).isSome_eq
    rw [Option.isSome_map] at g
    rw [← g]
    exact h _ (I.tok _)
theorem v_notIn {Q : Value → Shared → Prop} (hu : A.units + 1 < cLine) (I : Inv X pins σ H s) (w : DV X s.heap ρ H a kvs k y) (ry : RelV y u) (h : ∀ s', Inv X pins σ H s' → Q (.bool (!(dget kvs k).isSome)) s') :
    wpAny (model X.prog X.w) A (compareOp .NotIn u (.ref a)) Q E s := by
  cases w with
  | k dd q rel z hd =>
    rename_i x ks vs
    refine wpAny_notIn_of (kV_is (k := .inr x) ry) hd dd.mapOf ?_
    rw [← (RelKV.val q rel x).isSome_eq]
    exact h _ (I.tok _)
  | p ek dd q ki rk z hd nd =>
    rename_i l pk b xs
    cases (show u = Value.ref b from ry)
    refine PyProof.Rows.wpAny_notIn_heap (tupleKind_room_in1 hu) ki hd dd ?_
    have g := (q.val ek).isSome_eq
    rw [Option.isSome_map] at g
    rw [← g]
    exact h _ (I.tok _)
theorem RelG.getD {K : PySem.W.Frag} {x : Option D} {o : Option Value} (h : RelG K ρ H x o) {w : Value} (q : RelD K ρ H e v) (rw' : RelV v w) : ∃ v', RelD K ρ H (x.getD e) v' ∧ RelV v' (o.getD w) := by
  cases x <;> cases o <;> first | exact h.elim | exact ⟨_, q, rw'⟩ | exact h
theorem v_get2 {Q : Value → Shared → Prop} (hu : A.units + 1 < cLine) (I : Inv X pins σ H s) (w : DV X s.heap ρ H a kvs k y) (ry : RelV y u) (re : RelD X.K ρ H e v) (rv : RelV v r) (h : ∀ v w' s', Inv X pins σ H s' → RelD X.K ρ H ((dget kvs k).getD e) v → RelV v w' → Q w' s') :
    wpAny (model X.prog X.w) A (call (.builtin "dict.get") [.ref a, u, r]) Q E s := by
  cases w with
  | k dd q rel z hd =>
    rename_i x ks vs
    obtain ⟨v', e1, e2⟩ := (RelKV.val q rel x).getD re rv
    exact call_meetsIn PySem.F.slot_dict_get dd.typeIs PySem.F.entry_dict_get (PySem.F.args_dict_get_3 _ _ _) (meets_dict_get_default (mixKind X.prog X.w) a (kV_is (k := .inr x) ry) hd r) ⟨_, dd.mapOf, h _ _ _ (I.tok _) e1 e2⟩
  | p ek dd q ki rk z hd nd =>
    rename_i l pk b xs
    cases (show u = Value.ref b from ry)
    obtain ⟨v', e1, e2⟩ := (q.val ek).getD re rv
    exact call_meetsIn PySem.F.slot_dict_get dd.typeIs PySem.F.entry_dict_get (PySem.F.args_dict_get_3 _ _ _) (meetsH_dict_get_default (tk X.prog X.w) a b hd r) ⟨tupleKind_room_in1 hu, pk, xs, ki, dd, h _ _ _ (I.tok _) e1 e2⟩
theorem v_get1 {Q : Value → Shared → Prop} (hu : A.units + 1 < cLine) (I : Inv X pins σ H s) (w : DV X s.heap ρ H a kvs k y) (ry : RelV y u) (h : ∀ v w' s', Inv X pins σ H s' → RelD X.K ρ H ((dget kvs k).getD .non) v → RelV v w' → Q w' s') :
    wpAny (model X.prog X.w) A (call (.builtin "dict.get") [.ref a, u]) Q E s := by
  cases w with
  | k dd q rel z hd =>
    rename_i x ks vs
    obtain ⟨v', e1, e2⟩ := (RelKV.val q rel x).getD (e := .non) (v := .non) (w := .none) .non rfl
    exact call_meetsIn PySem.F.slot_dict_get dd.typeIs PySem.F.entry_dict_get (PySem.F.args_dict_get_2 _ _) (meets_dict_get (mixKind X.prog X.w) a (kV_is (k := .inr x) ry) hd) ⟨_, dd.mapOf, h _ _ _ (I.tok _) e1 e2⟩
  | p ek dd q ki rk z hd nd =>
    rename_i l pk b xs
    cases (show u = Value.ref b from ry)
    obtain ⟨v', e1, e2⟩ := (q.val ek).getD (e := .non) (v := .non) (w := .none) .non rfl
    exact call_meetsIn PySem.F.slot_dict_get dd.typeIs PySem.F.entry_dict_get (PySem.F.args_dict_get_2 _ _) (meetsH_dict_get (tk X.prog X.w) a b hd) ⟨tupleKind_room_in1 hu, pk, xs, ki, dd, h _ _ _ (I.tok _) e1 e2⟩
/-- the dict after a store, as an object of the abstract heap -/
theorem v_setItem {Q : Unit → Shared → Prop} (hu : A.units + 1 < cLine) (I : Inv X pins σ H s) (mu : Mut (H a)) (w : DV X s.heap ρ H a kvs k y) (ry : RelV y u) (hl : kvs.length < sizeLine) (rd : RelD X.K ρ H d v) (rv : RelV v r)
    (h : ∀ o s', (∀ {ρ' : List Addr} {H' : Hp}, (∀ {d : D} {v : V}, RelD X.K ρ H d v → RelD X.K ρ' H' d v) → DctU X.K ρ' H' X.prog X.w a (dput kvs k d) o) → Inv X pins σ (upd H a o) s' → Q () s') :
    wpAny (model X.prog X.w) A (setItem (.ref a) u r) Q E s := by
  cases w with
  | k dd q rel z hd =>
    rename_i x ks vs
    have nd : (ks.map (·.1)).Nodup := by
      rw [rel.keys]
      obtain ⟨_, _, _, _, _, _, _, _, nd⟩ := dd
      exact nd
    have ql : kvs.length = ks.length := by
      clear h nd hl z rel dd
      induction q with
      | nil => rfl
      | cons _ _ ih => rw [List.length_cons, List.length_cons, ih]
    have hl' : (putK ks (.inr x) v).length ≤ sizeLine := by have := length_putK ks (.inr x) v; omega
    refine wpAny_setItem_pairs (hsz := z) (kV_is (k := .inr x) ry) dd fun h' dd' hs => h (.dK (putK ks (.inr x) v)) _ (fun m => .inl ⟨_, rfl, (RelKs.put rd q nd).mono m⟩) ?_
    have he : ∃ q, h'.get? a = some q := let ⟨q, _, _, hq, _⟩ := dd'; ⟨q, hq⟩
    exact d_write I mu hs he (dk_new hl' hd (rel.put (.inr x) rv) dd')
  | p ek dd q ki rk z hd nd =>
    rename_i l pk b xs
    cases (show u = Value.ref b from ry)
    have ql : kvs.length = xs.length := by
      clear h nd hl z ki dd
      induction q with
      | nil => rfl
      | cons _ _ _ _ _ ih => rw [List.length_cons, List.length_cons, ih]
    have hl' : (storedH xs pk b r).length ≤ sizeLine := by
      unfold storedH
      split
      · rw [List.length_map]; exact z
      · rw [List.length_append, List.length_singleton]; omega
    refine wpAny_setItem_heap (hsz := z) (tupleKind_room_in1 hu) ki dd fun h' dd' hs => h (dP X.prog X.w a (storedH xs pk b r)) _ (fun m => .inr ⟨_, rfl, (RelPs.put rd rv ek rk q nd).mono m⟩) ?_
    have he : ∃ q, h'.get? a = some q := let ⟨q, _, _, hq, _⟩ := dd'; ⟨q, hq⟩
    exact d_write I mu hs he (dP_ok (rawP_of hl' hd dd'))
end
end RL
namespace RL
open PySem L2
/-! ### reading items, membership -/
def fSubs : D → D → M D := fun x k g => match items g x, k with
  | some l, .int i => match atI l i with
    | some d => .ok d g
    | none => .bad
  | some _, _ => .bad
  | none, k => match x with
    | .ref n => match g[n]? with
      | some (.dct _ kvs) => ck (kOk kvs k) (match dget kvs k with
        | some d => .ok d g
        | none => .bad)
      | _ => .bad
    | _ => .bad
def fIn : D → D → M D := fun x y g => match items g y with
  | some l => ck (gr 20 x = true ∧ l.all (gr 20) = true ∧ (l.all fun z => cm z x) = true) (.ok (.bl (decide (x ∈ l))) g)
  | none => match y with
    | .ref n => match g[n]? with
      | some (.dct _ kvs) => ck (kOk kvs x) (.ok (.bl (dget kvs x).isSome) g)
      | _ => .bad
    | _ => .bad
def fNot : D → D → M D := fun x y g => match fIn x y g with
  | .ok (.bl b) g => .ok (.bl (!b)) g
  | _ => .bad
/-- the answer of an operator that leaves all as it is -/
def rPure (U₀ : U) (f : D → D → M D) : R2 := fun v u H Q => ∃ ρ g x y, Rep U₀ ρ H g ∧ RelD U₀.K ρ H x v ∧ RelD U₀.K ρ H y u ∧ ∃ d, f x y g = .ok d g ∧ ∀ w, RelD U₀.K ρ H d w → Q w H
theorem s_pure {U₀ : U} {f : D → D → M D} (h : ∀ x y g d g', f x y g = .ok d g' → g' = g) (he : ∀ x y g e g', f x y g ≠ .exc e g') : S2 U₀ (rPure U₀ f) f := by
  intro W σ ρ H g x y v u Q r qx qy p
  cases e : f x y g with
  | ok d g' =>
    have := h _ _ _ _ _ e
    subst this
    rw [e] at p
    exact ⟨ρ, _, x, y, r, qx, qy, d, e, fun w q => p.at r q⟩
  | exc z g' => exact absurd e (he _ _ _ _ _)
  | bad =>
    rw [e] at p
    exact p.elim
theorem ck_ok {α : Type} {c : Prop} [Decidable c] {r : Res α} {a : α} {g : G} (h : ck c r = .ok a g) : c ∧ r = .ok a g := by
  unfold ck at h
  split at h
  · exact ⟨by assumption, h⟩
  · cases h
theorem ck_exc {α : Type} {c : Prop} [Decidable c] {r : Res α} {a : Exc} {g : G} (h : ck c r = .exc a g) : r = .exc a g := by
  unfold ck at h
  split at h
  · exact h
  · cases h
theorem fSubs_g : ∀ x y g d g', fSubs x y g = .ok d g' → g' = g := by
  intro x y g d g' h
  unfold fSubs at h
  repeat' split at h
  all_goals first
    | (cases h; rfl)
    | cases h
    | (obtain ⟨_, h⟩ := ck_ok h
       first
         | (cases h; rfl)
         | cases h)
theorem fSubs_e : ∀ x y g e g', fSubs x y g ≠ .exc e g' := by
  intro x y g d g' h
  unfold fSubs at h
  repeat' split at h
  all_goals first
    | cases h
    | (have h := ck_exc h
       cases h)
theorem fIn_g : ∀ x y g d g', fIn x y g = .ok d g' → g' = g := by
  intro x y g d g' h
  unfold fIn at h
  repeat' split at h
  all_goals first
    | cases h
    | (obtain ⟨_, h⟩ := ck_ok h
       cases h
       rfl)
theorem fIn_e : ∀ x y g e g', fIn x y g ≠ .exc e g' := by
  intro x y g d g' h
  unfold fIn at h
  repeat' split at h
  all_goals first
    | cases h
    | (have h := ck_exc h
       cases h)
theorem fNot_in {x y d : D} {g g' : G} (h : fNot x y g = .ok d g') : ∃ b, fIn x y g = .ok (.bl b) g ∧ d = .bl (!b) ∧ g' = g := by
  unfold fNot at h
  split at h
  · rename_i b g2 e
    have := fIn_g _ _ _ _ _ e
    subst this
    cases h
    exact ⟨b, e, rfl, rfl⟩
  · cases h
theorem fNot_e : ∀ x y g e g', fNot x y g ≠ .exc e g' := by
  intro x y g e g' h
  unfold fNot at h
  split at h <;> cases h
theorem atI_map {α β : Type} {xs : List α} {ys : List β} (hl : xs.length = ys.length) {i : Int} {x : α} (h : atI xs i = some x) : ∃ j : Nat, xs[j]? = some x ∧ atI ys i = ys[j]? := by
  unfold atI at h ⊢
  rw [← hl]
  cases e : ixN xs.length i with
  | none => rw [e] at h; cases h
  | some j => rw [e] at h; exact ⟨j, h, rfl⟩
theorem RelDs.atI {K : PySem.W.Frag} {ρ : List Addr} {H : Hp} {l : List D} {xs : List V} (r : RelDs K ρ H l xs) {i : Int} {d : D} (h : L2.atI l i = some d) : ∃ v, L2.atI xs i = some v ∧ RelD K ρ H d v := by
  obtain ⟨j, h1, h2⟩ := atI_map r.length h
  obtain ⟨v, h3, h4⟩ := r.get h1
  exact ⟨v, by rw [h2, h3], h4⟩
section
variable {X : Cx} {cn : Str → Addr}
theorem items_none_dct {g : G} {n : Nat} {lk : Bool} {kvs : List (D × D)} (h : g[n]? = some (.dct lk kvs)) : items g (.ref n) = none := by
  unfold items
  dsimp only
  rw [h]
theorem ix_all (hu : X.A.units + 1 < cLine) : IxR X (rPure (ux X cn) fSubs) := by
  intro value slice pins s σ H v u ov iv Q I rv ru h hs
  obtain ⟨ρ, g, x, k, R, qx, qk, d, e, q⟩ := h
  unfold fSubs at e
  split at e
  · rename_i l i hi
    split at e
    · rename_i d' ha
      cases e
      cases qk
      obtain ⟨xs, ⟨a, rfl, sq⟩, rs⟩ := items_sq R hi qx
      obtain ⟨w, h1, h2⟩ := rs.atI ha
      rcases sq with sq | sq
      · exact ix_list value slice pins s σ H _ _ ov iv Q I rv ru ⟨a, xs, i, w, rfl, rfl, sq, h1, q w h2⟩ hs
      · exact ix_tup value slice pins s σ H _ _ ov iv Q I rv ru ⟨a, xs, i, w, rfl, rfl, sq, h1, q w h2⟩ hs
    · cases e
  · cases e
  · split at e
    · split at e
      · rename_i n lk kvs hn
        obtain ⟨hk, e⟩ := ck_ok e
        split at e
        · rename_i d' hd
          cases e
          cases qx with
          | ref ha =>
            rename_i a
            cases (show ov = Value.ref a from rv)
            have w := view I R hn ha qk hk
            exact PyProof.Rows.tail_any w.typeIs PySem.F.slot_dict_getitem.lookup (v_getItem hu I w ru hd fun v' w' s' I' h1 h2 => ⟨v', H, I', h2, q v' h1⟩) hs
        · cases e
      · cases e
    · cases e
theorem any_in {x : D} : ∀ {l : List D}, l.all (gr 20) = true → gr 20 x = true → (l.all fun z => cm z x) = true → ((pds l).any fun z => PyData.eqv z (pd x)) = decide (x ∈ l)
  | [], _, _, _ => by simp [pds]
  | z :: l, h1, h2, h3 => by
    rw [List.all_cons, Bool.and_eq_true] at h1 h3
    rw [pds, List.any_cons, any_in h1.2 h2 h3.2, eqv_of 20 z x h1.1 h2 h3.1]
    by_cases e : z = x
    · subst e; simp
    · have e' : ¬ x = z := fun q => e q.symm
      simp [e, e']
theorem in_go {v u : V} {Q : VK} {b : Bool} {ρ : List Addr} {g : G} {H : Hp} {x y : D} (hu : X.A.units + 65 < cLine) {pins : List (Addr × Obj)} {s : Shared} {σ : L2.St} {ov iv : Value} (I : Inv X pins σ H s) (rv : RelV v ov) (ru : RelV u iv)
    (R : Rep (ux X cn) ρ H g) (qx : RelD X.K ρ H x v) (qy : RelD X.K ρ H y u) (e : fIn x y g = .ok (.bl b) g) : (Q (.bl b) H → wpAny (model X.prog X.w) X.A (compareOp .In ov iv) (EP X pins σ Q) X.xe s) ∧ (Q (.bl (!b)) H → wpAny (model X.prog X.w) X.A (compareOp .NotIn ov iv) (EP X pins σ Q) X.xe s) := by
  unfold fIn at e
  split at e
  · rename_i l hi
    obtain ⟨c, e⟩ := ck_ok e
    cases e
    obtain ⟨xs, ⟨a, rfl, sq⟩, rs⟩ := items_sq R hi qy
    have z := any_in c.2.1 c.1 c.2.2
    have sx := shp_of (U₀ := ux X cn) qx c.1
    obtain ⟨sl, st⟩ := shps_of (U₀ := ux X cn) rs c.2.1
    obtain ⟨as, r1⟩ := Dp.reads I _ v ov (dp_of (U₀ := ux X cn) 20 qx c.1) rv
    rcases sq with sq | sq
    · obtain ⟨bs, r2⟩ := Dp.reads I _ _ iv (Dp.lst sq (dps_of (U₀ := ux X cn) 20 rs c.2.1)) ru
      exact ⟨fun q => SeqAt.in_list_reads r2 r1 (SeqAt.canLay_of_shaped sl) (SeqAt.canLay_of_shaped sx) (PyProof.Rows.room_in_shaped sx hu) ⟨.bl _, H, I, rfl, by rw [z]; exact q⟩,
        fun q => SeqAt.notIn_list_reads r2 r1 (SeqAt.canLay_of_shaped sl) (SeqAt.canLay_of_shaped sx) (PyProof.Rows.room_in_shaped sx hu) ⟨.bl _, H, I, rfl, by rw [z]; exact q⟩⟩
    · obtain ⟨bs, r2⟩ := Dp.reads I _ _ iv (Dp.tup sq (dps_of (U₀ := ux X cn) 20 rs c.2.1)) ru
      exact ⟨fun q => SeqAt.in_tuple_reads r2 r1 (SeqAt.canLay_of_shaped sl) (SeqAt.canLay_of_shaped sx) (PyProof.Rows.room_in_shaped sx hu) ⟨.bl _, H, I, rfl, by rw [z]; exact q⟩,
        fun q => SeqAt.notIn_tuple_reads r2 r1 (SeqAt.canLay_of_shaped sl) (SeqAt.canLay_of_shaped sx) (PyProof.Rows.room_in_shaped sx hu) ⟨.bl _, H, I, rfl, by rw [z]; exact q⟩⟩
  · split at e
    · split at e
      · rename_i n lk kvs hn
        obtain ⟨hk, e⟩ := ck_ok e
        cases e
        cases qy with
        | ref ha =>
          rename_i a
          cases (show iv = Value.ref a from ru)
          have w := view I R hn ha qx hk
          exact ⟨fun q => v_in (by omega) I w rv fun s' I' => ⟨.bl _, H, I', rfl, q⟩, fun q => v_notIn (by omega) I w rv fun s' I' => ⟨.bl _, H, I', rfl, q⟩⟩
      · cases e
    · cases e
theorem fIn_bl {x y d : D} {g : G} (e : fIn x y g = .ok d g) : ∃ b, d = .bl b := by
  unfold fIn at e
  repeat' split at e
  all_goals first
    | cases e
    | (obtain ⟨_, e⟩ := ck_ok e
       cases e
       exact ⟨_, rfl⟩)
theorem op_inA (hu : X.A.units + 65 < cLine) : OpR X (compareOp .In) (rPure (ux X cn) fIn) := by
  intro pins s σ H v u ov iv Q I rv ru h
  obtain ⟨ρ, g, x, k, R, qx, qk, d, e, q⟩ := h
  obtain ⟨b, rfl⟩ := fIn_bl e
  exact (in_go hu I rv ru R qx qk e).1 (q _ (.bl b))
theorem op_notA (hu : X.A.units + 65 < cLine) : OpR X (compareOp .NotIn) (rPure (ux X cn) fNot) := by
  intro pins s σ H v u ov iv Q I rv ru h
  obtain ⟨ρ, g, x, k, R, qx, qk, d, e, q⟩ := h
  obtain ⟨b, e1, rfl, _⟩ := fNot_in e
  exact (in_go hu I rv ru R qx qk e1).2 (q _ (.bl _))
variable {W : WX} {pos : Pos} {a b c e : Expr} {es : List Expr} {ma mb : ME} {ml : MA} {mt mu : MT}
theorem re_sub (hu : X.A.units + 1 < cLine) (ha : RE X cn W a ma) (hb : RE X cn W b mb) (hs : PlainIx b) : RE X cn W (.Subscript a b pos) (mOp fSubs ma mb) :=
  peI (pe_ix (ix_all hu) ha hb hs) (two_e (s_pure fSubs_g fSubs_e))
theorem re_in (hu : X.A.units + 65 < cLine) (ha : RE X cn W a ma) (hb : RE X cn W b mb) (hm : behindInMarks .In b = false := by rfl) : RE X cn W (.Compare a [.In] [b] pos) (mOp fIn ma mb) :=
  re_cmp (op_inA hu) (s_pure fIn_g fIn_e) ha hb hm
theorem re_notIn (hu : X.A.units + 65 < cLine) (ha : RE X cn W a ma) (hb : RE X cn W b mb) (hm : behindInMarks .NotIn b = false := by rfl) : RE X cn W (.Compare a [.NotIn] [b] pos) (mOp fNot ma mb) :=
  re_cmp (op_notA hu) (s_pure (fun _ _ _ _ _ h => (fNot_in h).choose_spec.2.2) fNot_e) ha hb hm
theorem re_eq (hu : X.A.units + 64 < cLine) (ha : RE X cn W a ma) (hb : RE X cn W b mb) : RE X cn W (.Compare a [.Eq] [b] pos) (mOp fEq ma mb) := re_cmp (op_eqD hu) s_eq ha hb (nomark _)
theorem re_ne (hu : X.A.units + 64 < cLine) (ha : RE X cn W a ma) (hb : RE X cn W b mb) : RE X cn W (.Compare a [.NotEq] [b] pos) (mOp fNe ma mb) := re_cmp (op_neD hu) s_ne ha hb (nomark _)
theorem re_lt (ha : RE X cn W a ma) (hb : RE X cn W b mb) : RE X cn W (.Compare a [.Lt] [b] pos) (mOp fLt ma mb) := re_cmp op_lt s_lt ha hb (nomark _)
theorem re_le (ha : RE X cn W a ma) (hb : RE X cn W b mb) : RE X cn W (.Compare a [.LtE] [b] pos) (mOp fLe ma mb) := re_cmp op_le s_le ha hb (nomark _)
theorem re_gt (ha : RE X cn W a ma) (hb : RE X cn W b mb) : RE X cn W (.Compare a [.Gt] [b] pos) (mOp fGt ma mb) := re_cmp op_gt s_gt ha hb (nomark _)
theorem re_ge (ha : RE X cn W a ma) (hb : RE X cn W b mb) : RE X cn W (.Compare a [.GtE] [b] pos) (mOp fGe ma mb) := re_cmp op_ge s_ge ha hb (nomark _)
theorem re_mul (ha : RE X cn W a ma) (hb : RE X cn W b mb) : RE X cn W (.BinOp a .Mult b pos) (mOp fMul ma mb) := re_op op_mul s_mul ha hb
theorem re_minus (ha : RE X cn W a ma) (hb : RE X cn W b mb) : RE X cn W (.BinOp a .Sub b pos) (mOp fSub ma mb) := re_op op_sub s_sub ha hb
theorem re_mod (ha : RE X cn W a ma) (hb : RE X cn W b mb) : RE X cn W (.BinOp a .Mod b pos) (mOp fMod ma mb) := re_op op_mod s_mod ha hb
theorem re_div (ha : RE X cn W a ma) (hb : RE X cn W b mb) : RE X cn W (.BinOp a .FloorDiv b pos) (mOp fDiv ma mb) := re_op op_fdiv s_div ha hb
theorem re_pow (ha : RE X cn W a ma) (hb : RE X cn W b mb) : RE X cn W (.BinOp a .Pow b pos) (mOp fPow ma mb) := re_op op_pow s_pow ha hb
/-! + of ints, of lists, of tuples -/
def fPlus : D → D → M D := fun x y g => match x, y with
  | .int i, .int j => .ok (.int (i + j)) g
  | .ref n, .ref m => match g[n]?, g[m]? with
    | some (.lst l), some (.lst l') => ck (l.length + l'.length ≤ 100000) (.ok (.ref g.length) (g ++ [.lst (l ++ l')]))
    | _, _ => .bad
  | .tup l, .tup l' => ck (0 < l.length ∧ 0 < l'.length ∧ l.length + l'.length ≤ 100000) (.ok (.tup (l ++ l')) g)
  | _, _ => .bad
theorem small_line {n : Nat} (h : n ≤ 100000) : n < sizeLine := Nat.lt_of_le_of_lt h (by rw [sizeLine_eq]; decide)
theorem op_plus : OpR X (binaryOp .Add) (fun x y H Q => rI0 (fun i j => .int (i + j)) x y H Q ∨ (rCat x y H Q ∨ rCatT X.K x y H Q)) := op_add.or (op_cat.or op_catT)
theorem s_plus : S2 (ux X cn) (fun x y H Q => rI0 (fun i j => .int (i + j)) x y H Q ∨ (rCat x y H Q ∨ rCatT X.K x y H Q)) fPlus := by
  intro W σ ρ H g x y v u Q r qx qy p
  unfold fPlus at p
  split at p
  · cases qx
    cases qy
    exact .inl ⟨_, _, rfl, rfl, p.at r (.int _)⟩
  · split at p
    · rename_i n m _ _ l l' h1 h2
      obtain ⟨c, p⟩ := Post.ck p
      cases qx with
      | ref ha =>
        cases qy with
        | ref hb =>
          obtain ⟨xs, e1, r1⟩ := r.lst h1 ha
          obtain ⟨ys, e2, r2⟩ := r.lst h2 hb
          refine .inr (.inl ⟨_, _, xs, ys, rfl, rfl, e1, e2, ?_, fun q hq => ?_⟩)
          · rw [← r1.length, ← r2.length]
            exact Nat.le_of_lt (small_line c)
          · obtain ⟨ev, rp, hx⟩ := Ev.cnt (ob := .lst (l ++ l')) (o := .lst (xs ++ ys)) r hq fun e h => ⟨_, h, (e.rels r r1).app (e.rels r r2)⟩
            exact p _ _ _ ev rp (.ref hx)
    · exact p.elim
  · rename_i l l'
    obtain ⟨c, p⟩ := Post.ck p
    cases qx with
    | tup s1 r1 =>
      rename_i a xs
      cases qy with
      | tup s2 r2 =>
        rename_i b ys
        have n1 : xs ≠ [] := fun z => by
          have := r1.length
          rw [z] at this
          simp at this
          simp [this] at c
        have n2 : ys ≠ [] := fun z => by
          have := r2.length
          rw [z] at this
          simp at this
          simp [this] at c
        refine .inr (.inr ⟨_, _, xs, ys, rfl, rfl, s1, s2, n1, ?_, fun z => absurd z n2, fun _ q hq => ?_⟩)
        · rw [← r1.length, ← r2.length]
          exact Nat.le_of_lt (small_line c.2.2)
        · obtain ⟨ev, rp⟩ := Ev.new (o := .tup (xs ++ ys)) r hq
          exact p _ _ _ ev rp (.tup (.of upd_same) ((ev.rels r r1).app (ev.rels r r2)))
  · exact p.elim
theorem re_plus (ha : RE X cn W a ma) (hb : RE X cn W b mb) : RE X cn W (.BinOp a .Add b pos) (mOp fPlus ma mb) := re_op op_plus s_plus ha hb
end
end RL
namespace RL
open PySem L2
@[simp] theorem ck_true {α : Type} (r : Res α) : ck True r = r := if_pos trivial
/-! ### tests, and, or, not, if .. else -/
def asB : D → M Bool := fun d g => match d with
  | .bl b => .ok b g
  | _ => .bad
def mTest (m : ME) : MT := fun τ g => (m τ g).bind asB
def mAndT (a b : MT) : MT := fun τ g => (a τ g).bind fun c g1 => if c = true then b τ g1 else .ok false g1
def mOrT (a b : MT) : MT := fun τ g => (a τ g).bind fun c g1 => if c = true then .ok true g1 else b τ g1
def mNotT (a : MT) : MT := fun τ g => (a τ g).bind fun c g1 => .ok (!c) g1
def mAnd (a b : ME) : ME := fun τ g => (a τ g).bind fun d g1 => match d with
  | .bl true => b τ g1
  | .bl false => .ok (.bl false) g1
  | _ => .bad
def mOr (a b : ME) : ME := fun τ g => (a τ g).bind fun d g1 => match d with
  | .bl false => b τ g1
  | .bl true => .ok (.bl true) g1
  | _ => .bad
def fNotV : D → M D := fun d g => match d with
  | .bl b => .ok (.bl (!b)) g
  | _ => .bad
def mIf (c : MT) (a b : ME) : ME := fun τ g => (c τ g).bind fun k g1 => if k = true then a τ g1 else b τ g1
def fIsN (b : Bool) : D → M D := fun d g => .ok (.bl (if b = true then decide (d = .non) else !decide (d = .non))) g
section
variable {X : Cx} {cn : Str → Addr} {W : WX} {pos : Pos} {a b c e o : Expr} {es : List Expr} {ma mb me : ME} {ml : MA} {mt mu : MT}
theorem rt_val (h : RE X cn W e me) (he : ∀ whole, isTrue e X.env whole = (do let v ← whole; standAt e.pos; holding [v] (truthy v)) := by intro _; rfl) : RT X cn W e (mTest me) := by
  refine ptI (pt_val h he) fun σ H Q ⟨ρ, τ, g, s, p⟩ => ⟨ρ, τ, g, s, p.thn fun ρ1 v H1 d g1 e1 r1 q1 p1 => ?_⟩
  unfold asB at p1
  cases q1 <;> first | exact p1.elim | exact ⟨_, rfl, p1.at r1 rfl⟩
theorem rt_cmp {op : CmpOp} {r : R2} {f : D → D → M D} (ho : OpR X (compareOp op) r) (s : S2 (ux X cn) r f) (ha : RE X cn W a ma) (hb : RE X cn W b mb) (hm : behindInMarks op b = false) : RT X cn W (.Compare a [op] [b] pos) (mTest (mOp f ma mb)) := by
  refine ptI (pt_cmpR ho ha hb hm) fun σ H Q ⟨ρ, τ, g, st, p⟩ => ?_
  have h : tE (ux X cn) W (mOp f ma mb) σ H (fun x H' => ∃ k, x = .bl k ∧ Q k H') := ⟨ρ, τ, g, st, p.thn fun ρ1 v H1 d g1 e1 r1 q1 p1 => by
    unfold asB at p1
    cases q1 <;> first | exact p1.elim | exact ⟨_, rfl, p1.at r1 rfl⟩⟩
  exact two_e s σ H _ h
theorem rt_isN (ha : RE X cn W a ma) {j pos'} : RT X cn W (.Compare a [.Is] [.Constant .none j pos'] pos) (mTest (mUn (fIsN true) ma)) := by
  refine ptI (pt_cmp (pc_isN ha)) fun σ H Q ⟨ρ, τ, g, st, p⟩ => ?_
  have p' : Post (ux X cn) rB W σ ρ H ((ma τ g).bind fun x g1 => .ok (decide (x = .non)) g1) Q := by
    unfold mTest mUn at p
    cases h : ma τ g <;> rw [h] at p <;> exact p
  refine ⟨ρ, τ, g, st, p'.thn fun ρ1 v H1 d g1 e1 r1 q1 p1 => ⟨_, rfl, ?_⟩⟩
  have z : decide (v = V.non) = decide (d = D.non) := by cases q1 <;> simp
  rw [z]
  exact p1.at r1 rfl
theorem rt_notN (ha : RE X cn W a ma) {j pos'} : RT X cn W (.Compare a [.IsNot] [.Constant .none j pos'] pos) (mTest (mUn (fIsN false) ma)) := by
  refine ptI (pt_cmp (pc_notN ha)) fun σ H Q ⟨ρ, τ, g, st, p⟩ => ?_
  have p' : Post (ux X cn) rB W σ ρ H ((ma τ g).bind fun x g1 => .ok (!decide (x = .non)) g1) Q := by
    unfold mTest mUn at p
    cases h : ma τ g <;> rw [h] at p <;> exact p
  refine ⟨ρ, τ, g, st, p'.thn fun ρ1 v H1 d g1 e1 r1 q1 p1 => ⟨_, rfl, ?_⟩⟩
  have z : decide (v = V.non) = decide (d = D.non) := by cases q1 <;> simp
  rw [z]
  exact p1.at r1 rfl
theorem re_isN (ha : RE X cn W a ma) {j pos'} : RE X cn W (.Compare a [.Is] [.Constant .none j pos'] pos) (mUn (fIsN true) ma) := by
  refine peI (pe_cmp (pc_isN ha)) fun σ H Q ⟨ρ, τ, g, st, p⟩ => ⟨ρ, τ, g, st, p.thn fun ρ1 v H1 d g1 e1 r1 q1 p1 => ?_⟩
  have z : decide (v = V.non) = decide (d = D.non) := by cases q1 <;> simp
  rw [z]
  exact p1.at r1 (.bl _)
theorem re_notN (ha : RE X cn W a ma) {j pos'} : RE X cn W (.Compare a [.IsNot] [.Constant .none j pos'] pos) (mUn (fIsN false) ma) := by
  refine peI (pe_cmp (pc_notN ha)) fun σ H Q ⟨ρ, τ, g, st, p⟩ => ⟨ρ, τ, g, st, p.thn fun ρ1 v H1 d g1 e1 r1 q1 p1 => ?_⟩
  have z : decide (v = V.non) = decide (d = D.non) := by cases q1 <;> simp
  rw [z]
  exact p1.at r1 (.bl _)
theorem rw_and1 (h : RT X cn W a mt) : RW X cn W (.BoolOp .And [a] pos) mt := pw_and1 h
theorem rw_or1 (h : RT X cn W a mt) : RW X cn W (.BoolOp .Or [a] pos) mt := pw_or1 h
theorem rw_and (ha : RT X cn W a mt) (hb : RW X cn W (.BoolOp .And (b :: es) pos) mu) : RW X cn W (.BoolOp .And (a :: b :: es) pos) (mAndT mt mu) := by
  refine pwI (pw_and ha hb) fun σ H Q ⟨ρ, τ, g, s, p⟩ => ⟨ρ, τ, g, s, p.thn fun ρ1 v H1 d g1 e1 r1 q1 p1 => ?_⟩
  cases (show d = v from q1)
  cases v with
  | true => exact ⟨ρ1, τ, g1, s.later e1 r1, p1⟩
  | false => exact p1.at r1 rfl
theorem rw_or (ha : RT X cn W a mt) (hb : RW X cn W (.BoolOp .Or (b :: es) pos) mu) : RW X cn W (.BoolOp .Or (a :: b :: es) pos) (mOrT mt mu) := by
  refine pwI (pw_or ha hb) fun σ H Q ⟨ρ, τ, g, s, p⟩ => ⟨ρ, τ, g, s, p.thn fun ρ1 v H1 d g1 e1 r1 q1 p1 => ?_⟩
  cases (show d = v from q1)
  cases v with
  | true => exact p1.at r1 rfl
  | false => exact ⟨ρ1, τ, g1, s.later e1 r1, p1⟩
theorem rt_w (h : RW X cn W e mt) : RT X cn W e mt := PW.pt h
theorem rt_not (ha : RT X cn W a mt) : RT X cn W (.UnaryOp .Not a pos) (mNotT mt) := by
  refine ptI (pt_not ha) fun σ H Q ⟨ρ, τ, g, s, p⟩ => ⟨ρ, τ, g, s, p.thn fun ρ1 v H1 d g1 e1 r1 q1 p1 => ?_⟩
  cases (show d = v from q1)
  exact p1.at r1 rfl
theorem re_one {op} (h : RE X cn W a ma) : RE X cn W (.BoolOp op [a] pos) ma := pe_one h
theorem re_and (ha : RE X cn W a ma) (hb : RE X cn W (.BoolOp .And (b :: es) pos) mb) : RE X cn W (.BoolOp .And (a :: b :: es) pos) (mAnd ma mb) := by
  refine peI (pe_and ha hb) fun σ H Q ⟨ρ, τ, g, s, p⟩ => ⟨ρ, τ, g, s, p.thn fun ρ1 v H1 d g1 e1 r1 q1 p1 => ?_⟩
  cases q1 <;> first | exact p1.elim | skip
  rename_i k
  refine ⟨k, rfl, ?_⟩
  cases k with
  | true => exact ⟨ρ1, τ, g1, s.later e1 r1, p1⟩
  | false => exact p1.at r1 (.bl _)
theorem re_or (ha : RE X cn W a ma) (hb : RE X cn W (.BoolOp .Or (b :: es) pos) mb) : RE X cn W (.BoolOp .Or (a :: b :: es) pos) (mOr ma mb) := by
  refine peI (pe_or ha hb) fun σ H Q ⟨ρ, τ, g, s, p⟩ => ⟨ρ, τ, g, s, p.thn fun ρ1 v H1 d g1 e1 r1 q1 p1 => ?_⟩
  cases q1 <;> first | exact p1.elim | skip
  rename_i k
  refine ⟨k, rfl, ?_⟩
  cases k with
  | true => exact p1.at r1 (.bl _)
  | false => exact ⟨ρ1, τ, g1, s.later e1 r1, p1⟩
theorem re_not (ha : RE X cn W a ma) : RE X cn W (.UnaryOp .Not a pos) (mUn fNotV ma) := by
  refine peI (pe_not ha) fun σ H Q ⟨ρ, τ, g, s, p⟩ => ⟨ρ, τ, g, s, p.thn fun ρ1 v H1 d g1 e1 r1 q1 p1 => ?_⟩
  cases q1 <;> first | exact p1.elim | exact ⟨_, rfl, p1.at r1 (.bl _)⟩
theorem re_ifx (hc : RT X cn W c mt) (ha : RE X cn W a ma) (hb : RE X cn W b mb) : RE X cn W (.IfExp c a b pos) (mIf mt ma mb) := by
  refine peI (pe_ifExp hc ha hb) fun σ H Q ⟨ρ, τ, g, s, p⟩ => ⟨ρ, τ, g, s, p.thn fun ρ1 v H1 d g1 e1 r1 q1 p1 => ?_⟩
  cases (show d = v from q1)
  cases v with
  | true => exact ⟨ρ1, τ, g1, s.later e1 r1, p1⟩
  | false => exact ⟨ρ1, τ, g1, s.later e1 r1, p1⟩
theorem re_neg {i : Int} {k p2} (h : RE X cn W (.Constant (.int i) k p2) (mC (.int i)) := by exact re_int) : RE X cn W (.UnaryOp .USub (.Constant (.int i) k p2) pos) (mC (.int (-i))) := by
  refine peI (pe_un un_neg h) fun σ H Q ⟨ρ, τ, g, s, p⟩ => ⟨ρ, τ, g, s, fun ρ' v H' e r q => ?_⟩
  cases q
  exact ⟨i, rfl, p ρ' _ H' e r (.int _)⟩
/-! displays -/
def fTup : List D → M D := fun l g => ck (l.length ≤ 1000) (.ok (.tup l) g)
def fLst : List D → M D := fun l g => ck (l.length ≤ 1000) (.ok (.ref g.length) (g ++ [.lst l]))
theorem re_tup {k} (h : RA X cn W es ml) : RE X cn W (.Tuple es k pos) (mUnA fTup ml) := by
  refine peI (pe_tup h) fun σ H Q ⟨ρ, τ, g, s, p⟩ => ⟨ρ, τ, g, s, p.thn fun ρ1 v H1 d g1 e1 r1 q1 p1 => ?_⟩
  obtain ⟨c, p1⟩ := Post.ck p1
  refine ⟨by rw [← RelDs.length q1]; exact Nat.le_of_lt (small1000 c), fun q hq => ?_⟩
  obtain ⟨ev, rp⟩ := Ev.new (o := .tup v) r1 hq
  exact p1 _ _ _ ev rp (.tup (.of upd_same) (ev.rels r1 q1))
theorem re_lst (h : RA X cn W es ml) : RE X cn W (.List es pos) (mUnA fLst ml) := by
  refine peI (pe_lst h) fun σ H Q ⟨ρ, τ, g, s, p⟩ => ⟨ρ, τ, g, s, p.thn fun ρ1 v H1 d g1 e1 r1 q1 p1 => ?_⟩
  obtain ⟨c, p1⟩ := Post.ck p1
  refine ⟨by rw [← RelDs.length q1]; exact Nat.le_of_lt (small1000 c), fun q hq => ?_⟩
  obtain ⟨ev, rp, hx⟩ := Ev.cnt (ob := .lst d) (o := .lst v) r1 hq fun e h => ⟨_, h, e.rels r1 q1⟩
  exact p1 _ _ _ ev rp (.ref hx)
def mDict0 : ME := fun _ g => .ok (.ref g.length) (g ++ [.dct false []])
theorem re_dict0 : RE X cn W (.Dict [] [] pos) mDict0 := by
  refine peI pe_dnewK fun σ H Q ⟨ρ, τ, g, s, p⟩ q hq => ?_
  obtain ⟨ev, rp, hx⟩ := Ev.cnt (ob := .dct false []) (o := .dK []) s.rep hq fun e h => ⟨_, h, .inl ⟨[], rfl, .nil⟩⟩
  exact p _ _ _ ev rp (.ref hx)
/-! attributes of own objects -/
def optR (o : Option D) : M D := fun g => match o with
  | some d => .ok d g
  | none => .bad
@[simp] theorem optR_some (d : D) (g : G) : optR (some d) g = .ok d g := rfl
@[simp] theorem optR_none (g : G) : optR none g = .bad := rfl
/-- the classes cs have no such name of their own -/
def FldOk (K : PySem.W.Frag) (cn : Str → Addr) (cs : List Str) (f : Str) : Prop := fieldOk f = true ∧ ∀ c ∈ cs, Cls K (cn c) ∧ NoAttr K (cn c) f
def fFld (cs : List Str) (f : Str) : D → M D := fun x g => match x with
  | .ref n => match g[n]? with
    | some (.ins c' fs) => ck (c' ∈ cs) (optR (fs.lookup f) g)
    | _ => .bad
  | _ => .bad
theorem RelF.some_of {K : PySem.W.Frag} {ρ : List Addr} {H : Hp} {d : D} {o : Option V} (h : RelF K ρ H (some d) o) : ∃ v, o = some v ∧ RelD K ρ H d v := by
  cases o with
  | none => exact h.elim
  | some v => exact ⟨v, rfl, h⟩
theorem RelF.none_of {K : PySem.W.Frag} {ρ : List Addr} {H : Hp} {o : Option V} (h : RelF K ρ H none o) : o = none := by
  cases o with
  | none => rfl
  | some v => exact h.elim
theorem re_fld {cs : List Str} {f : Str} (hc : FldOk X.K cn cs f) (he : RE X cn W e me) (hb : attributeBase e f X.env (eval e X.env) = eval e X.env := by rfl) : RE X cn W (.Attribute e f pos) (mUn (fFld cs f) me) := by
  refine peI (pe_fld he hb) fun σ H Q ⟨ρ, τ, g, s, p⟩ => ⟨ρ, τ, g, s, p.thn fun ρ1 v H1 d g1 e1 r1 q1 p1 => ?_⟩
  unfold fFld at p1
  split at p1
  · split at p1
    · rename_i n _ c' fs hg
      obtain ⟨hm, p2⟩ := Post.ck p1
      obtain ⟨k1, k2⟩ := hc.2 _ hm
      cases hd : fs.lookup f with
      | some d' =>
        rw [hd] at p2
        cases q1 with
        | ref ha =>
          obtain ⟨dx, fs', h1, h3⟩ := r1.obs n _ _ hg ha
          have h4 := h3.val f
          rw [hd] at h4
          obtain ⟨w, h5, h6⟩ := h4.some_of
          exact ⟨_, _, dx, fs', w, rfl, h1, k1, k2, h5, Post.at (Rl := rD (ux X cn)) p2 r1 h6⟩
      | none =>
        rw [hd] at p2
        exact p2.elim
    · exact p1.elim
  · exact p1.elim
/-! built-in calls -/
def fLen : List D → M D := fun l g => match l with
  | [x] => match items g x with
    | some l => .ok (.int (l.length : Nat)) g
    | none => .bad
  | _ => .bad
theorem s_len : SA (ux X cn) (fun xs H Q => ∃ p ys, xs = [.ref p] ∧ (SqL X.K H p ys ∨ SqT X.K H p ys) ∧ Q (.int ys.length) H) fLen := by
  intro W σ ρ H g x v Q r q p
  unfold fLen at p
  split at p
  · split at p
    · rename_i l hi
      cases q with
      | cons q1 q2 =>
        cases q2
        obtain ⟨xs, ⟨a, rfl, sq⟩, rs⟩ := items_sq r hi q1
        refine ⟨a, xs, rfl, sq, ?_⟩
        rw [← rs.length]
        exact p.at r (.int _)
    · exact p.elim
  · exact p.elim
theorem re_len {p2 : Pos} (hg : Gl X "len") (hm : X.mg "len" = none) (ha : RE X cn W a ma) (hs : starEach [a] X.env = (false, eval a X.env) :: starEach [] X.env := by rfl) : RE X cn W (.Call (.Name "len" p2) [a] [] pos) (mUnA fLen (mCons ma mNil)) :=
  re_callB (id := "len") call_len_seq s_len hg hm PySem.boot_len (ra_cons ha ra_nil hs) (he := hs)
def fInt : List D → M D := fun l g => match l with
  | [.int i] => .ok (.int i) g
  | [.bl b] => .ok (.int (if b = true then 1 else 0)) g
  | _ => .bad
theorem s_int : SA (ux X cn) (fun xs H Q => (∃ i, xs = [.int i] ∧ Q (.int i) H) ∨ ∃ k, xs = [.bl k] ∧ Q (.int (if k then 1 else 0)) H) fInt := by
  intro W σ ρ H g x v Q r q p
  unfold fInt at p
  split at p
  · cases q with
    | cons q1 q2 =>
      cases q2
      cases q1
      exact .inl ⟨_, rfl, p.at r (.int _)⟩
  · cases q with
    | cons q1 q2 =>
      cases q2
      cases q1
      exact .inr ⟨_, rfl, p.at r (.int _)⟩
  · exact p.elim
theorem re_intc {p2 : Pos} (hg : Gl X "int") (hm : X.mg "int" = none) (ha : RE X cn W a ma) (hs : starEach [a] X.env = (false, eval a X.env) :: starEach [] X.env := by rfl) : RE X cn W (.Call (.Name "int" p2) [a] [] pos) (mUnA fInt (mCons ma mNil)) :=
  re_callTy (id := "int") call_int1 s_int hg hm (by decide +kernel) (ra_cons ha ra_nil hs) (he := hs)
def fTuple : List D → M D := fun l g => match l with
  | [x] => match items g x with
    | some l => .ok (.tup l) g
    | none => .bad
  | _ => .bad
theorem s_tuple : SA (ux X cn) (fun xs H Q => ∃ p ys, xs = [.ref p] ∧ ((SqL X.K H p ys ∧ ∀ l, H l = none → Q (.ref l) (upd H l (.tup ys))) ∨ (SqT X.K H p ys ∧ Q (.ref p) H))) fTuple := by
  intro W σ ρ H g x v Q r q p
  unfold fTuple at p
  split at p
  · split at p
    · rename_i l hi
      cases q with
      | cons q1 q2 =>
        cases q2
        obtain ⟨xs, ⟨a, rfl, sq⟩, rs⟩ := items_sq r hi q1
        refine ⟨a, xs, rfl, ?_⟩
        rcases sq with sq | sq
        · refine .inl ⟨sq, fun t ht => ?_⟩
          obtain ⟨ev, rp⟩ := Ev.new (o := .tup xs) r ht
          exact p _ _ _ ev rp (.tup (.of upd_same) (ev.rels r rs))
        · exact .inr ⟨sq, p.at r (.tup sq rs)⟩
    · exact p.elim
  · exact p.elim
theorem re_tuple {p2 : Pos} (hg : Gl X "tuple") (hm : X.mg "tuple" = none) (ha : RE X cn W a ma) (hs : starEach [a] X.env = (false, eval a X.env) :: starEach [] X.env := by rfl) : RE X cn W (.Call (.Name "tuple" p2) [a] [] pos) (mUnA fTuple (mCons ma mNil)) :=
  re_callTy (id := "tuple") call_tuple_of s_tuple hg hm PyProof.Rows.boot_tuple (ra_cons ha ra_nil hs) (he := hs)
/-- True and False of a list -/
def bools : List D → Option (List Bool)
  | [] => some []
  | .bl b :: l => (bools l).map (b :: ·)
  | _ => none
theorem bools_rel {K : PySem.W.Frag} {ρ : List Addr} {H : Hp} : ∀ {l : List D} {vs : List V} {bs : List Bool}, RelDs K ρ H l vs → bools l = some bs → vs = bs.map V.bl
  | _, _, _, .nil, e => by cases e; rfl
  | d :: l, v :: vs, bs, .cons h t, e => by
    cases h <;> simp only [bools] at e <;> first | cases e | skip
    cases e1 : bools l with
    | none => rw [e1] at e; cases e
    | some b => rw [e1] at e; cases e; rw [List.map_cons, bools_rel t e1]
def fAny : List D → M D := fun l g => match l with
  | [.ref n] => match items g (.ref n) with
    | some l => match bools l with
      | some bs => .ok (.bl (bs.any id)) g
      | none => .bad
    | none => .bad
  | _ => .bad
def fAll : List D → M D := fun l g => match l with
  | [.ref n] => match items g (.ref n) with
    | some l => match bools l with
      | some bs => .ok (.bl (bs.all id)) g
      | none => .bad
    | none => .bad
  | _ => .bad
theorem s_any : SA (ux X cn) (rAny X.K) fAny := by
  intro W σ ρ H g x v Q r q p
  unfold fAny at p
  split at p
  · split at p
    · rename_i l hi
      split at p
      · rename_i bs hb
        cases q with
        | cons q1 q2 =>
          cases q2
          cases q1 with
          | ref ha =>
            obtain ⟨xs, sq, rs⟩ := items_ref r hi ha
            have e := bools_rel rs hb
            subst e
            exact ⟨_, bs, rfl, sq, p.at r (.bl _)⟩
      · exact p.elim
    · exact p.elim
  · exact p.elim
theorem s_all : SA (ux X cn) (rAll X.K) fAll := by
  intro W σ ρ H g x v Q r q p
  unfold fAll at p
  split at p
  · split at p
    · rename_i l hi
      split at p
      · rename_i bs hb
        cases q with
        | cons q1 q2 =>
          cases q2
          cases q1 with
          | ref ha =>
            obtain ⟨xs, sq, rs⟩ := items_ref r hi ha
            have e := bools_rel rs hb
            subst e
            exact ⟨_, bs, rfl, sq, p.at r (.bl _)⟩
      · exact p.elim
    · exact p.elim
  · exact p.elim
theorem re_any {p2 : Pos} (hc : X.calm = true) (hg : Gl X "any") (hm : X.mg "any" = none) (ha : RE X cn W a ma) (hs : starEach [a] X.env = (false, eval a X.env) :: starEach [] X.env := by rfl) : RE X cn W (.Call (.Name "any" p2) [a] [] pos) (mUnA fAny (mCons ma mNil)) :=
  re_callB (id := "any") (cr_any hc) s_any hg hm (by decide +kernel) (ra_cons ha ra_nil hs) (he := hs)
theorem re_all {p2 : Pos} (hc : X.calm = true) (hg : Gl X "all") (hm : X.mg "all" = none) (ha : RE X cn W a ma) (hs : starEach [a] X.env = (false, eval a X.env) :: starEach [] X.env := by rfl) : RE X cn W (.Call (.Name "all" p2) [a] [] pos) (mUnA fAll (mCons ma mNil)) :=
  re_callB (id := "all") (cr_all hc) s_all hg hm (by decide +kernel) (ra_cons ha ra_nil hs) (he := hs)
end
end RL
namespace RL
open PySem L2
/-! ### statements -/
section
variable {U₀ : U} {W : WX} {α β : Type} {σ : St} {ρ ρ' : List Addr} {H H' : Hp} {g : G} {τ : T}
def PostS (U₀ : U) (W : WX) (ρ : List Addr) (H : Hp) (r : SR) (E : Ends) : Prop := match r with
  | .nx τ g => ∀ ρ' σ' H', Ev ρ H ρ' H' → Stt U₀ ρ' τ g σ' H' → E.nx σ' H'
  | .rt d g => ∀ ρ' v H', Ev ρ H ρ' H' → Rep U₀ ρ' H' g → RelD U₀.K ρ' H' d v → E.rt v H'
  | .bk τ g => ∀ ρ' σ' H', Ev ρ H ρ' H' → Stt U₀ ρ' τ g σ' H' → E.bk σ' H'
  | .ct τ g => ∀ ρ' σ' H', Ev ρ H ρ' H' → Stt U₀ ρ' τ g σ' H' → E.ct σ' H'
  | .ex e τ g => ∀ ρ' σ' H' cls d, Ev ρ H ρ' H' → Stt U₀ ρ' τ g σ' H' → XRel U₀ ρ' H' e cls d → W cls d σ' H'
  | .bad => False
theorem PostS.later {r : SR} {E : Ends} (p : PostS U₀ W ρ H r E) (e : Ev ρ H ρ' H') : PostS U₀ W ρ' H' r E := by
  cases r with
  | nx τ g => exact fun a b c e2 => p a b c (e.trans e2)
  | rt τ g => exact fun a b c e2 => p a b c (e.trans e2)
  | bk τ g => exact fun a b c e2 => p a b c (e.trans e2)
  | ct τ g => exact fun a b c e2 => p a b c (e.trans e2)
  | ex x τ g => exact fun a b c cls d e2 => p a b c cls d (e.trans e2)
  | bad => exact p
/-- an expression within a statement -/
def Res.st (r : Res α) (τ : T) (k : α → G → SR) : SR := match r with
  | .ok a g => k a g
  | .exc e g => .ex e τ g
  | .bad => .bad
@[simp] theorem Res.st_ok (a : α) (g : G) (k : α → G → SR) : (Res.ok a g).st τ k = k a g := rfl
@[simp] theorem Res.st_exc (e : Exc) (g : G) (k : α → G → SR) : (Res.exc e g : Res α).st τ k = .ex e τ g := rfl
@[simp] theorem Res.st_bad (k : α → G → SR) : (Res.bad : Res α).st τ k = .bad := rfl
theorem PostS.thn {Rl : RelT α β} {r : Res α} {k : α → G → SR} {E : Ends} {Q0 : β → Hp → Prop} (p : PostS U₀ W ρ H (r.st τ k) E) (s : Stt U₀ ρ τ g σ H)
    (h : ∀ (ρ1 : List Addr) (v : β) (H1 : Hp) (a : α) (g1 : G), Ev ρ H ρ1 H1 → Rep U₀ ρ1 H1 g1 → Rl ρ1 H1 a v → Stt U₀ ρ1 τ g1 σ H1 → PostS U₀ W ρ1 H1 (k a g1) E → Q0 v H1) : Post U₀ Rl W σ ρ H r Q0 := by
  cases r with
  | ok a g1 => exact fun ρ1 v H1 e1 r1 q => h ρ1 v H1 a g1 e1 r1 q (s.later e1 r1) (PostS.later p e1)
  | exc x g1 => exact fun ρ1 H1 cls d e1 r1 q => p ρ1 σ H1 cls d e1 (s.later e1 r1) q
  | bad => exact p
end
def tS (U₀ : U) (W : WX) (m : MS) : TS := fun E σ H => ∃ ρ τ g, Stt U₀ ρ τ g σ H ∧ PostS U₀ W ρ H (m τ g) E
def RS (X : Cx) (cn : Str → Addr) (W : WX) (st : Stmt) (m : MS) : Prop := PS X st (tS (ux X cn) W m)
def RSs (X : Cx) (cn : Str → Addr) (W : WX) (st : List Stmt) (m : MS) : Prop := PSs X st (tS (ux X cn) W m)
def mNext : MS := fun τ g => .nx τ g
def mSeq (a b : MS) : MS := fun τ g => match a τ g with
  | .nx τ' g' => b τ' g'
  | r => r
/-- what a target does with a value -/
abbrev MG := D → MS
def tG (U₀ : U) (W : WX) (m : MG) : TG := fun v σ H Q => ∃ ρ τ g d, Stt U₀ ρ τ g σ H ∧ RelD U₀.K ρ H d v ∧ PostS U₀ W ρ H (m d τ g) { nx := Q, rt := fun _ _ => False }
def RG (X : Cx) (cn : Str → Addr) (W : WX) (e : Expr) (m : MG) : Prop := PG X e (tG (ux X cn) W m)
def tGs (U₀ : U) (W : WX) (m : List D → MS) : TGs := fun v σ H Q => ∃ ρ τ g d, Stt U₀ ρ τ g σ H ∧ RelDs U₀.K ρ H d v ∧ PostS U₀ W ρ H (m d τ g) { nx := Q, rt := fun _ _ => False }
def RGs (X : Cx) (cn : Str → Addr) (W : WX) (e : List Expr) (m : List D → MS) : Prop := PGs X e (tGs (ux X cn) W m)
/-- a target gives no other end than the next statement -/
def onlyNx (r : SR) : SR := match r with
  | .nx τ g => .nx τ g
  | .ex e τ g => .ex e τ g
  | _ => .bad
def gN (i : Nat) : MG := fun d τ g => .nx (τ.set i (some d)) g
def gsNil : List D → MS := fun l τ g => match l with
  | [] => .nx τ g
  | _ => .bad
def gsCons (a : MG) (r : List D → MS) : List D → MS := fun l τ g => match l with
  | [] => .bad
  | d :: l => match a d τ g with
    | .nx τ' g' => r l τ' g'
    | _ => .bad
def gTupM (n : Nat) (m : List D → MS) : MG := fun d τ g => match d with
  | .tup l => if l.length = n then m l τ g else .bad
  | _ => .bad
def mAsg (m : ME) (t : MG) : MS := fun τ g => (m τ g).st τ fun d g1 => onlyNx (t d τ g1)
def mDrop (m : ME) : MS := fun τ g => (m τ g).st τ fun _ g1 => .nx τ g1
def mRet (m : ME) : MS := fun τ g => (m τ g).st τ fun d g1 => .rt d g1
def mIfS (c : MT) (a b : MS) : MS := fun τ g => (c τ g).st τ fun k g1 => if k = true then a τ g1 else b τ g1
section
variable {X : Cx} {cn : Str → Addr} {W : WX} {pos : Pos} {e o i c : Expr} {es : List Expr} {st : Stmt} {rest sa sb : List Stmt} {me mo mi : ME} {ma mb : MS} {mt : MT} {mg : MG} {mgs : List D → MS}
theorem rss_nil : RSs X cn W [] mNext := pssI pss_nil fun E σ H ⟨ρ, τ, g, s, p⟩ => p ρ σ H Ev.refl s
theorem seq_imp {t u : TS} (h1 : ∀ E σ H, tS (ux X cn) W ma E σ H → t E σ H) : True := trivial
theorem rss_cons (h1 : RS X cn W st ma) (h2 : RSs X cn W rest mb) : RSs X cn W (st :: rest) (mSeq ma mb) := by
  refine pssI (pss_cons h1 h2) fun E σ H ⟨ρ, τ, g, s, p⟩ => ⟨ρ, τ, g, s, ?_⟩
  unfold mSeq at p
  cases h : ma τ g with
  | nx τ' g' =>
    rw [h] at p
    exact fun ρ' σ' H' e1 s1 => ⟨ρ', τ', g', s1, PostS.later p e1⟩
  | rt d g' => rw [h] at p; exact p
  | bk τ' g' => rw [h] at p; exact p
  | ct τ' g' => rw [h] at p; exact p
  | ex x τ' g' => rw [h] at p; exact p
  | bad => rw [h] at p; exact p
theorem rss_one (h1 : RS X cn W st ma) : RSs X cn W [st] ma := pss_one h1
theorem rs_pass : RS X cn W (.Pass pos) mNext := psI ps_pass fun E σ H ⟨ρ, τ, g, s, p⟩ => p ρ σ H Ev.refl s
theorem rs_break : RS X cn W (.Break pos) (fun τ g => .bk τ g) := psI ps_break fun E σ H ⟨ρ, τ, g, s, p⟩ => p ρ σ H Ev.refl s
theorem rs_cont : RS X cn W (.Continue pos) (fun τ g => .ct τ g) := psI ps_continue fun E σ H ⟨ρ, τ, g, s, p⟩ => p ρ σ H Ev.refl s
/-- a statement that is never come to -/
theorem rs_never : RS X cn W st (fun _ _ => .bad) := psI ps_never fun E σ H ⟨ρ, τ, g, s, p⟩ => p
theorem rss_never : RSs X cn W rest (fun _ _ => .bad) := pssI pss_never fun E σ H ⟨ρ, τ, g, s, p⟩ => p
theorem rs_expr (he : RE X cn W e me) (hs : swapsWith e none pos.line X.env = pure false := by rfl) : RS X cn W (.Expr e pos) (mDrop me) :=
  psI (ps_expr he hs) fun E σ H ⟨ρ, τ, g, s, p⟩ => ⟨ρ, τ, g, s, PostS.thn (Rl := rD (ux X cn)) p s fun ρ1 v H1 d g1 e1 r1 q1 s1 p1 => p1 ρ1 σ H1 Ev.refl s1⟩
theorem rs_ret (he : RE X cn W e me) : RS X cn W (.Return (some e) pos) (mRet me) :=
  psI (ps_ret he) fun E σ H ⟨ρ, τ, g, s, p⟩ => ⟨ρ, τ, g, s, PostS.thn (Rl := rD (ux X cn)) p s fun ρ1 v H1 d g1 e1 r1 q1 s1 p1 => p1 ρ1 v H1 Ev.refl r1 q1⟩
theorem rs_retN : RS X cn W (.Return none pos) (fun τ g => .rt .non g) := psI ps_retN fun E σ H ⟨ρ, τ, g, s, p⟩ => p ρ .non H Ev.refl s.rep .non
theorem rs_if (hc : RT X cn W c mt) (ha : RSs X cn W sa ma) (hb : RSs X cn W sb mb) : RS X cn W (.If c sa sb pos) (mIfS mt ma mb) := by
  refine psI (ps_if hc ha hb) fun E σ H ⟨ρ, τ, g, s, p⟩ => ⟨ρ, τ, g, s, PostS.thn (Rl := rB) p s fun ρ1 v H1 d g1 e1 r1 q1 s1 p1 => ?_⟩
  cases (show d = v from q1)
  cases v with
  | true => exact ⟨ρ1, τ, g1, s1, p1⟩
  | false => exact ⟨ρ1, τ, g1, s1, p1⟩
/-! targets -/
theorem rg_name {i : Nat} {x : Str} (hN : X.N.Nodup) (hi : X.N[i]? = some x) (hx : Loc X.env.scope x) (hf : X.fn x = true ∨ X.env.scope.names.lookup x = some .local := by first | exact .inl rfl | exact .inr rfl | assumption) : RG X cn W (.Name x pos) (gN i) := by
  refine ⟨fun pins s σ H v u Q I r ⟨ρ, τ, g, d, st, q, p⟩ => ?_⟩
  exact (pg_name hN hi hx hf).run pins s σ H v u Q I r (p ρ _ H Ev.refl (st.set q))
theorem rgs_nil : RGs X cn W [] gsNil := by
  refine ⟨fun pins s σ H v u Q I r ⟨ρ, τ, g, d, st, q, p⟩ => ?_⟩
  unfold gsNil at p
  split at p
  · cases q
    exact pgs_nil.run pins s σ H _ u Q I r ⟨rfl, p ρ σ H Ev.refl st⟩
  · exact p.elim
theorem rgs_cons (h1 : RG X cn W e mg) (h2 : RGs X cn W es mgs) (hs : (assignEach (e :: es) X.env).map (·.2) = assign e X.env :: (assignEach es X.env).map (·.2) := by rfl) : RGs X cn W (e :: es) (gsCons mg mgs) := by
  refine ⟨fun pins s σ H v u Q I r ⟨ρ, τ, g, d, st, q, p⟩ => ?_⟩
  unfold gsCons at p
  cases q with
  | nil => exact p.elim
  | @cons d v ds vs q1 q2 =>
    refine (pgs_cons h1 h2 hs).run pins s σ H _ u Q I r ⟨v, vs, rfl, ρ, τ, g, d, st, q1, ?_⟩
    dsimp only at p
    cases h : mg d τ g with
    | nx τ' g' =>
      rw [h] at p
      exact fun ρ' σ' H' e1 s1 => ⟨ρ', τ', g', ds, s1, e1.rels st.rep q2, PostS.later p e1⟩
    | _ => rw [h] at p; exact p.elim
theorem rg_tup {k : Nat} {n : Nat} (hc : X.calm = true) (h : RGs X cn W es mgs) (hn : (assignEach es X.env).length = n := by rfl) (hst : (assignEach es X.env).findIdx? (·.1) = none := by rfl) : RG X cn W (.Tuple es k pos) (gTupM n mgs) := by
  refine ⟨fun pins s σ H v u Q I r ⟨ρ, τ, g, d, st, q, p⟩ => ?_⟩
  unfold gTupM at p
  split at p
  · split at p
    · rename_i l hl
      cases q with
      | @tup _ a xs h1 h2 =>
        exact (pg_tup hc h hn hst).run pins s σ H _ u Q I r ⟨a, xs, rfl, h1, by rw [← h2.length]; exact hl, ρ, τ, g, l, st, h2, p⟩
    · exact p.elim
  · exact p.elim
theorem asg_imp : ∀ E σ H, tS (ux X cn) W (mAsg me mg) E σ H → tAsg (tE (ux X cn) W me) (tG (ux X cn) W mg) E σ H := by
  rintro E σ H ⟨ρ, τ, g, s, p⟩
  refine ⟨ρ, τ, g, s, PostS.thn (Rl := rD (ux X cn)) p s fun ρ1 v H1 d g1 e1 r1 q1 s1 p1 => ⟨ρ1, τ, g1, d, s1, q1, ?_⟩⟩
  cases h : mg d τ g1 with
  | nx τ' g' => rw [h] at p1; exact p1
  | ex x τ' g' => rw [h] at p1; exact p1
  | _ => rw [h] at p1; exact p1.elim
theorem rs_asg {tg : Expr} (he : RE X cn W e me) (hg : RG X cn W tg mg) (hs : swapsWithSole [tg] e pos.line X.env = pure false := by rfl) (hw : swappedStores [tg] e X.env = pure none := by rfl)
    (h1 : (assignEach [tg] X.env).map (·.2) = [assign tg X.env] := by rfl) : RS X cn W (.Assign [tg] e pos) (mAsg me mg) := psI (ps_asg he hg hs hw h1) asg_imp
theorem rs_set {i : Nat} {x : Str} {pos' : Pos} (hN : X.N.Nodup) (hi : X.N[i]? = some x) (hx : Loc X.env.scope x) (he : RE X cn W e me) (hs : swapsWith e (some (.Name x pos')) pos.line X.env = pure false := by rfl) (hf : X.fn x = true ∨ X.env.scope.names.lookup x = some .local := by first | exact .inl rfl | exact .inr rfl | assumption) :
    RS X cn W (.Assign [.Name x pos'] e pos) (mAsg me (gN i)) := by
  refine psI (ps_set hN hi hx he hs hf) fun E σ H ⟨ρ, τ, g, s, p⟩ => ⟨ρ, τ, g, s, PostS.thn (Rl := rD (ux X cn)) p s fun ρ1 v H1 d g1 e1 r1 q1 s1 p1 => ?_⟩
  exact p1 ρ1 _ H1 Ev.refl (s1.set q1)
/-! o[i] = v of lists and dicts -/
def fSet (x k v : D) : G → Option G := fun g => match x with
  | .ref n => match g[n]? with
    | some (.lst l) => match k with
      | .int i => (ixN l.length i).map fun j => g.set n (.lst (l.set j v))
      | _ => none
    | some (.dct false kvs) => if kOk kvs k ∧ kvs.length ≤ 100000 then some (g.set n (.dct false (dput kvs k v))) else none
    | _ => none
  | _ => none
def gSubM (o i : ME) : MG := fun v τ g => (o τ g).st τ fun x g1 => (i τ g1).st τ fun k g2 => match fSet x k v g2 with
  | some g3 => .nx τ g3
  | none => .bad
def rSetA (U₀ : U) : TSet := fun o i v H Q => ∃ ρ g x k d, Rep U₀ ρ H g ∧ RelD U₀.K ρ H x o ∧ RelD U₀.K ρ H k i ∧ RelD U₀.K ρ H d v ∧ ∃ g', fSet x k d g = some g' ∧ ∀ H', Ev ρ H ρ H' → Rep U₀ ρ H' g' → Q H'
theorem set_all (hu : X.A.units + 1 < cLine) : PSet X (rSetA (ux X cn)) := by
  intro pins s σ H o i v ov iv u Q I ro ri rv ⟨ρ, g, x, k, d, R, qx, qk, qd, g', e, q⟩
  unfold fSet at e
  split at e
  · rename_i n
    split at e
    · rename_i l hn
      split at e
      · rename_i j
        obtain ⟨m, hm, rfl⟩ := Option.map_eq_some_iff.mp e
        cases qx with
        | ref ha =>
          cases qk
          obtain ⟨xs, h1, h2⟩ := R.lst hn ha
          refine set_list pins s σ H _ _ v ov iv u Q I ro ri rv ⟨_, xs, j, m, rfl, rfl, h1, by rw [← h2.length]; exact hm, ?_⟩
          obtain ⟨ev, rp⟩ := Ev.wr (ob := .lst (l.set m d)) (o := .lst (xs.set m v)) R ha (List.getElem?_eq_some_iff.mp hn).1 fun e h => ⟨_, h, (e.rels R h2).set (e.rel R qd) m⟩
          exact q _ ev rp
      · cases e
    · rename_i kvs hn
      split at e
      · rename_i c
        cases e
        cases qx with
        | ref ha =>
          rename_i a
          cases (show ov = Value.ref a from ro)
          have w := view I R hn ha qk c.1
          have mu : Mut (H a) := by
            obtain ⟨w', h1, h2⟩ := R.obs n _ a hn ha
            rw [h1]
            rcases h2 with ⟨ks, rfl, _⟩ | ⟨ks, rfl, _⟩ <;> exact True.intro
          refine v_setItem hu I mu w ri (small_line c.2) qd rv fun o s' hd I' => ⟨_, I', ?_⟩
          obtain ⟨ev, rp⟩ := Ev.wr (ob := .dct false (dput kvs k d)) (o := o) R ha (List.getElem?_eq_some_iff.mp hn).1 fun e h => ⟨o, h, hd fun z => e.rel R z⟩
          exact q _ ev rp
      · cases e
    · cases e
  · cases e
theorem rg_sub (hu : X.A.units + 1 < cLine) (ho : RE X cn W o mo) (hi : RE X cn W i mi) (ha : ∀ v, assign (.Subscript o i pos) X.env v = (do
      let ov ← holding [v] (eval o X.env)
      let iv ← holding [v, ov] (eval i X.env)
      standAt pos
      holding [v, ov, iv] (setItem ov iv v)
      release [v, ov, iv] []) := by intro _; rfl) : RG X cn W (.Subscript o i pos) (gSubM mo mi) := by
  refine ⟨fun pins s σ H v u Q I r ⟨ρ, τ, g, d, st, q, p⟩ => ?_⟩
  refine (pg_sub ho hi (set_all (cn := cn) hu) ha).run pins s σ H v u Q I r ⟨ρ, τ, g, st, PostS.thn (Rl := rD (ux X cn)) p st fun ρ1 ov H1 x g1 e1 r1 q1 s1 p1 => ?_⟩
  refine ⟨ρ1, τ, g1, s1, PostS.thn (Rl := rD (ux X cn)) p1 s1 fun ρ2 iv H2 k g2 e2 r2 q2 s2 p2 => ?_⟩
  cases h : fSet x k d g2 with
  | none => rw [h] at p2; exact p2.elim
  | some g3 =>
    rw [h] at p2
    exact ⟨ρ2, g2, x, k, d, r2, e2.rel r1 q1, q2, e2.rel r1 (e1.rel st.rep q), g3, h, fun H' ev rp => p2 ρ2 σ H' ev (s2.later ev rp)⟩
/-! o.f = v -/
def setF (f : Str) (d : D) : List (Str × D) → List (Str × D)
  | [] => [(f, d)]
  | (g, e) :: r => if g = f then (f, d) :: r else (g, e) :: setF f d r
theorem RelFs.put {K : PySem.W.Frag} {ρ : List Addr} {H : Hp} {d : D} {v : V} {f : Str} (k : fieldOk f = true) (q : RelD K ρ H d v) : ∀ {fs : List (Str × D)} {vs : List (Str × V)}, RelFs K ρ H fs vs → RelFs K ρ H (setF f d fs) (putF f v vs)
  | _, _, .nil => .cons k q .nil
  | _, _, .cons (f := g) k' h t => by
    unfold setF putF
    by_cases e : g = f
    · subst e
      simp only [if_true]
      exact .cons k q t
    · simp only [if_neg e]
      exact .cons k' h (RelFs.put k q t)
def fPut (cs : List Str) (f : Str) (x v : D) : G → Option G := fun g => match x with
  | .ref n => match g[n]? with
    | some (.ins c' fs) => if c' ∈ cs ∧ fs.length ≤ 300 then some (g.set n (.ins c' (setF f v fs))) else none
    | _ => none
  | _ => none
def mFldS (cs : List Str) (f : Str) (o v : ME) : MS := fun τ g => (v τ g).st τ fun d g1 => (o τ g1).st τ fun x g2 => match fPut cs f x d g2 with
  | some g3 => .nx τ g3
  | none => .bad
theorem rs_fld {cs : List Str} {f : Str} {pos' : Pos} {mv : ME} (hc : FldOk X.K cn cs f) (ho : RE X cn W o mo) (hv : RE X cn W e mv) (hs : swapsWith e (some (.Attribute o f pos')) pos.line X.env = pure false := by rfl) :
    RS X cn W (.Assign [.Attribute o f pos'] e pos) (mFldS cs f mo mv) := by
  refine psI (ps_fld ho hv hs) fun E σ H ⟨ρ, τ, g, s, p⟩ => ⟨ρ, τ, g, s, PostS.thn (Rl := rD (ux X cn)) p s fun ρ1 v H1 d g1 e1 r1 q1 s1 p1 => ?_⟩
  refine ⟨ρ1, τ, g1, s1, PostS.thn (Rl := rD (ux X cn)) p1 s1 fun ρ2 w H2 x g2 e2 r2 q2 s2 p2 => ?_⟩
  cases h : fPut cs f x d g2 with
  | none => rw [h] at p2; exact p2.elim
  | some g3 =>
    rw [h] at p2
    unfold fPut at h
    split at h
    · rename_i n
      split at h
      · rename_i c' fs hg
        split at h
        · rename_i cc
          obtain ⟨hm, hl⟩ := cc
          obtain ⟨k1, k2⟩ := hc.2 _ hm
          cases h
          cases q2 with
          | ref ha =>
            obtain ⟨dx, fs', h1, h3⟩ := r2.obs n _ _ hg ha
            refine ⟨_, _, dx, fs', rfl, h1, k1, k2, by rw [← h3.length]; omega, ?_⟩
            obtain ⟨ev, rp⟩ := Ev.wr (ob := .ins c' (setF f d fs)) (o := .ins (cn c') dx (putF f v fs')) r2 ha (List.getElem?_eq_some_iff.mp hg).1 fun e h => ⟨dx, _, h, (h3.put hc.1 (e2.rel r1 q1)).mono fun z => e.rel r2 z⟩
            exact p2 ρ2 σ _ ev (s2.later ev rp)
        · cases h
      · cases h
    · cases h
end
end RL
namespace RL
open PySem L2
/-! ### what a loop goes over: its items, and what must stand still meanwhile -/
abbrev Src := List D × Option (Nat × Ob)
def still (c : Option (Nat × Ob)) (g : G) : Prop := match c with
  | none => True
  | some p => g[p.1]? = some p.2
instance (c : Option (Nat × Ob)) (g : G) : Decidable (still c g) := by
  unfold still
  cases c <;> infer_instance
structure Drw (U₀ : U) (ρ₀ : List Addr) (H₀ : Hp) (s : Src) (J : It) : Prop where
  go : ∀ (ρ : List Addr) (H : Hp) (g : G) (i : Nat) (d : D), Ev ρ₀ H₀ ρ H → Rep U₀ ρ H g → still s.2 g → s.1[i]? = some d → J.go i H ∧ ∀ x H', J.yld i H x H' → Ev ρ H ρ H' ∧ Rep U₀ ρ H' g ∧ RelD U₀.K ρ H' d x ∧ ∀ a o, H a = some o → H' a = some o
  stop : ∀ (ρ : List Addr) (H : Hp) (g : G), Ev ρ₀ H₀ ρ H → Rep U₀ ρ H g → still s.2 g → J.stop s.1.length H
def rI (U₀ : U) : RelT Src It := Drw U₀
abbrev MI := T → M Src
def tI (U₀ : U) (W : WX) (m : MI) : TI := fun σ H R => ∃ ρ τ g, Stt U₀ ρ τ g σ H ∧ Post U₀ (rI U₀) W σ ρ H (m τ g) R
def RI (X : Cx) (cn : Str → Addr) (W : WX) (tg iter : Expr) (m : MI) : Prop := PI X tg iter (tI (ux X cn) W m)
theorem piI {X : Cx} {tg e : Expr} {t t' : TI} (h : PI X tg e t) (i : ∀ σ H R, t' σ H R → t σ H R) : PI X tg e t' := ⟨fun pins s σ H R I q => h.run pins s σ H R I (i σ H R q)⟩
/-! the loop -/
def forGo (c : Option (Nat × Ob)) (mg : MG) (mb : MS) : List D → MS
  | [], τ, g => if still c g then .nx τ g else .bad
  | d :: l, τ, g => if still c g then (match mg d τ g with
    | .nx τ1 g1 => (match mb τ1 g1 with
      | .nx τ2 g2 => forGo c mg mb l τ2 g2
      | .ct τ2 g2 => forGo c mg mb l τ2 g2
      | .bk τ2 g2 => .nx τ2 g2
      | r => r)
    | .ex e τ1 g1 => .ex e τ1 g1
    | _ => .bad) else .bad
def mFor (mi : MI) (mg : MG) (mb : MS) : MS := fun τ g => (mi τ g).st τ fun s g1 => forGo s.2 mg mb s.1 τ g1
section
variable {X : Cx} {cn : Str → Addr} {W : WX} {pos : Pos} {tg iter : Expr} {body : List Stmt} {mi : MI} {mg : MG} {mb : MS}
theorem rs_for (hp : PassesOwn (model X.prog X.w) X.A X.env X.xe) (hc : X.calm = true) (hi : RI X cn W tg iter mi) (hg : RG X cn W tg mg) (hb : RSs X cn W body mb) (hs : ∀ x, foldedSetIterable iter X.env x = pure x := by intro _; rfl) :
    RS X cn W (.For tg iter body [] pos) (mFor mi mg mb) := by
  refine psI (ps_for hp hc hi hg hb hs) fun E σ H ⟨ρ, τ, g, s, p⟩ => ⟨ρ, τ, g, s, PostS.thn (Rl := rI (ux X cn)) p s fun ρ1 J H1 src g1 e1 r1 dr s1 p1 => ?_⟩
  obtain ⟨l, c⟩ := src
  dsimp only at p1
  refine ⟨fun i m σ' H' => ∃ ρ' τ' g', m = l.length - i ∧ i ≤ l.length ∧ Ev ρ1 H1 ρ' H' ∧ Stt (ux X cn) ρ' τ' g' σ' H' ∧ PostS (ux X cn) W ρ' H' (forGo c mg mb (l.drop i) τ' g') E, ⟨l.length, ρ1, τ, g1, rfl, Nat.zero_le _, Ev.refl, s1, p1⟩, ?_⟩
  rintro i m σ' H' ⟨ρ', τ', g', rfl, hi, ev, st, ps⟩
  by_cases hlt : i < l.length
  · have hd : l.drop i = l[i] :: l.drop (i + 1) := List.drop_eq_getElem_cons hlt
    rw [hd] at ps
    unfold forGo at ps
    by_cases hst : still c g'
    · rw [if_pos hst] at ps
      obtain ⟨hgo, hy⟩ := dr.go ρ' H' g' i l[i] ev st.rep hst (List.getElem?_eq_getElem hlt)
      refine .inr ⟨hgo, fun σ2 H2 => ∃ ρ2 τ2 g2, Ev ρ1 H1 ρ2 H2 ∧ Stt (ux X cn) ρ2 τ2 g2 σ2 H2 ∧ PostS (ux X cn) W ρ2 H2 (forGo c mg mb (l.drop (i + 1)) τ2 g2) E, ?_, fun x H2 yl => ?_⟩
      · rintro σ2 H2 ⟨ρ2, τ2, g2, h1, h2, h3⟩
        exact ⟨l.length - (i + 1), by omega, ρ2, τ2, g2, rfl, hlt, h1, h2, h3⟩
      · obtain ⟨ev2, rp2, rd, _⟩ := hy x H2 yl
        have st2 := st.later ev2 rp2
        refine ⟨ρ', τ', g', l[i], st2, rd, ?_⟩
        cases hg' : mg l[i] τ' g' with
        | nx τ1 g2 =>
          rw [hg'] at ps
          dsimp only at ps
          intro ρ3 σ3 H3 ev3 st3
          refine ⟨ρ3, τ1, g2, st3, ?_⟩
          have ps3 := PostS.later (PostS.later ps ev2) ev3
          have evt := (ev.trans ev2).trans ev3
          cases hb' : mb τ1 g2 with
          | nx τ2 g3 =>
            rw [hb'] at ps3
            exact fun ρ4 σ4 H4 ev4 st4 => ⟨ρ4, τ2, g3, evt.trans ev4, st4, PostS.later ps3 ev4⟩
          | ct τ2 g3 =>
            rw [hb'] at ps3
            exact fun ρ4 σ4 H4 ev4 st4 => ⟨ρ4, τ2, g3, evt.trans ev4, st4, PostS.later ps3 ev4⟩
          | bk τ2 g3 => rw [hb'] at ps3; exact ps3
          | rt d g3 => rw [hb'] at ps3; exact ps3
          | ex x τ2 g3 => rw [hb'] at ps3; exact ps3
          | bad => rw [hb'] at ps3; exact ps3
        | ex x τ1 g2 =>
          rw [hg'] at ps
          exact PostS.later ps ev2
        | _ => rw [hg'] at ps; exact ps.elim
    · rw [if_neg hst] at ps
      exact ps.elim
  · have e : i = l.length := by omega
    subst e
    rw [List.drop_length] at ps
    unfold forGo at ps
    by_cases hst : still c g'
    · rw [if_pos hst] at ps
      exact .inl ⟨dr.stop ρ' H' g' ev st.rep hst, ps ρ' σ' H' Ev.refl st⟩
    · rw [if_neg hst] at ps
      exact ps.elim
/-! while -/
def whileGo (c : MT) (b : MS) : Nat → MS
  | 0, _, _ => .bad
  | n + 1, τ, g => (c τ g).st τ fun k g1 => if k = true then (match b τ g1 with
    | .nx τ2 g2 => whileGo c b n τ2 g2
    | .ct τ2 g2 => whileGo c b n τ2 g2
    | .bk τ2 g2 => .nx τ2 g2
    | r => r) else .nx τ g1
theorem rs_while {c : Expr} {mc : MT} (n : Nat) (hp : PassesOwn (model X.prog X.w) X.A X.env X.xe) (hc : RT X cn W c mc) (hb : RSs X cn W body mb) : RS X cn W (.While c body [] pos) (whileGo mc mb n) := by
  refine psI (ps_while hp hc hb) fun E σ H ⟨ρ, τ, g, s, p⟩ => ?_
  refine ⟨fun m σ' H' => ∃ ρ' τ' g', Stt (ux X cn) ρ' τ' g' σ' H' ∧ PostS (ux X cn) W ρ' H' (whileGo mc mb m τ' g') E, ⟨n, ρ, τ, g, s, p⟩, ?_⟩
  rintro m σ' H' ⟨ρ', τ', g', st, ps⟩
  cases m with
  | zero => exact ps.elim
  | succ m =>
    unfold whileGo at ps
    refine ⟨ρ', τ', g', st, PostS.thn (Rl := rB) ps st fun ρ1 v H1 k g1 e1 r1 q1 s1 p1 => ?_⟩
    cases (show k = v from q1)
    cases v with
    | false => exact p1 ρ1 σ' H1 Ev.refl s1
    | true =>
      refine ⟨fun σ2 H2 => ∃ ρ2 τ2 g2, Stt (ux X cn) ρ2 τ2 g2 σ2 H2 ∧ PostS (ux X cn) W ρ2 H2 (whileGo mc mb m τ2 g2) E, fun σ2 H2 h => ⟨m, Nat.lt_succ_self m, h⟩, ρ1, τ', g1, s1, ?_⟩
      cases hb' : mb τ' g1 with
      | nx τ2 g3 =>
        rw [hb'] at p1
        exact fun ρ4 σ4 H4 ev4 st4 => ⟨ρ4, τ2, g3, st4, PostS.later p1 ev4⟩
      | ct τ2 g3 =>
        rw [hb'] at p1
        exact fun ρ4 σ4 H4 ev4 st4 => ⟨ρ4, τ2, g3, st4, PostS.later p1 ev4⟩
      | bk τ2 g3 => rw [hb'] at p1; exact p1
      | rt d g3 => rw [hb'] at p1; exact p1
      | ex x τ2 g3 => rw [hb'] at p1; exact p1
      | bad => rw [hb'] at p1; exact p1
/-! the sources -/
/-- a list or a tuple -/
def srcSeq : D → M Src := fun x g => match x with
  | .tup l => .ok (l, none) g
  | .ref n => match g[n]? with
    | some (.lst l) => .ok (l, some (n, .lst l)) g
    | some (.rol l) => .ok (l, some (n, .rol l)) g
    | _ => .bad
  | _ => .bad
theorem Ev.seqT {u : U} {ρ ρ' : List Addr} {H H' : Hp} {g : G} (e : Ev ρ H ρ' H') (r : Rep u ρ H g) {a : Addr} {xs : List V} (h : SqT u.K H a xs) : SqT u.K H' a xs := e.tup r h
theorem drw_tup {u : U} {ρ : List Addr} {H : Hp} {g : G} {l : List D} {a : Addr} {xs : List V} (R : Rep u ρ H g) (h : SqT u.K H a xs) (rs : RelDs u.K ρ H l xs) : Drw u ρ H (l, none) (Itt u.K a) := by
  refine ⟨fun ρ' H' g' i d ev r _ hd => ?_, fun ρ' H' g' ev r _ => ?_⟩
  · obtain ⟨v, h1, h2⟩ := (ev.rels R rs).get hd
    refine ⟨⟨xs, v, ev.tup R h, h1⟩, fun x H2 ⟨e, q⟩ => ?_⟩
    subst e
    have := q xs (ev.tup R h)
    rw [h1] at this
    cases this
    exact ⟨Ev.refl, r, h2, fun _ _ z => z⟩
  · exact ⟨xs, ev.tup R h, by rw [← rs.length]; exact Nat.le_refl _⟩
theorem drw_lst {u : U} {ρ : List Addr} {H : Hp} {g : G} {l : List D} {n : Nat} {a : Addr} {ob : Ob} (ho : ob = .lst l ∨ ob = .rol l) (R : Rep u ρ H g) (ha : ρ[n]? = some a) : Drw u ρ H (l, some (n, ob)) (Itl u.K a) := by
  have at_ : ∀ (ρ' : List Addr) (H' : Hp) (g' : G), Ev ρ H ρ' H' → Rep u ρ' H' g' → still (some (n, ob)) g' → ∃ xs, SqL u.K H' a xs ∧ RelDs u.K ρ' H' l xs := fun ρ' H' g' ev r st => by
    have st' : g'[n]? = some ob := st
    rcases ho with rfl | rfl
    · obtain ⟨xs, h1, h2⟩ := r.lst st' (ev.ix n a ha)
      exact ⟨xs, .of h1, h2⟩
    · obtain ⟨xs, o, h1, h2⟩ := r.rol st' (ev.ix n a ha)
      exact ⟨xs, .inl (.inr ⟨o, h1⟩), h2⟩
  refine ⟨fun ρ' H' g' i d ev r st hd => ?_, fun ρ' H' g' ev r st => ?_⟩
  · obtain ⟨xs, h0, rs⟩ := at_ ρ' H' g' ev r st
    obtain ⟨v, h1, h2⟩ := rs.get hd
    refine ⟨⟨xs, v, h0, h1⟩, fun x H2 ⟨e, q⟩ => ?_⟩
    subst e
    have := q xs h0
    rw [h1] at this
    cases this
    exact ⟨Ev.refl, r, h2, fun _ _ z => z⟩
  · obtain ⟨xs, h0, rs⟩ := at_ ρ' H' g' ev r st
    exact ⟨xs, h0, by rw [← rs.length]; exact Nat.le_refl _⟩
/-- both in one -/
def iSeq (K : PySem.W.Frag) (tl : TE) : TI := fun σ H R => tl σ H fun x H1 => ∃ a, x = .ref a ∧ (((∃ xs, SqL K H1 a xs) ∧ R (Itl K a) H1) ∨ ((∃ xs, SqT K H1 a xs) ∧ R (Itt K a) H1))
theorem pi_seq {l : Expr} {tl : TE} (hl : PE X l tl) : PI X tg l (iSeq X.K tl) := by
  refine ⟨fun pins s σ H R I h => ?_⟩
  refine thn (hl.run pins s σ H _ I h) fun v s1 ⟨x, H1, I1, r1, q1⟩ => ?_
  obtain ⟨a, e, q⟩ := q1
  subst e
  cases r1
  rcases q with ⟨⟨xs, hq⟩, q⟩ | ⟨⟨xs, hq⟩, q⟩
  · obtain ⟨its, rv, p, hz⟩ := I1.list hq
    exact wpAny_pyIter_list p.isList (pi_one (tk := s1.toks) I1 _ (turn_list a _) ⟨_, Heap.get?_push_size _ rfl, rfl, rfl⟩ q)
  · obtain ⟨its, rv, p, hz⟩ := I1.tuple hq
    exact wpAny_pyIter_tuple (show s1.heap.IsTuple a its.toArray from p) (pi_one (tk := s1.toks) I1 _ (turn_tuple a _) ⟨_, Heap.get?_push_size _ rfl, rfl, rfl⟩ q)
def mSeqI (m : ME) : MI := fun τ g => (m τ g).bind srcSeq
theorem ri_seq {m : ME} (h : RE X cn W iter m) : RI X cn W tg iter (mSeqI m) := by
  refine piI (pi_seq h) fun σ H R ⟨ρ, τ, g, s, p⟩ => ⟨ρ, τ, g, s, p.thn fun ρ1 v H1 d g1 e1 r1 q1 p1 => ?_⟩
  unfold srcSeq at p1
  cases q1 <;> first | exact p1.elim | skip
  · rename_i l a xs h1 h2
    exact ⟨a, rfl, .inr ⟨⟨xs, h1⟩, Post.at (Rl := rI (ux X cn)) p1 r1 (drw_tup r1 h1 h2)⟩⟩
  · rename_i n a ha
    dsimp only at p1
    split at p1
    · rename_i l hg
      obtain ⟨xs, h1, h2⟩ := r1.lst hg ha
      exact ⟨a, rfl, .inl ⟨⟨xs, .of h1⟩, Post.at (Rl := rI (ux X cn)) p1 r1 (drw_lst (.inl rfl) r1 ha)⟩⟩
    · rename_i l hg
      obtain ⟨xs, o, h1, h2⟩ := r1.rol hg ha
      exact ⟨a, rfl, .inl ⟨⟨xs, .inl (.inr ⟨o, h1⟩)⟩, Post.at (Rl := rI (ux X cn)) p1 r1 (drw_lst (.inr rfl) r1 ha)⟩⟩
    · exact p1.elim
/-- range -/
def rng (lo : Int) (n : Nat) : List D := (List.range n).map fun i => .int (lo + (i : Nat))
theorem rng_get {lo : Int} {n i : Nat} {d : D} (h : (rng lo n)[i]? = some d) : i < n ∧ d = .int (lo + (i : Nat)) := by
  unfold rng at h
  rw [List.getElem?_map] at h
  obtain ⟨j, h1, rfl⟩ := Option.map_eq_some_iff.mp h
  have hi := (List.getElem?_eq_some_iff.mp h1)
  obtain ⟨h2, h3⟩ := hi
  rw [List.getElem_range] at h3
  subst h3
  exact ⟨by simpa using h2, rfl⟩
theorem drw_rng {u : U} {ρ : List Addr} {H : Hp} (lo : Int) (n : Nat) : Drw u ρ H (rng lo n, none) (Itr lo n) := by
  refine ⟨fun ρ' H' g' i d ev r _ hd => ?_, fun ρ' H' g' ev r _ => ?_⟩
  · obtain ⟨h1, rfl⟩ := rng_get hd
    refine ⟨h1, fun x H2 ⟨e, q⟩ => ?_⟩
    subst e q
    exact ⟨Ev.refl, r, .int _, fun _ _ z => z⟩
  · show n ≤ (rng lo n).length
    unfold rng
    rw [List.length_map, List.length_range]
    exact Nat.le_refl _
def srcR1 : List D → M Src := fun l g => match l with
  | [.int j] => ck (-(2 ^ 62) ≤ j ∧ j < 2 ^ 62) (.ok (rng 0 j.toNat, none) g)
  | _ => .bad
def srcR2 : List D → M Src := fun l g => match l with
  | [.int i, .int j] => ck (-(2 ^ 62) ≤ i ∧ i < 2 ^ 62 ∧ -(2 ^ 62) ≤ j ∧ j < 2 ^ 62) (.ok (rng i (j - i).toNat, none) g)
  | _ => .bad
theorem ri_range1 {a : Expr} {ma : ME} {p : Pos} (hg : Gl X "range") (hm : X.mg "range" = none) (ha : RE X cn W a ma) (hs : starEach [a] X.env = [(false, eval a X.env)] := by rfl) : RI X cn W tg (.Call (.Name "range" p) [a] [] pos) (fun τ g => (mCons ma mNil τ g).bind srcR1) := by
  refine piI (pi_range1 hg hm (ra_cons ha ra_nil hs) hs) fun σ H R ⟨ρ, τ, g, s, p⟩ => ⟨ρ, τ, g, s, p.thn fun ρ1 v H1 d g1 e1 r1 q1 p1 => ?_⟩
  unfold srcR1 at p1
  split at p1
  · obtain ⟨c, p1⟩ := Post.ck p1
    cases q1 with
    | cons a b =>
      cases b
      cases a
      exact ⟨_, rfl, c.1, c.2, Post.at (Rl := rI (ux X cn)) p1 r1 (drw_rng 0 _)⟩
  · exact p1.elim
theorem ri_range2 {a b : Expr} {ma mb : ME} {p : Pos} (hg : Gl X "range") (hm : X.mg "range" = none) (ha : RE X cn W a ma) (hb : RE X cn W b mb) (hs : starEach [a, b] X.env = [(false, eval a X.env), (false, eval b X.env)] := by rfl) (hs2 : starEach [b] X.env = [(false, eval b X.env)] := by rfl) :
    RI X cn W tg (.Call (.Name "range" p) [a, b] [] pos) (fun τ g => (mCons ma (mCons mb mNil) τ g).bind srcR2) := by
  refine piI (pi_range2 hg hm (ra_cons ha (ra_cons hb ra_nil hs2) (by rw [hs, hs2])) hs hs2) fun σ H R ⟨ρ, τ, g, s, p⟩ => ⟨ρ, τ, g, s, p.thn fun ρ1 v H1 d g1 e1 r1 q1 p1 => ?_⟩
  unfold srcR2 at p1
  split at p1
  · obtain ⟨c, p1⟩ := Post.ck p1
    cases q1 with
    | cons a b =>
      cases b with
      | cons b b' =>
        cases b'
        cases a
        cases b
        exact ⟨_, _, rfl, c, Post.at (Rl := rI (ux X cn)) p1 r1 (drw_rng _ _)⟩
  · exact p1.elim
end
end RL
namespace RL
open PySem L2
/-! ### list comprehensions -/
/-- the target of a comprehension: a name, or names -/
inductive Tg where
  | one (i : Nat) | many (is : List Nat)
def tgsV : List Nat → TGs
  | [] => gNil
  | i :: is => gCons (gName i) (tgsV is)
def tgV (K : PySem.W.Frag) : Tg → TG
  | .one i => gName i
  | .many is => gTup K is.length (tgsV is)
def setAll {α : Type} : List Nat → List α → List (Option α) → List (Option α)
  | i :: is, d :: ds, τ => setAll is ds (τ.set i (some d))
  | _, _, τ => τ
def tgM : Tg → D → T → Option T
  | .one i, d, τ => some (τ.set i (some d))
  | .many is, .tup l, τ => if l.length = is.length then some (setAll is l τ) else none
  | .many _, _, _ => none
def Tg.slots : Tg → List Nat
  | .one i => [i]
  | .many is => is
def wipeT (τ : T) : List Nat → T
  | [] => τ
  | v :: vs => (wipeT τ vs).set v none
theorem wipe_set (σ : St) (i : Nat) (x : Option V) : ∀ vs : List Nat, i ∈ vs → wipe (σ.set i x) vs = wipe σ vs := by
  have aux : ∀ vs : List Nat, wipe (σ.set i x) vs = wipe σ vs ∨ wipe (σ.set i x) vs = (wipe σ vs).set i x := by
    intro vs
    induction vs with
    | nil => exact .inr rfl
    | cons v vs ih =>
      unfold wipe
      rcases ih with ih | ih
      · exact .inl (by rw [ih])
      · rw [ih]
        by_cases e : i = v
        · subst e
          exact .inl (by rw [List.set_set])
        · exact .inr (by rw [List.set_comm _ _ e])
  intro vs
  induction vs with
  | nil => intro h; simp at h
  | cons v vs ih =>
    intro h
    unfold wipe
    rcases List.mem_cons.mp h with rfl | h
    · rcases aux vs with z | z
      · rw [z]
      · rw [z, List.set_set]
    · rw [ih h]
theorem wipe_all (is : List Nat) : ∀ (ds : List V) (σ : St) (vs : List Nat), (∀ i ∈ is, i ∈ vs) → wipe (setAll is ds σ) vs = wipe σ vs := by
  induction is with
  | nil => intro ds σ vs _; rfl
  | cons i is ih =>
    intro ds σ vs h
    cases ds with
    | nil => rfl
    | cons d ds =>
      unfold setAll
      rw [ih ds _ vs fun j hj => h j (List.mem_cons_of_mem _ hj), wipe_set _ _ _ _ (h i List.mem_cons_self)]
theorem tgsV_all : ∀ (is : List Nat) (vs : List V) (σ : St) (H : Hp) (Q : St → Hp → Prop), vs.length = is.length → Q (setAll is vs σ) H → tgsV is vs σ H Q
  | [], [], σ, H, Q, _, q => ⟨rfl, q⟩
  | [], v :: vs, σ, H, Q, h, q => by simp at h
  | i :: is, [], σ, H, Q, h, q => by simp at h
  | i :: is, v :: vs, σ, H, Q, h, q => ⟨v, vs, rfl, tgsV_all is vs _ H Q (by simpa using h) q⟩
section
variable {U₀ : U} {ρ : List Addr} {τ : T} {g : G} {σ : St} {H : Hp}
theorem Stt.wipe (s : Stt U₀ ρ τ g σ H) : ∀ vs : List Nat, Stt U₀ ρ (wipeT τ vs) g (L2.wipe σ vs) H
  | [] => s
  | v :: vs => (s.wipe vs).none
theorem Stt.all {is : List Nat} : ∀ {ds : List D} {vs : List V} {τ : T} {σ : St}, Stt U₀ ρ τ g σ H → RelDs U₀.K ρ H ds vs → Stt U₀ ρ (setAll is ds τ) g (setAll is vs σ) H := by
  induction is with
  | nil => intro ds vs τ σ s _; exact s
  | cons i is ih =>
    intro ds vs τ σ s q
    cases q with
    | nil => exact s
    | cons h t => exact ih (s.set h) t
/-- the target takes its value -/
theorem tg_go {t : Tg} {own : List Nat} (ho : ∀ i ∈ t.slots, i ∈ own) {d : D} {v : V} {τ' : T} (s : Stt U₀ ρ τ g σ H) (q : RelD U₀.K ρ H d v) (h : tgM t d τ = some τ') {Q : St → Hp → Prop} (hq : ∀ σ', Stt U₀ ρ τ' g σ' H → L2.wipe σ' own = L2.wipe σ own → Q σ' H) : tgV U₀.K t v σ H Q := by
  cases t with
  | one i =>
    cases h
    exact hq _ (s.set q) (wipe_set _ _ _ _ (ho i (by simp [Tg.slots])))
  | many is =>
    unfold tgM at h
    split at h
    · rename_i e; cases e
    · rename_i is' l τ' e
      cases e
      split at h
      · rename_i hl
        cases h
        cases q with
        | @tup _ a xs h1 h2 =>
          have hx : xs.length = is.length := by rw [← h2.length]; exact hl
          exact ⟨a, xs, rfl, h1, hx, tgsV_all is xs σ H Q hx (hq _ (s.all h2) (wipe_all is xs σ own ho))⟩
      · cases h
    · cases h
/-- beside a thing that is not counted, which changes -/
theorem Ev.side {ρ ρ' : List Addr} {H H' : Hp} (e : Ev ρ H ρ' H') {a : Addr} (h : H a = none) (o : HO) : Ev ρ H ρ' (upd H' a o) := by
  refine ⟨e.pre, fun b z => ?_, fun b u z n => ?_⟩
  · by_cases q : b = a
    · subst q; exact h
    · rw [upd_ne q] at z
      exact e.liv b z
  · rw [upd_ne (ne_of_none z h)]
    exact e.frm b u z n
theorem side_rel {K : PySem.W.Frag} {a : Addr} {xs : List V} {o : HO} (h : H a = some (.lst xs)) {d : D} {v : V} (r : RelD K ρ H d v) : RelD K ρ (upd H a o) d v :=
  r.mono (fun _ _ z => z) (fun b ys z => by
    rcases z with (z | ⟨ob, z⟩) | z
    · exact .inl (.inl (by rw [upd_ne (ne_of z h (by intro q; cases q))]; exact z))
    · exact .inl (.inr ⟨ob, by rw [upd_ne (ne_of z h (by intro q; cases q))]; exact z⟩)
    · exact .inr z) fun b ys z => by
    rcases z with ⟨ob, z⟩ | z
    · exact .inl ⟨ob, by rw [upd_ne (ne_of z h (by intro q; cases q))]; exact z⟩
    · exact .inr z
theorem Rep.side (r : Rep U₀ ρ H g) {a : Addr} {xs : List V} (o : HO) (h : H a = some (.lst xs)) (n : a ∉ ρ) : Rep U₀ ρ (upd H a o) g :=
  ⟨r.len, r.nod, fun i ob b e1 e2 => (r.obs i ob b e1 e2).mono (fun z => side_rel h z) (by
    have m : b ∈ ρ := List.mem_of_getElem? e2
    exact upd_ne (fun (z : b = a) => n (by rw [← z]; exact m)))⟩
theorem RelDs.side {K : PySem.W.Frag} {a : Addr} {xs : List V} {o : HO} (h : H a = some (.lst xs)) {d : List D} {v : List V} (r : RelDs K ρ H d v) : RelDs K ρ (upd H a o) d v := r.monoB fun z => side_rel h z
end
def lcGo (c : Option (Nat × Ob)) (t : Tg) (mt : MT) (me : ME) (τ₀ : T) : List D → List D → M (List D)
  | [], acc, g => if still c g then .ok acc g else .bad
  | d :: l, acc, g => if still c g then (match tgM t d τ₀ with
    | none => .bad
    | some τ1 => (match mt τ1 g with
      | .ok true g1 => (match me τ1 g1 with
        | .ok y g2 => if acc.length ≤ 100000 then lcGo c t mt me τ₀ l (acc ++ [y]) g2 else .bad
        | _ => .bad)
      | .ok false g1 => lcGo c t mt me τ₀ l acc g1
      | _ => .bad)) else .bad
def mLc (own : List Nat) (mi : MI) (t : Tg) (mt : MT) (me : ME) : ME := fun τ g => (mi τ g).bind fun s g1 => (lcGo s.2 t mt me (wipeT τ own) s.1 [] g1).bind fun l g2 => .ok (.ref g2.length) (g2 ++ [.lst l])
abbrev WN : WX := fun _ _ _ _ => False
def mYes : MT := fun _ g => .ok true g
section
variable {X : Cx} {cn : Str → Addr} {W : WX} {pos : Pos}
def RTs (X : Cx) (cn : Str → Addr) (W : WX) (ifs : List Expr) (m : MT) : Prop := PTs X ifs (tT (ux X cn) W m)
theorem rts_nil : RTs X cn W [] mYes := ⟨fun pins s σ H Q I ⟨ρ, τ, g, st, p⟩ => pts_nil.run pins s σ H Q I (p.at st.rep rfl)⟩
theorem rts_one {c : Expr} {m : MT} (h : RT X cn W c m) : RTs X cn W [c] m := pts_one h
theorem lc_imp {own : List Nat} {mi : MI} {t : Tg} {mt : MT} {me : ME} (ho : ∀ i ∈ t.slots, i ∈ own) : ∀ σ H Q, tE (ux X cn) W (mLc own mi t mt me) σ H Q → tLc (tI (ux X cn) W mi) (tgV X.K t) (tT (ux X cn) WN mt) (tE (ux X cn) WN me) own σ H Q := by
  rintro σ H Q ⟨ρ, τ, g, s, p⟩
  refine ⟨ρ, τ, g, s, p.thn fun ρ1 J H1 src g1 e1 r1 dr p1 => fun A hA => ?_⟩
  obtain ⟨l, c⟩ := src
  dsimp only at p1
  have s1 : Stt (ux X cn) ρ1 τ g1 σ H1 := s.later e1 r1
  refine ⟨fun i m H' => ∃ ρ' g' acc xs, m = l.length - i ∧ i ≤ l.length ∧ Ev ρ1 H1 ρ' H' ∧ Rep (ux X cn) ρ' H' g' ∧ A ∉ ρ' ∧ H' A = some (.lst xs) ∧ RelDs X.K ρ' H' acc xs ∧
    Post (ux X cn) (rD (ux X cn)) W σ ρ1 H1 ((lcGo c t mt me (wipeT τ own) (l.drop i) acc g').bind fun l g2 => .ok (.ref g2.length) (g2 ++ [.lst l])) Q, ?_, ?_⟩
  · obtain ⟨e2, r2⟩ := Ev.new (o := .lst []) r1 hA
    refine ⟨l.length, ρ1, g1, [], [], rfl, Nat.zero_le _, e2, r2, fun m => ?_, upd_same, .nil, p1⟩
    obtain ⟨o, ho⟩ := r1.tracked m
    rw [hA] at ho
    cases ho
  · rintro i m H' ⟨ρ', g', acc, xs, rfl, hi, ev, rp, nA, hx, rl, ps⟩
    by_cases hlt : i < l.length
    · have hd : l.drop i = l[i] :: l.drop (i + 1) := List.drop_eq_getElem_cons hlt
      rw [hd] at ps
      unfold lcGo at ps
      by_cases hst : still c g'
      · rw [if_pos hst] at ps
        obtain ⟨hgo, hy⟩ := dr.go ρ' H' g' i l[i] ev rp hst (List.getElem?_eq_getElem hlt)
        refine .inr ⟨hgo, fun H2 => ∃ ρ' g' acc xs, Ev ρ1 H1 ρ' H2 ∧ Rep (ux X cn) ρ' H2 g' ∧ A ∉ ρ' ∧ H2 A = some (.lst xs) ∧ RelDs X.K ρ' H2 acc xs ∧
          Post (ux X cn) (rD (ux X cn)) W σ ρ1 H1 ((lcGo c t mt me (wipeT τ own) (l.drop (i + 1)) acc g').bind fun l g2 => .ok (.ref g2.length) (g2 ++ [.lst l])) Q, ?_, fun x H2 yl => ?_⟩
        · rintro H2 ⟨ρ2, g2, acc2, xs2, h1, h2, h3, h4, h5, h6⟩
          exact ⟨l.length - (i + 1), by omega, ρ2, g2, acc2, xs2, rfl, hlt, h1, h2, h3, h4, h5, h6⟩
        · obtain ⟨ev2, rp2, rd, kp⟩ := hy x H2 yl
          have st2 : Stt (ux X cn) ρ' (wipeT τ own) g' (wipe σ own) H2 := (s1.later (ev.trans ev2) rp2).wipe own
          cases ht : tgM t l[i] (wipeT τ own) with
          | none => rw [ht] at ps; exact ps.elim
          | some τ1 =>
            rw [ht] at ps
            dsimp only at ps
            refine tg_go (U₀ := ux X cn) ho st2 rd ht fun σ2 st3 hw => ⟨?_, ?_⟩
            · rw [hw]
              have ww : ∀ (vs : List Nat), (∀ i ∈ vs, i ∈ own) → wipe (wipe σ own) vs = wipe σ own := by
                intro vs
                have ab : ∀ (ws : List Nat) (j : Nat), j ∈ ws → (wipe σ ws).set j none = wipe σ ws := by
                  intro ws
                  induction ws with
                  | nil => intro j h; simp at h
                  | cons w ws ih =>
                    intro j h
                    unfold wipe
                    rcases List.mem_cons.mp h with rfl | h
                    · rw [List.set_set]
                    · by_cases e : w = j
                      · subst e; rw [List.set_set]
                      · rw [List.set_comm _ _ e, ih j h]
                induction vs with
                | nil => intro _; rfl
                | cons v vs ih =>
                  intro h
                  show (wipe (wipe σ own) vs).set v none = wipe σ own
                  rw [ih fun i hi => h i (List.mem_cons_of_mem _ hi)]
                  exact ab own v (h v List.mem_cons_self)
              exact ww own fun i h => h
            · cases hm : mt τ1 g' with
              | bad => rw [hm] at ps; exact ps.elim
              | exc x g2 => rw [hm] at ps; exact ps.elim
              | ok b g2 =>
                rw [hm] at ps
                refine ⟨ρ', τ1, g', st3, ?_⟩
                rw [hm]
                intro ρ3 b' H3 ev3 rp3 q3
                cases (show b = b' from q3)
                have nA3 : A ∉ ρ3 := fun z => by
                  obtain ⟨⟨new, rfl, hn⟩, _, _⟩ := ev3
                  rcases List.mem_append.mp z with z | z
                  · exact nA z
                  · have := hn A z
                    rw [kp A _ hx] at this
                    cases this
                have hx3 : H3 A = some (.lst xs) := ev3.frm _ _ (kp A _ hx) nA
                have ev13 := (ev.trans ev2).trans ev3
                have rl3 := ev3.rels rp2 (ev2.rels rp rl)
                cases b with
                | false =>
                  rw [if_neg Bool.false_ne_true]
                  exact ⟨ρ3, g2, acc, xs, ev13, rp3, nA3, hx3, rl3, ps⟩
                | true =>
                  rw [if_pos rfl]
                  dsimp only at ps
                  refine ⟨ρ3, τ1, g2, st3.later ev3 rp3, ?_⟩
                  cases he : me τ1 g2 with
                  | bad => rw [he] at ps; exact ps.elim
                  | exc x g3 => rw [he] at ps; exact ps.elim
                  | ok y g3 =>
                    rw [he] at ps
                    dsimp only at ps
                    by_cases hz : acc.length ≤ 100000
                    · rw [if_pos hz] at ps
                      intro ρ4 v H4 ev4 rp4 q4
                      have nA4 : A ∉ ρ4 := fun z => by
                        obtain ⟨⟨new, rfl, hn⟩, _, _⟩ := ev4
                        rcases List.mem_append.mp z with z | z
                        · exact nA3 z
                        · have := hn A z
                          rw [hx3] at this
                          cases this
                      have hx4 : H4 A = some (.lst xs) := ev4.frm _ _ hx3 nA3
                      have rl4 := ev4.rels rp3 rl3
                      refine ⟨xs, hx4, by rw [← rl4.length]; exact small_line hz, ρ4, g3, acc ++ [y], xs ++ [v], (ev13.trans ev4).side hA _, rp4.side _ hx4 nA4, nA4, upd_same, ?_, ps⟩
                      exact (rl4.side hx4).app (.one (side_rel hx4 q4))
                    · rw [if_neg hz] at ps
                      exact ps.elim
      · rw [if_neg hst] at ps
        exact ps.elim
    · have e : i = l.length := by omega
      subst e
      rw [List.drop_length] at ps
      unfold lcGo at ps
      by_cases hst : still c g'
      · rw [if_pos hst] at ps
        refine .inl ⟨dr.stop ρ' H' g' ev rp hst, ?_⟩
        have len : (ρ' ++ [A])[g'.length]? = some A := by
          rw [List.getElem?_append_right (by rw [rp.len]; omega), rp.len, Nat.sub_self]
          rfl
        have ev' : Ev ρ1 H1 (ρ' ++ [A]) H' := by
          obtain ⟨⟨new, rfl, hn⟩, e2, e3⟩ := ev
          exact ⟨⟨new ++ [A], by simp, fun a m => by
            rcases List.mem_append.mp m with m | m
            · exact hn a m
            · rw [List.mem_singleton.mp m]; exact hA⟩, e2, e3⟩
        have ix : ∀ (n : Nat) (a : Addr), ρ'[n]? = some a → (ρ' ++ [A])[n]? = some a := fun n a h => by
          rw [List.getElem?_append_left (List.getElem?_eq_some_iff.mp h).1]
          exact h
        have mo : ∀ {d : D} {v : V}, RelD X.K ρ' H' d v → RelD X.K (ρ' ++ [A]) H' d v := fun z => z.mono ix (fun _ _ z => z) fun _ _ z => z
        refine ps (ρ' ++ [A]) _ H' ev' ⟨by simp [rp.len], ?_, fun j o a e1 e2 => ?_⟩ (.ref len)
        · refine List.nodup_append.mpr ⟨rp.nod, by simp, fun a ha b hb => ?_⟩
          rw [List.mem_singleton.mp hb]
          exact fun z => nA (z ▸ ha)
        · by_cases hj : j < g'.length
          · rw [List.getElem?_append_left hj] at e1
            rw [List.getElem?_append_left (by rw [rp.len]; exact hj)] at e2
            exact (rp.obs j o a e1 e2).mono (u := ux X cn) mo rfl
          · rw [List.getElem?_append_right (by omega)] at e1
            rw [List.getElem?_append_right (by rw [rp.len]; omega)] at e2
            have h0 : j - g'.length = 0 := by
              have := (List.getElem?_eq_some_iff.mp e1).1
              simpa using this
            rw [h0] at e1
            rw [rp.len, h0] at e2
            cases e1
            cases e2
            exact ⟨xs, hx, rl.monoB mo⟩
      · rw [if_neg hst] at ps
        exact ps.elim
theorem re_lc {elt tg iter : Expr} {ifs : List Expr} {scope : Scope} {own : List (Str × Nat)} {mi : MI} {t : Tg} {mt : MT} {me : ME} (hc : X.calm = true) (hN : X.N.Nodup) (hi : RI X cn W tg iter mi) (ok : BlkOk X.N X.env.scope scope own) (ho : ∀ i ∈ t.slots, i ∈ own.map (·.2))
    (hg : ∀ (s : Shared) (H : Hp) (C : Addr) (cl : List (Str × Addr)) (fp : List Addr), PG (X.blk s H scope (compEnvC scope cl C X.env) fp) tg (tgV X.K t)) (ht : ∀ (s : Shared) (H : Hp) (C : Addr) (cl : List (Str × Addr)) (fp : List Addr), RTs (X.blk s H scope (compEnvC scope cl C X.env) fp) cn WN ifs mt)
    (he : ∀ (s : Shared) (H : Hp) (C : Addr) (cl : List (Str × Addr)) (fp : List Addr), RE (X.blk s H scope (compEnvC scope cl C X.env) fp) cn WN elt me) (hs : ∀ x, foldedSetIterable iter X.env x = pure x := by intro _; rfl) :
    RE X cn W (.ListComp elt [⟨tg, iter, ifs, 0⟩] scope pos) (mLc (own.map (·.2)) mi t mt me) := peI (pe_lc (tt := tT (ux X cn) WN mt) (te := tE (ux X cn) WN me) hc hN hi ok hg (fun a b c d e => ht a b c d e) (fun a b c d e => he a b c d e) hs) (lc_imp ho)
theorem rs_setLc {i : Nat} {y : Str} {py spos : Pos} {elt tg iter : Expr} {ifs : List Expr} {scope : Scope} {own : List (Str × Nat)} {mi : MI} {t : Tg} {mt : MT} {me : ME} (hc : X.calm = true) (hN : X.N.Nodup) (hy : X.N[i]? = some y) (hyl : X.env.scope.names.lookup y = some .local)
    (hsw : swapsWith (.ListComp elt [⟨tg, iter, ifs, 0⟩] scope pos) (some (.Name y py)) spos.line X.env = pure true) (hi : RI X cn W tg iter mi) (ok : BlkOk X.N X.env.scope scope own) (ho : ∀ i ∈ t.slots, i ∈ own.map (·.2))
    (hg : ∀ (s : Shared) (H : Hp) (C : Addr) (cl : List (Str × Addr)) (fp : List Addr), PG (X.blk s H scope (compEnvC scope cl C X.env) fp) tg (tgV X.K t)) (ht : ∀ (s : Shared) (H : Hp) (C : Addr) (cl : List (Str × Addr)) (fp : List Addr), RTs (X.blk s H scope (compEnvC scope cl C X.env) fp) cn WN ifs mt)
    (he : ∀ (s : Shared) (H : Hp) (C : Addr) (cl : List (Str × Addr)) (fp : List Addr), RE (X.blk s H scope (compEnvC scope cl C X.env) fp) cn WN elt me) (hs : ∀ x, foldedSetIterable iter X.env x = pure x := by intro _; rfl) :
    RS X cn W (.Assign [.Name y py] (.ListComp elt [⟨tg, iter, ifs, 0⟩] scope pos) spos) (mAsg (mLc (own.map (·.2)) mi t mt me) (gN i)) := by
  refine psI (ps_setLc (tt := tT (ux X cn) WN mt) (te := tE (ux X cn) WN me) hc hN hy hyl hsw hi ok hg (fun a b c d e => ht a b c d e) (fun a b c d e => he a b c d e) hs) fun E σ H ⟨ρ, τ, g, s, p⟩ => lc_imp ho σ H _ ⟨ρ, τ, g, s, PostS.thn (Rl := rD (ux X cn)) p s fun ρ1 v H1 d g1 e1 r1 q1 s1 p1 => ?_⟩
  exact p1 ρ1 _ H1 Ev.refl (s1.set q1)
end
end RL
namespace RL
open PySem L2
open PyProof.Rows (envOfC)
/-! ### defs and calls -/
/-- what a context has, whose exceptions follow W -/
structure Fit (X : Cx) (W : WX) : Prop where
  tk : Takes X W
  pw : PassesOwn (model X.prog X.w) X.A X.env X.xe
  calm : X.calm = true
theorem Fit.blk {X : Cx} {W : WX} (F : Fit X W) {s : Shared} {H : Hp} {sc : Scope} {ce : Env} {fp : List Addr} : Fit (X.blk s H sc ce fp) WN := ⟨takes_none5, PassesOwn.never, F.calm⟩
/-- a def follows mf -/
def spM (u : U) (n : Nat) (mf : List D → M D) : Sp := fun vs H Q E => ∃ ρ g ds, ds.length = n ∧ RelDs u.K ρ H ds vs ∧ Rep u ρ H g ∧ Post u (rD u) (fun cls d _ H' => E cls d H') [] ρ H (mf ds g) Q
def runF (N : Nat) (mb : MS) (ds : List D) : M D := fun g => match mb (ds.map some ++ List.replicate (N - ds.length) none) g with
  | .nx _ g' => .ok .non g'
  | .rt d g' => .ok d g'
  | .ex e _ g' => .exc e g'
  | _ => .bad
section
variable {P : Program} {w : World} {K : PySem.W.Frag} {mg : Str → Option Value} {base : Heap} {cn : Str → Addr}
theorem spM_len {u : U} {n : Nat} {mf : List D → M D} : ∀ vs H Q E, spM u n mf vs H Q E → vs.length = n := fun vs H Q E ⟨ρ, g, ds, h, r, _⟩ => by rw [← r.length, h]
theorem start_sl {ρ : List Addr} {H : Hp} {N : List Str} : ∀ {ds : List D} {vs : List V}, RelDs K ρ H ds vs → Sl K ρ H (ds.map some ++ List.replicate (N.length - ds.length) none) (start N vs) := by
  intro ds vs r i d h
  have hi : i < (ds.map some).length := by
    by_cases hi : i < (ds.map some).length
    · exact hi
    · rw [List.getElem?_append_right (by omega), List.getElem?_replicate] at h
      split at h <;> cases h
  rw [List.getElem?_append_left hi, List.getElem?_map] at h
  cases e : ds[i]? with
  | none => rw [e] at h; cases h
  | some d' =>
    rw [e] at h
    cases h
    obtain ⟨v, h1, h2⟩ := r.get e
    refine ⟨v, ?_, h2⟩
    unfold L2.start
    rw [List.getElem?_append_left (by rw [List.length_map, ← r.length]; simpa using hi), List.getElem?_map, h1]
    rfl
theorem start_stt {u : U} {ρ : List Addr} {H : Hp} {N : List Str} {ds : List D} {vs : List V} {g : G} (r : RelDs u.K ρ H ds vs) (R : Rep u ρ H g) : Stt u ρ (ds.map some ++ List.replicate (N.length - ds.length) none) g (start N vs) H :=
  ⟨by unfold L2.start; simp [r.length], start_sl r, R⟩
theorem run_post {u : U} {ρ : List Addr} {H : Hp} {r : SR} {Q : VK} {E : XK} (p : Post u (rD u) (fun cls d _ H' => E cls d H') [] ρ H (match r with
    | .nx _ g' => .ok .non g'
    | .rt d g' => .ok d g'
    | .ex e _ g' => .exc e g'
    | _ => .bad : Res D) Q) : PostS u (fun cls d _ H' => E cls d H') ρ H r { nx := fun _ H' => Q .non H', rt := Q } := by
  cases r with
  | nx τ g => exact fun ρ' σ' H' e s => p ρ' .non H' e s.rep .non
  | rt d g => exact fun ρ' v H' e R q => p ρ' v H' e R q
  | bk τ g => exact p.elim
  | ct τ g => exact p.elim
  | ex x τ g => exact fun ρ' σ' H' cls d e s q => p ρ' H' cls d e s.rep q
  | bad => exact p.elim
abbrev cxE (P : Program) (w : World) (K : PySem.W.Frag) (mg : Str → Option Value) (base : Heap) (N : List Str) (qual : Str) (sc : Scope) (f : Addr) (cdv : Value) (A : Around) (outer : List Env) (s : Shared) (H : Hp) (E : XK) : Cx := cxOf (L2.CX P w) P w K mg base N qual sc f cdv A outer s H E
theorem fit_cx {N : List Str} {qual : Str} {sc : Scope} {f : Addr} {cdv : Value} {A : Around} {outer : List Env} {s : Shared} {H : Hp} {E : XK} : Fit (cxE P w K mg base N qual sc f cdv A outer s H E) (fun cls d _ H => E cls d H) := ⟨takes_of rfl rfl rfl rfl, passes_of rfl, rfl⟩
/-- what a def's body must be shown to do -/
def BodyM (P : Program) (w : World) (K : PySem.W.Frag) (mg : Str → Option Value) (base : Heap) (cn : Str → Addr) (k : Nat) (N : List Str) (qual : Str) (sc : Scope) (f : Addr) (body : List Stmt) (mb : MS) : Prop :=
  ∀ (cdv : Value) (A : Around) (outer : List Env) (s : Shared) (H : Hp) (E : XK), Room k (A.deeper (envOfC qual sc s.heap.objs.size f cdv)) → RSs (cxE P w K mg base N qual sc f cdv A outer s H E) cn (fun cls d _ H => E cls d H) body mb
theorem fnM {x qual : Str} {st : Stmt} {f : Addr} {fd : FuncData} {N ps : List Str} {k : Nat} {mb : MS} (F : Fun K x qual st f fd) (S : FnScope N ps (defScope st))
    (hb : BodyM P w K mg base cn k N qual (defScope st) f (defBody st) mb) : FnOk P w K mg base (L2.CX P w) (k + 1) f fd ps (spM ⟨K, cn, P, w⟩ ps.length (runF N.length mb)) :=
  F.okX S spM_len fun cdv A outer s H vs Q E hr h => ⟨_, hb cdv A outer s H E hr, by
    obtain ⟨ρ, g, ds, h1, h2, h3, h4⟩ := h
    exact ⟨ρ, _, g, start_stt h2 h3, run_post h4⟩⟩
theorem fnMD {x qual : Str} {params : Arguments} {body : List Stmt} {scope : Scope} {dvs : List V} {kws : List (Str × V)} {f : Addr} {fd : FuncData} {N ps : List Str} {k : Nat} {mb : MS} (F : FunD K x qual params body scope dvs kws f fd) (S : FnScope N ps scope)
    (hb : BodyM P w K mg base cn k N qual scope f body mb) : FnOk P w K mg base (L2.CX P w) (k + 1) f fd ps (spM ⟨K, cn, P, w⟩ ps.length (runF N.length mb)) :=
  F.ok S spM_len fun cdv A outer s H vs Q E hr h => ⟨_, hb cdv A outer s H E hr, by
    obtain ⟨ρ, g, ds, h1, h2, h3, h4⟩ := h
    exact ⟨ρ, _, g, start_stt h2 h3, run_post h4⟩⟩
/-- a def that is never run -/
theorem fn_bad {f : Addr} {fd : FuncData} {ps : List Str} {k : Nat} : FnOk P w K mg base (L2.CX P w) k f fd ps (spM ⟨K, cn, P, w⟩ ps.length fun _ _ => .bad) :=
  ⟨spM_len, fun A outer s H args us vs Q E _ _ _ _ h => by
    obtain ⟨ρ, g, ds, h1, h2, h3, h4⟩ := h
    exact h4.elim⟩
/-- a def as its callers see it: n values are written, then stand the values es -/
structure DefM (P : Program) (w : World) (K : PySem.W.Frag) (mg : Str → Option Value) (base : Heap) (cn : Str → Addr) (k : Nat) (f : Addr) (n : Nat) (es : List D) (mf : List D → M D) : Prop where
  ok : ∃ (fd : FuncData) (ps : List Str) (bs : List Value) (dvs : List V), FnOk P w K mg base (L2.CX P w) k f fd ps (spM ⟨K, cn, P, w⟩ (n + es.length) mf) ∧ Binds K fd ps bs ∧ Vals dvs bs ∧ ∀ ρ H, RelDs K ρ H es dvs
  kp : PySem.W.keepIn K (.ref f) = true
theorem DefM.mono {k j : Nat} {f : Addr} {n : Nat} {es : List D} {mf : List D → M D} (h : DefM P w K mg base cn j f n es mf) (l : j ≤ k) : DefM P w K mg base cn k f n es mf := by
  obtain ⟨fd, ps, bs, dvs, F, a, b, c⟩ := h.ok
  exact ⟨⟨fd, ps, bs, dvs, F.mono l, a, b, c⟩, h.kp⟩
theorem defM0 {k : Nat} {f : Addr} {fd : FuncData} {ps : List Str} {n : Nat} {mf : List D → M D} (F : FnOk P w K mg base (L2.CX P w) k f fd ps (spM ⟨K, cn, P, w⟩ n mf)) (b : Binds K fd ps []) (kp : PySem.W.keepIn K (.ref f) = true) : DefM P w K mg base cn k f n [] mf :=
  ⟨⟨fd, ps, [], [], F, b, .nil, fun _ _ => .nil⟩, kp⟩
end
/-- called with the values x, behind which the values es stand -/
def fCall (n : Nat) (es : List D) (mf : List D → M D) : List D → M D := fun x g => ck (x.length = n) (mf (x ++ es) g)
/-- a method: its object is one of the classes cs -/
def isIns (cs : List Str) : D → G → Prop := fun x g => match x with
  | .ref n => match g[n]? with
    | some (.ins c _) => c ∈ cs
    | _ => False
  | _ => False
instance (cs : List Str) (x : D) (g : G) : Decidable (isIns cs x g) := by
  unfold isIns
  split
  · split <;> infer_instance
  · infer_instance
def mMeth (cs : List Str) (n : Nat) (es : List D) (mf : List D → M D) (o : ME) (a : MA) : ME := fun τ g => (o τ g).bind fun x g1 => ck (isIns cs x g1) ((a τ g1).bind fun l g2 => fCall n es mf (x :: l) g2)
def MethOk (K : PySem.W.Frag) (cn : Str → Addr) (cs : List Str) (m : Str) (f : Addr) : Prop := fieldOk m = false ∧ ∀ c ∈ cs, Cls K (cn c) ∧ Meth K (cn c) m f
theorem isIns_at {cs : List Str} {x : D} {g : G} (h : isIns cs x g) : ∃ n c fs, x = .ref n ∧ g[n]? = some (.ins c fs) ∧ c ∈ cs := by
  unfold isIns at h
  split at h
  · split at h
    · rename_i hg
      exact ⟨_, _, _, rfl, hg, h⟩
    · exact h.elim
  · exact h.elim
section
variable {X : Cx} {cn : Str → Addr} {W : WX} {k n : Nat} {es : List D} {mf : List D → M D} {f : Addr} {x m : Str} {p pos apos : Pos} {e o : Expr} {el : List Expr} {ml : MA} {mo : ME}
theorem post_sp {σ : L2.St} {H : Hp} {Q : VK} {vs dvs : List V} {ρ : List Addr} {g : G} {ds : List D} (R : Rep (ux X cn) ρ H g) (q : RelDs X.K ρ H ds vs) (hv : RelDs X.K ρ H es dvs) (h : Post (ux X cn) (rD (ux X cn)) W σ ρ H (fCall n es mf ds g) Q) : spM ⟨X.K, cn, X.prog, X.w⟩ (n + es.length) mf (vs ++ dvs) H Q (WE W σ) := by
  obtain ⟨hl, h2⟩ := Post.ck h
  refine ⟨ρ, g, ds ++ es, by rw [List.length_append, hl], q.app hv, R, ?_⟩
  revert h2
  cases mf (ds ++ es) g <;> exact id
/-- the callee runs -/
theorem run_defM {pins : List (Addr × Obj)} {σ : St} {H : Hp} {s : Shared} {Q : VK} {us : List Value} {vs : List V} {ρ : List Addr} {g : G} {ds : List D} (Df : DefM X.prog X.w X.K X.mg X.base cn k f n es mf) (hr : Room k X.A) (tk : Takes X W)
    (I : Inv X pins σ H s) (r : Vals vs us) (R : Rep (ux X cn) ρ H g) (q : RelDs X.K ρ H ds vs) (h : Post (ux X cn) (rD (ux X cn)) W σ ρ H (fCall n es mf ds g) Q) : wpAny (model X.prog X.w) X.A (call (.ref f) us) (EP X pins σ Q) X.xe s := by
  obtain ⟨fd, ps, bs, dvs, Fn, hb, hd, hv⟩ := Df.ok
  exact run_fnSD (E := WE W) Fn hr hb hd (passAt tk σ) I r (post_sp R q (hv ρ H) h)
theorem re_call (F : Fit X W) (Df : DefM X.prog X.w X.K X.mg X.base cn k f n es mf) (hr : Room k X.A) (hg : Gl X x) (hm : X.mg x = some (.ref f)) (ha : RA X cn W (e :: el) ml) (hdb : (x == ("__debug__" : Str)) = false := by decide)
    (he : starEach (e :: el) X.env = (false, eval e X.env) :: starEach el X.env := by rfl) (hpl : (backTo pos (starEach el X.env)).any (·.1) = false := by rfl) : RE X cn W (.Call (.Name x p) (e :: el) [] pos) (mUnA (fCall n es mf) ml) := by
  obtain ⟨fd, ps, bs, dvs, Fn, hb, hd, hv⟩ := Df.ok
  exact peI (pe_callSD Fn hr hg hm Df.kp hb hd (fun σ => passAt F.tk σ) ha hdb he hpl) fun σ H Q ⟨ρ, τ, g, st, h⟩ => ⟨ρ, τ, g, st, h.thn fun ρ1 vs H1 ds g1 e1 r1 q1 p1 => post_sp r1 q1 (hv ρ1 H1) p1⟩
theorem re_call0 (F : Fit X W) (Df : DefM X.prog X.w X.K X.mg X.base cn k f n es mf) (hr : Room k X.A) (hg : Gl X x) (hm : X.mg x = some (.ref f)) (hdb : (x == ("__debug__" : Str)) = false := by decide) : RE X cn W (.Call (.Name x p) [] [] pos) (mUnA (fCall n es mf) mNil) :=
  ⟨fun pins s σ H Q I ⟨ρ, τ, g, st, h⟩ => wpAny_Call_Name_kw (ld_glob I hg hm (PySem.W.callWith_K0 I.kIn Df.kp (run_defM (us := []) Df hr F.tk I .nil st.rep .nil h)) hdb)⟩
theorem re_meth {cs : List Str} {pl : Sem Bool} (F : Fit X W) (hM : MethOk X.K cn cs m f) (D : DefM X.prog X.w X.K X.mg X.base cn k f n es mf) (hr : Room k X.A) (ho : RE X cn W o mo) (ha : RA X cn W (e :: el) ml)
    (hst : starEach (e :: el) X.env = (false, eval e X.env) :: starEach el X.env := by rfl) (hpl : (backTo pos (starEach el X.env)).any (·.1) = false := by rfl)
    (ht : eval (.Call (.Attribute o m apos) (e :: el) [] pos) X.env = (do
      let ov ← eval o X.env
      standAt apos.atName
      let (f, first) ← holding [ov] (getMethod ov m pl)
      callWith pos f first (backTo pos (starEach (e :: el) X.env)) (backToKw pos (keywordEach [] X.env))) := by rfl) : RE X cn W (.Call (.Attribute o m apos) (e :: el) [] pos) (mMeth cs n es mf mo ml) := by
  refine ⟨fun pins s σ H Q I ⟨ρ, τ, g, st, h⟩ => ?_⟩
  refine PySem.W.methodCall_KW (pl := pl) (thn (ho.run pins s σ H (fun ov H1 => ∃ ρ1 g1 x, Stt (ux X cn) ρ1 τ g1 σ H1 ∧ RelD X.K ρ1 H1 x ov ∧ Post (ux X cn) (rD (ux X cn)) W σ ρ1 H1 (ck (isIns cs x g1) ((ml τ g1).bind fun l g2 => fCall n es mf (x :: l) g2)) Q) I ⟨ρ, τ, g, st, h.thn fun ρ1 v H1 d g1 e1 r1 q1 p1 => ⟨ρ1, g1, d, st.later e1 r1, q1, p1⟩⟩) fun u s1 ⟨ov, H1, I1, rx, ρ1, g1, x, st1, qx, p1⟩ => ?_) ht
  obtain ⟨hi, p2⟩ := Post.ck p1
  obtain ⟨i, c, fs, rfl, hg, hc⟩ := isIns_at hi
  cases qx with
  | ref hai =>
    rename_i a
    obtain rfl : u = Value.ref a := rx
    obtain ⟨dx, fs', h1, h3⟩ := st1.rep.obs i _ _ hg hai
    obtain ⟨c1, c2⟩ := hM.2 c hc
    refine getmeth_ok I1 h1 c1 c2 (h3.no hM.1) ?_
    refine PySem.W.callWith_K (first := [.ref a]) (h₀ := X.base) I.ok.mod.kin c2.kp (thn (ha.run pos pins s1 σ H1 (fun vs H2 => ∃ ρ2 g2 l, Rep (ux X cn) ρ2 H2 g2 ∧ RelDs X.K ρ2 H2 l vs ∧ RelD X.K ρ2 H2 (.ref i) (.ref a) ∧ Post (ux X cn) (rD (ux X cn)) W σ ρ2 H2 (fCall n es mf (.ref i :: l) g2) Q) I1
      ⟨ρ1, τ, g1, st1, p2.thn fun ρ2 vs H2 l g2 e2 r2 q2 p3 => ⟨ρ2, g2, l, r2, q2, e2.rel st1.rep (.ref hai), p3⟩⟩) fun us s2 ⟨vs, H2, I2, r, ρ2, g2, l, r2, q2, qi, p3⟩ => ⟨I2.kIn, ?_⟩) hst hpl
    exact run_defM (us := .ref a :: us) (vs := .ref a :: vs) D hr F.tk I2 (.cons rfl r) r2 (.cons qi q2) p3
theorem re_meth0 {cs : List Str} {pl : Sem Bool} (F : Fit X W) (hM : MethOk X.K cn cs m f) (D : DefM X.prog X.w X.K X.mg X.base cn k f n es mf) (hr : Room k X.A) (ho : RE X cn W o mo)
    (ht : eval (.Call (.Attribute o m apos) [] [] pos) X.env = (do
      let ov ← eval o X.env
      standAt apos.atName
      let (f, first) ← holding [ov] (getMethod ov m pl)
      callWith pos f first (backTo pos (starEach [] X.env)) (backToKw pos (keywordEach [] X.env))) := by rfl) : RE X cn W (.Call (.Attribute o m apos) [] [] pos) (mMeth cs n es mf mo mNil) := by
  refine ⟨fun pins s σ H Q I ⟨ρ, τ, g, st, h⟩ => ?_⟩
  refine PySem.W.methodCall_KW (pl := pl) (thn (ho.run pins s σ H (fun ov H1 => ∃ ρ1 g1 x, Stt (ux X cn) ρ1 τ g1 σ H1 ∧ RelD X.K ρ1 H1 x ov ∧ Post (ux X cn) (rD (ux X cn)) W σ ρ1 H1 (ck (isIns cs x g1) ((mNil τ g1).bind fun l g2 => fCall n es mf (x :: l) g2)) Q) I ⟨ρ, τ, g, st, h.thn fun ρ1 v H1 d g1 e1 r1 q1 p1 => ⟨ρ1, g1, d, st.later e1 r1, q1, p1⟩⟩) fun u s1 ⟨ov, H1, I1, rx, ρ1, g1, x, st1, qx, p1⟩ => ?_) ht
  obtain ⟨hi, p2⟩ := Post.ck p1
  obtain ⟨i, c, fs, rfl, hg, hc⟩ := isIns_at hi
  cases qx with
  | ref hai =>
    rename_i a
    obtain rfl : u = Value.ref a := rx
    obtain ⟨dx, fs', h1, h3⟩ := st1.rep.obs i _ _ hg hai
    obtain ⟨c1, c2⟩ := hM.2 c hc
    refine getmeth_ok I1 h1 c1 c2 (h3.no hM.1) ?_
    exact PySem.W.callWith_K0 (first := [.ref a]) I1.kIn c2.kp (run_defM (us := [.ref a]) (vs := [.ref a]) D hr F.tk I1 (.cons rfl .nil) st1.rep (.cons (.ref hai) .nil) p2)
/-- no error is let out -/
def noX {α : Type} : Res α → Res α
  | .exc _ _ => .bad
  | r => r
/-- a property -/
theorem re_prop {cs : List Str} {pr : Str → Addr} (F : Fit X W) (hP : ∀ c ∈ cs, Cls X.K (cn c) ∧ PropOf X.K (cn c) m (pr c) f) (D : DefM X.prog X.w X.K X.mg X.base cn k f 1 [] mf) (hr : Room (k + 1) X.A) (ho : RE X cn W o mo) (hab : attributeBase o m X.env (eval o X.env) = eval o X.env := by rfl) :
    RE X cn W (.Attribute o m pos) (fun τ g => (mo τ g).bind fun x g1 => ck (isIns cs x g1) (noX (mf [x] g1))) := by
  obtain ⟨fd, ps, bs, dvs, Fn, hb, hd, hv⟩ := D.ok
  refine ⟨fun pins s σ H Q I ⟨ρ, τ, g, st, h⟩ => ?_⟩
  refine attr_of hab (thn (ho.run pins s σ H (fun ov H1 => ∃ ρ1 g1 x, Stt (ux X cn) ρ1 τ g1 σ H1 ∧ RelD X.K ρ1 H1 x ov ∧ Post (ux X cn) (rD (ux X cn)) W σ ρ1 H1 (ck (isIns cs x g1) (noX (mf [x] g1))) Q) I ⟨ρ, τ, g, st, h.thn fun ρ1 v H1 d g1 e1 r1 q1 p1 => ⟨ρ1, g1, d, st.later e1 r1, q1, p1⟩⟩) fun u s1 ⟨ov, H1, I1, rx, ρ1, g1, x, st1, qx, p1⟩ => ?_)
  obtain ⟨hi, p2⟩ := Post.ck p1
  obtain ⟨i, c, fs, rfl, hg, hc⟩ := isIns_at hi
  cases qx with
  | ref hai =>
    rename_i a
    obtain rfl : u = Value.ref a := rx
    obtain ⟨dx, fs', h1, h3⟩ := st1.rep.obs i _ _ hg hai
    obtain ⟨c1, c2⟩ := hP c hc
    have hs : spM ⟨X.K, cn, X.prog, X.w⟩ (1 + ([] : List RL.D).length) mf (.ref a :: dvs) H1 Q E0 := by
      refine ⟨ρ1, g1, [.ref i], rfl, .cons (.ref hai) (hv ρ1 H1), st1.rep, ?_⟩
      revert p2
      cases mf [.ref i] g1 with
      | ok d g' => exact id
      | exc e g' => exact False.elim
      | bad => exact False.elim
    exact getprop_ok I1 h1 c1 c2 Fn hr hb hd passL hs
end
end RL
namespace RL
open PySem L2
open PyProof.Rows (envOfC)
/-! ### new objects -/
def fMake (c : Str) (n : Nat) (es : List D) (mf : List D → M D) : List D → M D := fun l g => (noX (fCall (n + 1) es mf (.ref g.length :: l) (g ++ [.ins c []]))).bind fun d g2 => ck (d = .non) (.ok (.ref g.length) g2)
section
variable {X : Cx} {cn : Str → Addr} {W : WX} {k n : Nat} {es : List D} {mf : List D → M D} {f : Addr} {x m c : Str} {p pos apos : Pos} {e o : Expr} {el : List Expr} {ml : MA} {mo : ME}
/-- a new object, then its __init__, which lets no error out -/
theorem make_sp {σ : L2.St} {H : Hp} {Q : VK} {vs dvs : List V} {ρ : List Addr} {g : G} {ds : List D} {a dx : Addr} (R : Rep (ux X cn) ρ H g) (q : RelDs X.K ρ H ds vs) (hv : ∀ ρ H, RelDs X.K ρ H es dvs) (ha : H a = none) (hd : H dx = none) (ne : dx ≠ a)
    (h : Post (ux X cn) (rD (ux X cn)) W σ ρ H (fMake c n es mf ds g) Q) : spM ⟨X.K, cn, X.prog, X.w⟩ (n + 1 + es.length) mf (.ref a :: (vs ++ dvs)) (upd (upd H dx (.own a)) a (.ins (cn c) dx [])) (fun v H2 => v = .non ∧ Q (.ref a) H2) E0 := by
  obtain ⟨ev1, R1⟩ := Ev.new (o := .own a) R hd
  obtain ⟨ev2, R2, at2⟩ := Ev.cnt (o := .ins (cn c) dx []) (ob := .ins c []) R1 (p := a) (by rw [upd_ne (Ne.symm ne)]; exact ha) fun e z => ⟨_, _, z, .nil⟩
  have ev := ev1.trans ev2
  unfold fMake fCall at h
  by_cases hl : (D.ref g.length :: ds).length = n + 1
  · rw [ck_pos hl, List.cons_append] at h
    refine ⟨_, _, .ref g.length :: (ds ++ es), ?_, .cons (.ref at2) ((ev.rels R q).app (hv _ _)), R2, ?_⟩
    · have hl' : ds.length + 1 = n + 1 := hl
      rw [List.length_cons, List.length_append]
      omega
    · revert h
      cases mf (.ref g.length :: (ds ++ es)) (g ++ [.ins c []]) with
      | ok d g2 =>
        intro h
        obtain ⟨hd', h2⟩ := Post.ck (show Post (ux X cn) (rD (ux X cn)) W σ ρ H (ck (d = .non) (.ok (.ref g.length) g2)) Q from h)
        subst hd'
        intro ρ' v H' e' r' q'
        cases q'
        exact ⟨rfl, h2 ρ' _ H' (ev.trans e') r' (.ref (e'.ix _ _ at2))⟩
      | exc x g2 => exact fun h => h.elim
      | bad => exact fun h => h.elim
  · unfold ck at h
    rw [if_neg hl] at h
    exact h.elim
theorem re_make (F : Fit X W) (MK : Mk X.K (cn c) f) (Df : DefM X.prog X.w X.K X.mg X.base cn k f (n + 1) es mf) (hr : Room (k + 1) X.A) (hg : Gl X x) (hm : X.mg x = some (.ref (cn c))) (ha : RA X cn W (e :: el) ml) (hdb : (x == ("__debug__" : Str)) = false := by decide)
    (he : starEach (e :: el) X.env = (false, eval e X.env) :: starEach el X.env := by rfl) (hpl : (backTo pos (starEach el X.env)).any (·.1) = false := by rfl) : RE X cn W (.Call (.Name x p) (e :: el) [] pos) (mUnA (fMake c n es mf) ml) := by
  obtain ⟨fd, ps, bs, dvs, Fn, hb, hd, hv⟩ := Df.ok
  exact peI (pe_make MK Fn hr hg hm hb hd passL ha hdb he hpl) fun σ H Q ⟨ρ, τ, g, st, h⟩ => ⟨ρ, τ, g, st, h.thn fun ρ1 vs H1 ds g1 e1 r1 q1 p1 a dx h1 h2 h3 => make_sp r1 q1 hv h1 h2 h3 p1⟩
theorem re_make0 (F : Fit X W) (MK : Mk X.K (cn c) f) (Df : DefM X.prog X.w X.K X.mg X.base cn k f (n + 1) es mf) (hr : Room (k + 1) X.A) (hg : Gl X x) (hm : X.mg x = some (.ref (cn c))) (hdb : (x == ("__debug__" : Str)) = false := by decide) : RE X cn W (.Call (.Name x p) [] [] pos) (mUnA (fMake c n es mf) mNil) := by
  obtain ⟨fd, ps, bs, dvs, Fn, hb, hd, hv⟩ := Df.ok
  exact peI (pe_make0 MK Fn hr hg hm hb hd passL hdb) fun σ H Q ⟨ρ, τ, g, st, h⟩ a dx h1 h2 h3 => make_sp (vs := []) st.rep .nil hv h1 h2 h3 h
end
/-! ### keywords -/
structure DefK (P : Program) (w : World) (K : PySem.W.Frag) (mg : Str → Option Value) (base : Heap) (cn : Str → Addr) (k : Nat) (f : Addr) (n : Nat) (ks : List Str) (gD : List D → List D → List D) (mf : List D → M D) : Prop where
  ok : ∃ (fd : FuncData) (ps : List Str) (m : Nat) (gv : List Value → List Value → List Value) (gV : List V → List V → List V), FnOk P w K mg base (L2.CX P w) k f fd ps (spM ⟨K, cn, P, w⟩ m mf) ∧ KBn K fd ps n ks gv gV ∧
    ∀ (ρ : List Addr) (H : Hp) (ds zs : List D) (vs us : List V), RelDs K ρ H ds vs → RelDs K ρ H zs us → ds.length = n → zs.length = ks.length → (gD ds zs).length = m ∧ RelDs K ρ H (gD ds zs) (gV vs us)
  kp : PySem.W.keepIn K (.ref f) = true
def RK (X : Cx) (cn : Str → Addr) (W : WX) (kws : List Keyword) (m : MA) : Prop := L2.PK X kws (tA (ux X cn) W m)
def fCallK (n : Nat) (ks : List Str) (gD : List D → List D → List D) (mf : List D → M D) : List D → List D → M D := fun x z g => ck (x.length = n ∧ z.length = ks.length) (mf (gD x z) g)
def mMethK (cs : List Str) (n : Nat) (ks : List Str) (gD : List D → List D → List D) (mf : List D → M D) (o : ME) (a b : MA) : ME := fun τ g => (o τ g).bind fun x g1 => ck (isIns cs x g1) ((a τ g1).bind fun l g2 => (b τ g2).bind fun z g3 => fCallK n ks gD mf (x :: l) z g3)
section
variable {X : Cx} {cn : Str → Addr} {W : WX} {k n : Nat} {ks : List Str} {gD : List D → List D → List D} {mf : List D → M D} {f : Addr} {x m c : Str} {p pos apos kpos : Pos} {e o : Expr} {el : List Expr} {kws : List Keyword} {ml mk : MA} {mo me : ME} {nm : Option Str}
theorem pkI {X : Cx} {e : List Keyword} {t t' : TA} (h : L2.PK X e t) (i : ∀ σ H Q, t' σ H Q → t σ H Q) : L2.PK X e t' := ⟨fun pos pins s σ H Q I q => h.run pos pins s σ H Q I (i σ H Q q)⟩
theorem rk_nil : RK X cn W [] mNil := pkI pk_nil fun σ H Q ⟨ρ, τ, g, s, p⟩ => p.at s.rep .nil
theorem rk_cons (ha : RE X cn W e me) (hr : RK X cn W kws ml) : RK X cn W (⟨nm, e, kpos⟩ :: kws) (mCons me ml) := by
  refine pkI (pk_cons ha hr) fun σ H Q ⟨ρ, τ, g, s, p⟩ => ?_
  refine ⟨ρ, τ, g, s, p.thn fun ρ1 v H1 d g1 e1 r1 q1 p1 => ?_⟩
  refine ⟨ρ1, τ, g1, s.later e1 r1, p1.thn fun ρ2 vs H2 ds g2 e2 r2 q2 p2 => ?_⟩
  exact p2.at r2 (.cons (e2.rel r1 q1) q2)
theorem run_defK {pins : List (Addr × Obj)} {σ : St} {H : Hp} {s : Shared} {Q : VK} {us ws : List Value} {vs zs : List V} {ρ : List Addr} {g : G} {ds es : List D} (Df : DefK X.prog X.w X.K X.mg X.base cn k f n ks gD mf) (hr : Room k X.A) (tk : Takes X W)
    (I : Inv X pins σ H s) (r : Vals vs us) (rz : Vals zs ws) (R : Rep (ux X cn) ρ H g) (q : RelDs X.K ρ H ds vs) (qz : RelDs X.K ρ H es zs) (h : Post (ux X cn) (rD (ux X cn)) W σ ρ H (fCallK n ks gD mf ds es g) Q) :
    wpAny (model X.prog X.w) X.A (call (.ref f) us (ks.zip ws)) (EP X pins σ Q) X.xe s := by
  obtain ⟨fd, ps, m, gv, gV, F, hb, hv⟩ := Df.ok
  obtain ⟨⟨hl, hl2⟩, h2⟩ := Post.ck h
  obtain ⟨hm, hq⟩ := hv ρ H ds es vs zs q qz hl hl2
  have hs : spM ⟨X.K, cn, X.prog, X.w⟩ m mf (gV vs zs) H Q (WE W σ) := ⟨ρ, g, gD ds es, hm, hq, R, by
    revert h2
    cases mf (gD ds es) g with
    | ok d g' => exact id
    | exc e g' => exact id
    | bad => exact id⟩
  have r2 := hb.rel r rz
  refine wpAny_call (codeAny_mono (F.run X.A X.stack s H ⟨us, ks.zip ws⟩ (gv us ws) (gV vs zs) Q (WE W σ) hr I.env0 (hb.to s us ws I.kIn (by rw [← r.length, ← q.length, hl]) (by rw [← rz.length, ← qz.length, hl2])) r2 hs) ?_)
  rintro (er | fl) s' hq
  · exact passAt tk σ pins H s er s' I hq
  · cases fl <;> first | exact I.after hq | exact hq.elim
theorem re_methK {cs : List Str} {pl : Sem Bool} (F : Fit X W) (hM : MethOk X.K cn cs m f) (Df : DefK X.prog X.w X.K X.mg X.base cn k f n ks gD mf) (hr : Room k X.A) (ho : RE X cn W o mo) (ha : RA X cn W (e :: el) ml) (hk : RK X cn W kws mk)
    (hall : (backToKw pos (keywordEach kws X.env)).all (·.1.isSome) = true := by rfl) (hks : (backToKw pos (keywordEach kws X.env)).filterMap (·.1) = ks := by rfl)
    (hst : starEach (e :: el) X.env = (false, eval e X.env) :: starEach el X.env := by rfl) (hpl : ((backTo pos (starEach (e :: el) X.env)).any (·.1) || (backToKw pos (keywordEach kws X.env)).any (·.1.isNone)) = false := by rfl)
    (ht : eval (.Call (.Attribute o m apos) (e :: el) kws pos) X.env = (do
      let ov ← eval o X.env
      standAt apos.atName
      let (f, first) ← holding [ov] (getMethod ov m pl)
      callWith pos f first (backTo pos (starEach (e :: el) X.env)) (backToKw pos (keywordEach kws X.env))) := by rfl) : RE X cn W (.Call (.Attribute o m apos) (e :: el) kws pos) (mMethK cs n ks gD mf mo ml mk) := by
  refine ⟨fun pins s σ H Q I ⟨ρ, τ, g, st, h⟩ => ?_⟩
  refine PySem.W.methodCall_KW (pl := pl) (thn (ho.run pins s σ H (fun ov H1 => ∃ ρ1 g1 x, Stt (ux X cn) ρ1 τ g1 σ H1 ∧ RelD X.K ρ1 H1 x ov ∧ Post (ux X cn) (rD (ux X cn)) W σ ρ1 H1 (ck (isIns cs x g1) ((ml τ g1).bind fun l g2 => (mk τ g2).bind fun z g3 => fCallK n ks gD mf (x :: l) z g3)) Q) I ⟨ρ, τ, g, st, h.thn fun ρ1 v H1 d g1 e1 r1 q1 p1 => ⟨ρ1, g1, d, st.later e1 r1, q1, p1⟩⟩) fun u s1 ⟨ov, H1, I1, rx, ρ1, g1, x, st1, qx, p1⟩ => ?_) ht
  obtain ⟨hi, p2⟩ := Post.ck p1
  obtain ⟨i, c, fs, rfl, hg, hc⟩ := isIns_at hi
  cases qx with
  | ref hai =>
    rename_i a
    obtain rfl : u = Value.ref a := rx
    obtain ⟨dx, fs', h1, h3⟩ := st1.rep.obs i _ _ hg hai
    obtain ⟨c1, c2⟩ := hM.2 c hc
    refine getmeth_ok I1 h1 c1 c2 (h3.no hM.1) ?_
    refine PySem.W.callWith_KW (first := [.ref a]) (h₀ := X.base) I.ok.mod.kin c2.kp hall (thn (ha.run pos pins s1 σ H1 (fun vs H2 => ∃ ρ2 g2 l, Stt (ux X cn) ρ2 τ g2 σ H2 ∧ RelDs X.K ρ2 H2 l vs ∧ RelD X.K ρ2 H2 (.ref i) (.ref a) ∧ Post (ux X cn) (rD (ux X cn)) W σ ρ2 H2 ((mk τ g2).bind fun z g3 => fCallK n ks gD mf (.ref i :: l) z g3) Q) I1
      ⟨ρ1, τ, g1, st1, p2.thn fun ρ2 vs H2 l g2 e2 r2 q2 p3 => ⟨ρ2, g2, l, st1.later e2 r2, q2, e2.rel st1.rep (.ref hai), p3⟩⟩) fun us s2 ⟨vs, H2, I2, r, ρ2, g2, l, st2, q2, qi, p3⟩ => ?_) hpl hst
    refine thn (hk.run pos pins s2 σ H2 (fun zs H3 => ∃ ρ3 g3 z, Rep (ux X cn) ρ3 H3 g3 ∧ RelDs X.K ρ3 H3 l vs ∧ RelD X.K ρ3 H3 (.ref i) (.ref a) ∧ RelDs X.K ρ3 H3 z zs ∧ Post (ux X cn) (rD (ux X cn)) W σ ρ3 H3 (fCallK n ks gD mf (.ref i :: l) z g3) Q) I2
      ⟨ρ2, τ, g2, st2, p3.thn fun ρ3 zs H3 z g3 e3 r3 q3 p4 => ⟨ρ3, g3, z, r3, e3.rels st2.rep q2, e3.rel st2.rep qi, q3, p4⟩⟩) fun ws s3 ⟨zs, H3, I3, rz, ρ3, g3, z, r3, ql, qi3, qz, p4⟩ => ⟨I3.kIn, ?_⟩
    rw [hks]
    exact run_defK (us := .ref a :: us) (vs := .ref a :: vs) Df hr F.tk I3 (.cons rfl r) rz r3 (.cons qi3 ql) qz p4
theorem re_callK (F : Fit X W) (Df : DefK X.prog X.w X.K X.mg X.base cn k f n ks gD mf) (hr : Room k X.A) (hg : Gl X x) (hm : X.mg x = some (.ref f)) (ha : RA X cn W (e :: el) ml) (hk : RK X cn W kws mk)
    (hall : (backToKw pos (keywordEach kws X.env)).all (·.1.isSome) = true := by rfl) (hks : (backToKw pos (keywordEach kws X.env)).filterMap (·.1) = ks := by rfl) (hdb : (x == ("__debug__" : Str)) = false := by decide)
    (he : starEach (e :: el) X.env = (false, eval e X.env) :: starEach el X.env := by rfl) (hpl : ((backTo pos (starEach (e :: el) X.env)).any (·.1) || (backToKw pos (keywordEach kws X.env)).any (·.1.isNone)) = false := by rfl) :
    RE X cn W (.Call (.Name x p) (e :: el) kws pos) (fun τ g => (ml τ g).bind fun l g1 => (mk τ g1).bind fun z g2 => fCallK n ks gD mf l z g2) := by
  refine ⟨fun pins s σ H Q I ⟨ρ, τ, g, st, h⟩ => ?_⟩
  refine wpAny_Call_Name_kw (ld_glob I hg hm ?_ hdb)
  refine PySem.W.callWith_KW (h₀ := X.base) I.ok.mod.kin Df.kp hall (thn (ha.run pos pins s σ H (fun vs H2 => ∃ ρ2 g2 l, Stt (ux X cn) ρ2 τ g2 σ H2 ∧ RelDs X.K ρ2 H2 l vs ∧ Post (ux X cn) (rD (ux X cn)) W σ ρ2 H2 ((mk τ g2).bind fun z g3 => fCallK n ks gD mf l z g3) Q) I
      ⟨ρ, τ, g, st, h.thn fun ρ2 vs H2 l g2 e2 r2 q2 p3 => ⟨ρ2, g2, l, st.later e2 r2, q2, p3⟩⟩) fun us s2 ⟨vs, H2, I2, r, ρ2, g2, l, st2, q2, p3⟩ => ?_) hpl he
  refine thn (hk.run pos pins s2 σ H2 (fun zs H3 => ∃ ρ3 g3 z, Rep (ux X cn) ρ3 H3 g3 ∧ RelDs X.K ρ3 H3 l vs ∧ RelDs X.K ρ3 H3 z zs ∧ Post (ux X cn) (rD (ux X cn)) W σ ρ3 H3 (fCallK n ks gD mf l z g3) Q) I2
      ⟨ρ2, τ, g2, st2, p3.thn fun ρ3 zs H3 z g3 e3 r3 q3 p4 => ⟨ρ3, g3, z, r3, e3.rels st2.rep q2, q3, p4⟩⟩) fun ws s3 ⟨zs, H3, I3, rz, ρ3, g3, z, r3, ql, qz, p4⟩ => ⟨I3.kIn, ?_⟩
  rw [hks]
  exact run_defK Df hr F.tk I3 r rz r3 ql qz p4
end
section
variable {K : PySem.W.Frag} {x qual : Str} {params : Arguments} {body : List Stmt} {scope : Scope} {dvs : List V} {kws : List (Str × V)} {f : Addr} {fd : FuncData} {ps : List Str}
/-- every parameter is written, some by keywords -/
theorem kb_all (F : FunD K x qual params body scope [] kws f fd) (n : Nat) (ks : List Str) (g : {α : Type} → List α → List α → List α)
    (hrel : ∀ {vs zs : List V} {us ws : List Value}, Vals vs us → Vals zs ws → Vals (g vs zs) (g us ws))
    (h : ∀ (kV doc pm : Value) (an : Option Addr) (cdv ct : Value) (us ws : List Value), us.length = n → ws.length = ks.length → bindArgs (PySem.W.fnOf x qual params body scope .none kV doc pm an cdv ct) ⟨us, ks.zip ws⟩ = pure (ps.zip (g us ws))) :
    KBn K fd ps n ks (fun us ws => g us ws) (fun vs zs => g vs zs) := by
  obtain ⟨oc, od, dV, kV, doc, pm, an, cdv, ct, osl, rfl, lk, hcd, hD, hK⟩ := F.ex
  rcases hD with ⟨_, rfl⟩ | ⟨e, _⟩
  · exact ⟨fun s us ws X l1 l2 => .of_eq (h kV doc pm an cdv ct us ws l1 l2), fun r1 r2 => hrel r1 r2⟩
  · exact absurd rfl e
end
end RL
/-! the name of an own error's class -/
namespace PySem.W
open PySem PySem.Spec PySem.Calls PyProof.Rows Builtin Builtin.ObjectAttr
section
variable {prog : Program} {w : World} {A : Around} {E : Value → Shared → Prop} {K : Frag} {x D : Addr} {ox : Obj} {hp : Heap} {g : Array GenState} {d : Drawn} {t : Nat} {os : OsState}
theorem onB : onTheHeap (Value.builtin "BaseException.__getattribute__") = false := rfl
theorem neB : (Value.builtin "BaseException.__getattribute__" == Value.builtin "object.__getattribute__") = false := by decide +kernel
theorem open_exc {name : Str} {expr : Bool} {Q : Value → Shared → Prop} {gt : Option Value} (ty : Looks (model prog w) hp (typeOf (.ref x)) (.ref D)) (ga : Looks (model prog w) hp (typeLookup (.ref D) "__getattribute__") (some (.builtin "BaseException.__getattribute__"))) (gg : Looks (model prog w) hp (typeLookup (.ref D) "__getattr__") gt)
    {v : Value} {s2 : Shared} (hv : handedIn v = true) (h : wpAny (model prog w) A (call (.builtin "BaseException.__getattribute__") [.ref x, .str name t]) (fun a s' => a = v ∧ s' = s2) (fun _ _ => False) ⟨hp, g, d, t + 1, os⟩) (q : Q v s2) : wpAny (model prog w) A (getAttr (.ref x) name expr) Q E ⟨hp, g, d, t, os⟩ := by
  have on : onTheHeap (Value.ref D) = true := rfl
  unfold getAttr getAttrBy
  refine wpAny_bind (wpAny_mkText ?_)
  repeat lk
  simp only [on, neB, Bool.and_false, Bool.false_eq_true, if_false]
  refine wpAny_attempt (m := holding gt.toList (callGetattribute (.ref x) (.str name t) (.builtin "BaseException.__getattribute__") expr)) (wpAny_holding ?_)
  have e1 : callGetattribute (.ref x) (.str name t) (.builtin "BaseException.__getattribute__") expr = call (.builtin "BaseException.__getattribute__") [.ref x, .str name t] := by
    unfold callGetattribute boundAndCalled
    simp only [onB, Bool.and_false, Bool.false_eq_true, if_false]
    rw [PySem.F.excAttr_ValueError.ga.bind (.ref x)]
    rfl
  rw [e1]
  refine wpAny_mono h (fun a s' ⟨e2, e3⟩ => ?_) fun _ _ z => z.elim
  subst e2
  subst e3
  show wpAny _ _ (handedOut a) Q E s'
  rw [handedOut_of hv]
  exact wpAny_pure q
theorem body_exc {name : Str} {f o : Value} {ox : Obj} {R : Result → Shared → Prop} (I : InstAt hp x ox D none) (X : K.In hp) (sub : subIn K (.ref D) (.type "BaseException") = some true) (hf : findObj K D none name = some (.bind f o)) {v : Value} (hv : handedIn v = true)
    (hc : ∀ {R : Result → Shared → Prop} {A : Around}, R (.ok (.ret v)) ⟨hp, g, d, t + 1, os⟩ → codeAny (model prog w) A (.call f ⟨[o, .ref x, .ref D], []⟩) R ⟨hp, g, d, t + 1, os⟩) :
    wpAny (model prog w) A (call (.builtin "BaseException.__getattribute__") [.ref x, .str name t]) (fun a s' => a = v ∧ s' = ⟨hp, g, d, t + 1, os⟩) (fun _ _ => False) ⟨hp, g, d, t + 1, os⟩ := by
  have ty := I.type (M := model prog w)
  have fnd := looks_find (M := model prog w) X I hf
  have isE : Looks (model prog w) hp (isInstance (.ref x) (.type "BaseException")) true := ty.andThen (looks_subIn X sub)
  have ga := PySem.F.excAttr_ValueError.ga
  have chk : ∀ {A : Around} {E : Value → Shared → Prop} {Q : Unit → Shared → Prop}, Q () ⟨hp, g, d, t + 1, os⟩ → wpAny (model prog w) A (checkBuiltinCall "BaseException.__getattribute__" ⟨[.ref x, .str name t], []⟩) Q E ⟨hp, g, d, t + 1, os⟩ := fun q =>
    check_slot (i := "BaseException.__getattribute__") (owner := "BaseException") (n := "__getattribute__") (s := ⟨hp, g, d, t + 1, os⟩) (by decide +kernel) (by decide +kernel) isE (PySem.F.args_bexc_ga _ _) q
  refine wpAny_call (codeAny_call_builtin ga.plain PySem.F.entry_bexc_ga (chk ?_))
  have sa : slotArgs "__getattribute__" 1 ⟨[.ref x, .str name t], []⟩ = pure (.ref x, [.str name t]) := by
    first | rfl | (simp only [slotArgs]; rfl)
  unfold Builtin.«object.__getattribute__»
  rw [sa]
  refine wpAny_bind (wpAny_pure (wpAny_bind (wpAny_pure (wpAny_bind (ty.at (wpAny_bind (fnd.at ?_)))))))
  show wpAny _ _ (bindTo f o (.ref x) (.ref D)) _ _ _
  unfold bindTo
  refine wpAny_bind (wpAny_holding (wpAny_call (hc ?_)))
  exact wpAny_pure ⟨rfl, rfl⟩
structure NamC (K : Frag) (D : Addr) (nm : Str) : Prop where
  ga : findIn K (.ref D) "__getattribute__" = some (some (.builtin "BaseException.__getattribute__"))
  gg : findIn K (.ref D) "__getattr__" = some none
  exC : subIn K (.ref D) (.type "BaseException") = some true
  hdC : hasDictIn K D = true
  cl : findIn K (.ref D) "__class__" = some (some (.builtin "object.__class__"))
  sp : specialIn K (.builtin "object.__class__") "__get__" = some (some (.builtin "getset_descriptor.__get__"))
  tk : takesIn K (.builtin "object.__class__") = some true
  mr : mroIn K D (.type "object") = some true
  rd : readsIn K D (.type "type") = true
  nn : findCls K (.ref D) (.type "type") "__name__" = some (.get (.builtin "getset_descriptor.__get__") (.builtin "type.__name__") (.ref D) (.type "type"))
  sl : ∃ o tk, K.lookup D = some o ∧ o.slots[2]? = some (some (.str nm tk))
theorem cn_class {nm : Str} {expr : Bool} {s : Shared} {Q : Value → Shared → Prop} (T : NamC K D nm) (X : K.In s.heap) (I : InstAt s.heap x ox D none) (q : Q (.ref D) { s with toks := s.toks + 1 }) : wpAny (model prog w) A (getAttr (.ref x) "__class__" expr) Q E s := by
  have hf : findObj K D none "__class__" = some (.bind (.builtin "getset_descriptor.__get__") (.builtin "object.__class__")) := findObj_dataN (Option.isSome_iff_exists.mpr ⟨_, (any_some T.hdC).choose_spec.1⟩) T.cl T.sp T.tk
  obtain ⟨h0, g0, d0, t0, o0⟩ := s
  exact open_exc I.type (looks_findIn X T.ga) (looks_findIn X T.gg) rfl (body_exc (R := fun _ _ => True) I X T.exC hf rfl fun r => class_get (s := ⟨h0, g0, d0, t0 + 1, o0⟩) X I T.mr r) q
/-- the name, kept in the class's own slot -/
theorem cn_get {nm : Str} {tk : Tok} {o : Obj} {s : Shared} {R : Result → Shared → Prop} (X : K.In s.heap) (ty : typeIn K (.ref D) = some (.type "type")) (l : K.lookup D = some o) (hs : o.slots[2]? = some (some (.str nm tk))) (q : R (.ok (.ret (.str nm tk))) s) :
    codeAny (model prog w) A (.call (.builtin "getset_descriptor.__get__") ⟨[.builtin "type.__name__", .ref D, .type "type"], []⟩) R s := by
  have tD := looks_typeIn (M := model prog w) X ty
  have tt : Looks (model prog w) s.heap (isSubtype (.type "type") (.type "type")) true := .of_pure (by rw [isSubtype_type]; kernel_rfl)
  have gs := KF.slot_gs
  refine codeAny_call_builtin gs.plain KF.entry_gs (gs.check _ _ _ _ _ _ _ _ ktyn_type (KF.args_gs _ _ _) ?_)
  unfold Builtin.«getset_descriptor.__get__» Builtin.Getset_descriptor.descrGet
  rw [dga_obj, pure_bind]
  show wpAny _ _ (Builtin.Getset_descriptor.descrGetter (.builtin "type.__name__") (some (.ref D))) _ _ _
  unfold Builtin.Getset_descriptor.descrGetter Builtin.Getset_descriptor.descrCheckInstance Builtin.Getset_descriptor.descrNameAndClass isInstance
  simp only [ktyn_owner]
  obtain ⟨h0, g0, d0, t0, o0⟩ := s
  repeat lk
  refine And.intro (Code.quiet_builtin _ (by decide +kernel)) (codeAny_builtin ktyn_entry ?_)
  unfold Builtin.«type.__name__» keptObject slotAt
  dsimp only
  refine wpAny_bind (wpAny_bind (wpAny_loadPart (X _ _ l) ?_))
  refine wpAny_pure ?_
  rw [hs]
  exact wpAny_pure q
end
end PySem.W
namespace RL
open PySem L2
open PyProof.Rows (envOfC)
def tCN (K : PySem.W.Frag) (to : TE) : TE := fun σ H Q => to σ H fun x H1 => ∃ a C nm, x = .ref a ∧ H1 a = some (exo a C none) ∧ PySem.W.NamC K C nm ∧ Q (.str nm) H1
theorem pe_cname {X : Cx} {o : Expr} {to : TE} {p1 p2 : Pos} (ho : PE X o to) (hb1 : attributeBase o "__class__" X.env (eval o X.env) = eval o X.env := by rfl)
    (hb2 : attributeBase (.Attribute o "__class__" p1) "__name__" X.env (eval (.Attribute o "__class__" p1) X.env) = eval (.Attribute o "__class__" p1) X.env := by rfl) : PE X (.Attribute (.Attribute o "__class__" p1) "__name__" p2) (tCN X.K to) := by
  refine ⟨fun pins s σ H Q I h => ?_⟩
  refine attr_of hb2 (attr_of hb1 (thn (ho.run pins s σ H _ I h) fun u s1 ⟨x, H1, I1, rx, a, C, nm, ex, ea, T, q⟩ => ?_))
  subst ex
  obtain rfl : u = Value.ref a := rx
  obtain ⟨t1, he⟩ := exo_at I1.hok ea
  refine PySem.W.cn_class T I1.kIn ⟨he, rfl, by unfold PySem.W.notCls; rfl, trivial⟩ ?_
  have I2 := I1.tok (s1.toks + 1)
  obtain ⟨o, tk, l, hs⟩ := T.sl
  refine PySem.W.cls_read I2.kIn T.rd T.nn ?_
  have ty : PySem.W.typeIn X.K (.ref C) = some (.type "type") := by
    have := T.rd
    simp only [PySem.W.readsIn, Bool.and_eq_true, beq_iff_eq] at this
    exact this.1.1.1.2
  show wpAny _ _ (do ret (← holding [Value.builtin "type.__name__"] (call (.builtin "getset_descriptor.__get__") [.builtin "type.__name__", .ref C, .type "type"]))) _ _ _
  refine wpAny_bind (PySem.wpAny_holding (wpAny_call (PySem.W.cn_get (I2.tok _).kIn ty l hs ?_)))
  refine wpAny_pure ?_
  show wpAny _ _ (handedOut (.str nm tk)) _ _ _
  rw [PySem.W.handedOut_of rfl]
  exact wpAny_pure ⟨.str nm, H1, I2.tok _, ⟨tk, rfl⟩, q⟩
/-! ### the wording of an error: some text -/
def leafOk : D → Bool
  | .non => true
  | .bl _ => true
  | .str _ => true
  | _ => false
def wOk : D → Bool
  | .non => true
  | .str _ => true
  | .tup l => l.all leafOk && decide (l.length ≤ 20)
  | _ => false
def rowOk : D → Bool
  | .non => true
  | .int i => decide (0 ≤ i) && decide (i ≤ 1000000)
  | _ => false
theorem sOk_repr {x : Str} (h : sOk x = true) : (reprText x).length ≤ 10002 := by
  unfold sOk at h
  simp only [Bool.and_eq_true, decide_eq_true_eq] at h
  have h1 := StrLaws.reprText_len x fun c hc => by
    have h2 := h.1
    unfold PyData.strOk at h2
    rw [Array.all_eq_true_iff_forall_mem] at h2
    have h3 := of_decide_eq_true (h2 c (Array.mem_def.mpr hc))
    omega
  omega
section
variable {K : PySem.W.Frag} {ρ : List Addr} {H : Hp} {P : Program} {w : World}
theorem leaf_repr {d : D} {v : V} {u : Value} (h : leafOk d = true) (r : RelD K ρ H d v) (rv : RelV v u) : ∃ t, ReprIs P w u t ∧ t.length ≤ 10002 := by
  cases r with
  | non => cases rv; exact ⟨_, ReprIs.none, by decide⟩
  | bl b => cases rv; exact ⟨_, ReprIs.bool b, by cases b <;> decide⟩
  | str hs =>
    obtain ⟨t, rfl⟩ := rv
    have := sOk_repr hs
    exact ⟨_, ReprIs.str _ t (by rw [sizeLine_eq]; omega), this⟩
  | int i => exact absurd h (by simp [leafOk])
  | tup a b => exact absurd h (by simp [leafOk])
  | kl a b => exact absurd h (by simp [leafOk])
  | ref a => exact absurd h (by simp [leafOk])
theorem leaves_repr : ∀ {l : List D} {vs : List V} {us : List Value}, l.all leafOk = true → RelDs K ρ H l vs → Vals vs us → ∃ ts, ReprAll P w us ts ∧ piled ts ≤ l.length * 10004
  | _, _, _, _, .nil, .nil => ⟨[], .nil, by simp [piled]⟩
  | _, _, _, h, .cons q1 q2, .cons r1 r2 => by
    simp only [List.all_cons, Bool.and_eq_true] at h
    obtain ⟨t, h1, h2⟩ := leaf_repr (P := P) (w := w) h.1 q1 r1
    obtain ⟨ts, h3, h4⟩ := leaves_repr h.2 q2 r2
    refine ⟨t :: ts, .cons h1 h3, ?_⟩
    rw [piled_cons, List.length_cons]
    omega
end
/-- {x!r} of what an error is made with: some text -/
def tFmtW (K : PySem.W.Frag) (te : TE) : TE := fun σ H Q => te σ H fun x H1 => ∃ ρ d, RelD K ρ H1 d x ∧ wOk d = true ∧ ∀ m : Str, m.length ≤ 300000 → Q (.str m) H1
theorem pe_fmtW {X : Cx} {e : Expr} {te : TE} {pos : Pos} {k : Nat} (hr : Room k X.A) (he : PE X e te) : PE X (.FormattedValue e 114 none pos) (tFmtW X.K te) := by
  refine ⟨fun pins s σ H Q I h => ?_⟩
  refine wpAny_FormattedValue_repr (thn (he.run pins s σ H _ I h) fun v s1 hv => ?_)
  obtain ⟨x, H1, I1, r1, ρ, d, q, hw, hq⟩ := hv
  cases q with
  | non =>
    cases r1
    refine pyReprObj_none (wpAny_formatField_str ⟨.str "None", H1, I1.tok _, ⟨_, rfl⟩, hq _ (by decide)⟩ ⟨.str "None", H1, I1.tok _, ⟨_, rfl⟩, hq _ (by decide)⟩ (by decide))
  | @str y hs =>
    obtain ⟨t, rfl⟩ := r1
    have hz := sOk_repr hs
    have hz2 : (reprText y).length ≤ sizeLine := by rw [sizeLine_eq]; omega
    exact pyReprObj_str (wpAny_formatField_str ⟨.str (reprText y), H1, I1.tok _, ⟨_, rfl⟩, hq _ (by omega)⟩ ⟨.str (reprText y), H1, I1.tok _, ⟨_, rfl⟩, hq _ (by omega)⟩ hz2) hz2
  | bl b => exact absurd hw (by simp [wOk])
  | int i => exact absurd hw (by simp [wOk])
  | ref a => exact absurd hw (by simp [wOk])
  | kl a b => exact absurd hw (by simp [wOk])
  | @tup l a xs ht hl =>
    cases r1
    obtain ⟨its, rv, ⟨o, ho, hcl, n, hd⟩, _⟩ := I1.tuple ht
    simp only [wOk, Bool.and_eq_true, decide_eq_true_eq] at hw
    obtain ⟨ts, h1, h2⟩ := leaves_repr (P := X.prog) (w := X.w) hw.1 hl rv
    have htx := fmt_text ts
    have hu := hr.units
    have hts : (tupleText ts).length ≤ 210000 := by omega
    refine wpAny_pyReprObj_slot (by omega) ⟨o, ho, hcl⟩ PySem.F.slot_tuple_repr (fmt_tuple_repr ho hcl hd h1 (by rw [sizeLine_eq]; omega) fun m u tk hm => ?_)
    refine ⟨m, u, rfl, ?_⟩
    exact wpAny_formatField_str ⟨.str m, H1, I1.tok _, ⟨_, rfl⟩, hq m (by omega)⟩ ⟨.str m, H1, (I1.tok _).tok _, ⟨_, rfl⟩, hq m (by omega)⟩ (by rw [sizeLine_eq]; omega)
/-- what the wording of an error promises -/
def spWd (K : PySem.W.Frag) : Sp := fun vs H Q _ => ∃ nm vw vr ρ dw dr, vs = [.str nm, vw, vr] ∧ nm.length ≤ 1000 ∧ RelD K ρ H dw vw ∧ RelD K ρ H dr vr ∧ wOk dw = true ∧ rowOk dr = true ∧ ∀ m : Str, Q (.str m) H
/-- what a class of errors must have -/
structure ErrC (K : PySem.W.Frag) (C : Addr) : Prop where
  oex : OexC K C
  nam : ∃ nm, PySem.W.NamC K C nm ∧ nm.length ≤ 1000
  what : PySem.W.findIn K (.ref C) "what" = some none
  row : PySem.W.findIn K (.ref C) "row" = some none
/-- what the making of an error promises -/
def spAE (K : PySem.W.Frag) : Sp := fun vs H Q _ => ∃ a C vw vr ρ dw dr, vs = [.ref a, vw, vr] ∧ ErrC K C ∧ H a = some (exo a C none) ∧ RelD K ρ H dw vw ∧ RelD K ρ H dr vr ∧ wOk dw = true ∧ rowOk dr = true ∧
  ∀ dx, H dx = none → dx ≠ a → Q .non (upd (upd (upd H dx (exd dx [("what", vw)])) a (exo a C (some dx))) dx (exd dx [("row", vr), ("what", vw)]))
/-! ### raise -/
def exc1 (c : Str) : List D → Option Exc
  | [w] => if wOk w = true then some ⟨c, [("row", .non), ("what", w)]⟩ else none
  | _ => none
def exc2 (c : Str) : List D → Option Exc
  | [w, r] => if wOk w = true ∧ rowOk r = true then some ⟨c, [("row", r), ("what", w)]⟩ else none
  | _ => none
def mRaise (f : List D → Option Exc) (ml : MA) : MS := fun τ g => (ml τ g).st τ fun l g1 => match f l with
  | some x => .ex x τ g1
  | none => .bad
structure Err (P : Program) (w : World) (K : PySem.W.Frag) (mg : Str → Option Value) (base : Heap) (k : Nat) (C f : Addr) : Prop where
  cls : ErrC K C
  ini : PySem.W.findIn K (.ref C) "__init__" = some (some (.ref f))
  tyi : PySem.W.typeIn K (.ref f) = some (.type "function")
  fn : ∃ fd, FnOk P w K mg base (L2.CX P w) k f fd ["self", "what", "row"] (spAE K) ∧ Binds K fd ["self", "what", "row"] [] ∧ Binds K fd ["self", "what", "row"] [.none]
theorem relD_upd {K : PySem.W.Frag} {ρ : List Addr} {H : Hp} {a : Addr} {o : HO} (h : H a = none) {d : D} {v : V} (r : RelD K ρ H d v) : RelD K ρ (upd H a o) d v :=
  r.mono (fun _ _ z => z) (fun b xs z => by
    rcases z with (z | ⟨o', z⟩) | z
    · exact .inl (.inl (by rw [upd_ne (ne_of_none z h)]; exact z))
    · exact .inl (.inr ⟨o', by rw [upd_ne (ne_of_none z h)]; exact z⟩)
    · exact .inr z) fun b xs z => by
    rcases z with ⟨o', z⟩ | z
    · exact .inl ⟨o', by rw [upd_ne (ne_of_none z h)]; exact z⟩
    · exact .inr z
section
variable {X : Cx} {cn : Str → Addr} {W : WX} {k : Nat} {c x : Str} {f : Addr} {p pos pos' : Pos} {e : Expr} {el : List Expr} {ml : MA}
theorem raise_go {σ : St} {H1 : Hp} {ρ : List Addr} {τ : T} {g : G} {dw dr : D} {vw vr : V} {a : Addr} {C : Addr} (hC : ErrC X.K C) (hc : C = cn c) (st : Stt (ux X cn) ρ τ g σ H1) (qw : RelD X.K ρ H1 dw vw) (qr : RelD X.K ρ H1 dr vr) (hw : wOk dw = true) (hr : rowOk dr = true) (ha : H1 a = none)
    (h : PostS (ux X cn) W ρ H1 (.ex ⟨c, [("row", dr), ("what", dw)]⟩ τ g) E) : spAE X.K [.ref a, vw, vr] (upd H1 a (exo a C none)) (fun v H2 => v = .non ∧ ∃ (d : Addr) (fs : List (Str × V)), H2 a = some (exo a C (some d)) ∧ H2 d = some (exd d fs) ∧ H1 d = none ∧ W (.ref C) (some d) σ (upd (del H2 a) d (.xd fs))) (fun _ _ _ => False) := by
  refine ⟨a, C, vw, vr, ρ, dw, dr, rfl, hC, upd_same, relD_upd ha qw, relD_upd ha qr, hw, hr, fun dx hd hne => ⟨rfl, dx, [("row", vr), ("what", vw)], ?_, upd_same, ?_, ?_⟩⟩
  · rw [upd_ne (Ne.symm hne), upd_same]
  · rw [upd_ne hne] at hd
    exact hd
  · rw [upd_ne hne] at hd
    have e : upd (del (upd (upd (upd (upd H1 a (exo a C none)) dx (exd dx [("what", vw)])) a (exo a C (some dx))) dx (exd dx [("row", vr), ("what", vw)])) a) dx (.xd [("row", vr), ("what", vw)]) = upd H1 dx (.xd [("row", vr), ("what", vw)]) := by
      funext b
      by_cases h1 : b = dx
      · subst h1; rw [upd_same, upd_same]
      · rw [upd_ne h1, upd_ne h1]
        by_cases h2 : b = a
        · subst h2; rw [del_same, ha]
        · rw [del_ne h2, upd_ne h1, upd_ne h2, upd_ne h1, upd_ne h2]
    rw [e]
    obtain ⟨ev, rp⟩ := Ev.new (o := .xd [("row", vr), ("what", vw)]) st.rep hd
    refine h ρ σ _ _ _ ev (st.later ev rp) ⟨by rw [hc], dx, _, rfl, upd_same, fun z => ?_⟩
    by_cases z1 : z = "row"
    · subst z1
      exact ev.rel st.rep qr
    · by_cases z2 : z = "what"
      · subst z2
        exact ev.rel st.rep qw
      · have e1 : (z == "row") = false := by simpa using z1
        have e2 : (z == "what") = false := by simpa using z2
        simp only [List.lookup, e1, e2]
        trivial
theorem rs_raise1 (F : Fit X W) (D : Err X.prog X.w X.K X.mg X.base k (cn c) f) (hr : Room (k + 1) X.A) (hg : Gl X x) (hm : X.mg x = some (.ref (cn c))) (ha : RA X cn W (e :: el) ml) (hdb : (x == ("__debug__" : Str)) = false := by decide)
    (he : starEach (e :: el) X.env = (false, eval e X.env) :: starEach el X.env := by rfl) (hpl : (backTo pos (starEach el X.env)).any (·.1) = false := by rfl) :
    RS X cn W (.Raise (some (.Call (.Name x p) (e :: el) [] pos)) none pos') (mRaise (exc1 c) ml) := by
  obtain ⟨fd, Fn, b2, b1⟩ := D.fn
  refine psI (ps_raise F.calm F.tk (pmk_oex (dvs := [.non]) D.cls.oex D.ini D.tyi Fn hr b1 (.cons rfl .nil) passL hg hm ha hdb he hpl)) fun E σ H ⟨ρ, τ, g, s, p⟩ => ?_
  refine ⟨ρ, τ, g, s, PostS.thn (Rl := rDs (ux X cn)) p s fun ρ1 vs H1 l g1 e1 r1 q1 s1 p1 => ?_⟩
  cases h : exc1 c l with
  | none => rw [h] at p1; exact p1.elim
  | some x =>
    rw [h] at p1
    unfold exc1 at h
    split at h
    · split at h
      · rename_i w hw
        cases h
        cases q1 with
        | cons q q0 =>
          cases q0
          exact ⟨by simp, fun a ha' => raise_go D.cls rfl s1 q .non hw rfl ha' p1⟩
      · cases h
    · cases h
theorem rs_raise2 (F : Fit X W) (D : Err X.prog X.w X.K X.mg X.base k (cn c) f) (hr : Room (k + 1) X.A) (hg : Gl X x) (hm : X.mg x = some (.ref (cn c))) (ha : RA X cn W (e :: el) ml) (hdb : (x == ("__debug__" : Str)) = false := by decide)
    (he : starEach (e :: el) X.env = (false, eval e X.env) :: starEach el X.env := by rfl) (hpl : (backTo pos (starEach el X.env)).any (·.1) = false := by rfl) :
    RS X cn W (.Raise (some (.Call (.Name x p) (e :: el) [] pos)) none pos') (mRaise (exc2 c) ml) := by
  obtain ⟨fd, Fn, b2, b1⟩ := D.fn
  refine psI (ps_raise F.calm F.tk (pmk_oex (dvs := []) D.cls.oex D.ini D.tyi Fn hr b2 .nil passL hg hm ha hdb he hpl)) fun E σ H ⟨ρ, τ, g, s, p⟩ => ?_
  refine ⟨ρ, τ, g, s, PostS.thn (Rl := rDs (ux X cn)) p s fun ρ1 vs H1 l g1 e1 r1 q1 s1 p1 => ?_⟩
  cases h : exc2 c l with
  | none => rw [h] at p1; exact p1.elim
  | some x =>
    rw [h] at p1
    unfold exc2 at h
    split at h
    · split at h
      · rename_i w r hw
        cases h
        cases q1 with
        | cons q q0 =>
          cases q0 with
          | cons q' q0 =>
            cases q0
            exact ⟨by simp, fun a ha' => raise_go D.cls rfl s1 q q' hw.1 hw.2 ha' p1⟩
      · cases h
    · cases h
end
end RL
namespace RL
open PySem L2 PySem.Spec
open PyProof.Rows (envOfC)
/-! ### try, by the library's rules for it (ps_try_as, ps_try_many) -/
def clrE (i : Nat) (D : Ends) : Ends := { nx := fun σ' H' => D.nx (σ'.set i none) H', rt := D.rt, bk := fun σ' H' => D.bk (σ'.set i none) H', ct := fun σ' H' => D.ct (σ'.set i none) H' }
/-! ### the same over plain computations -/
/-- which classes of errors a clause takes -/
def subE (e c : Str) : Bool := e == c || c == "AccessError"
def clrR (i : Nat) : SR → SR
  | .nx τ g => .nx (τ.set i none) g
  | .bk τ g => .bk (τ.set i none) g
  | .ct τ g => .ct (τ.set i none) g
  | .ex _ _ _ => .bad
  | r => r
def noEx : SR → SR
  | .ex _ _ _ => .bad
  | r => r
abbrev MClause := Str × Option Nat × (Exc → MS)
def hGo (x : Exc) : List MClause → MS
  | [] => fun τ g => .ex x τ g
  | (c, none, ms) :: r => fun τ g => if subE x.cls c = true then noEx (ms x τ g) else hGo x r τ g
  | (c, some i, ms) :: r => fun τ g => if subE x.cls c = true then clrR i (ms x (τ.set i none) g) else hGo x r τ g
def mTry (es : List Str) (l : List MClause) (mb : MS) : MS := fun τ g => match mb τ g with
  | .ex x τ1 g1 => if x.cls ∈ es then hGo x l τ1 g1 else .bad
  | r => r
/-- a suite: what it does with the error x, at a, in slot i -/
def tX (U₀ : U) (es : List Str) (i : Option Nat) (ms : Exc → MS) : Addr → Value → Option Addr → TS := fun a cls d E σ H => ∃ ρ τ g x, x.cls ∈ es ∧ Stt U₀ ρ τ g σ H ∧ XRel U₀ ρ H x cls d ∧ (∀ j, i = some j → j < σ.length → σ[j]? = some (some (.ref a))) ∧ PostS U₀ WN ρ H (ms x τ g) E
section
variable {X : Cx} {cn : Str → Addr} {W : WX} {es : List Str} {body : List Stmt} {pos : Pos} {mb : MS} {U₀ : U}
theorem Stt.held {ρ : List Addr} {τ : T} {g : G} {σ : L2.St} {H : Hp} {i : Nat} {v : V} (s : Stt U₀ ρ τ g σ H) : Stt U₀ ρ (τ.set i Option.none) g (σ.set i (some v)) H := by
  refine ⟨by simp [s.len], fun j d' h => ?_, s.rep⟩
  by_cases hj : i = j
  · subst hj
    have hi : i < τ.length := by
      have := (List.getElem?_eq_some_iff.mp h).1
      simpa using this
    rw [List.getElem?_set_self hi] at h
    cases h
  · rw [List.getElem?_set_ne hj] at h ⊢
    exact s.sl j d' h
theorem noEx_post {ρ : List Addr} {H : Hp} {r : SR} {D : Ends} (p : PostS U₀ W ρ H (noEx r) D) : PostS U₀ WN ρ H r D := by
  cases r with
  | ex x τ g => exact p.elim
  | _ => exact p
theorem clr_post {ρ : List Addr} {H : Hp} {r : SR} {D : Ends} {i : Nat} (p : PostS U₀ W ρ H (clrR i r) D) : PostS U₀ WN ρ H r (clrE i D) := by
  cases r with
  | nx τ g => exact fun ρ' σ' H' e s => p ρ' _ H' e s.none
  | bk τ g => exact fun ρ' σ' H' e s => p ρ' _ H' e s.none
  | ct τ g => exact fun ρ' σ' H' e s => p ρ' _ H' e s.none
  | ex x τ g => exact p.elim
  | _ => exact p
/-- which errors a clause names -/
def CatchOk (X : Cx) (cn : Str → Addr) (es : List Str) (x c : Str) : Prop := Names X x (.ref (cn c)) ∧ ∀ e ∈ es, PySem.W.exmOne X.K (.ref (cn e)) (.ref (cn c)) = some (subE e c)
/-- a suite of a clause follows ms -/
def SuiteOk (X : Cx) (cn : Str → Addr) (es : List Str) (i : Option Nat) (suite : List Stmt) (ms : Exc → MS) : Prop := ∀ (a : Addr) (oe : PySem.Obj) (cls : Value) (d : Option Addr) (pn : List (Addr × PySem.Obj)), Zc cls d oe → (∃ vs, oe.data = .fields vs) → PSs (X.suite a ((a, oe) :: pn)) suite (tX (ux X cn) es i ms a cls d)
theorem try_split {l : List MClause} {τ : T} {g : G} {ρ : List Addr} {H : Hp} {D : Ends} {Wi : WX} (p : PostS (ux X cn) W ρ H (mTry es l mb τ g) D)
    (hw : ∀ (x : Exc) (τ1 : T) (g1 : G) (ρ' : List Addr) (σ' : L2.St) (H' : Hp) (cls : Value) (d : Option Addr), x.cls ∈ es → Stt (ux X cn) ρ' τ1 g1 σ' H' → XRel (ux X cn) ρ' H' x cls d → PostS (ux X cn) W ρ' H' (hGo x l τ1 g1) D → Wi cls d σ' H') : PostS (ux X cn) Wi ρ H (mb τ g) D := by
  unfold mTry at p
  cases h : mb τ g with
  | ex x τ1 g1 =>
    rw [h] at p
    dsimp only at p
    split at p
    · rename_i hx
      exact fun ρ' σ' H' cls d e1 s1 q1 => hw x τ1 g1 ρ' σ' H' cls d hx s1 q1 (PostS.later p e1)
    · exact p.elim
  | _ => rw [h] at p; exact p
/-- one clause with a name -/
theorem rs_tryN {x n c : Str} {i : Nat} {ms : Exc → MS} {b₀ : Stmt} {suite : List Stmt} {np pos' : Pos} (F : Fit X W) (hs : X.stack = X.env :: X.outer) (hf : X.env.frame = some X.env.locals) (hN : X.N.Nodup) (hi : X.N[i]? = some n) (hln : X.env.kindOf n = some .local)
    (hb : ∀ (W' : WX) (pn : List (Addr × PySem.Obj)) (xe : Value → Shared → Prop), Fit (X.tr pn xe) W' → RSs (X.tr pn xe) cn W' body mb) (hc : CatchOk X cn es x c) (hsu : SuiteOk X cn es (some i) (b₀ :: suite) ms) :
    RS X cn W (.Try body [.ExceptHandler (some (.Name x np)) (some n) (b₀ :: suite) pos'] [] [] pos) (mTry es [(c, some i, ms)] mb) := by
  refine psI (ps_try_as (tb := fun W' => tS (ux X cn) W' mb) hs hf hN hi hln hc.1 F.tk (fun W' pn xe tk pw => hb W' pn xe ⟨tk, pw, F.calm⟩) hsu) fun D σ H ⟨ρ, τ, g, s, p⟩ => ⟨ρ, τ, g, s, try_split p fun e τ1 g1 ρ' σ' H' cls d hx s1 q1 p1 => ?_⟩
  have ec := q1.1
  subst ec
  refine ⟨_, hc.2 _ hx, fun hy a ha => ?_, fun hy => ?_⟩
  · unfold hGo at p1
    rw [if_pos hy] at p1
    refine ⟨ρ', τ1.set i none, g1, e, hx, s1.held, q1, fun j z hj => ?_, clr_post p1⟩
    cases z
    rw [List.length_set] at hj
    exact List.getElem?_set_self hj
  · unfold hGo at p1
    rw [hy, if_neg Bool.false_ne_true] at p1
    exact p1 ρ' σ' H' _ _ Ev.refl s1 q1
/-- one clause without a name -/
theorem rs_tryP {x c : Str} {ms : Exc → MS} {b₀ : Stmt} {suite : List Stmt} {np pos' : Pos} (F : Fit X W) (hs : X.stack = X.env :: X.outer) (hf : X.env.frame = some X.env.locals)
    (hb : ∀ (W' : WX) (pn : List (Addr × PySem.Obj)) (xe : Value → Shared → Prop), Fit (X.tr pn xe) W' → RSs (X.tr pn xe) cn W' body mb) (hc : CatchOk X cn es x c) (hsu : SuiteOk X cn es none (b₀ :: suite) ms) :
    RS X cn W (.Try body [.ExceptHandler (some (.Name x np)) none (b₀ :: suite) pos'] [] [] pos) (mTry es [(c, none, ms)] mb) := by
  refine psI (ps_try_many (tb := fun W' => tS (ux X cn) W' mb) hs hf F.tk (fun W' pn xe tk pw => hb W' pn xe ⟨tk, pw, F.calm⟩) (.cons hc.1 hsu .nil)) fun D σ H ⟨ρ, τ, g, s, p⟩ => ⟨ρ, τ, g, s, try_split p fun e τ1 g1 ρ' σ' H' cls d hx s1 q1 p1 => ?_⟩
  have ec := q1.1
  subst ec
  refine ⟨_, hc.2 _ hx, fun hy a ha => ?_, fun hy => ?_⟩
  · unfold hGo at p1
    rw [if_pos hy] at p1
    exact ⟨ρ', τ1, g1, e, hx, s1, q1, fun j z => (by cases z), noEx_post p1⟩
  · unfold hGo at p1
    rw [hy, if_neg Bool.false_ne_true] at p1
    exact p1 ρ' σ' H' _ _ Ev.refl s1 q1
end
end RL
namespace RL
open PySem L2 PySem.Spec
/-! ### the caught error, read in its suite -/
section
variable {U₀ : U} {ρ ρ' : List Addr} {H H' : Hp} {g : G}
theorem Rep.noxd (r : Rep U₀ ρ H g) {a : Addr} {fs : List (Str × V)} (h : H a = some (.xd fs)) : a ∉ ρ := fun m => by
  obtain ⟨i, o, _, _, q⟩ := r.there m
  cases o with
  | lst l => obtain ⟨_, e, _⟩ := q; rw [h] at e; cases e
  | rol l => obtain ⟨_, _, e, _⟩ := q; rw [h] at e; cases e
  | dct k l =>
    cases k with
    | false => obtain ⟨_, e, ⟨_, rfl, _⟩ | ⟨_, rfl, _⟩⟩ := q <;> rw [h] at e <;> cases e
    | true => obtain ⟨_, _, e, _⟩ := q; rw [h] at e; cases e
  | ins c fs => obtain ⟨_, _, e, _⟩ := q; rw [h] at e; cases e
theorem XRel.later {x : Exc} {cls : Value} {d : Option Addr} (q : XRel U₀ ρ H x cls d) (e : Ev ρ H ρ' H') (r : Rep U₀ ρ H g) : XRel U₀ ρ' H' x cls d := by
  obtain ⟨h1, dx, fs, h2, h3, h4⟩ := q
  exact ⟨h1, dx, fs, h2, e.frm _ _ h3 (r.noxd h3), fun f => (h4 f).mono fun z => e.rel r z⟩
end
/-- the error x lies at a, which stands in slot i -/
structure XAt (U₀ : U) (es : List Str) (i : Option Nat) (a : Addr) (cls : Value) (d : Option Addr) (x : Exc) (ρ : List Addr) (σ : L2.St) (H : Hp) : Prop where
  mem : x.cls ∈ es
  rel : XRel U₀ ρ H x cls d
  sl : ∀ j, i = some j → j < σ.length → σ[j]? = some (some (.ref a))
theorem XAt.later {U₀ : U} {es : List Str} {i : Option Nat} {a : Addr} {cls : Value} {d : Option Addr} {x : Exc} {ρ ρ' : List Addr} {σ : L2.St} {H H' : Hp} {g : G} (q : XAt U₀ es i a cls d x ρ σ H) (e : Ev ρ H ρ' H') (r : Rep U₀ ρ H g) : XAt U₀ es i a cls d x ρ' σ H' := ⟨q.mem, q.rel.later e r, q.sl⟩
def tEX (U₀ : U) (es : List Str) (i : Option Nat) (a : Addr) (cls : Value) (d : Option Addr) (m : Exc → ME) : TE := fun σ H Q => ∃ ρ τ g x, XAt U₀ es i a cls d x ρ σ H ∧ Stt U₀ ρ τ g σ H ∧ Post U₀ (rD U₀) WN σ ρ H (m x τ g) Q
def tAX (U₀ : U) (es : List Str) (i : Option Nat) (a : Addr) (cls : Value) (d : Option Addr) (m : Exc → MA) : TA := fun σ H Q => ∃ ρ τ g x, XAt U₀ es i a cls d x ρ σ H ∧ Stt U₀ ρ τ g σ H ∧ Post U₀ (rDs U₀) WN σ ρ H (m x τ g) Q
def mXf (f : Str) : Exc → ME := fun x _ g => optR (x.fs.lookup f) g
def mRetX (m : Exc → ME) : Exc → MS := fun x => mRet (m x)
def ExF (K : PySem.W.Frag) (cn : Str → Addr) (es : List Str) (f : Str) : Prop := ∀ c ∈ es, XfC K (cn c) ∧ PySem.W.findIn K (.ref (cn c)) f = some none
section
variable {X : Cx} {cn : Str → Addr} {es : List Str} {i : Nat} {io : Option Nat} {a : Addr} {oe : PySem.Obj} {cls : Value} {d : Option Addr} {pn : List (Addr × PySem.Obj)} {e e2 : Expr} {el : List Expr} {m m2 : Exc → ME} {ml : Exc → MA} {pos : Pos} {n f : Str}
theorem rex_of {m : ME} (h : RE (X.suite a pn) cn WN e m) : PE (X.suite a pn) e (tEX (ux X cn) es io a cls d fun _ => m) := peI h fun σ H Q ⟨ρ, τ, g, x, xa, st, p⟩ => ⟨ρ, τ, g, st, p⟩
theorem rex_fld {p2 : Pos} (T : ExF X.K cn es f) (hz : Zc cls d oe) (hf : ∃ vs, oe.data = .fields vs) (hi : X.N[i]? = some n) (hv : Vis X.env.scope n) (hb : attributeBase (.Name n p2) f X.env (eval (.Name n p2) X.env) = eval (.Name n p2) X.env := by rfl) (hd : (n == ("__debug__" : Str)) = false := by decide)
    (hcd : (n == ("__classdict__" : Str)) = false := by decide) : PE (X.suite a ((a, oe) :: pn)) (.Attribute (.Name n p2) f pos) (tEX (ux X cn) es (some i) a cls d (mXf f)) := by
  refine ⟨fun pins s σ H Q I ⟨ρ, τ, g, x, xa, st, p⟩ => ?_⟩
  obtain ⟨T1, T2⟩ := T _ xa.mem
  obtain ⟨hc, dx, fs, hdx, hx, hr⟩ := xa.rel
  have hi2 : i < σ.length := by
    rw [I.len]
    exact (List.getElem?_eq_some_iff.mp hi).1
  unfold mXf at p
  cases hl : x.fs.lookup f with
  | none => rw [hl] at p; exact p.elim
  | some dv =>
    rw [hl] at p
    have h4 := hr f
    rw [hl] at h4
    obtain ⟨v, h5, h6⟩ := h4.some_of
    exact (pe_xf (C := cn x.cls) T1 T2 hz hf (pe_var hi hv hd hcd) hb).run pins s σ H Q I ⟨_, xa.sl i rfl hi2, rfl, hc, dx, fs, v, hdx, hx, h5, Post.at (Rl := rD (ux X cn)) p st.rep h6⟩
theorem rax_nil : PA (X.suite a pn) [] (tAX (ux X cn) es io a cls d fun _ => mNil) := paI pa_nil fun σ H Q ⟨ρ, τ, g, x, xa, st, p⟩ => p.at st.rep .nil
theorem rax_cons (ha : PE (X.suite a pn) e (tEX (ux X cn) es io a cls d m)) (hr : PA (X.suite a pn) el (tAX (ux X cn) es io a cls d ml)) (hs : starEach (e :: el) X.env = (false, eval e X.env) :: starEach el X.env := by rfl) : PA (X.suite a pn) (e :: el) (tAX (ux X cn) es io a cls d fun x => mCons (m x) (ml x)) := by
  refine paI (pa_cons ha hr hs) fun σ H Q ⟨ρ, τ, g, x, xa, s, p⟩ => ?_
  refine ⟨ρ, τ, g, x, xa, s, p.thn fun ρ1 v H1 d1 g1 e1 r1 q1 p1 => ?_⟩
  refine ⟨ρ1, τ, g1, x, xa.later e1 s.rep, s.later e1 r1, p1.thn fun ρ2 vs H2 ds g2 e2 r2 q2 p2 => ?_⟩
  exact p2.at r2 (.cons (e2.rel r1 q1) q2)
theorem rex_tup {k} (h : PA (X.suite a pn) el (tAX (ux X cn) es io a cls d ml)) : PE (X.suite a pn) (.Tuple el k pos) (tEX (ux X cn) es io a cls d fun x => mUnA fTup (ml x)) := by
  refine peI (pe_tup h) fun σ H Q ⟨ρ, τ, g, x, xa, s, p⟩ => ⟨ρ, τ, g, x, xa, s, p.thn fun ρ1 vs H1 l g1 e1 r1 q1 p1 => ?_⟩
  obtain ⟨hl, p2⟩ := Post.ck p1
  refine ⟨by rw [← q1.length]; exact Nat.le_trans hl (by rw [sizeLine_eq]; decide), fun p hp => ?_⟩
  obtain ⟨ev, rp⟩ := Ev.new (o := .tup vs) r1 hp
  exact p2 ρ1 _ _ ev rp (.tup (.inl (.inl upd_same)) (ev.rels r1 q1))
theorem rex_isN (ha : PE (X.suite a pn) e (tEX (ux X cn) es io a cls d m)) {j pos'} : PE (X.suite a pn) (.Compare e [.Is] [.Constant .none j pos'] pos) (tEX (ux X cn) es io a cls d fun x => mUn (fIsN true) (m x)) := by
  refine peI (pe_cmp (pc_isN ha)) fun σ H Q ⟨ρ, τ, g, x, xa, st, p⟩ => ⟨ρ, τ, g, x, xa, st, p.thn fun ρ1 v H1 d1 g1 e1 r1 q1 p1 => ?_⟩
  have z : decide (v = V.non) = decide (d1 = RL.D.non) := by cases q1 <;> simp
  rw [z]
  exact p1.at r1 (.bl _)
theorem rex_cmp {op : CmpOp} {r : R2} {f : RL.D → RL.D → M RL.D} (ho : OpR (X.suite a pn) (compareOp op) r) (s : S2 (ux X cn) r f) (ha : PE (X.suite a pn) e (tEX (ux X cn) es io a cls d m)) (hb : PE (X.suite a pn) e2 (tEX (ux X cn) es io a cls d m2)) (hm : behindInMarks op e2 = false) :
    PE (X.suite a pn) (.Compare e [op] [e2] pos) (tEX (ux X cn) es io a cls d fun x => mOp f (m x) (m2 x)) := by
  refine peI (pe_cmpR ho ha hb hm) ?_
  rintro σ H Q ⟨ρ, τ, g, x, xa, st, p⟩
  refine ⟨ρ, τ, g, x, xa, st, p.thn fun ρ1 v H1 d1 g1 e1 r1 q1 p1 => ?_⟩
  refine ⟨ρ1, τ, g1, x, xa.later e1 st.rep, st.later e1 r1, p1.thn fun ρ2 u H2 d2 g2 e2 r2 q2 p2 => ?_⟩
  exact s WN σ ρ2 H2 g2 d1 d2 v u Q r2 (e2.rel r1 q1) q2 p2
theorem rex_and (ha : PE (X.suite a pn) e (tEX (ux X cn) es io a cls d m)) (hb : PE (X.suite a pn) (.BoolOp .And (e2 :: el) pos) (tEX (ux X cn) es io a cls d m2)) : PE (X.suite a pn) (.BoolOp .And (e :: e2 :: el) pos) (tEX (ux X cn) es io a cls d fun x => mAnd (m x) (m2 x)) := by
  refine peI (pe_and ha hb) fun σ H Q ⟨ρ, τ, g, x, xa, s, p⟩ => ⟨ρ, τ, g, x, xa, s, p.thn fun ρ1 v H1 d1 g1 e1 r1 q1 p1 => ?_⟩
  cases q1 <;> first | exact p1.elim | skip
  rename_i k
  refine ⟨k, rfl, ?_⟩
  cases k with
  | true => exact ⟨ρ1, τ, g1, x, xa.later e1 s.rep, s.later e1 r1, p1⟩
  | false => exact p1.at r1 (.bl _)
theorem rex_one {op} (h : PE (X.suite a pn) e (tEX (ux X cn) es io a cls d m)) : PE (X.suite a pn) (.BoolOp op [e] pos) (tEX (ux X cn) es io a cls d m) := pe_one h
theorem rsx_ret (he : PE (X.suite a pn) e (tEX (ux X cn) es io a cls d m)) : PSs (X.suite a pn) [.Return (some e) pos] (tX (ux X cn) es io (mRetX m) a cls d) :=
  pssI (pss_one (ps_ret he)) fun E σ H ⟨ρ, τ, g, x, hx, s, q, sl, p⟩ => ⟨ρ, τ, g, x, ⟨hx, q, sl⟩, s, PostS.thn (Rl := rD (ux X cn)) p s fun ρ1 v H1 d g1 e1 r1 q1 s1 p1 => p1 ρ1 v H1 Ev.refl r1 q1⟩
theorem rsx_of {sl : List Stmt} {ms : MS} (h : RSs (X.suite a pn) cn WN sl ms) : PSs (X.suite a pn) sl (tX (ux X cn) es io (fun _ => ms) a cls d) :=
  pssI h fun E σ H ⟨ρ, τ, g, x, hx, s, q, sl, p⟩ => ⟨ρ, τ, g, s, p⟩
end
end RL
namespace RL
open PySem L2 PySem.Spec
/-! ### types -/
inductive Ty where
  | non | bl | int | str | tup | lst | dct
  deriving DecidableEq
def Ty.name : Ty → String
  | .non => "NoneType"
  | .bl => "bool"
  | .int => "int"
  | .str => "str"
  | .tup => "tuple"
  | .lst => "list"
  | .dct => "dict"
def isaT (t T : Ty) : Bool := decide (t = T) || (decide (t = .bl) && decide (T = .int))
def tyD (g : G) : D → Option Ty
  | .non => some .non
  | .bl _ => some .bl
  | .int _ => some .int
  | .str _ => some .str
  | .tup _ => some .tup
  | .kl _ => some .lst
  | .ref n => match g[n]? with
    | some (.lst _) => some .lst
    | some (.rol _) => some .lst
    | some (.dct _ _) => some .dct
    | _ => none
theorem kit_all : ∀ t T : Ty, T ≠ .non → kitB t.name T.name = some (isaT t T) := by
  intro t T h
  cases T <;> first | exact absurd rfl h | (cases t <;> decide +kernel)
def fIsi (T : Ty) : D → M D := fun x g => match tyD g x with
  | some t => ck (t ≠ .dct ∧ T ≠ .non) (.ok (.bl (isaT t T)) g)
  | none => .bad
section
variable {X : Cx} {cn : Str → Addr} {W : WX} {m : ME} {e : Expr} {p p2 pos : Pos}
theorem re_isi {T : Ty} {x : Str} (hx : x = Str.ofString T.name) (hg : Gl X "isinstance") (hm : X.mg "isinstance" = none) (hgT : Gl X x) (hmT : X.mg x = none) (hv : bootBuiltins x = some (.type T.name)) (he : RE X cn W e m) (hn : x ≠ "__name__" := by decide) (hd : (x == ("__debug__" : Str)) = false := by decide)
    (hs : starEach [e, .Name x p2] X.env = (false, eval e X.env) :: starEach [.Name x p2] X.env := by rfl) (hpl : (backTo pos (starEach [.Name x p2] X.env)).any (·.1) = false := by rfl) : RE X cn W (.Call (.Name "isinstance" p) [e, .Name x p2] [] pos) (mUn (fIsi T) m) := by
  refine peI (pe_callB call_isi hg hm PyProof.Rows.boot_isinstance (pa_cons he (pa_cons (pe_bltn (v := .ty T.name) hgT hmT hv rfl hn hd) pa_nil) hs) (he := hs) (hpl := hpl)) fun σ H Q ⟨ρ, τ, g, s, p⟩ => ⟨ρ, τ, g, s, p.thn fun ρ1 v H1 d g1 e1 r1 q1 p1 => ?_⟩
  unfold fIsi at p1
  split at p1
  · rename_i t ht
    obtain ⟨⟨h1, h2⟩, p2⟩ := Post.ck p1
    have ty : TyX X.K H1 v (.type t.name) := by
      cases q1 with
      | non => cases ht; exact .base .non
      | bl b => cases ht; exact .base (.bl b)
      | int i => cases ht; exact .base (.int i)
      | str hs => cases ht; exact .base (.str _)
      | tup hq _ =>
        cases ht
        rcases hq with (hq | ⟨o, hq⟩) | ⟨o, its, n, hk, hc, _⟩
        · exact .base (.tup hq)
        · exact .fTuple hq
        · exact .kTuple hk hc
      | kl hq _ =>
        cases ht
        rcases hq with ⟨o, hq⟩ | ⟨o, its, n, hk, hc, _⟩
        · exact .base (.frz hq)
        · exact .kList hk hc
      | ref ha =>
        unfold tyD at ht
        dsimp only at ht
        split at ht
        · rename_i l hg
          cases ht
          obtain ⟨xs, h, _⟩ := r1.lst hg ha
          exact .base (.lst h)
        · rename_i l hg
          cases ht
          obtain ⟨xs, o, h, _⟩ := r1.rol hg ha
          exact .base (.frz h)
        · cases ht
          exact absurd rfl h1
        · cases ht
    exact ⟨v, _, _, _, _, rfl, .ty _, ty, kit_ty (kit_all t T h2), Post.at (Rl := rD (ux X cn)) p2 r1 (.bl _)⟩
  · exact p1.elim
end
/-! ### methods of built-in types -/
theorem ty_is {X : Cx} {cn : Str → Addr} {pins : List (Addr × PySem.Obj)} {σ : L2.St} {H : Hp} {s : Shared} {ρ : List Addr} {g : G} {d : D} {v : V} {u : Value} {T : Ty} (I : Inv X pins σ H s) (R : Rep (ux X cn) ρ H g) (q : RelD X.K ρ H d v) (r : RelV v u) (ht : tyD g d = some T) (hT : T = .str ∨ T = .lst ∨ T = .dct) :
    s.TypeIs u T.name ∧ ∀ a, u = .ref a → ∃ ob, s.heap.get? a = some ob ∧ ob.dict = none := by
  cases q with
  | non => cases ht; simp at hT
  | bl b => cases ht; simp at hT
  | int i => cases ht; simp at hT
  | tup _ _ => cases ht; simp at hT
  | kl hq _ =>
    cases ht
    exact tyV_is I r (.inl ⟨rfl, _, hq.seq⟩)
  | str hs =>
    cases ht
    exact tyV_is I r (show tyV X.K "str" (.str _) H from rfl)
  | @ref n a ha =>
    unfold tyD at ht
    dsimp only at ht
    split at ht
    · rename_i l hg
      cases ht
      obtain ⟨xs, h, _⟩ := R.lst hg ha
      exact tyV_is I r (.inl ⟨rfl, xs, .of h⟩)
    · rename_i l hg
      cases ht
      obtain ⟨xs, o, h, _⟩ := R.rol hg ha
      exact tyV_is I r (.inl ⟨rfl, xs, .inl (.inr ⟨o, h⟩)⟩)
    · rename_i lk kvs hg
      cases ht
      cases r
      obtain ⟨w, h1, h2⟩ := R.dct hg ha
      have z : ∃ o, s.heap.get? a = some o ∧ o.ExactDict := by
        rcases h2 with ⟨ks, rfl, _⟩ | ⟨xs, rfl, _⟩
        · obtain ⟨_, _, _, _, o, _, _, e, ex, _⟩ := h1.ok I.hok
          exact ⟨o, e, ex⟩
        · obtain ⟨_, _, _, o, _, _, e, ex, _⟩ := dP_rd I.hok h1
          exact ⟨o, e, ex⟩
      obtain ⟨o, e, ex⟩ := z
      refine ⟨⟨o, e, ex.1⟩, fun a e2 => ?_⟩
      cases e2
      exact ⟨o, e, ex.2.1⟩
    · cases ht
def mBM (T : Ty) (f : D → List D → M D) (o : ME) (a : MA) : ME := fun τ g => (o τ g).bind fun x g1 => ck (tyD g1 x = some T) ((a τ g1).bind fun l g2 => f x l g2)
/-- the built-in's method id follows f -/
def MtD (X : Cx) (cn : Str → Addr) (id : String) (f : D → List D → M D) : Prop := ∀ (W : WX) (pins : List (Addr × PySem.Obj)) (s : Shared) (σ : L2.St) (H : Hp) (x : V) (xs : List V) (v : Value) (us : List Value) (Q : VK) (ρ : List Addr) (g : G) (d : D) (l : List D),
  Inv X pins σ H s → RelV x v → Vals xs us → Rep (ux X cn) ρ H g → RelD X.K ρ H d x → RelDs X.K ρ H l xs → Post (ux X cn) (rD (ux X cn)) W σ ρ H (f d l g) Q → wpAny (model X.prog X.w) X.A (call (.builtin id) (v :: us)) (EP X pins σ Q) X.xe s
section
variable {X : Cx} {cn : Str → Addr} {W : WX} {mo : ME} {ml : MA} {o e : Expr} {es : List Expr} {apos cpos : Pos} {T : Ty} {id : String} {name : Str} {f : D → List D → M D}
theorem re_bm0 (hT : T = .str ∨ T = .lst ∨ T = .dct) (pa : PlainAttrs T.name) (slot : Slot T.name name id) (hty : typeOf (.builtin id) = pure (.type "method_descriptor")) (hm : MtD X cn id f) (ho : RE X cn W o mo)
    (hbase : attributeBase o name X.env (eval o X.env) = eval o X.env := by rfl) (hline : (apos.endLine == cpos.line) = true := by rfl) : RE X cn W (.Call (.Attribute o name apos) [] [] cpos) (mBM T f mo mNil) := by
  refine ⟨fun pins s σ H Q I ⟨ρ, τ, g, st, h⟩ => ?_⟩
  refine wpAny_Call_method0_late hbase hline (thn (ho.run pins s σ H (fun ov H1 => ∃ ρ1 g1 x, Rep (ux X cn) ρ1 H1 g1 ∧ RelD X.K ρ1 H1 x ov ∧ Post (ux X cn) (rD (ux X cn)) W σ ρ1 H1 (ck (tyD g1 x = some T) ((mNil τ g1).bind fun l g2 => f x l g2)) Q) I ⟨ρ, τ, g, st, h.thn fun ρ1 v H1 d g1 e1 r1 q1 p1 => ⟨ρ1, g1, d, r1, q1, p1⟩⟩) fun v s1 ⟨x, H1, I1, rx, ρ1, g1, d, r1, q1, p1⟩ => ?_)
  obtain ⟨ht, p2⟩ := Post.ck p1
  obtain ⟨h1, h2⟩ := ty_is I1 r1 q1 rx ht hT
  exact ⟨T.name, id, pa, slot, hty, h1, h2, Calls.callWith_builtin rfl (PySem.evalArgs_none (hm W pins s1 σ H1 x [] v [] Q ρ1 g1 d [] I1 rx .nil r1 q1 .nil p2))⟩
theorem re_bm (hT : T = .str ∨ T = .lst ∨ T = .dct) (pa : PlainAttrs T.name) (slot : Slot T.name name id) (hty : typeOf (.builtin id) = pure (.type "method_descriptor")) (hm : MtD X cn id f) (ho : RE X cn W o mo) (ha : RA X cn W (e :: es) ml)
    (hbase : attributeBase o name X.env (eval o X.env) = eval o X.env := by rfl)
    (hfew : ((backTo cpos (starEach (e :: es) X.env)).all (fun x => !x.1) && (backToKw cpos (keywordEach [] X.env)).all (fun x => x.1.isSome)
      && decide ((e :: es).length + ([] : List Keyword).length + (if ([] : List Keyword).isEmpty then 0 else 1) < 30)) = true := by rfl)
    (hline : (apos.endLine == cpos.line) = true := by rfl) (hs : starEach (e :: es) X.env = (false, eval e X.env) :: starEach es X.env := by rfl) (hplain : (backTo cpos (starEach es X.env)).any (·.1) = false := by rfl) :
    RE X cn W (.Call (.Attribute o name apos) (e :: es) [] cpos) (mBM T f mo ml) := by
  refine ⟨fun pins s σ H Q I ⟨ρ, τ, g, st, h⟩ => ?_⟩
  refine wpAny_Call_method_late hbase hfew hline rfl (thn (ho.run pins s σ H (fun ov H1 => ∃ ρ1 g1 x, Stt (ux X cn) ρ1 τ g1 σ H1 ∧ RelD X.K ρ1 H1 x ov ∧ Post (ux X cn) (rD (ux X cn)) W σ ρ1 H1 (ck (tyD g1 x = some T) ((ml τ g1).bind fun l g2 => f x l g2)) Q) I ⟨ρ, τ, g, st, h.thn fun ρ1 v H1 d g1 e1 r1 q1 p1 => ⟨ρ1, g1, d, st.later e1 r1, q1, p1⟩⟩) fun v s1 ⟨x, H1, I1, rx, ρ1, g1, d, st1, q1, p1⟩ => ?_)
  obtain ⟨ht, p2⟩ := Post.ck p1
  obtain ⟨h1, h2⟩ := ty_is I1 st1.rep q1 rx ht hT
  refine ⟨T.name, id, pa, slot, hty, h1, h2, ?_⟩
  have hA := ha.run cpos pins s1 σ H1 (fun vs H2 => ∃ ρ2 g2 l, Rep (ux X cn) ρ2 H2 g2 ∧ RelDs X.K ρ2 H2 l vs ∧ RelD X.K ρ2 H2 d x ∧ Post (ux X cn) (rD (ux X cn)) W σ ρ2 H2 (f d l g2) Q) I1 ⟨ρ1, τ, g1, st1, p2.thn fun ρ2 vs H2 l g2 e2 r2 q2 p3 => ⟨ρ2, g2, l, r2, q2, e2.rel st1.rep q1, p3⟩⟩
  rw [hs] at hA ⊢
  refine Calls.callWith_builtin (by show (false || (backTo cpos (starEach es X.env)).any (·.1)) = false; rw [hplain] <;> rfl) (Calls.evalArgs_plain ?_)
  exact thn hA fun us s2 ⟨vs, H2, I2, r2, ρ2, g2, l, rp2, ql, qd, p3⟩ => hm W pins s2 σ H2 x vs v us Q ρ2 g2 d l I2 rx r2 rp2 qd ql p3
/-! list.append, dict.get -/
def fApp : D → List D → M D := fun x l g => match x with
  | .ref n => match g[n]? with
    | some (.lst ys) => match l with
      | [y] => ck (ys.length ≤ 100000) (.ok .non (g.set n (.lst (ys ++ [y]))))
      | _ => .bad
    | _ => .bad
  | _ => .bad
theorem m_app : MtD X cn "list.append" fApp := by
  intro W pins s σ H x xs v us Q ρ g d l I rx rs R qd ql p
  unfold fApp at p
  split at p
  · rename_i n
    split at p
    · rename_i ys hg
      split at p
      · rename_i y
        obtain ⟨hl, p2⟩ := Post.ck p
        cases qd with
        | ref ha =>
          cases ql with
          | cons q0 qn =>
            cases qn
            obtain ⟨zs, h1, h2⟩ := R.lst hg ha
            refine mt_append pins s σ H _ _ v us Q I rx rs ⟨_, zs, _, rfl, rfl, h1, by rw [← h2.length]; exact small_line hl, ?_⟩
            obtain ⟨ev, rp⟩ := Ev.wr (ob := .lst (ys ++ [y])) (o := .lst (zs ++ [_])) R ha (List.getElem?_eq_some_iff.mp hg).1 fun e h => ⟨_, h, (e.rels R h2).app (.one (e.rel R q0))⟩
            exact p2 ρ .non _ ev rp .non
      · exact p.elim
    · exact p.elim
  · exact p.elim
theorem re_app (ho : RE X cn W o mo) (ha : RA X cn W (e :: es) ml)
    (hbase : attributeBase o "append" X.env (eval o X.env) = eval o X.env := by rfl)
    (hfew : ((backTo cpos (starEach (e :: es) X.env)).all (fun x => !x.1) && (backToKw cpos (keywordEach [] X.env)).all (fun x => x.1.isSome)
      && decide ((e :: es).length + ([] : List Keyword).length + (if ([] : List Keyword).isEmpty then 0 else 1) < 30)) = true := by rfl)
    (hline : (apos.endLine == cpos.line) = true := by rfl) (hs : starEach (e :: es) X.env = (false, eval e X.env) :: starEach es X.env := by rfl) (hplain : (backTo cpos (starEach es X.env)).any (·.1) = false := by rfl) :
    RE X cn W (.Call (.Attribute o "append" apos) (e :: es) [] cpos) (mBM .lst fApp mo ml) := re_bm (.inr (.inl rfl)) PySem.F.plainAttrs_list PySem.F.slot_list_append PySem.F.type_list_append m_app ho ha hbase hfew hline hs hplain
def fGet : D → List D → M D := fun x l g => match x with
  | .ref n => match g[n]? with
    | some (.dct _ kvs) => match l with
      | [k] => ck (kOk kvs k) (.ok ((dget kvs k).getD .non) g)
      | [k, e] => ck (kOk kvs k) (.ok ((dget kvs k).getD e) g)
      | _ => .bad
    | _ => .bad
  | _ => .bad
theorem m_get (hu : X.A.units + 1 < cLine) : MtD X cn "dict.get" fGet := by
  intro W pins s σ H x xs v us Q ρ g d l I rx rs R qd ql p
  unfold fGet at p
  split at p
  · rename_i n
    split at p
    · rename_i lk kvs hg
      cases qd with
      | ref ha =>
        rename_i a
        cases (show v = Value.ref a from rx)
        split at p
        · rename_i k
          obtain ⟨hk, p2⟩ := Post.ck p
          cases ql with
          | cons q0 qn =>
            cases qn
            cases rs with
            | cons r0 rn =>
              cases rn
              exact v_get1 hu I (view I R hg ha q0 hk) r0 fun v w' s' I' q' rv => ⟨v, H, I', rv, Post.at (Rl := rD (ux X cn)) p2 R q'⟩
        · rename_i k e
          obtain ⟨hk, p2⟩ := Post.ck p
          cases ql with
          | cons q0 qn =>
            cases qn with
            | cons q1 qn =>
              cases qn
              cases rs with
              | cons r0 rn =>
                cases rn with
                | cons r1 rn =>
                  cases rn
                  exact v_get2 hu I (view I R hg ha q0 hk) r0 q1 r1 fun v w' s' I' q' rv => ⟨v, H, I', rv, Post.at (Rl := rD (ux X cn)) p2 R q'⟩
        · exact p.elim
    · exact p.elim
  · exact p.elim
theorem re_get (hu : X.A.units + 1 < cLine) (ho : RE X cn W o mo) (ha : RA X cn W (e :: es) ml)
    (hbase : attributeBase o "get" X.env (eval o X.env) = eval o X.env := by rfl)
    (hfew : ((backTo cpos (starEach (e :: es) X.env)).all (fun x => !x.1) && (backToKw cpos (keywordEach [] X.env)).all (fun x => x.1.isSome)
      && decide ((e :: es).length + ([] : List Keyword).length + (if ([] : List Keyword).isEmpty then 0 else 1) < 30)) = true := by rfl)
    (hline : (apos.endLine == cpos.line) = true := by rfl) (hs : starEach (e :: es) X.env = (false, eval e X.env) :: starEach es X.env := by rfl) (hplain : (backTo cpos (starEach es X.env)).any (·.1) = false := by rfl) :
    RE X cn W (.Call (.Attribute o "get" apos) (e :: es) [] cpos) (mBM .dct fGet mo ml) := re_bm (.inr (.inr rfl)) PySem.F.plainAttrs_dict PySem.F.slot_dict_get PySem.F.type_dict_get (m_get hu) ho ha hbase hfew hline hs hplain
end
end RL
namespace RL
open PySem L2
def mRange1 (a : ME) : MI := fun τ g => (mCons a mNil τ g).bind srcR1
def mRange2 (a b : ME) : MI := fun τ g => (mCons a (mCons b mNil) τ g).bind srcR2
def mRetN : MS := fun _ g => .rt .non g
theorem hu1 {k : Nat} {A : Around} (r : Room k A) : A.units + 1 < cLine := by have := r.un; omega
theorem hu64 {k : Nat} {A : Around} (r : Room k A) : A.units + 64 < cLine := by have := r.un; omega
theorem hu65 {k : Nat} {A : Around} (r : Room k A) : A.units + 65 < cLine := by have := r.un; omega
section
variable {X : Cx} {cn : Str → Addr} {W : WX} {a b : Expr} {ma mb : ME} {pos : Pos}
theorem rt_in (hu : X.A.units + 65 < cLine) (ha : RE X cn W a ma) (hb : RE X cn W b mb) (hm : behindInMarks .In b = false := by rfl) : RT X cn W (.Compare a [.In] [b] pos) (mTest (mOp fIn ma mb)) := rt_cmp (op_inA hu) (s_pure fIn_g fIn_e) ha hb hm
theorem rt_notIn (hu : X.A.units + 65 < cLine) (ha : RE X cn W a ma) (hb : RE X cn W b mb) (hm : behindInMarks .NotIn b = false := by rfl) : RT X cn W (.Compare a [.NotIn] [b] pos) (mTest (mOp fNot ma mb)) := rt_cmp (op_notA hu) (s_pure (fun x y g d g' h => (fNot_in h).choose_spec.2.2) fNot_e) ha hb hm
theorem rt_eq (hu : X.A.units + 64 < cLine) (ha : RE X cn W a ma) (hb : RE X cn W b mb) : RT X cn W (.Compare a [.Eq] [b] pos) (mTest (mOp fEq ma mb)) := rt_cmp (op_eqD hu) s_eq ha hb (nomark _)
theorem rt_ne (hu : X.A.units + 64 < cLine) (ha : RE X cn W a ma) (hb : RE X cn W b mb) : RT X cn W (.Compare a [.NotEq] [b] pos) (mTest (mOp fNe ma mb)) := rt_cmp (op_neD hu) s_ne ha hb (nomark _)
theorem rt_lt (ha : RE X cn W a ma) (hb : RE X cn W b mb) : RT X cn W (.Compare a [.Lt] [b] pos) (mTest (mOp fLt ma mb)) := rt_cmp op_lt s_lt ha hb (nomark _)
theorem rt_le (ha : RE X cn W a ma) (hb : RE X cn W b mb) : RT X cn W (.Compare a [.LtE] [b] pos) (mTest (mOp fLe ma mb)) := rt_cmp op_le s_le ha hb (nomark _)
theorem rt_gt (ha : RE X cn W a ma) (hb : RE X cn W b mb) : RT X cn W (.Compare a [.Gt] [b] pos) (mTest (mOp fGt ma mb)) := rt_cmp op_gt s_gt ha hb (nomark _)
theorem rt_ge (ha : RE X cn W a ma) (hb : RE X cn W b mb) : RT X cn W (.Compare a [.GtE] [b] pos) (mTest (mOp fGe ma mb)) := rt_cmp op_ge s_ge ha hb (nomark _)
end
end RL
namespace RL
open PySem L2
/-! ### plain computations: what their operators give -/
section
variable {g : G}
theorem eqI (i j : Int) : fEq (.int i) (.int j) g = .ok (.bl (decide (i = j))) g := by
  have : fEq (.int i) (.int j) g = ck (gr 20 (.int i) = true ∧ gr 20 (.int j) = true ∧ cm (.int i) (.int j) = true) (.ok (.bl (decide (D.int i = D.int j))) g) := rfl
  rw [this, ck_pos ⟨rfl, rfl, rfl⟩]
  simp
theorem eqS (i j : Str) : fEq (.str i) (.str j) g = .ok (.bl (decide (i = j))) g := by
  have : fEq (.str i) (.str j) g = ck (gr 20 (.str i) = true ∧ gr 20 (.str j) = true ∧ cm (.str i) (.str j) = true) (.ok (.bl (decide (D.str i = D.str j))) g) := rfl
  rw [this, ck_pos ⟨rfl, rfl, rfl⟩]
  simp
theorem eqB (i j : Bool) : fEq (.bl i) (.bl j) g = .ok (.bl (decide (i = j))) g := by
  have : fEq (.bl i) (.bl j) g = ck (gr 20 (.bl i) = true ∧ gr 20 (.bl j) = true ∧ cm (.bl i) (.bl j) = true) (.ok (.bl (decide (D.bl i = D.bl j))) g) := rfl
  rw [this, ck_pos ⟨rfl, rfl, rfl⟩]
  simp
theorem eqN (j : D) (h : j = .non ∨ (∃ s, j = .str s)) : fEq (.non) j g = .ok (.bl (decide (D.non = j))) g := by
  rcases h with rfl | ⟨s, rfl⟩
  · have : fEq .non .non g = ck (gr 20 .non = true ∧ gr 20 .non = true ∧ cm .non .non = true) (.ok (.bl (decide (D.non = D.non))) g) := rfl
    rw [this, ck_pos ⟨rfl, rfl, rfl⟩]
  · have : fEq .non (.str s) g = ck (gr 20 .non = true ∧ gr 20 (.str s) = true ∧ cm .non (.str s) = true) (.ok (.bl (decide (D.non = D.str s))) g) := rfl
    rw [this, ck_pos ⟨rfl, rfl, rfl⟩]
theorem plusI (i j : Int) : fPlus (.int i) (.int j) g = .ok (.int (i + j)) g := rfl
theorem subI (i j : Int) : fSub (.int i) (.int j) g = .ok (.int (i - j)) g := ck_pos trivial _
theorem mulI (i j : Int) (h : (-(2 ^ 64) < i ∧ i < 2 ^ 64) ∨ (-(2 ^ 64) < j ∧ j < 2 ^ 64)) : fMul (.int i) (.int j) g = .ok (.int (i * j)) g := ck_pos h _
theorem modI (i j : Int) (h : 0 < j) : fMod (.int i) (.int j) g = .ok (.int (i % j)) g := ck_pos h _
theorem divI (i j : Int) (h : 0 < j) (h2 : j < 1073741824) : fDiv (.int i) (.int j) g = .ok (.int (i / j)) g := ck_pos ⟨h, h2⟩ _
theorem powI (i j : Int) (h : 0 ≤ j) (h1 : j ≤ 1000000) (h2 : i.natAbs < 2 ^ 64) : fPow (.int i) (.int j) g = .ok (.int (i ^ j.toNat)) g := ck_pos ⟨h, h1, h2⟩ _
theorem ltI (i j : Int) : fLt (.int i) (.int j) g = .ok (.bl (decide (i < j))) g := ck_pos trivial _
theorem leI (i j : Int) : fLe (.int i) (.int j) g = .ok (.bl (decide (i ≤ j))) g := ck_pos trivial _
theorem gtI (i j : Int) : fGt (.int i) (.int j) g = .ok (.bl (decide (j < i))) g := ck_pos trivial _
theorem geI (i j : Int) : fGe (.int i) (.int j) g = .ok (.bl (decide (j ≤ i))) g := ck_pos trivial _
theorem neI (i j : Int) : fNe (.int i) (.int j) g = .ok (.bl (!decide (i = j))) g := by unfold fNe; rw [eqI]
theorem neS (i j : Str) : fNe (.str i) (.str j) g = .ok (.bl (!decide (i = j))) g := by unfold fNe; rw [eqS]
theorem gr_strs : ∀ l : List Str, (l.map D.str).all (gr 20) = true
  | [] => rfl
  | _ :: l => by simp only [List.map_cons, List.all_cons, gr_strs l]; rfl
theorem cm_strs (x : Str) : ∀ l : List Str, ((l.map D.str).all fun z => cm z (.str x)) = true
  | [] => rfl
  | _ :: l => by simp only [List.map_cons, List.all_cons, cm_strs x l]; rfl
theorem mem_strs (x : Str) (l : List Str) : D.str x ∈ l.map D.str ↔ x ∈ l := by simp
theorem in_strs {y : D} {l : List Str} (x : Str) (h : items g y = some (l.map D.str)) : fIn (.str x) y g = .ok (.bl (decide (x ∈ l))) g := by
  unfold fIn
  rw [h]
  dsimp only
  rw [ck_pos ⟨rfl, gr_strs l, cm_strs x l⟩, decide_eq_decide.mpr (mem_strs x l)]
theorem lk_row (w r : D) : List.lookup ("row" : Str) [("row", r), ("what", w)] = some r := rfl
theorem lk_what (w r : D) : List.lookup ("what" : Str) [("row", r), ("what", w)] = some w := rfl
theorem what_row : (("what" : Str) == ("row" : Str)) = false := by decide
/-! step by step -/
theorem ev2 {f : D → D → M D} {a b : ME} {τ : T} {g1 g2 : G} {x y : D} {r : Res D} (ha : a τ g = .ok x g1) (hb : b τ g1 = .ok y g2) (h : f x y g2 = r) : mOp f a b τ g = r := by
  unfold mOp
  rw [ha]
  show (b τ g1).bind _ = r
  rw [hb]
  exact h
theorem evInt {e : ME} {τ : T} {g1 : G} {i : Int} (h : e τ g = .ok (.int i) g1) : mUnA fInt (mCons e mNil) τ g = .ok (.int i) g1 := by
  unfold mUnA mCons
  rw [h]
  rfl
theorem asg_ok {e : ME} {τ : T} {g1 : G} {d : D} {i : Nat} (h : e τ g = .ok d g1) : mAsg e (gN i) τ g = .nx (τ.set i (some d)) g1 := by
  unfold mAsg
  rw [h]
  rfl
theorem if_t {c : MT} {a b : MS} {τ : T} {g1 : G} (h : c τ g = .ok true g1) : mIfS c a b τ g = a τ g1 := by
  unfold mIfS
  rw [h]
  rfl
theorem if_f {c : MT} {a b : MS} {τ : T} {g1 : G} (h : c τ g = .ok false g1) : mIfS c a b τ g = b τ g1 := by
  unfold mIfS
  rw [h]
  rfl
theorem tst {e : ME} {τ : T} {g1 : G} {b : Bool} (h : e τ g = .ok (.bl b) g1) : mTest e τ g = .ok b g1 := by
  unfold mTest
  rw [h]
  rfl
theorem subs_at {n : Nat} {l : List D} {i : Int} {d : D} (h : g[n]? = some (.lst l)) (h2 : L2.atI l i = some d) : fSubs (.ref n) (.int i) g = .ok d g := by
  unfold fSubs items
  dsimp only
  rw [h]
  dsimp only
  rw [h2]
theorem app_at {n : Nat} {l : List D} {d : D} (h : g[n]? = some (.lst l)) (hl : l.length ≤ 100000) : fApp (.ref n) [d] g = .ok .non (g.set n (.lst (l ++ [d]))) := by
  unfold fApp
  dsimp only
  rw [h]
  exact ck_pos hl _
theorem ty_lst {n : Nat} {l : List D} (h : g[n]? = some (.lst l)) : tyD g (.ref n) = some .lst := by
  unfold tyD
  dsimp only
  rw [h]
theorem ty_dct {n : Nat} {k : Bool} {l : List (D × D)} (h : g[n]? = some (.dct k l)) : tyD g (.ref n) = some .dct := by
  unfold tyD
  dsimp only
  rw [h]
theorem drop_ok {e : ME} {τ : T} {g1 : G} {d : D} (h : e τ g = .ok d g1) : mDrop e τ g = .nx τ g1 := by
  unfold mDrop
  rw [h]
  rfl
theorem bm_ok {t : Ty} {f : D → List D → M D} {o : ME} {a : MA} {τ : T} {g1 g2 : G} {x : D} {l : List D} {r : Res D} (ho : o τ g = .ok x g1) (ht : tyD g1 x = some t) (ha : a τ g1 = .ok l g2) (h : f x l g2 = r) : mBM t f o a τ g = r := by
  unfold mBM
  rw [ho]
  show ck _ ((a τ g1).bind _) = r
  rw [ck_pos ht, ha]
  exact h
theorem cons_ok {e : ME} {a : MA} {τ : T} {g1 g2 : G} {d : D} {l : List D} (h : e τ g = .ok d g1) (ha : a τ g1 = .ok l g2) : mCons e a τ g = .ok (d :: l) g2 := by
  unfold mCons
  rw [h]
  show (a τ g1).bind _ = _
  rw [ha]
  rfl
theorem nil_ok {τ : T} : mNil τ g = .ok [] g := rfl
theorem srcR1_ok {n : Nat} (hn : n ≤ 100000) : srcR1 [.int (n : Int)] g = .ok (rng 0 n, none) g := by
  have hz : (n : Int) ≤ 100000 := by omega
  have h0 := Int.natCast_nonneg n
  show ck _ (Res.ok (rng 0 (n : Int).toNat, (none : Option (Nat × Ob))) g) = _
  rw [Int.toNat_natCast]
  generalize (n : Int) = z at hz h0
  refine ck_pos ⟨Int.le_trans ?_ h0, Int.lt_of_le_of_lt hz ?_⟩ _ <;> decide
theorem range1_ok {e : ME} {τ : T} {g1 : G} {n : Nat} (h : e τ g = .ok (.int (n : Int)) g1) (hn : n ≤ 100000) : mRange1 e τ g = .ok (rng 0 n, none) g1 := by
  unfold mRange1
  rw [cons_ok h nil_ok, Res.bind_ok, srcR1_ok hn]
theorem for_ok {mi : MI} {mg : MG} {mb : MS} {τ : T} {g1 : G} {l : List D} {c : Option (Nat × Ob)} (h : mi τ g = .ok (l, c) g1) : mFor mi mg mb τ g = forGo c mg mb l τ g1 := by
  unfold mFor
  rw [h]
  rfl
theorem len_at {n : Nat} {l : List D} (h : g[n]? = some (.lst l)) : fLen [.ref n] g = .ok (.int (l.length : Nat)) g := by
  unfold fLen items
  dsimp only
  rw [h]
theorem una_ok {f : List D → M D} {a : MA} {τ : T} {g1 : G} {l : List D} {r : Res D} (ha : a τ g = .ok l g1) (h : f l g1 = r) : mUnA f a τ g = r := by
  unfold mUnA
  rw [ha]
  exact h
theorem ret_ok {e : ME} {τ : T} {g1 : G} {d : D} (h : e τ g = .ok d g1) : mRet e τ g = .rt d g1 := by
  unfold mRet
  rw [h]
  rfl
theorem plusL {n m : Nat} {l l' : List D} (h : g[n]? = some (.lst l)) (h' : g[m]? = some (.lst l')) (hl : l.length + l'.length ≤ 100000) : fPlus (.ref n) (.ref m) g = .ok (.ref g.length) (g ++ [.lst (l ++ l')]) := by
  unfold fPlus
  dsimp only
  rw [h, h']
  exact ck_pos hl _
theorem call_ok {n : Nat} {es : List D} {mf : List D → M D} {l : List D} {r : Res D} (hn : l.length = n) (h : mf (l ++ es) g = r) : fCall n es mf l g = r := by
  unfold fCall
  rw [ck_pos hn]
  exact h
/-- what is read stands on -/
theorem app_get {o : Ob} {n : Nat} {l : G} (h : g[n]? = some o) : (g ++ l)[n]? = some o := by rw [List.getElem?_append_left (List.getElem?_eq_some_iff.mp h).1]; exact h
theorem end_get {o : Ob} : (g ++ [o])[g.length]? = some o := by simp
/-! steps -/
theorem seq_nx {a b : MS} {τ τ' : T} {g g' : G} (h : a τ g = .nx τ' g') : mSeq a b τ g = b τ' g' := by unfold mSeq; rw [h]
theorem seq_rt {a b : MS} {τ : T} {g g' : G} {d : D} (h : a τ g = .rt d g') : mSeq a b τ g = .rt d g' := by unfold mSeq; rw [h]
theorem seq_ex {a b : MS} {τ τ' : T} {g g' : G} {e : Exc} (h : a τ g = .ex e τ' g') : mSeq a b τ g = .ex e τ' g' := by unfold mSeq; rw [h]
/-- a loop over what stays -/
theorem for_rule {mg : MG} {mb : MS} (I : Nat → T → G → Prop) (Z : SR → Prop) (l : List D) (hs : ∀ i d τ g, l[i]? = some d → I i τ g → ∃ τ1 g1, mg d τ g = .nx τ1 g1 ∧ (match mb τ1 g1 with
    | .nx τ2 g2 => I (i + 1) τ2 g2
    | .ct τ2 g2 => I (i + 1) τ2 g2
    | .bk τ2 g2 => Z (.nx τ2 g2)
    | r => Z r)) (he : ∀ τ g, I l.length τ g → Z (.nx τ g)) {τ : T} (h0 : I 0 τ g) : Z (forGo none mg mb l τ g) := by
  have key : ∀ (n i : Nat) (τ : T) (g : G), l.length - i = n → i ≤ l.length → I i τ g → Z (forGo none mg mb (l.drop i) τ g) := by
    intro n
    induction n with
    | zero =>
      intro i τ g hn hi h
      have : i = l.length := by omega
      subst this
      rw [List.drop_length]
      unfold forGo
      rw [if_pos (show still none _ from trivial)]
      exact he _ _ h
    | succ n ih =>
      intro i τ g hn hi h
      have hlt : i < l.length := by omega
      rw [List.drop_eq_getElem_cons hlt]
      unfold forGo
      rw [if_pos (show still none _ from trivial)]
      obtain ⟨τ1, g1, h1, h2⟩ := hs i l[i] τ g (List.getElem?_eq_getElem hlt) h
      rw [h1]
      dsimp only
      cases hb : mb τ1 g1 with
      | nx τ2 g2 => rw [hb] at h2; exact ih (i + 1) _ _ (by omega) (by omega) h2
      | ct τ2 g2 => rw [hb] at h2; exact ih (i + 1) _ _ (by omega) (by omega) h2
      | bk τ2 g2 => rw [hb] at h2; exact h2
      | rt d g2 => rw [hb] at h2; exact h2
      | ex e τ2 g2 => rw [hb] at h2; exact h2
      | bad => rw [hb] at h2; exact h2
  exact key l.length 0 τ g rfl (Nat.zero_le _) h0
/-- a loop that always runs through -/
theorem for_all {mg : MG} {mb : MS} (I : Nat → T → G → Prop) (l : List D) (hs : ∀ i d τ g, l[i]? = some d → I i τ g → ∃ τ1 g1, mg d τ g = .nx τ1 g1 ∧ ∃ τ2 g2, mb τ1 g1 = .nx τ2 g2 ∧ I (i + 1) τ2 g2) {τ : T} (h0 : I 0 τ g) : ∃ τ' g', forGo none mg mb l τ g = .nx τ' g' ∧ I l.length τ' g' :=
  for_rule I (fun r => ∃ τ' g', r = .nx τ' g' ∧ I l.length τ' g') l (fun i d τ g hd hi => by
    obtain ⟨τ1, g1, h1, τ2, g2, h2, h3⟩ := hs i d τ g hd hi
    exact ⟨τ1, g1, h1, by rw [h2]; exact h3⟩) (fun τ g h => ⟨τ, g, rfl, h⟩) h0
end
end RL
namespace My
open PySem L2 RL
def topS (i : Nat) : Stmt := PySem.Challenge.pw_whomayname_k09_packages.main.body.getD i (.Pass ⟨0, 0, 0, 0⟩)
def errsL : List Str := ["Taken"]
abbrev cs_Packages : List Str := ["Packages"]
abbrev FUEL : Nat := 1000000
def gd_Packages_add_package_2_sealed : List D → List D → List D := fun a z => match z with
  | [z0] => a ++ [z0]
  | _ => []
abbrev s_wording : Stmt := topS 4
abbrev s_AccessError_init : Stmt := inClass (topS 2) 0
abbrev s_Packages_init : Stmt := inClass (topS 6) 0
theorem sc_Packages_init : FnScope ["self"] ["self"] (defScope s_Packages_init) := ⟨rfl, rfl, rfl, by decide +kernel, rfl, by decide +kernel, by decide +kernel⟩
def m_Packages_init : MS := (mFldS cs_Packages "_sealed" (mV 0) mDict0)
def f_Packages_init : List D → M D := runF 1 m_Packages_init
abbrev s_Packages_add_package : Stmt := inClass (topS 6) 1
theorem sc_Packages_add_package : FnScope ["self", "name", "sealed"] ["self", "name", "sealed"] (defScope s_Packages_add_package) := ⟨rfl, rfl, rfl, by decide +kernel, rfl, by decide +kernel, by decide +kernel⟩
def m_Packages_add_package : MS := (mSeq (mIfS (mTest (mOp fIn (mV 1) (mUn (fFld cs_Packages "_sealed") (mV 0)))) (mRaise (exc1 "Taken") (mCons (mV 1) mNil)) mNext)
  (mAsg (mV 2) (gSubM (mUn (fFld cs_Packages "_sealed") (mV 0)) (mV 1))))
def f_Packages_add_package : List D → M D := runF 3 m_Packages_add_package
abbrev s_Packages_is_sealed : Stmt := inClass (topS 6) 2
theorem sc_Packages_is_sealed : FnScope ["self", "name"] ["self", "name"] (defScope s_Packages_is_sealed) := ⟨rfl, rfl, rfl, by decide +kernel, rfl, by decide +kernel, by decide +kernel⟩
def m_Packages_is_sealed : MS := (mRet (mBM .dct fGet (mUn (fFld cs_Packages "_sealed") (mV 0)) (mCons (mV 1) (mCons (mC (.bl false)) mNil))))
def f_Packages_is_sealed : List D → M D := runF 2 m_Packages_is_sealed
abbrev s_l_digits : Stmt := topS 8
theorem sc_l_digits : FnScope ["_law_script", "_law_at", "_law_sizes", "_law_cell", "_law_great", "_law_row", "_law_k", "_law_mixed"] ["_law_script", "_law_at", "_law_sizes"] (defScope s_l_digits) := ⟨rfl, rfl, rfl, by decide +kernel, rfl, by decide +kernel, by decide +kernel⟩
def m_l_digits : MS := (mSeq (mAsg (mC (.int 0)) (gN 3))
  (mSeq (mIfS (mTest (mOp fLt (mV 1) (mUnA fLen (mCons (mV 0) mNil)))) (mAsg (mOp fSubs (mV 0) (mV 1)) (gN 3)) mNext)
  (mSeq (mAsg (mOp fGe (mV 3) (mOp fPow (mC (.int 10)) (mC (.int 18)))) (gN 4))
  (mSeq (mAsg (mUnA fLst mNil) (gN 5))
  (mSeq (mFor (mRange1 (mUnA fLen (mCons (mV 2) mNil))) (gN 6) (mSeq (mAsg (mOp fMod (mUnA fInt (mCons (mOp fPlus (mOp fPlus (mOp fPlus (mOp fMul (mV 3) (mC (.int 48271))) (mOp fMul (mV 1) (mC (.int 1009)))) (mOp fMul (mV 6) (mC (.int 69621)))) (mC (.int 5))) mNil)) (mC (.int 2147483647))) (gN 7))
  (mSeq (mAsg (mOp fDiv (mOp fMod (mUnA fInt (mCons (mOp fPlus (mOp fPlus (mOp fMul (mV 7) (mV 7)) (mV 3)) (mOp fMul (mV 6) (mC (.int 7919)))) mNil)) (mC (.int 2147483629))) (mC (.int 7))) (gN 7))
  (mSeq (mIfS (mTest (mV 4)) (mSeq (mAsg (mV 3) (gN 7))
  (mAsg (mOp fDiv (mV 3) (mOp fSubs (mV 2) (mV 6))) (gN 3))) mNext)
  (mDrop (mBM .lst fApp (mV 5) (mCons (mOp fMod (mUnA fInt (mCons (mV 7) mNil)) (mOp fSubs (mV 2) (mV 6))) mNil)))))))
  (mRet (mV 5)))))))
def f_l_digits : List D → M D := runF 8 m_l_digits
abbrev s_l_name : Stmt := topS 9
theorem sc_l_name : FnScope ["_law_start", "_law_k", "_law_pool"] ["_law_start", "_law_k"] (defScope s_l_name) := ⟨rfl, rfl, rfl, by decide +kernel, rfl, by decide +kernel, by decide +kernel⟩
def m_l_name : MS := (mSeq (mAsg (mUnA fLst (mCons (mC (.str "a")) (mCons (mC (.str "b2")) (mCons (mC (.str "cab")) (mCons (mC (.str "d")) (mCons (mC (.str "e0")) (mCons (mC (.str "fox")) (mCons (mC (.str "gg")) (mCons (mC (.str "h1")) (mCons (mC (.str "ice")) (mCons (mC (.str "j")) (mCons (mC (.str "kilo")) (mCons (mC (.str "lo")) (mCons (mC (.str "mmm")) (mCons (mC (.str "n9")) (mCons (mC (.str "oak")) (mCons (mC (.str "p")) (mCons (mC (.str "q7")) mNil)))))))))))))))))) (gN 2))
  (mSeq (mAsg (mOp fPlus (mV 2) (mUnA fLst (mCons (mC (.str "rr")) (mCons (mC (.str "s")) (mCons (mC (.str "tin")) (mCons (mC (.str "0")) (mCons (mC (.str "v")) (mCons (mC (.str "wax")) (mCons (mC (.str "abcdefghijkl")) (mCons (mC (.str "yes")) (mCons (mC (.str "z0o")) mNil))))))))))) (gN 2))
  (mRet (mOp fSubs (mV 2) (mOp fMod (mUnA fInt (mCons (mOp fPlus (mV 0) (mOp fMul (mC (.int 7)) (mV 1))) mNil)) (mC (.int 26)))))))
def f_l_name : List D → M D := runF 3 m_l_name
abbrev s_l_same : Stmt := topS 10
theorem sc_l_same : FnScope ["_law_actual", "_law_due", "_law_k"] ["_law_actual", "_law_due"] (defScope s_l_same) := ⟨rfl, rfl, rfl, by decide +kernel, rfl, by decide +kernel, by decide +kernel⟩
def m_l_same (self : List D → M D) : MS := (mSeq (mIfS (mTest (mUn (fIsN true) (mV 1))) (mRet (mUn (fIsN true) (mV 0))) mNext)
  (mSeq (mIfS (mTest (mUn (fIsi .bl) (mV 1))) (mRet (mAnd (mUn (fIsi .bl) (mV 0)) (mOp fEq (mV 0) (mV 1)))) mNext)
  (mSeq (mIfS (mTest (mUn (fIsi .int) (mV 1))) (mRet (mAnd (mUn (fIsi .int) (mV 0)) (mAnd (mUn fNotV (mUn (fIsi .bl) (mV 0))) (mOp fEq (mV 0) (mV 1))))) mNext)
  (mSeq (mIfS (mTest (mUn (fIsi .str) (mV 1))) (mRet (mAnd (mUn (fIsi .str) (mV 0)) (mOp fEq (mV 0) (mV 1)))) mNext)
  (mSeq (mIfS (mAndT (mTest (mUn (fIsi .tup) (mV 1))) (mNotT (mTest (mUn (fIsi .tup) (mV 0))))) (mRet (mC (.bl false))) mNext)
  (mSeq (mIfS (mAndT (mTest (mUn (fIsi .lst) (mV 1))) (mNotT (mTest (mUn (fIsi .lst) (mV 0))))) (mRet (mC (.bl false))) mNext)
  (mSeq (mIfS (mTest (mOp fNe (mUnA fLen (mCons (mV 0) mNil)) (mUnA fLen (mCons (mV 1) mNil)))) (mRet (mC (.bl false))) mNext)
  (mSeq (mFor (mRange1 (mUnA fLen (mCons (mV 1) mNil))) (gN 2) (mIfS (mNotT (mTest (mUnA (fCall 2 [] self) (mCons (mOp fSubs (mV 0) (mV 2)) (mCons (mOp fSubs (mV 1) (mV 2)) mNil))))) (mRet (mC (.bl false))) mNext))
  (mRet (mC (.bl true)))))))))))
def f_l_same : Nat → List D → M D
  | 0 => fun _ _ => .bad
  | n + 1 => runF 3 (m_l_same (f_l_same n))
abbrev s_l_add : Stmt := topS 11
theorem sc_l_add : FnScope ["_law_shelf", "_law_name_here", "_law_choice", "e"] ["_law_shelf", "_law_name_here", "_law_choice"] (defScope s_l_add) := ⟨rfl, rfl, rfl, by decide +kernel, rfl, by decide +kernel, by decide +kernel⟩
def m_l_add : MS := (mSeq (mTry errsL [("Taken", some 3, mRetX (fun x => mUnA fTup ((fun x => mCons ((mXf "row") x) ((fun x => mCons ((mXf "what") x) ((fun _ => mNil) x)) x)) x)))] (mIfS (mTest (mOp fEq (mV 2) (mC (.int 0)))) (mDrop (mMeth cs_Packages 2 [.bl false] f_Packages_add_package (mV 0) (mCons (mV 1) mNil))) (mIfS (mTest (mOp fEq (mV 2) (mC (.int 1)))) (mDrop (mMethK cs_Packages 2 ["sealed"] gd_Packages_add_package_2_sealed f_Packages_add_package (mV 0) (mCons (mV 1) mNil) (mCons (mC (.bl true)) mNil))) (mDrop (mMethK cs_Packages 2 ["sealed"] gd_Packages_add_package_2_sealed f_Packages_add_package (mV 0) (mCons (mV 1) mNil) (mCons (mC (.bl false)) mNil))))))
  (mRet (mC (.str "added"))))
def f_l_add : List D → M D := runF 4 m_l_add
abbrev s_law : Stmt := topS 12
theorem sc_law : FnScope ["_law_script", "_law_picks", "_law_shelf", "_law_other", "_law_sealing", "_law_k", "_law_row", "_law_name_here", "_law_due", "_law_j", "_law_asked"] ["_law_script"] (defScope s_law) := ⟨rfl, rfl, rfl, by decide +kernel, rfl, by decide +kernel, by decide +kernel⟩
def m_law : MS := (mSeq (mAsg (mUnA (fCall 3 [] f_l_digits) (mCons (mV 0) (mCons (mC (.int 0)) (mCons (mUnA fLst (mCons (mC (.int 26)) (mCons (mC (.int 7)) mNil))) mNil)))) (gN 1))
  (mSeq (mAsg (mUnA (fMake "Packages" 0 [] f_Packages_init) mNil) (gN 2))
  (mSeq (mAsg (mUnA (fMake "Packages" 0 [] f_Packages_init) mNil) (gN 3))
  (mSeq (mAsg mDict0 (gN 4))
  (mSeq (mFor (mRange1 (mOp fSubs (mV 1) (mC (.int 1)))) (gN 5) (mSeq (mAsg (mUnA (fCall 3 [] f_l_digits) (mCons (mV 0) (mCons (mOp fPlus (mC (.int 1)) (mV 5)) (mCons (mUnA fLst (mCons (mC (.int 4)) (mCons (mC (.int 3)) mNil))) mNil)))) (gN 6))
  (mSeq (mAsg (mUnA (fCall 2 [] f_l_name) (mCons (mOp fSubs (mV 1) (mC (.int 0))) (mCons (mOp fSubs (mV 6) (mC (.int 0))) mNil))) (gN 7))
  (mSeq (mAsg (mC (.str "added")) (gN 8))
  (mSeq (mIfS (mTest (mOp fIn (mV 7) (mV 4))) (mAsg (mUnA fTup (mCons (mC .non) (mCons (mV 7) mNil))) (gN 8)) (mSeq (mAsg (mOp fEq (mOp fSubs (mV 6) (mC (.int 1))) (mC (.int 1))) (gSubM (mV 4) (mV 7)))
  (mIfS (mNotT (mTest (mUnA (fCall 2 [] (f_l_same 6)) (mCons (mUnA (fCall 3 [] f_l_add) (mCons (mV 3) (mCons (mV 7) (mCons (mOp fPlus (mC (.int 1)) (mUnA fInt (mCons (mOp fSubs (mV 4) (mV 7)) mNil))) mNil)))) (mCons (mC (.str "added")) mNil))))) (mRet (mC (.bl false))) mNext)))
  (mSeq (mIfS (mNotT (mTest (mUnA (fCall 2 [] (f_l_same 6)) (mCons (mUnA (fCall 3 [] f_l_add) (mCons (mV 2) (mCons (mV 7) (mCons (mOp fSubs (mV 6) (mC (.int 1))) mNil)))) (mCons (mV 8) mNil))))) (mRet (mC (.bl false))) mNext)
  (mFor (mRange1 (mC (.int 6))) (gN 9) (mSeq (mAsg (mUnA (fCall 2 [] f_l_name) (mCons (mOp fSubs (mV 1) (mC (.int 0))) (mCons (mV 9) mNil))) (gN 10))
  (mSeq (mIfS (mNotT (mTest (mUnA (fCall 2 [] (f_l_same 6)) (mCons (mMeth cs_Packages 2 [] f_Packages_is_sealed (mV 2) (mCons (mV 10) mNil)) (mCons (mBM .dct fGet (mV 4) (mCons (mV 10) (mCons (mC (.bl false)) mNil))) mNil))))) (mRet (mC (.bl false))) mNext)
  (mIfS (mNotT (mTest (mUnA (fCall 2 [] (f_l_same 6)) (mCons (mMeth cs_Packages 2 [] f_Packages_is_sealed (mV 3) (mCons (mV 10) mNil)) (mCons (mUn fNotV (mBM .dct fGet (mV 4) (mCons (mV 10) (mCons (mC (.bl true)) mNil)))) mNil))))) (mRet (mC (.bl false))) mNext))))))))))
  (mRet (mC (.bl true))))))))
def f_law : List D → M D := runF 11 m_law
end My
namespace My
open PySem L2 RL
structure Fx (K : PySem.W.Frag) (mg : Str → Option Value) (cn : Str → Addr) where
  a_wording : Addr
  fd_wording : FuncData
  a_AccessError_init : Addr
  fd_AccessError_init : FuncData
  a_Packages_init : Addr
  fd_Packages_init : FuncData
  a_Packages_add_package : Addr
  fd_Packages_add_package : FuncData
  a_Packages_is_sealed : Addr
  fd_Packages_is_sealed : FuncData
  a_l_digits : Addr
  fd_l_digits : FuncData
  a_l_name : Addr
  fd_l_name : FuncData
  a_l_same : Addr
  fd_l_same : FuncData
  a_l_add : Addr
  fd_l_add : FuncData
  g_bool : mg "bool" = none
  g_int : mg "int" = none
  g_isinstance : mg "isinstance" = none
  g_len : mg "len" = none
  g_list : mg "list" = none
  g_range : mg "range" = none
  g_str : mg "str" = none
  g_tuple : mg "tuple" = none
  fl_sealed : FldOk K cn cs_Packages "_sealed"
  F_wording : Fun K "_wording" "_wording" s_wording a_wording fd_wording
  m_wording : mg "_wording" = some (.ref a_wording)
  F_AccessError_init : FunD K "__init__" "AccessError.__init__" (defArgs s_AccessError_init) (defBody s_AccessError_init) (defScope s_AccessError_init) [V.non] [] a_AccessError_init fd_AccessError_init
  F_Packages_init : Fun K "__init__" "Packages.__init__" s_Packages_init a_Packages_init fd_Packages_init
  F_Packages_add_package : FunD K "add_package" "Packages.add_package" (defArgs s_Packages_add_package) (defBody s_Packages_add_package) (defScope s_Packages_add_package) [] [("sealed", V.bl false)] a_Packages_add_package fd_Packages_add_package
  F_Packages_is_sealed : Fun K "is_sealed" "Packages.is_sealed" s_Packages_is_sealed a_Packages_is_sealed fd_Packages_is_sealed
  F_l_digits : Fun K "_law_digits" "_law_digits" s_l_digits a_l_digits fd_l_digits
  m_l_digits : mg "_law_digits" = some (.ref a_l_digits)
  F_l_name : Fun K "_law_name" "_law_name" s_l_name a_l_name fd_l_name
  m_l_name : mg "_law_name" = some (.ref a_l_name)
  F_l_same : Fun K "_law_same" "_law_same" s_l_same a_l_same fd_l_same
  m_l_same : mg "_law_same" = some (.ref a_l_same)
  F_l_add : Fun K "_law_add" "_law_add" s_l_add a_l_add fd_l_add
  m_l_add : mg "_law_add" = some (.ref a_l_add)
  me_Packages_add_package : MethOk K cn cs_Packages "add_package" a_Packages_add_package
  me_Packages_is_sealed : MethOk K cn cs_Packages "is_sealed" a_Packages_is_sealed
  mk_Packages : Mk K (cn "Packages") a_Packages_init
  c_Packages : mg "Packages" = some (.ref (cn "Packages"))
  c_Taken : mg "Taken" = some (.ref (cn "Taken"))
  ec_Taken : ErrC K (cn "Taken")
  ei_Taken : PySem.W.findIn K (.ref (cn "Taken")) "__init__" = some (some (.ref a_AccessError_init))
  et : PySem.W.typeIn K (.ref a_AccessError_init) = some (.type "function")
  g_ValueError : mg "ValueError" = none
  ve : PySem.W.findCls K (.type "ValueError") (.type "type") "__init__" = some (.val (.builtin "ValueError.__init__"))
  ex_Taken : ∀ e ∈ errsL, PySem.W.exmOne K (.ref (cn e)) (.ref (cn "Taken")) = some (subE e "Taken")
  xf_row : ExF K cn errsL "row"
  xf_what : ExF K cn errsL "what"
section
variable {P : Program} {w : World} {K : PySem.W.Frag} {mg : Str → Option Value} {base : Heap} {cn : Str → Addr}
theorem row_text {i : Int} (h : rowOk (.int i) = true) : i.natAbs.log2 < 1920 ∧ (Str.ofString (toString i)).length ≤ 8 := by
  simp only [rowOk, Bool.and_eq_true, decide_eq_true_eq] at h
  have h1 : i.natAbs ≤ 1000000 := by omega
  refine ⟨?_, ?_⟩
  · by_cases z : i.natAbs = 0
    · rw [z]
      decide
    · have h2 : i.natAbs < 2 ^ 20 := Nat.lt_of_le_of_lt h1 (by decide)
      have := (Nat.log2_lt z).mpr h2
      omega
  · have := int_text_length_le10 (a := i) (k := 7) (by decide) (Nat.lt_of_le_of_lt h1 (by decide))
    rw [ofString_length]
    omega
theorem wd_fn (T : Fx K mg cn) : FnOk P w K mg base (L2.CX P w) 1 T.a_wording T.fd_wording ["name", "what", "row"] (spWd K) := by
  refine T.F_wording.okX (N := ["name", "what", "row"]) ⟨rfl, rfl, rfl, by decide +kernel, rfl, by decide +kernel, by decide +kernel⟩ (fun vs H Q E h => ?_) (fun cdv A outer s H vs Q E hr h => ?_)
  · obtain ⟨nm, vw, vr, _, _, _, e, _⟩ := h
    rw [e]
    rfl
  · obtain ⟨nm, vw, vr, ρ, dw, dr, rfl, hn, qw, qr, hw, hrw, hq⟩ := h
    refine ⟨_, pss_cons (ps_if (pt_cmp (pc_isN (pv 2))) (pss_one (ps_ret (pe_joined (.cons (pe_fmt (pv 0)) (.cons pe_str (.cons (pe_fmtW hr (pv 1)) .nil)))))) pss_nil)
      (pss_one (ps_ret (pe_joined (.cons pe_str (.cons (pe_fmt (pv 2)) (.cons pe_str (.cons (pe_fmt (pv 0)) (.cons pe_str (.cons (pe_fmtW hr (pv 1)) .nil))))))))), ?_⟩
    have la : ∀ (a b : Str), (a ++ b).length = a.length + b.length := fun a b => strLen_append a b
    have l0 : (Str.empty).length = 0 := rfl
    have l2 : (": " : Str).length = 2 := rfl
    have l4 : ("row " : Str).length = 4 := rfl
    cases qr with
    | non =>
      refine ⟨.non, rfl, _, rfl, ?_⟩
      show tJs _ _ _ _ _
      refine ⟨_, rfl, .inl ⟨nm, rfl, by rw [sizeLine_eq]; omega, nm, rfl, by rw [la, sizeLine_eq]; omega, ?_⟩⟩
      refine ⟨_, rfl, by rw [la, la, sizeLine_eq]; omega, ?_⟩
      exact ⟨vw, rfl, ρ, dw, qw, hw, fun m hm => ⟨m, rfl, by rw [la, la, la, sizeLine_eq]; omega, hq _⟩⟩
    | int i =>
      obtain ⟨t1, t2⟩ := row_text hrw
      refine ⟨.int i, rfl, _, rfl, ?_⟩
      show tJs _ _ _ _ _
      refine ⟨_, rfl, by rw [la, sizeLine_eq]; omega, ?_⟩
      refine ⟨_, rfl, .inr ⟨i, rfl, t1, _, rfl, by rw [la, la, sizeLine_eq]; omega, ?_⟩⟩
      refine ⟨_, rfl, by rw [la, la, la, sizeLine_eq]; omega, ?_⟩
      refine ⟨_, rfl, .inl ⟨nm, rfl, by rw [sizeLine_eq]; omega, nm, rfl, by rw [la, la, la, la, sizeLine_eq]; omega, ?_⟩⟩
      refine ⟨_, rfl, by rw [la, la, la, la, la, sizeLine_eq]; omega, ?_⟩
      exact ⟨vw, rfl, ρ, dw, qw, hw, fun m hm => ⟨m, rfl, by rw [la, la, la, la, la, la, sizeLine_eq]; omega, hq _⟩⟩
    | _ => exact absurd hrw (by simp [rowOk])
theorem ae_ok (T : Fx K mg cn) : FnOk P w K mg base (L2.CX P w) 2 T.a_AccessError_init T.fd_AccessError_init ["self", "what", "row"] (spAE K) := by
  refine T.F_AccessError_init.ok (N := ["self", "what", "row", "name"]) ⟨rfl, rfl, rfl, by decide +kernel, rfl, by decide +kernel, by decide +kernel⟩ (fun vs H Q E h => ?_) (fun cdv A outer s H vs Q E hr h => ?_)
  · obtain ⟨a, C, vw, vr, _, _, _, e, _⟩ := h
    rw [e]
    rfl
  · obtain ⟨a, C, vw, vr, ρ, dw, dr, rfl, hC, ha, qw, qr, hw, hrw, hq⟩ := h
    have nd : (["self", "what", "row", "name"] : List Str).Nodup := by decide +kernel
    have hbind := T.F_wording.binds (ps := ["name", "what", "row"]) fun _ _ _ _ _ _ us hl => match us, hl with | [_, _, _], _ => rfl
    refine ⟨_, pss_cons (ps_set (i := 3) nd rfl (Or.inl rfl) (pe_cname (pv 0)))
      (pss_cons (ps_expr (pe_veinit (by rfl) T.g_ValueError T.ve (pa_cons (pv 0) (pa_cons (pe_call (dvs := []) (wd_fn T) hr (by rfl) T.m_wording T.F_wording.kp hbind .nil passL (pa_cons (pv 3) (pa_cons (pv 1) (pa_cons (pv 2) pa_nil)))) pa_nil))))
      (pss_cons (ps_ost (pv 0) (pv 1)) (pss_one (ps_ost (pv 0) (pv 2))))), ?_⟩
    obtain ⟨nm, hnm, hl⟩ := hC.nam
    refine ⟨.ref a, rfl, a, C, nm, rfl, ha, hnm, ?_⟩
    refine ⟨.ref a, rfl, .str nm, rfl, vw, rfl, vr, rfl, ?_⟩
    refine ⟨nm, vw, vr, ρ, dw, dr, rfl, hl, qw, qr, hw, hrw, fun m => ⟨a, C, _, rfl, by simp, hC.oex, ha, ?_⟩⟩
    refine ⟨vw, rfl, .ref a, rfl, a, C, rfl, hC.oex, hC.what, .inl ⟨ha, fun dx hd hne => ?_⟩⟩
    refine ⟨vr, rfl, .ref a, rfl, a, C, rfl, hC.oex, hC.row, .inr ⟨dx, [("what", vw)], upd_same, ?_, by simp, ?_⟩⟩
    · rw [upd_ne hne, upd_same]
    · exact hq dx hd hne
theorem ae_fn (T : Fx K mg cn) : ∃ fd, FnOk P w K mg base (L2.CX P w) 2 T.a_AccessError_init fd ["self", "what", "row"] (spAE K) ∧ Binds K fd ["self", "what", "row"] [] ∧ Binds K fd ["self", "what", "row"] [.none] := by
  refine ⟨_, ae_ok T, ?_, ?_⟩
  · obtain ⟨ds, r, b⟩ := T.F_AccessError_init.binds1 (ps := ["self", "what", "row"]) 3 1 (by simp) rfl fun Tt kV doc pm an cdv ct us its h1 h2 => match us, its, h1, h2 with | [_, _, _], [_], _, _ => ⟨_, rfl, rfl⟩
    cases r
    exact b
  · obtain ⟨ds, r, b⟩ := T.F_AccessError_init.binds1 (ps := ["self", "what", "row"]) 2 0 (by simp) rfl fun Tt kV doc pm an cdv ct us its h1 h2 => match us, its, h1, h2 with | [_, _], [_], _, _ => ⟨_, rfl, rfl⟩
    cases r with
    | cons r0 rn =>
      cases rn
      cases r0
      exact b
theorem er_Taken (T : Fx K mg cn) : Err P w K mg base 2 (cn "Taken") T.a_AccessError_init := ⟨T.ec_Taken, T.ei_Taken, T.et, ae_fn T⟩
theorem b_Packages_init (T : Fx K mg cn) : BodyM P w K mg base cn 0 ["self"] "Packages.__init__" (defScope s_Packages_init) T.a_Packages_init (defBody s_Packages_init) m_Packages_init := fun cdv A outer s H E hr => by
  have F : Fit (cxE P w K mg base ["self"] "Packages.__init__" (defScope s_Packages_init) T.a_Packages_init cdv A outer s H E) (fun cls d _ H => E cls d H) := fit_cx
  have nd := sc_Packages_init.nd
  exact (rss_one (rs_fld T.fl_sealed (rv 0) re_dict0))
theorem d_Packages_init (T : Fx K mg cn) : DefM P w K mg base cn 1 T.a_Packages_init 1 [] f_Packages_init := defM0 (ps := ["self"]) (fnM T.F_Packages_init sc_Packages_init (b_Packages_init T)) (T.F_Packages_init.binds (ps := ["self"]) fun _ _ _ _ _ _ us hl => match us, hl with | [_], _ => rfl) T.F_Packages_init.kp
theorem b_Packages_add_package (T : Fx K mg cn) : BodyM P w K mg base cn 3 ["self", "name", "sealed"] "Packages.add_package" (defScope s_Packages_add_package) T.a_Packages_add_package (defBody s_Packages_add_package) m_Packages_add_package := fun cdv A outer s H E hr => by
  have F : Fit (cxE P w K mg base ["self", "name", "sealed"] "Packages.add_package" (defScope s_Packages_add_package) T.a_Packages_add_package cdv A outer s H E) (fun cls d _ H => E cls d H) := fit_cx
  have nd := sc_Packages_add_package.nd
  exact (rss_cons (rs_if (rt_in (hu65 hr) (rv 1) (re_fld T.fl_sealed (rv 0))) (rss_one (rs_raise1 (c := "Taken") F (er_Taken T) (hr.mono (by decide : 3 ≤ 3)) (by rfl) T.c_Taken (ra_cons (rv 1) ra_nil))) rss_nil)
  (rss_one (rs_asg (rv 2) (rg_sub (hu1 hr) (re_fld T.fl_sealed (rv 0)) (rv 1)))))
theorem fn_Packages_add_package (T : Fx K mg cn) : FnOk P w K mg base (L2.CX P w) 4 T.a_Packages_add_package T.fd_Packages_add_package ["self", "name", "sealed"] (spM ⟨K, cn, P, w⟩ 3 f_Packages_add_package) := fnMD T.F_Packages_add_package sc_Packages_add_package (b_Packages_add_package T)
theorem d_Packages_add_package_2_sealed (T : Fx K mg cn) : DefK P w K mg base cn 4 T.a_Packages_add_package 2 ["sealed"] gd_Packages_add_package_2_sealed f_Packages_add_package :=
  ⟨⟨_, _, _, _, _, fn_Packages_add_package T, kb_all T.F_Packages_add_package 2 ["sealed"] (fun a b => a ++ b) (fun a b => a.append b) (fun kV doc pm an cdv ct us ws h1 h2 => match us, ws, h1, h2 with | [_, _], [_], _, _ => rfl),
    fun ρ H ds zs vs us q r h1 h2 => match zs, vs, us, q, r, h2 with | [z0], _, _, q, r, _ => ⟨by rw [show gd_Packages_add_package_2_sealed ds [z0] = ds ++ [z0] from rfl, List.length_append, h1]; rfl, q.app r⟩⟩, T.F_Packages_add_package.kp⟩
theorem d_Packages_add_package_2 (T : Fx K mg cn) : DefM P w K mg base cn 4 T.a_Packages_add_package 2 [.bl false] f_Packages_add_package := by
  obtain ⟨bs, r, b⟩ := T.F_Packages_add_package.binds0 (ps := ["self", "name", "sealed"]) 2 (by simp) rfl fun D doc pm an cdv ct us ks h1 h2 => match us, ks, h1, h2 with | [_, _], [_], _, _ => ⟨_, _, _, _, _, _, rfl, rfl, rfl⟩
  exact ⟨⟨_, _, bs, _, fn_Packages_add_package T, b, r, fun _ _ => .cons (.bl _) (.nil)⟩, T.F_Packages_add_package.kp⟩
theorem b_Packages_is_sealed (T : Fx K mg cn) : BodyM P w K mg base cn 0 ["self", "name"] "Packages.is_sealed" (defScope s_Packages_is_sealed) T.a_Packages_is_sealed (defBody s_Packages_is_sealed) m_Packages_is_sealed := fun cdv A outer s H E hr => by
  have F : Fit (cxE P w K mg base ["self", "name"] "Packages.is_sealed" (defScope s_Packages_is_sealed) T.a_Packages_is_sealed cdv A outer s H E) (fun cls d _ H => E cls d H) := fit_cx
  have nd := sc_Packages_is_sealed.nd
  exact (rss_one (rs_ret (re_get (hu1 hr) (re_fld T.fl_sealed (rv 0)) (ra_cons (rv 1) (ra_cons re_bl ra_nil)))))
theorem d_Packages_is_sealed (T : Fx K mg cn) : DefM P w K mg base cn 1 T.a_Packages_is_sealed 2 [] f_Packages_is_sealed := defM0 (ps := ["self", "name"]) (fnM T.F_Packages_is_sealed sc_Packages_is_sealed (b_Packages_is_sealed T)) (T.F_Packages_is_sealed.binds (ps := ["self", "name"]) fun _ _ _ _ _ _ us hl => match us, hl with | [_, _], _ => rfl) T.F_Packages_is_sealed.kp
theorem b_l_digits (T : Fx K mg cn) : BodyM P w K mg base cn 0 ["_law_script", "_law_at", "_law_sizes", "_law_cell", "_law_great", "_law_row", "_law_k", "_law_mixed"] "_law_digits" (defScope s_l_digits) T.a_l_digits (defBody s_l_digits) m_l_digits := fun cdv A outer s H E hr => by
  have F : Fit (cxE P w K mg base ["_law_script", "_law_at", "_law_sizes", "_law_cell", "_law_great", "_law_row", "_law_k", "_law_mixed"] "_law_digits" (defScope s_l_digits) T.a_l_digits cdv A outer s H E) (fun cls d _ H => E cls d H) := fit_cx
  have nd := sc_l_digits.nd
  exact (rss_cons (rs_set (i := 3) nd rfl (Or.inl rfl) re_int)
  (rss_cons (rs_if (rt_lt  (rv 1) (re_len (by rfl) T.g_len (rv 0))) (rss_one (rs_set (i := 3) nd rfl (Or.inl rfl) (re_sub (hu1 hr) (rv 0) (rv 1) (fun _ _ => rfl)))) rss_nil)
  (rss_cons (rs_set (i := 4) nd rfl (Or.inl rfl) (re_ge  (rv 3) (re_pow re_int re_int)))
  (rss_cons (rs_set (i := 5) nd rfl (Or.inl rfl) (re_lst ra_nil))
  (rss_cons (rs_for F.pw F.calm (ri_range1 (by rfl) T.g_range (re_len (by rfl) T.g_len (rv 2))) (rg_name (i := 6) nd rfl (Or.inl rfl)) (rss_cons (rs_set (i := 7) nd rfl (Or.inl rfl) (re_mod (re_intc (by rfl) T.g_int (re_plus (re_plus (re_plus (re_mul (rv 3) re_int) (re_mul (rv 1) re_int)) (re_mul (rv 6) re_int)) re_int)) re_int))
  (rss_cons (rs_set (i := 7) nd rfl (Or.inl rfl) (re_div (re_mod (re_intc (by rfl) T.g_int (re_plus (re_plus (re_mul (rv 7) (rv 7)) (rv 3)) (re_mul (rv 6) re_int))) re_int) re_int))
  (rss_cons (rs_if (rt_val (rv 4)) (rss_cons (rs_set (i := 7) nd rfl (Or.inl rfl) (rv 3))
  (rss_one (rs_set (i := 3) nd rfl (Or.inl rfl) (re_div (rv 3) (re_sub (hu1 hr) (rv 2) (rv 6) (fun _ _ => rfl)))))) rss_nil)
  (rss_one (rs_expr (re_app (rv 5) (ra_cons (re_mod (re_intc (by rfl) T.g_int (rv 7)) (re_sub (hu1 hr) (rv 2) (rv 6) (fun _ _ => rfl))) ra_nil))))))))
  (rss_one (rs_ret (rv 5))))))))
theorem d_l_digits (T : Fx K mg cn) : DefM P w K mg base cn 1 T.a_l_digits 3 [] f_l_digits := defM0 (ps := ["_law_script", "_law_at", "_law_sizes"]) (fnM T.F_l_digits sc_l_digits (b_l_digits T)) (T.F_l_digits.binds (ps := ["_law_script", "_law_at", "_law_sizes"]) fun _ _ _ _ _ _ us hl => match us, hl with | [_, _, _], _ => rfl) T.F_l_digits.kp
theorem b_l_name (T : Fx K mg cn) : BodyM P w K mg base cn 0 ["_law_start", "_law_k", "_law_pool"] "_law_name" (defScope s_l_name) T.a_l_name (defBody s_l_name) m_l_name := fun cdv A outer s H E hr => by
  have F : Fit (cxE P w K mg base ["_law_start", "_law_k", "_law_pool"] "_law_name" (defScope s_l_name) T.a_l_name cdv A outer s H E) (fun cls d _ H => E cls d H) := fit_cx
  have nd := sc_l_name.nd
  exact (rss_cons (rs_set (i := 2) nd rfl (Or.inl rfl) (re_lst (ra_cons (re_str) (ra_cons (re_str) (ra_cons (re_str) (ra_cons (re_str) (ra_cons (re_str) (ra_cons (re_str) (ra_cons (re_str) (ra_cons (re_str) (ra_cons (re_str) (ra_cons (re_str) (ra_cons (re_str) (ra_cons (re_str) (ra_cons (re_str) (ra_cons (re_str) (ra_cons (re_str) (ra_cons (re_str) (ra_cons (re_str) ra_nil)))))))))))))))))))
  (rss_cons (rs_set (i := 2) nd rfl (Or.inl rfl) (re_plus (rv 2) (re_lst (ra_cons (re_str) (ra_cons (re_str) (ra_cons (re_str) (ra_cons (re_str) (ra_cons (re_str) (ra_cons (re_str) (ra_cons (re_str) (ra_cons (re_str) (ra_cons (re_str) ra_nil))))))))))))
  (rss_one (rs_ret (re_sub (hu1 hr) (rv 2) (re_mod (re_intc (by rfl) T.g_int (re_plus (rv 0) (re_mul re_int (rv 1)))) re_int) (fun _ _ => rfl))))))
theorem d_l_name (T : Fx K mg cn) : DefM P w K mg base cn 1 T.a_l_name 2 [] f_l_name := defM0 (ps := ["_law_start", "_law_k"]) (fnM T.F_l_name sc_l_name (b_l_name T)) (T.F_l_name.binds (ps := ["_law_start", "_law_k"]) fun _ _ _ _ _ _ us hl => match us, hl with | [_, _], _ => rfl) T.F_l_name.kp
theorem b_l_same (T : Fx K mg cn) {n : Nat} {self : List D → M D} (hself : DefM P w K mg base cn n T.a_l_same 2 [] self) : BodyM P w K mg base cn n ["_law_actual", "_law_due", "_law_k"] "_law_same" (defScope s_l_same) T.a_l_same (defBody s_l_same) (m_l_same self) := fun cdv A outer s H E hr => by
  have F : Fit (cxE P w K mg base ["_law_actual", "_law_due", "_law_k"] "_law_same" (defScope s_l_same) T.a_l_same cdv A outer s H E) (fun cls d _ H => E cls d H) := fit_cx
  have nd := sc_l_same.nd
  exact (rss_cons (rs_if (rt_isN (rv 1)) (rss_one (rs_ret (re_isN (rv 0)))) rss_nil)
  (rss_cons (rs_if (rt_val (re_isi (T := .bl) rfl (by rfl) T.g_isinstance (by rfl) T.g_bool PyProof.Rows.boot_bool (rv 1))) (rss_one (rs_ret (re_and (re_isi (T := .bl) rfl (by rfl) T.g_isinstance (by rfl) T.g_bool PyProof.Rows.boot_bool (rv 0)) (re_one (re_eq (hu64 hr) (rv 0) (rv 1)))))) rss_nil)
  (rss_cons (rs_if (rt_val (re_isi (T := .int) rfl (by rfl) T.g_isinstance (by rfl) T.g_int PyProof.Rows.boot_int (rv 1))) (rss_one (rs_ret (re_and (re_isi (T := .int) rfl (by rfl) T.g_isinstance (by rfl) T.g_int PyProof.Rows.boot_int (rv 0)) (re_and (re_not (re_isi (T := .bl) rfl (by rfl) T.g_isinstance (by rfl) T.g_bool PyProof.Rows.boot_bool (rv 0))) (re_one (re_eq (hu64 hr) (rv 0) (rv 1))))))) rss_nil)
  (rss_cons (rs_if (rt_val (re_isi (T := .str) rfl (by rfl) T.g_isinstance (by rfl) T.g_str PyProof.Rows.boot_str (rv 1))) (rss_one (rs_ret (re_and (re_isi (T := .str) rfl (by rfl) T.g_isinstance (by rfl) T.g_str PyProof.Rows.boot_str (rv 0)) (re_one (re_eq (hu64 hr) (rv 0) (rv 1)))))) rss_nil)
  (rss_cons (rs_if (rt_w (rw_and (rt_val (re_isi (T := .tup) rfl (by rfl) T.g_isinstance (by rfl) T.g_tuple PyProof.Rows.boot_tuple (rv 1))) (rw_and1 (rt_not (rt_val (re_isi (T := .tup) rfl (by rfl) T.g_isinstance (by rfl) T.g_tuple PyProof.Rows.boot_tuple (rv 0))))))) (rss_one (rs_ret re_bl)) rss_nil)
  (rss_cons (rs_if (rt_w (rw_and (rt_val (re_isi (T := .lst) rfl (by rfl) T.g_isinstance (by rfl) T.g_list PyProof.Rows.boot_list (rv 1))) (rw_and1 (rt_not (rt_val (re_isi (T := .lst) rfl (by rfl) T.g_isinstance (by rfl) T.g_list PyProof.Rows.boot_list (rv 0))))))) (rss_one (rs_ret re_bl)) rss_nil)
  (rss_cons (rs_if (rt_ne (hu64 hr) (re_len (by rfl) T.g_len (rv 0)) (re_len (by rfl) T.g_len (rv 1))) (rss_one (rs_ret re_bl)) rss_nil)
  (rss_cons (rs_for F.pw F.calm (ri_range1 (by rfl) T.g_range (re_len (by rfl) T.g_len (rv 1))) (rg_name (i := 2) nd rfl (Or.inl rfl)) (rss_one (rs_if (rt_not (rt_val (re_call F hself hr (by rfl) T.m_l_same (ra_cons (re_sub (hu1 hr) (rv 0) (rv 2) (fun _ _ => rfl)) (ra_cons (re_sub (hu1 hr) (rv 1) (rv 2) (fun _ _ => rfl)) ra_nil))))) (rss_one (rs_ret re_bl)) rss_nil)))
  (rss_one (rs_ret re_bl))))))))))
theorem d_l_sameN (T : Fx K mg cn) : ∀ n, DefM P w K mg base cn n T.a_l_same 2 [] (f_l_same n)
  | 0 => defM0 (ps := ["_law_actual", "_law_due"]) fn_bad (T.F_l_same.binds (ps := ["_law_actual", "_law_due"]) fun _ _ _ _ _ _ us hl => match us, hl with | [_, _], _ => rfl) T.F_l_same.kp
  | n + 1 => defM0 (ps := ["_law_actual", "_law_due"]) (fnM T.F_l_same sc_l_same (b_l_same T (d_l_sameN T n))) (T.F_l_same.binds (ps := ["_law_actual", "_law_due"]) fun _ _ _ _ _ _ us hl => match us, hl with | [_, _], _ => rfl) T.F_l_same.kp
theorem d_l_same (T : Fx K mg cn) : DefM P w K mg base cn 6 T.a_l_same 2 [] (f_l_same 6) := d_l_sameN T 6
theorem b_l_add (T : Fx K mg cn) : BodyM P w K mg base cn 4 ["_law_shelf", "_law_name_here", "_law_choice", "e"] "_law_add" (defScope s_l_add) T.a_l_add (defBody s_l_add) m_l_add := fun cdv A outer s H E hr => by
  have F : Fit (cxE P w K mg base ["_law_shelf", "_law_name_here", "_law_choice", "e"] "_law_add" (defScope s_l_add) T.a_l_add cdv A outer s H E) (fun cls d _ H => E cls d H) := fit_cx
  have nd := sc_l_add.nd
  exact (rss_cons (rs_tryN (c := "Taken") (i := 3) (es := errsL) F rfl rfl nd rfl (by rfl) (fun W pn xe F => (rss_one (rs_if (rt_eq (hu64 hr) (rv 2) re_int) (rss_one (rs_expr (re_meth F T.me_Packages_add_package (d_Packages_add_package_2 T) (hr.mono (by decide : 4 ≤ 4)) (rv 0) (ra_cons (rv 1) ra_nil)))) (rss_one (rs_if (rt_eq (hu64 hr) (rv 2) re_int) (rss_one (rs_expr (re_methK F T.me_Packages_add_package (d_Packages_add_package_2_sealed T) (hr.mono (by decide : 4 ≤ 4)) (rv 0) (ra_cons (rv 1) ra_nil) (rk_cons re_bl rk_nil)))) (rss_one (rs_expr (re_methK F T.me_Packages_add_package (d_Packages_add_package_2_sealed T) (hr.mono (by decide : 4 ≤ 4)) (rv 0) (ra_cons (rv 1) ra_nil) (rk_cons re_bl rk_nil))))))))) ⟨⟨by rfl, by decide, .inl T.c_Taken⟩, T.ex_Taken⟩ (fun a oe cls d pn hz hf => rsx_ret (rex_tup (rax_cons (rex_fld T.xf_row hz hf rfl (Or.inl rfl)) (rax_cons (rex_fld T.xf_what hz hf rfl (Or.inl rfl)) rax_nil)))))
  (rss_one (rs_ret (re_str))))
theorem d_l_add (T : Fx K mg cn) : DefM P w K mg base cn 5 T.a_l_add 3 [] f_l_add := defM0 (ps := ["_law_shelf", "_law_name_here", "_law_choice"]) (fnM T.F_l_add sc_l_add (b_l_add T)) (T.F_l_add.binds (ps := ["_law_shelf", "_law_name_here", "_law_choice"]) fun _ _ _ _ _ _ us hl => match us, hl with | [_, _, _], _ => rfl) T.F_l_add.kp
theorem b_law (T : Fx K mg cn) {a_law : Addr} : BodyM P w K mg base cn 6 ["_law_script", "_law_picks", "_law_shelf", "_law_other", "_law_sealing", "_law_k", "_law_row", "_law_name_here", "_law_due", "_law_j", "_law_asked"] "law" (defScope s_law) a_law (defBody s_law) m_law := fun cdv A outer s H E hr => by
  have F : Fit (cxE P w K mg base ["_law_script", "_law_picks", "_law_shelf", "_law_other", "_law_sealing", "_law_k", "_law_row", "_law_name_here", "_law_due", "_law_j", "_law_asked"] "law" (defScope s_law) a_law cdv A outer s H E) (fun cls d _ H => E cls d H) := fit_cx
  have nd := sc_law.nd
  exact (rss_cons (rs_set (i := 1) nd rfl (Or.inl rfl) (re_call F (d_l_digits T) (hr.mono (by decide : 1 ≤ 6)) (by rfl) T.m_l_digits (ra_cons (rv 0) (ra_cons re_int (ra_cons (re_lst (ra_cons re_int (ra_cons re_int ra_nil))) ra_nil)))))
  (rss_cons (rs_set (i := 2) nd rfl (Or.inl rfl) (re_make0 (c := "Packages") F T.mk_Packages (d_Packages_init T) (hr.mono (by decide : 2 ≤ 6)) (by rfl) T.c_Packages))
  (rss_cons (rs_set (i := 3) nd rfl (Or.inl rfl) (re_make0 (c := "Packages") F T.mk_Packages (d_Packages_init T) (hr.mono (by decide : 2 ≤ 6)) (by rfl) T.c_Packages))
  (rss_cons (rs_set (i := 4) nd rfl (Or.inl rfl) re_dict0)
  (rss_cons (rs_for F.pw F.calm (ri_range1 (by rfl) T.g_range (re_sub (hu1 hr) (rv 1) re_int (fun _ _ => rfl))) (rg_name (i := 5) nd rfl (Or.inl rfl)) (rss_cons (rs_set (i := 6) nd rfl (Or.inl rfl) (re_call F (d_l_digits T) (hr.mono (by decide : 1 ≤ 6)) (by rfl) T.m_l_digits (ra_cons (rv 0) (ra_cons (re_plus re_int (rv 5)) (ra_cons (re_lst (ra_cons re_int (ra_cons re_int ra_nil))) ra_nil)))))
  (rss_cons (rs_set (i := 7) nd rfl (Or.inl rfl) (re_call F (d_l_name T) (hr.mono (by decide : 1 ≤ 6)) (by rfl) T.m_l_name (ra_cons (re_sub (hu1 hr) (rv 1) re_int (fun _ _ => rfl)) (ra_cons (re_sub (hu1 hr) (rv 6) re_int (fun _ _ => rfl)) ra_nil))))
  (rss_cons (rs_set (i := 8) nd rfl (Or.inl rfl) (re_str))
  (rss_cons (rs_if (rt_in (hu65 hr) (rv 7) (rv 4)) (rss_one (rs_set (i := 8) nd rfl (Or.inl rfl) (re_tup (ra_cons re_non (ra_cons (rv 7) ra_nil))))) (rss_cons (rs_asg (re_eq (hu64 hr) (re_sub (hu1 hr) (rv 6) re_int (fun _ _ => rfl)) re_int) (rg_sub (hu1 hr) (rv 4) (rv 7)))
  (rss_one (rs_if (rt_not (rt_val (re_call F (d_l_same T) (hr.mono (by decide : 6 ≤ 6)) (by rfl) T.m_l_same (ra_cons (re_call F (d_l_add T) (hr.mono (by decide : 5 ≤ 6)) (by rfl) T.m_l_add (ra_cons (rv 3) (ra_cons (rv 7) (ra_cons (re_plus re_int (re_intc (by rfl) T.g_int (re_sub (hu1 hr) (rv 4) (rv 7) (fun _ _ => rfl)))) ra_nil)))) (ra_cons (re_str) ra_nil))))) (rss_one (rs_ret re_bl)) rss_nil))))
  (rss_cons (rs_if (rt_not (rt_val (re_call F (d_l_same T) (hr.mono (by decide : 6 ≤ 6)) (by rfl) T.m_l_same (ra_cons (re_call F (d_l_add T) (hr.mono (by decide : 5 ≤ 6)) (by rfl) T.m_l_add (ra_cons (rv 2) (ra_cons (rv 7) (ra_cons (re_sub (hu1 hr) (rv 6) re_int (fun _ _ => rfl)) ra_nil)))) (ra_cons (rv 8) ra_nil))))) (rss_one (rs_ret re_bl)) rss_nil)
  (rss_one (rs_for F.pw F.calm (ri_range1 (by rfl) T.g_range re_int) (rg_name (i := 9) nd rfl (Or.inl rfl)) (rss_cons (rs_set (i := 10) nd rfl (Or.inl rfl) (re_call F (d_l_name T) (hr.mono (by decide : 1 ≤ 6)) (by rfl) T.m_l_name (ra_cons (re_sub (hu1 hr) (rv 1) re_int (fun _ _ => rfl)) (ra_cons (rv 9) ra_nil))))
  (rss_cons (rs_if (rt_not (rt_val (re_call F (d_l_same T) (hr.mono (by decide : 6 ≤ 6)) (by rfl) T.m_l_same (ra_cons (re_meth F T.me_Packages_is_sealed (d_Packages_is_sealed T) (hr.mono (by decide : 1 ≤ 6)) (rv 2) (ra_cons (rv 10) ra_nil)) (ra_cons (re_get (hu1 hr) (rv 4) (ra_cons (rv 10) (ra_cons re_bl ra_nil))) ra_nil))))) (rss_one (rs_ret re_bl)) rss_nil)
  (rss_one (rs_if (rt_not (rt_val (re_call F (d_l_same T) (hr.mono (by decide : 6 ≤ 6)) (by rfl) T.m_l_same (ra_cons (re_meth F T.me_Packages_is_sealed (d_Packages_is_sealed T) (hr.mono (by decide : 1 ≤ 6)) (rv 3) (ra_cons (rv 10) ra_nil)) (ra_cons (re_not (re_get (hu1 hr) (rv 4) (ra_cons (rv 10) (ra_cons re_bl ra_nil)))) ra_nil))))) (rss_one (rs_ret re_bl)) rss_nil))))))))))))
  (rss_one (rs_ret re_bl)))))))
end
end My
namespace My
open PySem L2 RL
theorem add_pk {g : G} {p q : Nat} {kvs : List (D × D)} {nm : Str} {b : Bool} (h1 : g[p]? = some (.ins "Packages" [("_sealed", .ref q)])) (h2 : g[q]? = some (.dct false kvs)) (hk : kOk kvs (.str nm)) (hl : kvs.length ≤ 100000) :
    f_Packages_add_package [.ref p, .str nm, .bl b] g = if (dget kvs (.str nm)).isSome = true then .exc ⟨"Taken", [("row", .non), ("what", .str nm)]⟩ g else .ok .non (g.set q (.dct false (dput kvs (.str nm) (.bl b)))) := by
  unfold f_Packages_add_package runF m_Packages_add_package
  cases h : (dget kvs (.str nm)).isSome <;> simp [mSeq, mIfS, mTest, mOp, mUn, mUnA, mV, mC, mCons, mNil, mNext, mAsg, gN, mRet, mRetN, mDrop, onlyNx, asB, mAndT, mOrT, mNotT, mAnd, mOr, fNotV, mIf, fIsN, fIsi, tyD, isaT, fTup, fLst, mDict0, optR, fFld, fLen, fInt, fTuple, items, fSubs, fIn, fNot, ck, gSubM, fSet, mFldS, fPut, setF, fCall, mMeth, isIns, mMethK, fCallK, fMake, noX, mRaise, exc1, exc2, wOk, mBM, fApp, fGet, mTry, hGo, subE, clrR, noEx, mRetX, mXf, plusI, subI, mulI, modI, divI, powI, ltI, leI, gtI, geI, mRange1, mRange2, mFor, srcR1, srcR2, mSeqI, srcSeq, eqI, eqS, eqB, neI, neS, what_row, h1, h2, hk, hl, h]
theorem is_se {g : G} {p q : Nat} {kvs : List (D × D)} {nm : Str} (h1 : g[p]? = some (.ins "Packages" [("_sealed", .ref q)])) (h2 : g[q]? = some (.dct false kvs)) (hk : kOk kvs (.str nm)) :
    f_Packages_is_sealed [.ref p, .str nm] g = .ok ((dget kvs (.str nm)).getD (.bl false)) g := by
  unfold f_Packages_is_sealed runF m_Packages_is_sealed
  simp [mSeq, mIfS, mTest, mOp, mUn, mUnA, mV, mC, mCons, mNil, mNext, mAsg, gN, mRet, mRetN, mDrop, onlyNx, asB, mAndT, mOrT, mNotT, mAnd, mOr, fNotV, mIf, fIsN, fIsi, tyD, isaT, fTup, fLst, mDict0, optR, fFld, fLen, fInt, fTuple, items, fSubs, fIn, fNot, ck, gSubM, fSet, mFldS, fPut, setF, fCall, mMeth, isIns, mMethK, fCallK, fMake, noX, mRaise, exc1, exc2, wOk, mBM, fApp, fGet, mTry, hGo, subE, clrR, noEx, mRetX, mXf, plusI, subI, mulI, modI, divI, powI, ltI, leI, gtI, geI, mRange1, mRange2, mFor, srcR1, srcR2, mSeqI, srcSeq, eqI, eqS, eqB, neI, neS, what_row, h1, h2, hk]
theorem l_add {g : G} {p q : Nat} {kvs : List (D × D)} {nm : Str} {c : Int} (h1 : g[p]? = some (.ins "Packages" [("_sealed", .ref q)])) (h2 : g[q]? = some (.dct false kvs)) (hk : kOk kvs (.str nm)) (hl : kvs.length ≤ 100000) :
    f_l_add [.ref p, .str nm, .int c] g = if (dget kvs (.str nm)).isSome = true then .ok (.tup [.non, .str nm]) g else .ok (.str "added") (g.set q (.dct false (dput kvs (.str nm) (.bl (decide (c = 1)))))) := by
  unfold f_l_add runF m_l_add
  by_cases c0 : c = 0
  · subst c0
    cases h : (dget kvs (.str nm)).isSome <;> simp [mSeq, mIfS, mTest, mOp, mUn, mUnA, mV, mC, mCons, mNil, mNext, mAsg, gN, mRet, mRetN, mDrop, onlyNx, asB, mAndT, mOrT, mNotT, mAnd, mOr, fNotV, mIf, fIsN, fIsi, tyD, isaT, fTup, fLst, mDict0, optR, fFld, fLen, fInt, fTuple, items, fSubs, fIn, fNot, ck, gSubM, fSet, mFldS, fPut, setF, fCall, mMeth, isIns, mMethK, fCallK, fMake, noX, mRaise, exc1, exc2, wOk, mBM, fApp, fGet, mTry, hGo, subE, clrR, noEx, mRetX, mXf, plusI, subI, mulI, modI, divI, powI, ltI, leI, gtI, geI, mRange1, mRange2, mFor, srcR1, srcR2, mSeqI, srcSeq, eqI, eqS, eqB, neI, neS, what_row, h1, add_pk h1 h2 hk hl, h, errsL, List.lookup]
  · by_cases c1 : c = 1
    · subst c1
      cases h : (dget kvs (.str nm)).isSome <;> simp [mSeq, mIfS, mTest, mOp, mUn, mUnA, mV, mC, mCons, mNil, mNext, mAsg, gN, mRet, mRetN, mDrop, onlyNx, asB, mAndT, mOrT, mNotT, mAnd, mOr, fNotV, mIf, fIsN, fIsi, tyD, isaT, fTup, fLst, mDict0, optR, fFld, fLen, fInt, fTuple, items, fSubs, fIn, fNot, ck, gSubM, fSet, mFldS, fPut, setF, fCall, mMeth, isIns, mMethK, fCallK, fMake, noX, mRaise, exc1, exc2, wOk, mBM, fApp, fGet, mTry, hGo, subE, clrR, noEx, mRetX, mXf, plusI, subI, mulI, modI, divI, powI, ltI, leI, gtI, geI, mRange1, mRange2, mFor, srcR1, srcR2, mSeqI, srcSeq, eqI, eqS, eqB, neI, neS, what_row, h1, add_pk h1 h2 hk hl, h, errsL, List.lookup, gd_Packages_add_package_2_sealed]
    · cases h : (dget kvs (.str nm)).isSome <;> simp [mSeq, mIfS, mTest, mOp, mUn, mUnA, mV, mC, mCons, mNil, mNext, mAsg, gN, mRet, mRetN, mDrop, onlyNx, asB, mAndT, mOrT, mNotT, mAnd, mOr, fNotV, mIf, fIsN, fIsi, tyD, isaT, fTup, fLst, mDict0, optR, fFld, fLen, fInt, fTuple, items, fSubs, fIn, fNot, ck, gSubM, fSet, mFldS, fPut, setF, fCall, mMeth, isIns, mMethK, fCallK, fMake, noX, mRaise, exc1, exc2, wOk, mBM, fApp, fGet, mTry, hGo, subE, clrR, noEx, mRetX, mXf, plusI, subI, mulI, modI, divI, powI, ltI, leI, gtI, geI, mRange1, mRange2, mFor, srcR1, srcR2, mSeqI, srcSeq, eqI, eqS, eqB, neI, neS, what_row, h1, add_pk h1 h2 hk hl, h, errsL, List.lookup, gd_Packages_add_package_2_sealed, c0, c1]
end My
namespace My
open PySem L2 RL
/-! the digits -/
def cell0 (ns : List Int) (j : Nat) : Int := ns[j]?.getD 0
def digSt (g : Bool) (j : Int) (st : Int × List Int) (s : Int) : Int × List Int :=
  let k : Int := (st.2.length : Int)
  let m1 : Int := (st.1 * 48271 + j * 1009 + k * 69621 + 5) % 2147483647
  let m2 : Int := (m1 * m1 + st.1 + k * 7919) % 2147483629 / 7
  (if g then st.1 / s else st.1, st.2 ++ [(if g then st.1 else m2) % s])
def digR (ns : List Int) (j : Nat) (szs : List Int) : Int × List Int := szs.foldl (digSt (decide ((10 : Int) ^ (18 : Int).toNat ≤ cell0 ns j)) j) (cell0 ns j, [])
def digF (ns : List Int) (j : Nat) (szs : List Int) : List Int := (digR ns j szs).2
theorem digSt_len (g : Bool) (j : Int) : ∀ (szs : List Int) (st : Int × List Int), (szs.foldl (digSt g j) st).2.length = st.2.length + szs.length
  | [], st => by simp
  | s :: szs, st => by
    rw [List.foldl_cons, digSt_len g j szs]
    simp [digSt]
    omega
theorem digSt_ok (g : Bool) (j : Int) : ∀ (szs : List Int) (st : Int × List Int), (∀ s ∈ szs, 0 < s) → ∀ (i : Nat) (s : Int), szs[i]? = some s → ∃ d, (szs.foldl (digSt g j) st).2[st.2.length + i]? = some d ∧ 0 ≤ d ∧ d < s
  | [], st, _, i, s, h => by simp at h
  | s0 :: szs, st, hp, i, s, h => by
    rw [List.foldl_cons]
    have hp' : ∀ s ∈ szs, 0 < s := fun s m => hp s (List.mem_cons_of_mem _ m)
    cases i with
    | zero =>
      cases h
      have h0 : ∀ (l : List Int) (st : Int × List Int) (n : Nat) (d : Int), st.2[n]? = some d → (l.foldl (digSt g j) st).2[n]? = some d := by
        intro l
        induction l with
        | nil => intro st n d h; exact h
        | cons a l ih =>
          intro st n d h
          rw [List.foldl_cons]
          refine ih _ n d ?_
          simp only [digSt]
          rw [List.getElem?_append_left (List.getElem?_eq_some_iff.mp h).1]
          exact h
      have hs := hp s0 List.mem_cons_self
      refine ⟨_, h0 szs _ st.2.length _ (by simp only [digSt]; rw [List.getElem?_append_right (Nat.le_refl _), Nat.sub_self]; rfl), Int.emod_nonneg _ (by omega), Int.emod_lt_of_pos _ hs⟩
    | succ i =>
      have h' : szs[i]? = some s := by simpa using h
      obtain ⟨d, h1, h2⟩ := digSt_ok g j szs (digSt g j st s0) hp' i s h'
      refine ⟨d, ?_, h2⟩
      rw [← h1]
      congr 1
      simp [digSt]
      omega
theorem digF_at {ns szs : List Int} {j i : Nat} {s : Int} (hp : ∀ s ∈ szs, 0 < s) (h : szs[i]? = some s) : ∃ d, (digF ns j szs)[i]? = some d ∧ 0 ≤ d ∧ d < s := by
  obtain ⟨d, h1, h2⟩ := digSt_ok (decide ((10 : Int) ^ (18 : Int).toNat ≤ cell0 ns j)) j szs (cell0 ns j, []) hp i s h
  exact ⟨d, by unfold digF digR; rw [← h1]; simp, h2⟩
theorem digF_len (ns : List Int) (j : Nat) (szs : List Int) : (digF ns j szs).length = szs.length := by
  unfold digF digR
  rw [digSt_len]
  simp
theorem atI_n {α : Type} {l : List α} {n : Nat} {x : α} (h : l[n]? = some x) : L2.atI l (n : Int) = some x := by
  have hn := (List.getElem?_eq_some_iff.mp h).1
  unfold L2.atI L2.ixN
  simp [hn]
  exact (List.getElem?_eq_some_iff.mp h).2
theorem subs_it {g : G} {x : D} {l : List D} {i : Int} {d : D} (h : items g x = some l) (h2 : L2.atI l i = some d) : fSubs x (.int i) g = .ok d g := by
  unfold fSubs
  rw [h]
  dsimp only
  rw [h2]
theorem len_it {g : G} {x : D} {l : List D} (h : items g x = some l) : fLen [x] g = .ok (.int (l.length : Nat)) g := by
  unfold fLen
  dsimp only
  rw [h]
theorem set_last {α : Type} {g : List α} {a b : α} : (g ++ [a]).set g.length b = g ++ [b] := by simp
def digB : MS := mSeq (mAsg (mOp fMod (mUnA fInt (mCons (mOp fPlus (mOp fPlus (mOp fPlus (mOp fMul (mV 3) (mC (.int 48271))) (mOp fMul (mV 1) (mC (.int 1009)))) (mOp fMul (mV 6) (mC (.int 69621)))) (mC (.int 5))) mNil)) (mC (.int 2147483647))) (gN 7))
  (mSeq (mAsg (mOp fDiv (mOp fMod (mUnA fInt (mCons (mOp fPlus (mOp fPlus (mOp fMul (mV 7) (mV 7)) (mV 3)) (mOp fMul (mV 6) (mC (.int 7919)))) mNil)) (mC (.int 2147483629))) (mC (.int 7))) (gN 7))
  (mSeq (mIfS (mTest (mV 4)) (mSeq (mAsg (mV 3) (gN 7)) (mAsg (mOp fDiv (mV 3) (mOp fSubs (mV 2) (mV 6))) (gN 3))) mNext)
  (mDrop (mBM .lst fApp (mV 5) (mCons (mOp fMod (mUnA fInt (mCons (mV 7) mNil)) (mOp fSubs (mV 2) (mV 6))) mNil)))))
def digA : MS := mSeq (mAsg (mC (.int 0)) (gN 3)) (mIfS (mTest (mOp fLt (mV 1) (mUnA fLen (mCons (mV 0) mNil)))) (mAsg (mOp fSubs (mV 0) (mV 1)) (gN 3)) mNext)
theorem seq_assoc (a b c : MS) : mSeq a (mSeq b c) = mSeq (mSeq a b) c := by
  funext τ g
  unfold mSeq
  cases a τ g <;> rfl
theorem m_dig : m_l_digits = mSeq digA (mSeq (mAsg (mOp fGe (mV 3) (mOp fPow (mC (.int 10)) (mC (.int 18)))) (gN 4)) (mSeq (mAsg (mUnA fLst mNil) (gN 5)) (mSeq (mFor (mRange1 (mUnA fLen (mCons (mV 2) mNil))) (gN 6) digB) (mRet (mV 5))))) := by
  unfold digA
  rw [← seq_assoc]
  rfl
section
variable {g : G} {x0 : D} {z : Nat} {ns szs : List Int} {j : Nat}
theorem dig_cell : digA [some (.kl (ns.map D.int)), some (.int j), some (.ref z), none, none, none, none, none] g = .nx [some (.kl (ns.map D.int)), some (.int j), some (.ref z), some (.int (cell0 ns j)), none, none, none, none] g := by
  unfold digA
  have hlt : ∀ b, decide ((j : Int) < (ns.length : Int)) = b → fLt (.int j) (.int ((ns.map D.int).length : Nat)) g = .ok (.bl b) g := fun b hb => by rw [ltI, List.length_map, hb]
  by_cases h : j < ns.length
  · have h2 : L2.atI (ns.map D.int) (j : Int) = some (.int (cell0 ns j)) := atI_n (by rw [List.getElem?_map]; unfold cell0; rw [List.getElem?_eq_getElem h]; rfl)
    have h3 : (j : Int) < (ns.length : Int) := by omega
    refine (seq_nx (asg_ok rfl)).trans ((if_t (tst (ev2 rfl (una_ok (cons_ok rfl nil_ok) (len_it rfl)) (hlt true (decide_eq_true h3))))).trans (asg_ok (ev2 rfl rfl (subs_it rfl h2))))
  · have h3 : ¬ (j : Int) < (ns.length : Int) := by omega
    have h2 : cell0 ns j = 0 := by unfold cell0; rw [List.getElem?_eq_none (by omega)]; rfl
    refine (seq_nx (asg_ok rfl)).trans ((if_f (tst (ev2 rfl (una_ok (cons_ok rfl nil_ok) (len_it rfl)) (hlt false (decide_eq_false h3))))).trans ?_)
    rw [h2]
    rfl
theorem m1_small (x : Int) : -(2 ^ 64) < x % 2147483647 ∧ x % 2147483647 < 2 ^ 64 := by
  have h1 := Int.emod_nonneg x (b := 2147483647) (by decide)
  have h2 := Int.emod_lt_of_pos x (b := 2147483647) (by decide)
  omega
theorem dig_body {j : Int} {G : G} {r : Nat} {c sz : Int} {row : List Int} {gr : Bool} {x6 : Int} {x7 : Option D} (hz : G[z]? = some (.lst (szs.map D.int))) (hr : G[r]? = some (.lst (row.map D.int))) (hx : x6 = (row.length : Int)) (hat : L2.atI (szs.map D.int) x6 = some (.int sz)) (hp0 : 0 < sz) (hp1 : sz < 1073741824) (hl : row.length ≤ 100000) :
    ∃ x7', digB [some x0, some (.int j), some (.ref z), some (.int c), some (.bl gr), some (.ref r), some (.int x6), x7] G =
      .nx [some x0, some (.int j), some (.ref z), some (.int (digSt gr j (c, row) sz).1), some (.bl gr), some (.ref r), some (.int x6), x7'] (G.set r (.lst ((digSt gr j (c, row) sz).2.map D.int))) := by
  have c1 : ∀ i : Int, (-(2 ^ 64) < i ∧ i < 2 ^ 64) ∨ (-(2 ^ 64) < (48271 : Int) ∧ (48271 : Int) < 2 ^ 64) := fun i => .inr ⟨by decide, by decide⟩
  have c2 : ∀ i : Int, (-(2 ^ 64) < i ∧ i < 2 ^ 64) ∨ (-(2 ^ 64) < (1009 : Int) ∧ (1009 : Int) < 2 ^ 64) := fun i => .inr ⟨by decide, by decide⟩
  have c3 : ∀ i : Int, (-(2 ^ 64) < i ∧ i < 2 ^ 64) ∨ (-(2 ^ 64) < (69621 : Int) ∧ (69621 : Int) < 2 ^ 64) := fun i => .inr ⟨by decide, by decide⟩
  have c4 : ∀ i : Int, (-(2 ^ 64) < i ∧ i < 2 ^ 64) ∨ (-(2 ^ 64) < (7919 : Int) ∧ (7919 : Int) < 2 ^ 64) := fun i => .inr ⟨by decide, by decide⟩
  have hm := m1_small (c * 48271 + j * 1009 + x6 * 69621 + 5)
  have e1 : mAsg (mOp fMod (mUnA fInt (mCons (mOp fPlus (mOp fPlus (mOp fPlus (mOp fMul (mV 3) (mC (.int 48271))) (mOp fMul (mV 1) (mC (.int 1009)))) (mOp fMul (mV 6) (mC (.int 69621)))) (mC (.int 5))) mNil)) (mC (.int 2147483647))) (gN 7) [some x0, some (.int j), some (.ref z), some (.int c), some (.bl gr), some (.ref r), some (.int x6), x7] G = .nx [some x0, some (.int j), some (.ref z), some (.int c), some (.bl gr), some (.ref r), some (.int x6), some (.int ((c * 48271 + j * 1009 + x6 * 69621 + 5) % 2147483647))] G :=
    asg_ok (ev2 (evInt (ev2 (ev2 (ev2 (ev2 rfl rfl (mulI _ _ (c1 _))) (ev2 rfl rfl (mulI _ _ (c2 _))) (plusI _ _)) (ev2 rfl rfl (mulI _ _ (c3 _))) (plusI _ _)) rfl (plusI _ _))) rfl (modI _ _ (by decide)))
  generalize hm1 : (c * 48271 + j * 1009 + x6 * 69621 + 5) % 2147483647 = m1 at e1 hm
  have e2 : mAsg (mOp fDiv (mOp fMod (mUnA fInt (mCons (mOp fPlus (mOp fPlus (mOp fMul (mV 7) (mV 7)) (mV 3)) (mOp fMul (mV 6) (mC (.int 7919)))) mNil)) (mC (.int 2147483629))) (mC (.int 7))) (gN 7) [some x0, some (.int j), some (.ref z), some (.int c), some (.bl gr), some (.ref r), some (.int x6), some (.int m1)] G = .nx [some x0, some (.int j), some (.ref z), some (.int c), some (.bl gr), some (.ref r), some (.int x6), some (.int ((m1 * m1 + c + x6 * 7919) % 2147483629 / 7))] G :=
    asg_ok (ev2 (ev2 (evInt (ev2 (ev2 (ev2 rfl rfl (mulI _ _ (.inl hm))) rfl (plusI _ _)) (ev2 rfl rfl (mulI _ _ (c4 _))) (plusI _ _))) rfl (modI _ _ (by decide))) rfl (divI _ _ (by decide) (by decide)))
  generalize hm2 : (m1 * m1 + c + x6 * 7919) % 2147483629 / 7 = m2 at e2
  have hd : digSt gr j (c, row) sz = (if gr then c / sz else c, row ++ [(if gr then c else m2) % sz]) := by
    unfold digSt
    dsimp only
    rw [← hx, hm1, hm2]
  rw [hd]
  unfold digB
  rw [seq_nx e1, seq_nx e2]
  have hap : ∀ (c' m' : Int), mDrop (mBM .lst fApp (mV 5) (mCons (mOp fMod (mUnA fInt (mCons (mV 7) mNil)) (mOp fSubs (mV 2) (mV 6))) mNil)) [some x0, some (.int j), some (.ref z), some (.int c'), some (.bl gr), some (.ref r), some (.int x6), some (.int m')] G = .nx [some x0, some (.int j), some (.ref z), some (.int c'), some (.bl gr), some (.ref r), some (.int x6), some (.int m')] (G.set r (.lst (row.map D.int ++ [.int (m' % sz)]))) := fun c' m' =>
    drop_ok (bm_ok rfl (ty_lst hr) (cons_ok (ev2 (evInt rfl) (ev2 rfl rfl (subs_at hz hat)) (modI _ _ hp0)) nil_ok) (app_at hr (by rw [List.length_map]; exact hl)))
  cases gr with
  | true =>
    refine ⟨some (.int c), ?_⟩
    have e3 : mIfS (mTest (mV 4)) (mSeq (mAsg (mV 3) (gN 7)) (mAsg (mOp fDiv (mV 3) (mOp fSubs (mV 2) (mV 6))) (gN 3))) mNext [some x0, some (.int j), some (.ref z), some (.int c), some (.bl true), some (.ref r), some (.int x6), some (.int m2)] G = .nx [some x0, some (.int j), some (.ref z), some (.int (c / sz)), some (.bl true), some (.ref r), some (.int x6), some (.int c)] G :=
      (if_t (tst rfl)).trans ((seq_nx (asg_ok rfl)).trans (asg_ok (ev2 rfl (ev2 rfl rfl (subs_at hz hat)) (divI _ _ hp0 hp1))))
    rw [seq_nx e3, hap, List.map_append]
    rfl
  | false =>
    refine ⟨some (.int m2), ?_⟩
    have e3 : mIfS (mTest (mV 4)) (mSeq (mAsg (mV 3) (gN 7)) (mAsg (mOp fDiv (mV 3) (mOp fSubs (mV 2) (mV 6))) (gN 3))) mNext [some x0, some (.int j), some (.ref z), some (.int c), some (.bl false), some (.ref r), some (.int x6), some (.int m2)] G = .nx [some x0, some (.int j), some (.ref z), some (.int c), some (.bl false), some (.ref r), some (.int x6), some (.int m2)] G :=
      (if_f (tst rfl)).trans rfl
    rw [seq_nx e3, hap, List.map_append]
    rfl
theorem dig_loop {j : Int} {gr : Bool} {c0 : Int} (hz : g[z]? = some (.lst (szs.map D.int))) (hl : szs.length ≤ 64) (hp : ∀ x ∈ szs, 0 < x ∧ x ≤ 1000) :
    ∃ x6 x7, mFor (mRange1 (mUnA fLen (mCons (mV 2) mNil))) (gN 6) digB [some x0, some (.int j), some (.ref z), some (.int c0), some (.bl gr), some (.ref g.length), none, none] (g ++ [.lst []]) =
      .nx [some x0, some (.int j), some (.ref z), some (.int (szs.foldl (digSt gr j) (c0, [])).1), some (.bl gr), some (.ref g.length), x6, x7] (g ++ [.lst ((szs.foldl (digSt gr j) (c0, [])).2.map D.int)]) := by
  have hz2 : ∀ o, (g ++ [o])[z]? = some (.lst (szs.map D.int)) := fun o => by rw [List.getElem?_append_left (List.getElem?_eq_some_iff.mp hz).1]; exact hz
  obtain ⟨τ', g', h4, x6, x7, e1, e2⟩ := for_all (g := g ++ [.lst []]) (mg := gN 6) (mb := digB)
    (fun i τ G => ∃ x6 x7, τ = [some x0, some (.int j), some (.ref z), some (.int ((szs.take i).foldl (digSt gr j) (c0, [])).1), some (.bl gr), some (.ref g.length), x6, x7] ∧ G = g ++ [.lst ((((szs.take i).foldl (digSt gr j) (c0, [])).2).map D.int)])
    (rng 0 szs.length) (fun i d τ G hd hI => by
      obtain ⟨hi, hd2⟩ := rng_get hd
      obtain ⟨x6, x7, rfl, rfl⟩ := hI
      subst hd2
      refine ⟨_, _, rfl, ?_⟩
      have hsz := hp szs[i] (List.getElem_mem hi)
      have hF : (szs.take (i + 1)).foldl (digSt gr j) (c0, []) = digSt gr j ((szs.take i).foldl (digSt gr j) (c0, [])) szs[i] := by
        have e : szs.take (i + 1) = szs.take i ++ [szs[i]] := (List.take_append_getElem hi).symm
        rw [e, List.foldl_append]
        rfl
      have hlen : ((szs.take i).foldl (digSt gr j) (c0, [])).2.length = i := by rw [digSt_len, List.length_take]; simp; omega
      rw [hF]
      have hat : L2.atI (szs.map D.int) (0 + (i : Int)) = some (.int szs[i]) := by rw [Int.zero_add]; exact atI_n (by rw [List.getElem?_map, List.getElem?_eq_getElem hi]; rfl)
      obtain ⟨x7', h⟩ := dig_body (x0 := x0) (j := j) (gr := gr) (x7 := x7) (c := ((szs.take i).foldl (digSt gr j) (c0, [])).1) (row := ((szs.take i).foldl (digSt gr j) (c0, [])).2) (hz2 (.lst ((((szs.take i).foldl (digSt gr j) (c0, [])).2).map D.int))) (r := g.length) (by simp) (by rw [hlen]; omega) hat hsz.1 (by omega) (by omega)
      exact ⟨_, _, h, some (.int (0 + (i : Int))), x7', rfl, set_last⟩) (τ := [some x0, some (.int j), some (.ref z), some (.int c0), some (.bl gr), some (.ref g.length), none, none]) ⟨none, none, rfl, rfl⟩
  refine ⟨x6, x7, ?_⟩
  rw [show (rng 0 szs.length).length = szs.length from by simp [rng], List.take_length] at e1 e2
  rw [← e1, ← e2, ← h4]
  refine for_ok (range1_ok (una_ok (cons_ok rfl nil_ok) ?_) (by omega))
  rw [len_at (hz2 _), List.length_map]
theorem dig_eq (hz : g[z]? = some (.lst (szs.map D.int))) (hl : szs.length ≤ 64) (hp : ∀ x ∈ szs, 0 < x ∧ x ≤ 1000) :
    f_l_digits [.kl (ns.map D.int), .int j, .ref z] g = .ok (.ref g.length) (g ++ [.lst ((digF ns j szs).map D.int)]) := by
  unfold f_l_digits runF
  rw [m_dig, show ([D.kl (ns.map D.int), .int j, .ref z].map some ++ List.replicate (8 - [D.kl (ns.map D.int), .int j, .ref z].length) none : T) = [some (.kl (ns.map D.int)), some (.int j), some (.ref z), none, none, none, none, none] from rfl, seq_nx dig_cell]
  have h2 : mAsg (mOp fGe (mV 3) (mOp fPow (mC (.int 10)) (mC (.int 18)))) (gN 4) [some (.kl (ns.map D.int)), some (.int j), some (.ref z), some (.int (cell0 ns j)), none, none, none, none] g = .nx [some (.kl (ns.map D.int)), some (.int j), some (.ref z), some (.int (cell0 ns j)), some (.bl (decide ((10 : Int) ^ (18 : Int).toNat ≤ cell0 ns j))), none, none, none] g := by
    simp [mSeq, mIfS, mTest, mOp, mUn, mUnA, mV, mC, mCons, mNil, mNext, mAsg, gN, mRet, mRetN, mDrop, onlyNx, asB, mAndT, mOrT, mNotT, mAnd, mOr, fNotV, mIf, fIsN, fIsi, tyD, isaT, fTup, fLst, mDict0, optR, fFld, fLen, fInt, fTuple, items, fSubs, fIn, fNot, ck, gSubM, fSet, mFldS, fPut, setF, fCall, mMeth, isIns, mMethK, fCallK, fMake, noX, mRaise, exc1, exc2, wOk, mBM, fApp, fGet, mTry, hGo, subE, clrR, noEx, mRetX, mXf, plusI, subI, mulI, modI, divI, powI, ltI, leI, gtI, geI, mRange1, mRange2, mFor, srcR1, srcR2, mSeqI, srcSeq, eqI, eqS, eqB, neI, neS, what_row]
  have h3 : ∀ gr, mAsg (mUnA fLst mNil) (gN 5) [some (.kl (ns.map D.int)), some (.int j), some (.ref z), some (.int (cell0 ns j)), some (.bl gr), none, none, none] g = .nx [some (.kl (ns.map D.int)), some (.int j), some (.ref z), some (.int (cell0 ns j)), some (.bl gr), some (.ref g.length), none, none] (g ++ [.lst []]) := fun gr => by
    simp [mSeq, mIfS, mTest, mOp, mUn, mUnA, mV, mC, mCons, mNil, mNext, mAsg, gN, mRet, mRetN, mDrop, onlyNx, asB, mAndT, mOrT, mNotT, mAnd, mOr, fNotV, mIf, fIsN, fIsi, tyD, isaT, fTup, fLst, mDict0, optR, fFld, fLen, fInt, fTuple, items, fSubs, fIn, fNot, ck, gSubM, fSet, mFldS, fPut, setF, fCall, mMeth, isIns, mMethK, fCallK, fMake, noX, mRaise, exc1, exc2, wOk, mBM, fApp, fGet, mTry, hGo, subE, clrR, noEx, mRetX, mXf, plusI, subI, mulI, modI, divI, powI, ltI, leI, gtI, geI, mRange1, mRange2, mFor, srcR1, srcR2, mSeqI, srcSeq, eqI, eqS, eqB, neI, neS, what_row]
  obtain ⟨x6, x7, h5⟩ := dig_loop (x0 := .kl (ns.map D.int)) (j := j) (gr := decide ((10 : Int) ^ (18 : Int).toNat ≤ cell0 ns j)) (c0 := cell0 ns j) hz hl hp
  rw [seq_nx h2, seq_nx (h3 _), seq_nx h5]
  rfl
end
end My
namespace My
open PySem L2 RL
/-! the names -/
def poolA : List Str := ["a", "b2", "cab", "d", "e0", "fox", "gg", "h1", "ice", "j", "kilo", "lo", "mmm", "n9", "oak", "p", "q7"]
def poolB : List Str := ["rr", "s", "tin", "0", "v", "wax", "abcdefghijkl", "yes", "z0o"]
def nameF (a b : Int) : Str := (poolA ++ poolB).getD ((a + 7 * b) % 26).toNat ""
theorem pool_all : (poolA ++ poolB).all sOk = true := by decide +kernel
theorem nameF_at (a b : Int) : L2.atI ((poolA ++ poolB).map D.str) ((a + 7 * b) % 26) = some (.str (nameF a b)) := by
  have h1 := Int.emod_nonneg (a + 7 * b) (b := 26) (by decide)
  have h2 := Int.emod_lt_of_pos (a + 7 * b) (b := 26) (by decide)
  unfold nameF
  generalize (a + 7 * b) % 26 = z at h1 h2
  obtain ⟨n, rfl⟩ := Int.eq_ofNat_of_zero_le h1
  have hn : n < (poolA ++ poolB).length := by show n < 26; omega
  refine atI_n ?_
  rw [List.getElem?_map, List.getElem?_eq_getElem hn, Int.toNat_natCast, List.getD_eq_getElem?_getD, List.getElem?_eq_getElem hn]
  rfl
abbrev pool3 (g : G) : G := g ++ [Ob.lst (poolA.map D.str)] ++ [Ob.lst (poolB.map D.str)] ++ [Ob.lst (poolA.map D.str ++ poolB.map D.str)]
theorem name_eq (a b : Int) (g : G) : f_l_name [.int a, .int b] g = .ok (.str (nameF a b)) (pool3 g) := by
  unfold f_l_name runF m_l_name
  have h1 : ∀ τ, mUnA fLst (mCons (mC (.str "a")) (mCons (mC (.str "b2")) (mCons (mC (.str "cab")) (mCons (mC (.str "d")) (mCons (mC (.str "e0")) (mCons (mC (.str "fox")) (mCons (mC (.str "gg")) (mCons (mC (.str "h1")) (mCons (mC (.str "ice")) (mCons (mC (.str "j")) (mCons (mC (.str "kilo")) (mCons (mC (.str "lo")) (mCons (mC (.str "mmm")) (mCons (mC (.str "n9")) (mCons (mC (.str "oak")) (mCons (mC (.str "p")) (mCons (mC (.str "q7")) mNil))))))))))))))))) τ g = .ok (.ref g.length) (g ++ [.lst (poolA.map D.str)]) := fun _ => rfl
  have h2 : ∀ τ G, mUnA fLst (mCons (mC (.str "rr")) (mCons (mC (.str "s")) (mCons (mC (.str "tin")) (mCons (mC (.str "0")) (mCons (mC (.str "v")) (mCons (mC (.str "wax")) (mCons (mC (.str "abcdefghijkl")) (mCons (mC (.str "yes")) (mCons (mC (.str "z0o")) mNil))))))))) τ G = .ok (.ref G.length) (G ++ [.lst (poolB.map D.str)]) := fun _ _ => rfl
  have h3 : fSubs (.ref (g ++ [Ob.lst (poolA.map D.str)] ++ [Ob.lst (poolB.map D.str)]).length) (.int ((a + 7 * b) % 26)) (pool3 g) = .ok (.str (nameF a b)) (pool3 g) := subs_at end_get (by rw [← List.map_append]; exact nameF_at a b)
  rw [show ([D.int a, D.int b].map some ++ List.replicate (3 - [D.int a, D.int b].length) none : T) = [some (.int a), some (.int b), none] from rfl, seq_nx (asg_ok (h1 _)),
    seq_nx (asg_ok (ev2 (x := .ref g.length) rfl (h2 _ _) (plusL (app_get end_get) end_get (by decide)))),
    ret_ok (ev2 rfl (ev2 (evInt (ev2 rfl (ev2 rfl rfl (mulI _ _ (.inl ⟨by decide, by decide⟩))) (plusI _ _))) rfl (modI _ _ (by decide))) h3)]
end My
namespace My
open PySem L2 RL
/-! the comparison -/
theorem if_n {g : G} {c : MT} {a : MS} {τ : T} {g1 : G} (h : c τ g = .ok false g1) : mIfS c a mNext τ g = .nx τ g1 := by
  rw [if_f h]
  rfl
def sameG (g : G) : Nat → D → D → Prop
  | 0, _, _ => False
  | n + 1, .tup l, .tup l' => l.length = l'.length ∧ l.length ≤ 1000 ∧ ∀ (i : Nat) (x y : D), l[i]? = some x → l'[i]? = some y → sameG g n x y
  | n + 1, .ref a, .ref b => ∃ l l', g[a]? = some (.lst l) ∧ g[b]? = some (.lst l') ∧ l.length = l'.length ∧ l.length ≤ 1000 ∧ ∀ (i : Nat) (x y : D), l[i]? = some x → l'[i]? = some y → sameG g n x y
  | _ + 1, .kl _, _ => False
  | _ + 1, x, y => x = y
def sameL (self : List D → M D) : MS := mFor (mRange1 (mUnA fLen (mCons (mV 1) mNil))) (gN 2) (mIfS (mNotT (mTest (mUnA (fCall 2 [] self) (mCons (mOp fSubs (mV 0) (mV 2)) (mCons (mOp fSubs (mV 1) (mV 2)) mNil))))) (mRet (mC (.bl false))) mNext)
theorem same_loop {g : G} {self : List D → M D} {x y : D} {l l' : List D} (hx : items g x = some l) (hy : items g y = some l') (hl : l.length = l'.length) (hz : l.length ≤ 1000) (hs : ∀ (i : Nat) (a b : D), l[i]? = some a → l'[i]? = some b → self [a, b] g = .ok (.bl true) g) :
    ∃ k, sameL self [some x, some y, none] g = .nx [some x, some y, k] g := by
  obtain ⟨τ', g', h4, k, e1, e2⟩ := for_all (g := g) (mg := gN 2) (mb := mIfS (mNotT (mTest (mUnA (fCall 2 [] self) (mCons (mOp fSubs (mV 0) (mV 2)) (mCons (mOp fSubs (mV 1) (mV 2)) mNil))))) (mRet (mC (.bl false))) mNext)
    (fun i τ G => ∃ k, τ = [some x, some y, k] ∧ G = g) (rng 0 l'.length) (fun i d τ G hd hI => by
      obtain ⟨hi, hd2⟩ := rng_get hd
      obtain ⟨k, rfl, rfl⟩ := hI
      subst hd2
      refine ⟨_, _, rfl, ?_⟩
      have hi' : i < l.length := by omega
      have ha : L2.atI l (0 + (i : Int)) = some l[i] := by rw [Int.zero_add]; exact atI_n (List.getElem?_eq_getElem hi')
      have hb : L2.atI l' (0 + (i : Int)) = some l'[i] := by rw [Int.zero_add]; exact atI_n (List.getElem?_eq_getElem hi)
      have hcall := hs i _ _ (List.getElem?_eq_getElem hi') (List.getElem?_eq_getElem hi)
      have ht : mTest (mUnA (fCall 2 [] self) (mCons (mOp fSubs (mV 0) (mV 2)) (mCons (mOp fSubs (mV 1) (mV 2)) mNil))) [some x, some y, some (.int (0 + (i : Int)))] G = .ok true G :=
        tst (una_ok (cons_ok (ev2 rfl rfl (subs_it hx ha)) (cons_ok (ev2 rfl rfl (subs_it hy hb)) nil_ok)) (call_ok rfl hcall))
      refine ⟨_, _, if_f ?_, some (.int (0 + (i : Int))), rfl, rfl⟩
      unfold mNotT
      show (mTest _ [some x, some y, some (.int (0 + (i : Int)))] G).bind _ = _
      rw [ht]
      rfl) (τ := [some x, some y, none]) ⟨none, rfl, rfl⟩
  refine ⟨k, ?_⟩
  subst e1
  subst e2
  rw [← h4]
  exact for_ok (range1_ok (una_ok (cons_ok rfl nil_ok) (len_it hy)) (by omega))
theorem m_same (self : List D → M D) : m_l_same self = mSeq (mIfS (mTest (mUn (fIsN true) (mV 1))) (mRet (mUn (fIsN true) (mV 0))) mNext)
  (mSeq (mIfS (mTest (mUn (fIsi .bl) (mV 1))) (mRet (mAnd (mUn (fIsi .bl) (mV 0)) (mOp fEq (mV 0) (mV 1)))) mNext)
  (mSeq (mIfS (mTest (mUn (fIsi .int) (mV 1))) (mRet (mAnd (mUn (fIsi .int) (mV 0)) (mAnd (mUn fNotV (mUn (fIsi .bl) (mV 0))) (mOp fEq (mV 0) (mV 1))))) mNext)
  (mSeq (mIfS (mTest (mUn (fIsi .str) (mV 1))) (mRet (mAnd (mUn (fIsi .str) (mV 0)) (mOp fEq (mV 0) (mV 1)))) mNext)
  (mSeq (mIfS (mAndT (mTest (mUn (fIsi .tup) (mV 1))) (mNotT (mTest (mUn (fIsi .tup) (mV 0))))) (mRet (mC (.bl false))) mNext)
  (mSeq (mIfS (mAndT (mTest (mUn (fIsi .lst) (mV 1))) (mNotT (mTest (mUn (fIsi .lst) (mV 0))))) (mRet (mC (.bl false))) mNext)
  (mSeq (mIfS (mTest (mOp fNe (mUnA fLen (mCons (mV 0) mNil)) (mUnA fLen (mCons (mV 1) mNil)))) (mRet (mC (.bl false))) mNext)
  (mSeq (sameL self) (mRet (mC (.bl true))))))))))  := rfl
theorem same_eq {g : G} : ∀ (n : Nat) (x y : D), sameG g n x y → f_l_same n [x, y] g = .ok (.bl true) g
  | 0, _, _, h => h.elim
  | n + 1, x, y, h => by
    have ih := same_eq (g := g) n
    have seq : ∀ {l l' : List D}, items g x = some l → items g y = some l' → l.length = l'.length → l.length ≤ 1000 → (∀ (i : Nat) (a b : D), l[i]? = some a → l'[i]? = some b → sameG g n a b) → (tyD g x = tyD g y ∧ (tyD g y = some .tup ∨ tyD g y = some .lst)) → y ≠ .non → f_l_same (n + 1) [x, y] g = .ok (.bl true) g := by
      intro l l' hx hy hl hz hs hty hnn
      obtain ⟨k, hk⟩ := same_loop (self := f_l_same n) hx hy hl hz fun i a b h1 h2 => ih a b (hs i a b h1 h2)
      have isi : ∀ (T : Ty) (z : D) (t : Ty), tyD g z = some t → t ≠ .dct ∧ T ≠ .non → fIsi T z g = .ok (.bl (isaT t T)) g := fun T z t e h => by
        unfold fIsi
        rw [e]
        exact ck_pos h _
      have hne : mTest (mOp fNe (mUnA fLen (mCons (mV 0) mNil)) (mUnA fLen (mCons (mV 1) mNil))) [some x, some y, none] g = .ok false g :=
        tst (ev2 (una_ok (cons_ok rfl nil_ok) (len_it hx)) (una_ok (cons_ok rfl nil_ok) (len_it hy)) (by rw [neI, hl]; simp))
      have hN : mTest (mUn (fIsN true) (mV 1)) [some x, some y, none] g = .ok false g := tst (by
        show Res.ok (D.bl (decide (y = D.non))) g = _
        rw [decide_eq_false hnn])
      show (match m_l_same (f_l_same n) [some x, some y, none] g with | .nx _ g' => _ | .rt d g' => _ | .ex e _ g' => _ | _ => _) = _
      rw [m_same]
      rcases hty with ⟨e1, e2 | e2⟩
      · have t0 : ∀ T, T ≠ .non → isaT .tup T = false → mTest (mUn (fIsi T) (mV 1)) [some x, some y, none] g = .ok false g := fun T hT hf => tst (by show fIsi T y g = _; rw [isi T y .tup e2 ⟨by decide, hT⟩, hf])
        have t1 : mTest (mUn (fIsi .tup) (mV 1)) [some x, some y, none] g = .ok true g := tst (by show fIsi .tup y g = _; rw [isi .tup y .tup e2 (by decide)]; rfl)
        have t2 : mTest (mUn (fIsi .tup) (mV 0)) [some x, some y, none] g = .ok true g := tst (by show fIsi .tup x g = _; rw [isi .tup x .tup (e1.trans e2) (by decide)]; rfl)
        have t3 : mAndT (mTest (mUn (fIsi .tup) (mV 1))) (mNotT (mTest (mUn (fIsi .tup) (mV 0)))) [some x, some y, none] g = .ok false g := by
          unfold mAndT mNotT
          rw [t1]
          show (mTest (mUn (fIsi .tup) (mV 0)) [some x, some y, none] g).bind _ = _
          rw [t2]
          rfl
        have t4 : mAndT (mTest (mUn (fIsi .lst) (mV 1))) (mNotT (mTest (mUn (fIsi .lst) (mV 0)))) [some x, some y, none] g = .ok false g := by
          unfold mAndT
          rw [t0 .lst (by decide) rfl]
          rfl
        rw [seq_nx (if_n hN), seq_nx (if_n (t0 .bl (by decide) rfl)), seq_nx (if_n (t0 .int (by decide) rfl)), seq_nx (if_n (t0 .str (by decide) rfl)), seq_nx (if_n t3), seq_nx (if_n t4), seq_nx (if_n hne), seq_nx hk]
        rfl
      · have t0 : ∀ T, T ≠ .non → isaT .lst T = false → mTest (mUn (fIsi T) (mV 1)) [some x, some y, none] g = .ok false g := fun T hT hf => tst (by show fIsi T y g = _; rw [isi T y .lst e2 ⟨by decide, hT⟩, hf])
        have t1 : mTest (mUn (fIsi .lst) (mV 1)) [some x, some y, none] g = .ok true g := tst (by show fIsi .lst y g = _; rw [isi .lst y .lst e2 (by decide)]; rfl)
        have t2 : mTest (mUn (fIsi .lst) (mV 0)) [some x, some y, none] g = .ok true g := tst (by show fIsi .lst x g = _; rw [isi .lst x .lst (e1.trans e2) (by decide)]; rfl)
        have t3 : mAndT (mTest (mUn (fIsi .lst) (mV 1))) (mNotT (mTest (mUn (fIsi .lst) (mV 0)))) [some x, some y, none] g = .ok false g := by
          unfold mAndT mNotT
          rw [t1]
          show (mTest (mUn (fIsi .lst) (mV 0)) [some x, some y, none] g).bind _ = _
          rw [t2]
          rfl
        have t4 : mAndT (mTest (mUn (fIsi .tup) (mV 1))) (mNotT (mTest (mUn (fIsi .tup) (mV 0)))) [some x, some y, none] g = .ok false g := by
          unfold mAndT
          rw [t0 .tup (by decide) rfl]
          rfl
        rw [seq_nx (if_n hN), seq_nx (if_n (t0 .bl (by decide) rfl)), seq_nx (if_n (t0 .int (by decide) rfl)), seq_nx (if_n (t0 .str (by decide) rfl)), seq_nx (if_n t4), seq_nx (if_n t3), seq_nx (if_n hne), seq_nx hk]
        rfl
    have leaf : x = y → (∀ l, x ≠ .tup l) → (∀ l, x ≠ .kl l) → (∀ m, x ≠ .ref m) → f_l_same (n + 1) [x, y] g = .ok (.bl true) g := by
      rintro rfl h1 h3 h2
      unfold f_l_same runF m_l_same
      cases x with
      | tup l => exact absurd rfl (h1 l)
      | kl l => exact absurd rfl (h3 l)
      | ref m => exact absurd rfl (h2 m)
      | non => simp [mSeq, mIfS, mTest, mOp, mUn, mUnA, mV, mC, mCons, mNil, mNext, mAsg, gN, mRet, mRetN, mDrop, onlyNx, asB, mAndT, mOrT, mNotT, mAnd, mOr, fNotV, mIf, fIsN, fIsi, tyD, isaT, fTup, fLst, mDict0, optR, fFld, fLen, fInt, fTuple, items, fSubs, fIn, fNot, ck, gSubM, fSet, mFldS, fPut, setF, fCall, mMeth, isIns, mMethK, fCallK, fMake, noX, mRaise, exc1, exc2, wOk, mBM, fApp, fGet, mTry, hGo, subE, clrR, noEx, mRetX, mXf, plusI, subI, mulI, modI, divI, powI, ltI, leI, gtI, geI, mRange1, mRange2, mFor, srcR1, srcR2, mSeqI, srcSeq, eqI, eqS, eqB, neI, neS, what_row]
      | bl b => simp [mSeq, mIfS, mTest, mOp, mUn, mUnA, mV, mC, mCons, mNil, mNext, mAsg, gN, mRet, mRetN, mDrop, onlyNx, asB, mAndT, mOrT, mNotT, mAnd, mOr, fNotV, mIf, fIsN, fIsi, tyD, isaT, fTup, fLst, mDict0, optR, fFld, fLen, fInt, fTuple, items, fSubs, fIn, fNot, ck, gSubM, fSet, mFldS, fPut, setF, fCall, mMeth, isIns, mMethK, fCallK, fMake, noX, mRaise, exc1, exc2, wOk, mBM, fApp, fGet, mTry, hGo, subE, clrR, noEx, mRetX, mXf, plusI, subI, mulI, modI, divI, powI, ltI, leI, gtI, geI, mRange1, mRange2, mFor, srcR1, srcR2, mSeqI, srcSeq, eqI, eqS, eqB, neI, neS, what_row]
      | int i => simp [mSeq, mIfS, mTest, mOp, mUn, mUnA, mV, mC, mCons, mNil, mNext, mAsg, gN, mRet, mRetN, mDrop, onlyNx, asB, mAndT, mOrT, mNotT, mAnd, mOr, fNotV, mIf, fIsN, fIsi, tyD, isaT, fTup, fLst, mDict0, optR, fFld, fLen, fInt, fTuple, items, fSubs, fIn, fNot, ck, gSubM, fSet, mFldS, fPut, setF, fCall, mMeth, isIns, mMethK, fCallK, fMake, noX, mRaise, exc1, exc2, wOk, mBM, fApp, fGet, mTry, hGo, subE, clrR, noEx, mRetX, mXf, plusI, subI, mulI, modI, divI, powI, ltI, leI, gtI, geI, mRange1, mRange2, mFor, srcR1, srcR2, mSeqI, srcSeq, eqI, eqS, eqB, neI, neS, what_row]
      | str s => simp [mSeq, mIfS, mTest, mOp, mUn, mUnA, mV, mC, mCons, mNil, mNext, mAsg, gN, mRet, mRetN, mDrop, onlyNx, asB, mAndT, mOrT, mNotT, mAnd, mOr, fNotV, mIf, fIsN, fIsi, tyD, isaT, fTup, fLst, mDict0, optR, fFld, fLen, fInt, fTuple, items, fSubs, fIn, fNot, ck, gSubM, fSet, mFldS, fPut, setF, fCall, mMeth, isIns, mMethK, fCallK, fMake, noX, mRaise, exc1, exc2, wOk, mBM, fApp, fGet, mTry, hGo, subE, clrR, noEx, mRetX, mXf, plusI, subI, mulI, modI, divI, powI, ltI, leI, gtI, geI, mRange1, mRange2, mFor, srcR1, srcR2, mSeqI, srcSeq, eqI, eqS, eqB, neI, neS, what_row]
    cases x with
    | tup l =>
      cases y with
      | tup l' =>
        obtain ⟨h1, h2, h3⟩ := h
        exact seq rfl rfl h1 h2 h3 ⟨rfl, .inl rfl⟩ nofun
      | _ => cases h
    | ref a =>
      cases y with
      | ref b =>
        obtain ⟨l, l', ha, hb, h1, h2, h3⟩ := h
        exact seq (by unfold items; dsimp only; rw [ha]) (by unfold items; dsimp only; rw [hb]) h1 h2 h3 ⟨by rw [ty_lst ha, ty_lst hb], .inr (ty_lst hb)⟩ nofun
      | _ => cases h
    | kl l => exact h.elim
    | non => exact leaf (by cases y <;> exact h) nofun nofun nofun
    | bl b => exact leaf (by cases y <;> exact h) nofun nofun nofun
    | int i => exact leaf (by cases y <;> exact h) nofun nofun nofun
    | str s => exact leaf (by cases y <;> exact h) nofun nofun nofun
end My
namespace My
open PySem L2 RL
/-! the law -/
def kv (l : List (Str × Bool)) : List (D × D) := l.map fun p => (.str p.1, .bl p.2)
def ng (l : List (Str × Bool)) : List (Str × Bool) := l.map fun p => (p.1, !p.2)
theorem kv_get (nm : Str) : ∀ l : List (Str × Bool), dget (kv l) (.str nm) = (l.lookup nm).map D.bl
  | [] => rfl
  | (k, b) :: l => by
    unfold kv
    rw [List.map_cons]
    unfold dget
    by_cases h : k = nm
    · subst h
      simp [List.lookup]
    · have h1 : ¬ D.str k = D.str nm := fun z => h (D.str.inj z)
      have h2 : (nm == k) = false := by simpa using fun z => h (Eq.symm z)
      rw [if_neg h1]
      simp only [List.lookup, h2]
      exact kv_get nm l
theorem kv_put (nm : Str) (b : Bool) : ∀ l : List (Str × Bool), l.lookup nm = none → dput (kv l) (.str nm) (.bl b) = kv (l ++ [(nm, b)])
  | [], _ => rfl
  | (k, c) :: l, h => by
    by_cases e : k = nm
    · subst e
      simp [List.lookup] at h
    · have h2 : (nm == k) = false := by simpa using fun z => e (Eq.symm z)
      simp only [List.lookup, h2] at h
      have h1 : ¬ D.str k = D.str nm := fun z => e (D.str.inj z)
      show dput ((D.str k, D.bl c) :: kv l) (.str nm) (.bl b) = (D.str k, D.bl c) :: kv (l ++ [(nm, b)])
      unfold dput
      rw [if_neg h1, kv_put nm b l h]
theorem kv_ok (nm : Str) (l : List (Str × Bool)) : kOk (kv l) (.str nm) := by
  refine ⟨rfl, fun p hp => ?_⟩
  obtain ⟨q, _, rfl⟩ := List.mem_map.mp hp
  rfl
theorem kv_len (l : List (Str × Bool)) : (kv l).length = l.length := by simp [kv]
theorem ng_look (nm : Str) : ∀ l : List (Str × Bool), (ng l).lookup nm = (l.lookup nm).map fun b => !b
  | [] => rfl
  | (k, b) :: l => by
    show List.lookup nm ((k, !b) :: ng l) = _
    by_cases h : (nm == k) = true
    · simp only [List.lookup, h]
      rfl
    · have h' : (nm == k) = false := by simpa using h
      simp only [List.lookup, h']
      exact ng_look nm l
theorem ng_app (l m : List (Str × Bool)) : ng (l ++ m) = ng l ++ ng m := by simp [ng]
section
variable {g : G} {τ : T}
theorem in_dct {n : Nat} {k : Bool} {kvs : List (D × D)} {x : D} (h : g[n]? = some (.dct k kvs)) (hk : kOk kvs x) : fIn x (.ref n) g = .ok (.bl (dget kvs x).isSome) g := by
  unfold fIn items
  dsimp only
  rw [h]
  dsimp only
  rw [ck_pos hk]
theorem subs_dct {n : Nat} {k : Bool} {kvs : List (D × D)} {x d : D} (h : g[n]? = some (.dct k kvs)) (hk : kOk kvs x) (hd : dget kvs x = some d) : fSubs (.ref n) x g = .ok d g := by
  unfold fSubs items
  dsimp only
  rw [h]
  dsimp only
  rw [ck_pos hk, hd]
theorem get_dct {n : Nat} {k : Bool} {kvs : List (D × D)} {x d : D} (h : g[n]? = some (.dct k kvs)) (hk : kOk kvs x) : fGet (.ref n) [x, d] g = .ok ((dget kvs x).getD d) g := by
  unfold fGet
  dsimp only
  rw [h]
  exact ck_pos hk _
theorem set_dct {e o i : ME} {g1 : G} {n : Nat} {kvs : List (D × D)} {v k : D} (he : e τ g = .ok v g1) (ho : o τ g1 = .ok (.ref n) g1) (hi : i τ g1 = .ok k g1) (h : g1[n]? = some (.dct false kvs)) (hk : kOk kvs k) (hl : kvs.length ≤ 100000) : mAsg e (gSubM o i) τ g = .nx τ (g1.set n (.dct false (dput kvs k v))) := by
  unfold mAsg
  rw [he]
  show onlyNx (gSubM o i v τ g1) = _
  unfold gSubM
  rw [ho]
  show onlyNx ((i τ g1).st τ _) = _
  rw [hi]
  show onlyNx (match fSet (.ref n) k v g1 with | some g3 => .nx τ g3 | none => .bad) = _
  have : fSet (.ref n) k v g1 = some (g1.set n (.dct false (dput kvs k v))) := by
    unfold fSet
    dsimp only
    rw [h]
    exact if_pos ⟨hk, hl⟩
  rw [this]
  rfl
theorem not_same {A C : ME} {g1 g2 : G} {x y : D} (ha : A τ g = .ok x g1) (hc : C τ g1 = .ok y g2) (hs : sameG g2 6 x y) : mNotT (mTest (mUnA (fCall 2 [] (f_l_same 6)) (mCons A (mCons C mNil)))) τ g = .ok false g2 := by
  unfold mNotT
  have ht : mTest (mUnA (fCall 2 [] (f_l_same 6)) (mCons A (mCons C mNil))) τ g = .ok true g2 := tst (una_ok (cons_ok ha (cons_ok hc nil_ok)) (call_ok rfl (same_eq 6 x y hs)))
  rw [ht]
  rfl
theorem meth_ok {cs : List Str} {n : Nat} {es : List D} {mf : List D → M D} {o : ME} {a : MA} {g1 : G} {m : Nat} {c : Str} {fs : List (Str × D)} {l : List D} {r : Res D} (ho : o τ g = .ok (.ref m) g) (hm : g[m]? = some (.ins c fs)) (hc : c ∈ cs) (ha : a τ g = .ok l g1) (h : fCall n es mf (.ref m :: l) g1 = r) : mMeth cs n es mf o a τ g = r := by
  unfold mMeth
  rw [ho]
  show ck _ ((a τ g).bind _) = r
  rw [ck_pos (by unfold isIns; dsimp only; rw [hm]; exact hc), ha]
  exact h
theorem init_eq {n : Nat} (h : g[n]? = some (.ins "Packages" [])) : f_Packages_init [.ref n] g = .ok .non ((g ++ [Ob.dct false []]).set n (.ins "Packages" [("_sealed", .ref g.length)])) := by
  have h' : (g ++ [Ob.dct false []])[n]? = some (.ins "Packages" []) := app_get h
  unfold f_Packages_init runF m_Packages_init
  simp [mSeq, mIfS, mTest, mOp, mUn, mUnA, mV, mC, mCons, mNil, mNext, mAsg, gN, mRet, mRetN, mDrop, onlyNx, asB, mAndT, mOrT, mNotT, mAnd, mOr, fNotV, mIf, fIsN, fIsi, tyD, isaT, fTup, fLst, mDict0, optR, fFld, fLen, fInt, fTuple, items, fSubs, fIn, fNot, ck, gSubM, fSet, mFldS, fPut, setF, fCall, mMeth, isIns, mMethK, fCallK, fMake, noX, mRaise, exc1, exc2, wOk, mBM, fApp, fGet, mTry, hGo, subE, clrR, noEx, mRetX, mXf, plusI, subI, mulI, modI, divI, powI, ltI, leI, gtI, geI, mRange1, mRange2, mFor, srcR1, srcR2, mSeqI, srcSeq, eqI, eqS, eqB, neI, neS, what_row, h']
theorem make_eq : mUnA (fMake "Packages" 0 [] f_Packages_init) mNil τ g = .ok (.ref g.length) (g ++ [.ins "Packages" [("_sealed", .ref (g.length + 1))], .dct false []]) := by
  refine una_ok nil_ok ?_
  have h : fCall 1 [] f_Packages_init [.ref g.length] (g ++ [.ins "Packages" []]) = .ok .non (g ++ [.ins "Packages" [("_sealed", .ref (g.length + 1))], .dct false []]) := by
    refine call_ok rfl ((init_eq end_get).trans ?_)
    rw [List.length_append]
    have : ((g ++ [Ob.ins "Packages" []]) ++ [Ob.dct false []]).set g.length (.ins "Packages" [("_sealed", .ref (g.length + [Ob.ins "Packages" []].length))]) = g ++ [Ob.ins "Packages" [("_sealed", .ref (g.length + 1))], Ob.dct false []] := by
      rw [List.append_assoc, List.set_append_right _ _ (Nat.le_refl _), Nat.sub_self]
      rfl
    rw [this]
  unfold fMake
  show (noX (fCall 1 [] f_Packages_init [.ref g.length] (g ++ [.ins "Packages" []]))).bind _ = _
  rw [h]
  rfl
end
/-- the state of the law's loop -/
def Bg (ns : List Int) (p0 p1 : Int) (l : List (Str × Bool)) (gar : G) : G :=
  .lst [.int 26, .int 7] :: .lst [.int p0, .int p1] :: .ins "Packages" [("_sealed", .ref 3)] :: .dct false (kv l) :: .ins "Packages" [("_sealed", .ref 5)] :: .dct false (kv (ng l)) :: .dct false (kv l) :: gar
def inner : MS := mSeq (mAsg (mUnA (fCall 2 [] f_l_name) (mCons (mOp fSubs (mV 1) (mC (.int 0))) (mCons (mV 9) mNil))) (gN 10))
  (mSeq (mIfS (mNotT (mTest (mUnA (fCall 2 [] (f_l_same 6)) (mCons (mMeth cs_Packages 2 [] f_Packages_is_sealed (mV 2) (mCons (mV 10) mNil)) (mCons (mBM .dct fGet (mV 4) (mCons (mV 10) (mCons (mC (.bl false)) mNil))) mNil))))) (mRet (mC (.bl false))) mNext)
  (mIfS (mNotT (mTest (mUnA (fCall 2 [] (f_l_same 6)) (mCons (mMeth cs_Packages 2 [] f_Packages_is_sealed (mV 3) (mCons (mV 10) mNil)) (mCons (mUn fNotV (mBM .dct fGet (mV 4) (mCons (mV 10) (mCons (mC (.bl true)) mNil)))) mNil))))) (mRet (mC (.bl false))) mNext))
theorem inner_eq {ns : List Int} {p0 p1 : Int} {l : List (Str × Bool)} {gar : G} {z : Int} {x5 x6 x7 x8 x10 : Option D} :
    ∃ y gar', inner [some (.kl (ns.map D.int)), some (.ref 1), some (.ref 2), some (.ref 4), some (.ref 6), x5, x6, x7, x8, some (.int z), x10] (Bg ns p0 p1 l gar) = .nx [some (.kl (ns.map D.int)), some (.ref 1), some (.ref 2), some (.ref 4), some (.ref 6), x5, x6, x7, x8, some (.int z), y] (Bg ns p0 p1 l gar') := by
  have h1 : mAsg (mUnA (fCall 2 [] f_l_name) (mCons (mOp fSubs (mV 1) (mC (.int 0))) (mCons (mV 9) mNil))) (gN 10) [some (.kl (ns.map D.int)), some (.ref 1), some (.ref 2), some (.ref 4), some (.ref 6), x5, x6, x7, x8, some (.int z), x10] (Bg ns p0 p1 l gar) =
      .nx [some (.kl (ns.map D.int)), some (.ref 1), some (.ref 2), some (.ref 4), some (.ref 6), x5, x6, x7, x8, some (.int z), some (.str (nameF p0 z))] (Bg ns p0 p1 l (pool3 gar)) :=
    asg_ok (una_ok (cons_ok (ev2 rfl rfl (subs_at (n := 1) (l := [.int p0, .int p1]) rfl rfl)) (cons_ok rfl nil_ok)) (call_ok rfl (name_eq p0 z _)))
  refine ⟨some (.str (nameF p0 z)), pool3 gar, ?_⟩
  unfold inner
  rw [seq_nx h1]
  generalize pool3 gar = gar
  generalize nameF p0 z = nm
  have h2 := is_se (g := Bg ns p0 p1 l gar) (p := 2) (q := 3) (nm := nm) rfl rfl (kv_ok nm l)
  have h3 := is_se (g := Bg ns p0 p1 l gar) (p := 4) (q := 5) (nm := nm) rfl rfl (kv_ok nm (ng l))
  have c2 := not_same (g := Bg ns p0 p1 l gar) (τ := [some (.kl (ns.map D.int)), some (.ref 1), some (.ref 2), some (.ref 4), some (.ref 6), x5, x6, x7, x8, some (.int z), some (.str nm)])
    (A := mMeth cs_Packages 2 [] f_Packages_is_sealed (mV 2) (mCons (mV 10) mNil)) (C := mBM .dct fGet (mV 4) (mCons (mV 10) (mCons (mC (.bl false)) mNil)))
    (meth_ok (m := 2) rfl rfl (by simp) (cons_ok rfl nil_ok) (call_ok rfl h2)) (bm_ok (x := .ref 6) rfl (ty_dct rfl) (cons_ok rfl (cons_ok rfl nil_ok)) (get_dct (n := 6) rfl (kv_ok nm l))) (by rw [kv_get]; cases l.lookup nm <;> rfl)
  have c3 := not_same (g := Bg ns p0 p1 l gar) (τ := [some (.kl (ns.map D.int)), some (.ref 1), some (.ref 2), some (.ref 4), some (.ref 6), x5, x6, x7, x8, some (.int z), some (.str nm)])
    (A := mMeth cs_Packages 2 [] f_Packages_is_sealed (mV 3) (mCons (mV 10) mNil)) (C := mUn fNotV (mBM .dct fGet (mV 4) (mCons (mV 10) (mCons (mC (.bl true)) mNil))))
    (y := .bl (!((l.lookup nm).getD true))) (g2 := Bg ns p0 p1 l gar)
    (meth_ok (m := 4) rfl rfl (by simp) (cons_ok rfl nil_ok) (call_ok rfl h3)) (by
      unfold mUn
      rw [bm_ok (x := .ref 6) rfl (ty_dct rfl) (cons_ok rfl (cons_ok rfl nil_ok)) (get_dct (n := 6) rfl (kv_ok nm l)), kv_get]
      cases l.lookup nm <;> rfl) (by rw [kv_get, ng_look]; cases l.lookup nm with
        | none => rfl
        | some b => cases b <;> rfl)
  rw [seq_nx (if_n c2), if_n c3]
def body9 : MS := mSeq (mAsg (mUnA (fCall 3 [] f_l_digits) (mCons (mV 0) (mCons (mOp fPlus (mC (.int 1)) (mV 5)) (mCons (mUnA fLst (mCons (mC (.int 4)) (mCons (mC (.int 3)) mNil))) mNil)))) (gN 6))
  (mSeq (mAsg (mUnA (fCall 2 [] f_l_name) (mCons (mOp fSubs (mV 1) (mC (.int 0))) (mCons (mOp fSubs (mV 6) (mC (.int 0))) mNil))) (gN 7))
  (mSeq (mAsg (mC (.str "added")) (gN 8))
  (mSeq (mIfS (mTest (mOp fIn (mV 7) (mV 4))) (mAsg (mUnA fTup (mCons (mC .non) (mCons (mV 7) mNil))) (gN 8)) (mSeq (mAsg (mOp fEq (mOp fSubs (mV 6) (mC (.int 1))) (mC (.int 1))) (gSubM (mV 4) (mV 7)))
  (mIfS (mNotT (mTest (mUnA (fCall 2 [] (f_l_same 6)) (mCons (mUnA (fCall 3 [] f_l_add) (mCons (mV 3) (mCons (mV 7) (mCons (mOp fPlus (mC (.int 1)) (mUnA fInt (mCons (mOp fSubs (mV 4) (mV 7)) mNil))) mNil)))) (mCons (mC (.str "added")) mNil))))) (mRet (mC (.bl false))) mNext)))
  (mSeq (mIfS (mNotT (mTest (mUnA (fCall 2 [] (f_l_same 6)) (mCons (mUnA (fCall 3 [] f_l_add) (mCons (mV 2) (mCons (mV 7) (mCons (mOp fSubs (mV 6) (mC (.int 1))) mNil)))) (mCons (mV 8) mNil))))) (mRet (mC (.bl false))) mNext)
  (mFor (mRange1 (mC (.int 6))) (gN 9) inner)))))
theorem m_law_eq : m_law = mSeq (mAsg (mUnA (fCall 3 [] f_l_digits) (mCons (mV 0) (mCons (mC (.int 0)) (mCons (mUnA fLst (mCons (mC (.int 26)) (mCons (mC (.int 7)) mNil))) mNil)))) (gN 1))
  (mSeq (mAsg (mUnA (fMake "Packages" 0 [] f_Packages_init) mNil) (gN 2))
  (mSeq (mAsg (mUnA (fMake "Packages" 0 [] f_Packages_init) mNil) (gN 3))
  (mSeq (mAsg mDict0 (gN 4))
  (mSeq (mFor (mRange1 (mOp fSubs (mV 1) (mC (.int 1)))) (gN 5) body9)
  (mRet (mC (.bl true))))))) := rfl
theorem loop6 {ns : List Int} {p0 p1 : Int} {l : List (Str × Bool)} {gar : G} {x5 x6 x7 x8 x9 x10 : Option D} :
    ∃ y z gar', mFor (mRange1 (mC (.int 6))) (gN 9) inner [some (.kl (ns.map D.int)), some (.ref 1), some (.ref 2), some (.ref 4), some (.ref 6), x5, x6, x7, x8, x9, x10] (Bg ns p0 p1 l gar) = .nx [some (.kl (ns.map D.int)), some (.ref 1), some (.ref 2), some (.ref 4), some (.ref 6), x5, x6, x7, x8, y, z] (Bg ns p0 p1 l gar') := by
  obtain ⟨τ', g', h4, y, z, gar', e1, e2⟩ := for_all (g := Bg ns p0 p1 l gar) (mg := gN 9) (mb := inner)
    (fun _ τ G => ∃ y z gar', τ = [some (.kl (ns.map D.int)), some (.ref 1), some (.ref 2), some (.ref 4), some (.ref 6), x5, x6, x7, x8, y, z] ∧ G = Bg ns p0 p1 l gar') (rng 0 6) (fun i d τ G hd hI => by
      obtain ⟨hi, hd2⟩ := rng_get hd
      obtain ⟨y, z, gar', rfl, rfl⟩ := hI
      subst hd2
      obtain ⟨y', gar2, h⟩ := inner_eq (ns := ns) (p0 := p0) (p1 := p1) (l := l) (gar := gar') (z := 0 + (i : Int)) (x5 := x5) (x6 := x6) (x7 := x7) (x8 := x8) (x10 := z)
      exact ⟨_, _, rfl, _, _, h, _, _, gar2, rfl, rfl⟩) (τ := [some (.kl (ns.map D.int)), some (.ref 1), some (.ref 2), some (.ref 4), some (.ref 6), x5, x6, x7, x8, x9, x10]) ⟨x9, x10, gar, rfl, rfl⟩
  refine ⟨y, z, gar', ?_⟩
  rw [← e1, ← e2, ← h4]
  exact for_ok (range1_ok (n := 6) rfl (by decide))
theorem body_eq {ns : List Int} {p0 p1 : Int} {l : List (Str × Bool)} {gar : G} {i : Nat} {x6 x7 x8 x9 x10 : Option D} (hl : l.length ≤ 1000) :
    ∃ l' x6' x7' x8' x9' x10' gar', l'.length ≤ l.length + 1 ∧ body9 [some (.kl (ns.map D.int)), some (.ref 1), some (.ref 2), some (.ref 4), some (.ref 6), some (.int (0 + (i : Int))), x6, x7, x8, x9, x10] (Bg ns p0 p1 l gar) =
      .nx [some (.kl (ns.map D.int)), some (.ref 1), some (.ref 2), some (.ref 4), some (.ref 6), some (.int (0 + (i : Int))), x6', x7', x8', x9', x10'] (Bg ns p0 p1 l' gar') := by
  have hp43 : ∀ x ∈ ([4, 3] : List Int), 0 < x := by decide
  obtain ⟨r0, hr0, _, _⟩ := digF_at (ns := ns) (j := 1 + i) hp43 (show ([4, 3] : List Int)[0]? = some 4 from rfl)
  obtain ⟨r1, hr1, _, _⟩ := digF_at (ns := ns) (j := 1 + i) hp43 (show ([4, 3] : List Int)[1]? = some 3 from rfl)
  have hat0 : L2.atI ((digF ns (1 + i) [4, 3]).map D.int) 0 = some (.int r0) := atI_n (n := 0) (by rw [List.getElem?_map, hr0]; rfl)
  have hat1 : L2.atI ((digF ns (1 + i) [4, 3]).map D.int) 1 = some (.int r1) := atI_n (n := 1) (by rw [List.getElem?_map, hr1]; rfl)
  generalize hrow : (digF ns (1 + i) [4, 3]).map D.int = row at hat0 hat1
  have h1 : mAsg (mUnA (fCall 3 [] f_l_digits) (mCons (mV 0) (mCons (mOp fPlus (mC (.int 1)) (mV 5)) (mCons (mUnA fLst (mCons (mC (.int 4)) (mCons (mC (.int 3)) mNil))) mNil)))) (gN 6) [some (.kl (ns.map D.int)), some (.ref 1), some (.ref 2), some (.ref 4), some (.ref 6), some (.int (0 + (i : Int))), x6, x7, x8, x9, x10] (Bg ns p0 p1 l gar) =
      .nx [some (.kl (ns.map D.int)), some (.ref 1), some (.ref 2), some (.ref 4), some (.ref 6), some (.int (0 + (i : Int))), some (.ref (Bg ns p0 p1 l (gar ++ [Ob.lst [.int 4, .int 3]])).length), x7, x8, x9, x10] (Bg ns p0 p1 l (gar ++ [Ob.lst [.int 4, .int 3]] ++ [Ob.lst row])) := by
    have hd := dig_eq (g := Bg ns p0 p1 l (gar ++ [Ob.lst [.int 4, .int 3]])) (z := (Bg ns p0 p1 l gar).length) (ns := ns) (szs := [4, 3]) (j := 1 + i) (end_get (g := Bg ns p0 p1 l gar)) (by decide) (by decide)
    rw [hrow, show ((1 + i : Nat) : Int) = 1 + (0 + (i : Int)) from by omega] at hd
    exact asg_ok (una_ok (cons_ok rfl (cons_ok (ev2 rfl rfl (plusI _ _)) (cons_ok (una_ok (cons_ok rfl (cons_ok rfl nil_ok)) rfl) nil_ok))) (call_ok rfl hd))
  have hk : (Bg ns p0 p1 l (gar ++ [Ob.lst [.int 4, .int 3]] ++ [Ob.lst row]))[(Bg ns p0 p1 l (gar ++ [Ob.lst [.int 4, .int 3]])).length]? = some (.lst row) := end_get (g := Bg ns p0 p1 l (gar ++ [Ob.lst [.int 4, .int 3]]))
  generalize hk6 : (Bg ns p0 p1 l (gar ++ [Ob.lst [.int 4, .int 3]])).length = k6 at h1 hk
  have hk6' : k6 = 7 + (gar ++ [Ob.lst [.int 4, .int 3]]).length := by rw [← hk6]; simp [Bg]; omega
  generalize hg1 : gar ++ [Ob.lst [.int 4, .int 3]] ++ [Ob.lst row] = g1 at h1 hk
  have h2 : mAsg (mUnA (fCall 2 [] f_l_name) (mCons (mOp fSubs (mV 1) (mC (.int 0))) (mCons (mOp fSubs (mV 6) (mC (.int 0))) mNil))) (gN 7) [some (.kl (ns.map D.int)), some (.ref 1), some (.ref 2), some (.ref 4), some (.ref 6), some (.int (0 + (i : Int))), some (.ref k6), x7, x8, x9, x10] (Bg ns p0 p1 l g1) =
      .nx [some (.kl (ns.map D.int)), some (.ref 1), some (.ref 2), some (.ref 4), some (.ref 6), some (.int (0 + (i : Int))), some (.ref k6), some (.str (nameF p0 r0)), x8, x9, x10] (Bg ns p0 p1 l (pool3 g1)) :=
    asg_ok (una_ok (cons_ok (ev2 rfl rfl (subs_at (n := 1) (l := [.int p0, .int p1]) rfl rfl)) (cons_ok (ev2 rfl rfl (subs_at hk hat0)) nil_ok)) (call_ok rfl (name_eq p0 r0 _)))
  have hk2 : ∀ l', (Bg ns p0 p1 l' (pool3 g1))[k6]? = some (.lst row) := fun l' => by
    obtain ⟨m, hm⟩ : ∃ m, k6 = m + 7 := ⟨_, by rw [hk6', Nat.add_comm]⟩
    rw [hm] at hk ⊢
    have hg : g1[m]? = some (.lst row) := hk
    show (pool3 g1)[m]? = some (.lst row)
    exact app_get (app_get (app_get hg))
  generalize pool3 g1 = g2 at h2 hk2
  generalize nameF p0 r0 = nm at h2
  have h3 : mAsg (mC (.str "added")) (gN 8) [some (.kl (ns.map D.int)), some (.ref 1), some (.ref 2), some (.ref 4), some (.ref 6), some (.int (0 + (i : Int))), some (.ref k6), some (.str nm), x8, x9, x10] (Bg ns p0 p1 l g2) =
      .nx [some (.kl (ns.map D.int)), some (.ref 1), some (.ref 2), some (.ref 4), some (.ref 6), some (.int (0 + (i : Int))), some (.ref k6), some (.str nm), some (.str "added"), x9, x10] (Bg ns p0 p1 l g2) := asg_ok rfl
  have hin : mTest (mOp fIn (mV 7) (mV 4)) [some (.kl (ns.map D.int)), some (.ref 1), some (.ref 2), some (.ref 4), some (.ref 6), some (.int (0 + (i : Int))), some (.ref k6), some (.str nm), some (.str "added"), x9, x10] (Bg ns p0 p1 l g2) = .ok (l.lookup nm).isSome (Bg ns p0 p1 l g2) :=
    tst (ev2 rfl rfl ((in_dct (n := 6) rfl (kv_ok nm l)).trans (by rw [kv_get]; cases l.lookup nm <;> rfl)))
  unfold body9
  rw [seq_nx h1, seq_nx h2, seq_nx h3]
  cases hlk : l.lookup nm with
  | some b =>
    rw [hlk] at hin
    have ha := l_add (g := Bg ns p0 p1 l g2) (p := 2) (q := 3) (nm := nm) (c := r1) rfl rfl (kv_ok nm l) (by rw [kv_len]; omega)
    rw [kv_get, hlk] at ha
    have h4 : mAsg (mUnA fTup (mCons (mC .non) (mCons (mV 7) mNil))) (gN 8) [some (.kl (ns.map D.int)), some (.ref 1), some (.ref 2), some (.ref 4), some (.ref 6), some (.int (0 + (i : Int))), some (.ref k6), some (.str nm), some (.str "added"), x9, x10] (Bg ns p0 p1 l g2) =
        .nx [some (.kl (ns.map D.int)), some (.ref 1), some (.ref 2), some (.ref 4), some (.ref 6), some (.int (0 + (i : Int))), some (.ref k6), some (.str nm), some (.tup [.non, .str nm]), x9, x10] (Bg ns p0 p1 l g2) := asg_ok (una_ok (cons_ok rfl (cons_ok rfl nil_ok)) rfl)
    have c5 := not_same (g := Bg ns p0 p1 l g2) (τ := [some (.kl (ns.map D.int)), some (.ref 1), some (.ref 2), some (.ref 4), some (.ref 6), some (.int (0 + (i : Int))), some (.ref k6), some (.str nm), some (.tup [.non, .str nm]), x9, x10])
      (A := mUnA (fCall 3 [] f_l_add) (mCons (mV 2) (mCons (mV 7) (mCons (mOp fSubs (mV 6) (mC (.int 1))) mNil)))) (C := mV 8) (x := .tup [.non, .str nm]) (y := .tup [.non, .str nm]) (g1 := Bg ns p0 p1 l g2) (g2 := Bg ns p0 p1 l g2)
      (una_ok (cons_ok rfl (cons_ok rfl (cons_ok (ev2 rfl rfl (subs_at (hk2 l) hat1)) nil_ok))) (call_ok rfl ha)) rfl
      ⟨rfl, by simp, fun i x y h1 h2 => by
        rw [h1] at h2
        cases h2
        match i, h1 with
        | 0, h1 => cases h1; rfl
        | 1, h1 => cases h1; rfl⟩
    obtain ⟨y, z, gar', h6⟩ := loop6 (ns := ns) (p0 := p0) (p1 := p1) (l := l) (gar := g2) (x5 := some (.int (0 + (i : Int)))) (x6 := some (.ref k6)) (x7 := some (.str nm)) (x8 := some (.tup [.non, .str nm])) (x9 := x9) (x10 := x10)
    refine ⟨l, some (.ref k6), some (.str nm), some (.tup [.non, .str nm]), y, z, gar', by omega, ?_⟩
    rw [seq_nx ((if_t hin).trans h4), seq_nx (if_n c5), h6]
  | none =>
    rw [hlk] at hin
    have hlen : (kv l).length ≤ 100000 := by rw [kv_len]; omega
    have hlen2 : (kv (ng l)).length ≤ 100000 := by rw [kv_len]; simp [ng]; omega
    -- the law's own dict
    have s1 : mAsg (mOp fEq (mOp fSubs (mV 6) (mC (.int 1))) (mC (.int 1))) (gSubM (mV 4) (mV 7)) [some (.kl (ns.map D.int)), some (.ref 1), some (.ref 2), some (.ref 4), some (.ref 6), some (.int (0 + (i : Int))), some (.ref k6), some (.str nm), some (.str "added"), x9, x10] (Bg ns p0 p1 l g2) =
        .nx [some (.kl (ns.map D.int)), some (.ref 1), some (.ref 2), some (.ref 4), some (.ref 6), some (.int (0 + (i : Int))), some (.ref k6), some (.str nm), some (.str "added"), x9, x10] ((Bg ns p0 p1 l g2).set 6 (.dct false (kv (l ++ [(nm, decide (r1 = 1))])))) := by
      rw [← kv_put nm _ l hlk]
      exact set_dct (ev2 (ev2 rfl rfl (subs_at (hk2 l) hat1)) rfl (eqI r1 1)) rfl rfl rfl (kv_ok nm l) hlen
    have key : ∀ (b : Bool) (gA gB gC : G), gA = (Bg ns p0 p1 l g2).set 6 (.dct false (kv (l ++ [(nm, b)]))) → gB = gA.set 5 (.dct false (kv (ng l ++ [(nm, !b)]))) → gC = gB.set 3 (.dct false (kv (l ++ [(nm, b)]))) → gC = Bg ns p0 p1 (l ++ [(nm, b)]) g2 := by
      rintro b gA gB gC rfl rfl rfl
      unfold Bg
      rw [ng_app]
      rfl
    generalize hb : decide (r1 = 1) = b at s1
    obtain ⟨gA, hA⟩ : ∃ gA, gA = (Bg ns p0 p1 l g2).set 6 (.dct false (kv (l ++ [(nm, b)]))) := ⟨_, rfl⟩
    rw [← hA] at s1
    obtain ⟨gB, hB⟩ : ∃ gB, gB = gA.set 5 (.dct false (kv (ng l ++ [(nm, !b)]))) := ⟨_, rfl⟩
    obtain ⟨gC, hC⟩ : ∃ gC, gC = gB.set 3 (.dct false (kv (l ++ [(nm, b)]))) := ⟨_, rfl⟩
    have hCB := key b gA gB gC hA hB hC
    have a5 : gA[4]? = some (.ins "Packages" [("_sealed", .ref 5)]) := by rw [hA]; rfl
    have a6 : gA[5]? = some (.dct false (kv (ng l))) := by rw [hA]; rfl
    have a7 : gA[6]? = some (.dct false (kv (l ++ [(nm, b)]))) := by rw [hA]; rfl
    have b3 : gB[2]? = some (.ins "Packages" [("_sealed", .ref 3)]) := by rw [hB, hA]; rfl
    have b4 : gB[3]? = some (.dct false (kv l)) := by rw [hB, hA]; rfl
    have bk : gB[k6]? = some (.lst row) := by
      obtain ⟨m, hm⟩ : ∃ m, k6 = m + 7 := ⟨_, by rw [hk6', Nat.add_comm]⟩
      have := hk2 l
      rw [hm] at this ⊢
      rw [hB, hA]
      exact this
    have hnew : dget (kv (l ++ [(nm, b)])) (.str nm) = some (.bl b) := by
      rw [kv_get]
      have : (l ++ [(nm, b)]).lookup nm = some b := by
        rw [List.lookup_append, hlk]
        simp
      rw [this]
      rfl
    have ad1 := l_add (g := gA) (p := 4) (q := 5) (nm := nm) (c := 1 + (if b = true then 1 else 0)) a5 a6 (kv_ok nm _) hlen2
    have hno : ((kv (ng l)).length = l.length) := by rw [kv_len]; simp [ng]
    have hd2 : dget (kv (ng l)) (.str nm) = none := by rw [kv_get, ng_look, hlk]; rfl
    have hd1 : dget (kv l) (.str nm) = none := by rw [kv_get, hlk]; rfl
    have hb2 : decide ((1 + (if b = true then 1 else 0) : Int) = 1) = !b := by cases b <;> decide
    rw [hd2, hb2, kv_put nm _ (ng l) (by rw [ng_look, hlk]; rfl)] at ad1
    have ad1' : f_l_add [.ref 4, .str nm, .int (1 + (if b = true then 1 else 0))] gA = .ok (.str "added") gB := by rw [hB]; exact ad1
    have c4 := not_same (g := gA) (τ := [some (.kl (ns.map D.int)), some (.ref 1), some (.ref 2), some (.ref 4), some (.ref 6), some (.int (0 + (i : Int))), some (.ref k6), some (.str nm), some (.str "added"), x9, x10])
      (A := mUnA (fCall 3 [] f_l_add) (mCons (mV 3) (mCons (mV 7) (mCons (mOp fPlus (mC (.int 1)) (mUnA fInt (mCons (mOp fSubs (mV 4) (mV 7)) mNil))) mNil)))) (C := mC (.str "added")) (x := .str "added") (y := .str "added") (g1 := gB) (g2 := gB)
      (una_ok (cons_ok rfl (cons_ok rfl (cons_ok (ev2 rfl (una_ok (cons_ok (ev2 rfl rfl (subs_dct a7 (kv_ok nm _) hnew)) nil_ok) rfl) (plusI _ _)) nil_ok))) (call_ok rfl ad1')) rfl rfl
    have ad2 := l_add (g := gB) (p := 2) (q := 3) (nm := nm) (c := r1) b3 b4 (kv_ok nm _) hlen
    rw [hd1, hb, kv_put nm _ l hlk] at ad2
    have ad2' : f_l_add [.ref 2, .str nm, .int r1] gB = .ok (.str "added") gC := by rw [hC]; exact ad2
    have c5 := not_same (g := gB) (τ := [some (.kl (ns.map D.int)), some (.ref 1), some (.ref 2), some (.ref 4), some (.ref 6), some (.int (0 + (i : Int))), some (.ref k6), some (.str nm), some (.str "added"), x9, x10])
      (A := mUnA (fCall 3 [] f_l_add) (mCons (mV 2) (mCons (mV 7) (mCons (mOp fSubs (mV 6) (mC (.int 1))) mNil)))) (C := mV 8) (x := .str "added") (y := .str "added") (g1 := gC) (g2 := gC)
      (una_ok (cons_ok rfl (cons_ok rfl (cons_ok (ev2 rfl rfl (subs_at bk hat1)) nil_ok))) (call_ok rfl ad2')) rfl rfl
    obtain ⟨y, z, gar', h6⟩ := loop6 (ns := ns) (p0 := p0) (p1 := p1) (l := l ++ [(nm, b)]) (gar := g2) (x5 := some (.int (0 + (i : Int)))) (x6 := some (.ref k6)) (x7 := some (.str nm)) (x8 := some (.str "added")) (x9 := x9) (x10 := x10)
    refine ⟨l ++ [(nm, b)], some (.ref k6), some (.str nm), some (.str "added"), y, z, gar', by simp, ?_⟩
    rw [seq_nx ((if_f hin).trans ((seq_nx s1).trans (if_n c4))), seq_nx (if_n c5), hCB, h6]
theorem law_eq {ns : List Int} : ∃ g', f_law [.kl (ns.map D.int)] [] = .ok (.bl true) g' := by
  have hp : ∀ x ∈ ([26, 7] : List Int), 0 < x := by decide
  obtain ⟨p0, hp0, _, _⟩ := digF_at (ns := ns) (j := 0) hp (show ([26, 7] : List Int)[0]? = some 26 from rfl)
  obtain ⟨p1, hp1, q1, q2⟩ := digF_at (ns := ns) (j := 0) hp (show ([26, 7] : List Int)[1]? = some 7 from rfl)
  have hF : digF ns 0 [26, 7] = [p0, p1] := by
    have hl := digF_len ns 0 [26, 7]
    match h : digF ns 0 [26, 7], hl with
    | [a, b], _ =>
      rw [h] at hp0 hp1
      cases hp0
      cases hp1
      rfl
  have h1 : mAsg (mUnA (fCall 3 [] f_l_digits) (mCons (mV 0) (mCons (mC (.int 0)) (mCons (mUnA fLst (mCons (mC (.int 26)) (mCons (mC (.int 7)) mNil))) mNil)))) (gN 1) [some (.kl (ns.map D.int)), none, none, none, none, none, none, none, none, none, none] [] =
      .nx [some (.kl (ns.map D.int)), some (.ref 1), none, none, none, none, none, none, none, none, none] [.lst [.int 26, .int 7], .lst [.int p0, .int p1]] := by
    have hd := dig_eq (g := [.lst [.int 26, .int 7]]) (z := 0) (ns := ns) (szs := [26, 7]) (j := 0) rfl (by decide) (by decide)
    rw [hF] at hd
    exact asg_ok (una_ok (cons_ok rfl (cons_ok rfl (cons_ok (una_ok (cons_ok rfl (cons_ok rfl nil_ok)) rfl) nil_ok))) (call_ok rfl hd))
  have h2 : mAsg (mUnA (fMake "Packages" 0 [] f_Packages_init) mNil) (gN 2) [some (.kl (ns.map D.int)), some (.ref 1), none, none, none, none, none, none, none, none, none] [.lst [.int 26, .int 7], .lst [.int p0, .int p1]] =
      .nx [some (.kl (ns.map D.int)), some (.ref 1), some (.ref 2), none, none, none, none, none, none, none, none] [.lst [.int 26, .int 7], .lst [.int p0, .int p1], .ins "Packages" [("_sealed", .ref 3)], .dct false []] := asg_ok make_eq
  have h3 : mAsg (mUnA (fMake "Packages" 0 [] f_Packages_init) mNil) (gN 3) [some (.kl (ns.map D.int)), some (.ref 1), some (.ref 2), none, none, none, none, none, none, none, none] [.lst [.int 26, .int 7], .lst [.int p0, .int p1], .ins "Packages" [("_sealed", .ref 3)], .dct false []] =
      .nx [some (.kl (ns.map D.int)), some (.ref 1), some (.ref 2), some (.ref 4), none, none, none, none, none, none, none] [.lst [.int 26, .int 7], .lst [.int p0, .int p1], .ins "Packages" [("_sealed", .ref 3)], .dct false [], .ins "Packages" [("_sealed", .ref 5)], .dct false []] := asg_ok make_eq
  have h4 : mAsg mDict0 (gN 4) [some (.kl (ns.map D.int)), some (.ref 1), some (.ref 2), some (.ref 4), none, none, none, none, none, none, none] [.lst [.int 26, .int 7], .lst [.int p0, .int p1], .ins "Packages" [("_sealed", .ref 3)], .dct false [], .ins "Packages" [("_sealed", .ref 5)], .dct false []] =
      .nx [some (.kl (ns.map D.int)), some (.ref 1), some (.ref 2), some (.ref 4), some (.ref 6), none, none, none, none, none, none] (Bg ns p0 p1 [] []) := asg_ok rfl
  obtain ⟨n, rfl⟩ := Int.eq_ofNat_of_zero_le q1
  have hn : n < 7 := by omega
  obtain ⟨τ', g', h5, hI⟩ := for_all (g := Bg ns p0 n [] []) (mg := gN 5) (mb := body9)
    (fun i τ G => ∃ l gar x5 x6 x7 x8 x9 x10, l.length ≤ i ∧ τ = [some (.kl (ns.map D.int)), some (.ref 1), some (.ref 2), some (.ref 4), some (.ref 6), x5, x6, x7, x8, x9, x10] ∧ G = Bg ns p0 n l gar) (rng 0 n) (fun i d τ G hd hI => by
      obtain ⟨hi, hd2⟩ := rng_get hd
      obtain ⟨l, gar, x5, x6, x7, x8, x9, x10, hl, rfl, rfl⟩ := hI
      subst hd2
      obtain ⟨l', x6', x7', x8', x9', x10', gar', hl', h⟩ := body_eq (ns := ns) (p0 := p0) (p1 := n) (l := l) (gar := gar) (i := i) (x6 := x6) (x7 := x7) (x8 := x8) (x9 := x9) (x10 := x10) (by omega)
      exact ⟨_, _, rfl, _, _, h, l', gar', _, x6', x7', x8', x9', x10', by omega, rfl, rfl⟩) (τ := [some (.kl (ns.map D.int)), some (.ref 1), some (.ref 2), some (.ref 4), some (.ref 6), none, none, none, none, none, none]) ⟨[], [], none, none, none, none, none, none, Nat.le_refl _, rfl, rfl⟩
  have h6 : mFor (mRange1 (mOp fSubs (mV 1) (mC (.int 1)))) (gN 5) body9 [some (.kl (ns.map D.int)), some (.ref 1), some (.ref 2), some (.ref 4), some (.ref 6), none, none, none, none, none, none] (Bg ns p0 n [] []) = .nx τ' g' := by
    rw [← h5]
    exact for_ok (range1_ok (n := n) (ev2 rfl rfl (subs_at (n := 1) (l := [.int p0, .int n]) rfl rfl)) (by omega))
  refine ⟨g', ?_⟩
  unfold f_law runF
  rw [m_law_eq, show ([D.kl (ns.map D.int)].map some ++ List.replicate (11 - [D.kl (ns.map D.int)].length) none : T) = [some (.kl (ns.map D.int)), none, none, none, none, none, none, none, none, none, none] from rfl, seq_nx h1, seq_nx h2, seq_nx h3, seq_nx h4, seq_nx h6]
  rfl
end My
namespace My
open PySem L2 RL
def spLaw (K : PySem.W.Frag) : Sp := fun vs H Q _ => ∃ (a : Addr) (ns : List Int), vs = [.ref a] ∧ SqL K H a (ns.map V.int) ∧ Only H ∧ ∀ H', Q (.bl true) H'
theorem ints_rel {K : PySem.W.Frag} {ρ : List Addr} {H : Hp} : ∀ ns : List Int, RelDs K ρ H (ns.map D.int) (ns.map V.int)
  | [] => .nil
  | _ :: ns => .cons (.int _) (ints_rel ns)
theorem law_sp {K : PySem.W.Frag} {cn : Str → Addr} {P : Program} {w : World} : ∀ vs H Q E, spLaw K vs H Q E → spM ⟨K, cn, P, w⟩ 1 f_law vs H Q E := by
  rintro vs H Q E ⟨a, ns, rfl, hs, ho, hq⟩
  have hf : SqF K H a (ns.map V.int) := by
    rcases hs with (hs | hs) | hs
    · rcases ho a with z | ⟨o, xs, z⟩
      · rw [z] at hs; cases hs
      · rw [z] at hs; cases hs
    · exact .inl hs
    · exact .inr hs
  obtain ⟨g', e⟩ := law_eq (ns := ns)
  refine ⟨[], [], [.kl (ns.map D.int)], rfl, .one (.kl hf (ints_rel ns)), ⟨rfl, List.nodup_nil, fun i o a h => by simp at h⟩, ?_⟩
  rw [e]
  intro ρ' v H' _ _ q
  cases q
  exact hq H'
theorem all_mk {l : PySem.W.OpenLaw} {w : World} {K : PySem.W.Frag} {h : Heap} {mg : Str → Option Value} {fa : Addr} (X : K.In h) (G : h.Ns mainGlobals mg) (hfa : mg "law" = some (.ref fa))
    {CP CT TD DK : Addr} {nmT qT : Str} {NT : Addr} {bsT : List Value} {CA : Addr} {snT : List Str} {subT : List Value} {abT : Bool} {colT : Option Bool} {ddT oTD : Option Addr} {m0 m1 m3 m5 : Option Value} {nT : Str} {tkT : Tok} {nTD : Nat} {slTD : Array (Option Value)}
    {fwording : Addr} {odwording anwording : Option Addr} {slwording : Array (Option Value)} {ocwording dcwording pmwording cdwording ctwording kVwording : Value}
    {fAccessError_init : Addr} {odAccessError_init anAccessError_init : Option Addr} {slAccessError_init : Array (Option Value)} {ocAccessError_init dcAccessError_init pmAccessError_init cdAccessError_init ctAccessError_init kVAccessError_init : Value}
    {fPackages_init : Addr} {odPackages_init anPackages_init : Option Addr} {slPackages_init : Array (Option Value)} {ocPackages_init dcPackages_init pmPackages_init cdPackages_init ctPackages_init kVPackages_init : Value}
    {fPackages_add_package : Addr} {odPackages_add_package anPackages_add_package : Option Addr} {slPackages_add_package : Array (Option Value)} {ocPackages_add_package dcPackages_add_package pmPackages_add_package cdPackages_add_package ctPackages_add_package : Value}
    {fPackages_is_sealed : Addr} {odPackages_is_sealed anPackages_is_sealed : Option Addr} {slPackages_is_sealed : Array (Option Value)} {ocPackages_is_sealed dcPackages_is_sealed pmPackages_is_sealed cdPackages_is_sealed ctPackages_is_sealed kVPackages_is_sealed : Value}
    {fl_digits : Addr} {odl_digits anl_digits : Option Addr} {sll_digits : Array (Option Value)} {ocl_digits dcl_digits pml_digits cdl_digits ctl_digits kVl_digits : Value}
    {fl_name : Addr} {odl_name anl_name : Option Addr} {sll_name : Array (Option Value)} {ocl_name dcl_name pml_name cdl_name ctl_name kVl_name : Value}
    {fl_same : Addr} {odl_same anl_same : Option Addr} {sll_same : Array (Option Value)} {ocl_same dcl_same pml_same cdl_same ctl_same kVl_same : Value}
    {fl_add : Addr} {odl_add anl_add : Option Addr} {sll_add : Array (Option Value)} {ocl_add dcl_add pml_add cdl_add ctl_add kVl_add : Value}
    {flaw : Addr} {odlaw anlaw : Option Addr} {sllaw : Array (Option Value)} {oclaw dclaw pmlaw cdlaw ctlaw kVlaw : Value}
    (z_bool : PySem.W.nsIn K mainGlobals "bool" = some none)
    (z_int : PySem.W.nsIn K mainGlobals "int" = some none)
    (z_isinstance : PySem.W.nsIn K mainGlobals "isinstance" = some none)
    (z_len : PySem.W.nsIn K mainGlobals "len" = some none)
    (z_list : PySem.W.nsIn K mainGlobals "list" = some none)
    (z_range : PySem.W.nsIn K mainGlobals "range" = some none)
    (z_str : PySem.W.nsIn K mainGlobals "str" = some none)
    (z_tuple : PySem.W.nsIn K mainGlobals "tuple" = some none)
    (z_ValueError : PySem.W.nsIn K mainGlobals "ValueError" = some none)
    (aCP : PySem.W.nsIn K mainGlobals "Packages" = some (some (.ref CP)))
    (aCT : PySem.W.nsIn K mainGlobals "Taken" = some (some (.ref CT)))
    (awording : PySem.W.nsIn K mainGlobals "_wording" = some (some (.ref fwording)))
    (lwording : K.lookup fwording = some ⟨ocwording, odwording, .func (PySem.W.fnOf "_wording" "_wording" (defArgs s_wording) (defBody s_wording) (defScope s_wording) .none kVwording dcwording pmwording anwording cdwording ctwording), slwording⟩)
    (cwording : PySem.W.codeIn K cdwording "_wording" = true)
    (kwording : PySem.W.keepIn K (.ref fwording) = true)
    (aAccessError_init : PySem.W.findIn K (.ref CT) "__init__" = some (some (.ref fAccessError_init)))
    (lAccessError_init : K.lookup fAccessError_init = some ⟨ocAccessError_init, odAccessError_init, .func (PySem.W.fnOf "__init__" "AccessError.__init__" (defArgs s_AccessError_init) (defBody s_AccessError_init) (defScope s_AccessError_init) (.ref TD) kVAccessError_init dcAccessError_init pmAccessError_init anAccessError_init cdAccessError_init ctAccessError_init), slAccessError_init⟩)
    (cAccessError_init : PySem.W.codeIn K cdAccessError_init "AccessError.__init__" = true)
    (kAccessError_init : PySem.W.keepIn K (.ref fAccessError_init) = true)
    (lTD : K.lookup TD = some ⟨.type "tuple", oTD, .seq #[.none] nTD, slTD⟩)
    (aPackages_init : PySem.W.findIn K (.ref CP) "__init__" = some (some (.ref fPackages_init)))
    (lPackages_init : K.lookup fPackages_init = some ⟨ocPackages_init, odPackages_init, .func (PySem.W.fnOf "__init__" "Packages.__init__" (defArgs s_Packages_init) (defBody s_Packages_init) (defScope s_Packages_init) .none kVPackages_init dcPackages_init pmPackages_init anPackages_init cdPackages_init ctPackages_init), slPackages_init⟩)
    (cPackages_init : PySem.W.codeIn K cdPackages_init "Packages.__init__" = true)
    (kPackages_init : PySem.W.keepIn K (.ref fPackages_init) = true)
    (aPackages_add_package : PySem.W.findIn K (.ref CP) "add_package" = some (some (.ref fPackages_add_package)))
    (lPackages_add_package : K.lookup fPackages_add_package = some ⟨ocPackages_add_package, odPackages_add_package, .func (PySem.W.fnOf "add_package" "Packages.add_package" (defArgs s_Packages_add_package) (defBody s_Packages_add_package) (defScope s_Packages_add_package) .none (.ref DK) dcPackages_add_package pmPackages_add_package anPackages_add_package cdPackages_add_package ctPackages_add_package), slPackages_add_package⟩)
    (cPackages_add_package : PySem.W.codeIn K cdPackages_add_package "Packages.add_package" = true)
    (kPackages_add_package : PySem.W.keepIn K (.ref fPackages_add_package) = true)
    (lDK : PySem.W.nsIn K DK "sealed" = some (some (.bool false)))
    (aPackages_is_sealed : PySem.W.findIn K (.ref CP) "is_sealed" = some (some (.ref fPackages_is_sealed)))
    (lPackages_is_sealed : K.lookup fPackages_is_sealed = some ⟨ocPackages_is_sealed, odPackages_is_sealed, .func (PySem.W.fnOf "is_sealed" "Packages.is_sealed" (defArgs s_Packages_is_sealed) (defBody s_Packages_is_sealed) (defScope s_Packages_is_sealed) .none kVPackages_is_sealed dcPackages_is_sealed pmPackages_is_sealed anPackages_is_sealed cdPackages_is_sealed ctPackages_is_sealed), slPackages_is_sealed⟩)
    (cPackages_is_sealed : PySem.W.codeIn K cdPackages_is_sealed "Packages.is_sealed" = true)
    (kPackages_is_sealed : PySem.W.keepIn K (.ref fPackages_is_sealed) = true)
    (al_digits : PySem.W.nsIn K mainGlobals "_law_digits" = some (some (.ref fl_digits)))
    (ll_digits : K.lookup fl_digits = some ⟨ocl_digits, odl_digits, .func (PySem.W.fnOf "_law_digits" "_law_digits" (defArgs s_l_digits) (defBody s_l_digits) (defScope s_l_digits) .none kVl_digits dcl_digits pml_digits anl_digits cdl_digits ctl_digits), sll_digits⟩)
    (cl_digits : PySem.W.codeIn K cdl_digits "_law_digits" = true)
    (kl_digits : PySem.W.keepIn K (.ref fl_digits) = true)
    (al_name : PySem.W.nsIn K mainGlobals "_law_name" = some (some (.ref fl_name)))
    (ll_name : K.lookup fl_name = some ⟨ocl_name, odl_name, .func (PySem.W.fnOf "_law_name" "_law_name" (defArgs s_l_name) (defBody s_l_name) (defScope s_l_name) .none kVl_name dcl_name pml_name anl_name cdl_name ctl_name), sll_name⟩)
    (cl_name : PySem.W.codeIn K cdl_name "_law_name" = true)
    (kl_name : PySem.W.keepIn K (.ref fl_name) = true)
    (al_same : PySem.W.nsIn K mainGlobals "_law_same" = some (some (.ref fl_same)))
    (ll_same : K.lookup fl_same = some ⟨ocl_same, odl_same, .func (PySem.W.fnOf "_law_same" "_law_same" (defArgs s_l_same) (defBody s_l_same) (defScope s_l_same) .none kVl_same dcl_same pml_same anl_same cdl_same ctl_same), sll_same⟩)
    (cl_same : PySem.W.codeIn K cdl_same "_law_same" = true)
    (kl_same : PySem.W.keepIn K (.ref fl_same) = true)
    (al_add : PySem.W.nsIn K mainGlobals "_law_add" = some (some (.ref fl_add)))
    (ll_add : K.lookup fl_add = some ⟨ocl_add, odl_add, .func (PySem.W.fnOf "_law_add" "_law_add" (defArgs s_l_add) (defBody s_l_add) (defScope s_l_add) .none kVl_add dcl_add pml_add anl_add cdl_add ctl_add), sll_add⟩)
    (cl_add : PySem.W.codeIn K cdl_add "_law_add" = true)
    (kl_add : PySem.W.keepIn K (.ref fl_add) = true)
    (alaw : PySem.W.nsIn K mainGlobals "law" = some (some (.ref flaw)))
    (llaw : K.lookup flaw = some ⟨oclaw, odlaw, .func (PySem.W.fnOf "law" "law" (defArgs s_law) (defBody s_law) (defScope s_law) .none kVlaw dclaw pmlaw anlaw cdlaw ctlaw), sllaw⟩)
    (claw : PySem.W.codeIn K cdlaw "law" = true)
    (klaw : PySem.W.keepIn K (.ref flaw) = true)
    (iPackages_init : PySem.W.isFn K (.ref fPackages_init) = true)
    (iPackages_add_package : PySem.W.isFn K (.ref fPackages_add_package) = true)
    (iPackages_is_sealed : PySem.W.isFn K (.ref fPackages_is_sealed) = true)
    (pgP : PySem.W.plainGet K CP Str.empty = true)
    (hdP : PySem.W.hasDictIn K CP = true)
    (poP : PySem.W.plainOver K CP = true)
    (saP : PySem.W.findIn K (.ref CP) "__setattr__" = some (some (.builtin "object.__setattr__")))
    (mkP : PySem.W.makesIn K CP = true)
    (kcP : PySem.W.keepIn K (.ref CP) = true)
    (nsP : PySem.W.findIn K (.ref CP) "_sealed" = some none)
    (xT : K.lookup CT = some (excClassObj nmT qT CT NT bsT [.ref CA, .type "ValueError", .type "Exception", .type "BaseException", .type "object"] true snT subT abT colT ddT m0 m1 (some (.str nT tkT)) m3 m5 "ValueError.__new__"))
    (hnT : nT.length ≤ 1000)
    (saT : PySem.W.findIn K (.ref CT) "__setattr__" = some (some (.builtin "object.__setattr__")))
    (exT : PySem.W.subIn K (.ref CT) (.type "BaseException") = some true)
    (tyT : PySem.W.typeIn K (.ref CT) = some (.type "type"))
    (kcT : PySem.W.keepIn K (.ref CT) = true)
    (gaT : PySem.W.findIn K (.ref CT) "__getattribute__" = some (some (.builtin "BaseException.__getattribute__")))
    (ggT : PySem.W.findIn K (.ref CT) "__getattr__" = some none)
    (hdT : PySem.W.hasDictIn K CT = true)
    (clT : PySem.W.findIn K (.ref CT) "__class__" = some (some (.builtin "object.__class__")))
    (spT : PySem.W.specialIn K (.builtin "object.__class__") "__get__" = some (some (.builtin "getset_descriptor.__get__")))
    (tkT_ : PySem.W.takesIn K (.builtin "object.__class__") = some true)
    (mrT : PySem.W.mroIn K CT (.type "object") = some true)
    (rdT : PySem.W.readsIn K CT (.type "type") = true)
    (nnT : PySem.W.findCls K (.ref CT) (.type "type") "__name__" = some (.get (.builtin "getset_descriptor.__get__") (.builtin "type.__name__") (.ref CT) (.type "type")))
    (whT : PySem.W.findIn K (.ref CT) "what" = some none)
    (roT : PySem.W.findIn K (.ref CT) "row" = some none)
    (tiA : PySem.W.typeIn K (.ref fAccessError_init) = some (.type "function"))
    (ve : PySem.W.findCls K (.type "ValueError") (.type "type") "__init__" = some (.val (.builtin "ValueError.__init__")))
    (sTT : PySem.W.subIn K (.ref CT) (.ref CT) = some true)
    : ∃ fd : FuncData, (∀ (s : Shared) (v : Value), BindsTo s fd ⟨[v], []⟩ [("_law_script", v)]) ∧ ∀ base : Heap, K.In base → base.Ns mainGlobals mg → FnOk l.prog w K mg base (L2.CX l.prog w) 7 fa fd ["_law_script"] (spLaw K) := by
  have e := hfa.symm.trans (PySem.W.mg_of X G alaw)
  cases e
  have ne : CP ≠ CT := fun z => by
    subst z
    obtain ⟨cd, h1, h2⟩ := PySem.W.any_some hdP
    have := gaT
    have h3 := PySem.W.plainGet_of pgP
    rw [this] at h3
    simp at h3
  obtain ⟨cn, hP, hT⟩ : ∃ cn : Str → Addr, cn "Packages" = CP ∧ cn "Taken" = CT := ⟨fun c => if c = "Packages" then CP else CT, if_pos rfl, if_neg (by decide)⟩
  subst hP
  subst hT
  have T : Fx K mg cn := {
    g_bool := PySem.W.mg_none_of X G z_bool,
    g_int := PySem.W.mg_none_of X G z_int,
    g_isinstance := PySem.W.mg_none_of X G z_isinstance,
    g_len := PySem.W.mg_none_of X G z_len,
    g_list := PySem.W.mg_none_of X G z_list,
    g_range := PySem.W.mg_none_of X G z_range,
    g_str := PySem.W.mg_none_of X G z_str,
    g_tuple := PySem.W.mg_none_of X G z_tuple,
    fl_sealed := ⟨by decide +kernel, fun c hc => by cases List.mem_singleton.mp hc; exact ⟨⟨pgP, hdP, poP, saP⟩, nsP⟩⟩,
    a_wording := fwording,
    fd_wording := _,
    F_wording := fun_mk (st := s_wording) lwording cwording kwording,
    m_wording := PySem.W.mg_of X G awording,
    a_AccessError_init := fAccessError_init,
    fd_AccessError_init := _,
    F_AccessError_init := ⟨⟨_, _, _, _, _, _, _, _, _, _, rfl, lAccessError_init, cAccessError_init, .inr ⟨by simp, TD, _, _, _, rfl, lTD, rfl, .cons rfl .nil⟩, .inl rfl⟩, kAccessError_init⟩,
    a_Packages_init := fPackages_init,
    fd_Packages_init := _,
    F_Packages_init := fun_mk (st := s_Packages_init) lPackages_init cPackages_init kPackages_init,
    a_Packages_add_package := fPackages_add_package,
    fd_Packages_add_package := _,
    F_Packages_add_package := ⟨⟨_, _, _, _, _, _, _, _, _, _, rfl, lPackages_add_package, cPackages_add_package, .inl ⟨rfl, rfl⟩, .inr ⟨DK, rfl, fun q hq => by cases List.mem_singleton.mp hq; exact ⟨_, lDK, rfl⟩⟩⟩, kPackages_add_package⟩,
    a_Packages_is_sealed := fPackages_is_sealed,
    fd_Packages_is_sealed := _,
    F_Packages_is_sealed := fun_mk (st := s_Packages_is_sealed) lPackages_is_sealed cPackages_is_sealed kPackages_is_sealed,
    a_l_digits := fl_digits,
    fd_l_digits := _,
    F_l_digits := fun_mk (st := s_l_digits) ll_digits cl_digits kl_digits,
    m_l_digits := PySem.W.mg_of X G al_digits,
    a_l_name := fl_name,
    fd_l_name := _,
    F_l_name := fun_mk (st := s_l_name) ll_name cl_name kl_name,
    m_l_name := PySem.W.mg_of X G al_name,
    a_l_same := fl_same,
    fd_l_same := _,
    F_l_same := fun_mk (st := s_l_same) ll_same cl_same kl_same,
    m_l_same := PySem.W.mg_of X G al_same,
    a_l_add := fl_add,
    fd_l_add := _,
    F_l_add := fun_mk (st := s_l_add) ll_add cl_add kl_add,
    m_l_add := PySem.W.mg_of X G al_add,
    me_Packages_add_package := ⟨by decide +kernel, fun c hc => by cases List.mem_singleton.mp hc; exact ⟨⟨pgP, hdP, poP, saP⟩, ⟨aPackages_add_package, iPackages_add_package, kPackages_add_package⟩⟩⟩,
    me_Packages_is_sealed := ⟨by decide +kernel, fun c hc => by cases List.mem_singleton.mp hc; exact ⟨⟨pgP, hdP, poP, saP⟩, ⟨aPackages_is_sealed, iPackages_is_sealed, kPackages_is_sealed⟩⟩⟩,
    mk_Packages := ⟨mkP, aPackages_init, iPackages_init, kcP⟩,
    c_Packages := PySem.W.mg_of X G aCP,
    c_Taken := PySem.W.mg_of X G aCT,
    ec_Taken := ⟨⟨⟨_, _, _, _, _, _, _, _, _, _, _, _, _, _, _, xT, rfl⟩, saT, exT, tyT, kcT⟩, ⟨_, ⟨gaT, ggT, exT, hdT, clT, spT, tkT_, mrT, rdT, nnT, ⟨_, _, xT, rfl⟩⟩, hnT⟩, whT, roT⟩,
    ei_Taken := aAccessError_init,
    et := tiA,
    g_ValueError := PySem.W.mg_none_of X G z_ValueError,
    ve := ve,
    ex_Taken := fun e he => by cases List.mem_singleton.mp he; exact (PySem.W.exm_ref exT hdT tyT sTT).trans rfl,
    xf_row := fun e he => by cases List.mem_singleton.mp he; exact ⟨⟨gaT, ggT, exT, hdT⟩, roT⟩,
    xf_what := fun e he => by cases List.mem_singleton.mp he; exact ⟨⟨gaT, ggT, exT, hdT⟩, whT⟩ }
  refine ⟨PySem.W.fnOf "law" "law" (defArgs s_law) (defBody s_law) (defScope s_law) .none kVlaw dclaw pmlaw anlaw cdlaw ctlaw, fun s v => .of_eq rfl, fun base _ _ => ?_⟩
  have Fl := fun_mk (st := s_law) llaw claw klaw
  exact (fnM (P := l.prog) (w := w) (mg := mg) (base := base) (cn := cn) (ps := ["_law_script"]) Fl sc_law (b_law T)).imp law_sp
theorem walk {l : PySem.W.OpenLaw} {q : Program} {loose : List Str} {XP : (Str → Option Value) → Heap → Prop} {YP : World → Heap → Prop} {d : DefRec} {K : Params → PySem.W.Frag} (hn : l.most = some 63) (hdf : d.params.defaults = [])
    (hY : ∀ (w : World) (h : Heap), YP w h → (K w.params).In h)
    (F : ∀ (w : World) (mg : Str → Option Value) (fa : Addr) (h : Heap), (K w.params).In h → h.Ns mainGlobals mg → mg d.name = some (.ref fa) →
      ∃ fd : FuncData, (∀ (s : Shared) (u : Value), BindsTo s fd ⟨[u], []⟩ [("_law_script", u)]) ∧ ∀ base : Heap, (K w.params).In base → base.Ns mainGlobals mg → FnOk l.prog w (K w.params) mg base (L2.CX l.prog w) 7 fa fd ["_law_script"] (spLaw (K w.params))) :
    PySem.W.WalkO q loose XP YP l.row.toRowW d [] (fun f vs => PySem.call f vs) :=
  L2.walk_of (n := 63) (k := 7) (x := "_law_script") (CX := fun w => L2.CX l.prog w) (sp := fun w => spLaw (K w.params)) hn (by decide) hdf ⟨rfl, by decide, by decide⟩ hY F (fun _ _ a ns _ hO hS => ⟨a, ns, rfl, hS, hO, fun _ => rfl⟩)
    fun _ _ _ _ _ h => by
      obtain ⟨_, _, _, _, _, _, _, _, _, _, _, _, z⟩ := h
      exact z.elim
end My
open PySem PySem.W PyProof.Rows
set_option maxRecDepth 100000 in
set_option maxHeartbeats 0 in
theorem PySem.Challenge.cw_whomayname_k09_packages_holds : PySem.Challenge.rw_whomayname_k09_packages.Holds := by
  w_on; o_law; k_head; (case hw => w_witness2)
  k_fill
  refine My.walk (l := PySem.Challenge.rw_whomayname_k09_packages) rfl rfl (fun w h Y => PySem.W.kIn_of Y) ?F
  case F =>
    intro w mg fa h KX G hmg
    refine' My.all_mk KX G hmg ?z_bool ?z_int ?z_isinstance ?z_len ?z_list ?z_range ?z_str ?z_tuple ?z_ValueError ?aCP ?aCT ?awording ?lwording ?cwording ?kwording ?aAccessError_init ?lAccessError_init ?cAccessError_init ?kAccessError_init ?lTD ?aPackages_init ?lPackages_init ?cPackages_init ?kPackages_init ?aPackages_add_package ?lPackages_add_package ?cPackages_add_package ?kPackages_add_package ?lDK ?aPackages_is_sealed ?lPackages_is_sealed ?cPackages_is_sealed ?kPackages_is_sealed ?al_digits ?ll_digits ?cl_digits ?kl_digits ?al_name ?ll_name ?cl_name ?kl_name ?al_same ?ll_same ?cl_same ?kl_same ?al_add ?ll_add ?cl_add ?kl_add ?alaw ?llaw ?claw ?klaw ?iPackages_init ?iPackages_add_package ?iPackages_is_sealed ?pgP ?hdP ?poP ?saP ?mkP ?kcP ?nsP ?xT ?hnT ?saT ?exT ?tyT ?kcT ?gaT ?ggT ?hdT ?clT ?spT ?tkT_ ?mrT ?rdT ?nnT ?whT ?roT ?tiA ?ve ?sTT
    (case z_bool => k_is)
    (case z_int => k_is)
    (case z_isinstance => k_is)
    (case z_len => k_is)
    (case z_list => k_is)
    (case z_range => k_is)
    (case z_str => k_is)
    (case z_tuple => k_is)
    (case z_ValueError => k_is)
    (case aCP => k_is)
    (case aCT => k_is)
    (case awording => k_is)
    (case lwording => k_is)
    (case cwording => k_is)
    (case kwording => k_is)
    (case aAccessError_init => k_is)
    (case lAccessError_init => k_is)
    (case cAccessError_init => k_is)
    (case kAccessError_init => k_is)
    (case lTD => k_is)
    (case aPackages_init => k_is)
    (case lPackages_init => k_is)
    (case cPackages_init => k_is)
    (case kPackages_init => k_is)
    (case aPackages_add_package => k_is)
    (case lPackages_add_package => k_is)
    (case cPackages_add_package => k_is)
    (case kPackages_add_package => k_is)
    (case lDK => k_is)
    (case aPackages_is_sealed => k_is)
    (case lPackages_is_sealed => k_is)
    (case cPackages_is_sealed => k_is)
    (case kPackages_is_sealed => k_is)
    (case al_digits => k_is)
    (case ll_digits => k_is)
    (case cl_digits => k_is)
    (case kl_digits => k_is)
    (case al_name => k_is)
    (case ll_name => k_is)
    (case cl_name => k_is)
    (case kl_name => k_is)
    (case al_same => k_is)
    (case ll_same => k_is)
    (case cl_same => k_is)
    (case kl_same => k_is)
    (case al_add => k_is)
    (case ll_add => k_is)
    (case cl_add => k_is)
    (case kl_add => k_is)
    (case alaw => k_is)
    (case llaw => k_is)
    (case claw => k_is)
    (case klaw => k_is)
    (case iPackages_init => k_is)
    (case iPackages_add_package => k_is)
    (case iPackages_is_sealed => k_is)
    (case pgP => k_is)
    (case hdP => k_is)
    (case poP => k_is)
    (case saP => k_is)
    (case mkP => k_is)
    (case kcP => k_is)
    (case nsP => k_is)
    (case xT => k_is)
    (case hnT => decide)
    (case saT => k_is)
    (case exT => k_is)
    (case tyT => k_is)
    (case kcT => k_is)
    (case gaT => k_is)
    (case ggT => k_is)
    (case hdT => k_is)
    (case clT => k_is)
    (case spT => k_is)
    (case tkT_ => k_is)
    (case mrT => k_is)
    (case rdT => k_is)
    (case nnT => k_is)
    (case whT => k_is)
    (case roT => k_is)
    (case tiA => k_is)
    (case ve => k_is)
    (case sTT => first | rfl | k_is)
