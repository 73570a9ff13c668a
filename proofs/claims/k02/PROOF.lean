import PyProof.Rows.All
import Wide.All
import OpenK.AllK
import Wide.FinOn
import HandS.Text
import HandS.JoinGen
import KE.GoesMore
import HandS.ForMost
import HandS.SetKeys
import HandS.DictComp
import HandS.Codes
import HandS.IsInst
import HandS.Strs
import HandS.RevRange
import HandS.Conv
import HandS.Wide
import KE.GoesEnum
import PySem.Challenge.RW_oncekinds_k02_whole_parts_of_programs
set_option Elab.async false
set_option linter.all false
set_option maxRecDepth 100000
set_option maxHeartbeats 4000000
/-! words of programs: plain mathematics -/
namespace Wd
open PySem

abbrev Nm := List Nat
def nmOk (n : Nm) : Prop := 1 ≤ n.length ∧ n.length ≤ 8 ∧ ∀ c ∈ n, 97 ≤ c ∧ c ≤ 122
inductive W where
  | ap
  | tk (n : Nm)
  | nm (n : Nm)
  deriving DecidableEq
def wOk : W → Prop
  | .ap => True
  | .tk n => nmOk n
  | .nm n => nmOk n
def code : W → List Nat
  | .ap => [64]
  | .tk n => 47 :: n
  | .nm n => n
def enc (w : W) : Str := ⟨(code w).toArray⟩
def str (n : Nm) : Str := ⟨n.toArray⟩
theorem str_inj {a b : Nm} (h : str a = str b) : a = b := by
  have := congrArg TL.tl h
  exact this
theorem tl_str (n : Nm) : TL.tl (str n) = n := rfl
theorem tl_enc (w : W) : TL.tl (enc w) = code w := rfl
theorem enc_nm (n : Nm) : enc (.nm n) = str n := rfl
theorem enc_tk (n : Nm) : enc (.tk n) = str (47 :: n) := rfl
theorem code_inj {a b : W} (ha : wOk a) (hb : wOk b) (h : code a = code b) : a = b := by
  cases a <;> cases b <;> simp [code] at h <;> try rfl
  · subst h; have := hb.2.2 64 (by simp); omega
  · subst h; rfl
  · subst h; have := hb.2.2 47 (by simp); omega
  · subst h; have := ha.2.2 64 (by simp); omega
  · subst h; have := ha.2.2 47 (by simp); omega
  · subst h; rfl
theorem enc_inj {a b : W} (ha : wOk a) (hb : wOk b) (h : enc a = enc b) : a = b :=
  code_inj ha hb (by have := congrArg TL.tl h; exact this)

/-! ### trees -/
inductive T where
  | nm (n : Nm)
  | ap (f a : T)
  | tk (n : Nm) (b : T)
namespace T
def ws : T → List W
  | .nm n => [.nm n]
  | .ap f a => .ap :: (f.ws ++ a.ws)
  | .tk n b => .tk n :: b.ws
def lv : T → List Nm
  | .nm n => [n]
  | .ap f a => f.lv ++ a.lv
  | .tk _ b => b.lv
def tks : T → List Nm
  | .nm _ => []
  | .ap f a => f.tks ++ a.tks
  | .tk n b => n :: b.tks
def sc : T → Prop
  | .nm _ => True
  | .ap f a => f.sc ∧ a.sc
  | .tk n b => n ∈ b.lv ∧ b.sc
def aps : T → Nat
  | .nm _ => 0
  | .ap f a => f.aps + a.aps + 1
  | .tk _ b => b.aps
/-- the index behind the part at i -/
def e : T → Nat → Nat
  | .nm _, _ => 1
  | .tk _ b, i => if i = 0 then 1 + b.ws.length else 1 + b.e (i - 1)
  | .ap f a, i => if i = 0 then 1 + f.ws.length + a.ws.length else if i < 1 + f.ws.length then 1 + f.e (i - 1) else 1 + f.ws.length + a.e (i - 1 - f.ws.length)
theorem pos : ∀ t : T, 0 < t.ws.length
  | .nm _ => by simp [ws]
  | .ap _ _ => by simp [ws]
  | .tk _ _ => by simp [ws]
theorem e0 : ∀ t : T, t.e 0 = t.ws.length
  | .nm _ => rfl
  | .ap f a => by simp [e, ws]; omega
  | .tk _ b => by simp [e, ws]; omega
theorem e_lt : ∀ (t : T) (i : Nat), i < t.ws.length → i < t.e i ∧ t.e i ≤ t.ws.length
  | .nm _, i, h => by simp [ws] at h; simp [e, ws]; omega
  | .tk _ b, i, h => by
    simp [ws] at h
    simp only [e, ws, List.length_cons]
    split
    · omega
    · have := e_lt b (i - 1) (by omega); omega
  | .ap f a, i, h => by
    simp [ws] at h
    simp only [e, ws, List.length_cons, List.length_append]
    split
    · omega
    · split
      · have := e_lt f (i - 1) (by omega); omega
      · have := e_lt a (i - 1 - f.ws.length) (by omega); omega
theorem get_tk {n : Nm} {b : T} {i : Nat} (h : i ≠ 0) : (T.tk n b).ws[i]? = b.ws[i - 1]? := by
  cases i with
  | zero => exact absurd rfl h
  | succ i => rfl
theorem get_ap1 {f a : T} {i : Nat} (h : i ≠ 0) (hi : i < 1 + f.ws.length) : (T.ap f a).ws[i]? = f.ws[i - 1]? := by
  cases i with
  | zero => exact absurd rfl h
  | succ i => show (f.ws ++ a.ws)[i]? = _; rw [List.getElem?_append_left (by omega)]; rfl
theorem get_ap2 {f a : T} {i : Nat} (hi : ¬ i < 1 + f.ws.length) : (T.ap f a).ws[i]? = a.ws[i - 1 - f.ws.length]? := by
  cases i with
  | zero => omega
  | succ i => show (f.ws ++ a.ws)[i]? = _; rw [List.getElem?_append_right (by omega)]; rfl
theorem e_nm : ∀ (t : T) (i : Nat) (n : Nm), t.ws[i]? = some (.nm n) → t.e i = i + 1
  | .nm _, i, n, h => by
    cases i with
    | zero => rfl
    | succ i => simp [ws] at h
  | .tk m b, i, n, h => by
    by_cases z : i = 0
    · subst z; simp [ws] at h
    · rw [get_tk z] at h
      have := e_nm b _ n h
      simp only [e]; rw [if_neg z]; omega
  | .ap f a, i, n, h => by
    by_cases z : i = 0
    · subst z; simp [ws] at h
    · by_cases y : i < 1 + f.ws.length
      · rw [get_ap1 z y] at h
        have := e_nm f _ n h
        simp only [e]; rw [if_neg z, if_pos y]; omega
      · rw [get_ap2 y] at h
        have := e_nm a _ n h
        simp only [e]; rw [if_neg z, if_neg y]; omega
theorem lt_of_get {α : Type} {l : List α} {i : Nat} {x : α} (h : l[i]? = some x) : i < l.length := (List.getElem?_eq_some_iff.mp h).1
theorem e_tk : ∀ (t : T) (i : Nat) (n : Nm), t.ws[i]? = some (.tk n) → i + 1 < t.ws.length ∧ t.e i = t.e (i + 1)
  | .nm _, i, n, h => by
    cases i with
    | zero => simp [ws] at h
    | succ i => simp [ws] at h
  | .tk m b, i, n, h => by
    by_cases z : i = 0
    · subst z
      have := pos b
      have := e0 b
      refine ⟨by simp [ws]; omega, ?_⟩
      simp [e]; omega
    · rw [get_tk z] at h
      have q := e_tk b _ n h
      have e1 : i - 1 + 1 = i := by omega
      rw [e1] at q
      refine ⟨by simp [ws]; omega, ?_⟩
      simp only [e]; rw [if_neg z, if_neg (by omega)]
      show _ = 1 + b.e i
      omega
  | .ap f a, i, n, h => by
    by_cases z : i = 0
    · subst z; simp [ws] at h
    · by_cases y : i < 1 + f.ws.length
      · rw [get_ap1 z y] at h
        have q := e_tk f _ n h
        have e1 : i - 1 + 1 = i := by omega
        rw [e1] at q
        refine ⟨by simp [ws]; omega, ?_⟩
        simp only [e]; rw [if_neg z, if_pos y, if_neg (by omega), if_pos (by omega)]
        show _ = 1 + f.e i
        omega
      · rw [get_ap2 y] at h
        have q := e_tk a _ n h
        have e1 : i - 1 - f.ws.length + 1 = i - f.ws.length := by omega
        rw [e1] at q
        refine ⟨by simp [ws]; omega, ?_⟩
        simp only [e]; rw [if_neg z, if_neg y, if_neg (by omega), if_neg (by omega)]
        have e2 : i + 1 - 1 - f.ws.length = i - f.ws.length := by omega
        rw [e2]
        omega
theorem e_ap : ∀ (t : T) (i : Nat), t.ws[i]? = some .ap → i + 1 < t.ws.length ∧ t.e (i + 1) < t.ws.length ∧ t.e i = t.e (t.e (i + 1))
  | .nm _, i, h => by
    cases i with
    | zero => simp [ws] at h
    | succ i => simp [ws] at h
  | .tk m b, i, h => by
    by_cases z : i = 0
    · subst z; simp [ws] at h
    · rw [get_tk z] at h
      have q := e_ap b _ h
      have e1 : i - 1 + 1 = i := by omega
      rw [e1] at q
      have e3 : (T.tk m b).e (i + 1) = 1 + b.e i := by simp only [e]; rw [if_neg (by omega)]; rfl
      have e4 : (T.tk m b).e (1 + b.e i) = 1 + b.e (b.e i) := by simp only [e]; rw [if_neg (by omega)]; rw [Nat.add_sub_cancel_left]
      rw [e3, e4]
      refine ⟨by simp [ws]; omega, by simp [ws]; omega, ?_⟩
      simp only [e]; rw [if_neg z]; omega
  | .ap f a, i, h => by
    by_cases z : i = 0
    · subst z
      have pf := pos f
      have pa := pos a
      have ef := e0 f
      have ea := e0 a
      have e3 : (T.ap f a).e (0 + 1) = 1 + f.ws.length := by simp only [e]; rw [if_neg (by omega), if_pos (by omega)]; simp; omega
      have e4 : (T.ap f a).e (1 + f.ws.length) = 1 + f.ws.length + a.ws.length := by
        simp only [e]; rw [if_neg (by omega), if_neg (by omega)]
        have : 1 + f.ws.length - 1 - f.ws.length = 0 := by omega
        rw [this]; omega
      rw [e3, e4]
      refine ⟨by simp [ws]; omega, by simp [ws]; omega, ?_⟩
      simp [e]
    · by_cases y : i < 1 + f.ws.length
      · rw [get_ap1 z y] at h
        have q := e_ap f _ h
        have e1 : i - 1 + 1 = i := by omega
        rw [e1] at q
        have e3 : (T.ap f a).e (i + 1) = 1 + f.e i := by simp only [e]; rw [if_neg (by omega), if_pos (by omega)]; rfl
        have e4 : (T.ap f a).e (1 + f.e i) = 1 + f.e (f.e i) := by
          simp only [e]; rw [if_neg (by omega), if_pos (by omega)]; rw [Nat.add_sub_cancel_left]
        rw [e3, e4]
        refine ⟨by simp [ws]; omega, by simp [ws]; omega, ?_⟩
        simp only [e]; rw [if_neg z, if_pos y]; omega
      · rw [get_ap2 y] at h
        have q := e_ap a _ h
        have e1 : i - 1 - f.ws.length + 1 = i - f.ws.length := by omega
        rw [e1] at q
        have e2 : i + 1 - 1 - f.ws.length = i - f.ws.length := by omega
        have e3 : (T.ap f a).e (i + 1) = 1 + f.ws.length + a.e (i - f.ws.length) := by simp only [e]; rw [if_neg (by omega), if_neg (by omega), e2]
        have e4 : (T.ap f a).e (1 + f.ws.length + a.e (i - f.ws.length)) = 1 + f.ws.length + a.e (a.e (i - f.ws.length)) := by
          simp only [e]; rw [if_neg (by omega), if_neg (by omega)]
          have : 1 + f.ws.length + a.e (i - f.ws.length) - 1 - f.ws.length = a.e (i - f.ws.length) := by omega
          rw [this]
        rw [e3, e4]
        refine ⟨by simp [ws]; omega, by simp [ws]; omega, ?_⟩
        simp only [e]; rw [if_neg z, if_neg y]; omega
/-- a name that is taken stands in the body -/
theorem used_lv : ∀ (t : T) (n : Nm), n ∈ t.lv → ∃ j : Nat, t.ws[j]? = some (W.nm n)
  | .nm m, n, h => by simp [lv] at h; subst h; exact ⟨0, rfl⟩
  | .tk m b, n, h => by
    obtain ⟨j, hj⟩ := used_lv b n h
    exact ⟨j + 1, by simpa [ws] using hj⟩
  | .ap f a, n, h => by
    rcases List.mem_append.mp h with h | h
    · obtain ⟨j, hj⟩ := used_lv f n h
      refine ⟨j + 1, ?_⟩
      rw [get_ap1 (by omega) (by have := lt_of_get hj; omega)]; simpa using hj
    · obtain ⟨j, hj⟩ := used_lv a n h
      refine ⟨1 + f.ws.length + j, ?_⟩
      rw [get_ap2 (by omega)]
      have : 1 + f.ws.length + j - 1 - f.ws.length = j := by omega
      rw [this]; exact hj
theorem used : ∀ (t : T) (i : Nat) (n : Nm), t.sc → t.ws[i]? = some (.tk n) → ∃ j : Nat, t.ws[j]? = some (W.nm n) ∧ i < j ∧ j < t.e i
  | .nm _, i, n, _, h => by
    cases i with
    | zero => simp [ws] at h
    | succ i => simp [ws] at h
  | .tk m b, i, n, s, h => by
    by_cases z : i = 0
    · subst z
      simp [ws] at h
      subst h
      obtain ⟨j, hj⟩ := used_lv b m s.1
      refine ⟨j + 1, by simpa [ws] using hj, by omega, ?_⟩
      have := lt_of_get hj
      simp [e]; omega
    · rw [get_tk z] at h
      obtain ⟨j, hj, h1, h2⟩ := used b _ n s.2 h
      refine ⟨j + 1, by simpa [ws] using hj, by omega, ?_⟩
      simp only [e]; rw [if_neg z]; omega
  | .ap f a, i, n, s, h => by
    by_cases z : i = 0
    · subst z; simp [ws] at h
    · by_cases y : i < 1 + f.ws.length
      · rw [get_ap1 z y] at h
        obtain ⟨j, hj, h1, h2⟩ := used f _ n s.1 h
        refine ⟨j + 1, ?_, by omega, ?_⟩
        · rw [get_ap1 (by omega) (by have := lt_of_get hj; omega)]; simpa using hj
        · simp only [e]; rw [if_neg z, if_pos y]; omega
      · rw [get_ap2 y] at h
        obtain ⟨j, hj, h1, h2⟩ := used a _ n s.2 h
        refine ⟨1 + f.ws.length + j, ?_, by omega, ?_⟩
        · rw [get_ap2 (by omega)]
          have : 1 + f.ws.length + j - 1 - f.ws.length = j := by omega
          rw [this]; exact hj
        · simp only [e]; rw [if_neg z, if_neg y]; omega
/-- the part at a place is a tree -/
theorem part : ∀ (t : T) (p : Nat), t.sc → p < t.ws.length → ∃ u : T, u.ws = (t.ws.drop p).take (t.e p - p) ∧ u.sc ∧ u.lv.Sublist t.lv ∧ u.tks.Sublist t.tks ∧ (∀ i, i < u.ws.length → u.e i + p = t.e (p + i))
  | .nm n, p, s, h => by
    simp [ws] at h
    subst h
    refine ⟨.nm n, rfl, s, List.Sublist.refl _, List.Sublist.refl _, fun i hi => rfl⟩
  | .tk m b, p, s, h => by
    by_cases z : p = 0
    · subst z
      refine ⟨.tk m b, ?_, s, List.Sublist.refl _, List.Sublist.refl _, fun i hi => by rw [Nat.zero_add]; rfl⟩
      rw [List.drop_zero, Nat.sub_zero, e0, List.take_length]
    · simp [ws] at h
      obtain ⟨u, h1, h2, h3, h4, h5⟩ := part b (p - 1) s.2 (by omega)
      have lt := e_lt b (p - 1) (by omega)
      refine ⟨u, ?_, h2, h3, h4.cons _, fun i hi => ?_⟩
      · rw [h1]
        obtain ⟨q, rfl⟩ : ∃ q, p = q + 1 := ⟨p - 1, by omega⟩
        show _ = (b.ws.drop q).take _
        congr 1
        simp only [e]; rw [if_neg z]; omega
      · have := h5 i hi
        simp only [e]; rw [if_neg (by omega)]
        have : p + i - 1 = p - 1 + i := by omega
        rw [this]; omega
  | .ap f a, p, s, h => by
    by_cases z : p = 0
    · subst z
      refine ⟨.ap f a, ?_, s, List.Sublist.refl _, List.Sublist.refl _, fun i hi => by rw [Nat.zero_add]; rfl⟩
      rw [List.drop_zero, Nat.sub_zero, e0, List.take_length]
    · simp [ws] at h
      by_cases y : p < 1 + f.ws.length
      · obtain ⟨u, h1, h2, h3, h4, h5⟩ := part f (p - 1) s.1 (by omega)
        have lt := e_lt f (p - 1) (by omega)
        have hul : u.ws.length = f.e (p - 1) - (p - 1) := by rw [h1, List.length_take, List.length_drop]; omega
        refine ⟨u, ?_, h2, h3.trans (List.sublist_append_left _ _), h4.trans (List.sublist_append_left _ _), fun i hi => ?_⟩
        · rw [h1]
          obtain ⟨q, rfl⟩ : ∃ q, p = q + 1 := ⟨p - 1, by omega⟩
          show _ = ((f.ws ++ a.ws).drop q).take _
          rw [List.drop_append_of_le_length (by omega), List.take_append_of_le_length]
          · congr 1
            simp only [e]; rw [if_neg z, if_pos y]; omega
          · rw [List.length_drop]
            simp only [e]; rw [if_neg z, if_pos y]
            have e1 : q + 1 - 1 = q := by omega
            rw [e1] at lt ⊢
            omega
        · have := h5 i hi
          simp only [e]; rw [if_neg (by omega), if_pos (by omega)]
          have : p + i - 1 = p - 1 + i := by omega
          rw [this]; omega
      · obtain ⟨u, h1, h2, h3, h4, h5⟩ := part a (p - 1 - f.ws.length) s.2 (by omega)
        have lt := e_lt a (p - 1 - f.ws.length) (by omega)
        refine ⟨u, ?_, h2, h3.trans (List.sublist_append_right _ _), h4.trans (List.sublist_append_right _ _), fun i hi => ?_⟩
        · rw [h1]
          obtain ⟨q, rfl⟩ : ∃ q, p = q + 1 := ⟨p - 1, by omega⟩
          show _ = ((f.ws ++ a.ws).drop q).take _
          have e1 : q + 1 - 1 - f.ws.length = q - f.ws.length := by omega
          rw [List.drop_append, List.drop_of_length_le (by omega : f.ws.length ≤ q), List.nil_append]
          rw [e1] at lt ⊢
          congr 1
          simp only [e]; rw [if_neg z, if_neg y, e1]; omega
        · have := h5 i hi
          simp only [e]; rw [if_neg (by omega), if_neg (by omega)]
          have : p + i - 1 - f.ws.length = p - 1 - f.ws.length + i := by omega
          rw [this]; omega
theorem tks_ws : ∀ t : T, t.tks = t.ws.filterMap (fun w => match w with | .tk n => some n | _ => none)
  | .nm _ => rfl
  | .tk m b => by simp only [tks, ws, List.filterMap_cons]; rw [tks_ws b]
  | .ap f a => by simp only [tks, ws, List.filterMap_cons, List.filterMap_append]; rw [tks_ws f, tks_ws a]
theorem lv_ws : ∀ t : T, t.lv = t.ws.filterMap (fun w => match w with | .nm n => some n | _ => none)
  | .nm _ => rfl
  | .tk m b => by simp only [lv, ws, List.filterMap_cons]; rw [lv_ws b]
  | .ap f a => by simp only [lv, ws, List.filterMap_cons, List.filterMap_append]; rw [lv_ws f, lv_ws a]
theorem lv_aps : ∀ t : T, t.lv.length = t.aps + 1
  | .nm _ => rfl
  | .tk m b => lv_aps b
  | .ap f a => by simp only [lv, aps, List.length_append]; rw [lv_aps f, lv_aps a]; omega
theorem aps_ws : ∀ t : T, t.aps = (t.ws.filter (fun w => decide (w = .ap))).length
  | .nm _ => rfl
  | .tk m b => by simp [aps, ws]; exact aps_ws b
  | .ap f a => by
    have h1 := aps_ws f
    have h2 := aps_ws a
    simp [aps, ws]; omega
theorem len_ws : ∀ t : T, t.ws.length = 2 * t.aps + 1 + t.tks.length
  | .nm _ => rfl
  | .tk m b => by have := len_ws b; simp [ws, aps, tks]; omega
  | .ap f a => by have := len_ws f; have := len_ws a; simp [ws, aps, tks]; omega
end T

/-! ### valid words -/
structure Vd (ws : List W) : Prop where
  tree : ∃ t : T, t.ws = ws ∧ t.sc ∧ t.lv.Nodup ∧ t.tks.Nodup
  ok : ∀ w ∈ ws, wOk w
structure IsEnds (ws : List W) (E : Nat → Nat) : Prop where
  lt : ∀ i, i < ws.length → i < E i ∧ E i ≤ ws.length
  all : E 0 = ws.length
  nm : ∀ i n, ws[i]? = some (.nm n) → E i = i + 1
  tk : ∀ i n, ws[i]? = some (.tk n) → i + 1 < ws.length ∧ E i = E (i + 1)
  ap : ∀ i, ws[i]? = some .ap → i + 1 < ws.length ∧ E (i + 1) < ws.length ∧ E i = E (E (i + 1))
theorem T.isEnds (t : T) : IsEnds t.ws t.e := ⟨t.e_lt, t.e0, t.e_nm, t.e_tk, t.e_ap⟩
/-- two such are alike -/
theorem IsEnds.uniq {ws : List W} {E F : Nat → Nat} (h : IsEnds ws E) (g : IsEnds ws F) : ∀ k i, ws.length - i = k → i < ws.length → E i = F i := by
  intro k
  induction k using Nat.strongRecOn with
  | _ k ih =>
    intro i hk hi
    cases hw : ws[i]? with
    | none => rw [List.getElem?_eq_none_iff] at hw; omega
    | some w =>
      cases w with
      | nm n => rw [h.nm i n hw, g.nm i n hw]
      | tk n =>
        obtain ⟨h1, h2⟩ := h.tk i n hw
        obtain ⟨g1, g2⟩ := g.tk i n hw
        rw [h2, g2]
        exact ih _ (by omega) (i + 1) rfl h1
      | ap =>
        obtain ⟨h1, h2, h3⟩ := h.ap i hw
        obtain ⟨g1, g2, g3⟩ := g.ap i hw
        have e1 := ih _ (by omega) (i + 1) rfl h1
        have l1 := (h.lt (i + 1) h1).1
        rw [h3, g3, ← e1]
        exact ih _ (by omega) (E (i + 1)) rfl h2
/-- the chain of ends from i on -/
def chain (E : Nat → Nat) (n : Nat) : Nat → Nat → List Nat
  | 0, _ => []
  | k + 1, i => if i < n then E i :: chain E n k (E i) else []
theorem chain_more {E : Nat → Nat} {n : Nat} (h : ∀ i, i < n → i < E i ∧ E i ≤ n) : ∀ (k j i : Nat), n - i ≤ k → n - i ≤ j → i ≤ n → chain E n k i = chain E n j i
  | 0, 0, i, _, _, _ => rfl
  | 0, j + 1, i, hk, _, hi => by
    unfold chain; rw [if_neg (by omega)]
  | k + 1, 0, i, _, hj, hi => by
    conv => lhs; unfold chain
    rw [if_neg (by omega)]; rfl
  | k + 1, j + 1, i, hk, hj, hi => by
    unfold chain
    by_cases c : i < n
    · rw [if_pos c, if_pos c, chain_more h k j (E i) (by have := h i c; omega) (by have := h i c; omega) (h i c).2]
    · rw [if_neg c, if_neg c]
def ch (E : Nat → Nat) (n i : Nat) : List Nat := chain E n n i
section
variable {ws : List W} {E : Nat → Nat}
theorem ch_end : ch E n n = [] := by
  unfold ch
  cases n with
  | zero => rfl
  | succ n => unfold chain; rw [if_neg (by omega)]
theorem ch_step (h : IsEnds ws E) {i : Nat} (hi : i < ws.length) : ch E ws.length i = E i :: ch E ws.length (E i) := by
  unfold ch
  obtain ⟨k, hk⟩ : ∃ k, ws.length = k + 1 := ⟨ws.length - 1, by omega⟩
  have l := h.lt i hi
  conv => lhs; rw [hk]; unfold chain
  rw [if_pos (by omega), ← hk, chain_more h.lt k ws.length (E i) (by omega) (by omega) l.2]
theorem ch_ne (h : IsEnds ws E) {i : Nat} (hi : i < ws.length) : 0 < (ch E ws.length i).length := by rw [ch_step h hi]; simp
theorem ch_nm (h : IsEnds ws E) {i : Nat} {n : Nm} (hw : ws[i]? = some (.nm n)) : ch E ws.length i = (i + 1) :: ch E ws.length (i + 1) := by
  rw [ch_step h (T.lt_of_get hw), h.nm i n hw]
theorem ch_tk (h : IsEnds ws E) {i : Nat} {n : Nm} (hw : ws[i]? = some (.tk n)) : ch E ws.length (i + 1) = E i :: ch E ws.length (E i) ∧ ch E ws.length i = E i :: ch E ws.length (E i) := by
  obtain ⟨h1, h2⟩ := h.tk i n hw
  exact ⟨by rw [ch_step h h1, h2], ch_step h (T.lt_of_get hw)⟩
theorem ch_ap (h : IsEnds ws E) {i : Nat} (hw : ws[i]? = some .ap) : ch E ws.length (i + 1) = E (i + 1) :: E i :: ch E ws.length (E i) ∧ ch E ws.length i = E i :: ch E ws.length (E i) := by
  obtain ⟨h1, h2, h3⟩ := h.ap i hw
  refine ⟨?_, ch_step h (T.lt_of_get hw)⟩
  rw [ch_step h h1, ch_step h h2, ← h3]
theorem ch_one (h : IsEnds ws E) (hp : 0 < ws.length) : ch E ws.length 0 = [ws.length] := by
  rw [ch_step h hp, h.all, ch_end]
end
end Wd

namespace Wd
open PySem
/-! ### the name with a number -/
def stp (s : Nat × Nm) : Nat × Nm := if 0 < s.1 then ((s.1 - 1) / 26, (97 + (s.1 - 1) % 26) :: s.2) else s
def itr : Nat → Nat × Nm → Nat × Nm
  | 0, s => s
  | k + 1, s => stp (itr k s)
def lett (n : Nat) : Nm := (itr 9 (n + 1, [])).2
def val : Nm → Nat
  | [] => 0
  | c :: l => (c - 96) * 26 ^ l.length + val l
def bd : Nat → Nat
  | 0 => 0
  | k + 1 => 26 * (bd k + 1)
structure LI (n i : Nat) (s : Nat × Nm) : Prop where
  v : val s.2 + s.1 * 26 ^ s.2.length = n
  l : s.2.length ≤ i
  c : ∀ x ∈ s.2, 97 ≤ x ∧ x ≤ 122
theorem LI.start (n : Nat) : LI n 0 (n, []) := ⟨by simp [val], Nat.le_refl _, by simp⟩
theorem LI.step {n i : Nat} {s : Nat × Nm} (h : LI n i s) : LI n (i + 1) (stp s) := by
  unfold stp
  split
  · rename_i hp
    refine ⟨?_, by have := h.l; simp; omega, ?_⟩
    · have hv := h.v
      simp only [val, List.length_cons, Nat.pow_succ]
      have e1 : 97 + (s.1 - 1) % 26 - 96 = (s.1 - 1) % 26 + 1 := by omega
      rw [e1]
      have e2 : (s.1 - 1) / 26 * (26 ^ s.2.length * 26) = (26 * ((s.1 - 1) / 26)) * 26 ^ s.2.length := by
        rw [Nat.mul_comm (26 ^ s.2.length) 26, ← Nat.mul_assoc, Nat.mul_comm ((s.1 - 1) / 26) 26]
      rw [e2]
      have e3 : ((s.1 - 1) % 26 + 1) * 26 ^ s.2.length + val s.2 + 26 * ((s.1 - 1) / 26) * 26 ^ s.2.length = val s.2 + ((s.1 - 1) % 26 + 1 + 26 * ((s.1 - 1) / 26)) * 26 ^ s.2.length := by
        rw [Nat.add_mul ((s.1 - 1) % 26 + 1)]; omega
      rw [e3]
      have e4 : (s.1 - 1) % 26 + 1 + 26 * ((s.1 - 1) / 26) = s.1 := by
        have := Nat.div_add_mod (s.1 - 1) 26
        omega
      rw [e4]; exact hv
    · intro x hx
      rcases List.mem_cons.mp hx with rfl | hx
      · have := Nat.mod_lt (s.1 - 1) (show 26 > 0 by decide); omega
      · exact h.c x hx
  · exact ⟨h.v, by have := h.l; omega, h.c⟩
theorem LI.itr (n : Nat) : ∀ i, LI n i (itr i (n, []))
  | 0 => LI.start n
  | i + 1 => (LI.itr n i).step
theorem itr_bd {n k : Nat} (h : n ≤ bd k) : ∀ i, i ≤ k → (itr i (n, [])).1 ≤ bd (k - i)
  | 0, _ => h
  | i + 1, hi => by
    have ih := itr_bd h i (by omega)
    have e : k - i = (k - (i + 1)) + 1 := by omega
    rw [e] at ih
    simp only [bd] at ih
    simp only [Wd.itr, stp]
    split
    · show ((itr i (n, [])).1 - 1) / 26 ≤ _
      omega
    · omega
theorem itr_done {n i : Nat} (h : (itr i (n, [])).1 = 0) : itr (i + 1) (n, []) = itr i (n, []) := by
  simp only [Wd.itr, stp]
  rw [h]; rfl
theorem lett_itr {n : Nat} (h : n + 1 ≤ 217180147158) : lett n = (itr 8 (n + 1, [])).2 ∧ (itr 8 (n + 1, [])).1 = 0 := by
  have b : bd 8 = 217180147158 := by decide
  have z := itr_bd (n := n + 1) (k := 8) (by rw [b]; exact h) 8 (Nat.le_refl _)
  have z0 : (itr 8 (n + 1, [])).1 = 0 := Nat.le_zero.mp z
  refine ⟨?_, z0⟩
  unfold lett
  rw [itr_done z0]
theorem lett_val {n : Nat} (h : n + 1 ≤ 217180147158) : val (lett n) = n + 1 := by
  obtain ⟨e, z⟩ := lett_itr h
  have v := (LI.itr (n + 1) 8).v
  rw [z, Nat.zero_mul, Nat.add_zero] at v
  rw [e]; exact v
theorem lett_ok {n : Nat} (h : n + 1 ≤ 217180147158) : nmOk (lett n) := by
  obtain ⟨e, z⟩ := lett_itr h
  have L := LI.itr (n + 1) 8
  refine ⟨?_, by rw [e]; exact L.l, by rw [e]; exact L.c⟩
  have v := lett_val h
  cases q : lett n with
  | nil => rw [q] at v; simp [val] at v
  | cons a l => simp
theorem lett_inj {n m : Nat} (h : n + 1 ≤ 217180147158) (g : m + 1 ≤ 217180147158) (e : lett n = lett m) : n = m := by
  have a := lett_val h
  have b := lett_val g
  rw [e] at a
  omega
theorem nodup_len {α : Type} [DecidableEq α] : ∀ {a b : List α}, a.Nodup → (∀ x ∈ a, x ∈ b) → a.length ≤ b.length
  | [], _, _, _ => Nat.zero_le _
  | x :: a, b, nd, h => by
    have hx := h x (List.mem_cons_self ..)
    have nd' := List.nodup_cons.mp nd
    have ih := nodup_len (a := a) (b := b.erase x) nd'.2 (fun y hy => by
      refine (List.mem_erase_of_ne ?_).mpr (h y (List.mem_cons_of_mem _ hy))
      rintro rfl
      exact nd'.1 hy)
    have := List.length_erase_of_mem hx
    have hp : 0 < b.length := List.length_pos_of_mem hx
    simp only [List.length_cons]
    omega
theorem pigeon {α : Type} [DecidableEq α] {l : List α} {f : Nat → α} (inj : ∀ i j, i ≤ l.length → j ≤ l.length → f i = f j → i = j) (h : ∀ i, i ≤ l.length → f i ∈ l) : False := by
  have nd : ((List.range (l.length + 1)).map f).Nodup := by
    refine List.pairwise_map.mpr ?_
    refine List.Pairwise.imp_of_mem ?_ List.nodup_range
    intro a b ha hb hne e
    exact hne (inj a b (by have := List.mem_range.mp ha; omega) (by have := List.mem_range.mp hb; omega) e)
  have := nodup_len nd (b := l) (fun x hx => by
    obtain ⟨i, hi, rfl⟩ := List.mem_map.mp hx
    exact h i (by have := List.mem_range.mp hi; omega))
  simp at this
  omega
theorem alpha (r : Nat) (h : r < 26) : (TL.tl (Str.ofString "abcdefghijklmnopqrstuvwxyz"))[r]? = some (97 + r) := by
  rw [TL.tl_ofString]
  revert r
  decide +kernel
end Wd

namespace Wd
open PySem
/-! ### words that are drawn -/
def Fits (e : List Nm × Nat) (t : T) : Prop := t.sc ∧ t.aps = e.2 ∧ t.lv.Perm (e.1 ++ t.tks)
inductive Mt : List (List Nm × Nat) → List T → Prop where
  | nil : Mt [] []
  | cons {e S t ts} : Fits e t → Mt S ts → Mt (e :: S) (t :: ts)
def Pre (e0 : List Nm × Nat) (F : List W) (S : List (List Nm × Nat)) : Prop := ∀ ts, Mt S ts → ∃ t, t.ws = F ++ (ts.map T.ws).flatten ∧ Fits e0 t
theorem Pre.start (e : List Nm × Nat) : Pre e [] [e] := fun ts h => by
  cases h with
  | cons h1 h2 =>
    cases h2
    exact ⟨_, by simp, h1⟩
theorem Pre.nm {e0 F S} {n : Nm} (h : Pre e0 F (([n], 0) :: S)) : Pre e0 (F ++ [.nm n]) S := fun ts m => by
  obtain ⟨t, h1, h2⟩ := h (T.nm n :: ts) (.cons ⟨trivial, rfl, List.Perm.refl _⟩ m)
  exact ⟨t, by rw [h1]; simp [T.ws], h2⟩
theorem Pre.tk {e0 F S} {n : Nm} {row : List Nm} {m : Nat} (h : Pre e0 F ((row, m) :: S)) : Pre e0 (F ++ [.tk n]) ((row ++ [n], m) :: S) := fun ts mt => by
  cases mt with
  | @cons _ _ b ts h1 h2 =>
    obtain ⟨s, a, p⟩ := h1
    obtain ⟨t, h3, h4⟩ := h (T.tk n b :: ts) (.cons ⟨⟨p.mem_iff.mpr (by simp), s⟩, a, by
      show b.lv.Perm (row ++ (n :: b.tks))
      have e : row ++ [n] ++ b.tks = row ++ (n :: b.tks) := by simp
      rw [← e]; exact p⟩ h2)
    exact ⟨t, by rw [h3]; simp [T.ws], h4⟩
theorem Pre.ap {e0 F S} {row r1 r2 : List Nm} {m m1 m2 : Nat} (h : Pre e0 F ((row, m) :: S)) (hr : (r1 ++ r2).Perm row) (hm : m1 + m2 + 1 = m) : Pre e0 (F ++ [.ap]) ((r1, m1) :: (r2, m2) :: S) := fun ts mt => by
  cases mt with
  | @cons _ _ f ts h1 h2 =>
    cases h2 with
    | @cons _ _ a ts h2 h3 =>
      obtain ⟨s1, a1, p1⟩ := h1
      obtain ⟨s2, a2, p2⟩ := h2
      obtain ⟨t, h4, h5⟩ := h (T.ap f a :: ts) (.cons ⟨⟨s1, s2⟩, by show f.aps + a.aps + 1 = m; rw [a1, a2]; exact hm, by
        show (f.lv ++ a.lv).Perm (row ++ (f.tks ++ a.tks))
        refine (p1.append p2).trans ?_
        show ((r1 ++ f.tks) ++ (r2 ++ a.tks)).Perm (row ++ (f.tks ++ a.tks))
        refine List.Perm.trans ?_ (hr.append_right _)
        rw [List.append_assoc, List.append_assoc]
        refine List.Perm.append_left _ ?_
        rw [← List.append_assoc, ← List.append_assoc]
        exact List.perm_append_comm.append_right _⟩ h3)
      exact ⟨t, by rw [h4]; simp [T.ws], h5⟩
def cost (e : List Nm × Nat) : Nat := 3 * e.2 + 2 - e.1.length
def costs : List (List Nm × Nat) → Nat
  | [] => 0
  | e :: S => cost e + costs S
def takesOf (F : List W) : List Nm := F.filterMap (fun w => match w with | .tk n => some n | _ => none)
theorem takesOf_app (F G : List W) : takesOf (F ++ G) = takesOf F ++ takesOf G := by simp [takesOf]
theorem takesOf_len (F : List W) : (takesOf F).length ≤ F.length := List.length_filterMap_le _ _
/-- what is drawn: names the open names, g the givens -/
structure Gen (names : List Nm) (g : Nat) (ws : List W) : Prop where
  tree : ∃ t : T, t.ws = ws ∧ Fits (names, g) t
  nd : (names ++ takesOf ws).Nodup
  ok : ∀ n ∈ names ++ takesOf ws, nmOk n
theorem takesOf_tree (t : T) : takesOf t.ws = t.tks := (T.tks_ws t).symm
theorem mem_tks_ws {t : T} {n : Nm} (h : W.tk n ∈ t.ws) : n ∈ t.tks := by
  rw [T.tks_ws]
  exact List.mem_filterMap.mpr ⟨_, h, rfl⟩
theorem mem_lv_ws {t : T} {n : Nm} (h : W.nm n ∈ t.ws) : n ∈ t.lv := by
  rw [T.lv_ws]
  exact List.mem_filterMap.mpr ⟨_, h, rfl⟩
theorem Gen.vd {names : List Nm} {g : Nat} {ws : List W} (h : Gen names g ws) : Vd ws := by
  obtain ⟨⟨t, rfl, s, a, p⟩, nd, ok⟩ := h
  rw [takesOf_tree] at nd ok
  refine ⟨⟨t, rfl, s, p.nodup_iff.mpr nd, (List.nodup_append.mp nd).2.1⟩, fun w hw => ?_⟩
  cases w with
  | ap => trivial
  | tk n => exact ok n (List.mem_append_right _ (mem_tks_ws hw))
  | nm n => exact ok n (p.mem_iff.mp (mem_lv_ws hw))
theorem Gen.len {names : List Nm} {g : Nat} {ws : List W} (h : Gen names g ws) : ws.length + names.length = 3 * g + 2 := by
  obtain ⟨⟨t, rfl, s, a, p⟩, nd, ok⟩ := h
  have l1 := p.length_eq
  have l2 := T.lv_aps t
  have l3 := T.len_ws t
  simp at l1 a
  omega
theorem swap_perm {α : Type} (l : List α) (i j : Nat) (hi : i < l.length) (hj : j < l.length) : ((l.set i l[j]).set j l[i]).Perm l := List.set_set_perm hi hj
end Wd

namespace Wd
open PySem L2
def isTk : W → Bool
  | .tk _ => true
  | _ => false
def isAp : W → Bool
  | .ap => true
  | _ => false
def isNm : W → Bool
  | .nm _ => true
  | _ => false
theorem starts_pre {x y : Str} (hy : TL.tl y ≠ []) : Txt.startswith x y = TL.pre (TL.tl y) (TL.tl x) := by
  have h := TL.at_iff (x := x) hy 0
  rw [List.drop_zero] at h
  have e : Txt.startswith x y = true ↔ PySem.StrLaws.At x y x.length 0 := by
    unfold Txt.startswith PySem.StrLaws.At
    rw [Bool.and_eq_true, decide_eq_true_eq]
  cases h1 : Txt.startswith x y with
  | true => exact (h.mp (e.mp h1)).symm
  | false =>
    cases h2 : TL.pre (TL.tl y) (TL.tl x) with
    | false => rfl
    | true => rw [e.mpr (h.mpr h2)] at h1; cases h1
theorem slash : TL.tl (Str.ofString "/") = [47] := by rw [TL.tl_ofString]; rfl
theorem at_sign : TL.tl (Str.ofString "@") = [64] := by rw [TL.tl_ofString]; rfl
theorem starts_tk {w : W} (h : wOk w) : Txt.startswith (enc w) "/" = isTk w := by
  rw [starts_pre (by rw [slash]; simp), slash, tl_enc]
  cases w with
  | ap => rfl
  | tk n => simp [code, TL.pre, isTk]
  | nm n =>
    cases n with
    | nil => rfl
    | cons c r =>
      have := h.2.2 c (by simp)
      have hc : c ≠ 47 := by omega
      simp [code, TL.pre, isTk, hc]
theorem cut1 (n : Nm) : cutS (enc (.tk n)) (some 1) none = str n := by
  apply TL.ext_tl
  unfold cutS
  rw [TL.tl_mk]
  have e1 : HT.sIx (enc (.tk n)).length 0 (some 1) = min 1 (enc (.tk n)).length := HT.sIx_nat _ _ 1
  have e2 : (enc (.tk n)).length = n.length + 1 := rfl
  rw [e1, e2, HT.sIx_none, Nat.min_eq_left (by omega)]
  show ((47 :: n).drop 1).take _ = n
  simp
theorem head1 (w : W) : cutS (enc w) none (some 1) = str ((code w).take 1) := by
  apply TL.ext_tl
  unfold cutS
  rw [TL.tl_mk]
  have e1 : HT.sIx (enc w).length (enc w).length (some 1) = min 1 (enc w).length := HT.sIx_nat _ _ 1
  rw [e1, HT.sIx_none]
  show ((code w).drop 0).take (min 1 (code w).length - 0) = (code w).take 1
  rw [List.drop_zero, Nat.sub_zero]
  cases code w <;> simp
theorem head_tk {w : W} (h : wOk w) : decide (V.str (cutS (enc w) none (some 1)) = V.str "/") = isTk w := by
  rw [head1]
  cases w with
  | ap =>
    refine decide_eq_false fun e => ?_
    have := congrArg TL.tl (V.str.inj e)
    rw [slash] at this
    simp [code, tl_str] at this
  | tk n =>
    refine decide_eq_true (congrArg V.str (TL.ext_tl ?_))
    rw [slash]; rfl
  | nm n =>
    refine decide_eq_false fun e => ?_
    have := congrArg TL.tl (V.str.inj e)
    rw [slash, tl_str] at this
    cases n with
    | nil => simp [code] at this
    | cons c r =>
      have := h.2.2 c (by simp)
      simp [code] at *
      omega
theorem is_ap {w : W} (h : wOk w) : decide (V.str (enc w) = V.str "@") = isAp w := by
  cases w with
  | ap =>
    refine decide_eq_true (congrArg V.str (TL.ext_tl ?_))
    rw [at_sign]; rfl
  | tk n =>
    refine decide_eq_false fun e => ?_
    have := congrArg TL.tl (V.str.inj e)
    rw [at_sign, tl_enc] at this
    simp [code] at this
  | nm n =>
    refine decide_eq_false fun e => ?_
    have := congrArg TL.tl (V.str.inj e)
    rw [at_sign, tl_enc] at this
    cases n with
    | nil => simp [code] at this
    | cons c r =>
      have := h.2.2 c (by simp)
      simp [code] at *
      omega
/-- what is_name tells -/
def nameB (z : Str) : Bool := decide (1 ≤ z.length) && (decide (z.length ≤ 8) && (TL.tl z).all fun c => decide (97 ≤ c ∧ c ≤ 122))
theorem nameB_ok {n : Nm} (h : nmOk n) : nameB (str n) = true := by
  unfold nameB
  have hl : (str n).length = n.length := by rw [TL.len_tl]; rfl
  rw [hl, decide_eq_true h.1, decide_eq_true h.2.1, tl_str]
  simp only [Bool.true_and, List.all_eq_true, decide_eq_true_eq]
  exact h.2.2
theorem nameB_tk (n : Nm) : nameB (enc (.tk n)) = false := by
  unfold nameB
  rw [tl_enc]
  simp [code]
theorem nameB_ap : nameB (enc .ap) = false := by
  unfold nameB
  rw [tl_enc]
  simp [code]
theorem letters (c : Nat) : decide (c ∈ (Str.ofString "abcdefghijklmnopqrstuvwxyz").cps.toList) = decide (97 ≤ c ∧ c ≤ 122) := by
  have e : (Str.ofString "abcdefghijklmnopqrstuvwxyz").cps.toList = (List.range 26).map (97 + ·) := by
    show TL.tl _ = _
    rw [TL.tl_ofString]; decide +kernel
  rw [e]
  by_cases h : 97 ≤ c ∧ c ≤ 122
  · rw [decide_eq_true h]
    refine decide_eq_true (List.mem_map.mpr ⟨c - 97, List.mem_range.mpr (by omega), by omega⟩)
  · rw [decide_eq_false h]
    refine decide_eq_false fun hm => ?_
    obtain ⟨k, hk, e⟩ := List.mem_map.mp hm
    have := List.mem_range.mp hk
    omega
end Wd

namespace Wd
open PySem L2
theorem filterMap_ix {α β : Type} {f : α → Option β} : ∀ {l : List α} {i j : Nat} {x y : α} {b : β}, (l.filterMap f).Nodup → l[i]? = some x → l[j]? = some y → f x = some b → f y = some b → i = j
  | [], i, j, x, y, b, _, h, _, _, _ => by simp at h
  | a :: l, i, j, x, y, b, nd, h1, h2, e1, e2 => by
    have tail : (l.filterMap f).Nodup := by
      cases h : f a with
      | none => rwa [List.filterMap_cons_none h] at nd
      | some c => rw [List.filterMap_cons_some h] at nd; exact (List.nodup_cons.mp nd).2
    cases i with
    | zero =>
      cases j with
      | zero => rfl
      | succ j =>
        simp at h1 h2
        subst h1
        rw [List.filterMap_cons_some e1] at nd
        exact absurd (List.mem_filterMap.mpr ⟨y, List.mem_of_getElem? h2, e2⟩) (List.nodup_cons.mp nd).1
    | succ i =>
      cases j with
      | zero =>
        simp at h1 h2
        subst h2
        rw [List.filterMap_cons_some e2] at nd
        exact absurd (List.mem_filterMap.mpr ⟨x, List.mem_of_getElem? h1, e1⟩) (List.nodup_cons.mp nd).1
      | succ j =>
        simp at h1 h2
        rw [filterMap_ix tail h1 h2 e1 e2]
/-- no word but "@" stands twice -/
theorem Vd.once {ws : List W} (h : Vd ws) {i j : Nat} {w : W} (hw : w ≠ .ap) (h1 : ws[i]? = some w) (h2 : ws[j]? = some w) : i = j := by
  obtain ⟨⟨t, rfl, s, nl, nt⟩, ok⟩ := h
  cases w with
  | ap => exact absurd rfl hw
  | tk n => rw [T.tks_ws] at nt; exact filterMap_ix nt h1 h2 rfl rfl
  | nm n => rw [T.lv_ws] at nl; exact filterMap_ix nl h1 h2 rfl rfl
theorem Vd.ends {ws : List W} (h : Vd ws) : ∃ E, IsEnds ws E := by
  obtain ⟨⟨t, rfl, s, nl, nt⟩, ok⟩ := h
  exact ⟨t.e, t.isEnds⟩
theorem Vd.pos {ws : List W} (h : Vd ws) : 0 < ws.length := by
  obtain ⟨⟨t, rfl, s, nl, nt⟩, ok⟩ := h
  exact t.pos
theorem Vd.okAt {ws : List W} (h : Vd ws) {i : Nat} {w : W} (hw : ws[i]? = some w) : wOk w := h.ok w (List.mem_of_getElem? hw)
/-- a taken name stands in the body -/
theorem Vd.used {ws : List W} (h : Vd ws) {E : Nat → Nat} (g : IsEnds ws E) {i : Nat} {n : Nm} (hw : ws[i]? = some (.tk n)) : ∃ j, ws[j]? = some (.nm n) ∧ i < j ∧ j < E i := by
  obtain ⟨⟨t, rfl, s, nl, nt⟩, ok⟩ := h
  obtain ⟨j, h1, h2, h3⟩ := T.used t i n s hw
  exact ⟨j, h1, h2, by rw [g.uniq t.isEnds _ i rfl (T.lt_of_get hw)]; exact h3⟩
/-- the part at a place -/
theorem Vd.part {ws : List W} (h : Vd ws) {E : Nat → Nat} (g : IsEnds ws E) {p : Nat} (hp : p < ws.length) :
    Vd ((ws.drop p).take (E p - p)) ∧ ∃ F, IsEnds ((ws.drop p).take (E p - p)) F ∧ ∀ i, i < ((ws.drop p).take (E p - p)).length → F i + p = E (p + i) := by
  obtain ⟨⟨t, rfl, s, nl, nt⟩, ok⟩ := h
  obtain ⟨u, h1, h2, h3, h4, h5⟩ := T.part t p s hp
  have ep : E p = t.e p := g.uniq t.isEnds _ p rfl hp
  rw [ep, ← h1]
  have hu : u.ws.length = t.e p - p := by
    have := T.e_lt t p hp
    rw [h1, List.length_take, List.length_drop]; omega
  refine ⟨⟨⟨u, rfl, h2, h3.nodup nl, h4.nodup nt⟩, fun w hw => ok w ?_⟩, u.e, u.isEnds, fun i hi => ?_⟩
  · rw [h1] at hw
    exact List.mem_of_mem_drop (List.mem_of_mem_take hw)
  · rw [h5 i hi]
    have := T.e_lt t p hp
    exact (g.uniq t.isEnds _ (p + i) rfl (by omega)).symm
end Wd

namespace Wd
open PySem
/-! ### words that have parts behind them, by how many -/
def misF : List Nat → Nat → Nat → Option Nat
  | [], i, l => if l = 0 then none else some i
  | n :: ns, i, l => if l = 0 then some i else misF ns (i + 1) (l + n - 1)
inductive Wh : Nat → List Nat → Prop where
  | nil : Wh 0 []
  | cons {c n ns} : Wh (c + n) ns → Wh (c + 1) (n :: ns)
theorem Wh.mis {c : Nat} {ns : List Nat} (h : Wh c ns) : ∀ i, misF ns i c = none := by
  induction h with
  | nil => intro i; rfl
  | @cons c n ns h ih =>
    intro i
    unfold misF
    rw [if_neg (by omega), show c + 1 + n - 1 = c + n by omega]
    exact ih _
def needW : W → Nat
  | .ap => 2
  | .tk _ => 1
  | .nm _ => 0
theorem T.wh : ∀ (t : T) (c : Nat) (r : List Nat), Wh c r → Wh (c + 1) (t.ws.map needW ++ r)
  | .nm n, c, r, h => by exact Wh.cons h
  | .tk n b, c, r, h => by
    show Wh (c + 1) (1 :: (b.ws.map needW ++ r))
    exact Wh.cons (T.wh b c r h)
  | .ap f a, c, r, h => by
    have e : (T.ap f a).ws.map needW ++ r = 2 :: (f.ws.map needW ++ (a.ws.map needW ++ r)) := by simp [T.ws, needW]
    rw [e]
    exact Wh.cons (T.wh f (c + 1) _ (T.wh a c r h))
theorem Vd.wh {ws : List W} (h : Vd ws) : Wh 1 (ws.map needW) := by
  obtain ⟨⟨t, rfl, s, nl, nt⟩, ok⟩ := h
  have := T.wh t 0 [] .nil
  rwa [List.append_nil] at this
theorem needW_le (w : W) : needW w ≤ 2 := by cases w <;> simp [needW]
def itE (E : Nat → Nat) (i : Nat) : Nat → Nat
  | 0 => i + 1
  | j + 1 => E (itE E i j)
structure EndsN (ns : List Nat) (E : Nat → Nat) : Prop where
  ex : ∀ i n, ns[i]? = some n → (∀ j, j < n → i < itE E i j ∧ itE E i j < ns.length) ∧ E i = itE E i n
  le : ∀ n, n ∈ ns → n ≤ 2
theorem IsEnds.needs {ws : List W} {E : Nat → Nat} (h : IsEnds ws E) : EndsN (ws.map needW) E := by
  refine ⟨fun i n hn => ?_, fun n hn => ?_⟩
  · rw [List.getElem?_map] at hn
    rw [List.length_map]
    cases hw : ws[i]? with
    | none => rw [hw] at hn; cases hn
    | some w =>
      rw [hw] at hn
      cases w with
      | nm x => cases hn; exact ⟨fun j (hj : j < 0) => absurd hj (by omega), h.nm i x hw⟩
      | tk x =>
        cases hn
        obtain ⟨h1, h2⟩ := h.tk i x hw
        refine ⟨fun j (hj : j < 1) => ?_, h2⟩
        have : j = 0 := by omega
        subst this
        exact ⟨by show i < i + 1; omega, h1⟩
      | ap =>
        cases hn
        obtain ⟨h1, h2, h3⟩ := h.ap i hw
        refine ⟨fun j (hj : j < 2) => ?_, h3⟩
        have l := h.lt (i + 1) h1
        match j, hj with
        | 0, _ => exact ⟨by show i < i + 1; omega, h1⟩
        | 1, _ => exact ⟨by show i < E (i + 1); omega, h2⟩
  · obtain ⟨w, _, rfl⟩ := List.mem_map.mp hn
    exact needW_le w
end Wd

set_option maxHeartbeats 2000000
namespace Kk
open PySem PySem.Spec PyProof.Rows L2
/-- a def that can be called: where it stands, and what it promises -/
structure Cal (P : Program) (w : World) (K : PySem.W.Frag) (mg : Str → Option Value) (base : Heap) (x : Str) (k : Nat) (ps : List Str) (sp : Sp) : Prop where
  ex : ∃ f fd, mg x = some (.ref f) ∧ PySem.W.keepIn K (.ref f) = true ∧ Binds K fd ps [] ∧ FnOk P w K mg base CX0 k f fd ps sp
structure DefAt (K : PySem.W.Frag) (mg : Str → Option Value) (x : Str) (st : Stmt) : Prop where
  ex : ∃ f fd, Fun K x x st f fd ∧ mg x = some (.ref f)
theorem Cal.imp {P w K mg base x k ps} {sp sp' : Sp} (C : Cal P w K mg base x k ps sp) (h : ∀ vs H Q E, sp' vs H Q E → sp vs H Q E) : Cal P w K mg base x k ps sp' := by
  obtain ⟨f, fd, a, b, c, d⟩ := C
  exact ⟨f, fd, a, b, c, d.imp h⟩
section
variable {P : Program} {w : World} {K : PySem.W.Frag} {mg : Str → Option Value} {base : Heap}
theorem cal_of {x : Str} {st : Stmt} {N ps : List Str} {k : Nat} {sp : Sp} (D : DefAt K mg x st) (S : FnScope N ps (defScope st))
    (hb : ∀ (kV doc pm : Value) (an : Option Addr) (cdv ct : Value) (us : List Value), us.length = ps.length → bindArgs (PySem.W.fnOf x x (defArgs st) (defBody st) (defScope st) .none kV doc pm an cdv ct) ⟨us, []⟩ = pure (ps.zip us))
    (len : ∀ vs H Q E, sp vs H Q E → vs.length = ps.length)
    (hbody : ∀ (f : Addr) (cdv : Value) (A : Around) (outer : List Env) (s : Shared) (H : Hp) (vs : List V) (Q : VK) (E : XK), Room k (A.deeper (envOfC x (defScope st) s.heap.objs.size f cdv)) → sp vs H Q E →
      ∃ t, PSs (cxOf CX0 P w K mg base N x (defScope st) f cdv A outer s H E).nox (defBody st) t ∧ t { nx := fun _ H' => Q .non H', rt := Q } (start N vs) H) : Cal P w K mg base x (k + 1) ps sp := by
  obtain ⟨f, fd, F, m⟩ := D
  exact ⟨f, fd, m, F.kp, F.binds hb, F.ok S len fun cdv A outer s H vs Q E hr h => hbody f cdv A outer s H vs Q E hr h⟩
end
section
variable {X : Cx} {e : Expr} {es : List Expr} {t : TA} {x : Str} {k : Nat} {ps : List Str} {sp : Sp} {p pos : Pos}
theorem pe_c (C : Cal X.prog X.w X.K X.mg X.base x k ps sp) (hr : Room k X.A) (ha : PA X (e :: es) t) (hg : Gl X x := by rfl) (hdb : (x == ("__debug__" : Str)) = false := by decide)
    (he : starEach (e :: es) X.env = (false, eval e X.env) :: starEach es X.env := by rfl) (hpl : (backTo pos (starEach es X.env)).any (·.1) = false := by rfl) :
    PE X (.Call (.Name x p) (e :: es) [] pos) (tCall sp [] E0 t) := by
  obtain ⟨f, fd, hm, hk, hb, F⟩ := C
  exact pe_call F hr hg hm hk hb .nil pass0 ha hdb he hpl
theorem pe_c0 (C : Cal X.prog X.w X.K X.mg X.base x k ps sp) (hr : Room k X.A) (hg : Gl X x := by rfl) (hdb : (x == ("__debug__" : Str)) = false := by decide) :
    PE X (.Call (.Name x p) [] [] pos) (tCall sp [] E0 tNil) := by
  obtain ⟨f, fd, hm, hk, hb, F⟩ := C
  exact pe_call0 F hr hg hm hk hb .nil pass0 hdb
theorem pe_gs {z : Str} (hm : ∃ t, X.mg x = some (.str z t)) (hg : Gl X x := by rfl) (hd : (x == ("__debug__" : Str)) = false := by decide) : PE X (.Name x pos) (tC (.str z)) := by
  obtain ⟨t, h⟩ := hm
  exact pe_glob hg h ⟨t, rfl⟩ hd
theorem pe_gi {i : Int} (hm : ∃ t, X.mg x = some (.int i t)) (hg : Gl X x := by rfl) (hd : (x == ("__debug__" : Str)) = false := by decide) : PE X (.Name x pos) (tC (.int i)) := by
  obtain ⟨t, h⟩ := hm
  exact pe_glob hg h ⟨t, rfl⟩ hd
theorem pe_gr {a : Addr} (hm : X.mg x = some (.ref a)) (hg : Gl X x := by rfl) (hd : (x == ("__debug__" : Str)) = false := by decide) : PE X (.Name x pos) (tC (.ref a)) := pe_glob hg hm rfl hd
theorem pe_ty {n : String} (hm : X.mg x = none) (hv : bootBuiltins x = some (.type n)) (hg : Gl X x := by rfl) (hn : x ≠ "__name__" := by decide) (hd : (x == ("__debug__" : Str)) = false := by decide) : PE X (.Name x pos) (tC (.ty n)) := pe_bltn hg hm hv rfl hn hd
end
/-- the built-in names that the text does not hide -/
structure Bt (mg : Str → Option Value) : Prop where
  b_len : mg "len" = none
  b_int : mg "int" = none
  b_bool : mg "bool" = none
  b_str : mg "str" = none
  b_abs : mg "abs" = none
  b_min : mg "min" = none
  b_max : mg "max" = none
  b_sum : mg "sum" = none
  b_list : mg "list" = none
  b_tuple : mg "tuple" = none
  b_all : mg "all" = none
  b_isinstance : mg "isinstance" = none
  b_set : mg "set" = none
  b_range : mg "range" = none
  b_enumerate : mg "enumerate" = none
  b_reversed : mg "reversed" = none
  b_zip : mg "zip" = none
  b_divmod : mg "divmod" = none
  b_dict : mg "dict" = none
  b_sorted : mg "sorted" = none
  m_GIVEN : ∃ t, mg "GIVEN" = some (.str "@" t)
  m_TAKE : ∃ t, mg "TAKE" = some (.str "/" t)
  m_LETTERS : ∃ t, mg "LETTERS" = some (.str "abcdefghijklmnopqrstuvwxyz" t)
  m_MOST_LETTERS : ∃ t, mg "MOST_LETTERS" = some (.int 8 t)
  m_MOST_WORDS : ∃ t, mg "MOST_WORDS" = some (.int 1000 t)

/-! ### heaps -/
/-- all but p and g is as it was -/
def Keep (p g : Addr) (H H' : Hp) : Prop := ∀ b o, H b = some o → b ≠ p → b ≠ g → H' b = some o
theorem Keep.refl {p g : Addr} (H : Hp) : Keep p g H H := fun _ _ h _ _ => h
theorem Keep.trans {p g : Addr} {H H1 H2 : Hp} (a : Keep p g H H1) (b : Keep p g H1 H2) : Keep p g H H2 := fun c o h h1 h2 => b c o (a c o h h1 h2) h1 h2
theorem Same.keep {p g : Addr} {H H' : Hp} (a : Same H H') : Keep p g H H' := fun b o h _ _ => a b o h
theorem same_upd {H : Hp} {a : Addr} {o : HO} (h : H a = none) : Same H (upd H a o) := fun b u e => by
  rw [upd_ne (ne_of_none e h)]; exact e
theorem keep_upd {p g : Addr} {H : Hp} {o : HO} (h : True) : Keep p g H (upd H p o) := fun b u e h1 _ => by
  rw [upd_ne h1]; exact e
theorem keep_upd' {p g : Addr} {H : Hp} {o : HO} (h : True) : Keep p g H (upd H g o) := fun b u e _ h2 => by
  rw [upd_ne h2]; exact e
theorem SqL.keep {K : PySem.W.Frag} {p g a : Addr} {H H' : Hp} {xs : List V} (h : SqL K H a xs) (k : Keep p g H H') (h1 : a ≠ p) (h2 : a ≠ g) : SqL K H' a xs := by
  rcases h with (h | ⟨o, h⟩) | h
  · exact .inl (.inl (k _ _ h h1 h2))
  · exact .inl (.inr ⟨o, k _ _ h h1 h2⟩)
  · exact .inr h
theorem SqT.keep {K : PySem.W.Frag} {p g a : Addr} {H H' : Hp} {xs : List V} (h : SqT K H a xs) (k : Keep p g H H') (h1 : a ≠ p) (h2 : a ≠ g) : SqT K H' a xs := by
  rcases h with (h | ⟨o, h⟩) | h
  · exact .inl (.inl (k _ _ h h1 h2))
  · exact .inl (.inr ⟨o, k _ _ h h1 h2⟩)
  · exact .inr h
theorem SqT.same {K : PySem.W.Frag} {a : Addr} {H H' : Hp} {xs : List V} (h : SqT K H a xs) (k : Same H H') : SqT K H' a xs := by
  rcases h with (h | ⟨o, h⟩) | h
  · exact .inl (.inl (k _ _ h))
  · exact .inl (.inr ⟨o, k _ _ h⟩)
  · exact .inr h
theorem atI_int {α : Type} {xs : List α} {i : Int} {v : α} (h0 : 0 ≤ i) (h : xs[i.toNat]? = some v) : atI xs i = some v := by
  have e : i = ((i.toNat : Nat) : Int) := by omega
  rw [e]
  exact atI_nat h
theorem ixN_lt {n j : Nat} (h : j < n) : ixN n (j : Int) = some j := by
  unfold ixN
  rw [if_pos (by omega), if_pos (by omega)]
  rfl
theorem ixN_int {n : Nat} {i : Int} (h0 : 0 ≤ i) (h : i < n) : ixN n i = some i.toNat := by
  unfold ixN
  rw [if_pos h0, if_pos h]
theorem seq0 {n : Nat} (h : 0 < n) : seqIndex? 0 n = some 0 := (ixN_seq (ixN_lt (j := 0) h)).1
/-! ### the law's draws -/
structure PotAt (H : Hp) (p g s : Addr) : Prop where
  ex : ∃ (G S : List Int) (t r : Int), H p = some (.lst [.ref g, .ref s, .int t, .int r]) ∧ H g = some (.lst (G.map V.int)) ∧ H s = some (.lst (S.map V.int)) ∧ 0 < S.length
  pg : p ≠ g
  ps : p ≠ s
  gs : g ≠ s
theorem PotAt.keep {H H' : Hp} {p g s : Addr} (h : PotAt H p g s) (k : Same H H') : PotAt H' p g s := by
  obtain ⟨⟨G, S, t, r, h1, h2, h3, h4⟩, a, b, c⟩ := h
  exact ⟨⟨G, S, t, r, k _ _ h1, k _ _ h2, k _ _ h3, h4⟩, a, b, c⟩
theorem PotAt.off {H H' : Hp} {p g s : Addr} (h : PotAt H p g s) (k : ∀ b o, H b = some o → b = p ∨ b = g ∨ b = s → H' b = some o) : PotAt H' p g s := by
  obtain ⟨⟨G, S, t, r, h1, h2, h3, h4⟩, a, b, c⟩ := h
  exact ⟨⟨G, S, t, r, k _ _ h1 (.inl rfl), k _ _ h2 (.inr (.inl rfl)), k _ _ h3 (.inr (.inr rfl)), h4⟩, a, b, c⟩
def spPot (K : PySem.W.Frag) : Sp := fun vs H Q _ => ∃ (a : Addr) (ns : List Int), vs = [.ref a] ∧ SqL K H a (ns.map V.int) ∧ ns.length ≤ 63 ∧
  ∀ (H' : Hp) (p g s : Addr), PotAt H' p g s → Same H H' → H p = none → H g = none → H s = none → Q (.ref p) H'
def spDraw : Sp := fun vs H Q _ => ∃ (p g s : Addr) (m : Int), vs = [.ref p, .int m] ∧ PotAt H p g s ∧ 0 < m ∧ m.natAbs < 2 ^ 200 ∧
  ∀ (H' : Hp) (r : Int), PotAt H' p g s → Keep p g H H' → 0 ≤ r → r < m → Q (.int r) H'
end Kk

set_option maxHeartbeats 2000000
namespace Kk
open PySem PySem.Spec PyProof.Rows L2
def top (i : Nat) : Stmt := PySem.Challenge.pw_oncekinds_k02_whole_parts_of_programs.main.body.getD i (.Pass ⟨0, 0, 0, 0⟩)
abbrev s_draw : Stmt := (top 36)
theorem sc_draw : FnScope ["_law_pot_here", "_law_many", "_law_turn", "_law_number", "_law_seed"] ["_law_pot_here", "_law_many"] (defScope s_draw) := ⟨rfl, rfl, rfl, by decide +kernel, rfl, by decide +kernel, by decide +kernel⟩
theorem c_draw {P w K mg base} (B : Bt mg) (D : DefAt K mg "_law_draw" s_draw) : Cal P w K mg base "_law_draw" 1 ["_law_pot_here", "_law_many"] spDraw := by
  refine cal_of D sc_draw (fun _ _ _ _ _ _ us hl => match us, hl with | [_, _], _ => rfl) (fun vs H Q E h => ?_) (fun f cdv A outer st0 H vs Q E hr h => ?_)
  · obtain ⟨p, g, s, m, rfl, _⟩ := h
    rfl
  · obtain ⟨p, g, s, m, rfl, PA, hm, hm9, k⟩ := h
    obtain ⟨⟨G, S, t, r, h1, h2, h3, hS⟩, npg, nps, ngs⟩ := PA
    refine ⟨_, (pss_cons (ps_set (i := 2) sc_draw.nd rfl (by first | exact Or.inl rfl | exact Or.inr rfl) (pe_ix ix_list (pv 0) pe_int (fun _ _ => rfl)))
      (pss_cons (ps_asg (pe_op op_add (pv 2) pe_int) (pg_sub (pv 0) pe_int set_list))
      (pss_cons (ps_if (pt_cmpR op_gt (pe_callB call_len_seq (by rfl) B.b_len (by decide +kernel) (pa_cons (pe_ix ix_list (pv 0) pe_int (fun _ _ => rfl)) pa_nil)) pe_int (nomark _)) (pss_cons (ps_set (i := 3) sc_draw.nd rfl (by first | exact Or.inl rfl | exact Or.inr rfl) (pe_ix ix_list (pe_ix ix_list (pv 0) pe_int (fun _ _ => rfl)) pe_int (fun _ _ => rfl)))
      (pss_cons (ps_asg (pe_op op_fdivW (pv 3) (pv 1)) (pg_sub (pe_ix ix_list (pv 0) pe_int (fun _ _ => rfl)) pe_int set_list))
      (pss_cons (ps_if (pt_cmpR op_lt (pv 3) (pv 1) (nomark _)) (pss_one (ps_expr (pe_bm PySem.F.plainAttrs_list PySem.F.slot_list_pop PySem.F.type_list_pop mt_popAt (pe_ix ix_list (pv 0) pe_int (fun _ _ => rfl)) (pa_cons pe_int pa_nil)))) pss_nil)
      (pss_one (ps_ret (pe_op op_mod (pe_callTy call_int1 (by rfl) B.b_int (by decide +kernel) (pa_cons (pv 3) pa_nil)) (pv 1))))))) pss_nil)
      (pss_cons (ps_set (i := 4) sc_draw.nd rfl (by first | exact Or.inl rfl | exact Or.inr rfl) (pe_op op_add (pe_op op_add (pe_op op_mul (pe_ix ix_list (pe_ix ix_list (pv 0) pe_int (fun _ _ => rfl)) (pe_op op_mod (pe_callTy call_int1 (by rfl) B.b_int (by decide +kernel) (pa_cons (pv 2) pa_nil)) (pe_callB call_len_seq (by rfl) B.b_len (by decide +kernel) (pa_cons (pe_ix ix_list (pv 0) pe_int (fun _ _ => rfl)) pa_nil))) (fun _ _ => rfl)) pe_int) (pe_op op_mul pe_int (pv 2))) (pe_op op_mul (pe_ix ix_list (pv 0) pe_int (fun _ _ => rfl)) pe_int)))
      (pss_cons (ps_set (i := 3) sc_draw.nd rfl (by first | exact Or.inl rfl | exact Or.inr rfl) (pe_op op_mod (pe_callTy call_int1 (by rfl) B.b_int (by decide +kernel) (pa_cons (pe_op op_add (pe_op op_mul (pv 4) pe_int) pe_int) pa_nil)) pe_int))
      (pss_cons (ps_set (i := 3) sc_draw.nd rfl (by first | exact Or.inl rfl | exact Or.inr rfl) (pe_op op_mod (pe_callTy call_int1 (by rfl) B.b_int (by decide +kernel) (pa_cons (pe_op op_mul (pv 3) (pe_op op_add (pe_op op_fdivW (pv 3) pe_int) pe_int)) pa_nil)) pe_int))
      (pss_cons (ps_set (i := 3) sc_draw.nd rfl (by first | exact Or.inl rfl | exact Or.inr rfl) (pe_op op_mod (pe_callTy call_int1 (by rfl) B.b_int (by decide +kernel) (pa_cons (pe_op op_add (pe_op op_mul (pv 3) (pe_op op_add (pe_op op_fdivW (pv 3) pe_int) pe_int)) (pv 2)) pa_nil)) pe_int))
      (pss_one (ps_ret (pe_op op_mod (pe_callTy call_int1 (by rfl) B.b_int (by decide +kernel) (pa_cons (pe_op op_fdivW (pv 3) pe_int) pa_nil)) (pv 1))))))))))), ?_⟩
    -- turn = pot[2]; pot[2] = turn + 1
    refine ⟨_, rfl, p, _, _, _, rfl, rfl, SqL.of h1, rfl, ?_⟩
    refine ⟨_, rfl, _, _, rfl, rfl, _, rfl, p, _, _, _, rfl, rfl, h1, rfl, ?_⟩
    have h1' : upd H p (.lst [.ref g, .ref s, .int (t + 1), .int r]) p = some (.lst [.ref g, .ref s, .int (t + 1), .int r]) := upd_same
    have h2' : upd H p (.lst [.ref g, .ref s, .int (t + 1), .int r]) g = some (.lst (G.map V.int)) := by rw [upd_ne npg.symm]; exact h2
    have h3' : upd H p (.lst [.ref g, .ref s, .int (t + 1), .int r]) s = some (.lst (S.map V.int)) := by rw [upd_ne nps.symm]; exact h3
    have kp : Keep p g H (upd H p (.lst [.ref g, .ref s, .int (t + 1), .int r])) := keep_upd trivial
    have e0 : ([V.ref g, V.ref s, V.int t, V.int r].set 2 (V.int (t + 1))) = [.ref g, .ref s, .int (t + 1), .int r] := rfl
    show tSeq _ _ _ _ (upd H p (.lst [.ref g, .ref s, .int (t + 1), .int r]))
    generalize upd H p (.lst [.ref g, .ref s, .int (t + 1), .int r]) = H1 at *
    -- if len(pot[0]) > 0
    refine ⟨_, rfl, p, _, _, _, rfl, rfl, SqL.of h1', rfl, _, _, rfl, .inl (SqL.of h2'), _, _, rfl, rfl, _, rfl, ?_⟩
    refine ite2 (fun hc => ?_) (fun hc => ?_)
    · have hG : 0 < G.length := by
        rw [List.length_map] at hc
        have := of_decide_eq_true hc
        omega
      obtain ⟨z, G', rfl⟩ : ∃ z G', G = z :: G' := by
        cases G with
        | nil => simp at hG
        | cons z G' => exact ⟨z, G', rfl⟩
      -- number = pot[0][0]; pot[0][0] = number // many
      refine ⟨_, rfl, p, _, _, _, rfl, rfl, SqL.of h1', rfl, _, _, _, _, rfl, rfl, SqL.of h2', at_of (j := 0) rfl rfl, ?_⟩
      refine ⟨_, rfl, _, rfl, _, _, rfl, rfl, wide_div hm hm9 (by decide) (by decide), _, rfl, p, _, _, _, rfl, rfl, SqL.of h1', rfl, g, _, _, 0, rfl, rfl, h2', ixN_lt (j := 0) (by simp), ?_⟩
      have q1 : upd H1 g (.lst ((((z :: G').map V.int)).set 0 (V.int (z / m)))) p = some (.lst [.ref g, .ref s, .int (t + 1), .int r]) := by rw [upd_ne npg]; exact h1'
      have q2 : upd H1 g (.lst ((((z :: G').map V.int)).set 0 (V.int (z / m)))) g = some (.lst (((z / m) :: G').map V.int)) := upd_same
      have q3 : upd H1 g (.lst ((((z :: G').map V.int)).set 0 (V.int (z / m)))) s = some (.lst (S.map V.int)) := by rw [upd_ne ngs.symm]; exact h3'
      have kq : Keep p g H (upd H1 g (.lst ((((z :: G').map V.int)).set 0 (V.int (z / m))))) := kp.trans (keep_upd' trivial)
      show tSeq _ _ _ _ (upd H1 g (.lst ((((z :: G').map V.int)).set 0 (V.int (z / m)))))
      generalize upd H1 g (.lst ((((z :: G').map V.int)).set 0 (V.int (z / m)))) = H2 at *
      refine ⟨_, rfl, _, rfl, _, _, rfl, rfl, _, rfl, ?_⟩
      refine ite2 (fun _ => ?_) (fun _ => ?_)
      · -- pot[0].pop(0)
        refine ⟨_, rfl, p, _, _, _, rfl, rfl, SqL.of q1, rfl, .inl ⟨rfl, _, SqL.of q2⟩, g, _, 0, 0, _, rfl, rfl, q2, (by decide), (by decide), seq0 (by simp), rfl, ?_⟩
        have y1 : upd H2 g (.lst ((((z / m) :: G').map V.int).eraseIdx 0)) p = some (.lst [.ref g, .ref s, .int (t + 1), .int r]) := by rw [upd_ne npg]; exact q1
        have y2 : upd H2 g (.lst ((((z / m) :: G').map V.int).eraseIdx 0)) g = some (.lst (G'.map V.int)) := upd_same
        have y3 : upd H2 g (.lst ((((z / m) :: G').map V.int).eraseIdx 0)) s = some (.lst (S.map V.int)) := by rw [upd_ne ngs.symm]; exact q3
        refine ⟨_, rfl, .inl ⟨_, rfl, _, rfl, _, _, rfl, rfl, hm, ?_⟩⟩
        exact k _ _ ⟨⟨G', S, t + 1, r, y1, y2, y3, hS⟩, npg, nps, ngs⟩ (kq.trans (keep_upd' trivial)) (Int.emod_nonneg _ (by omega)) (Int.emod_lt_of_pos _ hm)
      · refine ⟨_, rfl, .inl ⟨_, rfl, _, rfl, _, _, rfl, rfl, hm, ?_⟩⟩
        exact k _ _ ⟨⟨(z / m) :: G', S, t + 1, r, q1, q2, q3, hS⟩, npg, nps, ngs⟩ kq (Int.emod_nonneg _ (by omega)) (Int.emod_lt_of_pos _ hm)
    · have hSl : (0 : Int) < ((S.map V.int).length : Int) := by rw [List.length_map]; omega
      have hlt : (t % ((S.map V.int).length : Int)).toNat < S.length := by
        have a1 := Int.emod_nonneg t (show ((S.map V.int).length : Int) ≠ 0 by omega)
        have a2 := Int.emod_lt_of_pos t hSl
        rw [List.length_map] at a1 a2 ⊢
        omega
      obtain ⟨sv, hat⟩ : ∃ sv, atI (S.map V.int) (t % ((S.map V.int).length : Int)) = some (V.int sv) := by
        refine ⟨S[(t % ((S.map V.int).length : Int)).toNat], ?_⟩
        refine atI_int (Int.emod_nonneg t (by omega)) ?_
        rw [List.getElem?_map, List.getElem?_eq_getElem hlt]
        rfl
      -- seed
      refine ⟨_, rfl, p, _, _, _, rfl, rfl, SqL.of h1', rfl, _, rfl, .inl ⟨_, rfl, _, rfl, p, _, _, _, rfl, rfl, SqL.of h1', rfl, _, _, rfl, .inl (SqL.of h3'), _, _, rfl, rfl, hSl, _, _, _, _, rfl, rfl, SqL.of h3', hat, ?_⟩⟩
      refine ⟨_, _, rfl, rfl, .inr ⟨by decide, by decide⟩, _, rfl, _, _, rfl, rfl, .inl ⟨by decide, by decide⟩, _, _, rfl, rfl, _, rfl, p, _, _, _, rfl, rfl, SqL.of h1', rfl, _, _, rfl, rfl, .inr ⟨by decide, by decide⟩, _, _, rfl, rfl, ?_⟩
      -- number = int(seed * 48271 + 11) % 2147483647
      refine ⟨_, rfl, _, _, rfl, rfl, .inr ⟨by decide, by decide⟩, _, _, rfl, rfl, .inl ⟨_, rfl, _, _, rfl, rfl, (show (0 : Int) < 2147483647 by decide), ?_⟩⟩
      generalize hy : ((sv * 7919 + 104729 * t + r * 31) * 48271 + 11) % 2147483647 = y1
      have y1a : 0 ≤ y1 := by rw [← hy]; exact Int.emod_nonneg _ (by decide)
      have y1b : y1 < 2147483647 := by rw [← hy]; exact Int.emod_lt_of_pos _ (by decide)
      refine ⟨_, rfl, _, rfl, _, _, rfl, rfl, wide_div (b := 30) (by decide) (by decide) (by decide) (by decide), _, _, rfl, rfl, _, _, rfl, rfl, .inl ⟨by omega, by omega⟩, .inl ⟨_, rfl, _, _, rfl, rfl, (show (0 : Int) < 2147483629 by decide), ?_⟩⟩
      generalize hy2 : (y1 * (y1 / 1009 + 69621)) % 2147483629 = y2
      have y2a : 0 ≤ y2 := by rw [← hy2]; exact Int.emod_nonneg _ (by decide)
      have y2b : y2 < 2147483629 := by rw [← hy2]; exact Int.emod_lt_of_pos _ (by decide)
      refine ⟨_, rfl, _, rfl, _, _, rfl, rfl, wide_div (b := 30) (by decide) (by decide) (by decide) (by decide), _, _, rfl, rfl, _, _, rfl, rfl, .inl ⟨by omega, by omega⟩, _, rfl, _, _, rfl, rfl, .inl ⟨_, rfl, _, _, rfl, rfl, (show (0 : Int) < 2147483399 by decide), ?_⟩⟩
      refine ⟨_, rfl, _, _, rfl, rfl, wide_div (b := 30) (by decide) (by decide) (by decide) (by decide), .inl ⟨_, rfl, _, rfl, _, _, rfl, rfl, hm, ?_⟩⟩
      exact k _ _ ⟨⟨G, S, t + 1, r, h1', h2', h3', hS⟩, npg, nps, ngs⟩ kp (Int.emod_nonneg _ (by omega)) (Int.emod_lt_of_pos _ hm)
end Kk

set_option maxHeartbeats 2000000
namespace Kk
open PySem PySem.Spec PyProof.Rows L2
theorem cut63 {ns : List Int} (h : ns.length ≤ 63) : cutV (ns.map V.int) none (some 63) = ns.map V.int := by
  have e : HT.sIx (ns.map V.int).length (ns.map V.int).length (some 63) = min 63 (ns.map V.int).length := HT.sIx_nat _ _ 63
  unfold cutV
  rw [e]
  show ((ns.map V.int).drop 0).take _ = _
  rw [List.drop_zero]
  exact List.take_of_length_le (by rw [List.length_map]; show _ ≤ min 63 ns.length - 0; omega)
theorem map_get {α : Type} {f : α → V} {l : List α} {i : Nat} {x : V} (h : (l.map f)[i]? = some x) : ∃ y, l[i]? = some y ∧ x = f y := by
  rw [List.getElem?_map] at h
  cases e : l[i]? with
  | none => rw [e] at h; cases h
  | some y => rw [e] at h; exact ⟨y, rfl, (Option.some.inj h).symm⟩
theorem small_lt {n m : Nat} (h : n ≤ m) (hm : m < 16777216) : n < sizeLine := by rw [sizeLine_eq]; omega
theorem upd_over {H H' : Hp} {D : Addr} {o u : HO} (e : H' = upd H D o) : upd H' D u = upd H D u := by rw [e]; exact upd_upd
abbrev s_pot : Stmt := (top 35)
theorem sc_pot : FnScope ["_law_script", "_law_cells", "_law_item", "_law_greats", "_law_smalls"] ["_law_script"] (defScope s_pot) := ⟨rfl, rfl, rfl, by decide +kernel, rfl, by decide +kernel, by decide +kernel⟩
theorem c_pot {P w K mg base} (B : Bt mg) (D : DefAt K mg "_law_pot" s_pot) : Cal P w K mg base "_law_pot" 1 ["_law_script"] (spPot K) := by
  refine cal_of D sc_pot (fun _ _ _ _ _ _ us hl => match us, hl with | [_], _ => rfl) (fun vs H Q E h => ?_) (fun f cdv A outer st0 H vs Q E hr h => ?_)
  · obtain ⟨a, ns, rfl, _⟩ := h
    rfl
  · obtain ⟨a, ns, rfl, hS, hlen, k⟩ := h
    refine ⟨_, (pss_cons (ps_setLc (i := 1) (own := [("_law_item", 2)]) (g := (gName 2)) (tt := tYes) rfl sc_pot.nd rfl rfl (sw_true rfl rfl rfl (by decide +kernel)) (pi_list (pe_slice sl_list (pv 0) po_none (po_some pe_int))) (blkOk_by (own := [("_law_item", 2)]) (N := ["_law_script", "_law_cells", "_law_item", "_law_greats", "_law_smalls"]) (sc := defScope s_pot) (by decide +kernel)) (fun _ _ _ _ _ => (pg_name (i := 2) sc_pot.nd rfl (by first | exact Or.inl rfl | exact Or.inr rfl))) (fun _ _ _ _ _ => pts_nil) (fun _ _ _ _ _ => (pe_callTy call_int1 (by rfl) B.b_int (by decide +kernel) (pa_cons (pv 2) pa_nil))))
      (pss_cons (ps_setLc (i := 3) (own := [("_law_item", 2)]) (g := (gName 2)) rfl sc_pot.nd rfl rfl (sw_true rfl rfl rfl (by decide +kernel)) (pi_list (pv 1)) (blkOk_by (own := [("_law_item", 2)]) (N := ["_law_script", "_law_cells", "_law_item", "_law_greats", "_law_smalls"]) (sc := defScope s_pot) (by decide +kernel)) (fun _ _ _ _ _ => (pg_name (i := 2) sc_pot.nd rfl (by first | exact Or.inl rfl | exact Or.inr rfl))) (fun _ _ _ _ _ => (pts_one (pt_cmpR op_ge (pe_callB call_abs (by rfl) B.b_abs (by decide +kernel) (pa_cons (pv 2) pa_nil)) (pe_op op_pow pe_int pe_int) (nomark _)))) (fun _ _ _ _ _ => (pe_callB call_abs (by rfl) B.b_abs (by decide +kernel) (pa_cons (pv 2) pa_nil))))
      (pss_cons (ps_set (i := 4) sc_pot.nd rfl (by first | exact Or.inl rfl | exact Or.inr rfl) (pe_op op_cat (pe_lc (own := [("_law_item", 2)]) (g := (gName 2)) rfl sc_pot.nd (pi_list (pv 1)) (blkOk_by (own := [("_law_item", 2)]) (N := ["_law_script", "_law_cells", "_law_item", "_law_greats", "_law_smalls"]) (sc := defScope s_pot) (by decide +kernel)) (fun _ _ _ _ _ => (pg_name (i := 2) sc_pot.nd rfl (by first | exact Or.inl rfl | exact Or.inr rfl))) (fun _ _ _ _ _ => (pts_one (pt_cmpR op_lt (pe_callB call_abs (by rfl) B.b_abs (by decide +kernel) (pa_cons (pv 2) pa_nil)) (pe_op op_pow pe_int pe_int) (nomark _)))) (fun _ _ _ _ _ => (pe_op op_mod (pe_callTy call_int1 (by rfl) B.b_int (by decide +kernel) (pa_cons (pv 2) pa_nil)) pe_int))) (pe_lst (pa_cons (pe_op op_add (pe_callB call_len_seq (by rfl) B.b_len (by decide +kernel) (pa_cons (pv 1) pa_nil)) pe_int) pa_nil))))
      (pss_one (ps_ret (pe_lst (pa_cons (pv 3) (pa_cons (pv 4) (pa_cons pe_int (pa_cons (pe_op op_mod (pe_callTy call_int1 (by rfl) B.b_int (by decide +kernel) (pa_cons (pe_callB (cr_sum rfl) (by rfl) B.b_sum (by decide +kernel) (pa_cons (pv 4) pa_nil)) pa_nil)) pe_int) pa_nil)))))))))), ?_⟩
    refine ⟨_, rfl, _, rfl, a, _, rfl, hS, fun p0 n0 => ?_⟩
    rw [cut63 hlen]
    have S0 : Same H (upd H p0 (.lst (ns.map V.int))) := same_upd n0
    have L0 : upd H p0 (.lst (ns.map V.int)) p0 = some (.lst (ns.map V.int)) := upd_same
    generalize upd H p0 (.lst (ns.map V.int)) = H0 at *
    refine ⟨p0, rfl, ⟨_, SqL.of L0⟩, fun D1 nD1 => lc_list (K := K) (a := p0) (xs := ns.map V.int) (fun i H' => ∃ acc : List Int, acc.length ≤ i ∧ H' = upd H0 D1 (.lst (acc.map V.int)))
      ⟨[], Nat.le_refl _, rfl⟩ (fun i H' _ ⟨_, _, e⟩ => SqL.of (by rw [e, upd_ne (ne_of_none L0 nD1)]; exact L0)) ?_ ?_⟩
    · rintro i y H' hi ⟨acc, hl, e⟩
      obtain ⟨z, hz, rfl⟩ := map_get hi
      have hi' := (List.getElem?_eq_some_iff.mp hz).1
      refine ⟨rfl, _, rfl, .inl ⟨_, rfl, ?_⟩⟩
      refine ⟨acc.map V.int, by rw [e, upd_same], by rw [List.length_map]; exact small_lt (Nat.le_trans hl (Nat.le_of_lt (Nat.lt_of_lt_of_le hi' hlen))) (by decide), acc ++ [z], by simp; omega, ?_⟩
      rw [upd_over e, List.map_append]
      rfl
    · rintro H' ⟨cs, hcl, e⟩
      rw [List.length_map] at hcl
      have S1 : Same H H' := S0.trans (by rw [e]; exact same_upd nD1)
      have L1 : H' D1 = some (.lst (cs.map V.int)) := by rw [e, upd_same]
      clear e
      refine ⟨_, rfl, D1, rfl, ⟨_, SqL.of L1⟩, fun D2 nD2 => lc_list (K := K) (a := D1) (xs := cs.map V.int) (fun i H2 => ∃ acc : List Int, acc.length ≤ i ∧ H2 = upd H' D2 (.lst (acc.map V.int)))
        ⟨[], Nat.le_refl _, rfl⟩ (fun i H2 _ ⟨_, _, e⟩ => SqL.of (by rw [e, upd_ne (ne_of_none L1 nD2)]; exact L1)) ?_ ?_⟩
      · rintro i y H2 hi ⟨acc, hl, e⟩
        obtain ⟨z, hz, rfl⟩ := map_get hi
        have hi' := (List.getElem?_eq_some_iff.mp hz).1
        refine ⟨rfl, ?_⟩
        refine ⟨_, rfl, _, rfl, _, _, rfl, rfl, ⟨by decide, by decide, by decide⟩, _, _, rfl, rfl, _, rfl, ?_⟩
        refine ite2 (fun _ => ?_) (fun _ => ?_)
        · refine ⟨_, rfl, _, rfl, ?_⟩
          refine ⟨acc.map V.int, by rw [e, upd_same], by rw [List.length_map]; exact small_lt (m := 63) (by omega) (by decide), acc ++ [if z < 0 then -z else z], by simp; omega, ?_⟩
          rw [upd_over e, List.map_append]
          rfl
        · exact ⟨acc, by omega, e⟩
      · rintro H2 ⟨gs, hgl, e⟩
        have S2 : Same H H2 := S1.trans (by rw [e]; exact same_upd nD2)
        have L12 : H2 D1 = some (.lst (cs.map V.int)) := by rw [e, upd_ne (ne_of_none L1 nD2)]; exact L1
        have L2' : H2 D2 = some (.lst (gs.map V.int)) := by rw [e, upd_same]
        have fD2 : H D2 = none := S1.free nD2
        clear e
        refine ⟨_, rfl, D1, rfl, ⟨_, SqL.of L12⟩, fun D3 nD3 => lc_list (K := K) (a := D1) (xs := cs.map V.int) (fun i H3 => ∃ acc : List Int, acc.length ≤ i ∧ H3 = upd H2 D3 (.lst (acc.map V.int)))
          ⟨[], Nat.le_refl _, rfl⟩ (fun i H3 _ ⟨_, _, e⟩ => SqL.of (by rw [e, upd_ne (ne_of_none L12 nD3)]; exact L12)) ?_ ?_⟩
        · rintro i y H3 hi ⟨acc, hl, e⟩
          obtain ⟨z, hz, rfl⟩ := map_get hi
          have hi' := (List.getElem?_eq_some_iff.mp hz).1
          refine ⟨rfl, ?_⟩
          refine ⟨_, rfl, _, rfl, _, _, rfl, rfl, ⟨by decide, by decide, by decide⟩, _, _, rfl, rfl, _, rfl, ?_⟩
          refine ite2 (fun _ => ?_) (fun _ => ?_)
          · refine ⟨_, rfl, .inl ⟨_, rfl, _, _, rfl, rfl, (show (0 : Int) < 1000000007 by decide), ?_⟩⟩
            refine ⟨acc.map V.int, by rw [e, upd_same], by rw [List.length_map]; exact small_lt (m := 63) (by omega) (by decide), acc ++ [z % 1000000007], by simp; omega, ?_⟩
            rw [upd_over e, List.map_append]
            rfl
          · exact ⟨acc, by omega, e⟩
        · rintro H3 ⟨ss, hsl, e⟩
          rw [List.length_map] at hsl
          have S3 : Same H2 H3 := by rw [e]; exact same_upd nD3
          have L3 : H3 D3 = some (.lst (ss.map V.int)) := by rw [e, upd_same]
          clear e
          -- + [len(cells) + 1]
          refine ⟨_, rfl, _, _, rfl, .inl (SqL.of (S3 _ _ L12)), _, _, rfl, rfl, (by show 1 ≤ sizeLine; decide), fun p4 n4 => ?_⟩
          have S4 : Same H3 (upd H3 p4 (.lst [V.int (((cs.map V.int).length : Nat) + 1)])) := same_upd n4
          have L4 : upd H3 p4 (.lst [V.int (((cs.map V.int).length : Nat) + 1)]) p4 = some (.lst [V.int (((cs.map V.int).length : Nat) + 1)]) := upd_same
          refine ⟨D3, p4, _, _, rfl, rfl, S4 _ _ L3, L4, by rw [List.length_map, sizeLine_eq]; simp; omega, fun p5 n5 => ?_⟩
          generalize upd H3 p4 (.lst [V.int (((cs.map V.int).length : Nat) + 1)]) = H4 at *
          have S5 : Same H4 (upd H4 p5 (.lst ((ss ++ [((cs.map V.int).length : Int) + 1]).map V.int))) := same_upd n5
          have L5 : upd H4 p5 (.lst ((ss ++ [((cs.map V.int).length : Int) + 1]).map V.int)) p5 = some (.lst ((ss ++ [((cs.map V.int).length : Int) + 1]).map V.int)) := upd_same
          have e5 : (ss.map V.int ++ [V.int (((cs.map V.int).length : Nat) + 1)]) = (ss ++ [((cs.map V.int).length : Int) + 1]).map V.int := by rw [List.map_append]; rfl
          rw [e5]
          generalize hss : ss ++ [((cs.map V.int).length : Int) + 1] = s5 at *
          have hs5 : 0 < s5.length := by rw [← hss]; simp
          generalize upd H4 p5 (.lst (s5.map V.int)) = H5 at *
          -- return [greats, smalls, 0, int(sum(smalls)) % 999983]
          refine ⟨_, rfl, _, rfl, _, rfl, _, s5, rfl, SqL.of L5, .inl ⟨_, rfl, _, _, rfl, rfl, (show (0 : Int) < 999983 by decide), (by show 4 ≤ sizeLine; decide), fun p6 n6 => ?_⟩⟩
          have S6 : Same H5 (upd H5 p6 (.lst [.ref D2, .ref p5, .int 0, .int (s5.sum % 999983)])) := same_upd n6
          have S25 : Same H2 H5 := (S3.trans S4).trans S5
          have L25 := S25 _ _ L2'
          have f5 : H p5 = none := ((S2.trans S3).trans S4).free n5
          have f6 : H p6 = none := (S2.trans S25).free n6
          refine k _ p6 D2 p5 ⟨⟨gs, s5, 0, s5.sum % 999983, upd_same, S6 _ _ L25, S6 _ _ L5, hs5⟩, ?_, ?_, ?_⟩ ((S2.trans S25).trans S6) f6 fD2 f5
          · exact (ne_of_none L25 n6).symm
          · exact (ne_of_none L5 n6).symm
          · exact ne_of_none ((S3.trans S4) _ _ L2') n5
end Kk

set_option maxHeartbeats 2000000
namespace Kk
open PySem PySem.Spec PyProof.Rows L2 Wd
abbrev sv (n : Nm) : V := .str (str n)
abbrev wv (w : W) : V := .str (enc w)
theorem str_cons (c : Nat) (n : Nm) : (⟨#[c]⟩ : Str) ++ str n = str (c :: n) := TL.ext_tl (by rw [TL.tl_append]; rfl)
theorem len_str (n : Nm) : (str n).length = n.length := by rw [TL.len_tl]; rfl
theorem flat_sv (us : List Nm) : (us.map sv).all flatV = true := by
  rw [List.all_eq_true]
  intro x hx
  obtain ⟨n, _, rfl⟩ := List.mem_map.mp hx
  rfl
theorem eq_sv (a b : Nm) : eqV (sv a) (sv b) = decide (a = b) := by
  show (str a == str b) = _
  by_cases h : a = b
  · subst h; simp
  · have h' : ¬ str a = str b := fun e => h (str_inj e)
    rw [decide_eq_false h]; exact beq_eq_false_iff_ne.mpr h'
theorem in_sv (n : Nm) (us : List Nm) : inV (sv n) (us.map sv) = decide (n ∈ us) := by
  unfold inV
  induction us with
  | nil => simp
  | cons a us ih =>
    rw [List.map_cons, List.any_cons, ih, eq_sv]
    by_cases h : a = n
    · subst h; simp
    · by_cases g : n ∈ us
      · simp [h, g]
      · simp [h, g, Ne.symm h]
def spLetters : Sp := fun vs H Q _ => ∃ n : Nat, vs = [.int (n : Int)] ∧ n + 1 ≤ 217180147158 ∧ Q (sv (lett n)) H
abbrev s_letters : Stmt := (top 37)
theorem sc_letters : FnScope ["_law_number", "_law_found", "_law_left", "_law_turn"] ["_law_number"] (defScope s_letters) := ⟨rfl, rfl, rfl, by decide +kernel, rfl, by decide +kernel, by decide +kernel⟩
theorem c_letters {P w K mg base} (B : Bt mg) (D : DefAt K mg "_law_letters" s_letters) : Cal P w K mg base "_law_letters" 1 ["_law_number"] spLetters := by
  refine cal_of D sc_letters (fun _ _ _ _ _ _ us hl => match us, hl with | [_], _ => rfl) (fun vs H Q E h => ?_) (fun f cdv A outer st0 H vs Q E hr h => ?_)
  · obtain ⟨n, rfl, _⟩ := h
    rfl
  · obtain ⟨n, rfl, hn, k⟩ := h
    refine ⟨_, (pss_cons (ps_set (i := 1) sc_letters.nd rfl (by first | exact Or.inl rfl | exact Or.inr rfl) pe_str)
      (pss_cons (ps_set (i := 2) sc_letters.nd rfl (by first | exact Or.inl rfl | exact Or.inr rfl) (pe_op op_add (pv 0) pe_int))
      (pss_cons (ps_for PassesOwn.never rfl (pi_range1 (by rfl) B.b_range (pa_cons pe_int pa_nil)) (pg_name (i := 3) sc_letters.nd rfl (by first | exact Or.inl rfl | exact Or.inr rfl)) (pss_one (ps_if (pt_cmpR op_gt (pv 2) pe_int (nomark _)) (pss_cons (ps_set (i := 2) sc_letters.nd rfl (by first | exact Or.inl rfl | exact Or.inr rfl) (pe_op op_sub (pv 2) pe_int))
      (pss_cons (ps_set (i := 1) sc_letters.nd rfl (by first | exact Or.inl rfl | exact Or.inr rfl) (pe_op op_add_str (pe_ix ix_str pe_str (pe_op op_mod (pe_callTy call_int1 (by rfl) B.b_int (by decide +kernel) (pa_cons (pv 2) pa_nil)) pe_int) (fun _ _ => rfl)) (pv 1)))
      (pss_one (ps_set (i := 2) sc_letters.nd rfl (by first | exact Or.inl rfl | exact Or.inr rfl) (pe_op op_fdiv (pv 2) pe_int))))) pss_nil)))
      (pss_one (ps_ret (pv 1)))))), ?_⟩
    refine ⟨_, rfl, _, _, rfl, rfl, 9, rfl, by decide, by decide, for_range (n := 9) (fun i σ H' => H' = H ∧ ∃ v : Option V, σ = [some (.int (n : Int)), some (sv (itr i (n + 1, [])).2), some (.int (((itr i (n + 1, [])).1 : Nat) : Int)), v])
      ⟨rfl, none, rfl⟩ ?_ ?_⟩
    · rintro i σ H' hi ⟨rfl, v, rfl⟩
      have L := LI.itr (n + 1) i
      have e : itr (i + 1) (n + 1, []) = stp (itr i (n + 1, [])) := rfl
      rw [e]
      generalize itr i (n + 1, []) = s at *
      refine ⟨_, rfl, _, _, rfl, rfl, _, rfl, ?_⟩
      refine ite2 (fun hc => ?_) (fun hc => ?_)
      · have hp : 0 < s.1 := by have := of_decide_eq_true hc; omega
        have e1 : stp s = ((s.1 - 1) / 26, (97 + (s.1 - 1) % 26) :: s.2) := if_pos hp
        have r1 : (s.1 - 1) % 26 < 26 := Nat.mod_lt _ (by decide)
        refine ⟨_, rfl, _, _, rfl, rfl, _, rfl, .inl ⟨_, rfl, _, _, rfl, rfl, (show (0 : Int) < 26 by decide), _, _, 97 + (s.1 - 1) % 26, rfl, rfl, ?_, ?_, ?_⟩⟩
        · rw [sizeLine_eq]; decide +kernel
        · refine atI_int (Int.emod_nonneg _ (by decide)) ?_
          have e2 : (((s.1 : Nat) : Int) - 1) % 26 = (((s.1 - 1) % 26 : Nat) : Int) := by omega
          rw [e2]
          exact alpha _ r1
        · refine ⟨_, rfl, _, _, rfl, rfl, ?_, ?_⟩
          · rw [len_str, sizeLine_eq]
            have := L.l
            show 1 + _ ≤ _
            omega
          · rw [str_cons]
            refine ⟨_, rfl, _, _, rfl, rfl, ⟨by decide, by decide⟩, rfl, some (.int ((0 : Int) + (i : Int))), ?_⟩
            rw [e1]
            have e3 : (((s.1 : Nat) : Int) - 1) / 26 = (((s.1 - 1) / 26 : Nat) : Int) := by omega
            show [some (V.int (n : Int)), some (sv _), some (V.int ((((s.1 : Nat) : Int) - 1) / 26)), some (V.int (0 + (i : Int)))] = _
            rw [e3]
      · have hz : ¬ 0 < s.1 := fun hp => hc (decide_eq_true (by omega))
        have e1 : stp s = s := if_neg hz
        exact ⟨rfl, some (.int ((0 : Int) + (i : Int))), by rw [e1]; rfl⟩
    · rintro σ H' ⟨rfl, v, rfl⟩
      exact ⟨_, rfl, k⟩
def spFresh : Sp := fun vs H Q _ => ∃ (p g s u : Addr) (us : List Nm), vs = [.ref p, .ref u] ∧ PotAt H p g s ∧ H u = some (.lst (us.map sv)) ∧ us.length ≤ 1100 ∧ u ≠ p ∧ u ≠ g ∧
  ∀ (H' : Hp) (n : Nm), nmOk n → n ∉ us → PotAt H' p g s → H' u = some (.lst ((us ++ [n]).map sv)) → (∀ b o, H b = some o → b ≠ p → b ≠ g → b ≠ u → H' b = some o) → Q (sv n) H'
abbrev s_fresh : Stmt := (top 38)
theorem sc_fresh : FnScope ["_law_pot_here", "_law_used", "_law_start", "_law_name", "_law_turn"] ["_law_pot_here", "_law_used"] (defScope s_fresh) := ⟨rfl, rfl, rfl, by decide +kernel, rfl, by decide +kernel, by decide +kernel⟩
theorem PotAt.su {H : Hp} {p g s u : Addr} (h : PotAt H p g s) {us : List Nm} (hu : H u = some (.lst (us.map sv))) : u ≠ s := by
  obtain ⟨⟨G, S, t, r, h1, h2, h3, h4⟩, _, _, _⟩ := h
  intro e
  rw [e, h3] at hu
  have := HO.lst.inj (Option.some.inj hu)
  cases S with
  | nil => simp at h4
  | cons a S => cases us <;> simp at this
theorem PotAt.wr {H : Hp} {p g s u : Addr} {o : HO} (h : PotAt H p g s) (h1 : u ≠ p) (h2 : u ≠ g) (h3 : u ≠ s) : PotAt (upd H u o) p g s :=
  h.off fun b x e hb => by
    rcases hb with rfl | rfl | rfl
    · rw [upd_ne h1.symm]; exact e
    · rw [upd_ne h2.symm]; exact e
    · rw [upd_ne h3.symm]; exact e
theorem c_fresh {P w K mg base} (B : Bt mg) (D : DefAt K mg "_law_fresh" s_fresh) (C_law_draw : Cal P w K mg base "_law_draw" 1 ["_law_pot_here", "_law_many"] spDraw) (C_law_letters : Cal P w K mg base "_law_letters" 1 ["_law_number"] spLetters) :
    Cal P w K mg base "_law_fresh" 2 ["_law_pot_here", "_law_used"] spFresh := by
  refine cal_of D sc_fresh (fun _ _ _ _ _ _ us hl => match us, hl with | [_, _], _ => rfl) (fun vs H Q E h => ?_) (fun f cdv A outer st0 H vs Q E hr h => ?_)
  · obtain ⟨p, g, s, u, us, rfl, _⟩ := h
    rfl
  · obtain ⟨p, g, s, u, us, rfl, PA, hu, hlen, hup, hug, k⟩ := h
    refine ⟨_, (pss_cons (ps_set (i := 2) sc_fresh.nd rfl (by first | exact Or.inl rfl | exact Or.inr rfl) (pe_c C_law_draw (hr.mono (by decide)) (pa_cons (pv 0) (pa_cons pe_int pa_nil))))
      (pss_cons (ps_if (pt_cmpR op_eq (pe_c C_law_draw (hr.mono (by decide)) (pa_cons (pv 0) (pa_cons pe_int pa_nil))) pe_int (nomark _)) (pss_one (ps_set (i := 2) sc_fresh.nd rfl (by first | exact Or.inl rfl | exact Or.inr rfl) (pe_c C_law_draw (hr.mono (by decide)) (pa_cons (pv 0) (pa_cons pe_int pa_nil))))) pss_nil)
      (pss_cons (ps_set (i := 3) sc_fresh.nd rfl (by first | exact Or.inl rfl | exact Or.inr rfl) pe_str)
      (pss_cons (ps_for PassesOwn.never rfl (pi_range1 (by rfl) B.b_range (pa_cons (pe_op op_add (pe_callB call_len_seq (by rfl) B.b_len (by decide +kernel) (pa_cons (pv 1) pa_nil)) pe_int) pa_nil)) (pg_name (i := 4) sc_fresh.nd rfl (by first | exact Or.inl rfl | exact Or.inr rfl)) (pss_cons (ps_set (i := 3) sc_fresh.nd rfl (by first | exact Or.inl rfl | exact Or.inr rfl) (pe_c C_law_letters (hr.mono (by decide)) (pa_cons (pe_op op_add (pv 2) (pv 4)) pa_nil)))
      (pss_one (ps_if (pt_cmpR op_notIn_seq (pv 3) (pv 1) (by rfl)) (pss_one ps_break) pss_nil))))
      (pss_cons (ps_expr (pe_bm PySem.F.plainAttrs_list PySem.F.slot_list_append PySem.F.type_list_append mt_append (pv 1) (pa_cons (pv 3) pa_nil)))
      (pss_one (ps_ret (pv 3)))))))), ?_⟩
    refine ⟨_, rfl, p, g, s, 30, rfl, PA, by decide, by decide, fun H1 z PA1 K1 z0 z1 => ?_⟩
    refine ⟨_, rfl, p, g, s, 2, rfl, PA1, by decide, by decide, fun H2 y PA2 K2 y0 y1 => ?_⟩
    refine ⟨rfl, _, rfl, ?_⟩
    refine ite2 (fun _ => ?ga) (fun _ => ?gb)
    case' ga =>
      refine ⟨_, rfl, p, g, s, 217180140000, rfl, PA2, by decide, by decide, fun H3 x PA3 K3 x0 x1 => ?_⟩
      have K03 : Keep p g H H3 := (K1.trans K2).trans K3
    case' gb =>
      have PA3 := PA2
      have K03 : Keep p g H H2 := K1.trans K2
      have x0 := z0
      have x1 : z < 217180140000 := by omega
      generalize H2 = H3 at *
      generalize z = x at *
    all_goals
      have hu3 := K03 _ _ hu hup hug
      obtain ⟨m, rfl⟩ : ∃ m : Nat, x = (m : Int) := ⟨x.toNat, by omega⟩
      have en : ((((us.map sv).length : Nat) : Int) + 1).toNat = us.length + 1 := by rw [List.length_map]; omega
      refine ⟨_, rfl, _, _, rfl, .inl (SqL.of hu3), _, _, rfl, rfl, _, rfl, ?_, ?_, for_range (lo := 0) (n := ((((us.map sv).length : Nat) : Int) + 1).toNat) (fun i σ H' => H' = H3 ∧ (∀ j, j < i → lett (m + j) ∈ us) ∧ ∃ (z : Str) (v : Option V), σ = [some (.ref p), some (.ref u), some (.int (m : Int)), some (.str z), v])
        ⟨rfl, fun j hj => absurd hj (Nat.not_lt_zero j), _, none, rfl⟩ ?_ ?_⟩
      · rw [List.length_map]; omega
      · rw [List.length_map]; omega
      · rintro i σ H' hi ⟨rfl, hin, zz, v, rfl⟩
        rw [en] at hi
        refine ⟨_, rfl, _, rfl, _, _, rfl, rfl, m + i, ?_, by omega, ?_⟩
        · show [V.int ((m : Int) + (0 + (i : Int)))] ++ [] = _
          have e : (m : Int) + (0 + (i : Int)) = ((m + i : Nat) : Int) := by omega
          rw [e]; rfl
        · refine ⟨_, rfl, _, rfl, u, _, rfl, .inl (SqL.of hu3), rfl, flat_sv us, ?_⟩
          rw [in_sv]
          refine ⟨_, rfl, ?_⟩
          by_cases hm : lett (m + i) ∈ us
          · rw [decide_eq_true hm]
            refine iteF ?_
            refine ⟨rfl, fun j hj => ?_, _, _, rfl⟩
            by_cases hj' : j = i
            · rw [hj']; exact hm
            · exact hin j (by omega)
          · rw [decide_eq_false hm]
            refine iteT ?_
            -- used.append(name); return name
            have hus := PA3.su hu3
            refine ⟨_, rfl, .inl ⟨rfl, _, SqL.of hu3⟩, _, rfl, u, _, _, rfl, rfl, hu3, ?_, ?_⟩
            · rw [List.length_map]; exact small_lt hlen (by decide)
            · refine ⟨_, rfl, ?_⟩
              refine k _ _ (lett_ok (by omega)) hm (PA3.wr hup hug hus) ?_ ?_
              · rw [upd_same, List.map_append]; rfl
              · intro b o hb b1 b2 b3
                rw [upd_ne b3]
                exact K03 b o hb b1 b2
      · rintro σ H' ⟨rfl, hin, _⟩
        rw [en] at hin
        refine (pigeon (l := us) (f := fun j => lett (m + j)) (fun i j hi hj e => ?_) (fun i hi => hin i (by omega))).elim
        have := lett_inj (n := m + i) (m := m + j) (by omega) (by omega) e
        omega
end Kk

set_option maxHeartbeats 2000000
namespace Kk
open PySem PySem.Spec PyProof.Rows L2 Wd
def spMixed : Sp := fun vs H Q _ => ∃ (p g s r : Addr) (xs : List V), vs = [.ref p, .ref r] ∧ PotAt H p g s ∧ H r = some (.lst xs) ∧ xs.length ≤ 2000 ∧ r ≠ p ∧ r ≠ g ∧
  ∀ (H' : Hp) (q : Addr) (ys : List V), ys.Perm xs → PotAt H' p g s → H q = none → H' q = some (.lst ys) → Keep p g H H' → Q (.ref q) H'
abbrev s_mixed : Stmt := (top 39)
theorem sc_mixed : FnScope ["_law_pot_here", "_law_items", "_law_line", "_law_at", "_law_other"] ["_law_pot_here", "_law_items"] (defScope s_mixed) := ⟨rfl, rfl, rfl, by decide +kernel, rfl, by decide +kernel, by decide +kernel⟩
theorem c_mixed {P w K mg base} (B : Bt mg) (D : DefAt K mg "_law_mixed" s_mixed) (C_law_draw : Cal P w K mg base "_law_draw" 1 ["_law_pot_here", "_law_many"] spDraw) :
    Cal P w K mg base "_law_mixed" 2 ["_law_pot_here", "_law_items"] spMixed := by
  refine cal_of D sc_mixed (fun _ _ _ _ _ _ us hl => match us, hl with | [_, _], _ => rfl) (fun vs H Q E h => ?_) (fun f cdv A outer st0 H vs Q E hr h => ?_)
  · obtain ⟨p, g, s, r, xs, rfl, _⟩ := h
    rfl
  · obtain ⟨p, g, s, r, xs, rfl, PA, hx, hlen, hrp, hrg, k⟩ := h
    refine ⟨_, (pss_cons (ps_set (i := 2) sc_mixed.nd rfl (by first | exact Or.inl rfl | exact Or.inr rfl) (pe_callTy call_list_of (by rfl) B.b_list (by decide +kernel) (pa_cons (pv 1) pa_nil)))
      (pss_cons (ps_for PassesOwn.never rfl (pi_range1 (by rfl) B.b_range (pa_cons (pe_callB call_len_seq (by rfl) B.b_len (by decide +kernel) (pa_cons (pv 2) pa_nil)) pa_nil)) (pg_name (i := 3) sc_mixed.nd rfl (by first | exact Or.inl rfl | exact Or.inr rfl)) (pss_cons (ps_set (i := 4) sc_mixed.nd rfl (by first | exact Or.inl rfl | exact Or.inr rfl) (pe_c C_law_draw (hr.mono (by decide)) (pa_cons (pv 0) (pa_cons (pe_callB call_len_seq (by rfl) B.b_len (by decide +kernel) (pa_cons (pv 2) pa_nil)) pa_nil))))
      (pss_one (ps_asg (pe_tup (pa_cons (pe_ix ix_list (pv 2) (pv 4) (fun _ _ => rfl)) (pa_cons (pe_ix ix_list (pv 2) (pv 3) (fun _ _ => rfl)) pa_nil))) (pg_tup (by rfl) (pgs_cons (pg_sub (pv 2) (pv 3) set_list) (pgs_cons (pg_sub (pv 2) (pv 4) set_list) pgs_nil)))))))
      (pss_one (ps_ret (pv 2))))), ?_⟩
    refine ⟨_, rfl, _, _, rfl, .inl (SqL.of hx), fun l nl => ?_⟩
    have S1 : Same H (upd H l (.lst xs)) := same_upd nl
    have L1 : upd H l (.lst xs) l = some (.lst xs) := upd_same
    have PA1 := PA.keep S1
    generalize upd H l (.lst xs) = H1 at *
    obtain ⟨⟨G, S, t, rr, z1, z2, z3, z4⟩, _, _, _⟩ := id PA
    have hlp : l ≠ p := (ne_of_none z1 nl).symm
    have hlg : l ≠ g := (ne_of_none z2 nl).symm
    have hls : l ≠ s := (ne_of_none z3 nl).symm
    have en : ((xs.length : Nat) : Int).toNat = xs.length := by omega
    refine ⟨_, rfl, _, _, rfl, .inl (SqL.of L1), _, rfl, ?_, ?_, for_range (lo := 0) (n := ((xs.length : Nat) : Int).toNat) (fun i σ H' => ∃ (ys : List V) (v1 v2 : Option V), σ = [some (.ref p), some (.ref r), some (.ref l), v1, v2] ∧ ys.Perm xs ∧ PotAt H' p g s ∧ H' l = some (.lst ys) ∧ Keep p g H H')
      ⟨xs, none, none, rfl, List.Perm.refl _, PA1, L1, Same.keep S1⟩ ?_ ?_⟩
    · omega
    · omega
    · rintro i σ H' hi ⟨ys, v1, v2, rfl, hp, PA2, L2', K2⟩
      rw [en] at hi
      have hyl := hp.length_eq
      have hlm : (ys.length : Int) = (xs.length : Int) := by rw [hyl]
      refine ⟨_, rfl, _, rfl, _, _, rfl, .inl (SqL.of L2'), p, g, s, _, rfl, PA2, ?_, ?_, fun H3 j PA3 K3 j0 j1 => ?_⟩
      · rw [hlm]; omega
      · rw [hlm]
        have : (2000 : Nat) < 2 ^ 200 := by decide +kernel
        omega
      · rw [hlm] at j1
        have L3 := K3 _ _ L2' hlp hlg
        have hjl : j.toNat < ys.length := by omega
        have hil : i < ys.length := by omega
        have aj : atI ys j = some ys[j.toNat] := atI_int j0 (List.getElem?_eq_getElem hjl)
        have ai : atI ys ((0 : Int) + (i : Int)) = some ys[i] := at_of (j := i) (by omega) (List.getElem?_eq_getElem hil)
        refine ⟨_, rfl, _, rfl, _, _, _, _, rfl, rfl, SqL.of L3, aj, _, rfl, _, rfl, _, _, _, _, rfl, rfl, SqL.of L3, ai, (by show 2 ≤ sizeLine; decide), fun T nT => ?_⟩
        have K4 : Keep p g H (upd H3 T (.tup [ys[j.toNat], ys[i]])) := K2.trans (K3.trans (Same.keep (same_upd nT)))
        have PA4 : PotAt (upd H3 T (.tup [ys[j.toNat], ys[i]])) p g s := PA3.keep (same_upd nT)
        have L4 : upd H3 T (.tup [ys[j.toNat], ys[i]]) l = some (.lst ys) := same_upd nT _ _ L3
        have T4 : upd H3 T (.tup [ys[j.toNat], ys[i]]) T = some (.tup [ys[j.toNat], ys[i]]) := upd_same
        generalize upd H3 T (.tup [ys[j.toNat], ys[i]]) = H4 at *
        refine ⟨T, _, rfl, SqT.of T4, rfl, _, _, rfl, ?_⟩
        refine ⟨_, rfl, _, rfl, l, _, _, i, rfl, rfl, L4, ?_, ?_⟩
        · have e : (0 : Int) + (i : Int) = (i : Int) := by omega
          rw [e]; exact ixN_lt hil
        · have L5 : upd H4 l (.lst (ys.set i ys[j.toNat])) l = some (.lst (ys.set i ys[j.toNat])) := upd_same
          refine ⟨_, _, rfl, _, rfl, _, rfl, l, _, _, j.toNat, rfl, rfl, L5, ?_, rfl, ?_⟩
          · rw [List.length_set]; exact ixN_int j0 (by omega)
          · refine ⟨(ys.set i ys[j.toNat]).set j.toNat ys[i], _, _, rfl, (swap_perm ys i j.toNat hil hjl).trans hp, (PA4.wr hlp hlg hls).wr hlp hlg hls, ?_, ?_⟩
            · exact upd_same
            · intro b o hb b1 b2
              have hbl : b ≠ l := ne_of_none hb nl
              rw [upd_ne hbl, upd_ne hbl]
              exact K4 b o hb b1 b2
    · rintro σ H' ⟨ys, v1, v2, rfl, hp, PA2, L2', K2⟩
      exact ⟨_, rfl, k _ l ys hp PA2 nl L2' K2⟩
/-- the same of names -/
def spMixedN : Sp := fun vs H Q _ => ∃ (p g s r : Addr) (xs : List Nm), vs = [.ref p, .ref r] ∧ PotAt H p g s ∧ H r = some (.lst (xs.map sv)) ∧ xs.length ≤ 2000 ∧ r ≠ p ∧ r ≠ g ∧
  ∀ (H' : Hp) (q : Addr) (ys : List Nm), ys.Perm xs → PotAt H' p g s → H q = none → H' q = some (.lst (ys.map sv)) → Keep p g H H' → Q (.ref q) H'
def svInv : V → Nm
  | .str z => TL.tl z
  | _ => []
theorem sv_back (xs : List Nm) : (xs.map sv).map svInv = xs := by
  rw [List.map_map]
  exact (List.map_congr_left (fun n _ => rfl)).trans (List.map_id _)
theorem perm_sv {ys : List V} {xs : List Nm} (h : ys.Perm (xs.map sv)) : ∃ ns : List Nm, ys = ns.map sv ∧ ns.Perm xs := by
  refine ⟨ys.map svInv, ?_, by have := h.map svInv; rwa [sv_back] at this⟩
  rw [List.map_map]
  refine ((List.map_congr_left fun y hy => ?_).trans (List.map_id _)).symm
  obtain ⟨n, _, rfl⟩ := List.mem_map.mp (h.mem_iff.mp hy)
  rfl
theorem c_mixed__N {P w K mg base} (C_law_mixed : Cal P w K mg base "_law_mixed" 2 ["_law_pot_here", "_law_items"] spMixed) : Cal P w K mg base "_law_mixed" 2 ["_law_pot_here", "_law_items"] spMixedN := by
  refine C_law_mixed.imp fun vs H Q E h => ?_
  obtain ⟨p, g, s, r, xs, rfl, P1, h1, hl, n1, n2, k⟩ := h
  refine ⟨p, g, s, r, xs.map sv, rfl, P1, h1, by rw [List.length_map]; exact hl, n1, n2, fun H' q ys hp P2 nq hq kp => ?_⟩
  obtain ⟨ns, rfl, hn⟩ := perm_sv hp
  exact k H' q ns hn P2 nq hq kp
end Kk

namespace PySem
open Sem (wp)
open AutoSeq1 (wpAny_loadPart')
set_option maxHeartbeats 1000000 in
theorem kk_meets_enum {v : Value} {o : Obj} {H : Heap → Prop} (B : Begins v o H) :
    Meets (Builtin.«enumerate.__new__» ⟨[.type "enumerate", v], []⟩) (fun _ R s => H s.heap ∧
      R (.ok (.ret (.ref (s.heap.push o).objs.size))) { s with heap := (s.heap.push o).push { cls := .type "enumerate", data := .fields #[.none, .bool false, .ref s.heap.objs.size, rawInt 0, .none, .none] } }) :=
  .of_wp fun prog w A R s h => by
    obtain ⟨hp, g, d, tk, os⟩ := s; obtain ⟨h1, h⟩ := h
    have hsub := sub_enumerate
    have q1 : ∀ {A' : Around} {E : Value → Shared → Prop} {Q : Value → Shared → Prop}, Q (.ref hp.objs.size) ⟨hp.push o, g, d, tk, os⟩ → wpAny (model prog w) A' (pyIter v) Q E ⟨hp, g, d, tk, os⟩ :=
      fun q => B.iter prog w _ _ ⟨hp, g, d, tk, os⟩ _ h1 q
    wp_walk using q1
    refine wpAny_stack_any fun st => wpAny_pure ?_
    split
    · rename_i c _ _ _ _ _
      cases (c == Value.type "enumerate")
      · wp_walk using q1
        exact ⟨_, rfl, h⟩
      · wp_walk using q1
        exact ⟨_, rfl, h⟩
    · wp_walk using q1
      exact ⟨_, rfl, h⟩
section
variable {prog : Program} {w : World} {A : Around} {E : Value → Shared → Prop} {s : Shared}
theorem kk_call_enum {v : Value} {o : Obj} {H : Heap → Prop} {Q : Value → Shared → Prop} (B : Begins v o H) (h1 : H s.heap)
    (h : ∀ h', IsEnum h' (s.heap.objs.size + 1) s.heap.objs.size 0 .none → h'.get? s.heap.objs.size = some o → h'.objs.size = s.heap.objs.size + 2 →
      (∀ b o, s.heap.get? b = some o → h'.get? b = some o) → Q (.ref (s.heap.objs.size + 1)) { s with heap := h' }) :
    wpAny (model prog w) A (call (.type "enumerate") [v]) Q E s := by
  refine callType_new F.called_enumerate (by decide) (F.typeCall_enumerate_1 _) (F.newCall_enumerate_1 _) (fun obj => F.args_object_init_2 obj _) F.entry_enumerate_new
    (kk_meets_enum B) ⟨h1, ?_⟩
  have hz : (s.heap.push o).objs.size = s.heap.objs.size + 1 := Heap.size_push ..
  show _ ∧ _
  rw [hz]
  have he : IsEnum ((s.heap.push o).push { cls := .type "enumerate", data := .fields #[.none, .bool false, .ref s.heap.objs.size, rawInt 0, .none, .none] }) (s.heap.objs.size + 1) s.heap.objs.size 0 .none := by
    have := Heap.get?_push_size (s.heap.push o) (o := { cls := .type "enumerate", data := .fields #[.none, .bool false, .ref s.heap.objs.size, rawInt 0, .none, .none] }) rfl
    rw [hz] at this; exact this
  refine ⟨⟨_, he, rfl⟩, h _ he (Heap.get?_push_of_some _ (Heap.get?_push_size _ B.free)) (by rw [Heap.size_push, hz]) fun b o x => Heap.get?_push_of_some _ (Heap.get?_push_of_some _ x)⟩
end
end PySem
namespace Kk
open PySem PySem.Spec PyProof.Rows L2
/-- the tuple at a, each item in a new pair -/
def IteT (K : PySem.W.Frag) (a : Addr) : It :=
  ⟨fun i H => ∃ (xs : List V) (x : V), SqT K H a xs ∧ xs[i]? = some x, fun i H v H' => ∃ T x, v = .ref T ∧ H T = none ∧ H' = upd H T (.tup [.int (i : Nat), x]) ∧ ∀ xs, SqT K H a xs → xs[i]? = some x, fun i H => ∃ xs : List V, SqT K H a xs ∧ xs.length ≤ i⟩
theorem turn_enumT {P : Program} {w : World} {K : PySem.W.Frag} {elts : List Expr} {kk : Nat} {tpos : Pos} (a e it : Addr) (hae : a ≠ e) (hai : a ≠ it) :
    Turn P w K (.Tuple elts kk tpos) (IteT K a) [e, it] e (fun i h => (∃ old, IsEnum h e it ((i : Nat) : Int) old) ∧ h.IsTupleIter it a i ∧ e ≠ it) where
  mem := by simp
  obj := fun i h st b hb => by
    obtain ⟨⟨old, he⟩, ⟨o, ho, hc, hd⟩, _⟩ := st
    have e' : b = e ∨ b = it := by simpa using hb
    rcases e' with z | z
    · rw [z]; exact ⟨_, he, fun v q => nomatch q⟩
    · rw [z]; exact ⟨o, ho, fun v q => by rw [hd] at q; cases q⟩
  keep := fun i h h' st k => let ⟨⟨old, he⟩, hi, hne⟩ := st; ⟨⟨old, k e (by simp) _ he⟩, hi.at fun o q => k it (by simp) o q, hne⟩
  item := by
    intro X hP hw hK hc i pins s σ H E I hf st hg
    subst hP hw hK
    obtain ⟨⟨old, he⟩, hit, hne⟩ := st
    obtain ⟨xs, x, hq, hx⟩ := hg
    obtain ⟨its, rv, p, hz⟩ := I.tuple hq
    obtain ⟨u, hu, ru⟩ := rv.get hx
    have hel : e < s.heap.objs.size := Heap.lt_size he
    have hil : it < s.heap.objs.size := by obtain ⟨_, q, _⟩ := hit; exact Heap.lt_size q
    have hlt : i < its.toArray.size := by
      have := (List.getElem?_eq_some_iff.mp hu).1
      simpa using this
    have D := Draws.tuple (prog := X.prog) (w := X.w) (A := X.A.in1) (I.ok.hd hc) it a hai its.toArray
    refine wpAny_pyNext_enum_itemD D he ⟨hit, p⟩ hlt hne (by simp [hne, hae.symm]) fun y h' tk hy ho hst hT hsz hk => ?_
    have ey : y = u := by
      have h2 : its[i]? = some y := by simpa using hy
      rw [hu] at h2; exact (Option.some.inj h2).symm
    subst ey
    refine ⟨_, rfl, wpAny_letOwnedTupleGo_enum (s := { s with heap := h', toks := tk + 1 }) ho fun h'' he' sb => ?_⟩
    have hT2 : h''.get? s.heap.objs.size = some { cls := .type "tuple", data := .seq #[.int i tk, y] } := (sb.2 _ (Nat.ne_of_gt hel)).trans hT
    have new : ObjOk X.prog X.w (upd H s.heap.objs.size (.tup [.int (i : Nat), x])) h'' s.heap.objs.size (.tup [.int (i : Nat), x]) :=
      ⟨by show 2 ≤ sizeLine; decide, [.int i tk, y], .cons ⟨_, rfl⟩ (.cons ru .nil), ⟨_, hT2, rfl, _, rfl⟩⟩
    have I1 : Inv X pins σ (upd H s.heap.objs.size (.tup [.int (i : Nat), x])) { s with heap := h'', toks := tk + 1 } :=
      I.turnedNew (ch := [e, it]) (fun b ob hb q => (sb.2 b (fun z => hb (by simp [z]))).trans (hk b ob (fun z => hb (by simp [z])) (fun z => hb (by simp [z])) q)) hf (Nat.le_refl _) new
    refine ⟨.ref s.heap.objs.size, _, I1, rfl, ⟨_, x, rfl, I.hok.fresh (Nat.le_refl _), rfl, fun ys hy' => by rw [I.tuple_inj hy' hq]; exact hx⟩, ⟨⟨y, ?_⟩, hst.1.at fun o q => (sb.2 it (Ne.symm hne)).trans q, hne⟩, fun b hb => ?_⟩
    · have e1 : ((i + 1 : Nat) : Int) = (i : Int) + 1 := by omega
      rw [e1]; exact he'
    · have hb' : b < s.heap.objs.size := by
        have e' : b = e ∨ b = it := by simpa using hb
        rcases e' with z | z
        · rw [z]; exact hel
        · rw [z]; exact hil
      rw [upd_ne (Nat.ne_of_lt hb')]
      exact (hf b hb).1
  done := by
    intro X hP hw hK hc i pins s σ H E I hf st hg
    subst hP hw hK
    obtain ⟨⟨old, he⟩, hit, hne⟩ := st
    obtain ⟨xs, hq, hx⟩ := hg
    obtain ⟨its, rv, p, hz⟩ := I.tuple hq
    obtain ⟨f0, f1, f2, f3, f4, f5⟩ := hf it (by simp)
    have hl := rv.length
    have hT : s.TypeIs (.ref e) "enumerate" := ⟨_, he, rfl⟩
    have D := Draws.tuple (prog := X.prog) (w := X.w) (A := X.A.in1) (I.ok.hd hc) it a hai its.toArray
    unfold pyNext
    refine wpAny_bind (wpAny_attempt (wpAny_callSpecial?_slot (name := Str.ofString "__next__") hT F.slot_enumerate_next
      (wpAny_call_entry F.slot_enumerate_next hT F.entry_enumerate_next ?_ (F.args_enumerate_next_1 _))))
    show wpAny _ _ (field (.ref e) 2 >>= _) _ _ _
    refine wpAny_bind (wpAny_field he rfl (x := .ref it) rfl ?_)
    refine wpAny_bind (wpAny_nextOf_tuple_end (I.ok.hd hc) hit p (by simp; omega) fun h' x he' hx' => ?_)
    obtain ⟨o, ho, hcs⟩ := hx'
    refine wpAny_bind (wpAny_isInstance (T := "StopIteration") (b := true) ⟨o, ho, hcs⟩ isSubtype_stop ?_)
    exact wpAny_pure ⟨rfl, I.turned (t' := s.toks) (fun b o hb q => he' b o hb q) f0 f1 f3 f4 f5⟩
  self := fun A i s Q E st h => let ⟨⟨_, he⟩, _⟩ := st; wpAny_pyIter_enum he h
def iEnumT (K : PySem.W.Frag) (ta : TA) : TI := fun σ H R => ta σ H fun vs H1 => ∃ a xs, vs = [.ref a] ∧ SqT K H1 a xs ∧ R (IteT K a) H1
theorem pi_enumT {X : Cx} {e : Expr} {ta : TA} {p pos tpos : Pos} {elts : List Expr} {kk : Nat} (hg : Gl X "enumerate") (hm : X.mg "enumerate" = none) (ha : PA X [e] ta) (hs : starEach [e] X.env = [(false, eval e X.env)] := by rfl) :
    PI X (.Tuple elts kk tpos) (.Call (.Name "enumerate" p) [e] [] pos) (iEnumT X.K ta) := by
  refine ⟨fun pins s σ H R I h => ?_⟩
  refine Call_ (ld_blt I hg hm boot_enumerate (PyProof.Rows.callWith_type1 (thn (ha.run pos pins s σ H _ I h) fun us s1 ⟨vs, H1, I1, r1, q1⟩ => ?_) hs rfl))
  obtain ⟨a, xs, ex, hq, q⟩ := q1
  subst ex
  cases r1 with
  | cons r rr =>
    cases rr
    cases r
    obtain ⟨its, rv, p', hz⟩ := I1.tuple hq
    have hal : a < s1.heap.objs.size := p'.lt
    refine kk_call_enum (begins_tuple a its.toArray) p' fun h' he hit hsz hk => wpAny_pyIter_enum he ?_
    have I2 : Inv X pins σ H1 { s1 with heap := h' } := I1.kept (t' := s1.toks) hk
    refine ⟨s1.heap.objs.size + 1, [s1.heap.objs.size + 1, s1.heap.objs.size], _, _, H1, rfl, I2, turn_enumT a (s1.heap.objs.size + 1) s1.heap.objs.size (Nat.ne_of_lt (Nat.lt_succ_of_lt hal)) (Nat.ne_of_lt hal), ⟨⟨.none, he⟩, ⟨_, hit, rfl, rfl⟩, Nat.succ_ne_self _⟩, fun b hb => ?_, q⟩
    have e' : b = s1.heap.objs.size + 1 ∨ b = s1.heap.objs.size := by simpa using hb
    have hle : s1.heap.objs.size ≤ b := by
      rcases e' with z | z
      · rw [z]; exact Nat.le_add_right _ _
      · rw [z]; exact Nat.le_refl _
    exact I1.fpOk hle (I1.hok.fresh hle)
/-- the form one uses -/
theorem for_enumT {K : PySem.W.Frag} {a : Addr} {xs : List V} {g : TG} {tb : TS} {D : Ends} {σ : L2.St} {H : Hp} (Pv : Nat → L2.St → Hp → Prop) (h0 : Pv 0 σ H) (hl : ∀ i σ H, i ≤ xs.length → Pv i σ H → SqT K H a xs)
    (hs : ∀ i x σ H T, xs[i]? = some x → Pv i σ H → H T = none → g (.ref T) σ (upd H T (.tup [.int (i : Nat), x])) fun σ2 H2 => tb { D with nx := Pv (i + 1), ct := Pv (i + 1), bk := D.nx } σ2 H2) (hd : ∀ σ H, Pv xs.length σ H → D.nx σ H) :
    ∃ W : Nat → Nat → L2.St → Hp → Prop, (∃ m, W 0 m σ H) ∧ ∀ i m σ H, W i m σ H →
      ((IteT K a).stop i H ∧ D.nx σ H) ∨ ((IteT K a).go i H ∧ ∃ N : L2.St → Hp → Prop, (∀ σ' H', N σ' H' → ∃ m', m' < m ∧ W (i + 1) m' σ' H') ∧ ∀ x H', (IteT K a).yld i H x H' → g x σ H' fun σ2 H2 => tb { D with nx := N, ct := N, bk := D.nx } σ2 H2) := by
  refine ⟨fun i m σ H => m = xs.length - i ∧ i ≤ xs.length ∧ Pv i σ H, ⟨xs.length, by simp, Nat.zero_le _, h0⟩, ?_⟩
  rintro i m σ H ⟨rfl, hi, p⟩
  have q := hl i σ H hi p
  by_cases hlt : i < xs.length
  · refine .inr ⟨⟨xs, xs[i], q, by simp [hlt]⟩, Pv (i + 1), fun σ' H' p' => ⟨xs.length - (i + 1), by omega, rfl, hlt, p'⟩, fun x H' y => ?_⟩
    obtain ⟨T, z, rfl, hT, rfl, hz⟩ := y
    exact hs i z σ H T (hz xs q) p hT
  · have e : i = xs.length := by omega
    subst e
    exact .inl ⟨⟨xs, q, Nat.le_refl _⟩, hd σ H p⟩
end Kk

/-! a set made of a list of texts -/
namespace Kk
open PySem PySem.Spec PyProof.Rows L2
section
variable {prog : Program} {w : World} {A : Around} {R : Result → Shared → Prop} {I : Addr} {fp wr : List Addr} {G : Array GenState → Array GenState → Prop} {n : Nat} {P : Nat → Value → Prop} {St : Nat → Shared → Prop}
/-- at a: the set of the first i texts -/
def SetUp (prog : Program) (w : World) (h : Heap) (a : Addr) (xs : List Str) (i : Nat) : Prop := ∃ c, (c ≤ i ∧ ((xs.take i).Nodup → c = i)) ∧ h.SetOf (mixKind prog w) a (fun k => (xs.take i).any fun x => decide (k = Sum.inr x)) c
theorem SetUp.move {h h' : Heap} {a : Addr} {xs : List Str} {i : Nat} (u : SetUp prog w h a xs i) (k : ∀ o, h.get? a = some o → h'.get? a = some o) : SetUp prog w h' a xs i := by
  obtain ⟨c, hc, z⟩ := u
  exact ⟨c, hc, setOf_at z k⟩
theorem take_any {xs : List Str} {i : Nat} {x : Str} (hx : xs[i]? = some x) (k : Key) : ((xs.take (i + 1)).any fun y => decide (k = Sum.inr y)) = (((xs.take i).any fun y => decide (k = Sum.inr y)) || decide (k = Sum.inr x)) := by
  rw [List.take_add_one, hx, List.any_append]
  simp
theorem update_texts (W : WalksS prog w A.in1 I fp wr G n P St) (S : Addr) (hSf : S ∉ fp) (xs : List Str) (hl : xs.length = n) (hn : n + 1 < scanBound)
    (hv : ∀ i v, P i v → ∃ x t, xs[i]? = some x ∧ v = .str x t) : ∀ (m i : Nat) (s : Shared), n - i = m → i ≤ n → St i s → SetUp prog w s.heap S xs i →
      (∀ s', Moved (S :: wr) G s s' → SetUp prog w s'.heap S xs n → R (.ok (.ret .none)) s') → codeAny (model prog w) A (.builtin "set.update.loop" ⟨[.ref S, .ref I], []⟩) R s := by
  have out : S ∉ wr := fun h => hSf (W.sub _ h)
  have more : ∀ b ∈ wr, b ∈ S :: wr := fun b hb => List.mem_cons_of_mem _ hb
  intro m
  induction m with
  | zero =>
    intro i s hm hi st U q
    obtain rfl : i = n := by omega
    refine codeAny_builtin PyProof.Rows.F.entry_set_update_loop ?_
    rw [Around.under_plainId PyProof.Rows.F.plain_set_update_loop _]
    show wpAny _ A.in1 (pyNext (.ref I) >>= _) _ _ s
    exact wpAny_bind (W.done s _ _ st fun s' hm' => wpAny_pure (q s' (hm'.mono more) (U.move fun o => hm'.heap S o out)))
  | succ m ih =>
    intro i s hm hi st U q
    have lt : i < n := by omega
    refine codeAny_builtin PyProof.Rows.F.entry_set_update_loop ?_
    rw [Around.under_plainId PyProof.Rows.F.plain_set_update_loop _]
    show wpAny _ A.in1 (pyNext (.ref I) >>= _) _ _ s
    refine wpAny_bind (W.item i s _ _ lt st fun v s' hP st' hm' => ?_)
    obtain ⟨x, t, hx, rfl⟩ := hv i v hP
    obtain ⟨c, hc, U'⟩ := U.move (h' := s'.heap) fun o => hm'.heap S o out
    show wpAny _ A.in1 (holding [Value.str x t] (setAdd S (.str x t)) >>= _) _ _ s'
    unfold setAdd
    refine wpAny_bind (wpAny_holding (wpAny_holding (wpAny_bind ((mixKind prog w).pyHash (k := Sum.inr x) (mixKind_str _ _ _ _) ?_))))
    refine wpAny_setAddHashed_of (knd := mixKind prog w) (s := { s' with toks := s'.toks + 1 }) (mixKind_str _ _ _ _) rfl U' (by have := hc.1; omega) fun h' sb U2 => ?_
    refine wpAny_pure ⟨plainId_quiet PyProof.Rows.F.plain_set_update_loop _, ih (i + 1) _ (by omega) lt (W.frame _ s' _ _ st' (Nat.le_succ _) fun b hb o e => (sb.2 b fun z => hSf (z ▸ hb)).trans e) ?_ fun s'' hm2 U3 => ?_⟩
    · have e : (fun k : Key => (xs.take (i + 1)).any fun y => decide (k = Sum.inr y)) = fun k => (((xs.take i).any fun y => decide (k = Sum.inr y)) || decide (k = Sum.inr x)) := funext (take_any hx)
      refine ⟨_, ⟨?_, fun nd => ?_⟩, by rw [e]; exact U2⟩
      · have := hc.1
        split <;> omega
      · have e9 : xs.take (i + 1) = xs.take i ++ [x] := by rw [List.take_add_one, hx]; rfl
        rw [e9] at nd
        have nd2 := List.nodup_append.mp nd
        have no : ((xs.take i).any fun y => decide ((Sum.inr x : Key) = Sum.inr y)) = false := by
          rw [List.any_eq_false]
          intro y hy q
          have q2 := of_decide_eq_true q
          exact nd2.2.2 y hy x (List.mem_singleton.mpr rfl) (Sum.inr.inj q2).symm
        rw [no, if_neg (by decide), hc.2 nd2.1]
    · exact q s'' (Moved.trans W.gtrans ((hm'.mono more).then_heap (Nat.le_succ _) fun b o hb e => (sb.2 b fun z => hb (by rw [z]; exact List.mem_cons_self)).trans e) hm2) U3
end
section
variable {prog : Program} {w : World} {A : Around} {E : Value → Shared → Prop} {s : Shared}
abbrev setOb (led : Bool) : Obj := { cls := .type "set", dict := none, data := .set #[] 0 (.fresh 0 0 led) }
set_option maxHeartbeats 3200000 in
theorem call_set_texts {l : Addr} {items : Array Value} {xs : List Str} {Q : Value → Shared → Prop} (hh : A.handled = none) (hl : s.heap.IsList l items) (hi : StrsAre items.toList xs) (hb : xs.length + 1 < scanBound)
    (h : ∀ (h' : Heap) (tk : Nat), SetUp prog w h' s.heap.objs.size xs xs.length → (∀ b o, s.heap.get? b = some o → h'.get? b = some o) → Q (.ref s.heap.objs.size) { s with heap := h', toks := tk }) :
    wpAny (model prog w) A (call (.type "set") [.ref l]) Q E s := by
  obtain ⟨c, tl, hmro⟩ := PySem.F.called_set.mro
  have hmade := PySem.F.called_set.made
  have hsub := PySem.F.called_set.sub
  have h1 := PySem.F.called_set.notType
  have h2 := PySem.F.called_set.canCreate
  have hct := PySem.F.typeCall_set_1 (.ref l)
  have hlen : items.size = xs.length := by rw [← Array.length_toList, StrsAre.len_eq hi]
  refine wpAny_call (codeAny_of_tree (wpAny_pure ⟨Code.quiet_builtin _ (by decide +kernel), codeAny_builtin PySem.F.entry_type_call ?_⟩))
  rw [Around.under_plain (weight_type_call_type "set" [.ref l] []) rfl]
  repeat (any_goals (first | assumption | wp_step))
  refine codeAny_mono (code_set_new_1 (.ref l) (E := E) (Q₁ := fun obj s₁ => ∃ led : Bool, obj = .ref s.heap.objs.size ∧ s₁ = { s with heap := s.heap.push { cls := .type "set", dict := none, data := .set #[] 0 (.fresh 0 0 led) } }) fun led => ⟨led, rfl, rfl⟩) fun r s₁ hr => ?_
  cases r with
  | error e => exact hr
  | ok fl =>
    cases fl with
    | next => exact hr.elim
    | brk => exact hr.elim
    | cont => exact hr.elim
    | ret obj =>
      obtain ⟨led, rfl, rfl⟩ := hr
      have hS : (s.heap.push (setOb led)).get? s.heap.objs.size = some (setOb led) := Heap.get?_push_size _ rfl
      have hT : Shared.TypeIs { s with heap := s.heap.push (setOb led) } (.ref s.heap.objs.size) "set" := ⟨_, hS, rfl⟩
      have hli := PySem.F.called_set.init.lookup
      have hbi := PySem.F.called_set.init.bind (.ref s.heap.objs.size)
      repeat (any_goals (first | assumption | wp_step))
      refine codeAny_mono (codeAny_call_builtin (R := wants (fun r s₂ => r = .none ∧ ∃ h' tk, s₂ = { s with heap := h', toks := tk } ∧ SetUp prog w h' s.heap.objs.size xs xs.length ∧ (∀ b o, s.heap.get? b = some o → h'.get? b = some o)) E)
        PySem.F.called_set.init.plain PySem.F.entry_set_init (check_set_init_1 hT ?_)) fun r₂ s₂ hr₂ => ?_
      · obtain ⟨ol, hol, hcl, nl, hdl⟩ := hl
        obtain ⟨ocls, odict, odata, oslots⟩ := ol
        simp only at hcl hdl
        subst hcl; subst hdl
        have hlS : l < s.heap.objs.size := Heap.lt_size hol
        have hol' := Heap.get?_push_of_some (h := s.heap) (setOb led) hol
        have hsls := PySem.F.sub_list_set
        have hslf := PySem.F.sub_list_frozenset
        have hne : (Value.type "list" == Value.type "dict") = false := by decide
        have hl1 : (s.heap.push (setOb led)).IsList l items := ⟨_, hol', rfl, nl, rfl⟩
        unfold Builtin.«set.__init__» noKeywords Builtin.Frozenset.updateFrom
        generalize hPI : pyIter = PI
        wp_walk
        subst hPI
        refine wpAny_pyIter_list (s := { s with heap := s.heap.push (setOb led) }) hl1 ?_
        refine wpAny_bind (wpAny_runValue ?_)
        have hneI : l ≠ (s.heap.push (setOb led)).objs.size := by rw [Heap.size_push]; exact Nat.ne_of_lt (Nat.lt_succ_of_lt hlS)
        have hSf : s.heap.objs.size ∉ [(s.heap.push (setOb led)).objs.size, l] := by
          rw [Heap.size_push]
          intro hm
          rcases List.mem_cons.mp hm with z | z
          · exact Nat.ne_of_lt (Nat.lt_succ_self _) z
          · exact Nat.ne_of_gt hlS (List.mem_singleton.mp z)
        have hval : ∀ (i : Nat) (v : Value), items[i]? = some v → ∃ x t, xs[i]? = some x ∧ v = .str x t := fun i v hv => by
          have hv' : items.toList[i]? = some v := by rw [Array.getElem?_toList]; exact hv
          obtain ⟨t, e⟩ := SS.strs_at hi i v hv'
          have lt : i < xs.length := by
            have := (List.getElem?_eq_some_iff.mp hv').1
            rw [Array.length_toList, hlen] at this; exact this
          exact ⟨xs[i], t, List.getElem?_eq_getElem lt, by rw [e, List.getD_eq_getElem?_getD, List.getElem?_eq_getElem lt]; rfl⟩
        have hS2 := Heap.get?_push_of_some (h := s.heap.push (setOb led)) { cls := .type "list_iterator", data := .fields #[.ref l, .int 0 0] } hS
        refine update_texts ((Walks.list (by simp [hh]) _ l hneI items).toS) s.heap.objs.size hSf xs hlen.symm (by omega) hval (items.size - 0) 0 _ rfl (Nat.zero_le _) ⟨⟨_, Heap.get?_push_size _ rfl, rfl, rfl⟩, hl1.push _⟩ ⟨0, ⟨Nat.le_refl _, fun _ => rfl⟩, ?_⟩ fun s' hm U => ?_
        · exact ⟨_, #[], 0, _, hS2, ⟨rfl, rfl, rfl⟩, rfl, (fun e he => by simp at he), (fun k => by simp), (by decide), (by rfl), rfl⟩
        · obtain ⟨h', g', d', tk', os'⟩ := s'
          obtain rfl : g' = s.gens := hm.gens
          obtain rfl : d' = s.drawn := hm.drawn
          obtain rfl : os' = s.os := hm.os
          refine wpAny_pure (wpAny_pure ⟨rfl, h', tk', rfl, by rw [← hlen]; exact U, fun b o e => ?_⟩)
          have hb' := Heap.lt_size e
          refine hm.heap b o (fun z => ?_) (Heap.get?_push_of_some _ (Heap.get?_push_of_some _ e))
          rw [Heap.size_push] at z
          rcases List.mem_cons.mp z with z | z
          · exact Nat.ne_of_lt hb' z
          · exact Nat.ne_of_lt (Nat.lt_succ_of_lt hb') (List.mem_singleton.mp z)
      · cases r₂ with
        | error e => exact hr₂
        | ok fl₂ =>
          cases fl₂ with
          | ret r =>
            obtain ⟨rfl, h', tk, rfl, U, hk'⟩ := hr₂
            repeat (any_goals (first | assumption | wp_step))
            exact h _ _ U hk'
          | next => exact hr₂.elim
          | brk => exact hr₂.elim
          | cont => exact hr₂.elim
end
/-- set(xs), xs a list of texts; how many there are where none stands twice -/
def rSetTxN (K : PySem.W.Frag) (P : Program) (w : World) : List V → Hp → VK → Prop := fun vs H Q => ∃ (l : Addr) (xs : List Str), vs = [.ref l] ∧ SqL K H l (xs.map V.str) ∧ xs.length ≤ 4000 ∧
  ∀ a c, H a = none → (xs.Nodup → c = xs.length) → Q (.ref a) (upd H a (SetK P w a (fun k => xs.any fun x => decide (k = Sum.inr x)) c))
theorem call_setTxN {X : Cx} (hc : X.calm = true) : CallR X (.type "set") (rSetTxN X.K X.prog X.w) := by
  intro pins s σ H vs us Q I r h
  obtain ⟨l, xs, rfl, hl, hn, q⟩ := h
  rw [Vals.ref1 r]
  obtain ⟨its, rv, pl, hz⟩ := I.list hl
  have fresh : H s.heap.objs.size = none := I.hok.fresh (Nat.le_refl _)
  refine call_set_texts (xs := xs) (I.ok.hd hc) pl.isList (by simpa using Vals.strs rv) (by unfold scanBound; omega) fun h' tk U k => ?_
  obtain ⟨c, hcn, U⟩ := U
  rw [List.take_length] at U hcn
  exact ⟨.ref s.heap.objs.size, _, I.laid (t' := tk) k (Nat.le_refl _) (setK_new U), rfl, q _ c fresh hcn.2⟩
/-- set(xs), xs a list of texts -/
def rSetTx (K : PySem.W.Frag) (P : Program) (w : World) : List V → Hp → VK → Prop := fun vs H Q => ∃ (l : Addr) (xs : List Str), vs = [.ref l] ∧ SqL K H l (xs.map V.str) ∧ xs.length ≤ 4000 ∧
  ∀ a c, H a = none → Q (.ref a) (upd H a (SetK P w a (fun k => xs.any fun x => decide (k = Sum.inr x)) c))
theorem call_setTx {X : Cx} (hc : X.calm = true) : CallR X (.type "set") (rSetTx X.K X.prog X.w) := by
  intro pins s σ H vs us Q I r h
  obtain ⟨l, xs, e, hl, hn, q⟩ := h
  exact call_setTxN hc pins s σ H vs us Q I r ⟨l, xs, e, hl, hn, fun a c na _ => q a c na⟩
end Kk

set_option maxHeartbeats 2000000
/-! tuples whose object is known to have no dict of its own: their methods can be called -/
namespace Kk
open PySem PySem.Spec PyProof.Rows L2
def TupF (H : Hp) (a : Addr) (xs : List V) : Prop := ∃ o, H a = some (.frz o (.tup xs)) ∧ o.dict = none
theorem TupF.sq {K : PySem.W.Frag} {H : Hp} {a : Addr} {xs : List V} (h : TupF H a xs) : SqT K H a xs := by
  obtain ⟨o, h, _⟩ := h
  exact .inl (.inr ⟨o, h⟩)
theorem TupF.same {H H' : Hp} {a : Addr} {xs : List V} (h : TupF H a xs) (k : Same H H') : TupF H' a xs := by
  obtain ⟨o, h, d⟩ := h
  exact ⟨o, k _ _ h, d⟩
theorem TupF.keep {p g : Addr} {H H' : Hp} {a : Addr} {xs : List V} (h : TupF H a xs) (k : Keep p g H H') (h1 : a ≠ p) (h2 : a ≠ g) : TupF H' a xs := by
  obtain ⟨o, h, d⟩ := h
  exact ⟨o, k _ _ h h1 h2, d⟩
theorem TupF.ne_lst {H : Hp} {a b : Addr} {xs ys : List V} (h : TupF H a xs) (g : H b = some (.lst ys)) : a ≠ b := by
  obtain ⟨o, h, _⟩ := h
  exact ne_of h g (by intro q; cases q)
theorem TupF.new {H : Hp} {o : Obj} {a : Addr} {xs : List V} (d : o.dict = none) : TupF (upd H a (.frz o (.tup xs))) a xs := ⟨o, upd_same, d⟩
section
variable {X : Cx}
/-- tuple(xs), xs a list -/
theorem call_tupleF : CallR X (.type "tuple") (fun xs H Q => ∃ p ys, xs = [.ref p] ∧ SqL X.K H p ys ∧ ∀ l o, H l = none → o.dict = none → Q (.ref l) (upd H l (.frz o (.tup ys)))) := by
  intro pins s σ H xs us Q I r h
  obtain ⟨p, ys, rfl, hq, q⟩ := h
  rw [Vals.ref1 r]
  obtain ⟨its, r', pl, hz⟩ := I.list hq
  have hlen := r'.length
  refine call_tuple_list pl.isList (fun h' kp => ?_) (by simp only [List.size_toArray] <;> omega)
  have I1 : Inv X pins σ H { s with heap := h' } := I.kept (t' := s.toks) kp
  exact ⟨.ref h'.objs.size, _, I1.laid (t' := s.toks) (o := .frz { cls := .type "tuple", data := .seq its.toArray } (.tup ys)) (fun b o e => Heap.get?_push_of_some _ e) (Nat.le_refl _) ⟨Heap.get?_push_size _ rfl, hz, its, r', IsTup.new _ _⟩, rfl, q _ _ (I1.hok.fresh (Nat.le_refl _)) rfl⟩
/-- a written tuple -/
def tTupF (t : TA) : TE := fun σ H Q => t σ H fun xs H1 => xs.length ≤ sizeLine ∧ ∀ p o, H1 p = none → o.dict = none → Q (.ref p) (upd H1 p (.frz o (.tup xs)))
theorem pe_tupF {es : List Expr} {t : TA} {x1} {pos : Pos} (h : PA X es t) : PE X (.Tuple es x1 pos) (tTupF t) := by
  refine ⟨fun pins s σ H Q I hq => ?_⟩
  refine wpAny_Tuple_spliced (thn (h.run pos pins s σ H _ I hq) fun us s1 ⟨xs, H1, I1, r, z, q⟩ => ⟨by rw [← r.length]; exact z, ?_⟩)
  exact ⟨.ref s1.heap.objs.size, _, I1.laid (t' := s1.toks) (o := .frz { cls := .type "tuple", data := .seq us.toArray } (.tup xs)) (fun b u e => Heap.get?_push_of_some _ e) (Nat.le_refl _) ⟨Heap.get?_push_size _ rfl, z, us, r, ⟨_, Heap.get?_push_size _ rfl, rfl, _, rfl⟩⟩, rfl, q _ _ (I1.hok.fresh (Nat.le_refl _)) rfl⟩
end
section
variable {prog : Program} {w : World} {A : Around} {E : Value → Shared → Prop} {s : Shared}
open HT in
/-- the whole of a tuple is the tuple itself -/
theorem tup_whole {t sl : Addr} {items : Array Value} {vl vu : Value} {lo hi : Option Int} {Q : Value → Shared → Prop} (ht : IsTup s.heap t items) (hs : s.heap.IsSliceOf sl vl vu .none) (pl : IsPart vl lo) (pu : IsPart vu hi)
    (hw : sIx items.size 0 lo = 0 ∧ sIx items.size items.size hi = items.size) (h : Q (.ref t) s) : wpAny (model prog w) A (getItem (.ref t) (.ref sl)) Q E s := by
  obtain ⟨os, hos, hcs, hds⟩ := id hs
  have hTs : s.TypeIs (.ref sl) "slice" := ⟨os, hos, hcs⟩
  obtain ⟨ot, hot, hct, nt, hdt⟩ := id ht
  have hTt : s.TypeIs (.ref t) "tuple" := ⟨ot, hot, hct⟩
  unfold getItem
  try with_reducible refine wpAny_holding ?_
  first | refine wpAny_bind (wpAny_pure ?_) | skip
  refine wpAny_bind (wpAny_sequenceKey ht.typeIs (by decide) ?_)
  refine wpAny_bind (wpAny_callSpecial?_slot (name := Str.ofString "__getitem__") ht.typeIs PyProof.Rows.slot_tuple_getitem
    (wpAny_call_entry PyProof.Rows.slot_tuple_getitem ht.typeIs entry_tuple_getitem ?_ (args_tuple_getitem _ _)))
  show wpAny _ _ (Builtin.Tuple.tupleItemsOf (.ref t) >>= _) _ _ s
  refine wpAny_bind (tupleItemsOf_ ht (wpAny_bind (wpAny_typeOf hTs ?_)))
  rw [if_pos (by decide)]
  refine wpAny_bind (sliceApplied_gen hs pl pu ?_)
  have yes : (((sIx items.size 0 lo : Nat) : Int) == 0 && (1 : Int) == 1 && (sIx items.size items.size hi - sIx items.size 0 lo) == items.size) = true := by
    rw [hw.1, hw.2]; simp
  show wpAny _ _ (if (((sIx items.size 0 lo : Nat) : Int) == 0 && (1 : Int) == 1 && (sIx items.size items.size hi - sIx items.size 0 lo) == items.size) = true then _ else _) _ _ s
  rw [if_pos yes]
  unfold Builtin.Tuple.tupleIsExact
  refine wpAny_bind (wpAny_bind (wpAny_typeOf hTt (wpAny_pure ?_)))
  rw [if_pos (by decide)]
  exact wpAny_bind (wpAny_rule (wpAny_pure ⟨_, rfl, wpAny_pure h⟩))
end
section
variable {X : Cx}
/-- t[lo:hi]: t itself where that is the whole -/
theorem sl_tupF : SlR X (fun x lo hi H Q => ∃ a xs, x = .ref a ∧ SqT X.K H a xs ∧ ((HT.sIx xs.length 0 lo = 0 ∧ HT.sIx xs.length xs.length hi = xs.length) → Q (.ref a) H) ∧
    (¬ (HT.sIx xs.length 0 lo = 0 ∧ HT.sIx xs.length xs.length hi = xs.length) → ∀ p o, H p = none → o.dict = none → Q (.ref p) (upd H p (.frz o (.tup (cutV xs lo hi)))))) := by
  intro pins s σ H x v vl vu lo hi sl Q I rx hs pl pu h
  obtain ⟨a, xs, rfl, hx, q1, q2⟩ := h
  cases rx
  obtain ⟨its, r, ht, hz⟩ := I.tuple hx
  have hlen : its.toArray.size = xs.length := by rw [List.size_toArray]; exact r.length.symm
  refine ⟨"tuple", _, PyProof.Rows.slot_tuple_getitem.lookup, ht.typeIs, ?_⟩
  by_cases hw : HT.sIx xs.length 0 lo = 0 ∧ HT.sIx xs.length xs.length hi = xs.length
  · exact tup_whole ht hs pl pu (by rw [hlen]; exact hw) ⟨.ref a, H, I, rfl, q1 hw⟩
  · refine HT.getItem_tuple_cut ht hs pl pu (by rw [hlen]; exact hw) ?_ (by rw [hlen]; exact hz)
    rw [hlen]
    refine ⟨.ref s.heap.objs.size, _, I.laid (t' := s.toks) (o := .frz { cls := .type "tuple", data := .seq ((its.drop (HT.sIx xs.length 0 lo)).take (HT.sIx xs.length xs.length hi - HT.sIx xs.length 0 lo)).toArray } (.tup (cutV xs lo hi)))
      (fun b ob q => Heap.get?_push_of_some _ q) (Nat.le_refl _) ⟨Heap.get?_push_size _ rfl, Nat.le_trans (cutV_length xs lo hi) hz, _, (r.drop (HT.sIx xs.length 0 lo)).take (HT.sIx xs.length xs.length hi - HT.sIx xs.length 0 lo), IsTup.new _ _⟩, rfl, q2 hw _ _ (I.hok.fresh (Nat.le_refl _)) rfl⟩
/-- t.m(e, ..), t such a tuple -/
def tTM (r : V → List V → Hp → VK → Prop) (to : TE) (t : TA) : TE := fun σ H Q => to σ H fun x H1 => (∃ a xs, x = .ref a ∧ TupF H1 a xs) ∧ t σ H1 fun xs H2 => r x xs H2 Q
theorem pe_tm {o e : Expr} {es : List Expr} {to : TE} {t : TA} {name : Str} {apos cpos : Pos} {id : String} {r : V → List V → Hp → VK → Prop} (slot : Slot "tuple" name id) (hty : typeOf (.builtin id) = pure (.type "method_descriptor")) (hm : MtR X id r) (ho : PE X o to) (ha : PA X (e :: es) t)
    (hbase : attributeBase o name X.env (eval o X.env) = eval o X.env := by rfl)
    (hfew : ((backTo cpos (starEach (e :: es) X.env)).all (fun x => !x.1) && (backToKw cpos (keywordEach [] X.env)).all (fun x => x.1.isSome)
      && decide ((e :: es).length + ([] : List Keyword).length + (if ([] : List Keyword).isEmpty then 0 else 1) < 30)) = true := by rfl)
    (hline : (apos.endLine == cpos.line) = true := by rfl) (hs : starEach (e :: es) X.env = (false, eval e X.env) :: starEach es X.env := by rfl) (hplain : (backTo cpos (starEach es X.env)).any (·.1) = false := by rfl) :
    PE X (.Call (.Attribute o name apos) (e :: es) [] cpos) (tTM r to t) := by
  refine ⟨fun pins s σ H Q I h => ?_⟩
  refine wpAny_Call_method_late hbase hfew hline rfl (thn (ho.run pins s σ H _ I h) fun v s1 ⟨x, H1, I1, r1, ty, q1⟩ => ?_)
  obtain ⟨a, xs, rfl, ob, hob, hd⟩ := ty
  obtain rfl : v = Value.ref a := r1
  have ok : ObjOk X.prog X.w H1 s1.heap a (.frz ob (.tup xs)) := I1.hok a _ hob
  obtain ⟨g1, _, its, rv, o2, g2, c2, d2⟩ := ok
  obtain rfl : ob = o2 := Option.some.inj (g1.symm.trans g2)
  refine ⟨"tuple", id, PySem.F.plainAttrs_tuple, slot, hty, ⟨ob, g1, c2⟩, fun b eb => ?_, ?_⟩
  · cases eb
    exact ⟨ob, g1, hd⟩
  have hA := ha.run cpos pins s1 σ H1 _ I1 q1
  rw [hs] at hA ⊢
  refine Calls.callWith_builtin (by show (false || (backTo cpos (starEach es X.env)).any (·.1)) = false; rw [hplain] <;> rfl) (Calls.evalArgs_plain ?_)
  exact thn hA fun us s2 ⟨vs, H2, I2, r2, q2⟩ => hm pins s2 σ H2 (.ref a) vs (.ref a) us Q I2 rfl r2 q2
/-- t.count(z), t a tuple of texts -/
theorem mt_tcount : MtR X "tuple.count" (fun x xs H Q => ∃ p, ∃ ys : List Str, ∃ z, x = .ref p ∧ xs = [.str z] ∧ SqT X.K H p (ys.map V.str) ∧ Q (.int ((ys.countP fun y => y == z : Nat) : Int)) H) := by
  intro pins s σ H x xs v us Q I rx rs h
  obtain ⟨p, ys, z, rfl, rfl, hq, q⟩ := h
  cases rx
  obtain ⟨u, rfl, t, rfl⟩ := vals1 rs
  obtain ⟨its, r, pl, hz⟩ := I.tuple hq
  obtain ⟨⟨cls, dd, dt, sl⟩, ho, hc, n, hd⟩ := pl
  simp only at hc hd
  subst hc
  subst hd
  have ec : its.countP (eqU (.str z)) = ys.countP fun y => y == z := by
    clear hq q hz ho
    induction ys generalizing its with
    | nil => cases r; rfl
    | cons y ys ih =>
      cases r with
      | cons r1 r2 =>
        obtain ⟨t', rfl⟩ := r1
        rw [List.countP_cons, List.countP_cons, ih _ r2]
        rfl
  refine call_meets PySem.F.slot_tuple_count ⟨_, ho, rfl⟩ PySem.F.entry_tuple_count (PySem.F.args_tuple_count_2 _ _) (SeqAt.tuple_countAt p its.toArray n dd sl (.str z t) (eqU (.str z)))
    ⟨ho, fun w hw => mem_eqAt (x := .str z) ⟨t, rfl⟩ rfl r (flat_strs ys) w (by simpa using hw), ?_⟩
  show EP X pins σ Q (.int ((its.countP (eqU (.str z)) : Nat) : Int) s.toks) { s with toks := s.toks + 1 }
  rw [ec]
  exact ⟨.int _, H, I.tok _, ⟨_, rfl⟩, q⟩
end
end Kk

set_option maxHeartbeats 2000000
namespace Kk
open PySem PySem.Spec PyProof.Rows L2 Wd
theorem for_enumL {K : PySem.W.Frag} {a : Addr} {xs : List V} {g : TG} {tb : TS} {D : Ends} {σ : L2.St} {H : Hp} (Pv : Nat → L2.St → Hp → Prop) (h0 : Pv 0 σ H) (hl : ∀ i σ H, i ≤ xs.length → Pv i σ H → SqL K H a xs)
    (hs : ∀ i x σ H T, xs[i]? = some x → Pv i σ H → H T = none → g (.ref T) σ (upd H T (.tup [.int (i : Nat), x])) fun σ2 H2 => tb { D with nx := Pv (i + 1), ct := Pv (i + 1), bk := D.nx } σ2 H2) (hd : ∀ σ H, Pv xs.length σ H → D.nx σ H) :
    ∃ W : Nat → Nat → L2.St → Hp → Prop, (∃ m, W 0 m σ H) ∧ ∀ i m σ H, W i m σ H →
      ((Ite K a).stop i H ∧ D.nx σ H) ∨ ((Ite K a).go i H ∧ ∃ N : L2.St → Hp → Prop, (∀ σ' H', N σ' H' → ∃ m', m' < m ∧ W (i + 1) m' σ' H') ∧ ∀ x H', (Ite K a).yld i H x H' → g x σ H' fun σ2 H2 => tb { D with nx := N, ct := N, bk := D.nx } σ2 H2) := by
  refine ⟨fun i m σ H => m = xs.length - i ∧ i ≤ xs.length ∧ Pv i σ H, ⟨xs.length, by simp, Nat.zero_le _, h0⟩, ?_⟩
  rintro i m σ H ⟨rfl, hi, p⟩
  have q := hl i σ H hi p
  by_cases hlt : i < xs.length
  · refine .inr ⟨⟨xs, xs[i], q, by simp [hlt]⟩, Pv (i + 1), fun σ' H' p' => ⟨xs.length - (i + 1), by omega, rfl, hlt, p'⟩, fun x H' y => ?_⟩
    obtain ⟨T, z, rfl, hT, rfl, hz⟩ := y
    exact hs i z σ H T (hz xs q) p hT
  · have e : i = xs.length := by omega
    subst e
    exact .inl ⟨⟨xs, q, Nat.le_refl _⟩, hd σ H p⟩
/-! ### numbers of parts -/
def nv (n : Nat) : V := .int (n : Nat)
def optV : Option Nat → V
  | none => .non
  | some i => .int (i : Nat)
def spMisfit (K : PySem.W.Frag) : Sp := fun vs H Q _ => ∃ (a : Addr) (ns : List Nat), vs = [.ref a] ∧ SqL K H a (ns.map nv) ∧ ns.length ≤ 200000 ∧ ∀ H', Same H H' → Q (optV (misF ns 0 1)) H'
abbrev s_misfit_index : Stmt := (top 5)
theorem sc_misfit_index : FnScope ["needs", "lacking", "at", "need"] ["needs"] (defScope s_misfit_index) := ⟨rfl, rfl, rfl, by decide +kernel, rfl, by decide +kernel, by decide +kernel⟩
theorem misF_drop {ns : List Nat} {i n : Nat} (h : ns[i]? = some n) (at' c : Nat) : misF (ns.drop i) at' c = if c = 0 then some at' else misF (ns.drop (i + 1)) (at' + 1) (c + n - 1) := by
  have hi : i < ns.length := by
    obtain ⟨h1, _⟩ := List.getElem?_eq_some_iff.mp h
    exact h1
  rw [List.drop_eq_getElem_cons hi]
  have : ns[i] = n := by
    obtain ⟨_, h2⟩ := List.getElem?_eq_some_iff.mp h
    exact h2
  rw [this]
  rfl
theorem mapN_get {ns : List Nat} {i : Nat} {x : V} (h : (ns.map nv)[i]? = some x) : ∃ n, ns[i]? = some n ∧ x = nv n := by
  rw [List.getElem?_map] at h
  cases hn : ns[i]? with
  | none => rw [hn] at h; cases h
  | some n => rw [hn] at h; exact ⟨n, rfl, (Option.some.inj h).symm⟩
theorem intz (c : Nat) : decide (V.int ((c : Nat) : Int) = V.int 0) = decide (c = 0) := by
  by_cases h : c = 0
  · subst h; exact (decide_eq_true rfl).trans (decide_eq_true rfl).symm
  · rw [decide_eq_false h]
    exact decide_eq_false fun e => h (by have := V.int.inj e; omega)
theorem c_misfit_index {P w K mg base} (B : Bt mg) (D : DefAt K mg "misfit_index" s_misfit_index) : Cal P w K mg base "misfit_index" 1 ["needs"] (spMisfit K) := by
  refine cal_of D sc_misfit_index (fun _ _ _ _ _ _ us hl => match us, hl with | [_], _ => rfl) (fun vs H Q E h => ?_) (fun fa cdv A outer st0 H vs Q E hr h => ?_)
  · obtain ⟨a, ws, rfl, _⟩ := h
    rfl
  · obtain ⟨a, ns, rfl, hq, hl, k⟩ := h
    refine ⟨_, (pss_cons (ps_set (i := 1) sc_misfit_index.nd rfl (by first | exact Or.inl rfl | exact Or.inr rfl) pe_int)
      (pss_cons (ps_for PassesOwn.never rfl (pi_enum (by rfl) B.b_enumerate (pa_cons (pv 0) pa_nil)) (pg_tup (by rfl) (pgs_cons (pg_name (i := 2) sc_misfit_index.nd rfl (by first | exact Or.inl rfl | exact Or.inr rfl)) (pgs_cons (pg_name (i := 3) sc_misfit_index.nd rfl (by first | exact Or.inl rfl | exact Or.inr rfl)) pgs_nil))) (pss_cons (ps_if (pt_cmpR op_eq (pv 1) pe_int (nomark _)) (pss_one (ps_ret (pv 2))) pss_nil)
      (pss_one (ps_aug (i := 1) sc_misfit_index.nd rfl (by first | exact Or.inl rfl | exact Or.inr rfl) (pe_op op_sub (pv 3) pe_int) ip_add))))
      (pss_one (ps_ret (pe_ifExp (pt_cmpR op_eq (pv 1) pe_int (nomark _)) pe_non (pe_callB call_len_seq (by rfl) B.b_len (by decide +kernel) (pa_cons (pv 0) pa_nil))))))), ?_⟩
    refine ⟨_, rfl, a, _, rfl, hq, for_enumL (K := K) (a := a) (xs := ns.map nv) (fun i σ H' => ∃ (v1 v2 : Option V) (c : Nat), σ = [some (.ref a), some (.int (c : Nat)), v1, v2] ∧ misF ns 0 1 = misF (ns.drop i) i c ∧ Same H H')
      ⟨none, none, 1, rfl, rfl, Same.refl H⟩ (fun i σ H' _ ⟨_, _, _, _, _, s⟩ => s.seq hq) ?_ ?_⟩
    · rintro i x σ H' T hx ⟨v1, v2, c, rfl, em, S1⟩ nT
      obtain ⟨n, hn, rfl⟩ := mapN_get hx
      have S2 : Same H (upd H' T (.tup [.int (i : Nat), nv n])) := S1.trans (same_upd nT)
      rw [misF_drop hn] at em
      refine ⟨T, _, rfl, SqT.of upd_same, rfl, _, _, rfl, _, _, rfl, rfl, ?_⟩
      refine ⟨_, rfl, rfl, _, rfl, ?_⟩
      rw [intz]
      by_cases hc : c = 0
      · rw [decide_eq_true hc]
        rw [if_pos hc] at em
        refine iteT ⟨_, rfl, ?_⟩
        have := k _ S2
        rw [em] at this
        exact this
      · rw [decide_eq_false hc]
        rw [if_neg hc] at em
        refine iteF ⟨_, rfl, _, rfl, _, _, rfl, rfl, _, _, rfl, rfl, ?_⟩
        refine ⟨some (.int (i : Nat)), some (nv n), c + n - 1, ?_, em, S2⟩
        rw [show (((c + n - 1 : Nat)) : Int) = (c : Int) + ((n : Int) - 1) by omega]
        rfl
    · rintro σ H' ⟨v1, v2, c, rfl, em, S1⟩
      rw [List.length_map, List.drop_length] at em
      have := k _ S1
      rw [em] at this
      refine ⟨_, rfl, rfl, _, rfl, ?_⟩
      rw [intz]
      by_cases hc : c = 0
      · rw [decide_eq_true hc]
        rw [show misF [] ns.length c = none by unfold misF; rw [if_pos hc]] at this
        exact iteT this
      · rw [decide_eq_false hc]
        rw [show misF [] ns.length c = some ns.length by unfold misF; rw [if_neg hc]] at this
        refine iteF ⟨_, rfl, _, _, rfl, .inl (S1.seq hq), ?_⟩
        rw [List.length_map]
        exact this
def endsV (n : Nat) (E : Nat → Nat) : List V := (List.range n).map fun i => V.int (E i : Nat)
theorem endsV_len (n : Nat) (E : Nat → Nat) : (endsV n E).length = n := by simp [endsV]
theorem endsV_get {n : Nat} {E : Nat → Nat} {i : Nat} (h : i < n) : (endsV n E)[i]? = some (.int (E i : Nat)) := by simp [endsV, h]
def spEndsBy (K : PySem.W.Frag) : Sp := fun vs H Q _ => ∃ (a : Addr) (ns : List Nat) (E : Nat → Nat), vs = [.ref a] ∧ SqL K H a (ns.map nv) ∧ EndsN ns E ∧ ns.length ≤ 200000 ∧
  ∀ H' q, Same H H' → H q = none → TupF H' q (endsV ns.length E) → Q (.ref q) H'
abbrev s_ends_by : Stmt := (top 6)
theorem sc_ends_by : FnScope ["needs", "behind", "at", "_"] ["needs"] (defScope s_ends_by) := ⟨rfl, rfl, rfl, by decide +kernel, rfl, by decide +kernel, by decide +kernel⟩
theorem c_ends_by {P w K mg base} (B : Bt mg) (D : DefAt K mg "ends_by" s_ends_by) : Cal P w K mg base "ends_by" 1 ["needs"] (spEndsBy K) := by
  refine cal_of D sc_ends_by (fun _ _ _ _ _ _ us hl => match us, hl with | [_], _ => rfl) (fun vs H Q E h => ?_) (fun fa cdv A outer st0 H vs Q E hr h => ?_)
  · obtain ⟨a, ws, E, rfl, _⟩ := h
    rfl
  · obtain ⟨a, ns, E, rfl, hq, he, hl, k⟩ := h
    refine ⟨_, (pss_cons (ps_set (i := 1) sc_ends_by.nd rfl (by first | exact Or.inl rfl | exact Or.inr rfl) (pe_op op_rep (pe_lst (pa_cons pe_int pa_nil)) (pe_callB call_len_seq (by rfl) B.b_len (by decide +kernel) (pa_cons (pv 0) pa_nil))))
      (pss_cons (ps_for PassesOwn.never rfl (pi_revR (by rfl) B.b_reversed (prg_1 (by rfl) B.b_range (pe_callB call_len_seq (by rfl) B.b_len (by decide +kernel) (pa_cons (pv 0) pa_nil)))) (pg_name (i := 2) sc_ends_by.nd rfl (by first | exact Or.inl rfl | exact Or.inr rfl)) (pss_cons (ps_asg (pe_op op_add (pv 2) pe_int) (pg_sub (pv 1) (pv 2) set_list))
      (pss_one (ps_for PassesOwn.never rfl (pi_range1 (by rfl) B.b_range (pa_cons (pe_ix ix_list (pv 0) (pv 2) (fun _ _ => rfl)) pa_nil)) (pg_name (i := 3) sc_ends_by.nd rfl (by first | exact Or.inl rfl | exact Or.inr rfl)) (pss_one (ps_asg (pe_ix ix_list (pv 1) (pe_ix ix_list (pv 1) (pv 2) (fun _ _ => rfl)) (fun _ _ => rfl)) (pg_sub (pv 1) (pv 2) set_list)))))))
      (pss_one (ps_ret (pe_callTy call_tupleF (by rfl) B.b_tuple (by decide +kernel) (pa_cons (pv 1) pa_nil)))))), ?_⟩
    have hlm : (ns.map nv).length = ns.length := List.length_map ..
    -- behind = [0] * len(words)
    refine ⟨(by show 1 ≤ sizeLine; decide), fun z nz => ?_⟩
    have Sz : Same H (upd H z (.lst [.int 0])) := same_upd nz
    have Lz : upd H z (.lst [.int 0]) z = some (.lst [.int 0]) := upd_same
    generalize upd H z (.lst [.int 0]) = H1 at *
    refine ⟨_, rfl, _, _, rfl, .inl (Sz.seq hq), z, _, _, rfl, rfl, Lz, by omega, by omega, ?_, fun b nb => ?_⟩
    · rw [hlm, sizeLine_eq]; show 1 * _ ≤ _; omega
    have eb : (List.replicate (((ns.map nv).length : Nat) : Int).toNat [V.int 0]).flatten = List.replicate ns.length (V.int 0) := by
      rw [hlm]
      show (List.replicate ns.length [V.int 0]).flatten = _
      induction ns.length with
      | zero => rfl
      | succ n ih => rw [List.replicate_succ, List.flatten_cons, ih, List.replicate_succ]; rfl
    rw [eb]
    have Sb : Same H (upd H1 b (.lst (List.replicate ns.length (V.int 0)))) := Sz.trans (same_upd nb)
    have Lb : upd H1 b (.lst (List.replicate ns.length (V.int 0))) b = some (.lst (List.replicate ns.length (V.int 0))) := upd_same
    have fb : H b = none := Sz.free nb
    generalize upd H1 b (.lst (List.replicate ns.length (V.int 0))) = H2 at *
    have en : ((((ns.map nv).length : Nat) : Int) - 0).toNat = ns.length := by rw [hlm]; omega
    refine ⟨_, rfl, _, _, rfl, .inl (Sb.seq hq), _, rfl, by decide, by decide, by omega, by omega, for_rangeC (lo := (0 : Int) + (((((ns.map nv).length : Nat) : Int) - 0).toNat : Nat) - 1) (c := -1) (n := ((((ns.map nv).length : Nat) : Int) - 0).toNat)
      (fun i σ H' => ∃ (v v2 : Option V) (L : List V), σ = [some (.ref a), some (.ref b), v, v2] ∧ Same H H' ∧ H' b = some (.lst L) ∧ L.length = ns.length ∧ ∀ j, ns.length ≤ j + i → j < ns.length → L[j]? = some (.int (E j : Nat)))
      ⟨none, none, _, rfl, Sb, Lb, List.length_replicate .., fun j h1 h2 => absurd h2 (by omega)⟩ ?_ ?_⟩
    · rintro i σ H' hi ⟨v, v2, L, rfl, S3, L3, hL, hE⟩
      rw [en] at hi
      obtain ⟨m, hm⟩ : ∃ m : Nat, m + i + 1 = ns.length := ⟨ns.length - 1 - i, by omega⟩
      have eat : ((0 : Int) + (((((ns.map nv).length : Nat) : Int) - 0).toNat : Nat) - 1) + (i : Nat) * (-1) = (m : Int) := by rw [en]; omega
      rw [eat]
      have hml : m < ns.length := by omega
      obtain ⟨n, hn⟩ : ∃ n, ns[m]? = some n := ⟨ns[m], List.getElem?_eq_getElem hml⟩
      have hnv : (ns.map nv)[m]? = some (nv n) := by rw [List.getElem?_map, hn]; rfl
      obtain ⟨hj, hEm⟩ := he.ex m n hn
      have hn2 := he.le n (List.mem_of_getElem? hn)
      have q3 := S3.seq hq
      have ixm : ixN L.length (m : Int) = some m := ixN_lt (by omega)
      refine ⟨_, rfl, _, _, rfl, rfl, _, rfl, _, rfl, b, _, _, m, rfl, rfl, L3, ixm, ?_⟩
      have off : ∀ c o, H c = some o → c ≠ b := fun c o hc => ne_of_none hc fb
      refine ⟨_, rfl, _, rfl, a, _, _, _, rfl, rfl, (show SqL K _ a _ from Same.seq (fun c o hc => by rw [upd_ne (off c o hc)]; exact S3 c o hc) hq), atI_nat hnv, n, rfl, by omega, by omega, for_range (lo := 0) (n := ((n : Nat) : Int).toNat)
        (fun j σ H' => ∃ (v2 : Option V) (L : List V), σ = [some (.ref a), some (.ref b), some (.int (m : Nat)), v2] ∧ Same H H' ∧ H' b = some (.lst L) ∧ L.length = ns.length ∧ L[m]? = some (.int (itE E m j : Nat)) ∧ ∀ j, m < j → j < ns.length → L[j]? = some (.int (E j : Nat))) ?_ ?_ ?_⟩
      · refine ⟨_, _, rfl, fun c o hc => by rw [upd_ne (off c o hc)]; exact S3 c o hc, upd_same, by rw [List.length_set]; exact hL, List.getElem?_set_self (by omega), fun j h1 h2 => ?_⟩
        rw [List.getElem?_set_ne (by omega)]
        exact hE j (by omega) h2
      · rintro j σ H4 hjn ⟨v2, L4, rfl, S4, L4h, hL4, hm4, hE4⟩
        obtain ⟨j1, j2⟩ := hj j (by omega)
        have ixm4 : ixN L4.length (m : Int) = some m := ixN_lt (by omega)
        refine ⟨_, rfl, _, rfl, _, rfl, b, _, _, _, rfl, rfl, SqL.of L4h, atI_nat hm4, b, _, _, _, rfl, rfl, SqL.of L4h, atI_nat (hE4 _ j1 j2), _, rfl, _, rfl, b, _, _, m, rfl, rfl, L4h, ixm4, ?_⟩
        refine ⟨_, _, rfl, fun c o hc => by rw [upd_ne (off c o hc)]; exact S4 c o hc, upd_same, by rw [List.length_set]; exact hL4, List.getElem?_set_self (by omega), fun j' h1 h2 => ?_⟩
        rw [List.getElem?_set_ne (by omega)]
        exact hE4 j' h1 h2
      · rintro σ H4 ⟨v2, L4, rfl, S4, L4h, hL4, hm4, hE4⟩
        refine ⟨_, _, _, rfl, S4, L4h, hL4, fun j h1 h2 => ?_⟩
        by_cases hjm : j = m
        · subst hjm
          rw [hm4, hEm]
          rfl
        · exact hE4 j (by omega) h2
    · rintro σ H' ⟨v, v2, L, rfl, S3, L3, hL, hE⟩
      rw [en] at hE
      have eL : L = endsV ns.length E := by
        apply List.ext_getElem?
        intro j
        by_cases hj : j < ns.length
        · rw [hE j (by omega) hj, endsV_get hj]
        · rw [List.getElem?_eq_none (by omega), List.getElem?_eq_none (by rw [endsV_len]; omega)]
      refine ⟨_, rfl, _, _, rfl, SqL.of L3, fun q o nq ho => ?_⟩
      rw [eL]
      exact k _ q (S3.trans (same_upd nq)) (S3.free nq) (TupF.new ho)
end Kk

set_option maxHeartbeats 2000000
namespace Kk
open PySem PySem.Spec PyProof.Rows L2
/-! ### comprehensions that keep or change each item by itself -/
section
variable {α : Type} {K : PySem.W.Frag} {a D : Addr} {ws : List α} {f : α → V} {r : α → Option V} {g : TG} {tt : TT} {te : TE} {vs : List Nat} {σ : L2.St} {H : Hp} {Qd : Hp → Prop}
theorem fm_step {w : α} {i : Nat} (hw : ws[i]? = some w) : (ws.take (i + 1)).filterMap r = (ws.take i).filterMap r ++ (match r w with | some y => [y] | none => []) := by
  rw [List.take_add_one, hw, List.filterMap_append]
  cases h : r w with
  | none => simp [h]
  | some y => simp [h]
theorem fm_len (i : Nat) : ((ws.take i).filterMap r).length ≤ ws.length := Nat.le_trans (List.length_filterMap_le _ _) (by rw [List.length_take]; exact Nat.min_le_right _ _)
theorem lc_fmT (hq : SqT K H a (ws.map f)) (nD : H D = none) (hl : ws.length ≤ 100000)
    (hs : ∀ (i : Nat) (w : α) (H' : Hp) (Qy : V → Hp → Prop) (Qn : Hp → Prop), ws[i]? = some w → Same H H' → (∀ y H4, Same H' H4 → r w = some y → Qy y H4) → (∀ H3, Same H' H3 → r w = none → Qn H3) →
      g (f w) (wipe σ vs) H' fun σ2 H2 => wipe σ2 vs = wipe σ vs ∧ tt σ2 H2 fun b H3 => if b = true then te σ2 H3 Qy else Qn H3)
    (hd : ∀ H', Same H H' → H' D = some (.lst (ws.filterMap r)) → Qd H') :
    ∃ W : Nat → Nat → Hp → Prop, (∃ m, W 0 m (upd H D (.lst []))) ∧ ∀ i m H, W i m H →
      ((Itt K a).stop i H ∧ Qd H) ∨ ((Itt K a).go i H ∧ ∃ Nx : Hp → Prop, (∀ H', Nx H' → ∃ m', m' < m ∧ W (i + 1) m' H') ∧ ∀ x H', (Itt K a).yld i H x H' → g x (wipe σ vs) H' fun σ2 H2 => wipe σ2 vs = wipe σ vs ∧ tt σ2 H2 fun b H3 =>
        if b = true then te σ2 H3 fun y H4 => ∃ acc, H4 D = some (.lst acc) ∧ acc.length < sizeLine ∧ Nx (upd H4 D (.lst (acc ++ [y]))) else Nx H3) := by
  have off : ∀ b o, H b = some o → b ≠ D := fun b o hb => ne_of_none hb nD
  refine lc_tup (K := K) (a := a) (xs := ws.map f) (fun i H' => Same H H' ∧ H' D = some (.lst ((ws.take i).filterMap r))) ⟨same_upd nD, upd_same⟩ (fun i H' _ s => SqT.same hq s.1) (fun i x H' hx s => ?_) (fun H' s => ?_)
  · obtain ⟨S1, L1⟩ := s
    obtain ⟨w, hw, rfl⟩ := map_get hx
    refine hs i w H' _ _ hw S1 (fun y H4 S4 hy => ⟨_, S4 _ _ L1, Nat.lt_of_le_of_lt (Nat.le_trans (fm_len i) hl) (by decide), fun b o hb => ?_, ?_⟩) (fun H3 S3 hn => ⟨S1.trans S3, ?_⟩)
    · rw [upd_ne (off b o hb)]
      exact S4 _ _ (S1 _ _ hb)
    · rw [upd_same, fm_step hw, hy]
    · rw [S3 _ _ L1, fm_step hw, hn, List.append_nil]
  · obtain ⟨S1, L1⟩ := s
    rw [List.length_map, List.take_length] at L1
    exact hd H' S1 L1
theorem lc_fmL (hq : SqL K H a (ws.map f)) (nD : H D = none) (hl : ws.length ≤ 100000)
    (hs : ∀ (i : Nat) (w : α) (H' : Hp) (Qy : V → Hp → Prop) (Qn : Hp → Prop), ws[i]? = some w → Same H H' → (∀ y H4, Same H' H4 → r w = some y → Qy y H4) → (∀ H3, Same H' H3 → r w = none → Qn H3) →
      g (f w) (wipe σ vs) H' fun σ2 H2 => wipe σ2 vs = wipe σ vs ∧ tt σ2 H2 fun b H3 => if b = true then te σ2 H3 Qy else Qn H3)
    (hd : ∀ H', Same H H' → H' D = some (.lst (ws.filterMap r)) → Qd H') :
    ∃ W : Nat → Nat → Hp → Prop, (∃ m, W 0 m (upd H D (.lst []))) ∧ ∀ i m H, W i m H →
      ((Itl K a).stop i H ∧ Qd H) ∨ ((Itl K a).go i H ∧ ∃ Nx : Hp → Prop, (∀ H', Nx H' → ∃ m', m' < m ∧ W (i + 1) m' H') ∧ ∀ x H', (Itl K a).yld i H x H' → g x (wipe σ vs) H' fun σ2 H2 => wipe σ2 vs = wipe σ vs ∧ tt σ2 H2 fun b H3 =>
        if b = true then te σ2 H3 fun y H4 => ∃ acc, H4 D = some (.lst acc) ∧ acc.length < sizeLine ∧ Nx (upd H4 D (.lst (acc ++ [y]))) else Nx H3) := by
  have off : ∀ b o, H b = some o → b ≠ D := fun b o hb => ne_of_none hb nD
  refine lc_list (K := K) (a := a) (xs := ws.map f) (fun i H' => Same H H' ∧ H' D = some (.lst ((ws.take i).filterMap r))) ⟨same_upd nD, upd_same⟩ (fun i H' _ s => s.1.seq hq) (fun i x H' hx s => ?_) (fun H' s => ?_)
  · obtain ⟨S1, L1⟩ := s
    obtain ⟨w, hw, rfl⟩ := map_get hx
    refine hs i w H' _ _ hw S1 (fun y H4 S4 hy => ⟨_, S4 _ _ L1, Nat.lt_of_le_of_lt (Nat.le_trans (fm_len i) hl) (by decide), fun b o hb => ?_, ?_⟩) (fun H3 S3 hn => ⟨S1.trans S3, ?_⟩)
    · rw [upd_ne (off b o hb)]
      exact S4 _ _ (S1 _ _ hb)
    · rw [upd_same, fm_step hw, hy]
    · rw [S3 _ _ L1, fm_step hw, hn, List.append_nil]
  · obtain ⟨S1, L1⟩ := s
    rw [List.length_map, List.take_length] at L1
    exact hd H' S1 L1
end
end Kk

set_option maxHeartbeats 4000000
namespace Kk
open PySem PySem.Spec PyProof.Rows L2 Wd
theorem cut_from {xs : List V} {c : Nat} : cutV xs (some (c : Int)) none = xs.drop c := by
  unfold cutV
  rw [HT.sIx_nat, HT.sIx_none]
  by_cases h : c ≤ xs.length
  · rw [Nat.min_eq_left h]
    exact List.take_of_length_le (by rw [List.length_drop]; exact Nat.le_refl _)
  · rw [Nat.min_eq_right (by omega), Nat.sub_self, List.take_zero, List.drop_of_length_le (by omega)]
theorem cut_to {xs : List V} {c : Nat} : cutV xs none (some (c : Int)) = xs.take c := by
  unfold cutV
  rw [HT.sIx_nat, HT.sIx_none, List.drop_zero, Nat.sub_zero]
  by_cases h : c ≤ xs.length
  · rw [Nat.min_eq_left h]
  · rw [Nat.min_eq_right (by omega), List.take_length, List.take_of_length_le (by omega)]
abbrev Entry := Addr × Addr × List Nm × Nat
def pyl (X : List Entry) : List V := X.reverse.map (fun x => V.ref x.1)
theorem pyl_cons (x : Entry) (X : List Entry) : pyl (x :: X) = pyl X ++ [.ref x.1] := by simp [pyl]
structure Off (p g u f w b : Addr) : Prop where
  p : b ≠ p
  g : b ≠ g
  u : b ≠ u
  f : b ≠ f
  w : b ≠ w
structure Ent (p g u f w : Addr) (H : Hp) (x : Entry) : Prop where
  t : H x.1 = some (.tup [.ref x.2.1, .int (x.2.2.2 : Nat)])
  r : H x.2.1 = some (.lst (x.2.2.1.map sv))
  ot : Off p g u f w x.1
  or : Off p g u f w x.2.1
  le : x.2.2.1.length ≤ x.2.2.2 + 1
/-- all that is off these is as it was -/
def Fro (p g u f w : Addr) (H H' : Hp) : Prop := ∀ b o, H b = some o → Off p g u f w b → H' b = some o
section
variable {p g u f w : Addr} {H H1 H2 : Hp}
theorem Fro.trans (a : Fro p g u f w H H1) (b : Fro p g u f w H1 H2) : Fro p g u f w H H2 := fun c o h k => b c o (a c o h k) k
theorem Fro.same (a : Same H H1) : Fro p g u f w H H1 := fun b o h _ => a b o h
theorem Fro.keep (a : Keep p g H H1) : Fro p g u f w H H1 := fun b o h k => a b o h k.p k.g
theorem Fro.updw {o : HO} : Fro p g u f w H (upd H w o) := fun b x h k => by rw [upd_ne k.w]; exact h
theorem Fro.updf {o : HO} : Fro p g u f w H (upd H f o) := fun b x h k => by rw [upd_ne k.f]; exact h
theorem Ent.fro {x : Entry} (a : Fro p g u f w H H1) (e : Ent p g u f w H x) : Ent p g u f w H1 x := ⟨a _ _ e.t e.ot, a _ _ e.r e.or, e.ot, e.or, e.le⟩
end
/-- the addresses that are written, apart -/
structure Apart (p g s u f w : Addr) (H0 : Hp) : Prop where
  fp : f ≠ p
  fg : f ≠ g
  fs : f ≠ s
  fu : f ≠ u
  fw : f ≠ w
  wp : w ≠ p
  wg : w ≠ g
  ws : w ≠ s
  wu : w ≠ u
  up : u ≠ p
  ug : u ≠ g
  us : u ≠ s
  nf : H0 f = none
  nw : H0 w = none
structure WI (p g s u f w : Addr) (names : List Nm) (gv : Nat) (H0 H : Hp) (i : Nat) (F : List W) (X : List Entry) : Prop where
  pot : PotAt H p g s
  hf : H f = some (.lst (F.map wv))
  hw : H w = some (.lst (pyl X))
  hu : H u = some (.lst ((names ++ takesOf F).map sv))
  ent : ∀ x ∈ X, Ent p g u f w H x
  nd : (names ++ takesOf F).Nodup
  ok : ∀ n ∈ names ++ takesOf F, nmOk n
  len : F.length = i
  cst : costs (X.map (·.2.2)) + i + names.length = 3 * gv + 2
  pre : Pre (names, gv) F (X.map (·.2.2))
  kp : ∀ b o, H0 b = some o → b ≠ p → b ≠ g → b ≠ u → H b = some o
theorem costs_app (a b : List (List Nm × Nat)) : costs (a ++ b) = costs a + costs b := by
  induction a with
  | nil => simp [costs]
  | cons x a ih => simp [costs, ih]; omega
theorem WI.next {p g s u f w : Addr} {names : List Nm} {gv : Nat} {H0 H H' : Hp} {i : Nat} {F F' : List W} {x : Entry} {X Y : List Entry} (A : Apart p g s u f w H0) (I : WI p g s u f w names gv H0 H i F (x :: X))
    (fr : Fro p g u f w H H') (pot : PotAt H' p g s) (hf : H' f = some (.lst (F'.map wv))) (hw : H' w = some (.lst (pyl (Y ++ X)))) (hu : H' u = some (.lst ((names ++ takesOf F').map sv)))
    (ey : ∀ y ∈ Y, Ent p g u f w H' y) (nd : (names ++ takesOf F').Nodup) (ok : ∀ n ∈ names ++ takesOf F', nmOk n) (len : F'.length = i + 1) (cst : costs (Y.map (·.2.2)) + 1 = cost x.2.2)
    (pre : Pre (names, gv) F' ((Y ++ X).map (·.2.2))) : WI p g s u f w names gv H0 H' (i + 1) F' (Y ++ X) where
  pot := pot
  hf := hf
  hw := hw
  hu := hu
  ent := fun y hy => by
    rcases List.mem_append.mp hy with h | h
    · exact ey y h
    · exact (I.ent y (List.mem_cons_of_mem _ h)).fro fr
  nd := nd
  ok := ok
  len := len
  cst := by
    have c := I.cst
    rw [List.map_append, costs_app]
    simp only [List.map_cons, costs] at c
    omega
  pre := pre
  kp := fun b o h b1 b2 b3 => fr b o (I.kp b o h b1 b2 b3) ⟨b1, b2, b3, ne_of_none h A.nf, ne_of_none h A.nw⟩
theorem WI.offNew {p g s u f w : Addr} {H' : Hp} {b : Addr} (PA : PotAt H' p g s) {uf wf uu : HO} (hf : H' f = some uf) (hw : H' w = some wf) (hu : H' u = some uu) (n : H' b = none) : Off p g u f w b := by
  obtain ⟨⟨G, S, t, r, z1, z2, z3, z4⟩, _, _, _⟩ := PA
  exact ⟨(ne_of_none z1 n).symm, (ne_of_none z2 n).symm, (ne_of_none hu n).symm, (ne_of_none hf n).symm, (ne_of_none hw n).symm⟩
/-- behind the pop -/
structure Mid (p g s u f w : Addr) (names : List Nm) (F : List W) (X : List Entry) (x : Entry) (H H' : Hp) : Prop where
  pot : PotAt H' p g s
  hf : H' f = some (.lst (F.map wv))
  hw : H' w = some (.lst (pyl X))
  hu : H' u = some (.lst ((names ++ takesOf F).map sv))
  e : Ent p g u f w H' x
  fr : Fro p g u f w H H'
theorem Mid.keep {p g s u f w : Addr} {names : List Nm} {F : List W} {X : List Entry} {x : Entry} {H H0 H' H'' : Hp} (A : Apart p g s u f w H0) (M : Mid p g s u f w names F X x H H') (P : PotAt H'' p g s) (k : Keep p g H' H'') : Mid p g s u f w names F X x H H'' :=
  ⟨P, k _ _ M.hf A.fp A.fg, k _ _ M.hw A.wp A.wg, k _ _ M.hu A.up A.ug, M.e.fro (Fro.keep k), M.fr.trans (Fro.keep k)⟩
theorem Mid.same {p g s u f w : Addr} {names : List Nm} {F : List W} {X : List Entry} {x : Entry} {H H' H'' : Hp} (M : Mid p g s u f w names F X x H H') (k : Same H' H'') : Mid p g s u f w names F X x H H'' :=
  ⟨M.pot.keep k, k _ _ M.hf, k _ _ M.hw, k _ _ M.hu, M.e.fro (Fro.same k), M.fr.trans (Fro.same k)⟩
theorem int0 (n : Nat) : decide (V.int (n : Int) = V.int 0) = decide (n = 0) := by
  by_cases h : n = 0
  · subst h; simp
  · rw [decide_eq_false h]
    exact decide_eq_false (fun e => h (by have := V.int.inj e; omega))
theorem int1 (n : Nat) : decide (V.int (n : Int) = V.int 1) = decide (n = 1) := by
  by_cases h : n = 1
  · subst h; simp
  · rw [decide_eq_false h]
    exact decide_eq_false (fun e => h (by have := V.int.inj e; omega))
def spWords : Sp := fun vs H Q _ => ∃ (p g s m u : Addr) (names : List Nm) (gv : Nat), vs = [.ref p, .ref m, .int (gv : Nat), .ref u] ∧ PotAt H p g s ∧ H m = some (.lst (names.map sv)) ∧ H u = some (.lst (names.map sv)) ∧ m ≠ p ∧ m ≠ g ∧ m ≠ u ∧ u ≠ p ∧ u ≠ g ∧ gv ≤ 333 ∧ names.length ≤ gv + 1 ∧ names.length ≤ 60 ∧ names.Nodup ∧ (∀ n ∈ names, nmOk n) ∧
  ∀ (H' : Hp) (q : Addr) (ws : List W), Gen names gv ws → PotAt H' p g s → H' u = some (.lst ((names ++ takesOf ws).map sv)) → TupF H' q (ws.map wv) → (∀ b o, H b = some o → b ≠ p → b ≠ g → b ≠ u → H' b = some o) → Q (.ref q) H'
abbrev s_words : Stmt := (top 40)
theorem sc_words : FnScope ["_law_pot_here", "_law_names", "_law_gives", "_law_used", "_law_found", "_law_waiting", "_law_turn", "_law_row", "_law_many", "_law_name", "_law_least", "_law_cut", "_law_low", "_law_more"] ["_law_pot_here", "_law_names", "_law_gives", "_law_used"] (defScope s_words) := ⟨rfl, rfl, rfl, by decide +kernel, rfl, by decide +kernel, by decide +kernel⟩
theorem enc_ap : Str.ofString "@" = enc .ap := TL.ext_tl (by rw [TL.tl_ofString]; rfl)
theorem enc_tk' (n : Nm) : Str.ofString "/" ++ str n = enc (.tk n) := TL.ext_tl (by rw [TL.tl_append, TL.tl_ofString]; rfl)
theorem bigN : (2000 : Nat) < 2 ^ 200 := by decide +kernel
theorem c_words {P w K mg base} (B : Bt mg) (D : DefAt K mg "_law_words" s_words) (C_law_draw : Cal P w K mg base "_law_draw" 1 ["_law_pot_here", "_law_many"] spDraw)
    (C_law_fresh : Cal P w K mg base "_law_fresh" 2 ["_law_pot_here", "_law_used"] spFresh) (C_law_mixed : Cal P w K mg base "_law_mixed" 2 ["_law_pot_here", "_law_items"] spMixedN) :
    Cal P w K mg base "_law_words" 3 ["_law_pot_here", "_law_names", "_law_gives", "_law_used"] spWords := by
  refine cal_of D sc_words (fun _ _ _ _ _ _ us hl => match us, hl with | [_, _, _, _], _ => rfl) (fun vs H Q E h => ?_) (fun fa cdv A outer st0 H vs Q E hr h => ?_)
  · obtain ⟨p, g, s, m, u, names, gv, rfl, _⟩ := h
    rfl
  · obtain ⟨p, g, s, m, u, names, gv, rfl, PA, hm, hu, hmp, hmg, hmu, hup, hug, hgv, hng, hn60, hnd, hok, k⟩ := h
    refine ⟨_, (pss_cons (ps_set (i := 4) sc_words.nd rfl (by first | exact Or.inl rfl | exact Or.inr rfl) (pe_lst pa_nil))
      (pss_cons (ps_set (i := 5) sc_words.nd rfl (by first | exact Or.inl rfl | exact Or.inr rfl) (pe_lst (pa_cons (pe_tup (pa_cons (pe_callTy call_list_of (by rfl) B.b_list (by decide +kernel) (pa_cons (pv 1) pa_nil)) (pa_cons (pv 2) pa_nil))) pa_nil)))
      (pss_cons (ps_for PassesOwn.never rfl (pi_range1 (by rfl) B.b_range (pa_cons (pe_op op_add (pe_op op_mul pe_int (pv 2)) pe_int) pa_nil)) (pg_name (i := 6) sc_words.nd rfl (by first | exact Or.inl rfl | exact Or.inr rfl)) (pss_cons (ps_if (pt_cmpR op_eq (pe_callB call_len_seq (by rfl) B.b_len (by decide +kernel) (pa_cons (pv 5) pa_nil)) pe_int (nomark _)) (pss_one ps_break) pss_nil)
      (pss_cons (ps_asg (pe_bm0 PySem.F.plainAttrs_list PySem.F.slot_list_pop PySem.F.type_list_pop mt_pop (pv 5)) (pg_tup (by rfl) (pgs_cons (pg_name (i := 7) sc_words.nd rfl (by first | exact Or.inl rfl | exact Or.inr rfl)) (pgs_cons (pg_name (i := 8) sc_words.nd rfl (by first | exact Or.inl rfl | exact Or.inr rfl)) pgs_nil))))
      (pss_one (ps_if (PW.pt (pw_and (pt_cmpR op_eq (pv 8) pe_int (nomark _)) (pw_and1 (pt_cmpR op_eq (pe_callB call_len_seq (by rfl) B.b_len (by decide +kernel) (pa_cons (pv 7) pa_nil)) pe_int (nomark _))))) (pss_one (ps_expr (pe_bm PySem.F.plainAttrs_list PySem.F.slot_list_append PySem.F.type_list_append mt_append (pv 4) (pa_cons (pe_ix ix_list (pv 7) pe_int (fun _ _ => rfl)) pa_nil)))) (pss_one (ps_if (PW.pt (pw_or (pt_cmpR op_eq (pv 8) pe_int (nomark _)) (pw_or1 (PW.pt (pw_and (pt_cmpR op_le (pe_callB call_len_seq (by rfl) B.b_len (by decide +kernel) (pa_cons (pv 7) pa_nil)) (pv 8) (nomark _)) (pw_and1 (pt_cmpR op_eq (pe_c C_law_draw (hr.mono (by decide)) (pa_cons (pv 0) (pa_cons pe_int pa_nil))) pe_int (nomark _)))))))) (pss_cons (ps_set (i := 9) sc_words.nd rfl (by first | exact Or.inl rfl | exact Or.inr rfl) (pe_c C_law_fresh (hr.mono (by decide)) (pa_cons (pv 0) (pa_cons (pv 3) pa_nil))))
      (pss_cons (ps_expr (pe_bm PySem.F.plainAttrs_list PySem.F.slot_list_append PySem.F.type_list_append mt_append (pv 4) (pa_cons (pe_op op_add_str pe_str (pv 9)) pa_nil)))
      (pss_one (ps_expr (pe_bm PySem.F.plainAttrs_list PySem.F.slot_list_append PySem.F.type_list_append mt_append (pv 5) (pa_cons (pe_tup (pa_cons (pe_op op_cat (pv 7) (pe_lst (pa_cons (pv 9) pa_nil))) (pa_cons (pv 8) pa_nil))) pa_nil)))))) (pss_cons (ps_set (i := 7) sc_words.nd rfl (by first | exact Or.inl rfl | exact Or.inr rfl) (pe_c C_law_mixed (hr.mono (by decide)) (pa_cons (pv 0) (pa_cons (pv 7) pa_nil))))
      (pss_cons (ps_set (i := 10) sc_words.nd rfl (by first | exact Or.inl rfl | exact Or.inr rfl) (pe_callB (call_max2 rfl) (by rfl) B.b_max (by decide +kernel) (pa_cons pe_int (pa_cons (pe_op op_sub (pe_callB call_len_seq (by rfl) B.b_len (by decide +kernel) (pa_cons (pv 7) pa_nil)) (pv 8)) pa_nil))))
      (pss_cons (ps_set (i := 11) sc_words.nd rfl (by first | exact Or.inl rfl | exact Or.inr rfl) (pe_op op_add (pv 10) (pe_c C_law_draw (hr.mono (by decide)) (pa_cons (pv 0) (pa_cons (pe_op op_add (pe_op op_sub (pe_callB (call_min2 rfl) (by rfl) B.b_min (by decide +kernel) (pa_cons (pe_callB call_len_seq (by rfl) B.b_len (by decide +kernel) (pa_cons (pv 7) pa_nil)) (pa_cons (pv 8) pa_nil))) (pv 10)) pe_int) pa_nil)))))
      (pss_cons (ps_set (i := 12) sc_words.nd rfl (by first | exact Or.inl rfl | exact Or.inr rfl) (pe_callB (call_max2 rfl) (by rfl) B.b_max (by decide +kernel) (pa_cons pe_int (pa_cons (pe_op op_sub (pv 11) pe_int) pa_nil))))
      (pss_cons (ps_set (i := 13) sc_words.nd rfl (by first | exact Or.inl rfl | exact Or.inr rfl) (pe_op op_add (pv 12) (pe_c C_law_draw (hr.mono (by decide)) (pa_cons (pv 0) (pa_cons (pe_op op_add (pe_op op_sub (pe_op op_sub (pe_op op_sub (pv 8) pe_int) (pe_callB (call_max2 rfl) (by rfl) B.b_max (by decide +kernel) (pa_cons pe_int (pa_cons (pe_op op_sub (pe_op op_sub (pe_callB call_len_seq (by rfl) B.b_len (by decide +kernel) (pa_cons (pv 7) pa_nil)) (pv 11)) pe_int) pa_nil)))) (pv 12)) pe_int) pa_nil)))))
      (pss_cons (ps_expr (pe_bm PySem.F.plainAttrs_list PySem.F.slot_list_append PySem.F.type_list_append mt_append (pv 4) (pa_cons pe_str pa_nil)))
      (pss_cons (ps_expr (pe_bm PySem.F.plainAttrs_list PySem.F.slot_list_append PySem.F.type_list_append mt_append (pv 5) (pa_cons (pe_tup (pa_cons (pe_slice sl_list (pv 7) (po_some (pv 11)) po_none) (pa_cons (pe_op op_sub (pe_op op_sub (pv 8) pe_int) (pv 13)) pa_nil))) pa_nil)))
      (pss_one (ps_expr (pe_bm PySem.F.plainAttrs_list PySem.F.slot_list_append PySem.F.type_list_append mt_append (pv 5) (pa_cons (pe_tup (pa_cons (pe_slice sl_list (pv 7) po_none (po_some (pv 11))) (pa_cons (pv 13) pa_nil))) pa_nil))))))))))))))))))
      (pss_one (ps_ret (pe_callTy call_tupleF (by rfl) B.b_tuple (by decide +kernel) (pa_cons (pv 4) pa_nil))))))), ?_⟩
    -- found = []
    refine ⟨Nat.zero_le _, fun f nf => ?_⟩
    have S1 : Same H (upd H f (.lst [])) := same_upd nf
    have F1 : upd H f (.lst []) f = some (.lst []) := upd_same
    have PA1 := PA.keep S1
    generalize upd H f (.lst []) = H1 at *
    -- waiting = [(list(names), gives)]
    refine ⟨_, rfl, _, _, rfl, .inl (SqL.of (S1 _ _ hm)), fun R nR => ?_⟩
    have S2 : Same H1 (upd H1 R (.lst (names.map sv))) := same_upd nR
    have R2' : upd H1 R (.lst (names.map sv)) R = some (.lst (names.map sv)) := upd_same
    have PA2 := PA1.keep S2
    generalize upd H1 R (.lst (names.map sv)) = H2 at *
    refine ⟨_, rfl, (by show 2 ≤ sizeLine; decide), fun T nT => ?_⟩
    have S3 : Same H2 (upd H2 T (.tup [.ref R, .int (gv : Nat)])) := same_upd nT
    have T3 : upd H2 T (.tup [.ref R, .int (gv : Nat)]) T = some (.tup [.ref R, .int (gv : Nat)]) := upd_same
    have PA3 := PA2.keep S3
    generalize upd H2 T (.tup [.ref R, .int (gv : Nat)]) = H3 at *
    refine ⟨(by show 1 ≤ sizeLine; decide), fun w nw => ?_⟩
    have S4 : Same H3 (upd H3 w (.lst [.ref T])) := same_upd nw
    have W4 : upd H3 w (.lst [.ref T]) w = some (.lst [.ref T]) := upd_same
    have PA4 := PA3.keep S4
    generalize upd H3 w (.lst [.ref T]) = H4 at *
    have S14 : Same H1 H4 := (S2.trans S3).trans S4
    obtain ⟨⟨G, S, t, r, z1, z2, z3, z4⟩, _, _, _⟩ := id PA
    have AP : Apart p g s u f w H := by
      have q1 := S1.trans (S2.trans S3)
      exact ⟨(ne_of_none z1 nf).symm, (ne_of_none z2 nf).symm, (ne_of_none z3 nf).symm, (ne_of_none hu nf).symm, ne_of_none ((S2.trans S3) _ _ F1) nw, (ne_of_none (q1 _ _ z1) nw).symm, (ne_of_none (q1 _ _ z2) nw).symm, (ne_of_none (q1 _ _ z3) nw).symm, (ne_of_none (q1 _ _ hu) nw).symm, hup, hug, PA.su hu, nf, q1.free nw⟩
    have OR : Off p g u f w R := ⟨(ne_of_none (S1 _ _ z1) nR).symm, (ne_of_none (S1 _ _ z2) nR).symm, (ne_of_none (S1 _ _ hu) nR).symm, (ne_of_none F1 nR).symm, ne_of_none (S3 _ _ R2') nw⟩
    have OT : Off p g u f w T := ⟨(ne_of_none (S2 _ _ (S1 _ _ z1)) nT).symm, (ne_of_none (S2 _ _ (S1 _ _ z2)) nT).symm, (ne_of_none (S2 _ _ (S1 _ _ hu)) nT).symm, (ne_of_none (S2 _ _ F1) nT).symm, ne_of_none T3 nw⟩
    have I0 : WI p g s u f w names gv H H4 0 [] [(T, R, names, gv)] := by
      refine ⟨PA4, S14 _ _ F1, W4, ?_, ?_, ?_, ?_, rfl, ?_, Pre.start _, fun b o h _ _ _ => S14 _ _ (S1 _ _ h)⟩
      · show H4 u = some (.lst ((names ++ []).map sv))
        rw [List.append_nil]; exact S14 _ _ (S1 _ _ hu)
      · intro x hx
        have e : x = (T, R, names, gv) := by simpa using hx
        subst e
        exact ⟨S4 _ _ T3, S4 _ _ (S3 _ _ R2'), OT, OR, hng⟩
      · show (names ++ []).Nodup
        rw [List.append_nil]; exact hnd
      · intro n hn
        exact hok n (by simpa [takesOf] using hn)
      · show cost (names, gv) + 0 + 0 + names.length = _
        unfold cost
        show 3 * gv + 2 - names.length + 0 + 0 + names.length = _
        omega
    have fin : ∀ (Hz : Hp) (i : Nat) (F : List W), WI p g s u f w names gv H Hz i F [] → ∀ q o, Hz q = none → o.dict = none → Q (.ref q) (upd Hz q (.frz o (.tup (F.map wv)))) := by
      intro Hz i F I q o nq ho
      have Sz : Same Hz (upd Hz q (.frz o (.tup (F.map wv)))) := same_upd nq
      obtain ⟨tr, e1, e2⟩ := I.pre [] .nil
      refine k _ q F ⟨⟨tr, by simpa using e1, e2⟩, I.nd, I.ok⟩ (I.pot.keep Sz) (Sz _ _ I.hu) (TupF.new ho) fun b o h b1 b2 b3 => Sz _ _ (I.kp b o h b1 b2 b3)
    clear k PA1 PA2 PA3 S1 S2 S3 S4 S14 R2' T3 W4 F1 nR nT nw OR OT z1 z2 z3 z4
    -- for turn in range(3 * gives + 2)
    have en : (3 * ((gv : Nat) : Int) + 2).toNat = 3 * gv + 2 := by omega
    refine ⟨_, rfl, _, _, rfl, rfl, .inl ⟨by decide, by decide⟩, _, _, rfl, rfl, _, rfl, ?_, ?_, for_range (lo := 0) (n := (3 * ((gv : Nat) : Int) + 2).toNat) (fun i σ H' => ∃ (F : List W) (X : List Entry) (v6 v7 v8 v9 v10 v11 v12 v13 : Option V),
        σ = [some (.ref p), some (.ref m), some (.int (gv : Nat)), some (.ref u), some (.ref f), some (.ref w), v6, v7, v8, v9, v10, v11, v12, v13] ∧ WI p g s u f w names gv H H' i F X)
      ⟨[], _, none, none, none, none, none, none, none, none, rfl, I0⟩ ?_ ?_⟩
    · omega
    · omega
    · rintro i σ H' hi ⟨F, X, v6, v7, v8, v9, v10, v11, v12, v13, rfl, I⟩
      rw [en] at hi
      cases X with
      | nil =>
        refine ⟨_, rfl, _, _, rfl, .inl (SqL.of I.hw), rfl, _, rfl, iteT ?_⟩
        exact ⟨_, rfl, _, _, rfl, SqL.of I.hf, fun q o nq ho => fin _ _ _ I q o nq ho⟩
      | cons x X =>
        obtain ⟨T, R, row, mm⟩ := x
        have E := I.ent (T, R, row, mm) (List.mem_cons_self ..)
        have hiF := I.len
        have cst := I.cst
        have nopyl : ¬ (pyl ((T, R, row, mm) :: X)).length = 0 := by rw [pyl_cons]; simp
        refine ⟨_, rfl, _, _, rfl, .inl (SqL.of I.hw), rfl, _, rfl, ?_⟩
        rw [int0, decide_eq_false nopyl]
        refine iteF ?_
        -- row, many = waiting.pop()
        refine ⟨_, rfl, .inl ⟨rfl, _, SqL.of I.hw⟩, w, _, V.ref T, rfl, rfl, I.hw, (by rw [pyl_cons]; simp), ?_⟩
        have ed : (pyl ((T, R, row, mm) :: X)).dropLast = pyl X := by rw [pyl_cons]; simp
        rw [ed]
        have M0 : Mid p g s u f w names F X (T, R, row, mm) H' (upd H' w (.lst (pyl X))) :=
          ⟨I.pot.wr AP.wp AP.wg AP.ws, by rw [upd_ne AP.fw]; exact I.hf, upd_same, by rw [upd_ne AP.wu.symm]; exact I.hu, E.fro Fro.updw, Fro.updw⟩
        generalize upd H' w (.lst (pyl X)) = Hx at *
        have t0 : Hx T = some (.tup [.ref R, .int (mm : Nat)]) := M0.e.t
        refine ⟨T, _, rfl, SqT.of t0, rfl, _, _, rfl, _, _, rfl, rfl, ?_⟩
        clear t0
        have hle : row.length ≤ mm + 1 := E.le
        have r0 : Hx R = some (.lst (row.map sv)) := M0.e.r
        have hmm : mm ≤ 1000 := by
          have c := cst
          simp only [List.map_cons, costs, cost] at c
          omega
        have hrl : (row.map sv).length = row.length := List.length_map ..
        have hU : (names ++ takesOf F).length ≤ 1100 := by
          have := takesOf_len F
          rw [List.length_append]; omega
        have hF : (F.map wv).length < sizeLine := by rw [List.length_map]; exact small_lt (m := 2000) (by omega) (by decide)
        -- many == 0 and len(row) == 1
        refine ⟨_, rfl, rfl, _, rfl, ?_⟩
        rw [int0]
        refine (Decidable.em (mm = 0)).elim (fun hm0 => ?b0) (fun hm0 => ?b1)
        case' b0 =>
          rw [decide_eq_true hm0]
          refine iteT ⟨_, rfl, _, _, rfl, .inl (SqL.of r0), rfl, _, rfl, ?_⟩
          rw [int1, hrl]
          refine (Decidable.em (row.length = 1)).elim (fun hr1 => ?c0) (fun hr1 => ?c1)
          case' c0 =>
            rw [decide_eq_true hr1]
            refine iteT ?_
          case' c1 =>
            rw [decide_eq_false hr1]
            refine iteF ?_
            refine ⟨_, rfl, rfl, _, rfl, ?_⟩
            rw [int0, decide_eq_true hm0]
            refine iteT (iteT ?_)
            have M := M0
            have hy : row.length ≤ mm := by omega
            clear r0
            generalize Hx = Hy at *
        case' b1 =>
          rw [decide_eq_false hm0]
          refine iteF (iteF ?_)
          refine ⟨_, rfl, rfl, _, rfl, ?_⟩
          rw [int0, decide_eq_false hm0]
          refine iteF ?_
          refine ⟨_, rfl, _, _, rfl, .inl (SqL.of r0), _, rfl, _, _, rfl, rfl, _, rfl, ?_⟩
          refine ite2 (fun hc => ?ga) (fun hc => ?gb)
          case' ga =>
            have hy : row.length ≤ mm := by have := of_decide_eq_true hc; rw [hrl] at this; omega
            refine ⟨_, rfl, p, g, s, 2, rfl, M0.pot, by decide, by decide, fun H2 y P2 K2 y0 y1 => ⟨rfl, _, rfl, ?_⟩⟩
            have M := M0.keep AP P2 K2
            clear M0 r0
            refine ite2 (fun _ => ?gc) (fun _ => ?gd)
            case' gc => generalize H2 = Hy at *
            case' gd => generalize H2 = Hy at *
          case' gb =>
            have M := M0
            refine iteF ?_
            clear r0
            generalize Hx = Hy at *
        case c0 =>
          -- found.append(row[0])
          obtain ⟨n, rfl⟩ : ∃ n, row = [n] := by
            cases row with
            | nil => simp at hr1
            | cons n r =>
              cases r with
              | nil => exact ⟨n, rfl⟩
              | cons a r => simp at hr1
          subst hm0
          refine ⟨_, rfl, .inl ⟨rfl, _, SqL.of M0.hf⟩, _, rfl, _, _, _, _, rfl, rfl, SqL.of r0, rfl, f, _, _, rfl, rfl, M0.hf, hF, ?_⟩
          have tk0 : takesOf (F ++ [W.nm n]) = takesOf F := by rw [takesOf_app]; simp [takesOf]
          refine ⟨F ++ [.nm n], X, _, _, _, _, _, _, _, _, rfl, WI.next (Y := []) AP I (M0.fr.trans Fro.updf) (M0.pot.wr AP.fp AP.fg AP.fs) ?_ ?_ ?_ (fun y hy => absurd hy (by simp)) ?_ ?_ (by simp [I.len]) (by simp [costs, cost]) I.pre.nm⟩
          · rw [upd_same, List.map_append]; rfl
          · rw [upd_ne AP.fw.symm]; exact M0.hw
          · rw [upd_ne AP.fu.symm, tk0]; exact M0.hu
          · rw [tk0]; exact I.nd
          · rw [tk0]; exact I.ok
        case c1 | gc =>
          -- name = fresh(pot, used)
          refine ⟨_, rfl, _, rfl, p, g, s, u, names ++ takesOf F, rfl, M.pot, M.hu, hU, AP.up, AP.ug, fun H5 n nok nin P5 U5 k5 => ?_⟩
          have fr5 : Fro p g u f w Hy H5 := fun b o h kk => k5 b o h kk.p kk.g kk.u
          have hf5 := k5 f _ M.hf AP.fp AP.fg AP.fu
          have hw5 := k5 w _ M.hw AP.wp AP.wg AP.wu
          have E5 := M.e.fro fr5
          have fr05 := M.fr.trans fr5
          -- found.append('/' + name)
          refine ⟨_, rfl, .inl ⟨rfl, _, SqL.of hf5⟩, _, rfl, _, _, rfl, rfl, ?_, f, _, _, rfl, rfl, hf5, hF, ?_⟩
          · rw [len_str, sizeLine_eq]
            have := nok.2.1
            show 1 + _ ≤ _
            omega
          rw [enc_tk' n]
          have fr6 : Fro p g u f w H5 (upd H5 f (.lst (F.map wv ++ [wv (.tk n)]))) := Fro.updf
          have hf6 : upd H5 f (.lst (F.map wv ++ [wv (.tk n)])) f = some (.lst (F.map wv ++ [wv (.tk n)])) := upd_same
          have hw6 : upd H5 f (.lst (F.map wv ++ [wv (.tk n)])) w = _ := (upd_ne AP.fw.symm).trans hw5
          have hu6 : upd H5 f (.lst (F.map wv ++ [wv (.tk n)])) u = _ := (upd_ne AP.fu.symm).trans U5
          have P6 : PotAt (upd H5 f (.lst (F.map wv ++ [wv (.tk n)]))) p g s := P5.wr AP.fp AP.fg AP.fs
          have E6 := E5.fro fr6
          have fr06 := fr05.trans fr6
          generalize upd H5 f (.lst (F.map wv ++ [wv (.tk n)])) = H6 at *
          -- waiting.append((row + [name], many))
          have r6 : H6 R = some (.lst (row.map sv)) := E6.r
          refine ⟨_, rfl, .inl ⟨rfl, _, SqL.of hw6⟩, _, rfl, _, rfl, (by show 1 ≤ sizeLine; decide), fun q1 n1 => ?_⟩
          have S7 : Same H6 (upd H6 q1 (.lst [sv n])) := same_upd n1
          have l7 : upd H6 q1 (.lst [sv n]) q1 = some (.lst [sv n]) := upd_same
          have P7 := P6.keep S7
          generalize upd H6 q1 (.lst [sv n]) = H7 at *
          refine ⟨R, q1, _, _, rfl, rfl, S7 _ _ r6, l7, ?_, fun q2 n2 => ?_⟩
          · rw [hrl, sizeLine_eq]; show _ + 1 ≤ _; omega
          have eq2 : row.map sv ++ [sv n] = (row ++ [n]).map sv := by rw [List.map_append]; rfl
          rw [eq2]
          have S8 : Same H7 (upd H7 q2 (.lst ((row ++ [n]).map sv))) := same_upd n2
          have l8 : upd H7 q2 (.lst ((row ++ [n]).map sv)) q2 = some (.lst ((row ++ [n]).map sv)) := upd_same
          have P8 := P7.keep S8
          have o2 : Off p g u f w q2 := WI.offNew P7 (S7 _ _ hf6) (S7 _ _ hw6) (S7 _ _ hu6) n2
          generalize upd H7 q2 (.lst ((row ++ [n]).map sv)) = H8 at *
          refine ⟨_, rfl, (by show 2 ≤ sizeLine; decide), fun T2 nT2 => ?_⟩
          have S68 := S7.trans S8
          have S9 : Same H8 (upd H8 T2 (.tup [.ref q2, .int (mm : Nat)])) := same_upd nT2
          have l9 : upd H8 T2 (.tup [.ref q2, .int (mm : Nat)]) T2 = some (.tup [.ref q2, .int (mm : Nat)]) := upd_same
          have P9 := P8.keep S9
          have oT : Off p g u f w T2 := WI.offNew P8 (S68 _ _ hf6) (S68 _ _ hw6) (S68 _ _ hu6) nT2
          generalize upd H8 T2 (.tup [.ref q2, .int (mm : Nat)]) = H9 at *
          have S69 := S68.trans S9
          have hw9 := S69 _ _ hw6
          have hXl : (pyl X).length < sizeLine := by
            have c1 : ∀ (Y : List Entry), (∀ y ∈ Y, y.2.2.1.length ≤ y.2.2.2 + 1) → Y.length ≤ costs (Y.map (·.2.2)) := by
              intro Y
              induction Y with
              | nil => intro _; simp
              | cons y Y ih =>
                intro hy
                have h1 := ih fun z hz => hy z (List.mem_cons_of_mem _ hz)
                have h2 := hy y (List.mem_cons_self ..)
                simp only [List.length_cons, List.map_cons, costs, cost]
                omega
            have c2 := c1 X fun y hy => (I.ent y (List.mem_cons_of_mem _ hy)).le
            simp only [List.map_cons, costs] at cst
            have : (pyl X).length = X.length := by simp [pyl]
            rw [this, sizeLine_eq]; omega
          refine ⟨w, _, _, rfl, rfl, hw9, hXl, ?_⟩
          have tk1 : takesOf (F ++ [W.tk n]) = takesOf F ++ [n] := by rw [takesOf_app]; simp [takesOf]
          have eU : names ++ takesOf (F ++ [W.tk n]) = (names ++ takesOf F) ++ [n] := by rw [tk1, List.append_assoc]
          refine ⟨F ++ [.tk n], (T2, q2, row ++ [n], mm) :: X, _, _, _, _, _, _, _, _, rfl, WI.next (Y := [(T2, q2, row ++ [n], mm)]) AP I ((fr06.trans (Fro.same S69)).trans Fro.updw) (P9.wr AP.wp AP.wg AP.ws) ?_ ?_ ?_ ?_ ?_ ?_ (by simp [I.len]) ?_ I.pre.tk⟩
          · rw [upd_ne AP.fw, List.map_append]; exact S69 _ _ hf6
          · rw [upd_same]
            show _ = some (HO.lst (pyl ((T2, q2, row ++ [n], mm) :: X)))
            rw [pyl_cons]
          · rw [upd_ne AP.wu.symm, eU]; exact S69 _ _ hu6
          · intro y hy
            have e : y = (T2, q2, row ++ [n], mm) := by simpa using hy
            subst e
            exact ⟨by rw [upd_ne oT.w]; exact l9, by rw [upd_ne o2.w]; exact S9 _ _ l8, oT, o2, by show (row ++ [n]).length ≤ mm + 1; rw [List.length_append]; show _ + 1 ≤ _; omega⟩
          · rw [eU]
            refine List.nodup_append.mpr ⟨I.nd, by simp, fun a ha b hb e => ?_⟩
            have : b = n := by simpa using hb
            exact nin (by rw [← this, ← e]; exact ha)
          · rw [eU]
            intro x hx
            rcases List.mem_append.mp hx with hx | hx
            · exact I.ok x hx
            · have : x = n := by simpa using hx
              rw [this]; exact nok
          · show cost (row ++ [n], mm) + 0 + 1 = cost (row, mm)
            unfold cost
            show 3 * mm + 2 - (row ++ [n]).length + 0 + 1 = 3 * mm + 2 - row.length
            rw [List.length_append]; show 3 * mm + 2 - (row.length + 1) + 0 + 1 = _; omega
        case gd | gb =>
          -- row = mixed(pot, row)
          refine ⟨_, rfl, _, rfl, p, g, s, R, row, rfl, M.pot, M.e.r, by omega, M.e.or.p, M.e.or.g, fun H5 R5 ys hp P5 n5 L5 K5 => ?_⟩
          have M5 := M.keep AP P5 K5
          have o5 : Off p g u f w R5 := WI.offNew M.pot M.hf M.hw M.hu n5
          have hyl : ((ys.map sv).length : Nat) = row.length := by rw [List.length_map]; exact hp.length_eq
          have hm1 : 0 < mm := Nat.pos_of_ne_zero hm0
          have big := bigN
          -- least = max(0, len(row) - many)
          refine ⟨_, rfl, _, _, rfl, .inl (SqL.of L5), _, rfl, _, _, rfl, rfl, _, _, rfl, ?_⟩
          rw [hyl]
          generalize hle1 : (if ((row.length : Nat) : Int) - ((mm : Nat) : Int) > 0 then ((row.length : Nat) : Int) - ((mm : Nat) : Int) else 0) = le
          have le1 : (le = 0 ∧ row.length ≤ mm) ∨ (le = 1 ∧ row.length = mm + 1) := by
            rw [← hle1]
            by_cases q : row.length ≤ mm
            · rw [if_neg (by omega)]; exact .inl ⟨rfl, q⟩
            · rw [if_pos (by omega)]; exact .inr ⟨by omega, by omega⟩
          clear hle1
          -- cut = least + draw(pot, min(len(row), many) - least + 1)
          refine ⟨_, rfl, _, rfl, _, rfl, _, _, rfl, .inl (SqL.of L5), _, rfl, _, _, rfl, _, rfl, _, _, rfl, rfl, _, _, rfl, rfl, ?_⟩
          rw [hyl]
          generalize hmi : (if ((mm : Nat) : Int) < ((row.length : Nat) : Int) then ((mm : Nat) : Int) else ((row.length : Nat) : Int)) = mi
          have mi1 : mi ≤ mm ∧ mi ≤ row.length ∧ (mi = mm ∨ mi = row.length) := by
            rw [← hmi]
            by_cases q : ((mm : Nat) : Int) < ((row.length : Nat) : Int)
            · rw [if_pos q]; exact ⟨by omega, by omega, .inl rfl⟩
            · rw [if_neg q]; exact ⟨by omega, by omega, .inr rfl⟩
          clear hmi
          refine ⟨p, g, s, _, rfl, P5, by omega, by omega, fun H6 c1 P6 K6 c10 c11 => ?_⟩
          refine ⟨_, _, rfl, rfl, ?_⟩
          have M6 := M5.keep AP P6 K6
          have L6 := K6 _ _ L5 o5.p o5.g
          obtain ⟨cn, hcn⟩ : ∃ cn : Nat, le + c1 = (cn : Int) := ⟨(le + c1).toNat, by omega⟩
          have cnb : cn ≤ row.length ∧ cn ≤ mm ∧ row.length ≤ cn + mm ∧ (cn = 0 → row.length ≤ mm) := by omega
          show gName 11 (V.int (le + c1)) _ _ _
          rw [hcn]
          clear hcn c10 c11 mi1
          -- low = max(0, cut - 1)
          refine ⟨_, rfl, _, _, rfl, rfl, _, _, rfl, ?_⟩
          generalize hlo : (if ((cn : Nat) : Int) - 1 > 0 then ((cn : Nat) : Int) - 1 else 0) = lo
          have lo1 : (lo = 0 ∧ cn ≤ 1) ∨ (lo = (cn : Int) - 1 ∧ 1 ≤ cn) := by
            rw [← hlo]
            by_cases q : ((cn : Nat) : Int) - 1 > 0
            · rw [if_pos q]; exact .inr ⟨rfl, by omega⟩
            · rw [if_neg q]; exact .inl ⟨rfl, by omega⟩
          clear hlo
          -- more
          refine ⟨_, rfl, _, rfl, _, rfl, _, _, rfl, rfl, _, rfl, _, _, rfl, .inl (SqL.of L6), _, rfl, _, _, rfl, rfl, _, _, rfl, rfl, _, _, rfl, _, _, rfl, rfl, _, rfl, _, _, rfl, rfl, _, _, rfl, rfl, ?_⟩
          rw [hyl]
          generalize hma : (if ((row.length : Nat) : Int) - ((cn : Nat) : Int) - 1 > 0 then ((row.length : Nat) : Int) - ((cn : Nat) : Int) - 1 else 0) = ma
          have ma1 : (ma = 0 ∧ (row.length : Int) - cn - 1 ≤ 0) ∨ (ma = (row.length : Int) - cn - 1 ∧ 0 < (row.length : Int) - cn - 1) := by
            rw [← hma]
            by_cases q : ((row.length : Nat) : Int) - ((cn : Nat) : Int) - 1 > 0
            · rw [if_pos q]; exact .inr ⟨rfl, q⟩
            · rw [if_neg q]; exact .inl ⟨rfl, by omega⟩
          clear hma
          refine ⟨p, g, s, _, rfl, P6, by omega, by omega, fun H7 m1 P7 K7 m10 m11 => ?_⟩
          refine ⟨_, _, rfl, rfl, ?_⟩
          have M7 := M6.keep AP P7 K7
          have L7 := K7 _ _ L6 o5.p o5.g
          obtain ⟨mn, hmn⟩ : ∃ mn : Nat, lo + m1 = (mn : Int) := ⟨(lo + m1).toNat, by omega⟩
          have mnb : cn ≤ mn + 1 ∧ mn + 1 ≤ mm ∧ row.length - cn ≤ mm - mn := by omega
          show gName 13 (V.int (lo + m1)) _ _ _
          rw [hmn]
          clear hmn m10 m11 ma1 lo1 le1
          -- found.append('@')
          have fr7 := M7.fr
          have hf7 := M7.hf
          refine ⟨_, rfl, .inl ⟨rfl, _, SqL.of hf7⟩, f, _, _, rfl, rfl, hf7, hF, ?_⟩
          rw [enc_ap]
          have M8 : Mid p g s u f w names (F ++ [W.ap]) X (T, R, row, mm) H' (upd H7 f (.lst (F.map wv ++ [wv .ap]))) := by
            have tk0 : takesOf (F ++ [W.ap]) = takesOf F := by rw [takesOf_app]; simp [takesOf]
            refine ⟨P7.wr AP.fp AP.fg AP.fs, by rw [upd_same, List.map_append]; rfl, by rw [upd_ne AP.fw.symm]; exact M7.hw, by rw [upd_ne AP.fu.symm, tk0]; exact M7.hu, M7.e.fro Fro.updf, M7.fr.trans Fro.updf⟩
          have L8 : upd H7 f (.lst (F.map wv ++ [wv .ap])) R5 = some (.lst (ys.map sv)) := (upd_ne o5.f).trans L7
          generalize upd H7 f (.lst (F.map wv ++ [wv .ap])) = H8 at *
          have hXl : (pyl X).length + 1 < sizeLine := by
            have c1 : ∀ (Y : List Entry), (∀ y ∈ Y, y.2.2.1.length ≤ y.2.2.2 + 1) → Y.length ≤ costs (Y.map (·.2.2)) := by
              intro Y
              induction Y with
              | nil => intro _; simp
              | cons y Y ih =>
                intro hy
                have h1 := ih fun z hz => hy z (List.mem_cons_of_mem _ hz)
                have h2 := hy y (List.mem_cons_self ..)
                simp only [List.length_cons, List.map_cons, costs, cost]
                omega
            have c2 := c1 X fun y hy => (I.ent y (List.mem_cons_of_mem _ hy)).le
            simp only [List.map_cons, costs] at cst
            have : (pyl X).length = X.length := by simp [pyl]
            rw [this, sizeLine_eq]; omega
          -- waiting.append((row[cut:], many - 1 - more))
          refine ⟨_, rfl, .inl ⟨rfl, _, SqL.of M8.hw⟩, _, rfl, _, rfl, _, rfl, R5, _, rfl, SqL.of L8, fun q1 n1 => ?_⟩
          have ec1 : cutV (ys.map sv) (some ((cn : Nat) : Int)) none = (ys.drop cn).map sv := by rw [cut_from, List.map_drop]
          rw [ec1]
          have S9 : Same H8 (upd H8 q1 (.lst ((ys.drop cn).map sv))) := same_upd n1
          have l9 : upd H8 q1 (.lst ((ys.drop cn).map sv)) q1 = some (.lst ((ys.drop cn).map sv)) := upd_same
          have o9 : Off p g u f w q1 := WI.offNew M8.pot M8.hf M8.hw M8.hu n1
          have M9 := M8.same S9
          have L9 := S9 _ _ L8
          generalize upd H8 q1 (.lst ((ys.drop cn).map sv)) = H9 at *
          refine ⟨_, rfl, _, _, rfl, rfl, _, rfl, _, _, rfl, rfl, (by show 2 ≤ sizeLine; decide), fun T1 nT1 => ?_⟩
          have e2 : ((mm : Nat) : Int) - 1 - ((mn : Nat) : Int) = ((mm - 1 - mn : Nat) : Int) := by omega
          have e3 : (V.int (((mm : Nat) : Int) - 1 - ((mn : Nat) : Int))) = V.int ((mm - 1 - mn : Nat) : Int) := by rw [e2]
          show tNil _ (upd H9 T1 (.tup [.ref q1, V.int (((mm : Nat) : Int) - 1 - ((mn : Nat) : Int))])) _
          rw [e3]
          have S10 : Same H9 (upd H9 T1 (.tup [.ref q1, .int ((mm - 1 - mn : Nat) : Int)])) := same_upd nT1
          have l10 : upd H9 T1 (.tup [.ref q1, .int ((mm - 1 - mn : Nat) : Int)]) T1 = some (.tup [.ref q1, .int ((mm - 1 - mn : Nat) : Int)]) := upd_same
          have o10 : Off p g u f w T1 := WI.offNew M9.pot M9.hf M9.hw M9.hu nT1
          have M10 := M9.same S10
          have L10 := S10 _ _ L9
          have l9' := S10 _ _ l9
          generalize upd H9 T1 (.tup [.ref q1, .int ((mm - 1 - mn : Nat) : Int)]) = H10 at *
          refine ⟨w, _, _, rfl, rfl, M10.hw, by omega, ?_⟩
          have E1 : Ent p g u f w (upd H10 w (.lst (pyl X ++ [.ref T1]))) (T1, q1, ys.drop cn, mm - 1 - mn) :=
            ⟨(upd_ne o10.w).trans l10, (upd_ne o9.w).trans l9', o10, o9, by show (ys.drop cn).length ≤ mm - 1 - mn + 1; rw [List.length_drop, hp.length_eq]; omega⟩
          have ep1 : pyl X ++ [.ref T1] = pyl ((T1, q1, ys.drop cn, mm - 1 - mn) :: X) := (pyl_cons (T1, q1, ys.drop cn, mm - 1 - mn) X).symm
          have M11 : Mid p g s u f w names (F ++ [W.ap]) ((T1, q1, ys.drop cn, mm - 1 - mn) :: X) (T, R, row, mm) H' (upd H10 w (.lst (pyl X ++ [.ref T1]))) :=
            ⟨M10.pot.wr AP.wp AP.wg AP.ws, (upd_ne AP.fw).trans M10.hf, by rw [← ep1]; exact upd_same, (upd_ne AP.wu.symm).trans M10.hu, M10.e.fro Fro.updw, M10.fr.trans Fro.updw⟩
          have L11 : upd H10 w (.lst (pyl X ++ [.ref T1])) R5 = some (.lst (ys.map sv)) := (upd_ne o5.w).trans L10
          generalize upd H10 w (.lst (pyl X ++ [.ref T1])) = H11 at *
          -- waiting.append((row[:cut], more))
          refine ⟨_, rfl, .inl ⟨rfl, _, SqL.of M11.hw⟩, _, rfl, _, rfl, _, rfl, R5, _, rfl, SqL.of L11, fun q2 n2 => ?_⟩
          have ec2 : cutV (ys.map sv) none (some ((cn : Nat) : Int)) = (ys.take cn).map sv := by rw [cut_to, List.map_take]
          rw [ec2]
          have S12 : Same H11 (upd H11 q2 (.lst ((ys.take cn).map sv))) := same_upd n2
          have l12 : upd H11 q2 (.lst ((ys.take cn).map sv)) q2 = some (.lst ((ys.take cn).map sv)) := upd_same
          have o12 : Off p g u f w q2 := WI.offNew M11.pot M11.hf M11.hw M11.hu n2
          have M12 := M11.same S12
          have E2 := E1.fro (Fro.same S12)
          generalize upd H11 q2 (.lst ((ys.take cn).map sv)) = H12 at *
          refine ⟨_, rfl, (by show 2 ≤ sizeLine; decide), fun T2 nT2 => ?_⟩
          have S13 : Same H12 (upd H12 T2 (.tup [.ref q2, .int ((mn : Nat) : Int)])) := same_upd nT2
          have l13 : upd H12 T2 (.tup [.ref q2, .int ((mn : Nat) : Int)]) T2 = some (.tup [.ref q2, .int ((mn : Nat) : Int)]) := upd_same
          have o13 : Off p g u f w T2 := WI.offNew M12.pot M12.hf M12.hw M12.hu nT2
          have M13 := M12.same S13
          have E3 := E2.fro (Fro.same S13)
          have l12' := S13 _ _ l12
          generalize upd H12 T2 (.tup [.ref q2, .int ((mn : Nat) : Int)]) = H13 at *
          refine ⟨w, _, _, rfl, rfl, M13.hw, by rw [pyl_cons, List.length_append]; exact hXl, ?_⟩
          have hpl := hp.length_eq
          refine ⟨F ++ [.ap], (T2, q2, ys.take cn, mn) :: (T1, q1, ys.drop cn, mm - 1 - mn) :: X, _, _, _, _, _, _, _, _, rfl,
            WI.next (Y := [(T2, q2, ys.take cn, mn), (T1, q1, ys.drop cn, mm - 1 - mn)]) AP I (M13.fr.trans Fro.updw) (M13.pot.wr AP.wp AP.wg AP.ws) ((upd_ne AP.fw).trans M13.hf) ?_ ((upd_ne AP.wu.symm).trans M13.hu) ?_ ?_ ?_ (by simp [I.len]) ?_ (I.pre.ap (by rw [List.take_append_drop]; exact hp) (by omega))⟩
          · rw [upd_same]
            show _ = some (HO.lst (pyl ((T2, q2, ys.take cn, mn) :: (T1, q1, ys.drop cn, mm - 1 - mn) :: X)))
            rw [pyl_cons (T2, q2, ys.take cn, mn)]
          · intro y hy
            have e : y = (T2, q2, ys.take cn, mn) ∨ y = (T1, q1, ys.drop cn, mm - 1 - mn) := by simpa using hy
            rcases e with e | e
            · subst e
              exact ⟨(upd_ne o13.w).trans l13, (upd_ne o12.w).trans l12', o13, o12, by show (ys.take cn).length ≤ mn + 1; rw [List.length_take]; omega⟩
            · subst e
              exact E3.fro Fro.updw
          · have tk0 : takesOf (F ++ [W.ap]) = takesOf F := by rw [takesOf_app]; simp [takesOf]
            rw [tk0]; exact I.nd
          · have tk0 : takesOf (F ++ [W.ap]) = takesOf F := by rw [takesOf_app]; simp [takesOf]
            rw [tk0]; exact I.ok
          · show cost (ys.take cn, mn) + (cost (ys.drop cn, mm - 1 - mn) + 0) + 1 = cost (row, mm)
            unfold cost
            show 3 * mn + 2 - (ys.take cn).length + (3 * (mm - 1 - mn) + 2 - (ys.drop cn).length + 0) + 1 = 3 * mm + 2 - row.length
            rw [List.length_take, List.length_drop]
            omega
    · rintro σ H' ⟨F, X, v6, v7, v8, v9, v10, v11, v12, v13, rfl, I⟩
      rw [en] at I
      have c := I.cst
      cases X with
      | nil => exact ⟨_, rfl, _, _, rfl, SqL.of I.hf, fun q o nq ho => fin _ _ _ I q o nq ho⟩
      | cons x X =>
        have e := I.ent x (List.mem_cons_self ..)
        have l := e.le
        simp only [List.map_cons, costs, cost] at c
        omega
end Kk

set_option maxHeartbeats 2000000
namespace Kk
open PySem PySem.Spec PyProof.Rows L2 Wd
def spSize : Sp := fun vs H Q _ => ∃ (p g s : Addr) (m : Nat), vs = [.ref p, .int (m : Int)] ∧ PotAt H p g s ∧ m ≤ 333 ∧
  ∀ (H' : Hp) (n : Nat), n ≤ max m 9 → PotAt H' p g s → Keep p g H H' → Q (.int (n : Int)) H'
abbrev s_size : Stmt := (top 41)
theorem sc_size : FnScope ["_law_pot_here", "_law_most", "_law_turn"] ["_law_pot_here", "_law_most"] (defScope s_size) := ⟨rfl, rfl, rfl, by decide +kernel, rfl, by decide +kernel, by decide +kernel⟩
theorem c_size {P w K mg base} (B : Bt mg) (D : DefAt K mg "_law_size" s_size) (C_law_draw : Cal P w K mg base "_law_draw" 1 ["_law_pot_here", "_law_many"] spDraw) : Cal P w K mg base "_law_size" 2 ["_law_pot_here", "_law_most"] spSize := by
  refine cal_of D sc_size (fun _ _ _ _ _ _ us hl => match us, hl with | [_, _], _ => rfl) (fun vs H Q E h => ?_) (fun fa cdv A outer st0 H vs Q E hr h => ?_)
  · obtain ⟨p, g, s, m, rfl, _⟩ := h
    rfl
  · obtain ⟨p, g, s, m, rfl, PA, hm, k⟩ := h
    refine ⟨_, (pss_cons (ps_set (i := 2) sc_size.nd rfl (by first | exact Or.inl rfl | exact Or.inr rfl) (pe_c C_law_draw (hr.mono (by decide)) (pa_cons (pv 0) (pa_cons pe_int pa_nil))))
      (pss_cons (ps_if (pt_cmpR op_eq (pv 2) pe_int (nomark _)) (pss_one (ps_ret (pe_c C_law_draw (hr.mono (by decide)) (pa_cons (pv 0) (pa_cons (pe_op op_add (pv 1) pe_int) pa_nil))))) pss_nil)
      (pss_one (ps_ret (pe_c C_law_draw (hr.mono (by decide)) (pa_cons (pv 0) (pa_cons (pe_ifExp (pt_cmpR op_eq (pe_op op_mod (pe_callTy call_int1 (by rfl) B.b_int (by decide +kernel) (pa_cons (pv 2) pa_nil)) pe_int) pe_int (nomark _)) pe_int pe_int) pa_nil))))))), ?_⟩
    have big := bigN
    refine ⟨_, rfl, p, g, s, 32, rfl, PA, by decide, by decide, fun H1 t P1 K1 t0 t1 => ?_⟩
    refine ⟨_, rfl, rfl, _, rfl, ?_⟩
    refine ite2 (fun _ => ?_) (fun _ => ?_)
    · refine ⟨_, rfl, _, rfl, _, _, rfl, rfl, p, g, s, _, rfl, P1, by omega, by omega, fun H2 r P2 K2 r0 r1 => ?_⟩
      obtain ⟨n, rfl⟩ : ∃ n : Nat, r = (n : Int) := ⟨r.toNat, by omega⟩
      exact k _ n (by omega) P2 (K1.trans K2)
    · refine ⟨_, rfl, _, rfl, .inl ⟨_, rfl, _, _, rfl, rfl, (show (0 : Int) < 2 by decide), rfl, _, rfl, ?_⟩⟩
      refine ite2 (fun _ => ?_) (fun _ => ?_)
      · refine ⟨p, g, s, 5, rfl, P1, by decide, by decide, fun H2 r P2 K2 r0 r1 => ?_⟩
        obtain ⟨n, rfl⟩ : ∃ n : Nat, r = (n : Int) := ⟨r.toNat, by omega⟩
        exact k _ n (by omega) P2 (K1.trans K2)
      · refine ⟨p, g, s, 10, rfl, P1, by decide, by decide, fun H2 r P2 K2 r0 r1 => ?_⟩
        obtain ⟨n, rfl⟩ : ∃ n : Nat, r = (n : Int) := ⟨r.toNat, by omega⟩
        exact k _ n (by omega) P2 (K1.trans K2)
def spProgram : Sp := fun vs H Q _ => ∃ (p g s : Addr) (m k : Nat), vs = [.ref p, .int (m : Int), .int (k : Int)] ∧ PotAt H p g s ∧ m ≤ 333 ∧ k ≤ 50 ∧
  ∀ (H' : Hp) (q : Addr) (names : List Nm) (gv : Nat) (ws : List W), Gen names gv ws → gv ≤ max m 9 → names.length ≤ k → PotAt H' p g s → TupF H' q (ws.map wv) → Keep p g H H' → Q (.ref q) H'
abbrev s_program : Stmt := (top 42)
theorem sc_program : FnScope ["_law_pot_here", "_law_most", "_law_many", "_law_gives", "_law_names", "_law_one"] ["_law_pot_here", "_law_most", "_law_many"] (defScope s_program) := ⟨rfl, rfl, rfl, by decide +kernel, rfl, by decide +kernel, by decide +kernel⟩
theorem c_program {P w K mg base} (B : Bt mg) (D : DefAt K mg "_law_program" s_program) (C_law_draw : Cal P w K mg base "_law_draw" 1 ["_law_pot_here", "_law_many"] spDraw) (C_law_size : Cal P w K mg base "_law_size" 2 ["_law_pot_here", "_law_most"] spSize)
    (C_law_fresh : Cal P w K mg base "_law_fresh" 2 ["_law_pot_here", "_law_used"] spFresh) (C_law_words : Cal P w K mg base "_law_words" 3 ["_law_pot_here", "_law_names", "_law_gives", "_law_used"] spWords) : Cal P w K mg base "_law_program" 4 ["_law_pot_here", "_law_most", "_law_many"] spProgram := by
  refine cal_of D sc_program (fun _ _ _ _ _ _ us hl => match us, hl with | [_, _, _], _ => rfl) (fun vs H Q E h => ?_) (fun fa cdv A outer st0 H vs Q E hr h => ?_)
  · obtain ⟨p, g, s, m, k, rfl, _⟩ := h
    rfl
  · obtain ⟨p, g, s, m, kk, rfl, PA, hm, hk, k⟩ := h
    refine ⟨_, (pss_cons (ps_set (i := 3) sc_program.nd rfl (by first | exact Or.inl rfl | exact Or.inr rfl) (pe_c C_law_size (hr.mono (by decide)) (pa_cons (pv 0) (pa_cons (pv 1) pa_nil))))
      (pss_cons (ps_set (i := 4) sc_program.nd rfl (by first | exact Or.inl rfl | exact Or.inr rfl) (pe_lst pa_nil))
      (pss_cons (ps_for PassesOwn.never rfl (pi_range1 (by rfl) B.b_range (pa_cons (pe_callB (call_min2 rfl) (by rfl) B.b_min (by decide +kernel) (pa_cons (pe_c C_law_draw (hr.mono (by decide)) (pa_cons (pv 0) (pa_cons (pe_op op_add (pv 2) pe_int) pa_nil))) (pa_cons (pe_op op_add (pv 3) pe_int) pa_nil))) pa_nil)) (pg_name (i := 5) sc_program.nd rfl (by first | exact Or.inl rfl | exact Or.inr rfl)) (pss_one (ps_expr (pe_c C_law_fresh (hr.mono (by decide)) (pa_cons (pv 0) (pa_cons (pv 4) pa_nil))))))
      (pss_one (ps_ret (pe_c C_law_words (hr.mono (by decide)) (pa_cons (pv 0) (pa_cons (pe_callTy call_list_of (by rfl) B.b_list (by decide +kernel) (pa_cons (pv 4) pa_nil)) (pa_cons (pv 3) (pa_cons (pv 4) pa_nil)))))))))), ?_⟩
    have big := bigN
    refine ⟨_, rfl, _, rfl, p, g, s, m, rfl, PA, hm, fun H1 gv hgm P1 K1 => ?_⟩
    have hgv : gv ≤ 333 := by omega
    refine ⟨Nat.zero_le _, fun u nu => ?_⟩
    have S2 : Same H1 (upd H1 u (.lst [])) := same_upd nu
    have U2 : upd H1 u (.lst []) u = some (.lst []) := upd_same
    have P2 := P1.keep S2
    have K2 : Keep p g H (upd H1 u (.lst [])) := K1.trans (Same.keep S2)
    have hu0 : ∀ b o, H b = some o → b ≠ p → b ≠ g → b ≠ u := fun b o hb b1 b2 => ne_of_none (K1 b o hb b1 b2) nu
    have hup : u ≠ p := by
      obtain ⟨⟨G, S, t, r, z1, z2, z3, z4⟩, _, _, _⟩ := P1
      exact (ne_of_none z1 nu).symm
    have hug : u ≠ g := by
      obtain ⟨⟨G, S, t, r, z1, z2, z3, z4⟩, _, _, _⟩ := P1
      exact (ne_of_none z2 nu).symm
    generalize upd H1 u (.lst []) = H2 at *
    refine ⟨_, rfl, _, rfl, _, _, rfl, rfl, p, g, s, _, rfl, P2, by omega, by omega, fun H3 d P3 K3 d0 d1 => ?_⟩
    refine ⟨_, rfl, _, _, rfl, rfl, _, _, rfl, ?_⟩
    generalize hmi : (if ((gv : Nat) : Int) + 1 < d then ((gv : Nat) : Int) + 1 else d) = mi
    have mi1 : 0 ≤ mi ∧ mi ≤ gv + 1 ∧ mi ≤ kk := by
      rw [← hmi]
      by_cases q : ((gv : Nat) : Int) + 1 < d
      · rw [if_pos q]; exact ⟨by omega, by omega, by omega⟩
      · rw [if_neg q]; exact ⟨by omega, by omega, by omega⟩
    clear hmi
    have U3 := K3 _ _ U2 hup hug
    refine ⟨_, rfl, by omega, by omega, for_range (lo := 0) (n := mi.toNat) (fun i σ H' => ∃ (ns : List Nm) (v : Option V), σ = [some (.ref p), some (.int (m : Int)), some (.int (kk : Int)), some (.int (gv : Int)), some (.ref u), v] ∧ PotAt H' p g s ∧ H' u = some (.lst (ns.map sv)) ∧ ns.length = i ∧ ns.Nodup ∧ (∀ n ∈ ns, nmOk n) ∧ Keep p g H H')
      ⟨[], none, rfl, P3, U3, rfl, List.nodup_nil, by simp, K2.trans K3⟩ ?_ ?_⟩
    · rintro i σ H' hi ⟨ns, v, rfl, P4, U4, hl, nd, ok, K4⟩
      refine ⟨_, rfl, _, rfl, p, g, s, u, ns, rfl, P4, U4, by omega, hup, hug, fun H5 n nok nin P5 U5 k5 => ?_⟩
      refine ⟨ns ++ [n], _, rfl, P5, U5, by rw [List.length_append, hl]; rfl, ?_, ?_, fun b o hb b1 b2 => k5 b o (K4 b o hb b1 b2) b1 b2 (hu0 b o hb b1 b2)⟩
      · refine List.nodup_append.mpr ⟨nd, by simp, fun a ha b hb e => ?_⟩
        have : b = n := by simpa using hb
        exact nin (by rw [← this, ← e]; exact ha)
      · intro x hx
        rcases List.mem_append.mp hx with hx | hx
        · exact ok x hx
        · have : x = n := by simpa using hx
          rw [this]; exact nok
    · rintro σ H' ⟨ns, v, rfl, P4, U4, hl, nd, ok, K4⟩
      refine ⟨_, rfl, _, rfl, _, _, rfl, .inl (SqL.of U4), fun m2 n2 => ?_⟩
      have S5 : Same H' (upd H' m2 (.lst (ns.map sv))) := same_upd n2
      have M5 : upd H' m2 (.lst (ns.map sv)) m2 = some (.lst (ns.map sv)) := upd_same
      have P5 := P4.keep S5
      have U5 := S5 _ _ U4
      have K5 : Keep p g H (upd H' m2 (.lst (ns.map sv))) := K4.trans (Same.keep S5)
      have hmp : m2 ≠ p := by
        obtain ⟨⟨G, S, t, r, z1, z2, z3, z4⟩, _, _, _⟩ := P4
        exact (ne_of_none z1 n2).symm
      have hmg : m2 ≠ g := by
        obtain ⟨⟨G, S, t, r, z1, z2, z3, z4⟩, _, _, _⟩ := P4
        exact (ne_of_none z2 n2).symm
      have hmu : m2 ≠ u := (ne_of_none U4 n2).symm
      generalize upd H' m2 (.lst (ns.map sv)) = H5 at *
      refine ⟨_, rfl, _, rfl, p, g, s, m2, u, ns, gv, rfl, P5, M5, U5, hmp, hmg, hmu, hup, hug, hgv, by omega, by omega, nd, ok, fun H6 q ws G6 P6 U6 T6 k6 => ?_⟩
      exact k _ q ns gv ws G6 hgm (by omega) P6 T6 fun b o hb b1 b2 => k6 b o (K5 b o hb b1 b2) b1 b2 (hu0 b o hb b1 b2)
end Kk

set_option maxHeartbeats 2000000
namespace Kk
open PySem PySem.Spec PyProof.Rows L2 Wd
theorem lc_text {x : Str} {g : TG} {tt : TT} {te : TE} {vs : List Nat} {σ : L2.St} {H1 : Hp} {D : Addr} {Qd : Hp → Prop} (Pv : Nat → Hp → Prop) (h0 : Pv 0 (upd H1 D (.lst [])))
    (hs : ∀ i c H, x.cps[i]? = some c → Pv i H → g (.str ⟨#[c]⟩) (wipe σ vs) H fun σ2 H2 => wipe σ2 vs = wipe σ vs ∧ tt σ2 H2 fun b H3 =>
      if b = true then te σ2 H3 fun y H4 => ∃ acc, H4 D = some (.lst acc) ∧ acc.length < sizeLine ∧ Pv (i + 1) (upd H4 D (.lst (acc ++ [y]))) else Pv (i + 1) H3) (hd : ∀ H, Pv x.cps.size H → Qd H) :
    ∃ W : Nat → Nat → Hp → Prop, (∃ m, W 0 m (upd H1 D (.lst []))) ∧ ∀ i m H, W i m H →
      ((Its x).stop i H ∧ Qd H) ∨ ((Its x).go i H ∧ ∃ Nx : Hp → Prop, (∀ H', Nx H' → ∃ m', m' < m ∧ W (i + 1) m' H') ∧ ∀ v H', (Its x).yld i H v H' → g v (wipe σ vs) H' fun σ2 H2 => wipe σ2 vs = wipe σ vs ∧ tt σ2 H2 fun b H3 =>
        if b = true then te σ2 H3 fun y H4 => ∃ acc, H4 D = some (.lst acc) ∧ acc.length < sizeLine ∧ Nx (upd H4 D (.lst (acc ++ [y]))) else Nx H3) := by
  refine ⟨fun i m H => m = x.cps.size - i ∧ i ≤ x.cps.size ∧ Pv i H, ⟨x.cps.size, by simp, Nat.zero_le _, h0⟩, ?_⟩
  rintro i m H ⟨rfl, hi, p⟩
  by_cases hlt : i < x.cps.size
  · refine .inr ⟨hlt, Pv (i + 1), fun H' p' => ⟨x.cps.size - (i + 1), by omega, rfl, hlt, p'⟩, fun v H' y => ?_⟩
    obtain ⟨rfl, c, hc, rfl⟩ := y
    exact hs i c _ hc p
  · have e : i = x.cps.size := by omega
    subst e
    exact .inl ⟨Nat.le_refl _, hd H p⟩
def spIsName : Sp := fun vs H Q _ => ∃ z : Str, vs = [.str z] ∧ z.length ≤ 1000 ∧ ∀ H', Same H H' → Q (.bl (nameB z)) H'
abbrev s_is_name : Stmt := (top 4)
theorem sc_is_name : FnScope ["thing", "sign"] ["thing"] (defScope s_is_name) := ⟨rfl, rfl, rfl, by decide +kernel, rfl, by decide +kernel, by decide +kernel⟩
theorem kitSS : kitB "str" "str" = some true := by decide +kernel
theorem c_is_name {P w K mg base} (B : Bt mg) (D : DefAt K mg "is_name" s_is_name) : Cal P w K mg base "is_name" 1 ["thing"] spIsName := by
  refine cal_of D sc_is_name (fun _ _ _ _ _ _ us hl => match us, hl with | [_], _ => rfl) (fun vs H Q E h => ?_) (fun fa cdv A outer st0 H vs Q E hr h => ?_)
  · obtain ⟨z, rfl, _⟩ := h
    rfl
  · obtain ⟨z, rfl, hz, k⟩ := h
    refine ⟨_, (pss_cons (ps_if (PW.pt (pw_or (pt_not (pt_val (pe_callB call_isi (by rfl) B.b_isinstance (by decide +kernel) (pa_cons (pv 0) (pa_cons (pe_ty (n := "str") B.b_str (by decide +kernel)) pa_nil))))) (pw_or1 (pt_not (pt_chain op_le op_le pe_int (pe_callB call_len_str (by rfl) B.b_len (by decide +kernel) (pa_cons (pv 0) pa_nil)) (pe_gi B.m_MOST_LETTERS)))))) (pss_one (ps_ret pe_bl)) pss_nil)
      (pss_one (ps_ret (pe_callB (cr_all rfl) (by rfl) B.b_all (by decide +kernel) (pa_cons (pe_lc (own := [("sign", 1)]) (g := (gName 1)) (tt := tYes) rfl sc_is_name.nd (pi_str (pv 0)) (blkOk_by (own := [("sign", 1)]) (N := ["thing", "sign"]) (sc := defScope s_is_name) (by decide +kernel)) (fun _ _ _ _ _ => (pg_name (i := 1) sc_is_name.nd rfl (by first | exact Or.inl rfl | exact Or.inr rfl))) (fun _ _ _ _ _ => pts_nil) (fun _ _ _ _ _ => (pe_cmpR op_in_sign (pv 1) (pe_gs B.m_LETTERS) (by rfl)))) pa_nil))))), ?_⟩
    refine ⟨_, rfl, _, _, _, _, true, rfl, .ty _, .base (.str z), kit_ty kitSS, _, rfl, ?_⟩
    refine iteF ?_
    have hzl : z.length ≤ sizeLine := Nat.le_of_lt (small_lt hz (by decide))
    refine ⟨_, rfl, _, rfl, hzl, _, _, rfl, rfl, _, rfl, ?_⟩
    by_cases h1 : 1 ≤ z.length
    · rw [decide_eq_true (show (1 : Int) ≤ (z.length : Nat) by omega)]
      refine iteT ⟨_, _, rfl, rfl, _, rfl, ?_⟩
      by_cases h2 : z.length ≤ 8
      · rw [decide_eq_true (show ((z.length : Nat) : Int) ≤ 8 by omega)]
        refine iteF ?_
        refine ⟨_, rfl, z, rfl, fun D nD => lc_text (x := z) (fun i H' => H' = upd H D (.lst ((((TL.tl z).take i).map fun c => decide (97 ≤ c ∧ c ≤ 122)).map V.bl))) rfl ?_ ?_⟩
        · rintro i c H' hc e
          have hc' : (TL.tl z)[i]? = some c := by
            show z.cps.toList[i]? = _
            rw [Array.getElem?_toList]; exact hc
          refine ⟨rfl, _, rfl, c, _, rfl, rfl, ?_⟩
          rw [letters c]
          refine ⟨_, by rw [e]; exact upd_same, ?_, ?_⟩
          · rw [List.length_map, List.length_map, List.length_take]
            have : (TL.tl z).length = z.length := (TL.len_tl z).symm
            exact small_lt (m := 1000) (by omega) (by decide)
          · rw [upd_over e, List.take_add_one, hc']
            simp
        · rintro H' rfl
          have hl : (TL.tl z).take z.cps.size = TL.tl z := List.take_of_length_le (by rw [← TL.len_tl]; exact Nat.le_refl _)
          refine ⟨D, _, rfl, SqL.of upd_same, ?_⟩
          rw [hl]
          have ef : (((TL.tl z).map fun c => decide (97 ≤ c ∧ c ≤ 122)).all id) = nameB z := by
            unfold nameB
            rw [decide_eq_true h1, decide_eq_true h2, List.all_map]
            rfl
          rw [ef]
          exact k _ (same_upd nD)
      · rw [decide_eq_false (show ¬ ((z.length : Nat) : Int) ≤ 8 by omega)]
        refine iteT ?_
        have ef : nameB z = false := by unfold nameB; rw [decide_eq_false h2]; simp
        have := k H (Same.refl H)
        rw [ef] at this
        exact this
    · rw [decide_eq_false (show ¬ (1 : Int) ≤ (z.length : Nat) by omega)]
      refine iteF ⟨_, rfl, iteT ?_⟩
      have ef : nameB z = false := by unfold nameB; rw [decide_eq_false h1]; rfl
      have := k H (Same.refl H)
      rw [ef] at this
      exact this
/-- of a word that is one -/
def spIsWord : Sp := fun vs H Q _ => ∃ w : W, vs = [wv w] ∧ wOk w ∧ ∀ H', Same H H' → Q (.bl true) H'
theorem len_enc {w : W} (h : wOk w) : (enc w).length ≤ 9 := by
  have : (enc w).length = (code w).length := TL.len_tl _
  rw [this]
  cases w with
  | ap => decide
  | tk n => have := h.2.1; simp [Wd.code]; omega
  | nm n => have := h.2.1; simp [Wd.code]; omega
abbrev s_is_word : Stmt := (top 18)
theorem sc_is_word : FnScope ["thing"] ["thing"] (defScope s_is_word) := ⟨rfl, rfl, rfl, by decide +kernel, rfl, by decide +kernel, by decide +kernel⟩
theorem c_is_word {P w K mg base} (B : Bt mg) (D : DefAt K mg "is_word" s_is_word) (Cis_name : Cal P w K mg base "is_name" 1 ["thing"] spIsName) : Cal P w K mg base "is_word" 2 ["thing"] spIsWord := by
  refine cal_of D sc_is_word (fun _ _ _ _ _ _ us hl => match us, hl with | [_], _ => rfl) (fun vs H Q E h => ?_) (fun fa cdv A outer st0 H vs Q E hr h => ?_)
  · obtain ⟨z, rfl, _⟩ := h
    rfl
  · obtain ⟨z, rfl, hz, k⟩ := h
    refine ⟨_, (pss_cons (ps_if (pt_not (pt_val (pe_callB call_isi (by rfl) B.b_isinstance (by decide +kernel) (pa_cons (pv 0) (pa_cons (pe_ty (n := "str") B.b_str (by decide +kernel)) pa_nil))))) (pss_one (ps_ret pe_bl)) pss_nil)
      (pss_one (ps_ret (pe_or (pe_cmpR op_eq (pv 0) (pe_gs B.m_GIVEN) (nomark _)) (pe_or (pe_c Cis_name (hr.mono (by decide)) (pa_cons (pv 0) pa_nil)) (pe_one (pe_and (pe_bm PySem.F.plainAttrs_str PySem.F.slot_str_startswith PySem.F.type_str_startswith mt_startswith (pv 0) (pa_cons (pe_gs B.m_TAKE) pa_nil)) (pe_one (pe_c Cis_name (hr.mono (by decide)) (pa_cons (pe_slice sl_str (pv 0) (po_some pe_int) po_none) pa_nil)))))))))), ?_⟩
    refine ⟨_, rfl, _, _, _, _, true, rfl, .ty _, .base (.str _), kit_ty kitSS, _, rfl, ?_⟩
    refine iteF ?_
    have hl := len_enc hz
    refine ⟨_, rfl, rfl, _, rfl, ?_⟩
    rw [is_ap hz]
    cases z with
    | ap => exact iteT (k H (Same.refl H))
    | nm n =>
      refine iteF ⟨_, rfl, _, rfl, by omega, fun H1 S1 => ?_⟩
      rw [enc_nm, nameB_ok hz]
      exact ⟨true, rfl, iteT (k H1 S1)⟩
    | tk n =>
      refine iteF ⟨_, rfl, _, rfl, by omega, fun H1 S1 => ?_⟩
      rw [nameB_tk]
      refine ⟨false, rfl, iteF ?_⟩
      refine ⟨_, rfl, rfl, _, _, rfl, rfl, ?_⟩
      rw [starts_tk hz]
      refine ⟨true, rfl, iteT ?_⟩
      refine ⟨_, rfl, _, rfl, _, rfl, Nat.le_of_lt (small_lt (m := 9) hl (by decide)), ?_⟩
      rw [cut1]
      refine ⟨_, rfl, ?_, fun H2 S2 => ?_⟩
      · rw [len_str]; have := hz.2.1; omega
      · rw [nameB_ok hz]
        exact k H2 (S1.trans S2)
end Kk

set_option maxHeartbeats 2000000
namespace Kk
open PySem PySem.Spec PyProof.Rows L2 Wd
/-- a check of words that finds no fault -/
def spFine (K : PySem.W.Frag) : Sp := fun vs H Q _ => ∃ (a : Addr) (ws : List W), vs = [.ref a] ∧ SqT K H a (ws.map wv) ∧ Vd ws ∧ ws.length ≤ 1000 ∧ ∀ H', Same H H' → Q .non H'
abbrev s_stranger_index : Stmt := (top 19)
theorem sc_stranger_index : FnScope ["things", "at", "thing"] ["things"] (defScope s_stranger_index) := ⟨rfl, rfl, rfl, by decide +kernel, rfl, by decide +kernel, by decide +kernel⟩
theorem c_stranger_index {P w K mg base} (B : Bt mg) (D : DefAt K mg "stranger_index" s_stranger_index) (Cis_word : Cal P w K mg base "is_word" 2 ["thing"] spIsWord) : Cal P w K mg base "stranger_index" 3 ["things"] (spFine K) := by
  refine cal_of D sc_stranger_index (fun _ _ _ _ _ _ us hl => match us, hl with | [_], _ => rfl) (fun vs H Q E h => ?_) (fun fa cdv A outer st0 H vs Q E hr h => ?_)
  · obtain ⟨a, ws, rfl, _⟩ := h
    rfl
  · obtain ⟨a, ws, rfl, hq, vd, hl, k⟩ := h
    refine ⟨_, (pss_cons (ps_for PassesOwn.never rfl (pi_enumT (by rfl) B.b_enumerate (pa_cons (pv 0) pa_nil)) (pg_tup (by rfl) (pgs_cons (pg_name (i := 1) sc_stranger_index.nd rfl (by first | exact Or.inl rfl | exact Or.inr rfl)) (pgs_cons (pg_name (i := 2) sc_stranger_index.nd rfl (by first | exact Or.inl rfl | exact Or.inr rfl)) pgs_nil))) (pss_one (ps_if (pt_not (pt_val (pe_c Cis_word (hr.mono (by decide)) (pa_cons (pv 2) pa_nil)))) (pss_one (ps_ret (pv 1))) pss_nil)))
      (pss_one (ps_ret pe_non))), ?_⟩
    refine ⟨_, rfl, a, _, rfl, hq, for_enumT (K := K) (a := a) (xs := ws.map wv) (fun i σ H' => ∃ v1 v2 : Option V, σ = [some (.ref a), v1, v2] ∧ Same H H') ⟨none, none, rfl, Same.refl H⟩ (fun i σ H' _ ⟨_, _, _, s⟩ => SqT.same hq s) ?_ ?_⟩
    · rintro i x σ H' T hx ⟨v1, v2, rfl, S1⟩ nT
      obtain ⟨w, hw, rfl⟩ := map_get hx
      have S2 : Same H (upd H' T (.tup [.int (i : Nat), wv w])) := S1.trans (same_upd nT)
      refine ⟨T, _, rfl, SqT.of upd_same, rfl, _, _, rfl, _, _, rfl, rfl, ?_⟩
      refine ⟨_, rfl, w, rfl, vd.okAt hw, fun H3 S3 => ⟨true, rfl, iteF ?_⟩⟩
      exact ⟨_, _, rfl, S2.trans S3⟩
    · rintro σ H' ⟨v1, v2, rfl, S1⟩
      exact k H' S1
/-- how many parts belong to a word -/
def spPartsIn : Sp := fun vs H Q _ => ∃ w : W, vs = [wv w] ∧ wOk w ∧ ∀ H', Same H H' → Q (nv (needW w)) H'
abbrev s_parts_in : Stmt := (top 20)
theorem sc_parts_in : FnScope ["word"] ["word"] (defScope s_parts_in) := ⟨rfl, rfl, rfl, by decide +kernel, rfl, by decide +kernel, by decide +kernel⟩
theorem c_parts_in {P w K mg base} (B : Bt mg) (D : DefAt K mg "parts_in" s_parts_in) : Cal P w K mg base "parts_in" 1 ["word"] spPartsIn := by
  refine cal_of D sc_parts_in (fun _ _ _ _ _ _ us hl => match us, hl with | [_], _ => rfl) (fun vs H Q E h => ?_) (fun fa cdv A outer st0 H vs Q E hr h => ?_)
  · obtain ⟨z, rfl, _⟩ := h
    rfl
  · obtain ⟨z, rfl, hz, k⟩ := h
    refine ⟨_, (pss_cons (ps_if (pt_cmpR op_eq (pv 0) (pe_gs B.m_GIVEN) (nomark _)) (pss_one (ps_ret pe_int)) pss_nil)
      (pss_one (ps_ret (pe_ifExp (pt_val (pe_bm PySem.F.plainAttrs_str PySem.F.slot_str_startswith PySem.F.type_str_startswith mt_startswith (pv 0) (pa_cons (pe_gs B.m_TAKE) pa_nil))) pe_int pe_int)))), ?_⟩
    have kk := k H (Same.refl H)
    refine ⟨_, rfl, rfl, _, rfl, ?_⟩
    rw [is_ap hz]
    cases z with
    | ap => exact iteT kk
    | tk n =>
      refine iteF ⟨_, rfl, rfl, _, _, rfl, rfl, ?_⟩
      rw [starts_tk hz]
      exact ⟨true, rfl, iteT kk⟩
    | nm n =>
      refine iteF ⟨_, rfl, rfl, _, _, rfl, rfl, ?_⟩
      rw [starts_tk hz]
      exact ⟨false, rfl, iteF kk⟩
abbrev s_repeated_index : Stmt := (top 21)
theorem sc_repeated_index : FnScope ["words", "seen", "at", "word"] ["words"] (defScope s_repeated_index) := ⟨rfl, rfl, rfl, by decide +kernel, rfl, by decide +kernel, by decide +kernel⟩
def seenK (ws : List W) (i : Nat) (k : Key) : Bool := (ws.take i).any fun w => !isAp w && decide (k = Sum.inr (enc w))
theorem seenK_new {ws : List W} (vd : Vd ws) {i : Nat} {w : W} (hw : ws[i]? = some w) : seenK ws i (Sum.inr (enc w)) = false := by
  unfold seenK
  rw [List.any_eq_false]
  intro u hu hc
  rw [Bool.and_eq_true, decide_eq_true_eq] at hc
  obtain ⟨h1, h2⟩ := hc
  have e : w = u := enc_inj (vd.okAt hw) (vd.ok u (List.mem_of_mem_take hu)) (Sum.inr.inj h2)
  subst e
  obtain ⟨j, hj, e⟩ := List.mem_iff_getElem.mp hu
  rw [List.length_take] at hj
  have hj' : ws[j]? = some w := by
    rw [List.getElem?_eq_getElem (by omega)]
    rw [List.getElem_take] at e
    rw [e]
  have hne : w ≠ .ap := by rintro rfl; cases h1
  have := vd.once hne hw hj'
  omega
theorem seenK_step {ws : List W} {i : Nat} {w : W} (hw : ws[i]? = some w) (k : Key) : seenK ws (i + 1) k = (seenK ws i k || (!isAp w && decide (k = Sum.inr (enc w)))) := by
  unfold seenK
  rw [List.take_add_one, hw, List.any_append]
  simp
theorem c_repeated_index {P w K mg base} (B : Bt mg) (D : DefAt K mg "repeated_index" s_repeated_index) : Cal P w K mg base "repeated_index" 1 ["words"] (spFine K) := by
  refine cal_of D sc_repeated_index (fun _ _ _ _ _ _ us hl => match us, hl with | [_], _ => rfl) (fun vs H Q E h => ?_) (fun fa cdv A outer st0 H vs Q E hr h => ?_)
  · obtain ⟨a, ws, rfl, _⟩ := h
    rfl
  · obtain ⟨a, ws, rfl, hq, vd, hl, k⟩ := h
    refine ⟨_, (pss_cons (ps_set (i := 1) sc_repeated_index.nd rfl (by first | exact Or.inl rfl | exact Or.inr rfl) (pe_callTy0 cr_set0K (by rfl) B.b_set (by decide +kernel)))
      (pss_cons (ps_for PassesOwn.never rfl (pi_enumT (by rfl) B.b_enumerate (pa_cons (pv 0) pa_nil)) (pg_tup (by rfl) (pgs_cons (pg_name (i := 2) sc_repeated_index.nd rfl (by first | exact Or.inl rfl | exact Or.inr rfl)) (pgs_cons (pg_name (i := 3) sc_repeated_index.nd rfl (by first | exact Or.inl rfl | exact Or.inr rfl)) pgs_nil))) (pss_cons (ps_if (pt_cmpR or_sinK (pv 3) (pv 1) (by rfl)) (pss_one (ps_ret (pv 2))) pss_nil)
      (pss_one (ps_if (pt_cmpR op_ne (pv 3) (pe_gs B.m_GIVEN) (nomark _)) (pss_one (ps_expr (pe_saddK (pv 1) (pa_cons (pv 3) pa_nil)))) pss_nil))))
      (pss_one (ps_ret pe_non)))), ?_⟩
    refine ⟨rfl, fun S nS => ?_⟩
    refine ⟨_, rfl, a, _, rfl, SqT.same hq (same_upd nS), for_enumT (K := K) (a := a) (xs := ws.map wv) (fun i σ H' => ∃ (v1 v2 : Option V) (c : Nat), σ = [some (.ref a), some (.ref S), v1, v2] ∧ Same H H' ∧ c ≤ i ∧ H' S = some (SetK P w S (seenK ws i) c))
      ⟨none, none, 0, rfl, same_upd nS, Nat.le_refl _, upd_same⟩ (fun i σ H' _ ⟨_, _, _, _, s, _⟩ => SqT.same hq s) ?_ ?_⟩
    · rintro i x σ H' T hx ⟨v1, v2, c, rfl, S1, hc, L1⟩ nT
      obtain ⟨w', hw, rfl⟩ := map_get hx
      have hi := Wd.T.lt_of_get hw
      have S2 : Same H (upd H' T (.tup [.int (i : Nat), wv w'])) := S1.trans (same_upd nT)
      have L2 : upd H' T (.tup [.int (i : Nat), wv w']) S = _ := same_upd nT _ _ L1
      refine ⟨T, _, rfl, SqT.of upd_same, rfl, _, _, rfl, _, _, rfl, rfl, ?_⟩
      generalize upd H' T (.tup [.int (i : Nat), wv w']) = H2 at *
      refine ⟨_, rfl, _, rfl, Sum.inr (enc w'), S, _, c, rfl, rfl, L2, _, rfl, ?_⟩
      show if (seenK ws i (Sum.inr (enc w'))) = true then _ else _
      rw [seenK_new vd hw]
      refine iteF ⟨_, rfl, rfl, _, rfl, ?_⟩
      rw [is_ap (vd.okAt hw)]
      have hst : seenK ws (i + 1) = fun k => (seenK ws i k || (!isAp w' && decide (k = Sum.inr (enc w')))) := funext (seenK_step hw)
      cases hap : isAp w' with
      | true =>
        refine iteF ?_
        refine ⟨_, _, c, rfl, S2, by omega, ?_⟩
        rw [hst, hap]
        have e : (fun k : Key => (seenK ws i k || (!true && decide (k = Sum.inr (enc w'))))) = seenK ws i := by funext k; simp
        rw [e]; exact L2
      | false =>
        refine iteT ?_
        refine ⟨_, rfl, ⟨_, _, _, rfl, L2⟩, _, rfl, S, Sum.inr (enc w'), _, c, rfl, rfl, L2, ?_, ?_⟩
        · show c + 1 < 4096; omega
        · have ns : ∀ b o, H b = some o → b ≠ S := fun b o hb => ne_of_none hb nS
          refine ⟨some (.int (i : Nat)), some (wv w'), if seenK ws i (Sum.inr (enc w')) = true then c else c + 1, rfl, fun b o hb => by rw [upd_ne (ns b o hb)]; exact S2 b o hb, ?_, ?_⟩
          · split <;> omega
          · rw [upd_same, hst, hap]
            have e : (fun k : Key => (seenK ws i k || (!false && decide (k = Sum.inr (enc w'))))) = fun j => seenK ws i j || decide (j = Sum.inr (enc w')) := by funext k; simp
            rw [e]
            rfl
    · rintro σ H' ⟨v1, v2, c, rfl, S1, _⟩
      exact k H' S1
def spEndsOf (K : PySem.W.Frag) : Sp := fun vs H Q _ => ∃ (a : Addr) (ws : List W) (E : Nat → Nat), vs = [.ref a] ∧ SqT K H a (ws.map wv) ∧ Vd ws ∧ IsEnds ws E ∧ ws.length ≤ 4000 ∧
  ∀ H' q, Same H H' → H q = none → TupF H' q (endsV ws.length E) → Q (.ref q) H'
abbrev s_ends_of : Stmt := (top 23)
theorem sc_ends_of : FnScope ["words", "word"] ["words"] (defScope s_ends_of) := ⟨rfl, rfl, rfl, by decide +kernel, rfl, by decide +kernel, by decide +kernel⟩
theorem needs_map (ws : List W) : ws.filterMap (fun w => some (nv (needW w))) = (ws.map needW).map nv := by
  rw [List.map_map, ← List.filterMap_eq_map]
  rfl
theorem c_ends_of {P w K mg base} (B : Bt mg) (D : DefAt K mg "ends_of" s_ends_of) (Cparts_in : Cal P w K mg base "parts_in" 1 ["word"] spPartsIn) (Cends_by : Cal P w K mg base "ends_by" 1 ["needs"] (spEndsBy K)) : Cal P w K mg base "ends_of" 2 ["words"] (spEndsOf K) := by
  refine cal_of D sc_ends_of (fun _ _ _ _ _ _ us hl => match us, hl with | [_], _ => rfl) (fun vs H Q E h => ?_) (fun fa cdv A outer st0 H vs Q E hr h => ?_)
  · obtain ⟨a, ws, E, rfl, _⟩ := h
    rfl
  · obtain ⟨a, ws, E, rfl, hq, vd, he, hl, k⟩ := h
    refine ⟨_, (pss_one (ps_ret (pe_c Cends_by (hr.mono (by decide)) (pa_cons (pe_lc (own := [("word", 1)]) (g := (gName 1)) (tt := tYes) rfl sc_ends_of.nd (pi_tup (pv 0)) (blkOk_by (own := [("word", 1)]) (N := ["words", "word"]) (sc := defScope s_ends_of) (by decide +kernel)) (fun _ _ _ _ _ => (pg_name (i := 1) sc_ends_of.nd rfl (by first | exact Or.inl rfl | exact Or.inr rfl))) (fun _ _ _ _ _ => pts_nil) (fun _ _ _ _ _ => (pe_c Cparts_in (hr.mono (by decide)) (pa_cons (pv 1) pa_nil)))) pa_nil)))), ?_⟩
    refine ⟨_, rfl, a, rfl, ⟨_, hq⟩, fun D nD => lc_fmT (f := wv) (r := fun w => some (nv (needW w))) hq nD (Nat.le_trans hl (by decide)) ?_ ?_⟩
    · rintro i w' H' Qy Qn hw S1 hy hn
      refine ⟨rfl, _, rfl, w', rfl, vd.okAt hw, fun H2 S2 => hy _ _ S2 rfl⟩
    · rintro H1 S1 L1
      rw [needs_map] at L1
      refine ⟨D, ws.map needW, E, rfl, SqL.of L1, he.needs, by rw [List.length_map]; exact Nat.le_trans hl (by decide), fun H2 q S2 n2 T2 => ?_⟩
      rw [List.length_map] at T2
      exact k H2 q (S1.trans S2) (S1.free n2) T2
end Kk

set_option maxHeartbeats 2000000
/-! a dict comprehension stored to a local's name -/
namespace Kk
open PySem PySem.Spec PyProof.Rows L2
section
variable {X : Cx}
theorem sw_dict {ke ve : Expr} {gs : List Comprehension} {scope : Scope} {pos py : Pos} {y : Str} {l : Nat} {env : Env} (hk : env.scope.kind = .function) (hy : env.scope.names.lookup y = some .local) (hl : (py.line == pos.line) = true)
    (ha : (scope.names.any fun (n, k) => n == y && (k == .local || k == .cell)) = false) : swapsWith (.DictComp ke ve gs scope pos) (some (.Name y py)) l env = pure true := by
  have e1 : env.kindOf y = some .local := hy
  have e2 : env.blockKind = .function := by unfold Env.blockKind; rw [hk]; rfl
  unfold swapsWith
  simp only [e1, e2, ha, Expr.pos, hl]
  rfl
theorem ps_setDc {i : Nat} {y : Str} {py : Pos} {ke ve tg iter : Expr} {ifs : List Expr} {scope : Scope} {own : List (Str × Nat)} {pos spos : Pos} {wi : TI} {g : TG} {tt : TT} {tk tv : TE} (hc : X.calm = true) (hN : X.N.Nodup) (hy : X.N[i]? = some y) (hyl : X.env.scope.names.lookup y = some .local)
    (hsw : swapsWith (.DictComp ke ve [⟨tg, iter, ifs, 0⟩] scope pos) (some (.Name y py)) spos.line X.env = pure true) (hi : PI X tg iter wi) (ok : BlkOk X.N X.env.scope scope own)
    (hg : ∀ (s : Shared) (H : Hp) (C : Addr) (cl : List (Str × Addr)) (fp : List Addr), PG (X.blk s H scope (compEnvC scope cl C X.env) fp) tg g) (ht : ∀ (s : Shared) (H : Hp) (C : Addr) (cl : List (Str × Addr)) (fp : List Addr), PTs (X.blk s H scope (compEnvC scope cl C X.env) fp) ifs tt)
    (hk : ∀ (s : Shared) (H : Hp) (C : Addr) (cl : List (Str × Addr)) (fp : List Addr), PE (X.blk s H scope (compEnvC scope cl C X.env) fp) ke tk)
    (he : ∀ (s : Shared) (H : Hp) (C : Addr) (cl : List (Str × Addr)) (fp : List Addr), PE (X.blk s H scope (compEnvC scope cl C X.env) fp) ve tv) (hs : ∀ x, foldedSetIterable iter X.env x = pure x := by intro _; rfl) :
    PS X (.Assign [.Name y py] (.DictComp ke ve [⟨tg, iter, ifs, 0⟩] scope pos) spos) (tAsg (tDc wi g tt tk tv (own.map (·.2))) (gName i)) := by
  refine ⟨fun pins s σ H D I h => ?_⟩
  rw [exec_Assign_Name_used _ _ _ _ hsw]
  refine wpAny_bind (wpAny_standAt (wpAny_bind ?_))
  show wpAny _ X.A (do let _ ← comprehension (.DictComp ke ve [⟨tg, iter, ifs, 0⟩] scope pos) scope X.env (firstIterPos [⟨tg, iter, ifs, 0⟩] pos) newDict false (eval iter X.env) (some (assign (.Name y py) X.env))) _ _ s
  have h : tDc wi g tt tk tv (own.map (·.2)) σ H (fun x H1 => gName i x σ H1 D.nx) := h
  refine wpAny_bind (thn (dc_core (Qf := fun _ s' => SP X pins D .next s') hc hN I hi ok hg ht hk he hs h fun L C s' m H' I' q hn f => ?_) fun _ s' hq => wpAny_pure (wpAny_pure hq))
  show wpAny _ _ (assign (.Name y py) X.env (.ref L)) _ _ _
  refine wpAny_assign_Name (store_ok2 (v := V.ref L) I' hN hy (.inl hyl) rfl (fun s2 I2 ⟨a, sb, ha⟩ => ?_) (.inr hyl))
  obtain ⟨f0, f1, f2, f3, f4, f5⟩ := f
  have haC : C ≠ a := by
    rcases ha with z | z
    · rw [z]; exact f1
    · exact fun e => f4 y a z e.symm
  refine ⟨m, hn.sameBut sb haC, fun h3 sb3 => ?_⟩
  exact ⟨_, H', I2.turned (t' := s2.toks) (fun b o hb e => (sb3.2 b hb).trans e) f0 f1 f3 f4 f5, q⟩
end
end Kk

set_option maxHeartbeats 2000000
namespace Kk
open PySem PySem.Spec PyProof.Rows L2 Wd
theorem dc_enumT {K : PySem.W.Frag} {a : Addr} {xs : List V} {g : TG} {tt : TT} {tk tv : TE} {vs : List Nat} {σ : L2.St} {H1 : Hp} {D : Addr} {Qd : Hp → Prop} (Pv : Nat → Hp → Prop) (h0 : Pv 0 (upd H1 D (.dK []))) (hl : ∀ i H, i ≤ xs.length → Pv i H → SqT K H a xs)
    (hs : ∀ i x H T, xs[i]? = some x → Pv i H → H T = none → g (.ref T) (wipe σ vs) (upd H T (.tup [.int (i : Nat), x])) fun σ2 H2 => wipe σ2 vs = wipe σ vs ∧ tt σ2 H2 fun b H3 =>
      if b = true then tk σ2 H3 fun y H4 => tv σ2 H4 fun z H5 => ∃ kvs k, y = kV k ∧ H5 D = some (.dK kvs) ∧ kvs.length < sizeLine ∧ Pv (i + 1) (upd H5 D (.dK (putK kvs k z))) else Pv (i + 1) H3) (hd : ∀ H, Pv xs.length H → Qd H) :
    ∃ W : Nat → Nat → Hp → Prop, (∃ m, W 0 m (upd H1 D (.dK []))) ∧ ∀ i m H, W i m H →
      ((IteT K a).stop i H ∧ Qd H) ∨ ((IteT K a).go i H ∧ ∃ Nx : Hp → Prop, (∀ H', Nx H' → ∃ m', m' < m ∧ W (i + 1) m' H') ∧ ∀ x H', (IteT K a).yld i H x H' → g x (wipe σ vs) H' fun σ2 H2 => wipe σ2 vs = wipe σ vs ∧ tt σ2 H2 fun b H3 =>
        if b = true then tk σ2 H3 fun y H4 => tv σ2 H4 fun z H5 => ∃ kvs k, y = kV k ∧ H5 D = some (.dK kvs) ∧ kvs.length < sizeLine ∧ Nx (upd H5 D (.dK (putK kvs k z))) else Nx H3) := by
  refine ⟨fun i m H => m = xs.length - i ∧ i ≤ xs.length ∧ Pv i H, ⟨xs.length, by simp, Nat.zero_le _, h0⟩, ?_⟩
  rintro i m H ⟨rfl, hi, p⟩
  have q := hl i H hi p
  by_cases hlt : i < xs.length
  · refine .inr ⟨⟨xs, xs[i], q, by simp [hlt]⟩, Pv (i + 1), fun H' p' => ⟨xs.length - (i + 1), by omega, rfl, hlt, p'⟩, fun x H' y => ?_⟩
    obtain ⟨T, z, rfl, hT, rfl, hz⟩ := y
    exact hs i z H T (hz xs q) p hT
  · have e : i = xs.length := by omega
    subst e
    exact .inl ⟨⟨xs, q, Nat.le_refl _⟩, hd H p⟩
abbrev s_unused_index : Stmt := (top 22)
theorem sc_unused_index : FnScope ["words", "places", "at", "word", "behind"] ["words"] (defScope s_unused_index) := ⟨rfl, rfl, rfl, by decide +kernel, rfl, by decide +kernel, by decide +kernel⟩
/-- where names stand, among the first i words -/
def Places (ws : List W) (i : Nat) (kvs : List (Key × V)) : Prop := kvs.length ≤ i ∧ ∀ j n, j < i → ws[j]? = some (.nm n) → valV kvs (Sum.inr (str n)) = some (.int (j : Nat))
theorem Places.put {ws : List W} (vd : Vd ws) {i : Nat} {w : W} {kvs : List (Key × V)} (hw : ws[i]? = some w) (p : Places ws i kvs) : Places ws (i + 1) (putK kvs (Sum.inr (enc w)) (.int (i : Nat))) := by
  refine ⟨by have := length_putK kvs (Sum.inr (enc w)) (.int (i : Nat)); have := p.1; omega, fun j n hj hn => ?_⟩
  rw [valV_put]
  by_cases e : (Sum.inr (str n) : Key) = Sum.inr (enc w)
  · rw [if_pos e]
    have e2 : W.nm n = w := enc_inj (vd.okAt hn) (vd.okAt hw) (Sum.inr.inj e)
    subst e2
    have := vd.once (by simp) hn hw
    subst this
    rfl
  · rw [if_neg e]
    refine p.2 j n ?_ hn
    have : j ≠ i := by
      rintro rfl
      rw [hw] at hn
      cases hn
      exact e rfl
    omega
theorem c_unused_index {P w K mg base} (B : Bt mg) (D : DefAt K mg "unused_index" s_unused_index) (Cends_of : Cal P w K mg base "ends_of" 2 ["words"] (spEndsOf K)) : Cal P w K mg base "unused_index" 3 ["words"] (spFine K) := by
  refine cal_of D sc_unused_index (fun _ _ _ _ _ _ us hl => match us, hl with | [_], _ => rfl) (fun vs H Q E h => ?_) (fun fa cdv A outer st0 H vs Q E hr h => ?_)
  · obtain ⟨a, ws, rfl, _⟩ := h
    rfl
  · obtain ⟨a, ws, rfl, hq, vd, hl, k⟩ := h
    obtain ⟨EE, he⟩ := vd.ends
    refine ⟨_, (pss_cons (ps_setDc (i := 1) (own := [("at", 2), ("word", 3)]) (g := (gTup K 2 (gCons (gName 2) (gCons (gName 3) gNil)))) (tt := tYes) rfl sc_unused_index.nd rfl rfl (sw_dict rfl rfl rfl (by decide +kernel)) (pi_enumT (by rfl) B.b_enumerate (pa_cons (pv 0) pa_nil)) (blkOk_by (own := [("at", 2), ("word", 3)]) (N := ["words", "places", "at", "word", "behind"]) (sc := defScope s_unused_index) (by decide +kernel)) (fun _ _ _ _ _ => by exact (pg_tup (by rfl) (pgs_cons (pg_name (i := 2) sc_unused_index.nd rfl (by first | exact Or.inl rfl | exact Or.inr rfl)) (pgs_cons (pg_name (i := 3) sc_unused_index.nd rfl (by first | exact Or.inl rfl | exact Or.inr rfl)) pgs_nil)))) (fun _ _ _ _ _ => pts_nil) (fun _ _ _ _ _ => by exact (pv 3)) (fun _ _ _ _ _ => by exact (pv 2)))
      (pss_cons (ps_set (i := 4) sc_unused_index.nd rfl (by first | exact Or.inl rfl | exact Or.inr rfl) (pe_c Cends_of (hr.mono (by decide)) (pa_cons (pv 0) pa_nil)))
      (pss_cons (ps_for PassesOwn.never rfl (pi_enumT (by rfl) B.b_enumerate (pa_cons (pv 0) pa_nil)) (pg_tup (by rfl) (pgs_cons (pg_name (i := 2) sc_unused_index.nd rfl (by first | exact Or.inl rfl | exact Or.inr rfl)) (pgs_cons (pg_name (i := 3) sc_unused_index.nd rfl (by first | exact Or.inl rfl | exact Or.inr rfl)) pgs_nil))) (pss_one (ps_if (PW.pt (pw_and (pt_val (pe_bm PySem.F.plainAttrs_str PySem.F.slot_str_startswith PySem.F.type_str_startswith mt_startswith (pv 3) (pa_cons (pe_gs B.m_TAKE) pa_nil))) (pw_and1 (pt_not (pt_chain op_lt op_lt (pv 2) (pe_dget2 (hu_of hr) (pv 1) (pe_slice sl_str (pv 3) (po_some pe_int) po_none) (pe_un un_neg pe_int) ⟨by rfl, by rfl, by rfl, by rfl⟩) (pe_ix ix_tup (pv 4) (pv 2) (fun _ _ => rfl))))))) (pss_one (ps_ret (pv 2))) pss_nil)))
      (pss_one (ps_ret pe_non))))), ?_⟩
    have hlm : (ws.map wv).length = ws.length := List.length_map ..
    refine ⟨_, rfl, a, _, rfl, hq, fun D nD => dc_enumT (K := K) (a := a) (xs := ws.map wv) (fun i H' => Same H H' ∧ ∃ kvs, H' D = some (.dK kvs) ∧ Places ws i kvs)
      ⟨same_upd nD, [], upd_same, Nat.le_refl _, fun j n hj => absurd hj (by omega)⟩ (fun i H' _ ⟨s, _⟩ => SqT.same hq s) ?_ ?_⟩
    · rintro i x H' T hx ⟨S1, kvs, L1, p⟩ nT
      obtain ⟨w', hw, rfl⟩ := map_get hx
      have hi := Wd.T.lt_of_get hw
      refine ⟨T, _, rfl, SqT.of upd_same, rfl, _, _, rfl, _, _, rfl, rfl, ?_⟩
      refine ⟨rfl, _, rfl, _, rfl, kvs, Sum.inr (enc w'), rfl, same_upd nT _ _ L1, ?_, ?_⟩
      · have := p.1
        exact small_lt (m := 1000) (by omega) (by decide)
      · have nd : ∀ b o, H b = some o → b ≠ D := fun b o hb => ne_of_none hb nD
        exact ⟨fun b o hb => by rw [upd_ne (nd b o hb)]; exact same_upd nT _ _ (S1 b o hb), _, upd_same, p.put vd hw⟩
    · rintro H1 ⟨S1, kvs, L1, p⟩
      rw [hlm] at p
      refine ⟨_, rfl, a, ws, EE, rfl, SqT.same hq S1, vd, he, Nat.le_trans hl (by decide), fun H2 q S2 _ T2 => ?_⟩
      have L2 := S2 _ _ L1
      have S3 := S1.trans S2
      refine ⟨_, rfl, a, _, rfl, SqT.same hq S3, for_enumT (K := K) (a := a) (xs := ws.map wv) (fun i σ H' => ∃ v1 v2 : Option V, σ = [some (.ref a), some (.ref D), v1, v2, some (.ref q)] ∧ Same H2 H') ⟨_, _, rfl, Same.refl H2⟩ (fun i σ H' _ ⟨_, _, _, s⟩ => SqT.same hq (S3.trans s)) ?_ ?_⟩
      · rintro i x σ H' T hx ⟨v1, v2, rfl, S4⟩ nT
        obtain ⟨w', hw, rfl⟩ := map_get hx
        have hi := Wd.T.lt_of_get hw
        have hk := vd.okAt hw
        have S5 : Same H2 (upd H' T (.tup [.int (i : Nat), wv w'])) := S4.trans (same_upd nT)
        refine ⟨T, _, rfl, SqT.of upd_same, rfl, _, _, rfl, _, _, rfl, rfl, ?_⟩
        generalize upd H' T (.tup [.int (i : Nat), wv w']) = H5 at *
        refine ⟨_, rfl, rfl, _, _, rfl, rfl, ?_⟩
        rw [starts_tk hk]
        refine ⟨_, rfl, ?_⟩
        cases w' with
        | ap => exact iteF (iteF ⟨_, _, rfl, S5⟩)
        | nm n => exact iteF (iteF ⟨_, _, rfl, S5⟩)
        | tk n =>
          obtain ⟨j, hj, h1, h2⟩ := vd.used he hw
          have hjl := Wd.T.lt_of_get hj
          have hv := p.2 j n hjl hj
          have L5 := S5 _ _ L2
          refine iteT ?_
          refine ⟨_, rfl, _, rfl, D, rfl, .inl ⟨kvs, .inl L5⟩, _, rfl, _, rfl, _, rfl, Nat.le_of_lt (small_lt (m := 9) (len_enc hk) (by decide)), ?_⟩
          rw [cut1]
          refine ⟨_, rfl, some (.int (j : Nat)), by rw [← hv]; exact DGet.k (k := Sum.inr (str n)) L5, ?_⟩
          refine ⟨_, _, rfl, rfl, _, rfl, ?_⟩
          rw [decide_eq_true (show ((i : Nat) : Int) < ((j : Nat) : Int) by omega)]
          refine iteT ⟨_, rfl, _, rfl, q, _, _, _, rfl, rfl, (T2.same S5).sq, atI_nat (endsV_get hi), _, _, rfl, rfl, ?_⟩
          refine ⟨true, congrArg V.bl (decide_eq_true (show ((j : Nat) : Int) < ((EE i : Nat) : Int) by omega)), iteF ?_⟩
          exact ⟨_, _, rfl, S5⟩
      · rintro σ H' ⟨v1, v2, rfl, S4⟩
        exact k H' (S3.trans S4)
abbrev s_fault_index : Stmt := (top 17)
theorem sc_fault_index : FnScope ["words", "index", "word"] ["words"] (defScope s_fault_index) := ⟨rfl, rfl, rfl, by decide +kernel, rfl, by decide +kernel, by decide +kernel⟩
theorem tyx_tup {K : PySem.W.Frag} {H : Hp} {a : Addr} {xs : List V} (h : SqT K H a xs) : TyX K H (.ref a) (.type "tuple") := by
  rcases h with (h | ⟨o, h⟩) | ⟨o, its, n, h1, h2, _⟩
  · exact .base (.tup h)
  · exact .fTuple h
  · exact .kTuple h1 h2
theorem kitTT : kitB "tuple" "tuple" = some true := by decide +kernel
theorem c_fault_index {P w K mg base} (B : Bt mg) (D : DefAt K mg "fault_index" s_fault_index) (Cstranger_index : Cal P w K mg base "stranger_index" 3 ["things"] (spFine K)) (Cparts_in : Cal P w K mg base "parts_in" 1 ["word"] spPartsIn) (Cmisfit_index : Cal P w K mg base "misfit_index" 1 ["needs"] (spMisfit K))
    (Crepeated_index : Cal P w K mg base "repeated_index" 1 ["words"] (spFine K)) (Cunused_index : Cal P w K mg base "unused_index" 3 ["words"] (spFine K)) : Cal P w K mg base "fault_index" 4 ["words"] (spFine K) := by
  refine cal_of D sc_fault_index (fun _ _ _ _ _ _ us hl => match us, hl with | [_], _ => rfl) (fun vs H Q E h => ?_) (fun fa cdv A outer st0 H vs Q E hr h => ?_)
  · obtain ⟨a, ws, rfl, _⟩ := h
    rfl
  · obtain ⟨a, ws, rfl, hq, vd, hl, k⟩ := h
    refine ⟨_, (pss_cons (ps_if (PW.pt (pw_or (pt_not (pt_val (pe_callB call_isi (by rfl) B.b_isinstance (by decide +kernel) (pa_cons (pv 0) (pa_cons (pe_ty (n := "tuple") B.b_tuple (by decide +kernel)) pa_nil))))) (pw_or1 (pt_not (pt_chain op_le op_le pe_int (pe_callB call_len_seq (by rfl) B.b_len (by decide +kernel) (pa_cons (pv 0) pa_nil)) (pe_gi B.m_MOST_WORDS)))))) (pss_one (ps_ret (pe_un un_neg pe_int))) pss_nil)
      (pss_cons (ps_set (i := 1) sc_fault_index.nd rfl (by first | exact Or.inl rfl | exact Or.inr rfl) (pe_c Cstranger_index (hr.mono (by decide)) (pa_cons (pv 0) pa_nil)))
      (pss_cons (ps_if (pt_cmpR op_isN (pv 1) pe_non (nomark _)) (pss_one (ps_set (i := 1) sc_fault_index.nd rfl (by first | exact Or.inl rfl | exact Or.inr rfl) (pe_c Cmisfit_index (hr.mono (by decide)) (pa_cons (pe_lc (own := [("word", 2)]) (g := (gName 2)) (tt := tYes) rfl sc_fault_index.nd (pi_tup (pv 0)) (blkOk_by (own := [("word", 2)]) (N := ["words", "index", "word"]) (sc := defScope s_fault_index) (by decide +kernel)) (fun _ _ _ _ _ => (pg_name (i := 2) sc_fault_index.nd rfl (by first | exact Or.inl rfl | exact Or.inr rfl))) (fun _ _ _ _ _ => pts_nil) (fun _ _ _ _ _ => (pe_c Cparts_in (hr.mono (by decide)) (pa_cons (pv 2) pa_nil)))) pa_nil)))) pss_nil)
      (pss_cons (ps_if (pt_cmpR op_isN (pv 1) pe_non (nomark _)) (pss_one (ps_set (i := 1) sc_fault_index.nd rfl (by first | exact Or.inl rfl | exact Or.inr rfl) (pe_c Crepeated_index (hr.mono (by decide)) (pa_cons (pv 0) pa_nil)))) pss_nil)
      (pss_cons (ps_if (pt_cmpR op_isN (pv 1) pe_non (nomark _)) (pss_one (ps_set (i := 1) sc_fault_index.nd rfl (by first | exact Or.inl rfl | exact Or.inr rfl) (pe_c Cunused_index (hr.mono (by decide)) (pa_cons (pv 0) pa_nil)))) pss_nil)
      (pss_one (ps_ret (pv 1)))))))), ?_⟩
    have hlm : (ws.map wv).length = ws.length := List.length_map ..
    have pos := vd.pos
    refine ⟨_, rfl, _, _, _, _, true, rfl, .ty _, tyx_tup hq, kit_ty kitTT, _, rfl, iteF ?_⟩
    refine ⟨_, rfl, _, _, rfl, .inr hq, _, _, rfl, rfl, _, rfl, ?_⟩
    rw [hlm, decide_eq_true (show (1 : Int) ≤ (ws.length : Nat) by omega)]
    refine iteT ⟨_, _, rfl, rfl, _, rfl, ?_⟩
    rw [decide_eq_true (show ((ws.length : Nat) : Int) ≤ 1000 by omega)]
    refine iteF ?_
    refine ⟨_, rfl, a, ws, rfl, hq, vd, Nat.le_trans hl (by decide), fun H1 S1 => ?_⟩
    refine ⟨_, rfl, rfl, _, rfl, iteT ?_⟩
    refine ⟨_, rfl, a, rfl, ⟨_, SqT.same hq S1⟩, fun Dl nDl => lc_fmT (f := wv) (r := fun w => some (nv (needW w))) (SqT.same hq S1) nDl (Nat.le_trans hl (by decide)) ?_ ?_⟩
    · rintro i w' H' Qy Qn hw S1' hy hn
      refine ⟨rfl, _, rfl, w', rfl, vd.okAt hw, fun H2 S2 => hy _ _ S2 rfl⟩
    rintro H1' S1' L1'
    rw [needs_map] at L1'
    refine ⟨Dl, ws.map needW, rfl, SqL.of L1', by rw [List.length_map]; exact Nat.le_trans hl (by decide), fun H2 S2 => ?_⟩
    have S12 := S1.trans (S1'.trans S2)
    rw [vd.wh.mis 0]
    refine ⟨_, rfl, rfl, _, rfl, iteT ?_⟩
    refine ⟨_, rfl, a, ws, rfl, SqT.same hq S12, vd, Nat.le_trans hl (by decide), fun H3 S3 => ?_⟩
    have S13 := S12.trans S3
    refine ⟨_, rfl, rfl, _, rfl, iteT ?_⟩
    refine ⟨_, rfl, a, ws, rfl, SqT.same hq S13, vd, Nat.le_trans hl (by decide), fun H4 S4 => ?_⟩
    exact ⟨_, rfl, k H4 (S13.trans S4)⟩
end Kk

set_option maxHeartbeats 2000000
namespace Kk
open PySem PySem.Spec PyProof.Rows L2 Wd
/-! ### the class -/
structure PC (K : PySem.W.Frag) (mg : Str → Option Value) (C : Addr) : Prop where
  cl : Cls K C
  nw : NoAttr K C "words"
  mg : mg "Program" = some (.ref C)
  ha : PySem.W.findIn K (.ref C) "__class__" = some (some (.builtin "object.__class__"))
  hn : PySem.W.specialIn K (.builtin "object.__class__") "__get__" = some (some (.builtin "getset_descriptor.__get__"))
  ht : PySem.W.takesIn K (.builtin "object.__class__") = some true
  hm : PySem.W.mroIn K C (.type "object") = some true
def pfs (a : Addr) : List (Str × V) := putF "words" (.ref a) []
theorem pfs_get (a : Addr) : (pfs a).lookup ("words" : Str) = some (.ref a) := by unfold pfs; rw [lookup_putF, if_pos rfl]
theorem pfs_put (a b : Addr) : putF "words" (.ref b) (pfs a) = pfs b := by
  show (if ("words" : Str) = "words" then [(("words" : Str), V.ref b)] else _) = pfs b
  rw [if_pos rfl]
  all_goals rfl
/-- at x stands a Program, its words at a -/
def Pg (C : Addr) (H : Hp) (x a : Addr) : Prop := ∃ dx, H x = some (.ins C dx (pfs a))
theorem Pg.same {C : Addr} {H H' : Hp} {x a : Addr} (h : Pg C H x a) (k : Same H H') : Pg C H' x a := by
  obtain ⟨dx, h⟩ := h
  exact ⟨dx, k _ _ h⟩
theorem Pg.keep {C p g : Addr} {H H' : Hp} {x a : Addr} (h : Pg C H x a) (k : Keep p g H H') (h1 : x ≠ p) (h2 : x ≠ g) : Pg C H' x a := by
  obtain ⟨dx, h⟩ := h
  exact ⟨dx, k _ _ h h1 h2⟩
/-- all but x is as it was -/
def But (x : Addr) (H H' : Hp) : Prop := ∀ b o, H b = some o → b ≠ x → H' b = some o
def spInit (K : PySem.W.Frag) (C : Addr) : Sp := fun vs H Q _ => ∃ (x dx a : Addr) (ws : List W), vs = [.ref x, .ref a] ∧ H x = some (.ins C dx []) ∧ SqT K H a (ws.map wv) ∧ Vd ws ∧ ws.length ≤ 1000 ∧
  ∀ H', But x H H' → Pg C H' x a → Q .non H'
abbrev s_init : Stmt := (inClass (top 15) 0)
theorem sc_init : FnScope ["self", "words", "index"] ["self", "words"] (defScope s_init) := ⟨rfl, rfl, rfl, by decide +kernel, rfl, by decide +kernel, by decide +kernel⟩
theorem c_init {P w K mg base} {C f : Addr} {fd : FuncData} (B : Bt mg) (pc : PC K mg C) (F : Fun K "__init__" "Program.__init__" s_init f fd) (Cfault_index : Cal P w K mg base "fault_index" 4 ["words"] (spFine K)) :
    FnOk P w K mg base CX0 5 f fd ["self", "words"] (spInit K C) := by
  refine F.ok sc_init (fun vs H Q E h => ?_) (fun cdv A outer st0 H vs Q E hr h => ?_)
  · obtain ⟨x, dx, a, ws, rfl, _⟩ := h
    rfl
  · obtain ⟨x, dx, a, ws, rfl, hx, hq, vd, hl, k⟩ := h
    refine ⟨_, (pss_cons (ps_set (i := 2) sc_init.nd rfl (by first | exact Or.inl rfl | exact Or.inr rfl) (pe_c Cfault_index (hr.mono (by decide)) (pa_cons (pv 1) pa_nil)))
      (pss_cons (ps_if (pt_cmpR op_notN (pv 2) pe_non (nomark _)) (pss_one ps_never) pss_nil)
      (pss_one (ps_fld (pv 0) (pv 1) rfl)))), ?_⟩
    refine ⟨_, rfl, a, ws, rfl, hq, vd, hl, fun H1 S1 => ?_⟩
    refine ⟨_, rfl, rfl, _, rfl, iteF ?_⟩
    refine ⟨_, rfl, _, rfl, x, C, dx, [], rfl, S1 _ _ hx, pc.cl, pc.nw, (by show 0 < 1000; decide), ?_⟩
    refine k _ (fun b o hb hne => ?_) ⟨dx, upd_same⟩
    rw [upd_ne hne]
    exact S1 _ _ hb
end Kk

set_option maxHeartbeats 2000000
namespace Kk
open PySem PySem.Spec PyProof.Rows L2 Wd
/-! ### what the words hold -/
def tkN : W → Option Nm
  | .tk n => some n
  | _ => none
def nmN : W → Option Nm
  | .nm n => some n
  | _ => none
def namesOf (ws : List W) : List Nm := ws.filterMap nmN
theorem takesOf_eq (ws : List W) : takesOf ws = ws.filterMap tkN := by
  unfold takesOf
  congr 1
def apsOf (ws : List W) : Nat := ws.countP isAp
def openR (ws : List W) (n : Nm) : Option V := if n ∈ takesOf ws then none else some (sv n)
def openV (ws : List W) : List V := (namesOf ws).filterMap (openR ws)
theorem tk_map (ws : List W) : ws.filterMap (fun w => (tkN w).map sv) = (takesOf ws).map sv := by rw [takesOf_eq, List.map_filterMap]
theorem nm_map (ws : List W) : ws.filterMap (fun w => (nmN w).map sv) = (namesOf ws).map sv := by unfold namesOf; rw [List.map_filterMap]
theorem enc_map (ws : List W) : (ws.map enc).map V.str = ws.map wv := by rw [List.map_map]; rfl
theorem str_map (ns : List Nm) : (ns.map str).map V.str = ns.map sv := by rw [List.map_map]; rfl
theorem beq_ap {w : W} (h : wOk w) : (enc w == ("@" : Str)) = isAp w := by
  rw [← is_ap h]
  by_cases e : enc w = ("@" : Str)
  · rw [e]; simp
  · rw [decide_eq_false (fun q => e (V.str.inj q))]
    simp [e]
theorem count_ap {ws : List W} (ok : ∀ w ∈ ws, wOk w) : (ws.map enc).countP (fun y => y == ("@" : Str)) = apsOf ws := by
  unfold apsOf
  rw [List.countP_map]
  refine List.countP_congr fun w hw => ?_
  show (enc w == ("@" : Str)) = true ↔ _
  rw [beq_ap (ok w hw)]
theorem any_str (n : Nm) (ns : List Nm) : ((ns.map str).any fun x => decide ((Sum.inr (str n) : Key) = Sum.inr x)) = decide (n ∈ ns) := by
  induction ns with
  | nil => rfl
  | cons a ns ih =>
    rw [List.map_cons, List.any_cons, ih]
    by_cases e : n = a
    · subst e; simp
    · have : ¬ (str n = str a) := fun q => e (str_inj q)
      simp [this, e]
section
variable {P : Program} {w : World} {K : PySem.W.Frag} {mg : Str → Option Value} {base : Heap}
def spNum : Sp := fun vs H Q _ => ∃ i : Int, vs = [.int i] ∧ 0 ≤ i ∧ ∀ H', Same H H' → Q (.bl true) H'
theorem kitII : kitB "int" "int" = some true := by decide +kernel
theorem kitIB : kitB "int" "bool" = some false := by decide +kernel
abbrev s_is_number : Stmt := (top 3)
theorem sc_is_number : FnScope ["thing"] ["thing"] (defScope s_is_number) := ⟨rfl, rfl, rfl, by decide +kernel, rfl, by decide +kernel, by decide +kernel⟩
theorem c_is_number (B : Bt mg) (D : DefAt K mg "is_number" s_is_number) : Cal P w K mg base "is_number" 1 ["thing"] spNum := by
  refine cal_of D sc_is_number (fun _ _ _ _ _ _ us hl => match us, hl with | [_], _ => rfl) (fun vs H Q E h => ?_) (fun fa cdv A outer st0 H vs Q E hr h => ?_)
  · obtain ⟨i, rfl, _⟩ := h
    rfl
  · obtain ⟨i, rfl, hi, k⟩ := h
    refine ⟨_, (pss_one (ps_ret (pe_and (pe_callB call_isi (by rfl) B.b_isinstance (by decide +kernel) (pa_cons (pv 0) (pa_cons (pe_ty (n := "int") B.b_int (by decide +kernel)) pa_nil))) (pe_and (pe_not (pe_callB call_isi (by rfl) B.b_isinstance (by decide +kernel) (pa_cons (pv 0) (pa_cons (pe_ty (n := "bool") B.b_bool (by decide +kernel)) pa_nil)))) (pe_one (pe_cmpR op_ge (pv 0) pe_int (nomark _))))))), ?_⟩
    refine ⟨_, rfl, _, _, _, _, true, rfl, .ty _, .base (.int i), kit_ty kitII, _, rfl, iteT ?_⟩
    refine ⟨_, rfl, _, _, _, _, false, rfl, .ty _, .base (.int i), kit_ty kitIB, _, rfl, _, rfl, iteT ?_⟩
    refine ⟨_, rfl, _, _, rfl, rfl, ?_⟩
    have := k H (Same.refl H)
    rw [← decide_eq_true (show (0 : Int) ≤ i from hi)] at this
    exact this
def spStands : Sp := fun vs H Q _ => ∃ v : W, vs = [wv v] ∧ wOk v ∧ ∀ H', Same H H' → Q (.bl (isNm v)) H'
abbrev s_stands_as_name : Stmt := (top 26)
theorem sc_stands_as_name : FnScope ["word"] ["word"] (defScope s_stands_as_name) := ⟨rfl, rfl, rfl, by decide +kernel, rfl, by decide +kernel, by decide +kernel⟩
theorem c_stands_as_name (B : Bt mg) (D : DefAt K mg "stands_as_name" s_stands_as_name) : Cal P w K mg base "stands_as_name" 1 ["word"] spStands := by
  refine cal_of D sc_stands_as_name (fun _ _ _ _ _ _ us hl => match us, hl with | [_], _ => rfl) (fun vs H Q E h => ?_) (fun fa cdv A outer st0 H vs Q E hr h => ?_)
  · obtain ⟨v, rfl, _⟩ := h
    rfl
  · obtain ⟨v, rfl, hv, k⟩ := h
    refine ⟨_, (pss_one (ps_ret (pe_and (pe_cmpR op_ne (pv 0) (pe_gs B.m_GIVEN) (nomark _)) (pe_one (pe_not (pe_bm PySem.F.plainAttrs_str PySem.F.slot_str_startswith PySem.F.type_str_startswith mt_startswith (pv 0) (pa_cons (pe_gs B.m_TAKE) pa_nil))))))), ?_⟩
    refine ⟨_, rfl, rfl, _, rfl, ?_⟩
    rw [is_ap hv]
    cases v with
    | ap => exact iteF (k H (Same.refl H))
    | tk n =>
      refine iteT ⟨_, rfl, rfl, _, _, rfl, rfl, ?_⟩
      rw [starts_tk hv]
      exact ⟨_, rfl, k H (Same.refl H)⟩
    | nm n =>
      refine iteT ⟨_, rfl, rfl, _, _, rfl, rfl, ?_⟩
      rw [starts_tk hv]
      exact ⟨_, rfl, k H (Same.refl H)⟩
/-- of a Program whose words are there -/
def spOfP (K : PySem.W.Frag) (C : Addr) (R : List W → Hp → Hp → V → Prop) : Sp := fun vs H Q _ => ∃ (x a : Addr) (ws : List W), vs = [.ref x] ∧ Pg C H x a ∧ TupF H a (ws.map wv) ∧ Vd ws ∧ ws.length ≤ 4000 ∧
  ∀ H' v, Same H H' → R ws H H' v → Q v H'
def rTaken : List W → Hp → Hp → V → Prop := fun ws H H' v => ∃ q, v = .ref q ∧ H q = none ∧ H' q = some (.lst ((takesOf ws).map sv))
def rStand : List W → Hp → Hp → V → Prop := fun ws H H' v => ∃ q, v = .ref q ∧ H q = none ∧ H' q = some (.lst ((namesOf ws).map sv))
abbrev s_taken_names : Stmt := (top 24)
theorem sc_taken_names : FnScope ["program", "word"] ["program"] (defScope s_taken_names) := ⟨rfl, rfl, rfl, by decide +kernel, rfl, by decide +kernel, by decide +kernel⟩
theorem c_taken_names {C : Addr} (B : Bt mg) (pc : PC K mg C) (D : DefAt K mg "taken_names" s_taken_names) : Cal P w K mg base "taken_names" 1 ["program"] (spOfP K C rTaken) := by
  refine cal_of D sc_taken_names (fun _ _ _ _ _ _ us hl => match us, hl with | [_], _ => rfl) (fun vs H Q E h => ?_) (fun fa cdv A outer st0 H vs Q E hr h => ?_)
  · obtain ⟨x, a, ws, rfl, _⟩ := h
    rfl
  · obtain ⟨x, a, ws, rfl, ⟨dx, hx⟩, ht, vd, hl, k⟩ := h
    refine ⟨_, (pss_one (ps_ret (pe_lc (own := [("word", 1)]) (g := (gName 1)) (tt := (tB (tBM K "str" _ _ _))) rfl sc_taken_names.nd (pi_tup (pe_fld (pv 0) rfl)) (blkOk_by (own := [("word", 1)]) (N := ["program", "word"]) (sc := defScope s_taken_names) (by decide +kernel)) (fun _ _ _ _ _ => (pg_name (i := 1) sc_taken_names.nd rfl (by first | exact Or.inl rfl | exact Or.inr rfl))) (fun _ _ _ _ _ => (pts_one (pt_val (pe_bm PySem.F.plainAttrs_str PySem.F.slot_str_startswith PySem.F.type_str_startswith mt_startswith (pv 1) (pa_cons (pe_gs B.m_TAKE) pa_nil))))) (fun _ _ _ _ _ => (pe_slice sl_str (pv 1) (po_some pe_int) po_none))))), ?_⟩
    refine ⟨_, rfl, x, C, dx, _, _, rfl, hx, pc.cl, pc.nw, pfs_get a, a, rfl, ⟨_, ht.sq⟩, fun q nq => lc_fmT (r := fun w => (tkN w).map sv) ht.sq nq (by omega) (fun i v H' Qy Qn hv S1 gy gn => ?_) (fun H' S1 L1 => ?_)⟩
    · have hk := vd.okAt hv
      refine ⟨rfl, _, rfl, rfl, _, _, rfl, rfl, ?_⟩
      rw [starts_tk hk]
      refine ⟨_, rfl, ?_⟩
      cases v with
      | ap => exact iteF (gn _ (Same.refl _) rfl)
      | nm n => exact iteF (gn _ (Same.refl _) rfl)
      | tk n =>
        refine iteT ⟨_, rfl, _, rfl, _, rfl, Nat.le_of_lt (small_lt (m := 9) (len_enc hk) (by decide)), ?_⟩
        rw [cut1]
        exact gy _ _ (Same.refl _) rfl
    · rw [tk_map] at L1
      exact k H' _ S1 ⟨q, rfl, nq, L1⟩
abbrev s_standing_names : Stmt := (top 25)
theorem sc_standing_names : FnScope ["program", "word"] ["program"] (defScope s_standing_names) := ⟨rfl, rfl, rfl, by decide +kernel, rfl, by decide +kernel, by decide +kernel⟩
theorem c_standing_names {C : Addr} (B : Bt mg) (pc : PC K mg C) (D : DefAt K mg "standing_names" s_standing_names) (Cstands_as_name : Cal P w K mg base "stands_as_name" 1 ["word"] spStands) : Cal P w K mg base "standing_names" 2 ["program"] (spOfP K C rStand) := by
  refine cal_of D sc_standing_names (fun _ _ _ _ _ _ us hl => match us, hl with | [_], _ => rfl) (fun vs H Q E h => ?_) (fun fa cdv A outer st0 H vs Q E hr h => ?_)
  · obtain ⟨x, a, ws, rfl, _⟩ := h
    rfl
  · obtain ⟨x, a, ws, rfl, ⟨dx, hx⟩, ht, vd, hl, k⟩ := h
    refine ⟨_, (pss_one (ps_ret (pe_lc (own := [("word", 1)]) (g := (gName 1)) rfl sc_standing_names.nd (pi_tup (pe_fld (pv 0) rfl)) (blkOk_by (own := [("word", 1)]) (N := ["program", "word"]) (sc := defScope s_standing_names) (by decide +kernel)) (fun _ _ _ _ _ => (pg_name (i := 1) sc_standing_names.nd rfl (by first | exact Or.inl rfl | exact Or.inr rfl))) (fun _ _ _ _ _ => (pts_one (pt_val (pe_c Cstands_as_name (hr.mono (by decide)) (pa_cons (pv 1) pa_nil))))) (fun _ _ _ _ _ => (pv 1))))), ?_⟩
    refine ⟨_, rfl, x, C, dx, _, _, rfl, hx, pc.cl, pc.nw, pfs_get a, a, rfl, ⟨_, ht.sq⟩, fun q nq => lc_fmT (r := fun w => (nmN w).map sv) ht.sq nq (by omega) (fun i v H' Qy Qn hv S1 gy gn => ?_) (fun H' S1 L1 => ?_)⟩
    · have hk := vd.okAt hv
      refine ⟨rfl, _, rfl, v, rfl, hk, fun H2 S2 => ⟨_, rfl, ?_⟩⟩
      cases v with
      | ap => exact iteF (gn _ S2 rfl)
      | tk n => exact iteF (gn _ S2 rfl)
      | nm n => exact iteT ⟨_, rfl, gy _ _ S2 rfl⟩
    · rw [nm_map] at L1
      exact k H' _ S1 ⟨q, rfl, nq, L1⟩
def rOpen : List W → Hp → Hp → V → Prop := fun ws H H' v => ∃ q, v = .ref q ∧ H q = none ∧ TupF H' q (openV ws)
theorem takes_le (ws : List W) : (takesOf ws).length ≤ ws.length := takesOf_len ws
theorem names_le (ws : List W) : (namesOf ws).length ≤ ws.length := List.length_filterMap_le _ _
abbrev s_open_names : Stmt := (top 28)
theorem sc_open_names : FnScope ["program", "taken", "name"] ["program"] (defScope s_open_names) := ⟨rfl, rfl, rfl, by decide +kernel, rfl, by decide +kernel, by decide +kernel⟩
theorem c_open_names {C : Addr} (B : Bt mg) (pc : PC K mg C) (D : DefAt K mg "open_names" s_open_names) (Ctaken_names : Cal P w K mg base "taken_names" 1 ["program"] (spOfP K C rTaken)) (Cstanding_names : Cal P w K mg base "standing_names" 2 ["program"] (spOfP K C rStand)) :
    Cal P w K mg base "open_names" 3 ["program"] (spOfP K C rOpen) := by
  refine cal_of D sc_open_names (fun _ _ _ _ _ _ us hl => match us, hl with | [_], _ => rfl) (fun vs H Q E h => ?_) (fun fa cdv A outer st0 H vs Q E hr h => ?_)
  · obtain ⟨x, a, ws, rfl, _⟩ := h
    rfl
  · obtain ⟨x, a, ws, rfl, hx, ht, vd, hl, k⟩ := h
    refine ⟨_, (pss_cons (ps_set (i := 1) sc_open_names.nd rfl (by first | exact Or.inl rfl | exact Or.inr rfl) (pe_callTy (call_setTx rfl) (by rfl) B.b_set (by decide +kernel) (pa_cons (pe_c Ctaken_names (hr.mono (by decide)) (pa_cons (pv 0) pa_nil)) pa_nil)))
      (pss_one (ps_ret (pe_callTy call_tupleF (by rfl) B.b_tuple (by decide +kernel) (pa_cons (pe_lc (own := [("name", 2)]) (g := (gName 2)) (tt := (tTest (tOp (rSInK P w true) _ _))) rfl sc_open_names.nd (pi_list (pe_c Cstanding_names (hr.mono (by decide)) (pa_cons (pv 0) pa_nil))) (blkOk_by (own := [("name", 2)]) (N := ["program", "taken", "name"]) (sc := defScope s_open_names) (by decide +kernel)) (fun _ _ _ _ _ => (pg_name (i := 2) sc_open_names.nd rfl (by first | exact Or.inl rfl | exact Or.inr rfl))) (fun _ _ _ _ _ => (pts_one (pt_cmpR or_snotinK (pv 2) (pv 1) (by rfl)))) (fun _ _ _ _ _ => (pv 2))) pa_nil))))), ?_⟩
    have tl := takes_le ws
    have nl := names_le ws
    refine ⟨_, rfl, x, a, ws, rfl, hx, ht, vd, hl, fun H1 v1 S1 ⟨q1, e1, n1, L1⟩ => ?_⟩
    subst e1
    refine ⟨q1, (takesOf ws).map str, rfl, SqL.of (by rw [str_map]; exact L1), by rw [List.length_map]; omega, fun t c nt => ?_⟩
    have S2 : Same H1 (upd H1 t (SetK P w t (fun k => ((takesOf ws).map str).any fun x => decide (k = Sum.inr x)) c)) := same_upd nt
    have L2 : upd H1 t (SetK P w t (fun k => ((takesOf ws).map str).any fun x => decide (k = Sum.inr x)) c) t = some (SetK P w t (fun k => ((takesOf ws).map str).any fun x => decide (k = Sum.inr x)) c) := upd_same
    have S12 := S1.trans S2
    refine ⟨_, rfl, x, a, ws, rfl, hx.same S12, ht.same S12, vd, hl, fun H3 v3 S3 ⟨q3, e3, n3, L3⟩ => ?_⟩
    subst e3
    refine ⟨q3, rfl, ⟨_, SqL.of L3⟩, fun q nq => lc_fmL (r := openR ws) (SqL.of L3) nq (by omega) (fun i n H' Qy Qn hv S4 gy gn => ?_) (fun H' S4 L4 => ?_)⟩
    · refine ⟨rfl, _, rfl, _, rfl, Sum.inr (str n), t, _, c, rfl, rfl, S4 _ _ (S3 _ _ L2), ?_⟩
      refine ⟨_, rfl, ?_⟩
      show if (!(((takesOf ws).map str).any fun x => decide ((Sum.inr (str n) : Key) = Sum.inr x))) = true then _ else _
      rw [any_str]
      by_cases hm : n ∈ takesOf ws
      · rw [decide_eq_true hm]
        exact iteF (gn _ (Same.refl _) (by unfold openR; rw [if_pos hm]))
      · rw [decide_eq_false hm]
        exact iteT ⟨_, rfl, gy _ _ (Same.refl _) (by unfold openR; rw [if_neg hm])⟩
    · refine ⟨_, _, rfl, SqL.of L4, fun r o nr ho => ?_⟩
      have S14 := (S12.trans S3).trans S4
      exact k _ _ (S14.trans (same_upd nr)) ⟨r, rfl, S14.free nr, TupF.new ho⟩
end
end Kk

set_option maxHeartbeats 2000000
namespace Kk
open PySem PySem.Spec PyProof.Rows L2 Wd
section
variable {P : Program} {w : World} {K : PySem.W.Frag} {mg : Str → Option Value} {base : Heap}
def rGivens : List W → Hp → Hp → V → Prop := fun ws _ _ v => v = .int (apsOf ws : Nat)
def rTakes : List W → Hp → Hp → V → Prop := fun ws _ _ v => v = .int ((takesOf ws).length : Nat)
def rEnds : List W → Hp → Hp → V → Prop := fun ws H H' v => ∃ q E, v = .ref q ∧ IsEnds ws E ∧ H q = none ∧ TupF H' q (endsV ws.length E)
abbrev s_givens : Stmt := (top 29)
theorem sc_givens : FnScope ["program"] ["program"] (defScope s_givens) := ⟨rfl, rfl, rfl, by decide +kernel, rfl, by decide +kernel, by decide +kernel⟩
theorem c_givens {C : Addr} (B : Bt mg) (pc : PC K mg C) (D : DefAt K mg "givens" s_givens) : Cal P w K mg base "givens" 1 ["program"] (spOfP K C rGivens) := by
  refine cal_of D sc_givens (fun _ _ _ _ _ _ us hl => match us, hl with | [_], _ => rfl) (fun vs H Q E h => ?_) (fun fa cdv A outer st0 H vs Q E hr h => ?_)
  · obtain ⟨x, a, ws, rfl, _⟩ := h
    rfl
  · obtain ⟨x, a, ws, rfl, ⟨dx, hx⟩, ht, vd, hl, k⟩ := h
    refine ⟨_, (pss_one (ps_ret (pe_tm PySem.F.slot_tuple_count PySem.F.type_tuple_count mt_tcount (pe_fld (pv 0) rfl) (pa_cons (pe_gs B.m_GIVEN) pa_nil)))), ?_⟩
    refine ⟨_, rfl, x, C, dx, _, _, rfl, hx, pc.cl, pc.nw, pfs_get a, ⟨a, _, rfl, ht⟩, a, ws.map enc, "@", rfl, rfl, by rw [enc_map]; exact ht.sq, ?_⟩
    rw [count_ap vd.ok]
    exact k H _ (Same.refl H) rfl
abbrev s_takes : Stmt := (top 30)
theorem sc_takes : FnScope ["program"] ["program"] (defScope s_takes) := ⟨rfl, rfl, rfl, by decide +kernel, rfl, by decide +kernel, by decide +kernel⟩
theorem c_takes {C : Addr} (B : Bt mg) (D : DefAt K mg "takes" s_takes) (Ctaken_names : Cal P w K mg base "taken_names" 1 ["program"] (spOfP K C rTaken)) : Cal P w K mg base "takes" 2 ["program"] (spOfP K C rTakes) := by
  refine cal_of D sc_takes (fun _ _ _ _ _ _ us hl => match us, hl with | [_], _ => rfl) (fun vs H Q E h => ?_) (fun fa cdv A outer st0 H vs Q E hr h => ?_)
  · obtain ⟨x, a, ws, rfl, _⟩ := h
    rfl
  · obtain ⟨x, a, ws, rfl, hx, ht, vd, hl, k⟩ := h
    refine ⟨_, (pss_one (ps_ret (pe_callB call_len_seq (by rfl) B.b_len (by decide +kernel) (pa_cons (pe_c Ctaken_names (hr.mono (by decide)) (pa_cons (pv 0) pa_nil)) pa_nil)))), ?_⟩
    refine ⟨_, rfl, x, a, ws, rfl, hx, ht, vd, hl, fun H1 v1 S1 ⟨q1, e1, n1, L1⟩ => ?_⟩
    subst e1
    refine ⟨q1, _, rfl, .inl (SqL.of L1), ?_⟩
    rw [List.length_map]
    exact k H1 _ S1 rfl
abbrev s_ends : Stmt := (top 31)
theorem sc_ends : FnScope ["program"] ["program"] (defScope s_ends) := ⟨rfl, rfl, rfl, by decide +kernel, rfl, by decide +kernel, by decide +kernel⟩
theorem c_ends {C : Addr} (B : Bt mg) (pc : PC K mg C) (D : DefAt K mg "ends" s_ends) (Cends_of : Cal P w K mg base "ends_of" 2 ["words"] (spEndsOf K)) : Cal P w K mg base "ends" 3 ["program"] (spOfP K C rEnds) := by
  refine cal_of D sc_ends (fun _ _ _ _ _ _ us hl => match us, hl with | [_], _ => rfl) (fun vs H Q E h => ?_) (fun fa cdv A outer st0 H vs Q E hr h => ?_)
  · obtain ⟨x, a, ws, rfl, _⟩ := h
    rfl
  · obtain ⟨x, a, ws, rfl, ⟨dx, hx⟩, ht, vd, hl, k⟩ := h
    obtain ⟨EE, he⟩ := vd.ends
    refine ⟨_, (pss_one (ps_ret (pe_c Cends_of (hr.mono (by decide)) (pa_cons (pe_fld (pv 0) rfl) pa_nil)))), ?_⟩
    refine ⟨_, rfl, x, C, dx, _, _, rfl, hx, pc.cl, pc.nw, pfs_get a, a, ws, EE, rfl, ht.sq, vd, he, hl, fun H1 q S1 n1 T1 => ?_⟩
    exact k H1 _ S1 ⟨q, EE, rfl, he, n1, T1⟩
/-- of a Program and one of its places -/
def spAtP (K : PySem.W.Frag) (C : Addr) (R : List W → Nat → Addr → Hp → Hp → V → Prop) : Sp := fun vs H Q _ => ∃ (x a : Addr) (ws : List W) (i : Nat), vs = [.ref x, .int (i : Int)] ∧ Pg C H x a ∧ TupF H a (ws.map wv) ∧ Vd ws ∧ ws.length ≤ 1000 ∧ i < ws.length ∧
  ∀ H' v, Same H H' → R ws i a H H' v → Q v H'
def rNone : List W → Nat → Addr → Hp → Hp → V → Prop := fun _ _ _ _ _ v => v = .non
abbrev s_check_place : Stmt := (top 27)
theorem sc_check_place : FnScope ["program", "place"] ["program", "place"] (defScope s_check_place) := ⟨rfl, rfl, rfl, by decide +kernel, rfl, by decide +kernel, by decide +kernel⟩
theorem c_check_place {C : Addr} (B : Bt mg) (pc : PC K mg C) (D : DefAt K mg "check_place" s_check_place) (Cis_number : Cal P w K mg base "is_number" 1 ["thing"] spNum) : Cal P w K mg base "check_place" 2 ["program", "place"] (spAtP K C rNone) := by
  refine cal_of D sc_check_place (fun _ _ _ _ _ _ us hl => match us, hl with | [_, _], _ => rfl) (fun vs H Q E h => ?_) (fun fa cdv A outer st0 H vs Q E hr h => ?_)
  · obtain ⟨x, a, ws, i, rfl, _⟩ := h
    rfl
  · obtain ⟨x, a, ws, i, rfl, ⟨dx, hx⟩, ht, vd, hl, hi, k⟩ := h
    refine ⟨_, (pss_one (ps_if (PW.pt (pw_or (pt_not (pt_val (pe_c Cis_number (hr.mono (by decide)) (pa_cons (pv 1) pa_nil)))) (pw_or1 (pt_cmpR op_ge (pv 1) (pe_callB call_len_seq (by rfl) B.b_len (by decide +kernel) (pa_cons (pe_fld (pv 0) rfl) pa_nil)) (nomark _))))) (pss_one ps_never) pss_nil)), ?_⟩
    refine ⟨_, rfl, (i : Int), rfl, by omega, fun H1 S1 => ⟨_, rfl, iteF ?_⟩⟩
    refine ⟨_, rfl, _, rfl, x, C, dx, _, _, rfl, S1 _ _ hx, pc.cl, pc.nw, pfs_get a, a, _, rfl, .inr (SqT.same ht.sq S1), _, _, rfl, rfl, false, ?_, iteF ?_⟩
    · rw [List.length_map]
      exact congrArg V.bl (decide_eq_false (show ¬ ((ws.length : Nat) : Int) ≤ (i : Int) by omega))
    · exact k H1 _ S1 rfl
/-- the class can be made -/
structure Mkr (P : Program) (w : World) (K : PySem.W.Frag) (mg : Str → Option Value) (base : Heap) (C : Addr) : Prop where
  ex : ∃ f fd, Mk K C f ∧ mg "Program" = some (.ref C) ∧ Binds K fd ["self", "words"] [] ∧ FnOk P w K mg base CX0 5 f fd ["self", "words"] (spInit K C)
theorem pe_mk1 {X : Cx} {C : Addr} {e : Expr} {t : TA} {p pos : Pos} (M : Mkr X.prog X.w X.K X.mg X.base C) (hr : Room 6 X.A) (ha : PA X [e] t) (hg : Gl X "Program" := by rfl)
    (he : starEach [e] X.env = (false, eval e X.env) :: starEach [] X.env := by rfl) (hpl : (backTo pos (starEach [] X.env)).any (·.1) = false := by rfl) :
    PE X (.Call (.Name "Program" p) [e] [] pos) (tMake C (spInit X.K C) [] E0 t) := by
  obtain ⟨f, fd, M, hm, hb, F⟩ := M
  exact pe_make M F hr hg hm hb .nil pass0 ha (by decide) he hpl
theorem made_same {H : Hp} {x dx C : Addr} (nx : H x = none) (ndx : H dx = none) : Same H (upd (upd H dx (.own x)) x (.ins C dx [])) := fun b o e => by
  rw [upd_ne (ne_of_none e nx), upd_ne (ne_of_none e ndx)]
  exact e
theorem But.same {x : Addr} {H H1 H2 : Hp} (h : But x H1 H2) (s : Same H H1) (n : H x = none) : Same H H2 := fun b o e => h _ _ (s _ _ e) (ne_of_none e n)
def spBuilt (K : PySem.W.Frag) (C : Addr) : Sp := fun vs H Q _ => ∃ (a : Addr) (ws : List W), vs = [.ref a] ∧ TupF H a (ws.map wv) ∧ ∀ H' x, Same H H' → H x = none → Pg C H' x a → Q (.ref x) H'
theorem wv_a : V.str ("a" : Str) = wv (.nm [97]) := by
  refine congrArg V.str (TL.ext_tl ?_)
  rw [TL.tl_ofString]
  rfl
theorem vd_a : Vd [.nm [97]] := by
  refine ⟨⟨.nm [97], rfl, trivial, by decide, by decide⟩, fun w hw => ?_⟩
  have : w = .nm [97] := by simpa using hw
  subst this
  exact ⟨by decide, by decide, by decide⟩
abbrev s_built : Stmt := (top 16)
theorem sc_built : FnScope ["words", "program"] ["words"] (defScope s_built) := ⟨rfl, rfl, rfl, by decide +kernel, rfl, by decide +kernel, by decide +kernel⟩
theorem c_built {C : Addr} (B : Bt mg) (pc : PC K mg C) (D : DefAt K mg "built" s_built) (MProgram : Mkr P w K mg base C) : Cal P w K mg base "built" 7 ["words"] (spBuilt K C) := by
  refine cal_of D sc_built (fun _ _ _ _ _ _ us hl => match us, hl with | [_], _ => rfl) (fun vs H Q E h => ?_) (fun fa cdv A outer st0 H vs Q E hr h => ?_)
  · obtain ⟨a, ws, rfl, _⟩ := h
    rfl
  · obtain ⟨a, ws, rfl, ht, k⟩ := h
    refine ⟨_, (pss_cons (ps_set (i := 1) sc_built.nd rfl (by first | exact Or.inl rfl | exact Or.inr rfl) (pe_mk1 MProgram (hr.mono (by decide)) (pa_cons (pe_tupF (pa_cons pe_str pa_nil)) pa_nil)))
      (pss_cons (ps_fld (pv 1) (pv 0) rfl)
      (pss_one (ps_ret (pv 1))))), ?_⟩
    refine ⟨(by show 1 ≤ sizeLine; decide), fun t o nt ho x dx nx ndx nex => ?_⟩
    have S1 : Same H (upd H t (.frz o (.tup [V.str "a"]))) := same_upd nt
    have T1 : TupF (upd H t (.frz o (.tup [V.str "a"]))) t [V.str "a"] := TupF.new ho
    rw [wv_a] at T1
    have S2 := made_same (C := C) nx ndx
    refine ⟨x, dx, t, [.nm [97]], rfl, upd_same, (T1.same S2).sq, vd_a, by decide, fun H3 B3 ⟨dx3, P3⟩ => ⟨rfl, ?_⟩⟩
    have S3 := S1.trans (B3.same S2 nx)
    refine ⟨_, rfl, _, rfl, x, C, dx3, _, rfl, P3, pc.cl, pc.nw, (by show 1 < 1000; decide), _, rfl, ?_⟩
    rw [pfs_put]
    have n0 : H x = none := S1.free nx
    exact k _ x (fun b o hb => by rw [upd_ne (ne_of_none hb n0)]; exact S3 _ _ hb) n0 ⟨dx3, upd_same⟩
end
end Kk

set_option maxHeartbeats 2000000
namespace Kk
open PySem PySem.Spec PyProof.Rows L2 Wd
section
variable {P : Program} {w : World} {K : PySem.W.Frag} {mg : Str → Option Value} {base : Heap}
def rPart (C : Addr) : List W → Nat → Addr → Hp → Hp → V → Prop := fun ws i a H H' v => ∃ x' a' E, v = .ref x' ∧ H x' = none ∧ IsEnds ws E ∧ Pg C H' x' a' ∧ TupF H' a' (((ws.drop i).take (E i - i)).map wv)
theorem cut_part {xs : List V} {i j : Nat} (hi : i ≤ xs.length) (hj : j ≤ xs.length) : cutV xs (some (i : Int)) (some (j : Int)) = (xs.drop i).take (j - i) := by
  unfold cutV
  rw [HT.sIx_nat, HT.sIx_nat, Nat.min_eq_left hi, Nat.min_eq_left hj]
abbrev s_part : Stmt := (top 32)
theorem sc_part : FnScope ["program", "place"] ["program", "place"] (defScope s_part) := ⟨rfl, rfl, rfl, by decide +kernel, rfl, by decide +kernel, by decide +kernel⟩
theorem c_part {C : Addr} (B : Bt mg) (pc : PC K mg C) (D : DefAt K mg "part" s_part) (Ccheck_place : Cal P w K mg base "check_place" 2 ["program", "place"] (spAtP K C rNone)) (Cends_of : Cal P w K mg base "ends_of" 2 ["words"] (spEndsOf K))
    (Cbuilt : Cal P w K mg base "built" 7 ["words"] (spBuilt K C)) : Cal P w K mg base "part" 8 ["program", "place"] (spAtP K C (rPart C)) := by
  refine cal_of D sc_part (fun _ _ _ _ _ _ us hl => match us, hl with | [_, _], _ => rfl) (fun vs H Q E h => ?_) (fun fa cdv A outer st0 H vs Q E hr h => ?_)
  · obtain ⟨x, a, ws, i, rfl, _⟩ := h
    rfl
  · obtain ⟨x, a, ws, i, rfl, hx, ht, vd, hl, hi, k⟩ := h
    obtain ⟨EE, he⟩ := vd.ends
    refine ⟨_, (pss_cons (ps_expr (pe_c Ccheck_place (hr.mono (by decide)) (pa_cons (pv 0) (pa_cons (pv 1) pa_nil))))
      (pss_one (ps_ret (pe_c Cbuilt (hr.mono (by decide)) (pa_cons (pe_slice sl_tupF (pe_fld (pv 0) rfl) (po_some (pv 1)) (po_some (pe_ix ix_tup (pe_c Cends_of (hr.mono (by decide)) (pa_cons (pe_fld (pv 0) rfl) pa_nil)) (pv 1) (fun _ _ => rfl)))) pa_nil))))), ?_⟩
    refine ⟨_, rfl, _, rfl, x, a, ws, i, rfl, hx, ht, vd, Nat.le_trans hl (by decide), hi, fun H1 v1 S1 e1 => ?_⟩
    clear e1
    obtain ⟨dx, hx1⟩ := hx.same S1
    refine ⟨_, rfl, x, C, dx, _, _, rfl, hx1, pc.cl, pc.nw, pfs_get a, _, rfl, _, rfl, _, rfl, x, C, dx, _, _, rfl, hx1, pc.cl, pc.nw, pfs_get a, a, ws, EE, rfl, SqT.same ht.sq S1, vd, he, Nat.le_trans hl (by decide), fun H2 q S2 n2 T2 => ?_⟩
    have hE := he.lt i hi
    have hlm : (ws.map wv).length = ws.length := List.length_map ..
    have ht2 := (ht.same S1).same S2
    refine ⟨_, rfl, q, _, _, _, rfl, rfl, T2.sq, atI_nat (endsV_get hi), _, rfl, a, _, rfl, ht2.sq, fun hw => ?_, fun hw p o np ho => ?_⟩
    · have e1 : min i (ws.map wv).length = 0 := by have := hw.1; rwa [HT.sIx_nat] at this
      have e2 : min (EE i) (ws.map wv).length = (ws.map wv).length := by have := hw.2; rwa [HT.sIx_nat] at this
      have ei : i = 0 := by omega
      have eE : EE i = ws.length := by omega
      refine ⟨a, ws, rfl, ht2, fun H3 x3 S3 n3 P3 => ?_⟩
      refine k H3 _ ((S1.trans S2).trans S3) ⟨x3, a, EE, rfl, (S1.trans S2).free n3, he, P3, ?_⟩
      rw [eE, ei, List.drop_zero, Nat.sub_zero, List.take_length]
      exact ht2.same S3
    · rw [cut_part (by omega) (by omega), ← List.map_drop, ← List.map_take]
      refine ⟨p, (ws.drop i).take (EE i - i), rfl, TupF.new ho, fun H3 x3 S3 n3 P3 => ?_⟩
      have S2' := S2.trans (same_upd (o := .frz o (.tup (((ws.drop i).take (EE i - i)).map wv))) np)
      exact k H3 _ ((S1.trans S2').trans S3) ⟨x3, p, EE, rfl, (S1.trans S2').free n3, he, P3, (TupF.new ho).same S3⟩
def rTakenAt : List W → Nat → Addr → Hp → Hp → V → Prop := fun ws i _ _ _ v => (∀ n j, ws[i]? = some (.nm n) → ws[j]? = some (.tk n) → v = .int (j : Nat)) ∧ ((∀ n, ws[i]? = some (.nm n) → W.tk n ∉ ws) → v = .non)
theorem in_wv (z : Str) (ws : List W) : inV (.str z) (ws.map wv) = decide (z ∈ ws.map enc) := by
  unfold inV
  induction ws with
  | nil => simp
  | cons a us ih =>
    rw [List.map_cons, List.any_cons, ih]
    show (decide (enc a = z) || _) = _
    by_cases e : z = enc a
    · subst e; simp
    · have : ¬ enc a = z := fun q => e q.symm
      simp [this, e]
theorem flat_wv (us : List W) : (us.map wv).all flatV = true := by
  rw [List.all_eq_true]
  intro x hx
  obtain ⟨n, _, rfl⟩ := List.mem_map.mp hx
  rfl
theorem tl_take (v : W) : TL.tl (("/" : Str) ++ enc v) = 47 :: code v := by
  rw [TL.tl_append, slash]
  rfl
theorem take_nm (n : Nm) : (("/" : Str) ++ enc (.nm n)) = enc (.tk n) := TL.ext_tl (by rw [tl_take]; rfl)
theorem no_take {ws : List W} (ok : ∀ u ∈ ws, wOk u) {v : W} (h : ∀ n, v ≠ .nm n) : (("/" : Str) ++ enc v) ∉ ws.map enc := fun hm => by
  obtain ⟨u, hu, e⟩ := List.mem_map.mp hm
  have e2 := congrArg TL.tl e
  rw [tl_take, tl_enc] at e2
  have hk := ok u hu
  cases u with
  | ap => simp [Wd.code] at e2
  | tk n =>
    simp [Wd.code] at e2
    cases v with
    | ap => subst e2; have := hk.2.2 64 (by simp [Wd.code]); omega
    | tk m => subst e2; have := hk.2.2 47 (by simp [Wd.code]); omega
    | nm m => exact h m rfl
  | nm n =>
    simp [Wd.code] at e2
    subst e2
    have := hk.2.2 47 (by simp); omega
abbrev s_taken_at : Stmt := (top 33)
theorem sc_taken_at : FnScope ["program", "place", "take"] ["program", "place"] (defScope s_taken_at) := ⟨rfl, rfl, rfl, by decide +kernel, rfl, by decide +kernel, by decide +kernel⟩
theorem c_taken_at {C : Addr} (B : Bt mg) (pc : PC K mg C) (D : DefAt K mg "taken_at" s_taken_at) (Ccheck_place : Cal P w K mg base "check_place" 2 ["program", "place"] (spAtP K C rNone)) : Cal P w K mg base "taken_at" 3 ["program", "place"] (spAtP K C rTakenAt) := by
  refine cal_of D sc_taken_at (fun _ _ _ _ _ _ us hl => match us, hl with | [_, _], _ => rfl) (fun vs H Q E h => ?_) (fun fa cdv A outer st0 H vs Q E hr h => ?_)
  · obtain ⟨x, a, ws, i, rfl, _⟩ := h
    rfl
  · obtain ⟨x, a, ws, i, rfl, hx, ht, vd, hl, hi, k⟩ := h
    refine ⟨_, (pss_cons (ps_expr (pe_c Ccheck_place (hr.mono (by decide)) (pa_cons (pv 0) (pa_cons (pv 1) pa_nil))))
      (pss_cons (ps_set (i := 2) sc_taken_at.nd rfl (by first | exact Or.inl rfl | exact Or.inr rfl) (pe_op op_add_str (pe_gs B.m_TAKE) (pe_ix ix_tup (pe_fld (pv 0) rfl) (pv 1) (fun _ _ => rfl))))
      (pss_one (ps_ret (pe_ifExp (pt_cmpR op_in_seq (pv 2) (pe_fld (pv 0) rfl) (by rfl)) (pe_tm PySem.F.slot_tuple_index PySem.F.type_tuple_index mt_tup_index (pe_fld (pv 0) rfl) (pa_cons (pv 2) pa_nil)) pe_non))))), ?_⟩
    refine ⟨_, rfl, _, rfl, x, a, ws, i, rfl, hx, ht, vd, Nat.le_trans hl (by decide), hi, fun H1 v1 S1 e1 => ?_⟩
    clear e1
    obtain ⟨dx, hx1⟩ := hx.same S1
    have ht1 := ht.same S1
    obtain ⟨v, hv⟩ : ∃ v, ws[i]? = some v := ⟨ws[i], List.getElem?_eq_getElem hi⟩
    have hvv : (ws.map wv)[i]? = some (wv v) := by rw [List.getElem?_map, hv]; rfl
    have hk := vd.okAt hv
    refine ⟨_, rfl, x, C, dx, _, _, rfl, hx1, pc.cl, pc.nw, pfs_get a, _, rfl, a, _, _, _, rfl, rfl, ht1.sq, atI_nat hvv, _, _, rfl, rfl, ?_, ?_⟩
    · have := len_enc hk
      show ("/" : Str).length + (enc v).length ≤ sizeLine
      rw [TL.len_tl, slash]
      exact Nat.le_of_lt (small_lt (m := 10) (by simp; omega) (by decide))
    · refine ⟨_, rfl, _, rfl, x, C, dx, _, _, rfl, hx1, pc.cl, pc.nw, pfs_get a, a, _, rfl, .inr ht1.sq, rfl, flat_wv ws, _, rfl, ?_⟩
      show if inV (.str (("/" : Str) ++ enc v)) (ws.map wv) = true then _ else _
      rw [in_wv]
      by_cases hm : (("/" : Str) ++ enc v) ∈ ws.map enc
      · rw [decide_eq_true hm]
        refine iteT ?_
        cases v with
        | ap => exact absurd hm (no_take vd.ok (fun n q => by cases q))
        | tk m => exact absurd hm (no_take vd.ok (fun n q => by cases q))
        | nm n =>
          rw [take_nm] at hm ⊢
          obtain ⟨u, hu, eu⟩ := List.mem_map.mp hm
          have eu2 := enc_inj (vd.ok u hu) (show wOk (.tk n) from hk) eu
          subst eu2
          obtain ⟨j, hj⟩ := List.mem_iff_getElem?.mp hu
          refine ⟨_, rfl, x, C, dx, _, _, rfl, hx1, pc.cl, pc.nw, pfs_get a, ⟨a, _, rfl, ht1⟩, _, rfl, a, ws.map enc, enc (.tk n), j, rfl, rfl, by rw [enc_map]; exact ht1.sq, by rw [List.getElem?_map, hj]; rfl, fun m hmj hc => ?_, ?_⟩
          · rw [List.getElem?_map] at hc
            cases hw : ws[m]? with
            | none => rw [hw] at hc; cases hc
            | some u =>
              rw [hw] at hc
              have := enc_inj (vd.okAt hw) (show wOk (.tk n) from hk) (Option.some.inj hc)
              subst this
              have := vd.once (by simp) hw hj
              omega
          · refine k H1 _ S1 ⟨fun n' j' h1 h2 => ?_, fun hno => absurd hu (hno n hv)⟩
            rw [hv] at h1
            cases h1
            rw [vd.once (by simp) h2 hj]
      · rw [decide_eq_false hm]
        refine iteF ?_
        refine k H1 _ S1 ⟨fun n j h1 h2 => ?_, fun _ => rfl⟩
        rw [hv] at h1
        cases h1
        rw [take_nm] at hm
        exact absurd (List.mem_map.mpr ⟨_, List.mem_of_getElem? h2, rfl⟩) hm
end
end Kk

set_option maxHeartbeats 2000000
namespace Kk
open PySem PySem.Spec PyProof.Rows L2 Wd
section
variable {P : Program} {w : World} {K : PySem.W.Frag} {mg : Str → Option Value} {base : Heap}
def iv (n : Nat) : V := .int (n : Int)
def stk (L : List Nat) : List V := L.reverse.map iv
def endAt (L : List Nat) (z t : Nat) : Nat := if t = 0 then z else L.getD (t - 1) 0
theorem stk_cons (z : Nat) (L : List Nat) : stk (z :: L) = stk L ++ [iv z] := by simp [stk]
theorem stk_last (z : Nat) (L : List Nat) : (stk (z :: L))[(stk (z :: L)).length - 1]? = some (iv z) := by rw [stk_cons]; simp
theorem stk_pop (z : Nat) (L : List Nat) : (stk (z :: L)).dropLast = stk L := by rw [stk_cons]; simp
theorem drop_at {L : List Nat} {i : Nat} (h : i < L.length) : ∃ z, L.drop i = z :: L.drop (i + 1) ∧ endAt L 0 (i + 1) = z ∧ ∀ y, endAt L y (i + 1) = z := by
  refine ⟨L[i], List.drop_eq_getElem_cons h, ?_, fun y => ?_⟩
  · unfold endAt; rw [if_neg (by omega)]; simp [h]
  · unfold endAt; rw [if_neg (by omega)]; simp [h]
theorem chain_len (E : Nat → Nat) (n : Nat) : ∀ k i, (chain E n k i).length ≤ k
  | 0, _ => Nat.le_refl _
  | k + 1, i => by
    unfold chain
    by_cases h : i < n
    · rw [if_pos h, List.length_cons]; have := chain_len E n k (E i); omega
    · rw [if_neg h]; exact Nat.zero_le _
abbrev s_ends2 : Stmt := (top 43)
theorem sc_ends2 : FnScope ["_law_words_here", "_law_found", "_law_whole", "_law_place", "_law_end", "_law_turn"] ["_law_words_here"] (defScope s_ends2) := ⟨rfl, rfl, rfl, by decide +kernel, rfl, by decide +kernel, by decide +kernel⟩
def spEndsR (K : PySem.W.Frag) : Sp := fun vs H Q _ => ∃ (a : Addr) (ws : List W) (E : Nat → Nat), vs = [.ref a] ∧ SqT K H a (ws.map wv) ∧ (∀ v ∈ ws, wOk v) ∧ IsEnds ws E ∧ ws.length ≤ 4000 ∧
  ∀ H' q, Same H H' → H q = none → TupF H' q (endsV ws.length E) → Q (.ref q) H'
theorem c_ends2 (B : Bt mg) (D : DefAt K mg "_law_ends" s_ends2) : Cal P w K mg base "_law_ends" 1 ["_law_words_here"] (spEndsR K) := by
  refine cal_of D sc_ends2 (fun _ _ _ _ _ _ us hl => match us, hl with | [_], _ => rfl) (fun vs H Q E h => ?_) (fun fa cdv A outer st0 H vs Q E hr h => ?_)
  · obtain ⟨a, ws, E, rfl, _⟩ := h
    rfl
  · obtain ⟨a, ws, E, rfl, hq, vd, he, hl, k⟩ := h
    refine ⟨_, (pss_cons (ps_set (i := 1) sc_ends2.nd rfl (by first | exact Or.inl rfl | exact Or.inr rfl) (pe_op op_rep (pe_lst (pa_cons pe_int pa_nil)) (pe_callB call_len_seq (by rfl) B.b_len (by decide +kernel) (pa_cons (pv 0) pa_nil))))
      (pss_cons (ps_set (i := 2) sc_ends2.nd rfl (by first | exact Or.inl rfl | exact Or.inr rfl) (pe_lst pa_nil))
      (pss_cons (ps_for PassesOwn.never rfl (pi_range3 (by rfl) B.b_range (pa_cons (pe_op op_sub (pe_callB call_len_seq (by rfl) B.b_len (by decide +kernel) (pa_cons (pv 0) pa_nil)) pe_int) (pa_cons (pe_un un_neg pe_int) (pa_cons (pe_un un_neg pe_int) pa_nil)))) (pg_name (i := 3) sc_ends2.nd rfl (by first | exact Or.inl rfl | exact Or.inr rfl)) (pss_cons (ps_set (i := 4) sc_ends2.nd rfl (by first | exact Or.inl rfl | exact Or.inr rfl) (pe_op op_add (pv 3) pe_int))
      (pss_cons (ps_for PassesOwn.never rfl (pi_range1 (by rfl) B.b_range (pa_cons (pe_ifExp (pt_cmpR op_eq (pe_ix ix_tup (pv 0) (pv 3) (fun _ _ => rfl)) pe_str (nomark _)) pe_int (pe_callTy call_int1 (by rfl) B.b_int (by decide +kernel) (pa_cons (pe_cmpR op_eq (pe_slice sl_str (pe_ix ix_tup (pv 0) (pv 3) (fun _ _ => rfl)) po_none (po_some pe_int)) pe_str (nomark _)) pa_nil))) pa_nil)) (pg_name (i := 5) sc_ends2.nd rfl (by first | exact Or.inl rfl | exact Or.inr rfl)) (pss_one (ps_set (i := 4) sc_ends2.nd rfl (by first | exact Or.inl rfl | exact Or.inr rfl) (pe_bm0 PySem.F.plainAttrs_list PySem.F.slot_list_pop PySem.F.type_list_pop mt_pop (pv 2)))))
      (pss_cons (ps_asg (pv 4) (pg_sub (pv 1) (pv 3) set_list))
      (pss_one (ps_expr (pe_bm PySem.F.plainAttrs_list PySem.F.slot_list_append PySem.F.type_list_append mt_append (pv 2) (pa_cons (pv 4) pa_nil))))))))
      (pss_one (ps_ret (pe_callTy call_tupleF (by rfl) B.b_tuple (by decide +kernel) (pa_cons (pv 1) pa_nil))))))), ?_⟩
    have hlm : (ws.map wv).length = ws.length := List.length_map ..
    -- found = [0] * len(words)
    refine ⟨(by show 1 ≤ sizeLine; decide), fun z nz => ?_⟩
    have Sz : Same H (upd H z (.lst [.int 0])) := same_upd nz
    have Lz : upd H z (.lst [.int 0]) z = some (.lst [.int 0]) := upd_same
    generalize upd H z (.lst [.int 0]) = H1 at *
    refine ⟨_, rfl, _, _, rfl, .inr (SqT.same hq Sz), z, _, _, rfl, rfl, Lz, by omega, by omega, ?_, fun b nb => ?_⟩
    · rw [hlm, sizeLine_eq]; show 1 * _ ≤ _; omega
    have eb : (List.replicate (((ws.map wv).length : Nat) : Int).toNat [V.int 0]).flatten = List.replicate ws.length (V.int 0) := by
      rw [hlm]
      show (List.replicate ws.length [V.int 0]).flatten = _
      induction ws.length with
      | zero => rfl
      | succ n ih => rw [List.replicate_succ, List.flatten_cons, ih, List.replicate_succ]; rfl
    rw [eb]
    have Sb : Same H (upd H1 b (.lst (List.replicate ws.length (V.int 0)))) := Sz.trans (same_upd nb)
    have Lb : upd H1 b (.lst (List.replicate ws.length (V.int 0))) b = some (.lst (List.replicate ws.length (V.int 0))) := upd_same
    have fb : H b = none := Sz.free nb
    generalize upd H1 b (.lst (List.replicate ws.length (V.int 0))) = H2 at *
    refine ⟨Nat.zero_le _, fun c nc => ?_⟩
    have Sc : Same H (upd H2 c (.lst [])) := Sb.trans (same_upd nc)
    have Lc : upd H2 c (.lst []) c = some (.lst []) := upd_same
    have nbc : b ≠ c := ne_of_none Lb nc
    have Lb2 : upd H2 c (.lst []) b = some (.lst (List.replicate ws.length (V.int 0))) := by rw [upd_ne nbc]; exact Lb
    have fc : H c = none := Sb.free nc
    generalize upd H2 c (.lst []) = H3 at *
    have en : ((((ws.map wv).length : Nat) : Int) - 1 - -1).toNat = ws.length := by rw [hlm]; omega
    have big : (4000 : Int) < 2 ^ 62 := by decide
    refine ⟨_, rfl, _, _, rfl, .inr (SqT.same hq Sc), _, _, rfl, rfl, _, rfl, _, rfl, _, _, _, _, rfl, RgC.neg (i := (((ws.map wv).length : Nat) : Int) - 1) (j := -1) (by omega) (by omega) (by omega) (by omega),
      for_rangeC (lo := (((ws.map wv).length : Nat) : Int) - 1) (c := -1) (n := ((((ws.map wv).length : Nat) : Int) - 1 - -1).toNat)
      (fun i σ H' => ∃ (v1 v2 v3 : Option V) (L : List V), σ = [some (.ref a), some (.ref b), some (.ref c), v1, v2, v3] ∧ Same H H' ∧ H' b = some (.lst L) ∧ L.length = ws.length ∧ (∀ j, ws.length ≤ j + i → j < ws.length → L[j]? = some (.int (E j : Nat))) ∧ H' c = some (.lst (stk (ch E ws.length (ws.length - i)))))
      ⟨none, none, none, _, rfl, Sc, Lb2, List.length_replicate .., fun j h1 h2 => absurd h2 (by omega), by rw [Nat.sub_zero, ch_end]; exact Lc⟩ ?_ ?_⟩
    · rintro i σ H' hi ⟨v1, v2, v3, L, rfl, S3, L3, hL, hE, C3⟩
      rw [en] at hi
      obtain ⟨m, hm⟩ : ∃ m : Nat, m + i + 1 = ws.length := ⟨ws.length - 1 - i, by omega⟩
      have eat : ((((ws.map wv).length : Nat) : Int) - 1) + (i : Nat) * (-1) = (m : Int) := by rw [hlm]; omega
      rw [eat]
      have eni : ws.length - i = m + 1 := by omega
      rw [eni] at C3
      have hml : m < ws.length := by omega
      obtain ⟨w', hw⟩ : ∃ w', ws[m]? = some w' := ⟨ws[m], List.getElem?_eq_getElem hml⟩
      have hk := vd _ (List.mem_of_getElem? hw)
      have hwv : (ws.map wv)[m]? = some (wv w') := by rw [List.getElem?_map, hw]; rfl
      have q3 := SqT.same hq S3
      refine ⟨_, rfl, _, _, rfl, rfl, ?_⟩
      refine ⟨_, rfl, _, rfl, a, _, _, _, rfl, rfl, q3, atI_nat hwv, rfl, _, rfl, ?_⟩
      rw [is_ap hk]
      have chl : ∀ j, (ch E ws.length j).length ≤ ws.length := fun j => chain_len E ws.length ws.length j
      cases w'
      case' ap =>
        obtain ⟨c1, c2⟩ := ch_ap he hw
        have f1 : (2 : Int).toNat ≤ (ch E ws.length (m + 1)).length := by rw [c1]; simp
        have f2 : (ch E ws.length (m + 1)).drop (2 : Int).toNat = ch E ws.length (E m) := by rw [c1]; rfl
        have f3 : endAt (ch E ws.length (m + 1)) (m + 1) (2 : Int).toNat = E m := by rw [c1]; rfl
        refine iteT ?_
      case' tk n =>
        obtain ⟨c1, c2⟩ := ch_tk he hw
        have f1 : (if true = true then (1 : Int) else 0).toNat ≤ (ch E ws.length (m + 1)).length := by rw [c1]; simp
        have f2 : (ch E ws.length (m + 1)).drop (if true = true then (1 : Int) else 0).toNat = ch E ws.length (E m) := by rw [c1]; rfl
        have f3 : endAt (ch E ws.length (m + 1)) (m + 1) (if true = true then (1 : Int) else 0).toNat = E m := by rw [c1]; rfl
        refine iteF ⟨_, rfl, _, rfl, a, _, _, _, rfl, rfl, q3, atI_nat hwv, _, rfl, _, rfl, Nat.le_of_lt (small_lt (m := 9) (len_enc hk) (by decide)), rfl, ?_⟩
        rw [head_tk hk, show isTk (W.tk n) = true from rfl]
        refine .inr ⟨_, rfl, ?_⟩
      case' nm n =>
        have c1 := ch_nm he hw
        have a1 := he.nm m n hw
        have f1 : (if false = true then (1 : Int) else 0).toNat ≤ (ch E ws.length (m + 1)).length := Nat.zero_le _
        have f2 : (ch E ws.length (m + 1)).drop (if false = true then (1 : Int) else 0).toNat = ch E ws.length (E m) := by rw [a1]; rfl
        have f3 : endAt (ch E ws.length (m + 1)) (m + 1) (if false = true then (1 : Int) else 0).toNat = E m := a1.symm
        refine iteF ⟨_, rfl, _, rfl, a, _, _, _, rfl, rfl, q3, atI_nat hwv, _, rfl, _, rfl, Nat.le_of_lt (small_lt (m := 9) (len_enc hk) (by decide)), rfl, ?_⟩
        rw [head_tk hk, show isTk (W.nm n) = false from rfl]
        refine .inr ⟨_, rfl, ?_⟩
      all_goals
        refine ⟨_, rfl, by decide, by decide, for_range (lo := 0) (fun t σ H2 => ∃ (v : Option V), σ = [some (.ref a), some (.ref b), some (.ref c), some (.int (m : Int)), some (iv (endAt (ch E ws.length (m + 1)) (m + 1) t)), v] ∧ Same H H2 ∧ H2 b = some (.lst L) ∧ H2 c = some (.lst (stk ((ch E ws.length (m + 1)).drop t))))
          ⟨_, rfl, S3, L3, C3⟩ ?_ ?_⟩
        · rintro t σ H2 ht ⟨v, rfl, S4, L4, C4⟩
          have ht' : t < (ch E ws.length (m + 1)).length := Nat.lt_of_lt_of_le ht f1
          obtain ⟨z, d1, d2, d3⟩ := drop_at ht'
          rw [d1] at C4
          refine ⟨_, rfl, .inl ⟨rfl, _, SqL.of C4⟩, c, _, iv z, rfl, rfl, C4, stk_last _ _, ?_⟩
          rw [stk_pop]
          exact ⟨_, by rw [d3]; rfl, fun x o hx => by rw [upd_ne (ne_of_none hx fc)]; exact S4 _ _ hx, by rw [upd_ne nbc]; exact L4, upd_same⟩
        · rintro σ H2 ⟨v, rfl, S4, L4, C4⟩
          have C5 : H2 c = some (.lst (stk (ch E ws.length (E m)))) := by rw [← f2]; exact C4
          have ixm : ixN L.length (m : Int) = some m := ixN_lt (by omega)
          rw [f3]
          refine ⟨_, rfl, _, rfl, _, rfl, b, _, _, m, rfl, rfl, L4, ixm, ?_⟩
          have C6 : upd H2 b (.lst (L.set m (iv (E m)))) c = some (.lst (stk (ch E ws.length (E m)))) := by rw [upd_ne nbc.symm]; exact C5
          refine ⟨_, rfl, .inl ⟨rfl, _, SqL.of C6⟩, _, rfl, c, _, _, rfl, rfl, C6, ?_, ?_⟩
          · have := chl (E m)
            unfold stk
            rw [List.length_map, List.length_reverse]
            exact small_lt (m := 4000) (by omega) (by decide)
          · refine ⟨_, _, _, L.set m (iv (E m)), rfl, fun x o hx => ?_, ?_, ?_, fun j h1 h2 => ?_, ?_⟩
            · rw [upd_ne (ne_of_none hx fc), upd_ne (ne_of_none hx fb)]
              exact S4 _ _ hx
            · rw [upd_ne nbc, upd_same]
            · rw [List.length_set]; exact hL
            · by_cases hj : j = m
              · subst hj
                rw [List.getElem?_set_self (by omega)]
                rfl
              · rw [List.getElem?_set_ne (Ne.symm hj)]
                exact hE j (by omega) h2
            · rw [upd_same, show ws.length - (i + 1) = m by omega, ch_step he hml, stk_cons]
    · rintro σ H' ⟨v1, v2, v3, L, rfl, S3, L3, hL, hE, C3⟩
      rw [en] at hE
      have eL : L = endsV ws.length E := by
        apply List.ext_getElem?
        intro j
        by_cases hj : j < ws.length
        · rw [hE j (by omega) hj, endsV_get hj]
        · rw [List.getElem?_eq_none (by omega), List.getElem?_eq_none (by rw [endsV_len]; omega)]
      refine ⟨_, rfl, _, _, rfl, SqL.of L3, fun q o nq ho => ?_⟩
      rw [eL]
      exact k _ q (S3.trans (same_upd nq)) (S3.free nq) (TupF.new ho)
theorem c_ends2__V (C_law_ends : Cal P w K mg base "_law_ends" 1 ["_law_words_here"] (spEndsR K)) : Cal P w K mg base "_law_ends" 1 ["_law_words_here"] (spEndsOf K) := by
  exact C_law_ends.imp fun vs H Q E ⟨a, ws, EE, e, hq, vd, he, hl, k⟩ => ⟨a, ws, EE, e, hq, vd.ok, he, hl, k⟩
end
end Kk

set_option maxHeartbeats 2000000
namespace Kk
open PySem PySem.Spec PyProof.Rows L2 Wd
section
variable {P : Program} {w : World} {K : PySem.W.Frag} {mg : Str → Option Value} {base : Heap}
/-- where takes stand, among the first i words -/
structure Tks (ws : List W) (i : Nat) (f : Nm → Nat → V → Prop) (kvs : List (Key × V)) : Prop where
  len : kvs.length ≤ i
  yes : ∀ n j, j < i → ws[j]? = some (.tk n) → ∃ v, valV kvs (Sum.inr (str n)) = some v ∧ f n j v
  no : ∀ n, (∀ j, j < i → ws[j]? ≠ some (.tk n)) → valV kvs (Sum.inr (str n)) = none
theorem Tks.skip {ws : List W} {i : Nat} {f : Nm → Nat → V → Prop} {kvs : List (Key × V)} {v : W} (t : Tks ws i f kvs) (hw : ws[i]? = some v) (h : ∀ n, v ≠ .tk n) : Tks ws (i + 1) f kvs := by
  refine ⟨Nat.le_succ_of_le t.len, fun n j hj hn => t.yes n j ?_ hn, fun n hn => t.no n fun j hj => hn j (by omega)⟩
  have : j ≠ i := by
    rintro rfl
    rw [hw] at hn
    cases hn
    exact h n rfl
  omega
theorem Tks.put {ws : List W} (vd : Vd ws) {i : Nat} {f : Nm → Nat → V → Prop} {kvs : List (Key × V)} {m : Nm} {y : V} (t : Tks ws i f kvs) (hw : ws[i]? = some (.tk m)) (hf : f m i y) : Tks ws (i + 1) f (putK kvs (Sum.inr (str m)) y) := by
  refine ⟨by have := length_putK kvs (Sum.inr (str m)) y; have := t.len; omega, fun n j hj hn => ?_, fun n hn => ?_⟩
  · rw [valV_put]
    by_cases e : (Sum.inr (str n) : Key) = Sum.inr (str m)
    · have e2 := str_inj (Sum.inr.inj e)
      subst e2
      have := vd.once (by simp) hn hw
      subst this
      rw [if_pos rfl]
      exact ⟨y, rfl, hf⟩
    · rw [if_neg e]
      refine t.yes n j ?_ hn
      have : j ≠ i := by
        rintro rfl
        rw [hw] at hn
        cases hn
        exact e rfl
      omega
  · rw [valV_put]
    by_cases e : (Sum.inr (str n) : Key) = Sum.inr (str m)
    · have e2 := str_inj (Sum.inr.inj e)
      subst e2
      exact absurd hw (hn i (by omega))
    · rw [if_neg e]
      exact t.no n fun j hj => hn j (by omega)
theorem Tks.all {ws : List W} {f : Nm → Nat → V → Prop} {kvs : List (Key × V)} (t : Tks ws ws.length f kvs) (n : Nm) : (valV kvs (Sum.inr (str n))).isSome = decide (n ∈ takesOf ws) := by
  by_cases h : n ∈ takesOf ws
  · rw [decide_eq_true h]
    rw [takesOf_eq] at h
    obtain ⟨u, hu, e⟩ := List.mem_filterMap.mp h
    cases u with
    | ap => cases e
    | nm m => cases e
    | tk m =>
      cases e
      obtain ⟨j, hj⟩ := List.mem_iff_getElem?.mp hu
      obtain ⟨v, hv, _⟩ := t.yes n j (Wd.T.lt_of_get hj) hj
      rw [hv]
      rfl
  · rw [decide_eq_false h, t.no n fun j hj e => h ?_]
    · rfl
    · rw [takesOf_eq]
      exact List.mem_filterMap.mpr ⟨_, List.mem_of_getElem? e, rfl⟩
def spOpen2 (K : PySem.W.Frag) : Sp := fun vs H Q _ => ∃ (a : Addr) (ws : List W), vs = [.ref a] ∧ SqT K H a (ws.map wv) ∧ Vd ws ∧ ws.length ≤ 4000 ∧ ∀ H' q, Same H H' → H q = none → H' q = some (.lst (openV ws)) → Q (.ref q) H'
def open2R (ws : List W) (v : W) : Option V := match v with
  | .nm n => openR ws n
  | _ => none
theorem open2_map (ws us : List W) : us.filterMap (open2R ws) = (namesOf us).filterMap (openR ws) := by
  unfold namesOf
  rw [List.filterMap_filterMap]
  congr 1
  funext v
  cases v <;> rfl
theorem one_in (x : V) : True := trivial
abbrev s_open2 : Stmt := (top 44)
theorem sc_open2 : FnScope ["_law_words_here", "_law_known", "_law_word"] ["_law_words_here"] (defScope s_open2) := ⟨rfl, rfl, rfl, by decide +kernel, rfl, by decide +kernel, by decide +kernel⟩
theorem c_open2 (B : Bt mg) (D : DefAt K mg "_law_open" s_open2) : Cal P w K mg base "_law_open" 1 ["_law_words_here"] (spOpen2 K) := by
  refine cal_of D sc_open2 (fun _ _ _ _ _ _ us hl => match us, hl with | [_], _ => rfl) (fun vs H Q E h => ?_) (fun fa cdv A outer st0 H vs Q E hr h => ?_)
  · obtain ⟨a, ws, rfl, _⟩ := h
    rfl
  · obtain ⟨a, ws, rfl, hq, vd, hl, k⟩ := h
    refine ⟨_, (pss_cons (ps_set (i := 1) sc_open2.nd rfl (by first | exact Or.inl rfl | exact Or.inr rfl) pe_dnewK)
      (pss_cons (ps_for PassesOwn.never rfl (pi_tup (pv 0)) (pg_name (i := 2) sc_open2.nd rfl (by first | exact Or.inl rfl | exact Or.inr rfl)) (pss_one (ps_if (pt_cmpR op_eq (pe_slice sl_str (pv 2) po_none (po_some pe_int)) pe_str (nomark _)) (pss_one (ps_dput (hu_of hr) (pv 1) (pe_slice sl_str (pv 2) (po_some pe_int) po_none) pe_bl rfl)) pss_nil)))
      (pss_one (ps_ret (pe_lc (own := [("_law_word", 2)]) (g := (gName 2)) (tt := (tAnd _ (tAnd _ _))) rfl sc_open2.nd (pi_tup (pv 0)) (blkOk_by (own := [("_law_word", 2)]) (N := ["_law_words_here", "_law_known", "_law_word"]) (sc := defScope s_open2) (by decide +kernel)) (fun _ _ _ _ _ => (pg_name (i := 2) sc_open2.nd rfl (by first | exact Or.inl rfl | exact Or.inr rfl))) (fun _ _ _ _ _ => (pts_one (PW.pt (pw_and (pt_cmpR op_ne (pv 2) pe_str (nomark _)) (pw_and (pt_cmpR op_ne (pe_slice sl_str (pv 2) po_none (po_some pe_int)) pe_str (nomark _)) (pw_and1 (pt_cmp (pc_dnotin (hu_of hr) (pv 2) (pv 1))))))))) (fun _ _ _ _ _ => (pv 2))))))), ?_⟩
    have hlm : (ws.map wv).length = ws.length := List.length_map ..
    refine fun D nD => ?_
    have S0 : Same H (upd H D (.dK [])) := same_upd nD
    refine ⟨_, rfl, a, rfl, ⟨_, SqT.same hq S0⟩, for_tup (K := K) (a := a) (xs := ws.map wv) (fun i σ H' => ∃ (v1 v2 : Option V) (kvs : List (Key × V)), σ = [some (.ref a), some (.ref D), v1] ∧ Same H H' ∧ H' D = some (.dK kvs) ∧ Tks ws i (fun _ _ _ => True) kvs)
      ⟨none, none, [], rfl, S0, upd_same, Nat.le_refl _, fun n j hj => absurd hj (by omega), fun _ _ => rfl⟩ (fun i σ H' _ ⟨_, _, _, _, s, _⟩ => SqT.same hq s) ?_ ?_⟩
    · rintro i x σ H' hx ⟨v1, v2, kvs, rfl, S1, L1, t⟩
      obtain ⟨w', hw, rfl⟩ := map_get hx
      have hk := vd.okAt hw
      have hi := Wd.T.lt_of_get hw
      refine ⟨_, rfl, _, rfl, _, rfl, Nat.le_of_lt (small_lt (m := 9) (len_enc hk) (by decide)), rfl, _, rfl, ?_⟩
      rw [head_tk hk]
      cases w' with
      | ap => exact iteF ⟨_, none, kvs, rfl, S1, L1, t.skip hw (by simp)⟩
      | nm n => exact iteF ⟨_, none, kvs, rfl, S1, L1, t.skip hw (by simp)⟩
      | tk n =>
        refine iteT ?_
        refine ⟨_, rfl, _, rfl, _, rfl, _, rfl, Nat.le_of_lt (small_lt (m := 9) (len_enc hk) (by decide)), ?_⟩
        rw [cut1]
        refine ⟨D, _, rfl, DPut.k (k := Sum.inr (str n)) L1 (small_lt (m := 4000) (by have := t.len; omega) (by decide)), ?_⟩
        exact ⟨_, none, _, rfl, fun b o hb => by rw [upd_ne (ne_of_none hb nD)]; exact S1 _ _ hb, upd_same, t.put vd hw trivial⟩
    · rintro σ H1 ⟨v1, v2, kvs, rfl, S1, L1, t⟩
      rw [hlm] at t
      refine ⟨_, rfl, a, rfl, ⟨_, SqT.same hq S1⟩, fun q nq => lc_fmT (r := open2R ws) (SqT.same hq S1) nq (by omega) (fun i v H' Qy Qn hv S2 gy gn => ?_) (fun H' S2 L2 => ?_)⟩
      · have hk := vd.okAt hv
        refine ⟨rfl, _, rfl, rfl, _, rfl, ?_⟩
        rw [is_ap hk]
        cases v with
        | ap => exact iteF (iteF (gn _ (Same.refl _) rfl))
        | tk n =>
          refine iteT ⟨_, rfl, _, rfl, _, rfl, Nat.le_of_lt (small_lt (m := 9) (len_enc hk) (by decide)), rfl, _, rfl, ?_⟩
          rw [head_tk hk]
          exact iteF (iteF (gn _ (Same.refl _) rfl))
        | nm n =>
          refine iteT ⟨_, rfl, _, rfl, _, rfl, Nat.le_of_lt (small_lt (m := 9) (len_enc hk) (by decide)), rfl, _, rfl, ?_⟩
          rw [head_tk hk]
          refine iteT ⟨_, rfl, _, rfl, D, _, rfl, DGet.k (k := Sum.inr (str n)) (S2 _ _ L1), ?_⟩
          rw [t.all]
          by_cases hm : n ∈ takesOf ws
          · rw [decide_eq_true hm]
            exact ⟨_, rfl, iteF (gn _ (Same.refl _) (by show openR ws n = none; unfold openR; rw [if_pos hm]))⟩
          · rw [decide_eq_false hm]
            exact ⟨_, rfl, iteT ⟨_, rfl, gy _ _ (Same.refl _) (by show openR ws n = some _; unfold openR; rw [if_neg hm]; rfl)⟩⟩
      · rw [open2_map] at L2
        exact k H' q (S1.trans S2) (S1.free nq) L2
def spInt : Sp := fun vs H Q _ => ∃ i : Int, vs = [.int i] ∧ Q (.bl true) H
abbrev s_is_integer : Stmt := (top 45)
theorem sc_is_integer : FnScope ["_law_thing"] ["_law_thing"] (defScope s_is_integer) := ⟨rfl, rfl, rfl, by decide +kernel, rfl, by decide +kernel, by decide +kernel⟩
theorem c_is_integer (B : Bt mg) (D : DefAt K mg "_law_is_integer" s_is_integer) : Cal P w K mg base "_law_is_integer" 1 ["_law_thing"] spInt := by
  refine cal_of D sc_is_integer (fun _ _ _ _ _ _ us hl => match us, hl with | [_], _ => rfl) (fun vs H Q E h => ?_) (fun fa cdv A outer st0 H vs Q E hr h => ?_)
  · obtain ⟨i, rfl, _⟩ := h
    rfl
  · obtain ⟨i, rfl, k⟩ := h
    refine ⟨_, (pss_one (ps_ret (pe_and (pe_callB call_isi (by rfl) B.b_isinstance (by decide +kernel) (pa_cons (pv 0) (pa_cons (pe_ty (n := "int") B.b_int (by decide +kernel)) pa_nil))) (pe_one (pe_not (pe_callB call_isi (by rfl) B.b_isinstance (by decide +kernel) (pa_cons (pv 0) (pa_cons (pe_ty (n := "bool") B.b_bool (by decide +kernel)) pa_nil)))))))), ?_⟩
    refine ⟨_, rfl, _, _, _, _, true, rfl, .ty _, .base (.int i), kit_ty kitII, _, rfl, iteT ?_⟩
    exact ⟨_, rfl, _, _, _, _, false, rfl, .ty _, .base (.int i), kit_ty kitIB, _, rfl, k⟩
/-- the dict of takes -/
def spTakes2 (K : PySem.W.Frag) : Sp := fun vs H Q _ => ∃ (a : Addr) (ws : List W), vs = [.ref a] ∧ SqT K H a (ws.map wv) ∧ Vd ws ∧ ws.length ≤ 4000 ∧
  ∀ H' q kvs, Same H H' → H q = none → H' q = some (.dK kvs) → Tks ws ws.length (fun _ j v => v = .int (j : Nat)) kvs → Q (.ref q) H'
abbrev s_takes2 : Stmt := (top 46)
theorem sc_takes2 : FnScope ["_law_words_here", "_law_found", "_law_place"] ["_law_words_here"] (defScope s_takes2) := ⟨rfl, rfl, rfl, by decide +kernel, rfl, by decide +kernel, by decide +kernel⟩
theorem c_takes2 (B : Bt mg) (D : DefAt K mg "_law_takes" s_takes2) : Cal P w K mg base "_law_takes" 1 ["_law_words_here"] (spTakes2 K) := by
  refine cal_of D sc_takes2 (fun _ _ _ _ _ _ us hl => match us, hl with | [_], _ => rfl) (fun vs H Q E h => ?_) (fun fa cdv A outer st0 H vs Q E hr h => ?_)
  · obtain ⟨a, ws, rfl, _⟩ := h
    rfl
  · obtain ⟨a, ws, rfl, hq, vd, hl, k⟩ := h
    refine ⟨_, (pss_cons (ps_set (i := 1) sc_takes2.nd rfl (by first | exact Or.inl rfl | exact Or.inr rfl) pe_dnewK)
      (pss_cons (ps_for PassesOwn.never rfl (pi_range1 (by rfl) B.b_range (pa_cons (pe_callB call_len_seq (by rfl) B.b_len (by decide +kernel) (pa_cons (pv 0) pa_nil)) pa_nil)) (pg_name (i := 2) sc_takes2.nd rfl (by first | exact Or.inl rfl | exact Or.inr rfl)) (pss_one (ps_if (pt_cmpR op_eq (pe_slice sl_str (pe_ix ix_tup (pv 0) (pv 2) (fun _ _ => rfl)) po_none (po_some pe_int)) pe_str (nomark _)) (pss_one (ps_dput (hu_of hr) (pv 1) (pe_slice sl_str (pe_ix ix_tup (pv 0) (pv 2) (fun _ _ => rfl)) (po_some pe_int) po_none) (pv 2) rfl)) pss_nil)))
      (pss_one (ps_ret (pv 1))))), ?_⟩
    have hlm : (ws.map wv).length = ws.length := List.length_map ..
    refine fun D nD => ?_
    have S0 : Same H (upd H D (.dK [])) := same_upd nD
    refine ⟨_, rfl, _, _, rfl, .inr (SqT.same hq S0), _, rfl, by omega, by omega, for_range (lo := 0) (n := (((ws.map wv).length : Nat) : Int).toNat) (fun i σ H' => ∃ (v1 : Option V) (kvs : List (Key × V)), σ = [some (.ref a), some (.ref D), v1] ∧ Same H H' ∧ H' D = some (.dK kvs) ∧ Tks ws i (fun _ j v => v = .int (j : Nat)) kvs)
      ⟨none, [], rfl, S0, upd_same, Nat.le_refl _, fun n j hj => absurd hj (by omega), fun _ _ => rfl⟩ ?_ ?_⟩
    · rintro i σ H' hi ⟨v1, kvs, rfl, S1, L1, t⟩
      rw [hlm, Int.toNat_natCast] at hi
      obtain ⟨w', hw⟩ : ∃ w', ws[i]? = some w' := ⟨ws[i], List.getElem?_eq_getElem hi⟩
      have hwv : (ws.map wv)[i]? = some (wv w') := by rw [List.getElem?_map, hw]; rfl
      have hk := vd.okAt hw
      have q3 := SqT.same hq S1
      have e0 : (0 : Int) + (i : Int) = (i : Int) := by omega
      rw [e0]
      refine ⟨_, rfl, _, rfl, a, _, _, _, rfl, rfl, q3, atI_nat hwv, _, rfl, _, rfl, Nat.le_of_lt (small_lt (m := 9) (len_enc hk) (by decide)), rfl, _, rfl, ?_⟩
      rw [head_tk hk]
      cases w' with
      | ap => exact iteF ⟨_, kvs, rfl, S1, L1, t.skip hw (by simp)⟩
      | nm n => exact iteF ⟨_, kvs, rfl, S1, L1, t.skip hw (by simp)⟩
      | tk n =>
        refine iteT ?_
        refine ⟨_, rfl, _, rfl, _, rfl, _, rfl, a, _, _, _, rfl, rfl, q3, atI_nat hwv, _, rfl, _, rfl, Nat.le_of_lt (small_lt (m := 9) (len_enc hk) (by decide)), ?_⟩
        rw [cut1]
        refine ⟨D, _, rfl, DPut.k (k := Sum.inr (str n)) L1 (small_lt (m := 4000) (by have := t.len; omega) (by decide)), ?_⟩
        exact ⟨_, _, rfl, fun b o hb => by rw [upd_ne (ne_of_none hb nD)]; exact S1 _ _ hb, upd_same, t.put vd hw rfl⟩
    · rintro σ H1 ⟨v1, kvs, rfl, S1, L1, t⟩
      rw [hlm, Int.toNat_natCast] at t
      exact ⟨_, rfl, k H1 D kvs S1 nD L1 t⟩
end
end Kk

set_option maxHeartbeats 2000000
namespace Kk
open PySem PySem.Spec PyProof.Rows L2 Wd
/-! ### tuples of plain things compared -/
def Plain (x : V) : Prop := (∃ i, x = .int i) ∨ ∃ z : Str, x = .str z ∧ PyData.strOk z = true
def dV : V → PyData
  | .int i => .int i
  | .str z => .str z
  | _ => .none
theorem dp_all {K : PySem.W.Frag} {H : Hp} : ∀ {xs : List V}, (∀ x ∈ xs, Plain x) → DpAll K H xs (xs.map dV)
  | [], _ => .nil
  | x :: xs, h => by
    refine .cons ?_ (dp_all fun y hy => h y (List.mem_cons_of_mem _ hy))
    rcases h x (List.mem_cons_self ..) with ⟨i, rfl⟩ | ⟨z, rfl, _⟩
    · exact .int i
    · exact .str z
theorem can_all : ∀ {xs : List V}, (∀ x ∈ xs, Plain x) → PyData.canLayAll0 (xs.map dV) = true
  | [], _ => rfl
  | x :: xs, h => by
    have ih := can_all fun y hy => h y (List.mem_cons_of_mem x hy)
    rw [List.map_cons, PyData.canLayAll0, ih, Bool.and_true]
    rcases h x (List.mem_cons_self ..) with ⟨i, rfl⟩ | ⟨z, rfl, hz⟩
    · rfl
    · exact hz
theorem depth_all : ∀ {xs : List V}, (∀ x ∈ xs, Plain x) → PyData.depthAll (xs.map dV) = 0
  | [], _ => rfl
  | x :: xs, h => by
    have ih := depth_all fun y hy => h y (List.mem_cons_of_mem x hy)
    rw [List.map_cons, PyData.depthAll, ih]
    rcases h x (List.mem_cons_self ..) with ⟨i, rfl⟩ | ⟨z, rfl, hz⟩
    · rfl
    · rfl
theorem shaped_all {xs : List V} (h : ∀ x ∈ xs, Plain x) : SeqAt.shaped (.tuple (xs.map dV)) = true := by
  unfold SeqAt.shaped
  rw [PyData.canLay0, can_all h, PyData.depth, depth_all h]
  rfl
section
variable {K : PySem.W.Frag} {H : Hp} {p q : Addr} {xs : List V} {Q : VK}
theorem eqD_same (hp : SqT K H p xs) (hq : SqT K H q xs) (ok : ∀ x ∈ xs, Plain x) (k : Q (.bl true) H) : rEqD K (.ref p) (.ref q) H Q := by
  refine ⟨_, _, .tup hp (dp_all ok), .tup hq (dp_all ok), shaped_all ok, shaped_all ok, ?_⟩
  rw [SeqAt.eqv_refl _ (by rw [PyData.canLay0]; exact can_all ok)]
  exact k
theorem neD_same (hp : SqT K H p xs) (hq : SqT K H q xs) (ok : ∀ x ∈ xs, Plain x) (k : Q (.bl false) H) : rNeD K (.ref p) (.ref q) H Q := by
  refine ⟨_, _, .tup hp (dp_all ok), .tup hq (dp_all ok), shaped_all ok, shaped_all ok, ?_⟩
  rw [SeqAt.eqv_refl _ (by rw [PyData.canLay0]; exact can_all ok)]
  exact k
end
theorem ok_str {n : Nm} (h : nmOk n) : PyData.strOk (str n) = true := by
  unfold PyData.strOk
  show (n.toArray).all _ = true
  rw [List.all_toArray, List.all_eq_true]
  intro c hc
  have := h.2.2 c hc
  exact decide_eq_true (by omega)
theorem ok_enc {v : W} (h : wOk v) : PyData.strOk (enc v) = true := by
  cases v with
  | ap => decide +kernel
  | nm n => exact ok_str h
  | tk n =>
    unfold PyData.strOk
    show ((47 :: n).toArray).all _ = true
    rw [List.all_toArray, List.all_eq_true]
    intro c hc
    rcases List.mem_cons.mp hc with rfl | hc
    · decide
    · have := h.2.2 c hc
      exact decide_eq_true (by omega)
theorem plain_ws {ws : List W} (ok : ∀ v ∈ ws, wOk v) : ∀ x ∈ ws.map wv, Plain x := fun x hx => by
  obtain ⟨v, hv, rfl⟩ := List.mem_map.mp hx
  exact .inr ⟨_, rfl, ok_enc (ok v hv)⟩
end Kk

set_option maxHeartbeats 2000000
namespace Kk
open PySem PySem.Spec PyProof.Rows L2 Wd
section
variable {K : PySem.W.Frag} {H : Hp} {xs : List V} {Q : VK}
theorem sl_both {a : Addr} {i j : Nat} (hq : SqT K H a xs) (hi : i ≤ xs.length) (hj : j ≤ xs.length) (h : ∀ H' q, Same H H' → SqT K H' q ((xs.drop i).take (j - i)) → Q (.ref q) H') :
    ∃ a' xs', V.ref a = .ref a' ∧ SqT K H a' xs' ∧ ((HT.sIx xs'.length 0 (some (i : Int)) = 0 ∧ HT.sIx xs'.length xs'.length (some (j : Int)) = xs'.length) → Q (.ref a') H) ∧
    (¬ (HT.sIx xs'.length 0 (some (i : Int)) = 0 ∧ HT.sIx xs'.length xs'.length (some (j : Int)) = xs'.length) → ∀ p o, H p = none → o.dict = none → Q (.ref p) (upd H p (.frz o (.tup (cutV xs' (some (i : Int)) (some (j : Int))))))) := by
  refine ⟨a, xs, rfl, hq, fun hw => ?_, fun hw p o np ho => ?_⟩
  · rw [HT.sIx_nat, HT.sIx_nat, Nat.min_eq_left hi, Nat.min_eq_left hj] at hw
    obtain ⟨e1, e2⟩ := hw
    refine h H a (Same.refl H) ?_
    rw [e1, e2, List.drop_zero, Nat.sub_zero, List.take_length]
    exact hq
  · rw [cut_part hi hj]
    exact h _ p (same_upd np) (TupF.new ho).sq
end
theorem plain_ends (n : Nat) (E : Nat → Nat) : ∀ x ∈ endsV n E, Plain x := fun x hx => by
  obtain ⟨v, hv, rfl⟩ := List.mem_map.mp hx
  exact .inl ⟨_, rfl⟩
theorem plain_open {ws : List W} (ok : ∀ v ∈ ws, wOk v) : ∀ x ∈ openV ws, Plain x := fun x hx => by
  obtain ⟨n, hn, e⟩ := List.mem_filterMap.mp hx
  obtain ⟨v, hv, e2⟩ := List.mem_filterMap.mp hn
  unfold openR at e
  split at e
  · cases e
  · cases e
    refine .inr ⟨_, rfl, ok_str ?_⟩
    cases v with
    | nm m => cases e2; exact ok _ hv
    | ap => cases e2
    | tk m => cases e2
def apR (v : W) : Option V := if isAp v = true then some (wv v) else none
def tkR (v : W) : Option V := if isTk v = true then some (wv v) else none
theorem ap_len (ws : List W) : (ws.filterMap apR).length = apsOf ws := by
  unfold apsOf
  induction ws with
  | nil => rfl
  | cons v ws ih =>
    rw [List.countP_cons, ← ih]
    cases v <;> rfl
theorem tk_len (ws : List W) : (ws.filterMap tkR).length = (takesOf ws).length := by
  rw [takesOf_eq]
  induction ws with
  | nil => rfl
  | cons v ws ih =>
    cases v with
    | ap => exact ih
    | nm n => exact ih
    | tk n =>
      show (List.filterMap tkR ws).length + 1 = (List.filterMap tkN ws).length + 1
      rw [ih]
section
variable {P : Program} {w : World} {K : PySem.W.Frag} {mg : Str → Option Value} {base : Heap}
def spNumbers (K : PySem.W.Frag) (C : Addr) : Sp := fun vs H Q _ => ∃ (x b a : Addr) (ws : List W), vs = [.ref x, .ref b] ∧ Pg C H x a ∧ TupF H a (ws.map wv) ∧ SqT K H b (ws.map wv) ∧ Vd ws ∧ ws.length ≤ 1000 ∧ ∀ H', Same H H' → Q (.bl true) H'
abbrev s_numbers : Stmt := (top 47)
theorem sc_numbers : FnScope ["_law_program_here", "_law_words_here", "_law_many", "_law_word", "_law_names"] ["_law_program_here", "_law_words_here"] (defScope s_numbers) := ⟨rfl, rfl, rfl, by decide +kernel, rfl, by decide +kernel, by decide +kernel⟩
theorem c_numbers {C : Addr} (B : Bt mg) (D : DefAt K mg "_law_numbers" s_numbers) (Cgivens : Cal P w K mg base "givens" 1 ["program"] (spOfP K C rGivens)) (Ctakes : Cal P w K mg base "takes" 2 ["program"] (spOfP K C rTakes)) (Copen_names : Cal P w K mg base "open_names" 3 ["program"] (spOfP K C rOpen))
    (C_law_is_integer : Cal P w K mg base "_law_is_integer" 1 ["_law_thing"] spInt) (C_law_open : Cal P w K mg base "_law_open" 1 ["_law_words_here"] (spOpen2 K)) : Cal P w K mg base "_law_numbers" 4 ["_law_program_here", "_law_words_here"] (spNumbers K C) := by
  refine cal_of D sc_numbers (fun _ _ _ _ _ _ us hl => match us, hl with | [_, _], _ => rfl) (fun vs H Q E h => ?_) (fun fa cdv A outer st0 H vs Q E hr h => ?_)
  · obtain ⟨x, b, a, ws, rfl, _⟩ := h
    rfl
  · obtain ⟨x, b, a, ws, rfl, hx, ht, hq, vd, hl, k⟩ := h
    refine ⟨_, (pss_cons (ps_set (i := 2) sc_numbers.nd rfl (by first | exact Or.inl rfl | exact Or.inr rfl) (pe_c Cgivens (hr.mono (by decide)) (pa_cons (pv 0) pa_nil)))
      (pss_cons (ps_if (PW.pt (pw_or (pt_not (pt_val (pe_c C_law_is_integer (hr.mono (by decide)) (pa_cons (pv 2) pa_nil)))) (pw_or1 (pt_cmpR op_ne (pv 2) (pe_callB call_len_seq (by rfl) B.b_len (by decide +kernel) (pa_cons (pe_lc (own := [("_law_word", 3)]) (g := (gName 3)) rfl sc_numbers.nd (pi_tup (pv 1)) (blkOk_by (own := [("_law_word", 3)]) (N := ["_law_program_here", "_law_words_here", "_law_many", "_law_word", "_law_names"]) (sc := defScope s_numbers) (by decide +kernel)) (fun _ _ _ _ _ => (pg_name (i := 3) sc_numbers.nd rfl (by first | exact Or.inl rfl | exact Or.inr rfl))) (fun _ _ _ _ _ => (pts_one (pt_cmpR op_eq (pv 3) pe_str (nomark _)))) (fun _ _ _ _ _ => (pv 3))) pa_nil)) (nomark _))))) (pss_one (ps_ret pe_bl)) pss_nil)
      (pss_cons (ps_set (i := 2) sc_numbers.nd rfl (by first | exact Or.inl rfl | exact Or.inr rfl) (pe_c Ctakes (hr.mono (by decide)) (pa_cons (pv 0) pa_nil)))
      (pss_cons (ps_if (PW.pt (pw_or (pt_not (pt_val (pe_c C_law_is_integer (hr.mono (by decide)) (pa_cons (pv 2) pa_nil)))) (pw_or1 (pt_cmpR op_ne (pv 2) (pe_callB call_len_seq (by rfl) B.b_len (by decide +kernel) (pa_cons (pe_lc (own := [("_law_word", 3)]) (g := (gName 3)) rfl sc_numbers.nd (pi_tup (pv 1)) (blkOk_by (own := [("_law_word", 3)]) (N := ["_law_program_here", "_law_words_here", "_law_many", "_law_word", "_law_names"]) (sc := defScope s_numbers) (by decide +kernel)) (fun _ _ _ _ _ => (pg_name (i := 3) sc_numbers.nd rfl (by first | exact Or.inl rfl | exact Or.inr rfl))) (fun _ _ _ _ _ => (pts_one (pt_cmpR op_eq (pe_slice sl_str (pv 3) po_none (po_some pe_int)) pe_str (nomark _)))) (fun _ _ _ _ _ => (pv 3))) pa_nil)) (nomark _))))) (pss_one (ps_ret pe_bl)) pss_nil)
      (pss_cons (ps_set (i := 4) sc_numbers.nd rfl (by first | exact Or.inl rfl | exact Or.inr rfl) (pe_c Copen_names (hr.mono (by decide)) (pa_cons (pv 0) pa_nil)))
      (pss_one (ps_ret (pe_and (pe_callB call_isi (by rfl) B.b_isinstance (by decide +kernel) (pa_cons (pv 4) (pa_cons (pe_ty (n := "tuple") B.b_tuple (by decide +kernel)) pa_nil))) (pe_one (pe_cmpR (op_eqD hr.units) (pv 4) (pe_callTy call_tupleF (by rfl) B.b_tuple (by decide +kernel) (pa_cons (pe_c C_law_open (hr.mono (by decide)) (pa_cons (pv 1) pa_nil)) pa_nil)) (nomark _))))))))))), ?_⟩
    refine ⟨_, rfl, x, a, ws, rfl, hx, ht, vd, Nat.le_trans hl (by decide), fun H1 v1 S1 e1 => ?_⟩
    cases e1
    refine ⟨_, rfl, _, rfl, _, rfl, iteF ?_⟩
    refine ⟨_, rfl, _, rfl, b, rfl, ⟨_, SqT.same hq S1⟩, fun q nq => lc_fmT (r := apR) (SqT.same hq S1) nq (by omega) (fun i v H' Qy Qn hv S2 gy gn => ?_) (fun H2 S2 L2 => ?_)⟩
    · have hk := vd.okAt hv
      refine ⟨rfl, _, rfl, rfl, _, rfl, ?_⟩
      rw [is_ap hk]
      cases hc : isAp v with
      | true => exact iteT ⟨_, rfl, gy _ _ (Same.refl _) (by unfold apR; rw [hc, if_pos rfl])⟩
      | false => exact iteF (gn _ (Same.refl _) (by unfold apR; rw [hc]; rfl))
    · refine ⟨_, _, rfl, .inl (SqL.of L2), rfl, false, ?_, iteF ?_⟩
      · rw [ap_len]; simp
      have S02 := S1.trans S2
      refine ⟨_, rfl, x, a, ws, rfl, hx.same S02, ht.same S02, vd, Nat.le_trans hl (by decide), fun H3 v3 S3 e3 => ?_⟩
      cases e3
      have S03 := S02.trans S3
      refine ⟨_, rfl, _, rfl, _, rfl, iteF ?_⟩
      refine ⟨_, rfl, _, rfl, b, rfl, ⟨_, SqT.same hq S03⟩, fun q nq => lc_fmT (r := tkR) (SqT.same hq S03) nq (by omega) (fun i v H' Qy Qn hv S2 gy gn => ?_) (fun H4 S4 L4 => ?_)⟩
      · have hk := vd.okAt hv
        refine ⟨rfl, _, rfl, _, rfl, _, rfl, Nat.le_of_lt (small_lt (m := 9) (len_enc hk) (by decide)), rfl, _, rfl, ?_⟩
        rw [head_tk hk]
        cases hc : isTk v with
        | true => exact iteT ⟨_, rfl, gy _ _ (Same.refl _) (by unfold tkR; rw [hc, if_pos rfl])⟩
        | false => exact iteF (gn _ (Same.refl _) (by unfold tkR; rw [hc]; rfl))
      · refine ⟨_, _, rfl, .inl (SqL.of L4), rfl, false, ?_, iteF ?_⟩
        · rw [tk_len]; simp
        have S04 := S03.trans S4
        refine ⟨_, rfl, x, a, ws, rfl, hx.same S04, ht.same S04, vd, Nat.le_trans hl (by decide), fun H5 v5 S5 ⟨q5, e5, n5, T5⟩ => ?_⟩
        subst e5
        have S05 := S04.trans S5
        refine ⟨_, rfl, _, _, _, _, true, rfl, .ty _, tyx_tup T5.sq, kit_ty kitTT, _, rfl, iteT ?_⟩
        refine ⟨_, rfl, _, rfl, b, ws, rfl, SqT.same hq S05, vd, Nat.le_trans hl (by decide), fun H6 q6 S6 n6 L6 => ?_⟩
        refine ⟨_, _, rfl, SqL.of L6, fun r o nr ho => ?_⟩
        have S67 : Same H6 (upd H6 r (.frz o (.tup (openV ws)))) := same_upd nr
        exact eqD_same ((T5.same S6).same S67).sq (TupF.new ho).sq (plain_open vd.ok) (k _ ((S05.trans S6).trans S67))
end
end Kk

set_option maxHeartbeats 4000000
namespace Kk
open PySem PySem.Spec PyProof.Rows L2 Wd
/-- a tuple's slice, either way -/
def rSlF (K : PySem.W.Frag) : V → Option Int → Option Int → Hp → VK → Prop := fun x lo hi H Q => ∃ a xs, x = .ref a ∧ SqT K H a xs ∧ ((HT.sIx xs.length 0 lo = 0 ∧ HT.sIx xs.length xs.length hi = xs.length) → Q (.ref a) H) ∧
    (¬ (HT.sIx xs.length 0 lo = 0 ∧ HT.sIx xs.length xs.length hi = xs.length) → ∀ p o, H p = none → o.dict = none → Q (.ref p) (upd H p (.frz o (.tup (cutV xs lo hi)))))
theorem sl_tupG {X : Cx} : SlR X (rSlF X.K) := sl_tupF
theorem sl_any {K : PySem.W.Frag} {H : Hp} {xs : List V} {Q : VK} {a : Addr} {i j : Nat} (hq : SqT K H a xs) (hi : i ≤ xs.length) (hj : j ≤ xs.length) (h : ∀ H' q, Same H H' → SqT K H' q ((xs.drop i).take (j - i)) → Q (.ref q) H') :
    rSlF K (V.ref a) (some (i : Int)) (some (j : Int)) H Q := sl_both hq hi hj h
theorem ends_cut {n i j : Nat} (E : Nat → Nat) (hj : j ≤ n) : ((endsV n E).drop i).take (j - i) = (List.range (j - i)).map fun m => V.int (E (i + m) : Nat) := by
  apply List.ext_getElem?
  intro m
  rw [List.getElem?_take, List.getElem?_drop, List.getElem?_map]
  by_cases h : m < j - i
  · rw [if_pos h, endsV_get (by omega), List.getElem?_range h]
    rfl
  · rw [if_neg h, List.getElem?_eq_none (by rw [List.length_range]; omega)]
    rfl
theorem ends_less {m i : Nat} {E F : Nat → Nat} (h : ∀ j, j < m → F j + i = E (i + j)) : ((List.range m).filterMap fun j => some (V.int ((E (i + j) : Nat) - (i : Nat) : Int))) = endsV m F := by
  unfold endsV
  rw [List.filterMap_eq_map']
  refine List.map_congr_left fun j hj => ?_
  have := h j (List.mem_range.mp hj)
  exact congrArg V.int (by omega)
section
variable {P : Program} {w : World} {K : PySem.W.Frag} {mg : Str → Option Value} {base : Heap}
structure RA (K : PySem.W.Frag) (C : Addr) (H : Hp) (x b a e d : Addr) (ws : List W) (E : Nat → Nat) : Prop where
  px : Pg C H x a
  pt : TupF H a (ws.map wv)
  pb : SqT K H b (ws.map wv)
  vd : Vd ws
  he : IsEnds ws E
  hl : ws.length ≤ 1000
  pe : SqT K H e (endsV ws.length E)
  pd : ∃ kvs, H d = some (.dK kvs) ∧ Tks ws ws.length (fun _ j v => v = .int (j : Nat)) kvs
theorem RA.same {K : PySem.W.Frag} {C : Addr} {H H' : Hp} {x b a e d : Addr} {ws : List W} {E : Nat → Nat} (r : RA K C H x b a e d ws E) (s : Same H H') : RA K C H' x b a e d ws E := by
  obtain ⟨h1, h2, h3, h4, h5, h6, h7, kvs, h8, h9⟩ := r
  exact ⟨h1.same s, h2.same s, SqT.same h3 s, h4, h5, h6, SqT.same h7 s, kvs, s _ _ h8, h9⟩
def spRight (K : PySem.W.Frag) (C : Addr) : Sp := fun vs H Q _ => ∃ (x b a e d : Addr) (ws : List W) (E : Nat → Nat) (i : Nat), vs = [.ref x, .ref b, .int (i : Int), .ref e, .ref d] ∧ RA K C H x b a e d ws E ∧ i < ws.length ∧ ∀ H', Same H H' → Q (.bl true) H'
abbrev s_right_at : Stmt := (top 48)
theorem sc_right_at : FnScope ["_law_program_here", "_law_words_here", "_law_place", "_law_due", "_law_known", "_law_told", "_law_end", "_law_word", "_law_taken"] ["_law_program_here", "_law_words_here", "_law_place", "_law_due", "_law_known"] (defScope s_right_at) := ⟨rfl, rfl, rfl, by decide +kernel, rfl, by decide +kernel, by decide +kernel⟩
theorem kit_self {C : Addr} : PySem.W.kitOne K (.ref C) (.ref C) = some true := by
  unfold PySem.W.kitOne
  rw [if_pos (by simp)]
theorem c_right_at {C : Addr} (B : Bt mg) (pc : PC K mg C) (D : DefAt K mg "_law_right_at" s_right_at) (Cpart : Cal P w K mg base "part" 8 ["program", "place"] (spAtP K C (rPart C))) (Ctaken_at : Cal P w K mg base "taken_at" 3 ["program", "place"] (spAtP K C rTakenAt))
    (Cends : Cal P w K mg base "ends" 3 ["program"] (spOfP K C rEnds)) (C_law_numbers : Cal P w K mg base "_law_numbers" 4 ["_law_program_here", "_law_words_here"] (spNumbers K C)) (C_law_is_integer : Cal P w K mg base "_law_is_integer" 1 ["_law_thing"] spInt) :
    Cal P w K mg base "_law_right_at" 9 ["_law_program_here", "_law_words_here", "_law_place", "_law_due", "_law_known"] (spRight K C) := by
  refine cal_of D sc_right_at (fun _ _ _ _ _ _ us hl => match us, hl with | [_, _, _, _, _], _ => rfl) (fun vs H Q E h => ?_) (fun fa cdv A outer st0 H vs Q E hr h => ?_)
  · obtain ⟨x, b, a, e, d, ws, E, i, rfl, _⟩ := h
    rfl
  · obtain ⟨x, b, a, e, d, ws, E, i, rfl, R0, hi, k⟩ := h
    have m_Program := pc.mg
    have vd := R0.vd
    have he := R0.he
    have hl := R0.hl
    have hlm : (ws.map wv).length = ws.length := List.length_map ..
    have hel := endsV_len ws.length E
    have hE := he.lt i hi
    obtain ⟨vd', F, hF, hFE⟩ := vd.part he hi
    have hwl : ((ws.drop i).take (E i - i)).length = E i - i := by rw [List.length_take, List.length_drop]; omega
    refine ⟨_, (pss_cons (ps_set (i := 5) sc_right_at.nd rfl (by first | exact Or.inl rfl | exact Or.inr rfl) (pe_c Cpart (hr.mono (by decide)) (pa_cons (pv 0) (pa_cons (pv 2) pa_nil))))
      (pss_cons (ps_if (PW.pt (pw_or (pt_not (pt_val (pe_callB call_isi (by rfl) B.b_isinstance (by decide +kernel) (pa_cons (pv 5) (pa_cons (pe_gr m_Program) pa_nil))))) (pw_or1 (pt_cmpR (op_neD hr.units) (pe_fld (pv 5) rfl) (pe_slice sl_tupG (pv 1) (po_some (pv 2)) (po_some (pe_ix ix_tup (pv 3) (pv 2) (fun _ _ => rfl)))) (nomark _))))) (pss_one (ps_ret pe_bl)) pss_nil)
      (pss_cons (ps_if (pt_not (pt_val (pe_c C_law_numbers (hr.mono (by decide)) (pa_cons (pv 5) (pa_cons (pe_slice sl_tupG (pv 1) (po_some (pv 2)) (po_some (pe_ix ix_tup (pv 3) (pv 2) (fun _ _ => rfl)))) pa_nil))))) (pss_one (ps_ret pe_bl)) pss_nil)
      (pss_cons (ps_if (pt_cmpR (op_neD hr.units) (pe_c Cends (hr.mono (by decide)) (pa_cons (pv 5) pa_nil)) (pe_callTy call_tupleF (by rfl) B.b_tuple (by decide +kernel) (pa_cons (pe_lc (own := [("_law_end", 6)]) (g := (gName 6)) (tt := tYes) rfl sc_right_at.nd (pi_tup (pe_slice sl_tupG (pv 3) (po_some (pv 2)) (po_some (pe_ix ix_tup (pv 3) (pv 2) (fun _ _ => rfl))))) (blkOk_by (own := [("_law_end", 6)]) (N := ["_law_program_here", "_law_words_here", "_law_place", "_law_due", "_law_known", "_law_told", "_law_end", "_law_word", "_law_taken"]) (sc := defScope s_right_at) (by decide +kernel)) (fun _ _ _ _ _ => (pg_name (i := 6) sc_right_at.nd rfl (by first | exact Or.inl rfl | exact Or.inr rfl))) (fun _ _ _ _ _ => pts_nil) (fun _ _ _ _ _ => (pe_op op_sub (pv 6) (pv 2)))) pa_nil)) (nomark _)) (pss_one (ps_ret pe_bl)) pss_nil)
      (pss_cons (ps_set (i := 7) sc_right_at.nd rfl (by first | exact Or.inl rfl | exact Or.inr rfl) (pe_ix ix_tup (pv 1) (pv 2) (fun _ _ => rfl)))
      (pss_cons (ps_set (i := 8) sc_right_at.nd rfl (by first | exact Or.inl rfl | exact Or.inr rfl) (pe_c Ctaken_at (hr.mono (by decide)) (pa_cons (pv 0) (pa_cons (pv 2) pa_nil))))
      (pss_cons (ps_if (PW.pt (pw_or (pt_cmpR op_eq (pv 7) pe_str (nomark _)) (pw_or (pt_cmpR op_eq (pe_slice sl_str (pv 7) po_none (po_some pe_int)) pe_str (nomark _)) (pw_or1 (pt_cmp (pc_dnotin (hu_of hr) (pv 7) (pv 4))))))) (pss_one (ps_ret (pe_cmpR op_isN (pv 8) pe_non (nomark _)))) pss_nil)
      (pss_one (ps_ret (pe_and (pe_c C_law_is_integer (hr.mono (by decide)) (pa_cons (pv 8) pa_nil)) (pe_one (pe_cmpR op_eq (pv 8) (pe_dget (hu_of hr) (pv 4) (pv 7) (fun _ _ => rfl)) (nomark _))))))))))))), ?_⟩
    refine ⟨_, rfl, _, rfl, x, a, ws, i, rfl, R0.px, R0.pt, vd, Nat.le_trans hl (by decide), hi, fun H1 v1 S1 ⟨x', a', E', e1, n1, he', P1, T1⟩ => ?_⟩
    subst e1
    rw [he'.uniq he _ i rfl hi] at T1
    have R1 := R0.same S1
    generalize hws' : (ws.drop i).take (E i - i) = ws' at *
    have cutw : ∀ H' q, SqT K H' q (((ws.map wv).drop i).take (E i - i)) → SqT K H' q (ws'.map wv) := fun H' q h => by
      rw [← List.map_drop, ← List.map_take, hws'] at h
      exact h
    have hl' : ws'.length ≤ 1000 := by omega
    -- told is a Program with just these words
    obtain ⟨dx, P1'⟩ := id P1
    refine ⟨_, rfl, _, _, _, _, true, rfl, .own C, .base (.ins P1' pc.cl pc.ha pc.hn pc.ht pc.hm), kit_self, _, rfl, iteF ?_⟩
    refine ⟨_, rfl, x', C, dx, _, _, rfl, P1', pc.cl, pc.nw, pfs_get a', ?_⟩
    refine ⟨_, rfl, _, rfl, _, rfl, _, rfl, _, rfl, e, _, _, _, rfl, rfl, R1.pe, atI_nat (endsV_get hi), _, rfl, sl_any R1.pb (by omega) (by omega) fun H2 q2 S2 q2s => ?_⟩
    have R2 := R1.same S2
    have P2 := P1.same S2
    have T2 := T1.same S2
    refine neD_same T2.sq (cutw _ _ q2s) (plain_ws vd'.ok) ⟨_, rfl, iteF ?_⟩
    -- its numbers
    refine ⟨_, rfl, _, rfl, _, rfl, _, rfl, _, rfl, _, rfl, e, _, _, _, rfl, rfl, R2.pe, atI_nat (endsV_get hi), _, rfl, sl_any R2.pb (by omega) (by omega) fun H3 q3 S3 q3s => ?_⟩
    have R3 := R2.same S3
    have P3 := P2.same S3
    have T3 := T2.same S3
    refine ⟨x', q3, a', ws', rfl, P3, T3, cutw _ _ q3s, vd', Nat.le_trans hl' (by decide), fun H4 S4 => ⟨_, rfl, iteF ?_⟩⟩
    have R4 := R3.same S4
    have P4 := P3.same S4
    have T4 := T3.same S4
    -- its ends
    refine ⟨_, rfl, x', a', ws', rfl, P4, T4, vd', Nat.le_trans hl' (by decide), fun H5 v5 S5 ⟨q5, F5, e5, hF5, n5, T5⟩ => ?_⟩
    subst e5
    have R5 := R4.same S5
    refine ⟨_, rfl, _, rfl, _, rfl, _, rfl, _, rfl, e, _, _, _, rfl, rfl, R5.pe, atI_nat (endsV_get hi), _, rfl, sl_any R5.pe (by omega) (by omega) fun H6 q6 S6 q6s => ?_⟩
    rw [ends_cut E (by omega)] at q6s
    have R6 := R5.same S6
    have T6 := T5.same S6
    refine ⟨q6, rfl, ⟨_, q6s⟩, fun q7 nq7 => lc_fmT (r := fun j => some (V.int ((E (i + j) : Nat) - (i : Nat) : Int))) q6s nq7 (by rw [List.length_range]; omega) (fun j v H' Qy Qn hv S7 gy gn => ?_) (fun H7 S7 L7 => ?_)⟩
    · refine ⟨rfl, ?_⟩
      exact ⟨_, rfl, _, rfl, _, _, rfl, rfl, gy _ _ (Same.refl _) rfl⟩
    rw [ends_less (F := F5) (fun j hj => by rw [hF5.uniq hF _ j rfl (by omega)]; exact hFE j (by omega))] at L7
    have R7 := R6.same S7
    have T7 := T6.same S7
    refine ⟨_, _, rfl, SqL.of L7, fun r o nr ho => ?_⟩
    have S8 : Same H7 (upd H7 r (.frz o (.tup (endsV (E i - i) F5)))) := same_upd nr
    have T8 : TupF (upd H7 r (.frz o (.tup (endsV (E i - i) F5)))) r (endsV (E i - i) F5) := TupF.new ho
    have R8 := R7.same S8
    have T7' := T7.same S8
    rw [hwl] at T7'
    refine neD_same T7'.sq T8.sq (plain_ends _ _) ⟨_, rfl, iteF ?_⟩
    generalize upd H7 r (.frz o (.tup (endsV (E i - i) F5))) = H8 at *
    have S08 : Same H H8 := ((((((S1.trans S2).trans S3).trans S4).trans S5).trans S6).trans S7).trans S8
    -- the take of the word
    obtain ⟨v, hv⟩ : ∃ v, ws[i]? = some v := ⟨ws[i], List.getElem?_eq_getElem hi⟩
    have hvv : (ws.map wv)[i]? = some (wv v) := by rw [List.getElem?_map, hv]; rfl
    have hk := vd.okAt hv
    refine ⟨_, rfl, _, rfl, b, _, _, _, rfl, rfl, R8.pb, atI_nat hvv, ?_⟩
    refine ⟨_, rfl, _, rfl, x, a, ws, i, rfl, R8.px, R8.pt, vd, Nat.le_trans hl (by decide), hi, fun H9 v9 S9 ⟨t1, t2⟩ => ?_⟩
    have R9 := R8.same S9
    have S09 := S08.trans S9
    obtain ⟨kvs, hd, tk⟩ := R9.pd
    refine ⟨_, rfl, rfl, _, rfl, ?_⟩
    rw [is_ap hk]
    cases v with
    | ap =>
      have e9 := t2 fun n q => by rw [hv] at q; cases q
      subst e9
      exact iteT (iteT ⟨_, rfl, rfl, k _ S09⟩)
    | tk n =>
      have e9 := t2 fun n q => by rw [hv] at q; cases q
      subst e9
      refine iteF ⟨_, rfl, _, rfl, _, rfl, Nat.le_of_lt (small_lt (m := 9) (len_enc hk) (by decide)), rfl, _, rfl, ?_⟩
      rw [head_tk hk]
      exact iteT (iteT ⟨_, rfl, rfl, k _ S09⟩)
    | nm n =>
      refine iteF ⟨_, rfl, _, rfl, _, rfl, Nat.le_of_lt (small_lt (m := 9) (len_enc hk) (by decide)), rfl, _, rfl, ?_⟩
      rw [head_tk hk]
      refine iteF ⟨_, rfl, _, rfl, d, _, rfl, DGet.k (k := Sum.inr (str n)) hd, ?_⟩
      rw [tk.all]
      by_cases hm : n ∈ takesOf ws
      · rw [decide_eq_true hm]
        refine ⟨_, rfl, iteF ?_⟩
        rw [takesOf_eq] at hm
        obtain ⟨u, hu, eu⟩ := List.mem_filterMap.mp hm
        cases u with
        | ap => cases eu
        | nm m => cases eu
        | tk m =>
          cases eu
          obtain ⟨j, hj⟩ := List.mem_iff_getElem?.mp hu
          have e9 := t1 _ j hv hj
          subst e9
          obtain ⟨y, hy, ey⟩ := tk.yes _ j (Wd.T.lt_of_get hj) hj
          subst ey
          refine ⟨_, rfl, _, rfl, _, rfl, iteT ?_⟩
          refine ⟨_, rfl, _, rfl, _, rfl, d, _, rfl, by rw [← hy]; exact DGet.k (k := Sum.inr (str n)) hd, rfl, ?_⟩
          rw [decide_eq_true rfl]
          exact k _ S09
      · rw [decide_eq_false hm]
        have e9 := t2 fun n' q hmem => by
          rw [hv] at q
          cases q
          exact hm (by rw [takesOf_eq]; exact List.mem_filterMap.mpr ⟨_, hmem, rfl⟩)
        subst e9
        exact ⟨_, rfl, iteT ⟨_, rfl, rfl, k _ S09⟩⟩
end
end Kk

set_option maxHeartbeats 4000000
namespace Wd
theorem T.tk_in_lv : ∀ (t : T) (n : Nm), t.sc → n ∈ t.tks → n ∈ t.lv
  | .nm _, n, _, h => by simp [T.tks] at h
  | .ap f a, n, s, h => by
    rcases List.mem_append.mp h with h | h
    · exact List.mem_append_left _ (tk_in_lv f n s.1 h)
    · exact List.mem_append_right _ (tk_in_lv a n s.2 h)
  | .tk m b, n, s, h => by
    rcases List.mem_cons.mp h with rfl | h
    · exact s.1
    · exact tk_in_lv b n s.2 h
theorem T.aps_count : ∀ t : T, t.ws.countP isAp = t.aps
  | .nm _ => rfl
  | .tk m b => by
    show (W.tk m :: b.ws).countP isAp = b.aps
    rw [List.countP_cons, aps_count b]; rfl
  | .ap f a => by
    show (W.ap :: (f.ws ++ a.ws)).countP isAp = f.aps + a.aps + 1
    rw [List.countP_cons, List.countP_append, aps_count f, aps_count a]; rfl
end Wd
namespace Kk
open PySem PySem.Spec PyProof.Rows L2 Wd
def rLenQ (K : PySem.W.Frag) : List V → Hp → VK → Prop := fun xs H Q => ∃ p ys, xs = [.ref p] ∧ (SqL K H p ys ∨ SqT K H p ys) ∧ Q (.int ys.length) H
theorem call_lenQ {X : Cx} : CallR X (.builtin "len") (rLenQ X.K) := call_len_seq
theorem closed_takes {ws : List W} (vd : Vd ws) (h : openV ws = []) : (takesOf ws).length = apsOf ws + 1 := by
  obtain ⟨⟨t, rfl, s, nl, nt⟩, ok⟩ := vd
  have e1 : takesOf t.ws = t.tks := takesOf_tree t
  have e2 : namesOf t.ws = t.lv := by
    rw [T.lv_ws]
    unfold namesOf
    congr 1
  have e3 : apsOf t.ws = t.aps := T.aps_count t
  rw [e1, e3]
  have l1 := nodup_len nt fun x hx => T.tk_in_lv t x s hx
  have l2 := nodup_len nl (b := t.tks) fun x hx => by
    have hn : (openR t.ws x) = none := by
      have := List.filterMap_eq_nil_iff.mp h x (by rw [e2]; exact hx)
      exact this
    unfold openR at hn
    rw [e1] at hn
    split at hn
    · assumption
    · cases hn
  have := T.lv_aps t
  omega
theorem te_pick {b : Prop} [Decidable b] {ta tb : TE} {σ : L2.St} {H : Hp} {Q : VK} (S : V → Hp → Prop) (h1 : b → ∀ Q' : VK, (∀ v H, S v H → Q' v H) → ta σ H Q') (h2 : ¬ b → ∀ Q' : VK, (∀ v H, S v H → Q' v H) → tb σ H Q')
    (h : ∀ v H, S v H → Q v H) : if b then ta σ H Q else tb σ H Q := by
  split
  · exact h1 ‹_› Q h
  · exact h2 ‹_› Q h
theorem ts_pick {b : Prop} [Decidable b] {ta tb : TS} {D : Ends} {σ : L2.St} {H : Hp} (S : L2.St → Hp → Prop) (h1 : b → ∀ D' : Ends, (∀ σ H, S σ H → D'.nx σ H) → ta D' σ H) (h2 : ¬ b → ∀ D' : Ends, (∀ σ H, S σ H → D'.nx σ H) → tb D' σ H)
    (h : ∀ σ H, S σ H → D.nx σ H) : if b then ta D σ H else tb D σ H := by
  split
  · exact h1 ‹_› D h
  · exact h2 ‹_› D h
theorem rgV_iv (n : Nat) : rgV 0 (n : Int) = (List.range n).map iv := by
  unfold rgV
  have e : ((n : Int) - 0).toNat = n := by omega
  rw [e]
  refine List.map_congr_left fun j _ => ?_
  show V.int (0 + (j : Int)) = V.int (j : Int)
  rw [Int.zero_add]
theorem wv_x : V.str ("x" : Str) = wv (.nm [120]) := by
  refine congrArg V.str (TL.ext_tl ?_)
  rw [TL.tl_ofString]
  rfl
theorem vd_x : Vd [.nm [120]] := by
  refine ⟨⟨.nm [120], rfl, trivial, by decide, by decide⟩, fun w hw => ?_⟩
  have : w = .nm [120] := by simpa using hw
  subst this
  exact ⟨by decide, by decide, by decide⟩
theorem PotAt.np {H : Hp} {p g s q : Addr} {o : HO} (h : PotAt H p g s) (e : H q = some o) (hn : ∀ xs, o ≠ .lst xs) : q ≠ p ∧ q ≠ g := by
  obtain ⟨⟨G, S, t, r, z1, z2, z3, z4⟩, _, _, _⟩ := h
  exact ⟨ne_of e z1 (hn _), ne_of e z2 (hn _)⟩
theorem PotAt.free {H : Hp} {p g s q : Addr} (h : PotAt H p g s) (e : H q = none) : q ≠ p ∧ q ≠ g := by
  obtain ⟨⟨G, S, t, r, z1, z2, z3, z4⟩, _, _, _⟩ := h
  exact ⟨(ne_of_none z1 e).symm, (ne_of_none z2 e).symm⟩
theorem endsV_eq {ws : List W} {E F : Nat → Nat} (h : IsEnds ws E) (g : IsEnds ws F) : endsV ws.length E = endsV ws.length F := by
  unfold endsV
  refine List.map_congr_left fun j hj => ?_
  rw [h.uniq g _ j rfl (List.mem_range.mp hj)]
theorem tt_no {b : Prop} [Decidable b] {u : TT} {σ : L2.St} {H : Hp} {Q : Bool → Hp → Prop} (S : Hp → Prop) (h1 : b → ∀ Q' : Bool → Hp → Prop, (∀ H, S H → Q' false H) → u σ H Q') (h2 : ¬ b → S H) (h : ∀ H, S H → Q false H) : if b then u σ H Q else Q false H := by
  split
  · exact h1 ‹_› Q h
  · exact h _ (h2 ‹_›)
/-- what stands while the places are looked at -/
structure LW (C : Addr) (H : Hp) (x a e : Addr) (ws : List W) (E : Nat → Nat) : Prop where
  px : Pg C H x a
  pt : TupF H a (ws.map wv)
  pe : TupF H e (endsV ws.length E)
theorem LW.same {C : Addr} {H H' : Hp} {x a e : Addr} {ws : List W} {E : Nat → Nat} (r : LW C H x a e ws E) (s : Same H H') : LW C H' x a e ws E := ⟨r.px.same s, r.pt.same s, r.pe.same s⟩
theorem LW.keep {C : Addr} {H H' : Hp} {p g s x a e : Addr} {ws : List W} {E : Nat → Nat} (r : LW C H x a e ws E) (P : PotAt H p g s) (k : Keep p g H H') : LW C H' x a e ws E := by
  obtain ⟨⟨dx, h1⟩, ⟨o2, h2, d2⟩, ⟨o3, h3, d3⟩⟩ := r
  have n1 := P.np h1 (fun _ q => nomatch q)
  have n2 := P.np h2 (fun _ q => nomatch q)
  have n3 := P.np h3 (fun _ q => nomatch q)
  exact ⟨⟨dx, k _ _ h1 n1.1 n1.2⟩, ⟨o2, k _ _ h2 n2.1 n2.2, d2⟩, ⟨o3, k _ _ h3 n3.1 n3.2, d3⟩⟩
theorem LW.wr {C : Addr} {H : Hp} {x a e D : Addr} {ws : List W} {E : Nat → Nat} {xs : List V} {o : HO} (r : LW C H x a e ws E) (h : H D = some (.lst xs)) : LW C (upd H D o) x a e ws E := by
  obtain ⟨⟨dx, h1⟩, ⟨o2, h2, d2⟩, ⟨o3, h3, d3⟩⟩ := r
  exact ⟨⟨dx, by rw [upd_ne (ne_of h1 h (fun q => nomatch q))]; exact h1⟩, ⟨o2, by rw [upd_ne (ne_of h2 h (fun q => nomatch q))]; exact h2, d2⟩, ⟨o3, by rw [upd_ne (ne_of h3 h (fun q => nomatch q))]; exact h3, d3⟩⟩
theorem PotAt.freeS {H : Hp} {p g s q : Addr} (h : PotAt H p g s) (e : H q = none) : q ≠ s := by
  obtain ⟨⟨G, S, t, r, z1, z2, z3, z4⟩, _, _, _⟩ := h
  exact (ne_of_none z3 e).symm
def spLaw (K : PySem.W.Frag) : Sp := fun vs H Q _ => ∃ (a : Addr) (ns : List Int), vs = [.ref a] ∧ SqL K H a (ns.map V.int) ∧ ns.length ≤ 63 ∧ ∀ H', Q (.bl true) H'
theorem SqL.keepN {K : PySem.W.Frag} {p g a : Addr} {H H1 H' : Hp} {xs : List V} (h : SqL K H a xs) (s : Same H H1) (k : Keep p g H1 H') (np : H p = none) (ng : H g = none) : SqL K H' a xs := by
  rcases h with (h | ⟨o, h⟩) | h
  · exact .inl (.inl (k _ _ (s _ _ h) (ne_of_none h np) (ne_of_none h ng)))
  · exact .inl (.inr ⟨o, k _ _ (s _ _ h) (ne_of_none h np) (ne_of_none h ng)⟩)
  · exact .inr h
section
variable {P : Program} {w : World} {K : PySem.W.Frag} {mg : Str → Option Value} {base : Heap}
abbrev s_law : Stmt := (top 49)
theorem sc_law : FnScope ["_law_script", "_law_pot_here", "_law_turn", "_law_words_here", "_law_program_here", "_law_due", "_law_places", "_law_one", "_law_known", "_law_place"] ["_law_script"] (defScope s_law) := ⟨rfl, rfl, rfl, by decide +kernel, rfl, by decide +kernel, by decide +kernel⟩
theorem c_law {C f : Addr} {fd : FuncData} (B : Bt mg) (pc : PC K mg C) (F : Fun K "law" "law" s_law f fd) (MProgram : Mkr P w K mg base C)
    (C_law_pot : Cal P w K mg base "_law_pot" 1 ["_law_script"] (spPot K)) (C_law_draw : Cal P w K mg base "_law_draw" 1 ["_law_pot_here", "_law_many"] spDraw) (C_law_program : Cal P w K mg base "_law_program" 4 ["_law_pot_here", "_law_most", "_law_many"] spProgram)
    (C_law_ends : Cal P w K mg base "_law_ends" 1 ["_law_words_here"] (spEndsOf K)) (Cends : Cal P w K mg base "ends" 3 ["program"] (spOfP K C rEnds)) (C_law_numbers : Cal P w K mg base "_law_numbers" 4 ["_law_program_here", "_law_words_here"] (spNumbers K C))
    (C_law_open : Cal P w K mg base "_law_open" 1 ["_law_words_here"] (spOpen2 K)) (Ctakes : Cal P w K mg base "takes" 2 ["program"] (spOfP K C rTakes)) (Cgivens : Cal P w K mg base "givens" 1 ["program"] (spOfP K C rGivens))
    (C_law_takes : Cal P w K mg base "_law_takes" 1 ["_law_words_here"] (spTakes2 K)) (C_law_right_at : Cal P w K mg base "_law_right_at" 9 ["_law_program_here", "_law_words_here", "_law_place", "_law_due", "_law_known"] (spRight K C)) :
    FnOk P w K mg base CX0 10 f fd ["_law_script"] (spLaw K) := by
  refine F.ok sc_law (fun vs H Q E h => ?_) (fun cdv A outer st0 H vs Q E hr h => ?_)
  · obtain ⟨a, ns, rfl, _⟩ := h
    rfl
  · obtain ⟨a0, ns, rfl, hS, hlen, k⟩ := h
    refine ⟨_, (pss_cons (ps_set (i := 1) sc_law.nd rfl (by first | exact Or.inl rfl | exact Or.inr rfl) (pe_c C_law_pot (hr.mono (by decide)) (pa_cons (pv 0) pa_nil)))
      (pss_cons (ps_for PassesOwn.never rfl (pi_range1 (by rfl) B.b_range (pa_cons (pe_op op_add pe_int (pe_op op_fdiv (pe_callB call_lenQ (by rfl) B.b_len (by decide +kernel) (pa_cons (pe_slice sl_list (pv 0) po_none (po_some pe_int)) pa_nil)) pe_int)) pa_nil)) (pg_name (i := 2) sc_law.nd rfl (by first | exact Or.inl rfl | exact Or.inr rfl)) (pss_cons (ps_set (i := 3) sc_law.nd rfl (by first | exact Or.inl rfl | exact Or.inr rfl) (pe_c C_law_program (hr.mono (by decide)) (pa_cons (pv 1) (pa_cons (pe_ifExp (pt_cmpR op_eq (pv 2) pe_int (nomark _)) pe_int pe_int) (pa_cons pe_int pa_nil)))))
      (pss_cons (ps_set (i := 3) sc_law.nd rfl (by first | exact Or.inl rfl | exact Or.inr rfl) (pe_ifExp (pt_cmpR op_le (pe_callB call_lenQ (by rfl) B.b_len (by decide +kernel) (pa_cons (pv 3) pa_nil)) pe_int (nomark _)) (pv 3) (pe_tupF (pa_cons pe_str pa_nil))))
      (pss_cons (ps_set (i := 4) sc_law.nd rfl (by first | exact Or.inl rfl | exact Or.inr rfl) (pe_mk1 MProgram (hr.mono (by decide)) (pa_cons (pv 3) pa_nil)))
      (pss_cons (ps_set (i := 5) sc_law.nd rfl (by first | exact Or.inl rfl | exact Or.inr rfl) (pe_c C_law_ends (hr.mono (by decide)) (pa_cons (pv 3) pa_nil)))
      (pss_cons (ps_if (PW.pt (pw_or (pt_not (pt_val (pe_callB call_isi (by rfl) B.b_isinstance (by decide +kernel) (pa_cons (pe_c Cends (hr.mono (by decide)) (pa_cons (pv 4) pa_nil)) (pa_cons (pe_ty (n := "tuple") B.b_tuple (by decide +kernel)) pa_nil))))) (pw_or (pt_cmpR (op_neD hr.units) (pe_c Cends (hr.mono (by decide)) (pa_cons (pv 4) pa_nil)) (pv 5) (nomark _)) (pw_or1 (pt_not (pt_val (pe_c C_law_numbers (hr.mono (by decide)) (pa_cons (pv 4) (pa_cons (pv 3) pa_nil))))))))) (pss_one (ps_ret pe_bl)) pss_nil)
      (pss_cons (ps_if (PW.pt (pw_and (pt_cmpR op_eq (pe_callB call_lenQ (by rfl) B.b_len (by decide +kernel) (pa_cons (pe_c C_law_open (hr.mono (by decide)) (pa_cons (pv 3) pa_nil)) pa_nil)) pe_int (nomark _)) (pw_and1 (pt_cmpR op_ne (pe_c Ctakes (hr.mono (by decide)) (pa_cons (pv 4) pa_nil)) (pe_op op_add (pe_c Cgivens (hr.mono (by decide)) (pa_cons (pv 4) pa_nil)) pe_int) (nomark _))))) (pss_one (ps_ret pe_bl)) pss_nil)
      (pss_cons (ps_set (i := 6) sc_law.nd rfl (by first | exact Or.inl rfl | exact Or.inr rfl) (pe_listRg rfl (by rfl) B.b_list (prg_1 (by rfl) B.b_range (pe_callB call_lenQ (by rfl) B.b_len (by decide +kernel) (pa_cons (pv 3) pa_nil)))))
      (pss_cons (ps_if (pt_cmpR op_gt (pe_callB call_lenQ (by rfl) B.b_len (by decide +kernel) (pa_cons (pv 3) pa_nil)) pe_int (nomark _)) (pss_one (ps_set (i := 6) sc_law.nd rfl (by first | exact Or.inl rfl | exact Or.inr rfl) (pe_op op_cat (pe_lc (own := [("_law_one", 7)]) (g := (gName 7)) (tt := tYes) (te := (tCall _ [] E0 (tCons _ (tCons (tCB (rLenQ K) _) tNil)))) rfl sc_law.nd (pi_range1 (by rfl) B.b_range (pa_cons pe_int pa_nil)) (blkOk_by (own := [("_law_one", 7)]) (N := ["_law_script", "_law_pot_here", "_law_turn", "_law_words_here", "_law_program_here", "_law_due", "_law_places", "_law_one", "_law_known", "_law_place"]) (sc := defScope s_law) (by decide +kernel)) (fun _ _ _ _ _ => (pg_name (i := 7) sc_law.nd rfl (by first | exact Or.inl rfl | exact Or.inr rfl))) (fun _ _ _ _ _ => pts_nil) (fun _ _ _ _ _ => (pe_c C_law_draw (hr.mono (by decide)) (pa_cons (pv 1) (pa_cons (pe_callB call_lenQ (by rfl) B.b_len (by decide +kernel) (pa_cons (pv 3) pa_nil)) pa_nil))))) (pe_lst (pa_cons pe_int (pa_cons (pe_op op_sub (pe_callB call_lenQ (by rfl) B.b_len (by decide +kernel) (pa_cons (pv 3) pa_nil)) pe_int) pa_nil)))))) pss_nil)
      (pss_cons (ps_set (i := 8) sc_law.nd rfl (by first | exact Or.inl rfl | exact Or.inr rfl) (pe_c C_law_takes (hr.mono (by decide)) (pa_cons (pv 3) pa_nil)))
      (pss_cons (ps_for PassesOwn.never rfl (pi_list (pv 6)) (pg_name (i := 9) sc_law.nd rfl (by first | exact Or.inl rfl | exact Or.inr rfl)) (pss_one (ps_if (pt_not (pt_val (pe_c C_law_right_at (hr.mono (by decide)) (pa_cons (pv 4) (pa_cons (pv 3) (pa_cons (pv 9) (pa_cons (pv 5) (pa_cons (pv 8) pa_nil)))))))) (pss_one (ps_ret pe_bl)) pss_nil)))
      (pss_one (ps_if (pt_cmpR (op_neD hr.units) (pe_fld (pv 4) rfl) (pv 3) (nomark _)) (pss_one (ps_ret pe_bl)) pss_nil)))))))))))))
      (pss_one (ps_ret pe_bl)))), ?_⟩
    have big := bigN
    refine ⟨_, rfl, a0, ns, rfl, hS, hlen, fun H1 p g s P1 S1 np ng ns0 => ?_⟩
    refine ⟨_, rfl, _, rfl, a0, _, rfl, S1.seq hS, fun p2 n2 => ?_⟩
    rw [cut63 hlen]
    refine ⟨p2, _, rfl, .inl (SqL.of upd_same), _, _, rfl, rfl, ⟨by decide, by decide⟩, _, _, rfl, rfl, _, rfl, ?_, ?_, for_range (lo := 0) (n := ((2 : Int) + (((ns.map V.int).length : Nat) : Int) / 16).toNat) (fun i σ H' => ∃ v2 v3 v4 v5 v6 v7 v8 v9 : Option V, σ = [some (.ref a0), some (.ref p), v2, v3, v4, v5, v6, v7, v8, v9] ∧ PotAt H' p g s)
      ⟨none, none, none, none, none, none, none, none, rfl, P1.keep (same_upd n2)⟩ ?_ ?_⟩
    · rw [List.length_map]; omega
    · rw [List.length_map]; omega
    · rintro i σ H2 hi ⟨v2, v3, v4, v5, v6, v7, v8, v9, rfl, P2⟩
      clear hi
      refine ⟨_, rfl, _, rfl, rfl, _, rfl, te_pick (fun v H' => ∃ m : Nat, v = .int (m : Int) ∧ m ≤ 333 ∧ H' = H2) (fun _ Q' h => h _ _ ⟨333, rfl, by decide, rfl⟩) (fun _ Q' h => h _ _ ⟨30, rfl, by decide, rfl⟩) ?_⟩
      rintro v H3 ⟨m, rfl, hm, rfl⟩
      refine ⟨p, g, s, m, 3, rfl, P2, hm, by decide, fun H3 q names gv ws0 G3 hgv hnl P3 T3 K3 => ?_⟩
      refine ⟨_, rfl, q, _, rfl, .inr T3.sq, _, _, rfl, rfl, _, rfl, te_pick (fun v H' => ∃ (a : Addr) (ws : List W), v = .ref a ∧ Same H3 H' ∧ TupF H' a (ws.map wv) ∧ Vd ws ∧ ws.length ≤ 1000) (fun hc Q' h => ⟨_, rfl, h _ _ ⟨q, ws0, rfl, Same.refl _, T3, G3.vd, ?_⟩⟩)
        (fun _ Q' h => ⟨(by show 1 ≤ sizeLine; decide), fun t o nt ho => h _ _ ⟨t, [.nm [120]], rfl, same_upd nt, ?_, vd_x, by decide⟩⟩) ?_⟩
      · have := of_decide_eq_true hc
        rw [List.length_map] at this
        omega
      · have := TupF.new (H := H3) (a := t) (xs := [V.str "x"]) ho
        rw [wv_x] at this
        rw [wv_x]
        exact this
      clear T3 K3 G3 hgv hnl
      rintro v H4 ⟨a, ws, rfl, S4, T4, vd, hl⟩
      have P4 := P3.keep S4
      have hlm : (ws.map wv).length = ws.length := List.length_map ..
      obtain ⟨EE, he⟩ := vd.ends
      -- program = Program(words)
      refine ⟨_, rfl, fun x dx nx ndx nex => ?_⟩
      have Sm := made_same (C := C) nx ndx
      refine ⟨x, dx, a, ws, rfl, upd_same, (T4.same Sm).sq, vd, Nat.le_trans hl (by decide), fun H5 B5 PX5 => ⟨rfl, ?_⟩⟩
      have S5 := B5.same Sm nx
      have T5 := T4.same S5
      have P5 := P4.keep S5
      clear B5 Sm
      -- due = _law_ends(words)
      refine ⟨_, rfl, a, ws, EE, rfl, T5.sq, vd, he, Nat.le_trans hl (by decide), fun H6 e S6 _ T6 => ?_⟩
      have L6 : LW C H6 x a e ws EE := ⟨PX5.same S6, T5.same S6, T6⟩
      have P6 := P5.keep S6
      -- its ends, its numbers
      refine ⟨_, rfl, x, a, ws, rfl, L6.px, L6.pt, vd, Nat.le_trans hl (by decide), fun H7 v7 S7 ⟨q7, E7, e7, hE7, n7, T7⟩ => ?_⟩
      subst e7
      have L7 := L6.same S7
      have P7 := P6.keep S7
      refine ⟨_, _, _, _, true, rfl, .ty _, tyx_tup T7.sq, kit_ty kitTT, _, rfl, iteF ?_⟩
      refine ⟨_, rfl, x, a, ws, rfl, L7.px, L7.pt, vd, Nat.le_trans hl (by decide), fun H8 v8 S8 ⟨q8, E8, e8, hE8, n8, T8⟩ => ?_⟩
      subst e8
      have L8 := L7.same S8
      have P8 := P7.keep S8
      rw [endsV_eq hE8 he] at T8
      refine ⟨_, rfl, neD_same T8.sq L8.pe.sq (plain_ends _ _) ⟨_, rfl, iteF ?_⟩⟩
      refine ⟨_, rfl, _, rfl, x, a, a, ws, rfl, L8.px, L8.pt, L8.pt.sq, vd, Nat.le_trans hl (by decide), fun H9 S9 => ⟨_, rfl, iteF ?_⟩⟩
      have L9 := L8.same S9
      have P9 := P8.keep S9
      -- closed ones have one take more
      refine ⟨_, rfl, a, ws, rfl, L9.pt.sq, vd, Nat.le_trans hl (by decide), fun H10 q10 S10 n10 L10 => ?_⟩
      have W10 := L9.same S10
      have P10 := P9.keep S10
      refine ⟨q10, _, rfl, .inl (SqL.of L10), rfl, _, rfl, tt_no (fun H' => Same H10 H') (fun hc Q' hq => ?_) (fun _ => Same.refl _) ?_⟩
      · have h0 : openV ws = [] := by
          have := V.int.inj (of_decide_eq_true hc)
          exact List.eq_nil_of_length_eq_zero (by omega)
        refine ⟨_, rfl, x, a, ws, rfl, W10.px, W10.pt, vd, Nat.le_trans hl (by decide), fun H11 v11 S11 e11 => ?_⟩
        cases e11
        have W11 := W10.same S11
        refine ⟨_, rfl, x, a, ws, rfl, W11.px, W11.pt, vd, Nat.le_trans hl (by decide), fun H12 v12 S12 e12 => ?_⟩
        cases e12
        refine ⟨_, _, rfl, rfl, rfl, false, ?_, hq _ (S11.trans S12)⟩
        rw [closed_takes vd h0]
        simp
      intro H11 S11
      refine iteF ?_
      have L11 := W10.same S11
      have P11 := P10.keep S11
      clear L10
      have hnp : ∀ {q : Addr}, H11 q = none → q ≠ p ∧ q ≠ g := fun h => P11.free h
      -- places
      refine ⟨_, rfl, a, _, rfl, .inr L11.pt.sq, _, rfl, RgOk.of_le (by decide) (by rw [hlm]; omega) (by decide) (by omega), fun L nL => ?_⟩
      have S12 : Same H11 (upd H11 L (.lst (rgV 0 (((ws.map wv).length : Nat) : Int)))) := same_upd nL
      have U12 : upd H11 L (.lst (rgV 0 (((ws.map wv).length : Nat) : Int))) L = some (.lst ((List.range ws.length).map iv)) := by rw [upd_same, rgV_iv, hlm]
      have L12 := L11.same S12
      have P12 := P11.keep S12
      generalize upd H11 L (.lst (rgV 0 (((ws.map wv).length : Nat) : Int))) = H12 at *
      refine ⟨_, rfl, a, _, rfl, .inr L12.pt.sq, _, _, rfl, rfl, _, rfl, ts_pick (fun σ H' => ∃ (L : Addr) (is : List Nat) (v7 : Option V), σ = [some (.ref a0), some (.ref p), some (.int ((0 : Int) + (i : Nat))), some (.ref a), some (.ref x), some (.ref e), some (.ref L), v7, v8, v9] ∧ H' L = some (.lst (is.map iv)) ∧ (∀ j ∈ is, j < ws.length) ∧ PotAt H' p g s ∧ LW C H' x a e ws EE)
        (fun hc D' hq => ?_) (fun _ D' hq => hq _ _ ⟨L, _, _, rfl, U12, fun j hj => List.mem_range.mp hj, P12, L12⟩) ?_⟩
      · have hgt : 60 < ws.length := by
          have := of_decide_eq_true hc
          rw [hlm] at this
          omega
        refine ⟨40, rfl, by decide, by decide, fun D nD => lc_range (lo := 0) (n := (40 : Int).toNat) (fun i H' => ∃ is : List Nat, is.length ≤ i ∧ (∀ j ∈ is, j < ws.length) ∧ H' D = some (.lst (is.map iv)) ∧ PotAt H' p g s ∧ LW C H' x a e ws EE)
          ⟨[], Nat.le_refl _, fun j hj => (List.not_mem_nil hj).elim, upd_same, P12.keep (same_upd nD), L12.same (same_upd nD)⟩ ?_ ?_⟩
        · rintro j H' hj ⟨is, hil, his, U', P', L''⟩
          have nDp := (P12.free nD).1
          have nDg := (P12.free nD).2
          have nDs := P12.freeS nD
          refine ⟨rfl, _, rfl, _, rfl, a, _, rfl, .inr L''.pt.sq, p, g, s, _, rfl, P', by rw [hlm]; omega, by rw [hlm]; omega, fun H'' r Pr Kr r0 r1 => ?_⟩
          rw [hlm] at r1
          obtain ⟨n, rfl⟩ : ∃ n : Nat, r = (n : Int) := ⟨r.toNat, by omega⟩
          have Ur := Kr _ _ U' nDp nDg
          have Lr := L''.keep P' Kr
          have hj40 : j < 40 := hj
          refine ⟨is.map iv, Ur, by rw [List.length_map]; exact small_lt (m := 40) (by omega) (by decide), is ++ [n], by simp; omega, ?_, by rw [upd_same, List.map_append]; rfl, Pr.wr nDp nDg nDs, Lr.wr Ur⟩
          intro z hz
          rcases List.mem_append.mp hz with hz | hz
          · exact his z hz
          · have : z = n := by simpa using hz
            subst this
            omega
        · rintro H' ⟨is, hil, his, U', P', L''⟩
          have hil40 : is.length ≤ 40 := hil
          refine ⟨_, rfl, a, _, rfl, .inr L''.pt.sq, _, _, rfl, rfl, (by show 2 ≤ sizeLine; decide), fun p4 n4 => ?_⟩
          have S4' : Same H' (upd H' p4 (.lst [.int 0, .int ((((ws.map wv).length : Nat) : Int) - 1)])) := same_upd n4
          have e4 : ([.int 0, .int ((((ws.map wv).length : Nat) : Int) - 1)] : List V) = [0, ws.length - 1].map iv := by
            rw [hlm]
            show _ = [V.int ((0 : Nat) : Int), V.int ((ws.length - 1 : Nat) : Int)]
            have : ((ws.length : Nat) : Int) - 1 = ((ws.length - 1 : Nat) : Int) := by omega
            rw [this]
            rfl
          have U4 : upd H' p4 (.lst [.int 0, .int ((((ws.map wv).length : Nat) : Int) - 1)]) p4 = some (.lst ([0, ws.length - 1].map iv)) := by rw [upd_same, e4]
          generalize upd H' p4 (.lst [.int 0, .int ((((ws.map wv).length : Nat) : Int) - 1)]) = H4' at *
          refine ⟨D, p4, _, _, rfl, rfl, S4' _ _ U', U4, ?_, fun p5 n5 => ?_⟩
          · rw [List.length_map, sizeLine_eq]; simp; omega
          · rw [← List.map_append]
            refine hq _ _ ⟨p5, is ++ [0, ws.length - 1], _, rfl, upd_same, ?_, (P'.keep S4').keep (same_upd n5), (L''.same S4').same (same_upd n5)⟩
            intro z hz
            rcases List.mem_append.mp hz with hz | hz
            · exact his z hz
            · have : z = 0 ∨ z = ws.length - 1 := by simpa using hz
              omega
      rintro σ H13 ⟨L', is, v7', rfl, U13, his, P13, L13⟩
      -- known
      refine ⟨_, rfl, a, ws, rfl, L13.pt.sq, vd, Nat.le_trans hl (by decide), fun H14 d kvs S14 _ D14 tk => ?_⟩
      have L14 := L13.same S14
      have P14 := P13.keep S14
      have U14 := S14 _ _ U13
      refine ⟨_, rfl, L', rfl, ⟨_, SqL.of U14⟩, for_list (K := K) (a := L') (xs := is.map iv) (fun _ σ H' => ∃ v9 : Option V, σ = [some (.ref a0), some (.ref p), some (.int ((0 : Int) + (i : Nat))), some (.ref a), some (.ref x), some (.ref e), some (.ref L'), v7', some (.ref d), v9] ∧ Same H14 H')
        ⟨_, rfl, Same.refl _⟩ (fun _ σ H' _ ⟨_, _, s⟩ => SqL.of (s _ _ U14)) ?_ ?_⟩
      · rintro j y σ H15 hj ⟨v9', rfl, S15⟩
        obtain ⟨n, hn, rfl⟩ := map_get hj
        have hnl := his n (List.mem_of_getElem? hn)
        have L15 := L14.same S15
        refine ⟨_, rfl, _, rfl, _, rfl, _, rfl, _, rfl, x, a, a, e, d, ws, EE, n, rfl, ⟨L15.px, L15.pt, L15.pt.sq, vd, he, Nat.le_trans hl (by decide), L15.pe.sq, kvs, S15 _ _ D14, tk⟩, hnl, fun H16 S16 => ⟨_, rfl, iteF ⟨_, rfl, S15.trans S16⟩⟩⟩
      · rintro σ H15 ⟨v9', rfl, S15⟩
        have L15 := L14.same S15
        obtain ⟨dx2, hx2⟩ := L15.px
        refine ⟨_, rfl, x, C, dx2, _, _, rfl, hx2, pc.cl, pc.nw, pfs_get a, _, rfl, neD_same L15.pt.sq L15.pt.sq (plain_ws vd.ok) ⟨_, rfl, iteF ?_⟩⟩
        exact ⟨_, _, _, _, _, _, _, _, rfl, P14.keep S15⟩
    · rintro σ H' ⟨v2, v3, v4, v5, v6, v7, v8, v9, rfl, P2⟩
      exact k H'
end
end Kk

/-! ### the end -/
namespace Kk
open PySem PySem.Spec PyProof.Rows L2
structure AllD (K : PySem.W.Frag) (mg : Str → Option Value) : Prop where
  d_law_draw : DefAt K mg "_law_draw" s_draw
  d_law_pot : DefAt K mg "_law_pot" s_pot
  d_law_letters : DefAt K mg "_law_letters" s_letters
  d_law_fresh : DefAt K mg "_law_fresh" s_fresh
  d_law_mixed : DefAt K mg "_law_mixed" s_mixed
  dmisfit_index : DefAt K mg "misfit_index" s_misfit_index
  dends_by : DefAt K mg "ends_by" s_ends_by
  d_law_words : DefAt K mg "_law_words" s_words
  d_law_size : DefAt K mg "_law_size" s_size
  d_law_program : DefAt K mg "_law_program" s_program
  dis_name : DefAt K mg "is_name" s_is_name
  dis_word : DefAt K mg "is_word" s_is_word
  dstranger_index : DefAt K mg "stranger_index" s_stranger_index
  dparts_in : DefAt K mg "parts_in" s_parts_in
  drepeated_index : DefAt K mg "repeated_index" s_repeated_index
  dends_of : DefAt K mg "ends_of" s_ends_of
  dunused_index : DefAt K mg "unused_index" s_unused_index
  dfault_index : DefAt K mg "fault_index" s_fault_index
  dis_number : DefAt K mg "is_number" s_is_number
  dstands_as_name : DefAt K mg "stands_as_name" s_stands_as_name
  dtaken_names : DefAt K mg "taken_names" s_taken_names
  dstanding_names : DefAt K mg "standing_names" s_standing_names
  dopen_names : DefAt K mg "open_names" s_open_names
  dgivens : DefAt K mg "givens" s_givens
  dtakes : DefAt K mg "takes" s_takes
  dends : DefAt K mg "ends" s_ends
  dcheck_place : DefAt K mg "check_place" s_check_place
  dbuilt : DefAt K mg "built" s_built
  dpart : DefAt K mg "part" s_part
  dtaken_at : DefAt K mg "taken_at" s_taken_at
  d_law_ends : DefAt K mg "_law_ends" s_ends2
  d_law_open : DefAt K mg "_law_open" s_open2
  d_law_is_integer : DefAt K mg "_law_is_integer" s_is_integer
  d_law_takes : DefAt K mg "_law_takes" s_takes2
  d_law_numbers : DefAt K mg "_law_numbers" s_numbers
  d_law_right_at : DefAt K mg "_law_right_at" s_right_at
theorem law_ok {P : Program} {w : World} {K : PySem.W.Frag} {mg : Str → Option Value} {base : Heap} {C f fi : Addr} {fd fdi : FuncData} (B : Bt mg) (pc : PC K mg C) (M : Mk K C fi) (FI : Fun K "__init__" "Program.__init__" s_init fi fdi) (a : AllD K mg) (F : Fun K "law" "law" s_law f fd) :
    FnOk P w K mg base CX0 10 f fd ["_law_script"] (spLaw K) := by
  have C_law_draw := c_draw (P := P) (w := w) (base := base) B (D := a.d_law_draw)
  have C_law_pot := c_pot (P := P) (w := w) (base := base) B (D := a.d_law_pot)
  have C_law_letters := c_letters (P := P) (w := w) (base := base) B (D := a.d_law_letters)
  have C_law_fresh := c_fresh (P := P) (w := w) (base := base) B (D := a.d_law_fresh) (C_law_draw := C_law_draw) (C_law_letters := C_law_letters)
  have C_law_mixed := c_mixed (P := P) (w := w) (base := base) B (D := a.d_law_mixed) (C_law_draw := C_law_draw)
  have C_law_mixed_N := c_mixed__N (P := P) (w := w) (base := base) (C_law_mixed := C_law_mixed)
  have Cmisfit_index := c_misfit_index (P := P) (w := w) (base := base) B (D := a.dmisfit_index)
  have Cends_by := c_ends_by (P := P) (w := w) (base := base) B (D := a.dends_by)
  have C_law_words := c_words (P := P) (w := w) (base := base) B (D := a.d_law_words) (C_law_draw := C_law_draw) (C_law_fresh := C_law_fresh) (C_law_mixed := C_law_mixed_N)
  have C_law_size := c_size (P := P) (w := w) (base := base) B (D := a.d_law_size) (C_law_draw := C_law_draw)
  have C_law_program := c_program (P := P) (w := w) (base := base) B (D := a.d_law_program) (C_law_draw := C_law_draw) (C_law_size := C_law_size) (C_law_fresh := C_law_fresh) (C_law_words := C_law_words)
  have Cis_name := c_is_name (P := P) (w := w) (base := base) B (D := a.dis_name)
  have Cis_word := c_is_word (P := P) (w := w) (base := base) B (D := a.dis_word) (Cis_name := Cis_name)
  have Cstranger_index := c_stranger_index (P := P) (w := w) (base := base) B (D := a.dstranger_index) (Cis_word := Cis_word)
  have Cparts_in := c_parts_in (P := P) (w := w) (base := base) B (D := a.dparts_in)
  have Crepeated_index := c_repeated_index (P := P) (w := w) (base := base) B (D := a.drepeated_index)
  have Cends_of := c_ends_of (P := P) (w := w) (base := base) B (D := a.dends_of) (Cparts_in := Cparts_in) (Cends_by := Cends_by)
  have Cunused_index := c_unused_index (P := P) (w := w) (base := base) B (D := a.dunused_index) (Cends_of := Cends_of)
  have Cfault_index := c_fault_index (P := P) (w := w) (base := base) B (D := a.dfault_index) (Cstranger_index := Cstranger_index) (Cparts_in := Cparts_in) (Cmisfit_index := Cmisfit_index) (Crepeated_index := Crepeated_index) (Cunused_index := Cunused_index)
  have MProgram : Mkr P w K mg base C := ⟨fi, fdi, M, pc.mg, FI.binds (ps := ["self", "words"]) (fun _ _ _ _ _ _ us hl => match us, hl with | [_, _], _ => rfl), c_init (P := P) (w := w) (base := base) B pc (F := FI) (Cfault_index := Cfault_index)⟩
  have Cis_number := c_is_number (P := P) (w := w) (base := base) B (D := a.dis_number)
  have Cstands_as_name := c_stands_as_name (P := P) (w := w) (base := base) B (D := a.dstands_as_name)
  have Ctaken_names := c_taken_names (P := P) (w := w) (base := base) B pc (D := a.dtaken_names)
  have Cstanding_names := c_standing_names (P := P) (w := w) (base := base) B pc (D := a.dstanding_names) (Cstands_as_name := Cstands_as_name)
  have Copen_names := c_open_names (P := P) (w := w) (base := base) B pc (D := a.dopen_names) (Ctaken_names := Ctaken_names) (Cstanding_names := Cstanding_names)
  have Cgivens := c_givens (P := P) (w := w) (base := base) B pc (D := a.dgivens)
  have Ctakes := c_takes (P := P) (w := w) (base := base) B (D := a.dtakes) (Ctaken_names := Ctaken_names)
  have Cends := c_ends (P := P) (w := w) (base := base) B pc (D := a.dends) (Cends_of := Cends_of)
  have Ccheck_place := c_check_place (P := P) (w := w) (base := base) B pc (D := a.dcheck_place) (Cis_number := Cis_number)
  have Cbuilt := c_built (P := P) (w := w) (base := base) B pc (D := a.dbuilt) (MProgram := MProgram)
  have Cpart := c_part (P := P) (w := w) (base := base) B pc (D := a.dpart) (Ccheck_place := Ccheck_place) (Cends_of := Cends_of) (Cbuilt := Cbuilt)
  have Ctaken_at := c_taken_at (P := P) (w := w) (base := base) B pc (D := a.dtaken_at) (Ccheck_place := Ccheck_place)
  have C_law_ends := c_ends2 (P := P) (w := w) (base := base) B (D := a.d_law_ends)
  have C_law_ends_V := c_ends2__V (P := P) (w := w) (base := base) (C_law_ends := C_law_ends)
  have C_law_open := c_open2 (P := P) (w := w) (base := base) B (D := a.d_law_open)
  have C_law_is_integer := c_is_integer (P := P) (w := w) (base := base) B (D := a.d_law_is_integer)
  have C_law_takes := c_takes2 (P := P) (w := w) (base := base) B (D := a.d_law_takes)
  have C_law_numbers := c_numbers (P := P) (w := w) (base := base) B (D := a.d_law_numbers) (Cgivens := Cgivens) (Ctakes := Ctakes) (Copen_names := Copen_names) (C_law_is_integer := C_law_is_integer) (C_law_open := C_law_open)
  have C_law_right_at := c_right_at (P := P) (w := w) (base := base) B pc (D := a.d_law_right_at) (Cpart := Cpart) (Ctaken_at := Ctaken_at) (Cends := Cends) (C_law_numbers := C_law_numbers) (C_law_is_integer := C_law_is_integer)
  exact c_law (P := P) (w := w) (base := base) B pc (F := F) (MProgram := MProgram) (C_law_pot := C_law_pot) (C_law_draw := C_law_draw) (C_law_program := C_law_program) (C_law_ends := C_law_ends_V) (Cends := Cends) (C_law_numbers := C_law_numbers) (C_law_open := C_law_open) (Ctakes := Ctakes) (Cgivens := Cgivens) (C_law_takes := C_law_takes) (C_law_right_at := C_law_right_at)
theorem def_mk {K : PySem.W.Frag} {h : Heap} {mg : Str → Option Value} {x : Str} {st : Stmt} (X : K.In h) (G : h.Ns mainGlobals mg) {f : Addr} {od an : Option Addr} {sl : Array (Option Value)} {oc kV dc pm cd ct : Value}
    (a : PySem.W.nsIn K mainGlobals x = some (some (.ref f))) (l : K.lookup f = some ⟨oc, od, .func (PySem.W.fnOf x x (defArgs st) (defBody st) (defScope st) .none kV dc pm an cd ct), sl⟩) (c : PySem.W.codeIn K cd x = true) (k : PySem.W.keepIn K (.ref f) = true) : DefAt K mg x st :=
  ⟨f, _, fun_mk (st := st) l c k, PySem.W.mg_of X G a⟩
theorem glob_s {K : PySem.W.Frag} {h : Heap} {mg : Str → Option Value} {x z : Str} {t : Tok} (X : K.In h) (G : h.Ns mainGlobals mg) (a : PySem.W.nsIn K mainGlobals x = some (some (.str z t))) : ∃ t, mg x = some (.str z t) := ⟨t, PySem.W.mg_of X G a⟩
theorem glob_i {K : PySem.W.Frag} {h : Heap} {mg : Str → Option Value} {x : Str} {z : Int} {t : Tok} (X : K.In h) (G : h.Ns mainGlobals mg) (a : PySem.W.nsIn K mainGlobals x = some (some (.int z t))) : ∃ t, mg x = some (.int z t) := ⟨t, PySem.W.mg_of X G a⟩
theorem law_mk {l : PySem.W.OpenLaw} {w : World} {K : PySem.W.Frag} {h : Heap} {mg : Str → Option Value} {fa C fi f : Addr} (X : K.In h) (G : h.Ns mainGlobals mg) (hfa : mg "law" = some (.ref fa))
    {od1 an1 od4 an4 : Option Addr} {sl1 sl4 : Array (Option Value)} {oc1 kV1 dc1 pm1 cd1 ct1 oc4 kV4 dc4 pm4 cd4 ct4 : Value}
    (a1 : PySem.W.findIn K (.ref C) "__init__" = some (some (.ref fi))) (i1 : PySem.W.isFn K (.ref fi) = true) (l1 : K.lookup fi = some ⟨oc1, od1, .func (PySem.W.fnOf "__init__" "Program.__init__" (defArgs s_init) (defBody s_init) (defScope s_init) .none kV1 dc1 pm1 an1 cd1 ct1), sl1⟩) (c1 : PySem.W.codeIn K cd1 "Program.__init__" = true) (k1 : PySem.W.keepIn K (.ref fi) = true)
    (a4 : PySem.W.nsIn K mainGlobals "law" = some (some (.ref f))) (l4 : K.lookup f = some ⟨oc4, od4, .func (PySem.W.fnOf "law" "law" (defArgs s_law) (defBody s_law) (defScope s_law) .none kV4 dc4 pm4 an4 cd4 ct4), sl4⟩) (c4 : PySem.W.codeIn K cd4 "law" = true) (k4 : PySem.W.keepIn K (.ref f) = true)
    (mk : PySem.W.makesIn K C = true) (kc : PySem.W.keepIn K (.ref C) = true)
    (B : Bt mg) (pc : PC K mg C) (a : AllD K mg) :
    ∃ fd : FuncData, (∀ (s : Shared) (v : Value), BindsTo s fd ⟨[v], []⟩ [("_law_script", v)]) ∧ ∀ base : Heap, K.In base → base.Ns mainGlobals mg → FnOk l.prog w K mg base CX0 10 fa fd ["_law_script"] (spLaw K) := by
  have e := hfa.symm.trans (PySem.W.mg_of X G a4)
  cases e
  exact ⟨PySem.W.fnOf "law" "law" (defArgs s_law) (defBody s_law) (defScope s_law) .none kV4 dc4 pm4 an4 cd4 ct4, fun s v => .of_eq rfl, fun base _ _ => law_ok B pc ⟨mk, a1, i1, kc⟩ (fun_mk (st := s_init) l1 c1 k1) a (fun_mk (st := s_law) l4 c4 k4)⟩
theorem walk {l : PySem.W.OpenLaw} {q : Program} {loose : List Str} {XP : (Str → Option Value) → Heap → Prop} {YP : World → Heap → Prop} {d : DefRec} {K : Params → PySem.W.Frag} (hn : l.most = some 63) (hdf : d.params.defaults = [])
    (hY : ∀ (w : World) (h : Heap), YP w h → (K w.params).In h)
    (F : ∀ (w : World) (mg : Str → Option Value) (fa : Addr) (h : Heap), (K w.params).In h → h.Ns mainGlobals mg → mg d.name = some (.ref fa) →
      ∃ fd : FuncData, (∀ (s : Shared) (u : Value), BindsTo s fd ⟨[u], []⟩ [("_law_script", u)]) ∧ ∀ base : Heap, (K w.params).In base → base.Ns mainGlobals mg → FnOk l.prog w (K w.params) mg base CX0 10 fa fd ["_law_script"] (spLaw (K w.params))) :
    PySem.W.WalkO q loose XP YP l.row.toRowW d [] (fun f vs => PySem.call f vs) :=
  L2.walk_of (n := 63) (k := 10) (x := "_law_script") (CX := fun _ => CX0) (sp := fun w => spLaw (K w.params)) hn (by decide) hdf ⟨rfl, by decide, by decide⟩ hY F (fun _ _ a ns hl _ hS => ⟨a, ns, rfl, hS, hl, fun _ => rfl⟩) fun _ _ _ _ _ z => z
end Kk
open PySem PySem.W PyProof.Rows
set_option maxRecDepth 100000 in
set_option maxHeartbeats 0 in
theorem PySem.Challenge.cw_oncekinds_k02_whole_parts_of_programs_holds : PySem.Challenge.rw_oncekinds_k02_whole_parts_of_programs.Holds := by
  w_on; o_law; k_head; (case hw => w_witness2)
  k_fill
  refine Kk.walk (l := PySem.Challenge.rw_oncekinds_k02_whole_parts_of_programs) rfl rfl (fun w h Y => PySem.W.kIn_of Y) ?F
  case F =>
    intro w mg fa h KX G hmg
    have b_len : mg "len" = none := by refine' PySem.W.mg_none_of KX G ?z <;> k_is
    have b_int : mg "int" = none := by refine' PySem.W.mg_none_of KX G ?z <;> k_is
    have b_bool : mg "bool" = none := by refine' PySem.W.mg_none_of KX G ?z <;> k_is
    have b_str : mg "str" = none := by refine' PySem.W.mg_none_of KX G ?z <;> k_is
    have b_abs : mg "abs" = none := by refine' PySem.W.mg_none_of KX G ?z <;> k_is
    have b_min : mg "min" = none := by refine' PySem.W.mg_none_of KX G ?z <;> k_is
    have b_max : mg "max" = none := by refine' PySem.W.mg_none_of KX G ?z <;> k_is
    have b_sum : mg "sum" = none := by refine' PySem.W.mg_none_of KX G ?z <;> k_is
    have b_list : mg "list" = none := by refine' PySem.W.mg_none_of KX G ?z <;> k_is
    have b_tuple : mg "tuple" = none := by refine' PySem.W.mg_none_of KX G ?z <;> k_is
    have b_all : mg "all" = none := by refine' PySem.W.mg_none_of KX G ?z <;> k_is
    have b_isinstance : mg "isinstance" = none := by refine' PySem.W.mg_none_of KX G ?z <;> k_is
    have b_set : mg "set" = none := by refine' PySem.W.mg_none_of KX G ?z <;> k_is
    have b_range : mg "range" = none := by refine' PySem.W.mg_none_of KX G ?z <;> k_is
    have b_enumerate : mg "enumerate" = none := by refine' PySem.W.mg_none_of KX G ?z <;> k_is
    have b_reversed : mg "reversed" = none := by refine' PySem.W.mg_none_of KX G ?z <;> k_is
    have b_zip : mg "zip" = none := by refine' PySem.W.mg_none_of KX G ?z <;> k_is
    have b_divmod : mg "divmod" = none := by refine' PySem.W.mg_none_of KX G ?z <;> k_is
    have b_dict : mg "dict" = none := by refine' PySem.W.mg_none_of KX G ?z <;> k_is
    have b_sorted : mg "sorted" = none := by refine' PySem.W.mg_none_of KX G ?z <;> k_is
    have m_GIVEN : ∃ t, mg "GIVEN" = some (.str "@" t) := by refine' Kk.glob_s KX G ?gGIVEN; (case gGIVEN => k_is)
    have m_TAKE : ∃ t, mg "TAKE" = some (.str "/" t) := by refine' Kk.glob_s KX G ?gTAKE; (case gTAKE => k_is)
    have m_LETTERS : ∃ t, mg "LETTERS" = some (.str "abcdefghijklmnopqrstuvwxyz" t) := by refine' Kk.glob_s KX G ?gLETTERS; (case gLETTERS => k_is)
    have m_MOST_LETTERS : ∃ t, mg "MOST_LETTERS" = some (.int 8 t) := by refine' Kk.glob_i KX G ?gMOST_LETTERS; (case gMOST_LETTERS => k_is)
    have m_MOST_WORDS : ∃ t, mg "MOST_WORDS" = some (.int 1000 t) := by refine' Kk.glob_i KX G ?gMOST_WORDS; (case gMOST_WORDS => k_is)
    have B : Kk.Bt mg := ⟨b_len, b_int, b_bool, b_str, b_abs, b_min, b_max, b_sum, b_list, b_tuple, b_all, b_isinstance, b_set, b_range, b_enumerate, b_reversed, b_zip, b_divmod, b_dict, b_sorted, m_GIVEN, m_TAKE, m_LETTERS, m_MOST_LETTERS, m_MOST_WORDS⟩
    refine' Kk.law_mk KX G hmg ?a1 ?i1 ?l1 ?c1 ?k1 ?a4 ?l4 ?c4 ?k4 ?mk ?kc B ⟨⟨?pg, ?hd, ?po, ?sa⟩, ?nw, PySem.W.mg_of KX G ?aC, ?ha, ?hn, ?ht, ?hm⟩ ⟨Kk.def_mk KX G ?a_law_draw ?l_law_draw ?c_law_draw ?k_law_draw, Kk.def_mk KX G ?a_law_pot ?l_law_pot ?c_law_pot ?k_law_pot, Kk.def_mk KX G ?a_law_letters ?l_law_letters ?c_law_letters ?k_law_letters, Kk.def_mk KX G ?a_law_fresh ?l_law_fresh ?c_law_fresh ?k_law_fresh, Kk.def_mk KX G ?a_law_mixed ?l_law_mixed ?c_law_mixed ?k_law_mixed, Kk.def_mk KX G ?amisfit_index ?lmisfit_index ?cmisfit_index ?kmisfit_index, Kk.def_mk KX G ?aends_by ?lends_by ?cends_by ?kends_by, Kk.def_mk KX G ?a_law_words ?l_law_words ?c_law_words ?k_law_words, Kk.def_mk KX G ?a_law_size ?l_law_size ?c_law_size ?k_law_size, Kk.def_mk KX G ?a_law_program ?l_law_program ?c_law_program ?k_law_program, Kk.def_mk KX G ?ais_name ?lis_name ?cis_name ?kis_name, Kk.def_mk KX G ?ais_word ?lis_word ?cis_word ?kis_word, Kk.def_mk KX G ?astranger_index ?lstranger_index ?cstranger_index ?kstranger_index, Kk.def_mk KX G ?aparts_in ?lparts_in ?cparts_in ?kparts_in, Kk.def_mk KX G ?arepeated_index ?lrepeated_index ?crepeated_index ?krepeated_index, Kk.def_mk KX G ?aends_of ?lends_of ?cends_of ?kends_of, Kk.def_mk KX G ?aunused_index ?lunused_index ?cunused_index ?kunused_index, Kk.def_mk KX G ?afault_index ?lfault_index ?cfault_index ?kfault_index, Kk.def_mk KX G ?ais_number ?lis_number ?cis_number ?kis_number, Kk.def_mk KX G ?astands_as_name ?lstands_as_name ?cstands_as_name ?kstands_as_name, Kk.def_mk KX G ?ataken_names ?ltaken_names ?ctaken_names ?ktaken_names, Kk.def_mk KX G ?astanding_names ?lstanding_names ?cstanding_names ?kstanding_names, Kk.def_mk KX G ?aopen_names ?lopen_names ?copen_names ?kopen_names, Kk.def_mk KX G ?agivens ?lgivens ?cgivens ?kgivens, Kk.def_mk KX G ?atakes ?ltakes ?ctakes ?ktakes, Kk.def_mk KX G ?aends ?lends ?cends ?kends, Kk.def_mk KX G ?acheck_place ?lcheck_place ?ccheck_place ?kcheck_place, Kk.def_mk KX G ?abuilt ?lbuilt ?cbuilt ?kbuilt, Kk.def_mk KX G ?apart ?lpart ?cpart ?kpart, Kk.def_mk KX G ?ataken_at ?ltaken_at ?ctaken_at ?ktaken_at, Kk.def_mk KX G ?a_law_ends ?l_law_ends ?c_law_ends ?k_law_ends, Kk.def_mk KX G ?a_law_open ?l_law_open ?c_law_open ?k_law_open, Kk.def_mk KX G ?a_law_is_integer ?l_law_is_integer ?c_law_is_integer ?k_law_is_integer, Kk.def_mk KX G ?a_law_takes ?l_law_takes ?c_law_takes ?k_law_takes, Kk.def_mk KX G ?a_law_numbers ?l_law_numbers ?c_law_numbers ?k_law_numbers, Kk.def_mk KX G ?a_law_right_at ?l_law_right_at ?c_law_right_at ?k_law_right_at⟩
    (case aC => k_is)
    (case a1 => k_is)
    (case i1 => k_is)
    (case l1 => k_is)
    (case c1 => k_is)
    (case k1 => k_is)
    (case a4 => k_is)
    (case l4 => k_is)
    (case c4 => k_is)
    (case k4 => k_is)
    (case mk => k_is)
    (case kc => k_is)
    (case pg => k_is)
    (case hd => k_is)
    (case po => k_is)
    (case sa => k_is)
    (case nw => unfold L2.NoAttr; k_is)
    (case ha => k_is)
    (case hn => k_is)
    (case ht => k_is)
    (case hm => k_is)
    (case a_law_draw => k_is); (case l_law_draw => k_is); (case c_law_draw => k_is); (case k_law_draw => k_is)
    (case a_law_pot => k_is); (case l_law_pot => k_is); (case c_law_pot => k_is); (case k_law_pot => k_is)
    (case a_law_letters => k_is); (case l_law_letters => k_is); (case c_law_letters => k_is); (case k_law_letters => k_is)
    (case a_law_fresh => k_is); (case l_law_fresh => k_is); (case c_law_fresh => k_is); (case k_law_fresh => k_is)
    (case a_law_mixed => k_is); (case l_law_mixed => k_is); (case c_law_mixed => k_is); (case k_law_mixed => k_is)
    (case amisfit_index => k_is); (case lmisfit_index => k_is); (case cmisfit_index => k_is); (case kmisfit_index => k_is)
    (case aends_by => k_is); (case lends_by => k_is); (case cends_by => k_is); (case kends_by => k_is)
    (case a_law_words => k_is); (case l_law_words => k_is); (case c_law_words => k_is); (case k_law_words => k_is)
    (case a_law_size => k_is); (case l_law_size => k_is); (case c_law_size => k_is); (case k_law_size => k_is)
    (case a_law_program => k_is); (case l_law_program => k_is); (case c_law_program => k_is); (case k_law_program => k_is)
    (case ais_name => k_is); (case lis_name => k_is); (case cis_name => k_is); (case kis_name => k_is)
    (case ais_word => k_is); (case lis_word => k_is); (case cis_word => k_is); (case kis_word => k_is)
    (case astranger_index => k_is); (case lstranger_index => k_is); (case cstranger_index => k_is); (case kstranger_index => k_is)
    (case aparts_in => k_is); (case lparts_in => k_is); (case cparts_in => k_is); (case kparts_in => k_is)
    (case arepeated_index => k_is); (case lrepeated_index => k_is); (case crepeated_index => k_is); (case krepeated_index => k_is)
    (case aends_of => k_is); (case lends_of => k_is); (case cends_of => k_is); (case kends_of => k_is)
    (case aunused_index => k_is); (case lunused_index => k_is); (case cunused_index => k_is); (case kunused_index => k_is)
    (case afault_index => k_is); (case lfault_index => k_is); (case cfault_index => k_is); (case kfault_index => k_is)
    (case ais_number => k_is); (case lis_number => k_is); (case cis_number => k_is); (case kis_number => k_is)
    (case astands_as_name => k_is); (case lstands_as_name => k_is); (case cstands_as_name => k_is); (case kstands_as_name => k_is)
    (case ataken_names => k_is); (case ltaken_names => k_is); (case ctaken_names => k_is); (case ktaken_names => k_is)
    (case astanding_names => k_is); (case lstanding_names => k_is); (case cstanding_names => k_is); (case kstanding_names => k_is)
    (case aopen_names => k_is); (case lopen_names => k_is); (case copen_names => k_is); (case kopen_names => k_is)
    (case agivens => k_is); (case lgivens => k_is); (case cgivens => k_is); (case kgivens => k_is)
    (case atakes => k_is); (case ltakes => k_is); (case ctakes => k_is); (case ktakes => k_is)
    (case aends => k_is); (case lends => k_is); (case cends => k_is); (case kends => k_is)
    (case acheck_place => k_is); (case lcheck_place => k_is); (case ccheck_place => k_is); (case kcheck_place => k_is)
    (case abuilt => k_is); (case lbuilt => k_is); (case cbuilt => k_is); (case kbuilt => k_is)
    (case apart => k_is); (case lpart => k_is); (case cpart => k_is); (case kpart => k_is)
    (case ataken_at => k_is); (case ltaken_at => k_is); (case ctaken_at => k_is); (case ktaken_at => k_is)
    (case a_law_ends => k_is); (case l_law_ends => k_is); (case c_law_ends => k_is); (case k_law_ends => k_is)
    (case a_law_open => k_is); (case l_law_open => k_is); (case c_law_open => k_is); (case k_law_open => k_is)
    (case a_law_is_integer => k_is); (case l_law_is_integer => k_is); (case c_law_is_integer => k_is); (case k_law_is_integer => k_is)
    (case a_law_takes => k_is); (case l_law_takes => k_is); (case c_law_takes => k_is); (case k_law_takes => k_is)
    (case a_law_numbers => k_is); (case l_law_numbers => k_is); (case c_law_numbers => k_is); (case k_law_numbers => k_is)
    (case a_law_right_at => k_is); (case l_law_right_at => k_is); (case c_law_right_at => k_is); (case k_law_right_at => k_is)
