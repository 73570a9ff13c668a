import PyProof.Rows.All
import Wide.All
import OpenK.AllK
import Wide.FinOn
import HandS.Text
import KE.GoesMore
import HandS.ForMost
import HandS.SetKeys
import HandS.DictComp
import HandS.Codes
import HandS.IsInst
import HandS.Strs
import HandS.RevRange
import HandS.Conv
import HandS.Wide
import HandS.JoinGen
import KE.GoesEnum
import HandS.TupAny
import PyProof.SeqIndex
import HandS.ExcIs
import HandS.TupMul
import HandS.Style
import HandS.Gcd
import HandS.CallLocal
import KE.KMathGC
import PySem.Challenge.RW_oncekinds_k16_whole_long_rows_of_steps
set_option Elab.async false
set_option linter.all false
set_option maxRecDepth 100000
set_option maxHeartbeats 4000000
/-! words of programs: plain mathematics -/
namespace Wd
open PySem

abbrev Nm := List Nat
def nmOk (n : Nm) : Prop := 1 ≤ n.length ∧ n.length ≤ 8 ∧ ∀ c ∈ n, 97 ≤ c ∧ c ≤ 122
inductive W where
  | ap
  | tk (n : Nm)
  | nm (n : Nm)
  deriving DecidableEq
def wOk : W → Prop
  | .ap => True
  | .tk n => nmOk n
  | .nm n => nmOk n
def code : W → List Nat
  | .ap => [64]
  | .tk n => 47 :: n
  | .nm n => n
def enc (w : W) : Str := ⟨(code w).toArray⟩
def str (n : Nm) : Str := ⟨n.toArray⟩
theorem str_inj {a b : Nm} (h : str a = str b) : a = b := by
  have := congrArg TL.tl h
  exact this
theorem tl_str (n : Nm) : TL.tl (str n) = n := rfl
theorem tl_enc (w : W) : TL.tl (enc w) = code w := rfl
theorem enc_nm (n : Nm) : enc (.nm n) = str n := rfl
theorem enc_tk (n : Nm) : enc (.tk n) = str (47 :: n) := rfl
theorem code_inj {a b : W} (ha : wOk a) (hb : wOk b) (h : code a = code b) : a = b := by
  cases a <;> cases b <;> simp [code] at h <;> try rfl
  · subst h; have := hb.2.2 64 (by simp); omega
  · subst h; rfl
  · subst h; have := hb.2.2 47 (by simp); omega
  · subst h; have := ha.2.2 64 (by simp); omega
  · subst h; have := ha.2.2 47 (by simp); omega
  · subst h; rfl
theorem enc_inj {a b : W} (ha : wOk a) (hb : wOk b) (h : enc a = enc b) : a = b :=
  code_inj ha hb (by have := congrArg TL.tl h; exact this)

/-! ### trees -/
inductive T where
  | nm (n : Nm)
  | ap (f a : T)
  | tk (n : Nm) (b : T)
namespace T
def ws : T → List W
  | .nm n => [.nm n]
  | .ap f a => .ap :: (f.ws ++ a.ws)
  | .tk n b => .tk n :: b.ws
def lv : T → List Nm
  | .nm n => [n]
  | .ap f a => f.lv ++ a.lv
  | .tk _ b => b.lv
def tks : T → List Nm
  | .nm _ => []
  | .ap f a => f.tks ++ a.tks
  | .tk n b => n :: b.tks
def sc : T → Prop
  | .nm _ => True
  | .ap f a => f.sc ∧ a.sc
  | .tk n b => n ∈ b.lv ∧ b.sc
def aps : T → Nat
  | .nm _ => 0
  | .ap f a => f.aps + a.aps + 1
  | .tk _ b => b.aps
/-- the index behind the part at i -/
def e : T → Nat → Nat
  | .nm _, _ => 1
  | .tk _ b, i => if i = 0 then 1 + b.ws.length else 1 + b.e (i - 1)
  | .ap f a, i => if i = 0 then 1 + f.ws.length + a.ws.length else if i < 1 + f.ws.length then 1 + f.e (i - 1) else 1 + f.ws.length + a.e (i - 1 - f.ws.length)
theorem pos : ∀ t : T, 0 < t.ws.length
  | .nm _ => by simp [ws]
  | .ap _ _ => by simp [ws]
  | .tk _ _ => by simp [ws]
theorem e0 : ∀ t : T, t.e 0 = t.ws.length
  | .nm _ => rfl
  | .ap f a => by simp [e, ws]; omega
  | .tk _ b => by simp [e, ws]; omega
theorem e_lt : ∀ (t : T) (i : Nat), i < t.ws.length → i < t.e i ∧ t.e i ≤ t.ws.length
  | .nm _, i, h => by simp [ws] at h; simp [e, ws]; omega
  | .tk _ b, i, h => by
    simp [ws] at h
    simp only [e, ws, List.length_cons]
    split
    · omega
    · have := e_lt b (i - 1) (by omega); omega
  | .ap f a, i, h => by
    simp [ws] at h
    simp only [e, ws, List.length_cons, List.length_append]
    split
    · omega
    · split
      · have := e_lt f (i - 1) (by omega); omega
      · have := e_lt a (i - 1 - f.ws.length) (by omega); omega
theorem get_tk {n : Nm} {b : T} {i : Nat} (h : i ≠ 0) : (T.tk n b).ws[i]? = b.ws[i - 1]? := by
  cases i with
  | zero => exact absurd rfl h
  | succ i => rfl
theorem get_ap1 {f a : T} {i : Nat} (h : i ≠ 0) (hi : i < 1 + f.ws.length) : (T.ap f a).ws[i]? = f.ws[i - 1]? := by
  cases i with
  | zero => exact absurd rfl h
  | succ i => show (f.ws ++ a.ws)[i]? = _; rw [List.getElem?_append_left (by omega)]; rfl
theorem get_ap2 {f a : T} {i : Nat} (hi : ¬ i < 1 + f.ws.length) : (T.ap f a).ws[i]? = a.ws[i - 1 - f.ws.length]? := by
  cases i with
  | zero => omega
  | succ i => show (f.ws ++ a.ws)[i]? = _; rw [List.getElem?_append_right (by omega)]; rfl
theorem e_nm : ∀ (t : T) (i : Nat) (n : Nm), t.ws[i]? = some (.nm n) → t.e i = i + 1
  | .nm _, i, n, h => by
    cases i with
    | zero => rfl
    | succ i => simp [ws] at h
  | .tk m b, i, n, h => by
    by_cases z : i = 0
    · subst z; simp [ws] at h
    · rw [get_tk z] at h
      have := e_nm b _ n h
      simp only [e]; rw [if_neg z]; omega
  | .ap f a, i, n, h => by
    by_cases z : i = 0
    · subst z; simp [ws] at h
    · by_cases y : i < 1 + f.ws.length
      · rw [get_ap1 z y] at h
        have := e_nm f _ n h
        simp only [e]; rw [if_neg z, if_pos y]; omega
      · rw [get_ap2 y] at h
        have := e_nm a _ n h
        simp only [e]; rw [if_neg z, if_neg y]; omega
theorem lt_of_get {α : Type} {l : List α} {i : Nat} {x : α} (h : l[i]? = some x) : i < l.length := (List.getElem?_eq_some_iff.mp h).1
theorem e_tk : ∀ (t : T) (i : Nat) (n : Nm), t.ws[i]? = some (.tk n) → i + 1 < t.ws.length ∧ t.e i = t.e (i + 1)
  | .nm _, i, n, h => by
    cases i with
    | zero => simp [ws] at h
    | succ i => simp [ws] at h
  | .tk m b, i, n, h => by
    by_cases z : i = 0
    · subst z
      have := pos b
      have := e0 b
      refine ⟨by simp [ws]; omega, ?_⟩
      simp [e]; omega
    · rw [get_tk z] at h
      have q := e_tk b _ n h
      have e1 : i - 1 + 1 = i := by omega
      rw [e1] at q
      refine ⟨by simp [ws]; omega, ?_⟩
      simp only [e]; rw [if_neg z, if_neg (by omega)]
      show _ = 1 + b.e i
      omega
  | .ap f a, i, n, h => by
    by_cases z : i = 0
    · subst z; simp [ws] at h
    · by_cases y : i < 1 + f.ws.length
      · rw [get_ap1 z y] at h
        have q := e_tk f _ n h
        have e1 : i - 1 + 1 = i := by omega
        rw [e1] at q
        refine ⟨by simp [ws]; omega, ?_⟩
        simp only [e]; rw [if_neg z, if_pos y, if_neg (by omega), if_pos (by omega)]
        show _ = 1 + f.e i
        omega
      · rw [get_ap2 y] at h
        have q := e_tk a _ n h
        have e1 : i - 1 - f.ws.length + 1 = i - f.ws.length := by omega
        rw [e1] at q
        refine ⟨by simp [ws]; omega, ?_⟩
        simp only [e]; rw [if_neg z, if_neg y, if_neg (by omega), if_neg (by omega)]
        have e2 : i + 1 - 1 - f.ws.length = i - f.ws.length := by omega
        rw [e2]
        omega
theorem e_ap : ∀ (t : T) (i : Nat), t.ws[i]? = some .ap → i + 1 < t.ws.length ∧ t.e (i + 1) < t.ws.length ∧ t.e i = t.e (t.e (i + 1))
  | .nm _, i, h => by
    cases i with
    | zero => simp [ws] at h
    | succ i => simp [ws] at h
  | .tk m b, i, h => by
    by_cases z : i = 0
    · subst z; simp [ws] at h
    · rw [get_tk z] at h
      have q := e_ap b _ h
      have e1 : i - 1 + 1 = i := by omega
      rw [e1] at q
      have e3 : (T.tk m b).e (i + 1) = 1 + b.e i := by simp only [e]; rw [if_neg (by omega)]; rfl
      have e4 : (T.tk m b).e (1 + b.e i) = 1 + b.e (b.e i) := by simp only [e]; rw [if_neg (by omega)]; rw [Nat.add_sub_cancel_left]
      rw [e3, e4]
      refine ⟨by simp [ws]; omega, by simp [ws]; omega, ?_⟩
      simp only [e]; rw [if_neg z]; omega
  | .ap f a, i, h => by
    by_cases z : i = 0
    · subst z
      have pf := pos f
      have pa := pos a
      have ef := e0 f
      have ea := e0 a
      have e3 : (T.ap f a).e (0 + 1) = 1 + f.ws.length := by simp only [e]; rw [if_neg (by omega), if_pos (by omega)]; simp; omega
      have e4 : (T.ap f a).e (1 + f.ws.length) = 1 + f.ws.length + a.ws.length := by
        simp only [e]; rw [if_neg (by omega), if_neg (by omega)]
        have : 1 + f.ws.length - 1 - f.ws.length = 0 := by omega
        rw [this]; omega
      rw [e3, e4]
      refine ⟨by simp [ws]; omega, by simp [ws]; omega, ?_⟩
      simp [e]
    · by_cases y : i < 1 + f.ws.length
      · rw [get_ap1 z y] at h
        have q := e_ap f _ h
        have e1 : i - 1 + 1 = i := by omega
        rw [e1] at q
        have e3 : (T.ap f a).e (i + 1) = 1 + f.e i := by simp only [e]; rw [if_neg (by omega), if_pos (by omega)]; rfl
        have e4 : (T.ap f a).e (1 + f.e i) = 1 + f.e (f.e i) := by
          simp only [e]; rw [if_neg (by omega), if_pos (by omega)]; rw [Nat.add_sub_cancel_left]
        rw [e3, e4]
        refine ⟨by simp [ws]; omega, by simp [ws]; omega, ?_⟩
        simp only [e]; rw [if_neg z, if_pos y]; omega
      · rw [get_ap2 y] at h
        have q := e_ap a _ h
        have e1 : i - 1 - f.ws.length + 1 = i - f.ws.length := by omega
        rw [e1] at q
        have e2 : i + 1 - 1 - f.ws.length = i - f.ws.length := by omega
        have e3 : (T.ap f a).e (i + 1) = 1 + f.ws.length + a.e (i - f.ws.length) := by simp only [e]; rw [if_neg (by omega), if_neg (by omega), e2]
        have e4 : (T.ap f a).e (1 + f.ws.length + a.e (i - f.ws.length)) = 1 + f.ws.length + a.e (a.e (i - f.ws.length)) := by
          simp only [e]; rw [if_neg (by omega), if_neg (by omega)]
          have : 1 + f.ws.length + a.e (i - f.ws.length) - 1 - f.ws.length = a.e (i - f.ws.length) := by omega
          rw [this]
        rw [e3, e4]
        refine ⟨by simp [ws]; omega, by simp [ws]; omega, ?_⟩
        simp only [e]; rw [if_neg z, if_neg y]; omega
/-- a name that is taken stands in the body -/
theorem used_lv : ∀ (t : T) (n : Nm), n ∈ t.lv → ∃ j : Nat, t.ws[j]? = some (W.nm n)
  | .nm m, n, h => by simp [lv] at h; subst h; exact ⟨0, rfl⟩
  | .tk m b, n, h => by
    obtain ⟨j, hj⟩ := used_lv b n h
    exact ⟨j + 1, by simpa [ws] using hj⟩
  | .ap f a, n, h => by
    rcases List.mem_append.mp h with h | h
    · obtain ⟨j, hj⟩ := used_lv f n h
      refine ⟨j + 1, ?_⟩
      rw [get_ap1 (by omega) (by have := lt_of_get hj; omega)]; simpa using hj
    · obtain ⟨j, hj⟩ := used_lv a n h
      refine ⟨1 + f.ws.length + j, ?_⟩
      rw [get_ap2 (by omega)]
      have : 1 + f.ws.length + j - 1 - f.ws.length = j := by omega
      rw [this]; exact hj
theorem used : ∀ (t : T) (i : Nat) (n : Nm), t.sc → t.ws[i]? = some (.tk n) → ∃ j : Nat, t.ws[j]? = some (W.nm n) ∧ i < j ∧ j < t.e i
  | .nm _, i, n, _, h => by
    cases i with
    | zero => simp [ws] at h
    | succ i => simp [ws] at h
  | .tk m b, i, n, s, h => by
    by_cases z : i = 0
    · subst z
      simp [ws] at h
      subst h
      obtain ⟨j, hj⟩ := used_lv b m s.1
      refine ⟨j + 1, by simpa [ws] using hj, by omega, ?_⟩
      have := lt_of_get hj
      simp [e]; omega
    · rw [get_tk z] at h
      obtain ⟨j, hj, h1, h2⟩ := used b _ n s.2 h
      refine ⟨j + 1, by simpa [ws] using hj, by omega, ?_⟩
      simp only [e]; rw [if_neg z]; omega
  | .ap f a, i, n, s, h => by
    by_cases z : i = 0
    · subst z; simp [ws] at h
    · by_cases y : i < 1 + f.ws.length
      · rw [get_ap1 z y] at h
        obtain ⟨j, hj, h1, h2⟩ := used f _ n s.1 h
        refine ⟨j + 1, ?_, by omega, ?_⟩
        · rw [get_ap1 (by omega) (by have := lt_of_get hj; omega)]; simpa using hj
        · simp only [e]; rw [if_neg z, if_pos y]; omega
      · rw [get_ap2 y] at h
        obtain ⟨j, hj, h1, h2⟩ := used a _ n s.2 h
        refine ⟨1 + f.ws.length + j, ?_, by omega, ?_⟩
        · rw [get_ap2 (by omega)]
          have : 1 + f.ws.length + j - 1 - f.ws.length = j := by omega
          rw [this]; exact hj
        · simp only [e]; rw [if_neg z, if_neg y]; omega
/-- the part at a place is a tree -/
theorem part : ∀ (t : T) (p : Nat), t.sc → p < t.ws.length → ∃ u : T, u.ws = (t.ws.drop p).take (t.e p - p) ∧ u.sc ∧ u.lv.Sublist t.lv ∧ u.tks.Sublist t.tks ∧ (∀ i, i < u.ws.length → u.e i + p = t.e (p + i))
  | .nm n, p, s, h => by
    simp [ws] at h
    subst h
    refine ⟨.nm n, rfl, s, List.Sublist.refl _, List.Sublist.refl _, fun i hi => rfl⟩
  | .tk m b, p, s, h => by
    by_cases z : p = 0
    · subst z
      refine ⟨.tk m b, ?_, s, List.Sublist.refl _, List.Sublist.refl _, fun i hi => by rw [Nat.zero_add]; rfl⟩
      rw [List.drop_zero, Nat.sub_zero, e0, List.take_length]
    · simp [ws] at h
      obtain ⟨u, h1, h2, h3, h4, h5⟩ := part b (p - 1) s.2 (by omega)
      have lt := e_lt b (p - 1) (by omega)
      refine ⟨u, ?_, h2, h3, h4.cons _, fun i hi => ?_⟩
      · rw [h1]
        obtain ⟨q, rfl⟩ : ∃ q, p = q + 1 := ⟨p - 1, by omega⟩
        show _ = (b.ws.drop q).take _
        congr 1
        simp only [e]; rw [if_neg z]; omega
      · have := h5 i hi
        simp only [e]; rw [if_neg (by omega)]
        have : p + i - 1 = p - 1 + i := by omega
        rw [this]; omega
  | .ap f a, p, s, h => by
    by_cases z : p = 0
    · subst z
      refine ⟨.ap f a, ?_, s, List.Sublist.refl _, List.Sublist.refl _, fun i hi => by rw [Nat.zero_add]; rfl⟩
      rw [List.drop_zero, Nat.sub_zero, e0, List.take_length]
    · simp [ws] at h
      by_cases y : p < 1 + f.ws.length
      · obtain ⟨u, h1, h2, h3, h4, h5⟩ := part f (p - 1) s.1 (by omega)
        have lt := e_lt f (p - 1) (by omega)
        have hul : u.ws.length = f.e (p - 1) - (p - 1) := by rw [h1, List.length_take, List.length_drop]; omega
        refine ⟨u, ?_, h2, h3.trans (List.sublist_append_left _ _), h4.trans (List.sublist_append_left _ _), fun i hi => ?_⟩
        · rw [h1]
          obtain ⟨q, rfl⟩ : ∃ q, p = q + 1 := ⟨p - 1, by omega⟩
          show _ = ((f.ws ++ a.ws).drop q).take _
          rw [List.drop_append_of_le_length (by omega), List.take_append_of_le_length]
          · congr 1
            simp only [e]; rw [if_neg z, if_pos y]; omega
          · rw [List.length_drop]
            simp only [e]; rw [if_neg z, if_pos y]
            have e1 : q + 1 - 1 = q := by omega
            rw [e1] at lt ⊢
            omega
        · have := h5 i hi
          simp only [e]; rw [if_neg (by omega), if_pos (by omega)]
          have : p + i - 1 = p - 1 + i := by omega
          rw [this]; omega
      · obtain ⟨u, h1, h2, h3, h4, h5⟩ := part a (p - 1 - f.ws.length) s.2 (by omega)
        have lt := e_lt a (p - 1 - f.ws.length) (by omega)
        refine ⟨u, ?_, h2, h3.trans (List.sublist_append_right _ _), h4.trans (List.sublist_append_right _ _), fun i hi => ?_⟩
        · rw [h1]
          obtain ⟨q, rfl⟩ : ∃ q, p = q + 1 := ⟨p - 1, by omega⟩
          show _ = ((f.ws ++ a.ws).drop q).take _
          have e1 : q + 1 - 1 - f.ws.length = q - f.ws.length := by omega
          rw [List.drop_append, List.drop_of_length_le (by omega : f.ws.length ≤ q), List.nil_append]
          rw [e1] at lt ⊢
          congr 1
          simp only [e]; rw [if_neg z, if_neg y, e1]; omega
        · have := h5 i hi
          simp only [e]; rw [if_neg (by omega), if_neg (by omega)]
          have : p + i - 1 - f.ws.length = p - 1 - f.ws.length + i := by omega
          rw [this]; omega
theorem tks_ws : ∀ t : T, t.tks = t.ws.filterMap (fun w => match w with | .tk n => some n | _ => none)
  | .nm _ => rfl
  | .tk m b => by simp only [tks, ws, List.filterMap_cons]; rw [tks_ws b]
  | .ap f a => by simp only [tks, ws, List.filterMap_cons, List.filterMap_append]; rw [tks_ws f, tks_ws a]
theorem lv_ws : ∀ t : T, t.lv = t.ws.filterMap (fun w => match w with | .nm n => some n | _ => none)
  | .nm _ => rfl
  | .tk m b => by simp only [lv, ws, List.filterMap_cons]; rw [lv_ws b]
  | .ap f a => by simp only [lv, ws, List.filterMap_cons, List.filterMap_append]; rw [lv_ws f, lv_ws a]
theorem lv_aps : ∀ t : T, t.lv.length = t.aps + 1
  | .nm _ => rfl
  | .tk m b => lv_aps b
  | .ap f a => by simp only [lv, aps, List.length_append]; rw [lv_aps f, lv_aps a]; omega
theorem aps_ws : ∀ t : T, t.aps = (t.ws.filter (fun w => decide (w = .ap))).length
  | .nm _ => rfl
  | .tk m b => by simp [aps, ws]; exact aps_ws b
  | .ap f a => by
    have h1 := aps_ws f
    have h2 := aps_ws a
    simp [aps, ws]; omega
theorem len_ws : ∀ t : T, t.ws.length = 2 * t.aps + 1 + t.tks.length
  | .nm _ => rfl
  | .tk m b => by have := len_ws b; simp [ws, aps, tks]; omega
  | .ap f a => by have := len_ws f; have := len_ws a; simp [ws, aps, tks]; omega
end T

/-! ### valid words -/
structure Vd (ws : List W) : Prop where
  tree : ∃ t : T, t.ws = ws ∧ t.sc ∧ t.lv.Nodup ∧ t.tks.Nodup
  ok : ∀ w ∈ ws, wOk w
structure IsEnds (ws : List W) (E : Nat → Nat) : Prop where
  lt : ∀ i, i < ws.length → i < E i ∧ E i ≤ ws.length
  all : E 0 = ws.length
  nm : ∀ i n, ws[i]? = some (.nm n) → E i = i + 1
  tk : ∀ i n, ws[i]? = some (.tk n) → i + 1 < ws.length ∧ E i = E (i + 1)
  ap : ∀ i, ws[i]? = some .ap → i + 1 < ws.length ∧ E (i + 1) < ws.length ∧ E i = E (E (i + 1))
theorem T.isEnds (t : T) : IsEnds t.ws t.e := ⟨t.e_lt, t.e0, t.e_nm, t.e_tk, t.e_ap⟩
/-- two such are alike -/
theorem IsEnds.uniq {ws : List W} {E F : Nat → Nat} (h : IsEnds ws E) (g : IsEnds ws F) : ∀ k i, ws.length - i = k → i < ws.length → E i = F i := by
  intro k
  induction k using Nat.strongRecOn with
  | _ k ih =>
    intro i hk hi
    cases hw : ws[i]? with
    | none => rw [List.getElem?_eq_none_iff] at hw; omega
    | some w =>
      cases w with
      | nm n => rw [h.nm i n hw, g.nm i n hw]
      | tk n =>
        obtain ⟨h1, h2⟩ := h.tk i n hw
        obtain ⟨g1, g2⟩ := g.tk i n hw
        rw [h2, g2]
        exact ih _ (by omega) (i + 1) rfl h1
      | ap =>
        obtain ⟨h1, h2, h3⟩ := h.ap i hw
        obtain ⟨g1, g2, g3⟩ := g.ap i hw
        have e1 := ih _ (by omega) (i + 1) rfl h1
        have l1 := (h.lt (i + 1) h1).1
        rw [h3, g3, ← e1]
        exact ih _ (by omega) (E (i + 1)) rfl h2
/-- the chain of ends from i on -/
def chain (E : Nat → Nat) (n : Nat) : Nat → Nat → List Nat
  | 0, _ => []
  | k + 1, i => if i < n then E i :: chain E n k (E i) else []
theorem chain_more {E : Nat → Nat} {n : Nat} (h : ∀ i, i < n → i < E i ∧ E i ≤ n) : ∀ (k j i : Nat), n - i ≤ k → n - i ≤ j → i ≤ n → chain E n k i = chain E n j i
  | 0, 0, i, _, _, _ => rfl
  | 0, j + 1, i, hk, _, hi => by
    unfold chain; rw [if_neg (by omega)]
  | k + 1, 0, i, _, hj, hi => by
    conv => lhs; unfold chain
    rw [if_neg (by omega)]; rfl
  | k + 1, j + 1, i, hk, hj, hi => by
    unfold chain
    by_cases c : i < n
    · rw [if_pos c, if_pos c, chain_more h k j (E i) (by have := h i c; omega) (by have := h i c; omega) (h i c).2]
    · rw [if_neg c, if_neg c]
def ch (E : Nat → Nat) (n i : Nat) : List Nat := chain E n n i
section
variable {ws : List W} {E : Nat → Nat}
theorem ch_end : ch E n n = [] := by
  unfold ch
  cases n with
  | zero => rfl
  | succ n => unfold chain; rw [if_neg (by omega)]
theorem ch_step (h : IsEnds ws E) {i : Nat} (hi : i < ws.length) : ch E ws.length i = E i :: ch E ws.length (E i) := by
  unfold ch
  obtain ⟨k, hk⟩ : ∃ k, ws.length = k + 1 := ⟨ws.length - 1, by omega⟩
  have l := h.lt i hi
  conv => lhs; rw [hk]; unfold chain
  rw [if_pos (by omega), ← hk, chain_more h.lt k ws.length (E i) (by omega) (by omega) l.2]
theorem ch_ne (h : IsEnds ws E) {i : Nat} (hi : i < ws.length) : 0 < (ch E ws.length i).length := by rw [ch_step h hi]; simp
theorem ch_nm (h : IsEnds ws E) {i : Nat} {n : Nm} (hw : ws[i]? = some (.nm n)) : ch E ws.length i = (i + 1) :: ch E ws.length (i + 1) := by
  rw [ch_step h (T.lt_of_get hw), h.nm i n hw]
theorem ch_tk (h : IsEnds ws E) {i : Nat} {n : Nm} (hw : ws[i]? = some (.tk n)) : ch E ws.length (i + 1) = E i :: ch E ws.length (E i) ∧ ch E ws.length i = E i :: ch E ws.length (E i) := by
  obtain ⟨h1, h2⟩ := h.tk i n hw
  exact ⟨by rw [ch_step h h1, h2], ch_step h (T.lt_of_get hw)⟩
theorem ch_ap (h : IsEnds ws E) {i : Nat} (hw : ws[i]? = some .ap) : ch E ws.length (i + 1) = E (i + 1) :: E i :: ch E ws.length (E i) ∧ ch E ws.length i = E i :: ch E ws.length (E i) := by
  obtain ⟨h1, h2, h3⟩ := h.ap i hw
  refine ⟨?_, ch_step h (T.lt_of_get hw)⟩
  rw [ch_step h h1, ch_step h h2, ← h3]
theorem ch_one (h : IsEnds ws E) (hp : 0 < ws.length) : ch E ws.length 0 = [ws.length] := by
  rw [ch_step h hp, h.all, ch_end]
end
end Wd

set_option maxHeartbeats 2000000
namespace Kk
open PySem PySem.Spec PyProof.Rows L2
/-- a def that can be called: where it stands, and what it promises -/
structure Cal (P : Program) (w : World) (K : PySem.W.Frag) (mg : Str → Option Value) (base : Heap) (x : Str) (k : Nat) (ps : List Str) (sp : Sp) : Prop where
  ex : ∃ f fd, mg x = some (.ref f) ∧ PySem.W.keepIn K (.ref f) = true ∧ Binds K fd ps [] ∧ FnOk P w K mg base CX0 k f fd ps sp
structure DefAt (K : PySem.W.Frag) (mg : Str → Option Value) (x : Str) (st : Stmt) (nm : Str := x) : Prop where
  ex : ∃ f fd, Fun K nm nm st f fd ∧ mg x = some (.ref f)
theorem Cal.imp {P w K mg base x k ps} {sp sp' : Sp} (C : Cal P w K mg base x k ps sp) (h : ∀ vs H Q E, sp' vs H Q E → sp vs H Q E) : Cal P w K mg base x k ps sp' := by
  obtain ⟨f, fd, a, b, c, d⟩ := C
  exact ⟨f, fd, a, b, c, d.imp h⟩
section
variable {P : Program} {w : World} {K : PySem.W.Frag} {mg : Str → Option Value} {base : Heap}
theorem cal_of {x nm : Str} {st : Stmt} {N ps : List Str} {k : Nat} {sp : Sp} (D : DefAt K mg x st nm) (S : FnScope N ps (defScope st))
    (hb : ∀ (kV doc pm : Value) (an : Option Addr) (cdv ct : Value) (us : List Value), us.length = ps.length → bindArgs (PySem.W.fnOf nm nm (defArgs st) (defBody st) (defScope st) .none kV doc pm an cdv ct) ⟨us, []⟩ = pure (ps.zip us))
    (len : ∀ vs H Q E, sp vs H Q E → vs.length = ps.length)
    (hbody : ∀ (f : Addr) (cdv : Value) (A : Around) (outer : List Env) (s : Shared) (H : Hp) (vs : List V) (Q : VK) (E : XK), Room k (A.deeper (envOfC nm (defScope st) s.heap.objs.size f cdv)) → sp vs H Q E →
      ∃ t, PSs (cxOf CX0 P w K mg base N nm (defScope st) f cdv A outer s H E).nox (defBody st) t ∧ t { nx := fun _ H' => Q .non H', rt := Q } (start N vs) H) : Cal P w K mg base x (k + 1) ps sp := by
  obtain ⟨f, fd, F, m⟩ := D
  exact ⟨f, fd, m, F.kp, F.binds hb, F.ok S len fun cdv A outer s H vs Q E hr h => hbody f cdv A outer s H vs Q E hr h⟩
end
section
variable {X : Cx} {e : Expr} {es : List Expr} {t : TA} {x : Str} {k : Nat} {ps : List Str} {sp : Sp} {p pos : Pos}
theorem pe_c (C : Cal X.prog X.w X.K X.mg X.base x k ps sp) (hr : Room k X.A) (ha : PA X (e :: es) t) (hg : Gl X x := by rfl) (hdb : (x == ("__debug__" : Str)) = false := by decide)
    (he : starEach (e :: es) X.env = (false, eval e X.env) :: starEach es X.env := by rfl) (hpl : (backTo pos (starEach es X.env)).any (·.1) = false := by rfl) :
    PE X (.Call (.Name x p) (e :: es) [] pos) (tCall sp [] E0 t) := by
  obtain ⟨f, fd, hm, hk, hb, F⟩ := C
  exact pe_call F hr hg hm hk hb .nil pass0 ha hdb he hpl
theorem pe_c0 (C : Cal X.prog X.w X.K X.mg X.base x k ps sp) (hr : Room k X.A) (hg : Gl X x := by rfl) (hdb : (x == ("__debug__" : Str)) = false := by decide) :
    PE X (.Call (.Name x p) [] [] pos) (tCall sp [] E0 tNil) := by
  obtain ⟨f, fd, hm, hk, hb, F⟩ := C
  exact pe_call0 F hr hg hm hk hb .nil pass0 hdb
theorem pe_gs {z : Str} (hm : ∃ t, X.mg x = some (.str z t)) (hg : Gl X x := by rfl) (hd : (x == ("__debug__" : Str)) = false := by decide) : PE X (.Name x pos) (tC (.str z)) := by
  obtain ⟨t, h⟩ := hm
  exact pe_glob hg h ⟨t, rfl⟩ hd
theorem pe_gi {i : Int} (hm : ∃ t, X.mg x = some (.int i t)) (hg : Gl X x := by rfl) (hd : (x == ("__debug__" : Str)) = false := by decide) : PE X (.Name x pos) (tC (.int i)) := by
  obtain ⟨t, h⟩ := hm
  exact pe_glob hg h ⟨t, rfl⟩ hd
theorem pe_gr {a : Addr} (hm : X.mg x = some (.ref a)) (hg : Gl X x := by rfl) (hd : (x == ("__debug__" : Str)) = false := by decide) : PE X (.Name x pos) (tC (.ref a)) := pe_glob hg hm rfl hd
theorem pe_ty {n : String} (hm : X.mg x = none) (hv : bootBuiltins x = some (.type n)) (hg : Gl X x := by rfl) (hn : x ≠ "__name__" := by decide) (hd : (x == ("__debug__" : Str)) = false := by decide) : PE X (.Name x pos) (tC (.ty n)) := pe_bltn hg hm hv rfl hn hd
end
/-- the built-in names that the text does not hide -/
structure Bt (mg : Str → Option Value) : Prop where
  b_len : mg "len" = none
  b_int : mg "int" = none
  b_bool : mg "bool" = none
  b_str : mg "str" = none
  b_abs : mg "abs" = none
  b_min : mg "min" = none
  b_max : mg "max" = none
  b_sum : mg "sum" = none
  b_list : mg "list" = none
  b_tuple : mg "tuple" = none
  b_all : mg "all" = none
  b_isinstance : mg "isinstance" = none
  b_set : mg "set" = none
  b_range : mg "range" = none
  b_enumerate : mg "enumerate" = none
  b_reversed : mg "reversed" = none
  b_zip : mg "zip" = none
  b_divmod : mg "divmod" = none
  b_dict : mg "dict" = none
  b_sorted : mg "sorted" = none
  m_GIVEN : ∃ t, mg "GIVEN" = some (.str "@" t)
  m_TAKE : ∃ t, mg "TAKE" = some (.str "/" t)
  m_LETTERS : ∃ t, mg "LETTERS" = some (.str "abcdefghijklmnopqrstuvwxyz" t)
  m_MOST_LETTERS : ∃ t, mg "MOST_LETTERS" = some (.int 8 t)
  m_MOST_WORDS : ∃ t, mg "MOST_WORDS" = some (.int 1000 t)

/-! ### heaps -/
/-- all but p and g is as it was -/
def Keep (p g : Addr) (H H' : Hp) : Prop := ∀ b o, H b = some o → b ≠ p → b ≠ g → H' b = some o
theorem Keep.refl {p g : Addr} (H : Hp) : Keep p g H H := fun _ _ h _ _ => h
theorem Keep.trans {p g : Addr} {H H1 H2 : Hp} (a : Keep p g H H1) (b : Keep p g H1 H2) : Keep p g H H2 := fun c o h h1 h2 => b c o (a c o h h1 h2) h1 h2
theorem Same.keep {p g : Addr} {H H' : Hp} (a : Same H H') : Keep p g H H' := fun b o h _ _ => a b o h
theorem same_upd {H : Hp} {a : Addr} {o : HO} (h : H a = none) : Same H (upd H a o) := fun b u e => by
  rw [upd_ne (ne_of_none e h)]; exact e
theorem keep_upd {p g : Addr} {H : Hp} {o : HO} (h : True) : Keep p g H (upd H p o) := fun b u e h1 _ => by
  rw [upd_ne h1]; exact e
theorem keep_upd' {p g : Addr} {H : Hp} {o : HO} (h : True) : Keep p g H (upd H g o) := fun b u e _ h2 => by
  rw [upd_ne h2]; exact e
theorem SqL.keep {K : PySem.W.Frag} {p g a : Addr} {H H' : Hp} {xs : List V} (h : SqL K H a xs) (k : Keep p g H H') (h1 : a ≠ p) (h2 : a ≠ g) : SqL K H' a xs := by
  rcases h with (h | ⟨o, h⟩) | h
  · exact .inl (.inl (k _ _ h h1 h2))
  · exact .inl (.inr ⟨o, k _ _ h h1 h2⟩)
  · exact .inr h
theorem SqT.keep {K : PySem.W.Frag} {p g a : Addr} {H H' : Hp} {xs : List V} (h : SqT K H a xs) (k : Keep p g H H') (h1 : a ≠ p) (h2 : a ≠ g) : SqT K H' a xs := by
  rcases h with (h | ⟨o, h⟩) | h
  · exact .inl (.inl (k _ _ h h1 h2))
  · exact .inl (.inr ⟨o, k _ _ h h1 h2⟩)
  · exact .inr h
theorem SqT.same {K : PySem.W.Frag} {a : Addr} {H H' : Hp} {xs : List V} (h : SqT K H a xs) (k : Same H H') : SqT K H' a xs := by
  rcases h with (h | ⟨o, h⟩) | h
  · exact .inl (.inl (k _ _ h))
  · exact .inl (.inr ⟨o, k _ _ h⟩)
  · exact .inr h
theorem atI_int {α : Type} {xs : List α} {i : Int} {v : α} (h0 : 0 ≤ i) (h : xs[i.toNat]? = some v) : atI xs i = some v := by
  have e : i = ((i.toNat : Nat) : Int) := by omega
  rw [e]
  exact atI_nat h
theorem ixN_lt {n j : Nat} (h : j < n) : ixN n (j : Int) = some j := by
  unfold ixN
  rw [if_pos (by omega), if_pos (by omega)]
  rfl
theorem ixN_int {n : Nat} {i : Int} (h0 : 0 ≤ i) (h : i < n) : ixN n i = some i.toNat := by
  unfold ixN
  rw [if_pos h0, if_pos h]
theorem seq0 {n : Nat} (h : 0 < n) : seqIndex? 0 n = some 0 := (ixN_seq (ixN_lt (j := 0) h)).1
/-! ### the law's draws -/
structure PotAt (H : Hp) (p g s : Addr) : Prop where
  ex : ∃ (G S : List Int) (t r : Int), H p = some (.lst [.ref g, .ref s, .int t, .int r]) ∧ H g = some (.lst (G.map V.int)) ∧ H s = some (.lst (S.map V.int)) ∧ 0 < S.length
  pg : p ≠ g
  ps : p ≠ s
  gs : g ≠ s
theorem PotAt.keep {H H' : Hp} {p g s : Addr} (h : PotAt H p g s) (k : Same H H') : PotAt H' p g s := by
  obtain ⟨⟨G, S, t, r, h1, h2, h3, h4⟩, a, b, c⟩ := h
  exact ⟨⟨G, S, t, r, k _ _ h1, k _ _ h2, k _ _ h3, h4⟩, a, b, c⟩
theorem PotAt.off {H H' : Hp} {p g s : Addr} (h : PotAt H p g s) (k : ∀ b o, H b = some o → b = p ∨ b = g ∨ b = s → H' b = some o) : PotAt H' p g s := by
  obtain ⟨⟨G, S, t, r, h1, h2, h3, h4⟩, a, b, c⟩ := h
  exact ⟨⟨G, S, t, r, k _ _ h1 (.inl rfl), k _ _ h2 (.inr (.inl rfl)), k _ _ h3 (.inr (.inr rfl)), h4⟩, a, b, c⟩
def spPot (K : PySem.W.Frag) : Sp := fun vs H Q _ => ∃ (a : Addr) (ns : List Int), vs = [.ref a] ∧ SqL K H a (ns.map V.int) ∧ ns.length ≤ 63 ∧
  ∀ (H' : Hp) (p g s : Addr), PotAt H' p g s → Same H H' → H p = none → H g = none → H s = none → Q (.ref p) H'
def spDraw : Sp := fun vs H Q _ => ∃ (p g s : Addr) (m : Int), vs = [.ref p, .int m] ∧ PotAt H p g s ∧ 0 < m ∧ m.natAbs < 2 ^ 200 ∧
  ∀ (H' : Hp) (r : Int), PotAt H' p g s → Keep p g H H' → 0 ≤ r → r < m → Q (.int r) H'
end Kk

set_option maxHeartbeats 2000000
namespace Kk
open PySem PySem.Spec PyProof.Rows L2
def top (i : Nat) : Stmt := PySem.Challenge.pw_oncekinds_k16_whole_long_rows_of_steps.main.body.getD i (.Pass ⟨0, 0, 0, 0⟩)
abbrev s_draw : Stmt := (top 37)
theorem sc_draw : FnScope ["_law_pot_here", "_law_many", "_law_turn", "_law_number", "_law_seed"] ["_law_pot_here", "_law_many"] (defScope s_draw) := ⟨rfl, rfl, rfl, by decide +kernel, rfl, by decide +kernel, by decide +kernel⟩
theorem c_draw {P w K mg base} (B : Bt mg) (D : DefAt K mg "_law_draw" s_draw) : Cal P w K mg base "_law_draw" 1 ["_law_pot_here", "_law_many"] spDraw := by
  refine cal_of D sc_draw (fun _ _ _ _ _ _ us hl => match us, hl with | [_, _], _ => rfl) (fun vs H Q E h => ?_) (fun f cdv A outer st0 H vs Q E hr h => ?_)
  · obtain ⟨p, g, s, m, rfl, _⟩ := h
    rfl
  · obtain ⟨p, g, s, m, rfl, PA, hm, hm9, k⟩ := h
    obtain ⟨⟨G, S, t, r, h1, h2, h3, hS⟩, npg, nps, ngs⟩ := PA
    refine ⟨_, (pss_cons (ps_set (i := 2) sc_draw.nd rfl (by first | exact Or.inl rfl | exact Or.inr rfl) (pe_ix ix_list (pv 0) pe_int (fun _ _ => rfl)))
      (pss_cons (ps_asg (pe_op op_add (pv 2) pe_int) (pg_sub (pv 0) pe_int set_list))
      (pss_cons (ps_if (pt_cmpR op_gt (pe_callB call_len_seq (by rfl) B.b_len (by decide +kernel) (pa_cons (pe_ix ix_list (pv 0) pe_int (fun _ _ => rfl)) pa_nil)) pe_int (nomark _)) (pss_cons (ps_set (i := 3) sc_draw.nd rfl (by first | exact Or.inl rfl | exact Or.inr rfl) (pe_ix ix_list (pe_ix ix_list (pv 0) pe_int (fun _ _ => rfl)) pe_int (fun _ _ => rfl)))
      (pss_cons (ps_asg (pe_op op_fdivW (pv 3) (pv 1)) (pg_sub (pe_ix ix_list (pv 0) pe_int (fun _ _ => rfl)) pe_int set_list))
      (pss_cons (ps_if (pt_cmpR op_lt (pv 3) (pv 1) (nomark _)) (pss_one (ps_expr (pe_bm PySem.F.plainAttrs_list PySem.F.slot_list_pop PySem.F.type_list_pop mt_popAt (pe_ix ix_list (pv 0) pe_int (fun _ _ => rfl)) (pa_cons pe_int pa_nil)))) pss_nil)
      (pss_one (ps_ret (pe_op op_mod (pe_callTy call_int1 (by rfl) B.b_int (by decide +kernel) (pa_cons (pv 3) pa_nil)) (pv 1))))))) pss_nil)
      (pss_cons (ps_set (i := 4) sc_draw.nd rfl (by first | exact Or.inl rfl | exact Or.inr rfl) (pe_op op_add (pe_op op_add (pe_op op_mul (pe_ix ix_list (pe_ix ix_list (pv 0) pe_int (fun _ _ => rfl)) (pe_op op_mod (pe_callTy call_int1 (by rfl) B.b_int (by decide +kernel) (pa_cons (pv 2) pa_nil)) (pe_callB call_len_seq (by rfl) B.b_len (by decide +kernel) (pa_cons (pe_ix ix_list (pv 0) pe_int (fun _ _ => rfl)) pa_nil))) (fun _ _ => rfl)) pe_int) (pe_op op_mul pe_int (pv 2))) (pe_op op_mul (pe_ix ix_list (pv 0) pe_int (fun _ _ => rfl)) pe_int)))
      (pss_cons (ps_set (i := 3) sc_draw.nd rfl (by first | exact Or.inl rfl | exact Or.inr rfl) (pe_op op_mod (pe_callTy call_int1 (by rfl) B.b_int (by decide +kernel) (pa_cons (pe_op op_add (pe_op op_mul (pv 4) pe_int) pe_int) pa_nil)) pe_int))
      (pss_cons (ps_set (i := 3) sc_draw.nd rfl (by first | exact Or.inl rfl | exact Or.inr rfl) (pe_op op_mod (pe_callTy call_int1 (by rfl) B.b_int (by decide +kernel) (pa_cons (pe_op op_mul (pv 3) (pe_op op_add (pe_op op_fdivW (pv 3) pe_int) pe_int)) pa_nil)) pe_int))
      (pss_cons (ps_set (i := 3) sc_draw.nd rfl (by first | exact Or.inl rfl | exact Or.inr rfl) (pe_op op_mod (pe_callTy call_int1 (by rfl) B.b_int (by decide +kernel) (pa_cons (pe_op op_add (pe_op op_mul (pv 3) (pe_op op_add (pe_op op_fdivW (pv 3) pe_int) pe_int)) (pv 2)) pa_nil)) pe_int))
      (pss_one (ps_ret (pe_op op_mod (pe_callTy call_int1 (by rfl) B.b_int (by decide +kernel) (pa_cons (pe_op op_fdivW (pv 3) pe_int) pa_nil)) (pv 1))))))))))), ?_⟩
    -- turn = pot[2]; pot[2] = turn + 1
    refine ⟨_, rfl, p, _, _, _, rfl, rfl, SqL.of h1, rfl, ?_⟩
    refine ⟨_, rfl, _, _, rfl, rfl, _, rfl, p, _, _, _, rfl, rfl, h1, rfl, ?_⟩
    have h1' : upd H p (.lst [.ref g, .ref s, .int (t + 1), .int r]) p = some (.lst [.ref g, .ref s, .int (t + 1), .int r]) := upd_same
    have h2' : upd H p (.lst [.ref g, .ref s, .int (t + 1), .int r]) g = some (.lst (G.map V.int)) := by rw [upd_ne npg.symm]; exact h2
    have h3' : upd H p (.lst [.ref g, .ref s, .int (t + 1), .int r]) s = some (.lst (S.map V.int)) := by rw [upd_ne nps.symm]; exact h3
    have kp : Keep p g H (upd H p (.lst [.ref g, .ref s, .int (t + 1), .int r])) := keep_upd trivial
    have e0 : ([V.ref g, V.ref s, V.int t, V.int r].set 2 (V.int (t + 1))) = [.ref g, .ref s, .int (t + 1), .int r] := rfl
    show tSeq _ _ _ _ (upd H p (.lst [.ref g, .ref s, .int (t + 1), .int r]))
    generalize upd H p (.lst [.ref g, .ref s, .int (t + 1), .int r]) = H1 at *
    -- if len(pot[0]) > 0
    refine ⟨_, rfl, p, _, _, _, rfl, rfl, SqL.of h1', rfl, _, _, rfl, .inl (SqL.of h2'), _, _, rfl, rfl, _, rfl, ?_⟩
    refine ite2 (fun hc => ?_) (fun hc => ?_)
    · have hG : 0 < G.length := by
        rw [List.length_map] at hc
        have := of_decide_eq_true hc
        omega
      obtain ⟨z, G', rfl⟩ : ∃ z G', G = z :: G' := by
        cases G with
        | nil => simp at hG
        | cons z G' => exact ⟨z, G', rfl⟩
      -- number = pot[0][0]; pot[0][0] = number // many
      refine ⟨_, rfl, p, _, _, _, rfl, rfl, SqL.of h1', rfl, _, _, _, _, rfl, rfl, SqL.of h2', at_of (j := 0) rfl rfl, ?_⟩
      refine ⟨_, rfl, _, rfl, _, _, rfl, rfl, wide_div hm hm9 (by decide) (by decide), _, rfl, p, _, _, _, rfl, rfl, SqL.of h1', rfl, g, _, _, 0, rfl, rfl, h2', ixN_lt (j := 0) (by simp), ?_⟩
      have q1 : upd H1 g (.lst ((((z :: G').map V.int)).set 0 (V.int (z / m)))) p = some (.lst [.ref g, .ref s, .int (t + 1), .int r]) := by rw [upd_ne npg]; exact h1'
      have q2 : upd H1 g (.lst ((((z :: G').map V.int)).set 0 (V.int (z / m)))) g = some (.lst (((z / m) :: G').map V.int)) := upd_same
      have q3 : upd H1 g (.lst ((((z :: G').map V.int)).set 0 (V.int (z / m)))) s = some (.lst (S.map V.int)) := by rw [upd_ne ngs.symm]; exact h3'
      have kq : Keep p g H (upd H1 g (.lst ((((z :: G').map V.int)).set 0 (V.int (z / m))))) := kp.trans (keep_upd' trivial)
      show tSeq _ _ _ _ (upd H1 g (.lst ((((z :: G').map V.int)).set 0 (V.int (z / m)))))
      generalize upd H1 g (.lst ((((z :: G').map V.int)).set 0 (V.int (z / m)))) = H2 at *
      refine ⟨_, rfl, _, rfl, _, _, rfl, rfl, _, rfl, ?_⟩
      refine ite2 (fun _ => ?_) (fun _ => ?_)
      · -- pot[0].pop(0)
        refine ⟨_, rfl, p, _, _, _, rfl, rfl, SqL.of q1, rfl, .inl ⟨rfl, _, SqL.of q2⟩, g, _, 0, 0, _, rfl, rfl, q2, (by decide), (by decide), seq0 (by simp), rfl, ?_⟩
        have y1 : upd H2 g (.lst ((((z / m) :: G').map V.int).eraseIdx 0)) p = some (.lst [.ref g, .ref s, .int (t + 1), .int r]) := by rw [upd_ne npg]; exact q1
        have y2 : upd H2 g (.lst ((((z / m) :: G').map V.int).eraseIdx 0)) g = some (.lst (G'.map V.int)) := upd_same
        have y3 : upd H2 g (.lst ((((z / m) :: G').map V.int).eraseIdx 0)) s = some (.lst (S.map V.int)) := by rw [upd_ne ngs.symm]; exact q3
        refine ⟨_, rfl, .inl ⟨_, rfl, _, rfl, _, _, rfl, rfl, hm, ?_⟩⟩
        exact k _ _ ⟨⟨G', S, t + 1, r, y1, y2, y3, hS⟩, npg, nps, ngs⟩ (kq.trans (keep_upd' trivial)) (Int.emod_nonneg _ (by omega)) (Int.emod_lt_of_pos _ hm)
      · refine ⟨_, rfl, .inl ⟨_, rfl, _, rfl, _, _, rfl, rfl, hm, ?_⟩⟩
        exact k _ _ ⟨⟨(z / m) :: G', S, t + 1, r, q1, q2, q3, hS⟩, npg, nps, ngs⟩ kq (Int.emod_nonneg _ (by omega)) (Int.emod_lt_of_pos _ hm)
    · have hSl : (0 : Int) < ((S.map V.int).length : Int) := by rw [List.length_map]; omega
      have hlt : (t % ((S.map V.int).length : Int)).toNat < S.length := by
        have a1 := Int.emod_nonneg t (show ((S.map V.int).length : Int) ≠ 0 by omega)
        have a2 := Int.emod_lt_of_pos t hSl
        rw [List.length_map] at a1 a2 ⊢
        omega
      obtain ⟨sv, hat⟩ : ∃ sv, atI (S.map V.int) (t % ((S.map V.int).length : Int)) = some (V.int sv) := by
        refine ⟨S[(t % ((S.map V.int).length : Int)).toNat], ?_⟩
        refine atI_int (Int.emod_nonneg t (by omega)) ?_
        rw [List.getElem?_map, List.getElem?_eq_getElem hlt]
        rfl
      -- seed
      refine ⟨_, rfl, p, _, _, _, rfl, rfl, SqL.of h1', rfl, _, rfl, .inl ⟨_, rfl, _, rfl, p, _, _, _, rfl, rfl, SqL.of h1', rfl, _, _, rfl, .inl (SqL.of h3'), _, _, rfl, rfl, hSl, _, _, _, _, rfl, rfl, SqL.of h3', hat, ?_⟩⟩
      refine ⟨_, _, rfl, rfl, .inr ⟨by decide, by decide⟩, _, rfl, _, _, rfl, rfl, .inl ⟨by decide, by decide⟩, _, _, rfl, rfl, _, rfl, p, _, _, _, rfl, rfl, SqL.of h1', rfl, _, _, rfl, rfl, .inr ⟨by decide, by decide⟩, _, _, rfl, rfl, ?_⟩
      -- number = int(seed * 48271 + 11) % 2147483647
      refine ⟨_, rfl, _, _, rfl, rfl, .inr ⟨by decide, by decide⟩, _, _, rfl, rfl, .inl ⟨_, rfl, _, _, rfl, rfl, (show (0 : Int) < 2147483647 by decide), ?_⟩⟩
      generalize hy : ((sv * 7919 + 104729 * t + r * 31) * 48271 + 11) % 2147483647 = y1
      have y1a : 0 ≤ y1 := by rw [← hy]; exact Int.emod_nonneg _ (by decide)
      have y1b : y1 < 2147483647 := by rw [← hy]; exact Int.emod_lt_of_pos _ (by decide)
      refine ⟨_, rfl, _, rfl, _, _, rfl, rfl, wide_div (b := 30) (by decide) (by decide) (by decide) (by decide), _, _, rfl, rfl, _, _, rfl, rfl, .inl ⟨by omega, by omega⟩, .inl ⟨_, rfl, _, _, rfl, rfl, (show (0 : Int) < 2147483629 by decide), ?_⟩⟩
      generalize hy2 : (y1 * (y1 / 1009 + 69621)) % 2147483629 = y2
      have y2a : 0 ≤ y2 := by rw [← hy2]; exact Int.emod_nonneg _ (by decide)
      have y2b : y2 < 2147483629 := by rw [← hy2]; exact Int.emod_lt_of_pos _ (by decide)
      refine ⟨_, rfl, _, rfl, _, _, rfl, rfl, wide_div (b := 30) (by decide) (by decide) (by decide) (by decide), _, _, rfl, rfl, _, _, rfl, rfl, .inl ⟨by omega, by omega⟩, _, rfl, _, _, rfl, rfl, .inl ⟨_, rfl, _, _, rfl, rfl, (show (0 : Int) < 2147483399 by decide), ?_⟩⟩
      refine ⟨_, rfl, _, _, rfl, rfl, wide_div (b := 30) (by decide) (by decide) (by decide) (by decide), .inl ⟨_, rfl, _, rfl, _, _, rfl, rfl, hm, ?_⟩⟩
      exact k _ _ ⟨⟨G, S, t + 1, r, h1', h2', h3', hS⟩, npg, nps, ngs⟩ kp (Int.emod_nonneg _ (by omega)) (Int.emod_lt_of_pos _ hm)
end Kk

set_option maxHeartbeats 2000000
namespace Kk
open PySem PySem.Spec PyProof.Rows L2
theorem cut63 {ns : List Int} (h : ns.length ≤ 63) : cutV (ns.map V.int) none (some 63) = ns.map V.int := by
  have e : HT.sIx (ns.map V.int).length (ns.map V.int).length (some 63) = min 63 (ns.map V.int).length := HT.sIx_nat _ _ 63
  unfold cutV
  rw [e]
  show ((ns.map V.int).drop 0).take _ = _
  rw [List.drop_zero]
  exact List.take_of_length_le (by rw [List.length_map]; show _ ≤ min 63 ns.length - 0; omega)
theorem map_get {α : Type} {f : α → V} {l : List α} {i : Nat} {x : V} (h : (l.map f)[i]? = some x) : ∃ y, l[i]? = some y ∧ x = f y := by
  rw [List.getElem?_map] at h
  cases e : l[i]? with
  | none => rw [e] at h; cases h
  | some y => rw [e] at h; exact ⟨y, rfl, (Option.some.inj h).symm⟩
theorem small_lt {n m : Nat} (h : n ≤ m) (hm : m < 16777216) : n < sizeLine := by rw [sizeLine_eq]; omega
theorem upd_over {H H' : Hp} {D : Addr} {o u : HO} (e : H' = upd H D o) : upd H' D u = upd H D u := by rw [e]; exact upd_upd
abbrev s_pot : Stmt := (top 36)
theorem sc_pot : FnScope ["_law_script", "_law_cells", "_law_item", "_law_greats", "_law_smalls"] ["_law_script"] (defScope s_pot) := ⟨rfl, rfl, rfl, by decide +kernel, rfl, by decide +kernel, by decide +kernel⟩
theorem c_pot {P w K mg base} (B : Bt mg) (D : DefAt K mg "_law_pot" s_pot) : Cal P w K mg base "_law_pot" 1 ["_law_script"] (spPot K) := by
  refine cal_of D sc_pot (fun _ _ _ _ _ _ us hl => match us, hl with | [_], _ => rfl) (fun vs H Q E h => ?_) (fun f cdv A outer st0 H vs Q E hr h => ?_)
  · obtain ⟨a, ns, rfl, _⟩ := h
    rfl
  · obtain ⟨a, ns, rfl, hS, hlen, k⟩ := h
    refine ⟨_, (pss_cons (ps_setLc (i := 1) (own := [("_law_item", 2)]) (g := (gName 2)) (tt := tYes) rfl sc_pot.nd rfl rfl (sw_true rfl rfl rfl (by decide +kernel)) (pi_list (pe_slice sl_list (pv 0) po_none (po_some pe_int))) (blkOk_by (own := [("_law_item", 2)]) (N := ["_law_script", "_law_cells", "_law_item", "_law_greats", "_law_smalls"]) (sc := defScope s_pot) (by decide +kernel)) (fun _ _ _ _ _ => (pg_name (i := 2) sc_pot.nd rfl (by first | exact Or.inl rfl | exact Or.inr rfl))) (fun _ _ _ _ _ => pts_nil) (fun _ _ _ _ _ => (pe_callTy call_int1 (by rfl) B.b_int (by decide +kernel) (pa_cons (pv 2) pa_nil))))
      (pss_cons (ps_setLc (i := 3) (own := [("_law_item", 2)]) (g := (gName 2)) rfl sc_pot.nd rfl rfl (sw_true rfl rfl rfl (by decide +kernel)) (pi_list (pv 1)) (blkOk_by (own := [("_law_item", 2)]) (N := ["_law_script", "_law_cells", "_law_item", "_law_greats", "_law_smalls"]) (sc := defScope s_pot) (by decide +kernel)) (fun _ _ _ _ _ => (pg_name (i := 2) sc_pot.nd rfl (by first | exact Or.inl rfl | exact Or.inr rfl))) (fun _ _ _ _ _ => (pts_one (pt_cmpR op_ge (pe_callB call_abs (by rfl) B.b_abs (by decide +kernel) (pa_cons (pv 2) pa_nil)) (pe_op op_pow pe_int pe_int) (nomark _)))) (fun _ _ _ _ _ => (pe_callB call_abs (by rfl) B.b_abs (by decide +kernel) (pa_cons (pv 2) pa_nil))))
      (pss_cons (ps_set (i := 4) sc_pot.nd rfl (by first | exact Or.inl rfl | exact Or.inr rfl) (pe_op op_cat (pe_lc (own := [("_law_item", 2)]) (g := (gName 2)) rfl sc_pot.nd (pi_list (pv 1)) (blkOk_by (own := [("_law_item", 2)]) (N := ["_law_script", "_law_cells", "_law_item", "_law_greats", "_law_smalls"]) (sc := defScope s_pot) (by decide +kernel)) (fun _ _ _ _ _ => (pg_name (i := 2) sc_pot.nd rfl (by first | exact Or.inl rfl | exact Or.inr rfl))) (fun _ _ _ _ _ => (pts_one (pt_cmpR op_lt (pe_callB call_abs (by rfl) B.b_abs (by decide +kernel) (pa_cons (pv 2) pa_nil)) (pe_op op_pow pe_int pe_int) (nomark _)))) (fun _ _ _ _ _ => (pe_op op_mod (pe_callTy call_int1 (by rfl) B.b_int (by decide +kernel) (pa_cons (pv 2) pa_nil)) pe_int))) (pe_lst (pa_cons (pe_op op_add (pe_callB call_len_seq (by rfl) B.b_len (by decide +kernel) (pa_cons (pv 1) pa_nil)) pe_int) pa_nil))))
      (pss_one (ps_ret (pe_lst (pa_cons (pv 3) (pa_cons (pv 4) (pa_cons pe_int (pa_cons (pe_op op_mod (pe_callTy call_int1 (by rfl) B.b_int (by decide +kernel) (pa_cons (pe_callB (cr_sum rfl) (by rfl) B.b_sum (by decide +kernel) (pa_cons (pv 4) pa_nil)) pa_nil)) pe_int) pa_nil)))))))))), ?_⟩
    refine ⟨_, rfl, _, rfl, a, _, rfl, hS, fun p0 n0 => ?_⟩
    rw [cut63 hlen]
    have S0 : Same H (upd H p0 (.lst (ns.map V.int))) := same_upd n0
    have L0 : upd H p0 (.lst (ns.map V.int)) p0 = some (.lst (ns.map V.int)) := upd_same
    generalize upd H p0 (.lst (ns.map V.int)) = H0 at *
    refine ⟨p0, rfl, ⟨_, SqL.of L0⟩, fun D1 nD1 => lc_list (K := K) (a := p0) (xs := ns.map V.int) (fun i H' => ∃ acc : List Int, acc.length ≤ i ∧ H' = upd H0 D1 (.lst (acc.map V.int)))
      ⟨[], Nat.le_refl _, rfl⟩ (fun i H' _ ⟨_, _, e⟩ => SqL.of (by rw [e, upd_ne (ne_of_none L0 nD1)]; exact L0)) ?_ ?_⟩
    · rintro i y H' hi ⟨acc, hl, e⟩
      obtain ⟨z, hz, rfl⟩ := map_get hi
      have hi' := (List.getElem?_eq_some_iff.mp hz).1
      refine ⟨rfl, _, rfl, .inl ⟨_, rfl, ?_⟩⟩
      refine ⟨acc.map V.int, by rw [e, upd_same], by rw [List.length_map]; exact small_lt (Nat.le_trans hl (Nat.le_of_lt (Nat.lt_of_lt_of_le hi' hlen))) (by decide), acc ++ [z], by simp; omega, ?_⟩
      rw [upd_over e, List.map_append]
      rfl
    · rintro H' ⟨cs, hcl, e⟩
      rw [List.length_map] at hcl
      have S1 : Same H H' := S0.trans (by rw [e]; exact same_upd nD1)
      have L1 : H' D1 = some (.lst (cs.map V.int)) := by rw [e, upd_same]
      clear e
      refine ⟨_, rfl, D1, rfl, ⟨_, SqL.of L1⟩, fun D2 nD2 => lc_list (K := K) (a := D1) (xs := cs.map V.int) (fun i H2 => ∃ acc : List Int, acc.length ≤ i ∧ H2 = upd H' D2 (.lst (acc.map V.int)))
        ⟨[], Nat.le_refl _, rfl⟩ (fun i H2 _ ⟨_, _, e⟩ => SqL.of (by rw [e, upd_ne (ne_of_none L1 nD2)]; exact L1)) ?_ ?_⟩
      · rintro i y H2 hi ⟨acc, hl, e⟩
        obtain ⟨z, hz, rfl⟩ := map_get hi
        have hi' := (List.getElem?_eq_some_iff.mp hz).1
        refine ⟨rfl, ?_⟩
        refine ⟨_, rfl, _, rfl, _, _, rfl, rfl, ⟨by decide, by decide, by decide⟩, _, _, rfl, rfl, _, rfl, ?_⟩
        refine ite2 (fun _ => ?_) (fun _ => ?_)
        · refine ⟨_, rfl, _, rfl, ?_⟩
          refine ⟨acc.map V.int, by rw [e, upd_same], by rw [List.length_map]; exact small_lt (m := 63) (by omega) (by decide), acc ++ [if z < 0 then -z else z], by simp; omega, ?_⟩
          rw [upd_over e, List.map_append]
          rfl
        · exact ⟨acc, by omega, e⟩
      · rintro H2 ⟨gs, hgl, e⟩
        have S2 : Same H H2 := S1.trans (by rw [e]; exact same_upd nD2)
        have L12 : H2 D1 = some (.lst (cs.map V.int)) := by rw [e, upd_ne (ne_of_none L1 nD2)]; exact L1
        have L2' : H2 D2 = some (.lst (gs.map V.int)) := by rw [e, upd_same]
        have fD2 : H D2 = none := S1.free nD2
        clear e
        refine ⟨_, rfl, D1, rfl, ⟨_, SqL.of L12⟩, fun D3 nD3 => lc_list (K := K) (a := D1) (xs := cs.map V.int) (fun i H3 => ∃ acc : List Int, acc.length ≤ i ∧ H3 = upd H2 D3 (.lst (acc.map V.int)))
          ⟨[], Nat.le_refl _, rfl⟩ (fun i H3 _ ⟨_, _, e⟩ => SqL.of (by rw [e, upd_ne (ne_of_none L12 nD3)]; exact L12)) ?_ ?_⟩
        · rintro i y H3 hi ⟨acc, hl, e⟩
          obtain ⟨z, hz, rfl⟩ := map_get hi
          have hi' := (List.getElem?_eq_some_iff.mp hz).1
          refine ⟨rfl, ?_⟩
          refine ⟨_, rfl, _, rfl, _, _, rfl, rfl, ⟨by decide, by decide, by decide⟩, _, _, rfl, rfl, _, rfl, ?_⟩
          refine ite2 (fun _ => ?_) (fun _ => ?_)
          · refine ⟨_, rfl, .inl ⟨_, rfl, _, _, rfl, rfl, (show (0 : Int) < 1000000007 by decide), ?_⟩⟩
            refine ⟨acc.map V.int, by rw [e, upd_same], by rw [List.length_map]; exact small_lt (m := 63) (by omega) (by decide), acc ++ [z % 1000000007], by simp; omega, ?_⟩
            rw [upd_over e, List.map_append]
            rfl
          · exact ⟨acc, by omega, e⟩
        · rintro H3 ⟨ss, hsl, e⟩
          rw [List.length_map] at hsl
          have S3 : Same H2 H3 := by rw [e]; exact same_upd nD3
          have L3 : H3 D3 = some (.lst (ss.map V.int)) := by rw [e, upd_same]
          clear e
          -- + [len(cells) + 1]
          refine ⟨_, rfl, _, _, rfl, .inl (SqL.of (S3 _ _ L12)), _, _, rfl, rfl, (by show 1 ≤ sizeLine; decide), fun p4 n4 => ?_⟩
          have S4 : Same H3 (upd H3 p4 (.lst [V.int (((cs.map V.int).length : Nat) + 1)])) := same_upd n4
          have L4 : upd H3 p4 (.lst [V.int (((cs.map V.int).length : Nat) + 1)]) p4 = some (.lst [V.int (((cs.map V.int).length : Nat) + 1)]) := upd_same
          refine ⟨D3, p4, _, _, rfl, rfl, S4 _ _ L3, L4, by rw [List.length_map, sizeLine_eq]; simp; omega, fun p5 n5 => ?_⟩
          generalize upd H3 p4 (.lst [V.int (((cs.map V.int).length : Nat) + 1)]) = H4 at *
          have S5 : Same H4 (upd H4 p5 (.lst ((ss ++ [((cs.map V.int).length : Int) + 1]).map V.int))) := same_upd n5
          have L5 : upd H4 p5 (.lst ((ss ++ [((cs.map V.int).length : Int) + 1]).map V.int)) p5 = some (.lst ((ss ++ [((cs.map V.int).length : Int) + 1]).map V.int)) := upd_same
          have e5 : (ss.map V.int ++ [V.int (((cs.map V.int).length : Nat) + 1)]) = (ss ++ [((cs.map V.int).length : Int) + 1]).map V.int := by rw [List.map_append]; rfl
          rw [e5]
          generalize hss : ss ++ [((cs.map V.int).length : Int) + 1] = s5 at *
          have hs5 : 0 < s5.length := by rw [← hss]; simp
          generalize upd H4 p5 (.lst (s5.map V.int)) = H5 at *
          -- return [greats, smalls, 0, int(sum(smalls)) % 999983]
          refine ⟨_, rfl, _, rfl, _, rfl, _, s5, rfl, SqL.of L5, .inl ⟨_, rfl, _, _, rfl, rfl, (show (0 : Int) < 999983 by decide), (by show 4 ≤ sizeLine; decide), fun p6 n6 => ?_⟩⟩
          have S6 : Same H5 (upd H5 p6 (.lst [.ref D2, .ref p5, .int 0, .int (s5.sum % 999983)])) := same_upd n6
          have S25 : Same H2 H5 := (S3.trans S4).trans S5
          have L25 := S25 _ _ L2'
          have f5 : H p5 = none := ((S2.trans S3).trans S4).free n5
          have f6 : H p6 = none := (S2.trans S25).free n6
          refine k _ p6 D2 p5 ⟨⟨gs, s5, 0, s5.sum % 999983, upd_same, S6 _ _ L25, S6 _ _ L5, hs5⟩, ?_, ?_, ?_⟩ ((S2.trans S25).trans S6) f6 fD2 f5
          · exact (ne_of_none L25 n6).symm
          · exact (ne_of_none L5 n6).symm
          · exact ne_of_none ((S3.trans S4) _ _ L2') n5
end Kk

namespace Wd
open PySem
/-! ### the name with a number -/
def stp (s : Nat × Nm) : Nat × Nm := if 0 < s.1 then ((s.1 - 1) / 26, (97 + (s.1 - 1) % 26) :: s.2) else s
def itr : Nat → Nat × Nm → Nat × Nm
  | 0, s => s
  | k + 1, s => stp (itr k s)
def lett (n : Nat) : Nm := (itr 9 (n + 1, [])).2
def val : Nm → Nat
  | [] => 0
  | c :: l => (c - 96) * 26 ^ l.length + val l
def bd : Nat → Nat
  | 0 => 0
  | k + 1 => 26 * (bd k + 1)
structure LI (n i : Nat) (s : Nat × Nm) : Prop where
  v : val s.2 + s.1 * 26 ^ s.2.length = n
  l : s.2.length ≤ i
  c : ∀ x ∈ s.2, 97 ≤ x ∧ x ≤ 122
theorem LI.start (n : Nat) : LI n 0 (n, []) := ⟨by simp [val], Nat.le_refl _, by simp⟩
theorem LI.step {n i : Nat} {s : Nat × Nm} (h : LI n i s) : LI n (i + 1) (stp s) := by
  unfold stp
  split
  · rename_i hp
    refine ⟨?_, by have := h.l; simp; omega, ?_⟩
    · have hv := h.v
      simp only [val, List.length_cons, Nat.pow_succ]
      have e1 : 97 + (s.1 - 1) % 26 - 96 = (s.1 - 1) % 26 + 1 := by omega
      rw [e1]
      have e2 : (s.1 - 1) / 26 * (26 ^ s.2.length * 26) = (26 * ((s.1 - 1) / 26)) * 26 ^ s.2.length := by
        rw [Nat.mul_comm (26 ^ s.2.length) 26, ← Nat.mul_assoc, Nat.mul_comm ((s.1 - 1) / 26) 26]
      rw [e2]
      have e3 : ((s.1 - 1) % 26 + 1) * 26 ^ s.2.length + val s.2 + 26 * ((s.1 - 1) / 26) * 26 ^ s.2.length = val s.2 + ((s.1 - 1) % 26 + 1 + 26 * ((s.1 - 1) / 26)) * 26 ^ s.2.length := by
        rw [Nat.add_mul ((s.1 - 1) % 26 + 1)]; omega
      rw [e3]
      have e4 : (s.1 - 1) % 26 + 1 + 26 * ((s.1 - 1) / 26) = s.1 := by
        have := Nat.div_add_mod (s.1 - 1) 26
        omega
      rw [e4]; exact hv
    · intro x hx
      rcases List.mem_cons.mp hx with rfl | hx
      · have := Nat.mod_lt (s.1 - 1) (show 26 > 0 by decide); omega
      · exact h.c x hx
  · exact ⟨h.v, by have := h.l; omega, h.c⟩
theorem LI.itr (n : Nat) : ∀ i, LI n i (itr i (n, []))
  | 0 => LI.start n
  | i + 1 => (LI.itr n i).step
theorem itr_bd {n k : Nat} (h : n ≤ bd k) : ∀ i, i ≤ k → (itr i (n, [])).1 ≤ bd (k - i)
  | 0, _ => h
  | i + 1, hi => by
    have ih := itr_bd h i (by omega)
    have e : k - i = (k - (i + 1)) + 1 := by omega
    rw [e] at ih
    simp only [bd] at ih
    simp only [Wd.itr, stp]
    split
    · show ((itr i (n, [])).1 - 1) / 26 ≤ _
      omega
    · omega
theorem itr_done {n i : Nat} (h : (itr i (n, [])).1 = 0) : itr (i + 1) (n, []) = itr i (n, []) := by
  simp only [Wd.itr, stp]
  rw [h]; rfl
theorem lett_itr {n : Nat} (h : n + 1 ≤ 217180147158) : lett n = (itr 8 (n + 1, [])).2 ∧ (itr 8 (n + 1, [])).1 = 0 := by
  have b : bd 8 = 217180147158 := by decide
  have z := itr_bd (n := n + 1) (k := 8) (by rw [b]; exact h) 8 (Nat.le_refl _)
  have z0 : (itr 8 (n + 1, [])).1 = 0 := Nat.le_zero.mp z
  refine ⟨?_, z0⟩
  unfold lett
  rw [itr_done z0]
theorem lett_val {n : Nat} (h : n + 1 ≤ 217180147158) : val (lett n) = n + 1 := by
  obtain ⟨e, z⟩ := lett_itr h
  have v := (LI.itr (n + 1) 8).v
  rw [z, Nat.zero_mul, Nat.add_zero] at v
  rw [e]; exact v
theorem lett_ok {n : Nat} (h : n + 1 ≤ 217180147158) : nmOk (lett n) := by
  obtain ⟨e, z⟩ := lett_itr h
  have L := LI.itr (n + 1) 8
  refine ⟨?_, by rw [e]; exact L.l, by rw [e]; exact L.c⟩
  have v := lett_val h
  cases q : lett n with
  | nil => rw [q] at v; simp [val] at v
  | cons a l => simp
theorem lett_inj {n m : Nat} (h : n + 1 ≤ 217180147158) (g : m + 1 ≤ 217180147158) (e : lett n = lett m) : n = m := by
  have a := lett_val h
  have b := lett_val g
  rw [e] at a
  omega
theorem nodup_len {α : Type} [DecidableEq α] : ∀ {a b : List α}, a.Nodup → (∀ x ∈ a, x ∈ b) → a.length ≤ b.length
  | [], _, _, _ => Nat.zero_le _
  | x :: a, b, nd, h => by
    have hx := h x (List.mem_cons_self ..)
    have nd' := List.nodup_cons.mp nd
    have ih := nodup_len (a := a) (b := b.erase x) nd'.2 (fun y hy => by
      refine (List.mem_erase_of_ne ?_).mpr (h y (List.mem_cons_of_mem _ hy))
      rintro rfl
      exact nd'.1 hy)
    have := List.length_erase_of_mem hx
    have hp : 0 < b.length := List.length_pos_of_mem hx
    simp only [List.length_cons]
    omega
theorem pigeon {α : Type} [DecidableEq α] {l : List α} {f : Nat → α} (inj : ∀ i j, i ≤ l.length → j ≤ l.length → f i = f j → i = j) (h : ∀ i, i ≤ l.length → f i ∈ l) : False := by
  have nd : ((List.range (l.length + 1)).map f).Nodup := by
    refine List.pairwise_map.mpr ?_
    refine List.Pairwise.imp_of_mem ?_ List.nodup_range
    intro a b ha hb hne e
    exact hne (inj a b (by have := List.mem_range.mp ha; omega) (by have := List.mem_range.mp hb; omega) e)
  have := nodup_len nd (b := l) (fun x hx => by
    obtain ⟨i, hi, rfl⟩ := List.mem_map.mp hx
    exact h i (by have := List.mem_range.mp hi; omega))
  simp at this
  omega
theorem alpha (r : Nat) (h : r < 26) : (TL.tl (Str.ofString "abcdefghijklmnopqrstuvwxyz"))[r]? = some (97 + r) := by
  rw [TL.tl_ofString]
  revert r
  decide +kernel
end Wd

set_option maxHeartbeats 2000000
namespace Kk
open PySem PySem.Spec PyProof.Rows L2 Wd
abbrev sv (n : Nm) : V := .str (str n)
abbrev wv (w : W) : V := .str (enc w)
theorem str_cons (c : Nat) (n : Nm) : (⟨#[c]⟩ : Str) ++ str n = str (c :: n) := TL.ext_tl (by rw [TL.tl_append]; rfl)
theorem len_str (n : Nm) : (str n).length = n.length := by rw [TL.len_tl]; rfl
theorem flat_sv (us : List Nm) : (us.map sv).all flatV = true := by
  rw [List.all_eq_true]
  intro x hx
  obtain ⟨n, _, rfl⟩ := List.mem_map.mp hx
  rfl
theorem eq_sv (a b : Nm) : eqV (sv a) (sv b) = decide (a = b) := by
  show (str a == str b) = _
  by_cases h : a = b
  · subst h; simp
  · have h' : ¬ str a = str b := fun e => h (str_inj e)
    rw [decide_eq_false h]; exact beq_eq_false_iff_ne.mpr h'
theorem in_sv (n : Nm) (us : List Nm) : inV (sv n) (us.map sv) = decide (n ∈ us) := by
  unfold inV
  induction us with
  | nil => simp
  | cons a us ih =>
    rw [List.map_cons, List.any_cons, ih, eq_sv]
    by_cases h : a = n
    · subst h; simp
    · by_cases g : n ∈ us
      · simp [h, g]
      · simp [h, g, Ne.symm h]
def spLetters : Sp := fun vs H Q _ => ∃ n : Nat, vs = [.int (n : Int)] ∧ n + 1 ≤ 217180147158 ∧ Q (sv (lett n)) H
def spFresh : Sp := fun vs H Q _ => ∃ (p g s u : Addr) (us : List Nm), vs = [.ref p, .ref u] ∧ PotAt H p g s ∧ H u = some (.lst (us.map sv)) ∧ us.length ≤ 1100 ∧ u ≠ p ∧ u ≠ g ∧
  ∀ (H' : Hp) (n : Nm), nmOk n → n ∉ us → PotAt H' p g s → H' u = some (.lst ((us ++ [n]).map sv)) → (∀ b o, H b = some o → b ≠ p → b ≠ g → b ≠ u → H' b = some o) → Q (sv n) H'
theorem PotAt.su {H : Hp} {p g s u : Addr} (h : PotAt H p g s) {us : List Nm} (hu : H u = some (.lst (us.map sv))) : u ≠ s := by
  obtain ⟨⟨G, S, t, r, h1, h2, h3, h4⟩, _, _, _⟩ := h
  intro e
  rw [e, h3] at hu
  have := HO.lst.inj (Option.some.inj hu)
  cases S with
  | nil => simp at h4
  | cons a S => cases us <;> simp at this
theorem PotAt.wr {H : Hp} {p g s u : Addr} {o : HO} (h : PotAt H p g s) (h1 : u ≠ p) (h2 : u ≠ g) (h3 : u ≠ s) : PotAt (upd H u o) p g s :=
  h.off fun b x e hb => by
    rcases hb with rfl | rfl | rfl
    · rw [upd_ne h1.symm]; exact e
    · rw [upd_ne h2.symm]; exact e
    · rw [upd_ne h3.symm]; exact e
end Kk

namespace Wd
open PySem
/-! ### words that are drawn -/
def Fits (e : List Nm × Nat) (t : T) : Prop := t.sc ∧ t.aps = e.2 ∧ t.lv.Perm (e.1 ++ t.tks)
inductive Mt : List (List Nm × Nat) → List T → Prop where
  | nil : Mt [] []
  | cons {e S t ts} : Fits e t → Mt S ts → Mt (e :: S) (t :: ts)
def Pre (e0 : List Nm × Nat) (F : List W) (S : List (List Nm × Nat)) : Prop := ∀ ts, Mt S ts → ∃ t, t.ws = F ++ (ts.map T.ws).flatten ∧ Fits e0 t
theorem Pre.start (e : List Nm × Nat) : Pre e [] [e] := fun ts h => by
  cases h with
  | cons h1 h2 =>
    cases h2
    exact ⟨_, by simp, h1⟩
theorem Pre.nm {e0 F S} {n : Nm} (h : Pre e0 F (([n], 0) :: S)) : Pre e0 (F ++ [.nm n]) S := fun ts m => by
  obtain ⟨t, h1, h2⟩ := h (T.nm n :: ts) (.cons ⟨trivial, rfl, List.Perm.refl _⟩ m)
  exact ⟨t, by rw [h1]; simp [T.ws], h2⟩
theorem Pre.tk {e0 F S} {n : Nm} {row : List Nm} {m : Nat} (h : Pre e0 F ((row, m) :: S)) : Pre e0 (F ++ [.tk n]) ((row ++ [n], m) :: S) := fun ts mt => by
  cases mt with
  | @cons _ _ b ts h1 h2 =>
    obtain ⟨s, a, p⟩ := h1
    obtain ⟨t, h3, h4⟩ := h (T.tk n b :: ts) (.cons ⟨⟨p.mem_iff.mpr (by simp), s⟩, a, by
      show b.lv.Perm (row ++ (n :: b.tks))
      have e : row ++ [n] ++ b.tks = row ++ (n :: b.tks) := by simp
      rw [← e]; exact p⟩ h2)
    exact ⟨t, by rw [h3]; simp [T.ws], h4⟩
theorem Pre.ap {e0 F S} {row r1 r2 : List Nm} {m m1 m2 : Nat} (h : Pre e0 F ((row, m) :: S)) (hr : (r1 ++ r2).Perm row) (hm : m1 + m2 + 1 = m) : Pre e0 (F ++ [.ap]) ((r1, m1) :: (r2, m2) :: S) := fun ts mt => by
  cases mt with
  | @cons _ _ f ts h1 h2 =>
    cases h2 with
    | @cons _ _ a ts h2 h3 =>
      obtain ⟨s1, a1, p1⟩ := h1
      obtain ⟨s2, a2, p2⟩ := h2
      obtain ⟨t, h4, h5⟩ := h (T.ap f a :: ts) (.cons ⟨⟨s1, s2⟩, by show f.aps + a.aps + 1 = m; rw [a1, a2]; exact hm, by
        show (f.lv ++ a.lv).Perm (row ++ (f.tks ++ a.tks))
        refine (p1.append p2).trans ?_
        show ((r1 ++ f.tks) ++ (r2 ++ a.tks)).Perm (row ++ (f.tks ++ a.tks))
        refine List.Perm.trans ?_ (hr.append_right _)
        rw [List.append_assoc, List.append_assoc]
        refine List.Perm.append_left _ ?_
        rw [← List.append_assoc, ← List.append_assoc]
        exact List.perm_append_comm.append_right _⟩ h3)
      exact ⟨t, by rw [h4]; simp [T.ws], h5⟩
def cost (e : List Nm × Nat) : Nat := 3 * e.2 + 2 - e.1.length
def costs : List (List Nm × Nat) → Nat
  | [] => 0
  | e :: S => cost e + costs S
def takesOf (F : List W) : List Nm := F.filterMap (fun w => match w with | .tk n => some n | _ => none)
theorem takesOf_app (F G : List W) : takesOf (F ++ G) = takesOf F ++ takesOf G := by simp [takesOf]
theorem takesOf_len (F : List W) : (takesOf F).length ≤ F.length := List.length_filterMap_le _ _
/-- what is drawn: names the open names, g the givens -/
structure Gen (names : List Nm) (g : Nat) (ws : List W) : Prop where
  tree : ∃ t : T, t.ws = ws ∧ Fits (names, g) t
  nd : (names ++ takesOf ws).Nodup
  ok : ∀ n ∈ names ++ takesOf ws, nmOk n
theorem takesOf_tree (t : T) : takesOf t.ws = t.tks := (T.tks_ws t).symm
theorem mem_tks_ws {t : T} {n : Nm} (h : W.tk n ∈ t.ws) : n ∈ t.tks := by
  rw [T.tks_ws]
  exact List.mem_filterMap.mpr ⟨_, h, rfl⟩
theorem mem_lv_ws {t : T} {n : Nm} (h : W.nm n ∈ t.ws) : n ∈ t.lv := by
  rw [T.lv_ws]
  exact List.mem_filterMap.mpr ⟨_, h, rfl⟩
theorem Gen.vd {names : List Nm} {g : Nat} {ws : List W} (h : Gen names g ws) : Vd ws := by
  obtain ⟨⟨t, rfl, s, a, p⟩, nd, ok⟩ := h
  rw [takesOf_tree] at nd ok
  refine ⟨⟨t, rfl, s, p.nodup_iff.mpr nd, (List.nodup_append.mp nd).2.1⟩, fun w hw => ?_⟩
  cases w with
  | ap => trivial
  | tk n => exact ok n (List.mem_append_right _ (mem_tks_ws hw))
  | nm n => exact ok n (p.mem_iff.mp (mem_lv_ws hw))
theorem Gen.len {names : List Nm} {g : Nat} {ws : List W} (h : Gen names g ws) : ws.length + names.length = 3 * g + 2 := by
  obtain ⟨⟨t, rfl, s, a, p⟩, nd, ok⟩ := h
  have l1 := p.length_eq
  have l2 := T.lv_aps t
  have l3 := T.len_ws t
  simp at l1 a
  omega
theorem swap_perm {α : Type} (l : List α) (i j : Nat) (hi : i < l.length) (hj : j < l.length) : ((l.set i l[j]).set j l[i]).Perm l := List.set_set_perm hi hj
end Wd

set_option maxHeartbeats 2000000
namespace Kk
open PySem PySem.Spec PyProof.Rows L2 Wd
def spMixed : Sp := fun vs H Q _ => ∃ (p g s r : Addr) (xs : List V), vs = [.ref p, .ref r] ∧ PotAt H p g s ∧ H r = some (.lst xs) ∧ xs.length ≤ 2000 ∧ r ≠ p ∧ r ≠ g ∧
  ∀ (H' : Hp) (q : Addr) (ys : List V), ys.Perm xs → PotAt H' p g s → H q = none → H' q = some (.lst ys) → Keep p g H H' → Q (.ref q) H'
def spMixedN : Sp := fun vs H Q _ => ∃ (p g s r : Addr) (xs : List Nm), vs = [.ref p, .ref r] ∧ PotAt H p g s ∧ H r = some (.lst (xs.map sv)) ∧ xs.length ≤ 2000 ∧ r ≠ p ∧ r ≠ g ∧
  ∀ (H' : Hp) (q : Addr) (ys : List Nm), ys.Perm xs → PotAt H' p g s → H q = none → H' q = some (.lst (ys.map sv)) → Keep p g H H' → Q (.ref q) H'
def svInv : V → Nm
  | .str z => TL.tl z
  | _ => []
theorem sv_back (xs : List Nm) : (xs.map sv).map svInv = xs := by
  rw [List.map_map]
  exact (List.map_congr_left (fun n _ => rfl)).trans (List.map_id _)
theorem perm_sv {ys : List V} {xs : List Nm} (h : ys.Perm (xs.map sv)) : ∃ ns : List Nm, ys = ns.map sv ∧ ns.Perm xs := by
  refine ⟨ys.map svInv, ?_, by have := h.map svInv; rwa [sv_back] at this⟩
  rw [List.map_map]
  refine ((List.map_congr_left fun y hy => ?_).trans (List.map_id _)).symm
  obtain ⟨n, _, rfl⟩ := List.mem_map.mp (h.mem_iff.mp hy)
  rfl
end Kk

namespace Wd
open PySem L2
def isTk : W → Bool
  | .tk _ => true
  | _ => false
def isAp : W → Bool
  | .ap => true
  | _ => false
def isNm : W → Bool
  | .nm _ => true
  | _ => false
theorem starts_pre {x y : Str} (hy : TL.tl y ≠ []) : Txt.startswith x y = TL.pre (TL.tl y) (TL.tl x) := by
  have h := TL.at_iff (x := x) hy 0
  rw [List.drop_zero] at h
  have e : Txt.startswith x y = true ↔ PySem.StrLaws.At x y x.length 0 := by
    unfold Txt.startswith PySem.StrLaws.At
    rw [Bool.and_eq_true, decide_eq_true_eq]
  cases h1 : Txt.startswith x y with
  | true => exact (h.mp (e.mp h1)).symm
  | false =>
    cases h2 : TL.pre (TL.tl y) (TL.tl x) with
    | false => rfl
    | true => rw [e.mpr (h.mpr h2)] at h1; cases h1
theorem slash : TL.tl (Str.ofString "/") = [47] := by rw [TL.tl_ofString]; rfl
theorem at_sign : TL.tl (Str.ofString "@") = [64] := by rw [TL.tl_ofString]; rfl
theorem starts_tk {w : W} (h : wOk w) : Txt.startswith (enc w) "/" = isTk w := by
  rw [starts_pre (by rw [slash]; simp), slash, tl_enc]
  cases w with
  | ap => rfl
  | tk n => simp [code, TL.pre, isTk]
  | nm n =>
    cases n with
    | nil => rfl
    | cons c r =>
      have := h.2.2 c (by simp)
      have hc : c ≠ 47 := by omega
      simp [code, TL.pre, isTk, hc]
theorem cut1 (n : Nm) : cutS (enc (.tk n)) (some 1) none = str n := by
  apply TL.ext_tl
  unfold cutS
  rw [TL.tl_mk]
  have e1 : HT.sIx (enc (.tk n)).length 0 (some 1) = min 1 (enc (.tk n)).length := HT.sIx_nat _ _ 1
  have e2 : (enc (.tk n)).length = n.length + 1 := rfl
  rw [e1, e2, HT.sIx_none, Nat.min_eq_left (by omega)]
  show ((47 :: n).drop 1).take _ = n
  simp
theorem head1 (w : W) : cutS (enc w) none (some 1) = str ((code w).take 1) := by
  apply TL.ext_tl
  unfold cutS
  rw [TL.tl_mk]
  have e1 : HT.sIx (enc w).length (enc w).length (some 1) = min 1 (enc w).length := HT.sIx_nat _ _ 1
  rw [e1, HT.sIx_none]
  show ((code w).drop 0).take (min 1 (code w).length - 0) = (code w).take 1
  rw [List.drop_zero, Nat.sub_zero]
  cases code w <;> simp
theorem head_tk {w : W} (h : wOk w) : decide (V.str (cutS (enc w) none (some 1)) = V.str "/") = isTk w := by
  rw [head1]
  cases w with
  | ap =>
    refine decide_eq_false fun e => ?_
    have := congrArg TL.tl (V.str.inj e)
    rw [slash] at this
    simp [code, tl_str] at this
  | tk n =>
    refine decide_eq_true (congrArg V.str (TL.ext_tl ?_))
    rw [slash]; rfl
  | nm n =>
    refine decide_eq_false fun e => ?_
    have := congrArg TL.tl (V.str.inj e)
    rw [slash, tl_str] at this
    cases n with
    | nil => simp [code] at this
    | cons c r =>
      have := h.2.2 c (by simp)
      simp [code] at *
      omega
theorem is_ap {w : W} (h : wOk w) : decide (V.str (enc w) = V.str "@") = isAp w := by
  cases w with
  | ap =>
    refine decide_eq_true (congrArg V.str (TL.ext_tl ?_))
    rw [at_sign]; rfl
  | tk n =>
    refine decide_eq_false fun e => ?_
    have := congrArg TL.tl (V.str.inj e)
    rw [at_sign, tl_enc] at this
    simp [code] at this
  | nm n =>
    refine decide_eq_false fun e => ?_
    have := congrArg TL.tl (V.str.inj e)
    rw [at_sign, tl_enc] at this
    cases n with
    | nil => simp [code] at this
    | cons c r =>
      have := h.2.2 c (by simp)
      simp [code] at *
      omega
/-- what is_name tells -/
def nameB (z : Str) : Bool := decide (1 ≤ z.length) && (decide (z.length ≤ 8) && (TL.tl z).all fun c => decide (97 ≤ c ∧ c ≤ 122))
theorem nameB_ok {n : Nm} (h : nmOk n) : nameB (str n) = true := by
  unfold nameB
  have hl : (str n).length = n.length := by rw [TL.len_tl]; rfl
  rw [hl, decide_eq_true h.1, decide_eq_true h.2.1, tl_str]
  simp only [Bool.true_and, List.all_eq_true, decide_eq_true_eq]
  exact h.2.2
theorem nameB_tk (n : Nm) : nameB (enc (.tk n)) = false := by
  unfold nameB
  rw [tl_enc]
  simp [code]
theorem nameB_ap : nameB (enc .ap) = false := by
  unfold nameB
  rw [tl_enc]
  simp [code]
theorem letters (c : Nat) : decide (c ∈ (Str.ofString "abcdefghijklmnopqrstuvwxyz").cps.toList) = decide (97 ≤ c ∧ c ≤ 122) := by
  have e : (Str.ofString "abcdefghijklmnopqrstuvwxyz").cps.toList = (List.range 26).map (97 + ·) := by
    show TL.tl _ = _
    rw [TL.tl_ofString]; decide +kernel
  rw [e]
  by_cases h : 97 ≤ c ∧ c ≤ 122
  · rw [decide_eq_true h]
    refine decide_eq_true (List.mem_map.mpr ⟨c - 97, List.mem_range.mpr (by omega), by omega⟩)
  · rw [decide_eq_false h]
    refine decide_eq_false fun hm => ?_
    obtain ⟨k, hk, e⟩ := List.mem_map.mp hm
    have := List.mem_range.mp hk
    omega
end Wd

set_option maxHeartbeats 2000000
/-! letters, told by a while -/
namespace Kk
open PySem PySem.Spec PyProof.Rows L2 Wd
theorem itr_stay {n : Nat} : ∀ {i j : Nat}, i ≤ j → (itr i (n, [])).1 = 0 → itr j (n, []) = itr i (n, [])
  | i, j, h, hz => by
    induction h with
    | refl => rfl
    | @step m h ih => rw [itr_done (by rw [ih]; exact hz), ih]
abbrev s_letters : Stmt := (top 39)
theorem sc_letters : FnScope ["_law_number", "_law_found", "_law_left"] ["_law_number"] (defScope s_letters) := ⟨rfl, rfl, rfl, by decide +kernel, rfl, by decide +kernel, by decide +kernel⟩
theorem c_letters {P w K mg base} (B : Bt mg) (D : DefAt K mg "_law_letters" s_letters) : Cal P w K mg base "_law_letters" 1 ["_law_number"] spLetters := by
  refine cal_of D sc_letters (fun _ _ _ _ _ _ us hl => match us, hl with | [_], _ => rfl) (fun vs H Q E h => ?_) (fun f cdv A outer st0 H vs Q E hr h => ?_)
  · obtain ⟨n, rfl, _⟩ := h
    rfl
  · obtain ⟨n, rfl, hn, k⟩ := h
    refine ⟨_, (pss_cons (ps_set (i := 1) sc_letters.nd rfl (by first | exact Or.inl rfl | exact Or.inr rfl) pe_str)
      (pss_cons (ps_set (i := 2) sc_letters.nd rfl (by first | exact Or.inl rfl | exact Or.inr rfl) (pe_op op_add (pv 0) pe_int))
      (pss_cons (ps_while PassesOwn.never (pt_cmpR op_gt (pv 2) pe_int (nomark _)) (pss_cons (ps_set (i := 2) sc_letters.nd rfl (by first | exact Or.inl rfl | exact Or.inr rfl) (pe_op op_sub (pv 2) pe_int))
      (pss_cons (ps_set (i := 1) sc_letters.nd rfl (by first | exact Or.inl rfl | exact Or.inr rfl) (pe_op op_add_str (pe_ix ix_str pe_str (pe_op op_mod (pe_callTy call_int1 (by rfl) B.b_int (by decide +kernel) (pa_cons (pv 2) pa_nil)) pe_int) (fun _ _ => rfl)) (pv 1)))
      (pss_one (ps_set (i := 2) sc_letters.nd rfl (by first | exact Or.inl rfl | exact Or.inr rfl) (pe_op op_fdiv (pv 2) pe_int))))))
      (pss_one (ps_ret (pv 1)))))), ?_⟩
    refine ⟨_, rfl, _, _, rfl, rfl, fun m σ H' => H' = H ∧ ∃ i : Nat, i ≤ 8 ∧ m = 9 - i ∧ σ = [some (.int (n : Int)), some (sv (itr i (n + 1, [])).2), some (.int (((itr i (n + 1, [])).1 : Nat) : Int))], ⟨9, rfl, 0, by decide, rfl, rfl⟩, ?_⟩
    rintro m σ H' ⟨rfl, i, hi, rfl, rfl⟩
    have e8 := lett_itr hn
    refine ⟨_, rfl, _, _, rfl, rfl, _, rfl, ?_⟩
    refine ite2 (fun hc => ?_) (fun hc => ?_)
    · have hp : 0 < (itr i (n + 1, [])).1 := by have := of_decide_eq_true hc; omega
      have hi8 : i < 8 := by
        rcases Nat.lt_or_ge i 8 with h | h
        · exact h
        · have : i = 8 := by omega
          subst this
          rw [e8.2] at hp
          omega
      have L := LI.itr (n + 1) i
      have e : itr (i + 1) (n + 1, []) = stp (itr i (n + 1, [])) := rfl
      refine ⟨fun σ' H2 => H2 = H' ∧ σ' = [some (.int (n : Int)), some (sv (itr (i + 1) (n + 1, [])).2), some (.int (((itr (i + 1) (n + 1, [])).1 : Nat) : Int))], ?_, ?_⟩
      · rintro σ' H2 ⟨rfl, rfl⟩
        exact ⟨8 - i, by omega, rfl, i + 1, by omega, by omega, rfl⟩
      · rw [e]
        generalize itr i (n + 1, []) = s at *
        have e1 : stp s = ((s.1 - 1) / 26, (97 + (s.1 - 1) % 26) :: s.2) := if_pos hp
        have r1 : (s.1 - 1) % 26 < 26 := Nat.mod_lt _ (by decide)
        refine ⟨_, rfl, _, _, rfl, rfl, _, rfl, .inl ⟨_, rfl, _, _, rfl, rfl, (show (0 : Int) < 26 by decide), _, _, 97 + (s.1 - 1) % 26, rfl, rfl, ?_, ?_, ?_⟩⟩
        · rw [sizeLine_eq]; decide +kernel
        · refine atI_int (Int.emod_nonneg _ (by decide)) ?_
          have e2 : (((s.1 : Nat) : Int) - 1) % 26 = (((s.1 - 1) % 26 : Nat) : Int) := by omega
          rw [e2]
          exact alpha _ r1
        · refine ⟨_, rfl, _, _, rfl, rfl, ?_, ?_⟩
          · rw [len_str, sizeLine_eq]
            have := L.l
            show 1 + _ ≤ _
            omega
          · rw [str_cons]
            refine ⟨_, rfl, _, _, rfl, rfl, ⟨by decide, by decide⟩, rfl, ?_⟩
            rw [e1]
            have e3 : (((s.1 : Nat) : Int) - 1) / 26 = (((s.1 - 1) / 26 : Nat) : Int) := by omega
            show [some (V.int (n : Int)), some (sv _), some (V.int ((((s.1 : Nat) : Int) - 1) / 26))] = _
            rw [e3]
    · have hz : (itr i (n + 1, [])).1 = 0 := by
        have : ¬ 0 < (itr i (n + 1, [])).1 := fun hp => hc (decide_eq_true (by omega))
        omega
      refine ⟨_, rfl, ?_⟩
      rw [← itr_stay hi hz, ← e8.1]
      exact k
end Kk

set_option maxHeartbeats 2000000
/-! a word between a test, or an expression, and what follows -/
namespace Kk
open PySem PySem.Spec PyProof.Rows L2
section
variable {X : Cx} {e : Expr}
def tMidT (t : TT) : TT := fun σ H Q => ∃ Mid : Bool → Hp → Prop, t σ H Mid ∧ ∀ b H', Mid b H' → Q b H'
theorem pt_mid {t : TT} (h : PT X e t) : PT X e (tMidT t) := by
  refine ⟨fun pins s σ H Q I q => ?_⟩
  obtain ⟨Mid, q1, q2⟩ := q
  exact thn (h.run pins s σ H Mid I q1) fun b s1 ⟨H1, I1, q3⟩ => ⟨H1, I1, q2 _ _ q3⟩
def tMidE (t : TE) : TE := fun σ H Q => ∃ Mid : VK, t σ H Mid ∧ ∀ v H', Mid v H' → Q v H'
theorem pe_mid {t : TE} (h : PE X e t) : PE X e (tMidE t) := by
  refine ⟨fun pins s σ H Q I q => ?_⟩
  obtain ⟨Mid, q1, q2⟩ := q
  exact thn (h.run pins s σ H Mid I q1) fun v s1 ⟨x, H1, I1, r1, q3⟩ => ⟨x, H1, I1, r1, q2 _ _ q3⟩
end
theorem cutV_take {α : Type} {f : α → V} {l : List α} {j : Nat} (h : j ≤ l.length) : cutV (l.map f) none (some (j : Int)) = (l.take j).map f := by
  unfold cutV
  rw [HT.sIx_none, HT.sIx_nat, List.length_map, Nat.min_eq_left h, Nat.sub_zero, List.drop_zero, ← List.map_take]
theorem cutV_drop {α : Type} {f : α → V} {l : List α} {i : Nat} (h : i ≤ l.length) : cutV (l.map f) (some (i : Int)) none = (l.drop i).map f := by
  unfold cutV
  rw [HT.sIx_none, HT.sIx_nat, List.length_map, Nat.min_eq_left h, ← List.map_drop, ← List.map_take, List.take_of_length_le (by rw [List.length_drop]; omega)]
/-- all but p, g and u is as it was -/
def Ke (p g u : Addr) (H H' : Hp) : Prop := ∀ b o, H b = some o → b ≠ p → b ≠ g → b ≠ u → H' b = some o
theorem Ke.refl {p g u : Addr} (H : Hp) : Ke p g u H H := fun _ _ h _ _ _ => h
theorem Ke.trans {p g u : Addr} {H H1 H2 : Hp} (a : Ke p g u H H1) (b : Ke p g u H1 H2) : Ke p g u H H2 := fun c o h h1 h2 h3 => b c o (a c o h h1 h2 h3) h1 h2 h3
theorem Same.ke {p g u : Addr} {H H' : Hp} (a : Same H H') : Ke p g u H H' := fun b o h _ _ _ => a b o h
theorem Keep.ke {p g u : Addr} {H H' : Hp} (a : Keep p g H H') : Ke p g u H H' := fun b o h h1 h2 _ => a b o h h1 h2
theorem ke_upd {p g u : Addr} {H : Hp} {o : HO} : Ke p g u H (upd H u o) := fun b x e _ _ h3 => by
  rw [upd_ne h3]; exact e
end Kk

namespace PySem
open Sem (wp)
open AutoSeq1 (wpAny_loadPart')
set_option maxHeartbeats 1000000 in
theorem kk_meets_enum {v : Value} {o : Obj} {H : Heap → Prop} (B : Begins v o H) :
    Meets (Builtin.«enumerate.__new__» ⟨[.type "enumerate", v], []⟩) (fun _ R s => H s.heap ∧
      R (.ok (.ret (.ref (s.heap.push o).objs.size))) { s with heap := (s.heap.push o).push { cls := .type "enumerate", data := .fields #[.none, .bool false, .ref s.heap.objs.size, rawInt 0, .none, .none] } }) :=
  .of_wp fun prog w A R s h => by
    obtain ⟨hp, g, d, tk, os⟩ := s; obtain ⟨h1, h⟩ := h
    have hsub := sub_enumerate
    have q1 : ∀ {A' : Around} {E : Value → Shared → Prop} {Q : Value → Shared → Prop}, Q (.ref hp.objs.size) ⟨hp.push o, g, d, tk, os⟩ → wpAny (model prog w) A' (pyIter v) Q E ⟨hp, g, d, tk, os⟩ :=
      fun q => B.iter prog w _ _ ⟨hp, g, d, tk, os⟩ _ h1 q
    wp_walk using q1
    refine wpAny_stack_any fun st => wpAny_pure ?_
    split
    · rename_i c _ _ _ _ _
      cases (c == Value.type "enumerate")
      · wp_walk using q1
        exact ⟨_, rfl, h⟩
      · wp_walk using q1
        exact ⟨_, rfl, h⟩
    · wp_walk using q1
      exact ⟨_, rfl, h⟩
section
variable {prog : Program} {w : World} {A : Around} {E : Value → Shared → Prop} {s : Shared}
theorem kk_call_enum {v : Value} {o : Obj} {H : Heap → Prop} {Q : Value → Shared → Prop} (B : Begins v o H) (h1 : H s.heap)
    (h : ∀ h', IsEnum h' (s.heap.objs.size + 1) s.heap.objs.size 0 .none → h'.get? s.heap.objs.size = some o → h'.objs.size = s.heap.objs.size + 2 →
      (∀ b o, s.heap.get? b = some o → h'.get? b = some o) → Q (.ref (s.heap.objs.size + 1)) { s with heap := h' }) :
    wpAny (model prog w) A (call (.type "enumerate") [v]) Q E s := by
  refine callType_new F.called_enumerate (by decide) (F.typeCall_enumerate_1 _) (F.newCall_enumerate_1 _) (fun obj => F.args_object_init_2 obj _) F.entry_enumerate_new
    (kk_meets_enum B) ⟨h1, ?_⟩
  have hz : (s.heap.push o).objs.size = s.heap.objs.size + 1 := Heap.size_push ..
  show _ ∧ _
  rw [hz]
  have he : IsEnum ((s.heap.push o).push { cls := .type "enumerate", data := .fields #[.none, .bool false, .ref s.heap.objs.size, rawInt 0, .none, .none] }) (s.heap.objs.size + 1) s.heap.objs.size 0 .none := by
    have := Heap.get?_push_size (s.heap.push o) (o := { cls := .type "enumerate", data := .fields #[.none, .bool false, .ref s.heap.objs.size, rawInt 0, .none, .none] }) rfl
    rw [hz] at this; exact this
  refine ⟨⟨_, he, rfl⟩, h _ he (Heap.get?_push_of_some _ (Heap.get?_push_size _ B.free)) (by rw [Heap.size_push, hz]) fun b o x => Heap.get?_push_of_some _ (Heap.get?_push_of_some _ x)⟩
end
end PySem
namespace Kk
open PySem PySem.Spec PyProof.Rows L2
/-- the tuple at a, each item in a new pair -/
def IteT (K : PySem.W.Frag) (a : Addr) : It :=
  ⟨fun i H => ∃ (xs : List V) (x : V), SqT K H a xs ∧ xs[i]? = some x, fun i H v H' => ∃ T x, v = .ref T ∧ H T = none ∧ H' = upd H T (.tup [.int (i : Nat), x]) ∧ ∀ xs, SqT K H a xs → xs[i]? = some x, fun i H => ∃ xs : List V, SqT K H a xs ∧ xs.length ≤ i⟩
theorem turn_enumT {P : Program} {w : World} {K : PySem.W.Frag} {elts : List Expr} {kk : Nat} {tpos : Pos} (a e it : Addr) (hae : a ≠ e) (hai : a ≠ it) :
    Turn P w K (.Tuple elts kk tpos) (IteT K a) [e, it] e (fun i h => (∃ old, IsEnum h e it ((i : Nat) : Int) old) ∧ h.IsTupleIter it a i ∧ e ≠ it) where
  mem := by simp
  obj := fun i h st b hb => by
    obtain ⟨⟨old, he⟩, ⟨o, ho, hc, hd⟩, _⟩ := st
    have e' : b = e ∨ b = it := by simpa using hb
    rcases e' with z | z
    · rw [z]; exact ⟨_, he, fun v q => nomatch q⟩
    · rw [z]; exact ⟨o, ho, fun v q => by rw [hd] at q; cases q⟩
  keep := fun i h h' st k => let ⟨⟨old, he⟩, hi, hne⟩ := st; ⟨⟨old, k e (by simp) _ he⟩, hi.at fun o q => k it (by simp) o q, hne⟩
  item := by
    intro X hP hw hK hc i pins s σ H E I hf st hg
    subst hP hw hK
    obtain ⟨⟨old, he⟩, hit, hne⟩ := st
    obtain ⟨xs, x, hq, hx⟩ := hg
    obtain ⟨its, rv, p, hz⟩ := I.tuple hq
    obtain ⟨u, hu, ru⟩ := rv.get hx
    have hel : e < s.heap.objs.size := Heap.lt_size he
    have hil : it < s.heap.objs.size := by obtain ⟨_, q, _⟩ := hit; exact Heap.lt_size q
    have hlt : i < its.toArray.size := by
      have := (List.getElem?_eq_some_iff.mp hu).1
      simpa using this
    have D := Draws.tuple (prog := X.prog) (w := X.w) (A := X.A.in1) (I.ok.hd hc) it a hai its.toArray
    refine wpAny_pyNext_enum_itemD D he ⟨hit, p⟩ hlt hne (by simp [hne, hae.symm]) fun y h' tk hy ho hst hT hsz hk => ?_
    have ey : y = u := by
      have h2 : its[i]? = some y := by simpa using hy
      rw [hu] at h2; exact (Option.some.inj h2).symm
    subst ey
    refine ⟨_, rfl, wpAny_letOwnedTupleGo_enum (s := { s with heap := h', toks := tk + 1 }) ho fun h'' he' sb => ?_⟩
    have hT2 : h''.get? s.heap.objs.size = some { cls := .type "tuple", data := .seq #[.int i tk, y] } := (sb.2 _ (Nat.ne_of_gt hel)).trans hT
    have new : ObjOk X.prog X.w (upd H s.heap.objs.size (.tup [.int (i : Nat), x])) h'' s.heap.objs.size (.tup [.int (i : Nat), x]) :=
      ⟨by show 2 ≤ sizeLine; decide, [.int i tk, y], .cons ⟨_, rfl⟩ (.cons ru .nil), ⟨_, hT2, rfl, _, rfl⟩⟩
    have I1 : Inv X pins σ (upd H s.heap.objs.size (.tup [.int (i : Nat), x])) { s with heap := h'', toks := tk + 1 } :=
      I.turnedNew (ch := [e, it]) (fun b ob hb q => (sb.2 b (fun z => hb (by simp [z]))).trans (hk b ob (fun z => hb (by simp [z])) (fun z => hb (by simp [z])) q)) hf (Nat.le_refl _) new
    refine ⟨.ref s.heap.objs.size, _, I1, rfl, ⟨_, x, rfl, I.hok.fresh (Nat.le_refl _), rfl, fun ys hy' => by rw [I.tuple_inj hy' hq]; exact hx⟩, ⟨⟨y, ?_⟩, hst.1.at fun o q => (sb.2 it (Ne.symm hne)).trans q, hne⟩, fun b hb => ?_⟩
    · have e1 : ((i + 1 : Nat) : Int) = (i : Int) + 1 := by omega
      rw [e1]; exact he'
    · have hb' : b < s.heap.objs.size := by
        have e' : b = e ∨ b = it := by simpa using hb
        rcases e' with z | z
        · rw [z]; exact hel
        · rw [z]; exact hil
      rw [upd_ne (Nat.ne_of_lt hb')]
      exact (hf b hb).1
  done := by
    intro X hP hw hK hc i pins s σ H E I hf st hg
    subst hP hw hK
    obtain ⟨⟨old, he⟩, hit, hne⟩ := st
    obtain ⟨xs, hq, hx⟩ := hg
    obtain ⟨its, rv, p, hz⟩ := I.tuple hq
    obtain ⟨f0, f1, f2, f3, f4, f5⟩ := hf it (by simp)
    have hl := rv.length
    have hT : s.TypeIs (.ref e) "enumerate" := ⟨_, he, rfl⟩
    have D := Draws.tuple (prog := X.prog) (w := X.w) (A := X.A.in1) (I.ok.hd hc) it a hai its.toArray
    unfold pyNext
    refine wpAny_bind (wpAny_attempt (wpAny_callSpecial?_slot (name := Str.ofString "__next__") hT F.slot_enumerate_next
      (wpAny_call_entry F.slot_enumerate_next hT F.entry_enumerate_next ?_ (F.args_enumerate_next_1 _))))
    show wpAny _ _ (field (.ref e) 2 >>= _) _ _ _
    refine wpAny_bind (wpAny_field he rfl (x := .ref it) rfl ?_)
    refine wpAny_bind (wpAny_nextOf_tuple_end (I.ok.hd hc) hit p (by simp; omega) fun h' x he' hx' => ?_)
    obtain ⟨o, ho, hcs⟩ := hx'
    refine wpAny_bind (wpAny_isInstance (T := "StopIteration") (b := true) ⟨o, ho, hcs⟩ isSubtype_stop ?_)
    exact wpAny_pure ⟨rfl, I.turned (t' := s.toks) (fun b o hb q => he' b o hb q) f0 f1 f3 f4 f5⟩
  self := fun A i s Q E st h => let ⟨⟨_, he⟩, _⟩ := st; wpAny_pyIter_enum he h
def iEnumT (K : PySem.W.Frag) (ta : TA) : TI := fun σ H R => ta σ H fun vs H1 => ∃ a xs, vs = [.ref a] ∧ SqT K H1 a xs ∧ R (IteT K a) H1
theorem pi_enumT {X : Cx} {e : Expr} {ta : TA} {p pos tpos : Pos} {elts : List Expr} {kk : Nat} (hg : Gl X "enumerate") (hm : X.mg "enumerate" = none) (ha : PA X [e] ta) (hs : starEach [e] X.env = [(false, eval e X.env)] := by rfl) :
    PI X (.Tuple elts kk tpos) (.Call (.Name "enumerate" p) [e] [] pos) (iEnumT X.K ta) := by
  refine ⟨fun pins s σ H R I h => ?_⟩
  refine Call_ (ld_blt I hg hm boot_enumerate (PyProof.Rows.callWith_type1 (thn (ha.run pos pins s σ H _ I h) fun us s1 ⟨vs, H1, I1, r1, q1⟩ => ?_) hs rfl))
  obtain ⟨a, xs, ex, hq, q⟩ := q1
  subst ex
  cases r1 with
  | cons r rr =>
    cases rr
    cases r
    obtain ⟨its, rv, p', hz⟩ := I1.tuple hq
    have hal : a < s1.heap.objs.size := p'.lt
    refine kk_call_enum (begins_tuple a its.toArray) p' fun h' he hit hsz hk => wpAny_pyIter_enum he ?_
    have I2 : Inv X pins σ H1 { s1 with heap := h' } := I1.kept (t' := s1.toks) hk
    refine ⟨s1.heap.objs.size + 1, [s1.heap.objs.size + 1, s1.heap.objs.size], _, _, H1, rfl, I2, turn_enumT a (s1.heap.objs.size + 1) s1.heap.objs.size (Nat.ne_of_lt (Nat.lt_succ_of_lt hal)) (Nat.ne_of_lt hal), ⟨⟨.none, he⟩, ⟨_, hit, rfl, rfl⟩, Nat.succ_ne_self _⟩, fun b hb => ?_, q⟩
    have e' : b = s1.heap.objs.size + 1 ∨ b = s1.heap.objs.size := by simpa using hb
    have hle : s1.heap.objs.size ≤ b := by
      rcases e' with z | z
      · rw [z]; exact Nat.le_add_right _ _
      · rw [z]; exact Nat.le_refl _
    exact I1.fpOk hle (I1.hok.fresh hle)
/-- the form one uses -/
theorem for_enumT {K : PySem.W.Frag} {a : Addr} {xs : List V} {g : TG} {tb : TS} {D : Ends} {σ : L2.St} {H : Hp} (Pv : Nat → L2.St → Hp → Prop) (h0 : Pv 0 σ H) (hl : ∀ i σ H, i ≤ xs.length → Pv i σ H → SqT K H a xs)
    (hs : ∀ i x σ H T, xs[i]? = some x → Pv i σ H → H T = none → g (.ref T) σ (upd H T (.tup [.int (i : Nat), x])) fun σ2 H2 => tb { D with nx := Pv (i + 1), ct := Pv (i + 1), bk := D.nx } σ2 H2) (hd : ∀ σ H, Pv xs.length σ H → D.nx σ H) :
    ∃ W : Nat → Nat → L2.St → Hp → Prop, (∃ m, W 0 m σ H) ∧ ∀ i m σ H, W i m σ H →
      ((IteT K a).stop i H ∧ D.nx σ H) ∨ ((IteT K a).go i H ∧ ∃ N : L2.St → Hp → Prop, (∀ σ' H', N σ' H' → ∃ m', m' < m ∧ W (i + 1) m' σ' H') ∧ ∀ x H', (IteT K a).yld i H x H' → g x σ H' fun σ2 H2 => tb { D with nx := N, ct := N, bk := D.nx } σ2 H2) := by
  refine ⟨fun i m σ H => m = xs.length - i ∧ i ≤ xs.length ∧ Pv i σ H, ⟨xs.length, by simp, Nat.zero_le _, h0⟩, ?_⟩
  rintro i m σ H ⟨rfl, hi, p⟩
  have q := hl i σ H hi p
  by_cases hlt : i < xs.length
  · refine .inr ⟨⟨xs, xs[i], q, by simp [hlt]⟩, Pv (i + 1), fun σ' H' p' => ⟨xs.length - (i + 1), by omega, rfl, hlt, p'⟩, fun x H' y => ?_⟩
    obtain ⟨T, z, rfl, hT, rfl, hz⟩ := y
    exact hs i z σ H T (hz xs q) p hT
  · have e : i = xs.length := by omega
    subst e
    exact .inl ⟨⟨xs, q, Nat.le_refl _⟩, hd σ H p⟩
end Kk

/-! a set made of a list of texts -/
namespace Kk
open PySem PySem.Spec PyProof.Rows L2
section
variable {prog : Program} {w : World} {A : Around} {R : Result → Shared → Prop} {I : Addr} {fp wr : List Addr} {G : Array GenState → Array GenState → Prop} {n : Nat} {P : Nat → Value → Prop} {St : Nat → Shared → Prop}
/-- at a: the set of the first i texts -/
def SetUp (prog : Program) (w : World) (h : Heap) (a : Addr) (xs : List Str) (i : Nat) : Prop := ∃ c, (c ≤ i ∧ ((xs.take i).Nodup → c = i)) ∧ h.SetOf (mixKind prog w) a (fun k => (xs.take i).any fun x => decide (k = Sum.inr x)) c
theorem SetUp.move {h h' : Heap} {a : Addr} {xs : List Str} {i : Nat} (u : SetUp prog w h a xs i) (k : ∀ o, h.get? a = some o → h'.get? a = some o) : SetUp prog w h' a xs i := by
  obtain ⟨c, hc, z⟩ := u
  exact ⟨c, hc, setOf_at z k⟩
theorem take_any {xs : List Str} {i : Nat} {x : Str} (hx : xs[i]? = some x) (k : Key) : ((xs.take (i + 1)).any fun y => decide (k = Sum.inr y)) = (((xs.take i).any fun y => decide (k = Sum.inr y)) || decide (k = Sum.inr x)) := by
  rw [List.take_add_one, hx, List.any_append]
  simp
theorem update_texts (W : WalksS prog w A.in1 I fp wr G n P St) (S : Addr) (hSf : S ∉ fp) (xs : List Str) (hl : xs.length = n) (hn : n + 1 < scanBound)
    (hv : ∀ i v, P i v → ∃ x t, xs[i]? = some x ∧ v = .str x t) : ∀ (m i : Nat) (s : Shared), n - i = m → i ≤ n → St i s → SetUp prog w s.heap S xs i →
      (∀ s', Moved (S :: wr) G s s' → SetUp prog w s'.heap S xs n → R (.ok (.ret .none)) s') → codeAny (model prog w) A (.builtin "set.update.loop" ⟨[.ref S, .ref I], []⟩) R s := by
  have out : S ∉ wr := fun h => hSf (W.sub _ h)
  have more : ∀ b ∈ wr, b ∈ S :: wr := fun b hb => List.mem_cons_of_mem _ hb
  intro m
  induction m with
  | zero =>
    intro i s hm hi st U q
    obtain rfl : i = n := by omega
    refine codeAny_builtin PyProof.Rows.F.entry_set_update_loop ?_
    rw [Around.under_plainId PyProof.Rows.F.plain_set_update_loop _]
    show wpAny _ A.in1 (pyNext (.ref I) >>= _) _ _ s
    exact wpAny_bind (W.done s _ _ st fun s' hm' => wpAny_pure (q s' (hm'.mono more) (U.move fun o => hm'.heap S o out)))
  | succ m ih =>
    intro i s hm hi st U q
    have lt : i < n := by omega
    refine codeAny_builtin PyProof.Rows.F.entry_set_update_loop ?_
    rw [Around.under_plainId PyProof.Rows.F.plain_set_update_loop _]
    show wpAny _ A.in1 (pyNext (.ref I) >>= _) _ _ s
    refine wpAny_bind (W.item i s _ _ lt st fun v s' hP st' hm' => ?_)
    obtain ⟨x, t, hx, rfl⟩ := hv i v hP
    obtain ⟨c, hc, U'⟩ := U.move (h' := s'.heap) fun o => hm'.heap S o out
    show wpAny _ A.in1 (holding [Value.str x t] (setAdd S (.str x t)) >>= _) _ _ s'
    unfold setAdd
    refine wpAny_bind (wpAny_holding (wpAny_holding (wpAny_bind ((mixKind prog w).pyHash (k := Sum.inr x) (mixKind_str _ _ _ _) ?_))))
    refine wpAny_setAddHashed_of (knd := mixKind prog w) (s := { s' with toks := s'.toks + 1 }) (mixKind_str _ _ _ _) rfl U' (by have := hc.1; omega) fun h' sb U2 => ?_
    refine wpAny_pure ⟨plainId_quiet PyProof.Rows.F.plain_set_update_loop _, ih (i + 1) _ (by omega) lt (W.frame _ s' _ _ st' (Nat.le_succ _) fun b hb o e => (sb.2 b fun z => hSf (z ▸ hb)).trans e) ?_ fun s'' hm2 U3 => ?_⟩
    · have e : (fun k : Key => (xs.take (i + 1)).any fun y => decide (k = Sum.inr y)) = fun k => (((xs.take i).any fun y => decide (k = Sum.inr y)) || decide (k = Sum.inr x)) := funext (take_any hx)
      refine ⟨_, ⟨?_, fun nd => ?_⟩, by rw [e]; exact U2⟩
      · have := hc.1
        split <;> omega
      · have e9 : xs.take (i + 1) = xs.take i ++ [x] := by rw [List.take_add_one, hx]; rfl
        rw [e9] at nd
        have nd2 := List.nodup_append.mp nd
        have no : ((xs.take i).any fun y => decide ((Sum.inr x : Key) = Sum.inr y)) = false := by
          rw [List.any_eq_false]
          intro y hy q
          have q2 := of_decide_eq_true q
          exact nd2.2.2 y hy x (List.mem_singleton.mpr rfl) (Sum.inr.inj q2).symm
        rw [no, if_neg (by decide), hc.2 nd2.1]
    · exact q s'' (Moved.trans W.gtrans ((hm'.mono more).then_heap (Nat.le_succ _) fun b o hb e => (sb.2 b fun z => hb (by rw [z]; exact List.mem_cons_self)).trans e) hm2) U3
end
section
variable {prog : Program} {w : World} {A : Around} {E : Value → Shared → Prop} {s : Shared}
abbrev setOb (led : Bool) : Obj := { cls := .type "set", dict := none, data := .set #[] 0 (.fresh 0 0 led) }
set_option maxHeartbeats 3200000 in
theorem call_set_texts {l : Addr} {items : Array Value} {xs : List Str} {Q : Value → Shared → Prop} (hh : A.handled = none) (hl : s.heap.IsList l items) (hi : StrsAre items.toList xs) (hb : xs.length + 1 < scanBound)
    (h : ∀ (h' : Heap) (tk : Nat), SetUp prog w h' s.heap.objs.size xs xs.length → (∀ b o, s.heap.get? b = some o → h'.get? b = some o) → Q (.ref s.heap.objs.size) { s with heap := h', toks := tk }) :
    wpAny (model prog w) A (call (.type "set") [.ref l]) Q E s := by
  obtain ⟨c, tl, hmro⟩ := PySem.F.called_set.mro
  have hmade := PySem.F.called_set.made
  have hsub := PySem.F.called_set.sub
  have h1 := PySem.F.called_set.notType
  have h2 := PySem.F.called_set.canCreate
  have hct := PySem.F.typeCall_set_1 (.ref l)
  have hlen : items.size = xs.length := by rw [← Array.length_toList, StrsAre.len_eq hi]
  refine wpAny_call (codeAny_of_tree (wpAny_pure ⟨Code.quiet_builtin _ (by decide +kernel), codeAny_builtin PySem.F.entry_type_call ?_⟩))
  rw [Around.under_plain (weight_type_call_type "set" [.ref l] []) rfl]
  repeat (any_goals (first | assumption | wp_step))
  refine codeAny_mono (code_set_new_1 (.ref l) (E := E) (Q₁ := fun obj s₁ => ∃ led : Bool, obj = .ref s.heap.objs.size ∧ s₁ = { s with heap := s.heap.push { cls := .type "set", dict := none, data := .set #[] 0 (.fresh 0 0 led) } }) fun led => ⟨led, rfl, rfl⟩) fun r s₁ hr => ?_
  cases r with
  | error e => exact hr
  | ok fl =>
    cases fl with
    | next => exact hr.elim
    | brk => exact hr.elim
    | cont => exact hr.elim
    | ret obj =>
      obtain ⟨led, rfl, rfl⟩ := hr
      have hS : (s.heap.push (setOb led)).get? s.heap.objs.size = some (setOb led) := Heap.get?_push_size _ rfl
      have hT : Shared.TypeIs { s with heap := s.heap.push (setOb led) } (.ref s.heap.objs.size) "set" := ⟨_, hS, rfl⟩
      have hli := PySem.F.called_set.init.lookup
      have hbi := PySem.F.called_set.init.bind (.ref s.heap.objs.size)
      repeat (any_goals (first | assumption | wp_step))
      refine codeAny_mono (codeAny_call_builtin (R := wants (fun r s₂ => r = .none ∧ ∃ h' tk, s₂ = { s with heap := h', toks := tk } ∧ SetUp prog w h' s.heap.objs.size xs xs.length ∧ (∀ b o, s.heap.get? b = some o → h'.get? b = some o)) E)
        PySem.F.called_set.init.plain PySem.F.entry_set_init (check_set_init_1 hT ?_)) fun r₂ s₂ hr₂ => ?_
      · obtain ⟨ol, hol, hcl, nl, hdl⟩ := hl
        obtain ⟨ocls, odict, odata, oslots⟩ := ol
        simp only at hcl hdl
        subst hcl; subst hdl
        have hlS : l < s.heap.objs.size := Heap.lt_size hol
        have hol' := Heap.get?_push_of_some (h := s.heap) (setOb led) hol
        have hsls := PySem.F.sub_list_set
        have hslf := PySem.F.sub_list_frozenset
        have hne : (Value.type "list" == Value.type "dict") = false := by decide
        have hl1 : (s.heap.push (setOb led)).IsList l items := ⟨_, hol', rfl, nl, rfl⟩
        unfold Builtin.«set.__init__» noKeywords Builtin.Frozenset.updateFrom
        generalize hPI : pyIter = PI
        wp_walk
        subst hPI
        refine wpAny_pyIter_list (s := { s with heap := s.heap.push (setOb led) }) hl1 ?_
        refine wpAny_bind (wpAny_runValue ?_)
        have hneI : l ≠ (s.heap.push (setOb led)).objs.size := by rw [Heap.size_push]; exact Nat.ne_of_lt (Nat.lt_succ_of_lt hlS)
        have hSf : s.heap.objs.size ∉ [(s.heap.push (setOb led)).objs.size, l] := by
          rw [Heap.size_push]
          intro hm
          rcases List.mem_cons.mp hm with z | z
          · exact Nat.ne_of_lt (Nat.lt_succ_self _) z
          · exact Nat.ne_of_gt hlS (List.mem_singleton.mp z)
        have hval : ∀ (i : Nat) (v : Value), items[i]? = some v → ∃ x t, xs[i]? = some x ∧ v = .str x t := fun i v hv => by
          have hv' : items.toList[i]? = some v := by rw [Array.getElem?_toList]; exact hv
          obtain ⟨t, e⟩ := SS.strs_at hi i v hv'
          have lt : i < xs.length := by
            have := (List.getElem?_eq_some_iff.mp hv').1
            rw [Array.length_toList, hlen] at this; exact this
          exact ⟨xs[i], t, List.getElem?_eq_getElem lt, by rw [e, List.getD_eq_getElem?_getD, List.getElem?_eq_getElem lt]; rfl⟩
        have hS2 := Heap.get?_push_of_some (h := s.heap.push (setOb led)) { cls := .type "list_iterator", data := .fields #[.ref l, .int 0 0] } hS
        refine update_texts ((Walks.list (by simp [hh]) _ l hneI items).toS) s.heap.objs.size hSf xs hlen.symm (by omega) hval (items.size - 0) 0 _ rfl (Nat.zero_le _) ⟨⟨_, Heap.get?_push_size _ rfl, rfl, rfl⟩, hl1.push _⟩ ⟨0, ⟨Nat.le_refl _, fun _ => rfl⟩, ?_⟩ fun s' hm U => ?_
        · exact ⟨_, #[], 0, _, hS2, ⟨rfl, rfl, rfl⟩, rfl, (fun e he => by simp at he), (fun k => by simp), (by decide), (by rfl), rfl⟩
        · obtain ⟨h', g', d', tk', os'⟩ := s'
          obtain rfl : g' = s.gens := hm.gens
          obtain rfl : d' = s.drawn := hm.drawn
          obtain rfl : os' = s.os := hm.os
          refine wpAny_pure (wpAny_pure ⟨rfl, h', tk', rfl, by rw [← hlen]; exact U, fun b o e => ?_⟩)
          have hb' := Heap.lt_size e
          refine hm.heap b o (fun z => ?_) (Heap.get?_push_of_some _ (Heap.get?_push_of_some _ e))
          rw [Heap.size_push] at z
          rcases List.mem_cons.mp z with z | z
          · exact Nat.ne_of_lt hb' z
          · exact Nat.ne_of_lt (Nat.lt_succ_of_lt hb') (List.mem_singleton.mp z)
      · cases r₂ with
        | error e => exact hr₂
        | ok fl₂ =>
          cases fl₂ with
          | ret r =>
            obtain ⟨rfl, h', tk, rfl, U, hk'⟩ := hr₂
            repeat (any_goals (first | assumption | wp_step))
            exact h _ _ U hk'
          | next => exact hr₂.elim
          | brk => exact hr₂.elim
          | cont => exact hr₂.elim
end
/-- set(xs), xs a list of texts; how many there are where none stands twice -/
def rSetTxN (K : PySem.W.Frag) (P : Program) (w : World) : List V → Hp → VK → Prop := fun vs H Q => ∃ (l : Addr) (xs : List Str), vs = [.ref l] ∧ SqL K H l (xs.map V.str) ∧ xs.length ≤ 4000 ∧
  ∀ a c, H a = none → (xs.Nodup → c = xs.length) → Q (.ref a) (upd H a (SetK P w a (fun k => xs.any fun x => decide (k = Sum.inr x)) c))
theorem call_setTxN {X : Cx} (hc : X.calm = true) : CallR X (.type "set") (rSetTxN X.K X.prog X.w) := by
  intro pins s σ H vs us Q I r h
  obtain ⟨l, xs, rfl, hl, hn, q⟩ := h
  rw [Vals.ref1 r]
  obtain ⟨its, rv, pl, hz⟩ := I.list hl
  have fresh : H s.heap.objs.size = none := I.hok.fresh (Nat.le_refl _)
  refine call_set_texts (xs := xs) (I.ok.hd hc) pl.isList (by simpa using Vals.strs rv) (by unfold scanBound; omega) fun h' tk U k => ?_
  obtain ⟨c, hcn, U⟩ := U
  rw [List.take_length] at U hcn
  exact ⟨.ref s.heap.objs.size, _, I.laid (t' := tk) k (Nat.le_refl _) (setK_new U), rfl, q _ c fresh hcn.2⟩
/-- set(xs), xs a list of texts -/
def rSetTx (K : PySem.W.Frag) (P : Program) (w : World) : List V → Hp → VK → Prop := fun vs H Q => ∃ (l : Addr) (xs : List Str), vs = [.ref l] ∧ SqL K H l (xs.map V.str) ∧ xs.length ≤ 4000 ∧
  ∀ a c, H a = none → Q (.ref a) (upd H a (SetK P w a (fun k => xs.any fun x => decide (k = Sum.inr x)) c))
theorem call_setTx {X : Cx} (hc : X.calm = true) : CallR X (.type "set") (rSetTx X.K X.prog X.w) := by
  intro pins s σ H vs us Q I r h
  obtain ⟨l, xs, e, hl, hn, q⟩ := h
  exact call_setTxN hc pins s σ H vs us Q I r ⟨l, xs, e, hl, hn, fun a c na _ => q a c na⟩
end Kk

set_option maxHeartbeats 2000000
/-! tuples whose object is known to have no dict of its own: their methods can be called -/
namespace Kk
open PySem PySem.Spec PyProof.Rows L2
def TupF (H : Hp) (a : Addr) (xs : List V) : Prop := ∃ o, H a = some (.frz o (.tup xs)) ∧ o.dict = none
theorem TupF.sq {K : PySem.W.Frag} {H : Hp} {a : Addr} {xs : List V} (h : TupF H a xs) : SqT K H a xs := by
  obtain ⟨o, h, _⟩ := h
  exact .inl (.inr ⟨o, h⟩)
theorem TupF.same {H H' : Hp} {a : Addr} {xs : List V} (h : TupF H a xs) (k : Same H H') : TupF H' a xs := by
  obtain ⟨o, h, d⟩ := h
  exact ⟨o, k _ _ h, d⟩
theorem TupF.keep {p g : Addr} {H H' : Hp} {a : Addr} {xs : List V} (h : TupF H a xs) (k : Keep p g H H') (h1 : a ≠ p) (h2 : a ≠ g) : TupF H' a xs := by
  obtain ⟨o, h, d⟩ := h
  exact ⟨o, k _ _ h h1 h2, d⟩
theorem TupF.ne_lst {H : Hp} {a b : Addr} {xs ys : List V} (h : TupF H a xs) (g : H b = some (.lst ys)) : a ≠ b := by
  obtain ⟨o, h, _⟩ := h
  exact ne_of h g (by intro q; cases q)
theorem TupF.new {H : Hp} {o : Obj} {a : Addr} {xs : List V} (d : o.dict = none) : TupF (upd H a (.frz o (.tup xs))) a xs := ⟨o, upd_same, d⟩
section
variable {X : Cx}
/-- tuple(xs), xs a list -/
theorem call_tupleF : CallR X (.type "tuple") (fun xs H Q => ∃ p ys, xs = [.ref p] ∧ SqL X.K H p ys ∧ ∀ l o, H l = none → o.dict = none → Q (.ref l) (upd H l (.frz o (.tup ys)))) := by
  intro pins s σ H xs us Q I r h
  obtain ⟨p, ys, rfl, hq, q⟩ := h
  rw [Vals.ref1 r]
  obtain ⟨its, r', pl, hz⟩ := I.list hq
  have hlen := r'.length
  refine call_tuple_list pl.isList (fun h' kp => ?_) (by simp only [List.size_toArray] <;> omega)
  have I1 : Inv X pins σ H { s with heap := h' } := I.kept (t' := s.toks) kp
  exact ⟨.ref h'.objs.size, _, I1.laid (t' := s.toks) (o := .frz { cls := .type "tuple", data := .seq its.toArray } (.tup ys)) (fun b o e => Heap.get?_push_of_some _ e) (Nat.le_refl _) ⟨Heap.get?_push_size _ rfl, hz, its, r', IsTup.new _ _⟩, rfl, q _ _ (I1.hok.fresh (Nat.le_refl _)) rfl⟩
/-- a written tuple -/
def tTupF (t : TA) : TE := fun σ H Q => t σ H fun xs H1 => xs.length ≤ sizeLine ∧ ∀ p o, H1 p = none → o.dict = none → Q (.ref p) (upd H1 p (.frz o (.tup xs)))
theorem pe_tupF {es : List Expr} {t : TA} {x1} {pos : Pos} (h : PA X es t) : PE X (.Tuple es x1 pos) (tTupF t) := by
  refine ⟨fun pins s σ H Q I hq => ?_⟩
  refine wpAny_Tuple_spliced (thn (h.run pos pins s σ H _ I hq) fun us s1 ⟨xs, H1, I1, r, z, q⟩ => ⟨by rw [← r.length]; exact z, ?_⟩)
  exact ⟨.ref s1.heap.objs.size, _, I1.laid (t' := s1.toks) (o := .frz { cls := .type "tuple", data := .seq us.toArray } (.tup xs)) (fun b u e => Heap.get?_push_of_some _ e) (Nat.le_refl _) ⟨Heap.get?_push_size _ rfl, z, us, r, ⟨_, Heap.get?_push_size _ rfl, rfl, _, rfl⟩⟩, rfl, q _ _ (I1.hok.fresh (Nat.le_refl _)) rfl⟩
end
section
variable {prog : Program} {w : World} {A : Around} {E : Value → Shared → Prop} {s : Shared}
open HT in
/-- the whole of a tuple is the tuple itself -/
theorem tup_whole {t sl : Addr} {items : Array Value} {vl vu : Value} {lo hi : Option Int} {Q : Value → Shared → Prop} (ht : IsTup s.heap t items) (hs : s.heap.IsSliceOf sl vl vu .none) (pl : IsPart vl lo) (pu : IsPart vu hi)
    (hw : sIx items.size 0 lo = 0 ∧ sIx items.size items.size hi = items.size) (h : Q (.ref t) s) : wpAny (model prog w) A (getItem (.ref t) (.ref sl)) Q E s := by
  obtain ⟨os, hos, hcs, hds⟩ := id hs
  have hTs : s.TypeIs (.ref sl) "slice" := ⟨os, hos, hcs⟩
  obtain ⟨ot, hot, hct, nt, hdt⟩ := id ht
  have hTt : s.TypeIs (.ref t) "tuple" := ⟨ot, hot, hct⟩
  unfold getItem
  try with_reducible refine wpAny_holding ?_
  first | refine wpAny_bind (wpAny_pure ?_) | skip
  refine wpAny_bind (wpAny_sequenceKey ht.typeIs (by decide) ?_)
  refine wpAny_bind (wpAny_callSpecial?_slot (name := Str.ofString "__getitem__") ht.typeIs PyProof.Rows.slot_tuple_getitem
    (wpAny_call_entry PyProof.Rows.slot_tuple_getitem ht.typeIs entry_tuple_getitem ?_ (args_tuple_getitem _ _)))
  show wpAny _ _ (Builtin.Tuple.tupleItemsOf (.ref t) >>= _) _ _ s
  refine wpAny_bind (tupleItemsOf_ ht (wpAny_bind (wpAny_typeOf hTs ?_)))
  rw [if_pos (by decide)]
  refine wpAny_bind (sliceApplied_gen hs pl pu ?_)
  have yes : (((sIx items.size 0 lo : Nat) : Int) == 0 && (1 : Int) == 1 && (sIx items.size items.size hi - sIx items.size 0 lo) == items.size) = true := by
    rw [hw.1, hw.2]; simp
  show wpAny _ _ (if (((sIx items.size 0 lo : Nat) : Int) == 0 && (1 : Int) == 1 && (sIx items.size items.size hi - sIx items.size 0 lo) == items.size) = true then _ else _) _ _ s
  rw [if_pos yes]
  unfold Builtin.Tuple.tupleIsExact
  refine wpAny_bind (wpAny_bind (wpAny_typeOf hTt (wpAny_pure ?_)))
  rw [if_pos (by decide)]
  exact wpAny_bind (wpAny_rule (wpAny_pure ⟨_, rfl, wpAny_pure h⟩))
end
section
variable {X : Cx}
/-- t[lo:hi]: t itself where that is the whole -/
theorem sl_tupF : SlR X (fun x lo hi H Q => ∃ a xs, x = .ref a ∧ SqT X.K H a xs ∧ ((HT.sIx xs.length 0 lo = 0 ∧ HT.sIx xs.length xs.length hi = xs.length) → Q (.ref a) H) ∧
    (¬ (HT.sIx xs.length 0 lo = 0 ∧ HT.sIx xs.length xs.length hi = xs.length) → ∀ p o, H p = none → o.dict = none → Q (.ref p) (upd H p (.frz o (.tup (cutV xs lo hi)))))) := by
  intro pins s σ H x v vl vu lo hi sl Q I rx hs pl pu h
  obtain ⟨a, xs, rfl, hx, q1, q2⟩ := h
  cases rx
  obtain ⟨its, r, ht, hz⟩ := I.tuple hx
  have hlen : its.toArray.size = xs.length := by rw [List.size_toArray]; exact r.length.symm
  refine ⟨"tuple", _, PyProof.Rows.slot_tuple_getitem.lookup, ht.typeIs, ?_⟩
  by_cases hw : HT.sIx xs.length 0 lo = 0 ∧ HT.sIx xs.length xs.length hi = xs.length
  · exact tup_whole ht hs pl pu (by rw [hlen]; exact hw) ⟨.ref a, H, I, rfl, q1 hw⟩
  · refine HT.getItem_tuple_cut ht hs pl pu (by rw [hlen]; exact hw) ?_ (by rw [hlen]; exact hz)
    rw [hlen]
    refine ⟨.ref s.heap.objs.size, _, I.laid (t' := s.toks) (o := .frz { cls := .type "tuple", data := .seq ((its.drop (HT.sIx xs.length 0 lo)).take (HT.sIx xs.length xs.length hi - HT.sIx xs.length 0 lo)).toArray } (.tup (cutV xs lo hi)))
      (fun b ob q => Heap.get?_push_of_some _ q) (Nat.le_refl _) ⟨Heap.get?_push_size _ rfl, Nat.le_trans (cutV_length xs lo hi) hz, _, (r.drop (HT.sIx xs.length 0 lo)).take (HT.sIx xs.length xs.length hi - HT.sIx xs.length 0 lo), IsTup.new _ _⟩, rfl, q2 hw _ _ (I.hok.fresh (Nat.le_refl _)) rfl⟩
/-- t.m(e, ..), t such a tuple -/
def tTM (r : V → List V → Hp → VK → Prop) (to : TE) (t : TA) : TE := fun σ H Q => to σ H fun x H1 => (∃ a xs, x = .ref a ∧ TupF H1 a xs) ∧ t σ H1 fun xs H2 => r x xs H2 Q
theorem pe_tm {o e : Expr} {es : List Expr} {to : TE} {t : TA} {name : Str} {apos cpos : Pos} {id : String} {r : V → List V → Hp → VK → Prop} (slot : Slot "tuple" name id) (hty : typeOf (.builtin id) = pure (.type "method_descriptor")) (hm : MtR X id r) (ho : PE X o to) (ha : PA X (e :: es) t)
    (hbase : attributeBase o name X.env (eval o X.env) = eval o X.env := by rfl)
    (hfew : ((backTo cpos (starEach (e :: es) X.env)).all (fun x => !x.1) && (backToKw cpos (keywordEach [] X.env)).all (fun x => x.1.isSome)
      && decide ((e :: es).length + ([] : List Keyword).length + (if ([] : List Keyword).isEmpty then 0 else 1) < 30)) = true := by rfl)
    (hline : (apos.endLine == cpos.line) = true := by rfl) (hs : starEach (e :: es) X.env = (false, eval e X.env) :: starEach es X.env := by rfl) (hplain : (backTo cpos (starEach es X.env)).any (·.1) = false := by rfl) :
    PE X (.Call (.Attribute o name apos) (e :: es) [] cpos) (tTM r to t) := by
  refine ⟨fun pins s σ H Q I h => ?_⟩
  refine wpAny_Call_method_late hbase hfew hline rfl (thn (ho.run pins s σ H _ I h) fun v s1 ⟨x, H1, I1, r1, ty, q1⟩ => ?_)
  obtain ⟨a, xs, rfl, ob, hob, hd⟩ := ty
  obtain rfl : v = Value.ref a := r1
  have ok : ObjOk X.prog X.w H1 s1.heap a (.frz ob (.tup xs)) := I1.hok a _ hob
  obtain ⟨g1, _, its, rv, o2, g2, c2, d2⟩ := ok
  obtain rfl : ob = o2 := Option.some.inj (g1.symm.trans g2)
  refine ⟨"tuple", id, PySem.F.plainAttrs_tuple, slot, hty, ⟨ob, g1, c2⟩, fun b eb => ?_, ?_⟩
  · cases eb
    exact ⟨ob, g1, hd⟩
  have hA := ha.run cpos pins s1 σ H1 _ I1 q1
  rw [hs] at hA ⊢
  refine Calls.callWith_builtin (by show (false || (backTo cpos (starEach es X.env)).any (·.1)) = false; rw [hplain] <;> rfl) (Calls.evalArgs_plain ?_)
  exact thn hA fun us s2 ⟨vs, H2, I2, r2, q2⟩ => hm pins s2 σ H2 (.ref a) vs (.ref a) us Q I2 rfl r2 q2
/-- t.count(z), t a tuple of texts -/
theorem mt_tcount : MtR X "tuple.count" (fun x xs H Q => ∃ p, ∃ ys : List Str, ∃ z, x = .ref p ∧ xs = [.str z] ∧ SqT X.K H p (ys.map V.str) ∧ Q (.int ((ys.countP fun y => y == z : Nat) : Int)) H) := by
  intro pins s σ H x xs v us Q I rx rs h
  obtain ⟨p, ys, z, rfl, rfl, hq, q⟩ := h
  cases rx
  obtain ⟨u, rfl, t, rfl⟩ := vals1 rs
  obtain ⟨its, r, pl, hz⟩ := I.tuple hq
  obtain ⟨⟨cls, dd, dt, sl⟩, ho, hc, n, hd⟩ := pl
  simp only at hc hd
  subst hc
  subst hd
  have ec : its.countP (eqU (.str z)) = ys.countP fun y => y == z := by
    clear hq q hz ho
    induction ys generalizing its with
    | nil => cases r; rfl
    | cons y ys ih =>
      cases r with
      | cons r1 r2 =>
        obtain ⟨t', rfl⟩ := r1
        rw [List.countP_cons, List.countP_cons, ih _ r2]
        rfl
  refine call_meets PySem.F.slot_tuple_count ⟨_, ho, rfl⟩ PySem.F.entry_tuple_count (PySem.F.args_tuple_count_2 _ _) (SeqAt.tuple_countAt p its.toArray n dd sl (.str z t) (eqU (.str z)))
    ⟨ho, fun w hw => mem_eqAt (x := .str z) ⟨t, rfl⟩ rfl r (flat_strs ys) w (by simpa using hw), ?_⟩
  show EP X pins σ Q (.int ((its.countP (eqU (.str z)) : Nat) : Int) s.toks) { s with toks := s.toks + 1 }
  rw [ec]
  exact ⟨.int _, H, I.tok _, ⟨_, rfl⟩, q⟩
end
end Kk

set_option maxHeartbeats 2000000
/-! t.index(x, start), and tuples put together or cut, whose objects have no dict of their own -/
namespace Kk
open PySem PySem.Spec PyProof.Rows L2
section
variable {X : Cx}
/-- t.index(z, i): the first place from i on -/
theorem mt_tup_index3 : MtR X "tuple.index" (fun x xs H Q => ∃ p, ∃ ys : List Str, ∃ z, ∃ i j : Nat, x = .ref p ∧ xs = [.str z, .int (i : Nat)] ∧ SqT X.K H p (ys.map V.str) ∧ i ≤ j ∧ ys[j]? = some z ∧ (∀ m, i ≤ m → m < j → ys[m]? ≠ some z) ∧ Q (.int (j : Nat)) H) := by
  intro pins s σ H x xs v us Q I rx rs h
  obtain ⟨p, ys, z, i, j, rfl, rfl, hq, hij, hy, hno, q⟩ := h
  cases rx
  cases rs with
  | cons r1 rs =>
  cases rs with
  | cons r2 rs =>
  cases rs
  obtain ⟨t, rfl⟩ := r1
  obtain ⟨t2, rfl⟩ := r2
  obtain ⟨its, r, pl, hz⟩ := I.tuple hq
  obtain ⟨⟨cls, dd, dt, sl⟩, ho, hc, n, hd⟩ := pl
  simp only at hc hd
  subst hc
  subst hd
  have hl : its.toArray.size = ys.length := by rw [List.size_toArray, ← r.length, List.length_map]
  have hj : j < its.toArray.size := by rw [hl]; exact (List.getElem?_eq_some_iff.mp hy).1
  have at' : ∀ (m : Nat) (hm : m < its.toArray.size), ∃ y t', ys[m]? = some y ∧ its.toArray[m] = Value.str y t' := fun m hm => by
    have hm' : m < ys.length := by rw [← hl]; exact hm
    obtain ⟨w, hw, t', hw'⟩ := r.get (i := m) (x := .str ys[m]) (by simp [hm'])
    refine ⟨ys[m], t', List.getElem?_eq_getElem hm', ?_⟩
    have e := (List.getElem?_eq_some_iff.mp hw).2
    rw [← hw', ← e]
    simp
  refine call_meets PySem.F.slot_tuple_index ⟨_, ho, rfl⟩ PySem.F.entry_tuple_index (PySem.F.args_tuple_index_3 _ _ _) (PySem.SeqAt.tuple_index3_found p its.toArray n dd sl (.str z t) (fun m => match its.toArray[m]? with | some w => eqU (.str z) w | none => false) (i : Int) t2 j hj (by rw [PySem.SeqAt.searchFrom_nat]; exact hij) hj ?_ ?_)
    ⟨ho, fun m hm => ?_, ⟨.int (j : Nat), H, I.tok _, ⟨_, rfl⟩, q⟩⟩
  · obtain ⟨y, t', h1, h2⟩ := at' j hj
    rw [hy] at h1
    cases h1
    show (match its.toArray[j]? with | some w => eqU (.str z) w | none => false) = true
    rw [Array.getElem?_eq_getElem hj, h2]
    show (z == z) = true
    exact beq_self_eq_true z
  · intro m hm hi hmj
    rw [PySem.SeqAt.searchFrom_nat] at hi
    obtain ⟨y, t', h1, h2⟩ := at' m hm
    show (match its.toArray[m]? with | some w => eqU (.str z) w | none => false) = false
    rw [Array.getElem?_eq_getElem hm, h2]
    show (y == z) = false
    exact beq_eq_false_iff_ne.mpr fun e => hno m hi hmj (e ▸ h1)
  · show PySem.SeqAt.EqAt _ _ its.toArray[m] (.str z t) (match its.toArray[m]? with | some w => eqU (.str z) w | none => false)
    rw [Array.getElem?_eq_getElem hm]
    exact mem_eqAt (x := .str z) ⟨t, rfl⟩ rfl r (flat_strs ys) _ (by simp)
/-- t + u -/
def rCatF (K : PySem.W.Frag) : R2 := fun x y H Q => ∃ a b xs ys, x = .ref a ∧ y = .ref b ∧ SqT K H a xs ∧ SqT K H b ys ∧ xs.length + ys.length ≤ sizeLine ∧
  (xs = [] → Q (.ref b) H) ∧ (xs ≠ [] → ys = [] → Q (.ref a) H) ∧ (xs ≠ [] → ys ≠ [] → ∀ p o, H p = none → o.dict = none → Q (.ref p) (upd H p (.frz o (.tup (xs ++ ys)))))
theorem op_catF : OpR X (binaryOp .Add) (rCatF X.K) := by
  intro pins s σ H x y v u Q I rx ry h
  obtain ⟨a, b, xs, ys, rfl, rfl, ha, hb, hz, q0, q1, q2⟩ := h
  cases rx
  cases ry
  obtain ⟨its, r1, p1, _⟩ := I.tuple ha
  obtain ⟨its2, r2, p2, _⟩ := I.tuple hb
  by_cases hx : xs = []
  · subst hx
    cases r1
    exact cat_tup0 p1 p2 ⟨.ref b, H, I, rfl, q0 rfl⟩
  · refine HT.cat_tup p1 p2 (fun z => hx (r1.nil_iff.mp z)) (fun z => ⟨.ref a, H, I, rfl, q1 hx (r2.nil_iff.mp z)⟩) (fun z => ?_) (by rw [← r1.length, ← r2.length]; exact hz)
    refine ⟨.ref s.heap.objs.size, _, I.laid (t' := s.toks) (o := .frz { cls := .type "tuple", data := .seq (its ++ its2).toArray } (.tup (xs ++ ys))) (fun b ob q => Heap.get?_push_of_some _ q) (Nat.le_refl _) ?_, rfl, q2 hx (fun w => z (r2.nil_iff.mpr w)) _ _ (I.hok.fresh (Nat.le_refl _)) rfl⟩
    exact ⟨Heap.get?_push_size _ rfl, by rw [List.length_append]; exact hz, _, r1.append r2, IsTup.new _ _⟩
theorem catF_of {K : PySem.W.Frag} {H : Hp} {a b : Addr} {xs ys : List V} {Q : VK} (ha : TupF H a xs) (hb : TupF H b ys) (hl : xs.length + ys.length ≤ 100000) (k : ∀ H' r, Same H H' → TupF H' r (xs ++ ys) → Q (.ref r) H') : rCatF K (.ref a) (.ref b) H Q := by
  refine ⟨a, b, xs, ys, rfl, rfl, ha.sq, hb.sq, Nat.le_trans hl (by decide), fun e => ?_, fun _ e => ?_, fun _ _ p o np ho => k _ p (same_upd np) (TupF.new ho)⟩
  · exact k H b (Same.refl H) (by rw [e]; exact hb)
  · exact k H a (Same.refl H) (by rw [e, List.append_nil]; exact ha)
def rSlF (K : PySem.W.Frag) : V → Option Int → Option Int → Hp → VK → Prop := fun x lo hi H Q => ∃ a xs, x = .ref a ∧ SqT K H a xs ∧ ((HT.sIx xs.length 0 lo = 0 ∧ HT.sIx xs.length xs.length hi = xs.length) → Q (.ref a) H) ∧
    (¬ (HT.sIx xs.length 0 lo = 0 ∧ HT.sIx xs.length xs.length hi = xs.length) → ∀ p o, H p = none → o.dict = none → Q (.ref p) (upd H p (.frz o (.tup (cutV xs lo hi)))))
theorem sl_tupG : SlR X (rSlF X.K) := sl_tupF
theorem cutF_of {K : PySem.W.Frag} {H : Hp} {a : Addr} {xs : List V} {lo hi : Option Int} {Q : VK} (ha : TupF H a xs) (k : ∀ H' r, Same H H' → TupF H' r (cutV xs lo hi) → Q (.ref r) H') : rSlF K (.ref a) lo hi H Q := by
  refine ⟨a, xs, rfl, ha.sq, fun w => k H a (Same.refl H) ?_, fun _ p o np ho => k _ p (same_upd np) (TupF.new ho)⟩
  have e : cutV xs lo hi = xs := by
    unfold cutV
    rw [w.1, w.2, List.drop_zero, Nat.sub_zero, List.take_length]
  rw [e]
  exact ha
end
end Kk

/-! words that a recursion draws -/
namespace Wd
open PySem
/-- the name made as the i-th one -/
def mkN (f : Nat → Bool) (i : Nat) : Nm := if f i then lett i else 113 :: lett i
structure GenR (names : List Nm) (g L : Nat) (t : T) : Prop where
  sc : t.sc
  aps : t.aps = g
  lv : t.lv.Perm (names ++ t.tks)
  tk : ∃ f : Nat → Bool, t.tks = (List.range' L (g + 1 - names.length)).map (mkN f)
theorem GenR.mkNm (n : Nm) (L : Nat) : GenR [n] 0 L (.nm n) := ⟨trivial, rfl, List.Perm.refl _, fun _ => true, rfl⟩
theorem mkN_congr {f h : Nat → Bool} {l : List Nat} (e : ∀ i ∈ l, f i = h i) : l.map (mkN f) = l.map (mkN h) := List.map_congr_left fun i hi => by unfold mkN; rw [e i hi]
theorem GenR.mkTk {names : List Nm} {g L : Nat} {b : T} {x : Bool} (h : GenR (names ++ [if x then lett L else 113 :: lett L]) g (L + 1) b) (hl : names.length ≤ g) : GenR names g L (.tk (if x then lett L else 113 :: lett L) b) := by
  obtain ⟨s, a, l, f, t⟩ := h
  refine ⟨⟨l.mem_iff.mpr (by simp), s⟩, a, ?_, fun i => if i = L then x else f i, ?_⟩
  · show b.lv.Perm (names ++ (_ :: b.tks))
    refine l.trans ?_
    rw [List.append_assoc]
    exact List.Perm.refl _
  · show _ :: b.tks = _
    rw [t]
    simp only [List.length_append, List.length_cons, List.length_nil]
    rw [show g + 1 - names.length = (g + 1 - (names.length + (0 + 1))) + 1 by omega, List.range'_succ, List.map_cons]
    congr 1
    · simp [mkN]
    · refine mkN_congr fun i hi => ?_
      have := (List.mem_range'_1.mp hi).1
      show f i = if i = L then x else f i
      rw [if_neg (by omega)]
theorem GenR.mkAp {names r1 r2 : List Nm} {g m1 m2 L : Nat} {f a : T} (h1 : GenR r1 m1 L f) (h2 : GenR r2 m2 (L + (m1 + 1 - r1.length)) a) (hr : (r1 ++ r2).Perm names) (hm : m1 + m2 + 1 = g) (l1 : r1.length ≤ m1 + 1) (l2 : r2.length ≤ m2 + 1) : GenR names g L (.ap f a) := by
  obtain ⟨s1, a1, p1, f1, t1⟩ := h1
  obtain ⟨s2, a2, p2, f2, t2⟩ := h2
  have hl := hr.length_eq
  rw [List.length_append] at hl
  refine ⟨⟨s1, s2⟩, by show f.aps + a.aps + 1 = g; rw [a1, a2]; exact hm, ?_, fun i => if i < L + (m1 + 1 - r1.length) then f1 i else f2 i, ?_⟩
  · show (f.lv ++ a.lv).Perm (names ++ (f.tks ++ a.tks))
    refine (p1.append p2).trans ?_
    refine List.Perm.trans ?_ (hr.append_right _)
    rw [List.append_assoc, List.append_assoc]
    refine List.Perm.append_left _ ?_
    rw [← List.append_assoc, ← List.append_assoc]
    exact List.perm_append_comm.append_right _
  · show f.tks ++ a.tks = _
    rw [t1, t2, show g + 1 - names.length = (m1 + 1 - r1.length) + (m2 + 1 - r2.length) by omega, ← List.range'_append_1, List.map_append]
    congr 1
    · refine mkN_congr fun i hi => ?_
      have := List.mem_range'_1.mp hi
      rw [if_pos (by omega)]
    · refine mkN_congr fun i hi => ?_
      have := List.mem_range'_1.mp hi
      rw [if_neg (by omega)]
theorem lett_small {i : Nat} (h : i < 26) : lett i = [97 + i] := by
  have : ((List.range 26).all fun i => lett i == [97 + i]) = true := by decide +kernel
  exact eq_of_beq (List.all_eq_true.mp this i (List.mem_range.mpr h))
theorem mkN_ok {f : Nat → Bool} {i : Nat} (h : i < 26) : nmOk (mkN f i) := by
  unfold mkN
  rw [lett_small h]
  split
  · refine ⟨by simp, by simp, fun c hc => ?_⟩
    have : c = 97 + i := by simpa using hc
    omega
  · refine ⟨by simp, by simp, fun c hc => ?_⟩
    rcases List.mem_cons.mp hc with rfl | hc
    · omega
    · have : c = 97 + i := by simpa using hc
      omega
theorem mkN_inj {f : Nat → Bool} {i j : Nat} (hi : i < 26) (hj : j < 26) (e : mkN f i = mkN f j) : i = j := by
  unfold mkN at e
  rw [lett_small hi, lett_small hj] at e
  split at e <;> split at e
  · simp at e; omega
  · simp at e
  · simp at e
  · simp at e; omega
/-- the names given are none of those that are made -/
def Apt (names : List Nm) (L c : Nat) : Prop := ∀ n ∈ names, ∀ f i, L ≤ i → i < L + c → n ≠ mkN f i
theorem GenR.tksNd {names : List Nm} {g L : Nat} {t : T} (h : GenR names g L t) (hb : L + (g + 1 - names.length) ≤ 26) : t.tks.Nodup := by
  obtain ⟨s, a, l, f, e⟩ := h
  rw [e]
  refine List.pairwise_map.mpr ?_
  refine List.Pairwise.imp_of_mem ?_ (List.nodup_range' (step := 1))
  intro x y hx hy hne q
  have h1 := List.mem_range'_1.mp hx
  have h2 := List.mem_range'_1.mp hy
  exact hne (mkN_inj (by omega) (by omega) q)
theorem GenR.vd {names : List Nm} {g L : Nat} {t : T} (h : GenR names g L t) (hb : L + (g + 1 - names.length) ≤ 26) (nd : names.Nodup) (ok : ∀ n ∈ names, nmOk n) (ap : Apt names L (g + 1 - names.length)) : Vd t.ws := by
  have tn := h.tksNd hb
  obtain ⟨s, a, l, f, e⟩ := h
  have tm : ∀ n ∈ t.tks, ∃ i, L ≤ i ∧ i < L + (g + 1 - names.length) ∧ n = mkN f i := fun n hn => by
    rw [e] at hn
    obtain ⟨i, hi, rfl⟩ := List.mem_map.mp hn
    have := List.mem_range'_1.mp hi
    exact ⟨i, this.1, this.2, rfl⟩
  have nn : (names ++ t.tks).Nodup := List.nodup_append.mpr ⟨nd, tn, fun x hx y hy q => by
    obtain ⟨i, h1, h2, h3⟩ := tm y hy
    exact ap x hx f i h1 h2 (q.trans h3)⟩
  refine ⟨⟨t, rfl, s, l.nodup_iff.mpr nn, tn⟩, fun w hw => ?_⟩
  have okt : ∀ n ∈ t.tks, nmOk n := fun n hn => by
    obtain ⟨i, h1, h2, rfl⟩ := tm n hn
    exact mkN_ok (by omega)
  cases w with
  | ap => trivial
  | tk n => exact okt n (mem_tks_ws hw)
  | nm n =>
    rcases List.mem_append.mp (l.mem_iff.mp (mem_lv_ws hw)) with q | q
    · exact ok n q
    · exact okt n q
end Wd

set_option maxHeartbeats 2000000
namespace Kk
open PySem PySem.Spec PyProof.Rows L2
/-! ### comprehensions that keep or change each item by itself -/
section
variable {α : Type} {K : PySem.W.Frag} {a D : Addr} {ws : List α} {f : α → V} {r : α → Option V} {g : TG} {tt : TT} {te : TE} {vs : List Nat} {σ : L2.St} {H : Hp} {Qd : Hp → Prop}
theorem fm_step {w : α} {i : Nat} (hw : ws[i]? = some w) : (ws.take (i + 1)).filterMap r = (ws.take i).filterMap r ++ (match r w with | some y => [y] | none => []) := by
  rw [List.take_add_one, hw, List.filterMap_append]
  cases h : r w with
  | none => simp [h]
  | some y => simp [h]
theorem fm_len (i : Nat) : ((ws.take i).filterMap r).length ≤ ws.length := Nat.le_trans (List.length_filterMap_le _ _) (by rw [List.length_take]; exact Nat.min_le_right _ _)
theorem lc_fmT (hq : SqT K H a (ws.map f)) (nD : H D = none) (hl : ws.length ≤ 100000)
    (hs : ∀ (i : Nat) (w : α) (H' : Hp) (Qy : V → Hp → Prop) (Qn : Hp → Prop), ws[i]? = some w → Same H H' → (∀ y H4, Same H' H4 → r w = some y → Qy y H4) → (∀ H3, Same H' H3 → r w = none → Qn H3) →
      g (f w) (wipe σ vs) H' fun σ2 H2 => wipe σ2 vs = wipe σ vs ∧ tt σ2 H2 fun b H3 => if b = true then te σ2 H3 Qy else Qn H3)
    (hd : ∀ H', Same H H' → H' D = some (.lst (ws.filterMap r)) → Qd H') :
    ∃ W : Nat → Nat → Hp → Prop, (∃ m, W 0 m (upd H D (.lst []))) ∧ ∀ i m H, W i m H →
      ((Itt K a).stop i H ∧ Qd H) ∨ ((Itt K a).go i H ∧ ∃ Nx : Hp → Prop, (∀ H', Nx H' → ∃ m', m' < m ∧ W (i + 1) m' H') ∧ ∀ x H', (Itt K a).yld i H x H' → g x (wipe σ vs) H' fun σ2 H2 => wipe σ2 vs = wipe σ vs ∧ tt σ2 H2 fun b H3 =>
        if b = true then te σ2 H3 fun y H4 => ∃ acc, H4 D = some (.lst acc) ∧ acc.length < sizeLine ∧ Nx (upd H4 D (.lst (acc ++ [y]))) else Nx H3) := by
  have off : ∀ b o, H b = some o → b ≠ D := fun b o hb => ne_of_none hb nD
  refine lc_tup (K := K) (a := a) (xs := ws.map f) (fun i H' => Same H H' ∧ H' D = some (.lst ((ws.take i).filterMap r))) ⟨same_upd nD, upd_same⟩ (fun i H' _ s => SqT.same hq s.1) (fun i x H' hx s => ?_) (fun H' s => ?_)
  · obtain ⟨S1, L1⟩ := s
    obtain ⟨w, hw, rfl⟩ := map_get hx
    refine hs i w H' _ _ hw S1 (fun y H4 S4 hy => ⟨_, S4 _ _ L1, Nat.lt_of_le_of_lt (Nat.le_trans (fm_len i) hl) (by decide), fun b o hb => ?_, ?_⟩) (fun H3 S3 hn => ⟨S1.trans S3, ?_⟩)
    · rw [upd_ne (off b o hb)]
      exact S4 _ _ (S1 _ _ hb)
    · rw [upd_same, fm_step hw, hy]
    · rw [S3 _ _ L1, fm_step hw, hn, List.append_nil]
  · obtain ⟨S1, L1⟩ := s
    rw [List.length_map, List.take_length] at L1
    exact hd H' S1 L1
theorem lc_fmL (hq : SqL K H a (ws.map f)) (nD : H D = none) (hl : ws.length ≤ 100000)
    (hs : ∀ (i : Nat) (w : α) (H' : Hp) (Qy : V → Hp → Prop) (Qn : Hp → Prop), ws[i]? = some w → Same H H' → (∀ y H4, Same H' H4 → r w = some y → Qy y H4) → (∀ H3, Same H' H3 → r w = none → Qn H3) →
      g (f w) (wipe σ vs) H' fun σ2 H2 => wipe σ2 vs = wipe σ vs ∧ tt σ2 H2 fun b H3 => if b = true then te σ2 H3 Qy else Qn H3)
    (hd : ∀ H', Same H H' → H' D = some (.lst (ws.filterMap r)) → Qd H') :
    ∃ W : Nat → Nat → Hp → Prop, (∃ m, W 0 m (upd H D (.lst []))) ∧ ∀ i m H, W i m H →
      ((Itl K a).stop i H ∧ Qd H) ∨ ((Itl K a).go i H ∧ ∃ Nx : Hp → Prop, (∀ H', Nx H' → ∃ m', m' < m ∧ W (i + 1) m' H') ∧ ∀ x H', (Itl K a).yld i H x H' → g x (wipe σ vs) H' fun σ2 H2 => wipe σ2 vs = wipe σ vs ∧ tt σ2 H2 fun b H3 =>
        if b = true then te σ2 H3 fun y H4 => ∃ acc, H4 D = some (.lst acc) ∧ acc.length < sizeLine ∧ Nx (upd H4 D (.lst (acc ++ [y]))) else Nx H3) := by
  have off : ∀ b o, H b = some o → b ≠ D := fun b o hb => ne_of_none hb nD
  refine lc_list (K := K) (a := a) (xs := ws.map f) (fun i H' => Same H H' ∧ H' D = some (.lst ((ws.take i).filterMap r))) ⟨same_upd nD, upd_same⟩ (fun i H' _ s => s.1.seq hq) (fun i x H' hx s => ?_) (fun H' s => ?_)
  · obtain ⟨S1, L1⟩ := s
    obtain ⟨w, hw, rfl⟩ := map_get hx
    refine hs i w H' _ _ hw S1 (fun y H4 S4 hy => ⟨_, S4 _ _ L1, Nat.lt_of_le_of_lt (Nat.le_trans (fm_len i) hl) (by decide), fun b o hb => ?_, ?_⟩) (fun H3 S3 hn => ⟨S1.trans S3, ?_⟩)
    · rw [upd_ne (off b o hb)]
      exact S4 _ _ (S1 _ _ hb)
    · rw [upd_same, fm_step hw, hy]
    · rw [S3 _ _ L1, fm_step hw, hn, List.append_nil]
  · obtain ⟨S1, L1⟩ := s
    rw [List.length_map, List.take_length] at L1
    exact hd H' S1 L1
end
end Kk

namespace Wd
open PySem L2
theorem filterMap_ix {α β : Type} {f : α → Option β} : ∀ {l : List α} {i j : Nat} {x y : α} {b : β}, (l.filterMap f).Nodup → l[i]? = some x → l[j]? = some y → f x = some b → f y = some b → i = j
  | [], i, j, x, y, b, _, h, _, _, _ => by simp at h
  | a :: l, i, j, x, y, b, nd, h1, h2, e1, e2 => by
    have tail : (l.filterMap f).Nodup := by
      cases h : f a with
      | none => rwa [List.filterMap_cons_none h] at nd
      | some c => rw [List.filterMap_cons_some h] at nd; exact (List.nodup_cons.mp nd).2
    cases i with
    | zero =>
      cases j with
      | zero => rfl
      | succ j =>
        simp at h1 h2
        subst h1
        rw [List.filterMap_cons_some e1] at nd
        exact absurd (List.mem_filterMap.mpr ⟨y, List.mem_of_getElem? h2, e2⟩) (List.nodup_cons.mp nd).1
    | succ i =>
      cases j with
      | zero =>
        simp at h1 h2
        subst h2
        rw [List.filterMap_cons_some e2] at nd
        exact absurd (List.mem_filterMap.mpr ⟨x, List.mem_of_getElem? h1, e1⟩) (List.nodup_cons.mp nd).1
      | succ j =>
        simp at h1 h2
        rw [filterMap_ix tail h1 h2 e1 e2]
/-- no word but "@" stands twice -/
theorem Vd.once {ws : List W} (h : Vd ws) {i j : Nat} {w : W} (hw : w ≠ .ap) (h1 : ws[i]? = some w) (h2 : ws[j]? = some w) : i = j := by
  obtain ⟨⟨t, rfl, s, nl, nt⟩, ok⟩ := h
  cases w with
  | ap => exact absurd rfl hw
  | tk n => rw [T.tks_ws] at nt; exact filterMap_ix nt h1 h2 rfl rfl
  | nm n => rw [T.lv_ws] at nl; exact filterMap_ix nl h1 h2 rfl rfl
theorem Vd.ends {ws : List W} (h : Vd ws) : ∃ E, IsEnds ws E := by
  obtain ⟨⟨t, rfl, s, nl, nt⟩, ok⟩ := h
  exact ⟨t.e, t.isEnds⟩
theorem Vd.pos {ws : List W} (h : Vd ws) : 0 < ws.length := by
  obtain ⟨⟨t, rfl, s, nl, nt⟩, ok⟩ := h
  exact t.pos
theorem Vd.okAt {ws : List W} (h : Vd ws) {i : Nat} {w : W} (hw : ws[i]? = some w) : wOk w := h.ok w (List.mem_of_getElem? hw)
/-- a taken name stands in the body -/
theorem Vd.used {ws : List W} (h : Vd ws) {E : Nat → Nat} (g : IsEnds ws E) {i : Nat} {n : Nm} (hw : ws[i]? = some (.tk n)) : ∃ j, ws[j]? = some (.nm n) ∧ i < j ∧ j < E i := by
  obtain ⟨⟨t, rfl, s, nl, nt⟩, ok⟩ := h
  obtain ⟨j, h1, h2, h3⟩ := T.used t i n s hw
  exact ⟨j, h1, h2, by rw [g.uniq t.isEnds _ i rfl (T.lt_of_get hw)]; exact h3⟩
/-- the part at a place -/
theorem Vd.part {ws : List W} (h : Vd ws) {E : Nat → Nat} (g : IsEnds ws E) {p : Nat} (hp : p < ws.length) :
    Vd ((ws.drop p).take (E p - p)) ∧ ∃ F, IsEnds ((ws.drop p).take (E p - p)) F ∧ ∀ i, i < ((ws.drop p).take (E p - p)).length → F i + p = E (p + i) := by
  obtain ⟨⟨t, rfl, s, nl, nt⟩, ok⟩ := h
  obtain ⟨u, h1, h2, h3, h4, h5⟩ := T.part t p s hp
  have ep : E p = t.e p := g.uniq t.isEnds _ p rfl hp
  rw [ep, ← h1]
  have hu : u.ws.length = t.e p - p := by
    have := T.e_lt t p hp
    rw [h1, List.length_take, List.length_drop]; omega
  refine ⟨⟨⟨u, rfl, h2, h3.nodup nl, h4.nodup nt⟩, fun w hw => ok w ?_⟩, u.e, u.isEnds, fun i hi => ?_⟩
  · rw [h1] at hw
    exact List.mem_of_mem_drop (List.mem_of_mem_take hw)
  · rw [h5 i hi]
    have := T.e_lt t p hp
    exact (g.uniq t.isEnds _ (p + i) rfl (by omega)).symm
end Wd

namespace Wd
open PySem
/-! ### words that have parts behind them, by how many -/
def misF : List Nat → Nat → Nat → Option Nat
  | [], i, l => if l = 0 then none else some i
  | n :: ns, i, l => if l = 0 then some i else misF ns (i + 1) (l + n - 1)
inductive Wh : Nat → List Nat → Prop where
  | nil : Wh 0 []
  | cons {c n ns} : Wh (c + n) ns → Wh (c + 1) (n :: ns)
theorem Wh.mis {c : Nat} {ns : List Nat} (h : Wh c ns) : ∀ i, misF ns i c = none := by
  induction h with
  | nil => intro i; rfl
  | @cons c n ns h ih =>
    intro i
    unfold misF
    rw [if_neg (by omega), show c + 1 + n - 1 = c + n by omega]
    exact ih _
def needW : W → Nat
  | .ap => 2
  | .tk _ => 1
  | .nm _ => 0
theorem T.wh : ∀ (t : T) (c : Nat) (r : List Nat), Wh c r → Wh (c + 1) (t.ws.map needW ++ r)
  | .nm n, c, r, h => by exact Wh.cons h
  | .tk n b, c, r, h => by
    show Wh (c + 1) (1 :: (b.ws.map needW ++ r))
    exact Wh.cons (T.wh b c r h)
  | .ap f a, c, r, h => by
    have e : (T.ap f a).ws.map needW ++ r = 2 :: (f.ws.map needW ++ (a.ws.map needW ++ r)) := by simp [T.ws, needW]
    rw [e]
    exact Wh.cons (T.wh f (c + 1) _ (T.wh a c r h))
theorem Vd.wh {ws : List W} (h : Vd ws) : Wh 1 (ws.map needW) := by
  obtain ⟨⟨t, rfl, s, nl, nt⟩, ok⟩ := h
  have := T.wh t 0 [] .nil
  rwa [List.append_nil] at this
theorem needW_le (w : W) : needW w ≤ 2 := by cases w <;> simp [needW]
def itE (E : Nat → Nat) (i : Nat) : Nat → Nat
  | 0 => i + 1
  | j + 1 => E (itE E i j)
structure EndsN (ns : List Nat) (E : Nat → Nat) : Prop where
  ex : ∀ i n, ns[i]? = some n → (∀ j, j < n → i < itE E i j ∧ itE E i j < ns.length) ∧ E i = itE E i n
  le : ∀ n, n ∈ ns → n ≤ 2
theorem IsEnds.needs {ws : List W} {E : Nat → Nat} (h : IsEnds ws E) : EndsN (ws.map needW) E := by
  refine ⟨fun i n hn => ?_, fun n hn => ?_⟩
  · rw [List.getElem?_map] at hn
    rw [List.length_map]
    cases hw : ws[i]? with
    | none => rw [hw] at hn; cases hn
    | some w =>
      rw [hw] at hn
      cases w with
      | nm x => cases hn; exact ⟨fun j (hj : j < 0) => absurd hj (by omega), h.nm i x hw⟩
      | tk x =>
        cases hn
        obtain ⟨h1, h2⟩ := h.tk i x hw
        refine ⟨fun j (hj : j < 1) => ?_, h2⟩
        have : j = 0 := by omega
        subst this
        exact ⟨by show i < i + 1; omega, h1⟩
      | ap =>
        cases hn
        obtain ⟨h1, h2, h3⟩ := h.ap i hw
        refine ⟨fun j (hj : j < 2) => ?_, h3⟩
        have l := h.lt (i + 1) h1
        match j, hj with
        | 0, _ => exact ⟨by show i < i + 1; omega, h1⟩
        | 1, _ => exact ⟨by show i < E (i + 1); omega, h2⟩
  · obtain ⟨w, _, rfl⟩ := List.mem_map.mp hn
    exact needW_le w
end Wd

set_option maxHeartbeats 2000000
namespace Kk
open PySem PySem.Spec PyProof.Rows L2 Wd
theorem for_enumL {K : PySem.W.Frag} {a : Addr} {xs : List V} {g : TG} {tb : TS} {D : Ends} {σ : L2.St} {H : Hp} (Pv : Nat → L2.St → Hp → Prop) (h0 : Pv 0 σ H) (hl : ∀ i σ H, i ≤ xs.length → Pv i σ H → SqL K H a xs)
    (hs : ∀ i x σ H T, xs[i]? = some x → Pv i σ H → H T = none → g (.ref T) σ (upd H T (.tup [.int (i : Nat), x])) fun σ2 H2 => tb { D with nx := Pv (i + 1), ct := Pv (i + 1), bk := D.nx } σ2 H2) (hd : ∀ σ H, Pv xs.length σ H → D.nx σ H) :
    ∃ W : Nat → Nat → L2.St → Hp → Prop, (∃ m, W 0 m σ H) ∧ ∀ i m σ H, W i m σ H →
      ((Ite K a).stop i H ∧ D.nx σ H) ∨ ((Ite K a).go i H ∧ ∃ N : L2.St → Hp → Prop, (∀ σ' H', N σ' H' → ∃ m', m' < m ∧ W (i + 1) m' σ' H') ∧ ∀ x H', (Ite K a).yld i H x H' → g x σ H' fun σ2 H2 => tb { D with nx := N, ct := N, bk := D.nx } σ2 H2) := by
  refine ⟨fun i m σ H => m = xs.length - i ∧ i ≤ xs.length ∧ Pv i σ H, ⟨xs.length, by simp, Nat.zero_le _, h0⟩, ?_⟩
  rintro i m σ H ⟨rfl, hi, p⟩
  have q := hl i σ H hi p
  by_cases hlt : i < xs.length
  · refine .inr ⟨⟨xs, xs[i], q, by simp [hlt]⟩, Pv (i + 1), fun σ' H' p' => ⟨xs.length - (i + 1), by omega, rfl, hlt, p'⟩, fun x H' y => ?_⟩
    obtain ⟨T, z, rfl, hT, rfl, hz⟩ := y
    exact hs i z σ H T (hz xs q) p hT
  · have e : i = xs.length := by omega
    subst e
    exact .inl ⟨⟨xs, q, Nat.le_refl _⟩, hd σ H p⟩
/-! ### numbers of parts -/
def nv (n : Nat) : V := .int (n : Nat)
def optV : Option Nat → V
  | none => .non
  | some i => .int (i : Nat)
def spMisfit (K : PySem.W.Frag) : Sp := fun vs H Q _ => ∃ (a : Addr) (ns : List Nat), vs = [.ref a] ∧ SqL K H a (ns.map nv) ∧ ns.length ≤ 200000 ∧ ∀ H', Same H H' → Q (optV (misF ns 0 1)) H'
abbrev s_misfit_index : Stmt := (top 5)
theorem sc_misfit_index : FnScope ["needs", "lacking", "at", "need"] ["needs"] (defScope s_misfit_index) := ⟨rfl, rfl, rfl, by decide +kernel, rfl, by decide +kernel, by decide +kernel⟩
theorem misF_drop {ns : List Nat} {i n : Nat} (h : ns[i]? = some n) (at' c : Nat) : misF (ns.drop i) at' c = if c = 0 then some at' else misF (ns.drop (i + 1)) (at' + 1) (c + n - 1) := by
  have hi : i < ns.length := by
    obtain ⟨h1, _⟩ := List.getElem?_eq_some_iff.mp h
    exact h1
  rw [List.drop_eq_getElem_cons hi]
  have : ns[i] = n := by
    obtain ⟨_, h2⟩ := List.getElem?_eq_some_iff.mp h
    exact h2
  rw [this]
  rfl
theorem mapN_get {ns : List Nat} {i : Nat} {x : V} (h : (ns.map nv)[i]? = some x) : ∃ n, ns[i]? = some n ∧ x = nv n := by
  rw [List.getElem?_map] at h
  cases hn : ns[i]? with
  | none => rw [hn] at h; cases h
  | some n => rw [hn] at h; exact ⟨n, rfl, (Option.some.inj h).symm⟩
theorem intz (c : Nat) : decide (V.int ((c : Nat) : Int) = V.int 0) = decide (c = 0) := by
  by_cases h : c = 0
  · subst h; exact (decide_eq_true rfl).trans (decide_eq_true rfl).symm
  · rw [decide_eq_false h]
    exact decide_eq_false fun e => h (by have := V.int.inj e; omega)
theorem c_misfit_index {P w K mg base} (B : Bt mg) (D : DefAt K mg "misfit_index" s_misfit_index) : Cal P w K mg base "misfit_index" 1 ["needs"] (spMisfit K) := by
  refine cal_of D sc_misfit_index (fun _ _ _ _ _ _ us hl => match us, hl with | [_], _ => rfl) (fun vs H Q E h => ?_) (fun fa cdv A outer st0 H vs Q E hr h => ?_)
  · obtain ⟨a, ws, rfl, _⟩ := h
    rfl
  · obtain ⟨a, ns, rfl, hq, hl, k⟩ := h
    refine ⟨_, (pss_cons (ps_set (i := 1) sc_misfit_index.nd rfl (by first | exact Or.inl rfl | exact Or.inr rfl) pe_int)
      (pss_cons (ps_for PassesOwn.never rfl (pi_enum (by rfl) B.b_enumerate (pa_cons (pv 0) pa_nil)) (pg_tup (by rfl) (pgs_cons (pg_name (i := 2) sc_misfit_index.nd rfl (by first | exact Or.inl rfl | exact Or.inr rfl)) (pgs_cons (pg_name (i := 3) sc_misfit_index.nd rfl (by first | exact Or.inl rfl | exact Or.inr rfl)) pgs_nil))) (pss_cons (ps_if (pt_cmpR op_eq (pv 1) pe_int (nomark _)) (pss_one (ps_ret (pv 2))) pss_nil)
      (pss_one (ps_aug (i := 1) sc_misfit_index.nd rfl (by first | exact Or.inl rfl | exact Or.inr rfl) (pe_op op_sub (pv 3) pe_int) ip_add))))
      (pss_one (ps_ret (pe_ifExp (pt_cmpR op_eq (pv 1) pe_int (nomark _)) pe_non (pe_callB call_len_seq (by rfl) B.b_len (by decide +kernel) (pa_cons (pv 0) pa_nil))))))), ?_⟩
    refine ⟨_, rfl, a, _, rfl, hq, for_enumL (K := K) (a := a) (xs := ns.map nv) (fun i σ H' => ∃ (v1 v2 : Option V) (c : Nat), σ = [some (.ref a), some (.int (c : Nat)), v1, v2] ∧ misF ns 0 1 = misF (ns.drop i) i c ∧ Same H H')
      ⟨none, none, 1, rfl, rfl, Same.refl H⟩ (fun i σ H' _ ⟨_, _, _, _, _, s⟩ => s.seq hq) ?_ ?_⟩
    · rintro i x σ H' T hx ⟨v1, v2, c, rfl, em, S1⟩ nT
      obtain ⟨n, hn, rfl⟩ := mapN_get hx
      have S2 : Same H (upd H' T (.tup [.int (i : Nat), nv n])) := S1.trans (same_upd nT)
      rw [misF_drop hn] at em
      refine ⟨T, _, rfl, SqT.of upd_same, rfl, _, _, rfl, _, _, rfl, rfl, ?_⟩
      refine ⟨_, rfl, rfl, _, rfl, ?_⟩
      rw [intz]
      by_cases hc : c = 0
      · rw [decide_eq_true hc]
        rw [if_pos hc] at em
        refine iteT ⟨_, rfl, ?_⟩
        have := k _ S2
        rw [em] at this
        exact this
      · rw [decide_eq_false hc]
        rw [if_neg hc] at em
        refine iteF ⟨_, rfl, _, rfl, _, _, rfl, rfl, _, _, rfl, rfl, ?_⟩
        refine ⟨some (.int (i : Nat)), some (nv n), c + n - 1, ?_, em, S2⟩
        rw [show (((c + n - 1 : Nat)) : Int) = (c : Int) + ((n : Int) - 1) by omega]
        rfl
    · rintro σ H' ⟨v1, v2, c, rfl, em, S1⟩
      rw [List.length_map, List.drop_length] at em
      have := k _ S1
      rw [em] at this
      refine ⟨_, rfl, rfl, _, rfl, ?_⟩
      rw [intz]
      by_cases hc : c = 0
      · rw [decide_eq_true hc]
        rw [show misF [] ns.length c = none by unfold misF; rw [if_pos hc]] at this
        exact iteT this
      · rw [decide_eq_false hc]
        rw [show misF [] ns.length c = some ns.length by unfold misF; rw [if_neg hc]] at this
        refine iteF ⟨_, rfl, _, _, rfl, .inl (S1.seq hq), ?_⟩
        rw [List.length_map]
        exact this
def endsV (n : Nat) (E : Nat → Nat) : List V := (List.range n).map fun i => V.int (E i : Nat)
theorem endsV_len (n : Nat) (E : Nat → Nat) : (endsV n E).length = n := by simp [endsV]
theorem endsV_get {n : Nat} {E : Nat → Nat} {i : Nat} (h : i < n) : (endsV n E)[i]? = some (.int (E i : Nat)) := by simp [endsV, h]
def spEndsBy (K : PySem.W.Frag) : Sp := fun vs H Q _ => ∃ (a : Addr) (ns : List Nat) (E : Nat → Nat), vs = [.ref a] ∧ SqL K H a (ns.map nv) ∧ EndsN ns E ∧ ns.length ≤ 200000 ∧
  ∀ H' q, Same H H' → H q = none → TupF H' q (endsV ns.length E) → Q (.ref q) H'
abbrev s_ends_by : Stmt := (top 6)
theorem sc_ends_by : FnScope ["needs", "behind", "at", "_"] ["needs"] (defScope s_ends_by) := ⟨rfl, rfl, rfl, by decide +kernel, rfl, by decide +kernel, by decide +kernel⟩
theorem c_ends_by {P w K mg base} (B : Bt mg) (D : DefAt K mg "ends_by" s_ends_by) : Cal P w K mg base "ends_by" 1 ["needs"] (spEndsBy K) := by
  refine cal_of D sc_ends_by (fun _ _ _ _ _ _ us hl => match us, hl with | [_], _ => rfl) (fun vs H Q E h => ?_) (fun fa cdv A outer st0 H vs Q E hr h => ?_)
  · obtain ⟨a, ws, E, rfl, _⟩ := h
    rfl
  · obtain ⟨a, ns, E, rfl, hq, he, hl, k⟩ := h
    refine ⟨_, (pss_cons (ps_set (i := 1) sc_ends_by.nd rfl (by first | exact Or.inl rfl | exact Or.inr rfl) (pe_op op_rep (pe_lst (pa_cons pe_int pa_nil)) (pe_callB call_len_seq (by rfl) B.b_len (by decide +kernel) (pa_cons (pv 0) pa_nil))))
      (pss_cons (ps_for PassesOwn.never rfl (pi_revR (by rfl) B.b_reversed (prg_1 (by rfl) B.b_range (pe_callB call_len_seq (by rfl) B.b_len (by decide +kernel) (pa_cons (pv 0) pa_nil)))) (pg_name (i := 2) sc_ends_by.nd rfl (by first | exact Or.inl rfl | exact Or.inr rfl)) (pss_cons (ps_asg (pe_op op_add (pv 2) pe_int) (pg_sub (pv 1) (pv 2) set_list))
      (pss_one (ps_for PassesOwn.never rfl (pi_range1 (by rfl) B.b_range (pa_cons (pe_ix ix_list (pv 0) (pv 2) (fun _ _ => rfl)) pa_nil)) (pg_name (i := 3) sc_ends_by.nd rfl (by first | exact Or.inl rfl | exact Or.inr rfl)) (pss_one (ps_asg (pe_ix ix_list (pv 1) (pe_ix ix_list (pv 1) (pv 2) (fun _ _ => rfl)) (fun _ _ => rfl)) (pg_sub (pv 1) (pv 2) set_list)))))))
      (pss_one (ps_ret (pe_callTy call_tupleF (by rfl) B.b_tuple (by decide +kernel) (pa_cons (pv 1) pa_nil)))))), ?_⟩
    have hlm : (ns.map nv).length = ns.length := List.length_map ..
    -- behind = [0] * len(words)
    refine ⟨(by show 1 ≤ sizeLine; decide), fun z nz => ?_⟩
    have Sz : Same H (upd H z (.lst [.int 0])) := same_upd nz
    have Lz : upd H z (.lst [.int 0]) z = some (.lst [.int 0]) := upd_same
    generalize upd H z (.lst [.int 0]) = H1 at *
    refine ⟨_, rfl, _, _, rfl, .inl (Sz.seq hq), z, _, _, rfl, rfl, Lz, by omega, by omega, ?_, fun b nb => ?_⟩
    · rw [hlm, sizeLine_eq]; show 1 * _ ≤ _; omega
    have eb : (List.replicate (((ns.map nv).length : Nat) : Int).toNat [V.int 0]).flatten = List.replicate ns.length (V.int 0) := by
      rw [hlm]
      show (List.replicate ns.length [V.int 0]).flatten = _
      induction ns.length with
      | zero => rfl
      | succ n ih => rw [List.replicate_succ, List.flatten_cons, ih, List.replicate_succ]; rfl
    rw [eb]
    have Sb : Same H (upd H1 b (.lst (List.replicate ns.length (V.int 0)))) := Sz.trans (same_upd nb)
    have Lb : upd H1 b (.lst (List.replicate ns.length (V.int 0))) b = some (.lst (List.replicate ns.length (V.int 0))) := upd_same
    have fb : H b = none := Sz.free nb
    generalize upd H1 b (.lst (List.replicate ns.length (V.int 0))) = H2 at *
    have en : ((((ns.map nv).length : Nat) : Int) - 0).toNat = ns.length := by rw [hlm]; omega
    refine ⟨_, rfl, _, _, rfl, .inl (Sb.seq hq), _, rfl, by decide, by decide, by omega, by omega, for_rangeC (lo := (0 : Int) + (((((ns.map nv).length : Nat) : Int) - 0).toNat : Nat) - 1) (c := -1) (n := ((((ns.map nv).length : Nat) : Int) - 0).toNat)
      (fun i σ H' => ∃ (v v2 : Option V) (L : List V), σ = [some (.ref a), some (.ref b), v, v2] ∧ Same H H' ∧ H' b = some (.lst L) ∧ L.length = ns.length ∧ ∀ j, ns.length ≤ j + i → j < ns.length → L[j]? = some (.int (E j : Nat)))
      ⟨none, none, _, rfl, Sb, Lb, List.length_replicate .., fun j h1 h2 => absurd h2 (by omega)⟩ ?_ ?_⟩
    · rintro i σ H' hi ⟨v, v2, L, rfl, S3, L3, hL, hE⟩
      rw [en] at hi
      obtain ⟨m, hm⟩ : ∃ m : Nat, m + i + 1 = ns.length := ⟨ns.length - 1 - i, by omega⟩
      have eat : ((0 : Int) + (((((ns.map nv).length : Nat) : Int) - 0).toNat : Nat) - 1) + (i : Nat) * (-1) = (m : Int) := by rw [en]; omega
      rw [eat]
      have hml : m < ns.length := by omega
      obtain ⟨n, hn⟩ : ∃ n, ns[m]? = some n := ⟨ns[m], List.getElem?_eq_getElem hml⟩
      have hnv : (ns.map nv)[m]? = some (nv n) := by rw [List.getElem?_map, hn]; rfl
      obtain ⟨hj, hEm⟩ := he.ex m n hn
      have hn2 := he.le n (List.mem_of_getElem? hn)
      have q3 := S3.seq hq
      have ixm : ixN L.length (m : Int) = some m := ixN_lt (by omega)
      refine ⟨_, rfl, _, _, rfl, rfl, _, rfl, _, rfl, b, _, _, m, rfl, rfl, L3, ixm, ?_⟩
      have off : ∀ c o, H c = some o → c ≠ b := fun c o hc => ne_of_none hc fb
      refine ⟨_, rfl, _, rfl, a, _, _, _, rfl, rfl, (show SqL K _ a _ from Same.seq (fun c o hc => by rw [upd_ne (off c o hc)]; exact S3 c o hc) hq), atI_nat hnv, n, rfl, by omega, by omega, for_range (lo := 0) (n := ((n : Nat) : Int).toNat)
        (fun j σ H' => ∃ (v2 : Option V) (L : List V), σ = [some (.ref a), some (.ref b), some (.int (m : Nat)), v2] ∧ Same H H' ∧ H' b = some (.lst L) ∧ L.length = ns.length ∧ L[m]? = some (.int (itE E m j : Nat)) ∧ ∀ j, m < j → j < ns.length → L[j]? = some (.int (E j : Nat))) ?_ ?_ ?_⟩
      · refine ⟨_, _, rfl, fun c o hc => by rw [upd_ne (off c o hc)]; exact S3 c o hc, upd_same, by rw [List.length_set]; exact hL, List.getElem?_set_self (by omega), fun j h1 h2 => ?_⟩
        rw [List.getElem?_set_ne (by omega)]
        exact hE j (by omega) h2
      · rintro j σ H4 hjn ⟨v2, L4, rfl, S4, L4h, hL4, hm4, hE4⟩
        obtain ⟨j1, j2⟩ := hj j (by omega)
        have ixm4 : ixN L4.length (m : Int) = some m := ixN_lt (by omega)
        refine ⟨_, rfl, _, rfl, _, rfl, b, _, _, _, rfl, rfl, SqL.of L4h, atI_nat hm4, b, _, _, _, rfl, rfl, SqL.of L4h, atI_nat (hE4 _ j1 j2), _, rfl, _, rfl, b, _, _, m, rfl, rfl, L4h, ixm4, ?_⟩
        refine ⟨_, _, rfl, fun c o hc => by rw [upd_ne (off c o hc)]; exact S4 c o hc, upd_same, by rw [List.length_set]; exact hL4, List.getElem?_set_self (by omega), fun j' h1 h2 => ?_⟩
        rw [List.getElem?_set_ne (by omega)]
        exact hE4 j' h1 h2
      · rintro σ H4 ⟨v2, L4, rfl, S4, L4h, hL4, hm4, hE4⟩
        refine ⟨_, _, _, rfl, S4, L4h, hL4, fun j h1 h2 => ?_⟩
        by_cases hjm : j = m
        · subst hjm
          rw [hm4, hEm]
          rfl
        · exact hE4 j (by omega) h2
    · rintro σ H' ⟨v, v2, L, rfl, S3, L3, hL, hE⟩
      rw [en] at hE
      have eL : L = endsV ns.length E := by
        apply List.ext_getElem?
        intro j
        by_cases hj : j < ns.length
        · rw [hE j (by omega) hj, endsV_get hj]
        · rw [List.getElem?_eq_none (by omega), List.getElem?_eq_none (by rw [endsV_len]; omega)]
      refine ⟨_, rfl, _, _, rfl, SqL.of L3, fun q o nq ho => ?_⟩
      rw [eL]
      exact k _ q (S3.trans (same_upd nq)) (S3.free nq) (TupF.new ho)
end Kk

set_option maxHeartbeats 1000000
/-! names told anew: plain mathematics -/
namespace Wd
open PySem
theorem T.tk_lv : ∀ (t : T) (n : Nm), t.sc → n ∈ t.tks → n ∈ t.lv
  | .nm _, n, _, h => by simp [T.tks] at h
  | .ap f a, n, s, h => by
    rcases List.mem_append.mp h with h | h
    · exact List.mem_append_left _ (tk_lv f n s.1 h)
    · exact List.mem_append_right _ (tk_lv a n s.2 h)
  | .tk m b, n, s, h => by
    rcases List.mem_cons.mp h with rfl | h
    · exact s.1
    · exact tk_lv b n s.2 h
def nmsOf (ws : List W) : List Nm := ws.filterMap (fun w => match w with | .nm n => some n | _ => none)
theorem nmsOf_tree (t : T) : nmsOf t.ws = t.lv := (T.lv_ws t).symm
theorem nmsOf_app (F G : List W) : nmsOf (F ++ G) = nmsOf F ++ nmsOf G := by simp [nmsOf]
theorem nmsOf_len (F : List W) : (nmsOf F).length ≤ F.length := List.length_filterMap_le _ _
theorem mem_nms {ws : List W} {n : Nm} : n ∈ nmsOf ws ↔ W.nm n ∈ ws := by
  unfold nmsOf
  rw [List.mem_filterMap]
  constructor
  · rintro ⟨w, hw, e⟩
    cases w with
    | nm m => cases e; exact hw
    | ap => cases e
    | tk m => cases e
  · exact fun h => ⟨_, h, rfl⟩
theorem mem_tks {ws : List W} {n : Nm} : n ∈ takesOf ws ↔ W.tk n ∈ ws := by
  unfold takesOf
  rw [List.mem_filterMap]
  constructor
  · rintro ⟨w, hw, e⟩
    cases w with
    | tk m => cases e; exact hw
    | ap => cases e
    | nm m => cases e
  · exact fun h => ⟨_, h, rfl⟩
theorem Vd.nmsNd {ws : List W} (v : Vd ws) : (nmsOf ws).Nodup := by
  obtain ⟨⟨t, rfl, s, nl, nt⟩, ok⟩ := v
  rw [nmsOf_tree]; exact nl
theorem Vd.tksNd {ws : List W} (v : Vd ws) : (takesOf ws).Nodup := by
  obtain ⟨⟨t, rfl, s, nl, nt⟩, ok⟩ := v
  rw [takesOf_tree]; exact nt
theorem Vd.tkIn {ws : List W} (v : Vd ws) {n : Nm} (h : n ∈ takesOf ws) : n ∈ nmsOf ws := by
  obtain ⟨⟨t, rfl, s, nl, nt⟩, ok⟩ := v
  rw [takesOf_tree] at h
  rw [nmsOf_tree]
  exact t.tk_lv n s h
theorem Vd.nmOk {ws : List W} (v : Vd ws) {n : Nm} (h : n ∈ nmsOf ws) : nmOk n := v.ok _ (mem_nms.mp h)
theorem Vd.nmsNe {ws : List W} (v : Vd ws) : nmsOf ws ≠ [] := by
  obtain ⟨⟨t, rfl, s, nl, nt⟩, ok⟩ := v
  rw [nmsOf_tree]
  intro h
  have := T.lv_aps t
  rw [h] at this
  simp at this
def openN (ws : List W) : List Nm := (nmsOf ws).filter fun n => decide (n ∉ takesOf ws)
theorem mem_open {ws : List W} {n : Nm} : n ∈ openN ws ↔ n ∈ nmsOf ws ∧ n ∉ takesOf ws := by
  unfold openN
  rw [List.mem_filter]
  simp
/-! ### the words with names told anew -/
def renW (g : Nm → Nm) : W → W
  | .ap => .ap
  | .tk n => .tk (g n)
  | .nm n => .nm (g n)
theorem tks_ren (g : Nm → Nm) (ws : List W) : takesOf (ws.map (renW g)) = (takesOf ws).map g := by
  induction ws with
  | nil => rfl
  | cons w ws ih => cases w <;> simp_all [takesOf, renW]
theorem nms_ren (g : Nm → Nm) (ws : List W) : nmsOf (ws.map (renW g)) = (nmsOf ws).map g := by
  induction ws with
  | nil => rfl
  | cons w ws ih => cases w <;> simp_all [nmsOf, renW]
theorem ren_comp (g h : Nm → Nm) (ws : List W) : (ws.map (renW g)).map (renW h) = ws.map (renW fun n => h (g n)) := by
  rw [List.map_map]
  refine List.map_congr_left fun w _ => ?_
  cases w <;> rfl
theorem ren_id {g : Nm → Nm} {ws : List W} (h : ∀ n, (W.nm n ∈ ws ∨ W.tk n ∈ ws) → g n = n) : ws.map (renW g) = ws := by
  refine (List.map_congr_left fun w hw => ?_).trans (List.map_id _)
  cases w with
  | ap => rfl
  | tk n => show W.tk (g n) = _; rw [h n (.inr hw)]; rfl
  | nm n => show W.nm (g n) = _; rw [h n (.inl hw)]; rfl
theorem ren_congr {g h : Nm → Nm} {ws : List W} (e : ∀ n, (W.nm n ∈ ws ∨ W.tk n ∈ ws) → g n = h n) : ws.map (renW g) = ws.map (renW h) := by
  refine List.map_congr_left fun w hw => ?_
  cases w with
  | ap => rfl
  | tk n => show W.tk (g n) = W.tk (h n); rw [e n (.inr hw)]
  | nm n => show W.nm (g n) = W.nm (h n); rw [e n (.inl hw)]
namespace T
def ren (g : Nm → Nm) : T → T
  | .nm n => .nm (g n)
  | .ap f a => .ap (f.ren g) (a.ren g)
  | .tk n b => .tk (g n) (b.ren g)
theorem ren_ws (g : Nm → Nm) : ∀ t : T, (t.ren g).ws = t.ws.map (renW g)
  | .nm _ => rfl
  | .ap f a => by simp [ren, ws, renW, ren_ws g f, ren_ws g a]
  | .tk _ b => by simp [ren, ws, renW, ren_ws g b]
theorem ren_lv (g : Nm → Nm) : ∀ t : T, (t.ren g).lv = t.lv.map g
  | .nm _ => rfl
  | .ap f a => by simp [ren, lv, ren_lv g f, ren_lv g a]
  | .tk _ b => by simp [ren, lv, ren_lv g b]
theorem ren_tks (g : Nm → Nm) : ∀ t : T, (t.ren g).tks = t.tks.map g
  | .nm _ => rfl
  | .ap f a => by simp [ren, tks, ren_tks g f, ren_tks g a]
  | .tk _ b => by simp [ren, tks, ren_tks g b]
theorem ren_sc (g : Nm → Nm) : ∀ t : T, t.sc → (t.ren g).sc
  | .nm _, h => h
  | .ap f a, h => ⟨ren_sc g f h.1, ren_sc g a h.2⟩
  | .tk n b, h => ⟨by rw [ren_lv]; exact List.mem_map.mpr ⟨n, h.1, rfl⟩, ren_sc g b h.2⟩
end T
theorem nodup_map {α β : Type} {g : α → β} {l : List α} (nd : l.Nodup) (inj : ∀ a ∈ l, ∀ b ∈ l, g a = g b → a = b) : (l.map g).Nodup := by
  refine List.pairwise_map.mpr (List.Pairwise.imp_of_mem ?_ nd)
  intro a b ha hb hne e
  exact hne (inj a ha b hb e)
def InjOn (g : Nm → Nm) (l : List Nm) : Prop := ∀ a ∈ l, ∀ b ∈ l, g a = g b → a = b
theorem Vd.ren {ws : List W} (v : Vd ws) {g : Nm → Nm} (inj : InjOn g (nmsOf ws)) (gok : ∀ n ∈ nmsOf ws, Wd.nmOk (g n)) : Vd (ws.map (renW g)) := by
  have v' := v
  obtain ⟨⟨t, rfl, s, nl, nt⟩, ok⟩ := v
  refine ⟨⟨t.ren g, T.ren_ws g t, T.ren_sc g t s, ?_, ?_⟩, fun w hw => ?_⟩
  · rw [T.ren_lv]
    rw [nmsOf_tree] at inj
    exact nodup_map nl inj
  · rw [T.ren_tks]
    refine nodup_map nt fun a ha b hb e => inj a ?_ b ?_ e
    · rw [nmsOf_tree]; exact t.tk_lv a s ha
    · rw [nmsOf_tree]; exact t.tk_lv b s hb
  · obtain ⟨u, hu, rfl⟩ := List.mem_map.mp hw
    cases u with
    | ap => trivial
    | tk n => exact gok n (v'.tkIn (mem_tks.mpr hu))
    | nm n => exact gok n (mem_nms.mpr hu)
/-! ### the first names that are not held -/
def freshN (n : Nat) (held : List Nm) : List Nm := (((List.range (n + held.length)).map lett).filter fun x => decide (x ∉ held)).take n
theorem row_nodup {m : Nat} (h : m ≤ 217180147158) : ((List.range m).map lett).Nodup :=
  nodup_map List.nodup_range fun a ha b hb e => lett_inj (by have := List.mem_range.mp ha; omega) (by have := List.mem_range.mp hb; omega) e
theorem filter_split {α : Type} (p : α → Bool) (l : List α) : (l.filter p).length + (l.filter fun x => !p x).length = l.length := by
  induction l with
  | nil => rfl
  | cons a l ih =>
    cases h : p a <;> simp [h] <;> omega
theorem freshN_len {n : Nat} {held : List Nm} (h : n + held.length ≤ 217180147158) : (freshN n held).length = n := by
  unfold freshN
  rw [List.length_take]
  have nd := row_nodup h
  have s := filter_split (fun x => decide (x ∉ held)) ((List.range (n + held.length)).map lett)
  have l1 : (((List.range (n + held.length)).map lett).filter fun x => !decide (x ∉ held)).length ≤ held.length := by
    refine nodup_len (nd.sublist List.filter_sublist) fun x hx => ?_
    have := (List.mem_filter.mp hx).2
    simpa using this
  rw [List.length_map, List.length_range] at s
  omega
theorem freshN_nodup {n : Nat} {held : List Nm} (h : n + held.length ≤ 217180147158) : (freshN n held).Nodup :=
  ((row_nodup h).sublist List.filter_sublist).sublist (List.take_sublist _ _)
theorem freshN_mem {n : Nat} {held : List Nm} {x : Nm} (h : x ∈ freshN n held) : x ∉ held ∧ ∃ k, k < n + held.length ∧ x = lett k := by
  have h1 := List.mem_filter.mp (List.mem_of_mem_take h)
  obtain ⟨k, hk, rfl⟩ := List.mem_map.mp h1.1
  exact ⟨by simpa using h1.2, k, List.mem_range.mp hk, rfl⟩
theorem freshN_ok {n : Nat} {held : List Nm} (hl : n + held.length ≤ 217180147158) {x : Nm} (h : x ∈ freshN n held) : nmOk x := by
  obtain ⟨_, k, hk, rfl⟩ := freshN_mem h
  exact lett_ok (by omega)
/-! ### the table of the new names -/
abbrev Own := Nat × Nm
def tblF (ps : List (Own × Nm)) (o : Nat) (n : Nm) : Option Nm := ((ps.filter fun p => decide (p.1 = (o, n))).getLast?).map (·.2)
theorem tblF_snoc (ps : List (Own × Nm)) (p : Own × Nm) (o : Nat) (n : Nm) : tblF (ps ++ [p]) o n = if p.1 = (o, n) then some p.2 else tblF ps o n := by
  unfold tblF
  rw [List.filter_append]
  by_cases h : p.1 = (o, n)
  · rw [if_pos h]
    simp [h]
  · rw [if_neg h]
    simp [h]
theorem tblF_zip {as : List Own} {bs : List Nm} (nd : as.Nodup) {i : Nat} {o : Nat} {n m : Nm} (h1 : as[i]? = some (o, n)) (h2 : bs[i]? = some m) : tblF (as.zip bs) o n = some m := by
  have hz : (as.zip bs)[i]? = some ((o, n), m) := by rw [List.getElem?_zip_eq_some]; exact ⟨h1, h2⟩
  have all : ∀ p ∈ (as.zip bs).filter (fun p => decide (p.1 = (o, n))), p = ((o, n), m) := by
    intro p hp
    obtain ⟨hp1, hp2⟩ := List.mem_filter.mp hp
    have hp3 : p.1 = (o, n) := by simpa using hp2
    obtain ⟨j, hj⟩ := List.mem_iff_getElem?.mp hp1
    obtain ⟨g1, g2⟩ := List.getElem?_zip_eq_some.mp hj
    have : j = i := by
      obtain ⟨k1, e1⟩ := List.getElem?_eq_some_iff.mp g1
      obtain ⟨k2, e2⟩ := List.getElem?_eq_some_iff.mp h1
      exact (List.getElem_inj nd).mp (by rw [e1, e2, hp3])
    subst this
    rw [hz] at hj
    exact (Option.some.inj hj).symm
  have ne : (as.zip bs).filter (fun p => decide (p.1 = (o, n))) ≠ [] := by
    intro e
    have : ((o, n), m) ∈ (as.zip bs).filter (fun p => decide (p.1 = (o, n))) := List.mem_filter.mpr ⟨List.mem_of_getElem? hz, by simp⟩
    rw [e] at this
    cases this
  unfold tblF
  cases hq : ((as.zip bs).filter fun p => decide (p.1 = (o, n))).getLast? with
  | none => exact absurd (List.getLast?_eq_none_iff.mp hq) ne
  | some q =>
    rw [all q (List.mem_of_getLast? hq)]
    rfl
theorem tblF_none {as : List Own} {bs : List Nm} {o : Nat} {n : Nm} (h : (o, n) ∉ as) : tblF (as.zip bs) o n = none := by
  have : (as.zip bs).filter (fun p => decide (p.1 = (o, n))) = [] := by
    rw [List.filter_eq_nil_iff]
    intro p hp hc
    have hp3 : p.1 = (o, n) := by simpa using hc
    exact h (by rw [← hp3]; exact (List.of_mem_zip (a := p.1) (b := p.2) hp).1)
  unfold tblF
  rw [this]
  rfl
def re (f : Nm → Option Nm) (n : Nm) : Nm := (f n).getD n
def owned (ps : List (Nat × List W)) : List Own := ps.flatMap fun p => (takesOf p.2).map fun n => (p.1, n)
def frOf (ps : List (Nat × List W)) (held : List Nm) : List (Own × Nm) := (owned ps).zip (freshN (owned ps).length held)
def toldW (ps : List (Nat × List W)) (held : List Nm) : List W := ps.flatMap fun p => p.2.map (renW (re (tblF (frOf ps held) p.1)))
def stdW (ws : List W) : List W := toldW [(0, ws)] (openN ws)
def stdR (ws : List W) : Nm → Nm := re (tblF (frOf [(0, ws)] (openN ws)) 0)
theorem stdW_eq (ws : List W) : stdW ws = ws.map (renW (stdR ws)) := by
  unfold stdW toldW stdR
  simp
theorem owned_one (ws : List W) : owned [(0, ws)] = (takesOf ws).map fun n => (0, n) := by simp [owned]
theorem stdR_open {ws : List W} {n : Nm} (h : n ∉ takesOf ws) : stdR ws n = n := by
  unfold stdR re frOf
  rw [tblF_none]
  · rfl
  · rw [owned_one]
    intro hm
    obtain ⟨m, hm, e⟩ := List.mem_map.mp hm
    cases e
    exact h hm
theorem open_len (ws : List W) : (openN ws).length ≤ ws.length := Nat.le_trans (List.length_filter_le _ _) (nmsOf_len ws)
theorem bound {ws : List W} (hl : ws.length ≤ 100000000000) : (takesOf ws).length + (openN ws).length ≤ 217180147158 := by
  have := takesOf_len ws
  have := open_len ws
  omega
theorem stdR_take {ws : List W} (v : Vd ws) (hl : ws.length ≤ 100000000000) {i : Nat} {n : Nm} (h : (takesOf ws)[i]? = some n) : some (stdR ws n) = (freshN (takesOf ws).length (openN ws))[i]? := by
  have hlen : (freshN (takesOf ws).length (openN ws)).length = (takesOf ws).length := freshN_len (bound hl)
  have hi := (List.getElem?_eq_some_iff.mp h).1
  have e1 : (freshN (takesOf ws).length (openN ws))[i]? = some ((freshN (takesOf ws).length (openN ws))[i]'(by omega)) := List.getElem?_eq_getElem _
  rw [e1]
  refine congrArg some ?_
  unfold stdR re frOf
  rw [owned_one, List.length_map]
  rw [tblF_zip (i := i) (nodup_map v.tksNd fun a _ b _ e => by cases e; rfl) (by rw [List.getElem?_map, h]; rfl) e1]
  rfl
theorem stdR_ok {ws : List W} (v : Vd ws) (hl : ws.length ≤ 100000000000) {n : Nm} (h : n ∈ nmsOf ws) : Wd.nmOk (stdR ws n) := by
  by_cases ht : n ∈ takesOf ws
  · obtain ⟨i, hi⟩ := List.mem_iff_getElem?.mp ht
    exact freshN_ok (bound hl) (List.mem_of_getElem? (stdR_take v hl hi).symm)
  · rw [stdR_open ht]
    exact v.nmOk h
theorem stdW_ok {ws : List W} (v : Vd ws) (hl : ws.length ≤ 100000000000) : ∀ w ∈ stdW ws, wOk w := by
  rw [stdW_eq]
  intro w hw
  obtain ⟨u, hu, rfl⟩ := List.mem_map.mp hw
  cases u with
  | ap => trivial
  | tk n => exact stdR_ok v hl (v.tkIn (mem_tks.mpr hu))
  | nm n => exact stdR_ok v hl (mem_nms.mpr hu)
/-- the standard words are the same just if the open names are -/
theorem std_same {ws : List W} (v : Vd ws) (hl : ws.length ≤ 100000000000) {g : Nm → Nm} (inj : InjOn g (nmsOf ws)) : stdW (ws.map (renW g)) = stdW ws ↔ ∀ n ∈ openN ws, g n = n := by
  have tk' : ∀ n, n ∈ nmsOf ws → (g n ∈ (takesOf ws).map g ↔ n ∈ takesOf ws) := fun n hn => by
    constructor
    · intro h
      obtain ⟨m, hm, e⟩ := List.mem_map.mp h
      rw [← inj m (v.tkIn hm) n hn e]
      exact hm
    · exact fun h => List.mem_map.mpr ⟨n, h, rfl⟩
  have op' : openN (ws.map (renW g)) = (openN ws).map g := by
    unfold openN
    rw [nms_ren, tks_ren, List.filter_map]
    congr 1
    refine List.filter_congr fun n hn => ?_
    show decide (g n ∉ (takesOf ws).map g) = decide (n ∉ takesOf ws)
    rw [decide_eq_decide]
    exact not_congr (tk' n hn)
  rw [stdW_eq, stdW_eq, ren_comp]
  constructor
  · intro e n hn
    obtain ⟨h1, h2⟩ := mem_open.mp hn
    have e2 := (List.map_inj_left.mp e) (.nm n) (mem_nms.mp h1)
    have e3 : stdR (ws.map (renW g)) (g n) = stdR ws n := by simpa [renW] using e2
    rw [stdR_open h2, stdR_open (by rw [tks_ren]; exact fun h => h2 ((tk' n h1).mp h))] at e3
    exact e3
  · intro h
    have eo : openN (ws.map (renW g)) = openN ws := by
      rw [op']
      exact (List.map_congr_left h).trans (List.map_id _)
    have v0 : (takesOf (ws.map (renW g))).Nodup := by
      rw [tks_ren]
      exact nodup_map v.tksNd fun a ha b hb e => inj a (v.tkIn ha) b (v.tkIn hb) e
    refine ren_congr fun n hn => ?_
    have hn' : n ∈ nmsOf ws := hn.elim (fun h => mem_nms.mpr h) fun h => v.tkIn (mem_tks.mpr h)
    by_cases ht : n ∈ takesOf ws
    · obtain ⟨i, hi⟩ := List.mem_iff_getElem?.mp ht
      have a1 := stdR_take v hl hi
      have hlen : (freshN (takesOf ws).length (openN ws)).length = (takesOf ws).length := freshN_len (bound hl)
      have hi' := (List.getElem?_eq_some_iff.mp hi).1
      have e1 : (freshN (takesOf ws).length (openN ws))[i]? = some ((freshN (takesOf ws).length (openN ws))[i]'(by omega)) := List.getElem?_eq_getElem _
      have a2 : stdR (ws.map (renW g)) (g n) = (freshN (takesOf ws).length (openN ws))[i]'(by omega) := by
        unfold stdR re frOf
        rw [owned_one, List.length_map, tks_ren, List.length_map, eo]
        rw [tblF_zip (i := i) (nodup_map (by rw [← tks_ren]; exact v0) fun a _ b _ e => by cases e; rfl) (by rw [List.getElem?_map, List.getElem?_map, hi]; rfl) e1]
        rfl
      rw [a2]
      rw [e1] at a1
      exact (Option.some.inj a1).symm
    · rw [stdR_open ht, stdR_open (by rw [tks_ren]; exact fun h => ht ((tk' n hn').mp h))]
      exact h n (mem_open.mpr ⟨hn', ht⟩)
end Wd

set_option maxHeartbeats 1000000
/-! words whose names are told by who takes them: plain mathematics -/
namespace Wd
open PySem
inductive Im where
  | ap
  | op (n : Nm)
  | tk (o : Own)
  | nm (o : Own)
deriving DecidableEq
def takesI (is : List Im) : List Own := is.filterMap fun i => match i with | .tk o => some o | _ => none
def opensI (is : List Im) : List Nm := is.filterMap fun i => match i with | .op n => some n | _ => none
def rdO (ps : List (Own × Nm)) (o : Own) : Nm := re (tblF ps o.1) o.2
def outI (ps : List (Own × Nm)) : Im → W
  | .ap => .ap
  | .op n => .nm n
  | .tk o => .tk (rdO ps o)
  | .nm o => .nm (rdO ps o)
def frI (held : List Nm) (is : List Im) : List (Own × Nm) := (takesI is).zip (freshN (takesI is).length held)
def stdI (held : List Nm) (is : List Im) : List W := is.map (outI (frI held is))
def mkI (os : List Own) (o : Nat) : W → Im
  | .ap => .ap
  | .tk n => .tk (o, n)
  | .nm n => if (o, n) ∈ os then .nm (o, n) else .op n
def itemsP (ps : List (Nat × List W)) : List Im := ps.flatMap fun p => p.2.map (mkI (owned ps) p.1)
/-- one program's words, its names marked -/
def markI (o : Nat) (ws : List W) : List Im := ws.map (mkI (owned [(o, ws)]) o)
theorem owned_o (o : Nat) (ws : List W) : owned [(o, ws)] = (takesOf ws).map fun n => (o, n) := by simp [owned]
theorem mem_owned_o {o : Nat} {ws : List W} {n : Nm} : (o, n) ∈ owned [(o, ws)] ↔ n ∈ takesOf ws := by
  rw [owned_o]
  constructor
  · intro h
    obtain ⟨m, hm, e⟩ := List.mem_map.mp h
    cases e
    exact hm
  · exact fun h => List.mem_map.mpr ⟨n, h, rfl⟩
theorem takesI_app (is js : List Im) : takesI (is ++ js) = takesI is ++ takesI js := by simp [takesI]
theorem takesI_mk (os : List Own) (o : Nat) (ws : List W) : takesI (ws.map (mkI os o)) = (takesOf ws).map fun n => (o, n) := by
  induction ws with
  | nil => rfl
  | cons w ws ih =>
    cases w with
    | ap => simpa [takesI, mkI, takesOf] using ih
    | tk n => simpa [takesI, mkI, takesOf] using ih
    | nm n =>
      by_cases h : (o, n) ∈ os
      · simpa [takesI, mkI, takesOf, h] using ih
      · simpa [takesI, mkI, takesOf, h] using ih
theorem takesI_flat (os : List Own) (ps : List (Nat × List W)) : takesI (ps.flatMap fun p => p.2.map (mkI os p.1)) = owned ps := by
  induction ps with
  | nil => rfl
  | cons p ps ih =>
    rw [List.flatMap_cons, takesI_app, takesI_mk, ih]
    rfl
theorem takesI_items (ps : List (Nat × List W)) : takesI (itemsP ps) = owned ps := takesI_flat _ _
theorem takesI_mark (o : Nat) (ws : List W) : takesI (markI o ws) = (takesOf ws).map fun n => (o, n) := takesI_mk _ _ _
theorem told_std (ps : List (Nat × List W)) (held : List Nm) : toldW ps held = stdI held (itemsP ps) := by
  unfold stdI frI
  rw [takesI_items]
  unfold itemsP toldW frOf
  rw [List.map_flatMap]
  congr 1
  funext p
  rw [List.map_map]
  refine List.map_congr_left fun w _ => ?_
  cases w with
  | ap => rfl
  | tk n => rfl
  | nm n =>
    show W.nm _ = outI _ (if (p.1, n) ∈ owned ps then Im.nm (p.1, n) else .op n)
    by_cases h : (p.1, n) ∈ owned ps
    · rw [if_pos h]; rfl
    · rw [if_neg h]
      show W.nm (re _ n) = W.nm n
      unfold re
      rw [tblF_none h]
      rfl
theorem mem_takesI {is : List Im} {o : Own} : o ∈ takesI is ↔ Im.tk o ∈ is := by
  unfold takesI
  rw [List.mem_filterMap]
  constructor
  · rintro ⟨i, hi, e⟩
    cases i with
    | tk q => cases e; exact hi
    | ap => cases e
    | op n => cases e
    | nm q => cases e
  · exact fun h => ⟨_, h, rfl⟩
theorem mem_opensI {is : List Im} {n : Nm} : n ∈ opensI is ↔ Im.op n ∈ is := by
  unfold opensI
  rw [List.mem_filterMap]
  constructor
  · rintro ⟨i, hi, e⟩
    cases i with
    | op q => cases e; exact hi
    | ap => cases e
    | tk n => cases e
    | nm q => cases e
  · exact fun h => ⟨_, h, rfl⟩
/-- all that is said to be taken is taken, and once -/
structure Wl (is : List Im) : Prop where
  nd : (takesI is).Nodup
  all : ∀ o, Im.nm o ∈ is → o ∈ takesI is
/-! ### the first free names, whatever stands behind them -/
theorem freshN_big {n m : Nat} {held : List Nm} (hm : n + held.length ≤ m) (hb : m ≤ 217180147158) : freshN n held = (((List.range m).map lett).filter fun x => decide (x ∉ held)).take n := by
  obtain ⟨d, rfl⟩ : ∃ d, m = (n + held.length) + d := ⟨m - (n + held.length), by omega⟩
  have hl := freshN_len (n := n) (held := held) (by omega)
  unfold freshN at *
  have e : List.range (n + held.length + d) = List.range (n + held.length) ++ (List.range d).map fun x => n + held.length + x := List.range_add ..
  rw [e, List.map_append, List.filter_append]
  rw [List.length_take] at hl
  rw [List.take_append_of_le_length (by omega)]
theorem freshN_set {n : Nat} {held held' : List Nm} (h : ∀ k, lett k ∈ held ↔ lett k ∈ held') (b : n + held.length ≤ 217180147158) (b' : n + held'.length ≤ 217180147158) : freshN n held = freshN n held' := by
  have e1 := freshN_big (n := n) (m := max (n + held.length) (n + held'.length)) (held := held) (Nat.le_max_left _ _) (by omega)
  have e2 := freshN_big (n := n) (m := max (n + held.length) (n + held'.length)) (held := held') (Nat.le_max_right _ _) (by omega)
  rw [e1, e2]
  congr 1
  refine List.filter_congr fun x hx => ?_
  obtain ⟨k, _, rfl⟩ := List.mem_map.mp hx
  exact decide_eq_decide.mpr (not_congr (h k))
theorem stdI_held {is : List Im} {held held' : List Nm} (h : ∀ k, lett k ∈ held ↔ lett k ∈ held') (b : (takesI is).length + held.length ≤ 217180147158) (b' : (takesI is).length + held'.length ≤ 217180147158) : stdI held is = stdI held' is := by
  unfold stdI frI
  rw [freshN_set h b b']
/-! ### told by other marks -/
def relI (φ : Own → Own) : Im → Im
  | .ap => .ap
  | .op n => .op n
  | .tk o => .tk (φ o)
  | .nm o => .nm (φ o)
theorem takesI_rel (φ : Own → Own) (is : List Im) : takesI (is.map (relI φ)) = (takesI is).map φ := by
  induction is with
  | nil => rfl
  | cons i is ih => cases i <;> simpa [takesI, relI] using ih
def InjT (φ : Own → Own) (is : List Im) : Prop := ∀ a ∈ takesI is, ∀ b ∈ takesI is, φ a = φ b → a = b
theorem Wl.rel {is : List Im} (w : Wl is) {φ : Own → Own} (inj : InjT φ is) : Wl (is.map (relI φ)) := by
  refine ⟨by rw [takesI_rel]; exact nodup_map w.nd inj, fun o h => ?_⟩
  rw [takesI_rel]
  obtain ⟨i, hi, e⟩ := List.mem_map.mp h
  cases i with
  | nm q => cases e; exact List.mem_map.mpr ⟨q, w.all q hi, rfl⟩
  | ap => cases e
  | op n => cases e
  | tk q => cases e
theorem rdO_at {is : List Im} {held : List Nm} (nd : (takesI is).Nodup) (b : (takesI is).length + held.length ≤ 217180147158) {i : Nat} {o : Own} (h : (takesI is)[i]? = some o) : some (rdO (frI held is) o) = (freshN (takesI is).length held)[i]? := by
  have hlen : (freshN (takesI is).length held).length = (takesI is).length := freshN_len b
  have hi := (List.getElem?_eq_some_iff.mp h).1
  have e1 : (freshN (takesI is).length held)[i]? = some ((freshN (takesI is).length held)[i]'(by omega)) := List.getElem?_eq_getElem _
  rw [e1]
  unfold rdO re frI
  rw [tblF_zip nd (show (takesI is)[i]? = some (o.1, o.2) from h) e1]
  rfl
theorem std_rel {is : List Im} (w : Wl is) {φ : Own → Own} (inj : InjT φ is) {held : List Nm} (b : (takesI is).length + held.length ≤ 217180147158) : stdI held (is.map (relI φ)) = stdI held is := by
  unfold stdI
  rw [List.map_map]
  have key : ∀ o ∈ takesI is, rdO (frI held (is.map (relI φ))) (φ o) = rdO (frI held is) o := fun o ho => by
    obtain ⟨i, hi⟩ := List.mem_iff_getElem?.mp ho
    have a1 := rdO_at w.nd b hi
    have a2 := rdO_at (is := is.map (relI φ)) (held := held) (w.rel inj).nd (by rw [takesI_rel, List.length_map]; exact b) (i := i) (o := φ o) (by rw [takesI_rel, List.getElem?_map, hi]; rfl)
    rw [takesI_rel, List.length_map] at a2
    exact Option.some.inj (a2.trans a1.symm)
  refine List.map_congr_left fun i hi => ?_
  cases i with
  | ap => rfl
  | op n => rfl
  | tk o => exact congrArg W.tk (key o (mem_takesI.mpr hi))
  | nm o => exact congrArg W.nm (key o (w.all o hi))
/-- the new names: of those that are not held, each once -/
theorem rdO_fresh {is : List Im} {held : List Nm} (nd : (takesI is).Nodup) (b : (takesI is).length + held.length ≤ 217180147158) {o : Own} (h : o ∈ takesI is) : rdO (frI held is) o ∈ freshN (takesI is).length held := by
  obtain ⟨i, hi⟩ := List.mem_iff_getElem?.mp h
  exact List.mem_of_getElem? (rdO_at nd b hi).symm
theorem rdO_inj {is : List Im} {held : List Nm} (nd : (takesI is).Nodup) (b : (takesI is).length + held.length ≤ 217180147158) {o q : Own} (ho : o ∈ takesI is) (hq : q ∈ takesI is) (e : rdO (frI held is) o = rdO (frI held is) q) : o = q := by
  obtain ⟨i, hi⟩ := List.mem_iff_getElem?.mp ho
  obtain ⟨j, hj⟩ := List.mem_iff_getElem?.mp hq
  have a1 := (rdO_at (held := held) nd b hi).symm
  have a2 := (rdO_at (held := held) nd b hj).symm
  rw [e] at a1
  obtain ⟨l1, e1⟩ := List.getElem?_eq_some_iff.mp a1
  obtain ⟨l2, e2⟩ := List.getElem?_eq_some_iff.mp a2
  have := (List.getElem_inj (freshN_nodup b)).mp (e1.trans e2.symm)
  subst this
  rw [hi] at hj
  exact Option.some.inj hj
/-- what was told so, marked again -/
theorem mark_std {is : List Im} (w : Wl is) {held : List Nm} (b : (takesI is).length + held.length ≤ 217180147158) (ho : ∀ n ∈ opensI is, n ∈ held) (o' : Nat) :
    markI o' (stdI held is) = is.map (relI fun o => (o', rdO (frI held is) o)) := by
  unfold markI
  have tk : takesOf (stdI held is) = (takesI is).map (rdO (frI held is)) := by
    unfold stdI
    generalize frI held is = fr
    induction is with
    | nil => rfl
    | cons i is ih =>
      clear ih
      show takesOf ((i :: is).map (outI fr)) = _
      have : ∀ js : List Im, takesOf (js.map (outI fr)) = (takesI js).map (rdO fr) := fun js => by
        induction js with
        | nil => rfl
        | cons j js ih => cases j <;> simpa [takesOf, takesI, outI] using ih
      exact this _
  have mem : ∀ n, (o', n) ∈ owned [(o', stdI held is)] ↔ ∃ o ∈ takesI is, rdO (frI held is) o = n := fun n => by
    rw [mem_owned_o, tk, List.mem_map]
  generalize hos : owned [(o', stdI held is)] = os at *
  unfold stdI
  rw [List.map_map]
  refine List.map_congr_left fun i hi => ?_
  cases i with
  | ap => rfl
  | op n =>
    show (if (o', n) ∈ os then _ else _) = _
    rw [if_neg]
    · rfl
    · intro h
      obtain ⟨o, h1, h2⟩ := (mem n).mp h
      have := rdO_fresh w.nd b h1
      rw [h2] at this
      exact (freshN_mem this).1 (ho n (mem_opensI.mpr hi))
  | tk o => rfl
  | nm o =>
    show (if (o', rdO (frI held is) o) ∈ os then _ else _) = _
    rw [if_pos ((mem _).mpr ⟨o, w.all o hi, rfl⟩)]
    rfl
theorem markI_wl {ws : List W} (v : Vd ws) (o : Nat) : Wl (markI o ws) := by
  refine ⟨by rw [takesI_mark]; exact nodup_map v.tksNd fun a _ b _ e => by cases e; rfl, fun q h => ?_⟩
  rw [takesI_mark]
  obtain ⟨u, hu, e⟩ := List.mem_map.mp h
  cases u with
  | ap => cases e
  | tk n => cases e
  | nm n =>
    have e' : (if (o, n) ∈ owned [(o, ws)] then Im.nm (o, n) else .op n) = Im.nm q := e
    by_cases h2 : (o, n) ∈ owned [(o, ws)]
    · rw [if_pos h2] at e'
      cases e'
      exact List.mem_map.mpr ⟨n, mem_owned_o.mp h2, rfl⟩
    · rw [if_neg h2] at e'
      cases e'
theorem opens_mark (ws : List W) (o : Nat) : opensI (markI o ws) = openN ws := by
  unfold markI openN
  have : ∀ us : List W, opensI (us.map (mkI (owned [(o, ws)]) o)) = (nmsOf us).filter fun n => decide (n ∉ takesOf ws) := fun us => by
    induction us with
    | nil => rfl
    | cons u us ih =>
      cases u with
      | ap => simpa [opensI, mkI, nmsOf] using ih
      | tk n => simpa [opensI, mkI, nmsOf] using ih
      | nm n =>
        by_cases h : (o, n) ∈ owned [(o, ws)]
        · have h2 := mem_owned_o.mp h
          simpa [opensI, mkI, nmsOf, h, h2] using ih
        · have h2 : n ∉ takesOf ws := fun q => h (mem_owned_o.mpr q)
          simpa [opensI, mkI, nmsOf, h, h2] using ih
  exact this ws
theorem std_items (ws : List W) : stdW ws = stdI (openN ws) (markI 0 ws) := by
  unfold stdW
  rw [told_std]
  unfold itemsP markI
  simp
/-! ### one in the place of an open name -/
def subI (x : Nm) (is js : List Im) : List Im := is.flatMap fun i => if i = .op x then js else [i]
theorem subI_rel (x : Nm) (φ : Own → Own) (is js : List Im) : (subI x is js).map (relI φ) = subI x (is.map (relI φ)) (js.map (relI φ)) := by
  unfold subI
  rw [List.map_flatMap, List.flatMap_map]
  congr 1
  funext i
  by_cases h : i = .op x
  · subst h
    simp [relI]
  · rw [if_neg h, if_neg]
    · rfl
    · intro e
      cases i <;> simp_all [relI]
theorem subI_none {x : Nm} {is js : List Im} (h : x ∉ opensI is) : subI x is js = is := by
  unfold subI
  induction is with
  | nil => rfl
  | cons i is ih =>
    rw [List.flatMap_cons, if_neg (fun e => h (mem_opensI.mpr (by rw [e]; exact List.mem_cons_self ..))), ih (fun q => h (mem_opensI.mpr (List.mem_cons_of_mem _ (mem_opensI.mp q))))]
    rfl
theorem subI_app (x : Nm) (is js ks : List Im) : subI x (is ++ js) ks = subI x is ks ++ subI x js ks := by simp [subI]
/-- in either order -/
theorem subI_comm {x y : Nm} (hxy : x ≠ y) {is as bs : List Im} (ha : y ∉ opensI as) (hb : x ∉ opensI bs) : subI y (subI x is as) bs = subI x (subI y is bs) as := by
  induction is with
  | nil => rfl
  | cons i is ih =>
    have e1 : ∀ z ks, subI z (i :: is) ks = subI z [i] ks ++ subI z is ks := fun z ks => subI_app z [i] is ks
    rw [e1, e1, subI_app, subI_app, ih]
    congr 1
    by_cases h1 : i = .op x
    · subst h1
      have a1 : subI x [.op x] as = as := by simp [subI]
      have a2 : subI y [.op x] bs = [.op x] := by simp [subI, hxy]
      rw [a1, a2, a1, subI_none ha]
    · by_cases h2 : i = .op y
      · subst h2
        have a1 : subI y [.op y] bs = bs := by simp [subI]
        have a2 : subI x [.op y] as = [.op y] := by simp [subI, Ne.symm hxy]
        rw [a1, a2, a1, subI_none hb]
      · have a1 : subI x [i] as = [i] := by simp [subI, h1]
        have a2 : subI y [i] bs = [i] := by simp [subI, h2]
        rw [a1, a2, a1]
/-- ahead or behind -/
theorem subI_assoc {y z : Nm} {is bs cs : List Im} (h : z ∉ opensI is) : subI z (subI y is bs) cs = subI y is (subI z bs cs) := by
  induction is with
  | nil => rfl
  | cons i is ih =>
    have e1 : ∀ z ks, subI z (i :: is) ks = subI z [i] ks ++ subI z is ks := fun z ks => subI_app z [i] is ks
    have h1 : i ≠ .op z := fun e => h (mem_opensI.mpr (by rw [e]; exact List.mem_cons_self ..))
    rw [e1, e1, subI_app, ih (fun q => h (mem_opensI.mpr (List.mem_cons_of_mem _ (mem_opensI.mp q))))]
    congr 1
    by_cases h2 : i = .op y
    · subst h2
      have a1 : ∀ ks, subI y [.op y] ks = ks := fun ks => by simp [subI]
      rw [a1, a1]
    · have a1 : ∀ ks, subI y [i] ks = [i] := fun ks => by simp [subI, h2]
      rw [a1, a1]
      simp [subI, h1]
end Wd

set_option maxHeartbeats 1000000
/-! trees of marked words: plain mathematics -/
namespace Wd
open PySem
inductive TI where
  | op (n : Nm)
  | nm (o : Own)
  | ap (f a : TI)
  | tk (o : Own) (b : TI)
namespace TI
def is : TI → List Im
  | .op n => [.op n]
  | .nm o => [.nm o]
  | .ap f a => .ap :: (f.is ++ a.is)
  | .tk o b => .tk o :: b.is
def lv : TI → List (Nm ⊕ Own)
  | .op n => [.inl n]
  | .nm o => [.inr o]
  | .ap f a => f.lv ++ a.lv
  | .tk _ b => b.lv
def sc : TI → Prop
  | .op _ => True
  | .nm _ => True
  | .ap f a => f.sc ∧ a.sc
  | .tk o b => Sum.inr o ∈ b.lv ∧ b.sc
theorem mem_op : ∀ (t : TI) (n : Nm), Im.op n ∈ t.is ↔ Sum.inl n ∈ t.lv
  | .op m, n => by simp [is, lv]
  | .nm o, n => by simp [is, lv]
  | .ap f a, n => by simp [is, lv, mem_op f n, mem_op a n]
  | .tk o b, n => by simp [is, lv, mem_op b n]
theorem mem_nm : ∀ (t : TI) (o : Own), Im.nm o ∈ t.is ↔ Sum.inr o ∈ t.lv
  | .op m, n => by simp [is, lv]
  | .nm o, n => by simp [is, lv]
  | .ap f a, n => by simp [is, lv, mem_nm f n, mem_nm a n]
  | .tk o b, n => by simp [is, lv, mem_nm b n]
theorem opens_lv : ∀ t : TI, opensI t.is = t.lv.filterMap fun l => match l with | .inl n => some n | .inr _ => none
  | .op m => rfl
  | .nm o => rfl
  | .ap f a => by
    have h1 := opens_lv f
    have h2 := opens_lv a
    unfold opensI at *
    simp [is, lv, h1, h2]
  | .tk o b => by
    have h1 := opens_lv b
    unfold opensI at *
    simp [is, lv, h1]
/-- told -/
def out (g : Own → Nm) : TI → T
  | .op n => .nm n
  | .nm o => .nm (g o)
  | .ap f a => .ap (f.out g) (a.out g)
  | .tk o b => .tk (g o) (b.out g)
def outL (g : Own → Nm) : Nm ⊕ Own → Nm
  | .inl n => n
  | .inr o => g o
theorem out_ws (ps : List (Own × Nm)) : ∀ t : TI, (t.out (rdO ps)).ws = t.is.map (outI ps)
  | .op n => rfl
  | .nm o => rfl
  | .ap f a => by simp [out, T.ws, is, outI, out_ws ps f, out_ws ps a]
  | .tk o b => by simp [out, T.ws, is, outI, out_ws ps b]
theorem out_lv (g : Own → Nm) : ∀ t : TI, (t.out g).lv = t.lv.map (outL g)
  | .op n => rfl
  | .nm o => rfl
  | .ap f a => by simp [out, T.lv, lv, out_lv g f, out_lv g a]
  | .tk o b => by simp [out, T.lv, lv, out_lv g b]
theorem out_tks (g : Own → Nm) : ∀ t : TI, (t.out g).tks = (takesI t.is).map g
  | .op n => rfl
  | .nm o => rfl
  | .ap f a => by
    have h1 := out_tks g f
    have h2 := out_tks g a
    simp only [out, T.tks, is, h1, h2]
    simp [takesI]
  | .tk o b => by
    have h1 := out_tks g b
    simp only [out, T.tks, is, h1]
    simp [takesI]
theorem out_sc (g : Own → Nm) : ∀ t : TI, t.sc → (t.out g).sc
  | .op n, _ => trivial
  | .nm o, _ => trivial
  | .ap f a, h => ⟨out_sc g f h.1, out_sc g a h.2⟩
  | .tk o b, h => ⟨by rw [out_lv]; exact List.mem_map.mpr ⟨_, h.1, rfl⟩, out_sc g b h.2⟩
/-- one in the place of an open name -/
def sub (x : Nm) (s : TI) : TI → TI
  | .op n => if n = x then s else .op n
  | .nm o => .nm o
  | .ap f a => .ap (sub x s f) (sub x s a)
  | .tk o b => .tk o (sub x s b)
theorem sub_is (x : Nm) (s : TI) : ∀ t : TI, (sub x s t).is = subI x t.is s.is
  | .op n => by
    by_cases h : n = x
    · subst h; simp [sub, subI, is]
    · simp [sub, subI, is, h]
  | .nm o => by simp [sub, subI, is]
  | .ap f a => by
    have h1 := sub_is x s f
    have h2 := sub_is x s a
    show Im.ap :: _ = subI x (Im.ap :: (f.is ++ a.is)) s.is
    rw [h1, h2, ← subI_app]
    simp [subI]
  | .tk o b => by
    have h1 := sub_is x s b
    show Im.tk o :: _ = subI x (Im.tk o :: b.is) s.is
    rw [h1]
    simp [subI]
theorem sub_lv (x : Nm) (s : TI) : ∀ t : TI, (sub x s t).lv = t.lv.flatMap fun l => if l = .inl x then s.lv else [l]
  | .op n => by
    by_cases h : n = x
    · subst h; simp [sub, lv]
    · simp [sub, lv, h]
  | .nm o => by simp [sub, lv]
  | .ap f a => by simp [sub, lv, sub_lv x s f, sub_lv x s a]
  | .tk o b => by simp [sub, lv, sub_lv x s b]
theorem sub_sc (x : Nm) {s : TI} (hs : s.sc) : ∀ t : TI, t.sc → (sub x s t).sc
  | .op n, _ => by
    unfold sub
    by_cases h : n = x
    · rw [if_pos h]; exact hs
    · rw [if_neg h]; trivial
  | .nm o, _ => trivial
  | .ap f a, h => ⟨sub_sc x hs f h.1, sub_sc x hs a h.2⟩
  | .tk o b, h => ⟨by rw [sub_lv]; exact List.mem_flatMap.mpr ⟨_, h.1, by simp⟩, sub_sc x hs b h.2⟩
end TI
/-- a program, its names marked -/
structure Good (is : List Im) : Prop extends Wl is where
  ex : ∃ t : TI, is = t.is ∧ t.sc ∧ t.lv.Nodup
theorem Good.opNd {is : List Im} (g : Good is) : (opensI is).Nodup := by
  obtain ⟨t, rfl, sc, nd⟩ := g.ex
  rw [TI.opens_lv]
  refine List.Pairwise.filterMap _ (fun a b hne c h1 d h2 e => ?_) nd
  cases a <;> cases b <;> simp_all
theorem Good.std {is : List Im} (g : Good is) {held : List Nm} (b : (takesI is).length + held.length ≤ 217180147158) (ho : ∀ n ∈ opensI is, n ∈ held) (ok : ∀ n ∈ opensI is, nmOk n) : Vd (stdI held is) := by
  obtain ⟨t, e, sc, nd⟩ := g.ex
  have okT : ∀ o ∈ takesI is, nmOk (rdO (frI held is) o) := fun o h => freshN_ok b (rdO_fresh g.nd b h)
  refine ⟨⟨t.out (rdO (frI held is)), ?_, TI.out_sc _ t sc, ?_, ?_⟩, fun w hw => ?_⟩
  · rw [TI.out_ws, ← e]; rfl
  · rw [TI.out_lv]
    refine nodup_map nd fun l hl k hk q => ?_
    have mo : ∀ n, Sum.inl n ∈ t.lv → n ∈ held := fun n h => ho n (mem_opensI.mpr (by rw [e]; exact (TI.mem_op t n).mpr h))
    have mt : ∀ o, Sum.inr o ∈ t.lv → o ∈ takesI is := fun o h => g.all o (by rw [e]; exact (TI.mem_nm t o).mpr h)
    cases l with
    | inl n =>
      cases k with
      | inl m => exact congrArg Sum.inl q
      | inr o =>
        have q' : n = rdO (frI held is) o := q
        exact absurd (q' ▸ mo n hl) (freshN_mem (rdO_fresh g.nd b (mt o hk))).1
    | inr o =>
      cases k with
      | inl m =>
        have q' : rdO (frI held is) o = m := q
        exact absurd (q'.symm ▸ mo m hk) (freshN_mem (rdO_fresh g.nd b (mt o hl))).1
      | inr p => exact congrArg Sum.inr (rdO_inj g.nd b (mt o hl) (mt p hk) q)
  · rw [TI.out_tks, ← e]
    exact nodup_map g.nd fun a ha c hc q => rdO_inj g.nd b ha hc q
  · unfold stdI at hw
    obtain ⟨i, hi, rfl⟩ := List.mem_map.mp hw
    cases i with
    | ap => trivial
    | op n => exact ok n (mem_opensI.mpr hi)
    | tk o => exact okT o (mem_takesI.mpr hi)
    | nm o => exact okT o (g.all o hi)
/-- a program's words -/
def T.mk (os : List Own) (o : Nat) : T → TI
  | .nm n => if (o, n) ∈ os then .nm (o, n) else .op n
  | .ap f a => .ap (f.mk os o) (a.mk os o)
  | .tk n b => .tk (o, n) (b.mk os o)
theorem T.mk_is (os : List Own) (o : Nat) : ∀ t : T, (t.mk os o).is = t.ws.map (mkI os o)
  | .nm n => by
    by_cases h : (o, n) ∈ os <;> simp [T.mk, T.ws, mkI, h, TI.is]
  | .ap f a => by simp [T.mk, T.ws, mkI, TI.is, T.mk_is os o f, T.mk_is os o a]
  | .tk n b => by simp [T.mk, T.ws, mkI, TI.is, T.mk_is os o b]
theorem T.mk_lv (os : List Own) (o : Nat) : ∀ t : T, (t.mk os o).lv = t.lv.map fun n => if (o, n) ∈ os then Sum.inr (o, n) else Sum.inl n
  | .nm n => by
    by_cases h : (o, n) ∈ os <;> simp [T.mk, T.lv, h, TI.lv]
  | .ap f a => by simp [T.mk, T.lv, TI.lv, T.mk_lv os o f, T.mk_lv os o a]
  | .tk n b => by simp [T.mk, T.lv, TI.lv, T.mk_lv os o b]
theorem T.mk_sc (os : List Own) (o : Nat) : ∀ t : T, t.sc → (∀ n ∈ t.tks, (o, n) ∈ os) → (t.mk os o).sc
  | .nm n, _, _ => by
    unfold T.mk
    split <;> trivial
  | .ap f a, h, k => ⟨T.mk_sc os o f h.1 fun n hn => k n (List.mem_append_left _ hn), T.mk_sc os o a h.2 fun n hn => k n (List.mem_append_right _ hn)⟩
  | .tk n b, h, k => by
    refine ⟨?_, T.mk_sc os o b h.2 fun m hm => k m (List.mem_cons_of_mem _ hm)⟩
    rw [T.mk_lv]
    exact List.mem_map.mpr ⟨n, h.1, by rw [if_pos (k n (List.mem_cons_self ..))]⟩
theorem Vd.good {ws : List W} (v : Vd ws) (o : Nat) : Good (markI o ws) := by
  have wl := markI_wl v o
  obtain ⟨⟨t, rfl, s, nl, nt⟩, ok⟩ := v
  refine ⟨wl, t.mk _ o, (T.mk_is _ o t).symm, T.mk_sc _ o t s fun n hn => mem_owned_o.mpr (by rw [takesOf_tree]; exact hn), ?_⟩
  rw [T.mk_lv]
  refine nodup_map nl fun a _ b _ e => ?_
  by_cases h1 : (o, a) ∈ owned [(o, t.ws)]
  · by_cases h2 : (o, b) ∈ owned [(o, t.ws)]
    · rw [if_pos h1, if_pos h2] at e
      cases e
      rfl
    · rw [if_pos h1, if_neg h2] at e
      cases e
  · by_cases h2 : (o, b) ∈ owned [(o, t.ws)]
    · rw [if_neg h1, if_pos h2] at e
      cases e
    · rw [if_neg h1, if_neg h2] at e
      cases e
      rfl
/-- no mark and no open name is common -/
structure Apart (is js : List Im) : Prop where
  tk : ∀ o ∈ takesI is, o ∉ takesI js
  op : ∀ n ∈ opensI is, n ∉ opensI js
theorem Good.lvApart {is js : List Im} (g : Good is) (h : Good js) (a : Apart is js) {t s : TI} (e1 : is = t.is) (e2 : js = s.is) : ∀ l ∈ t.lv, l ∉ s.lv := by
  intro l hl hs
  cases l with
  | inl n => exact a.op n (mem_opensI.mpr (by rw [e1]; exact (TI.mem_op t n).mpr hl)) (mem_opensI.mpr (by rw [e2]; exact (TI.mem_op s n).mpr hs))
  | inr o => exact a.tk o (g.all o (by rw [e1]; exact (TI.mem_nm t o).mpr hl)) (h.all o (by rw [e2]; exact (TI.mem_nm s o).mpr hs))
theorem Good.ap {is js : List Im} (g : Good is) (h : Good js) (a : Apart is js) : Good (.ap :: (is ++ js)) := by
  have tk : takesI (.ap :: (is ++ js)) = takesI is ++ takesI js := by
    rw [← takesI_app]; rfl
  refine ⟨⟨?_, fun o ho => ?_⟩, ?_⟩
  · rw [tk]
    exact List.nodup_append.mpr ⟨g.nd, h.nd, fun p hp q hq e => a.tk p hp (e ▸ hq)⟩
  · rw [tk]
    rcases List.mem_append.mp ((List.mem_cons.mp ho).resolve_left (by simp)) with q | q
    · exact List.mem_append_left _ (g.all o q)
    · exact List.mem_append_right _ (h.all o q)
  · obtain ⟨t, e1, s1, n1⟩ := g.ex
    obtain ⟨s, e2, s2, n2⟩ := h.ex
    refine ⟨.ap t s, by rw [e1, e2]; rfl, ⟨s1, s2⟩, List.nodup_append.mpr ⟨n1, n2, fun p hp q hq e => ?_⟩⟩
    exact g.lvApart h a e1 e2 p hp (e ▸ hq)
theorem subI_split {x : Nm} {is js : List Im} (nd : (opensI is).Nodup) (hx : x ∈ opensI is) : ∃ a b, is = a ++ Im.op x :: b ∧ x ∉ opensI a ∧ x ∉ opensI b ∧ subI x is js = a ++ js ++ b := by
  obtain ⟨a, b, rfl⟩ := List.append_of_mem (mem_opensI.mp hx)
  have e : opensI (a ++ Im.op x :: b) = opensI a ++ x :: opensI b := by simp [opensI]
  rw [e] at nd
  have nd2 := List.nodup_append.mp nd
  have xa : x ∉ opensI a := fun h => nd2.2.2 x h x (List.mem_cons_self ..) rfl
  have xb : x ∉ opensI b := (List.nodup_cons.mp nd2.2.1).1
  refine ⟨a, b, rfl, xa, xb, ?_⟩
  have e2 : subI x (Im.op x :: b) js = js ++ subI x b js := by simp [subI]
  rw [subI_app, subI_none xa, e2, subI_none xb, List.append_assoc]
theorem takes_sub {x : Nm} {is js : List Im} (nd : (opensI is).Nodup) (hx : x ∈ opensI is) : (takesI (subI x is js)).Perm (takesI is ++ takesI js) := by
  obtain ⟨a, b, rfl, _, _, e⟩ := subI_split (js := js) nd hx
  rw [e, takesI_app, takesI_app]
  have e2 : takesI (a ++ Im.op x :: b) = takesI a ++ takesI b := by simp [takesI]
  rw [e2, List.append_assoc, List.append_assoc]
  exact List.Perm.append_left _ List.perm_append_comm
theorem opens_sub {x : Nm} {is js : List Im} {n : Nm} (hx : x ∈ opensI is) : n ∈ opensI (subI x is js) ↔ (n ∈ opensI is ∧ n ≠ x) ∨ n ∈ opensI js := by
  rw [mem_opensI, mem_opensI, mem_opensI]
  unfold subI
  rw [List.mem_flatMap]
  constructor
  · rintro ⟨i, hi, h⟩
    by_cases e : i = .op x
    · rw [if_pos e] at h
      exact .inr h
    · rw [if_neg e] at h
      have : Im.op n = i := by simpa using h
      subst this
      exact .inl ⟨hi, fun q => e (by rw [q])⟩
  · rintro (⟨h, e⟩ | h)
    · exact ⟨_, h, by simp [e]⟩
    · exact ⟨.op x, mem_opensI.mp hx, by simpa using h⟩
theorem Good.sub {x : Nm} {is js : List Im} (g : Good is) (h : Good js) (hx : x ∈ opensI is) (tk : ∀ o ∈ takesI is, o ∉ takesI js) (op : ∀ n ∈ opensI is, n ≠ x → n ∉ opensI js) : Good (subI x is js) := by
  have pm := takes_sub (js := js) g.opNd hx
  refine ⟨⟨?_, fun o ho => ?_⟩, ?_⟩
  · exact pm.nodup_iff.mpr (List.nodup_append.mpr ⟨g.nd, h.nd, fun p hp q hq e => tk p hp (e ▸ hq)⟩)
  · refine pm.mem_iff.mpr ?_
    unfold subI at ho
    obtain ⟨i, hi, e⟩ := List.mem_flatMap.mp ho
    by_cases q : i = .op x
    · rw [if_pos q] at e
      exact List.mem_append_right _ (h.all o e)
    · rw [if_neg q] at e
      have : Im.nm o = i := by simpa using e
      subst this
      exact List.mem_append_left _ (g.all o hi)
  · obtain ⟨t, e1, s1, n1⟩ := g.ex
    obtain ⟨s, e2, s2, n2⟩ := h.ex
    refine ⟨TI.sub x s t, by rw [TI.sub_is, e1, e2], TI.sub_sc x s2 t s1, ?_⟩
    rw [TI.sub_lv]
    have dis : ∀ l ∈ t.lv, l ≠ .inl x → l ∉ s.lv := fun l hl ne hs => by
      cases l with
      | inl n => exact op n (mem_opensI.mpr (by rw [e1]; exact (TI.mem_op t n).mpr hl)) (fun q => ne (by rw [q])) (mem_opensI.mpr (by rw [e2]; exact (TI.mem_op s n).mpr hs))
      | inr o => exact tk o (g.all o (by rw [e1]; exact (TI.mem_nm t o).mpr hl)) (h.all o (by rw [e2]; exact (TI.mem_nm s o).mpr hs))
    generalize t.lv = L at n1 dis
    clear pm e1 s1
    induction L with
    | nil => exact List.nodup_nil
    | cons l L ih =>
      have nd := List.nodup_cons.mp n1
      rw [List.flatMap_cons]
      refine List.nodup_append.mpr ⟨?_, ih nd.2 fun k hk => dis k (List.mem_cons_of_mem _ hk), fun p hp q hq e => ?_⟩
      · by_cases c : l = .inl x
        · rw [if_pos c]; exact n2
        · rw [if_neg c]; simp
      · subst e
        obtain ⟨k, hk, e⟩ := List.mem_flatMap.mp hq
        by_cases c : l = .inl x
        · rw [if_pos c] at hp
          have ck : k ≠ .inl x := fun z => nd.1 (by rw [c, ← z]; exact hk)
          rw [if_neg ck] at e
          have : p = k := by simpa using e
          subst this
          exact dis p (List.mem_cons_of_mem _ hk) ck hp
        · rw [if_neg c] at hp
          have : p = l := by simpa using hp
          subst this
          by_cases ck : k = .inl x
          · rw [if_pos ck] at e
            exact dis p (List.mem_cons_self ..) c e
          · rw [if_neg ck] at e
            have : p = k := by simpa using e
            subst this
            exact nd.1 hk
end Wd

set_option maxHeartbeats 1000000
/-! the row of free names, one behind another; shapes: plain mathematics -/
namespace Wd
open PySem
def cnt (B : List Nm) (p : Nat) : List Nm := ((List.range p).map lett).filter fun x => decide (x ∉ B)
theorem cnt_in {B : List Nm} {p : Nat} (h : lett p ∈ B) : cnt B (p + 1) = cnt B p := by
  unfold cnt
  rw [List.range_succ, List.map_append, List.filter_append]
  simp [h]
theorem cnt_out {B : List Nm} {p : Nat} (h : lett p ∉ B) : cnt B (p + 1) = cnt B p ++ [lett p] := by
  unfold cnt
  rw [List.range_succ, List.map_append, List.filter_append]
  simp [h]
theorem cnt_len {B : List Nm} {p : Nat} (hp : p ≤ 217180147158) : p ≤ (cnt B p).length + B.length := by
  have nd := row_nodup hp
  have s := filter_split (fun x => decide (x ∉ B)) ((List.range p).map lett)
  have l1 : (((List.range p).map lett).filter fun x => !decide (x ∉ B)).length ≤ B.length := by
    refine nodup_len (nd.sublist List.filter_sublist) fun x hx => ?_
    have := (List.mem_filter.mp hx).2
    simpa using this
  rw [List.length_map, List.length_range] at s
  unfold cnt
  omega
theorem cnt_fresh {B : List Nm} {p T : Nat} (h : (cnt B p).length = T) (hp : p ≤ 217180147158) (hT : T + B.length ≤ 217180147158) : cnt B p = freshN T B := by
  obtain ⟨d, hd⟩ : ∃ d, max p (T + B.length) = p + d := ⟨max p (T + B.length) - p, by omega⟩
  rw [freshN_big (m := max p (T + B.length)) (Nat.le_max_right _ _) (by omega), hd]
  have e : List.range (p + d) = List.range p ++ (List.range d).map fun x => p + x := List.range_add ..
  rw [e, List.map_append, List.filter_append]
  show cnt B p = List.take T (cnt B p ++ _)
  rw [List.take_append_of_le_length (by omega), List.take_of_length_le (by omega)]
def barN (is : List Im) : List Nm := is.filterMap fun i => match i with | .ap => some [64] | .op n => some n | _ => none
theorem barN_len (is : List Im) : (barN is).length ≤ is.length := List.length_filterMap_le _ _
theorem takesI_len (is : List Im) : (takesI is).length ≤ is.length := List.length_filterMap_le _ _
theorem opensI_len (is : List Im) : (opensI is).length ≤ is.length := List.length_filterMap_le _ _
theorem lett_ge (k : Nat) : ∀ c ∈ lett k, 97 ≤ c := fun c hc => ((LI.itr (k + 1) 9).c c hc).1
theorem lett_ne {k : Nat} : lett k ≠ [64] := fun h => by
  have h1 := lett_ge k
  rw [h] at h1
  have := h1 64 (by simp)
  omega
theorem mem_bar' {is : List Im} {x : Nm} (hx : x ≠ [64]) : x ∈ barN is ↔ x ∈ opensI is := by
  unfold barN
  rw [List.mem_filterMap, mem_opensI]
  constructor
  · rintro ⟨i, hi, e⟩
    cases i with
    | ap => exact absurd (Option.some.inj e).symm hx
    | op n => cases e; exact hi
    | tk o => cases e
    | nm o => cases e
  · exact fun h => ⟨_, h, rfl⟩
theorem mem_barN {is : List Im} {k : Nat} : lett k ∈ barN is ↔ lett k ∈ opensI is := mem_bar' lett_ne
theorem std_bar {is : List Im} (hl : is.length ≤ 100000000000) : stdI (barN is) is = stdI (opensI is) is :=
  stdI_held (fun k => mem_barN) (by have := barN_len is; have := takesI_len is; omega) (by have := opensI_len is; have := takesI_len is; omega)
end Wd

set_option maxHeartbeats 1000000
/-! shapes of marked words: plain mathematics -/
namespace Wd
open PySem
inductive Sh where
  | wd (n : Nm)
  | pl (j : Nat)
deriving DecidableEq
def ShI (is : List Im) (s : Sh) : Im → Prop
  | .ap => s = .wd [64]
  | .op n => s = .wd n
  | .tk _ => s = .wd [47]
  | .nm o => ∃ j, is[j]? = some (.tk o) ∧ s = .pl j
structure ShV (ss : List Sh) (is : List Im) : Prop where
  len : ss.length = is.length
  at_ : ∀ (i : Nat) x, is[i]? = some x → ∃ s, ss[i]? = some s ∧ ShI is s x
theorem take_place {is : List Im} (nd : (takesI is).Nodup) {o : Own} : ∀ {i j : Nat}, is[i]? = some (.tk o) → is[j]? = some (.tk o) → i = j := by
  induction is with
  | nil => intro i j h; simp at h
  | cons x is ih =>
    intro i j hi hj
    have e : takesI (x :: is) = takesI [x] ++ takesI is := takesI_app [x] is
    rw [e] at nd
    have nd2 := List.nodup_append.mp nd
    cases i with
    | zero =>
      cases j with
      | zero => rfl
      | succ j =>
        have hx : x = .tk o := Option.some.inj hi
        subst hx
        exact absurd rfl (nd2.2.2 o (List.mem_singleton.mpr rfl) o (mem_takesI.mpr (List.mem_of_getElem? hj)))
    | succ i =>
      cases j with
      | zero =>
        have hx : x = .tk o := Option.some.inj hj
        subst hx
        exact absurd rfl (nd2.2.2 o (List.mem_singleton.mpr rfl) o (mem_takesI.mpr (List.mem_of_getElem? hi)))
      | succ j => rw [ih nd2.2.1 (i := i) (j := j) hi hj]
theorem opensI_rel (φ : Own → Own) (is : List Im) : opensI (is.map (relI φ)) = opensI is := by
  induction is with
  | nil => rfl
  | cons i is ih => cases i <;> simpa [opensI, relI] using ih
theorem shape_std {ss : List Sh} {is js : List Im} (hs : ShV ss is) (ht : ShV ss js) (wi : Wl is) (wj : Wl js) (oi : ∀ n ∈ opensI is, nmOk n) (oj : ∀ n ∈ opensI js, nmOk n) (b : is.length ≤ 100000000000) : stdI (opensI js) js = stdI (opensI is) is := by
  have lt : ∀ {n : Nm}, nmOk n → n ≠ [64] ∧ n ≠ [47] := fun {n} h => ⟨fun e => by have := h.2.2 64 (by rw [e]; simp); omega, fun e => by have := h.2.2 47 (by rw [e]; simp); omega⟩
  let φ : Own → Own := fun o => match js[is.idxOf (.tk o)]? with
    | some (.tk p) => p
    | _ => o
  have hφ : ∀ {j : Nat} {o p : Own}, is[j]? = some (Im.tk o) → js[j]? = some (Im.tk p) → φ o = p := fun {j o p} h1 h2 => by
    have hm : Im.tk o ∈ is := List.mem_of_getElem? h1
    have hi : is[is.idxOf (Im.tk o)]? = some (Im.tk o) := by
      have l : is.idxOf (Im.tk o) < is.length := List.idxOf_lt_length_of_mem hm
      rw [List.getElem?_eq_getElem l, List.getElem_idxOf]
    have e := take_place wi.nd hi h1
    show (match js[is.idxOf (.tk o)]? with | some (.tk p) => p | _ => o) = p
    rw [e, h2]
  have tkj : ∀ {j : Nat} {o : Own}, is[j]? = some (Im.tk o) → ∃ p, js[j]? = some (Im.tk p) := fun {j o} h => by
    have hl : j < js.length := by rw [← ht.len, hs.len]; exact (List.getElem?_eq_some_iff.mp h).1
    obtain ⟨y, hy⟩ : ∃ y, js[j]? = some y := ⟨js[j], List.getElem?_eq_getElem hl⟩
    obtain ⟨s, e1, e2⟩ := hs.at_ j _ h
    obtain ⟨s', f1, f2⟩ := ht.at_ j _ hy
    rw [e1] at f1
    cases f1
    have e2' : s = .wd [47] := e2
    subst e2'
    cases y with
    | ap => have f : Sh.wd [47] = .wd [64] := f2; cases f
    | op n => have f : Sh.wd [47] = .wd n := f2; cases f; exact absurd rfl (lt (oj _ (mem_opensI.mpr (List.mem_of_getElem? hy)))).2
    | tk p => exact ⟨p, hy⟩
    | nm p => obtain ⟨k, _, f⟩ := f2; cases f
  have ej : js = is.map (relI φ) := by
    apply List.ext_getElem?
    intro j
    rw [List.getElem?_map]
    by_cases hl : j < is.length
    · have hl2 : j < js.length := by rw [← ht.len, hs.len]; exact hl
      obtain ⟨x, hx⟩ : ∃ x, is[j]? = some x := ⟨is[j], List.getElem?_eq_getElem hl⟩
      obtain ⟨y, hy⟩ : ∃ y, js[j]? = some y := ⟨js[j], List.getElem?_eq_getElem hl2⟩
      rw [hx, hy]
      show some y = some (relI φ x)
      obtain ⟨s, e1, e2⟩ := hs.at_ j _ hx
      obtain ⟨s', f1, f2⟩ := ht.at_ j _ hy
      rw [e1] at f1
      cases f1
      refine congrArg some ?_
      cases x with
      | ap =>
        have e2' : s = .wd [64] := e2
        subst e2'
        cases y with
        | ap => rfl
        | op n => have f : Sh.wd [64] = .wd n := f2; cases f; exact absurd rfl (lt (oj _ (mem_opensI.mpr (List.mem_of_getElem? hy)))).1
        | tk p => have f : Sh.wd [64] = .wd [47] := f2; cases f
        | nm p => obtain ⟨k, _, f⟩ := f2; cases f
      | op n =>
        have e2' : s = .wd n := e2
        subst e2'
        have hn := lt (oi _ (mem_opensI.mpr (List.mem_of_getElem? hx)))
        cases y with
        | ap => have f : Sh.wd n = .wd [64] := f2; cases f; exact absurd rfl hn.1
        | op m => have f : Sh.wd n = .wd m := f2; cases f; rfl
        | tk p => have f : Sh.wd n = .wd [47] := f2; cases f; exact absurd rfl hn.2
        | nm p => obtain ⟨k, _, f⟩ := f2; cases f
      | tk o =>
        obtain ⟨p, hp⟩ := tkj hx
        rw [hy] at hp
        cases hp
        show Im.tk p = Im.tk (φ o)
        rw [hφ hx hy]
      | nm o =>
        obtain ⟨k, hk, e⟩ := e2
        subst e
        cases y with
        | ap => have f : Sh.pl k = .wd [64] := f2; cases f
        | op m => have f : Sh.pl k = .wd m := f2; cases f
        | tk p => have f : Sh.pl k = .wd [47] := f2; cases f
        | nm p =>
          obtain ⟨k', hk', f⟩ := f2
          cases f
          show Im.nm p = Im.nm (φ o)
          rw [hφ hk hk']
    · rw [List.getElem?_eq_none (by rw [← ht.len, hs.len]; omega), List.getElem?_eq_none (by omega)]
      rfl
  have inj : InjT φ is := fun a ha c hc e => by
    obtain ⟨i, hi⟩ := List.mem_iff_getElem?.mp (mem_takesI.mp ha)
    obtain ⟨j, hj⟩ := List.mem_iff_getElem?.mp (mem_takesI.mp hc)
    obtain ⟨p, hp⟩ := tkj hi
    obtain ⟨q, hq⟩ := tkj hj
    rw [hφ hi hp, hφ hj hq] at e
    subst e
    have := take_place wj.nd hp hq
    subst this
    rw [hi] at hj
    cases hj
    rfl
  rw [ej, opensI_rel]
  exact std_rel wi inj (by have := takesI_len is; have := opensI_len is; omega)
theorem std_shape {ss tt : List Sh} {is js : List Im} (hs : ShV ss is) (ht : ShV tt js) (wi : Wl is) (wj : Wl js) (b : is.length ≤ 100000000000) (c : js.length ≤ 100000000000) (e : stdI (opensI is) is = stdI (opensI js) js) : ss = tt := by
  have bi : (takesI is).length + (opensI is).length ≤ 217180147158 := by have := takesI_len is; have := opensI_len is; omega
  have bj : (takesI js).length + (opensI js).length ≤ 217180147158 := by have := takesI_len js; have := opensI_len js; omega
  have hl : is.length = js.length := by
    have := congrArg List.length e
    unfold stdI at this
    rwa [List.length_map, List.length_map] at this
  have wd : ∀ {i : Nat} {x y : Im}, is[i]? = some x → js[i]? = some y → outI (frI (opensI is) is) x = outI (frI (opensI js) js) y := fun {i x y} h1 h2 => by
    have := congrArg (fun l : List W => l[i]?) e
    unfold stdI at this
    simp only [List.getElem?_map, h1, h2] at this
    exact Option.some.inj this
  have get : ∀ {i : Nat} {x : Im}, is[i]? = some x → ∃ y, js[i]? = some y := fun {i x} h => ⟨js[i]'(by rw [← hl]; exact (List.getElem?_eq_some_iff.mp h).1), List.getElem?_eq_getElem _⟩
  have get' : ∀ {i : Nat} {y : Im}, js[i]? = some y → ∃ x, is[i]? = some x := fun {i y} h => ⟨is[i]'(by rw [hl]; exact (List.getElem?_eq_some_iff.mp h).1), List.getElem?_eq_getElem _⟩
  have fi : ∀ {o : Own}, o ∈ takesI is → rdO (frI (opensI is) is) o ∉ opensI is := fun {o} h => (freshN_mem (rdO_fresh wi.nd bi h)).1
  have fj : ∀ {o : Own}, o ∈ takesI js → rdO (frI (opensI js) js) o ∉ opensI js := fun {o} h => (freshN_mem (rdO_fresh wj.nd bj h)).1
  apply List.ext_getElem?
  intro i
  by_cases h : i < is.length
  · obtain ⟨x, hx⟩ : ∃ x, is[i]? = some x := ⟨is[i], List.getElem?_eq_getElem h⟩
    obtain ⟨y, hy⟩ := get hx
    obtain ⟨s, e1, e2⟩ := hs.at_ i _ hx
    obtain ⟨t, f1, f2⟩ := ht.at_ i _ hy
    rw [e1, f1]
    refine congrArg some ?_
    have ew := wd hx hy
    cases x with
    | ap =>
      cases y with
      | ap => exact (show s = .wd [64] from e2).trans (show t = .wd [64] from f2).symm
      | op n => cases ew
      | tk p => cases ew
      | nm p => cases ew
    | tk o =>
      cases y with
      | ap => cases ew
      | op n => cases ew
      | tk p => exact (show s = .wd [47] from e2).trans (show t = .wd [47] from f2).symm
      | nm p => cases ew
    | op n =>
      cases y with
      | ap => cases ew
      | op m =>
        have : n = m := W.nm.inj ew
        subst this
        exact (show s = .wd n from e2).trans (show t = .wd n from f2).symm
      | tk p => cases ew
      | nm p =>
        have en : n = rdO (frI (opensI js) js) p := W.nm.inj ew
        have hp := wj.all p (List.mem_of_getElem? hy)
        obtain ⟨j, hj⟩ := List.mem_iff_getElem?.mp (mem_takesI.mp hp)
        obtain ⟨x, hx2⟩ := get' hj
        have ew2 := wd hx2 hj
        cases x with
        | ap => cases ew2
        | op _ => cases ew2
        | nm _ => cases ew2
        | tk o =>
          have eo : rdO (frI (opensI is) is) o = rdO (frI (opensI js) js) p := W.tk.inj ew2
          refine absurd ?_ (fi (o := o) (mem_takesI.mpr (List.mem_of_getElem? hx2)))
          rw [eo, ← en]
          exact mem_opensI.mpr (List.mem_of_getElem? hx)
    | nm o =>
      have ho := wi.all o (List.mem_of_getElem? hx)
      obtain ⟨k, hk, es⟩ := (show ∃ j, is[j]? = some (.tk o) ∧ s = .pl j from e2)
      cases y with
      | ap => cases ew
      | tk p => cases ew
      | op m =>
        have en : rdO (frI (opensI is) is) o = m := W.nm.inj ew
        obtain ⟨y, hy2⟩ := get hk
        have ew2 := wd hk hy2
        cases y with
        | ap => cases ew2
        | op _ => cases ew2
        | nm _ => cases ew2
        | tk p =>
          have eo : rdO (frI (opensI is) is) o = rdO (frI (opensI js) js) p := W.tk.inj ew2
          refine absurd ?_ (fj (o := p) (mem_takesI.mpr (List.mem_of_getElem? hy2)))
          rw [← eo, en]
          exact mem_opensI.mpr (List.mem_of_getElem? hy)
      | nm p =>
        obtain ⟨k', hk', et⟩ := (show ∃ j, js[j]? = some (.tk p) ∧ t = .pl j from f2)
        have en : rdO (frI (opensI is) is) o = rdO (frI (opensI js) js) p := W.nm.inj ew
        obtain ⟨x, hx2⟩ := get' hk'
        have ew2 := wd hx2 hk'
        cases x with
        | ap => cases ew2
        | op _ => cases ew2
        | nm _ => cases ew2
        | tk o2 =>
          have eo : rdO (frI (opensI is) is) o2 = rdO (frI (opensI js) js) p := W.tk.inj ew2
          have : o2 = o := rdO_inj wi.nd bi (mem_takesI.mpr (List.mem_of_getElem? hx2)) ho (eo.trans en.symm)
          subst this
          have := take_place wi.nd hk hx2
          subst this
          rw [es, et]
  · rw [List.getElem?_eq_none (by rw [hs.len]; omega), List.getElem?_eq_none (by rw [ht.len]; omega)]
end Wd

set_option maxHeartbeats 1000000
/-! standard words of standard words: plain mathematics -/
namespace Wd
open PySem
theorem std_mark {ws : List W} (v : Vd ws) (hl : ws.length ≤ 100000000000) (o : Nat) : stdI (opensI (markI o ws)) (markI o ws) = stdW ws := by
  have l0 : ∀ p, (takesI (markI p ws)).length + (openN ws).length ≤ 217180147158 := fun p => by
    rw [takesI_mark, List.length_map]
    exact bound hl
  have e : markI o ws = (markI 0 ws).map (relI fun q => (o, q.2)) := by
    unfold markI
    rw [List.map_map]
    refine List.map_congr_left fun w _ => ?_
    cases w with
    | ap => rfl
    | tk n => rfl
    | nm n =>
      by_cases h : n ∈ takesOf ws
      · have e1 : mkI (owned [(o, ws)]) o (.nm n) = .nm (o, n) := if_pos (mem_owned_o.mpr h)
        have e2 : mkI (owned [(0, ws)]) 0 (.nm n) = .nm (0, n) := if_pos (mem_owned_o.mpr h)
        show mkI _ o (.nm n) = relI _ (mkI _ 0 (.nm n))
        rw [e1, e2]
        rfl
      · have e1 : mkI (owned [(o, ws)]) o (.nm n) = .op n := if_neg fun q => h (mem_owned_o.mp q)
        have e2 : mkI (owned [(0, ws)]) 0 (.nm n) = .op n := if_neg fun q => h (mem_owned_o.mp q)
        show mkI _ o (.nm n) = relI _ (mkI _ 0 (.nm n))
        rw [e1, e2]
        rfl
  rw [opens_mark, std_items, e]
  refine std_rel (markI_wl v 0) (fun a ha b hb q => ?_) (l0 0)
  rw [takesI_mark] at ha hb
  obtain ⟨n, _, rfl⟩ := List.mem_map.mp ha
  obtain ⟨m, _, rfl⟩ := List.mem_map.mp hb
  cases q
  rfl
theorem stdW_len (ws : List W) : (stdW ws).length = ws.length := by
  rw [stdW_eq, List.length_map]
theorem markB {ws : List W} (hl : ws.length ≤ 100000000000) (o : Nat) : (takesI (markI o ws)).length + (openN ws).length ≤ 217180147158 := by
  rw [takesI_mark, List.length_map]
  exact bound hl
theorem stdW_vd {ws : List W} (v : Vd ws) (hl : ws.length ≤ 100000000000) : Vd (stdW ws) := by
  rw [std_items]
  refine (v.good 0).std (markB hl 0) (fun n h => by rwa [opens_mark] at h) fun n h => ?_
  rw [opens_mark] at h
  exact v.nmOk (mem_open.mp h).1
theorem std_std {ws : List W} (v : Vd ws) (hl : ws.length ≤ 100000000000) : stdW (stdW ws) = stdW ws := by
  have wl := markI_wl v 0
  have b := markB hl 0
  have em : markI 0 (stdW ws) = (markI 0 ws).map (relI fun o => (0, rdO (frI (openN ws) (markI 0 ws)) o)) := by
    rw [std_items]
    exact mark_std wl b (fun n h => by rwa [opens_mark] at h) 0
  have eo : openN (stdW ws) = openN ws := by
    rw [← opens_mark (stdW ws) 0, em, opensI_rel, opens_mark]
  rw [std_items (stdW ws), eo, em]
  rw [std_rel wl (fun a ha c hc q => rdO_inj wl.nd b ha hc (Prod.mk.inj q).2) b, ← std_items]
end Wd

namespace Wd
open PySem
/-! ### words that stand for items, whatever their marks are -/
def S (is : List Im) : List W := stdI (opensI is) is
structure Rep (ws : List W) (is : List Im) : Prop where
  wl : Wl is
  ex : ∃ φ : Own → Own, InjT φ is ∧ markI 0 ws = is.map (relI φ)
theorem Rep.opens {ws : List W} {is : List Im} (r : Rep ws is) : openN ws = opensI is := by
  obtain ⟨φ, _, e⟩ := r.ex
  rw [← opens_mark ws 0, e, opensI_rel]
theorem mark_any (o : Nat) (ws : List W) : markI 0 ws = (markI o ws).map (relI fun q => (0, q.2)) := by
  unfold markI
  rw [List.map_map]
  refine List.map_congr_left fun w _ => ?_
  cases w with
  | ap => rfl
  | tk n => rfl
  | nm n =>
    by_cases h : n ∈ takesOf ws
    · have e1 : mkI (owned [(o, ws)]) o (.nm n) = .nm (o, n) := if_pos (mem_owned_o.mpr h)
      have e2 : mkI (owned [(0, ws)]) 0 (.nm n) = .nm (0, n) := if_pos (mem_owned_o.mpr h)
      show mkI _ 0 (.nm n) = relI _ (mkI _ o (.nm n))
      rw [e1, e2]
      rfl
    · have e1 : mkI (owned [(o, ws)]) o (.nm n) = .op n := if_neg fun q => h (mem_owned_o.mp q)
      have e2 : mkI (owned [(0, ws)]) 0 (.nm n) = .op n := if_neg fun q => h (mem_owned_o.mp q)
      show mkI _ 0 (.nm n) = relI _ (mkI _ o (.nm n))
      rw [e1, e2]
      rfl
theorem mark_one (o : Nat) (ws : List W) : markI o ws = (markI 0 ws).map (relI fun q => (o, q.2)) := by
  unfold markI
  rw [List.map_map]
  refine List.map_congr_left fun w _ => ?_
  cases w with
  | ap => rfl
  | tk n => rfl
  | nm n =>
    by_cases h : n ∈ takesOf ws
    · have e1 : mkI (owned [(o, ws)]) o (.nm n) = .nm (o, n) := if_pos (mem_owned_o.mpr h)
      have e2 : mkI (owned [(0, ws)]) 0 (.nm n) = .nm (0, n) := if_pos (mem_owned_o.mpr h)
      show mkI _ o (.nm n) = relI _ (mkI _ 0 (.nm n))
      rw [e1, e2]
      rfl
    · have e1 : mkI (owned [(o, ws)]) o (.nm n) = .op n := if_neg fun q => h (mem_owned_o.mp q)
      have e2 : mkI (owned [(0, ws)]) 0 (.nm n) = .op n := if_neg fun q => h (mem_owned_o.mp q)
      show mkI _ o (.nm n) = relI _ (mkI _ 0 (.nm n))
      rw [e1, e2]
      rfl
theorem rep_mark {ws : List W} (v : Vd ws) (o : Nat) : Rep ws (markI o ws) := by
  refine ⟨markI_wl v o, fun q => (0, q.2), fun a ha b hb e => ?_, mark_any o ws⟩
  rw [takesI_mark] at ha hb
  obtain ⟨n, _, rfl⟩ := List.mem_map.mp ha
  obtain ⟨m, _, rfl⟩ := List.mem_map.mp hb
  cases e
  rfl
theorem rep_S {is : List Im} (w : Wl is) (b : (takesI is).length + (opensI is).length ≤ 217180147158) : Rep (S is) is :=
  ⟨w, _, fun a ha c hc q => rdO_inj w.nd b ha hc (Prod.mk.inj q).2, mark_std w b (fun n h => h) 0⟩
theorem Rep.std {ws : List W} {is : List Im} (r : Rep ws is) (v : Vd ws) (hl : ws.length ≤ 100000000000) (b : (takesI is).length + (opensI is).length ≤ 217180147158) : stdW ws = S is := by
  obtain ⟨φ, inj, e⟩ := r.ex
  rw [← std_mark v hl 0, e, opensI_rel]
  exact std_rel r.wl inj b
theorem rel_congr {is : List Im} (w : Wl is) {φ θ : Own → Own} (h : ∀ o ∈ takesI is, φ o = θ o) : is.map (relI φ) = is.map (relI θ) := by
  refine List.map_congr_left fun i hi => ?_
  cases i with
  | ap => rfl
  | op n => rfl
  | tk o => show Im.tk _ = Im.tk _; rw [h o (by unfold takesI; exact List.mem_filterMap.mpr ⟨_, hi, rfl⟩)]
  | nm o => show Im.nm _ = Im.nm _; rw [h o (w.all o hi)]
theorem takes_of_sub {x : Nm} {is js : List Im} {o : Own} (h : o ∈ takesI (subI x is js)) : o ∈ takesI is ∨ o ∈ takesI js := by
  unfold takesI at h
  obtain ⟨i, hi, e⟩ := List.mem_filterMap.mp h
  unfold subI at hi
  obtain ⟨k, hk, hi⟩ := List.mem_flatMap.mp hi
  by_cases q : k = .op x
  · rw [if_pos q] at hi
    exact .inr (by unfold takesI; exact List.mem_filterMap.mpr ⟨i, hi, e⟩)
  · rw [if_neg q] at hi
    have : i = k := by simpa using hi
    subst this
    exact .inl (by unfold takesI; exact List.mem_filterMap.mpr ⟨i, hk, e⟩)
theorem mark_zero {ws : List W} {is : List Im} {φ : Own → Own} (e : markI 0 ws = is.map (relI φ)) {o : Own} (h : o ∈ takesI is) : (φ o).1 = 0 := by
  have : φ o ∈ takesI (markI 0 ws) := by
    rw [e, takesI_rel]
    exact List.mem_map.mpr ⟨o, h, rfl⟩
  rw [takesI_mark] at this
  obtain ⟨n, _, e⟩ := List.mem_map.mp this
  rw [← e]
theorem put_rep {ws us : List W} {is js : List Im} {x : Nm} (r : Rep ws is) (q : Rep us js) (dj : ∀ o ∈ takesI is, o ∉ takesI js) (w : Wl (subI x is js)) (b : (takesI (subI x is js)).length + (opensI (subI x is js)).length ≤ 217180147158) :
    stdI (opensI (subI x (markI 0 ws) (markI 1 us))) (subI x (markI 0 ws) (markI 1 us)) = S (subI x is js) := by
  obtain ⟨φ, i1, e1⟩ := r.ex
  obtain ⟨ψ, i2, e2⟩ := q.ex
  have e3 : markI 1 us = js.map (relI fun o => (1, (ψ o).2)) := by
    rw [mark_one 1 us, e2, List.map_map]
    refine List.map_congr_left fun i _ => ?_
    cases i <;> rfl
  let θ : Own → Own := fun o => if o ∈ takesI is then φ o else (1, (ψ o).2)
  have t1 : ∀ o ∈ takesI is, φ o = θ o := fun o h => (if_pos h).symm
  have t2 : ∀ o ∈ takesI js, ((1 : Nat), (ψ o).2) = θ o := fun o h => (if_neg fun z => dj o z h).symm
  have em : subI x (markI 0 ws) (markI 1 us) = (subI x is js).map (relI θ) := by
    rw [subI_rel, e1, e3, rel_congr r.wl t1, rel_congr q.wl t2]
  have inj : InjT θ (subI x is js) := fun a ha c hc e => by
    rcases takes_of_sub ha with h1 | h1
    · rcases takes_of_sub hc with h2 | h2
      · rw [← t1 a h1, ← t1 c h2] at e
        exact i1 a h1 c h2 e
      · rw [← t1 a h1, ← t2 c h2] at e
        have := mark_zero e1 h1
        rw [e] at this
        cases this
    · rcases takes_of_sub hc with h2 | h2
      · rw [← t2 a h1, ← t1 c h2] at e
        have := mark_zero e1 h2
        rw [← e] at this
        cases this
      · rw [← t2 a h1, ← t2 c h2] at e
        have z1 := mark_zero e2 h1
        have z2 := mark_zero e2 h2
        exact i2 a h1 c h2 (Prod.ext (z1.trans z2.symm) (Prod.mk.inj e).2)
  rw [em, opensI_rel]
  exact std_rel w inj b
theorem S_len (is : List Im) : (S is).length = is.length := by unfold S stdI; rw [List.length_map]
theorem Good.bnd {is : List Im} (h : is.length ≤ 100000000) : (takesI is).length + (opensI is).length ≤ 217180147158 := by
  have h1 : (takesI is).length ≤ is.length := List.length_filterMap_le _ _
  have h2 : (opensI is).length ≤ is.length := List.length_filterMap_le _ _
  omega
theorem S_vd {is : List Im} (g : Good is) (ok : ∀ n ∈ opensI is, nmOk n) (h : is.length ≤ 100000000) : Vd (S is) := g.std (Good.bnd h) (fun n hn => hn) ok
end Wd

namespace Wd
open PySem
/-! ### a part taken out, a name in its place -/
theorem T.cut : ∀ (t : T) (p : Nat), t.sc → t.tks.Nodup → p < t.ws.length → ∃ (u : T) (X Y : List W), t.ws = X ++ u.ws ++ Y ∧ X.length = p ∧ t.e p = p + u.ws.length ∧ u.sc ∧
    ∀ z, (∀ n ∈ u.lv, n ∈ u.tks ∨ n ∉ t.tks) → ∃ t' : T, t'.ws = X ++ .nm z :: Y ∧ t'.sc := by
  intro t
  induction t with
  | nm n =>
    intro p s nd h
    simp [T.ws] at h
    subst h
    exact ⟨.nm n, [], [], by simp, rfl, by rw [T.e0]; simp, s, fun z _ => ⟨.nm z, rfl, trivial⟩⟩
  | tk m b ih =>
    intro p s nd h
    by_cases hz : p = 0
    · subst hz
      exact ⟨.tk m b, [], [], by simp, rfl, by rw [T.e0]; simp, s, fun z _ => ⟨.nm z, rfl, trivial⟩⟩
    · obtain ⟨q, rfl⟩ : ∃ q, p = q + 1 := ⟨p - 1, by omega⟩
      have nd2 := List.nodup_cons.mp (show (m :: b.tks).Nodup from nd)
      obtain ⟨u, X, Y, e1, e2, e3, e4, e5⟩ := ih q s.2 nd2.2 (by simp [T.ws] at h; omega)
      refine ⟨u, .tk m :: X, Y, by show W.tk m :: b.ws = _; rw [e1]; simp, by simp [e2], ?_, e4, fun z fr => ?_⟩
      · simp only [T.e]
        rw [if_neg (by omega), Nat.add_sub_cancel, e3]
        omega
      · obtain ⟨t', f1, f2⟩ := e5 z (fun n hn => (fr n hn).imp id fun k h => k (List.mem_cons_of_mem _ h))
        refine ⟨.tk m t', by show W.tk m :: t'.ws = _; rw [f1]; rfl, ⟨?_, f2⟩⟩
        have hm : m ∈ b.lv := s.1
        rw [T.lv_ws, e1] at hm
        rw [T.lv_ws, f1]
        simp only [List.filterMap_append, List.mem_append, List.filterMap_cons, List.mem_cons] at hm ⊢
        rcases hm with (hm | hm) | hm
        · exact .inl hm
        · rw [← T.lv_ws] at hm
          rcases fr m hm with k | k
          · have : m ∈ b.tks := by
              rw [T.tks_ws] at k
              rw [T.tks_ws, e1]
              simp only [List.filterMap_append, List.mem_append]
              exact .inl (.inr k)
            exact absurd this nd2.1
          · exact absurd (List.mem_cons_self ..) k
        · exact .inr (.inr hm)
  | ap f a ihf iha =>
    intro p s nd h
    by_cases hz : p = 0
    · subst hz
      exact ⟨.ap f a, [], [], by simp, rfl, by rw [T.e0]; simp, s, fun z _ => ⟨.nm z, rfl, trivial⟩⟩
    · obtain ⟨q, rfl⟩ : ∃ q, p = q + 1 := ⟨p - 1, by omega⟩
      have nd2 := List.nodup_append.mp (show (f.tks ++ a.tks).Nodup from nd)
      simp [T.ws] at h
      by_cases y : q < f.ws.length
      · obtain ⟨u, X, Y, e1, e2, e3, e4, e5⟩ := ihf q s.1 nd2.1 y
        refine ⟨u, .ap :: X, Y ++ a.ws, by show W.ap :: (f.ws ++ a.ws) = _; rw [e1]; simp, by simp [e2], ?_, e4, fun z fr => ?_⟩
        · simp only [T.e]
          rw [if_neg (by omega), if_pos (by omega), Nat.add_sub_cancel, e3]
          omega
        · obtain ⟨t', f1, f2⟩ := e5 z (fun n hn => (fr n hn).imp id fun k h => k (List.mem_append_left _ h))
          exact ⟨.ap t' a, by show W.ap :: (t'.ws ++ a.ws) = _; rw [f1]; simp, ⟨f2, s.2⟩⟩
      · obtain ⟨u, X, Y, e1, e2, e3, e4, e5⟩ := iha (q - f.ws.length) s.2 nd2.2.1 (by omega)
        refine ⟨u, .ap :: (f.ws ++ X), Y, by show W.ap :: (f.ws ++ a.ws) = _; rw [e1]; simp, by simp [e2]; omega, ?_, e4, fun z fr => ?_⟩
        · simp only [T.e]
          rw [if_neg (by omega), if_neg (by omega), Nat.add_sub_cancel, e3]
          omega
        · obtain ⟨t', f1, f2⟩ := e5 z (fun n hn => (fr n hn).imp id fun k h => k (List.mem_append_right _ h))
          exact ⟨.ap f t', by show W.ap :: (f.ws ++ t'.ws) = _; rw [f1]; simp, ⟨s.1, f2⟩⟩
theorem nms_app (A B : List W) : nmsOf (A ++ B) = nmsOf A ++ nmsOf B := nmsOf_app A B
theorem tks_app (A B : List W) : takesOf (A ++ B) = takesOf A ++ takesOf B := by simp [takesOf]
/-- ws with the part U at X.length, z in its place gives X ++ z ++ Y -/
structure Cut (ws X U Y : List W) (z : Nm) : Prop where
  e : ws = X ++ U ++ Y
  v : Vd ws
  u : Vd U
  o : Vd (X ++ .nm z :: Y)
  zn : z ∉ nmsOf ws
  zt : z ∉ takesOf ws
  fr : ∀ n ∈ openN U, n ∈ openN ws
theorem Vd.cut {ws : List W} {E : Nat → Nat} (v : Vd ws) (he : IsEnds ws E) {p : Nat} (hp : p < ws.length) : ∃ X U Y, ws = X ++ U ++ Y ∧ X.length = p ∧ E p = p + U.length ∧ Vd U ∧
    ∀ z, Wd.nmOk z → z ∉ nmsOf ws → z ∉ takesOf ws → (∀ n ∈ openN U, n ∈ openN ws) → Cut ws X U Y z := by
  have v0 := v
  obtain ⟨⟨t, ew, s, nl, nt⟩, ok⟩ := v
  subst ew
  obtain ⟨u, X, Y, e1, e2, e3, e4, e5⟩ := T.cut t p s nt hp
  have nl2 : (nmsOf X ++ u.lv ++ nmsOf Y).Nodup := by
    have := nl
    rw [← nmsOf_tree, e1, nms_app, nms_app, nmsOf_tree] at this
    exact this
  have nt2 : (takesOf X ++ u.tks ++ takesOf Y).Nodup := by
    have := nt
    rw [← takesOf_tree, e1, tks_app, tks_app, takesOf_tree] at this
    exact this
  have n3 := List.nodup_append.mp nl2
  have n4 := List.nodup_append.mp n3.1
  have t3 := List.nodup_append.mp nt2
  have t4 := List.nodup_append.mp t3.1
  have uV : Vd u.ws := ⟨⟨u, rfl, e4, n4.2.1, t4.2.1⟩, fun w hw => ok w (by rw [e1]; simp [hw])⟩
  refine ⟨X, u.ws, Y, e1, e2, ?_, uV, fun z zo zn zt fr => ⟨e1, v0, uV, ?_, zn, zt, fr⟩⟩
  · rw [he.uniq t.isEnds _ p rfl hp, e3]
  · obtain ⟨t', f1, f2⟩ := e5 z (fun n hn => by
      by_cases k : n ∈ u.tks
      · exact .inl k
      · refine .inr fun q => ?_
        have := fr n (mem_open.mpr ⟨by rw [nmsOf_tree]; exact hn, by rw [takesOf_tree]; exact k⟩)
        exact (mem_open.mp this).2 (by rw [takesOf_tree]; exact q))
    rw [e1, nms_app, nms_app] at zn
    refine ⟨⟨t', f1, f2, ?_, ?_⟩, fun w hw => ?_⟩
    · rw [← nmsOf_tree, f1, nms_app]
      have : nmsOf (W.nm z :: Y) = z :: nmsOf Y := rfl
      rw [this]
      refine List.nodup_append.mpr ⟨n4.1, List.nodup_cons.mpr ⟨fun q => zn (List.mem_append_right _ q), n3.2.1⟩, fun a ha b hb e => ?_⟩
      subst e
      rcases List.mem_cons.mp hb with q | q
      · exact zn (List.mem_append_left _ (List.mem_append_left _ (q ▸ ha)))
      · exact n3.2.2 a (List.mem_append_left _ ha) a q rfl
    · rw [← takesOf_tree, f1, tks_app]
      have : takesOf (W.nm z :: Y) = takesOf Y := rfl
      rw [this]
      exact List.nodup_append.mpr ⟨t4.1, t3.2.1, fun a ha b hb e => t3.2.2 a (List.mem_append_left _ ha) b hb e⟩
    · rcases List.mem_append.mp hw with q | q
      · exact ok w (by rw [e1]; simp [q])
      · rcases List.mem_cons.mp q with rfl | q
        · exact zo
        · exact ok w (by rw [e1]; simp [q])
namespace Cut
variable {ws X U Y : List W} {z : Nm}
theorem nms (c : Cut ws X U Y z) : nmsOf ws = nmsOf X ++ nmsOf U ++ nmsOf Y := by rw [c.e, nms_app, nms_app]
theorem tks (c : Cut ws X U Y z) : takesOf ws = takesOf X ++ takesOf U ++ takesOf Y := by rw [c.e, tks_app, tks_app]
theorem nmsO (c : Cut ws X U Y z) : nmsOf (X ++ .nm z :: Y) = nmsOf X ++ z :: nmsOf Y := by rw [nms_app]; rfl
theorem tksO (c : Cut ws X U Y z) : takesOf (X ++ .nm z :: Y) = takesOf X ++ takesOf Y := by rw [tks_app]; rfl
/-- no name stands or is taken both within and without -/
theorem nmAp (c : Cut ws X U Y z) {n : Nm} (h : n ∈ nmsOf U) : n ∉ nmsOf X ∧ n ∉ nmsOf Y := by
  have nd := c.v.nmsNd
  rw [c.nms] at nd
  have n3 := List.nodup_append.mp nd
  have n4 := List.nodup_append.mp n3.1
  exact ⟨fun q => n4.2.2 n q n h rfl, fun q => n3.2.2 n (List.mem_append_right _ h) n q rfl⟩
theorem tkAp (c : Cut ws X U Y z) {n : Nm} (h : n ∈ takesOf U) : n ∉ takesOf X ∧ n ∉ takesOf Y := by
  have nd := c.v.tksNd
  rw [c.tks] at nd
  have n3 := List.nodup_append.mp nd
  have n4 := List.nodup_append.mp n3.1
  exact ⟨fun q => n4.2.2 n q n h rfl, fun q => n3.2.2 n (List.mem_append_right _ h) n q rfl⟩
theorem zO (c : Cut ws X U Y z) : z ∈ openN (X ++ .nm z :: Y) := by
  refine mem_open.mpr ⟨by rw [c.nmsO]; simp, fun q => c.zt ?_⟩
  rw [c.tksO] at q
  rw [c.tks]
  rcases List.mem_append.mp q with q | q
  · exact List.mem_append_left _ (List.mem_append_left _ q)
  · exact List.mem_append_right _ q
/-- what is open without, but z, stands without -/
theorem oO (c : Cut ws X U Y z) {n : Nm} (h : n ∈ openN (X ++ .nm z :: Y)) (hz : n ≠ z) : n ∈ nmsOf X ∨ n ∈ nmsOf Y := by
  have := (mem_open.mp h).1
  rw [c.nmsO] at this
  rcases List.mem_append.mp this with q | q
  · exact .inl q
  · exact .inr ((List.mem_cons.mp q).resolve_left hz)
theorem apart (c : Cut ws X U Y z) {n : Nm} (h : n ∈ openN (X ++ .nm z :: Y)) (hz : n ≠ z) : n ∉ nmsOf U := fun q => by
  have := c.nmAp q
  exact (c.oO h hz).elim this.1 this.2
theorem len (c : Cut ws X U Y z) : (X ++ .nm z :: Y).length + U.length = ws.length + 1 := by rw [c.e]; simp; omega
/-- the words are those without, those within in z's place -/
theorem rep (c : Cut ws X U Y z) {j k : Nat} (hjk : j ≠ k) (w : Wl (subI z (markI j (X ++ .nm z :: Y)) (markI k U))) : Rep ws (subI z (markI j (X ++ .nm z :: Y)) (markI k U)) := by
  refine ⟨w, fun o => (0, o.2), fun a ha b hb e => ?_, ?_⟩
  · have e2 : a.2 = b.2 := (Prod.mk.inj e).2
    have tk : ∀ o : Own, o ∈ takesI (subI z (markI j (X ++ .nm z :: Y)) (markI k U)) → (o.1 = j ∧ (o.2 ∈ takesOf X ∨ o.2 ∈ takesOf Y)) ∨ (o.1 = k ∧ o.2 ∈ takesOf U) := fun o ho => by
      rcases takes_of_sub ho with q | q
      · rw [takesI_mark] at q
        obtain ⟨m, hm, rfl⟩ := List.mem_map.mp q
        rw [c.tksO] at hm
        exact .inl ⟨rfl, List.mem_append.mp hm⟩
      · rw [takesI_mark] at q
        obtain ⟨m, hm, rfl⟩ := List.mem_map.mp q
        exact .inr ⟨rfl, hm⟩
    rcases tk a ha with ⟨a1, a2⟩ | ⟨a1, a2⟩
    · rcases tk b hb with ⟨b1, b2⟩ | ⟨b1, b2⟩
      · exact Prod.ext (a1.trans b1.symm) e2
      · rw [← e2] at b2
        exact (a2.elim (c.tkAp b2).1 (c.tkAp b2).2).elim
    · rcases tk b hb with ⟨b1, b2⟩ | ⟨b1, b2⟩
      · rw [e2] at a2
        exact (b2.elim (c.tkAp a2).1 (c.tkAp a2).2).elim
      · exact Prod.ext (a1.trans b1.symm) e2
  · have mO : ∀ n, (j, n) ∈ owned [(j, X ++ .nm z :: Y)] ↔ n ∈ takesOf X ∨ n ∈ takesOf Y := fun n => by rw [mem_owned_o, c.tksO, List.mem_append]
    have mU : ∀ n, (k, n) ∈ owned [(k, U)] ↔ n ∈ takesOf U := fun n => mem_owned_o
    have m0 : ∀ n, (0, n) ∈ owned [(0, ws)] ↔ (n ∈ takesOf X ∨ n ∈ takesOf U) ∨ n ∈ takesOf Y := fun n => by rw [mem_owned_o, c.tks, List.mem_append, List.mem_append]
    have hz : (j, z) ∉ owned [(j, X ++ .nm z :: Y)] := fun q => by
      refine c.zt ?_
      rw [c.tks, List.mem_append, List.mem_append]
      exact ((mO z).mp q).elim (fun h => .inl (.inl h)) .inr
    have zX : W.nm z ∉ X := fun q => c.zn (by rw [c.nms]; exact List.mem_append_left _ (List.mem_append_left _ (mem_nms.mpr q)))
    have zY : W.nm z ∉ Y := fun q => c.zn (by rw [c.nms]; exact List.mem_append_right _ (mem_nms.mpr q))
    have e1 : markI 0 ws = X.map (mkI (owned [(0, ws)]) 0) ++ U.map (mkI (owned [(0, ws)]) 0) ++ Y.map (mkI (owned [(0, ws)]) 0) := by
      have : markI 0 ws = (X ++ U ++ Y).map (mkI (owned [(0, ws)]) 0) := congrArg (fun l : List W => l.map (mkI (owned [(0, ws)]) 0)) c.e
      rw [this, List.map_append, List.map_append]
    have nop : ∀ A : List W, W.nm z ∉ A → z ∉ opensI (A.map (mkI (owned [(j, X ++ .nm z :: Y)]) j)) := fun A hA q => by
      obtain ⟨w, hw, e⟩ := List.mem_map.mp (mem_opensI.mp q)
      cases w with
      | ap => cases e
      | tk n => cases e
      | nm n =>
        have e' : (if (j, n) ∈ owned [(j, X ++ .nm z :: Y)] then Im.nm (j, n) else Im.op n) = Im.op z := e
        by_cases h : (j, n) ∈ owned [(j, X ++ .nm z :: Y)]
        · rw [if_pos h] at e'; cases e'
        · rw [if_neg h] at e'
          cases e'
          exact hA hw
    have e2 : subI z (markI j (X ++ .nm z :: Y)) (markI k U) = X.map (mkI (owned [(j, X ++ .nm z :: Y)]) j) ++ U.map (mkI (owned [(k, U)]) k) ++ Y.map (mkI (owned [(j, X ++ .nm z :: Y)]) j) := by
      unfold markI
      rw [List.map_append, List.map_cons]
      have ez : mkI (owned [(j, X ++ .nm z :: Y)]) j (.nm z) = .op z := if_neg hz
      rw [ez]
      have e2 : ∀ b js, subI z (Im.op z :: b) js = js ++ subI z b js := fun b js => by simp [subI]
      rw [subI_app, subI_none (nop X zX), e2, subI_none (nop Y zY), List.append_assoc]
    rw [e1, e2, List.map_append, List.map_append, List.map_map, List.map_map, List.map_map]
    have one : ∀ (A : List W), (∀ n, W.nm n ∈ A → ((0, n) ∈ owned [(0, ws)] ↔ (j, n) ∈ owned [(j, X ++ .nm z :: Y)])) → A.map (mkI (owned [(0, ws)]) 0) = A.map (relI (fun o : Own => ((0 : Nat), o.2)) ∘ mkI (owned [(j, X ++ .nm z :: Y)]) j) := fun A hA => List.map_congr_left fun w hw => by
      cases w with
      | ap => rfl
      | tk n => rfl
      | nm n =>
        show (if (0, n) ∈ owned [(0, ws)] then Im.nm (0, n) else Im.op n) = relI _ (if (j, n) ∈ owned [(j, X ++ .nm z :: Y)] then Im.nm (j, n) else Im.op n)
        by_cases h : (j, n) ∈ owned [(j, X ++ .nm z :: Y)]
        · rw [if_pos h, if_pos ((hA n hw).mpr h)]; rfl
        · rw [if_neg h, if_neg fun q => h ((hA n hw).mp q)]; rfl
    have two : U.map (mkI (owned [(0, ws)]) 0) = U.map (relI (fun o : Own => ((0 : Nat), o.2)) ∘ mkI (owned [(k, U)]) k) := List.map_congr_left fun w hw => by
      cases w with
      | ap => rfl
      | tk n => rfl
      | nm n =>
        show (if (0, n) ∈ owned [(0, ws)] then Im.nm (0, n) else Im.op n) = relI _ (if (k, n) ∈ owned [(k, U)] then Im.nm (k, n) else Im.op n)
        by_cases h : n ∈ takesOf U
        · rw [if_pos ((mU n).mpr h), if_pos ((m0 n).mpr (.inl (.inr h)))]; rfl
        · have h3 := (mem_open.mp (c.fr n (mem_open.mpr ⟨mem_nms.mpr hw, h⟩))).2
          rw [if_neg fun q => h ((mU n).mp q), if_neg fun q => h3 (mem_owned_o.mp q)]; rfl
    have inX : ∀ n, (n ∈ nmsOf X ∨ n ∈ nmsOf Y) → ((0, n) ∈ owned [(0, ws)] ↔ (j, n) ∈ owned [(j, X ++ .nm z :: Y)]) := fun n hn => by
      rw [m0, mO]
      constructor
      · rintro ((h | h) | h)
        · exact .inl h
        · have := c.nmAp (c.u.tkIn h)
          exact (hn.elim this.1 this.2).elim
        · exact .inr h
      · exact fun h => h.elim (fun h => .inl (.inl h)) .inr
    rw [one X (fun n hn => inX n (.inl (mem_nms.mpr hn))), one Y (fun n hn => inX n (.inr (mem_nms.mpr hn))), two]
end Cut
end Wd

/-! steps of words -/
namespace Kk
open PySem Wd
/-- the step of a take, given something -/
structure StepAt (ws X A B G Y : List W) (n : Nm) : Prop where
  e : ws = X ++ (.ap :: .tk n :: (A ++ (.nm n :: B) ++ (G ++ Y)))
  b : ∃ b : T, b.ws = A ++ .nm n :: B
  g : ∃ g : T, g.ws = G
  no : W.nm n ∉ A
  ok : ∀ w ∈ ws, wOk w
def isStp (ws : List W) (j : Nat) : Bool := match ws[j]?, ws[j + 1]? with
  | some .ap, some (.tk _) => true
  | _, _ => false
theorem Vd.apIn {ws : List W} (v : Vd ws) {j : Nat} (h : ws[j]? = some .ap) : j + 1 < ws.length := by
  obtain ⟨⟨t, rfl, _⟩, _⟩ := v
  exact (T.e_ap t j h).1
def stepsW (ws : List W) : List Nat := (List.range ws.length).filter (isStp ws)

theorem ends_at {ws : List W} {E : Nat → Nat} (he : IsEnds ws E) : ∀ (t : T) (X Y : List W), ws = X ++ t.ws ++ Y → E X.length = X.length + t.ws.length
  | .nm n, X, Y, e => by
    have : ws[X.length]? = some (.nm n) := by rw [e]; simp [T.ws]
    rw [he.nm _ _ this]; rfl
  | .tk n b, X, Y, e => by
    have h : ws[X.length]? = some (.tk n) := by rw [e]; simp [T.ws]
    have ih := ends_at he b (X ++ [.tk n]) Y (by rw [e]; simp [T.ws])
    rw [(he.tk _ _ h).2]
    simp at ih
    rw [ih]
    simp [T.ws]; omega
  | .ap f a, X, Y, e => by
    have h : ws[X.length]? = some .ap := by rw [e]; simp [T.ws]
    have ih1 := ends_at he f (X ++ [.ap]) (a.ws ++ Y) (by rw [e]; simp [T.ws])
    have ih2 := ends_at he a (X ++ .ap :: f.ws) Y (by rw [e]; simp [T.ws])
    rw [(he.ap _ h).2.2]
    simp at ih1 ih2
    rw [ih1, show X.length + 1 + f.ws.length = X.length + (f.ws.length + 1) by omega, ih2]
    simp [T.ws]; omega
theorem split_first {α : Type} [DecidableEq α] {x : α} : ∀ {l : List α}, x ∈ l → ∃ A B, l = A ++ x :: B ∧ x ∉ A
  | y :: l, h => by
    by_cases e : x = y
    · subst e; exact ⟨[], l, rfl, by simp⟩
    · obtain ⟨A, B, h1, h2⟩ := split_first ((List.mem_cons.mp h).resolve_left e)
      refine ⟨y :: A, B, by rw [h1]; rfl, fun q => ?_⟩
      rcases List.mem_cons.mp q with q | q
      · exact e q
      · exact h2 q
theorem nm_mem {t : T} {n : Nm} (h : n ∈ t.lv) : W.nm n ∈ t.ws := by
  obtain ⟨j, hj⟩ := T.used_lv t n h
  exact List.mem_of_getElem? hj
theorem stepAt_of {ws : List W} (v : Vd ws) {j : Nat} (h : isStp ws j = true) : ∃ X A B G Y n, X.length = j ∧ StepAt ws X A B G Y n ∧ W.nm n ∉ B ∧ ∃ E, IsEnds ws E ∧ E (j + 2) = j + 2 + (A.length + 1 + B.length) ∧ E j = j + 2 + (A.length + 1 + B.length) + G.length := by
  have v0 := v
  obtain ⟨⟨t, ew, s, nl, nt⟩, ok⟩ := v
  unfold isStp at h
  have hj : ∃ n, ws[j]? = some .ap ∧ ws[j + 1]? = some (.tk n) := by
    cases h1 : ws[j]? with
    | none => rw [h1] at h; cases h
    | some a =>
      cases h2 : ws[j + 1]? with
      | none => rw [h1, h2] at h; cases a <;> cases h
      | some b =>
        rw [h1, h2] at h
        cases a with
        | ap => cases b with
          | tk n => exact ⟨n, rfl, rfl⟩
          | ap => cases h
          | nm n => cases h
        | tk n => cases h
        | nm n => cases h
  obtain ⟨n, h1, h2⟩ := hj
  subst ew
  have hlt := (List.getElem?_eq_some_iff.mp h1).1
  obtain ⟨u, X, Y, e1, e2, e3, e4, e5⟩ := T.cut t j s nt hlt
  have hu : ∃ b g, u = .ap (.tk n b) g := by
    have g0 : u.ws[0]? = some .ap := by
      have : (X ++ u.ws ++ Y)[j]? = some .ap := by rw [← e1]; exact h1
      rw [List.append_assoc, List.getElem?_append_right (by omega), e2, Nat.sub_self, List.getElem?_append_left (T.pos u)] at this
      exact this
    have g1 : u.ws[1]? = some (.tk n) := by
      cases u with
      | nm m => simp [T.ws] at g0
      | tk m b => simp [T.ws] at g0
      | ap f a =>
        have : (X ++ (T.ap f a).ws ++ Y)[j + 1]? = some (.tk n) := by rw [← e1]; exact h2
        have pf := T.pos f
        rw [List.append_assoc, List.getElem?_append_right (by omega), e2, show j + 1 - j = 1 by omega, List.getElem?_append_left (by simp [T.ws]; omega)] at this
        exact this
    cases u with
    | nm m => simp [T.ws] at g0
    | tk m b => simp [T.ws] at g0
    | ap f a =>
      have pf := T.pos f
      have g2 : f.ws[0]? = some (.tk n) := by
        have : (W.ap :: (f.ws ++ a.ws))[1]? = some (.tk n) := g1
        rw [List.getElem?_cons_succ, List.getElem?_append_left pf] at this
        exact this
      cases f with
      | nm m => simp [T.ws] at g2
      | ap f1 f2 => simp [T.ws] at g2
      | tk m b =>
        have : m = n := by simpa [T.ws] using g2
        subst this
        exact ⟨b, a, rfl⟩
  obtain ⟨b, g, rfl⟩ := hu
  have hn : n ∈ b.lv := e4.1.1
  obtain ⟨A, B, hAB, hA⟩ := split_first (nm_mem hn)
  have ew2 : t.ws = X ++ (.ap :: .tk n :: (A ++ (.nm n :: B) ++ (g.ws ++ Y))) := by
    rw [e1]
    show X ++ (W.ap :: ((W.tk n :: b.ws) ++ g.ws)) ++ Y = _
    rw [hAB]; simp
  have nB : W.nm n ∉ B := fun q => by
    obtain ⟨i, hi⟩ := List.mem_iff_getElem?.mp q
    have p1 : t.ws[X.length + (2 + A.length)]? = some (.nm n) := by
      rw [ew2, List.getElem?_append_right (by omega), Nat.add_sub_cancel_left]
      have : (W.ap :: W.tk n :: (A ++ (W.nm n :: B) ++ (g.ws ++ Y)))[2 + A.length]? = (A ++ (W.nm n :: B) ++ (g.ws ++ Y))[A.length]? := by rw [Nat.add_comm]; rfl
      rw [this, List.append_assoc, List.getElem?_append_right (Nat.le_refl _), Nat.sub_self]; rfl
    have p2 : t.ws[X.length + (2 + A.length + 1 + i)]? = some (.nm n) := by
      rw [ew2, List.getElem?_append_right (by omega), Nat.add_sub_cancel_left]
      have : (W.ap :: W.tk n :: (A ++ (W.nm n :: B) ++ (g.ws ++ Y)))[2 + A.length + 1 + i]? = (A ++ (W.nm n :: B) ++ (g.ws ++ Y))[A.length + 1 + i]? := by rw [show 2 + A.length + 1 + i = (A.length + 1 + i) + 2 by omega]; rfl
      have hil := (List.getElem?_eq_some_iff.mp hi).1
      rw [this, List.append_assoc, List.getElem?_append_right (by omega), show A.length + 1 + i - A.length = i + 1 by omega]
      show ((W.nm n :: B) ++ (g.ws ++ Y))[i + 1]? = _
      rw [List.getElem?_append_left (by simp; omega)]
      exact hi
    have := v0.once (by simp) p1 p2
    omega
  refine ⟨X, A, B, g.ws, Y, n, e2, ⟨ew2, ⟨b, hAB⟩, ⟨g, rfl⟩, hA, ok⟩, nB, t.e, t.isEnds, ?_, ?_⟩
  · have := ends_at t.isEnds b (X ++ [.ap, .tk n]) (g.ws ++ Y) (by rw [ew2, hAB]; simp)
    rw [hAB] at this
    simp at this
    rw [← e2, show X.length + 2 = X.length + 1 + 1 by omega] at *
    rw [this]; omega
  · have := ends_at t.isEnds (.ap (.tk n b) g) X Y e1
    rw [← e2, this]
    show X.length + (W.ap :: ((W.tk n :: b.ws) ++ g.ws)).length = _
    rw [hAB]
    simp; omega
end Kk

set_option maxHeartbeats 4000000
namespace Kk
open PySem PySem.Spec PyProof.Rows L2 Wd
theorem cut_from {xs : List V} {c : Nat} : cutV xs (some (c : Int)) none = xs.drop c := by
  unfold cutV
  rw [HT.sIx_nat, HT.sIx_none]
  by_cases h : c ≤ xs.length
  · rw [Nat.min_eq_left h]
    exact List.take_of_length_le (by rw [List.length_drop]; exact Nat.le_refl _)
  · rw [Nat.min_eq_right (by omega), Nat.sub_self, List.take_zero, List.drop_of_length_le (by omega)]
theorem cut_to {xs : List V} {c : Nat} : cutV xs none (some (c : Int)) = xs.take c := by
  unfold cutV
  rw [HT.sIx_nat, HT.sIx_none, List.drop_zero, Nat.sub_zero]
  by_cases h : c ≤ xs.length
  · rw [Nat.min_eq_left h]
  · rw [Nat.min_eq_right (by omega), List.take_length, List.take_of_length_le (by omega)]
abbrev Entry := Addr × Addr × List Nm × Nat
def pyl (X : List Entry) : List V := X.reverse.map (fun x => V.ref x.1)
theorem pyl_cons (x : Entry) (X : List Entry) : pyl (x :: X) = pyl X ++ [.ref x.1] := by simp [pyl]
structure Off (p g u f w b : Addr) : Prop where
  p : b ≠ p
  g : b ≠ g
  u : b ≠ u
  f : b ≠ f
  w : b ≠ w
structure Ent (p g u f w : Addr) (H : Hp) (x : Entry) : Prop where
  t : H x.1 = some (.tup [.ref x.2.1, .int (x.2.2.2 : Nat)])
  r : H x.2.1 = some (.lst (x.2.2.1.map sv))
  ot : Off p g u f w x.1
  or : Off p g u f w x.2.1
  le : x.2.2.1.length ≤ x.2.2.2 + 1
/-- all that is off these is as it was -/
def Fro (p g u f w : Addr) (H H' : Hp) : Prop := ∀ b o, H b = some o → Off p g u f w b → H' b = some o
section
variable {p g u f w : Addr} {H H1 H2 : Hp}
theorem Fro.trans (a : Fro p g u f w H H1) (b : Fro p g u f w H1 H2) : Fro p g u f w H H2 := fun c o h k => b c o (a c o h k) k
theorem Fro.same (a : Same H H1) : Fro p g u f w H H1 := fun b o h _ => a b o h
theorem Fro.keep (a : Keep p g H H1) : Fro p g u f w H H1 := fun b o h k => a b o h k.p k.g
theorem Fro.updw {o : HO} : Fro p g u f w H (upd H w o) := fun b x h k => by rw [upd_ne k.w]; exact h
theorem Fro.updf {o : HO} : Fro p g u f w H (upd H f o) := fun b x h k => by rw [upd_ne k.f]; exact h
theorem Ent.fro {x : Entry} (a : Fro p g u f w H H1) (e : Ent p g u f w H x) : Ent p g u f w H1 x := ⟨a _ _ e.t e.ot, a _ _ e.r e.or, e.ot, e.or, e.le⟩
end
/-- the addresses that are written, apart -/
structure Apart (p g s u f w : Addr) (H0 : Hp) : Prop where
  fp : f ≠ p
  fg : f ≠ g
  fs : f ≠ s
  fu : f ≠ u
  fw : f ≠ w
  wp : w ≠ p
  wg : w ≠ g
  ws : w ≠ s
  wu : w ≠ u
  up : u ≠ p
  ug : u ≠ g
  us : u ≠ s
  nf : H0 f = none
  nw : H0 w = none
structure WI (p g s u f w : Addr) (names : List Nm) (gv : Nat) (H0 H : Hp) (i : Nat) (F : List W) (X : List Entry) : Prop where
  pot : PotAt H p g s
  hf : H f = some (.lst (F.map wv))
  hw : H w = some (.lst (pyl X))
  hu : H u = some (.lst ((names ++ takesOf F).map sv))
  ent : ∀ x ∈ X, Ent p g u f w H x
  nd : (names ++ takesOf F).Nodup
  ok : ∀ n ∈ names ++ takesOf F, nmOk n
  len : F.length = i
  cst : costs (X.map (·.2.2)) + i + names.length = 3 * gv + 2
  pre : Pre (names, gv) F (X.map (·.2.2))
  kp : ∀ b o, H0 b = some o → b ≠ p → b ≠ g → b ≠ u → H b = some o
theorem costs_app (a b : List (List Nm × Nat)) : costs (a ++ b) = costs a + costs b := by
  induction a with
  | nil => simp [costs]
  | cons x a ih => simp [costs, ih]; omega
theorem WI.next {p g s u f w : Addr} {names : List Nm} {gv : Nat} {H0 H H' : Hp} {i : Nat} {F F' : List W} {x : Entry} {X Y : List Entry} (A : Apart p g s u f w H0) (I : WI p g s u f w names gv H0 H i F (x :: X))
    (fr : Fro p g u f w H H') (pot : PotAt H' p g s) (hf : H' f = some (.lst (F'.map wv))) (hw : H' w = some (.lst (pyl (Y ++ X)))) (hu : H' u = some (.lst ((names ++ takesOf F').map sv)))
    (ey : ∀ y ∈ Y, Ent p g u f w H' y) (nd : (names ++ takesOf F').Nodup) (ok : ∀ n ∈ names ++ takesOf F', nmOk n) (len : F'.length = i + 1) (cst : costs (Y.map (·.2.2)) + 1 = cost x.2.2)
    (pre : Pre (names, gv) F' ((Y ++ X).map (·.2.2))) : WI p g s u f w names gv H0 H' (i + 1) F' (Y ++ X) where
  pot := pot
  hf := hf
  hw := hw
  hu := hu
  ent := fun y hy => by
    rcases List.mem_append.mp hy with h | h
    · exact ey y h
    · exact (I.ent y (List.mem_cons_of_mem _ h)).fro fr
  nd := nd
  ok := ok
  len := len
  cst := by
    have c := I.cst
    rw [List.map_append, costs_app]
    simp only [List.map_cons, costs] at c
    omega
  pre := pre
  kp := fun b o h b1 b2 b3 => fr b o (I.kp b o h b1 b2 b3) ⟨b1, b2, b3, ne_of_none h A.nf, ne_of_none h A.nw⟩
theorem WI.offNew {p g s u f w : Addr} {H' : Hp} {b : Addr} (PA : PotAt H' p g s) {uf wf uu : HO} (hf : H' f = some uf) (hw : H' w = some wf) (hu : H' u = some uu) (n : H' b = none) : Off p g u f w b := by
  obtain ⟨⟨G, S, t, r, z1, z2, z3, z4⟩, _, _, _⟩ := PA
  exact ⟨(ne_of_none z1 n).symm, (ne_of_none z2 n).symm, (ne_of_none hu n).symm, (ne_of_none hf n).symm, (ne_of_none hw n).symm⟩
/-- behind the pop -/
structure Mid (p g s u f w : Addr) (names : List Nm) (F : List W) (X : List Entry) (x : Entry) (H H' : Hp) : Prop where
  pot : PotAt H' p g s
  hf : H' f = some (.lst (F.map wv))
  hw : H' w = some (.lst (pyl X))
  hu : H' u = some (.lst ((names ++ takesOf F).map sv))
  e : Ent p g u f w H' x
  fr : Fro p g u f w H H'
theorem Mid.keep {p g s u f w : Addr} {names : List Nm} {F : List W} {X : List Entry} {x : Entry} {H H0 H' H'' : Hp} (A : Apart p g s u f w H0) (M : Mid p g s u f w names F X x H H') (P : PotAt H'' p g s) (k : Keep p g H' H'') : Mid p g s u f w names F X x H H'' :=
  ⟨P, k _ _ M.hf A.fp A.fg, k _ _ M.hw A.wp A.wg, k _ _ M.hu A.up A.ug, M.e.fro (Fro.keep k), M.fr.trans (Fro.keep k)⟩
theorem Mid.same {p g s u f w : Addr} {names : List Nm} {F : List W} {X : List Entry} {x : Entry} {H H' H'' : Hp} (M : Mid p g s u f w names F X x H H') (k : Same H' H'') : Mid p g s u f w names F X x H H'' :=
  ⟨M.pot.keep k, k _ _ M.hf, k _ _ M.hw, k _ _ M.hu, M.e.fro (Fro.same k), M.fr.trans (Fro.same k)⟩
theorem int0 (n : Nat) : decide (V.int (n : Int) = V.int 0) = decide (n = 0) := by
  by_cases h : n = 0
  · subst h; simp
  · rw [decide_eq_false h]
    exact decide_eq_false (fun e => h (by have := V.int.inj e; omega))
theorem int1 (n : Nat) : decide (V.int (n : Int) = V.int 1) = decide (n = 1) := by
  by_cases h : n = 1
  · subst h; simp
  · rw [decide_eq_false h]
    exact decide_eq_false (fun e => h (by have := V.int.inj e; omega))
def spWords : Sp := fun vs H Q _ => ∃ (p g s m u : Addr) (names : List Nm) (gv : Nat), vs = [.ref p, .ref m, .int (gv : Nat), .ref u] ∧ PotAt H p g s ∧ H m = some (.lst (names.map sv)) ∧ H u = some (.lst (names.map sv)) ∧ m ≠ p ∧ m ≠ g ∧ m ≠ u ∧ u ≠ p ∧ u ≠ g ∧ gv ≤ 333 ∧ names.length ≤ gv + 1 ∧ names.length ≤ 60 ∧ names.Nodup ∧ (∀ n ∈ names, nmOk n) ∧
  ∀ (H' : Hp) (q : Addr) (ws : List W), Gen names gv ws → PotAt H' p g s → H' u = some (.lst ((names ++ takesOf ws).map sv)) → TupF H' q (ws.map wv) → (∀ b o, H b = some o → b ≠ p → b ≠ g → b ≠ u → H' b = some o) → Q (.ref q) H'
theorem enc_ap : Str.ofString "@" = enc .ap := TL.ext_tl (by rw [TL.tl_ofString]; rfl)
theorem enc_tk' (n : Nm) : Str.ofString "/" ++ str n = enc (.tk n) := TL.ext_tl (by rw [TL.tl_append, TL.tl_ofString]; rfl)
theorem bigN : (2000 : Nat) < 2 ^ 200 := by decide +kernel
end Kk

set_option maxHeartbeats 2000000
namespace Kk
open PySem PySem.Spec PyProof.Rows L2 Wd
def spSize : Sp := fun vs H Q _ => ∃ (p g s : Addr) (m : Nat), vs = [.ref p, .int (m : Int)] ∧ PotAt H p g s ∧ m ≤ 333 ∧
  ∀ (H' : Hp) (n : Nat), n ≤ max m 9 → PotAt H' p g s → Keep p g H H' → Q (.int (n : Int)) H'
def spProgram : Sp := fun vs H Q _ => ∃ (p g s : Addr) (m k : Nat), vs = [.ref p, .int (m : Int), .int (k : Int)] ∧ PotAt H p g s ∧ m ≤ 333 ∧ k ≤ 50 ∧
  ∀ (H' : Hp) (q : Addr) (names : List Nm) (gv : Nat) (ws : List W), Gen names gv ws → gv ≤ max m 9 → names.length ≤ k → PotAt H' p g s → TupF H' q (ws.map wv) → Keep p g H H' → Q (.ref q) H'
end Kk

set_option maxHeartbeats 2000000
namespace Kk
open PySem PySem.Spec PyProof.Rows L2 Wd
theorem PotAt.offs {H : Hp} {p g s q : Addr} {o : HO} (h : PotAt H p g s) (e : H q = some o) (hn : ∀ xs, o ≠ .lst xs) : q ≠ p ∧ q ≠ g := by
  obtain ⟨⟨G, S, t, r, z1, z2, z3, z4⟩, _, _, _⟩ := h
  exact ⟨ne_of e z1 (hn _), ne_of e z2 (hn _)⟩
theorem PotAt.new {H : Hp} {p g s q : Addr} (h : PotAt H p g s) (e : H q = none) : q ≠ p ∧ q ≠ g ∧ q ≠ s := by
  obtain ⟨⟨G, S, t, r, z1, z2, z3, z4⟩, _, _, _⟩ := h
  exact ⟨(ne_of_none z1 e).symm, (ne_of_none z2 e).symm, (ne_of_none z3 e).symm⟩
theorem Keep.free {H H1 : Hp} {p g s q : Addr} (k : Keep p g H H1) (P : PotAt H1 p g s) (e : H1 q = none) : H q = none := by
  cases h : H q with
  | none => rfl
  | some o =>
    obtain ⟨n1, n2, _⟩ := P.new e
    rw [k q o h n1 n2] at e
    cases e
theorem Keep.nw {H H1 : Hp} {p g q : Addr} {o : HO} (k : Keep p g H H1) (e : H q = none) : Keep p g H (upd H1 q o) := fun b u hb h1 h2 => by
  rw [upd_ne (ne_of_none hb e)]
  exact k b u hb h1 h2
theorem Same.nw {H H1 : Hp} {q : Addr} {o : HO} (k : Same H H1) (e : H q = none) : Same H (upd H1 q o) := fun b u hb => by
  rw [upd_ne (ne_of_none hb e)]
  exact k b u hb
theorem TupF.keepP {H H' : Hp} {p g s a : Addr} {xs : List V} (h : TupF H a xs) (P : PotAt H p g s) (k : Keep p g H H') : TupF H' a xs := by
  obtain ⟨o, h2, d2⟩ := h
  obtain ⟨q1, q2⟩ := P.offs h2 (fun _ q => nomatch q)
  exact ⟨o, k _ _ h2 q1 q2, d2⟩
end Kk

set_option maxHeartbeats 4000000
/-! words drawn by a recursion -/
namespace Kk
open PySem PySem.Spec PyProof.Rows L2 Wd
def spWordsR (K : PySem.W.Frag) (m : Nat) : Sp := fun vs H Q _ => ∃ (p g s q u : Addr) (names us : List Nm) (gv : Nat), vs = [.ref p, .ref q, .int (gv : Nat), .ref u] ∧ PotAt H p g s ∧ TupF H q (names.map sv) ∧ H u = some (.lst (us.map sv)) ∧ u ≠ p ∧ u ≠ g ∧
  names.length ≤ gv + 1 ∧ us.length + (gv + 1 - names.length) ≤ 26 ∧ (gv + 1) * (gv + 4) ≤ 2 * (names.length + m) ∧ gv ≤ 30 ∧ (∀ n ∈ names, n.length ≤ 8) ∧
  ∀ (H' : Hp) (r : Addr) (t : T) (us' : List Nm), GenR names gv us.length t → PotAt H' p g s → H' u = some (.lst (us'.map sv)) → us'.length = us.length + (gv + 1 - names.length) → TupF H' r (t.ws.map wv) → Ke p g u H H' → Q (.ref r) H'
theorem sv_q : V.str ("q" : Str) = sv [113] := by
  refine congrArg V.str (TL.ext_tl ?_)
  rw [TL.tl_ofString]; rfl
theorem str_app (a b : Nm) : str a ++ str b = str (a ++ b) := TL.ext_tl (by rw [TL.tl_append]; rfl)
theorem sv_sl (n : Nm) : V.str (("/" : Str) ++ str n) = wv (.tk n) := congrArg V.str (TL.ext_tl (by rw [TL.tl_append, slash]; rfl))
theorem wv_at : V.str ("@" : Str) = wv .ap := congrArg V.str (TL.ext_tl (by rw [at_sign]; rfl))
theorem PotAt.tupNe {H : Hp} {p g s q : Addr} {xs : List V} (h : PotAt H p g s) (t : TupF H q xs) : q ≠ p ∧ q ≠ g ∧ q ≠ s := by
  obtain ⟨⟨G, S, t0, r, h1, h2, h3, h4⟩, _, _, _⟩ := h
  exact ⟨t.ne_lst h1, t.ne_lst h2, t.ne_lst h3⟩
theorem PotAt.freeNe {H : Hp} {p g s q : Addr} (h : PotAt H p g s) (t : H q = none) : q ≠ p ∧ q ≠ g ∧ q ≠ s := by
  obtain ⟨⟨G, S, t0, r, h1, h2, h3, h4⟩, _, _, _⟩ := h
  exact ⟨(ne_of_none h1 t).symm, (ne_of_none h2 t).symm, (ne_of_none h3 t).symm⟩
theorem TupF.ke {p g u : Addr} {H H' : Hp} {a : Addr} {xs : List V} (h : TupF H a xs) (k : Ke p g u H H') (h1 : a ≠ p) (h2 : a ≠ g) (h3 : a ≠ u) : TupF H' a xs := by
  obtain ⟨o, h, d⟩ := h
  exact ⟨o, k _ _ h h1 h2 h3, d⟩
section
variable {P : Program} {w : World} {K : PySem.W.Frag} {mg : Str → Option Value} {base : Heap}
end
end Kk

set_option maxHeartbeats 2000000
namespace Kk
open PySem PySem.Spec PyProof.Rows L2 Wd
theorem lc_text {x : Str} {g : TG} {tt : TT} {te : TE} {vs : List Nat} {σ : L2.St} {H1 : Hp} {D : Addr} {Qd : Hp → Prop} (Pv : Nat → Hp → Prop) (h0 : Pv 0 (upd H1 D (.lst [])))
    (hs : ∀ i c H, x.cps[i]? = some c → Pv i H → g (.str ⟨#[c]⟩) (wipe σ vs) H fun σ2 H2 => wipe σ2 vs = wipe σ vs ∧ tt σ2 H2 fun b H3 =>
      if b = true then te σ2 H3 fun y H4 => ∃ acc, H4 D = some (.lst acc) ∧ acc.length < sizeLine ∧ Pv (i + 1) (upd H4 D (.lst (acc ++ [y]))) else Pv (i + 1) H3) (hd : ∀ H, Pv x.cps.size H → Qd H) :
    ∃ W : Nat → Nat → Hp → Prop, (∃ m, W 0 m (upd H1 D (.lst []))) ∧ ∀ i m H, W i m H →
      ((Its x).stop i H ∧ Qd H) ∨ ((Its x).go i H ∧ ∃ Nx : Hp → Prop, (∀ H', Nx H' → ∃ m', m' < m ∧ W (i + 1) m' H') ∧ ∀ v H', (Its x).yld i H v H' → g v (wipe σ vs) H' fun σ2 H2 => wipe σ2 vs = wipe σ vs ∧ tt σ2 H2 fun b H3 =>
        if b = true then te σ2 H3 fun y H4 => ∃ acc, H4 D = some (.lst acc) ∧ acc.length < sizeLine ∧ Nx (upd H4 D (.lst (acc ++ [y]))) else Nx H3) := by
  refine ⟨fun i m H => m = x.cps.size - i ∧ i ≤ x.cps.size ∧ Pv i H, ⟨x.cps.size, by simp, Nat.zero_le _, h0⟩, ?_⟩
  rintro i m H ⟨rfl, hi, p⟩
  by_cases hlt : i < x.cps.size
  · refine .inr ⟨hlt, Pv (i + 1), fun H' p' => ⟨x.cps.size - (i + 1), by omega, rfl, hlt, p'⟩, fun v H' y => ?_⟩
    obtain ⟨rfl, c, hc, rfl⟩ := y
    exact hs i c _ hc p
  · have e : i = x.cps.size := by omega
    subst e
    exact .inl ⟨Nat.le_refl _, hd H p⟩
def spIsName : Sp := fun vs H Q _ => ∃ z : Str, vs = [.str z] ∧ z.length ≤ 1000 ∧ ∀ H', Same H H' → Q (.bl (nameB z)) H'
abbrev s_is_name : Stmt := (top 4)
theorem sc_is_name : FnScope ["thing", "sign"] ["thing"] (defScope s_is_name) := ⟨rfl, rfl, rfl, by decide +kernel, rfl, by decide +kernel, by decide +kernel⟩
theorem kitSS : kitB "str" "str" = some true := by decide +kernel
theorem c_is_name {P w K mg base} (B : Bt mg) (D : DefAt K mg "is_name" s_is_name) : Cal P w K mg base "is_name" 1 ["thing"] spIsName := by
  refine cal_of D sc_is_name (fun _ _ _ _ _ _ us hl => match us, hl with | [_], _ => rfl) (fun vs H Q E h => ?_) (fun fa cdv A outer st0 H vs Q E hr h => ?_)
  · obtain ⟨z, rfl, _⟩ := h
    rfl
  · obtain ⟨z, rfl, hz, k⟩ := h
    refine ⟨_, (pss_cons (ps_if (PW.pt (pw_or (pt_not (pt_val (pe_callB call_isi (by rfl) B.b_isinstance (by decide +kernel) (pa_cons (pv 0) (pa_cons (pe_ty (n := "str") B.b_str (by decide +kernel)) pa_nil))))) (pw_or1 (pt_not (pt_chain op_le op_le pe_int (pe_callB call_len_str (by rfl) B.b_len (by decide +kernel) (pa_cons (pv 0) pa_nil)) (pe_gi B.m_MOST_LETTERS)))))) (pss_one (ps_ret pe_bl)) pss_nil)
      (pss_one (ps_ret (pe_callB (cr_all rfl) (by rfl) B.b_all (by decide +kernel) (pa_cons (pe_lc (own := [("sign", 1)]) (g := (gName 1)) (tt := tYes) rfl sc_is_name.nd (pi_str (pv 0)) (blkOk_by (own := [("sign", 1)]) (N := ["thing", "sign"]) (sc := defScope s_is_name) (by decide +kernel)) (fun _ _ _ _ _ => (pg_name (i := 1) sc_is_name.nd rfl (by first | exact Or.inl rfl | exact Or.inr rfl))) (fun _ _ _ _ _ => pts_nil) (fun _ _ _ _ _ => (pe_cmpR op_in_sign (pv 1) (pe_gs B.m_LETTERS) (by rfl)))) pa_nil))))), ?_⟩
    refine ⟨_, rfl, _, _, _, _, true, rfl, .ty _, .base (.str z), kit_ty kitSS, _, rfl, ?_⟩
    refine iteF ?_
    have hzl : z.length ≤ sizeLine := Nat.le_of_lt (small_lt hz (by decide))
    refine ⟨_, rfl, _, rfl, hzl, _, _, rfl, rfl, _, rfl, ?_⟩
    by_cases h1 : 1 ≤ z.length
    · rw [decide_eq_true (show (1 : Int) ≤ (z.length : Nat) by omega)]
      refine iteT ⟨_, _, rfl, rfl, _, rfl, ?_⟩
      by_cases h2 : z.length ≤ 8
      · rw [decide_eq_true (show ((z.length : Nat) : Int) ≤ 8 by omega)]
        refine iteF ?_
        refine ⟨_, rfl, z, rfl, fun D nD => lc_text (x := z) (fun i H' => H' = upd H D (.lst ((((TL.tl z).take i).map fun c => decide (97 ≤ c ∧ c ≤ 122)).map V.bl))) rfl ?_ ?_⟩
        · rintro i c H' hc e
          have hc' : (TL.tl z)[i]? = some c := by
            show z.cps.toList[i]? = _
            rw [Array.getElem?_toList]; exact hc
          refine ⟨rfl, _, rfl, c, _, rfl, rfl, ?_⟩
          rw [letters c]
          refine ⟨_, by rw [e]; exact upd_same, ?_, ?_⟩
          · rw [List.length_map, List.length_map, List.length_take]
            have : (TL.tl z).length = z.length := (TL.len_tl z).symm
            exact small_lt (m := 1000) (by omega) (by decide)
          · rw [upd_over e, List.take_add_one, hc']
            simp
        · rintro H' rfl
          have hl : (TL.tl z).take z.cps.size = TL.tl z := List.take_of_length_le (by rw [← TL.len_tl]; exact Nat.le_refl _)
          refine ⟨D, _, rfl, SqL.of upd_same, ?_⟩
          rw [hl]
          have ef : (((TL.tl z).map fun c => decide (97 ≤ c ∧ c ≤ 122)).all id) = nameB z := by
            unfold nameB
            rw [decide_eq_true h1, decide_eq_true h2, List.all_map]
            rfl
          rw [ef]
          exact k _ (same_upd nD)
      · rw [decide_eq_false (show ¬ ((z.length : Nat) : Int) ≤ 8 by omega)]
        refine iteT ?_
        have ef : nameB z = false := by unfold nameB; rw [decide_eq_false h2]; simp
        have := k H (Same.refl H)
        rw [ef] at this
        exact this
    · rw [decide_eq_false (show ¬ (1 : Int) ≤ (z.length : Nat) by omega)]
      refine iteF ⟨_, rfl, iteT ?_⟩
      have ef : nameB z = false := by unfold nameB; rw [decide_eq_false h1]; rfl
      have := k H (Same.refl H)
      rw [ef] at this
      exact this
/-- of a word that is one -/
def spIsWord : Sp := fun vs H Q _ => ∃ w : W, vs = [wv w] ∧ wOk w ∧ ∀ H', Same H H' → Q (.bl true) H'
theorem len_enc {w : W} (h : wOk w) : (enc w).length ≤ 9 := by
  have : (enc w).length = (code w).length := TL.len_tl _
  rw [this]
  cases w with
  | ap => decide
  | tk n => have := h.2.1; simp [Wd.code]; omega
  | nm n => have := h.2.1; simp [Wd.code]; omega
abbrev s_is_word : Stmt := (top 18)
theorem sc_is_word : FnScope ["thing"] ["thing"] (defScope s_is_word) := ⟨rfl, rfl, rfl, by decide +kernel, rfl, by decide +kernel, by decide +kernel⟩
theorem c_is_word {P w K mg base} (B : Bt mg) (D : DefAt K mg "is_word" s_is_word) (Cis_name : Cal P w K mg base "is_name" 1 ["thing"] spIsName) : Cal P w K mg base "is_word" 2 ["thing"] spIsWord := by
  refine cal_of D sc_is_word (fun _ _ _ _ _ _ us hl => match us, hl with | [_], _ => rfl) (fun vs H Q E h => ?_) (fun fa cdv A outer st0 H vs Q E hr h => ?_)
  · obtain ⟨z, rfl, _⟩ := h
    rfl
  · obtain ⟨z, rfl, hz, k⟩ := h
    refine ⟨_, (pss_cons (ps_if (pt_not (pt_val (pe_callB call_isi (by rfl) B.b_isinstance (by decide +kernel) (pa_cons (pv 0) (pa_cons (pe_ty (n := "str") B.b_str (by decide +kernel)) pa_nil))))) (pss_one (ps_ret pe_bl)) pss_nil)
      (pss_one (ps_ret (pe_or (pe_cmpR op_eq (pv 0) (pe_gs B.m_GIVEN) (nomark _)) (pe_or (pe_c Cis_name (hr.mono (by decide)) (pa_cons (pv 0) pa_nil)) (pe_one (pe_and (pe_bm PySem.F.plainAttrs_str PySem.F.slot_str_startswith PySem.F.type_str_startswith mt_startswith (pv 0) (pa_cons (pe_gs B.m_TAKE) pa_nil)) (pe_one (pe_c Cis_name (hr.mono (by decide)) (pa_cons (pe_slice sl_str (pv 0) (po_some pe_int) po_none) pa_nil)))))))))), ?_⟩
    refine ⟨_, rfl, _, _, _, _, true, rfl, .ty _, .base (.str _), kit_ty kitSS, _, rfl, ?_⟩
    refine iteF ?_
    have hl := len_enc hz
    refine ⟨_, rfl, rfl, _, rfl, ?_⟩
    rw [is_ap hz]
    cases z with
    | ap => exact iteT (k H (Same.refl H))
    | nm n =>
      refine iteF ⟨_, rfl, _, rfl, by omega, fun H1 S1 => ?_⟩
      rw [enc_nm, nameB_ok hz]
      exact ⟨true, rfl, iteT (k H1 S1)⟩
    | tk n =>
      refine iteF ⟨_, rfl, _, rfl, by omega, fun H1 S1 => ?_⟩
      rw [nameB_tk]
      refine ⟨false, rfl, iteF ?_⟩
      refine ⟨_, rfl, rfl, _, _, rfl, rfl, ?_⟩
      rw [starts_tk hz]
      refine ⟨true, rfl, iteT ?_⟩
      refine ⟨_, rfl, _, rfl, _, rfl, Nat.le_of_lt (small_lt (m := 9) hl (by decide)), ?_⟩
      rw [cut1]
      refine ⟨_, rfl, ?_, fun H2 S2 => ?_⟩
      · rw [len_str]; have := hz.2.1; omega
      · rw [nameB_ok hz]
        exact k H2 (S1.trans S2)
end Kk

set_option maxHeartbeats 2000000
namespace Kk
open PySem PySem.Spec PyProof.Rows L2 Wd
/-- a check of words that finds no fault -/
def spFine (K : PySem.W.Frag) : Sp := fun vs H Q _ => ∃ (a : Addr) (ws : List W), vs = [.ref a] ∧ SqT K H a (ws.map wv) ∧ Vd ws ∧ ws.length ≤ 1000 ∧ ∀ H', Same H H' → Q .non H'
abbrev s_stranger_index : Stmt := (top 19)
theorem sc_stranger_index : FnScope ["things", "at", "thing"] ["things"] (defScope s_stranger_index) := ⟨rfl, rfl, rfl, by decide +kernel, rfl, by decide +kernel, by decide +kernel⟩
theorem c_stranger_index {P w K mg base} (B : Bt mg) (D : DefAt K mg "stranger_index" s_stranger_index) (Cis_word : Cal P w K mg base "is_word" 2 ["thing"] spIsWord) : Cal P w K mg base "stranger_index" 3 ["things"] (spFine K) := by
  refine cal_of D sc_stranger_index (fun _ _ _ _ _ _ us hl => match us, hl with | [_], _ => rfl) (fun vs H Q E h => ?_) (fun fa cdv A outer st0 H vs Q E hr h => ?_)
  · obtain ⟨a, ws, rfl, _⟩ := h
    rfl
  · obtain ⟨a, ws, rfl, hq, vd, hl, k⟩ := h
    refine ⟨_, (pss_cons (ps_for PassesOwn.never rfl (pi_enumT (by rfl) B.b_enumerate (pa_cons (pv 0) pa_nil)) (pg_tup (by rfl) (pgs_cons (pg_name (i := 1) sc_stranger_index.nd rfl (by first | exact Or.inl rfl | exact Or.inr rfl)) (pgs_cons (pg_name (i := 2) sc_stranger_index.nd rfl (by first | exact Or.inl rfl | exact Or.inr rfl)) pgs_nil))) (pss_one (ps_if (pt_not (pt_val (pe_c Cis_word (hr.mono (by decide)) (pa_cons (pv 2) pa_nil)))) (pss_one (ps_ret (pv 1))) pss_nil)))
      (pss_one (ps_ret pe_non))), ?_⟩
    refine ⟨_, rfl, a, _, rfl, hq, for_enumT (K := K) (a := a) (xs := ws.map wv) (fun i σ H' => ∃ v1 v2 : Option V, σ = [some (.ref a), v1, v2] ∧ Same H H') ⟨none, none, rfl, Same.refl H⟩ (fun i σ H' _ ⟨_, _, _, s⟩ => SqT.same hq s) ?_ ?_⟩
    · rintro i x σ H' T hx ⟨v1, v2, rfl, S1⟩ nT
      obtain ⟨w, hw, rfl⟩ := map_get hx
      have S2 : Same H (upd H' T (.tup [.int (i : Nat), wv w])) := S1.trans (same_upd nT)
      refine ⟨T, _, rfl, SqT.of upd_same, rfl, _, _, rfl, _, _, rfl, rfl, ?_⟩
      refine ⟨_, rfl, w, rfl, vd.okAt hw, fun H3 S3 => ⟨true, rfl, iteF ?_⟩⟩
      exact ⟨_, _, rfl, S2.trans S3⟩
    · rintro σ H' ⟨v1, v2, rfl, S1⟩
      exact k H' S1
/-- how many parts belong to a word -/
def spPartsIn : Sp := fun vs H Q _ => ∃ w : W, vs = [wv w] ∧ wOk w ∧ ∀ H', Same H H' → Q (nv (needW w)) H'
abbrev s_parts_in : Stmt := (top 20)
theorem sc_parts_in : FnScope ["word"] ["word"] (defScope s_parts_in) := ⟨rfl, rfl, rfl, by decide +kernel, rfl, by decide +kernel, by decide +kernel⟩
theorem c_parts_in {P w K mg base} (B : Bt mg) (D : DefAt K mg "parts_in" s_parts_in) : Cal P w K mg base "parts_in" 1 ["word"] spPartsIn := by
  refine cal_of D sc_parts_in (fun _ _ _ _ _ _ us hl => match us, hl with | [_], _ => rfl) (fun vs H Q E h => ?_) (fun fa cdv A outer st0 H vs Q E hr h => ?_)
  · obtain ⟨z, rfl, _⟩ := h
    rfl
  · obtain ⟨z, rfl, hz, k⟩ := h
    refine ⟨_, (pss_cons (ps_if (pt_cmpR op_eq (pv 0) (pe_gs B.m_GIVEN) (nomark _)) (pss_one (ps_ret pe_int)) pss_nil)
      (pss_one (ps_ret (pe_ifExp (pt_val (pe_bm PySem.F.plainAttrs_str PySem.F.slot_str_startswith PySem.F.type_str_startswith mt_startswith (pv 0) (pa_cons (pe_gs B.m_TAKE) pa_nil))) pe_int pe_int)))), ?_⟩
    have kk := k H (Same.refl H)
    refine ⟨_, rfl, rfl, _, rfl, ?_⟩
    rw [is_ap hz]
    cases z with
    | ap => exact iteT kk
    | tk n =>
      refine iteF ⟨_, rfl, rfl, _, _, rfl, rfl, ?_⟩
      rw [starts_tk hz]
      exact ⟨true, rfl, iteT kk⟩
    | nm n =>
      refine iteF ⟨_, rfl, rfl, _, _, rfl, rfl, ?_⟩
      rw [starts_tk hz]
      exact ⟨false, rfl, iteF kk⟩
abbrev s_repeated_index : Stmt := (top 21)
theorem sc_repeated_index : FnScope ["words", "seen", "at", "word"] ["words"] (defScope s_repeated_index) := ⟨rfl, rfl, rfl, by decide +kernel, rfl, by decide +kernel, by decide +kernel⟩
def seenK (ws : List W) (i : Nat) (k : Key) : Bool := (ws.take i).any fun w => !isAp w && decide (k = Sum.inr (enc w))
theorem seenK_new {ws : List W} (vd : Vd ws) {i : Nat} {w : W} (hw : ws[i]? = some w) : seenK ws i (Sum.inr (enc w)) = false := by
  unfold seenK
  rw [List.any_eq_false]
  intro u hu hc
  rw [Bool.and_eq_true, decide_eq_true_eq] at hc
  obtain ⟨h1, h2⟩ := hc
  have e : w = u := enc_inj (vd.okAt hw) (vd.ok u (List.mem_of_mem_take hu)) (Sum.inr.inj h2)
  subst e
  obtain ⟨j, hj, e⟩ := List.mem_iff_getElem.mp hu
  rw [List.length_take] at hj
  have hj' : ws[j]? = some w := by
    rw [List.getElem?_eq_getElem (by omega)]
    rw [List.getElem_take] at e
    rw [e]
  have hne : w ≠ .ap := by rintro rfl; cases h1
  have := vd.once hne hw hj'
  omega
theorem seenK_step {ws : List W} {i : Nat} {w : W} (hw : ws[i]? = some w) (k : Key) : seenK ws (i + 1) k = (seenK ws i k || (!isAp w && decide (k = Sum.inr (enc w)))) := by
  unfold seenK
  rw [List.take_add_one, hw, List.any_append]
  simp
theorem c_repeated_index {P w K mg base} (B : Bt mg) (D : DefAt K mg "repeated_index" s_repeated_index) : Cal P w K mg base "repeated_index" 1 ["words"] (spFine K) := by
  refine cal_of D sc_repeated_index (fun _ _ _ _ _ _ us hl => match us, hl with | [_], _ => rfl) (fun vs H Q E h => ?_) (fun fa cdv A outer st0 H vs Q E hr h => ?_)
  · obtain ⟨a, ws, rfl, _⟩ := h
    rfl
  · obtain ⟨a, ws, rfl, hq, vd, hl, k⟩ := h
    refine ⟨_, (pss_cons (ps_set (i := 1) sc_repeated_index.nd rfl (by first | exact Or.inl rfl | exact Or.inr rfl) (pe_callTy0 cr_set0K (by rfl) B.b_set (by decide +kernel)))
      (pss_cons (ps_for PassesOwn.never rfl (pi_enumT (by rfl) B.b_enumerate (pa_cons (pv 0) pa_nil)) (pg_tup (by rfl) (pgs_cons (pg_name (i := 2) sc_repeated_index.nd rfl (by first | exact Or.inl rfl | exact Or.inr rfl)) (pgs_cons (pg_name (i := 3) sc_repeated_index.nd rfl (by first | exact Or.inl rfl | exact Or.inr rfl)) pgs_nil))) (pss_cons (ps_if (pt_cmpR or_sinK (pv 3) (pv 1) (by rfl)) (pss_one (ps_ret (pv 2))) pss_nil)
      (pss_one (ps_if (pt_cmpR op_ne (pv 3) (pe_gs B.m_GIVEN) (nomark _)) (pss_one (ps_expr (pe_saddK (pv 1) (pa_cons (pv 3) pa_nil)))) pss_nil))))
      (pss_one (ps_ret pe_non)))), ?_⟩
    refine ⟨rfl, fun S nS => ?_⟩
    refine ⟨_, rfl, a, _, rfl, SqT.same hq (same_upd nS), for_enumT (K := K) (a := a) (xs := ws.map wv) (fun i σ H' => ∃ (v1 v2 : Option V) (c : Nat), σ = [some (.ref a), some (.ref S), v1, v2] ∧ Same H H' ∧ c ≤ i ∧ H' S = some (SetK P w S (seenK ws i) c))
      ⟨none, none, 0, rfl, same_upd nS, Nat.le_refl _, upd_same⟩ (fun i σ H' _ ⟨_, _, _, _, s, _⟩ => SqT.same hq s) ?_ ?_⟩
    · rintro i x σ H' T hx ⟨v1, v2, c, rfl, S1, hc, L1⟩ nT
      obtain ⟨w', hw, rfl⟩ := map_get hx
      have hi := Wd.T.lt_of_get hw
      have S2 : Same H (upd H' T (.tup [.int (i : Nat), wv w'])) := S1.trans (same_upd nT)
      have L2 : upd H' T (.tup [.int (i : Nat), wv w']) S = _ := same_upd nT _ _ L1
      refine ⟨T, _, rfl, SqT.of upd_same, rfl, _, _, rfl, _, _, rfl, rfl, ?_⟩
      generalize upd H' T (.tup [.int (i : Nat), wv w']) = H2 at *
      refine ⟨_, rfl, _, rfl, Sum.inr (enc w'), S, _, c, rfl, rfl, L2, _, rfl, ?_⟩
      show if (seenK ws i (Sum.inr (enc w'))) = true then _ else _
      rw [seenK_new vd hw]
      refine iteF ⟨_, rfl, rfl, _, rfl, ?_⟩
      rw [is_ap (vd.okAt hw)]
      have hst : seenK ws (i + 1) = fun k => (seenK ws i k || (!isAp w' && decide (k = Sum.inr (enc w')))) := funext (seenK_step hw)
      cases hap : isAp w' with
      | true =>
        refine iteF ?_
        refine ⟨_, _, c, rfl, S2, by omega, ?_⟩
        rw [hst, hap]
        have e : (fun k : Key => (seenK ws i k || (!true && decide (k = Sum.inr (enc w'))))) = seenK ws i := by funext k; simp
        rw [e]; exact L2
      | false =>
        refine iteT ?_
        refine ⟨_, rfl, ⟨_, _, _, rfl, L2⟩, _, rfl, S, Sum.inr (enc w'), _, c, rfl, rfl, L2, ?_, ?_⟩
        · show c + 1 < 4096; omega
        · have ns : ∀ b o, H b = some o → b ≠ S := fun b o hb => ne_of_none hb nS
          refine ⟨some (.int (i : Nat)), some (wv w'), if seenK ws i (Sum.inr (enc w')) = true then c else c + 1, rfl, fun b o hb => by rw [upd_ne (ns b o hb)]; exact S2 b o hb, ?_, ?_⟩
          · split <;> omega
          · rw [upd_same, hst, hap]
            have e : (fun k : Key => (seenK ws i k || (!false && decide (k = Sum.inr (enc w'))))) = fun j => seenK ws i j || decide (j = Sum.inr (enc w')) := by funext k; simp
            rw [e]
            rfl
    · rintro σ H' ⟨v1, v2, c, rfl, S1, _⟩
      exact k H' S1
def spEndsOf (K : PySem.W.Frag) : Sp := fun vs H Q _ => ∃ (a : Addr) (ws : List W) (E : Nat → Nat), vs = [.ref a] ∧ SqT K H a (ws.map wv) ∧ Vd ws ∧ IsEnds ws E ∧ ws.length ≤ 4000 ∧
  ∀ H' q, Same H H' → H q = none → TupF H' q (endsV ws.length E) → Q (.ref q) H'
abbrev s_ends_of : Stmt := (top 23)
theorem sc_ends_of : FnScope ["words", "word"] ["words"] (defScope s_ends_of) := ⟨rfl, rfl, rfl, by decide +kernel, rfl, by decide +kernel, by decide +kernel⟩
theorem needs_map (ws : List W) : ws.filterMap (fun w => some (nv (needW w))) = (ws.map needW).map nv := by
  rw [List.map_map, ← List.filterMap_eq_map]
  rfl
theorem c_ends_of {P w K mg base} (B : Bt mg) (D : DefAt K mg "ends_of" s_ends_of) (Cparts_in : Cal P w K mg base "parts_in" 1 ["word"] spPartsIn) (Cends_by : Cal P w K mg base "ends_by" 1 ["needs"] (spEndsBy K)) : Cal P w K mg base "ends_of" 2 ["words"] (spEndsOf K) := by
  refine cal_of D sc_ends_of (fun _ _ _ _ _ _ us hl => match us, hl with | [_], _ => rfl) (fun vs H Q E h => ?_) (fun fa cdv A outer st0 H vs Q E hr h => ?_)
  · obtain ⟨a, ws, E, rfl, _⟩ := h
    rfl
  · obtain ⟨a, ws, E, rfl, hq, vd, he, hl, k⟩ := h
    refine ⟨_, (pss_one (ps_ret (pe_c Cends_by (hr.mono (by decide)) (pa_cons (pe_lc (own := [("word", 1)]) (g := (gName 1)) (tt := tYes) rfl sc_ends_of.nd (pi_tup (pv 0)) (blkOk_by (own := [("word", 1)]) (N := ["words", "word"]) (sc := defScope s_ends_of) (by decide +kernel)) (fun _ _ _ _ _ => (pg_name (i := 1) sc_ends_of.nd rfl (by first | exact Or.inl rfl | exact Or.inr rfl))) (fun _ _ _ _ _ => pts_nil) (fun _ _ _ _ _ => (pe_c Cparts_in (hr.mono (by decide)) (pa_cons (pv 1) pa_nil)))) pa_nil)))), ?_⟩
    refine ⟨_, rfl, a, rfl, ⟨_, hq⟩, fun D nD => lc_fmT (f := wv) (r := fun w => some (nv (needW w))) hq nD (Nat.le_trans hl (by decide)) ?_ ?_⟩
    · rintro i w' H' Qy Qn hw S1 hy hn
      refine ⟨rfl, _, rfl, w', rfl, vd.okAt hw, fun H2 S2 => hy _ _ S2 rfl⟩
    · rintro H1 S1 L1
      rw [needs_map] at L1
      refine ⟨D, ws.map needW, E, rfl, SqL.of L1, he.needs, by rw [List.length_map]; exact Nat.le_trans hl (by decide), fun H2 q S2 n2 T2 => ?_⟩
      rw [List.length_map] at T2
      exact k H2 q (S1.trans S2) (S1.free n2) T2
end Kk

set_option maxHeartbeats 2000000
/-! a dict comprehension stored to a local's name -/
namespace Kk
open PySem PySem.Spec PyProof.Rows L2
section
variable {X : Cx}
theorem sw_dict {ke ve : Expr} {gs : List Comprehension} {scope : Scope} {pos py : Pos} {y : Str} {l : Nat} {env : Env} (hk : env.scope.kind = .function) (hy : env.scope.names.lookup y = some .local) (hl : (py.line == pos.line) = true)
    (ha : (scope.names.any fun (n, k) => n == y && (k == .local || k == .cell)) = false) : swapsWith (.DictComp ke ve gs scope pos) (some (.Name y py)) l env = pure true := by
  have e1 : env.kindOf y = some .local := hy
  have e2 : env.blockKind = .function := by unfold Env.blockKind; rw [hk]; rfl
  unfold swapsWith
  simp only [e1, e2, ha, Expr.pos, hl]
  rfl
theorem ps_setDc {i : Nat} {y : Str} {py : Pos} {ke ve tg iter : Expr} {ifs : List Expr} {scope : Scope} {own : List (Str × Nat)} {pos spos : Pos} {wi : TI} {g : TG} {tt : TT} {tk tv : TE} (hc : X.calm = true) (hN : X.N.Nodup) (hy : X.N[i]? = some y) (hyl : X.env.scope.names.lookup y = some .local)
    (hsw : swapsWith (.DictComp ke ve [⟨tg, iter, ifs, 0⟩] scope pos) (some (.Name y py)) spos.line X.env = pure true) (hi : PI X tg iter wi) (ok : BlkOk X.N X.env.scope scope own)
    (hg : ∀ (s : Shared) (H : Hp) (C : Addr) (cl : List (Str × Addr)) (fp : List Addr), PG (X.blk s H scope (compEnvC scope cl C X.env) fp) tg g) (ht : ∀ (s : Shared) (H : Hp) (C : Addr) (cl : List (Str × Addr)) (fp : List Addr), PTs (X.blk s H scope (compEnvC scope cl C X.env) fp) ifs tt)
    (hk : ∀ (s : Shared) (H : Hp) (C : Addr) (cl : List (Str × Addr)) (fp : List Addr), PE (X.blk s H scope (compEnvC scope cl C X.env) fp) ke tk)
    (he : ∀ (s : Shared) (H : Hp) (C : Addr) (cl : List (Str × Addr)) (fp : List Addr), PE (X.blk s H scope (compEnvC scope cl C X.env) fp) ve tv) (hs : ∀ x, foldedSetIterable iter X.env x = pure x := by intro _; rfl) :
    PS X (.Assign [.Name y py] (.DictComp ke ve [⟨tg, iter, ifs, 0⟩] scope pos) spos) (tAsg (tDc wi g tt tk tv (own.map (·.2))) (gName i)) := by
  refine ⟨fun pins s σ H D I h => ?_⟩
  rw [exec_Assign_Name_used _ _ _ _ hsw]
  refine wpAny_bind (wpAny_standAt (wpAny_bind ?_))
  show wpAny _ X.A (do let _ ← comprehension (.DictComp ke ve [⟨tg, iter, ifs, 0⟩] scope pos) scope X.env (firstIterPos [⟨tg, iter, ifs, 0⟩] pos) newDict false (eval iter X.env) (some (assign (.Name y py) X.env))) _ _ s
  have h : tDc wi g tt tk tv (own.map (·.2)) σ H (fun x H1 => gName i x σ H1 D.nx) := h
  refine wpAny_bind (thn (dc_core (Qf := fun _ s' => SP X pins D .next s') hc hN I hi ok hg ht hk he hs h fun L C s' m H' I' q hn f => ?_) fun _ s' hq => wpAny_pure (wpAny_pure hq))
  show wpAny _ _ (assign (.Name y py) X.env (.ref L)) _ _ _
  refine wpAny_assign_Name (store_ok2 (v := V.ref L) I' hN hy (.inl hyl) rfl (fun s2 I2 ⟨a, sb, ha⟩ => ?_) (.inr hyl))
  obtain ⟨f0, f1, f2, f3, f4, f5⟩ := f
  have haC : C ≠ a := by
    rcases ha with z | z
    · rw [z]; exact f1
    · exact fun e => f4 y a z e.symm
  refine ⟨m, hn.sameBut sb haC, fun h3 sb3 => ?_⟩
  exact ⟨_, H', I2.turned (t' := s2.toks) (fun b o hb e => (sb3.2 b hb).trans e) f0 f1 f3 f4 f5, q⟩
end
end Kk

set_option maxHeartbeats 2000000
namespace Kk
open PySem PySem.Spec PyProof.Rows L2 Wd
theorem dc_enumT {K : PySem.W.Frag} {a : Addr} {xs : List V} {g : TG} {tt : TT} {tk tv : TE} {vs : List Nat} {σ : L2.St} {H1 : Hp} {D : Addr} {Qd : Hp → Prop} (Pv : Nat → Hp → Prop) (h0 : Pv 0 (upd H1 D (.dK []))) (hl : ∀ i H, i ≤ xs.length → Pv i H → SqT K H a xs)
    (hs : ∀ i x H T, xs[i]? = some x → Pv i H → H T = none → g (.ref T) (wipe σ vs) (upd H T (.tup [.int (i : Nat), x])) fun σ2 H2 => wipe σ2 vs = wipe σ vs ∧ tt σ2 H2 fun b H3 =>
      if b = true then tk σ2 H3 fun y H4 => tv σ2 H4 fun z H5 => ∃ kvs k, y = kV k ∧ H5 D = some (.dK kvs) ∧ kvs.length < sizeLine ∧ Pv (i + 1) (upd H5 D (.dK (putK kvs k z))) else Pv (i + 1) H3) (hd : ∀ H, Pv xs.length H → Qd H) :
    ∃ W : Nat → Nat → Hp → Prop, (∃ m, W 0 m (upd H1 D (.dK []))) ∧ ∀ i m H, W i m H →
      ((IteT K a).stop i H ∧ Qd H) ∨ ((IteT K a).go i H ∧ ∃ Nx : Hp → Prop, (∀ H', Nx H' → ∃ m', m' < m ∧ W (i + 1) m' H') ∧ ∀ x H', (IteT K a).yld i H x H' → g x (wipe σ vs) H' fun σ2 H2 => wipe σ2 vs = wipe σ vs ∧ tt σ2 H2 fun b H3 =>
        if b = true then tk σ2 H3 fun y H4 => tv σ2 H4 fun z H5 => ∃ kvs k, y = kV k ∧ H5 D = some (.dK kvs) ∧ kvs.length < sizeLine ∧ Nx (upd H5 D (.dK (putK kvs k z))) else Nx H3) := by
  refine ⟨fun i m H => m = xs.length - i ∧ i ≤ xs.length ∧ Pv i H, ⟨xs.length, by simp, Nat.zero_le _, h0⟩, ?_⟩
  rintro i m H ⟨rfl, hi, p⟩
  have q := hl i H hi p
  by_cases hlt : i < xs.length
  · refine .inr ⟨⟨xs, xs[i], q, by simp [hlt]⟩, Pv (i + 1), fun H' p' => ⟨xs.length - (i + 1), by omega, rfl, hlt, p'⟩, fun x H' y => ?_⟩
    obtain ⟨T, z, rfl, hT, rfl, hz⟩ := y
    exact hs i z H T (hz xs q) p hT
  · have e : i = xs.length := by omega
    subst e
    exact .inl ⟨⟨xs, q, Nat.le_refl _⟩, hd H p⟩
abbrev s_unused_index : Stmt := (top 22)
theorem sc_unused_index : FnScope ["words", "places", "at", "word", "behind"] ["words"] (defScope s_unused_index) := ⟨rfl, rfl, rfl, by decide +kernel, rfl, by decide +kernel, by decide +kernel⟩
/-- where names stand, among the first i words -/
def Places (ws : List W) (i : Nat) (kvs : List (Key × V)) : Prop := kvs.length ≤ i ∧ ∀ j n, j < i → ws[j]? = some (.nm n) → valV kvs (Sum.inr (str n)) = some (.int (j : Nat))
theorem Places.put {ws : List W} (vd : Vd ws) {i : Nat} {w : W} {kvs : List (Key × V)} (hw : ws[i]? = some w) (p : Places ws i kvs) : Places ws (i + 1) (putK kvs (Sum.inr (enc w)) (.int (i : Nat))) := by
  refine ⟨by have := length_putK kvs (Sum.inr (enc w)) (.int (i : Nat)); have := p.1; omega, fun j n hj hn => ?_⟩
  rw [valV_put]
  by_cases e : (Sum.inr (str n) : Key) = Sum.inr (enc w)
  · rw [if_pos e]
    have e2 : W.nm n = w := enc_inj (vd.okAt hn) (vd.okAt hw) (Sum.inr.inj e)
    subst e2
    have := vd.once (by simp) hn hw
    subst this
    rfl
  · rw [if_neg e]
    refine p.2 j n ?_ hn
    have : j ≠ i := by
      rintro rfl
      rw [hw] at hn
      cases hn
      exact e rfl
    omega
theorem c_unused_index {P w K mg base} (B : Bt mg) (D : DefAt K mg "unused_index" s_unused_index) (Cends_of : Cal P w K mg base "ends_of" 2 ["words"] (spEndsOf K)) : Cal P w K mg base "unused_index" 3 ["words"] (spFine K) := by
  refine cal_of D sc_unused_index (fun _ _ _ _ _ _ us hl => match us, hl with | [_], _ => rfl) (fun vs H Q E h => ?_) (fun fa cdv A outer st0 H vs Q E hr h => ?_)
  · obtain ⟨a, ws, rfl, _⟩ := h
    rfl
  · obtain ⟨a, ws, rfl, hq, vd, hl, k⟩ := h
    obtain ⟨EE, he⟩ := vd.ends
    refine ⟨_, (pss_cons (ps_setDc (i := 1) (own := [("at", 2), ("word", 3)]) (g := (gTup K 2 (gCons (gName 2) (gCons (gName 3) gNil)))) (tt := tYes) rfl sc_unused_index.nd rfl rfl (sw_dict rfl rfl rfl (by decide +kernel)) (pi_enumT (by rfl) B.b_enumerate (pa_cons (pv 0) pa_nil)) (blkOk_by (own := [("at", 2), ("word", 3)]) (N := ["words", "places", "at", "word", "behind"]) (sc := defScope s_unused_index) (by decide +kernel)) (fun _ _ _ _ _ => by exact (pg_tup (by rfl) (pgs_cons (pg_name (i := 2) sc_unused_index.nd rfl (by first | exact Or.inl rfl | exact Or.inr rfl)) (pgs_cons (pg_name (i := 3) sc_unused_index.nd rfl (by first | exact Or.inl rfl | exact Or.inr rfl)) pgs_nil)))) (fun _ _ _ _ _ => pts_nil) (fun _ _ _ _ _ => by exact (pv 3)) (fun _ _ _ _ _ => by exact (pv 2)))
      (pss_cons (ps_set (i := 4) sc_unused_index.nd rfl (by first | exact Or.inl rfl | exact Or.inr rfl) (pe_c Cends_of (hr.mono (by decide)) (pa_cons (pv 0) pa_nil)))
      (pss_cons (ps_for PassesOwn.never rfl (pi_enumT (by rfl) B.b_enumerate (pa_cons (pv 0) pa_nil)) (pg_tup (by rfl) (pgs_cons (pg_name (i := 2) sc_unused_index.nd rfl (by first | exact Or.inl rfl | exact Or.inr rfl)) (pgs_cons (pg_name (i := 3) sc_unused_index.nd rfl (by first | exact Or.inl rfl | exact Or.inr rfl)) pgs_nil))) (pss_one (ps_if (PW.pt (pw_and (pt_val (pe_bm PySem.F.plainAttrs_str PySem.F.slot_str_startswith PySem.F.type_str_startswith mt_startswith (pv 3) (pa_cons (pe_gs B.m_TAKE) pa_nil))) (pw_and1 (pt_not (pt_chain op_lt op_lt (pv 2) (pe_dget2 (hu_of hr) (pv 1) (pe_slice sl_str (pv 3) (po_some pe_int) po_none) (pe_un un_neg pe_int) ⟨by rfl, by rfl, by rfl, by rfl⟩) (pe_ix ix_tup (pv 4) (pv 2) (fun _ _ => rfl))))))) (pss_one (ps_ret (pv 2))) pss_nil)))
      (pss_one (ps_ret pe_non))))), ?_⟩
    have hlm : (ws.map wv).length = ws.length := List.length_map ..
    refine ⟨_, rfl, a, _, rfl, hq, fun D nD => dc_enumT (K := K) (a := a) (xs := ws.map wv) (fun i H' => Same H H' ∧ ∃ kvs, H' D = some (.dK kvs) ∧ Places ws i kvs)
      ⟨same_upd nD, [], upd_same, Nat.le_refl _, fun j n hj => absurd hj (by omega)⟩ (fun i H' _ ⟨s, _⟩ => SqT.same hq s) ?_ ?_⟩
    · rintro i x H' T hx ⟨S1, kvs, L1, p⟩ nT
      obtain ⟨w', hw, rfl⟩ := map_get hx
      have hi := Wd.T.lt_of_get hw
      refine ⟨T, _, rfl, SqT.of upd_same, rfl, _, _, rfl, _, _, rfl, rfl, ?_⟩
      refine ⟨rfl, _, rfl, _, rfl, kvs, Sum.inr (enc w'), rfl, same_upd nT _ _ L1, ?_, ?_⟩
      · have := p.1
        exact small_lt (m := 1000) (by omega) (by decide)
      · have nd : ∀ b o, H b = some o → b ≠ D := fun b o hb => ne_of_none hb nD
        exact ⟨fun b o hb => by rw [upd_ne (nd b o hb)]; exact same_upd nT _ _ (S1 b o hb), _, upd_same, p.put vd hw⟩
    · rintro H1 ⟨S1, kvs, L1, p⟩
      rw [hlm] at p
      refine ⟨_, rfl, a, ws, EE, rfl, SqT.same hq S1, vd, he, Nat.le_trans hl (by decide), fun H2 q S2 _ T2 => ?_⟩
      have L2 := S2 _ _ L1
      have S3 := S1.trans S2
      refine ⟨_, rfl, a, _, rfl, SqT.same hq S3, for_enumT (K := K) (a := a) (xs := ws.map wv) (fun i σ H' => ∃ v1 v2 : Option V, σ = [some (.ref a), some (.ref D), v1, v2, some (.ref q)] ∧ Same H2 H') ⟨_, _, rfl, Same.refl H2⟩ (fun i σ H' _ ⟨_, _, _, s⟩ => SqT.same hq (S3.trans s)) ?_ ?_⟩
      · rintro i x σ H' T hx ⟨v1, v2, rfl, S4⟩ nT
        obtain ⟨w', hw, rfl⟩ := map_get hx
        have hi := Wd.T.lt_of_get hw
        have hk := vd.okAt hw
        have S5 : Same H2 (upd H' T (.tup [.int (i : Nat), wv w'])) := S4.trans (same_upd nT)
        refine ⟨T, _, rfl, SqT.of upd_same, rfl, _, _, rfl, _, _, rfl, rfl, ?_⟩
        generalize upd H' T (.tup [.int (i : Nat), wv w']) = H5 at *
        refine ⟨_, rfl, rfl, _, _, rfl, rfl, ?_⟩
        rw [starts_tk hk]
        refine ⟨_, rfl, ?_⟩
        cases w' with
        | ap => exact iteF (iteF ⟨_, _, rfl, S5⟩)
        | nm n => exact iteF (iteF ⟨_, _, rfl, S5⟩)
        | tk n =>
          obtain ⟨j, hj, h1, h2⟩ := vd.used he hw
          have hjl := Wd.T.lt_of_get hj
          have hv := p.2 j n hjl hj
          have L5 := S5 _ _ L2
          refine iteT ?_
          refine ⟨_, rfl, _, rfl, D, rfl, .inl ⟨kvs, .inl L5⟩, _, rfl, _, rfl, _, rfl, Nat.le_of_lt (small_lt (m := 9) (len_enc hk) (by decide)), ?_⟩
          rw [cut1]
          refine ⟨_, rfl, some (.int (j : Nat)), by rw [← hv]; exact DGet.k (k := Sum.inr (str n)) L5, ?_⟩
          refine ⟨_, _, rfl, rfl, _, rfl, ?_⟩
          rw [decide_eq_true (show ((i : Nat) : Int) < ((j : Nat) : Int) by omega)]
          refine iteT ⟨_, rfl, _, rfl, q, _, _, _, rfl, rfl, (T2.same S5).sq, atI_nat (endsV_get hi), _, _, rfl, rfl, ?_⟩
          refine ⟨true, congrArg V.bl (decide_eq_true (show ((j : Nat) : Int) < ((EE i : Nat) : Int) by omega)), iteF ?_⟩
          exact ⟨_, _, rfl, S5⟩
      · rintro σ H' ⟨v1, v2, rfl, S4⟩
        exact k H' (S3.trans S4)
abbrev s_fault_index : Stmt := (top 17)
theorem sc_fault_index : FnScope ["words", "index", "word"] ["words"] (defScope s_fault_index) := ⟨rfl, rfl, rfl, by decide +kernel, rfl, by decide +kernel, by decide +kernel⟩
theorem tyx_tup {K : PySem.W.Frag} {H : Hp} {a : Addr} {xs : List V} (h : SqT K H a xs) : TyX K H (.ref a) (.type "tuple") := by
  rcases h with (h | ⟨o, h⟩) | ⟨o, its, n, h1, h2, _⟩
  · exact .base (.tup h)
  · exact .fTuple h
  · exact .kTuple h1 h2
theorem kitTT : kitB "tuple" "tuple" = some true := by decide +kernel
theorem c_fault_index {P w K mg base} (B : Bt mg) (D : DefAt K mg "fault_index" s_fault_index) (Cstranger_index : Cal P w K mg base "stranger_index" 3 ["things"] (spFine K)) (Cparts_in : Cal P w K mg base "parts_in" 1 ["word"] spPartsIn) (Cmisfit_index : Cal P w K mg base "misfit_index" 1 ["needs"] (spMisfit K))
    (Crepeated_index : Cal P w K mg base "repeated_index" 1 ["words"] (spFine K)) (Cunused_index : Cal P w K mg base "unused_index" 3 ["words"] (spFine K)) : Cal P w K mg base "fault_index" 4 ["words"] (spFine K) := by
  refine cal_of D sc_fault_index (fun _ _ _ _ _ _ us hl => match us, hl with | [_], _ => rfl) (fun vs H Q E h => ?_) (fun fa cdv A outer st0 H vs Q E hr h => ?_)
  · obtain ⟨a, ws, rfl, _⟩ := h
    rfl
  · obtain ⟨a, ws, rfl, hq, vd, hl, k⟩ := h
    refine ⟨_, (pss_cons (ps_if (PW.pt (pw_or (pt_not (pt_val (pe_callB call_isi (by rfl) B.b_isinstance (by decide +kernel) (pa_cons (pv 0) (pa_cons (pe_ty (n := "tuple") B.b_tuple (by decide +kernel)) pa_nil))))) (pw_or1 (pt_not (pt_chain op_le op_le pe_int (pe_callB call_len_seq (by rfl) B.b_len (by decide +kernel) (pa_cons (pv 0) pa_nil)) (pe_gi B.m_MOST_WORDS)))))) (pss_one (ps_ret (pe_un un_neg pe_int))) pss_nil)
      (pss_cons (ps_set (i := 1) sc_fault_index.nd rfl (by first | exact Or.inl rfl | exact Or.inr rfl) (pe_c Cstranger_index (hr.mono (by decide)) (pa_cons (pv 0) pa_nil)))
      (pss_cons (ps_if (pt_cmpR op_isN (pv 1) pe_non (nomark _)) (pss_one (ps_set (i := 1) sc_fault_index.nd rfl (by first | exact Or.inl rfl | exact Or.inr rfl) (pe_c Cmisfit_index (hr.mono (by decide)) (pa_cons (pe_lc (own := [("word", 2)]) (g := (gName 2)) (tt := tYes) rfl sc_fault_index.nd (pi_tup (pv 0)) (blkOk_by (own := [("word", 2)]) (N := ["words", "index", "word"]) (sc := defScope s_fault_index) (by decide +kernel)) (fun _ _ _ _ _ => (pg_name (i := 2) sc_fault_index.nd rfl (by first | exact Or.inl rfl | exact Or.inr rfl))) (fun _ _ _ _ _ => pts_nil) (fun _ _ _ _ _ => (pe_c Cparts_in (hr.mono (by decide)) (pa_cons (pv 2) pa_nil)))) pa_nil)))) pss_nil)
      (pss_cons (ps_if (pt_cmpR op_isN (pv 1) pe_non (nomark _)) (pss_one (ps_set (i := 1) sc_fault_index.nd rfl (by first | exact Or.inl rfl | exact Or.inr rfl) (pe_c Crepeated_index (hr.mono (by decide)) (pa_cons (pv 0) pa_nil)))) pss_nil)
      (pss_cons (ps_if (pt_cmpR op_isN (pv 1) pe_non (nomark _)) (pss_one (ps_set (i := 1) sc_fault_index.nd rfl (by first | exact Or.inl rfl | exact Or.inr rfl) (pe_c Cunused_index (hr.mono (by decide)) (pa_cons (pv 0) pa_nil)))) pss_nil)
      (pss_one (ps_ret (pv 1)))))))), ?_⟩
    have hlm : (ws.map wv).length = ws.length := List.length_map ..
    have pos := vd.pos
    refine ⟨_, rfl, _, _, _, _, true, rfl, .ty _, tyx_tup hq, kit_ty kitTT, _, rfl, iteF ?_⟩
    refine ⟨_, rfl, _, _, rfl, .inr hq, _, _, rfl, rfl, _, rfl, ?_⟩
    rw [hlm, decide_eq_true (show (1 : Int) ≤ (ws.length : Nat) by omega)]
    refine iteT ⟨_, _, rfl, rfl, _, rfl, ?_⟩
    rw [decide_eq_true (show ((ws.length : Nat) : Int) ≤ 1000 by omega)]
    refine iteF ?_
    refine ⟨_, rfl, a, ws, rfl, hq, vd, Nat.le_trans hl (by decide), fun H1 S1 => ?_⟩
    refine ⟨_, rfl, rfl, _, rfl, iteT ?_⟩
    refine ⟨_, rfl, a, rfl, ⟨_, SqT.same hq S1⟩, fun Dl nDl => lc_fmT (f := wv) (r := fun w => some (nv (needW w))) (SqT.same hq S1) nDl (Nat.le_trans hl (by decide)) ?_ ?_⟩
    · rintro i w' H' Qy Qn hw S1' hy hn
      refine ⟨rfl, _, rfl, w', rfl, vd.okAt hw, fun H2 S2 => hy _ _ S2 rfl⟩
    rintro H1' S1' L1'
    rw [needs_map] at L1'
    refine ⟨Dl, ws.map needW, rfl, SqL.of L1', by rw [List.length_map]; exact Nat.le_trans hl (by decide), fun H2 S2 => ?_⟩
    have S12 := S1.trans (S1'.trans S2)
    rw [vd.wh.mis 0]
    refine ⟨_, rfl, rfl, _, rfl, iteT ?_⟩
    refine ⟨_, rfl, a, ws, rfl, SqT.same hq S12, vd, Nat.le_trans hl (by decide), fun H3 S3 => ?_⟩
    have S13 := S12.trans S3
    refine ⟨_, rfl, rfl, _, rfl, iteT ?_⟩
    refine ⟨_, rfl, a, ws, rfl, SqT.same hq S13, vd, Nat.le_trans hl (by decide), fun H4 S4 => ?_⟩
    exact ⟨_, rfl, k H4 (S13.trans S4)⟩
end Kk

set_option maxHeartbeats 2000000
namespace Kk
open PySem PySem.Spec PyProof.Rows L2 Wd
/-! ### the class -/
structure PC (K : PySem.W.Frag) (mg : Str → Option Value) (C : Addr) : Prop where
  cl : Cls K C
  nw : NoAttr K C "words"
  mg : mg "Program" = some (.ref C)
  ha : PySem.W.findIn K (.ref C) "__class__" = some (some (.builtin "object.__class__"))
  hn : PySem.W.specialIn K (.builtin "object.__class__") "__get__" = some (some (.builtin "getset_descriptor.__get__"))
  ht : PySem.W.takesIn K (.builtin "object.__class__") = some true
  hm : PySem.W.mroIn K C (.type "object") = some true
def pfs (a : Addr) : List (Str × V) := putF "words" (.ref a) []
theorem pfs_get (a : Addr) : (pfs a).lookup ("words" : Str) = some (.ref a) := by unfold pfs; rw [lookup_putF, if_pos rfl]
theorem pfs_put (a b : Addr) : putF "words" (.ref b) (pfs a) = pfs b := by
  show (if ("words" : Str) = "words" then [(("words" : Str), V.ref b)] else _) = pfs b
  rw [if_pos rfl]
  all_goals rfl
/-- at x stands a Program, its words at a -/
def Pg (C : Addr) (H : Hp) (x a : Addr) : Prop := ∃ dx, H x = some (.ins C dx (pfs a))
theorem Pg.same {C : Addr} {H H' : Hp} {x a : Addr} (h : Pg C H x a) (k : Same H H') : Pg C H' x a := by
  obtain ⟨dx, h⟩ := h
  exact ⟨dx, k _ _ h⟩
theorem Pg.keep {C p g : Addr} {H H' : Hp} {x a : Addr} (h : Pg C H x a) (k : Keep p g H H') (h1 : x ≠ p) (h2 : x ≠ g) : Pg C H' x a := by
  obtain ⟨dx, h⟩ := h
  exact ⟨dx, k _ _ h h1 h2⟩
/-- all but x is as it was -/
def But (x : Addr) (H H' : Hp) : Prop := ∀ b o, H b = some o → b ≠ x → H' b = some o
def spInit (K : PySem.W.Frag) (C : Addr) : Sp := fun vs H Q _ => ∃ (x dx a : Addr) (ws : List W), vs = [.ref x, .ref a] ∧ H x = some (.ins C dx []) ∧ SqT K H a (ws.map wv) ∧ Vd ws ∧ ws.length ≤ 1000 ∧
  ∀ H', But x H H' → Pg C H' x a → Q .non H'
abbrev s_init : Stmt := (inClass (top 15) 0)
theorem sc_init : FnScope ["self", "words", "index"] ["self", "words"] (defScope s_init) := ⟨rfl, rfl, rfl, by decide +kernel, rfl, by decide +kernel, by decide +kernel⟩
theorem c_init {P w K mg base} {C f : Addr} {fd : FuncData} (B : Bt mg) (pc : PC K mg C) (F : Fun K "__init__" "Program.__init__" s_init f fd) (Cfault_index : Cal P w K mg base "fault_index" 4 ["words"] (spFine K)) :
    FnOk P w K mg base CX0 5 f fd ["self", "words"] (spInit K C) := by
  refine F.ok sc_init (fun vs H Q E h => ?_) (fun cdv A outer st0 H vs Q E hr h => ?_)
  · obtain ⟨x, dx, a, ws, rfl, _⟩ := h
    rfl
  · obtain ⟨x, dx, a, ws, rfl, hx, hq, vd, hl, k⟩ := h
    refine ⟨_, (pss_cons (ps_set (i := 2) sc_init.nd rfl (by first | exact Or.inl rfl | exact Or.inr rfl) (pe_c Cfault_index (hr.mono (by decide)) (pa_cons (pv 1) pa_nil)))
      (pss_cons (ps_if (pt_cmpR op_notN (pv 2) pe_non (nomark _)) (pss_one ps_never) pss_nil)
      (pss_one (ps_fld (pv 0) (pv 1) rfl)))), ?_⟩
    refine ⟨_, rfl, a, ws, rfl, hq, vd, hl, fun H1 S1 => ?_⟩
    refine ⟨_, rfl, rfl, _, rfl, iteF ?_⟩
    refine ⟨_, rfl, _, rfl, x, C, dx, [], rfl, S1 _ _ hx, pc.cl, pc.nw, (by show 0 < 1000; decide), ?_⟩
    refine k _ (fun b o hb hne => ?_) ⟨dx, upd_same⟩
    rw [upd_ne hne]
    exact S1 _ _ hb
end Kk

set_option maxHeartbeats 2000000
namespace Kk
open PySem PySem.Spec PyProof.Rows L2 Wd
/-! ### what the words hold -/
def tkN : W → Option Nm
  | .tk n => some n
  | _ => none
def nmN : W → Option Nm
  | .nm n => some n
  | _ => none
def namesOf (ws : List W) : List Nm := ws.filterMap nmN
theorem takesOf_eq (ws : List W) : takesOf ws = ws.filterMap tkN := by
  unfold takesOf
  congr 1
def apsOf (ws : List W) : Nat := ws.countP isAp
def openR (ws : List W) (n : Nm) : Option V := if n ∈ takesOf ws then none else some (sv n)
def openV (ws : List W) : List V := (namesOf ws).filterMap (openR ws)
theorem tk_map (ws : List W) : ws.filterMap (fun w => (tkN w).map sv) = (takesOf ws).map sv := by rw [takesOf_eq, List.map_filterMap]
theorem nm_map (ws : List W) : ws.filterMap (fun w => (nmN w).map sv) = (namesOf ws).map sv := by unfold namesOf; rw [List.map_filterMap]
theorem enc_map (ws : List W) : (ws.map enc).map V.str = ws.map wv := by rw [List.map_map]; rfl
theorem str_map (ns : List Nm) : (ns.map str).map V.str = ns.map sv := by rw [List.map_map]; rfl
theorem beq_ap {w : W} (h : wOk w) : (enc w == ("@" : Str)) = isAp w := by
  rw [← is_ap h]
  by_cases e : enc w = ("@" : Str)
  · rw [e]; simp
  · rw [decide_eq_false (fun q => e (V.str.inj q))]
    simp [e]
theorem count_ap {ws : List W} (ok : ∀ w ∈ ws, wOk w) : (ws.map enc).countP (fun y => y == ("@" : Str)) = apsOf ws := by
  unfold apsOf
  rw [List.countP_map]
  refine List.countP_congr fun w hw => ?_
  show (enc w == ("@" : Str)) = true ↔ _
  rw [beq_ap (ok w hw)]
theorem any_str (n : Nm) (ns : List Nm) : ((ns.map str).any fun x => decide ((Sum.inr (str n) : Key) = Sum.inr x)) = decide (n ∈ ns) := by
  induction ns with
  | nil => rfl
  | cons a ns ih =>
    rw [List.map_cons, List.any_cons, ih]
    by_cases e : n = a
    · subst e; simp
    · have : ¬ (str n = str a) := fun q => e (str_inj q)
      simp [this, e]
section
variable {P : Program} {w : World} {K : PySem.W.Frag} {mg : Str → Option Value} {base : Heap}
def spStands : Sp := fun vs H Q _ => ∃ v : W, vs = [wv v] ∧ wOk v ∧ ∀ H', Same H H' → Q (.bl (isNm v)) H'
abbrev s_stands_as_name : Stmt := (top 24)
theorem sc_stands_as_name : FnScope ["word"] ["word"] (defScope s_stands_as_name) := ⟨rfl, rfl, rfl, by decide +kernel, rfl, by decide +kernel, by decide +kernel⟩
theorem c_stands_as_name (B : Bt mg) (D : DefAt K mg "stands_as_name" s_stands_as_name) : Cal P w K mg base "stands_as_name" 1 ["word"] spStands := by
  refine cal_of D sc_stands_as_name (fun _ _ _ _ _ _ us hl => match us, hl with | [_], _ => rfl) (fun vs H Q E h => ?_) (fun fa cdv A outer st0 H vs Q E hr h => ?_)
  · obtain ⟨v, rfl, _⟩ := h
    rfl
  · obtain ⟨v, rfl, hv, k⟩ := h
    refine ⟨_, (pss_one (ps_ret (pe_and (pe_cmpR op_ne (pv 0) (pe_gs B.m_GIVEN) (nomark _)) (pe_one (pe_not (pe_bm PySem.F.plainAttrs_str PySem.F.slot_str_startswith PySem.F.type_str_startswith mt_startswith (pv 0) (pa_cons (pe_gs B.m_TAKE) pa_nil))))))), ?_⟩
    refine ⟨_, rfl, rfl, _, rfl, ?_⟩
    rw [is_ap hv]
    cases v with
    | ap => exact iteF (k H (Same.refl H))
    | tk n =>
      refine iteT ⟨_, rfl, rfl, _, _, rfl, rfl, ?_⟩
      rw [starts_tk hv]
      exact ⟨_, rfl, k H (Same.refl H)⟩
    | nm n =>
      refine iteT ⟨_, rfl, rfl, _, _, rfl, rfl, ?_⟩
      rw [starts_tk hv]
      exact ⟨_, rfl, k H (Same.refl H)⟩
/-- of a Program whose words are there -/
def spOfP (K : PySem.W.Frag) (C : Addr) (R : List W → Hp → Hp → V → Prop) : Sp := fun vs H Q _ => ∃ (x a : Addr) (ws : List W), vs = [.ref x] ∧ Pg C H x a ∧ TupF H a (ws.map wv) ∧ Vd ws ∧ ws.length ≤ 4000 ∧
  ∀ H' v, Same H H' → R ws H H' v → Q v H'
def rTaken : List W → Hp → Hp → V → Prop := fun ws H H' v => ∃ q, v = .ref q ∧ H q = none ∧ H' q = some (.lst ((takesOf ws).map sv))
def rStand : List W → Hp → Hp → V → Prop := fun ws H H' v => ∃ q, v = .ref q ∧ H q = none ∧ H' q = some (.lst ((namesOf ws).map sv))
def rOpen : List W → Hp → Hp → V → Prop := fun ws H H' v => ∃ q, v = .ref q ∧ H q = none ∧ TupF H' q (openV ws)
theorem takes_le (ws : List W) : (takesOf ws).length ≤ ws.length := takesOf_len ws
theorem names_le (ws : List W) : (namesOf ws).length ≤ ws.length := List.length_filterMap_le _ _
end
end Kk

set_option maxHeartbeats 2000000
namespace Kk
open PySem PySem.Spec PyProof.Rows L2 Wd
section
variable {P : Program} {w : World} {K : PySem.W.Frag} {mg : Str → Option Value} {base : Heap}
def rGivens : List W → Hp → Hp → V → Prop := fun ws _ _ v => v = .int (apsOf ws : Nat)
def rTakes : List W → Hp → Hp → V → Prop := fun ws _ _ v => v = .int ((takesOf ws).length : Nat)
def rEnds : List W → Hp → Hp → V → Prop := fun ws H H' v => ∃ q E, v = .ref q ∧ IsEnds ws E ∧ H q = none ∧ TupF H' q (endsV ws.length E)
abbrev s_givens : Stmt := (top 25)
theorem sc_givens : FnScope ["program"] ["program"] (defScope s_givens) := ⟨rfl, rfl, rfl, by decide +kernel, rfl, by decide +kernel, by decide +kernel⟩
theorem c_givens {C : Addr} (B : Bt mg) (pc : PC K mg C) (D : DefAt K mg "givens" s_givens) : Cal P w K mg base "givens" 1 ["program"] (spOfP K C rGivens) := by
  refine cal_of D sc_givens (fun _ _ _ _ _ _ us hl => match us, hl with | [_], _ => rfl) (fun vs H Q E h => ?_) (fun fa cdv A outer st0 H vs Q E hr h => ?_)
  · obtain ⟨x, a, ws, rfl, _⟩ := h
    rfl
  · obtain ⟨x, a, ws, rfl, ⟨dx, hx⟩, ht, vd, hl, k⟩ := h
    refine ⟨_, (pss_one (ps_ret (pe_tm PySem.F.slot_tuple_count PySem.F.type_tuple_count mt_tcount (pe_fld (pv 0) rfl) (pa_cons (pe_gs B.m_GIVEN) pa_nil)))), ?_⟩
    refine ⟨_, rfl, x, C, dx, _, _, rfl, hx, pc.cl, pc.nw, pfs_get a, ⟨a, _, rfl, ht⟩, a, ws.map enc, "@", rfl, rfl, by rw [enc_map]; exact ht.sq, ?_⟩
    rw [count_ap vd.ok]
    exact k H _ (Same.refl H) rfl
/-- of a Program and one of its places -/
def spAtP (K : PySem.W.Frag) (C : Addr) (R : List W → Nat → Addr → Hp → Hp → V → Prop) : Sp := fun vs H Q _ => ∃ (x a : Addr) (ws : List W) (i : Nat), vs = [.ref x, .int (i : Int)] ∧ Pg C H x a ∧ TupF H a (ws.map wv) ∧ Vd ws ∧ ws.length ≤ 1000 ∧ i < ws.length ∧
  ∀ H' v, Same H H' → R ws i a H H' v → Q v H'
def rNone : List W → Nat → Addr → Hp → Hp → V → Prop := fun _ _ _ _ _ v => v = .non
/-- the class can be made -/
structure Mkr (P : Program) (w : World) (K : PySem.W.Frag) (mg : Str → Option Value) (base : Heap) (C : Addr) : Prop where
  ex : ∃ f fd, Mk K C f ∧ mg "Program" = some (.ref C) ∧ Binds K fd ["self", "words"] [] ∧ FnOk P w K mg base CX0 5 f fd ["self", "words"] (spInit K C)
theorem pe_mk1 {X : Cx} {C : Addr} {e : Expr} {t : TA} {p pos : Pos} (M : Mkr X.prog X.w X.K X.mg X.base C) (hr : Room 6 X.A) (ha : PA X [e] t) (hg : Gl X "Program" := by rfl)
    (he : starEach [e] X.env = (false, eval e X.env) :: starEach [] X.env := by rfl) (hpl : (backTo pos (starEach [] X.env)).any (·.1) = false := by rfl) :
    PE X (.Call (.Name "Program" p) [e] [] pos) (tMake C (spInit X.K C) [] E0 t) := by
  obtain ⟨f, fd, M, hm, hb, F⟩ := M
  exact pe_make M F hr hg hm hb .nil pass0 ha (by decide) he hpl
theorem made_same {H : Hp} {x dx C : Addr} (nx : H x = none) (ndx : H dx = none) : Same H (upd (upd H dx (.own x)) x (.ins C dx [])) := fun b o e => by
  rw [upd_ne (ne_of_none e nx), upd_ne (ne_of_none e ndx)]
  exact e
theorem But.same {x : Addr} {H H1 H2 : Hp} (h : But x H1 H2) (s : Same H H1) (n : H x = none) : Same H H2 := fun b o e => h _ _ (s _ _ e) (ne_of_none e n)
def spBuilt (K : PySem.W.Frag) (C : Addr) : Sp := fun vs H Q _ => ∃ (a : Addr) (ws : List W), vs = [.ref a] ∧ TupF H a (ws.map wv) ∧ ∀ H' x, Same H H' → H x = none → Pg C H' x a → Q (.ref x) H'
theorem wv_a : V.str ("a" : Str) = wv (.nm [97]) := by
  refine congrArg V.str (TL.ext_tl ?_)
  rw [TL.tl_ofString]
  rfl
theorem vd_a : Vd [.nm [97]] := by
  refine ⟨⟨.nm [97], rfl, trivial, by decide, by decide⟩, fun w hw => ?_⟩
  have : w = .nm [97] := by simpa using hw
  subst this
  exact ⟨by decide, by decide, by decide⟩
abbrev s_built : Stmt := (top 16)
theorem sc_built : FnScope ["words", "program"] ["words"] (defScope s_built) := ⟨rfl, rfl, rfl, by decide +kernel, rfl, by decide +kernel, by decide +kernel⟩
theorem c_built {C : Addr} (B : Bt mg) (pc : PC K mg C) (D : DefAt K mg "built" s_built) (MProgram : Mkr P w K mg base C) : Cal P w K mg base "built" 7 ["words"] (spBuilt K C) := by
  refine cal_of D sc_built (fun _ _ _ _ _ _ us hl => match us, hl with | [_], _ => rfl) (fun vs H Q E h => ?_) (fun fa cdv A outer st0 H vs Q E hr h => ?_)
  · obtain ⟨a, ws, rfl, _⟩ := h
    rfl
  · obtain ⟨a, ws, rfl, ht, k⟩ := h
    refine ⟨_, (pss_cons (ps_set (i := 1) sc_built.nd rfl (by first | exact Or.inl rfl | exact Or.inr rfl) (pe_mk1 MProgram (hr.mono (by decide)) (pa_cons (pe_tupF (pa_cons pe_str pa_nil)) pa_nil)))
      (pss_cons (ps_fld (pv 1) (pv 0) rfl)
      (pss_one (ps_ret (pv 1))))), ?_⟩
    refine ⟨(by show 1 ≤ sizeLine; decide), fun t o nt ho x dx nx ndx nex => ?_⟩
    have S1 : Same H (upd H t (.frz o (.tup [V.str "a"]))) := same_upd nt
    have T1 : TupF (upd H t (.frz o (.tup [V.str "a"]))) t [V.str "a"] := TupF.new ho
    rw [wv_a] at T1
    have S2 := made_same (C := C) nx ndx
    refine ⟨x, dx, t, [.nm [97]], rfl, upd_same, (T1.same S2).sq, vd_a, by decide, fun H3 B3 ⟨dx3, P3⟩ => ⟨rfl, ?_⟩⟩
    have S3 := S1.trans (B3.same S2 nx)
    refine ⟨_, rfl, _, rfl, x, C, dx3, _, rfl, P3, pc.cl, pc.nw, (by show 1 < 1000; decide), _, rfl, ?_⟩
    rw [pfs_put]
    have n0 : H x = none := S1.free nx
    exact k _ x (fun b o hb => by rw [upd_ne (ne_of_none hb n0)]; exact S3 _ _ hb) n0 ⟨dx3, upd_same⟩
end
end Kk

set_option maxHeartbeats 2000000
namespace Kk
open PySem PySem.Spec PyProof.Rows L2 Wd
section
variable {P : Program} {w : World} {K : PySem.W.Frag} {mg : Str → Option Value} {base : Heap}
def rPart (C : Addr) : List W → Nat → Addr → Hp → Hp → V → Prop := fun ws i a H H' v => ∃ x' a' E, v = .ref x' ∧ H x' = none ∧ IsEnds ws E ∧ Pg C H' x' a' ∧ TupF H' a' (((ws.drop i).take (E i - i)).map wv)
theorem cut_part {xs : List V} {i j : Nat} (hi : i ≤ xs.length) (hj : j ≤ xs.length) : cutV xs (some (i : Int)) (some (j : Int)) = (xs.drop i).take (j - i) := by
  unfold cutV
  rw [HT.sIx_nat, HT.sIx_nat, Nat.min_eq_left hi, Nat.min_eq_left hj]
def rTakenAt : List W → Nat → Addr → Hp → Hp → V → Prop := fun ws i _ _ _ v => (∀ n j, ws[i]? = some (.nm n) → ws[j]? = some (.tk n) → v = .int (j : Nat)) ∧ ((∀ n, ws[i]? = some (.nm n) → W.tk n ∉ ws) → v = .non)
theorem in_wv (z : Str) (ws : List W) : inV (.str z) (ws.map wv) = decide (z ∈ ws.map enc) := by
  unfold inV
  induction ws with
  | nil => simp
  | cons a us ih =>
    rw [List.map_cons, List.any_cons, ih]
    show (decide (enc a = z) || _) = _
    by_cases e : z = enc a
    · subst e; simp
    · have : ¬ enc a = z := fun q => e q.symm
      simp [this, e]
theorem flat_wv (us : List W) : (us.map wv).all flatV = true := by
  rw [List.all_eq_true]
  intro x hx
  obtain ⟨n, _, rfl⟩ := List.mem_map.mp hx
  rfl
theorem tl_take (v : W) : TL.tl (("/" : Str) ++ enc v) = 47 :: code v := by
  rw [TL.tl_append, slash]
  rfl
theorem take_nm (n : Nm) : (("/" : Str) ++ enc (.nm n)) = enc (.tk n) := TL.ext_tl (by rw [tl_take]; rfl)
theorem no_take {ws : List W} (ok : ∀ u ∈ ws, wOk u) {v : W} (h : ∀ n, v ≠ .nm n) : (("/" : Str) ++ enc v) ∉ ws.map enc := fun hm => by
  obtain ⟨u, hu, e⟩ := List.mem_map.mp hm
  have e2 := congrArg TL.tl e
  rw [tl_take, tl_enc] at e2
  have hk := ok u hu
  cases u with
  | ap => simp [Wd.code] at e2
  | tk n =>
    simp [Wd.code] at e2
    cases v with
    | ap => subst e2; have := hk.2.2 64 (by simp [Wd.code]); omega
    | tk m => subst e2; have := hk.2.2 47 (by simp [Wd.code]); omega
    | nm m => exact h m rfl
  | nm n =>
    simp [Wd.code] at e2
    subst e2
    have := hk.2.2 47 (by simp); omega
end
end Kk

set_option maxHeartbeats 2000000
namespace Kk
open PySem PySem.Spec PyProof.Rows L2 Wd
section
variable {P : Program} {w : World} {K : PySem.W.Frag} {mg : Str → Option Value} {base : Heap}
def iv (n : Nat) : V := .int (n : Int)
def stk (L : List Nat) : List V := L.reverse.map iv
def endAt (L : List Nat) (z t : Nat) : Nat := if t = 0 then z else L.getD (t - 1) 0
theorem stk_cons (z : Nat) (L : List Nat) : stk (z :: L) = stk L ++ [iv z] := by simp [stk]
theorem stk_last (z : Nat) (L : List Nat) : (stk (z :: L))[(stk (z :: L)).length - 1]? = some (iv z) := by rw [stk_cons]; simp
theorem stk_pop (z : Nat) (L : List Nat) : (stk (z :: L)).dropLast = stk L := by rw [stk_cons]; simp
theorem drop_at {L : List Nat} {i : Nat} (h : i < L.length) : ∃ z, L.drop i = z :: L.drop (i + 1) ∧ endAt L 0 (i + 1) = z ∧ ∀ y, endAt L y (i + 1) = z := by
  refine ⟨L[i], List.drop_eq_getElem_cons h, ?_, fun y => ?_⟩
  · unfold endAt; rw [if_neg (by omega)]; simp [h]
  · unfold endAt; rw [if_neg (by omega)]; simp [h]
theorem chain_len (E : Nat → Nat) (n : Nat) : ∀ k i, (chain E n k i).length ≤ k
  | 0, _ => Nat.le_refl _
  | k + 1, i => by
    unfold chain
    by_cases h : i < n
    · rw [if_pos h, List.length_cons]; have := chain_len E n k (E i); omega
    · rw [if_neg h]; exact Nat.zero_le _
end
end Kk

namespace Wd
open PySem
/-! ### items told by any names -/
def outG (F : Own → Nm) : Im → W
  | .ap => .ap
  | .op n => .nm n
  | .tk o => .tk (F o)
  | .nm o => .nm (F o)
theorem outI_eq (ps : List (Own × Nm)) : outI ps = outG (rdO ps) := by
  funext i
  cases i <;> rfl
structure Fr (F : Own → Nm) (is : List Im) : Prop where
  inj : ∀ a ∈ takesI is, ∀ b ∈ takesI is, F a = F b → a = b
  no : ∀ o ∈ takesI is, F o ∉ opensI is
theorem tks_out (F : Own → Nm) (is : List Im) : takesOf (is.map (outG F)) = (takesI is).map F := by
  induction is with
  | nil => rfl
  | cons j js ih => cases j <;> simpa [takesOf, takesI, outG] using ih
theorem mark_out {F : Own → Nm} {is : List Im} (w : Wl is) (f : Fr F is) (o' : Nat) : markI o' (is.map (outG F)) = is.map (relI fun o => (o', F o)) := by
  unfold markI
  have mem : ∀ n, (o', n) ∈ owned [(o', is.map (outG F))] ↔ ∃ o ∈ takesI is, F o = n := fun n => by
    rw [mem_owned_o, tks_out, List.mem_map]
  generalize owned [(o', is.map (outG F))] = os at *
  rw [List.map_map]
  refine List.map_congr_left fun i hi => ?_
  cases i with
  | ap => rfl
  | op n =>
    show (if (o', n) ∈ os then _ else _) = _
    rw [if_neg]
    · rfl
    · intro h
      obtain ⟨o, h1, h2⟩ := (mem n).mp h
      exact f.no o h1 (h2 ▸ mem_opensI.mpr hi)
  | tk o => rfl
  | nm o =>
    show (if (o', F o) ∈ os then _ else _) = _
    rw [if_pos ((mem _).mpr ⟨o, w.all o hi, rfl⟩)]
    rfl
theorem rep_out {F : Own → Nm} {is : List Im} (w : Wl is) (f : Fr F is) : Rep (is.map (outG F)) is :=
  ⟨w, fun o => (0, F o), fun a ha b hb e => f.inj a ha b hb (Prod.mk.inj e).2, mark_out w f 0⟩
theorem TI.out_wsG (F : Own → Nm) : ∀ t : TI, (t.out F).ws = t.is.map (outG F)
  | .op n => rfl
  | .nm o => rfl
  | .ap f a => by simp [TI.out, T.ws, TI.is, outG, TI.out_wsG F f, TI.out_wsG F a]
  | .tk o b => by simp [TI.out, T.ws, TI.is, outG, TI.out_wsG F b]
theorem vd_out {F : Own → Nm} {is : List Im} (g : Good is) (f : Fr F is) (okF : ∀ o ∈ takesI is, nmOk (F o)) (ok : ∀ n ∈ opensI is, nmOk n) : Vd (is.map (outG F)) := by
  obtain ⟨t, e, sc, nd⟩ := g.ex
  refine ⟨⟨t.out F, ?_, TI.out_sc _ t sc, ?_, ?_⟩, fun w hw => ?_⟩
  · rw [TI.out_wsG, ← e]
  · rw [TI.out_lv]
    refine nodup_map nd fun l hl k hk q => ?_
    have mo : ∀ n, Sum.inl n ∈ t.lv → n ∈ opensI is := fun n h => mem_opensI.mpr (by rw [e]; exact (TI.mem_op t n).mpr h)
    have mt : ∀ o, Sum.inr o ∈ t.lv → o ∈ takesI is := fun o h => g.all o (by rw [e]; exact (TI.mem_nm t o).mpr h)
    cases l with
    | inl n =>
      cases k with
      | inl m => exact congrArg Sum.inl q
      | inr o =>
        have q' : n = F o := q
        exact absurd (q' ▸ mo n hl) (f.no o (mt o hk))
    | inr o =>
      cases k with
      | inl m =>
        have q' : F o = m := q
        exact absurd (q'.symm ▸ mo m hk) (f.no o (mt o hl))
      | inr p => exact congrArg Sum.inr (f.inj o (mt o hl) p (mt p hk) q)
  · rw [TI.out_tks, ← e]
    exact nodup_map g.nd fun a ha c hc q => f.inj a ha c hc q
  · obtain ⟨i, hi, rfl⟩ := List.mem_map.mp hw
    cases i with
    | ap => trivial
    | op n => exact ok n (mem_opensI.mpr hi)
    | tk o => exact okF o (mem_takesI.mpr hi)
    | nm o => exact okF o (g.all o hi)
/-- an item list that is a tree -/
theorem Good.tree {F : Own → Nm} {is : List Im} (g : Good is) : ∃ t : T, t.ws = is.map (outG F) := by
  obtain ⟨t, e, _, _⟩ := g.ex
  exact ⟨t.out F, by rw [TI.out_wsG, e]⟩
/-! ### a name taken around words -/
theorem vd_tk {ws : List W} (v : Vd ws) {x : Nm} (hn : x ∈ nmsOf ws) (ht : x ∉ takesOf ws) : Vd (.tk x :: ws) := by
  have ox := v.nmOk hn
  obtain ⟨⟨t, rfl, sc, nl, nt⟩, ok⟩ := v
  refine ⟨⟨.tk x t, rfl, ⟨by rw [nmsOf_tree] at hn; exact hn, sc⟩, nl, ?_⟩, fun w hw => ?_⟩
  · show (x :: t.tks).Nodup
    exact List.nodup_cons.mpr ⟨by rw [takesOf_tree] at ht; exact ht, nt⟩
  · rcases List.mem_cons.mp hw with rfl | hw
    · exact ox
    · exact ok w hw
theorem mark_tk {ws : List W} {x : Nm} (ht : x ∉ takesOf ws) (k : Nat) : markI k (.tk x :: ws) = .tk (k, x) :: subI x (markI k ws) [.nm (k, x)] := by
  have m1 : ∀ n, (k, n) ∈ owned [(k, W.tk x :: ws)] ↔ n = x ∨ n ∈ takesOf ws := fun n => by
    rw [mem_owned_o]
    have : takesOf (W.tk x :: ws) = x :: takesOf ws := rfl
    rw [this, List.mem_cons]
  have m2 : ∀ n, (k, n) ∈ owned [(k, ws)] ↔ n ∈ takesOf ws := fun n => mem_owned_o
  unfold markI
  rw [List.map_cons]
  refine congrArg (List.cons (Im.tk (k, x))) ?_
  generalize owned [(k, W.tk x :: ws)] = os at *
  generalize owned [(k, ws)] = os2 at *
  have : ∀ us : List W, us.map (mkI os k) = subI x (us.map (mkI os2 k)) [.nm (k, x)] := fun us => by
    induction us with
    | nil => rfl
    | cons u us ih =>
      rw [List.map_cons, List.map_cons, ih]
      unfold subI
      rw [List.flatMap_cons]
      cases u with
      | ap => rfl
      | tk n => rfl
      | nm n =>
        by_cases h : n ∈ takesOf ws
        · have e1 : mkI os k (.nm n) = .nm (k, n) := if_pos ((m1 n).mpr (.inr h))
          have e2 : mkI os2 k (.nm n) = .nm (k, n) := if_pos ((m2 n).mpr h)
          rw [e1, e2, if_neg (by simp)]; rfl
        · have e2 : mkI os2 k (.nm n) = .op n := if_neg fun q => h ((m2 n).mp q)
          by_cases e : n = x
          · subst e
            have e1 : mkI os k (.nm n) = .nm (k, n) := if_pos ((m1 n).mpr (.inl rfl))
            rw [e1, e2, if_pos rfl]; rfl
          · have e1 : mkI os k (.nm n) = .op n := if_neg fun q => ((m1 n).mp q).elim e h
            rw [e1, e2, if_neg fun q => e (Im.op.inj q)]; rfl
  exact this ws
/-! ### how many are given -/
def apsI (is : List Im) : Nat := (is.filter fun i => decide (i = .ap)).length
def apsW (ws : List W) : Nat := (ws.filter fun w => decide (w = .ap)).length
theorem apsI_app (is js : List Im) : apsI (is ++ js) = apsI is + apsI js := by simp [apsI]
theorem aps_out (F : Own → Nm) (is : List Im) : apsW (is.map (outG F)) = apsI is := by
  unfold apsW apsI
  induction is with
  | nil => rfl
  | cons i is ih => cases i <;> simpa [outG] using ih
theorem aps_mark (k : Nat) (ws : List W) : apsI (markI k ws) = apsW ws := by
  unfold markI
  generalize owned [(k, ws)] = os
  unfold apsW apsI
  induction ws with
  | nil => rfl
  | cons w ws ih =>
    cases w with
    | ap => simpa [mkI] using ih
    | tk n => simpa [mkI] using ih
    | nm n => by_cases h : (k, n) ∈ os <;> simpa [mkI, h] using ih
end Wd

set_option maxHeartbeats 4000000
/-! a step -/
namespace Kk
open PySem PySem.Spec PyProof.Rows L2 Wd
def wsL (ts : List T) : List W := ts.flatMap T.ws
theorem wsL_step (t : T) (ts : List T) : ∃ w ts2, wsL (t :: ts) = w :: wsL ts2 ∧ ts2.length = ts.length + needW w := by
  cases t with
  | nm n => exact ⟨.nm n, ts, rfl, rfl⟩
  | tk n b => exact ⟨.tk n, b :: ts, rfl, rfl⟩
  | ap f a => exact ⟨.ap, f :: a :: ts, by simp [wsL, T.ws], rfl⟩
theorem drop_cons {ws : List W} {j : Nat} {w : W} {r : List W} (h : ws.drop j = w :: r) : ws[j]? = some w ∧ ws.drop (j + 1) = r := by
  constructor
  · have := congrArg (fun l => l[0]?) h
    simpa using this
  · have := congrArg List.tail h
    simpa using this
section
variable {P : Program} {w : World} {K : PySem.W.Frag} {mg : Str → Option Value} {base : Heap}
def spEndFrom (K : PySem.W.Frag) : Sp := fun vs H Q _ => ∃ (a : Addr) (ws : List W) (i : Nat) (t : T) (Y : List W), vs = [.ref a, .int (i : Nat)] ∧ SqT K H a (ws.map wv) ∧ (∀ w ∈ ws, wOk w) ∧ ws.drop i = t.ws ++ Y ∧ ∀ H', Same H H' → Q (.int ((i + t.ws.length : Nat) : Int)) H'
abbrev s_end_from : Stmt := (top 31)
theorem sc_end_from : FnScope ["words", "place", "lacking"] ["words", "place"] (defScope s_end_from) := ⟨rfl, rfl, rfl, by decide +kernel, rfl, by decide +kernel, by decide +kernel⟩
theorem c_end_from (B : Bt mg) (D : DefAt K mg "end_from" s_end_from) (Cparts_in : Cal P w K mg base "parts_in" 1 ["word"] spPartsIn) : Cal P w K mg base "end_from" 2 ["words", "place"] (spEndFrom K) := by
  refine cal_of D sc_end_from (fun _ _ _ _ _ _ us hl => match us, hl with | [_, _], _ => rfl) (fun vs H Q E h => ?_) (fun fa cdv A outer st0 H vs Q E hr h => ?_)
  · obtain ⟨a, ws, i, t, Y, rfl, _⟩ := h
    rfl
  · obtain ⟨a, ws, i, t, Y, rfl, hq, ok, hd, k⟩ := h
    refine ⟨_, (pss_cons (ps_set (i := 2) sc_end_from.nd rfl (by first | exact Or.inl rfl | exact Or.inr rfl) pe_int)
      (pss_cons (ps_while PassesOwn.never (pt_cmpR op_gt (pv 2) pe_int (nomark _)) (pss_cons (ps_set (i := 2) sc_end_from.nd rfl (by first | exact Or.inl rfl | exact Or.inr rfl) (pe_op op_sub (pe_op op_add (pv 2) (pe_c Cparts_in (hr.mono (by decide)) (pa_cons (pe_ix ix_tup (pv 0) (pv 1) (fun _ _ => rfl)) pa_nil))) pe_int))
      (pss_one (ps_set (i := 1) sc_end_from.nd rfl (by first | exact Or.inl rfl | exact Or.inr rfl) (pe_op op_add (pv 1) pe_int)))))
      (pss_one (ps_ret (pv 1))))), ?_⟩
    refine ⟨fun m σ H' => ∃ (ts : List T) (j : Nat), m = (wsL ts).length ∧ ws.drop j = wsL ts ++ Y ∧ j + (wsL ts).length = i + t.ws.length ∧ Same H H' ∧ σ = [some (.ref a), some (.int (j : Nat)), some (.int (ts.length : Nat))], ⟨_, [t], i, rfl, by rw [hd]; simp [wsL], by simp [wsL], Same.refl H, rfl⟩, ?_⟩
    rintro m σ H1 ⟨ts, j, rfl, hj, he, S1, rfl⟩
    refine ⟨_, rfl, _, _, rfl, rfl, _, rfl, ?_⟩
    refine ite2 (fun hc => ?_) (fun hc => ?_)
    · have hp : 0 < ts.length := by have := of_decide_eq_true hc; omega
      obtain ⟨t1, ts1, rfl⟩ : ∃ t1 ts1, ts = t1 :: ts1 := by
        cases ts with
        | nil => simp at hp
        | cons a b => exact ⟨a, b, rfl⟩
      obtain ⟨v, ts2, e1, e2⟩ := wsL_step t1 ts1
      rw [e1] at hj he
      obtain ⟨hg, hj2⟩ := drop_cons hj
      have hgv : (ws.map wv)[j]? = some (wv v) := by rw [List.getElem?_map, hg]; rfl
      refine ⟨fun σ' H' => Same H H' ∧ σ' = [some (.ref a), some (.int ((j + 1 : Nat) : Int)), some (.int (ts2.length : Nat))], ?_, ?_⟩
      · rintro σ' H' ⟨S', rfl⟩
        refine ⟨(wsL ts2).length, by rw [e1]; simp, ts2, j + 1, rfl, hj2, ?_, S', rfl⟩
        simp at he
        omega
      · refine ⟨_, rfl, _, rfl, _, rfl, a, _, _, _, rfl, rfl, SqT.same hq S1, atI_nat hgv, v, rfl, ok v (List.mem_of_getElem? hg), fun H2 S2 => ⟨_, _, rfl, rfl, _, _, rfl, rfl, _, rfl, _, _, rfl, rfl, ?_⟩⟩
        refine ⟨S1.trans S2, ?_⟩
        have e3 : (((t1 :: ts1).length : Nat) : Int) + (needW v : Nat) - 1 = (ts2.length : Nat) := by rw [e2, List.length_cons]; omega
        rw [← e3]
        rfl
    · have hz : ts = [] := by
        cases ts with
        | nil => rfl
        | cons a b => exact absurd (decide_eq_true (by simp)) hc
      subst hz
      have hx := k H1 S1
      rw [← he] at hx
      exact ⟨_, rfl, hx⟩
theorem cut_wv {ws : List W} {i j : Nat} (hj : j ≤ ws.length) (hi : i ≤ j) : cutV (ws.map wv) (some (i : Int)) (some (j : Int)) = ((ws.drop i).take (j - i)).map wv := by
  rw [cut_part (by rw [List.length_map]; omega) (by rw [List.length_map]; omega), ← List.map_drop, ← List.map_take]
theorem cut_lo {ws : List W} {i : Nat} (hi : i ≤ ws.length) : cutV (ws.map wv) (some (i : Int)) none = (ws.drop i).map wv := by
  unfold cutV
  rw [HT.sIx_none, HT.sIx_nat, List.length_map, Nat.min_eq_left hi, ← List.map_drop, ← List.map_take, List.take_of_length_le (by rw [List.length_drop]; omega)]
theorem cut_hi {ws : List W} {j : Nat} (hj : j ≤ ws.length) : cutV (ws.map wv) none (some (j : Int)) = (ws.take j).map wv := by
  unfold cutV
  rw [HT.sIx_none, HT.sIx_nat, List.length_map, Nat.min_eq_left hj, Nat.sub_zero, List.drop_zero, ← List.map_take]
/-- what is kept of a step, to take it back -/
def markV (X A B G : List W) (n : Nm) : List V := [V.int (X.length : Nat), wv (.tk n), V.int ((X.length + A.length : Nat) : Int), V.int ((X.length + A.length + G.length : Nat) : Int), V.int ((X.length + A.length + G.length + B.length : Nat) : Int)]
def spStepDone (K : PySem.W.Frag) : Sp := fun vs H Q _ => ∃ (a : Addr) (ws X A B G Y : List W) (n : Nm), vs = [.ref a, .int (X.length : Nat)] ∧ TupF H a (ws.map wv) ∧ StepAt ws X A B G Y n ∧ ws.length ≤ 4000 ∧
  ∀ H' r q m, Same H H' → SqT K H' r [.ref q, .ref m] → TupF H' q ((X ++ A ++ G ++ B ++ Y).map wv) → H' m = some (.tup (markV X A B G n)) → Q (.ref r) H'
abbrev s_step_done : Stmt := (top 30)
theorem sc_step_done : FnScope ["words", "place", "middle", "end", "take", "stand", "ahead", "given", "after", "begin", "close", "mark"] ["words", "place"] (defScope s_step_done) := ⟨rfl, rfl, rfl, by decide +kernel, rfl, by decide +kernel, by decide +kernel⟩
theorem c_step_done (B : Bt mg) (D : DefAt K mg "step_done" s_step_done) (Cend_from : Cal P w K mg base "end_from" 2 ["words", "place"] (spEndFrom K)) : Cal P w K mg base "step_done" 3 ["words", "place"] (spStepDone K) := by
  refine cal_of D sc_step_done (fun _ _ _ _ _ _ us hl => match us, hl with | [_, _], _ => rfl) (fun vs H Q E h => ?_) (fun fa cdv A outer st0 H vs Q E hr h => ?_)
  · obtain ⟨a, ws, X, A, B, G, Y, n, rfl, _⟩ := h
    rfl
  · obtain ⟨a, ws, X, A1, B1, G, Y, n, rfl, ht, st, hl, k⟩ := h
    obtain ⟨ew, ⟨b, eb⟩, ⟨g, eg⟩, no, ok⟩ := st
    refine ⟨_, (pss_cons (ps_set (i := 2) sc_step_done.nd rfl (by first | exact Or.inl rfl | exact Or.inr rfl) (pe_c Cend_from (hr.mono (by decide)) (pa_cons (pv 0) (pa_cons (pe_op op_add (pv 1) pe_int) pa_nil))))
      (pss_cons (ps_set (i := 3) sc_step_done.nd rfl (by first | exact Or.inl rfl | exact Or.inr rfl) (pe_c Cend_from (hr.mono (by decide)) (pa_cons (pv 0) (pa_cons (pv 2) pa_nil))))
      (pss_cons (ps_set (i := 4) sc_step_done.nd rfl (by first | exact Or.inl rfl | exact Or.inr rfl) (pe_ix ix_tup (pv 0) (pe_op op_add (pv 1) pe_int) (fun _ _ => rfl)))
      (pss_cons (ps_set (i := 5) sc_step_done.nd rfl (by first | exact Or.inl rfl | exact Or.inr rfl) (pe_tm PySem.F.slot_tuple_index PySem.F.type_tuple_index mt_tup_index3 (pv 0) (pa_cons (pe_slice sl_str (pv 4) (po_some pe_int) po_none) (pa_cons (pe_op op_add (pv 1) pe_int) pa_nil))))
      (pss_cons (ps_set (i := 6) sc_step_done.nd rfl (by first | exact Or.inl rfl | exact Or.inr rfl) (pe_slice sl_tupG (pv 0) (po_some (pe_op op_add (pv 1) pe_int)) (po_some (pv 5))))
      (pss_cons (ps_set (i := 7) sc_step_done.nd rfl (by first | exact Or.inl rfl | exact Or.inr rfl) (pe_slice sl_tupG (pv 0) (po_some (pv 2)) (po_some (pv 3))))
      (pss_cons (ps_set (i := 8) sc_step_done.nd rfl (by first | exact Or.inl rfl | exact Or.inr rfl) (pe_slice sl_tupG (pv 0) (po_some (pe_op op_add (pv 5) pe_int)) (po_some (pv 2))))
      (pss_cons (ps_set (i := 9) sc_step_done.nd rfl (by first | exact Or.inl rfl | exact Or.inr rfl) (pe_op op_add (pv 1) (pe_callB call_len_seq (by rfl) B.b_len (by decide +kernel) (pa_cons (pv 6) pa_nil))))
      (pss_cons (ps_set (i := 10) sc_step_done.nd rfl (by first | exact Or.inl rfl | exact Or.inr rfl) (pe_op op_add (pv 9) (pe_callB call_len_seq (by rfl) B.b_len (by decide +kernel) (pa_cons (pv 7) pa_nil))))
      (pss_cons (ps_set (i := 11) sc_step_done.nd rfl (by first | exact Or.inl rfl | exact Or.inr rfl) (pe_tup (pa_cons (pv 1) (pa_cons (pv 4) (pa_cons (pv 9) (pa_cons (pv 10) (pa_cons (pe_op op_add (pv 10) (pe_callB call_len_seq (by rfl) B.b_len (by decide +kernel) (pa_cons (pv 8) pa_nil))) pa_nil)))))))
      (pss_one (ps_ret (pe_tup (pa_cons (pe_op op_catF (pe_op op_catF (pe_op op_catF (pe_op op_catF (pe_slice sl_tupG (pv 0) po_none (po_some (pv 1))) (pv 6)) (pv 7)) (pv 8)) (pe_slice sl_tupG (pv 0) (po_some (pv 3)) po_none)) (pa_cons (pv 11) pa_nil))))))))))))))), ?_⟩
    have lX : ws.length = X.length + (2 + (A1.length + 1 + B1.length) + G.length + Y.length) := by rw [ew]; simp; omega
    have lb : (T.tk n b).ws.length = 2 + A1.length + B1.length := by show (W.tk n :: b.ws).length = _; rw [eb]; simp; omega
    have d1 : ws.drop (X.length + 1) = (T.tk n b).ws ++ (G ++ Y) := by
      rw [ew]
      show _ = W.tk n :: b.ws ++ (G ++ Y)
      rw [eb]
      simp
    have d2 : ws.drop (X.length + 1 + (T.tk n b).ws.length) = g.ws ++ Y := by
      rw [← List.drop_drop, d1, List.drop_left, eg]
    have t1 := d1
    -- middle
    refine ⟨_, rfl, _, rfl, _, _, rfl, rfl, a, ws, X.length + 1, T.tk n b, G ++ Y, rfl, ht.sq, ok, d1, fun H1 S1 => ?_⟩
    -- end
    refine ⟨_, rfl, _, rfl, a, ws, _, g, Y, rfl, (ht.same S1).sq, ok, d2, fun H2 S2 => ?_⟩
    have S02 := S1.trans S2
    have h2 := ht.same S02
    rw [lb, eg]
    have gt : ws[X.length + 1]? = some (.tk n) := by
      have := drop_cons (r := b.ws ++ (G ++ Y)) (w := W.tk n) (ws := ws) (j := X.length + 1) (by rw [d1]; rfl)
      exact this.1
    have gtv : (ws.map wv)[X.length + 1]? = some (wv (.tk n)) := by rw [List.getElem?_map, gt]; rfl
    have okt := ok _ (List.mem_of_getElem? gt)
    -- take
    refine ⟨_, rfl, _, rfl, _, _, rfl, rfl, a, _, _, _, rfl, rfl, h2.sq, atI_nat gtv, ?_⟩
    -- stand
    have gn : ws[X.length + 2 + A1.length]? = some (.nm n) := by
      rw [ew]
      have : X ++ (W.ap :: W.tk n :: (A1 ++ W.nm n :: B1 ++ (G ++ Y))) = (X ++ [W.ap, W.tk n] ++ A1) ++ (W.nm n :: (B1 ++ (G ++ Y))) := by simp
      rw [this, List.getElem?_append_right (by simp; omega)]
      simp
      have e : X.length + 2 + A1.length - (X.length + (A1.length + 1 + 1)) = 0 := by omega
      rw [e]
      rfl
    have okn := ok _ (List.mem_of_getElem? gn)
    refine ⟨_, rfl, ⟨a, _, rfl, h2⟩, _, rfl, _, rfl, _, rfl, Nat.le_of_lt (small_lt (m := 9) (len_enc okt) (by decide)), ?_⟩
    rw [cut1]
    refine ⟨_, rfl, _, _, rfl, rfl, a, ws.map enc, enc (.nm n), X.length + 2, X.length + 2 + A1.length, rfl, rfl, by rw [enc_map]; exact h2.sq, by omega, by rw [List.getElem?_map, gn]; rfl, fun m hm1 hm2 hc => ?_, ?_⟩
    · rw [List.getElem?_map] at hc
      cases hw : ws[m]? with
      | none => rw [hw] at hc; cases hc
      | some u =>
        rw [hw] at hc
        have := enc_inj (ok u (List.mem_of_getElem? hw)) okn (Option.some.inj hc)
        subst this
        rw [ew] at hw
        have e1 : X ++ (W.ap :: W.tk n :: (A1 ++ W.nm n :: B1 ++ (G ++ Y))) = (X ++ [W.ap, W.tk n]) ++ (A1 ++ (W.nm n :: (B1 ++ (G ++ Y)))) := by simp
        rw [e1, List.getElem?_append_right (by simp; omega), List.getElem?_append_left (by simp; omega)] at hw
        exact no (List.mem_of_getElem? hw)
    have c1 : cutV (ws.map wv) (some ((X.length : Int) + 2)) (some ((X.length + 2 + A1.length : Nat) : Int)) = A1.map wv := by
      rw [show (X.length : Int) + 2 = ((X.length + 2 : Nat) : Int) by omega, cut_wv (by omega) (by omega), ew]
      congr 1
      have e1 : X ++ (W.ap :: W.tk n :: (A1 ++ W.nm n :: B1 ++ (G ++ Y))) = (X ++ [W.ap, W.tk n]) ++ (A1 ++ (W.nm n :: (B1 ++ (G ++ Y)))) := by simp
      rw [e1, List.drop_append_of_le_length (by simp), List.drop_of_length_le (by simp), List.nil_append]
      rw [show X.length + 2 + A1.length - (X.length + 2) = A1.length by omega, List.take_left]
    have c2 : cutV (ws.map wv) (some ((X.length + 1 + (2 + A1.length + B1.length) : Nat) : Int)) (some ((X.length + 1 + (2 + A1.length + B1.length) + G.length : Nat) : Int)) = G.map wv := by
      rw [cut_wv (by omega) (by omega)]
      rw [lb, eg] at d2
      rw [d2, Nat.add_sub_cancel_left, List.take_left]
    have c3 : cutV (ws.map wv) (some (((X.length + 2 + A1.length : Nat) : Int) + 1)) (some ((X.length + 1 + (2 + A1.length + B1.length) : Nat) : Int)) = B1.map wv := by
      rw [show ((X.length + 2 + A1.length : Nat) : Int) + 1 = ((X.length + 2 + A1.length + 1 : Nat) : Int) by omega, cut_wv (by omega) (by omega), ew]
      congr 1
      have e1 : X ++ (W.ap :: W.tk n :: (A1 ++ W.nm n :: B1 ++ (G ++ Y))) = (X ++ [W.ap, W.tk n] ++ A1 ++ [W.nm n]) ++ (B1 ++ (G ++ Y)) := by simp
      rw [e1, List.drop_append_of_le_length (by simp; omega), List.drop_of_length_le (by simp; omega), List.nil_append]
      rw [show X.length + 1 + (2 + A1.length + B1.length) - (X.length + 2 + A1.length + 1) = B1.length by omega, List.take_left]
    have c4 : cutV (ws.map wv) none (some (X.length : Int)) = X.map wv := by
      rw [cut_hi (by omega), ew, List.take_left]
    have c5 : cutV (ws.map wv) (some ((X.length + 1 + (2 + A1.length + B1.length) + G.length : Nat) : Int)) none = Y.map wv := by
      rw [cut_lo (by omega)]
      rw [lb, eg] at d2
      rw [← List.drop_drop, d2, List.drop_left]
    -- ahead, given, after
    refine ⟨_, rfl, _, rfl, _, _, rfl, rfl, _, rfl, _, rfl, _, rfl, cutF_of h2 fun H3 q1 S3 T3 => ?_⟩
    rw [c1] at T3
    have h3 := h2.same S3
    refine ⟨_, rfl, _, rfl, _, rfl, _, rfl, _, rfl, cutF_of h3 fun H4 q2 S4 T4 => ?_⟩
    rw [c2] at T4
    have h4 := h3.same S4
    refine ⟨_, rfl, _, rfl, _, _, rfl, rfl, _, rfl, _, rfl, _, rfl, cutF_of h4 fun H5 q3 S5 T5 => ?_⟩
    rw [c3] at T5
    have h5 := h4.same S5
    have T45 := T4.same S5
    have T35 := T3.same (S4.trans S5)
    have S05 := S02.trans (S3.trans (S4.trans S5))
    -- the mark
    refine ⟨_, rfl, _, rfl, _, _, rfl, .inr T35.sq, _, _, rfl, rfl, ?_⟩
    refine ⟨_, rfl, _, rfl, _, _, rfl, .inr T45.sq, _, _, rfl, rfl, ?_⟩
    refine ⟨_, rfl, _, rfl, _, rfl, _, rfl, _, rfl, _, rfl, _, _, rfl, .inr T5.sq, _, _, rfl, rfl, (by show 5 ≤ sizeLine; decide), fun mk nmk => ?_⟩
    have S6 : ∀ o, Same H5 (upd H5 mk o) := fun o => same_upd nmk
    -- the words
    have ll : ∀ vs : List W, (vs.map wv).length = vs.length := fun vs => List.length_map ..
    refine ⟨_, rfl, _, rfl, _, rfl, cutF_of (h5.same (S6 _)) fun H7 r1 S7 U1 => ?_⟩
    rw [c4] at U1
    have S57 := (S6 _).trans S7
    refine ⟨_, rfl, catF_of U1 (T35.same S57) (by rw [ll, ll]; omega) fun H8 r2 S8 U2 => ?_⟩
    have S58 := S57.trans S8
    refine ⟨_, rfl, catF_of U2 (T45.same S58) (by rw [List.length_append, ll, ll, ll]; omega) fun H9 r3 S9 U3 => ?_⟩
    have S59 := S58.trans S9
    refine ⟨_, rfl, catF_of U3 (T5.same S59) (by rw [List.length_append, List.length_append, ll, ll, ll, ll]; omega) fun H10 r4 S10 U4 => ?_⟩
    have S510 := S59.trans S10
    refine ⟨_, rfl, _, rfl, _, rfl, ?_⟩
    dsimp only [tNoPart]
    refine cutF_of (h5.same S510) fun H11 r5 S11 U5 => ?_
    rw [c5] at U5
    refine catF_of (U4.same S11) U5 (by rw [List.length_append, List.length_append, List.length_append, ll, ll, ll, ll, ll]; omega) fun H12 r6 S12 U6 => ?_
    refine ⟨_, rfl, (by show 2 ≤ sizeLine; decide), fun rr nrr => ?_⟩
    have S13 := same_upd (o := HO.tup [V.ref r6, V.ref mk]) nrr
    have S512 := S510.trans (S11.trans S12)
    refine k _ rr r6 mk (S05.trans (S512.trans S13)) (SqT.of upd_same) ?_ (((S7.trans (S8.trans (S9.trans (S10.trans (S11.trans (S12.trans S13)))))) _ _ upd_same).trans (congrArg (fun z => some (HO.tup z)) (by simp only [ll]; rfl)))
    have U7 := U6.same S13
    rw [← List.map_append, ← List.map_append, ← List.map_append, ← List.map_append] at U7
    exact U7
end
end Kk

set_option maxHeartbeats 2000000
/-! what a number is, of any thing -/
namespace Kk
open PySem PySem.Spec PyProof.Rows L2
def isNumV : V → Bool
  | .int i => decide (0 ≤ i)
  | _ => false
def isIntV : V → Bool
  | .int _ => true
  | _ => false
theorem num_of_int {x : V} (h : isIntV x = false) : isNumV x = false := by
  cases x <;> first | rfl | exact absurd h (by simp [isIntV])
theorem isNum_int {i : Int} (h : 0 ≤ i) : isNumV (.int i) = true := by
  show decide (0 ≤ i) = true
  exact decide_eq_true h
/-- what isinstance tells of a thing: whether it is an int, a bool -/
structure NumT (K : PySem.W.Frag) (H : Hp) (x : V) : Prop where
  ex : ∃ (t : Value) (bi bb : Bool), TyX K H x t ∧ PySem.W.kitOne K t (.type "int") = some bi ∧ PySem.W.kitOne K t (.type "bool") = some bb ∧ ((bi = true ∧ bb = false ∧ ∃ i, x = .int i) ∨ ((bi = false ∨ bb = true) ∧ isIntV x = false))
section
variable {K : PySem.W.Frag} {H : Hp}
theorem kitII : kitB "int" "int" = some true := by decide +kernel
theorem kitIB : kitB "int" "bool" = some false := by decide +kernel
theorem NumT.int (i : Int) : NumT K H (.int i) := ⟨_, true, false, .base (.int i), kit_ty kitII, kit_ty kitIB, .inl ⟨rfl, rfl, i, rfl⟩⟩
theorem NumT.bl (b : Bool) : NumT K H (.bl b) := ⟨_, true, true, .base (.bl b), kit_ty (by decide +kernel), kit_ty (by decide +kernel), .inr ⟨.inr rfl, rfl⟩⟩
theorem NumT.non : NumT K H .non := ⟨_, false, false, .base .non, kit_ty (by decide +kernel), kit_ty (by decide +kernel), .inr ⟨.inl rfl, rfl⟩⟩
theorem NumT.str (z : Str) : NumT K H (.str z) := ⟨_, false, false, .base (.str z), kit_ty (by decide +kernel), kit_ty (by decide +kernel), .inr ⟨.inl rfl, rfl⟩⟩
theorem NumT.lst {a : Addr} {xs : List V} (h : H a = some (.lst xs)) : NumT K H (.ref a) := ⟨_, false, false, .base (.lst h), kit_ty (by decide +kernel), kit_ty (by decide +kernel), .inr ⟨.inl rfl, rfl⟩⟩
theorem NumT.tup {a : Addr} {xs : List V} (h : H a = some (.tup xs)) : NumT K H (.ref a) := ⟨_, false, false, .base (.tup h), kit_ty (by decide +kernel), kit_ty (by decide +kernel), .inr ⟨.inl rfl, rfl⟩⟩
theorem NumT.tupF {a : Addr} {o : Obj} {xs : List V} (h : H a = some (.frz o (.tup xs))) : NumT K H (.ref a) := ⟨_, false, false, .fTuple h, kit_ty (by decide +kernel), kit_ty (by decide +kernel), .inr ⟨.inl rfl, rfl⟩⟩
theorem NumT.dK {a : Addr} {kvs : List (Key × V)} (h : H a = some (.dK kvs)) : NumT K H (.ref a) := ⟨_, false, false, .base (.dK h), kit_ty (by decide +kernel), kit_ty (by decide +kernel), .inr ⟨.inl rfl, rfl⟩⟩
end
/-- of any thing -/
def spNumG (K : PySem.W.Frag) : Sp := fun vs H Q _ => ∃ x : V, vs = [x] ∧ NumT K H x ∧ Q (.bl (isNumV x)) H
abbrev s_is_number : Stmt := (top 3)
theorem sc_is_number : FnScope ["thing"] ["thing"] (defScope s_is_number) := ⟨rfl, rfl, rfl, by decide +kernel, rfl, by decide +kernel, by decide +kernel⟩
theorem c_is_number {P w K mg base} (B : Bt mg) (D : DefAt K mg "is_number" s_is_number) : Cal P w K mg base "is_number" 1 ["thing"] (spNumG K) := by
  refine cal_of D sc_is_number (fun _ _ _ _ _ _ us hl => match us, hl with | [_], _ => rfl) (fun vs H Q E h => ?_) (fun fa cdv A outer st0 H vs Q E hr h => ?_)
  · obtain ⟨i, rfl, _⟩ := h
    rfl
  · obtain ⟨x, rfl, ⟨t, bi, bb, ty, h1, h2, h3⟩, k⟩ := h
    refine ⟨_, (pss_one (ps_ret (pe_and (pe_callB call_isi (by rfl) B.b_isinstance (by decide +kernel) (pa_cons (pv 0) (pa_cons (pe_ty (n := "int") B.b_int (by decide +kernel)) pa_nil))) (pe_and (pe_not (pe_callB call_isi (by rfl) B.b_isinstance (by decide +kernel) (pa_cons (pv 0) (pa_cons (pe_ty (n := "bool") B.b_bool (by decide +kernel)) pa_nil)))) (pe_one (pe_cmpR op_ge (pv 0) pe_int (nomark _))))))), ?_⟩
    refine ⟨_, rfl, _, _, _, _, bi, rfl, .ty _, ty, h1, _, rfl, ?_⟩
    rcases h3 with ⟨rfl, rfl, i, rfl⟩ | ⟨h3, h4⟩
    · refine iteT ⟨_, rfl, _, _, _, _, false, rfl, .ty _, ty, h2, _, rfl, _, rfl, iteT ?_⟩
      exact ⟨_, rfl, _, _, rfl, rfl, k⟩
    · rw [num_of_int h4] at k
      cases bi with
      | false => exact iteF k
      | true =>
        have : bb = true := h3.resolve_left (by simp)
        subst this
        exact iteT ⟨_, rfl, _, _, _, _, true, rfl, .ty _, ty, h2, _, rfl, _, rfl, iteF k⟩
/-- of any thing: whether it is an integer -/
def spIntG (K : PySem.W.Frag) : Sp := fun vs H Q _ => ∃ x : V, vs = [x] ∧ NumT K H x ∧ Q (.bl (isIntV x)) H
abbrev s_lnumber : Stmt := (top 40)
theorem sc_lnumber : FnScope ["_law_thing"] ["_law_thing"] (defScope s_lnumber) := ⟨rfl, rfl, rfl, by decide +kernel, rfl, by decide +kernel, by decide +kernel⟩
theorem c_lnumber {P w K mg base} (B : Bt mg) (D : DefAt K mg "_law_is_number" s_lnumber) : Cal P w K mg base "_law_is_number" 1 ["_law_thing"] (spIntG K) := by
  refine cal_of D sc_lnumber (fun _ _ _ _ _ _ us hl => match us, hl with | [_], _ => rfl) (fun vs H Q E h => ?_) (fun fa cdv A outer st0 H vs Q E hr h => ?_)
  · obtain ⟨i, rfl, _⟩ := h
    rfl
  · obtain ⟨x, rfl, ⟨t, bi, bb, ty, h1, h2, h3⟩, k⟩ := h
    refine ⟨_, (pss_one (ps_ret (pe_and (pe_callB call_isi (by rfl) B.b_isinstance (by decide +kernel) (pa_cons (pv 0) (pa_cons (pe_ty (n := "int") B.b_int (by decide +kernel)) pa_nil))) (pe_one (pe_not (pe_callB call_isi (by rfl) B.b_isinstance (by decide +kernel) (pa_cons (pv 0) (pa_cons (pe_ty (n := "bool") B.b_bool (by decide +kernel)) pa_nil)))))))), ?_⟩
    refine ⟨_, rfl, _, _, _, _, bi, rfl, .ty _, ty, h1, _, rfl, ?_⟩
    rcases h3 with ⟨rfl, rfl, i, rfl⟩ | ⟨h3, h4⟩
    · exact iteT ⟨_, rfl, _, _, _, _, false, rfl, .ty _, ty, h2, _, rfl, k⟩
    · rw [h4] at k
      cases bi with
      | false => exact iteF k
      | true =>
        have : bb = true := h3.resolve_left (by simp)
        subst this
        exact iteT ⟨_, rfl, _, _, _, _, true, rfl, .ty _, ty, h2, _, rfl, k⟩
end Kk

set_option maxHeartbeats 4000000
namespace Kk
open PySem PySem.Spec PyProof.Rows L2 Wd
section
variable {P : Program} {w : World} {K : PySem.W.Frag} {mg : Str → Option Value} {base : Heap}
def spIsStep (K : PySem.W.Frag) : Sp := fun vs H Q _ => ∃ (a : Addr) (ws : List W) (j : Nat), vs = [.ref a, .int (j : Nat)] ∧ SqT K H a (ws.map wv) ∧ (∀ w ∈ ws, wOk w) ∧ j < ws.length ∧ (ws[j]? = some .ap → j + 1 < ws.length) ∧ ∀ H', Same H H' → Q (.bl (isStp ws j)) H'
abbrev s_is_step : Stmt := (top 28)
theorem sc_is_step : FnScope ["words", "thing"] ["words", "thing"] (defScope s_is_step) := ⟨rfl, rfl, rfl, by decide +kernel, rfl, by decide +kernel, by decide +kernel⟩
/-- of any thing -/
def stepV (ws : List W) : V → Bool
  | .int i => decide (0 ≤ i) && isStp ws i.toNat
  | _ => false
theorem stepV_no {ws : List W} {x : V} (h : isNumV x = false) : stepV ws x = false := by
  cases x with
  | int i =>
    have : decide (0 ≤ i) = false := h
    show (decide (0 ≤ i) && _) = false
    rw [this]; rfl
  | _ => rfl
theorem isStp_out {ws : List W} {j : Nat} (h : ws.length ≤ j) : isStp ws j = false := by
  unfold isStp
  rw [List.getElem?_eq_none h]
def spIsStepG (K : PySem.W.Frag) : Sp := fun vs H Q _ => ∃ (a : Addr) (ws : List W) (x : V), vs = [.ref a, x] ∧ SqT K H a (ws.map wv) ∧ (∀ w ∈ ws, wOk w) ∧ (∀ j : Nat, x = .int (j : Nat) → ws[j]? = some .ap → j + 1 < ws.length) ∧ NumT K H x ∧ ∀ H', Same H H' → Q (.bl (stepV ws x)) H'
theorem c_is_step (B : Bt mg) (D : DefAt K mg "is_step" s_is_step) (Cis_number : Cal P w K mg base "is_number" 1 ["thing"] (spNumG K)) : Cal P w K mg base "is_step" 2 ["words", "thing"] (spIsStepG K) := by
  refine cal_of D sc_is_step (fun _ _ _ _ _ _ us hl => match us, hl with | [_, _], _ => rfl) (fun vs H Q E h => ?_) (fun fa cdv A outer st0 H vs Q E hr h => ?_)
  · obtain ⟨a, ws, x, rfl, _⟩ := h
    rfl
  · obtain ⟨a, ws, x, rfl, hq, ok, hap, hn, k⟩ := h
    refine ⟨_, (pss_cons (ps_if (PW.pt (pw_or (pt_not (pt_val (pe_c Cis_number (hr.mono (by decide)) (pa_cons (pv 1) pa_nil)))) (pw_or1 (pt_cmpR op_ge (pv 1) (pe_callB call_len_seq (by rfl) B.b_len (by decide +kernel) (pa_cons (pv 0) pa_nil)) (nomark _))))) (pss_one (ps_ret pe_bl)) pss_nil)
      (pss_one (ps_ret (pe_and (pe_cmpR op_eq (pe_ix ix_tup (pv 0) (pv 1) (fun _ _ => rfl)) (pe_gs B.m_GIVEN) (nomark _)) (pe_one (pe_bm PySem.F.plainAttrs_str PySem.F.slot_str_startswith PySem.F.type_str_startswith mt_startswith (pe_ix ix_tup (pv 0) (pe_op op_add (pv 1) pe_int) (fun _ _ => rfl)) (pa_cons (pe_gs B.m_TAKE) pa_nil))))))), ?_⟩
    refine ⟨_, rfl, x, rfl, hn, isNumV x, rfl, ?_⟩
    have k1 := k H (Same.refl H)
    cases hx : isNumV x with
    | false =>
      rw [stepV_no hx] at k1
      exact iteT (iteT k1)
    | true =>
      obtain ⟨i, rfl⟩ : ∃ i, x = .int i := by
        cases x with
        | int i => exact ⟨i, rfl⟩
        | _ => exact absurd hx (by simp [isNumV])
      have hi0 : 0 ≤ i := of_decide_eq_true hx
      obtain ⟨j, rfl⟩ : ∃ j : Nat, i = (j : Int) := ⟨i.toNat, by omega⟩
      have ev : stepV ws (.int (j : Nat)) = isStp ws j := by
        show (decide ((0 : Int) ≤ (j : Nat)) && isStp ws ((j : Nat) : Int).toNat) = _
        rw [decide_eq_true (by omega)]; rfl
      rw [ev] at k1
      refine iteF ⟨_, rfl, _, rfl, _, _, rfl, .inr hq, _, _, rfl, rfl, ?_⟩
      rw [List.length_map]
      by_cases hj : ws.length ≤ j
      · rw [isStp_out hj] at k1
        refine ⟨true, congrArg V.bl (decide_eq_true (show ((ws.length : Nat) : Int) ≤ (j : Int) by omega)), iteT k1⟩
      · refine ⟨false, congrArg V.bl (decide_eq_false (show ¬ ((ws.length : Nat) : Int) ≤ (j : Int) by omega)), ?_⟩
        obtain ⟨v, hv⟩ : ∃ v, ws[j]? = some v := ⟨ws[j], List.getElem?_eq_getElem (by omega)⟩
        have hvv : (ws.map wv)[j]? = some (wv v) := by rw [List.getElem?_map, hv]; rfl
        have okv := ok v (List.mem_of_getElem? hv)
        refine iteF ⟨_, rfl, _, rfl, a, _, _, _, rfl, rfl, hq, atI_nat hvv, ?_⟩
        refine ⟨rfl, _, rfl, ?_⟩
        rw [is_ap okv]
        unfold isStp at k1
        rw [hv] at k1
        cases v with
        | ap =>
          have h1 := hap j rfl hv
          obtain ⟨u, hu⟩ : ∃ u, ws[j + 1]? = some u := ⟨ws[j + 1], List.getElem?_eq_getElem h1⟩
          have huu : (ws.map wv)[j + 1]? = some (wv u) := by rw [List.getElem?_map, hu]; rfl
          have oku := ok u (List.mem_of_getElem? hu)
          rw [hu] at k1
          refine iteT ⟨_, rfl, _, rfl, _, _, rfl, rfl, a, _, _, _, rfl, rfl, hq, atI_nat huu, rfl, _, _, rfl, rfl, ?_⟩
          rw [starts_tk oku]
          cases u with
          | ap => exact k1
          | tk n => exact k1
          | nm n => exact k1
        | tk n => exact iteF k1
        | nm n => exact iteF k1
theorem c_is_step__V (Cis_step : Cal P w K mg base "is_step" 2 ["words", "thing"] (spIsStepG K)) : Cal P w K mg base "is_step" 2 ["words", "thing"] (spIsStep K) := by
  refine Cis_step.imp fun vs H Q E h => ?_
  obtain ⟨a, ws, j, rfl, hq, ok, hj, hap, k⟩ := h
  refine ⟨a, ws, _, rfl, hq, ok, fun i e hi => ?_, NumT.int _, fun H' S => ?_⟩
  · have : i = j := by have := V.int.inj e; omega
    subst this
    exact hap hi
  · show Q (.bl (decide ((0 : Int) ≤ (j : Nat)) && isStp ws ((j : Nat) : Int).toNat)) H'
    rw [decide_eq_true (by omega)]
    exact k H' S
def rSteps : List W → Hp → Hp → V → Prop := fun ws H H' v => ∃ q, v = .ref q ∧ H q = none ∧ TupF H' q ((stepsW ws).map nv)
abbrev s_steps : Stmt := (top 27)
theorem sc_steps : FnScope ["program", "words", "place"] ["program"] (defScope s_steps) := ⟨rfl, rfl, rfl, by decide +kernel, rfl, by decide +kernel, by decide +kernel⟩
theorem c_steps {C : Addr} (B : Bt mg) (pc : PC K mg C) (D : DefAt K mg "steps" s_steps) (Cis_step : Cal P w K mg base "is_step" 2 ["words", "thing"] (spIsStep K)) : Cal P w K mg base "steps" 3 ["program"] (spOfP K C rSteps) := by
  refine cal_of D sc_steps (fun _ _ _ _ _ _ us hl => match us, hl with | [_], _ => rfl) (fun vs H Q E h => ?_) (fun fa cdv A outer st0 H vs Q E hr h => ?_)
  · obtain ⟨x, a, ws, rfl, _⟩ := h
    rfl
  · obtain ⟨x, a, ws, rfl, ⟨dx, hx⟩, ht, vd, hl, k⟩ := h
    refine ⟨_, (pss_cons (ps_set (i := 1) sc_steps.nd rfl (by first | exact Or.inl rfl | exact Or.inr rfl) (pe_fld (pv 0) rfl))
      (pss_one (ps_ret (pe_callTy call_tupleF (by rfl) B.b_tuple (by decide +kernel) (pa_cons (pe_lc (own := [("place", 2)]) (g := (gName 2)) rfl sc_steps.nd (pi_range1 (by rfl) B.b_range (pa_cons (pe_callB call_len_seq (by rfl) B.b_len (by decide +kernel) (pa_cons (pv 1) pa_nil)) pa_nil)) (blkOk_by (own := [("place", 2)]) (N := ["program", "words", "place"]) (sc := defScope s_steps) (by decide +kernel)) (fun _ _ _ _ _ => (pg_name (i := 2) sc_steps.nd rfl (by first | exact Or.inl rfl | exact Or.inr rfl))) (fun _ _ _ _ _ => (pts_one (pt_val (pe_c Cis_step (hr.mono (by decide)) (pa_cons (pv 1) (pa_cons (pv 2) pa_nil)))))) (fun _ _ _ _ _ => (pv 2))) pa_nil))))), ?_⟩
    refine ⟨_, rfl, x, C, dx, _, _, rfl, hx, pc.cl, pc.nw, pfs_get a, ?_⟩
    refine ⟨_, rfl, _, _, rfl, .inr ht.sq, _, rfl, by omega, by rw [List.length_map]; omega, fun D nD => ?_⟩
    have en : (((ws.map wv).length : Nat) : Int).toNat = ws.length := by rw [List.length_map]; omega
    have offD : ∀ b o, H b = some o → b ≠ D := fun b o hb => ne_of_none hb nD
    refine lc_range (lo := 0) (n := (((ws.map wv).length : Nat) : Int).toNat) (fun i H' => Same H H' ∧ H' D = some (.lst (((List.range i).filter (isStp ws)).map nv))) ⟨same_upd nD, upd_same⟩ ?_ ?_
    · rintro i H' hi ⟨S2, L2⟩
      rw [en] at hi
      refine ⟨rfl, _, rfl, _, rfl, a, ws, i, ?_, SqT.same ht.sq S2, vd.ok, hi, fun h => Vd.apIn vd h, fun H3 S3 => ⟨_, rfl, ?_⟩⟩
      · show [V.ref a, V.int ((0 : Int) + (i : Int))] = _
        rw [Int.zero_add]
      have L3 := S3 _ _ L2
      have S13 := S2.trans S3
      cases hs : isStp ws i with
      | true =>
        refine iteT ⟨_, rfl, _, L3, ?_, fun b o hb => ?_, ?_⟩
        · have : ((List.range i).filter (isStp ws)).length ≤ i := by have := List.length_filter_le (isStp ws) (List.range i); rwa [List.length_range] at this
          rw [List.length_map]
          exact small_lt (m := 10000) (by omega) (by decide)
        · rw [upd_ne (offD b o hb)]
          exact S13 _ _ hb
        · rw [upd_same, List.range_succ, List.filter_append, List.filter_cons_of_pos hs, List.filter_nil, List.map_append]
          show some (HO.lst (_ ++ [V.int ((0 : Int) + (i : Int))])) = _
          rw [Int.zero_add]
          rfl
      | false =>
        refine iteF ⟨S13, ?_⟩
        rw [L3, List.range_succ, List.filter_append, List.filter_cons_of_neg (by rw [hs]; decide), List.filter_nil, List.append_nil]
    · rintro H2 ⟨S2, L2⟩
      rw [en] at L2
      refine ⟨D, _, rfl, SqL.of L2, fun q o nq ho => ?_⟩
      exact k _ _ (S2.trans (same_upd nq)) ⟨q, rfl, S2.free nq, TupF.new ho⟩
def spStepped (K : PySem.W.Frag) (C : Addr) : Sp := fun vs H Q _ => ∃ (x a : Addr) (ws X A B G Y : List W) (n : Nm), vs = [.ref x, .int (X.length : Nat)] ∧ Pg C H x a ∧ TupF H a (ws.map wv) ∧ Vd ws ∧ StepAt ws X A B G Y n ∧ ws.length ≤ 4000 ∧
  ∀ H' z c, Same H H' → H z = none → Pg C H' z c → TupF H' c ((X ++ A ++ G ++ B ++ Y).map wv) → Q (.ref z) H'
theorem StepAt.is {ws X A B G Y : List W} {n : Nm} (s : StepAt ws X A B G Y n) : X.length < ws.length ∧ isStp ws X.length = true := by
  have h1 : ws[X.length]? = some .ap := by rw [s.e, List.getElem?_append_right (Nat.le_refl _)]; simp
  have h2 : ws[X.length + 1]? = some (.tk n) := by rw [s.e, List.getElem?_append_right (by omega)]; simp
  refine ⟨(List.getElem?_eq_some_iff.mp h1).1, ?_⟩
  unfold isStp
  rw [h1, h2]
abbrev s_stepped : Stmt := (top 29)
theorem sc_stepped : FnScope ["program", "place", "words", "_"] ["program", "place"] (defScope s_stepped) := ⟨rfl, rfl, rfl, by decide +kernel, rfl, by decide +kernel, by decide +kernel⟩
theorem c_stepped {C : Addr} (B : Bt mg) (pc : PC K mg C) (D : DefAt K mg "stepped" s_stepped) (Cis_step : Cal P w K mg base "is_step" 2 ["words", "thing"] (spIsStep K)) (Cstep_done : Cal P w K mg base "step_done" 3 ["words", "place"] (spStepDone K))
    (Cbuilt : Cal P w K mg base "built" 7 ["words"] (spBuilt K C)) : Cal P w K mg base "stepped" 8 ["program", "place"] (spStepped K C) := by
  refine cal_of D sc_stepped (fun _ _ _ _ _ _ us hl => match us, hl with | [_, _], _ => rfl) (fun vs H Q E h => ?_) (fun fa cdv A outer st0 H vs Q E hr h => ?_)
  · obtain ⟨x, a, ws, X, A1, B1, G, Y, n, rfl, _⟩ := h
    rfl
  · obtain ⟨x, a, ws, X, A1, B1, G, Y, n, rfl, hx, ht, vd, st, hl, k⟩ := h
    refine ⟨_, (pss_cons (ps_if (pt_not (pt_val (pe_c Cis_step (hr.mono (by decide)) (pa_cons (pe_fld (pv 0) rfl) (pa_cons (pv 1) pa_nil))))) (pss_one ps_never) pss_nil)
      (pss_cons (ps_asg (pe_c Cstep_done (hr.mono (by decide)) (pa_cons (pe_fld (pv 0) rfl) (pa_cons (pv 1) pa_nil))) (pg_tup (by rfl) (pgs_cons (pg_name (i := 2) sc_stepped.nd rfl (by first | exact Or.inl rfl | exact Or.inr rfl)) (pgs_cons (pg_name (i := 3) sc_stepped.nd rfl (by first | exact Or.inl rfl | exact Or.inr rfl)) pgs_nil))))
      (pss_one (ps_ret (pe_c Cbuilt (hr.mono (by decide)) (pa_cons (pv 2) pa_nil)))))), ?_⟩
    obtain ⟨j1, j2⟩ := st.is
    obtain ⟨dx, hx0⟩ := id hx
    refine ⟨_, rfl, x, C, dx, _, _, rfl, hx0, pc.cl, pc.nw, pfs_get a, _, rfl, a, ws, X.length, rfl, ht.sq, vd.ok, j1, fun h => Vd.apIn vd h, fun H1 S1 => ⟨_, rfl, ?_⟩⟩
    rw [j2]
    refine iteF ?_
    obtain ⟨dx1, hx1⟩ := hx.same S1
    refine ⟨_, rfl, x, C, dx1, _, _, rfl, hx1, pc.cl, pc.nw, pfs_get a, _, rfl, a, ws, X, A1, B1, G, Y, n, rfl, ht.same S1, st, hl, fun H2 r q m S2 R2 T2 _ => ?_⟩
    refine ⟨r, _, rfl, R2, rfl, _, _, rfl, _, _, rfl, rfl, ?_⟩
    refine ⟨_, rfl, q, _, rfl, T2, fun H3 z S3 nz P3 => ?_⟩
    have S12 := S1.trans S2
    exact k H3 z q (S12.trans S3) (S12.free nz) P3 (T2.same S3)
end
end Kk

set_option maxHeartbeats 2000000
namespace Kk
open PySem PySem.Spec PyProof.Rows L2 Wd
/-! ### tuples of plain things compared -/
def Plain (x : V) : Prop := (∃ i, x = .int i) ∨ ∃ z : Str, x = .str z ∧ PyData.strOk z = true
def dV : V → PyData
  | .int i => .int i
  | .str z => .str z
  | _ => .none
theorem dp_all {K : PySem.W.Frag} {H : Hp} : ∀ {xs : List V}, (∀ x ∈ xs, Plain x) → DpAll K H xs (xs.map dV)
  | [], _ => .nil
  | x :: xs, h => by
    refine .cons ?_ (dp_all fun y hy => h y (List.mem_cons_of_mem _ hy))
    rcases h x (List.mem_cons_self ..) with ⟨i, rfl⟩ | ⟨z, rfl, _⟩
    · exact .int i
    · exact .str z
theorem can_all : ∀ {xs : List V}, (∀ x ∈ xs, Plain x) → PyData.canLayAll0 (xs.map dV) = true
  | [], _ => rfl
  | x :: xs, h => by
    have ih := can_all fun y hy => h y (List.mem_cons_of_mem x hy)
    rw [List.map_cons, PyData.canLayAll0, ih, Bool.and_true]
    rcases h x (List.mem_cons_self ..) with ⟨i, rfl⟩ | ⟨z, rfl, hz⟩
    · rfl
    · exact hz
theorem depth_all : ∀ {xs : List V}, (∀ x ∈ xs, Plain x) → PyData.depthAll (xs.map dV) = 0
  | [], _ => rfl
  | x :: xs, h => by
    have ih := depth_all fun y hy => h y (List.mem_cons_of_mem x hy)
    rw [List.map_cons, PyData.depthAll, ih]
    rcases h x (List.mem_cons_self ..) with ⟨i, rfl⟩ | ⟨z, rfl, hz⟩
    · rfl
    · rfl
theorem shaped_all {xs : List V} (h : ∀ x ∈ xs, Plain x) : SeqAt.shaped (.tuple (xs.map dV)) = true := by
  unfold SeqAt.shaped
  rw [PyData.canLay0, can_all h, PyData.depth, depth_all h]
  rfl
section
variable {K : PySem.W.Frag} {H : Hp} {p q : Addr} {xs : List V} {Q : VK}
theorem eqD_same (hp : SqT K H p xs) (hq : SqT K H q xs) (ok : ∀ x ∈ xs, Plain x) (k : Q (.bl true) H) : rEqD K (.ref p) (.ref q) H Q := by
  refine ⟨_, _, .tup hp (dp_all ok), .tup hq (dp_all ok), shaped_all ok, shaped_all ok, ?_⟩
  rw [SeqAt.eqv_refl _ (by rw [PyData.canLay0]; exact can_all ok)]
  exact k
theorem neD_same (hp : SqT K H p xs) (hq : SqT K H q xs) (ok : ∀ x ∈ xs, Plain x) (k : Q (.bl false) H) : rNeD K (.ref p) (.ref q) H Q := by
  refine ⟨_, _, .tup hp (dp_all ok), .tup hq (dp_all ok), shaped_all ok, shaped_all ok, ?_⟩
  rw [SeqAt.eqv_refl _ (by rw [PyData.canLay0]; exact can_all ok)]
  exact k
end
theorem ok_str {n : Nm} (h : nmOk n) : PyData.strOk (str n) = true := by
  unfold PyData.strOk
  show (n.toArray).all _ = true
  rw [List.all_toArray, List.all_eq_true]
  intro c hc
  have := h.2.2 c hc
  exact decide_eq_true (by omega)
theorem ok_enc {v : W} (h : wOk v) : PyData.strOk (enc v) = true := by
  cases v with
  | ap => decide +kernel
  | nm n => exact ok_str h
  | tk n =>
    unfold PyData.strOk
    show ((47 :: n).toArray).all _ = true
    rw [List.all_toArray, List.all_eq_true]
    intro c hc
    rcases List.mem_cons.mp hc with rfl | hc
    · decide
    · have := h.2.2 c hc
      exact decide_eq_true (by omega)
theorem plain_ws {ws : List W} (ok : ∀ v ∈ ws, wOk v) : ∀ x ∈ ws.map wv, Plain x := fun x hx => by
  obtain ⟨v, hv, rfl⟩ := List.mem_map.mp hx
  exact .inr ⟨_, rfl, ok_enc (ok v hv)⟩
end Kk

set_option maxHeartbeats 2000000
namespace Kk
open PySem PySem.Spec PyProof.Rows L2 Wd
/-! ### tuples of words compared -/
theorem beq_enc {a b : W} (ha : wOk a) (hb : wOk b) : (enc a == enc b) = decide (a = b) := by
  by_cases h : a = b
  · subst h; simp
  · rw [decide_eq_false h]
    exact beq_eq_false_iff_ne.mpr fun e => h (enc_inj ha hb e)
theorem eqv_words : ∀ {ws us : List W}, (∀ v ∈ ws, wOk v) → (∀ v ∈ us, wOk v) → PyData.eqvAll ((ws.map wv).map dV) ((us.map wv).map dV) = decide (ws = us)
  | [], [], _, _ => rfl
  | [], _ :: _, _, _ => rfl
  | _ :: _, [], _, _ => rfl
  | a :: ws, b :: us, h1, h2 => by
    have ih := eqv_words (ws := ws) (us := us) (fun v hv => h1 v (List.mem_cons_of_mem _ hv)) (fun v hv => h2 v (List.mem_cons_of_mem _ hv))
    show (PyData.eqv (.str (enc a)) (.str (enc b)) && PyData.eqvAll ((ws.map wv).map dV) ((us.map wv).map dV)) = _
    rw [ih]
    show ((enc a == enc b) && _) = _
    rw [beq_enc (h1 a (List.mem_cons_self ..)) (h2 b (List.mem_cons_self ..))]
    by_cases e : a = b
    · subst e
      by_cases e2 : ws = us
      · subst e2; simp
      · simp [e2]
    · simp [e]
theorem eqv_tups {ws us : List W} (h1 : ∀ v ∈ ws, wOk v) (h2 : ∀ v ∈ us, wOk v) : PyData.eqv (.tuple ((ws.map wv).map dV)) (.tuple ((us.map wv).map dV)) = decide (ws = us) := by
  show PyData.eqvAll _ _ = _
  exact eqv_words h1 h2
section
variable {K : PySem.W.Frag} {H : Hp} {p q : Addr} {ws us : List W} {Q : VK}
theorem eqD_ws (hp : SqT K H p (ws.map wv)) (hq : SqT K H q (us.map wv)) (h1 : ∀ v ∈ ws, wOk v) (h2 : ∀ v ∈ us, wOk v) (k : Q (.bl (decide (ws = us))) H) : rEqD K (.ref p) (.ref q) H Q := by
  refine ⟨_, _, .tup hp (dp_all (plain_ws h1)), .tup hq (dp_all (plain_ws h2)), shaped_all (plain_ws h1), shaped_all (plain_ws h2), ?_⟩
  rw [eqv_tups h1 h2]
  exact k
theorem neD_ws (hp : SqT K H p (ws.map wv)) (hq : SqT K H q (us.map wv)) (h1 : ∀ v ∈ ws, wOk v) (h2 : ∀ v ∈ us, wOk v) (k : Q (.bl (!decide (ws = us))) H) : rNeD K (.ref p) (.ref q) H Q := by
  refine ⟨_, _, .tup hp (dp_all (plain_ws h1)), .tup hq (dp_all (plain_ws h2)), shaped_all (plain_ws h1), shaped_all (plain_ws h2), ?_⟩
  rw [eqv_tups h1 h2]
  exact k
end
end Kk

/-! a part exchanged for another one; words that grow by a step -/
namespace Wd
open PySem
theorem T.plug : ∀ (t : T) (p : Nat), t.sc → p < t.ws.length → ∃ (u : T) (X Y : List W), t.ws = X ++ u.ws ++ Y ∧ X.length = p ∧ u.sc ∧
    ∀ s : T, s.sc → (∀ n ∈ takesOf X, n ∈ u.lv → n ∈ s.lv) → ∃ t' : T, t'.ws = X ++ s.ws ++ Y ∧ t'.sc := by
  intro t
  induction t with
  | nm n =>
    intro p s h
    simp [T.ws] at h
    subst h
    exact ⟨.nm n, [], [], by simp, rfl, s, fun z zs _ => ⟨z, by simp, zs⟩⟩
  | tk m b ih =>
    intro p s h
    by_cases hz : p = 0
    · subst hz
      exact ⟨.tk m b, [], [], by simp, rfl, s, fun z zs _ => ⟨z, by simp, zs⟩⟩
    · obtain ⟨q, rfl⟩ : ∃ q, p = q + 1 := ⟨p - 1, by omega⟩
      obtain ⟨u, X, Y, e1, e2, e4, e5⟩ := ih q s.2 (by simp [T.ws] at h; omega)
      refine ⟨u, .tk m :: X, Y, by show W.tk m :: b.ws = _; rw [e1]; simp, by simp [e2], e4, fun z zs fr => ?_⟩
      obtain ⟨t', f1, f2⟩ := e5 z zs (fun n hn => fr n (by show n ∈ m :: takesOf X; exact List.mem_cons_of_mem _ hn))
      refine ⟨.tk m t', by show W.tk m :: t'.ws = _; rw [f1]; rfl, ⟨?_, f2⟩⟩
      have hm : m ∈ b.lv := s.1
      rw [← nmsOf_tree, e1, nmsOf_app, nmsOf_app] at hm
      rw [← nmsOf_tree, f1, nmsOf_app, nmsOf_app]
      rcases List.mem_append.mp hm with hm | hm
      · rcases List.mem_append.mp hm with hm | hm
        · exact List.mem_append_left _ (List.mem_append_left _ hm)
        · rw [nmsOf_tree] at hm
          refine List.mem_append_left _ (List.mem_append_right _ ?_)
          rw [nmsOf_tree]
          exact fr m (by show m ∈ m :: takesOf X; exact List.mem_cons_self ..) hm
      · exact List.mem_append_right _ hm
  | ap f a ihf iha =>
    intro p s h
    by_cases hz : p = 0
    · subst hz
      exact ⟨.ap f a, [], [], by simp, rfl, s, fun z zs _ => ⟨z, by simp, zs⟩⟩
    · obtain ⟨q, rfl⟩ : ∃ q, p = q + 1 := ⟨p - 1, by omega⟩
      simp [T.ws] at h
      by_cases y : q < f.ws.length
      · obtain ⟨u, X, Y, e1, e2, e4, e5⟩ := ihf q s.1 y
        refine ⟨u, .ap :: X, Y ++ a.ws, by show W.ap :: (f.ws ++ a.ws) = _; rw [e1]; simp, by simp [e2], e4, fun z zs fr => ?_⟩
        obtain ⟨t', f1, f2⟩ := e5 z zs (fun n hn => fr n hn)
        exact ⟨.ap t' a, by show W.ap :: (t'.ws ++ a.ws) = _; rw [f1]; simp, ⟨f2, s.2⟩⟩
      · obtain ⟨u, X, Y, e1, e2, e4, e5⟩ := iha (q - f.ws.length) s.2 (by omega)
        refine ⟨u, .ap :: (f.ws ++ X), Y, by show W.ap :: (f.ws ++ a.ws) = _; rw [e1]; simp, by simp [e2]; omega, e4, fun z zs fr => ?_⟩
        obtain ⟨t', f1, f2⟩ := e5 z zs (fun n hn => fr n (by
          show n ∈ takesOf (f.ws ++ X)
          rw [takesOf_app]
          exact List.mem_append_right _ hn))
        exact ⟨.ap f t', by show W.ap :: (f.ws ++ t'.ws) = _; rw [f1]; simp, ⟨s.1, f2⟩⟩
/-- z is none of the names of ws -/
structure FreshZ (z : Nm) (ws : List W) : Prop where
  ok : nmOk z
  n : z ∉ nmsOf ws
theorem FreshZ.t {z : Nm} {ws : List W} (h : FreshZ z ws) (v : Vd ws) : z ∉ takesOf ws := fun q => h.n (v.tkIn q)
theorem Vd.more {ws ws' : List W} {z : Nm} (v : Vd ws) (f : FreshZ z ws) {t' : T} (e : t'.ws = ws') (s : t'.sc) (pn : (nmsOf ws').Perm (z :: nmsOf ws)) (pt : (takesOf ws').Perm (z :: takesOf ws)) (ok : ∀ w ∈ ws', w = .nm z ∨ w = .tk z ∨ w = .ap ∨ w ∈ ws) : Vd ws' := by
  refine ⟨⟨t', e, s, ?_, ?_⟩, fun w hw => ?_⟩
  · rw [← nmsOf_tree, e]
    exact pn.nodup_iff.mpr (List.nodup_cons.mpr ⟨f.n, v.nmsNd⟩)
  · rw [← takesOf_tree, e]
    exact pt.nodup_iff.mpr (List.nodup_cons.mpr ⟨f.t v, v.tksNd⟩)
  · rcases ok w hw with rfl | rfl | rfl | h
    · exact f.ok
    · exact f.ok
    · trivial
    · exact v.ok w h
def growA (X U Y : List W) (z : Nm) : List W := X ++ (.ap :: .tk z :: .nm z :: U) ++ Y
def growB (X A V B Y : List W) (z : Nm) : List W := X ++ (.ap :: .tk z :: (A ++ .nm z :: B) ++ V) ++ Y
theorem grow_at {ws : List W} {E : Nat → Nat} (v : Vd ws) (he : IsEnds ws E) {p : Nat} (hp : p < ws.length) : ∃ X U Y, ws = X ++ U ++ Y ∧ X.length = p ∧ E p = p + U.length ∧ 0 < U.length ∧
    (∀ z, FreshZ z ws → Vd (growA X U Y z)) ∧
    ∀ q, q < U.length → ∃ A V B, U = A ++ V ++ B ∧ A.length = q ∧ E (p + q) = p + q + V.length ∧ (∀ z, FreshZ z ws → (∀ n ∈ takesOf A, n ∉ nmsOf V) → Vd (growB X A V B Y z)) := by
  have v0 := v
  obtain ⟨⟨t, ew, s, nl, nt⟩, ok⟩ := v
  obtain ⟨u, X, Y, e1, e2, e4, e5⟩ := T.plug t p s (by rw [ew]; exact hp)
  have ews : ws = X ++ u.ws ++ Y := ew.symm.trans e1
  refine ⟨X, u.ws, Y, ews, e2, ?_, u.pos, fun z f => ?_, fun q hq => ?_⟩
  · have := Kk.ends_at he u X Y ews
    rw [e2] at this
    exact this
  · obtain ⟨t', f1, f2⟩ := e5 (.ap (.tk z (.nm z)) u) ⟨⟨List.mem_singleton.mpr rfl, trivial⟩, e4⟩ (fun n _ hn => List.mem_cons_of_mem _ hn)
    refine v0.more f f1 f2 ?_ ?_ ?_
    · rw [ews]
      simp only [growA, nmsOf_app]
      show (nmsOf X ++ (z :: nmsOf u.ws) ++ nmsOf Y).Perm _
      rw [List.append_assoc, List.append_assoc]
      exact List.perm_middle
    · rw [ews]
      simp only [growA, takesOf_app]
      show (takesOf X ++ (z :: takesOf u.ws) ++ takesOf Y).Perm _
      rw [List.append_assoc, List.append_assoc]
      exact List.perm_middle
    · intro w hw
      rw [ews]
      simp only [growA, List.mem_append, List.mem_cons] at hw ⊢
      rcases hw with (h | h | h | h | h) | h
      · exact .inr (.inr (.inr (.inl (.inl h))))
      · exact .inr (.inr (.inl h))
      · exact .inr (.inl h)
      · exact .inl h
      · exact .inr (.inr (.inr (.inl (.inr h))))
      · exact .inr (.inr (.inr (.inr h)))
  · obtain ⟨y, A, B, g1, g2, g4, g5⟩ := T.plug u q e4 hq
    refine ⟨A, y.ws, B, g1, g2, ?_, fun z f fr => ?_⟩
    · have := Kk.ends_at he y (X ++ A) (B ++ Y) (by rw [ews, g1]; simp)
      rw [List.length_append, e2, g2] at this
      exact this
    · obtain ⟨sz, h1, h2⟩ := g5 (.nm z) trivial (fun n hn hl => absurd (by rw [nmsOf_tree]; exact hl) (fr n hn))
      have hz : z ∈ sz.lv := by
        rw [← nmsOf_tree, h1, nmsOf_app, nmsOf_app]
        exact List.mem_append_left _ (List.mem_append_right _ (List.mem_singleton.mpr rfl))
      have pu : ∀ n, n ∈ u.lv → n ∈ (T.ap (.tk z sz) y).lv := fun n hn => by
        show n ∈ sz.lv ++ y.lv
        rw [← nmsOf_tree, g1, nmsOf_app, nmsOf_app] at hn
        rw [← nmsOf_tree sz, h1, nmsOf_app, nmsOf_app, ← nmsOf_tree y]
        simp only [List.mem_append] at hn ⊢
        rcases hn with (h | h) | h
        · exact .inl (.inl (.inl h))
        · exact .inr h
        · exact .inl (.inr h)
      obtain ⟨t', f1, f2⟩ := e5 (.ap (.tk z sz) y) ⟨⟨hz, h2⟩, g4⟩ (fun n _ hn => pu n hn)
      have e6 : t'.ws = growB X A y.ws B Y z := by
        rw [f1]
        show X ++ (W.ap :: (W.tk z :: sz.ws ++ y.ws)) ++ Y = _
        rw [h1]
        simp [growB, T.ws]
      refine v0.more f e6 f2 ?_ ?_ ?_
      · rw [ews, g1]
        simp only [growB, nmsOf_app]
        have e7 : nmsOf (W.ap :: W.tk z :: (A ++ W.nm z :: B)) = nmsOf A ++ (z :: nmsOf B) := nmsOf_app A (W.nm z :: B)
        rw [e7]
        have key : (nmsOf A ++ (z :: nmsOf B) ++ nmsOf y.ws).Perm (z :: (nmsOf A ++ nmsOf y.ws ++ nmsOf B)) := by
          rw [List.append_assoc]
          refine List.Perm.trans List.perm_middle (List.Perm.cons _ ?_)
          rw [List.append_assoc]
          exact List.Perm.append_left _ List.perm_append_comm
        exact ((List.Perm.append_left (nmsOf X) key).append_right (nmsOf Y)).trans (List.Perm.append_right (nmsOf Y) List.perm_middle)
      · rw [ews, g1]
        simp only [growB, takesOf_app]
        have e7 : takesOf (W.ap :: W.tk z :: (A ++ W.nm z :: B)) = z :: (takesOf A ++ takesOf B) := congrArg (z :: ·) (takesOf_app A (W.nm z :: B))
        rw [e7]
        show (takesOf X ++ (z :: (takesOf A ++ takesOf B ++ takesOf y.ws)) ++ takesOf Y).Perm _
        have key : (z :: (takesOf A ++ takesOf B) ++ takesOf y.ws).Perm (z :: (takesOf A ++ takesOf y.ws ++ takesOf B)) := by
          refine List.Perm.cons _ ?_
          show (takesOf A ++ takesOf B ++ takesOf y.ws).Perm (takesOf A ++ takesOf y.ws ++ takesOf B)
          rw [List.append_assoc, List.append_assoc]
          exact List.Perm.append_left _ List.perm_append_comm
        exact ((List.Perm.append_left (takesOf X) key).append_right (takesOf Y)).trans (List.Perm.append_right (takesOf Y) List.perm_middle)
      · intro w hw
        rw [ews, g1]
        simp only [growB, List.mem_append, List.mem_cons] at hw ⊢
        rcases hw with (h | (h | h | h | h | h) | h) | h
        · exact .inr (.inr (.inr (.inl (.inl h))))
        · exact .inr (.inr (.inl h))
        · exact .inr (.inl h)
        · exact .inr (.inr (.inr (.inl (.inr (.inl (.inl h))))))
        · exact .inl h
        · exact .inr (.inr (.inr (.inl (.inr (.inr h)))))
        · exact .inr (.inr (.inr (.inl (.inr (.inl (.inr h))))))
        · exact .inr (.inr (.inr (.inr h)))
theorem nms_growA (X U Y : List W) (z : Nm) : ∀ n ∈ nmsOf (growA X U Y z), n = z ∨ n ∈ nmsOf (X ++ U ++ Y) := fun n h => by
  simp only [growA, nmsOf_app] at h ⊢
  have h2 : n ∈ nmsOf X ++ (z :: nmsOf U) ++ nmsOf Y := h
  simp only [List.mem_append, List.mem_cons] at h2 ⊢
  rcases h2 with (h | h | h) | h
  · exact .inr (.inl (.inl h))
  · exact .inl h
  · exact .inr (.inl (.inr h))
  · exact .inr (.inr h)
theorem nms_growB (X A V B Y : List W) (z : Nm) : ∀ n ∈ nmsOf (growB X A V B Y z), n = z ∨ n ∈ nmsOf (X ++ (A ++ V ++ B) ++ Y) := fun n h => by
  rw [mem_nms] at h
  rw [mem_nms]
  simp only [growB, List.mem_append, List.mem_cons, reduceCtorEq, false_or, W.nm.injEq] at h ⊢
  rcases h with (h | (h | h | h) | h) | h
  · exact .inr (.inl (.inl h))
  · exact .inr (.inl (.inr (.inl (.inl h))))
  · exact .inl h
  · exact .inr (.inl (.inr (.inr h)))
  · exact .inr (.inl (.inr (.inl (.inr h))))
  · exact .inr (.inr h)
/-- the name that the words get when they grow -/
def zNm (k : Nat) : Nm := 122 :: lett k
theorem zNm_inj {i j : Nat} (h : i + 1 ≤ 217180147158) (g : j + 1 ≤ 217180147158) (e : zNm i = zNm j) : i = j := lett_inj h g (List.cons.inj e).2
theorem lett_len : ∀ k, k < 1000 → (lett k).length ≤ 3 := by
  have : ((List.range 1000).all fun k => decide ((lett k).length ≤ 3)) = true := by decide +kernel
  intro k hk
  exact of_decide_eq_true (List.all_eq_true.mp this k (List.mem_range.mpr hk))
theorem zNm_ok {k : Nat} (h : k < 1000) : nmOk (zNm k) := by
  have h1 := lett_ok (n := k) (by omega)
  have h2 := lett_len k h
  refine ⟨by simp [zNm], by simp [zNm]; omega, fun c hc => ?_⟩
  rcases List.mem_cons.mp hc with rfl | hc
  · omega
  · exact h1.2.2 c hc
/-- no name of ws is one that ws will get -/
def ZFree (ws : List W) : Prop := ∀ k, ws.length ≤ k → k < 1000 → zNm k ∉ nmsOf ws
theorem ZFree.fresh {ws : List W} (h : ZFree ws) (hl : ws.length < 1000) : FreshZ (zNm ws.length) ws := ⟨zNm_ok hl, h _ (Nat.le_refl _) hl⟩
theorem growA_len (X U Y : List W) (z : Nm) : (growA X U Y z).length = (X ++ U ++ Y).length + 3 := by simp [growA]; omega
theorem growB_len (X A V B Y : List W) (z : Nm) : (growB X A V B Y z).length = (X ++ (A ++ V ++ B) ++ Y).length + 3 := by simp [growB]; omega
theorem ZFree.grow {ws ws' : List W} (h : ZFree ws) (hl : ws'.length = ws.length + 3) (hn : ∀ n ∈ nmsOf ws', n = zNm ws.length ∨ n ∈ nmsOf ws) : ZFree ws' := fun k h1 h2 q => by
  rcases hn _ q with e | e
  · have := zNm_inj (by omega) (by omega) e
    omega
  · exact h k (by omega) h2 e
end Wd

/-! behind a step the words are a program's again -/
namespace Wd
open PySem Kk
theorem T.ws_pre : ∀ (t s : T) (Y Z : List W), t.ws ++ Y = s.ws ++ Z → t = s ∧ Y = Z := by
  intro t
  induction t with
  | nm n =>
    intro s Y Z h
    cases s with
    | nm m =>
      have h' : W.nm n :: Y = W.nm m :: Z := h
      obtain ⟨h1, h2⟩ := List.cons.inj h'
      exact ⟨by rw [W.nm.inj h1], h2⟩
    | tk m b => exact absurd (List.cons.inj (show W.nm n :: Y = W.tk m :: (b.ws ++ Z) from h)).1 (by simp)
    | ap f a => exact absurd (List.cons.inj (show W.nm n :: Y = W.ap :: (f.ws ++ a.ws ++ Z) from h)).1 (by simp)
  | tk n b ih =>
    intro s Y Z h
    cases s with
    | nm m => exact absurd (List.cons.inj (show W.tk n :: (b.ws ++ Y) = W.nm m :: Z from h)).1 (by simp)
    | tk m c =>
      obtain ⟨h1, h2⟩ := List.cons.inj (show W.tk n :: (b.ws ++ Y) = W.tk m :: (c.ws ++ Z) from h)
      obtain ⟨h3, h4⟩ := ih c Y Z h2
      exact ⟨by rw [W.tk.inj h1, h3], h4⟩
    | ap f a => exact absurd (List.cons.inj (show W.tk n :: (b.ws ++ Y) = W.ap :: (f.ws ++ a.ws ++ Z) from h)).1 (by simp)
  | ap f a ihf iha =>
    intro s Y Z h
    cases s with
    | nm m => exact absurd (List.cons.inj (show W.ap :: (f.ws ++ a.ws ++ Y) = W.nm m :: Z from h)).1 (by simp)
    | tk m c => exact absurd (List.cons.inj (show W.ap :: (f.ws ++ a.ws ++ Y) = W.tk m :: (c.ws ++ Z) from h)).1 (by simp)
    | ap f2 a2 =>
      obtain ⟨_, h2⟩ := List.cons.inj (show W.ap :: (f.ws ++ a.ws ++ Y) = W.ap :: (f2.ws ++ a2.ws ++ Z) from h)
      rw [List.append_assoc, List.append_assoc] at h2
      obtain ⟨h3, h4⟩ := ihf f2 _ _ h2
      obtain ⟨h5, h6⟩ := iha a2 _ _ h4
      exact ⟨by rw [h3, h5], h6⟩
theorem nms_mid (X A B G Y : List W) (n : Nm) : (nmsOf (X ++ (.ap :: .tk n :: (A ++ (.nm n :: B) ++ (G ++ Y))))).Perm (n :: nmsOf (X ++ A ++ G ++ B ++ Y)) := by
  have e : nmsOf (X ++ (.ap :: .tk n :: (A ++ (.nm n :: B) ++ (G ++ Y)))) = nmsOf X ++ (nmsOf A ++ (n :: nmsOf B) ++ (nmsOf G ++ nmsOf Y)) := by
    rw [nmsOf_app]
    show nmsOf X ++ nmsOf (A ++ (.nm n :: B) ++ (G ++ Y)) = _
    rw [nmsOf_app, nmsOf_app, nmsOf_app]; rfl
  rw [e]
  simp only [nmsOf_app]
  have key : (nmsOf A ++ (n :: nmsOf B) ++ (nmsOf G ++ nmsOf Y)).Perm (n :: (nmsOf A ++ nmsOf G ++ nmsOf B ++ nmsOf Y)) := by
    rw [List.append_assoc]
    refine List.Perm.trans List.perm_middle (List.Perm.cons _ ?_)
    rw [List.append_assoc, List.append_assoc]
    refine List.Perm.append_left _ ?_
    show (nmsOf B ++ (nmsOf G ++ nmsOf Y)).Perm (nmsOf G ++ (nmsOf B ++ nmsOf Y))
    rw [← List.append_assoc, ← List.append_assoc]
    exact List.Perm.append_right _ List.perm_append_comm
  refine List.Perm.trans (List.Perm.append_left _ key) (List.Perm.trans List.perm_middle (List.Perm.cons _ ?_))
  rw [← List.append_assoc, ← List.append_assoc, ← List.append_assoc]
theorem tks_mid (X A B G Y : List W) (n : Nm) : (takesOf (X ++ (.ap :: .tk n :: (A ++ (.nm n :: B) ++ (G ++ Y))))).Perm (n :: takesOf (X ++ A ++ G ++ B ++ Y)) := by
  have e : takesOf (X ++ (.ap :: .tk n :: (A ++ (.nm n :: B) ++ (G ++ Y)))) = takesOf X ++ (n :: (takesOf A ++ takesOf B ++ (takesOf G ++ takesOf Y))) := by
    rw [takesOf_app]
    show takesOf X ++ (n :: takesOf (A ++ (.nm n :: B) ++ (G ++ Y))) = _
    rw [takesOf_app, takesOf_app, takesOf_app]; rfl
  rw [e]
  simp only [takesOf_app]
  refine List.Perm.trans List.perm_middle (List.Perm.cons _ ?_)
  rw [List.append_assoc, List.append_assoc, List.append_assoc, List.append_assoc]
  refine List.Perm.append_left _ (List.Perm.append_left _ ?_)
  rw [← List.append_assoc, ← List.append_assoc]
  exact List.Perm.append_right _ List.perm_append_comm
theorem step_vd {ws X A B G Y : List W} {n : Nm} (v : Vd ws) (st : StepAt ws X A B G Y n) : Vd (X ++ A ++ G ++ B ++ Y) := by
  have v0 := v
  have ew := st.e
  obtain ⟨b, eb⟩ := st.b
  obtain ⟨g, eg⟩ := st.g
  obtain ⟨⟨t, et, s, nl, nt⟩, ok⟩ := v
  have hp : X.length < ws.length := by rw [ew]; simp
  obtain ⟨u, X', Y', e1, e2, e4, e5⟩ := T.plug t X.length s (by rw [et]; exact hp)
  have eqw : X' ++ (u.ws ++ Y') = X ++ ((T.ap (.tk n b) g).ws ++ Y) := by
    rw [← List.append_assoc, ← e1, et, ew]; simp [T.ws, eb, eg]
  obtain ⟨eX, eq2⟩ := List.append_inj eqw e2
  subst eX
  obtain ⟨eu, eY⟩ := T.ws_pre u _ _ _ eq2
  subst eu
  subst eY
  obtain ⟨⟨hnb, hb⟩, hg⟩ := e4
  have tn : (takesOf ws).Nodup := v0.tksNd
  have pt := tks_mid X' A B G Y' n
  rw [← ew] at pt
  have tn2 := List.nodup_cons.mp (pt.nodup_iff.mp tn)
  have pn := nms_mid X' A B G Y' n
  rw [← ew] at pn
  have nn2 := List.nodup_cons.mp (pn.nodup_iff.mp v0.nmsNd)
  have nin : ∀ m, m ∈ takesOf X' ∨ m ∈ takesOf A → m ≠ n := fun m hm e => by
    subst e
    refine tn2.1 ?_
    simp only [takesOf_app, List.mem_append]
    rcases hm with h | h
    · exact .inl (.inl (.inl (.inl h)))
    · exact .inl (.inl (.inl (.inr h)))
  obtain ⟨u2, A', B', f1, f2, f4, f5⟩ := T.plug b A.length hb (by rw [eb]; simp)
  have eqb : A' ++ (u2.ws ++ B') = A ++ ((T.nm n).ws ++ B) := by
    rw [← List.append_assoc, ← f1, eb]; rfl
  obtain ⟨eA, eq3⟩ := List.append_inj eqb f2
  subst eA
  obtain ⟨eu2, eB⟩ := T.ws_pre u2 _ _ _ eq3
  subst eu2
  subst eB
  obtain ⟨b', h1, h2⟩ := f5 g hg (fun m hm hl => absurd (List.mem_singleton.mp hl) (nin m (.inr hm)))
  rw [eg] at h1
  obtain ⟨t', k1, k2⟩ := e5 b' h2 (fun m hm hl => by
    have hne := nin m (.inl hm)
    have hl' : m ∈ b.lv ++ g.lv := hl
    rw [← nmsOf_tree b', h1, nmsOf_app, nmsOf_app]
    rcases List.mem_append.mp hl' with h | h
    · rw [← nmsOf_tree b, eb, nmsOf_app] at h
      rcases List.mem_append.mp h with h | h
      · exact List.mem_append_left _ (List.mem_append_left _ h)
      · have h' : m ∈ n :: nmsOf B' := h
        rcases List.mem_cons.mp h' with h | h
        · exact absurd h hne
        · exact List.mem_append_right _ h
    · refine List.mem_append_left _ (List.mem_append_right _ ?_)
      rw [← eg, nmsOf_tree]
      exact h)
  rw [h1] at k1
  have e9 : X' ++ (A' ++ G ++ B') ++ Y' = X' ++ A' ++ G ++ B' ++ Y' := by simp
  rw [e9] at k1
  refine ⟨⟨t', k1, k2, ?_, ?_⟩, fun v hv => ok v ?_⟩
  · rw [← nmsOf_tree, k1]
    exact nn2.2
  · rw [← takesOf_tree, k1]
    exact tn2.2
  · rw [ew]
    simp only [List.mem_append, List.mem_cons] at hv ⊢
    rcases hv with (((h | h) | h) | h) | h <;> simp [h]
theorem mid_uniq {A B A' B' : List W} {n : Nm} (h : A ++ .nm n :: B = A' ++ .nm n :: B') (h1 : W.nm n ∉ A) (h2 : W.nm n ∉ A') : A = A' ∧ B = B' := by
  induction A generalizing A' with
  | nil =>
    cases A' with
    | nil => exact ⟨rfl, (List.cons.inj h).2⟩
    | cons a l => exact absurd (show W.nm n ∈ a :: l from by rw [← (List.cons.inj h).1]; exact List.mem_cons_self ..) h2
  | cons a l ih =>
    cases A' with
    | nil => exact absurd (show W.nm n ∈ a :: l from by rw [(List.cons.inj h).1]; exact List.mem_cons_self ..) h1
    | cons b r =>
      obtain ⟨e1, e2⟩ := List.cons.inj (show a :: (l ++ .nm n :: B) = b :: (r ++ .nm n :: B') from h)
      obtain ⟨e3, e4⟩ := ih e2 (fun q => h1 (List.mem_cons_of_mem _ q)) (fun q => h2 (List.mem_cons_of_mem _ q))
      exact ⟨by rw [e1, e3], e4⟩
theorem stepAt_uniq {ws X A B G Y X' A' B' G' Y' : List W} {n n' : Nm} (st : StepAt ws X A B G Y n) (st' : StepAt ws X' A' B' G' Y' n') (h : X.length = X'.length) : X ++ A ++ G ++ B ++ Y = X' ++ A' ++ G' ++ B' ++ Y' := by
  obtain ⟨b, eb⟩ := st.b
  obtain ⟨g, eg⟩ := st.g
  obtain ⟨b', eb'⟩ := st'.b
  obtain ⟨g', eg'⟩ := st'.g
  have e := st.e.symm.trans st'.e
  obtain ⟨e1, e2⟩ := List.append_inj e h
  have e3 := (List.cons.inj e2).2
  obtain ⟨e4, e5⟩ := List.cons.inj e3
  have en : n = n' := W.tk.inj e4
  subst en
  rw [← eb, ← eb', ← eg, ← eg'] at e5
  obtain ⟨q1, q2⟩ := T.ws_pre b b' _ _ e5
  obtain ⟨q3, q4⟩ := T.ws_pre g g' _ _ q2
  subst q1
  subst q3
  rw [eb] at eb'
  obtain ⟨q5, q6⟩ := mid_uniq eb' st.no st'.no
  rw [e1, q5, q6, q4, ← eg, ← eg']
open Classical in
/-- the words behind the step at j -/
noncomputable def stepW (ws : List W) (j : Nat) : List W := if h : ∃ us, ∃ X A B G Y n, X.length = j ∧ StepAt ws X A B G Y n ∧ us = X ++ A ++ G ++ B ++ Y then h.choose else ws
theorem stepW_at {ws X A B G Y : List W} {n : Nm} (st : StepAt ws X A B G Y n) : stepW ws X.length = X ++ A ++ G ++ B ++ Y := by
  have h : ∃ us, ∃ X' A' B' G' Y' n', X'.length = X.length ∧ StepAt ws X' A' B' G' Y' n' ∧ us = X' ++ A' ++ G' ++ B' ++ Y' := ⟨_, X, A, B, G, Y, n, rfl, st, rfl⟩
  unfold stepW
  rw [dif_pos h]
  obtain ⟨X', A', B', G', Y', n', e1, st', e2⟩ := h.choose_spec
  rw [e2]
  exact (stepAt_uniq st st' e1.symm).symm
end Wd

set_option maxHeartbeats 4000000
/-! kinds: their words, the class -/
namespace Kk
open PySem PySem.Spec PyProof.Rows L2 Wd
/-- a word of a kind -/
inductive KW
  | to
  | lt (n : Nat)
  deriving DecidableEq
def kv : KW → V
  | .to => .str ">"
  | .lt n => .int (n : Nat)
def sidesK : KW → Nat
  | .to => 2
  | .lt _ => 0
/-- the words of a kind -/
structure KOk (ks : List KW) : Prop where
  w : Wh 1 (ks.map sidesK)
  l : ks.length ≤ 4000
theorem KOk.pos {ks : List KW} (h : KOk ks) : 0 < ks.length := by
  have w := h.w
  cases ks with
  | nil => cases w
  | cons a l => simp
theorem kv_num (H : Hp) (K : PySem.W.Frag) (k : KW) : NumT K H (kv k) := by
  cases k with
  | to => exact NumT.str _
  | lt n => exact NumT.int _
theorem kitSSk : kitB "str" "str" = some true := by decide +kernel
theorem kitTTk : kitB "tuple" "tuple" = some true := by decide +kernel
theorem tyx_tupk {K : PySem.W.Frag} {H : Hp} {a : Addr} {xs : List V} (h : SqT K H a xs) : TyX K H (.ref a) (.type "tuple") := by
  rcases h with (h | ⟨o, h⟩) | ⟨o, its, n, h1, h2, _⟩
  · exact .base (.tup h)
  · exact .fTuple h
  · exact .kTuple h1 h2
theorem map_some' {α β : Type} (f : α → β) (l : List α) : l.filterMap (fun x => some (f x)) = l.map f := by
  induction l with
  | nil => rfl
  | cons a l ih => simp only [List.filterMap_cons, ih, List.map_cons]
structure PK (K : PySem.W.Frag) (mg : Str → Option Value) (C : Addr) : Prop where
  cl : Cls K C
  nw : NoAttr K C "words"
  mg : mg "Kind" = some (.ref C)
  ha : PySem.W.findIn K (.ref C) "__class__" = some (some (.builtin "object.__class__"))
  hn : PySem.W.specialIn K (.builtin "object.__class__") "__get__" = some (some (.builtin "getset_descriptor.__get__"))
  ht : PySem.W.takesIn K (.builtin "object.__class__") = some true
  hm : PySem.W.mroIn K C (.type "object") = some true
def kfs (a : Addr) : List (Str × V) := putF "words" (.ref a) []
theorem kfs_get (a : Addr) : (kfs a).lookup ("words" : Str) = some (.ref a) := by unfold kfs; rw [lookup_putF, if_pos rfl]
/-- at x stands a Kind, its words at a -/
def Kd (C : Addr) (H : Hp) (x a : Addr) : Prop := ∃ dx, H x = some (.ins C dx (kfs a))
theorem Kd.same {C : Addr} {H H' : Hp} {x a : Addr} (h : Kd C H x a) (k : Same H H') : Kd C H' x a := by
  obtain ⟨dx, h⟩ := h
  exact ⟨dx, k _ _ h⟩
/-- what isinstance tells of an own class, asked for a number -/
structure NiC (K : PySem.W.Frag) (C : Addr) : Prop where
  i : PySem.W.mroIn K C (.type "int") = some false
  b : PySem.W.mroIn K C (.type "bool") = some false
theorem NiC.int {K : PySem.W.Frag} {C : Addr} (h : NiC K C) : PySem.W.kitOne K (.ref C) (.type "int") = some false := by
  unfold PySem.W.kitOne PySem.W.kitCls
  rw [if_neg (show ¬ (Value.ref C == Value.type "int") = true from fun z => nomatch z)]
  show (if PySem.W.kitMeta "int" = true then PySem.W.mroIn K C (.type "int") else none) = _
  rw [if_pos (by decide +kernel)]
  exact h.i
theorem NiC.bool {K : PySem.W.Frag} {C : Addr} (h : NiC K C) : PySem.W.kitOne K (.ref C) (.type "bool") = some false := by
  unfold PySem.W.kitOne PySem.W.kitCls
  rw [if_neg (show ¬ (Value.ref C == Value.type "bool") = true from fun z => nomatch z)]
  show (if PySem.W.kitMeta "bool" = true then PySem.W.mroIn K C (.type "bool") else none) = _
  rw [if_pos (by decide +kernel)]
  exact h.b
theorem PK.numT {K : PySem.W.Frag} {mg : Str → Option Value} {C : Addr} (pk : PK K mg C) (n : NiC K C) {H : Hp} {x dx : Addr} {fs : List (Str × V)} (h : H x = some (.ins C dx fs)) : NumT K H (.ref x) :=
  ⟨_, false, false, .base (.ins h pk.cl pk.ha pk.hn pk.ht pk.hm), n.int, n.bool, .inr ⟨.inl rfl, rfl⟩⟩
section
variable {P : Program} {w : World} {K : PySem.W.Frag} {mg : Str → Option Value} {base : Heap}
def ButK (x : Addr) (H H' : Hp) : Prop := ∀ b o, H b = some o → b ≠ x → H' b = some o
def spKInit (K : PySem.W.Frag) (C : Addr) : Sp := fun vs H Q _ => ∃ (x dx a : Addr) (ks : List KW), vs = [.ref x, .ref a] ∧ H x = some (.ins C dx []) ∧ SqT K H a (ks.map kv) ∧ KOk ks ∧
  ∀ H', ButK x H H' → Kd C H' x a → Q .non H'
end
theorem madeK_same {H : Hp} {x dx C : Addr} (nx : H x = none) (ndx : H dx = none) : Same H (upd (upd H dx (.own x)) x (.ins C dx [])) := fun b o e => by
  rw [upd_ne (ne_of_none e nx), upd_ne (ne_of_none e ndx)]
  exact e
theorem ButK.same {x : Addr} {H H1 H2 : Hp} (h : ButK x H1 H2) (s : Same H H1) (n : H x = none) : Same H H2 := fun b o e => h _ _ (s _ _ e) (ne_of_none e n)
theorem tyx_mono {K : PySem.W.Frag} {H H' : Hp} {x : V} {t : Value} (h : TyX K H x t) (k : ∀ a o, x = .ref a → H a = some o → H' a = some o) : TyX K H' x t := by
  cases h with
  | base b =>
    refine .base ?_
    cases b with
    | non => exact .non
    | bl y => exact .bl y
    | int i => exact .int i
    | str y => exact .str y
    | flt y => exact .flt y
    | lst e => exact .lst (k _ _ rfl e)
    | frz e => exact .frz (k _ _ rfl e)
    | tup e => exact .tup (k _ _ rfl e)
    | dK e => exact .dK (k _ _ rfl e)
    | dT e => exact .dT (k _ _ rfl e)
    | ins e cl ha hn htk hm => exact .ins (k _ _ rfl e) cl ha hn htk hm
  | byt b => exact .byt b
  | set e => exact .set (k _ _ rfl e)
  | kList e c => exact .kList e c
  | kTuple e c => exact .kTuple e c
  | kDict e c => exact .kDict e c
  | fTuple e => exact .fTuple (k _ _ rfl e)
  | fDict e => exact .fDict (k _ _ rfl e)
theorem NumT.mono {K : PySem.W.Frag} {H H' : Hp} {x : V} (h : NumT K H x) (k : ∀ a o, x = .ref a → H a = some o → H' a = some o) : NumT K H' x := by
  obtain ⟨t, bi, bb, ty, r⟩ := h
  exact ⟨t, bi, bb, tyx_mono ty k, r⟩
theorem NumT.same {K : PySem.W.Frag} {H H' : Hp} {x : V} (h : NumT K H x) (s : Same H H') : NumT K H' x := h.mono fun a o _ e => s a o e
theorem NumT.keep {K : PySem.W.Frag} {H H' : Hp} {x : V} {p g : Addr} (h : NumT K H x) (s : Keep p g H H') (h1 : x ≠ .ref p) (h2 : x ≠ .ref g) : NumT K H' x :=
  h.mono fun a o e q => s a o q (fun z => h1 (by rw [e, z])) (fun z => h2 (by rw [e, z]))
theorem NumT.tF {K : PySem.W.Frag} {H : Hp} {a : Addr} {xs : List V} (h : TupF H a xs) : NumT K H (.ref a) := by
  obtain ⟨o, h, _⟩ := h
  exact NumT.tupF h
end Kk

/-! rests: a machine that unwinds a tree, what it tells is kept by steps -/
namespace Wd
open PySem Kk
def upN (f : Nm → Option T) (n : Nm) (a : T) : Nm → Option T := fun m => if m = n then some a else f m
def noPut : Nm → Option T := fun _ => none
/-- the machine ends within k moves, r told (never more than B that is given or waits): the tree at hand, what it is given (the next on top), what is put, what is told, what waits -/
def Fin (B : Nat) : Nat → T → List T → (Nm → Option T) → List W → List T → List W → Prop
  | 0, _, _, _, _, _, _ => False
  | k + 1, .ap f a, gs, put, told, wt, r => gs.length + wt.length + 1 ≤ B ∧ Fin B k f (a :: gs) put told wt r
  | k + 1, .tk n b, [], put, told, wt, r => Fin B k b [] put (told ++ [.tk n]) wt r
  | k + 1, .tk n b, g :: gs, put, told, wt, r => Fin B k b gs (upN put n g) told wt r
  | k + 1, .nm x, gs, put, told, wt, r => match put x with
    | some u => Fin B k u gs put told wt r
    | none => match gs ++ wt with
      | [] => told ++ (List.replicate gs.length .ap ++ [.nm x]) = r
      | u :: us => Fin B k u [] put (told ++ (List.replicate gs.length .ap ++ [.nm x])) us r
theorem fin_uniq {B B' : Nat} : ∀ (k k' : Nat) (t : T) (gs : List T) (put : Nm → Option T) (told : List W) (wt : List T) (r r' : List W), Fin B k t gs put told wt r → Fin B' k' t gs put told wt r' → r = r'
  | 0, _, _, _, _, _, _, _, _, h, _ => h.elim
  | k + 1, 0, _, _, _, _, _, _, _, _, h => h.elim
  | k + 1, k' + 1, .ap f a, gs, put, told, wt, r, r', h, h' => fin_uniq k k' f (a :: gs) put told wt r r' h.2 h'.2
  | k + 1, k' + 1, .tk n b, [], put, told, wt, r, r', h, h' => fin_uniq k k' b [] put _ wt r r' h h'
  | k + 1, k' + 1, .tk n b, g :: gs, put, told, wt, r, r', h, h' => fin_uniq k k' b gs _ told wt r r' h h'
  | k + 1, k' + 1, .nm x, gs, put, told, wt, r, r', h, h' => by
    unfold Fin at h h'
    cases hp : put x with
    | some u =>
      rw [hp] at h h'
      exact fin_uniq k k' u gs put told wt r r' h h'
    | none =>
      rw [hp] at h h'
      cases hg : gs ++ wt with
      | nil =>
        rw [hg] at h h'
        exact h.symm.trans h'
      | cons u us =>
        rw [hg] at h h'
        exact fin_uniq k k' u [] put _ us r r' h h'
/-- t' is t with the step of n (given g) done, and g in the place of n -/
inductive Sim (n : Nm) (g : T) : Bool → T → T → Prop
  | nm {fl : Bool} {x : Nm} (h : x ≠ n) : Sim n g fl (.nm x) (.nm x)
  | var : Sim n g true (.nm n) g
  | ap {fl : Bool} {f f' a a' : T} (h1 : Sim n g fl f f') (h2 : Sim n g fl a a') : Sim n g fl (.ap f a) (.ap f' a')
  | tk {fl : Bool} {x : Nm} {b b' : T} (h : x ≠ n) (h1 : Sim n g fl b b') : Sim n g fl (.tk x b) (.tk x b')
  | red {fl : Bool} {b b' : T} (h : Sim n g true b b') : Sim n g fl (.ap (.tk n b) g) b'
theorem Sim.mono {n : Nm} {g : T} {fl : Bool} {t t' : T} (h : Sim n g fl t t') : Sim n g true t t' := by
  induction h with
  | nm h => exact .nm h
  | var => exact .var
  | ap _ _ h1 h2 => exact .ap h1 h2
  | tk h _ h1 => exact .tk h h1
  | red h _ => exact .red h
/-- n neither stands in nor is taken in some words -/
def NoN (n : Nm) (ws : List W) : Prop := W.nm n ∉ ws ∧ W.tk n ∉ ws
theorem NoN.app {n : Nm} {a b : List W} (h : NoN n (a ++ b)) : NoN n a ∧ NoN n b :=
  ⟨⟨fun q => h.1 (List.mem_append_left _ q), fun q => h.2 (List.mem_append_left _ q)⟩, ⟨fun q => h.1 (List.mem_append_right _ q), fun q => h.2 (List.mem_append_right _ q)⟩⟩
theorem NoN.tail {n : Nm} {w : W} {b : List W} (h : NoN n (w :: b)) : NoN n b := (NoN.app (a := [w]) h).2
theorem NoN.join {n : Nm} {a b : List W} (h1 : NoN n a) (h2 : NoN n b) : NoN n (a ++ b) :=
  ⟨fun q => (List.mem_append.mp q).elim h1.1 h2.1, fun q => (List.mem_append.mp q).elim h1.2 h2.2⟩
theorem Sim.refl {n : Nm} {g : T} {fl : Bool} : ∀ (t : T), NoN n t.ws → Sim n g fl t t
  | .nm x, h => .nm fun e => h.1 (by rw [e]; exact List.mem_singleton.mpr rfl)
  | .ap f a, h => .ap (Sim.refl f (NoN.app (NoN.tail h)).1) (Sim.refl a (NoN.app (NoN.tail h)).2)
  | .tk x b, h => .tk (fun e => h.2 (by rw [e]; exact List.mem_cons_self ..)) (Sim.refl b (NoN.tail h))
/-- how often n stands or is taken -/
def T.cn (n : Nm) : T → Nat
  | .nm x => if x = n then 1 else 0
  | .ap f a => f.cn n + a.cn n
  | .tk x b => (if x = n then 1 else 0) + b.cn n
theorem T.cn_no {n : Nm} : ∀ (t : T), NoN n t.ws → t.cn n = 0
  | .nm x, h => if_neg fun e => h.1 (by rw [e]; exact List.mem_singleton.mpr rfl)
  | .ap f a, h => by
    show f.cn n + a.cn n = 0
    rw [T.cn_no f (NoN.app (NoN.tail h)).1, T.cn_no a (NoN.app (NoN.tail h)).2]
  | .tk x b, h => by
    show (if x = n then 1 else 0) + b.cn n = 0
    rw [T.cn_no b (NoN.tail h), if_neg fun e => h.2 (by rw [e]; exact List.mem_cons_self ..)]
inductive L2r (R : T → T → Prop) : List T → List T → Prop
  | nil : L2r R [] []
  | cons {a b : T} {as bs : List T} (h : R a b) (t : L2r R as bs) : L2r R (a :: as) (b :: bs)
theorem L2r.app {R : T → T → Prop} {a b c d : List T} (h : L2r R a b) (g : L2r R c d) : L2r R (a ++ c) (b ++ d) := by
  induction h with
  | nil => exact g
  | cons h _ ih => exact .cons h ih
theorem L2r.mono {R S : T → T → Prop} {a b : List T} (h : L2r R a b) (k : ∀ x y, R x y → S x y) : L2r S a b := by
  induction h with
  | nil => exact .nil
  | cons h _ ih => exact .cons (k _ _ h) ih
theorem L2r.len {R : T → T → Prop} {a b : List T} (h : L2r R a b) : a.length = b.length := by
  induction h with
  | nil => rfl
  | cons _ _ ih => rw [List.length_cons, List.length_cons, ih]
def OptR (R : T → T → Prop) : Option T → Option T → Prop
  | none, none => True
  | some a, some b => R a b
  | _, _ => False
theorem OptR.mono {R S : T → T → Prop} {a b : Option T} (h : OptR R a b) (k : ∀ x y, R x y → S x y) : OptR S a b := by
  cases a <;> cases b <;> first | exact h | exact k _ _ h
theorem sim_fin {n : Nm} {g : T} {B B' : Nat} (hB : B + 1 ≤ B') (hg : NoN n g.ws) : ∀ (k m : Nat) (t t' : T) (gs gs' : List T) (put put' : Nm → Option T) (told : List W) (wt wt' : List T) (fl : Bool) (r : List W),
    t.cn n ≤ m → Sim n g fl t t' → L2r (Sim n g fl) gs gs' → L2r (Sim n g fl) wt wt' → (∀ x, x ≠ n → OptR (Sim n g fl) (put x) (put' x)) → (fl = true → put n = some g) → gs'.length + wt'.length ≤ B → Fin B k t' gs' put' told wt' r → ∃ k2, Fin B' k2 t gs put told wt r := by
  intro k
  induction k with
  | zero => intro m t t' gs gs' put put' told wt wt' fl r _ _ _ _ _ _ _ h; exact h.elim
  | succ k ihk =>
    intro m
    induction m with
    | zero =>
      intro t t' gs gs' put put' told wt wt' fl r hm hs hgs hwt hp hn hb h
      cases hs with
      | @nm _ x hx =>
        unfold Fin at h
        have px := hp x hx
        cases q' : put' x with
        | some u' =>
          rw [q'] at h px
          cases q : put x with
          | none => rw [q] at px; exact px.elim
          | some u =>
            rw [q] at px
            obtain ⟨k2, h2⟩ := ihk _ u u' gs gs' put put' told wt wt' fl r (Nat.le_refl _) px hgs hwt hp hn hb h
            exact ⟨k2 + 1, by unfold Fin; rw [q]; exact h2⟩
        | none =>
          rw [q'] at h px
          cases q : put x with
          | some u => rw [q] at px; exact px.elim
          | none =>
            have ha := hgs.app hwt
            have hl := hgs.len
            revert h ha
            generalize hz2 : gs' ++ wt' = zs'
            intro h ha
            generalize hz : gs ++ wt = zs at ha
            cases ha with
            | nil => exact ⟨1, by unfold Fin; rw [q]; dsimp only; rw [hz, hl]; exact h⟩
            | @cons u u' us us' hu hus =>
              obtain ⟨k2, h2⟩ := ihk _ u u' [] [] put put' _ us us' fl r (Nat.le_refl _) hu .nil hus hp hn (by have := hl; have q2 := congrArg List.length hz2; simp only [List.length_append, List.length_cons, List.length_nil] at q2 ⊢; omega) h
              exact ⟨k2 + 1, by unfold Fin; rw [q]; dsimp only; rw [hz, hl]; exact h2⟩
      | var => exact absurd hm (by simp [T.cn])
      | @ap _ f f' a a' h1 h2 =>
        obtain ⟨k2, h3⟩ := ihk _ f f' (a :: gs) (a' :: gs') put put' told wt wt' fl r (Nat.le_refl _) h1 (.cons h2 hgs) hwt hp hn (by rw [List.length_cons]; have := h.1; omega) h.2
        exact ⟨k2 + 1, by rw [hgs.len, hwt.len]; have := h.1; omega, h3⟩
      | @tk _ x b b' hx h1 =>
        cases hgs with
        | nil =>
          obtain ⟨k2, h3⟩ := ihk _ b b' [] [] put put' _ wt wt' fl r (Nat.le_refl _) h1 .nil hwt hp hn hb h
          exact ⟨k2 + 1, h3⟩
        | @cons c c' cs cs' hc hcs =>
          obtain ⟨k2, h3⟩ := ihk _ b b' cs cs' (upN put x c) (upN put' x c') told wt wt' fl r (Nat.le_refl _) h1 hcs hwt (fun y hy => by
            unfold upN
            by_cases e : y = x
            · rw [if_pos e, if_pos e]; exact hc
            · rw [if_neg e, if_neg e]; exact hp y hy) (fun e => by unfold upN; rw [if_neg hx.symm]; exact hn e) (by rw [List.length_cons] at hb; omega) h
          exact ⟨k2 + 1, h3⟩
      | red h1 =>
        exfalso
        have : (if n = n then 1 else 0) + _ + _ ≤ 0 := hm
        rw [if_pos rfl] at this
        omega
    | succ m ihm =>
      intro t t' gs gs' put put' told wt wt' fl r hm hs hgs hwt hp hn hb h
      cases hs with
      | @nm _ x hx => exact ihm (.nm x) (.nm x) gs gs' put put' told wt wt' fl r (by show (if x = n then 1 else 0) ≤ m; rw [if_neg hx]; exact Nat.zero_le _) (.nm hx) hgs hwt hp hn hb h
      | var =>
        obtain ⟨k2, h2⟩ := ihm g g gs gs' put put' told wt wt' true r (by rw [T.cn_no g hg]; exact Nat.zero_le _) (Sim.refl _ hg) hgs hwt hp hn hb h
        exact ⟨k2 + 1, by unfold Fin; rw [hn rfl]; exact h2⟩
      | @ap _ f f' a a' h1 h2 =>
        obtain ⟨k2, h3⟩ := ihk _ f f' (a :: gs) (a' :: gs') put put' told wt wt' fl r (Nat.le_refl _) h1 (.cons h2 hgs) hwt hp hn (by rw [List.length_cons]; have := h.1; omega) h.2
        exact ⟨k2 + 1, by rw [hgs.len, hwt.len]; have := h.1; omega, h3⟩
      | @tk _ x b b' hx h1 =>
        cases hgs with
        | nil =>
          obtain ⟨k2, h3⟩ := ihk _ b b' [] [] put put' _ wt wt' fl r (Nat.le_refl _) h1 .nil hwt hp hn hb h
          exact ⟨k2 + 1, h3⟩
        | @cons c c' cs cs' hc hcs =>
          obtain ⟨k2, h3⟩ := ihk _ b b' cs cs' (upN put x c) (upN put' x c') told wt wt' fl r (Nat.le_refl _) h1 hcs hwt (fun y hy => by
            unfold upN
            by_cases e : y = x
            · rw [if_pos e, if_pos e]; exact hc
            · rw [if_neg e, if_neg e]; exact hp y hy) (fun e => by unfold upN; rw [if_neg hx.symm]; exact hn e) (by rw [List.length_cons] at hb; omega) h
          exact ⟨k2 + 1, h3⟩
      | @red _ b b' h1 =>
        have hm' : (if n = n then 1 else 0) + b.cn n + g.cn n ≤ m + 1 := hm
        rw [if_pos rfl] at hm'
        obtain ⟨k2, h2⟩ := ihm b t' gs gs' (upN put n g) put' told wt wt' true r (by omega) h1 (hgs.mono fun _ _ z => z.mono) (hwt.mono fun _ _ z => z.mono) (fun y hy => by
          unfold upN
          rw [if_neg hy]
          exact (hp y hy).mono fun _ _ z => z.mono) (fun _ => by unfold upN; rw [if_pos rfl]) hb h
        exact ⟨k2 + 2, by rw [hgs.len, hwt.len]; omega, h2⟩
/-- a part at each place -/
theorem T.at : ∀ (t : T) (p : Nat), p < t.ws.length → ∃ (v : T) (X Y : List W), t.ws = X ++ v.ws ++ Y ∧ X.length = p
  | t, 0, _ => ⟨t, [], [], by simp, rfl⟩
  | .nm x, p + 1, h => by simp [T.ws] at h
  | .tk x b, p + 1, h => by
    obtain ⟨v, X, Y, e, l⟩ := T.at b p (by simpa [T.ws] using h)
    exact ⟨v, .tk x :: X, Y, by show W.tk x :: b.ws = _; rw [e]; simp, by rw [List.length_cons, l]⟩
  | .ap f a, p + 1, h => by
    by_cases q : p < f.ws.length
    · obtain ⟨v, X, Y, e, l⟩ := T.at f p q
      exact ⟨v, .ap :: X, Y ++ a.ws, by show W.ap :: (f.ws ++ a.ws) = _; rw [e]; simp, by rw [List.length_cons, l]⟩
    · have h' : p + 1 < (f.ws.length + a.ws.length) + 1 := by simpa [T.ws] using h
      obtain ⟨v, X, Y, e, l⟩ := T.at a (p - f.ws.length) (by omega)
      exact ⟨v, .ap :: (f.ws ++ X), Y, by show W.ap :: (f.ws ++ a.ws) = _; rw [e]; simp, by rw [List.length_cons, List.length_append, l]; omega⟩
theorem T.ctx {n : Nm} {g : T} {fl : Bool} {u u' : T} (hs : Sim n g fl u u') : ∀ (t : T) (X Y : List W), t.ws = X ++ (u.ws ++ Y) → NoN n X → NoN n Y → ∃ t' : T, t'.ws = X ++ (u'.ws ++ Y) ∧ Sim n g fl t t'
  | t, [], Y, e, _, hY => by
    have := T.ws_pre t u [] Y (by rw [List.append_nil]; exact e)
    obtain ⟨rfl, rfl⟩ := this
    exact ⟨u', by simp, hs⟩
  | .nm x, w :: X, Y, e, _, _ => by
    have := congrArg List.length e
    have p := u.pos
    simp only [T.ws, List.cons_append, List.length_cons, List.length_append, List.length_nil] at this
    omega
  | .tk x b, w :: X, Y, e, hX, hY => by
    obtain ⟨e1, e2⟩ := List.cons.inj (show W.tk x :: b.ws = w :: (X ++ (u.ws ++ Y)) from e)
    subst e1
    obtain ⟨b', f1, f2⟩ := T.ctx hs b X Y e2 (NoN.tail hX) hY
    exact ⟨.tk x b', by show W.tk x :: b'.ws = _; rw [f1]; rfl, .tk (fun q => hX.2 (by rw [q]; exact List.mem_cons_self ..)) f2⟩
  | .ap f a, w :: X, Y, e, hX, hY => by
    obtain ⟨e1, e2⟩ := List.cons.inj (show W.ap :: (f.ws ++ a.ws) = w :: (X ++ (u.ws ++ Y)) from e)
    subst e1
    have hX' := NoN.tail hX
    by_cases q : X.length < f.ws.length
    · obtain ⟨v, X2, Z, e3, l3⟩ := T.at f X.length q
      rw [e3, List.append_assoc, List.append_assoc] at e2
      obtain ⟨e4, e5⟩ := List.append_inj e2 l3
      obtain ⟨rfl, e6⟩ := T.ws_pre v u (Z ++ a.ws) Y (by rw [← e5])
      rw [← e6] at hY
      obtain ⟨f', f1, f2⟩ := T.ctx hs f X Z (by rw [e3, e4, List.append_assoc]) hX' (NoN.app hY).1
      exact ⟨.ap f' a, by show W.ap :: (f'.ws ++ a.ws) = _; rw [f1, ← e6]; simp, .ap f2 (Sim.refl a (NoN.app hY).2)⟩
    · have hle : f.ws.length ≤ X.length := Nat.le_of_not_lt q
      have e3 : X = f.ws ++ X.drop f.ws.length := by
        have := congrArg (List.take f.ws.length) e2
        rw [List.take_left, List.take_append_of_le_length hle] at this
        conv => lhs; rw [← List.take_append_drop f.ws.length X]
        rw [← this]
      generalize X.drop f.ws.length = X2 at e3
      subst e3
      rw [List.append_assoc] at e2
      have e4 := List.append_cancel_left e2
      obtain ⟨a', f1, f2⟩ := T.ctx hs a X2 Y e4 (NoN.app hX').2 hY
      exact ⟨.ap f a', by show W.ap :: (f.ws ++ a'.ws) = _; rw [f1]; simp, .ap (Sim.refl f (NoN.app hX').1) f2⟩
/-- the machine, begun with some words, tells r -/
def Rst (ws r : List W) : Prop := ∃ (t : T) (k : Nat), t.ws = ws ∧ Fin ws.length k t [] noPut [] [] r
theorem rst_uniq {ws r r' : List W} (h : Rst ws r) (h' : Rst ws r') : r = r' := by
  obtain ⟨t, k, e, f⟩ := h
  obtain ⟨t', k', e', f'⟩ := h'
  obtain ⟨rfl, _⟩ := T.ws_pre t t' [] [] (by rw [e, e'])
  exact fin_uniq _ _ _ _ _ _ _ _ _ f f'
theorem vd_tree {ws : List W} (v : Vd ws) : ∃ t : T, t.ws = ws := by
  obtain ⟨t, e, _⟩ := v.tree
  exact ⟨t, e⟩
/-- n neither stands nor is taken but in the step -/
theorem step_no {ws X A B G Y : List W} {n : Nm} (v : Vd ws) (st : StepAt ws X A B G Y n) : NoN n (X ++ A ++ G ++ B ++ Y) := by
  have ew := st.e
  have pt := tks_mid X A B G Y n
  rw [← ew] at pt
  have tn2 := List.nodup_cons.mp (pt.nodup_iff.mp v.tksNd)
  have pn := nms_mid X A B G Y n
  rw [← ew] at pn
  have nn2 := List.nodup_cons.mp (pn.nodup_iff.mp v.nmsNd)
  refine ⟨fun q => nn2.1 ?_, fun q => tn2.1 ?_⟩
  · unfold nmsOf
    exact List.mem_filterMap.mpr ⟨_, q, rfl⟩
  · unfold takesOf
    exact List.mem_filterMap.mpr ⟨_, q, rfl⟩
/-- what the machine tells is kept by a step -/
theorem rst_step {ws X A B G Y r : List W} {n : Nm} (v : Vd ws) (st : StepAt ws X A B G Y n) (h : Rst (X ++ A ++ G ++ B ++ Y) r) : Rst ws r := by
  have nn := step_no v st
  obtain ⟨b, eb⟩ := st.b
  obtain ⟨g, eg⟩ := st.g
  obtain ⟨h4, nY⟩ := NoN.app nn
  obtain ⟨h3, nB⟩ := NoN.app h4
  obtain ⟨h2, nG⟩ := NoN.app h3
  obtain ⟨nX, nA⟩ := NoN.app h2
  rw [← eg] at nG
  obtain ⟨b', f1, f2⟩ := T.ctx (Sim.var (n := n) (g := g)) b A B (by rw [eb]; rfl) nA nB
  obtain ⟨t, et⟩ := vd_tree v
  have e1 : t.ws = X ++ ((T.ap (.tk n b) g).ws ++ Y) := by rw [et, st.e]; simp [T.ws, eb, eg]
  obtain ⟨t', k1, k2⟩ := T.ctx (Sim.red (fl := false) f2) t X Y e1 nX nY
  obtain ⟨t2, k, e2, hf⟩ := h
  obtain ⟨rfl, _⟩ := T.ws_pre t2 t' [] [] (by rw [e2, k1, f1, eg]; simp)
  obtain ⟨k2', hf2⟩ := sim_fin (B' := ws.length) (by rw [st.e]; simp; omega) nG k _ t t2 [] [] noPut noPut [] [] [] false r (Nat.le_refl _) k2 .nil .nil (fun _ _ => True.intro) (fun q => nomatch q) (Nat.zero_le _) hf
  exact ⟨t, k2', et, hf2⟩
/-- no part that takes is given something -/
def Nf : T → Prop
  | .nm _ => True
  | .tk _ b => Nf b
  | .ap f a => (∀ n b, f ≠ .tk n b) ∧ Nf f ∧ Nf a
theorem nf_of {ws : List W} (h : ∀ j, isStp ws j = false) : ∀ (t : T) (X Y : List W), ws = X ++ (t.ws ++ Y) → Nf t
  | .nm _, _, _, _ => trivial
  | .tk n b, X, Y, e => nf_of h b (X ++ [.tk n]) Y (by rw [e]; simp [T.ws])
  | .ap f a, X, Y, e => by
    refine ⟨fun n b q => ?_, nf_of h f (X ++ [.ap]) (a.ws ++ Y) (by rw [e]; simp [T.ws]), nf_of h a (X ++ .ap :: f.ws) Y (by rw [e]; simp [T.ws])⟩
    subst q
    have h1 : ws[X.length]? = some .ap := by rw [e]; simp [T.ws]
    have h2 : ws[X.length + 1]? = some (.tk n) := by
      rw [e, List.getElem?_append_right (by omega), show X.length + 1 - X.length = 1 by omega]
      rfl
    have := h X.length
    unfold isStp at this
    rw [h1, h2] at this
    cases this
def szL (ts : List T) : Nat := (ts.map fun t => t.ws.length).sum
theorem szL_app (a b : List T) : szL (a ++ b) = szL a + szL b := by unfold szL; rw [List.map_append, List.sum_append]
def wsT (ts : List T) : List W := ts.flatMap T.ws
theorem wsT_app (a b : List T) : wsT (a ++ b) = wsT a ++ wsT b := by unfold wsT; rw [List.flatMap_append]
/-- without steps the machine tells just what it was given -/
theorem szL_len (a : List T) : a.length ≤ szL a := by
  induction a with
  | nil => exact Nat.le_refl _
  | cons t a ih =>
    have := t.pos
    show a.length + 1 ≤ t.ws.length + szL a
    omega
theorem nf_fin {B : Nat} : ∀ (N : Nat) (t : T) (gs : List T) (told : List W) (wt : List T), t.ws.length + szL gs + szL wt ≤ N → N ≤ B → Nf t → (∀ u ∈ gs, Nf u) → (∀ u ∈ wt, Nf u) → (gs ≠ [] → ∀ n b, t ≠ .tk n b) →
    ∃ k, Fin B k t gs noPut told wt (told ++ (List.replicate gs.length .ap ++ (t.ws ++ (wsT gs ++ wsT wt)))) := by
  intro N
  induction N with
  | zero =>
    intro t gs told wt h
    have := t.pos
    omega
  | succ N ih =>
    intro t gs told wt h hB hn hg hw hh
    cases t with
    | ap f a =>
      have hl : f.ws.length + a.ws.length + 1 + szL gs + szL wt ≤ N + 1 := by simpa [T.ws] using h
      obtain ⟨k, hk⟩ := ih f (a :: gs) told wt (by show _ + (a.ws.length + szL gs) + _ ≤ _; omega) (by omega) hn.2.1 (fun u hu => (List.mem_cons.mp hu).elim (fun e => by rw [e]; exact hn.2.2) (hg u)) hw (fun _ => hn.1)
      refine ⟨k + 1, ?_⟩
      have e : told ++ (List.replicate gs.length W.ap ++ ((T.ap f a).ws ++ (wsT gs ++ wsT wt))) = told ++ (List.replicate (a :: gs).length W.ap ++ (f.ws ++ (wsT (a :: gs) ++ wsT wt))) := by
        rw [List.length_cons, List.replicate_succ']
        simp [T.ws, wsT]
      rw [e]
      exact ⟨by have := szL_len gs; have := szL_len wt; have := f.pos; omega, hk⟩
    | tk n b =>
      cases gs with
      | cons c cs => exact absurd rfl (hh (by simp) n b)
      | nil =>
        have hl : b.ws.length + 1 + 0 + szL wt ≤ N + 1 := by simpa [T.ws, szL] using h
        obtain ⟨k, hk⟩ := ih b [] (told ++ [.tk n]) wt (by show _ + 0 + _ ≤ _; omega) (by omega) hn (fun _ h => nomatch h) hw (fun h => absurd rfl h)
        refine ⟨k + 1, ?_⟩
        have e : told ++ (List.replicate ([] : List T).length W.ap ++ ((T.tk n b).ws ++ (wsT [] ++ wsT wt))) = told ++ [.tk n] ++ (List.replicate ([] : List T).length W.ap ++ (b.ws ++ (wsT [] ++ wsT wt))) := by
          simp [T.ws, wsT]
        rw [e]
        exact hk
    | nm x =>
      cases hz : gs ++ wt with
      | nil =>
        obtain ⟨rfl, rfl⟩ := List.append_eq_nil_iff.mp hz
        exact ⟨1, by unfold Fin; rfl⟩
      | cons u us =>
        have hsz : szL gs + szL wt = u.ws.length + szL us := by rw [← szL_app, hz]; rfl
        have hwz : wsT gs ++ wsT wt = u.ws ++ wsT us := by rw [← wsT_app, hz]; rfl
        have hall : ∀ v ∈ u :: us, Nf v := fun v hv => by
          rw [← hz] at hv
          exact (List.mem_append.mp hv).elim (hg v) (hw v)
        have hl : 1 + szL gs + szL wt ≤ N + 1 := by simpa [T.ws] using h
        obtain ⟨k, hk⟩ := ih u [] (told ++ (List.replicate gs.length .ap ++ [.nm x])) us (by show _ + 0 + _ ≤ _; omega) (by omega) (hall u (List.mem_cons_self ..)) (fun _ h => nomatch h) (fun v hv => hall v (List.mem_cons_of_mem _ hv)) (fun h => absurd rfl h)
        refine ⟨k + 1, ?_⟩
        unfold Fin
        dsimp only [noPut]
        rw [hz]
        have e : told ++ (List.replicate gs.length W.ap ++ ((T.nm x).ws ++ (wsT gs ++ wsT wt))) = told ++ (List.replicate gs.length W.ap ++ [W.nm x]) ++ (List.replicate ([] : List T).length W.ap ++ (u.ws ++ (wsT [] ++ wsT us))) := by
          rw [hwz]
          simp [T.ws, wsT]
        rw [e]
        exact hk
theorem rst_nf {ws : List W} (v : Vd ws) (h : ∀ j, isStp ws j = false) : Rst ws ws := by
  obtain ⟨t, et⟩ := vd_tree v
  obtain ⟨k, hk⟩ := nf_fin (B := ws.length) ws.length t [] [] [] (by rw [et]; exact Nat.le_refl _) (Nat.le_refl _) (nf_of h t [] [] (by rw [et]; simp)) (fun _ h => nomatch h) (fun _ h => nomatch h) (fun h => absurd rfl h)
  refine ⟨t, k, et, ?_⟩
  have e : ([] : List W) ++ (List.replicate ([] : List T).length W.ap ++ (t.ws ++ (wsT [] ++ wsT []))) = ws := by simp [wsT, et]
  rw [e] at hk
  exact hk
theorem noStp_of {ws : List W} (h : stepsW ws = []) (j : Nat) : isStp ws j = false := by
  cases q : isStp ws j with
  | false => rfl
  | true =>
    have : j ∈ stepsW ws := by
      unfold stepsW
      refine List.mem_filter.mpr ⟨List.mem_range.mpr ?_, q⟩
      rcases Nat.lt_or_ge j ws.length with h2 | h2
      · exact h2
      · unfold isStp at q
        rw [List.getElem?_eq_none h2] at q
        cases q
    rw [h] at this
    cases this
/-- words come to a rest: how it is told, what it is -/
theorem rst_all : ∀ (N : Nat) (ws : List W), ws.length ≤ N → Vd ws → ∃ r, Rst ws r ∧ Vd r ∧ stepsW r = [] ∧ r.length ≤ ws.length ∧ (∀ w ∈ r, w ∈ ws) := by
  intro N
  induction N with
  | zero =>
    intro ws h v
    have := v.pos
    omega
  | succ N ih =>
    intro ws h v
    cases hs : stepsW ws with
    | nil => exact ⟨ws, rst_nf v (noStp_of hs), v, hs, Nat.le_refl _, fun _ h => h⟩
    | cons j js =>
      have hj : isStp ws j = true := (List.mem_filter.mp (show j ∈ stepsW ws by rw [hs]; exact List.mem_cons_self ..)).2
      obtain ⟨X, A, B, G, Y, n, _, st, _⟩ := stepAt_of v hj
      have hl : (X ++ A ++ G ++ B ++ Y).length + 3 = ws.length := by rw [st.e]; simp; omega
      obtain ⟨r, h1, h2, h3, h4, h5⟩ := ih (X ++ A ++ G ++ B ++ Y) (by omega) (step_vd v st)
      refine ⟨r, rst_step v st h1, h2, h3, by omega, fun w hw => ?_⟩
      have := h5 w hw
      rw [st.e]
      simp only [List.mem_append, List.mem_cons] at this ⊢
      rcases this with (((q | q) | q) | q) | q <;> simp [q]
/-- what is told is told for good -/
theorem fin_told {B : Nat} : ∀ (k : Nat) (t : T) (gs : List T) (put : Nm → Option T) (told : List W) (wt : List T) (r : List W), Fin B k t gs put told wt r → told.length + 1 ≤ r.length
  | 0, _, _, _, _, _, _, h => h.elim
  | k + 1, .ap f a, gs, put, told, wt, r, h => fin_told k f (a :: gs) put told wt r h.2
  | k + 1, .tk n b, [], put, told, wt, r, h => by
    have := fin_told k b [] put _ wt r h
    rw [List.length_append] at this
    omega
  | k + 1, .tk n b, g :: gs, put, told, wt, r, h => fin_told k b gs _ told wt r h
  | k + 1, .nm x, gs, put, told, wt, r, h => by
    unfold Fin at h
    cases hp : put x with
    | some u =>
      rw [hp] at h
      exact fin_told k u gs put told wt r h
    | none =>
      rw [hp] at h
      cases hg : gs ++ wt with
      | nil =>
        rw [hg] at h
        have := congrArg List.length h
        simp at this
        omega
      | cons u us =>
        rw [hg] at h
        have := fin_told k u [] put _ us r h
        simp at this
        omega
theorem fin_head {B k : Nat} {x : Nm} {gs : List T} {put : Nm → Option T} {told : List W} {wt : List T} {r : List W} (h : Fin B (k + 1) (.nm x) gs put told wt r) (hp : put x = none) : told.length + gs.length + 1 ≤ r.length := by
  unfold Fin at h
  rw [hp] at h
  cases hg : gs ++ wt with
  | nil =>
    rw [hg] at h
    have := congrArg List.length h
    simp at this
    omega
  | cons u us =>
    rw [hg] at h
    have := fin_told k u [] put _ us r h
    simp at this
    omega
/-- at p the words of t begin -/
def At (ws : List W) (p : Nat) (t : T) : Prop := ∃ X Y, ws = X ++ (t.ws ++ Y) ∧ X.length = p
theorem At.lt {ws : List W} {p : Nat} {t : T} (h : At ws p t) : p < ws.length := by
  obtain ⟨X, Y, e, l⟩ := h
  have := t.pos
  rw [e, List.length_append, List.length_append]
  omega
theorem At.nm {ws : List W} {p : Nat} {x : Nm} (h : At ws p (.nm x)) : ws[p]? = some (.nm x) := by
  obtain ⟨X, Y, e, l⟩ := h
  rw [e, ← l]; simp [T.ws]
theorem At.tk {ws : List W} {p : Nat} {n : Nm} {b : T} (h : At ws p (.tk n b)) : ws[p]? = some (.tk n) ∧ At ws (p + 1) b := by
  obtain ⟨X, Y, e, l⟩ := h
  exact ⟨by rw [e, ← l]; simp [T.ws], X ++ [.tk n], Y, by rw [e]; simp [T.ws], by simp [l]⟩
theorem At.ap {ws : List W} {E : Nat → Nat} (he : IsEnds ws E) {p : Nat} {f a : T} (h : At ws p (.ap f a)) : ws[p]? = some .ap ∧ At ws (p + 1) f ∧ At ws (E (p + 1)) a := by
  obtain ⟨X, Y, e, l⟩ := h
  have e1 : ws = (X ++ [.ap]) ++ f.ws ++ (a.ws ++ Y) := by rw [e]; simp [T.ws]
  have h1 := Kk.ends_at he f (X ++ [.ap]) (a.ws ++ Y) e1
  have h2 : E (p + 1) = p + 1 + f.ws.length := by rw [← l]; simpa using h1
  refine ⟨by rw [e, ← l]; simp [T.ws], ⟨X ++ [.ap], a.ws ++ Y, by rw [e1]; simp, by simp [l]⟩, ⟨X ++ .ap :: f.ws, Y, by rw [e1]; simp, by rw [h2]; simp [l]; omega⟩⟩
end Wd

/-! rests: growing, renaming, parts -/
namespace Wd
open PySem Kk
theorem T.plug0 : ∀ (t : T) (p : Nat), p < t.ws.length → ∃ (u : T) (X Y : List W), t.ws = X ++ (u.ws ++ Y) ∧ X.length = p ∧ ∀ u' : T, ∃ t' : T, t'.ws = X ++ (u'.ws ++ Y)
  | t, 0, _ => ⟨t, [], [], by simp, rfl, fun u' => ⟨u', by simp⟩⟩
  | .nm x, p + 1, h => by simp [T.ws] at h
  | .tk x b, p + 1, h => by
    obtain ⟨v, X, Y, e, l, k⟩ := T.plug0 b p (by simpa [T.ws] using h)
    refine ⟨v, .tk x :: X, Y, by show W.tk x :: b.ws = _; rw [e]; simp, by rw [List.length_cons, l], fun u' => ?_⟩
    obtain ⟨t', e'⟩ := k u'
    exact ⟨.tk x t', by show W.tk x :: t'.ws = _; rw [e']; simp⟩
  | .ap f a, p + 1, h => by
    by_cases q : p < f.ws.length
    · obtain ⟨v, X, Y, e, l, k⟩ := T.plug0 f p q
      refine ⟨v, .ap :: X, Y ++ a.ws, by show W.ap :: (f.ws ++ a.ws) = _; rw [e]; simp, by rw [List.length_cons, l], fun u' => ?_⟩
      obtain ⟨t', e'⟩ := k u'
      exact ⟨.ap t' a, by show W.ap :: (t'.ws ++ a.ws) = _; rw [e']; simp⟩
    · have h' : p + 1 < (f.ws.length + a.ws.length) + 1 := by simpa [T.ws] using h
      obtain ⟨v, X, Y, e, l, k⟩ := T.plug0 a (p - f.ws.length) (by omega)
      refine ⟨v, .ap :: (f.ws ++ X), Y, by show W.ap :: (f.ws ++ a.ws) = _; rw [e]; simp, by rw [List.length_cons, List.length_append, l]; omega, fun u' => ?_⟩
      obtain ⟨t', e'⟩ := k u'
      exact ⟨.ap f t', by show W.ap :: (f.ws ++ t'.ws) = _; rw [e']; simp⟩
/-- the part at a place is a tree's, and any other tree can stand there -/
theorem part_tree {ws X U Y : List W} {E : Nat → Nat} {t : T} (et : t.ws = ws) (he : IsEnds ws E) (e : ws = X ++ (U ++ Y)) (hp : X.length < ws.length) (hE : E X.length = X.length + U.length) : ∃ u : T, u.ws = U ∧ ∀ u' : T, ∃ t' : T, t'.ws = X ++ (u'.ws ++ Y) := by
  obtain ⟨u, X', Y', e1, l1, k⟩ := T.plug0 t X.length (by rw [et]; exact hp)
  have e2 : X' ++ (u.ws ++ Y') = X ++ (U ++ Y) := by rw [← e1, et, e]
  obtain ⟨eX, e3⟩ := List.append_inj e2 l1
  subst eX
  have h1 := Kk.ends_at he u X' Y' (by rw [← et, e1]; simp)
  have hl : u.ws.length = U.length := by omega
  obtain ⟨eu, eY⟩ := List.append_inj e3 hl
  subst eY
  exact ⟨u, eu, k⟩
theorem growA_rst {ws X U Y r : List W} {E : Nat → Nat} {z : Nm} (v : Vd ws) (he : IsEnds ws E) (e : ws = X ++ U ++ Y) (hp : X.length < ws.length) (hE : E X.length = X.length + U.length) (v' : Vd (growA X U Y z)) (h : Rst ws r) : Rst (growA X U Y z) r := by
  obtain ⟨t, et⟩ := vd_tree v
  obtain ⟨u, eu, _⟩ := part_tree (Y := Y) et he (by rw [e]; simp) hp hE
  have st : StepAt (growA X U Y z) X [] [] U Y z := ⟨by simp [growA], ⟨.nm z, rfl⟩, ⟨u, eu⟩, (fun q => nomatch q), v'.ok⟩
  refine rst_step v' st ?_
  have : X ++ [] ++ U ++ [] ++ Y = ws := by rw [e]; simp
  rw [this]
  exact h
theorem growB_rst {ws X A V B Y r : List W} {E : Nat → Nat} {z : Nm} (v : Vd ws) (he : IsEnds ws E) (e : ws = X ++ (A ++ V ++ B) ++ Y) (hp : X.length < ws.length) (hE : E X.length = X.length + (A ++ V ++ B).length) (hV : E (X.length + A.length) = X.length + A.length + V.length) (hV0 : A.length < (A ++ V ++ B).length)
    (hz : z ∉ nmsOf ws) (v' : Vd (growB X A V B Y z)) (h : Rst ws r) : Rst (growB X A V B Y z) r := by
  obtain ⟨t, et⟩ := vd_tree v
  obtain ⟨u, eu, _⟩ := part_tree (Y := Y) et he (by rw [e]; simp) hp hE
  obtain ⟨g, eg, _⟩ := part_tree (X := X ++ A) (U := V) (Y := B ++ Y) et he (by rw [e]; simp) (by rw [e]; simp at hV0 ⊢; omega) (by rw [List.length_append]; exact hV)
  obtain ⟨u2, A2, B2, e1, l1, k⟩ := T.plug0 u A.length (by rw [eu]; exact hV0)
  have e2 : A2 ++ (u2.ws ++ B2) = A ++ (V ++ B) := by rw [← e1, eu]; simp
  obtain ⟨eA, e3⟩ := List.append_inj e2 l1
  subst eA
  rw [← eg] at e3
  obtain ⟨_, eB⟩ := T.ws_pre u2 g B2 B e3
  subst eB
  obtain ⟨b, eb⟩ := k (.nm z)
  have st : StepAt (growB X A2 V B2 Y z) X A2 B2 V Y z := ⟨by simp [growB], ⟨b, by rw [eb]; rfl⟩, ⟨g, eg⟩, fun q => hz (by
    rw [e]
    unfold nmsOf
    exact List.mem_filterMap.mpr ⟨.nm z, by simp [q], rfl⟩), v'.ok⟩
  refine rst_step v' st ?_
  have : X ++ A2 ++ V ++ B2 ++ Y = ws := by rw [e]; simp
  rw [this]
  exact h
theorem rst_next {ws X A B G Y r : List W} {n : Nm} (v : Vd ws) (st : StepAt ws X A B G Y n) (h : Rst ws r) : Rst (X ++ A ++ G ++ B ++ Y) r := by
  obtain ⟨r', h1, _⟩ := rst_all _ _ (Nat.le_refl _) (step_vd v st)
  have := rst_uniq (rst_step v st h1) h
  subst this
  exact h1
theorem rst_end {ws r : List W} (v : Vd ws) (h : Rst ws r) (hs : stepsW ws = []) : ws = r := rst_uniq (rst_nf v (noStp_of hs)) h
theorem rst_facts {ws r : List W} (v : Vd ws) (h : Rst ws r) : Vd r ∧ stepsW r = [] ∧ r.length ≤ ws.length ∧ (∀ w ∈ r, w ∈ ws) := by
  obtain ⟨r', h1, h2⟩ := rst_all _ _ (Nat.le_refl _) v
  have := rst_uniq h1 h
  subst this
  exact h2
theorem rst_nf' {r : List W} (v : Vd r) (hs : stepsW r = []) : Rst r r := rst_nf v (noStp_of hs)
/-- by steps: what holds of the rest holds of the words, if a step undone keeps it -/
theorem rst_ind {r : List W} (Q : List W → Prop) (h0 : Q r) (hs : ∀ (ws X A B G Y : List W) (n : Nm), Vd ws → Rst ws r → StepAt ws X A B G Y n → Q (X ++ A ++ G ++ B ++ Y) → Q ws) : ∀ (N : Nat) (ws : List W), ws.length ≤ N → Vd ws → Rst ws r → Q ws := by
  intro N
  induction N with
  | zero =>
    intro ws h v
    have := v.pos
    omega
  | succ N ih =>
    intro ws h v hr
    cases q : stepsW ws with
    | nil => rw [rst_end v hr q]; exact h0
    | cons j js =>
      have hj : isStp ws j = true := (List.mem_filter.mp (show j ∈ stepsW ws by rw [q]; exact List.mem_cons_self ..)).2
      obtain ⟨X, A, B, G, Y, n, _, st, _⟩ := stepAt_of v hj
      have hl : (X ++ A ++ G ++ B ++ Y).length + 3 = ws.length := by rw [st.e]; simp; omega
      exact hs ws X A B G Y n v hr st (ih _ (by omega) (step_vd v st) (rst_next v st hr))
theorem StepAt.into {ws X A B G Y : List W} {n : Nm} (st : StepAt ws X A B G Y n) (L M : List W) (ok : ∀ w ∈ L ++ ws ++ M, wOk w) : StepAt (L ++ ws ++ M) (L ++ X) A B G (Y ++ M) n :=
  ⟨by rw [st.e]; simp, st.b, st.g, st.no, ok⟩
/-- a part's rest in the place of the part -/
theorem rst_in {ws r L M : List W} (v : Vd ws) (h : Rst ws r) : Vd (L ++ ws ++ M) → Vd (L ++ r ++ M) ∧ ∀ x, Rst (L ++ r ++ M) x → Rst (L ++ ws ++ M) x := by
  refine rst_ind (fun ws => Vd (L ++ ws ++ M) → Vd (L ++ r ++ M) ∧ ∀ x, Rst (L ++ r ++ M) x → Rst (L ++ ws ++ M) x) (fun v => ⟨v, fun _ h => h⟩) (fun ws X A B G Y n v hr st ih vL => ?_) _ ws (Nat.le_refl _) v h
  have st' := StepAt.into st L M vL.ok
  have v' := step_vd vL st'
  have e : L ++ X ++ A ++ G ++ B ++ (Y ++ M) = L ++ (X ++ A ++ G ++ B ++ Y) ++ M := by simp
  rw [e] at v'
  obtain ⟨h1, h2⟩ := ih v'
  refine ⟨h1, fun x hx => rst_step vL st' ?_⟩
  rw [e]
  exact h2 x hx
theorem nm_mem_nms {n : Nm} {ws : List W} : n ∈ nmsOf ws ↔ W.nm n ∈ ws := by
  unfold nmsOf
  rw [List.mem_filterMap]
  constructor
  · rintro ⟨w, hw, e⟩
    cases w with
    | nm m => cases e; exact hw
    | ap => cases e
    | tk m => cases e
  · exact fun h => ⟨_, h, rfl⟩
/-- what stands in the rest and is taken in the words is taken in the rest -/
theorem rst_open {ws r : List W} {n : Nm} (v : Vd ws) (h : Rst ws r) : W.nm n ∈ r → W.tk n ∈ ws → W.tk n ∈ r := by
  intro hn
  refine rst_ind (fun ws => W.tk n ∈ ws → W.tk n ∈ r) (fun h => h) (fun ws X A B G Y m v hr st ih ht => ?_) _ ws (Nat.le_refl _) v h
  have no := step_no v st
  have hr' := rst_next v st hr
  have hin := (rst_facts (step_vd v st) hr').2.2.2 _ hn
  have hne : n ≠ m := fun e => no.1 (by rw [← e]; exact hin)
  refine ih ?_
  rw [st.e] at ht
  simp only [List.mem_append, List.mem_cons] at ht ⊢
  rcases ht with q | q | q | (q | q | q) | q | q
  · simp [q]
  · cases q
  · exact absurd (W.tk.inj q) hne
  · simp [q]
  · cases q
  · simp [q]
  · simp [q]
  · simp [q]
theorem nmsOf_mem_sub {a b : List W} (h : ∀ w ∈ a, w ∈ b) : ∀ n ∈ nmsOf a, n ∈ nmsOf b := fun n hn => nm_mem_nms.mpr (h _ (nm_mem_nms.mp hn))
/-- names told anew -/
theorem rst_ren {ws r : List W} {f : Nm → Nm} (v : Vd ws) (h : Rst ws r) : InjOn f (nmsOf ws) → (∀ n ∈ nmsOf ws, nmOk (f n)) → Rst (ws.map (renW f)) (r.map (renW f)) := by
  obtain ⟨vr, hsr, _, _⟩ := rst_facts v h
  refine rst_ind (fun ws => InjOn f (nmsOf ws) → (∀ n ∈ nmsOf ws, nmOk (f n)) → Rst (ws.map (renW f)) (r.map (renW f))) (fun inj ok => ?_) (fun ws X A B G Y n v hr st ih inj ok => ?_) _ ws (Nat.le_refl _) v h
  · refine rst_nf (vr.ren inj ok) fun j => ?_
    have := noStp_of hsr j
    unfold isStp at this ⊢
    rw [List.getElem?_map, List.getElem?_map]
    cases h1 : r[j]? with
    | none => rfl
    | some a =>
      cases h2 : r[j + 1]? with
      | none => cases a <;> rfl
      | some b =>
        rw [h1, h2] at this
        cases a <;> cases b <;> first | rfl | cases this
  · obtain ⟨b, eb⟩ := st.b
    obtain ⟨g, eg⟩ := st.g
    have st' : StepAt (ws.map (renW f)) (X.map (renW f)) (A.map (renW f)) (B.map (renW f)) (G.map (renW f)) (Y.map (renW f)) (f n) := by
      refine ⟨by rw [st.e]; simp [renW], ⟨b.ren f, by rw [T.ren_ws, eb]; simp [renW]⟩, ⟨g.ren f, by rw [T.ren_ws, eg]⟩, fun q => ?_, (v.ren inj ok).ok⟩
      obtain ⟨w, hw, e⟩ := List.mem_map.mp q
      cases w with
      | ap => cases e
      | tk m => cases e
      | nm m =>
        have em : f m = f n := W.nm.inj e
        have m1 : m ∈ nmsOf ws := nm_mem_nms.mpr (by rw [st.e]; simp [hw])
        have n1 : n ∈ nmsOf ws := nm_mem_nms.mpr (by rw [st.e]; simp)
        have := inj m m1 n n1 em
        subst this
        exact st.no hw
    refine rst_step (v.ren inj ok) st' ?_
    have sub : ∀ w ∈ X ++ A ++ G ++ B ++ Y, w ∈ ws := fun w hw => by
      rw [st.e]
      simp only [List.mem_append, List.mem_cons] at hw ⊢
      rcases hw with (((q | q) | q) | q) | q <;> simp [q]
    have := ih (fun a ha b hb e => inj a (nmsOf_mem_sub sub a ha) b (nmsOf_mem_sub sub b hb) e) (fun a ha => ok a (nmsOf_mem_sub sub a ha))
    simpa using this
end Wd

/-! long rows of steps: four families of words -/
namespace Wd
open PySem Kk
/-- a way of steps -/
inductive Walk : List W → List Nat → List W → Prop
  | nil (ws : List W) : Walk ws [] ws
  | cons {ws X A B G Y : List W} {n : Nm} {way : List Nat} {last : List W} : StepAt ws X A B G Y n → Walk (X ++ A ++ G ++ B ++ Y) way last → Walk ws (X.length :: way) last
theorem Walk.vd {ws last : List W} {way : List Nat} (h : Walk ws way last) : Vd ws → Vd last := by
  induction h with
  | nil => exact id
  | cons st _ ih => exact fun v => ih (step_vd v st)
theorem Walk.rst {ws last : List W} {way : List Nat} (h : Walk ws way last) : Vd ws → ∀ r, Rst last r → Rst ws r := by
  induction h with
  | nil => exact fun _ _ h => h
  | cons st _ ih => exact fun v r hr => rst_step v st (ih (step_vd v st) r hr)
theorem Walk.len {ws last : List W} {way : List Nat} (h : Walk ws way last) : last.length + 3 * way.length = ws.length := by
  induction h with
  | nil => simp
  | @cons ws X A B G Y n way last st _ ih =>
    have : (X ++ A ++ G ++ B ++ Y).length + 3 = ws.length := by rw [st.e]; simp; omega
    rw [List.length_cons]
    omega
/-! ### places of steps, told from the left -/
theorem stepsW_cons (w : W) (ws : List W) : stepsW (w :: ws) = (if isStp (w :: ws) 0 = true then [0] else []) ++ (stepsW ws).map (· + 1) := by
  unfold stepsW
  rw [List.length_cons, List.range_succ_eq_map, List.filter_cons, List.filter_map]
  have e : (isStp (w :: ws) ∘ Nat.succ) = isStp ws := by
    funext j
    rfl
  rw [e]
  split <;> rfl
theorem steps_nil : stepsW [] = [] := rfl
theorem steps_nm (n : Nm) (ws : List W) : stepsW (.nm n :: ws) = (stepsW ws).map (· + 1) := by
  rw [stepsW_cons]
  have : isStp (.nm n :: ws) 0 = false := rfl
  rw [this]; rfl
theorem steps_tk (n : Nm) (ws : List W) : stepsW (.tk n :: ws) = (stepsW ws).map (· + 1) := by
  rw [stepsW_cons]
  have : isStp (.tk n :: ws) 0 = false := rfl
  rw [this]; rfl
theorem steps_apap (ws : List W) : stepsW (.ap :: .ap :: ws) = (stepsW (.ap :: ws)).map (· + 1) := by
  rw [stepsW_cons]
  have : isStp (.ap :: .ap :: ws) 0 = false := rfl
  rw [this]; rfl
theorem steps_apnm (n : Nm) (ws : List W) : stepsW (.ap :: .nm n :: ws) = (stepsW (.nm n :: ws)).map (· + 1) := by
  rw [stepsW_cons]
  have : isStp (.ap :: .nm n :: ws) 0 = false := rfl
  rw [this]; rfl
theorem steps_aptk (n : Nm) (ws : List W) : stepsW (.ap :: .tk n :: ws) = 0 :: (stepsW (.tk n :: ws)).map (· + 1) := by
  rw [stepsW_cons]
  have : isStp (.ap :: .tk n :: ws) 0 = true := rfl
  rw [this]; rfl
/-! ### names -/
theorem pre_ok {c k : Nat} (hc : 97 ≤ c) (hc' : c ≤ 122) (h : k < 1000) : nmOk (c :: lett k) := by
  have h1 := lett_ok (n := k) (by omega)
  have h2 := lett_len k h
  refine ⟨by simp, by simp; omega, fun d hd => ?_⟩
  rcases List.mem_cons.mp hd with rfl | hd
  · omega
  · exact h1.2.2 d hd
theorem let_ok {k : Nat} (h : k < 1000) : nmOk (lett k) := lett_ok (by omega)
theorem let_nodup (m : Nat) (h : m ≤ 1000) : ((List.range m).map lett).Nodup := row_nodup (by omega)
/-- the words of a tree whose names are told once -/
theorem vd_of {t : T} {ws : List W} (e : t.ws = ws) (s : t.sc) (a : t.lv.Nodup) (b : t.tks.Nodup) (ok : ∀ n, n ∈ t.lv ∨ n ∈ t.tks → nmOk n) : Vd ws := by
  refine ⟨⟨t, e, s, a, b⟩, fun w hw => ?_⟩
  rw [← e] at hw
  cases w with
  | ap => trivial
  | nm n =>
    refine ok n (.inl ?_)
    rw [T.lv_ws]
    exact List.mem_filterMap.mpr ⟨_, hw, rfl⟩
  | tk n =>
    refine ok n (.inr ?_)
    rw [T.tks_ws]
    exact List.mem_filterMap.mpr ⟨_, hw, rfl⟩
/-! ### lefts -/
def ids (a m : Nat) : List W := (List.range' a m).flatMap fun k => [.tk (lett k), .nm (lett k)]
def idT (k : Nat) : T := .tk (lett k) (.nm (lett k))
theorem ids_succ (a m : Nat) : ids a (m + 1) = .tk (lett a) :: .nm (lett a) :: ids (a + 1) m := by
  unfold ids
  rw [List.range'_succ]
  rfl
def ltT : Nat → Nat → T → T
  | 0, _, f => f
  | m + 1, a, f => ltT m (a + 1) (.ap f (idT a))
theorem ltT_ws : ∀ (m a : Nat) (f : T), (ltT m a f).ws = List.replicate m .ap ++ f.ws ++ ids a m
  | 0, a, f => by show f.ws = _; simp [ids]
  | m + 1, a, f => by
    show (ltT m (a + 1) (.ap f (idT a))).ws = _
    rw [ltT_ws m (a + 1), ids_succ, List.replicate_succ']
    simp [T.ws, idT]
theorem ltT_sc : ∀ (m a : Nat) (f : T), f.sc → (ltT m a f).sc
  | 0, _, _, h => h
  | m + 1, a, f, h => ltT_sc m (a + 1) _ ⟨h, List.mem_cons_self .., trivial⟩
theorem ltT_lv : ∀ (m a : Nat) (f : T), (ltT m a f).lv = f.lv ++ (List.range' a m).map lett
  | 0, a, f => by show f.lv = _; simp
  | m + 1, a, f => by
    show (ltT m (a + 1) (.ap f (idT a))).lv = _
    rw [ltT_lv m (a + 1), List.range'_succ]
    simp [T.lv, idT]
theorem ltT_tks : ∀ (m a : Nat) (f : T), (ltT m a f).tks = f.tks ++ (List.range' a m).map lett
  | 0, a, f => by show f.tks = _; simp
  | m + 1, a, f => by
    show (ltT m (a + 1) (.ap f (idT a))).tks = _
    rw [ltT_tks m (a + 1), List.range'_succ]
    simp [T.tks, idT]
def lefts (n : Nat) : List W := List.replicate n .ap ++ ids 0 (n + 1)
def descs : Nat → List Nat
  | 0 => []
  | m + 1 => m :: descs m
theorem range_0 (n : Nat) : lett 0 :: (List.range' 1 n).map lett = (List.range (n + 1)).map lett := by
  rw [List.range_eq_range', List.range'_succ]; rfl
theorem lefts_vd {n : Nat} (h : n ≤ 332) : Vd (lefts n) := by
  have e : (ltT n 1 (idT 0)).ws = lefts n := by
    rw [ltT_ws]
    unfold lefts
    rw [ids_succ]
    simp [idT, T.ws]
  have l1 : (ltT n 1 (idT 0)).lv = (List.range (n + 1)).map lett := by rw [ltT_lv, ← range_0]; rfl
  have l2 : (ltT n 1 (idT 0)).tks = (List.range (n + 1)).map lett := by rw [ltT_tks, ← range_0]; rfl
  refine vd_of e (ltT_sc _ _ _ ⟨List.mem_cons_self .., trivial⟩) (by rw [l1]; exact let_nodup _ (by omega)) (by rw [l2]; exact let_nodup _ (by omega)) fun m hm => ?_
  rw [l1, l2] at hm
  obtain ⟨k, hk, rfl⟩ := List.mem_map.mp (hm.elim id id)
  exact let_ok (by have := List.mem_range.mp hk; omega)
theorem ids_ok {a m : Nat} (h : a + m ≤ 1000) : ∀ w ∈ ids a m, wOk w := fun w hw => by
  obtain ⟨k, hk, hw⟩ := List.mem_flatMap.mp hw
  have := List.mem_range'_1.mp hk
  simp only [List.mem_cons, List.not_mem_nil, or_false] at hw
  rcases hw with rfl | rfl <;> exact let_ok (by omega)
theorem lefts_walk : ∀ (m a : Nat), a + m + 1 ≤ 1000 → Walk (List.replicate m .ap ++ ids a (m + 1)) (descs m) (ids (a + m) 1)
  | 0, a, _ => .nil _
  | m + 1, a, h => by
    have st : StepAt (List.replicate (m + 1) .ap ++ ids a (m + 1 + 1)) (List.replicate m .ap) [] [] [.tk (lett (a + 1)), .nm (lett (a + 1))] (ids (a + 2) m) (lett a) := by
      refine ⟨?_, ⟨.nm (lett a), rfl⟩, ⟨idT (a + 1), rfl⟩, by simp, fun w hw => ?_⟩
      · rw [ids_succ, ids_succ, List.replicate_succ']
        simp
      · rcases List.mem_append.mp hw with hw | hw
        · rw [List.eq_of_mem_replicate hw]; trivial
        · exact ids_ok (by omega) w hw
    have := Walk.cons st (way := descs m) (last := ids (a + (m + 1)) 1) (by
      have := lefts_walk m (a + 1) (by omega)
      rw [ids_succ] at this
      simpa [Nat.add_assoc, Nat.add_comm 1 m] using this)
    rw [List.length_replicate] at this
    exact this
theorem ids_steps : ∀ (m a : Nat), stepsW (ids a m) = []
  | 0, _ => rfl
  | m + 1, a => by rw [ids_succ, steps_tk, steps_nm, ids_steps m]; rfl
theorem lefts_steps : ∀ (m a k : Nat), stepsW (List.replicate (m + 1) .ap ++ ids a (k + 1)) = [m]
  | 0, a, k => by
    rw [ids_succ]
    show stepsW (.ap :: .tk _ :: _) = _
    rw [steps_aptk, steps_tk, steps_nm, ids_steps]; rfl
  | m + 1, a, k => by
    show stepsW (.ap :: .ap :: (List.replicate m .ap ++ ids a (k + 1))) = _
    rw [steps_apap]
    have := lefts_steps m a k
    rw [List.replicate_succ, List.cons_append] at this
    rw [this]; rfl
theorem descs_len : ∀ m, (descs m).length = m
  | 0 => rfl
  | m + 1 => by show (descs m).length + 1 = _; rw [descs_len m]
/-! ### rights -/
def rg (a m : Nat) : List W := (List.range' a m).flatMap fun k => [.ap, .tk (lett k), .nm (lett k)]
theorem rg_succ (a m : Nat) : rg a (m + 1) = .ap :: .tk (lett a) :: .nm (lett a) :: rg (a + 1) m := by
  unfold rg
  rw [List.range'_succ]
  rfl
def rtT : Nat → Nat → T
  | 0, a => idT a
  | m + 1, a => .ap (idT a) (rtT m (a + 1))
theorem rtT_ws : ∀ (m a : Nat), (rtT m a).ws = rg a m ++ ids (a + m) 1
  | 0, a => rfl
  | m + 1, a => by
    rw [rg_succ]
    show .ap :: ((idT a).ws ++ (rtT m (a + 1)).ws) = _
    rw [rtT_ws m (a + 1), Nat.add_assoc, Nat.add_comm 1 m]
    rfl
theorem rtT_sc : ∀ (m a : Nat), (rtT m a).sc
  | 0, a => ⟨List.mem_cons_self .., trivial⟩
  | m + 1, a => ⟨⟨List.mem_cons_self .., trivial⟩, rtT_sc m (a + 1)⟩
theorem rtT_lv : ∀ (m a : Nat), (rtT m a).lv = (List.range' a (m + 1)).map lett
  | 0, a => rfl
  | m + 1, a => by
    rw [List.range'_succ]
    show lett a :: (rtT m (a + 1)).lv = _
    rw [rtT_lv m (a + 1)]; rfl
theorem rtT_tks : ∀ (m a : Nat), (rtT m a).tks = (List.range' a (m + 1)).map lett
  | 0, a => rfl
  | m + 1, a => by
    rw [List.range'_succ]
    show lett a :: (rtT m (a + 1)).tks = _
    rw [rtT_tks m (a + 1)]; rfl
def rights (n : Nat) : List W := rg 0 n ++ ids n 1
theorem rights_vd {n : Nat} (h : n ≤ 332) : Vd (rights n) := by
  have e : (rtT n 0).ws = rights n := by rw [rtT_ws, Nat.zero_add]; rfl
  refine vd_of e (rtT_sc _ _) (by rw [rtT_lv, ← List.range_eq_range']; exact let_nodup _ (by omega)) (by rw [rtT_tks, ← List.range_eq_range']; exact let_nodup _ (by omega)) fun m hm => ?_
  rw [rtT_lv, rtT_tks, ← List.range_eq_range'] at hm
  obtain ⟨k, hk, rfl⟩ := List.mem_map.mp (hm.elim id id)
  exact let_ok (by have := List.mem_range.mp hk; omega)
theorem rg_ok {a m : Nat} (h : a + m ≤ 1000) : ∀ w ∈ rg a m, wOk w := fun w hw => by
  obtain ⟨k, hk, hw⟩ := List.mem_flatMap.mp hw
  have := List.mem_range'_1.mp hk
  simp only [List.mem_cons, List.not_mem_nil, or_false] at hw
  rcases hw with rfl | rfl | rfl
  · trivial
  · exact let_ok (by omega)
  · exact let_ok (by omega)
theorem rights_walk : ∀ (m a : Nat), a + m + 1 ≤ 1000 → Walk (rg a m ++ ids (a + m) 1) (List.replicate m 0) (ids (a + m) 1)
  | 0, a, _ => .nil _
  | m + 1, a, h => by
    have e1 : a + (m + 1) = a + 1 + m := by omega
    have st : StepAt (rg a (m + 1) ++ ids (a + (m + 1)) 1) [] [] [] (rg (a + 1) m ++ ids (a + (m + 1)) 1) [] (lett a) := by
      refine ⟨?_, ⟨.nm (lett a), rfl⟩, ⟨rtT m (a + 1), by rw [rtT_ws, e1]⟩, by simp, fun w hw => ?_⟩
      · rw [rg_succ]
        simp
      · rcases List.mem_append.mp hw with hw | hw
        · exact rg_ok (by omega) w hw
        · exact ids_ok (by omega) w hw
    exact Walk.cons st (way := List.replicate m 0) (last := ids (a + (m + 1)) 1) (by
      have := rights_walk m (a + 1) (by omega)
      rw [← e1] at this
      simpa using this)
theorem rights_steps : ∀ (m a b : Nat), stepsW (rg a m ++ ids b 1) = (List.range m).map (3 * ·)
  | 0, a, b => ids_steps 1 b
  | m + 1, a, b => by
    rw [rg_succ]
    show stepsW (.ap :: .tk _ :: .nm _ :: (rg (a + 1) m ++ ids b 1)) = _
    rw [steps_aptk, steps_tk, steps_nm, rights_steps m (a + 1) b, List.range_succ_eq_map]
    simp only [List.map_cons, List.map_map]
    congr 1
/-! ### turns -/
def oN (k : Nat) : Nm := 111 :: lett k
def xN (k : Nat) : Nm := 120 :: lett k
def endN : Nm := [101, 110, 100]
theorem oN_ok {k : Nat} (h : k < 1000) : nmOk (oN k) := pre_ok (by decide) (by decide) h
theorem xN_ok {k : Nat} (h : k < 1000) : nmOk (xN k) := pre_ok (by decide) (by decide) h
theorem endN_ok : nmOk endN := ⟨by decide, by decide, by decide⟩
theorem oN_inj {i j : Nat} (hi : i < 1000) (hj : j < 1000) (e : oN i = oN j) : i = j := lett_inj (by omega) (by omega) (List.cons.inj e).2
theorem xN_inj {i j : Nat} (hi : i < 1000) (hj : j < 1000) (e : xN i = xN j) : i = j := lett_inj (by omega) (by omega) (List.cons.inj e).2
theorem ox_ne (i j : Nat) : oN i ≠ xN j := fun e => absurd (List.cons.inj e).1 (by decide)
def tw (a m : Nat) : List W := (List.range' a m).flatMap fun k => [.ap, .nm (oN k), .ap, .tk (xN k), .nm (xN k)]
def lo (a m : Nat) : List W := (List.range' a m).flatMap fun k => [.ap, .nm (oN k)]
def fin' : List W := [.nm endN]
theorem tw_succ (a m : Nat) : tw a (m + 1) = .ap :: .nm (oN a) :: .ap :: .tk (xN a) :: .nm (xN a) :: tw (a + 1) m := by
  unfold tw
  rw [List.range'_succ]
  rfl
theorem tw_snoc (a m : Nat) : tw a (m + 1) = tw a m ++ [.ap, .nm (oN (a + m)), .ap, .tk (xN (a + m)), .nm (xN (a + m))] := by
  unfold tw
  rw [List.range'_concat, List.flatMap_append]
  simp
theorem lo_succ (a m : Nat) : lo a (m + 1) = .ap :: .nm (oN a) :: lo (a + 1) m := by
  unfold lo
  rw [List.range'_succ]
  rfl
theorem tw_len : ∀ (m a : Nat), (tw a m).length = 5 * m
  | 0, _ => rfl
  | m + 1, a => by rw [tw_succ]; simp [tw_len m]; omega
def loT : Nat → Nat → T
  | 0, _ => .nm endN
  | m + 1, a => .ap (.nm (oN a)) (loT m (a + 1))
theorem loT_ws : ∀ (m a : Nat), (loT m a).ws = lo a m ++ fin'
  | 0, a => rfl
  | m + 1, a => by
    rw [lo_succ]
    show .ap :: ([W.nm (oN a)] ++ (loT m (a + 1)).ws) = _
    rw [loT_ws m]; rfl
def ttT : Nat → Nat → T
  | 0, _ => .nm endN
  | m + 1, a => .ap (.nm (oN a)) (.ap (.tk (xN a) (.nm (xN a))) (ttT m (a + 1)))
theorem ttT_ws : ∀ (m a : Nat), (ttT m a).ws = tw a m ++ fin'
  | 0, a => rfl
  | m + 1, a => by
    rw [tw_succ]
    show .ap :: ([W.nm (oN a)] ++ (.ap :: ([W.tk (xN a), W.nm (xN a)] ++ (ttT m (a + 1)).ws))) = _
    rw [ttT_ws m]; rfl
theorem ttT_sc : ∀ (m a : Nat), (ttT m a).sc
  | 0, a => trivial
  | m + 1, a => ⟨trivial, ⟨List.mem_cons_self .., trivial⟩, ttT_sc m (a + 1)⟩
theorem ttT_tks : ∀ (m a : Nat), (ttT m a).tks = (List.range' a m).map xN
  | 0, a => rfl
  | m + 1, a => by
    rw [List.range'_succ]
    show xN a :: (ttT m (a + 1)).tks = _
    rw [ttT_tks m]; rfl
theorem ttT_lv : ∀ (m a : Nat), (ttT m a).lv = ((List.range' a m).flatMap fun k => [oN k, xN k]) ++ [endN]
  | 0, a => rfl
  | m + 1, a => by
    rw [List.range'_succ]
    show oN a :: xN a :: (ttT m (a + 1)).lv = _
    rw [ttT_lv m]; rfl
theorem pre_nodup {c : Nat} (m : Nat) (h : m ≤ 1000) : ((List.range m).map fun k => c :: lett k).Nodup := by
  have := let_nodup m h
  have e : ((List.range m).map fun k => c :: lett k) = ((List.range m).map lett).map (c :: ·) := by rw [List.map_map]; rfl
  rw [e]
  exact List.Pairwise.map _ (fun a b h q => h (List.cons.inj q).2) this
theorem ttT_nd : ∀ (m a : Nat), a + m ≤ 1000 → (ttT m a).lv.Nodup
  | 0, a, _ => by show [endN].Nodup; simp
  | m + 1, a, h => by
    have ih := ttT_nd m (a + 1) (by omega)
    show (oN a :: xN a :: (ttT m (a + 1)).lv).Nodup
    have hm : ∀ n ∈ (ttT m (a + 1)).lv, (∃ k, a + 1 ≤ k ∧ k < 1000 ∧ (n = oN k ∨ n = xN k)) ∨ n = endN := fun n hn => by
      rw [ttT_lv] at hn
      rcases List.mem_append.mp hn with hn | hn
      · obtain ⟨k, hk, hn⟩ := List.mem_flatMap.mp hn
        have := List.mem_range'_1.mp hk
        exact .inl ⟨k, this.1, by omega, by simpa using hn⟩
      · exact .inr (by simpa using hn)
    refine List.nodup_cons.mpr ⟨fun q => ?_, List.nodup_cons.mpr ⟨fun q => ?_, ih⟩⟩
    · rcases List.mem_cons.mp q with q | q
      · exact ox_ne _ _ q
      · rcases hm _ q with ⟨k, h1, h2, e | e⟩ | e
        · have := oN_inj (by omega) h2 e; omega
        · exact ox_ne _ _ e
        · exact absurd (List.cons.inj e).1 (by decide)
    · rcases hm _ q with ⟨k, h1, h2, e | e⟩ | e
      · exact ox_ne _ _ e.symm
      · have := xN_inj (by omega) h2 e; omega
      · exact absurd (List.cons.inj e).1 (by decide)
def turns (n : Nat) : List W := tw 0 n ++ fin'
theorem turns_vd {n : Nat} (h : n ≤ 332) : Vd (turns n) := by
  refine vd_of (ttT_ws n 0) (ttT_sc _ _) (ttT_nd _ _ (by omega)) (by rw [ttT_tks, ← List.range_eq_range']; exact pre_nodup _ (by omega)) fun m hm => ?_
  rw [ttT_lv, ttT_tks] at hm
  rcases hm with hm | hm
  · rcases List.mem_append.mp hm with hm | hm
    · obtain ⟨k, hk, hm⟩ := List.mem_flatMap.mp hm
      have := List.mem_range'_1.mp hk
      simp only [List.mem_cons, List.not_mem_nil, or_false] at hm
      rcases hm with rfl | rfl
      · exact oN_ok (by omega)
      · exact xN_ok (by omega)
    · have : m = endN := by simpa using hm
      rw [this]; exact endN_ok
  · obtain ⟨k, hk, rfl⟩ := List.mem_map.mp hm
    have := List.mem_range'_1.mp hk
    exact xN_ok (by omega)
def way5 : Nat → List Nat
  | 0 => []
  | m + 1 => (5 * m + 2) :: way5 m
theorem tw_ok {a m : Nat} (h : a + m ≤ 1000) : ∀ w ∈ tw a m, wOk w := fun w hw => by
  obtain ⟨k, hk, hw⟩ := List.mem_flatMap.mp hw
  have := List.mem_range'_1.mp hk
  simp only [List.mem_cons, List.not_mem_nil, or_false] at hw
  rcases hw with rfl | rfl | rfl | rfl | rfl
  · trivial
  · exact oN_ok (by omega)
  · trivial
  · exact xN_ok (by omega)
  · exact xN_ok (by omega)
theorem lo_ok {a m : Nat} (h : a + m ≤ 1000) : ∀ w ∈ lo a m ++ fin', wOk w := fun w hw => by
  rcases List.mem_append.mp hw with hw | hw
  · obtain ⟨k, hk, hw⟩ := List.mem_flatMap.mp hw
    have := List.mem_range'_1.mp hk
    simp only [List.mem_cons, List.not_mem_nil, or_false] at hw
    rcases hw with rfl | rfl
    · trivial
    · exact oN_ok (by omega)
  · have : w = .nm endN := by simpa [fin'] using hw
    rw [this]; exact endN_ok
theorem turns_walk : ∀ (m j : Nat), m + j ≤ 1000 → Walk (tw 0 m ++ (lo m j ++ fin')) (way5 m) (lo 0 (m + j) ++ fin')
  | 0, j, _ => by rw [Nat.zero_add]; exact .nil _
  | m + 1, j, h => by
    have st : StepAt (tw 0 (m + 1) ++ (lo (m + 1) j ++ fin')) (tw 0 m ++ [.ap, .nm (oN m)]) [] [] (lo (m + 1) j ++ fin') [] (xN m) := by
      refine ⟨?_, ⟨.nm (xN m), rfl⟩, ⟨loT j (m + 1), loT_ws _ _⟩, by simp, fun w hw => ?_⟩
      · rw [tw_snoc, Nat.zero_add]
        simp
      · rcases List.mem_append.mp hw with hw | hw
        · exact tw_ok (by omega) w hw
        · exact lo_ok (by omega) w hw
    have := Walk.cons st (way := way5 m) (last := lo 0 (m + 1 + j) ++ fin') (by
      have := turns_walk m (j + 1) (by omega)
      rw [lo_succ, show m + (j + 1) = m + 1 + j by omega] at this
      simpa using this)
    rw [List.length_append, tw_len] at this
    exact this
theorem fin_steps : stepsW fin' = [] := rfl
theorem lo_steps : ∀ (m a : Nat), stepsW (lo a m ++ fin') = []
  | 0, a => rfl
  | m + 1, a => by
    rw [lo_succ]
    show stepsW (.ap :: .nm _ :: (lo (a + 1) m ++ fin')) = _
    rw [steps_apnm, steps_nm, lo_steps m]; rfl
theorem turns_steps : ∀ (m a : Nat), stepsW (tw a m ++ fin') = (List.range m).map (fun k => 5 * k + 2)
  | 0, a => rfl
  | m + 1, a => by
    rw [tw_succ]
    show stepsW (.ap :: .nm _ :: .ap :: .tk _ :: .nm _ :: (tw (a + 1) m ++ fin')) = _
    rw [steps_apnm, steps_nm, steps_aptk, steps_tk, steps_nm, turns_steps m, List.range_succ_eq_map]
    simp only [List.map_cons, List.map_map]
    congr 1
/-! ### a row of takes, its names in another order, and what is given -/
def lcT : T → List T → T
  | f, [] => f
  | f, a :: as => lcT (.ap f a) as
theorem lcT_ws : ∀ (as : List T) (f : T), (lcT f as).ws = List.replicate as.length .ap ++ f.ws ++ as.flatMap T.ws
  | [], f => by show f.ws = _; simp
  | a :: as, f => by
    show (lcT (.ap f a) as).ws = _
    rw [lcT_ws as, List.length_cons, List.replicate_succ']
    simp [T.ws]
theorem lcT_lv : ∀ (as : List T) (f : T), (lcT f as).lv = f.lv ++ as.flatMap T.lv
  | [], f => by show f.lv = _; simp
  | a :: as, f => by
    show (lcT (.ap f a) as).lv = _
    rw [lcT_lv as]
    simp [T.lv]
theorem lcT_tks : ∀ (as : List T) (f : T), (lcT f as).tks = f.tks ++ as.flatMap T.tks
  | [], f => by show f.tks = _; simp
  | a :: as, f => by
    show (lcT (.ap f a) as).tks = _
    rw [lcT_tks as]
    simp [T.tks]
theorem lcT_sc : ∀ (as : List T) (f : T), f.sc → (∀ a ∈ as, a.sc) → (lcT f as).sc
  | [], _, h, _ => h
  | a :: as, f, h, g => lcT_sc as _ ⟨h, g a (List.mem_cons_self ..)⟩ fun b hb => g b (List.mem_cons_of_mem _ hb)
def tkT : List Nm → T → T
  | [], t => t
  | n :: ns, t => .tk n (tkT ns t)
theorem tkT_ws : ∀ (ns : List Nm) (t : T), (tkT ns t).ws = ns.map .tk ++ t.ws
  | [], t => rfl
  | n :: ns, t => by show .tk n :: (tkT ns t).ws = _; rw [tkT_ws ns]; rfl
theorem tkT_lv : ∀ (ns : List Nm) (t : T), (tkT ns t).lv = t.lv
  | [], t => rfl
  | n :: ns, t => tkT_lv ns t
theorem tkT_tks : ∀ (ns : List Nm) (t : T), (tkT ns t).tks = ns ++ t.tks
  | [], t => rfl
  | n :: ns, t => by show n :: (tkT ns t).tks = _; rw [tkT_tks ns]; rfl
theorem tkT_sc : ∀ (ns : List Nm) (t : T), t.sc → (∀ n ∈ ns, n ∈ t.lv) → (tkT ns t).sc
  | [], _, h, _ => h
  | n :: ns, t, h, g => ⟨by rw [tkT_lv]; exact g n (List.mem_cons_self ..), tkT_sc ns t h fun m hm => g m (List.mem_cons_of_mem _ hm)⟩
/-- the names in a comb -/
def comb (ns : List Nm) : List W := List.replicate (ns.length - 1) .ap ++ ns.map .nm
theorem comb_T {ns : List Nm} (h : 0 < ns.length) : ∃ t : T, t.ws = comb ns ∧ t.lv = ns ∧ t.tks = [] ∧ t.sc := by
  cases ns with
  | nil => cases h
  | cons n ns =>
    refine ⟨lcT (.nm n) (ns.map T.nm), ?_, ?_, ?_, lcT_sc _ _ trivial fun a ha => ?_⟩
    · rw [lcT_ws, List.length_map]
      unfold comb
      simp [T.ws, List.flatMap_map, ← List.map_eq_flatMap]
    · rw [lcT_lv]
      simp [T.lv, List.flatMap_map]
    · rw [lcT_tks]
      simp [T.tks, List.flatMap_map]
    · obtain ⟨m, _, rfl⟩ := List.mem_map.mp ha
      trivial
theorem steps_notk {ws : List W} (h : ∀ n, W.tk n ∉ ws) : stepsW ws = [] := by
  unfold stepsW
  rw [List.filter_eq_nil_iff]
  intro j _ q
  unfold isStp at q
  cases h1 : ws[j + 1]? with
  | none => rw [h1] at q; cases h2 : ws[j]? with
    | none => rw [h2] at q; cases q
    | some w => rw [h2] at q; cases w <;> cases q
  | some w =>
    cases w with
    | tk n => exact h n (List.mem_of_getElem? h1)
    | ap => rw [h1] at q; cases h2 : ws[j]? with
      | none => rw [h2] at q; cases q
      | some w => rw [h2] at q; cases w <;> cases q
    | nm n => rw [h1] at q; cases h2 : ws[j]? with
      | none => rw [h2] at q; cases q
      | some w => rw [h2] at q; cases w <;> cases q
theorem steps_tks : ∀ (ns : List Nm) (ws : List W), stepsW ws = [] → stepsW (ns.map .tk ++ ws) = []
  | [], ws, h => h
  | n :: ns, ws, h => by
    show stepsW (.tk n :: (ns.map .tk ++ ws)) = _
    rw [steps_tk, steps_tks ns ws h]; rfl
theorem steps_aps (n : Nm) (ws : List W) (h : stepsW ws = []) : ∀ m, stepsW (List.replicate (m + 1) .ap ++ .tk n :: ws) = [m]
  | 0 => by
    show stepsW (.ap :: .tk n :: ws) = _
    rw [steps_aptk, steps_tk, h]; rfl
  | m + 1 => by
    show stepsW (.ap :: .ap :: (List.replicate m .ap ++ .tk n :: ws)) = _
    rw [steps_apap]
    have := steps_aps n ws h m
    rw [List.replicate_succ, List.cons_append] at this
    rw [this]; rfl
theorem comb_notk (ns : List Nm) (n : Nm) : W.tk n ∉ comb ns := fun h => by
  rcases List.mem_append.mp h with h | h
  · have := List.eq_of_mem_replicate h; cases this
  · obtain ⟨_, _, e⟩ := List.mem_map.mp h; cases e
def rowF (j k : Nat) : Nm := if k < j then oN k else xN k
def rowW (R : List Nat) (j m : Nat) : List W := List.replicate m .ap ++ ((List.range' j m).map fun k => W.tk (xN k)) ++ comb (R.map (rowF j)) ++ (List.range' j m).map fun k => W.nm (oN k)
/-- the numbers below n, each once -/
structure Ord (n : Nat) (R : List Nat) : Prop where
  nd : R.Nodup
  mem : ∀ k, k ∈ R ↔ k < n
  len : R.length = n
theorem rowF_ok {j k : Nat} (h : k < 1000) : nmOk (rowF j k) := by
  unfold rowF
  split
  · exact oN_ok h
  · exact xN_ok h
theorem rowW_ok {n j m : Nat} {R : List Nat} (o : Ord n R) (hn : n ≤ 332) (h : j + m = n) : ∀ w ∈ rowW R j m, wOk w := fun w hw => by
  rcases List.mem_append.mp hw with hw | hw
  · rcases List.mem_append.mp hw with hw | hw
    · rcases List.mem_append.mp hw with hw | hw
      · rw [List.eq_of_mem_replicate hw]; trivial
      · obtain ⟨k, hk, rfl⟩ := List.mem_map.mp hw
        have := List.mem_range'_1.mp hk
        exact xN_ok (by omega)
    · rcases List.mem_append.mp hw with hw | hw
      · rw [List.eq_of_mem_replicate hw]; trivial
      · obtain ⟨q, hq, rfl⟩ := List.mem_map.mp hw
        obtain ⟨k, hk, rfl⟩ := List.mem_map.mp hq
        have := (o.mem k).mp hk
        exact rowF_ok (by omega)
  · obtain ⟨k, hk, rfl⟩ := List.mem_map.mp hw
    have := List.mem_range'_1.mp hk
    exact oN_ok (by omega)
theorem row_walk {n : Nat} {R : List Nat} (o : Ord n R) (hn : n ≤ 332) (h0 : 0 < n) : ∀ m j, j + m = n → Walk (rowW R j m) (descs m) (comb (R.map oN))
  | 0, j, h => by
    have e : R.map (rowF j) = R.map oN := List.map_congr_left fun k hk => if_pos (by have := (o.mem k).mp hk; omega)
    have : rowW R j 0 = comb (R.map oN) := by
      unfold rowW
      rw [e]
      simp
    rw [this]
    exact .nil _
  | m + 1, j, h => by
    obtain ⟨R1, R2, eR, n1⟩ := split_first ((o.mem j).mpr (by omega))
    have nd := o.nd
    rw [eR] at nd
    have n2 : j ∉ R2 := (List.nodup_cons.mp (List.nodup_append.mp nd).2.1).1
    have lR := o.len
    have cm : ∀ f : Nat → Nm, comb (R.map f) = List.replicate (n - 1) .ap ++ (R1.map fun k => W.nm (f k)) ++ .nm (f j) :: R2.map fun k => W.nm (f k) := fun f => by
      unfold comb
      rw [List.length_map, lR, eR]
      simp
      rfl
    have fj : rowF j j = xN j := if_neg (Nat.lt_irrefl _)
    have fj1 : rowF (j + 1) j = oN j := if_pos (Nat.lt_succ_self _)
    have fo : ∀ L : List Nat, j ∉ L → (L.map fun k => W.nm (rowF (j + 1) k)) = L.map fun k => W.nm (rowF j k) := fun L hL => List.map_congr_left fun k hk => by
      have hkj : k ≠ j := fun q => hL (q ▸ hk)
      unfold rowF
      by_cases hlt : k < j
      · rw [if_pos hlt, if_pos (by omega)]
      · rw [if_neg hlt, if_neg (by omega)]
    have st : StepAt (rowW R j (m + 1)) (List.replicate m .ap) (((List.range' (j + 1) m).map fun k => W.tk (xN k)) ++ List.replicate (n - 1) .ap ++ R1.map fun k => W.nm (rowF j k)) (R2.map fun k => W.nm (rowF j k)) [.nm (oN j)] ((List.range' (j + 1) m).map fun k => W.nm (oN k)) (xN j) := by
      refine ⟨?_, ?_, ⟨.nm (oN j), rfl⟩, fun q => ?_, rowW_ok o hn h⟩
      · unfold rowW
        rw [cm, fj, List.replicate_succ', List.range'_succ]
        simp
      · obtain ⟨t, e1, _⟩ := comb_T (ns := R.map (rowF j)) (by rw [List.length_map, lR]; exact h0)
        refine ⟨tkT ((List.range' (j + 1) m).map xN) t, ?_⟩
        rw [tkT_ws, e1, cm, fj]
        simp
      · rcases List.mem_append.mp q with q | q
        · rcases List.mem_append.mp q with q | q
          · obtain ⟨_, _, e⟩ := List.mem_map.mp q; cases e
          · have := List.eq_of_mem_replicate q; cases this
        · obtain ⟨k, hk, e⟩ := List.mem_map.mp q
          have e := W.nm.inj e
          have hk1 : k < n := (o.mem k).mp (by rw [eR]; exact List.mem_append_left _ hk)
          unfold rowF at e
          split at e
          · exact ox_ne _ _ e
          · have := xN_inj (by omega) (by omega) e
            exact n1 (this ▸ hk)
    have := Walk.cons st (way := descs m) (last := comb (R.map oN)) (by
      have := row_walk o hn h0 m (j + 1) (by omega)
      unfold rowW at this
      rw [cm, fj1, fo _ n1, fo _ n2] at this
      simpa using this)
    rw [List.length_replicate] at this
    exact this
theorem row_vd {n : Nat} {R : List Nat} (o : Ord n R) (hn : n ≤ 332) (h0 : 0 < n) : Vd (rowW R 0 n) := by
  obtain ⟨c, e1, e2, e3, e4⟩ := comb_T (ns := R.map (rowF 0)) (by rw [List.length_map, o.len]; exact h0)
  have ef : R.map (rowF 0) = R.map xN := List.map_congr_left fun k _ => if_neg (Nat.not_lt_zero _)
  have ew : (lcT (tkT ((List.range' 0 n).map xN) c) ((List.range' 0 n).map fun k => T.nm (oN k))).ws = rowW R 0 n := by
    rw [lcT_ws, tkT_ws, e1, List.length_map, List.length_range']
    unfold rowW
    simp [List.flatMap_map, T.ws, ← List.map_eq_flatMap]
  have elv : (lcT (tkT ((List.range' 0 n).map xN) c) ((List.range' 0 n).map fun k => T.nm (oN k))).lv = R.map xN ++ (List.range n).map oN := by
    rw [lcT_lv, tkT_lv, e2, ef, List.range_eq_range']
    simp [List.flatMap_map, T.lv, ← List.map_eq_flatMap]
  have etk : (lcT (tkT ((List.range' 0 n).map xN) c) ((List.range' 0 n).map fun k => T.nm (oN k))).tks = (List.range n).map xN := by
    rw [lcT_tks, tkT_tks, e3, List.range_eq_range']
    simp [List.flatMap_map, T.tks]
  have pw : ∀ {f : Nat → Nm} {L : List Nat}, (∀ i j, i < 1000 → j < 1000 → f i = f j → i = j) → (∀ k ∈ L, k < 1000) → L.Nodup → (L.map f).Nodup := fun {f L} inj hb nd => by
    rw [List.Nodup, List.pairwise_map]
    exact List.Pairwise.imp_of_mem (fun {a b} ha hb' hne q => hne (inj a b (hb a ha) (hb b hb') q)) nd
  refine vd_of ew (lcT_sc _ _ (tkT_sc _ _ e4 fun m hm => ?_) fun a ha => ?_) ?_ ?_ fun m hm => ?_
  · rw [e2, ef]
    obtain ⟨k, hk, rfl⟩ := List.mem_map.mp hm
    exact List.mem_map.mpr ⟨k, (o.mem k).mpr (by have := List.mem_range'_1.mp hk; omega), rfl⟩
  · obtain ⟨k, _, rfl⟩ := List.mem_map.mp ha
    trivial
  · rw [elv]
    refine List.nodup_append.mpr ⟨pw (fun i j => xN_inj) (fun k hk => by have := (o.mem k).mp hk; omega) o.nd, pw (fun i j => oN_inj) (fun k hk => by have := List.mem_range.mp hk; omega) List.nodup_range, fun a ha b hb q => ?_⟩
    obtain ⟨i, _, rfl⟩ := List.mem_map.mp ha
    obtain ⟨j, _, rfl⟩ := List.mem_map.mp hb
    exact ox_ne j i q.symm
  · rw [etk]
    exact pw (fun i j => xN_inj) (fun k hk => by have := List.mem_range.mp hk; omega) List.nodup_range
  · rw [elv, etk] at hm
    rcases hm with hm | hm
    · rcases List.mem_append.mp hm with hm | hm
      · obtain ⟨k, hk, rfl⟩ := List.mem_map.mp hm
        exact xN_ok (by have := (o.mem k).mp hk; omega)
      · obtain ⟨k, hk, rfl⟩ := List.mem_map.mp hm
        exact oN_ok (by have := List.mem_range.mp hk; omega)
    · obtain ⟨k, hk, rfl⟩ := List.mem_map.mp hm
      exact xN_ok (by have := List.mem_range.mp hk; omega)
theorem row_steps {n : Nat} (R : List Nat) : stepsW (rowW R 0 (n + 1)) = [n] := by
  have e : rowW R 0 (n + 1) = List.replicate (n + 1) .ap ++ .tk (xN 0) :: (((List.range' 1 n).map xN).map .tk ++ (comb (R.map (rowF 0)) ++ (List.range' 0 (n + 1)).map fun k => W.nm (oN k))) := by
    unfold rowW
    rw [List.range'_succ]
    simp
  rw [e]
  refine steps_aps _ _ (steps_tks _ _ (steps_notk fun m hm => ?_)) n
  rcases List.mem_append.mp hm with hm | hm
  · exact comb_notk _ _ hm
  · obtain ⟨_, _, q⟩ := List.mem_map.mp hm; cases q
/-- the numbers below n, turned -/
def rotR (n t : Nat) : List Nat := (List.range n).drop t ++ (List.range n).take t
theorem rot_ord (n t : Nat) : Ord n (rotR n t) := by
  have p : (rotR n t).Perm (List.range n) := by
    unfold rotR
    refine List.perm_append_comm.trans ?_
    rw [List.take_append_drop]
  exact ⟨p.nodup_iff.mpr List.nodup_range, fun k => by rw [p.mem_iff, List.mem_range], by rw [p.length_eq, List.length_range]⟩
/-- what the law asks of a family -/
structure Fam (n : Nat) (ws : List W) (ps : List Nat) (last : List W) (way : List Nat) : Prop where
  v : Vd ws
  st : stepsW ws = ps
  wk : Walk ws way last
  wl : way.length = n
  le : last.length + 3 * n ≤ 1000
  fin : stepsW last = []
theorem way5_len : ∀ m, (way5 m).length = m
  | 0 => rfl
  | m + 1 => by show (way5 m).length + 1 = _; rw [way5_len m]
theorem lo_len : ∀ (m a : Nat), (lo a m).length = 2 * m
  | 0, _ => rfl
  | m + 1, a => by rw [lo_succ]; simp [lo_len m]; omega
theorem fam_lefts {m : Nat} (h : m + 1 ≤ 332) : Fam (m + 1) (lefts (m + 1)) [m] (ids (m + 1) 1) (descs (m + 1)) :=
  ⟨lefts_vd h, lefts_steps m 0 (m + 1), by have := lefts_walk (m + 1) 0 (by omega); rw [Nat.zero_add] at this; exact this, descs_len _, by show 2 + 3 * (m + 1) ≤ 1000; omega, ids_steps _ _⟩
theorem fam_rights {n : Nat} (h : n ≤ 332) : Fam n (rights n) ((List.range n).map (3 * ·)) (ids n 1) (List.replicate n 0) :=
  ⟨rights_vd h, rights_steps n 0 n, by have := rights_walk n 0 (by omega); rw [Nat.zero_add] at this; exact this, List.length_replicate, by show 2 + 3 * n ≤ 1000; omega, ids_steps _ _⟩
theorem fam_turns {n : Nat} (h : n ≤ 199) : Fam n (turns n) ((List.range n).map fun k => 5 * k + 2) (lo 0 n ++ fin') (way5 n) :=
  ⟨turns_vd (by omega), turns_steps n 0, turns_walk n 0 (by omega), way5_len n, by rw [List.length_append, lo_len]; show 2 * n + 1 + 3 * n ≤ 1000; omega, lo_steps n 0⟩
theorem fam_row {m t : Nat} (h : m + 1 ≤ 200) : Fam (m + 1) (rowW (rotR (m + 1) t) 0 (m + 1)) [m] (comb ((rotR (m + 1) t).map oN)) (descs (m + 1)) :=
  ⟨row_vd (rot_ord _ _) (by omega) (Nat.succ_pos _), row_steps _, row_walk (rot_ord _ _) (by omega) (Nat.succ_pos _) (m + 1) 0 (Nat.zero_add _), descs_len _, by
    have l1 := (rot_ord (m + 1) t).len
    unfold comb
    simp only [List.length_append, List.length_replicate, List.length_map, l1]
    omega, steps_notk fun n hn => comb_notk _ _ hn⟩
end Wd

set_option maxHeartbeats 4000000
/-! ways, told by the program -/
namespace Kk
open PySem PySem.Spec PyProof.Rows L2 Wd
def intOf : V → Nat
  | .int i => i.toNat
  | _ => 0
/-- the words at a way's end, if it is one -/
noncomputable def runV (ws : List W) : List V → Option (List W)
  | [] => some ws
  | x :: xs => if stepV ws x = true then runV (stepW ws (intOf x)) xs else none
/-- whether a way leads from ws to ys -/
noncomputable def wayB (ws ys : List W) (xs : List V) : Bool := match runV ws xs with
  | some us => decide (us = ys)
  | none => false
theorem stepV_at {ws : List W} {x : V} (v : Vd ws) (h : stepV ws x = true) : ∃ X A B G Y n, x = .int (X.length : Nat) ∧ StepAt ws X A B G Y n ∧ stepW ws (intOf x) = X ++ A ++ G ++ B ++ Y := by
  cases x with
  | int i =>
    have h2 := (Bool.and_eq_true_iff.mp (show (decide (0 ≤ i) && isStp ws i.toNat) = true from h))
    have h3 := of_decide_eq_true h2.1
    obtain ⟨X, A, B, G, Y, n, e, st, _⟩ := stepAt_of v h2.2
    refine ⟨X, A, B, G, Y, n, congrArg V.int (by omega), st, ?_⟩
    show stepW ws i.toNat = _
    rw [← e]
    exact stepW_at st
  | _ => cases h
theorem step_len' {ws X A B G Y : List W} {n : Nm} (st : StepAt ws X A B G Y n) : (X ++ A ++ G ++ B ++ Y).length ≤ ws.length := by
  rw [st.e]
  simp
  omega
/-- whether a thing is a tuple: xs its items -/
def ThT (K : PySem.W.Frag) (H : Hp) (th : V) (xs : Option (List V)) : Prop := match xs with
  | some l => ∃ q, th = .ref q ∧ SqT K H q l ∧ l.length ≤ 1000 ∧ ∀ x ∈ l, NumT K H x
  | none => ∃ t, TyX K H th t ∧ PySem.W.kitOne K t (.type "tuple") = some false
def dueB (xs : Option (List V)) (f : List V → Bool) : Bool := match xs with
  | some l => f l
  | none => false
theorem intOf_nv (j : Nat) : intOf (nv j) = j := rfl
theorem runV_snoc {x : V} {ys : List W} : ∀ (xs : List V) (us : List W), runV us xs = some ys → stepV ys x = true → runV us (xs ++ [x]) = some (stepW ys (intOf x))
  | [], us, h, hs => by
    have e : us = ys := Option.some.inj h
    subst e
    show (if stepV us x = true then runV (stepW us (intOf x)) [] else none) = _
    rw [if_pos hs]; rfl
  | z :: xs, us, h, hs => by
    have h2 : (if stepV us z = true then runV (stepW us (intOf z)) xs else none) = some ys := h
    show (if stepV us z = true then runV (stepW us (intOf z)) (xs ++ [x]) else none) = _
    split at h2
    · rename_i q
      rw [if_pos q]
      exact runV_snoc xs _ h2 hs
    · cases h2
theorem way_run {us ys : List W} {xs : List V} (h : runV us xs = some ys) : wayB us ys xs = true := by
  unfold wayB
  rw [h]
  exact decide_eq_true rfl
theorem stepV_nv {ys : List W} {j : Nat} (h : isStp ys j = true) : stepV ys (nv j) = true := by
  show (decide ((0 : Int) ≤ (j : Nat)) && isStp ys ((j : Nat) : Int).toNat) = true
  rw [decide_eq_true (by omega)]
  exact h
section
variable {P : Program} {w : World} {K : PySem.W.Frag} {mg : Str → Option Value} {base : Heap}
noncomputable def spIsWay (K : PySem.W.Frag) (C : Addr) : Sp := fun vs H Q _ => ∃ (x y a b : Addr) (ws ys : List W) (th : V) (xs : Option (List V)), vs = [.ref x, .ref y, th] ∧ Pg C H x a ∧ TupF H a (ws.map wv) ∧ Vd ws ∧ ws.length ≤ 1000 ∧ Pg C H y b ∧ TupF H b (ys.map wv) ∧ (∀ v ∈ ys, wOk v) ∧ ThT K H th xs ∧
  ∀ H', Same H H' → Q (.bl (dueB xs (wayB ws ys))) H'
abbrev s_is_way : Stmt := (top 34)
theorem sc_is_way : FnScope ["program", "other", "thing", "words", "place", "_"] ["program", "other", "thing"] (defScope s_is_way) := ⟨rfl, rfl, rfl, by decide +kernel, rfl, by decide +kernel, by decide +kernel⟩
theorem c_is_way {C : Addr} (B : Bt mg) (pc : PC K mg C) (D : DefAt K mg "is_way" s_is_way) (Cis_step : Cal P w K mg base "is_step" 2 ["words", "thing"] (spIsStepG K)) (Cstep_done : Cal P w K mg base "step_done" 3 ["words", "place"] (spStepDone K)) : Cal P w K mg base "is_way" 4 ["program", "other", "thing"] (spIsWay K C) := by
  refine cal_of D sc_is_way (fun _ _ _ _ _ _ us hl => match us, hl with | [_, _, _], _ => rfl) (fun vs H Q E h => ?_) (fun fa cdv A outer st0 H vs Q E hr h => ?_)
  · obtain ⟨x, y, a, b, ws, ys, th, xs, rfl, _⟩ := h
    rfl
  · obtain ⟨x, y, a, b, ws, ys, th, xs, rfl, hx, ha, vd, hl, hy, hb, ok, ht, k⟩ := h
    refine ⟨_, (pss_cons (ps_if (pt_not (pt_val (pe_callB call_isi (by rfl) B.b_isinstance (by decide +kernel) (pa_cons (pv 2) (pa_cons (pe_ty (n := "tuple") B.b_tuple (by decide +kernel)) pa_nil))))) (pss_one (ps_ret pe_bl)) pss_nil)
      (pss_cons (ps_set (i := 3) sc_is_way.nd rfl (by first | exact Or.inl rfl | exact Or.inr rfl) (pe_fld (pv 0) rfl))
      (pss_cons (ps_for PassesOwn.never rfl (pi_tup (pv 2)) (pg_name (i := 4) sc_is_way.nd rfl (by first | exact Or.inl rfl | exact Or.inr rfl)) (pss_cons (ps_if (pt_not (pt_val (pe_c Cis_step (hr.mono (by decide)) (pa_cons (pv 3) (pa_cons (pv 4) pa_nil))))) (pss_one (ps_ret pe_bl)) pss_nil)
      (pss_one (ps_asg (pe_c Cstep_done (hr.mono (by decide)) (pa_cons (pv 3) (pa_cons (pv 4) pa_nil))) (pg_tup (by rfl) (pgs_cons (pg_name (i := 3) sc_is_way.nd rfl (by first | exact Or.inl rfl | exact Or.inr rfl)) (pgs_cons (pg_name (i := 5) sc_is_way.nd rfl (by first | exact Or.inl rfl | exact Or.inr rfl)) pgs_nil)))))))
      (pss_one (ps_ret (pe_cmpR (op_eqD hr.units) (pv 3) (pe_fld (pv 1) rfl) (nomark _))))))), ?_⟩
    cases xs with
    | none =>
      obtain ⟨t, ty, kt⟩ := ht
      exact ⟨_, rfl, _, _, _, _, false, rfl, .ty _, ty, kt, _, rfl, iteT (k H (Same.refl H))⟩
    | some l =>
      obtain ⟨q, rfl, hq, ll, hn⟩ := ht
      refine ⟨_, rfl, _, _, _, _, true, rfl, .ty _, tyx_tup hq, kit_ty kitTT, _, rfl, iteF ?_⟩
      obtain ⟨dx, hx0⟩ := id hx
      refine ⟨_, rfl, x, C, dx, _, _, rfl, hx0, pc.cl, pc.nw, pfs_get a, ?_⟩
      refine ⟨_, rfl, q, rfl, ⟨_, hq⟩, for_tup (K := K) (a := q) (xs := l) (fun i σ H' => ∃ (t : Addr) (us : List W) (v4 v5 : Option V), σ = [some (.ref x), some (.ref y), some (.ref q), some (.ref t), v4, v5] ∧ Same H H' ∧ TupF H' t (us.map wv) ∧ Vd us ∧ us.length ≤ 1000 ∧ runV ws l = runV us (l.drop i))
        ⟨a, ws, none, none, rfl, Same.refl H, ha, vd, hl, rfl⟩ (fun i σ H' _ ⟨_, _, _, _, _, s, _⟩ => SqT.same hq s) ?_ ?_⟩
      · rintro i z σ H1 hz ⟨t, us, v4, v5, rfl, S1, T1, V1, L1, R1⟩
        have hn1 := (hn z (List.mem_of_getElem? hz)).same S1
        have hd : l.drop i = z :: l.drop (i + 1) := by
          obtain ⟨h1, h2⟩ := List.getElem?_eq_some_iff.mp hz
          rw [List.drop_eq_getElem_cons h1, h2]
        rw [hd] at R1
        refine ⟨_, rfl, _, rfl, t, us, z, rfl, T1.sq, V1.ok, fun j _ h => Vd.apIn V1 h, hn1, fun H2 S2 => ⟨_, rfl, ?_⟩⟩
        cases hs : stepV us z with
        | false =>
          have e : wayB ws ys l = false := by
            unfold wayB
            rw [R1]
            unfold runV
            rw [hs]; rfl
          have k2 := k H2 (S1.trans S2)
          have e2 : dueB (some l) (wayB ws ys) = false := e
          rw [e2] at k2
          exact iteT k2
        | true =>
          obtain ⟨X, A1, B1, G, Y, n, rfl, st, eW⟩ := stepV_at V1 hs
          refine iteF ⟨_, rfl, _, rfl, t, us, X, A1, B1, G, Y, n, rfl, T1.same S2, st, by omega, fun H3 r qq m S3 R3 T3 _ => ?_⟩
          refine ⟨r, _, rfl, R3, rfl, _, _, rfl, _, _, rfl, rfl, ?_⟩
          have ln := step_len' st
          refine ⟨qq, _, _, _, rfl, S1.trans (S2.trans S3), T3, step_vd V1 st, by omega, ?_⟩
          rw [R1, ← eW]
          show (if stepV us _ = true then _ else _) = _
          rw [hs]; rfl
      · rintro σ H1 ⟨t, us, v4, v5, rfl, S1, T1, V1, L1, R1⟩
        rw [List.drop_length] at R1
        have e2 : dueB (some l) (wayB ws ys) = decide (us = ys) := by
          show wayB ws ys l = _
          unfold wayB
          rw [R1]; rfl
        have k2 := k H1 S1
        rw [e2] at k2
        obtain ⟨dy, hy1⟩ := hy.same S1
        exact ⟨_, rfl, _, rfl, y, C, dy, _, _, rfl, hy1, pc.cl, pc.nw, pfs_get b, eqD_ws T1.sq (hb.same S1).sq V1.ok ok k2⟩
end
end Kk

set_option maxHeartbeats 4000000
/-! the rest of a program -/
namespace Kk
open PySem PySem.Spec PyProof.Rows L2 Wd
def AtL (ws : List W) : List Nat → List T → Prop
  | [], [] => True
  | p :: ps, t :: ts => At ws p t ∧ AtL ws ps ts
  | _, _ => False
theorem AtL.len {ws : List W} : ∀ {ps : List Nat} {ts : List T}, AtL ws ps ts → ps.length = ts.length
  | [], [], _ => rfl
  | p :: ps, t :: ts, h => by rw [List.length_cons, List.length_cons, AtL.len h.2]
  | [], _ :: _, h => h.elim
  | _ :: _, [], h => h.elim
theorem AtL.app {ws : List W} : ∀ {ps qs : List Nat} {ts us : List T}, AtL ws ps ts → AtL ws qs us → AtL ws (ps ++ qs) (ts ++ us)
  | [], _, [], _, _, g => g
  | p :: ps, _, t :: ts, _, h, g => ⟨h.1, AtL.app h.2 g⟩
  | [], _, _ :: _, _, h, _ => h.elim
  | _ :: _, _, [], _, h, _ => h.elim
theorem AtL.cons {ws : List W} {ps : List Nat} {t : T} {ts : List T} (h : AtL ws ps (t :: ts)) : ∃ p qs, ps = p :: qs ∧ At ws p t ∧ AtL ws qs ts := by
  cases ps with
  | nil => exact h.elim
  | cons p qs => exact ⟨p, qs, rfl, h.1, h.2⟩
theorem AtL.nil {ws : List W} {ps : List Nat} (h : AtL ws ps []) : ps = [] := by
  cases ps with
  | nil => rfl
  | cons p qs => exact h.elim
theorem putK_keys (kvs : List (Key × V)) (k : Key) (v : V) : ((putK kvs k v).map (·.1) = kvs.map (·.1)) ∨ (k ∉ kvs.map (·.1) ∧ (putK kvs k v).map (·.1) = kvs.map (·.1) ++ [k]) := by
  unfold putK
  split
  · refine .inl ?_
    rw [List.map_map]
    refine List.map_congr_left fun kv _ => ?_
    show (if kv.1 = k then (kv.1, v) else kv).1 = kv.1
    split <;> rfl
  · rename_i h
    refine .inr ⟨fun q => h ?_, by rw [List.map_append]; rfl⟩
    obtain ⟨kv, hm, e⟩ := List.mem_map.mp q
    exact List.any_eq_true.mpr ⟨kv, hm, decide_eq_true e⟩
/-- what is put, told by a dict -/
structure PutR (ws : List W) (kvs : List (Key × V)) (put : Nm → Option T) : Prop where
  get : ∀ w, wOk w → (valV kvs (Sum.inr (enc w)) = none ∧ ∀ n, w = .nm n → put n = none) ∨ ∃ n p u, w = .nm n ∧ put n = some u ∧ valV kvs (Sum.inr (enc w)) = some (nv p) ∧ At ws p u
  nd : (kvs.map (·.1)).Nodup
  ks : ∀ k ∈ kvs.map (·.1), k ∈ (takesOf ws).map fun n => (Sum.inr (str n) : Key)
theorem PutR.start (ws : List W) : PutR ws [] noPut := ⟨fun _ _ => .inl ⟨rfl, fun _ _ => rfl⟩, List.nodup_nil, fun _ h => nomatch h⟩
theorem PutR.len {ws : List W} {kvs : List (Key × V)} {put : Nm → Option T} (h : PutR ws kvs put) : kvs.length ≤ ws.length := by
  have := nodup_len h.nd h.ks
  rw [List.length_map, List.length_map] at this
  exact Nat.le_trans this (takesOf_len ws)
theorem PutR.put {ws : List W} {kvs : List (Key × V)} {put : Nm → Option T} (h : PutR ws kvs put) {n : Nm} {p : Nat} {u : T} (ok : nmOk n) (hn : n ∈ takesOf ws) (hu : At ws p u) : PutR ws (putK kvs (Sum.inr (str n)) (nv p)) (upN put n u) := by
  refine ⟨fun w hw => ?_, ?_, ?_⟩
  · by_cases e : w = .nm n
    · subst e
      refine .inr ⟨n, p, u, rfl, by unfold upN; rw [if_pos rfl], ?_, hu⟩
      rw [valV_put, if_pos (show (Sum.inr (enc (W.nm n)) : Key) = Sum.inr (str n) from rfl)]
    · have hne : ¬ (Sum.inr (enc w) : Key) = Sum.inr (str n) := fun q => e (enc_inj (b := .nm n) hw ok (Sum.inr.inj q))
      rw [valV_put, if_neg hne]
      rcases h.get w hw with ⟨h1, h2⟩ | ⟨m, q, x, h1, h2, h3, h4⟩
      · refine .inl ⟨h1, fun m hm => ?_⟩
        unfold upN
        rw [if_neg fun q => e (by rw [hm, q])]
        exact h2 m hm
      · refine .inr ⟨m, q, x, h1, ?_, h3, h4⟩
        unfold upN
        rw [if_neg fun q => e (by rw [h1, q])]
        exact h2
  · rcases putK_keys kvs (Sum.inr (str n)) (nv p) with q | ⟨q1, q2⟩
    · rw [q]; exact h.nd
    · rw [q2]
      exact List.nodup_append.mpr ⟨h.nd, by simp, fun a ha b hb e => q1 (by rw [List.mem_singleton.mp hb] at e; rw [← e]; exact ha)⟩
  · rcases putK_keys kvs (Sum.inr (str n)) (nv p) with q | ⟨q1, q2⟩
    · rw [q]; exact h.ks
    · rw [q2]
      intro k hk
      rcases List.mem_append.mp hk with hk | hk
      · exact h.ks k hk
      · rw [List.mem_singleton.mp hk]
        exact List.mem_map.mpr ⟨n, hn, rfl⟩
/-- the machine's state: what is put at D, what is told at L, what waits at Wl -/
structure Rm (H0 : Hp) (D L Wl : Addr) (ws : List W) (kvs : List (Key × V)) (put : Nm → Option T) (told : List W) (wp : List Nat) (wt : List T) (H : Hp) : Prop where
  s : Same H0 H
  d : H D = some (.dK kvs)
  pr : PutR ws kvs put
  l : H L = some (.lst (told.map wv))
  w : H Wl = some (.lst (wp.reverse.map nv))
  wr : AtL ws wp wt
theorem Rm.same {H0 : Hp} {D L Wl : Addr} {ws : List W} {kvs : List (Key × V)} {put : Nm → Option T} {told : List W} {wp : List Nat} {wt : List T} {H H' : Hp} (h : Rm H0 D L Wl ws kvs put told wp wt H) (k : Same H H') : Rm H0 D L Wl ws kvs put told wp wt H' :=
  ⟨h.s.trans k, k _ _ h.d, h.pr, k _ _ h.l, k _ _ h.w, h.wr⟩
theorem Rm.wrG {H0 : Hp} {D L Wl G : Addr} {ws : List W} {kvs : List (Key × V)} {put : Nm → Option T} {told : List W} {wp : List Nat} {wt : List T} {H : Hp} (h : Rm H0 D L Wl ws kvs put told wp wt H) (n : H0 G = none) (h1 : G ≠ D) (h2 : G ≠ L) (h3 : G ≠ Wl) (o : HO) : Rm H0 D L Wl ws kvs put told wp wt (upd H G o) :=
  ⟨fun c q hc => by rw [upd_ne (ne_of_none hc n)]; exact h.s _ _ hc, by rw [upd_ne h1.symm]; exact h.d, h.pr, by rw [upd_ne h2.symm]; exact h.l, by rw [upd_ne h3.symm]; exact h.w, h.wr⟩
theorem Rm.wrL {H0 : Hp} {D L Wl : Addr} {ws : List W} {kvs : List (Key × V)} {put : Nm → Option T} {told : List W} {wp : List Nat} {wt : List T} {H : Hp} (h : Rm H0 D L Wl ws kvs put told wp wt H) (n : H0 L = none) (h1 : D ≠ L) (h3 : L ≠ Wl) (told2 : List W) : Rm H0 D L Wl ws kvs put told2 wp wt (upd H L (.lst (told2.map wv))) :=
  ⟨fun c q hc => by rw [upd_ne (ne_of_none hc n)]; exact h.s _ _ hc, by rw [upd_ne h1]; exact h.d, h.pr, upd_same, by rw [upd_ne h3.symm]; exact h.w, h.wr⟩
theorem Rm.wrD {H0 : Hp} {D L Wl : Addr} {ws : List W} {kvs : List (Key × V)} {put : Nm → Option T} {told : List W} {wp : List Nat} {wt : List T} {H : Hp} (h : Rm H0 D L Wl ws kvs put told wp wt H) (n : H0 D = none) (h1 : D ≠ L) (h3 : D ≠ Wl) {kvs2 : List (Key × V)} {put2 : Nm → Option T} (p : PutR ws kvs2 put2) : Rm H0 D L Wl ws kvs2 put2 told wp wt (upd H D (.dK kvs2)) :=
  ⟨fun c q hc => by rw [upd_ne (ne_of_none hc n)]; exact h.s _ _ hc, upd_same, p, by rw [upd_ne h1.symm]; exact h.l, by rw [upd_ne h3.symm]; exact h.w, h.wr⟩
theorem Rm.wrW {H0 : Hp} {D L Wl : Addr} {ws : List W} {kvs : List (Key × V)} {put : Nm → Option T} {told : List W} {wp wp2 : List Nat} {wt wt2 : List T} {H : Hp} (h : Rm H0 D L Wl ws kvs put told wp wt H) (n : H0 Wl = none) (h1 : D ≠ Wl) (h3 : L ≠ Wl) (r : AtL ws wp2 wt2) : Rm H0 D L Wl ws kvs put told wp2 wt2 (upd H Wl (.lst (wp2.reverse.map nv))) :=
  ⟨fun c q hc => by rw [upd_ne (ne_of_none hc n)]; exact h.s _ _ hc, by rw [upd_ne h1]; exact h.d, h.pr, by rw [upd_ne h3]; exact h.l, upd_same, r⟩
def spRest (K : PySem.W.Frag) (C : Addr) : Sp := fun vs H Q _ => ∃ (x a : Addr) (ws r : List W), vs = [.ref x] ∧ Pg C H x a ∧ TupF H a (ws.map wv) ∧ Vd ws ∧ ws.length ≤ 1000 ∧ Rst ws r ∧ (∀ w ∈ r, wOk w) ∧ r.length ≤ 1000 ∧
  ∀ H' y c, Same H H' → H y = none → Pg C H' y c → TupF H' c (r.map wv) → Q (.ref y) H'
section
variable {P : Program} {w : World} {K : PySem.W.Frag} {mg : Str → Option Value} {base : Heap}
abbrev s_rest : Stmt := (top 32)
theorem sc_rest : FnScope ["program", "words", "behind", "put", "told", "waiting", "place", "given", "word"] ["program"] (defScope s_rest) := ⟨rfl, rfl, rfl, by decide +kernel, rfl, by decide +kernel, by decide +kernel⟩
theorem c_rest {C : Addr} (B : Bt mg) (pc : PC K mg C) (D : DefAt K mg "rest" s_rest) (Cends_of : Cal P w K mg base "ends_of" 2 ["words"] (spEndsOf K)) (Cstands_as_name : Cal P w K mg base "stands_as_name" 1 ["word"] spStands) (Cbuilt : Cal P w K mg base "built" 7 ["words"] (spBuilt K C)) :
    Cal P w K mg base "rest" 8 ["program"] (spRest K C) := by
  refine cal_of D sc_rest (fun _ _ _ _ _ _ us hl => match us, hl with | [_], _ => rfl) (fun vs H Q E h => ?_) (fun fa cdv A outer st0 H vs Q E hr h => ?_)
  · obtain ⟨x, a, ws, r, rfl, _⟩ := h
    rfl
  · obtain ⟨x, a, ws, r, rfl, ⟨dx, hx⟩, ha, vd, hl, hR, okr, lr, k⟩ := h
    obtain ⟨EE, he⟩ := vd.ends
    obtain ⟨t0, k0, et, hf⟩ := hR
    refine ⟨_, (pss_cons (ps_set (i := 1) sc_rest.nd rfl (by first | exact Or.inl rfl | exact Or.inr rfl) (pe_fld (pv 0) rfl))
      (pss_cons (ps_set (i := 2) sc_rest.nd rfl (by first | exact Or.inl rfl | exact Or.inr rfl) (pe_c Cends_of (hr.mono (by decide)) (pa_cons (pv 1) pa_nil)))
      (pss_cons (ps_set (i := 3) sc_rest.nd rfl (by first | exact Or.inl rfl | exact Or.inr rfl) pe_dnewK)
      (pss_cons (ps_set (i := 4) sc_rest.nd rfl (by first | exact Or.inl rfl | exact Or.inr rfl) (pe_lst pa_nil))
      (pss_cons (ps_set (i := 5) sc_rest.nd rfl (by first | exact Or.inl rfl | exact Or.inr rfl) (pe_lst (pa_cons pe_int pa_nil)))
      (pss_cons (ps_while PassesOwn.never (pt_truth (pv 5) (by intro _; rfl)) (pss_cons (ps_set (i := 6) sc_rest.nd rfl (by first | exact Or.inl rfl | exact Or.inr rfl) (pe_bm0 PySem.F.plainAttrs_list PySem.F.slot_list_pop PySem.F.type_list_pop mt_pop (pv 5)))
      (pss_cons (ps_set (i := 7) sc_rest.nd rfl (by first | exact Or.inl rfl | exact Or.inr rfl) (pe_lst pa_nil))
      (pss_cons (ps_while PassesOwn.never (PW.pt (pw_or (pt_cmp (pc_din (hu_of hr) (pe_ix ix_tup (pv 1) (pv 6) (fun _ _ => rfl)) (pv 3))) (pw_or1 (pt_not (pt_val (pe_c Cstands_as_name (hr.mono (by decide)) (pa_cons (pe_ix ix_tup (pv 1) (pv 6) (fun _ _ => rfl)) pa_nil))))))) (pss_cons (ps_set (i := 8) sc_rest.nd rfl (by first | exact Or.inl rfl | exact Or.inr rfl) (pe_ix ix_tup (pv 1) (pv 6) (fun _ _ => rfl)))
      (C8.pss_cut (ps_set (i := 6) sc_rest.nd rfl (by first | exact Or.inl rfl | exact Or.inr rfl) (pe_ifExp (pt_cmp (pc_din (hu_of hr) (pv 8) (pv 3))) (pe_dget (hu_of hr) (pv 3) (pv 8) (fun _ _ => rfl)) (pe_op op_add (pv 6) pe_int)))
      (pss_one (ps_if (pt_cmpR op_eq (pv 8) (pe_gs B.m_GIVEN) (nomark _)) (pss_one (ps_expr (pe_bm PySem.F.plainAttrs_list PySem.F.slot_list_append PySem.F.type_list_append mt_append (pv 7) (pa_cons (pe_ix ix_tup (pv 2) (pv 6) (fun _ _ => rfl)) pa_nil)))) (pss_one (ps_if (PW.pt (pw_and (pt_val (pe_bm PySem.F.plainAttrs_str PySem.F.slot_str_startswith PySem.F.type_str_startswith mt_startswith (pv 8) (pa_cons (pe_gs B.m_TAKE) pa_nil))) (pw_and1 (pt_truth (pv 7) (by intro _; rfl))))) (pss_one (ps_dput (hu_of hr) (pv 3) (pe_slice sl_str (pv 8) (po_some pe_int) po_none) (pe_bm0 PySem.F.plainAttrs_list PySem.F.slot_list_pop PySem.F.type_list_pop mt_pop (pv 7)) rfl)) (pss_one (ps_if (pt_val (pe_bm PySem.F.plainAttrs_str PySem.F.slot_str_startswith PySem.F.type_str_startswith mt_startswith (pv 8) (pa_cons (pe_gs B.m_TAKE) pa_nil))) (pss_one (ps_expr (pe_bm PySem.F.plainAttrs_list PySem.F.slot_list_append PySem.F.type_list_append mt_append (pv 4) (pa_cons (pv 8) pa_nil)))) pss_nil)))))))))
      (pss_cons (ps_expr (pe_bm PySem.F.plainAttrs_list PySem.F.slot_list_extend PySem.F.type_list_extend mt_extend (pv 4) (pa_cons (pe_op op_rep (pe_lst (pa_cons (pe_gs B.m_GIVEN) pa_nil)) (pe_callB call_len_seq (by rfl) B.b_len (by decide +kernel) (pa_cons (pv 7) pa_nil))) pa_nil)))
      (pss_cons (ps_expr (pe_bm PySem.F.plainAttrs_list PySem.F.slot_list_append PySem.F.type_list_append mt_append (pv 4) (pa_cons (pe_ix ix_tup (pv 1) (pv 6) (fun _ _ => rfl)) pa_nil)))
      (pss_one (ps_expr (pe_bm PySem.F.plainAttrs_list PySem.F.slot_list_extend PySem.F.type_list_extend mt_extend (pv 5) (pa_cons (pv 7) pa_nil))))))))))
      (pss_one (ps_ret (pe_c Cbuilt (hr.mono (by decide)) (pa_cons (pe_callTy call_tupleF (by rfl) B.b_tuple (by decide +kernel) (pa_cons (pv 4) pa_nil)) pa_nil)))))))))), ?_⟩
    refine ⟨_, rfl, x, C, dx, _, _, rfl, hx, pc.cl, pc.nw, pfs_get a, ?_⟩
    refine ⟨_, rfl, a, ws, EE, rfl, ha.sq, vd, he, by omega, fun H1 b S1 nb Tb => ?_⟩
    refine fun D nD => ⟨Nat.zero_le _, fun L nL => ⟨(by show 1 ≤ sizeLine; decide), fun Wl nW => ?_⟩⟩
    have free : ∀ {Ha Hb : Hp} {q : Addr}, Same Ha Hb → Hb q = none → Ha q = none := fun {Ha Hb q} S n => by
      cases h : Ha q with
      | none => rfl
      | some o => rw [S _ _ h] at n; cases n
    have S2 := same_upd (o := HO.dK []) nD
    have D2 : upd H1 D (.dK []) D = some (.dK []) := upd_same
    generalize upd H1 D (.dK []) = H2 at *
    have S3 := same_upd (o := HO.lst []) nL
    have L3 : upd H2 L (.lst []) L = some (.lst []) := upd_same
    have D3 := S3 _ _ D2
    have DL : D ≠ L := ne_of_none D2 nL
    have nL1 : H1 L = none := free S2 nL
    generalize upd H2 L (.lst []) = H3 at *
    have S4 := same_upd (o := HO.lst [.int 0]) nW
    have W4 : upd H3 Wl (.lst [.int 0]) Wl = some (.lst [.int 0]) := upd_same
    have D4 := S4 _ _ D3
    have L4 := S4 _ _ L3
    have DW : D ≠ Wl := ne_of_none D3 nW
    have LW : L ≠ Wl := ne_of_none L3 nW
    have nW1 : H1 Wl = none := free (S2.trans S3) nW
    have S14 := S2.trans (S3.trans S4)
    generalize upd H3 Wl (.lst [.int 0]) = H4 at *
    clear S2 S3 S4 D2 D3 L3 nL nW
    have R4 : Rm H1 D L Wl ws [] noPut [] [0] [t0] H4 := ⟨S14, D4, PutR.start ws, L4, W4, ⟨⟨[], [], by rw [et]; simp, rfl⟩, trivial⟩⟩
    have wpos := vd.pos
    refine ⟨fun m σ H' => ∃ (kvs : List (Key × V)) (put : Nm → Option T) (told : List W) (wp : List Nat) (wt : List T) (v6 v7 v8 : Option V), σ = [some (.ref x), some (.ref a), some (.ref b), some (.ref D), some (.ref L), some (.ref Wl), v6, v7, v8] ∧ Rm H1 D L Wl ws kvs put told wp wt H' ∧ ((wt = [] ∧ told = r ∧ m = 0) ∨ ∃ u us, wt = u :: us ∧ Wd.Fin ws.length m u [] put told us r ∧ wt.length ≤ ws.length), ⟨k0, [], noPut, [], [0], [t0], _, _, _, rfl, R4, .inr ⟨t0, [], rfl, hf, wpos⟩⟩, ?_⟩
    rintro m σ H5 ⟨kvs, put, told, wp, wt, v6, v7, v8, rfl, R5, hcase⟩
    refine ⟨_, rfl, _, .inl ⟨_, SqL.of R5.w, rfl⟩, ?_⟩
    rcases hcase with ⟨rfl, rfl, rfl⟩ | ⟨u, us, rfl, hF, hB⟩
    · have ewp := R5.wr.nil
      subst ewp
      refine ite2 (fun e => by simp at e) (fun _ => ?_)
      refine ⟨_, rfl, L, _, rfl, SqL.of R5.l, fun q oq nq dq => ?_⟩
      have S6 := same_upd (o := HO.frz oq (.tup (told.map wv))) nq
      have T6 : TupF (upd H5 q (.frz oq (.tup (told.map wv)))) q (told.map wv) := TupF.new dq
      refine ⟨q, told, rfl, T6, fun H7 y S7 ny PY => ?_⟩
      have S17 := S1.trans (R5.s.trans (S6.trans S7))
      exact k H7 y q S17 (free (S1.trans (R5.s.trans S6)) ny) PY (T6.same S7)
    · obtain ⟨p0, qs, rfl, hp0, hqs⟩ := R5.wr.cons
      refine ite2 (fun _ => ?_) (fun e => absurd (by simp) e)
      have hw := R5.w
      rw [List.reverse_cons, List.map_append] at hw
      have hW5 : H5 Wl = some (.lst (qs.reverse.map nv ++ [nv p0])) := hw
      refine ⟨fun σ' H' => ∃ (m' : Nat) (kvs : List (Key × V)) (put : Nm → Option T) (told : List W) (wp : List Nat) (wt : List T) (v6 v7 v8 : Option V), m' < m ∧ σ' = [some (.ref x), some (.ref a), some (.ref b), some (.ref D), some (.ref L), some (.ref Wl), v6, v7, v8] ∧ Rm H1 D L Wl ws kvs put told wp wt H' ∧ ((wt = [] ∧ told = r ∧ m' = 0) ∨ ∃ u us, wt = u :: us ∧ Wd.Fin ws.length m' u [] put told us r ∧ wt.length ≤ ws.length), ?_, ?_⟩
      · rintro σ' H' ⟨m', kvs, put, told, wp, wt, v6, v7, v8, lt, e, R, c⟩
        exact ⟨m', lt, kvs, put, told, wp, wt, v6, v7, v8, e, R, c⟩
      refine ⟨_, rfl, .inl ⟨rfl, _, SqL.of hW5⟩, Wl, _, nv p0, rfl, rfl, hW5, by simp, ?_⟩
      rw [List.dropLast_concat]
      have R6 : Rm H1 D L Wl ws kvs put told qs us (upd H5 Wl (.lst (qs.reverse.map nv))) := ⟨fun c o hc => by rw [upd_ne (ne_of_none hc nW1)]; exact R5.s _ _ hc, by rw [upd_ne DW]; exact R5.d, R5.pr, by rw [upd_ne LW]; exact R5.l, upd_same, hqs⟩
      generalize upd H5 Wl (.lst (qs.reverse.map nv)) = H6 at *
      refine ⟨Nat.zero_le _, fun Gl nG => ?_⟩
      have nG1 : H1 Gl = none := free R6.s nG
      have GD : Gl ≠ D := (ne_of_none R6.d nG).symm
      have GL : Gl ≠ L := (ne_of_none R6.l nG).symm
      have GW : Gl ≠ Wl := (ne_of_none R6.w nG).symm
      have S7 := same_upd (o := HO.lst []) nG
      have G7 : upd H6 Gl (.lst []) Gl = some (.lst []) := upd_same
      have R7 := R6.same S7
      generalize upd H6 Gl (.lst []) = H7 at *
      clear S7 R6 hW5 hw R5
      refine ⟨fun m2 σ H' => ∃ (kvs : List (Key × V)) (put : Nm → Option T) (told : List W) (pl : Nat) (t : T) (gp : List Nat) (gs : List T) (v8 : Option V), σ = [some (.ref x), some (.ref a), some (.ref b), some (.ref D), some (.ref L), some (.ref Wl), some (.int (pl : Nat)), some (.ref Gl), v8] ∧ Rm H1 D L Wl ws kvs put told qs us H' ∧ At ws pl t ∧ H' Gl = some (.lst (gp.reverse.map nv)) ∧ AtL ws gp gs ∧ Wd.Fin ws.length m2 t gs put told us r ∧ gs.length + us.length ≤ ws.length ∧ m2 ≤ m, ⟨m, kvs, put, told, p0, u, [], [], _, rfl, R7, hp0, G7, trivial, hF, by simp at hB ⊢; omega, Nat.le_refl _⟩, ?_⟩
      clear hF hB hp0 R7 G7 kvs put told v6 v7 v8
      rintro m2 σ H8 ⟨kvs, put, told, pl, t, gp, gs, v8, rfl, R8, hA, hG, hgs, hF, hB, hm⟩
      have ha8 := (ha.same S1).same R8.s
      have hpl := hA.lt
      obtain ⟨v, hv⟩ : ∃ v, ws[pl]? = some v := ⟨ws[pl], List.getElem?_eq_getElem hpl⟩
      have okv := vd.okAt hv
      have hvv : (ws.map wv)[pl]? = some (wv v) := by rw [List.getElem?_map, hv]; rfl
      refine ⟨_, rfl, _, rfl, a, _, _, _, rfl, rfl, ha8.sq, atI_nat hvv, _, rfl, D, _, rfl, DGet.k (k := Sum.inr (enc v)) R8.d, ?_⟩
      cases m2 with
      | zero => exact hF.elim
      | succ k2 =>
      have get := R8.pr.get v okv
      have dg0 := DGet.k (k := Sum.inr (enc v)) R8.d
      cases t with
      | nm y =>
        have ev : v = .nm y := Option.some.inj (hv.symm.trans hA.nm)
        subst ev
        cases hp : put y with
        | some u2 =>
          obtain ⟨p2, e2, hA2⟩ : ∃ p2, valV kvs (Sum.inr (enc (.nm y))) = some (nv p2) ∧ At ws p2 u2 := by
            rcases get with ⟨_, h⟩ | ⟨n, q, x2, e1, e2, e3, e4⟩
            · rw [h y rfl] at hp; cases hp
            · cases e1; rw [e2] at hp; cases hp; exact ⟨q, e3, e4⟩
          rw [e2] at dg0 ⊢
          refine ⟨true, rfl, iteT (iteT ⟨_, fun σ' H' h => ⟨k2, Nat.lt_succ_self _, h⟩, ?_⟩)⟩
          refine ⟨_, rfl, _, rfl, a, _, _, _, rfl, rfl, ha8.sq, atI_nat hvv, ?_⟩
          refine ⟨fun σ H' => H' = H8 ∧ σ = [some (.ref x), some (.ref a), some (.ref b), some (.ref D), some (.ref L), some (.ref Wl), some (.int (p2 : Nat)), some (.ref Gl), some (wv (.nm y))], ?_, ?_⟩
          · exact ⟨_, rfl, _, rfl, D, _, rfl, dg0, true, rfl, iteT ⟨_, rfl, _, rfl, D, _, rfl, dg0, rfl, rfl⟩⟩
          · rintro σ H' ⟨rfl, rfl⟩
            refine ⟨_, rfl, rfl, _, rfl, ?_⟩
            rw [is_ap okv]
            refine iteF ⟨_, rfl, rfl, _, _, rfl, rfl, ?_⟩
            rw [starts_tk okv]
            refine ⟨_, rfl, iteF (iteF ⟨_, rfl, rfl, _, _, rfl, rfl, ?_⟩)⟩
            rw [starts_tk okv]
            refine ⟨_, rfl, iteF ?_⟩
            unfold Wd.Fin at hF
            rw [hp] at hF
            exact ⟨kvs, put, told, p2, u2, gp, gs, _, rfl, R8, hA2, hG, hgs, hF, hB, by omega⟩
        | none =>
          have e2 : valV kvs (Sum.inr (enc (.nm y))) = none := by
            rcases get with ⟨h, _⟩ | ⟨n, q, x2, e1, e2, e3, e4⟩
            · exact h
            · cases e1; rw [e2] at hp; cases hp
          rw [e2]
          refine ⟨false, rfl, iteF ⟨_, rfl, _, rfl, a, _, _, _, rfl, rfl, ha8.sq, atI_nat hvv, .nm y, rfl, okv, fun H9 S9 => ⟨true, rfl, iteF ?_⟩⟩⟩
          have R9 := R8.same S9
          have ha9 := ha8.same S9
          have G9 := S9 _ _ hG
          have lh := fin_head hF hp
          have lgs := hgs.len
          clear R8 hG dg0 ha8
          refine ⟨_, rfl, .inl ⟨rfl, _, SqL.of R9.l⟩, (by show 1 ≤ sizeLine; decide), fun q1 n1 => ?_⟩
          have S10 := same_upd (o := HO.lst [V.str "@"]) n1
          have Q10 : upd H9 q1 (.lst [V.str "@"]) q1 = some (.lst [V.str "@"]) := upd_same
          have R10 := R9.same S10
          have G10 := S10 _ _ G9
          have ha10 := ha9.same S10
          generalize upd H9 q1 (.lst [V.str "@"]) = H10 at *
          have ek : (((gp.reverse.map nv).length : Nat) : Int) = (gs.length : Nat) := by rw [List.length_map, List.length_reverse, lgs]
          have etn : ((((gp.reverse.map nv).length : Nat) : Int)).toNat = gs.length := by rw [ek]; rfl
          refine ⟨_, rfl, Gl, _, rfl, .inl (SqL.of G10), q1, _, _, rfl, rfl, Q10, by rw [ek]; omega, by rw [ek]; omega, by rw [etn]; exact Nat.le_of_lt (small_lt (m := 1000) (by show 1 * gs.length ≤ 1000; omega) (by decide)), fun q2 n2 => ?_⟩
          rw [etn]
          have er : (List.replicate gs.length [V.str "@"]).flatten = (List.replicate gs.length W.ap).map wv := by
            rw [List.map_replicate, ← wv_at]
            generalize gs.length = n
            induction n with
            | zero => rfl
            | succ n ih => rw [List.replicate_succ, List.replicate_succ, List.flatten_cons, ih]; rfl
          rw [er]
          have S11 := same_upd (o := HO.lst ((List.replicate gs.length W.ap).map wv)) n2
          have Q11 : upd H10 q2 (.lst ((List.replicate gs.length W.ap).map wv)) q2 = some (.lst ((List.replicate gs.length W.ap).map wv)) := upd_same
          have R11 := R10.same S11
          have G11 := S11 _ _ G10
          generalize upd H10 q2 (.lst ((List.replicate gs.length W.ap).map wv)) = H11 at *
          refine ⟨L, q2, _, _, rfl, rfl, R11.l, Q11, ?_, ?_⟩
          · rw [List.length_map, List.length_map, List.length_replicate]
            exact Nat.le_of_lt (small_lt (m := 2000) (by omega) (by decide))
          rw [← List.map_append]
          have R12 := R11.wrL nL1 DL LW (told ++ List.replicate gs.length W.ap)
          have G12 : upd H11 L (.lst ((told ++ List.replicate gs.length W.ap).map wv)) Gl = some (.lst (gp.reverse.map nv)) := by rw [upd_ne GL]; exact G11
          generalize upd H11 L (.lst ((told ++ List.replicate gs.length W.ap).map wv)) = H12 at *
          refine ⟨_, rfl, .inl ⟨rfl, _, SqL.of R12.l⟩, _, rfl, _, rfl, a, _, _, _, rfl, rfl, ((ha.same S1).same R12.s).sq, atI_nat hvv, L, _, _, rfl, rfl, R12.l, ?_, ?_⟩
          · rw [List.length_map, List.length_append, List.length_replicate]
            exact small_lt (m := 2000) (by omega) (by decide)
          have e3 : (told ++ List.replicate gs.length W.ap).map wv ++ [wv (.nm y)] = (told ++ (List.replicate gs.length W.ap ++ [W.nm y])).map wv := by simp
          rw [e3]
          have R13 := R12.wrL nL1 DL LW (told ++ (List.replicate gs.length W.ap ++ [W.nm y]))
          have G13 : upd H12 L (.lst ((told ++ (List.replicate gs.length W.ap ++ [W.nm y])).map wv)) Gl = some (.lst (gp.reverse.map nv)) := by rw [upd_ne GL]; exact G12
          generalize upd H12 L (.lst ((told ++ (List.replicate gs.length W.ap ++ [W.nm y])).map wv)) = H13 at *
          have lqs := R13.wr.len
          refine ⟨_, rfl, .inl ⟨rfl, _, SqL.of R13.w⟩, _, rfl, Wl, Gl, _, _, rfl, rfl, R13.w, G13, ?_, ?_⟩
          · rw [List.length_map, List.length_map, List.length_reverse, List.length_reverse]
            exact Nat.le_of_lt (small_lt (m := 1000) (by omega) (by decide))
          have e4 : qs.reverse.map nv ++ gp.reverse.map nv = (gp ++ qs).reverse.map nv := by rw [List.reverse_append, List.map_append]
          rw [e4]
          have R14 := R13.wrW nW1 DW LW (hgs.app R13.wr)
          unfold Wd.Fin at hF
          rw [hp] at hF
          dsimp only at hF
          cases hz : gs ++ us with
          | nil =>
            rw [hz] at hF R14
            exact ⟨0, kvs, put, _, gp ++ qs, [], _, _, _, by omega, rfl, R14, .inl ⟨rfl, hF, rfl⟩⟩
          | cons u2 us2 =>
            have hlz := congrArg List.length hz
            rw [List.length_append] at hlz
            rw [hz] at hF R14
            exact ⟨k2, kvs, put, _, gp ++ qs, u2 :: us2, _, _, _, by omega, rfl, R14, .inr ⟨u2, us2, rfl, hF, by omega⟩⟩
      | ap f c =>
        obtain ⟨g1, g2, g3⟩ := At.ap he hA
        have ev : v = .ap := Option.some.inj (hv.symm.trans g1)
        subst ev
        have e2 : valV kvs (Sum.inr (enc .ap)) = none := by
          rcases get with ⟨h, _⟩ | ⟨n, q, x2, e1, e2, e3, e4⟩
          · exact h
          · cases e1
        rw [e2] at dg0 ⊢
        refine ⟨false, rfl, iteF ⟨_, rfl, _, rfl, a, _, _, _, rfl, rfl, ha8.sq, atI_nat hvv, .ap, rfl, okv, fun H9 S9 => ⟨false, rfl, iteT ⟨_, fun σ' H' h => ⟨k2, Nat.lt_succ_self _, h⟩, ?_⟩⟩⟩⟩
        have R9 := R8.same S9
        have ha9 := ha8.same S9
        have G9 := S9 _ _ hG
        have dg9 := DGet.k (k := Sum.inr (enc .ap)) R9.d
        rw [e2] at dg9
        refine ⟨_, rfl, _, rfl, a, _, _, _, rfl, rfl, ha9.sq, atI_nat hvv, ?_⟩
        refine ⟨fun σ H' => H' = H9 ∧ σ = [some (.ref x), some (.ref a), some (.ref b), some (.ref D), some (.ref L), some (.ref Wl), some (.int ((pl + 1 : Nat) : Int)), some (.ref Gl), some (wv .ap)], ?_, ?_⟩
        · exact ⟨_, rfl, _, rfl, D, _, rfl, dg9, false, rfl, iteF ⟨_, rfl, _, _, rfl, rfl, rfl, rfl⟩⟩
        · rintro σ H' ⟨rfl, rfl⟩
          refine ⟨_, rfl, rfl, _, rfl, ?_⟩
          rw [is_ap okv]
          refine iteT ?_
          have hb9 := ((Tb.same R9.s)).sq (K := K)
          have lt1 : pl + 1 < ws.length := g2.lt
          refine ⟨_, rfl, .inl ⟨rfl, _, SqL.of G9⟩, _, rfl, _, rfl, b, _, _, _, rfl, rfl, hb9, atI_nat (endsV_get lt1), Gl, _, _, rfl, rfl, G9, ?_, ?_⟩
          · have := hgs.len
            rw [List.length_map, List.length_reverse]
            exact small_lt (m := 1000) (by omega) (by decide)
          · have e3 : gp.reverse.map nv ++ [V.int (EE (pl + 1) : Nat)] = (EE (pl + 1) :: gp).reverse.map nv := by simp; rfl
            rw [e3]
            exact ⟨kvs, put, told, pl + 1, f, EE (pl + 1) :: gp, c :: gs, _, rfl, R9.wrG nG1 GD GL GW _, g2, upd_same, ⟨g3, hgs⟩, hF.2, by rw [List.length_cons]; have := hF.1; omega, by omega⟩
      | tk n c =>
        obtain ⟨g1, g2⟩ := hA.tk
        have ev : v = .tk n := Option.some.inj (hv.symm.trans g1)
        subst ev
        have e2 : valV kvs (Sum.inr (enc (.tk n))) = none := by
          rcases get with ⟨h, _⟩ | ⟨n, q, x2, e1, e2, e3, e4⟩
          · exact h
          · cases e1
        rw [e2] at dg0 ⊢
        refine ⟨false, rfl, iteF ⟨_, rfl, _, rfl, a, _, _, _, rfl, rfl, ha8.sq, atI_nat hvv, .tk n, rfl, okv, fun H9 S9 => ⟨false, rfl, iteT ⟨_, fun σ' H' h => ⟨k2, Nat.lt_succ_self _, h⟩, ?_⟩⟩⟩⟩
        have R9 := R8.same S9
        have ha9 := ha8.same S9
        have G9 := S9 _ _ hG
        have dg9 := DGet.k (k := Sum.inr (enc (.tk n))) R9.d
        rw [e2] at dg9
        refine ⟨_, rfl, _, rfl, a, _, _, _, rfl, rfl, ha9.sq, atI_nat hvv, ?_⟩
        refine ⟨fun σ H' => H' = H9 ∧ σ = [some (.ref x), some (.ref a), some (.ref b), some (.ref D), some (.ref L), some (.ref Wl), some (.int ((pl + 1 : Nat) : Int)), some (.ref Gl), some (wv (.tk n))], ?_, ?_⟩
        · exact ⟨_, rfl, _, rfl, D, _, rfl, dg9, false, rfl, iteF ⟨_, rfl, _, _, rfl, rfl, rfl, rfl⟩⟩
        · rintro σ H' ⟨rfl, rfl⟩
          refine ⟨_, rfl, rfl, _, rfl, ?_⟩
          rw [is_ap okv]
          refine iteF ⟨_, rfl, rfl, _, _, rfl, rfl, ?_⟩
          rw [starts_tk okv]
          refine ⟨_, rfl, iteT ⟨_, rfl, _, .inl ⟨_, SqL.of G9, rfl⟩, ?_⟩⟩
          cases gs with
          | nil =>
            have egp := hgs.nil
            subst egp
            refine iteF ⟨_, rfl, rfl, _, _, rfl, rfl, ?_⟩
            rw [starts_tk okv]
            refine ⟨_, rfl, iteT ⟨_, rfl, .inl ⟨rfl, _, SqL.of R9.l⟩, _, rfl, L, _, _, rfl, rfl, R9.l, ?_, ?_⟩⟩
            · have := fin_told _ _ _ _ _ _ _ hF
              rw [List.length_map]
              exact small_lt (m := 1000) (by omega) (by decide)
            · have e3 : told.map wv ++ [wv (.tk n)] = (told ++ [W.tk n]).map wv := by simp
              rw [e3]
              exact ⟨kvs, put, told ++ [W.tk n], pl + 1, c, [], [], _, rfl, R9.wrL nL1 DL LW _, g2, by rw [upd_ne GL]; exact G9, trivial, hF, hB, by omega⟩
          | cons g gs =>
            obtain ⟨q0, qs0, rfl, hq0, hqs0⟩ := hgs.cons
            refine ite2 (fun _ => ?_) (fun e => absurd (by simp) e)
            have hw9 := G9
            rw [List.reverse_cons, List.map_append] at hw9
            have hW9 : H' Gl = some (.lst (qs0.reverse.map nv ++ [nv q0])) := hw9
            refine ⟨_, rfl, .inl ⟨rfl, _, SqL.of hW9⟩, Gl, _, nv q0, rfl, rfl, hW9, by simp, ?_⟩
            rw [List.dropLast_concat]
            have R10 := R9.wrG nG1 GD GL GW (.lst (qs0.reverse.map nv))
            have G10 : upd H' Gl (.lst (qs0.reverse.map nv)) Gl = some (.lst (qs0.reverse.map nv)) := upd_same
            generalize upd H' Gl (.lst (qs0.reverse.map nv)) = H10 at *
            refine ⟨_, rfl, _, rfl, _, rfl, _, rfl, Nat.le_of_lt (small_lt (m := 9) (len_enc okv) (by decide)), ?_⟩
            rw [cut1]
            have lk := R10.pr.len
            refine ⟨D, _, rfl, DPut.k (k := Sum.inr (str n)) R10.d (small_lt (m := 1000) (by omega) (by decide)), ?_⟩
            have R11 := R10.wrD nD DL DW (R10.pr.put okv (p := q0) (u := g) (by
              unfold takesOf
              exact List.mem_filterMap.mpr ⟨_, List.mem_of_getElem? hv, rfl⟩) hq0)
            exact ⟨_, upN put n g, told, pl + 1, c, qs0, gs, _, rfl, R11, g2, by rw [upd_ne GD]; exact G10, hqs0, hF, by rw [List.length_cons] at hB; omega, by omega⟩
def spMany (K : PySem.W.Frag) (C : Addr) : Sp := fun vs H Q _ => ∃ (x a : Addr) (ws r : List W), vs = [.ref x] ∧ Pg C H x a ∧ TupF H a (ws.map wv) ∧ Vd ws ∧ ws.length ≤ 1000 ∧ Rst ws r ∧ Vd r ∧ r.length ≤ 1000 ∧
  ∀ H', Same H H' → Q (.int ((apsOf ws : Nat) - (apsOf r : Nat))) H'
abbrev s_many_steps : Stmt := (top 33)
theorem sc_many_steps : FnScope ["program"] ["program"] (defScope s_many_steps) := ⟨rfl, rfl, rfl, by decide +kernel, rfl, by decide +kernel, by decide +kernel⟩
theorem c_many_steps {C : Addr} (B : Bt mg) (D : DefAt K mg "many_steps" s_many_steps) (Cgivens : Cal P w K mg base "givens" 1 ["program"] (spOfP K C rGivens)) (Crest : Cal P w K mg base "rest" 8 ["program"] (spRest K C)) : Cal P w K mg base "many_steps" 9 ["program"] (spMany K C) := by
  refine cal_of D sc_many_steps (fun _ _ _ _ _ _ us hl => match us, hl with | [_], _ => rfl) (fun vs H Q E h => ?_) (fun fa cdv A outer st0 H vs Q E hr h => ?_)
  · obtain ⟨x, a, ws, r, rfl, _⟩ := h
    rfl
  · obtain ⟨x, a, ws, r, rfl, hx, ha, vd, hl, hR, vr, lr, k⟩ := h
    refine ⟨_, (pss_one (ps_ret (pe_op op_sub (pe_c Cgivens (hr.mono (by decide)) (pa_cons (pv 0) pa_nil)) (pe_c Cgivens (hr.mono (by decide)) (pa_cons (pe_c Crest (hr.mono (by decide)) (pa_cons (pv 0) pa_nil)) pa_nil))))), ?_⟩
    refine ⟨_, rfl, x, a, ws, rfl, hx, ha, vd, by omega, fun H1 v S1 ev => ?_⟩
    refine ⟨_, rfl, x, a, ws, r, rfl, hx.same S1, ha.same S1, vd, hl, hR, vr.ok, lr, fun H2 y c S2 ny Py Tc => ?_⟩
    refine ⟨y, c, r, rfl, Py, Tc, vr, by omega, fun H3 v3 S3 ev3 => ?_⟩
    have e1 : v = .int (apsOf ws : Nat) := ev
    have e2 : v3 = .int (apsOf r : Nat) := ev3
    subst e1
    subst e2
    exact ⟨_, _, rfl, rfl, k H3 (S1.trans (S2.trans S3))⟩
end
end Kk

set_option maxHeartbeats 4000000
/-! what the laws of steps ask -/
namespace Kk
open PySem PySem.Spec PyProof.Rows L2 Wd
section
variable {P : Program} {w : World} {K : PySem.W.Frag} {mg : Str → Option Value} {base : Heap}
/-- something nested deeply -/
def spDeep : Sp := fun vs H Q _ => vs = [] ∧ ∀ H' a xs, Same H H' → TupF H' a xs → (xs.length ≤ 1 ∧ ∀ x ∈ xs, ∃ b ys, x = .ref b ∧ TupF H' b ys) → Q (.ref a) H'
/-- told as it is due -/
def spNumbersR (K : PySem.W.Frag) : Sp := fun vs H Q _ => ∃ (t d : Addr) (ns : List Nat), vs = [.ref t, .ref d] ∧ TupF H t (ns.map nv) ∧ H d = some (.lst (ns.map nv)) ∧ ns.length ≤ 4000 ∧ ∀ H', Same H H' → Q (.bl true) H'
/-- told as it is due, a tuple -/
def spNumbersT (K : PySem.W.Frag) : Sp := fun vs H Q _ => ∃ (t d : Addr) (ns : List Nat), vs = [.ref t, .ref d] ∧ TupF H t (ns.map nv) ∧ TupF H d (ns.map nv) ∧ ns.length ≤ 4000 ∧ ∀ H', Same H H' → Q (.bl true) H'
abbrev s_numbersR : Stmt := (top 41)
theorem sc_numbersR : FnScope ["_law_told", "_law_due", "_law_item"] ["_law_told", "_law_due"] (defScope s_numbersR) := ⟨rfl, rfl, rfl, by decide +kernel, rfl, by decide +kernel, by decide +kernel⟩
theorem c_numbersR (B : Bt mg) (D : DefAt K mg "_law_numbers" s_numbersR) (C_law_is_number : Cal P w K mg base "_law_is_number" 1 ["_law_thing"] (spIntG K)) : Cal P w K mg base "_law_numbers" 2 ["_law_told", "_law_due"] (spNumbersT K) := by
  refine cal_of D sc_numbersR (fun _ _ _ _ _ _ us hl => match us, hl with | [_, _], _ => rfl) (fun vs H Q E h => ?_) (fun fa cdv A outer st0 H vs Q E hr h => ?_)
  · obtain ⟨t, d, ns, rfl, _⟩ := h
    rfl
  · obtain ⟨t, d, ns, rfl, ht, hd, hl, k⟩ := h
    refine ⟨_, (pss_cons (ps_if (PW.pt (pw_or (pt_not (pt_val (pe_callB call_isi (by rfl) B.b_isinstance (by decide +kernel) (pa_cons (pv 0) (pa_cons (pe_ty (n := "tuple") B.b_tuple (by decide +kernel)) pa_nil))))) (pw_or1 (pt_cmpR op_ne (pe_callB call_len_seq (by rfl) B.b_len (by decide +kernel) (pa_cons (pv 0) pa_nil)) (pe_callB call_len_seq (by rfl) B.b_len (by decide +kernel) (pa_cons (pv 1) pa_nil)) (nomark _))))) (pss_one (ps_ret pe_bl)) pss_nil)
      (pss_one (ps_ret (pe_and (pe_callB (cr_all rfl) (by rfl) B.b_all (by decide +kernel) (pa_cons (pe_lc (own := [("_law_item", 2)]) (g := (gName 2)) (tt := tYes) rfl sc_numbersR.nd (pi_tup (pv 0)) (blkOk_by (own := [("_law_item", 2)]) (N := ["_law_told", "_law_due", "_law_item"]) (sc := defScope s_numbersR) (by decide +kernel)) (fun _ _ _ _ _ => (pg_name (i := 2) sc_numbersR.nd rfl (by first | exact Or.inl rfl | exact Or.inr rfl))) (fun _ _ _ _ _ => pts_nil) (fun _ _ _ _ _ => (pe_c C_law_is_number (hr.mono (by decide)) (pa_cons (pv 2) pa_nil)))) pa_nil)) (pe_one (pe_cmpR (op_eqD hr.units) (pv 0) (pe_callTy call_tupleT (by rfl) B.b_tuple (by decide +kernel) (pa_cons (pv 1) pa_nil)) (nomark _))))))), ?_⟩
    refine ⟨_, rfl, _, _, _, _, true, rfl, .ty _, tyx_tup ht.sq, kit_ty kitTT, _, rfl, iteF ?_⟩
    refine ⟨_, rfl, _, _, rfl, .inr ht.sq, _, rfl, _, _, rfl, .inr hd.sq, rfl, _, rfl, ite2 (fun e => by simp at e) (fun _ => ?_)⟩
    refine ⟨_, rfl, t, rfl, ⟨_, ht.sq⟩, fun D nD => lc_fmT (f := nv) (r := fun _ => some (.bl true)) ht.sq nD (by omega) (fun i n H' Qy Qn hn S1 gy gn => ?_) (fun H1 S1 L1 => ?_)⟩
    · exact ⟨rfl, _, rfl, _, rfl, NumT.int _, gy _ _ (Same.refl _) rfl⟩
    · have e : ns.filterMap (fun _ => some (V.bl true)) = (ns.map fun _ => true).map V.bl := by
        rw [map_some', List.map_map]; rfl
      rw [e] at L1
      refine ⟨D, _, rfl, SqL.of L1, ?_⟩
      have ea : ((ns.map fun _ => true).all id) = true := by
        rw [List.all_eq_true]
        intro x hx
        obtain ⟨_, _, rfl⟩ := List.mem_map.mp hx
        rfl
      rw [ea]
      have t1 := ht.same S1
      have d1 := hd.same S1
      exact ⟨_, rfl, iteT ⟨_, rfl, _, rfl, d, _, rfl, d1.sq, eqD_same t1.sq d1.sq (fun x hx => by
        obtain ⟨n, _, rfl⟩ := List.mem_map.mp hx
        exact .inl ⟨_, rfl⟩) (k _ S1)⟩⟩
theorem kit_selfP {C : Addr} : PySem.W.kitOne K (.ref C) (.ref C) = some true := by
  unfold PySem.W.kitOne
  rw [if_pos (by simp)]
/-- the words are those that are due -/
def spIsWords (K : PySem.W.Frag) (C : Addr) : Sp := fun vs H Q _ => ∃ (x a b : Addr) (ws : List W), vs = [.ref x, .ref b] ∧ Pg C H x a ∧ TupF H a (ws.map wv) ∧ TupF H b (ws.map wv) ∧ (∀ v ∈ ws, wOk v) ∧ ws.length ≤ 4000 ∧ Q (.bl true) H
abbrev s_is_words : Stmt := (top 42)
theorem sc_is_words : FnScope ["_law_thing", "_law_due"] ["_law_thing", "_law_due"] (defScope s_is_words) := ⟨rfl, rfl, rfl, by decide +kernel, rfl, by decide +kernel, by decide +kernel⟩
theorem c_is_words {C : Addr} (B : Bt mg) (pc : PC K mg C) (D : DefAt K mg "_law_is_words" s_is_words) : Cal P w K mg base "_law_is_words" 1 ["_law_thing", "_law_due"] (spIsWords K C) := by
  refine cal_of D sc_is_words (fun _ _ _ _ _ _ us hl => match us, hl with | [_, _], _ => rfl) (fun vs H Q E h => ?_) (fun fa cdv A outer st0 H vs Q E hr h => ?_)
  · obtain ⟨x, a, b, ws, rfl, _⟩ := h
    rfl
  · obtain ⟨x, a, b, ws, rfl, ⟨dx, hx⟩, ha, hb, ok, hl, k⟩ := h
    have m_Program := pc.mg
    refine ⟨_, (pss_one (ps_ret (pe_and (pe_callB call_isi (by rfl) B.b_isinstance (by decide +kernel) (pa_cons (pv 0) (pa_cons (pe_gr m_Program) pa_nil))) (pe_and (pe_callB call_isi (by rfl) B.b_isinstance (by decide +kernel) (pa_cons (pe_fld (pv 0) rfl) (pa_cons (pe_ty (n := "tuple") B.b_tuple (by decide +kernel)) pa_nil))) (pe_one (pe_cmpR (op_eqD hr.units) (pe_fld (pv 0) rfl) (pv 1) (nomark _))))))), ?_⟩
    refine ⟨_, rfl, _, _, _, _, true, rfl, .own C, .base (.ins hx pc.cl pc.ha pc.hn pc.ht pc.hm), kit_selfP, _, rfl, iteT ?_⟩
    refine ⟨_, rfl, x, C, dx, _, _, rfl, hx, pc.cl, pc.nw, pfs_get a, _, _, _, _, true, rfl, .ty _, tyx_tup ha.sq, kit_ty kitTT, _, rfl, iteT ?_⟩
    exact ⟨_, rfl, x, C, dx, _, _, rfl, hx, pc.cl, pc.nw, pfs_get a, _, rfl, eqD_same ha.sq hb.sq (plain_ws ok) k⟩
end
end Kk

set_option maxHeartbeats 2000000
/-! a tuple times a number, any number from 0 on -/
namespace L2
open PySem PySem.Spec PyProof.Rows
theorem tuple_mul1 (l : Addr) (items : Array Value) (n : Nat) (dd : Option Addr) (sl : Array (Option Value)) (x : Int) (u : Tok) (c0 : (decide (x < -(2 ^ 63)) || decide (x ≥ 2 ^ 63)) = false) (c1 : (items.isEmpty || x == 1) = true) :
    Meets (Builtin.«tuple.__mul__» ⟨[.ref l, .int x u], []⟩) (fun _ R s => s.heap.get? l = some { cls := .type "tuple", dict := dd, data := .seq items n, slots := sl } ∧
      R (.ok (.ret (Value.ref l))) s) :=
  .of_wp fun prog w A R s h => by
    obtain ⟨hp, g, d, tk, os⟩ := s
    obtain ⟨hl, h⟩ := h
    have f1 := AutoSeq1.idx_int
    wp_walk using wpAny_loadPart' hl
    repeat (first
      | (refine wpAny_ite_false (decide_eq_false (by rw [c0]; exact Bool.false_ne_true)) ?_; wp_walk using wpAny_loadPart' hl)
      | (refine wpAny_ite_true (decide_eq_true (by rw [c1])) ?_; wp_walk using wpAny_loadPart' hl))
    exact ⟨_, rfl, h⟩
theorem tuple_mul0 (l : Addr) (items : Array Value) (n : Nat) (dd : Option Addr) (sl : Array (Option Value)) (x : Int) (u : Tok) (c0 : (decide (x < -(2 ^ 63)) || decide (x ≥ 2 ^ 63)) = false) (c1 : (items.isEmpty || x == 1) = false) (c2 : (decide (x ≤ 0) || items.isEmpty) = true) :
    Meets (Builtin.«tuple.__mul__» ⟨[.ref l, .int x u], []⟩) (fun _ R s => s.heap.get? l = some { cls := .type "tuple", dict := dd, data := .seq items n, slots := sl } ∧
      R (.ok (.ret (Value.ref s.heap.objs.size))) { s with heap := s.heap.push { cls := Value.type "tuple", data := Data.seq #[] }, toks := s.toks }) :=
  .of_wp fun prog w A R s h => by
    obtain ⟨hp, g, d, tk, os⟩ := s
    obtain ⟨hl, h⟩ := h
    have f1 := AutoSeq1.idx_int
    wp_walk using wpAny_loadPart' hl
    repeat (first
      | (refine wpAny_ite_false (decide_eq_false (by rw [c0]; exact Bool.false_ne_true)) ?_; wp_walk using wpAny_loadPart' hl)
      | (refine wpAny_ite_false (decide_eq_false (by rw [c1]; exact Bool.false_ne_true)) ?_; wp_walk using wpAny_loadPart' hl)
      | (refine wpAny_ite_true (decide_eq_true (by rw [c2])) ?_; wp_walk using wpAny_loadPart' hl))
    exact ⟨_, rfl, h⟩
/-- a tuple times a number -/
def rRepTF (K : PySem.W.Frag) : R2 := fun x y H Q => ∃ l k xs, x = .ref l ∧ y = .int ((k : Nat) : Int) ∧ SqT K H l xs ∧ xs ≠ [] ∧ k ≤ 1000 ∧ xs.length ≤ 1000 ∧ (k = 1 → Q (.ref l) H) ∧ (k ≠ 1 → ∀ p o, H p = none → o.dict = none → Q (.ref p) (upd H p (.frz o (.tup (List.replicate k xs).flatten))))
section
variable {X : Cx}
theorem op_repTF : OpR X (binaryOp .Mult) (rRepTF X.K) := by
  intro pins s σ H x y v u Q I rx ry h
  obtain ⟨l, k, xs, rfl, rfl, hT, hne, h2, hz, q1, q⟩ := h
  cases rx
  obtain ⟨t, rfl⟩ := ry
  obtain ⟨its, r, ⟨⟨cls, dd, data, sl⟩, ho, hc, n, hd⟩, hs⟩ := I.tuple hT
  simp only at hc hd
  subst hc hd
  have hle : its.length = xs.length := r.length.symm
  have hn : its ≠ [] := fun e => hne (by
    rw [e] at hle
    exact List.eq_nil_of_length_eq_zero hle.symm)
  have hi : its.toArray.isEmpty = false := by
    cases its with
    | nil => exact absurd rfl hn
    | cons a b => rfl
  have hsz0 : its.toArray.size = xs.length := by rw [List.size_toArray, hle]
  have hm : ((its.toArray.size : Nat) : Int) * ((k : Nat) : Int) ≤ 1000000 := by
    rw [hsz0]
    have a1 : xs.length * k ≤ 1000 * 1000 := Nat.mul_le_mul hz h2
    have a2 : ((xs.length : Nat) : Int) * ((k : Nat) : Int) = ((xs.length * k : Nat) : Int) := (Int.natCast_mul _ _).symm
    omega
  have flen : (List.replicate k its).flatten.length ≤ sizeLine := by
    rw [PyProof.Rows.lm_len_rep_flat, hle, sizeLine_eq]
    have a1 : k * xs.length ≤ 1000 * 1000 := Nat.mul_le_mul h2 hz
    omega
  have c0 : (decide (((k : Nat) : Int) < -(2 ^ 63)) || decide (((k : Nat) : Int) ≥ 2 ^ 63)) = false := by
    rw [decide_eq_false (by omega), decide_eq_false (by omega)] <;> rfl
  rcases Nat.eq_zero_or_pos k with k0 | kp
  · have c1 : (its.toArray.isEmpty || ((k : Nat) : Int) == 1) = false := by
      rw [hi, Bool.false_or]
      exact beq_eq_false_iff_ne.mpr (by omega)
    have c2 : (decide (((k : Nat) : Int) ≤ 0) || its.toArray.isEmpty) = true := by
      rw [hi, Bool.or_false]
      exact decide_eq_true (by omega)
    refine wpAny_binaryOp_repeat_ref (T := "tuple") (U := "int") (by decide) ⟨_, ho, rfl⟩ (fun s' => typeIs_int s' _ t) noFill_tuple_mul F.fills_int_mul F.slot_int_rmul repeat_tuple F.slot_int_index.lookup
      (call_meets F.slot_int_rmul (typeIs_int s _ t) F.entry_int_rmul (F.args_int_rmul_2 _ _) (int_rmul_tuple _ t l its.toArray n dd sl)
        ⟨ho, rfl, ⟨_, ho, rfl⟩, call_meets F.slot_tuple_mul ⟨_, ho, rfl⟩ F.entry_tuple_mul (F.args_tuple_mul_2 _ _) (tuple_mul0 l its.toArray n dd sl _ t c0 c1 c2) ⟨ho, ?_⟩⟩)
    have e0 : (List.replicate k xs).flatten = [] := by rw [k0]; rfl
    refine ⟨.ref s.heap.objs.size, _, I.laid (t' := s.toks) (o := .frz { cls := .type "tuple", data := .seq #[] } (.tup (List.replicate k xs).flatten)) (fun b ob q => Heap.get?_push_of_some _ q) (Nat.le_refl _) ?_, rfl, q (by omega) _ _ (I.hok.fresh (Nat.le_refl _)) rfl⟩
    rw [e0]
    exact ⟨Heap.get?_push_size _ rfl, Nat.zero_le _, [], .nil, IsTup.new _ _⟩
  · by_cases k1 : k = 1
    · have c1 : (its.toArray.isEmpty || ((k : Nat) : Int) == 1) = true := by
        rw [hi, Bool.false_or, k1]
        rfl
      refine wpAny_binaryOp_repeat_ref (T := "tuple") (U := "int") (by decide) ⟨_, ho, rfl⟩ (fun s' => typeIs_int s' _ t) noFill_tuple_mul F.fills_int_mul F.slot_int_rmul repeat_tuple F.slot_int_index.lookup
        (call_meets F.slot_int_rmul (typeIs_int s _ t) F.entry_int_rmul (F.args_int_rmul_2 _ _) (int_rmul_tuple _ t l its.toArray n dd sl)
          ⟨ho, rfl, ⟨_, ho, rfl⟩, call_meets F.slot_tuple_mul ⟨_, ho, rfl⟩ F.entry_tuple_mul (F.args_tuple_mul_2 _ _) (tuple_mul1 l its.toArray n dd sl _ t c0 c1) ⟨ho, ?_⟩⟩)
      exact ⟨.ref l, H, I, rfl, q1 k1⟩
    · have c1 : (its.toArray.isEmpty || ((k : Nat) : Int) == 1) = false := by
        rw [hi, Bool.false_or]
        exact beq_eq_false_iff_ne.mpr (by omega)
      have c2 : (decide (((k : Nat) : Int) ≤ 0) || its.toArray.isEmpty) = false := by
        rw [hi, Bool.or_false]
        exact decide_eq_false (by omega)
      have c4 : Builtin.Tuple.tupleTooMany (((its.toArray.size : Nat) : Int) * ((k : Nat) : Int)) = false := by
        unfold Builtin.Tuple.tupleTooMany
        rw [sizeLine_eq]
        exact decide_eq_false (by omega)
      refine wpAny_binaryOp_repeat_ref (T := "tuple") (U := "int") (by decide) ⟨_, ho, rfl⟩ (fun s' => typeIs_int s' _ t) noFill_tuple_mul F.fills_int_mul F.slot_int_rmul repeat_tuple F.slot_int_index.lookup
        (call_meets F.slot_int_rmul (typeIs_int s _ t) F.entry_int_rmul (F.args_int_rmul_2 _ _) (int_rmul_tuple _ t l its.toArray n dd sl)
          ⟨ho, rfl, ⟨_, ho, rfl⟩, call_meets F.slot_tuple_mul ⟨_, ho, rfl⟩ F.entry_tuple_mul (F.args_tuple_mul_2 _ _) (tuple_mulW l its.toArray n dd sl _ t c0 c1 c2 (by omega) c4 (by rw [size_rep, List.size_toArray]; exact flen)) ⟨ho, ?_⟩⟩)
      rw [size_rep]
      refine ⟨.ref s.heap.objs.size, _, I.laid (t' := s.toks) (o := .frz { cls := .type "tuple", data := .seq (List.replicate k its).flatten.toArray } (.tup (List.replicate k xs).flatten)) (fun b ob q => Heap.get?_push_of_some _ q) (Nat.le_refl _) ?_, rfl, q k1 _ _ (I.hok.fresh (Nat.le_refl _)) rfl⟩
      exact ⟨Heap.get?_push_size _ rfl, by rw [PyProof.Rows.lm_len_rep_flat, sizeLine_eq]; have a1 : k * xs.length ≤ 1000 * 1000 := Nat.mul_le_mul h2 hz; omega, _, r.rep k, IsTup.new _ _⟩
end
end L2

set_option maxHeartbeats 2000000
/-! a tuple turned around by [::-1] -/
namespace HT
open PySem PySem.Spec PyProof.Rows
section
variable {prog : Program} {w : World} {A : Around} {E : Value → Shared → Prop} {s : Shared}
theorem adjust_rev (n : Nat) : Builtin.Slice.sliceAdjust none none (-1) (n : Int) = ((n : Int) - 1, -1) := by
  unfold Builtin.Slice.sliceAdjust
  simp
theorem places_rev (n : Nat) : Builtin.Slice.slicePlaces ((n : Int) - 1) (-1) (-1) = n := by
  unfold Builtin.Slice.slicePlaces
  have h1 : ¬ ((-1 : Int) > 0) := by decide
  simp only [h1, if_false]
  split
  · rw [show (- -1 : Int) = 1 by decide, Int.ediv_one]
    omega
  · omega
theorem fm_map {α : Type} {f : Nat → Option α} {g : Nat → α} : ∀ (l : List Nat), (∀ m ∈ l, f m = some (g m)) → l.filterMap f = l.map g
  | [], _ => rfl
  | m :: l, h => by
    rw [List.filterMap_cons, h m (List.mem_cons_self ..), List.map_cons]
    show _ :: l.filterMap f = _
    rw [fm_map l fun k hk => h k (List.mem_cons_of_mem _ hk)]
theorem applied_rev {sl : Addr} {vl vu vs : Value} {n : Nat} {Q : Int × Int × Nat → Shared → Prop} (hs : s.heap.IsSliceOf sl vl vu vs) (pl : IsPart vl none) (pu : IsPart vu none) (ps : IsPart vs (some (-1)))
    (h : Q ((n : Int) - 1, -1, n) s) : wpAny (model prog w) A (Builtin.Slice.sliceApplied (.ref sl) (pure (n : Int))) Q E s := by
  obtain ⟨os, hos, hcs, hds⟩ := id hs
  unfold Builtin.Slice.sliceApplied Builtin.Slice.sliceFields
  refine wpAny_bind (wpAny_bind (wpAny_field hos hds (x := vl) rfl (wpAny_bind (wpAny_field hos hds (x := vu) rfl (wpAny_bind (wpAny_field hos hds (x := vs) rfl (wpAny_pure ?_)))))))
  refine wpAny_bind (slicePart_ ps ?_)
  show wpAny _ _ (if ((-1 : Int) == 0) = true then _ else _) _ _ s
  rw [if_neg (by decide)]
  refine wpAny_bind (slicePart_ pl (wpAny_bind (slicePart_ pu (wpAny_bind (wpAny_pure ?_)))))
  show wpAny _ _ (match Builtin.Slice.sliceAdjust none none (-1) (n : Int) with | (lo, hi) => pure (lo, (-1 : Int), Builtin.Slice.slicePlaces lo hi (-1))) _ _ s
  rw [adjust_rev n]
  show wpAny _ _ (pure ((n : Int) - 1, (-1 : Int), Builtin.Slice.slicePlaces ((n : Int) - 1) (-1) (-1))) _ _ s
  rw [places_rev]
  exact wpAny_pure h
theorem pick_rev (xs : Array Value) : ((List.range xs.size).filterMap fun (m : Nat) => xs[((xs.size : Int) - 1 + (m : Int) * (-1)).toNat]?).toArray = xs.toList.reverse.toArray := by
  congr 1
  apply List.ext_getElem?
  intro i
  have e : ((List.range xs.size).filterMap fun (m : Nat) => xs[((xs.size : Int) - 1 + (m : Int) * (-1)).toNat]?) = (List.range xs.size).map fun m => (xs[xs.size - 1 - m]?).getD default := by
    refine fm_map _ fun m hm => ?_
    have hm := List.mem_range.mp hm
    rw [show ((xs.size : Int) - 1 + (m : Int) * (-1)).toNat = xs.size - 1 - m by omega, Array.getElem?_eq_getElem (by omega)]
    rfl
  rw [e, List.getElem?_map]
  by_cases hi : i < xs.size
  · rw [List.getElem?_range hi, List.getElem?_reverse (by rw [Array.length_toList]; exact hi), Array.length_toList, Array.getElem?_toList]
    show some ((xs[xs.size - 1 - i]?).getD default) = _
    rw [Array.getElem?_eq_getElem (by omega)]
    rfl
  · rw [List.getElem?_eq_none (by rw [List.length_range]; omega), List.getElem?_eq_none (by rw [List.length_reverse, Array.length_toList]; omega)]
    rfl
theorem getItem_tuple_rev {t sl : Addr} {items : Array Value} {vl vu vs : Value} {Q : Value → Shared → Prop} (ht : IsTup s.heap t items) (hs : s.heap.IsSliceOf sl vl vu vs) (pl : IsPart vl none) (pu : IsPart vu none) (ps : IsPart vs (some (-1)))
    (h : Q (.ref s.heap.objs.size) { s with heap := s.heap.push { cls := .type "tuple", data := .seq items.toList.reverse.toArray } })
    (hsz : items.size ≤ sizeLine) : wpAny (model prog w) A (getItem (.ref t) (.ref sl)) Q E s := by
  have htake : sizeOk (.seq items.toList.reverse.toArray) := by
    show items.toList.reverse.toArray.size ≤ sizeLine
    rw [List.size_toArray, List.length_reverse, Array.length_toList]
    exact hsz
  obtain ⟨os, hos, hcs, hds⟩ := id hs
  have hTs : s.TypeIs (.ref sl) "slice" := ⟨os, hos, hcs⟩
  unfold getItem
  try with_reducible refine wpAny_holding ?_
  first | refine wpAny_bind (wpAny_pure ?_) | skip
  refine wpAny_bind (wpAny_sequenceKey ht.typeIs (by decide) ?_)
  refine wpAny_bind (wpAny_callSpecial?_slot (name := Str.ofString "__getitem__") ht.typeIs PyProof.Rows.slot_tuple_getitem
    (wpAny_call_entry PyProof.Rows.slot_tuple_getitem ht.typeIs entry_tuple_getitem ?_ (args_tuple_getitem _ _)))
  show wpAny _ _ (Builtin.Tuple.tupleItemsOf (.ref t) >>= _) _ _ s
  refine wpAny_bind (tupleItemsOf_ ht ?_)
  refine wpAny_bind (wpAny_typeOf hTs ?_)
  rw [if_pos (by decide)]
  refine wpAny_bind (applied_rev hs pl pu ps ?_)
  have hno : ¬ (((((items.size : Nat) : Int) - 1) == 0 && (-1 : Int) == 1 && items.size == items.size) = true) := by
    rw [show ((-1 : Int) == 1) = false by decide, Bool.and_false, Bool.false_and]
    exact Bool.false_ne_true
  show wpAny _ _ (if ((((items.size : Nat) : Int) - 1) == 0 && (-1 : Int) == 1 && items.size == items.size) = true then _ else _) _ _ s
  rw [if_neg hno, pick_rev]
  first
    | exact wpAny_bind (m := Builtin.Tuple.tupleExact _) (wpAny_newObj_type (wpAny_pure ⟨_, rfl, wpAny_pure h⟩) htake)
    | exact wpAny_bind (m := Builtin.Tuple.tupleExact _) (wpAny_newObj_type (wpAny_bind (wpAny_pure (wpAny_pure ⟨_, rfl, wpAny_pure h⟩))) htake)
    | exact wpAny_bind (wpAny_bind (m := Builtin.Tuple.tupleExact _) (wpAny_newObj_type (wpAny_pure (wpAny_pure ⟨_, rfl, wpAny_pure h⟩)) htake))
    | exact wpAny_bind (wpAny_bind (m := Builtin.Tuple.tupleExact _) (wpAny_newObj_type (wpAny_pure ⟨_, rfl, wpAny_pure h⟩) htake))
end
end HT
namespace L2
open PySem PySem.Spec PyProof.Rows
section
variable {X : Cx}
def tRevT (K : PySem.W.Frag) (te : TE) : TE := fun σ H Q => te σ H fun x H1 => ∃ a xs, x = .ref a ∧ SqT K H1 a xs ∧ ∀ p o, H1 p = none → o.dict = none → Q (.ref p) (upd H1 p (.frz o (.tup xs.reverse)))
theorem pe_revT {e : Expr} {te : TE} {k : Nat} {p1 p2 p3 pos : Pos} (he : PE X e te) : PE X (.Subscript e (.Slice none none (some (.UnaryOp .USub (.Constant (.int 1) k p1) p2)) p3) pos) (tRevT X.K te) := by
  refine ⟨fun pins s σ H Q I h => ?_⟩
  refine Subscript_ (thn (he.run pins s σ H _ I h) fun v s1 ⟨x, H1, I1, r1, q1⟩ => ?_)
  obtain ⟨a, xs, ex, hx, q⟩ := q1
  subst ex
  cases r1
  have hst : PO X (some (.UnaryOp .USub (.Constant (.int 1) k p1) p2)) (tPart (tUn (rU fun i => .int (-i)) (tC (.int 1)))) := po_some (pe_un un_neg pe_int)
  refine wpAny_Slice (thn (po_none.run pins s1 σ H1 (fun o H2 => o = none ∧ H2 = H1) I1 ⟨rfl, rfl⟩) fun vl s2 ⟨l, H2, I2, pl, el, e2⟩ => ?_)
  subst el e2
  refine thn (po_none.run pins s2 σ H2 (fun o H3 => o = none ∧ H3 = H2) I2 ⟨rfl, rfl⟩) fun vu s3 ⟨u, H3, I3, pu, eu, e3⟩ => ?_
  subst eu e3
  refine thn (hst.run pins s3 σ H3 (fun o H4 => o = some (-1) ∧ H4 = H3) I3 ⟨1, rfl, -1, rfl, rfl, rfl⟩) fun vs s4 ⟨o, H4, I4, ps, eo, e4⟩ => ?_
  subst eo e4
  have I5 : Inv X pins σ H4 { s4 with heap := s4.heap.push { cls := .type "slice", data := .fields #[vl, vu, vs] } } := I4.kept (t' := s4.toks) fun b ob q => Heap.get?_push_of_some _ q
  obtain ⟨its, r, ht, hz⟩ := I5.tuple hx
  have hlen := r.length
  show wpAny (model X.prog X.w) X.A (subscriptTail e (.Slice none none (some (.UnaryOp .USub (.Constant (.int 1) k p1) p2)) p3) (.ref a) (.ref s4.heap.objs.size)) (EP X pins σ Q) X.xe { s4 with heap := s4.heap.push { cls := .type "slice", data := .fields #[vl, vu, vs] } }
  refine tail_any (ops := [.ref a, .ref s4.heap.objs.size]) ht.typeIs (PyProof.Rows.slot_tuple_getitem.lookup) ?_ (by with_unfolding_all rfl)
  refine HT.getItem_tuple_rev ht (Heap.IsSliceOf.new _ vl vu vs) pl pu ps ?_ (by rw [List.size_toArray]; omega)
  refine ⟨.ref _, _, I5.laid (t' := s4.toks) (o := .frz { cls := .type "tuple", data := .seq its.reverse.toArray } (.tup xs.reverse)) (fun b ob q => Heap.get?_push_of_some _ q) (Nat.le_refl _) ?_, rfl, q _ _ (I5.hok.fresh (Nat.le_refl _)) rfl⟩
  exact ⟨Heap.get?_push_size _ rfl, by rw [List.length_reverse]; exact hz, _, r.reverse, IsTup.new _ _⟩
end
end L2

set_option maxHeartbeats 4000000
/-! four families of words, told by the law -/
namespace Kk
open PySem PySem.Spec PyProof.Rows L2 Wd
/-- what a family's def tells -/
def spFam (lim : Nat) : Sp := fun vs H Q _ => ∃ (p g s : Addr) (n : Nat), vs = [.ref p, .int (n : Nat)] ∧ PotAt H p g s ∧ 1 ≤ n ∧ n ≤ lim ∧
  ∀ (H' : Hp) (q a b c d : Addr) (ws last : List W) (ps way : List Nat), Fam n ws ps last way → PotAt H' p g s → Keep p g H H' → TupF H' q [.ref a, .ref b, .ref c, .ref d] → TupF H' a (ws.map wv) → TupF H' b (ps.map nv) → TupF H' c (last.map wv) → TupF H' d (way.map nv) → Q (.ref q) H'
theorem tk_v (m : Nm) : V.str (("/" : Str) ++ str m) = wv (.tk m) := congrArg V.str (take_nm m)
theorem two_v (m : Nm) : [wv (.tk m), sv m] = [W.tk m, W.nm m].map wv := rfl
theorem three_v (m : Nm) : [wv .ap, wv (.tk m), sv m] = [W.ap, W.tk m, W.nm m].map wv := rfl
theorem five_v (m o : Nm) : [wv .ap, wv (.nm o), wv .ap, wv (.tk m), V.str (str m)] = [W.ap, W.nm o, W.ap, W.tk m, W.nm m].map wv := rfl
theorem ids_one (n : Nat) : ids n 1 = [.tk (lett n), .nm (lett n)] := ids_succ n 0
theorem rep_one {v : V} : ∀ n : Nat, (List.replicate n [v]).flatten = List.replicate n v
  | 0 => rfl
  | n + 1 => by rw [List.replicate_succ, List.flatten_cons, rep_one n, List.replicate_succ]; rfl
theorem cut_last2 (xs : List V) : cutV xs (some (-2)) none = xs.drop (xs.length - 2) := by
  have e : HT.sIx xs.length 0 (some (-2)) = xs.length - 2 := by
    show (if (-2 : Int) < 0 then ((-2 : Int) + (xs.length : Int)).toNat else min (-2 : Int).toNat xs.length) = _
    rw [if_pos (by decide)]
    omega
  unfold cutV
  rw [HT.sIx_none, e]
  exact List.take_of_length_le (by rw [List.length_drop]; exact Nat.le_refl _)
theorem ids_snoc (a m : Nat) : ids a (m + 1) = ids a m ++ [.tk (lett (a + m)), .nm (lett (a + m))] := by
  unfold ids
  rw [List.range'_concat, List.flatMap_append]
  simp
theorem ids_len : ∀ (m a : Nat), (ids a m).length = 2 * m
  | 0, _ => rfl
  | m + 1, a => by rw [ids_succ]; simp [ids_len m]; omega
theorem descs_map : ∀ n : Nat, descs n = (List.range n).map fun k => n - 1 - k
  | 0 => rfl
  | n + 1 => by
    show n :: descs n = _
    rw [List.range_succ_eq_map, List.map_cons, List.map_map, descs_map n]
    congr 1
    refine List.map_congr_left fun k _ => ?_
    show n - 1 - k = n + 1 - 1 - (k + 1)
    omega
section
variable {P : Program} {w : World} {K : PySem.W.Frag} {mg : Str → Option Value} {base : Heap}
/-- a tuple times a number, as a tuple -/
theorem repTF_of {H : Hp} {a : Addr} {xs : List V} {n : Nat} {Q : VK} (ha : TupF H a xs) (hne : xs ≠ []) (hn : n ≤ 1000) (hl : xs.length ≤ 1000) (k : ∀ H' r, Same H H' → TupF H' r (List.replicate n xs).flatten → Q (.ref r) H') : rRepTF K (.ref a) (.int ((n : Nat) : Int)) H Q :=
  ⟨a, n, xs, rfl, rfl, ha.sq, hne, hn, hl, fun e => k _ _ (Same.refl _) (by subst e; simpa using ha), fun _ p o np dp => k _ _ (same_upd np) (TupF.new dp)⟩
abbrev s_lefts : Stmt := (top 43)
theorem sc_lefts : FnScope ["_law_pot_here", "_law_many", "_law_words", "_law_at", "_law_way"] ["_law_pot_here", "_law_many"] (defScope s_lefts) := ⟨rfl, rfl, rfl, by decide +kernel, rfl, by decide +kernel, by decide +kernel⟩
theorem c_lefts (B : Bt mg) (D : DefAt K mg "_law_lefts" s_lefts) (C_law_letters : Cal P w K mg base "_law_letters" 1 ["_law_number"] spLetters) : Cal P w K mg base "_law_lefts" 2 ["_law_pot_here", "_law_many"] (spFam 332) := by
  refine cal_of D sc_lefts (fun _ _ _ _ _ _ us hl => match us, hl with | [_, _], _ => rfl) (fun vs H Q E h => ?_) (fun fa cdv A outer st0 H vs Q E hr h => ?_)
  · obtain ⟨p, g, s, n, rfl, _⟩ := h
    rfl
  · obtain ⟨p, g, s, n, rfl, P0, h1, hn, k⟩ := h
    have big := bigN
    refine ⟨_, (pss_cons (ps_set (i := 2) sc_lefts.nd rfl (by first | exact Or.inl rfl | exact Or.inr rfl) (pe_op op_repTF (pe_tupF (pa_cons pe_str pa_nil)) (pv 1)))
      (pss_cons (ps_for PassesOwn.never rfl (pi_range1 (by rfl) B.b_range (pa_cons (pe_op op_add (pv 1) pe_int) pa_nil)) (pg_name (i := 3) sc_lefts.nd rfl (by first | exact Or.inl rfl | exact Or.inr rfl)) (pss_one (ps_set (i := 2) sc_lefts.nd rfl (by first | exact Or.inl rfl | exact Or.inr rfl) (pe_op op_catF (pv 2) (pe_tupF (pa_cons (pe_op op_add_str pe_str (pe_c C_law_letters (hr.mono (by decide)) (pa_cons (pv 3) pa_nil))) (pa_cons (pe_c C_law_letters (hr.mono (by decide)) (pa_cons (pv 3) pa_nil)) pa_nil)))))))
      (pss_cons (ps_set (i := 4) sc_lefts.nd rfl (by first | exact Or.inl rfl | exact Or.inr rfl) (pe_callTy call_tupleF (by rfl) B.b_tuple (by decide +kernel) (pa_cons (pe_lc (own := [("_law_at", 3)]) (g := (gName 3)) (tt := tYes) rfl sc_lefts.nd (pi_range1 (by rfl) B.b_range (pa_cons (pv 1) pa_nil)) (blkOk_by (own := [("_law_at", 3)]) (N := ["_law_pot_here", "_law_many", "_law_words", "_law_at", "_law_way"]) (sc := defScope s_lefts) (by decide +kernel)) (fun _ _ _ _ _ => (pg_name (i := 3) sc_lefts.nd rfl (by first | exact Or.inl rfl | exact Or.inr rfl))) (fun _ _ _ _ _ => pts_nil) (fun _ _ _ _ _ => (pe_op op_sub (pe_op op_sub (pv 1) pe_int) (pv 3)))) pa_nil)))
      (pss_one (ps_ret (pe_tupF (pa_cons (pv 2) (pa_cons (pe_slice sl_tupG (pv 4) po_none (po_some pe_int)) (pa_cons (pe_slice sl_tupG (pv 2) (po_some (pe_un un_neg pe_int)) po_none) (pa_cons (pv 4) pa_nil)))))))))), ?_⟩
    refine ⟨(by show 1 ≤ sizeLine; decide), fun r1 o1 n1 d1 => ?_⟩
    have S1 := same_upd (o := HO.frz o1 (.tup [V.str ("@" : Str)])) n1
    have T1 : TupF (upd H r1 (.frz o1 (.tup [V.str ("@" : Str)]))) r1 [V.str ("@" : Str)] := TupF.new d1
    generalize upd H r1 (.frz o1 (.tup [V.str ("@" : Str)])) = H1 at *
    refine ⟨_, rfl, repTF_of T1 (by simp) (by omega) (by show 1 ≤ 1000; decide) fun H2 r2 S2 T2 => ?_⟩
    rw [rep_one, wv_at, ← List.map_replicate] at T2
    have S02 := S1.trans S2
    refine ⟨_, rfl, _, _, rfl, rfl, _, rfl, by omega, by omega, for_range (lo := 0) (n := (((n : Nat) : Int) + 1).toNat) (fun i σ H' => ∃ (r : Addr) (v3 : Option V), σ = [some (.ref p), some (.int (n : Nat)), some (.ref r), v3, none] ∧ Same H H' ∧ TupF H' r ((List.replicate n W.ap ++ ids 0 i).map wv))
      ⟨r2, none, rfl, S02, by simpa [ids] using T2⟩ ?_ ?_⟩
    · rintro i σ H3 hi ⟨r, v3, rfl, S3, T3⟩
      have e0 : (0 : Int) + (i : Int) = (i : Int) := by omega
      rw [e0]
      have hi' : i ≤ n := by omega
      have hl := lett_len i (by omega)
      have sn : (str (lett i)).length = (lett i).length := by rw [TL.len_tl]; rfl
      have sz : ("/" : Str).length + (str (lett i)).length ≤ sizeLine := by
        rw [sn, TL.len_tl, slash]
        exact Nat.le_of_lt (small_lt (m := 10) (by simp; omega) (by decide))
      refine ⟨_, rfl, _, rfl, i, rfl, by omega, _, _, rfl, rfl, sz, _, rfl, i, rfl, by omega, (by show 2 ≤ sizeLine; decide), fun r4 o4 n4 d4 => ?_⟩
      have tke : V.str (("/" : Str) ++ str (lett i)) = wv (.tk (lett i)) := tk_v (lett i)
      have S4 := same_upd (o := HO.frz o4 (.tup [V.str (("/" : Str) ++ str (lett i)), sv (lett i)])) n4
      have T4 : TupF (upd H3 r4 (.frz o4 (.tup [V.str (("/" : Str) ++ str (lett i)), sv (lett i)]))) r4 [V.str (("/" : Str) ++ str (lett i)), sv (lett i)] := TupF.new d4
      generalize upd H3 r4 (.frz o4 (.tup [V.str (("/" : Str) ++ str (lett i)), sv (lett i)])) = H4 at *
      rw [tke, two_v (lett i)] at T4
      refine catF_of (T3.same S4) T4 ?_ fun H5 r5 S5 T5 => ?_
      · rw [List.length_map, List.length_map, List.length_append, List.length_replicate, ids_len]
        show n + 2 * i + 2 ≤ 100000
        omega
      refine ⟨r5, _, rfl, S3.trans (S4.trans S5), ?_⟩
      rw [← List.map_append, List.append_assoc] at T5
      rw [ids_snoc, Nat.zero_add]
      exact T5
    · rintro σ H3 ⟨r, v3, rfl, S3, T3⟩
      rw [show (((n : Nat) : Int) + 1).toNat = n + 1 by omega] at T3
      refine ⟨_, rfl, _, rfl, by omega, by omega, fun D nD => ?_⟩
      refine lc_range (lo := 0) (n := ((n : Nat) : Int).toNat) (fun i H' => Same H3 H' ∧ H' D = some (.lst (((List.range i).map fun k => n - 1 - k).map nv))) ⟨same_upd nD, upd_same⟩ ?_ ?_
      · rintro i H4 hi ⟨S4, L4⟩
        have hi' : i < n := by omega
        refine ⟨rfl, _, rfl, _, _, rfl, rfl, _, rfl, _, _, rfl, rfl, _, L4, ?_, fun b o hb => ?_, ?_⟩
        · rw [List.length_map, List.length_map, List.length_range]
          exact small_lt (m := 1000) (by omega) (by decide)
        · rw [upd_ne (ne_of_none hb nD)]
          exact S4 _ _ hb
        · rw [upd_same, List.range_succ, List.map_append, List.map_append]
          show some (HO.lst (_ ++ [V.int (((n : Nat) : Int) - 1 - ((0 : Int) + (i : Int)))])) = some (HO.lst (_ ++ [nv (n - 1 - i)]))
          rw [show ((n : Nat) : Int) - 1 - ((0 : Int) + (i : Int)) = ((n - 1 - i : Nat) : Int) by omega]
          rfl
      · rintro H4 ⟨S4, L4⟩
        rw [Int.toNat_natCast, ← descs_map] at L4
        refine ⟨D, _, rfl, SqL.of L4, fun q5 o5 n5 d5 => ?_⟩
        have S5 := same_upd (o := HO.frz o5 (.tup ((descs n).map nv))) n5
        have T5 : TupF (upd H4 q5 (.frz o5 (.tup ((descs n).map nv)))) q5 ((descs n).map nv) := TupF.new d5
        generalize upd H4 q5 (.frz o5 (.tup ((descs n).map nv))) = H5 at *
        have T5w := T3.same (S4.trans S5)
        obtain ⟨m, rfl⟩ : ∃ m, n = m + 1 := ⟨n - 1, by omega⟩
        refine ⟨_, rfl, _, rfl, _, rfl, cutF_of T5 fun H6 r6 S6 T6 => ?_⟩
        refine ⟨_, rfl, _, rfl, _, rfl, ?_⟩
        dsimp only [tNoPart]
        refine cutF_of (T5w.same S6) fun H7 r7 S7 T7 => ?_
        refine ⟨_, rfl, (by show 4 ≤ sizeLine; decide), fun q8 o8 n8 d8 => ?_⟩
        have S8 := same_upd (o := HO.frz o8 (.tup [V.ref r, V.ref r6, V.ref r7, V.ref q5])) n8
        have eb : cutV ((descs (m + 1)).map nv) none (some 1) = [m].map nv := cut_to (c := 1)
        rw [eb] at T6
        have ec : cutV ((List.replicate (m + 1) W.ap ++ ids 0 (m + 1 + 1)).map wv) (some (-2)) none = (ids (m + 1) 1).map wv := by
          rw [cut_last2, ids_snoc, ← List.append_assoc, List.map_append]
          have : ∀ (a b : List V), b.length = 2 → (a ++ b).drop ((a ++ b).length - 2) = b := fun a b h => by
            rw [List.length_append, h, Nat.add_sub_cancel, List.drop_left]
          rw [this _ _ (by simp), Nat.zero_add]
          rfl
        rw [ec] at T7
        have S38 := S4.trans (S5.trans (S6.trans (S7.trans S8)))
        refine k _ q8 r r6 r7 q5 _ _ _ _ (fam_lefts hn) (P0.keep (S3.trans S38)) (Same.keep (S3.trans S38)) (TupF.new d8) ((T3.same S38)) (T6.same (S7.trans S8)) (T7.same S8) (T5.same (S6.trans (S7.trans S8)))
theorem rg_snoc (a m : Nat) : rg a (m + 1) = rg a m ++ [.ap, .tk (lett (a + m)), .nm (lett (a + m))] := by
  unfold rg
  rw [List.range'_concat, List.flatMap_append]
  simp
theorem rg_len : ∀ (m a : Nat), (rg a m).length = 3 * m
  | 0, _ => rfl
  | m + 1, a => by rw [rg_succ]; simp [rg_len m]; omega
theorem tk_sz {i : Nat} (h : i < 1000) : ("/" : Str).length + (str (lett i)).length ≤ sizeLine := by
  have hl := lett_len i h
  have sn : (str (lett i)).length = (lett i).length := by rw [TL.len_tl]; rfl
  rw [sn, TL.len_tl, slash]
  exact Nat.le_of_lt (small_lt (m := 10) (by simp; omega) (by decide))
abbrev s_rights : Stmt := (top 44)
theorem sc_rights : FnScope ["_law_pot_here", "_law_many", "_law_words", "_law_at", "_law_last"] ["_law_pot_here", "_law_many"] (defScope s_rights) := ⟨rfl, rfl, rfl, by decide +kernel, rfl, by decide +kernel, by decide +kernel⟩
theorem c_rights (B : Bt mg) (D : DefAt K mg "_law_rights" s_rights) (C_law_letters : Cal P w K mg base "_law_letters" 1 ["_law_number"] spLetters) : Cal P w K mg base "_law_rights" 2 ["_law_pot_here", "_law_many"] (spFam 332) := by
  refine cal_of D sc_rights (fun _ _ _ _ _ _ us hl => match us, hl with | [_, _], _ => rfl) (fun vs H Q E h => ?_) (fun fa cdv A outer st0 H vs Q E hr h => ?_)
  · obtain ⟨p, g, s, n, rfl, _⟩ := h
    rfl
  · obtain ⟨p, g, s, n, rfl, P0, h1, hn, k⟩ := h
    have big := bigN
    refine ⟨_, (pss_cons (ps_set (i := 2) sc_rights.nd rfl (by first | exact Or.inl rfl | exact Or.inr rfl) (pe_tupF pa_nil))
      (pss_cons (ps_for PassesOwn.never rfl (pi_range1 (by rfl) B.b_range (pa_cons (pv 1) pa_nil)) (pg_name (i := 3) sc_rights.nd rfl (by first | exact Or.inl rfl | exact Or.inr rfl)) (pss_one (ps_set (i := 2) sc_rights.nd rfl (by first | exact Or.inl rfl | exact Or.inr rfl) (pe_op op_catF (pv 2) (pe_tupF (pa_cons pe_str (pa_cons (pe_op op_add_str pe_str (pe_c C_law_letters (hr.mono (by decide)) (pa_cons (pv 3) pa_nil))) (pa_cons (pe_c C_law_letters (hr.mono (by decide)) (pa_cons (pv 3) pa_nil)) pa_nil))))))))
      (pss_cons (ps_set (i := 4) sc_rights.nd rfl (by first | exact Or.inl rfl | exact Or.inr rfl) (pe_tupF (pa_cons (pe_op op_add_str pe_str (pe_c C_law_letters (hr.mono (by decide)) (pa_cons (pv 1) pa_nil))) (pa_cons (pe_c C_law_letters (hr.mono (by decide)) (pa_cons (pv 1) pa_nil)) pa_nil))))
      (pss_one (ps_ret (pe_tupF (pa_cons (pe_op op_catF (pv 2) (pv 4)) (pa_cons (pe_callTy call_tupleF (by rfl) B.b_tuple (by decide +kernel) (pa_cons (pe_lc (own := [("_law_at", 3)]) (g := (gName 3)) (tt := tYes) rfl sc_rights.nd (pi_range1 (by rfl) B.b_range (pa_cons (pv 1) pa_nil)) (blkOk_by (own := [("_law_at", 3)]) (N := ["_law_pot_here", "_law_many", "_law_words", "_law_at", "_law_last"]) (sc := defScope s_rights) (by decide +kernel)) (fun _ _ _ _ _ => (pg_name (i := 3) sc_rights.nd rfl (by first | exact Or.inl rfl | exact Or.inr rfl))) (fun _ _ _ _ _ => pts_nil) (fun _ _ _ _ _ => (pe_op op_mul pe_int (pv 3)))) pa_nil)) (pa_cons (pv 4) (pa_cons (pe_op op_repTF (pe_tupF (pa_cons pe_int pa_nil)) (pv 1)) pa_nil)))))))))), ?_⟩
    refine ⟨Nat.zero_le _, fun r1 o1 n1 d1 => ?_⟩
    have S1 := same_upd (o := HO.frz o1 (.tup [])) n1
    have T1 : TupF (upd H r1 (.frz o1 (.tup []))) r1 ([] : List V) := TupF.new d1
    generalize upd H r1 (.frz o1 (.tup [])) = H1 at *
    refine ⟨_, rfl, _, rfl, by omega, by omega, for_range (lo := 0) (n := ((n : Nat) : Int).toNat) (fun i σ H' => ∃ (r : Addr) (v3 : Option V), σ = [some (.ref p), some (.int (n : Nat)), some (.ref r), v3, none] ∧ Same H H' ∧ TupF H' r ((rg 0 i).map wv))
      ⟨r1, none, rfl, S1, T1⟩ ?_ ?_⟩
    · rintro i σ H3 hi ⟨r, v3, rfl, S3, T3⟩
      have e0 : (0 : Int) + (i : Int) = (i : Int) := by omega
      rw [e0]
      have hi' : i < n := by omega
      refine ⟨_, rfl, _, rfl, i, rfl, by omega, _, _, rfl, rfl, tk_sz (by omega), _, rfl, i, rfl, by omega, (by show 3 ≤ sizeLine; decide), fun r4 o4 n4 d4 => ?_⟩
      have tke : V.str (("/" : Str) ++ str (lett i)) = wv (.tk (lett i)) := tk_v (lett i)
      have S4 := same_upd (o := HO.frz o4 (.tup [V.str ("@" : Str), V.str (("/" : Str) ++ str (lett i)), sv (lett i)])) n4
      have T4 : TupF (upd H3 r4 (.frz o4 (.tup [V.str ("@" : Str), V.str (("/" : Str) ++ str (lett i)), sv (lett i)]))) r4 [V.str ("@" : Str), V.str (("/" : Str) ++ str (lett i)), sv (lett i)] := TupF.new d4
      generalize upd H3 r4 (.frz o4 (.tup [V.str ("@" : Str), V.str (("/" : Str) ++ str (lett i)), sv (lett i)])) = H4 at *
      rw [tke, wv_at, three_v (lett i)] at T4
      refine catF_of (T3.same S4) T4 ?_ fun H5 r5 S5 T5 => ?_
      · rw [List.length_map, List.length_map, rg_len]
        show 3 * i + 3 ≤ 100000
        omega
      refine ⟨r5, _, rfl, S3.trans (S4.trans S5), ?_⟩
      rw [← List.map_append] at T5
      rw [rg_snoc, Nat.zero_add]
      exact T5
    · rintro σ H3 ⟨r, v3, rfl, S3, T3⟩
      rw [Int.toNat_natCast] at T3
      refine ⟨_, rfl, n, rfl, by omega, _, _, rfl, rfl, tk_sz (by omega), _, rfl, n, rfl, by omega, (by show 2 ≤ sizeLine; decide), fun r4 o4 n4 d4 => ?_⟩
      have tke : V.str (("/" : Str) ++ str (lett n)) = wv (.tk (lett n)) := tk_v (lett n)
      have S4 := same_upd (o := HO.frz o4 (.tup [V.str (("/" : Str) ++ str (lett n)), sv (lett n)])) n4
      have T4 : TupF (upd H3 r4 (.frz o4 (.tup [V.str (("/" : Str) ++ str (lett n)), sv (lett n)]))) r4 [V.str (("/" : Str) ++ str (lett n)), sv (lett n)] := TupF.new d4
      generalize upd H3 r4 (.frz o4 (.tup [V.str (("/" : Str) ++ str (lett n)), sv (lett n)])) = H4 at *
      rw [tke, two_v (lett n), ← ids_one] at T4
      refine ⟨_, rfl, _, rfl, catF_of (T3.same S4) T4 ?_ fun H5 r5 S5 T5 => ?_⟩
      · rw [List.length_map, List.length_map, rg_len, ids_len]
        omega
      rw [← List.map_append] at T5
      refine ⟨_, rfl, _, rfl, by omega, by omega, fun D nD => ?_⟩
      refine lc_range (lo := 0) (n := ((n : Nat) : Int).toNat) (fun i H' => Same H5 H' ∧ H' D = some (.lst (((List.range i).map (3 * ·)).map nv))) ⟨same_upd nD, upd_same⟩ ?_ ?_
      · rintro i H6 hi ⟨S6, L6⟩
        have hi' : i < n := by omega
        refine ⟨rfl, _, rfl, _, _, rfl, rfl, .inl ⟨by decide, by decide⟩, _, L6, ?_, fun b o hb => ?_, ?_⟩
        · rw [List.length_map, List.length_map, List.length_range]
          exact small_lt (m := 1000) (by omega) (by decide)
        · rw [upd_ne (ne_of_none hb nD)]
          exact S6 _ _ hb
        · rw [upd_same, List.range_succ, List.map_append, List.map_append]
          show some (HO.lst (_ ++ [V.int (3 * ((0 : Int) + (i : Int)))])) = some (HO.lst (_ ++ [nv (3 * i)]))
          rw [show (3 : Int) * ((0 : Int) + (i : Int)) = ((3 * i : Nat) : Int) by omega]
          rfl
      · rintro H6 ⟨S6, L6⟩
        rw [Int.toNat_natCast] at L6
        refine ⟨D, _, rfl, SqL.of L6, fun q7 o7 n7 d7 => ?_⟩
        have S7 := same_upd (o := HO.frz o7 (.tup (((List.range n).map (3 * ·)).map nv))) n7
        have T7 : TupF (upd H6 q7 (.frz o7 (.tup (((List.range n).map (3 * ·)).map nv)))) q7 (((List.range n).map (3 * ·)).map nv) := TupF.new d7
        generalize upd H6 q7 (.frz o7 (.tup (((List.range n).map (3 * ·)).map nv))) = H7 at *
        refine ⟨_, rfl, (by show 1 ≤ sizeLine; decide), fun r8 o8 n8 d8 => ?_⟩
        have S8 := same_upd (o := HO.frz o8 (.tup [V.int 0])) n8
        have T8 : TupF (upd H7 r8 (.frz o8 (.tup [V.int 0]))) r8 [V.int 0] := TupF.new d8
        generalize upd H7 r8 (.frz o8 (.tup [V.int 0])) = H8 at *
        refine ⟨_, rfl, repTF_of T8 (by simp) (by omega) (by show 1 ≤ 1000; decide) fun H9 r9 S9 T9 => ?_⟩
        rw [rep_one, show V.int 0 = nv 0 from rfl, ← List.map_replicate] at T9
        refine ⟨(by show 4 ≤ sizeLine; decide), fun q10 o10 n10 d10 => ?_⟩
        have S10 := same_upd (o := HO.frz o10 (.tup [V.ref r5, V.ref q7, V.ref r4, V.ref r9])) n10
        have S810 := S8.trans (S9.trans S10)
        have S510 := S6.trans (S7.trans S810)
        have S310 := S3.trans (S4.trans (S5.trans S510))
        exact k _ q10 r5 q7 r4 r9 _ _ _ _ (fam_rights hn) (P0.keep S310) (Same.keep S310) (TupF.new d10) (T5.same S510) (T7.same S810) (T4.same (S5.trans S510)) (T9.same S10)
theorem x_str (n : Nm) : ("x" : Str) ++ str n = str (120 :: n) := TL.ext_tl (by rw [TL.tl_append, TL.tl_ofString]; rfl)
theorem o_str (n : Nm) : ("o" : Str) ++ str n = str (111 :: n) := TL.ext_tl (by rw [TL.tl_append, TL.tl_ofString]; rfl)
theorem end_str : ("end" : Str) = str endN := TL.ext_tl (by rw [TL.tl_ofString]; rfl)
theorem one_len (x : Str) (h : TL.tl x = [120] ∨ TL.tl x = [111] ∨ TL.tl x = [47]) : x.length = 1 := by
  rw [TL.len_tl]
  rcases h with h | h | h <;> rw [h] <;> rfl
theorem csz {x : Str} {n : Nm} (h : TL.tl x = [120] ∨ TL.tl x = [111] ∨ TL.tl x = [47]) (hn : n.length ≤ 8) : x.length + (str n).length ≤ sizeLine := by
  have sn : (str n).length = n.length := by rw [TL.len_tl]; rfl
  rw [sn, one_len x h]
  exact Nat.le_of_lt (small_lt (m := 10) (by omega) (by decide))
theorem tl_x : TL.tl ("x" : Str) = [120] := by rw [TL.tl_ofString]; rfl
theorem tl_o : TL.tl ("o" : Str) = [111] := by rw [TL.tl_ofString]; rfl
theorem tl_s : TL.tl ("/" : Str) = [47] := by rw [TL.tl_ofString]; rfl
theorem way5_rev : ∀ n : Nat, ((List.range n).map fun k => 5 * k + 2).reverse = way5 n
  | 0 => rfl
  | n + 1 => by
    rw [List.range_succ, List.map_append, List.reverse_append, way5_rev n]
    rfl
theorem lo_snoc (a m : Nat) : Wd.lo a (m + 1) = Wd.lo a m ++ [.ap, .nm (oN (a + m))] := by
  unfold Wd.lo
  rw [List.range'_concat, List.flatMap_append]
  simp
abbrev s_turns : Stmt := (top 46)
theorem sc_turns : FnScope ["_law_pot_here", "_law_many", "_law_words", "_law_last", "_law_at", "_law_name", "_law_places"] ["_law_pot_here", "_law_many"] (defScope s_turns) := ⟨rfl, rfl, rfl, by decide +kernel, rfl, by decide +kernel, by decide +kernel⟩
theorem c_turns (B : Bt mg) (D : DefAt K mg "_law_turns" s_turns) (C_law_letters : Cal P w K mg base "_law_letters" 1 ["_law_number"] spLetters) : Cal P w K mg base "_law_turns" 2 ["_law_pot_here", "_law_many"] (spFam 199) := by
  refine cal_of D sc_turns (fun _ _ _ _ _ _ us hl => match us, hl with | [_, _], _ => rfl) (fun vs H Q E h => ?_) (fun fa cdv A outer st0 H vs Q E hr h => ?_)
  · obtain ⟨p, g, s, n, rfl, _⟩ := h
    rfl
  · obtain ⟨p, g, s, n, rfl, P0, h1, hn, k⟩ := h
    have big := bigN
    refine ⟨_, (pss_cons (ps_set (i := 2) sc_turns.nd rfl (by first | exact Or.inl rfl | exact Or.inr rfl) (pe_tupF pa_nil))
      (pss_cons (ps_set (i := 3) sc_turns.nd rfl (by first | exact Or.inl rfl | exact Or.inr rfl) (pe_tupF pa_nil))
      (pss_cons (ps_for PassesOwn.never rfl (pi_range1 (by rfl) B.b_range (pa_cons (pv 1) pa_nil)) (pg_name (i := 4) sc_turns.nd rfl (by first | exact Or.inl rfl | exact Or.inr rfl)) (pss_cons (ps_set (i := 5) sc_turns.nd rfl (by first | exact Or.inl rfl | exact Or.inr rfl) (pe_op op_add_str pe_str (pe_c C_law_letters (hr.mono (by decide)) (pa_cons (pv 4) pa_nil))))
      (pss_cons (ps_set (i := 2) sc_turns.nd rfl (by first | exact Or.inl rfl | exact Or.inr rfl) (pe_op op_catF (pv 2) (pe_tupF (pa_cons pe_str (pa_cons (pe_op op_add_str pe_str (pe_c C_law_letters (hr.mono (by decide)) (pa_cons (pv 4) pa_nil))) (pa_cons pe_str (pa_cons (pe_op op_add_str pe_str (pv 5)) (pa_cons (pv 5) pa_nil))))))))
      (pss_one (ps_set (i := 3) sc_turns.nd rfl (by first | exact Or.inl rfl | exact Or.inr rfl) (pe_op op_catF (pv 3) (pe_tupF (pa_cons pe_str (pa_cons (pe_op op_add_str pe_str (pe_c C_law_letters (hr.mono (by decide)) (pa_cons (pv 4) pa_nil))) pa_nil)))))))))
      (pss_cons (ps_set (i := 6) sc_turns.nd rfl (by first | exact Or.inl rfl | exact Or.inr rfl) (pe_callTy call_tupleF (by rfl) B.b_tuple (by decide +kernel) (pa_cons (pe_lc (own := [("_law_at", 4)]) (g := (gName 4)) (tt := tYes) rfl sc_turns.nd (pi_range1 (by rfl) B.b_range (pa_cons (pv 1) pa_nil)) (blkOk_by (own := [("_law_at", 4)]) (N := ["_law_pot_here", "_law_many", "_law_words", "_law_last", "_law_at", "_law_name", "_law_places"]) (sc := defScope s_turns) (by decide +kernel)) (fun _ _ _ _ _ => (pg_name (i := 4) sc_turns.nd rfl (by first | exact Or.inl rfl | exact Or.inr rfl))) (fun _ _ _ _ _ => pts_nil) (fun _ _ _ _ _ => (pe_op op_add (pe_op op_mul pe_int (pv 4)) pe_int))) pa_nil)))
      (pss_one (ps_ret (pe_tupF (pa_cons (pe_op op_catF (pv 2) (pe_tupF (pa_cons pe_str pa_nil))) (pa_cons (pv 6) (pa_cons (pe_op op_catF (pv 3) (pe_tupF (pa_cons pe_str pa_nil))) (pa_cons (pe_revT (pv 6)) pa_nil))))))))))), ?_⟩
    refine ⟨Nat.zero_le _, fun r1 o1 n1 d1 => ?_⟩
    have S1 := same_upd (o := HO.frz o1 (.tup [])) n1
    have T1 : TupF (upd H r1 (.frz o1 (.tup []))) r1 ([] : List V) := TupF.new d1
    generalize upd H r1 (.frz o1 (.tup [])) = H1 at *
    refine ⟨Nat.zero_le _, fun r2 o2 n2 d2 => ?_⟩
    have S2 := same_upd (o := HO.frz o2 (.tup [])) n2
    have T2 : TupF (upd H1 r2 (.frz o2 (.tup []))) r2 ([] : List V) := TupF.new d2
    have T1' := T1.same S2
    generalize upd H1 r2 (.frz o2 (.tup [])) = H2 at *
    refine ⟨_, rfl, _, rfl, by omega, by omega, for_range (lo := 0) (n := ((n : Nat) : Int).toNat) (fun i σ H' => ∃ (r t : Addr) (v4 v5 : Option V), σ = [some (.ref p), some (.int (n : Nat)), some (.ref r), some (.ref t), v4, v5, none] ∧ Same H H' ∧ TupF H' r ((tw 0 i).map wv) ∧ TupF H' t ((Wd.lo 0 i).map wv))
      ⟨r1, r2, none, none, rfl, S1.trans S2, T1', T2⟩ ?_ ?_⟩
    · rintro i σ H3 hi ⟨r, t, v4, v5, rfl, S3, T3, L3⟩
      have e0 : (0 : Int) + (i : Int) = (i : Int) := by omega
      rw [e0]
      have hi' : i < n := by omega
      have ll := lett_len i (by omega)
      refine ⟨_, rfl, i, rfl, by omega, _, _, rfl, rfl, csz (.inl tl_x) (by omega), ?_⟩
      have ex : ("x" : Str) ++ str (lett i) = str (xN i) := x_str _
      have eo : V.str (("o" : Str) ++ str (lett i)) = wv (.nm (oN i)) := congrArg V.str (o_str _)
      have et : V.str (("/" : Str) ++ str (xN i)) = wv (.tk (xN i)) := tk_v (xN i)
      have lx : (xN i).length ≤ 8 := (xN_ok (show i < 1000 by omega)).2.1
      rw [ex]
      refine ⟨_, rfl, _, rfl, i, rfl, by omega, _, _, rfl, rfl, csz (.inr (.inl tl_o)) (by omega), _, rfl, _, _, rfl, rfl, csz (.inr (.inr tl_s)) lx, _, rfl, (by show 5 ≤ sizeLine; decide), fun r4 o4 n4 d4 => ?_⟩
      have S4 := same_upd (o := HO.frz o4 (.tup [V.str ("@" : Str), V.str (("o" : Str) ++ str (lett i)), V.str ("@" : Str), V.str (("/" : Str) ++ str (xN i)), V.str (str (xN i))])) n4
      have T4 : TupF (upd H3 r4 (.frz o4 (.tup [V.str ("@" : Str), V.str (("o" : Str) ++ str (lett i)), V.str ("@" : Str), V.str (("/" : Str) ++ str (xN i)), V.str (str (xN i))]))) r4 [V.str ("@" : Str), V.str (("o" : Str) ++ str (lett i)), V.str ("@" : Str), V.str (("/" : Str) ++ str (xN i)), V.str (str (xN i))] := TupF.new d4
      generalize upd H3 r4 (.frz o4 (.tup [V.str ("@" : Str), V.str (("o" : Str) ++ str (lett i)), V.str ("@" : Str), V.str (("/" : Str) ++ str (xN i)), V.str (str (xN i))])) = H4 at *
      rw [eo, et, wv_at, five_v (xN i) (oN i)] at T4
      refine catF_of (T3.same S4) T4 ?_ fun H5 r5 S5 T5 => ?_
      · rw [List.length_map, List.length_map, tw_len]
        show 5 * i + 5 ≤ 100000
        omega
      rw [← List.map_append] at T5
      refine ⟨_, rfl, _, rfl, i, rfl, by omega, _, _, rfl, rfl, csz (.inr (.inl tl_o)) (by omega), (by show 2 ≤ sizeLine; decide), fun r6 o6 n6 d6 => ?_⟩
      have S6 := same_upd (o := HO.frz o6 (.tup [V.str ("@" : Str), V.str (("o" : Str) ++ str (lett i))])) n6
      have T6 : TupF (upd H5 r6 (.frz o6 (.tup [V.str ("@" : Str), V.str (("o" : Str) ++ str (lett i))]))) r6 [V.str ("@" : Str), V.str (("o" : Str) ++ str (lett i))] := TupF.new d6
      generalize upd H5 r6 (.frz o6 (.tup [V.str ("@" : Str), V.str (("o" : Str) ++ str (lett i))])) = H6 at *
      rw [eo, wv_at, show [wv .ap, wv (.nm (oN i))] = [W.ap, W.nm (oN i)].map wv from rfl] at T6
      refine catF_of (L3.same (S4.trans (S5.trans S6))) T6 ?_ fun H7 r7 S7 T7 => ?_
      · rw [List.length_map, List.length_map, lo_len]
        show 2 * i + 2 ≤ 100000
        omega
      rw [← List.map_append] at T7
      refine ⟨r5, r7, _, _, rfl, S3.trans (S4.trans (S5.trans (S6.trans S7))), ?_, ?_⟩
      · rw [tw_snoc, Nat.zero_add]
        exact T5.same (S6.trans S7)
      · rw [lo_snoc, Nat.zero_add]
        exact T7
    · rintro σ H3 ⟨r, t, v4, v5, rfl, S3, T3, L3⟩
      rw [Int.toNat_natCast] at T3 L3
      refine ⟨_, rfl, _, rfl, by omega, by omega, fun D nD => ?_⟩
      refine lc_range (lo := 0) (n := ((n : Nat) : Int).toNat) (fun i H' => Same H3 H' ∧ H' D = some (.lst (((List.range i).map fun k => 5 * k + 2).map nv))) ⟨same_upd nD, upd_same⟩ ?_ ?_
      · rintro i H6 hi ⟨S6, L6⟩
        have hi' : i < n := by omega
        refine ⟨rfl, _, rfl, _, _, rfl, rfl, .inl ⟨by decide, by decide⟩, _, _, rfl, rfl, _, L6, ?_, fun b o hb => ?_, ?_⟩
        · rw [List.length_map, List.length_map, List.length_range]
          exact small_lt (m := 1000) (by omega) (by decide)
        · rw [upd_ne (ne_of_none hb nD)]
          exact S6 _ _ hb
        · rw [upd_same, List.range_succ, List.map_append, List.map_append]
          show some (HO.lst (_ ++ [V.int (5 * ((0 : Int) + (i : Int)) + 2)])) = some (HO.lst (_ ++ [nv (5 * i + 2)]))
          rw [show (5 : Int) * ((0 : Int) + (i : Int)) + 2 = ((5 * i + 2 : Nat) : Int) by omega]
          rfl
      · rintro H6 ⟨S6, L6⟩
        rw [Int.toNat_natCast] at L6
        refine ⟨D, _, rfl, SqL.of L6, fun q7 o7 n7 d7 => ?_⟩
        have S7 := same_upd (o := HO.frz o7 (.tup (((List.range n).map fun k => 5 * k + 2).map nv))) n7
        have T7 : TupF (upd H6 q7 (.frz o7 (.tup (((List.range n).map fun k => 5 * k + 2).map nv)))) q7 (((List.range n).map fun k => 5 * k + 2).map nv) := TupF.new d7
        generalize upd H6 q7 (.frz o7 (.tup (((List.range n).map fun k => 5 * k + 2).map nv))) = H7 at *
        refine ⟨_, rfl, (by show 1 ≤ sizeLine; decide), fun r8 o8 n8 d8 => ?_⟩
        have ee : [V.str ("end" : Str)] = Wd.fin'.map wv := by rw [end_str]; rfl
        have S8 := same_upd (o := HO.frz o8 (.tup [V.str ("end" : Str)])) n8
        have T8 : TupF (upd H7 r8 (.frz o8 (.tup [V.str ("end" : Str)]))) r8 [V.str ("end" : Str)] := TupF.new d8
        generalize upd H7 r8 (.frz o8 (.tup [V.str ("end" : Str)])) = H8 at *
        rw [ee] at T8
        have S38 := S6.trans (S7.trans S8)
        refine catF_of (T3.same S38) T8 ?_ fun H9 r9 S9 T9 => ?_
        · rw [List.length_map, List.length_map, tw_len]
          show 5 * n + 1 ≤ 100000
          omega
        rw [← List.map_append] at T9
        refine ⟨_, rfl, _, rfl, (by show 1 ≤ sizeLine; decide), fun r10 o10 n10 d10 => ?_⟩
        have S10 := same_upd (o := HO.frz o10 (.tup [V.str ("end" : Str)])) n10
        have T10 : TupF (upd H9 r10 (.frz o10 (.tup [V.str ("end" : Str)]))) r10 [V.str ("end" : Str)] := TupF.new d10
        generalize upd H9 r10 (.frz o10 (.tup [V.str ("end" : Str)])) = H10 at *
        rw [ee] at T10
        have S310 := S38.trans (S9.trans S10)
        refine catF_of (L3.same S310) T10 ?_ fun H11 r11 S11 T11 => ?_
        · rw [List.length_map, List.length_map, lo_len]
          show 2 * n + 1 ≤ 100000
          omega
        rw [← List.map_append] at T11
        have T7b := T7.same (S8.trans (S9.trans (S10.trans S11)))
        refine ⟨_, rfl, q7, _, rfl, T7b.sq, fun r12 o12 n12 d12 => ?_⟩
        rw [← List.map_reverse, way5_rev]
        have S12 := same_upd (o := HO.frz o12 (.tup ((way5 n).map nv))) n12
        have T12 : TupF (upd H11 r12 (.frz o12 (.tup ((way5 n).map nv)))) r12 ((way5 n).map nv) := TupF.new d12
        generalize upd H11 r12 (.frz o12 (.tup ((way5 n).map nv))) = H12 at *
        refine ⟨(by show 4 ≤ sizeLine; decide), fun q13 o13 n13 d13 => ?_⟩
        have S13 := same_upd (o := HO.frz o13 (.tup [V.ref r9, V.ref q7, V.ref r11, V.ref r12])) n13
        have Sa := S10.trans (S11.trans (S12.trans S13))
        have Sz := S3.trans (S38.trans (S9.trans Sa))
        exact k _ q13 r9 q7 r11 r12 _ _ _ _ (fam_turns hn) (P0.keep Sz) (Same.keep Sz) (TupF.new d13) (T9.same Sa) (T7b.same (S12.trans S13)) (T11.same (S12.trans S13)) (T12.same S13)
theorem row_words (n t : Nat) : ((List.replicate n W.ap ++ (List.range n).map fun k => W.tk (xN k)) ++ List.replicate (n - 1) W.ap).map wv ++ ((rotR n t).map xN).map sv ++ ((List.range n).map oN).map sv = (rowW (rotR n t) 0 n).map wv := by
  have ef : (rotR n t).map (rowF 0) = (rotR n t).map xN := List.map_congr_left fun k _ => if_neg (Nat.not_lt_zero _)
  unfold rowW
  rw [ef, ← List.range_eq_range']
  unfold comb
  rw [List.length_map, (rot_ord n t).len]
  have e : ∀ ns : List Nm, ns.map sv = (ns.map W.nm).map wv := fun ns => by rw [List.map_map]; rfl
  rw [e, e]
  simp
abbrev s_row16 : Stmt := (top 45)
theorem sc_row16 : FnScope ["_law_pot_here", "_law_many", "_law_turn", "_law_names", "_law_at", "_law_opens", "_law_row_here", "_law_words", "_law_name", "_law_way"] ["_law_pot_here", "_law_many"] (defScope s_row16) := ⟨rfl, rfl, rfl, by decide +kernel, rfl, by decide +kernel, by decide +kernel⟩
theorem c_row16 (B : Bt mg) (D : DefAt K mg "_law_row" s_row16) (C_law_draw : Cal P w K mg base "_law_draw" 1 ["_law_pot_here", "_law_many"] spDraw) (C_law_letters : Cal P w K mg base "_law_letters" 1 ["_law_number"] spLetters) : Cal P w K mg base "_law_row" 2 ["_law_pot_here", "_law_many"] (spFam 200) := by
  refine cal_of D sc_row16 (fun _ _ _ _ _ _ us hl => match us, hl with | [_, _], _ => rfl) (fun vs H Q E h => ?_) (fun fa cdv A outer st0 H vs Q E hr h => ?_)
  · obtain ⟨p, g, s, n, rfl, _⟩ := h
    rfl
  · obtain ⟨p, g, s, n, rfl, P0, h1, hn, k⟩ := h
    have big := bigN
    refine ⟨_, (pss_cons (ps_set (i := 2) sc_row16.nd rfl (by first | exact Or.inl rfl | exact Or.inr rfl) (pe_c C_law_draw (hr.mono (by decide)) (pa_cons (pv 0) (pa_cons (pv 1) pa_nil))))
      (pss_cons (ps_setLc (i := 3) (own := [("_law_at", 4)]) (g := (gName 4)) (tt := tYes) rfl sc_row16.nd rfl rfl (sw_true rfl rfl rfl (by decide +kernel)) (pi_range1 (by rfl) B.b_range (pa_cons (pv 1) pa_nil)) (blkOk_by (own := [("_law_at", 4)]) (N := ["_law_pot_here", "_law_many", "_law_turn", "_law_names", "_law_at", "_law_opens", "_law_row_here", "_law_words", "_law_name", "_law_way"]) (sc := defScope s_row16) (by decide +kernel)) (fun _ _ _ _ _ => (pg_name (i := 4) sc_row16.nd rfl (by first | exact Or.inl rfl | exact Or.inr rfl))) (fun _ _ _ _ _ => pts_nil) (fun _ _ _ _ _ => (pe_op op_add_str pe_str (pe_c C_law_letters (hr.mono (by decide)) (pa_cons (pv 4) pa_nil)))))
      (pss_cons (ps_setLc (i := 5) (own := [("_law_at", 4)]) (g := (gName 4)) (tt := tYes) rfl sc_row16.nd rfl rfl (sw_true rfl rfl rfl (by decide +kernel)) (pi_range1 (by rfl) B.b_range (pa_cons (pv 1) pa_nil)) (blkOk_by (own := [("_law_at", 4)]) (N := ["_law_pot_here", "_law_many", "_law_turn", "_law_names", "_law_at", "_law_opens", "_law_row_here", "_law_words", "_law_name", "_law_way"]) (sc := defScope s_row16) (by decide +kernel)) (fun _ _ _ _ _ => (pg_name (i := 4) sc_row16.nd rfl (by first | exact Or.inl rfl | exact Or.inr rfl))) (fun _ _ _ _ _ => pts_nil) (fun _ _ _ _ _ => (pe_op op_add_str pe_str (pe_c C_law_letters (hr.mono (by decide)) (pa_cons (pv 4) pa_nil)))))
      (pss_cons (ps_set (i := 6) sc_row16.nd rfl (by first | exact Or.inl rfl | exact Or.inr rfl) (pe_op op_cat (pe_slice sl_list (pv 3) (po_some (pv 2)) po_none) (pe_slice sl_list (pv 3) po_none (po_some (pv 2)))))
      (pss_cons (ps_set (i := 7) sc_row16.nd rfl (by first | exact Or.inl rfl | exact Or.inr rfl) (pe_op op_catF (pe_op op_catF (pe_op op_catF (pe_op op_catF (pe_op op_repTF (pe_tupF (pa_cons pe_str pa_nil)) (pv 1)) (pe_callTy call_tupleF (by rfl) B.b_tuple (by decide +kernel) (pa_cons (pe_lc (own := [("_law_name", 8)]) (g := (gName 8)) (tt := tYes) rfl sc_row16.nd (pi_list (pv 3)) (blkOk_by (own := [("_law_name", 8)]) (N := ["_law_pot_here", "_law_many", "_law_turn", "_law_names", "_law_at", "_law_opens", "_law_row_here", "_law_words", "_law_name", "_law_way"]) (sc := defScope s_row16) (by decide +kernel)) (fun _ _ _ _ _ => (pg_name (i := 8) sc_row16.nd rfl (by first | exact Or.inl rfl | exact Or.inr rfl))) (fun _ _ _ _ _ => pts_nil) (fun _ _ _ _ _ => (pe_op op_add_str pe_str (pv 8)))) pa_nil))) (pe_op op_repTF (pe_tupF (pa_cons pe_str pa_nil)) (pe_op op_sub (pv 1) pe_int))) (pe_callTy call_tupleF (by rfl) B.b_tuple (by decide +kernel) (pa_cons (pv 6) pa_nil))) (pe_callTy call_tupleF (by rfl) B.b_tuple (by decide +kernel) (pa_cons (pv 5) pa_nil))))
      (pss_cons (ps_set (i := 9) sc_row16.nd rfl (by first | exact Or.inl rfl | exact Or.inr rfl) (pe_callTy call_tupleF (by rfl) B.b_tuple (by decide +kernel) (pa_cons (pe_lc (own := [("_law_at", 4)]) (g := (gName 4)) (tt := tYes) rfl sc_row16.nd (pi_range1 (by rfl) B.b_range (pa_cons (pv 1) pa_nil)) (blkOk_by (own := [("_law_at", 4)]) (N := ["_law_pot_here", "_law_many", "_law_turn", "_law_names", "_law_at", "_law_opens", "_law_row_here", "_law_words", "_law_name", "_law_way"]) (sc := defScope s_row16) (by decide +kernel)) (fun _ _ _ _ _ => (pg_name (i := 4) sc_row16.nd rfl (by first | exact Or.inl rfl | exact Or.inr rfl))) (fun _ _ _ _ _ => pts_nil) (fun _ _ _ _ _ => (pe_op op_sub (pe_op op_sub (pv 1) pe_int) (pv 4)))) pa_nil)))
      (pss_one (ps_ret (pe_tupF (pa_cons (pv 7) (pa_cons (pe_slice sl_tupG (pv 9) po_none (po_some pe_int)) (pa_cons (pe_op op_catF (pe_op op_repTF (pe_tupF (pa_cons pe_str pa_nil)) (pe_op op_sub (pv 1) pe_int)) (pe_callTy call_tupleF (by rfl) B.b_tuple (by decide +kernel) (pa_cons (pe_op op_cat (pe_slice sl_list (pv 5) (po_some (pv 2)) po_none) (pe_slice sl_list (pv 5) po_none (po_some (pv 2)))) pa_nil))) (pa_cons (pv 9) pa_nil))))))))))))), ?_⟩
    refine ⟨_, rfl, _, rfl, p, g, s, n, rfl, P0, by omega, by omega, fun H1 j P1 K1 j0 j1 => ?_⟩
    obtain ⟨t, rfl⟩ : ∃ t : Nat, j = (t : Int) := ⟨j.toNat, by omega⟩
    refine ⟨_, rfl, _, rfl, by omega, by omega, fun D nD => ?_⟩
    refine lc_range (lo := 0) (n := ((n : Nat) : Int).toNat) (fun i H' => Same H1 H' ∧ H' D = some (.lst (((List.range i).map xN).map sv))) ⟨same_upd nD, upd_same⟩ ?_ ?_
    · rintro i H2 hi ⟨S2, L2⟩
      have hi' : i < n := by omega
      have ll := lett_len i (by omega)
      refine ⟨rfl, _, rfl, i, by rw [show (0 : Int) + (i : Int) = (i : Int) by omega]; rfl, by omega, _, _, rfl, rfl, csz (.inl tl_x) (by omega), _, L2, ?_, fun b o hb => ?_, ?_⟩
      · rw [List.length_map, List.length_map, List.length_range]
        exact small_lt (m := 1000) (by omega) (by decide)
      · rw [upd_ne (ne_of_none hb nD)]
        exact S2 _ _ hb
      · rw [upd_same, List.range_succ, List.map_append, List.map_append, x_str]
        rfl
    rintro H2 ⟨S2, L2⟩
    rw [Int.toNat_natCast] at L2
    refine ⟨_, rfl, _, rfl, by omega, by omega, fun D2 nD2 => ?_⟩
    refine lc_range (lo := 0) (n := ((n : Nat) : Int).toNat) (fun i H' => Same H2 H' ∧ H' D2 = some (.lst (((List.range i).map oN).map sv))) ⟨same_upd nD2, upd_same⟩ ?_ ?_
    · rintro i H3 hi ⟨S3, L3⟩
      have hi' : i < n := by omega
      have ll := lett_len i (by omega)
      refine ⟨rfl, _, rfl, i, by rw [show (0 : Int) + (i : Int) = (i : Int) by omega]; rfl, by omega, _, _, rfl, rfl, csz (.inr (.inl tl_o)) (by omega), _, L3, ?_, fun b o hb => ?_, ?_⟩
      · rw [List.length_map, List.length_map, List.length_range]
        exact small_lt (m := 1000) (by omega) (by decide)
      · rw [upd_ne (ne_of_none hb nD2)]
        exact S3 _ _ hb
      · rw [upd_same, List.range_succ, List.map_append, List.map_append, o_str]
        rfl
    rintro H3 ⟨S3, O3⟩
    rw [Int.toNat_natCast] at O3
    have N3 := S3 _ _ L2
    have hmap : ∀ (f : Nat → Nm) (t : Nat), cutV (((List.range n).map f).map sv) (some (t : Int)) none ++ cutV (((List.range n).map f).map sv) none (some (t : Int)) = ((rotR n t).map f).map sv := fun f t => by
      rw [cut_from, cut_to, ← List.map_drop, ← List.map_take, ← List.map_drop, ← List.map_take, ← List.map_append, ← List.map_append]
      rfl
    refine ⟨_, rfl, _, rfl, _, rfl, ?_⟩
    dsimp only [tNoPart]
    refine ⟨D, _, rfl, SqL.of N3, fun r4 nr4 => ?_⟩
    have S4 := same_upd (o := HO.lst (cutV (((List.range n).map xN).map sv) (some (t : Int)) none)) nr4
    have L4 : upd H3 r4 (.lst (cutV (((List.range n).map xN).map sv) (some (t : Int)) none)) r4 = some (.lst (cutV (((List.range n).map xN).map sv) (some (t : Int)) none)) := upd_same
    generalize upd H3 r4 (.lst (cutV (((List.range n).map xN).map sv) (some (t : Int)) none)) = H4 at *
    refine ⟨_, rfl, _, rfl, _, rfl, D, _, rfl, SqL.of (S4 _ _ N3), fun r5 nr5 => ?_⟩
    have S5 := same_upd (o := HO.lst (cutV (((List.range n).map xN).map sv) none (some (t : Int)))) nr5
    have L5 : upd H4 r5 (.lst (cutV (((List.range n).map xN).map sv) none (some (t : Int)))) r5 = some (.lst (cutV (((List.range n).map xN).map sv) none (some (t : Int)))) := upd_same
    generalize upd H4 r5 (.lst (cutV (((List.range n).map xN).map sv) none (some (t : Int)))) = H5 at *
    have lrot : ∀ f : Nat → Nm, (((rotR n t).map f).map sv).length = n := fun f => by rw [List.length_map, List.length_map, (rot_ord n t).len]
    refine ⟨r4, r5, _, _, rfl, rfl, S5 _ _ L4, L5, by rw [← List.length_append, hmap, lrot]; exact Nat.le_of_lt (small_lt (m := 1000) (by omega) (by decide)), fun r6 nr6 => ?_⟩
    rw [hmap]
    have S6 := same_upd (o := HO.lst (((rotR n t).map xN).map sv)) nr6
    have L6 : upd H5 r6 (.lst (((rotR n t).map xN).map sv)) r6 = some (.lst (((rotR n t).map xN).map sv)) := upd_same
    generalize upd H5 r6 (.lst (((rotR n t).map xN).map sv)) = H6 at *
    have S36 := S4.trans (S5.trans S6)
    have N6 := S36 _ _ N3
    have O6 := S36 _ _ O3
    have Sb := S2.trans (S3.trans S36)
    clear L4 L5 S4 S5 S6
    refine ⟨(by show 1 ≤ sizeLine; decide), fun r7 o7 n7 d7 => ?_⟩
    have S7 := same_upd (o := HO.frz o7 (.tup [V.str ("@" : Str)])) n7
    have T7 : TupF (upd H6 r7 (.frz o7 (.tup [V.str ("@" : Str)]))) r7 [V.str ("@" : Str)] := TupF.new d7
    generalize upd H6 r7 (.frz o7 (.tup [V.str ("@" : Str)])) = H7 at *
    refine ⟨_, rfl, repTF_of T7 (by simp) (by omega) (by show 1 ≤ 1000; decide) fun H8 r8 S8 T8 => ?_⟩
    rw [rep_one, wv_at, ← List.map_replicate] at T8
    have N8 := S8 _ _ (S7 _ _ N6)
    refine ⟨_, rfl, D, rfl, ⟨_, SqL.of N8⟩, fun D9 nD9 => lc_fmL (f := sv) (r := fun m => some (wv (.tk m))) (SqL.of N8) nD9 (by rw [List.length_map, List.length_range]; omega) (fun i m H' Qy Qn hm S1 gy gn => ?_) (fun H9 S9 L9 => ?_)⟩
    · obtain ⟨kk, hk, rfl⟩ := List.mem_map.mp (List.mem_of_getElem? hm)
      have hk := List.mem_range.mp hk
      exact ⟨rfl, _, rfl, _, _, rfl, rfl, csz (.inr (.inr tl_s)) (xN_ok (show kk < 1000 by omega)).2.1, gy _ _ (Same.refl _) (congrArg some (tk_v (xN kk)).symm)⟩
    rw [map_some'] at L9
    refine ⟨D9, _, rfl, SqL.of L9, fun r10 o10 n10 d10 => ?_⟩
    have et : ((List.range n).map xN).map (fun m => wv (.tk m)) = ((List.range n).map fun k => W.tk (xN k)).map wv := by rw [List.map_map, List.map_map]; rfl
    rw [et]
    have S10 := same_upd (o := HO.frz o10 (.tup (((List.range n).map fun k => W.tk (xN k)).map wv))) n10
    have T10 : TupF (upd H9 r10 (.frz o10 (.tup (((List.range n).map fun k => W.tk (xN k)).map wv)))) r10 (((List.range n).map fun k => W.tk (xN k)).map wv) := TupF.new d10
    generalize upd H9 r10 (.frz o10 (.tup (((List.range n).map fun k => W.tk (xN k)).map wv))) = H10 at *
    refine catF_of (T8.same (S9.trans S10)) T10 (by simp; omega) fun H11 r11 S11 T11 => ?_
    rw [← List.map_append] at T11
    refine ⟨(by show 1 ≤ sizeLine; decide), fun r12 o12 n12 d12 => ?_⟩
    have S12 := same_upd (o := HO.frz o12 (.tup [V.str ("@" : Str)])) n12
    have T12 : TupF (upd H11 r12 (.frz o12 (.tup [V.str ("@" : Str)]))) r12 [V.str ("@" : Str)] := TupF.new d12
    generalize upd H11 r12 (.frz o12 (.tup [V.str ("@" : Str)])) = H12 at *
    have en : ((n : Nat) : Int) - 1 = ((n - 1 : Nat) : Int) := by omega
    refine ⟨_, rfl, _, _, rfl, rfl, ?_⟩
    simp only [en]
    refine repTF_of T12 (by simp) (by omega) (by show 1 ≤ 1000; decide) fun H13 r13 S13 T13 => ?_
    rw [rep_one, wv_at, ← List.map_replicate] at T13
    refine catF_of (T11.same (S12.trans S13)) T13 (by simp; omega) fun H14 r14 S14 T14 => ?_
    rw [← List.map_append] at T14
    have S614 := S7.trans (S8.trans (S9.trans (S10.trans (S11.trans (S12.trans (S13.trans S14))))))
    refine ⟨_, rfl, r6, _, rfl, SqL.of (S614 _ _ L6), fun r15 o15 n15 d15 => ?_⟩
    have S15 := same_upd (o := HO.frz o15 (.tup (((rotR n t).map xN).map sv))) n15
    have T15 : TupF (upd H14 r15 (.frz o15 (.tup (((rotR n t).map xN).map sv)))) r15 (((rotR n t).map xN).map sv) := TupF.new d15
    generalize upd H14 r15 (.frz o15 (.tup (((rotR n t).map xN).map sv))) = H15 at *
    have lr := (rot_ord n t).len
    refine catF_of (T14.same S15) T15 (by simp [lr]; omega) fun H16 r16 S16 T16 => ?_
    have O16 := S16 _ _ (S15 _ _ (S614 _ _ O6))
    refine ⟨_, rfl, D2, _, rfl, SqL.of O16, fun r17 o17 n17 d17 => ?_⟩
    have S17 := same_upd (o := HO.frz o17 (.tup (((List.range n).map oN).map sv))) n17
    have T17 : TupF (upd H16 r17 (.frz o17 (.tup (((List.range n).map oN).map sv)))) r17 (((List.range n).map oN).map sv) := TupF.new d17
    generalize upd H16 r17 (.frz o17 (.tup (((List.range n).map oN).map sv))) = H17 at *
    refine catF_of (T16.same S17) T17 (by simp [lr]; omega) fun H18 r18 S18 T18 => ?_
    rw [row_words] at T18
    have O18 := S18 _ _ (S17 _ _ O16)
    have S118 := Sb.trans (S614.trans (S15.trans (S16.trans (S17.trans S18))))
    refine ⟨_, rfl, _, rfl, by omega, by omega, fun D19 nD19 => ?_⟩
    refine lc_range (lo := 0) (n := ((n : Nat) : Int).toNat) (fun i H' => Same H18 H' ∧ H' D19 = some (.lst (((List.range i).map fun k => n - 1 - k).map nv))) ⟨same_upd nD19, upd_same⟩ ?_ ?_
    · rintro i H4 hi ⟨S4, L4⟩
      have hi' : i < n := by omega
      refine ⟨rfl, _, rfl, _, _, rfl, rfl, _, rfl, _, _, rfl, rfl, _, L4, ?_, fun b o hb => ?_, ?_⟩
      · rw [List.length_map, List.length_map, List.length_range]
        exact small_lt (m := 1000) (by omega) (by decide)
      · rw [upd_ne (ne_of_none hb nD19)]
        exact S4 _ _ hb
      · rw [upd_same, List.range_succ, List.map_append, List.map_append]
        show some (HO.lst (_ ++ [V.int (((n : Nat) : Int) - 1 - ((0 : Int) + (i : Int)))])) = some (HO.lst (_ ++ [nv (n - 1 - i)]))
        rw [show ((n : Nat) : Int) - 1 - ((0 : Int) + (i : Int)) = ((n - 1 - i : Nat) : Int) by omega]
        rfl
    rintro H19 ⟨S19, L19⟩
    rw [Int.toNat_natCast, ← descs_map] at L19
    refine ⟨D19, _, rfl, SqL.of L19, fun r20 o20 n20 d20 => ?_⟩
    have S20 := same_upd (o := HO.frz o20 (.tup ((descs n).map nv))) n20
    have T20 : TupF (upd H19 r20 (.frz o20 (.tup ((descs n).map nv)))) r20 ((descs n).map nv) := TupF.new d20
    generalize upd H19 r20 (.frz o20 (.tup ((descs n).map nv))) = H20 at *
    have O20 := S20 _ _ (S19 _ _ O18)
    obtain ⟨m, rfl⟩ : ∃ m, n = m + 1 := ⟨n - 1, by omega⟩
    have eb : cutV ((descs (m + 1)).map nv) none (some 1) = [m].map nv := cut_to (c := 1)
    refine ⟨_, rfl, _, rfl, _, rfl, cutF_of T20 fun H21 r21 S21 T21 => ?_⟩
    rw [eb] at T21
    refine ⟨(by show 1 ≤ sizeLine; decide), fun r22 o22 n22 d22 => ?_⟩
    have S22 := same_upd (o := HO.frz o22 (.tup [V.str ("@" : Str)])) n22
    have T22 : TupF (upd H21 r22 (.frz o22 (.tup [V.str ("@" : Str)]))) r22 [V.str ("@" : Str)] := TupF.new d22
    generalize upd H21 r22 (.frz o22 (.tup [V.str ("@" : Str)])) = H22 at *
    refine ⟨_, rfl, _, _, rfl, rfl, ?_⟩
    simp only [en]
    refine repTF_of T22 (by simp) (by omega) (by show 1 ≤ 1000; decide) fun H23 r23 S23 T23 => ?_
    rw [rep_one, wv_at, ← List.map_replicate] at T23
    have O23 := S23 _ _ (S22 _ _ (S21 _ _ O20))
    refine ⟨_, rfl, _, rfl, _, rfl, ?_⟩
    dsimp only [tNoPart]
    refine ⟨D2, _, rfl, SqL.of O23, fun r24 nr24 => ?_⟩
    have S24 := same_upd (o := HO.lst (cutV (((List.range (m + 1)).map oN).map sv) (some (t : Int)) none)) nr24
    have L24 : upd H23 r24 (.lst (cutV (((List.range (m + 1)).map oN).map sv) (some (t : Int)) none)) r24 = some (.lst (cutV (((List.range (m + 1)).map oN).map sv) (some (t : Int)) none)) := upd_same
    generalize upd H23 r24 (.lst (cutV (((List.range (m + 1)).map oN).map sv) (some (t : Int)) none)) = H24 at *
    refine ⟨_, rfl, _, rfl, _, rfl, D2, _, rfl, SqL.of (S24 _ _ O23), fun r25 nr25 => ?_⟩
    have S25 := same_upd (o := HO.lst (cutV (((List.range (m + 1)).map oN).map sv) none (some (t : Int)))) nr25
    have L25 : upd H24 r25 (.lst (cutV (((List.range (m + 1)).map oN).map sv) none (some (t : Int)))) r25 = some (.lst (cutV (((List.range (m + 1)).map oN).map sv) none (some (t : Int)))) := upd_same
    generalize upd H24 r25 (.lst (cutV (((List.range (m + 1)).map oN).map sv) none (some (t : Int)))) = H25 at *
    refine ⟨r24, r25, _, _, rfl, rfl, S25 _ _ L24, L25, by rw [← List.length_append, hmap, lrot]; exact Nat.le_of_lt (small_lt (m := 1000) (by omega) (by decide)), fun r26 nr26 => ?_⟩
    rw [hmap]
    have S26 := same_upd (o := HO.lst (((rotR (m + 1) t).map oN).map sv)) nr26
    have L26 : upd H25 r26 (.lst (((rotR (m + 1) t).map oN).map sv)) r26 = some (.lst (((rotR (m + 1) t).map oN).map sv)) := upd_same
    generalize upd H25 r26 (.lst (((rotR (m + 1) t).map oN).map sv)) = H26 at *
    refine ⟨r26, _, rfl, SqL.of L26, fun r27 o27 n27 d27 => ?_⟩
    have S27 := same_upd (o := HO.frz o27 (.tup (((rotR (m + 1) t).map oN).map sv))) n27
    have T27 : TupF (upd H26 r27 (.frz o27 (.tup (((rotR (m + 1) t).map oN).map sv)))) r27 (((rotR (m + 1) t).map oN).map sv) := TupF.new d27
    generalize upd H26 r27 (.frz o27 (.tup (((rotR (m + 1) t).map oN).map sv))) = H27 at *
    have S327 := S24.trans (S25.trans (S26.trans S27))
    refine catF_of (T23.same S327) T27 (by simp [lr]; omega) fun H28 r28 S28 T28 => ?_
    have ecm : (List.replicate (m + 1 - 1) W.ap).map wv ++ ((rotR (m + 1) t).map oN).map sv = (comb ((rotR (m + 1) t).map oN)).map wv := by
      have e : ∀ ns : List Nm, ns.map sv = (ns.map W.nm).map wv := fun ns => by rw [List.map_map]; rfl
      unfold comb
      rw [List.length_map, lr, e, List.map_append]
    rw [ecm] at T28
    refine ⟨_, rfl, (by show 4 ≤ sizeLine; decide), fun q29 o29 n29 d29 => ?_⟩
    have S29 := same_upd (o := HO.frz o29 (.tup [V.ref r18, V.ref r21, V.ref r28, V.ref r20])) n29
    have Sd := S22.trans (S23.trans (S327.trans (S28.trans S29)))
    have Sc := S19.trans (S20.trans (S21.trans Sd))
    exact k _ q29 r18 r21 r28 r20 _ _ _ _ (fam_row (t := t) hn) (P1.keep (S118.trans Sc)) (K1.trans (Same.keep (S118.trans Sc))) (TupF.new d29) (T18.same Sc) (T21.same Sd) (T28.same S29) (T20.same (S21.trans Sd))
end
end Kk

set_option maxHeartbeats 2000000
/-! math.comb; xs[i] read for an augmented store; a held def called; a walk over an enumerated list in a comprehension -/
namespace Kk
open PySem PySem.Spec PyProof.Rows L2
section
variable {X : Cx}
def rComb : List V → Hp → VK → Prop := fun vs H Q => ∃ a b : Int, vs = [.int a, .int b] ∧ 0 ≤ a ∧ 0 ≤ b ∧ a ≤ 18000 ∧ Q (.int (PySem.W.mcComb a b)) H
theorem cr_comb : CallR X (.builtin "math.comb") rComb := by
  intro pins s σ H vs us Q I r h
  obtain ⟨a, b, rfl, ha, hb, h2, q⟩ := h
  obtain ⟨t, u, rfl⟩ := Vals.int2 r
  exact PySem.W.mc_comb ha hb (by omega) (.inr h2) fun _ => ⟨.int _, H, I.tok _, ⟨_, rfl⟩, q⟩
/-- xs[i], 0 ≤ i, for an augmented store -/
def rGetL (K : PySem.W.Frag) : V → V → Hp → VK → Prop := fun x y H Q => ∃ p xs v, ∃ i : Nat, x = .ref p ∧ y = .int (i : Nat) ∧ SqL K H p xs ∧ xs[i]? = some v ∧ Q v H
theorem pget_list : PGet X (rGetL X.K) := by
  intro pins s σ H o i ov iv Q I rx ry h
  obtain ⟨p, xs, v, j, rfl, rfl, hq, he, q⟩ := h
  cases rx
  obtain ⟨t, rfl⟩ := ry
  obtain ⟨its, r, pl, hz⟩ := I.list hq
  obtain ⟨w, ew, rw'⟩ := r.get he
  have hl := r.length
  have hn := line63
  have hj : j < its.length := by
    have := (List.getElem?_eq_some_iff.mp ew).1
    simpa using this
  exact wpAny_getItem_list pl.isList (by omega) (by rw [sizeLine_eq] at hz; omega) (by simpa using ew) ⟨v, H, I, rw', q⟩
/-- f(e, ..), f a local name that holds a def -/
theorem pe_hL {k i : Nat} {f : Addr} {sp : Sp} {x : Str} {p pos : Pos} {e : Expr} {es : List Expr} {t : TA} (A : Held X.prog X.w X.K X.mg X.base k f sp) (hr : Room k X.A) (hN : X.N[i]? = some x) (hv : Vis X.env.scope x) (ha : PA X (e :: es) t)
    (hdb : (x == ("__debug__" : Str)) = false := by decide) (hcd : (x == ("__classdict__" : Str)) = false := by decide)
    (he : starEach (e :: es) X.env = (false, eval e X.env) :: starEach es X.env := by rfl) (hpl : (backTo pos (starEach es X.env)).any (·.1) = false := by rfl) : PE X (.Call (.Name x p) (e :: es) [] pos) (tCallL i f sp [] E0 t) := by
  obtain ⟨fd, ps, F, hk, hb⟩ := A.ex
  exact pe_callL F hr hN hv hk hb .nil pass0 ha hdb hcd he hpl
/-- e(..), e some expression that tells a def -/
def tCallE (te : TE) (S : Addr → Sp → Prop) (t : TA) : TE := fun σ H Q => te σ H fun v H1 => ∃ f sp, v = .ref f ∧ S f sp ∧ t σ H1 fun vs H2 => sp vs H2 Q E0
theorem pe_callSX {k : Nat} {S : Addr → Sp → Prop} {fe : Expr} {te : TE} {pos : Pos} {e : Expr} {es : List Expr} {t : TA} (A : ∀ f sp, S f sp → Held X.prog X.w X.K X.mg X.base k f sp) (hr : Room k X.A) (hf : PE X fe te) (ha : PA X (e :: es) t)
    (ht : eval (.Call fe (e :: es) [] pos) X.env = (do callWith pos (← eval fe X.env) [] (backTo pos (starEach (e :: es) X.env)) (backToKw pos (keywordEach [] X.env))) := by rfl)
    (he : starEach (e :: es) X.env = (false, eval e X.env) :: starEach es X.env := by rfl) (hpl : (backTo pos (starEach es X.env)).any (·.1) = false := by rfl) : PE X (.Call fe (e :: es) [] pos) (tCallE te S t) := by
  refine ⟨fun pins s σ H Q I h => ?_⟩
  rw [ht]
  refine wpAny_bind (thn (hf.run pins s σ H _ I h) fun u s1 ⟨v, H1, I1, r1, f, sp, ev, hS, q1⟩ => ?_)
  subst ev
  cases r1
  obtain ⟨fd, ps, F, hk, hb⟩ := (A f sp hS).ex
  refine PySem.W.callWith_K (h₀ := X.base) I.ok.mod.kin hk (thn (ha.run pos pins s1 σ _ _ I1 q1) fun us s2 ⟨vs, H2, I2, r, q⟩ => ⟨I2.kIn, ?_⟩) he hpl
  exact run_fn F hr hb (dvs := []) .nil pass0 I2 r (by rw [List.append_nil]; exact q)
end
/-- over an enumerated list that the block leaves as it is -/
theorem lc_enumL {K : PySem.W.Frag} {a : Addr} {xs : List V} {g : TG} {tt : TT} {te : TE} {vs : List Nat} {σ : L2.St} {H1 : Hp} {D : Addr} {Qd : Hp → Prop} (Pv : Nat → Hp → Prop) (h0 : Pv 0 (upd H1 D (.lst []))) (hl : ∀ i H, i ≤ xs.length → Pv i H → SqL K H a xs)
    (hs : ∀ i x H T, xs[i]? = some x → Pv i H → H T = none → g (.ref T) (wipe σ vs) (upd H T (.tup [.int (i : Nat), x])) fun σ2 H2 => wipe σ2 vs = wipe σ vs ∧ tt σ2 H2 fun b H3 =>
      if b = true then te σ2 H3 fun y H4 => ∃ acc, H4 D = some (.lst acc) ∧ acc.length < sizeLine ∧ Pv (i + 1) (upd H4 D (.lst (acc ++ [y]))) else Pv (i + 1) H3) (hd : ∀ H, Pv xs.length H → Qd H) :
    ∃ W : Nat → Nat → Hp → Prop, (∃ m, W 0 m (upd H1 D (.lst []))) ∧ ∀ i m H, W i m H →
      ((Ite K a).stop i H ∧ Qd H) ∨ ((Ite K a).go i H ∧ ∃ Nx : Hp → Prop, (∀ H', Nx H' → ∃ m', m' < m ∧ W (i + 1) m' H') ∧ ∀ x H', (Ite K a).yld i H x H' → g x (wipe σ vs) H' fun σ2 H2 => wipe σ2 vs = wipe σ vs ∧ tt σ2 H2 fun b H3 =>
        if b = true then te σ2 H3 fun y H4 => ∃ acc, H4 D = some (.lst acc) ∧ acc.length < sizeLine ∧ Nx (upd H4 D (.lst (acc ++ [y]))) else Nx H3) := by
  refine ⟨fun i m H => m = xs.length - i ∧ i ≤ xs.length ∧ Pv i H, ⟨xs.length, by simp, Nat.zero_le _, h0⟩, ?_⟩
  rintro i m H ⟨rfl, hi, p⟩
  have q := hl i H hi p
  by_cases hlt : i < xs.length
  · refine .inr ⟨⟨xs, xs[i], q, by simp [hlt]⟩, Pv (i + 1), fun H' p' => ⟨xs.length - (i + 1), by omega, rfl, hlt, p'⟩, fun x H' y => ?_⟩
    obtain ⟨T, z, rfl, hT, rfl, hz⟩ := y
    exact hs i z H T (hz xs q) p hT
  · have e : i = xs.length := by omega
    subst e
    exact .inl ⟨⟨xs, q, Nat.le_refl _⟩, hd H p⟩
end Kk

set_option maxHeartbeats 4000000
/-! the law -/
namespace Kk
open PySem PySem.Spec PyProof.Rows L2 Wd
theorem walk_run {ws last : List W} {way : List Nat} (h : Walk ws way last) : runV ws (way.map nv) = some last := by
  induction h with
  | nil => rfl
  | @cons ws X A B G Y n way last st _ ih =>
    show (if stepV ws (nv X.length) = true then runV (stepW ws (intOf (nv X.length))) (way.map nv) else none) = _
    rw [if_pos (stepV_nv st.is.2), intOf_nv, stepW_at st]
    exact ih
theorem walk_aps {ws last : List W} {way : List Nat} (h : Walk ws way last) : apsOf ws = apsOf last + way.length := by
  induction h with
  | nil => simp
  | @cons ws X A B G Y n way last st _ ih =>
    have : apsOf ws = apsOf (X ++ A ++ G ++ B ++ Y) + 1 := by
      rw [st.e]
      simp [apsOf, List.countP_append, List.countP_cons, isAp]
      omega
    rw [List.length_cons]
    omega
theorem fam_rst {n : Nat} {ws last : List W} {ps way : List Nat} (h : Fam n ws ps last way) : Rst ws last ∧ Vd last ∧ runV ws (way.map nv) = some last ∧ apsOf ws = apsOf last + n ∧ last.length ≤ ws.length ∧ ws.length ≤ 1000 := by
  have vl := h.wk.vd h.v
  have hl := h.wk.len
  have := h.le
  have := h.wl
  exact ⟨h.wk.rst h.v _ (rst_nf' vl h.fin), vl, walk_run h.wk, by rw [walk_aps h.wk, h.wl], by omega, by omega⟩
/-- a way cut short ends elsewhere -/
theorem walk_short {ws last : List W} {way : List Nat} (h : Walk ws way last) : ∀ k, k < way.length → ∃ us, runV ws ((way.take k).map nv) = some us ∧ last.length < us.length := by
  induction h with
  | nil => exact fun k hk => by cases hk
  | @cons ws X A B G Y n way last st w ih =>
    intro k hk
    cases k with
    | zero =>
      refine ⟨ws, rfl, ?_⟩
      have := (Walk.cons st w).len
      rw [List.length_cons] at this
      omega
    | succ k =>
      obtain ⟨us, e, l⟩ := ih k (by rw [List.length_cons] at hk; omega)
      refine ⟨us, ?_, l⟩
      show (if stepV ws (nv X.length) = true then runV (stepW ws (intOf (nv X.length))) ((way.take k).map nv) else none) = _
      rw [if_pos (stepV_nv st.is.2), intOf_nv, stepW_at st]
      exact e
theorem runV_app {ys : List W} : ∀ (xs zs : List V) (us : List W), runV us xs = some ys → runV us (xs ++ zs) = runV ys zs
  | [], zs, us, h => by
    have e : us = ys := Option.some.inj h
    subst e
    rfl
  | z :: xs, zs, us, h => by
    have h2 : (if stepV us z = true then runV (stepW us (intOf z)) xs else none) = some ys := h
    show (if stepV us z = true then runV (stepW us (intOf z)) (xs ++ zs) else none) = _
    split at h2
    · rename_i q
      rw [if_pos q]
      exact runV_app xs zs _ h2
    · cases h2
def spLaw (K : PySem.W.Frag) : Sp := fun vs H Q _ => ∃ (a : Addr) (ns : List Int), vs = [.ref a] ∧ SqL K H a (ns.map V.int) ∧ ns.length ≤ 63 ∧ ∀ H', Q (.bl true) H'
section
variable {P : Program} {w : World} {K : PySem.W.Frag} {mg : Str → Option Value} {base : Heap}
abbrev s_law : Stmt := (top 47)
theorem sc_law : FnScope ["_law_script", "_law_pot_here", "_law_shape", "_law_most", "_law_many", "_law_words", "_law_places", "_law_last", "_law_way", "_law_program", "_law_told", "_law_end", "_law_here"] ["_law_script"] (defScope s_law) := ⟨rfl, rfl, rfl, by decide +kernel, rfl, by decide +kernel, by decide +kernel⟩
theorem c_law {C f0 : Addr} {fd : FuncData} (B : Bt mg) (pc : PC K mg C) (F : Fun K "law" "law" s_law f0 fd) (MProgram : Mkr P w K mg base C)
    (C_law_pot : Cal P w K mg base "_law_pot" 1 ["_law_script"] (spPot K)) (C_law_draw : Cal P w K mg base "_law_draw" 1 ["_law_pot_here", "_law_many"] spDraw)
    (C_law_lefts : Cal P w K mg base "_law_lefts" 2 ["_law_pot_here", "_law_many"] (spFam 332)) (C_law_rights : Cal P w K mg base "_law_rights" 2 ["_law_pot_here", "_law_many"] (spFam 332)) (C_law_row : Cal P w K mg base "_law_row" 2 ["_law_pot_here", "_law_many"] (spFam 200)) (C_law_turns : Cal P w K mg base "_law_turns" 2 ["_law_pot_here", "_law_many"] (spFam 199))
    (C_law_numbers : Cal P w K mg base "_law_numbers" 2 ["_law_told", "_law_due"] (spNumbersT K)) (C_law_is_number : Cal P w K mg base "_law_is_number" 1 ["_law_thing"] (spIntG K)) (C_law_is_words : Cal P w K mg base "_law_is_words" 1 ["_law_thing", "_law_due"] (spIsWords K C))
    (Csteps : Cal P w K mg base "steps" 3 ["program"] (spOfP K C rSteps)) (Crest : Cal P w K mg base "rest" 8 ["program"] (spRest K C)) (Cmany_steps : Cal P w K mg base "many_steps" 9 ["program"] (spMany K C)) (Cis_way : Cal P w K mg base "is_way" 4 ["program", "other", "thing"] (spIsWay K C)) (Cstepped : Cal P w K mg base "stepped" 8 ["program", "place"] (spStepped K C)) :
    FnOk P w K mg base CX0 10 f0 fd ["_law_script"] (spLaw K) := by
  refine F.ok sc_law (fun vs H Q E h => ?_) (fun cdv A outer st0 H vs Q E hr h => ?_)
  · obtain ⟨a, ns, rfl, _⟩ := h
    rfl
  · obtain ⟨a0, ns0, rfl, hS, hlen, k⟩ := h
    have m_Program := pc.mg
    obtain ⟨f1, fd1, m__law_lefts, kp1, bi1, F1⟩ := C_law_lefts.ex
    obtain ⟨f2, fd2, m__law_rights, kp2, bi2, F2⟩ := C_law_rights.ex
    obtain ⟨f3, fd3, m__law_row, kp3, bi3, F3⟩ := C_law_row.ex
    obtain ⟨f4, fd4, m__law_turns, kp4, bi4, F4⟩ := C_law_turns.ex
    have HDS : ∀ g sp, ((g = f1 ∧ sp = spFam 332) ∨ (g = f2 ∧ sp = spFam 332) ∨ (g = f3 ∧ sp = spFam 200) ∨ (g = f4 ∧ sp = spFam 199)) → Held P w K mg base 2 g sp := by
      rintro g sp (⟨rfl, rfl⟩ | ⟨rfl, rfl⟩ | ⟨rfl, rfl⟩ | ⟨rfl, rfl⟩)
      · exact ⟨fd1, _, F1, kp1, bi1⟩
      · exact ⟨fd2, _, F2, kp2, bi2⟩
      · exact ⟨fd3, _, F3, kp3, bi3⟩
      · exact ⟨fd4, _, F4, kp4, bi4⟩
    refine ⟨_, (pss_cons (ps_set (i := 1) sc_law.nd rfl (by first | exact Or.inl rfl | exact Or.inr rfl) (pe_c C_law_pot (hr.mono (by decide)) (pa_cons (pv 0) pa_nil)))
      (pss_cons (ps_set (i := 2) sc_law.nd rfl (by first | exact Or.inl rfl | exact Or.inr rfl) (pe_c C_law_draw (hr.mono (by decide)) (pa_cons (pv 1) (pa_cons pe_int pa_nil))))
      (pss_cons (ps_set (i := 3) sc_law.nd rfl (by first | exact Or.inl rfl | exact Or.inr rfl) (pe_ix ix_list (pe_lst (pa_cons pe_int (pa_cons pe_int (pa_cons pe_int (pa_cons pe_int pa_nil))))) (pv 2) (fun _ _ => rfl)))
      (pss_cons (ps_set (i := 4) sc_law.nd rfl (by first | exact Or.inl rfl | exact Or.inr rfl) (pe_op op_add pe_int (pe_c C_law_draw (hr.mono (by decide)) (pa_cons (pv 1) (pa_cons (pe_mid (pe_ifExp (pt_cmpR op_eq (pe_c C_law_draw (hr.mono (by decide)) (pa_cons (pv 1) (pa_cons pe_int pa_nil))) pe_int (nomark _)) (pv 3) pe_int)) pa_nil)))))
      (pss_cons (ps_asg (pe_callSX HDS (hr.mono (by decide)) (pe_ix ix_list (pe_lst (pa_cons (pe_gr m__law_lefts) (pa_cons (pe_gr m__law_rights) (pa_cons (pe_gr m__law_row) (pa_cons (pe_gr m__law_turns) pa_nil))))) (pv 2) (fun _ _ => rfl)) (pa_cons (pv 1) (pa_cons (pv 4) pa_nil))) (pg_tup (by rfl) (pgs_cons (pg_name (i := 5) sc_law.nd rfl (by first | exact Or.inl rfl | exact Or.inr rfl)) (pgs_cons (pg_name (i := 6) sc_law.nd rfl (by first | exact Or.inl rfl | exact Or.inr rfl)) (pgs_cons (pg_name (i := 7) sc_law.nd rfl (by first | exact Or.inl rfl | exact Or.inr rfl)) (pgs_cons (pg_name (i := 8) sc_law.nd rfl (by first | exact Or.inl rfl | exact Or.inr rfl)) pgs_nil))))))
      (pss_cons (ps_set (i := 9) sc_law.nd rfl (by first | exact Or.inl rfl | exact Or.inr rfl) (pe_mk1 MProgram (hr.mono (by decide)) (pa_cons (pv 5) pa_nil)))
      (pss_cons (ps_set (i := 10) sc_law.nd rfl (by first | exact Or.inl rfl | exact Or.inr rfl) (pe_c Cmany_steps (hr.mono (by decide)) (pa_cons (pv 9) pa_nil)))
      (C8.pss_cut (ps_if (pt_mid (PW.pt (pw_or (pt_not (pt_val (pe_c C_law_numbers (hr.mono (by decide)) (pa_cons (pe_c Csteps (hr.mono (by decide)) (pa_cons (pv 9) pa_nil)) (pa_cons (pv 6) pa_nil))))) (pw_or (pt_not (pt_val (pe_c C_law_is_number (hr.mono (by decide)) (pa_cons (pv 10) pa_nil)))) (pw_or1 (pt_cmpR op_ne (pv 10) (pv 4) (nomark _))))))) (pss_one (ps_ret pe_bl)) pss_nil)
      (pss_cons (ps_set (i := 11) sc_law.nd rfl (by first | exact Or.inl rfl | exact Or.inr rfl) (pe_c Crest (hr.mono (by decide)) (pa_cons (pv 9) pa_nil)))
      (C8.pss_cut (ps_if (pt_mid (PW.pt (pw_or (pt_not (pt_val (pe_c C_law_is_words (hr.mono (by decide)) (pa_cons (pv 11) (pa_cons (pv 7) pa_nil))))) (pw_or1 (pt_cmpR (op_neD hr.units) (pe_c Csteps (hr.mono (by decide)) (pa_cons (pv 11) pa_nil)) (pe_tupF pa_nil) (nomark _)))))) (pss_one (ps_ret pe_bl)) pss_nil)
      (C8.pss_cut (ps_if (pt_cmpR op_notBl (pe_c Cis_way (hr.mono (by decide)) (pa_cons (pv 9) (pa_cons (pv 11) (pa_cons (pv 8) pa_nil)))) pe_bl (nomark _)) (pss_one (ps_ret pe_bl)) pss_nil)
      (C8.pss_cut (ps_if (pt_cmpR op_gt (pv 4) pe_int (nomark _)) (pss_one (ps_ret (pe_cmpR (op_eqD hr.units) (pe_fld (pv 9) rfl) (pv 5) (nomark _)))) pss_nil)
      (C8.pss_cut (ps_if (pt_cmpR op_notBl (pe_c Cis_way (hr.mono (by decide)) (pa_cons (pv 9) (pa_cons (pv 11) (pa_cons (pe_slice sl_tupG (pv 8) po_none (po_some (pe_un un_neg pe_int))) pa_nil)))) pe_bl (nomark _)) (pss_one (ps_ret pe_bl)) pss_nil)
      (C8.pss_cut (ps_if (pt_mid (PW.pt (pw_or (pt_cmpR op_notBl (pe_c Cis_way (hr.mono (by decide)) (pa_cons (pv 9) (pa_cons (pv 11) (pa_cons (pe_op op_catF (pv 8) (pe_tupF (pa_cons pe_int pa_nil))) pa_nil)))) pe_bl (nomark _)) (pw_or1 (pt_cmpR op_notBl (pe_c Cis_way (hr.mono (by decide)) (pa_cons (pv 9) (pa_cons (pv 9) (pa_cons (pe_tupF pa_nil) pa_nil)))) pe_bl (nomark _)))))) (pss_one (ps_ret pe_bl)) pss_nil)
      (pss_cons (ps_set (i := 12) sc_law.nd rfl (by first | exact Or.inl rfl | exact Or.inr rfl) (pe_c Cstepped (hr.mono (by decide)) (pa_cons (pv 9) (pa_cons (pe_ix ix_tup (pv 8) pe_int (fun _ _ => rfl)) pa_nil))))
      (pss_one (ps_ret (pe_and (pe_c C_law_is_words (hr.mono (by decide)) (pa_cons (pe_c Crest (hr.mono (by decide)) (pa_cons (pv 12) pa_nil)) (pa_cons (pv 7) pa_nil))) (pe_and (pe_cmpR op_eq (pe_c Cmany_steps (hr.mono (by decide)) (pa_cons (pv 12) pa_nil)) (pe_op op_sub (pv 4) pe_int) (nomark _)) (pe_one (pe_cmpR (op_eqD hr.units) (pe_fld (pv 9) rfl) (pv 5) (nomark _)))))))))))))))))))))), ?_⟩
    refine ⟨_, rfl, a0, ns0, rfl, hS, hlen, fun H1 p g s P1 S1 np ng ns1 => ?_⟩
    refine ⟨_, rfl, p, g, s, 4, rfl, P1, by decide, by decide, fun H2 j P2 K2 j0 j1 => ?_⟩
    obtain ⟨sh, rfl⟩ : ∃ sh : Nat, j = (sh : Int) := ⟨j.toNat, by omega⟩
    obtain ⟨lm, fx, l1, l2, e1, e2, hd⟩ : ∃ (lm : Nat) (fx : Addr), 24 ≤ lm ∧ lm ≤ 332 ∧ atI [V.int 332, V.int 332, V.int 200, V.int 199] (sh : Int) = some (V.int (lm : Nat)) ∧ atI [V.ref f1, V.ref f2, V.ref f3, V.ref f4] (sh : Int) = some (V.ref fx) ∧ ((fx = f1 ∧ spFam lm = spFam 332) ∨ (fx = f2 ∧ spFam lm = spFam 332) ∨ (fx = f3 ∧ spFam lm = spFam 200) ∨ (fx = f4 ∧ spFam lm = spFam 199)) := by
      have : sh = 0 ∨ sh = 1 ∨ sh = 2 ∨ sh = 3 := by omega
      rcases this with rfl | rfl | rfl | rfl
      · exact ⟨332, f1, by decide, by decide, atI_nat (j := 0) rfl, atI_nat (j := 0) rfl, .inl ⟨rfl, rfl⟩⟩
      · exact ⟨332, f2, by decide, by decide, atI_nat (j := 1) rfl, atI_nat (j := 1) rfl, .inr (.inl ⟨rfl, rfl⟩)⟩
      · exact ⟨200, f3, by decide, by decide, atI_nat (j := 2) rfl, atI_nat (j := 2) rfl, .inr (.inr (.inl ⟨rfl, rfl⟩))⟩
      · exact ⟨199, f4, by decide, by decide, atI_nat (j := 3) rfl, atI_nat (j := 3) rfl, .inr (.inr (.inr ⟨rfl, rfl⟩))⟩
    have big := bigN
    refine ⟨(by show 4 ≤ sizeLine; decide), fun u nu => ⟨_, rfl, u, _, _, _, rfl, rfl, SqL.of upd_same, e1, ?_⟩⟩
    have P3 := P2.keep (same_upd (o := HO.lst [V.int 332, V.int 332, V.int 200, V.int 199]) nu)
    generalize upd H2 u (.lst [V.int 332, V.int 332, V.int 200, V.int 199]) = H3 at *
    refine ⟨_, rfl, fun v H' => ∃ c : Nat, v = .int (c : Nat) ∧ 1 ≤ c ∧ c ≤ lm ∧ PotAt H' p g s, ?_, ?_⟩
    · refine ⟨_, rfl, p, g, s, 24, rfl, P3, by decide, by decide, fun H4 j4 P4 K4 _ _ => ⟨rfl, _, rfl, ite2 (fun _ => ?_) (fun _ => ?_)⟩⟩
      · exact ⟨_, rfl, lm, rfl, by omega, Nat.le_refl _, P4⟩
      · exact ⟨24, rfl, by decide, l1, P4⟩
    rintro v H4 ⟨c, rfl, c1, c2, P4⟩
    refine ⟨p, g, s, c, rfl, P4, by omega, by omega, fun H5 j5 P5 K5 b0 b1 => ?_⟩
    obtain ⟨n, hn, n1, n2⟩ : ∃ n : Nat, (1 : Int) + j5 = (n : Int) ∧ 1 ≤ n ∧ n ≤ lm := ⟨((1 : Int) + j5).toNat, by omega, by omega, by omega⟩
    refine ⟨_, _, rfl, rfl, ?_⟩
    simp only [hn]
    refine ⟨(by show 4 ≤ sizeLine; decide), fun u2 nu2 => ⟨_, rfl, u2, _, _, _, rfl, rfl, SqL.of upd_same, e2, fx, _, rfl, hd, ?_⟩⟩
    have P6 := P5.keep (same_upd (o := HO.lst [V.ref f1, V.ref f2, V.ref f3, V.ref f4]) nu2)
    generalize upd H5 u2 (.lst [V.ref f1, V.ref f2, V.ref f3, V.ref f4]) = H6 at *
    refine ⟨_, rfl, _, rfl, p, g, s, n, rfl, P6, n1, n2, fun H7 q a b d e ws last ps way FM P7 K7 TQ TA TB TD TE => ?_⟩
    refine ⟨q, _, rfl, TQ.sq, rfl, ?_⟩
    obtain ⟨hR, vl, hrun, haps, hle, hwl⟩ := fam_rst FM
    have em : ((apsOf ws : Nat) : Int) - (apsOf last : Nat) = (n : Nat) := by omega
    refine ⟨_, _, rfl, _, _, rfl, _, _, rfl, _, _, rfl, rfl, ?_⟩
    refine ⟨_, rfl, fun x dx nx ndx nex => ?_⟩
    have Sm := made_same (C := C) nx ndx
    refine ⟨x, dx, a, ws, rfl, upd_same, (TA.same Sm).sq, FM.v, hwl, fun H8 B8 PX8 => ⟨rfl, ?_⟩⟩
    have S8 := B8.same Sm nx
    have TA8 := TA.same S8
    have TB8 := TB.same S8
    have TD8 := TD.same S8
    have TE8 := TE.same S8
    clear Sm B8 TA TB TD TE TQ
    refine ⟨_, rfl, x, a, ws, last, rfl, PX8, TA8, FM.v, hwl, hR, vl, by omega, fun H9 S9 => ?_⟩
    simp only [em]
    have hps : ps.length ≤ 4000 := by
      rw [← FM.st]
      exact Nat.le_trans (List.length_filter_le _ _) (by rw [List.length_range]; omega)
    refine ⟨fun σ H' => σ = [some (.ref a0), some (.ref p), some (.int (sh : Nat)), some (.int (lm : Nat)), some (.int (n : Nat)), some (.ref a), some (.ref b), some (.ref d), some (.ref e), some (.ref x), some (.int (n : Nat)), none, none] ∧ Same H8 H', ?_, ?_⟩
    · refine ⟨fun bb H' => bb = false ∧ Same H8 H', ?_, ?_⟩
      · refine ⟨_, rfl, x, a, ws, rfl, PX8.same S9, TA8.same S9, FM.v, by omega, fun H10 v S10 ⟨qq, ev, nq, Tq⟩ => ?_⟩
        subst ev
        rw [FM.st] at Tq
        refine ⟨_, rfl, qq, b, ps, rfl, Tq, TB8.same (S9.trans S10), hps, fun H11 S11 => ⟨_, rfl, iteF ?_⟩⟩
        refine ⟨_, rfl, _, rfl, NumT.int _, _, rfl, iteF ?_⟩
        refine ⟨_, rfl, _, rfl, rfl, _, rfl, ?_, S9.trans (S10.trans S11)⟩
        rw [decide_eq_true rfl]; rfl
      · rintro bb H10 ⟨rfl, S10⟩
        exact iteF ⟨rfl, S10⟩
    rintro σ H10 ⟨rfl, S10⟩
    clear S9
    refine ⟨_, rfl, x, a, ws, last, rfl, PX8.same S10, TA8.same S10, FM.v, hwl, hR, vl.ok, by omega, fun H11 y c' S11 ny PY TC => ?_⟩
    have PY := PY
    refine ⟨fun σ H' => σ = [some (.ref a0), some (.ref p), some (.int (sh : Nat)), some (.int (lm : Nat)), some (.int (n : Nat)), some (.ref a), some (.ref b), some (.ref d), some (.ref e), some (.ref x), some (.int (n : Nat)), some (.ref y), none] ∧ Same H11 H', ?_, ?_⟩
    · refine ⟨fun bb H' => bb = false ∧ Same H11 H', ?_, ?_⟩
      · refine ⟨_, rfl, _, rfl, y, c', d, last, rfl, PY, TC, TD8.same (S10.trans S11), vl.ok, by omega, _, rfl, iteF ?_⟩
        refine ⟨_, rfl, y, c', last, rfl, PY, TC, vl, by omega, fun H12 v S12 ⟨qq, ev, nq, Tq⟩ => ?_⟩
        subst ev
        rw [FM.fin] at Tq
        refine ⟨Nat.zero_le _, fun r13 o13 n13 d13 => ?_⟩
        have S13 := same_upd (o := HO.frz o13 (.tup [])) n13
        have T13 : TupF (upd H12 r13 (.frz o13 (.tup []))) r13 ([] : List V) := TupF.new d13
        exact neD_same (Tq.same S13).sq T13.sq (fun x hx => by cases hx) ⟨_, rfl, rfl, S12.trans S13⟩
      · rintro bb H12 ⟨rfl, S12⟩
        exact iteF ⟨rfl, S12⟩
    rintro σ H12 ⟨rfl, S12⟩
    have S811 := S10.trans S11
    have tht : ∀ (t : Addr) (l : List Nat) (H' : Hp), TupF H' t (l.map nv) → l.length ≤ 1000 → ThT K H' (.ref t) (some (l.map nv)) := fun t l H' h hl => ⟨t, rfl, h.sq, by rw [List.length_map]; exact hl, fun z hz => by
      obtain ⟨j, _, rfl⟩ := List.mem_map.mp hz
      exact NumT.int _⟩
    have wl := FM.wl
    have wT : dueB (some (way.map nv)) (wayB ws last) = true := by
      show wayB ws last (way.map nv) = true
      unfold wayB
      rw [hrun]
      exact decide_eq_true rfl
    refine ⟨fun σ H' => σ = [some (.ref a0), some (.ref p), some (.int (sh : Nat)), some (.int (lm : Nat)), some (.int (n : Nat)), some (.ref a), some (.ref b), some (.ref d), some (.ref e), some (.ref x), some (.int (n : Nat)), some (.ref y), none] ∧ Same H11 H', ?_, ?_⟩
    · refine ⟨_, rfl, _, rfl, _, rfl, x, y, a, c', ws, last, .ref e, some (way.map nv), rfl, PX8.same (S811.trans S12), TA8.same (S811.trans S12), FM.v, hwl, PY.same S12, TC.same S12, vl.ok, tht e way _ (TE8.same (S811.trans S12)) (by omega), fun H13 S13 => ?_⟩
      rw [wT]
      exact ⟨_, _, rfl, rfl, _, rfl, iteF ⟨rfl, S12.trans S13⟩⟩
    rintro σ H13 ⟨rfl, S13⟩
    clear S12
    refine ⟨fun σ H' => σ = [some (.ref a0), some (.ref p), some (.int (sh : Nat)), some (.int (lm : Nat)), some (.int (n : Nat)), some (.ref a), some (.ref b), some (.ref d), some (.ref e), some (.ref x), some (.int (n : Nat)), some (.ref y), none] ∧ Same H11 H', ?_, ?_⟩
    · refine ⟨_, rfl, _, _, rfl, rfl, _, rfl, ite2 (fun _ => ?_) (fun _ => ⟨rfl, S13⟩)⟩
      obtain ⟨dx', hx'⟩ := PX8.same (S811.trans S13)
      have TA13 := TA8.same (S811.trans S13)
      refine ⟨_, rfl, x, C, dx', _, _, rfl, hx', pc.cl, pc.nw, pfs_get a, _, rfl, ?_⟩
      refine eqD_same TA13.sq TA13.sq (plain_ws FM.v.ok) (k _)
    rintro σ H14 ⟨rfl, S14⟩
    clear S13
    refine ⟨fun σ H' => σ = [some (.ref a0), some (.ref p), some (.int (sh : Nat)), some (.int (lm : Nat)), some (.int (n : Nat)), some (.ref a), some (.ref b), some (.ref d), some (.ref e), some (.ref x), some (.int (n : Nat)), some (.ref y), none] ∧ Same H11 H', ?_, ?_⟩
    · have ecut : cutV (way.map nv) none (some (-1)) = (way.take (n - 1)).map nv := by
        have e : HT.sIx (way.map nv).length (way.map nv).length (some (-1)) = n - 1 := by
          show (if (-1 : Int) < 0 then ((-1 : Int) + ((way.map nv).length : Int)).toNat else min (-1 : Int).toNat (way.map nv).length) = _
          rw [if_pos (by decide), List.length_map, wl]
          omega
        unfold cutV
        rw [HT.sIx_none, e, List.drop_zero, Nat.sub_zero, List.map_take]
      obtain ⟨us, hus, lus⟩ := walk_short FM.wk (n - 1) (by omega)
      have wF : dueB (some ((way.take (n - 1)).map nv)) (wayB ws last) = false := by
        show wayB ws last _ = false
        unfold wayB
        rw [hus]
        exact decide_eq_false fun q => by rw [q] at lus; omega
      refine ⟨_, rfl, _, rfl, _, rfl, _, rfl, _, rfl, cutF_of (TE8.same (S811.trans S14)) fun H15 r15 S15 T15 => ?_⟩
      rw [ecut] at T15
      have Sx := S14.trans S15
      refine ⟨x, y, a, c', ws, last, .ref r15, some ((way.take (n - 1)).map nv), rfl, PX8.same (S811.trans Sx), TA8.same (S811.trans Sx), FM.v, hwl, PY.same Sx, TC.same Sx, vl.ok, tht r15 _ _ T15 (by rw [List.length_take]; omega), fun H16 S16 => ?_⟩
      rw [wF]
      exact ⟨_, _, rfl, rfl, _, rfl, iteF ⟨rfl, Sx.trans S16⟩⟩
    rintro σ H15 ⟨rfl, S15⟩
    clear S14
    refine ⟨fun σ H' => σ = [some (.ref a0), some (.ref p), some (.int (sh : Nat)), some (.int (lm : Nat)), some (.int (n : Nat)), some (.ref a), some (.ref b), some (.ref d), some (.ref e), some (.ref x), some (.int (n : Nat)), some (.ref y), none] ∧ Same H11 H', ?_, ?_⟩
    · refine ⟨fun bb H' => bb = false ∧ Same H11 H', ?_, ?_⟩
      · have wF : dueB (some ((way ++ [0]).map nv)) (wayB ws last) = false := by
          show wayB ws last _ = false
          unfold wayB
          rw [List.map_append, runV_app _ _ _ hrun]
          have : stepV last (nv 0) = false := by
            show (decide ((0 : Int) ≤ (0 : Nat)) && isStp last ((0 : Nat) : Int).toNat) = false
            rw [show ((0 : Nat) : Int).toNat = 0 from rfl, noStp_of FM.fin 0, Bool.and_false]
          have h2 : runV last (([0] : List Nat).map nv) = none := by
            show (if stepV last (nv 0) = true then runV (stepW last (intOf (nv 0))) [] else none) = none
            rw [this]
            rfl
          rw [h2]
        refine ⟨_, rfl, _, rfl, _, rfl, (by show 1 ≤ sizeLine; decide), fun r16 o16 n16 d16 => ?_⟩
        have S16 := same_upd (o := HO.frz o16 (.tup [V.int 0])) n16
        have T16 : TupF (upd H15 r16 (.frz o16 (.tup [V.int 0]))) r16 ([0].map nv) := TupF.new d16
        generalize upd H15 r16 (.frz o16 (.tup [V.int 0])) = H16 at *
        refine catF_of (TE8.same (S811.trans (S15.trans S16))) T16 (by simp; omega) fun H17 r17 S17 T17 => ?_
        rw [← List.map_append] at T17
        have Sx := S15.trans (S16.trans S17)
        refine ⟨x, y, a, c', ws, last, .ref r17, some ((way ++ [0]).map nv), rfl, PX8.same (S811.trans Sx), TA8.same (S811.trans Sx), FM.v, hwl, PY.same Sx, TC.same Sx, vl.ok, tht r17 _ _ T17 (by rw [List.length_append]; show _ + 1 ≤ _; omega), fun H18 S18 => ?_⟩
        rw [wF]
        refine ⟨_, _, rfl, rfl, _, rfl, iteF ?_⟩
        refine ⟨_, rfl, _, rfl, Nat.zero_le _, fun r19 o19 n19 d19 => ?_⟩
        have S19 := same_upd (o := HO.frz o19 (.tup [])) n19
        have T19 : TupF (upd H18 r19 (.frz o19 (.tup []))) r19 (([] : List Nat).map nv) := TupF.new d19
        generalize upd H18 r19 (.frz o19 (.tup [])) = H19 at *
        have Sy := Sx.trans (S18.trans S19)
        have wN : dueB (some (([] : List Nat).map nv)) (wayB ws ws) = true := by
          show wayB ws ws [] = true
          unfold wayB
          exact decide_eq_true rfl
        refine ⟨x, x, a, a, ws, ws, .ref r19, some (([] : List Nat).map nv), rfl, PX8.same (S811.trans Sy), TA8.same (S811.trans Sy), FM.v, hwl, PX8.same (S811.trans Sy), TA8.same (S811.trans Sy), FM.v.ok, tht r19 _ _ T19 (Nat.zero_le _), fun H20 S20 => ?_⟩
        rw [wN]
        exact ⟨_, _, rfl, rfl, _, rfl, rfl, Sy.trans S20⟩
      · rintro bb H16 ⟨rfl, S16⟩
        exact iteF ⟨rfl, S16⟩
    rintro σ H16 ⟨rfl, S16⟩
    clear S15
    obtain ⟨X, A1, B1, G1, Y1, nn, way', rfl, st, wk⟩ : ∃ X A B G Y nn way', way = X.length :: way' ∧ StepAt ws X A B G Y nn ∧ Walk (X ++ A ++ G ++ B ++ Y) way' last := by
      have := FM.wk
      cases this with
      | nil => simp at wl; omega
      | cons st w => exact ⟨_, _, _, _, _, _, _, rfl, st, w⟩
    have hR2 := rst_next FM.v st hR
    have v2 := step_vd FM.v st
    have ln : (X ++ A1 ++ G1 ++ B1 ++ Y1).length + 3 = ws.length := by rw [st.e]; simp; omega
    have ap2 := walk_aps wk
    rw [List.length_cons] at wl
    refine ⟨_, rfl, _, rfl, e, _, _, nv X.length, rfl, rfl, (TE8.same (S811.trans S16)).sq, atI_nat (j := 0) rfl, x, a, ws, X, A1, B1, G1, Y1, nn, rfl, PX8.same (S811.trans S16), TA8.same (S811.trans S16), FM.v, st, by omega, fun H17 z cz S17 nz PZ TZ => ?_⟩
    refine ⟨_, rfl, z, cz, _, last, rfl, PZ, TZ, v2, by omega, hR2, vl.ok, by omega, fun H18 y2 c2 S18 ny2 PY2 TC2 => ?_⟩
    have S818 := S811.trans (S16.trans (S17.trans S18))
    refine ⟨_, rfl, y2, c2, d, last, rfl, PY2, TC2, TD8.same S818, vl.ok, by omega, ?_⟩
    refine ⟨_, rfl, iteT ?_⟩
    have em2 : ((apsOf (X ++ A1 ++ G1 ++ B1 ++ Y1) : Nat) : Int) - (apsOf last : Nat) = (n : Nat) - 1 := by omega
    refine ⟨_, rfl, z, cz, _, last, rfl, PZ.same S18, TZ.same S18, v2, by omega, hR2, vl, by omega, fun H19 S19 => ?_⟩
    simp only [em2]
    refine ⟨_, rfl, _, _, rfl, rfl, rfl, _, rfl, ite2 (fun _ => ?_) (fun h => absurd (decide_eq_true rfl) h)⟩
    obtain ⟨dx', hx'⟩ := PX8.same (S818.trans S19)
    have TA19 := TA8.same (S818.trans S19)
    refine ⟨_, rfl, x, C, dx', _, _, rfl, hx', pc.cl, pc.nw, pfs_get a, _, rfl, ?_⟩
    exact eqD_same TA19.sq TA19.sq (plain_ws FM.v.ok) (k _)
end
end Kk

/-! ### the end -/
namespace Kk
open PySem PySem.Spec PyProof.Rows L2
structure AllD (K : PySem.W.Frag) (mg : Str → Option Value) : Prop where
  d_law_draw : DefAt K mg "_law_draw" s_draw
  d_law_pot : DefAt K mg "_law_pot" s_pot
  d_law_letters : DefAt K mg "_law_letters" s_letters
  dmisfit_index : DefAt K mg "misfit_index" s_misfit_index
  dends_by : DefAt K mg "ends_by" s_ends_by
  dis_name : DefAt K mg "is_name" s_is_name
  dis_word : DefAt K mg "is_word" s_is_word
  dstranger_index : DefAt K mg "stranger_index" s_stranger_index
  dparts_in : DefAt K mg "parts_in" s_parts_in
  drepeated_index : DefAt K mg "repeated_index" s_repeated_index
  dends_of : DefAt K mg "ends_of" s_ends_of
  dunused_index : DefAt K mg "unused_index" s_unused_index
  dfault_index : DefAt K mg "fault_index" s_fault_index
  dstands_as_name : DefAt K mg "stands_as_name" s_stands_as_name
  dgivens : DefAt K mg "givens" s_givens
  dbuilt : DefAt K mg "built" s_built
  dend_from : DefAt K mg "end_from" s_end_from
  dstep_done : DefAt K mg "step_done" s_step_done
  dis_number : DefAt K mg "is_number" s_is_number
  d_law_is_number : DefAt K mg "_law_is_number" s_lnumber
  dis_step : DefAt K mg "is_step" s_is_step
  dsteps : DefAt K mg "steps" s_steps
  dstepped : DefAt K mg "stepped" s_stepped
  dis_way : DefAt K mg "is_way" s_is_way
  drest : DefAt K mg "rest" s_rest
  dmany_steps : DefAt K mg "many_steps" s_many_steps
  d_law_numbers : DefAt K mg "_law_numbers" s_numbersR
  d_law_is_words : DefAt K mg "_law_is_words" s_is_words
  d_law_lefts : DefAt K mg "_law_lefts" s_lefts
  d_law_rights : DefAt K mg "_law_rights" s_rights
  d_law_turns : DefAt K mg "_law_turns" s_turns
  d_law_row : DefAt K mg "_law_row" s_row16
theorem law_ok {P : Program} {w : World} {K : PySem.W.Frag} {mg : Str → Option Value} {base : Heap} {C f fi : Addr} {fd fdi : FuncData} (B : Bt mg) (pc : PC K mg C) (M : Mk K C fi) (FI : Fun K "__init__" "Program.__init__" s_init fi fdi) (a : AllD K mg) (F : Fun K "law" "law" s_law f fd) :
    FnOk P w K mg base CX0 10 f fd ["_law_script"] (spLaw K) := by
  have C_law_draw := c_draw (P := P) (w := w) (base := base) B (D := a.d_law_draw)
  have C_law_pot := c_pot (P := P) (w := w) (base := base) B (D := a.d_law_pot)
  have C_law_letters := c_letters (P := P) (w := w) (base := base) B (D := a.d_law_letters)
  have Cmisfit_index := c_misfit_index (P := P) (w := w) (base := base) B (D := a.dmisfit_index)
  have Cends_by := c_ends_by (P := P) (w := w) (base := base) B (D := a.dends_by)
  have Cis_name := c_is_name (P := P) (w := w) (base := base) B (D := a.dis_name)
  have Cis_word := c_is_word (P := P) (w := w) (base := base) B (D := a.dis_word) (Cis_name := Cis_name)
  have Cstranger_index := c_stranger_index (P := P) (w := w) (base := base) B (D := a.dstranger_index) (Cis_word := Cis_word)
  have Cparts_in := c_parts_in (P := P) (w := w) (base := base) B (D := a.dparts_in)
  have Crepeated_index := c_repeated_index (P := P) (w := w) (base := base) B (D := a.drepeated_index)
  have Cends_of := c_ends_of (P := P) (w := w) (base := base) B (D := a.dends_of) (Cparts_in := Cparts_in) (Cends_by := Cends_by)
  have Cunused_index := c_unused_index (P := P) (w := w) (base := base) B (D := a.dunused_index) (Cends_of := Cends_of)
  have Cfault_index := c_fault_index (P := P) (w := w) (base := base) B (D := a.dfault_index) (Cstranger_index := Cstranger_index) (Cparts_in := Cparts_in) (Cmisfit_index := Cmisfit_index) (Crepeated_index := Crepeated_index) (Cunused_index := Cunused_index)
  have MProgram : Mkr P w K mg base C := ⟨fi, fdi, M, pc.mg, FI.binds (ps := ["self", "words"]) (fun _ _ _ _ _ _ us hl => match us, hl with | [_, _], _ => rfl), c_init (P := P) (w := w) (base := base) B pc (F := FI) (Cfault_index := Cfault_index)⟩
  have Cstands_as_name := c_stands_as_name (P := P) (w := w) (base := base) B (D := a.dstands_as_name)
  have Cgivens := c_givens (P := P) (w := w) (base := base) B pc (D := a.dgivens)
  have Cbuilt := c_built (P := P) (w := w) (base := base) B pc (D := a.dbuilt) (MProgram := MProgram)
  have Cend_from := c_end_from (P := P) (w := w) (base := base) B (D := a.dend_from) (Cparts_in := Cparts_in)
  have Cstep_done := c_step_done (P := P) (w := w) (base := base) B (D := a.dstep_done) (Cend_from := Cend_from)
  have Cis_number := c_is_number (P := P) (w := w) (base := base) B (D := a.dis_number)
  have C_law_is_number := c_lnumber (P := P) (w := w) (base := base) B (D := a.d_law_is_number)
  have Cis_step := c_is_step (P := P) (w := w) (base := base) B (D := a.dis_step) (Cis_number := Cis_number)
  have Cis_step_V := c_is_step__V (P := P) (w := w) (base := base) (Cis_step := Cis_step)
  have Csteps := c_steps (P := P) (w := w) (base := base) B pc (D := a.dsteps) (Cis_step := Cis_step_V)
  have Cstepped := c_stepped (P := P) (w := w) (base := base) B pc (D := a.dstepped) (Cis_step := Cis_step_V) (Cstep_done := Cstep_done) (Cbuilt := Cbuilt)
  have Cis_way := c_is_way (P := P) (w := w) (base := base) B pc (D := a.dis_way) (Cis_step := Cis_step) (Cstep_done := Cstep_done)
  have Crest := c_rest (P := P) (w := w) (base := base) B pc (D := a.drest) (Cends_of := Cends_of) (Cstands_as_name := Cstands_as_name) (Cbuilt := Cbuilt)
  have Cmany_steps := c_many_steps (P := P) (w := w) (base := base) B (D := a.dmany_steps) (Cgivens := Cgivens) (Crest := Crest)
  have C_law_numbers := c_numbersR (P := P) (w := w) (base := base) B (D := a.d_law_numbers) (C_law_is_number := C_law_is_number)
  have C_law_is_words := c_is_words (P := P) (w := w) (base := base) B pc (D := a.d_law_is_words)
  have C_law_lefts := c_lefts (P := P) (w := w) (base := base) B (D := a.d_law_lefts) (C_law_letters := C_law_letters)
  have C_law_rights := c_rights (P := P) (w := w) (base := base) B (D := a.d_law_rights) (C_law_letters := C_law_letters)
  have C_law_turns := c_turns (P := P) (w := w) (base := base) B (D := a.d_law_turns) (C_law_letters := C_law_letters)
  have C_law_row := c_row16 (P := P) (w := w) (base := base) B (D := a.d_law_row) (C_law_draw := C_law_draw) (C_law_letters := C_law_letters)
  exact c_law (P := P) (w := w) (base := base) B pc (F := F) (MProgram := MProgram) (C_law_pot := C_law_pot) (C_law_draw := C_law_draw) (C_law_lefts := C_law_lefts) (C_law_rights := C_law_rights) (C_law_row := C_law_row) (C_law_turns := C_law_turns) (C_law_numbers := C_law_numbers) (C_law_is_number := C_law_is_number) (C_law_is_words := C_law_is_words) (Csteps := Csteps) (Crest := Crest) (Cmany_steps := Cmany_steps) (Cis_way := Cis_way) (Cstepped := Cstepped)
theorem def_mk {K : PySem.W.Frag} {h : Heap} {mg : Str → Option Value} {x : Str} {st : Stmt} (X : K.In h) (G : h.Ns mainGlobals mg) {f : Addr} {od an : Option Addr} {sl : Array (Option Value)} {oc kV dc pm cd ct : Value} {nm : Str}
    (a : PySem.W.nsIn K mainGlobals x = some (some (.ref f))) (l : K.lookup f = some ⟨oc, od, .func (PySem.W.fnOf nm nm (defArgs st) (defBody st) (defScope st) .none kV dc pm an cd ct), sl⟩) (c : PySem.W.codeIn K cd nm = true) (k : PySem.W.keepIn K (.ref f) = true) : DefAt K mg x st nm :=
  ⟨f, _, fun_mk (st := st) l c k, PySem.W.mg_of X G a⟩
theorem glob_s {K : PySem.W.Frag} {h : Heap} {mg : Str → Option Value} {x z : Str} {t : Tok} (X : K.In h) (G : h.Ns mainGlobals mg) (a : PySem.W.nsIn K mainGlobals x = some (some (.str z t))) : ∃ t, mg x = some (.str z t) := ⟨t, PySem.W.mg_of X G a⟩
theorem glob_i {K : PySem.W.Frag} {h : Heap} {mg : Str → Option Value} {x : Str} {z : Int} {t : Tok} (X : K.In h) (G : h.Ns mainGlobals mg) (a : PySem.W.nsIn K mainGlobals x = some (some (.int z t))) : ∃ t, mg x = some (.int z t) := ⟨t, PySem.W.mg_of X G a⟩
theorem law_mk {l : PySem.W.OpenLaw} {w : World} {K : PySem.W.Frag} {h : Heap} {mg : Str → Option Value} {fa C fi f : Addr} (X : K.In h) (G : h.Ns mainGlobals mg) (hfa : mg "law" = some (.ref fa))
    {od1 an1 od4 an4 : Option Addr} {sl1 sl4 : Array (Option Value)} {oc1 kV1 dc1 pm1 cd1 ct1 oc4 kV4 dc4 pm4 cd4 ct4 : Value}
    (a1 : PySem.W.findIn K (.ref C) "__init__" = some (some (.ref fi))) (i1 : PySem.W.isFn K (.ref fi) = true) (l1 : K.lookup fi = some ⟨oc1, od1, .func (PySem.W.fnOf "__init__" "Program.__init__" (defArgs s_init) (defBody s_init) (defScope s_init) .none kV1 dc1 pm1 an1 cd1 ct1), sl1⟩) (c1 : PySem.W.codeIn K cd1 "Program.__init__" = true) (k1 : PySem.W.keepIn K (.ref fi) = true)
    (a4 : PySem.W.nsIn K mainGlobals "law" = some (some (.ref f))) (l4 : K.lookup f = some ⟨oc4, od4, .func (PySem.W.fnOf "law" "law" (defArgs s_law) (defBody s_law) (defScope s_law) .none kV4 dc4 pm4 an4 cd4 ct4), sl4⟩) (c4 : PySem.W.codeIn K cd4 "law" = true) (k4 : PySem.W.keepIn K (.ref f) = true)
    (mk : PySem.W.makesIn K C = true) (kc : PySem.W.keepIn K (.ref C) = true)
    (B : Bt mg) (pc : PC K mg C) (a : AllD K mg) :
    ∃ fd : FuncData, (∀ (s : Shared) (v : Value), BindsTo s fd ⟨[v], []⟩ [("_law_script", v)]) ∧ ∀ base : Heap, K.In base → base.Ns mainGlobals mg → FnOk l.prog w K mg base CX0 10 fa fd ["_law_script"] (spLaw K) := by
  have e := hfa.symm.trans (PySem.W.mg_of X G a4)
  cases e
  exact ⟨PySem.W.fnOf "law" "law" (defArgs s_law) (defBody s_law) (defScope s_law) .none kV4 dc4 pm4 an4 cd4 ct4, fun s v => .of_eq rfl, fun base _ _ => law_ok B pc ⟨mk, a1, i1, kc⟩ (fun_mk (st := s_init) l1 c1 k1) a (fun_mk (st := s_law) l4 c4 k4)⟩
theorem walk {l : PySem.W.OpenLaw} {q : Program} {loose : List Str} {XP : (Str → Option Value) → Heap → Prop} {YP : World → Heap → Prop} {d : DefRec} {K : Params → PySem.W.Frag} (hn : l.most = some 63) (hdf : d.params.defaults = [])
    (hY : ∀ (w : World) (h : Heap), YP w h → (K w.params).In h)
    (F : ∀ (w : World) (mg : Str → Option Value) (fa : Addr) (h : Heap), (K w.params).In h → h.Ns mainGlobals mg → mg d.name = some (.ref fa) →
      ∃ fd : FuncData, (∀ (s : Shared) (u : Value), BindsTo s fd ⟨[u], []⟩ [("_law_script", u)]) ∧ ∀ base : Heap, (K w.params).In base → base.Ns mainGlobals mg → FnOk l.prog w (K w.params) mg base CX0 10 fa fd ["_law_script"] (spLaw (K w.params))) :
    PySem.W.WalkO q loose XP YP l.row.toRowW d [] (fun f vs => PySem.call f vs) :=
  L2.walk_of (n := 63) (k := 10) (x := "_law_script") (CX := fun _ => CX0) (sp := fun w => spLaw (K w.params)) hn (by decide) hdf ⟨rfl, by decide, by decide⟩ hY F (fun _ _ a ns hl _ hS => ⟨a, ns, rfl, hS, hl, fun _ => rfl⟩) fun _ _ _ _ _ z => z
end Kk
open PySem PySem.W PyProof.Rows
set_option maxRecDepth 100000 in
set_option maxHeartbeats 0 in
theorem PySem.Challenge.cw_oncekinds_k16_whole_long_rows_of_steps_holds : PySem.Challenge.rw_oncekinds_k16_whole_long_rows_of_steps.Holds := by
  w_on; o_law; k_head; (case hw => w_witness2)
  k_fill
  refine Kk.walk (l := PySem.Challenge.rw_oncekinds_k16_whole_long_rows_of_steps) rfl rfl (fun w h Y => PySem.W.kIn_of Y) ?F
  case F =>
    intro w mg fa h KX G hmg
    have b_len : mg "len" = none := by refine' PySem.W.mg_none_of KX G ?z <;> k_is
    have b_int : mg "int" = none := by refine' PySem.W.mg_none_of KX G ?z <;> k_is
    have b_bool : mg "bool" = none := by refine' PySem.W.mg_none_of KX G ?z <;> k_is
    have b_str : mg "str" = none := by refine' PySem.W.mg_none_of KX G ?z <;> k_is
    have b_abs : mg "abs" = none := by refine' PySem.W.mg_none_of KX G ?z <;> k_is
    have b_min : mg "min" = none := by refine' PySem.W.mg_none_of KX G ?z <;> k_is
    have b_max : mg "max" = none := by refine' PySem.W.mg_none_of KX G ?z <;> k_is
    have b_sum : mg "sum" = none := by refine' PySem.W.mg_none_of KX G ?z <;> k_is
    have b_list : mg "list" = none := by refine' PySem.W.mg_none_of KX G ?z <;> k_is
    have b_tuple : mg "tuple" = none := by refine' PySem.W.mg_none_of KX G ?z <;> k_is
    have b_all : mg "all" = none := by refine' PySem.W.mg_none_of KX G ?z <;> k_is
    have b_isinstance : mg "isinstance" = none := by refine' PySem.W.mg_none_of KX G ?z <;> k_is
    have b_set : mg "set" = none := by refine' PySem.W.mg_none_of KX G ?z <;> k_is
    have b_range : mg "range" = none := by refine' PySem.W.mg_none_of KX G ?z <;> k_is
    have b_enumerate : mg "enumerate" = none := by refine' PySem.W.mg_none_of KX G ?z <;> k_is
    have b_reversed : mg "reversed" = none := by refine' PySem.W.mg_none_of KX G ?z <;> k_is
    have b_zip : mg "zip" = none := by refine' PySem.W.mg_none_of KX G ?z <;> k_is
    have b_divmod : mg "divmod" = none := by refine' PySem.W.mg_none_of KX G ?z <;> k_is
    have b_dict : mg "dict" = none := by refine' PySem.W.mg_none_of KX G ?z <;> k_is
    have b_sorted : mg "sorted" = none := by refine' PySem.W.mg_none_of KX G ?z <;> k_is
    have m_GIVEN : ∃ t, mg "GIVEN" = some (.str "@" t) := by refine' Kk.glob_s KX G ?gGIVEN; (case gGIVEN => k_is)
    have m_TAKE : ∃ t, mg "TAKE" = some (.str "/" t) := by refine' Kk.glob_s KX G ?gTAKE; (case gTAKE => k_is)
    have m_LETTERS : ∃ t, mg "LETTERS" = some (.str "abcdefghijklmnopqrstuvwxyz" t) := by refine' Kk.glob_s KX G ?gLETTERS; (case gLETTERS => k_is)
    have m_MOST_LETTERS : ∃ t, mg "MOST_LETTERS" = some (.int 8 t) := by refine' Kk.glob_i KX G ?gMOST_LETTERS; (case gMOST_LETTERS => k_is)
    have m_MOST_WORDS : ∃ t, mg "MOST_WORDS" = some (.int 1000 t) := by refine' Kk.glob_i KX G ?gMOST_WORDS; (case gMOST_WORDS => k_is)
    have B : Kk.Bt mg := ⟨b_len, b_int, b_bool, b_str, b_abs, b_min, b_max, b_sum, b_list, b_tuple, b_all, b_isinstance, b_set, b_range, b_enumerate, b_reversed, b_zip, b_divmod, b_dict, b_sorted, m_GIVEN, m_TAKE, m_LETTERS, m_MOST_LETTERS, m_MOST_WORDS⟩
    refine' Kk.law_mk KX G hmg ?a1 ?i1 ?l1 ?c1 ?k1 ?a4 ?l4 ?c4 ?k4 ?mk ?kc B ⟨⟨?pg, ?hd, ?po, ?sa⟩, ?nw, PySem.W.mg_of KX G ?aC, ?ha, ?hn, ?ht, ?hm⟩ ⟨Kk.def_mk KX G ?a_law_draw ?l_law_draw ?c_law_draw ?k_law_draw, Kk.def_mk KX G ?a_law_pot ?l_law_pot ?c_law_pot ?k_law_pot, Kk.def_mk KX G ?a_law_letters ?l_law_letters ?c_law_letters ?k_law_letters, Kk.def_mk KX G ?amisfit_index ?lmisfit_index ?cmisfit_index ?kmisfit_index, Kk.def_mk KX G ?aends_by ?lends_by ?cends_by ?kends_by, Kk.def_mk KX G ?ais_name ?lis_name ?cis_name ?kis_name, Kk.def_mk KX G ?ais_word ?lis_word ?cis_word ?kis_word, Kk.def_mk KX G ?astranger_index ?lstranger_index ?cstranger_index ?kstranger_index, Kk.def_mk KX G ?aparts_in ?lparts_in ?cparts_in ?kparts_in, Kk.def_mk KX G ?arepeated_index ?lrepeated_index ?crepeated_index ?krepeated_index, Kk.def_mk KX G ?aends_of ?lends_of ?cends_of ?kends_of, Kk.def_mk KX G ?aunused_index ?lunused_index ?cunused_index ?kunused_index, Kk.def_mk KX G ?afault_index ?lfault_index ?cfault_index ?kfault_index, Kk.def_mk KX G ?astands_as_name ?lstands_as_name ?cstands_as_name ?kstands_as_name, Kk.def_mk KX G ?agivens ?lgivens ?cgivens ?kgivens, Kk.def_mk KX G ?abuilt ?lbuilt ?cbuilt ?kbuilt, Kk.def_mk KX G ?aend_from ?lend_from ?cend_from ?kend_from, Kk.def_mk KX G ?astep_done ?lstep_done ?cstep_done ?kstep_done, Kk.def_mk KX G ?ais_number ?lis_number ?cis_number ?kis_number, Kk.def_mk KX G ?a_law_is_number ?l_law_is_number ?c_law_is_number ?k_law_is_number, Kk.def_mk KX G ?ais_step ?lis_step ?cis_step ?kis_step, Kk.def_mk KX G ?asteps ?lsteps ?csteps ?ksteps, Kk.def_mk KX G ?astepped ?lstepped ?cstepped ?kstepped, Kk.def_mk KX G ?ais_way ?lis_way ?cis_way ?kis_way, Kk.def_mk KX G ?arest ?lrest ?crest ?krest, Kk.def_mk KX G ?amany_steps ?lmany_steps ?cmany_steps ?kmany_steps, Kk.def_mk KX G ?a_law_numbers ?l_law_numbers ?c_law_numbers ?k_law_numbers, Kk.def_mk KX G ?a_law_is_words ?l_law_is_words ?c_law_is_words ?k_law_is_words, Kk.def_mk KX G ?a_law_lefts ?l_law_lefts ?c_law_lefts ?k_law_lefts, Kk.def_mk KX G ?a_law_rights ?l_law_rights ?c_law_rights ?k_law_rights, Kk.def_mk KX G ?a_law_turns ?l_law_turns ?c_law_turns ?k_law_turns, Kk.def_mk KX G ?a_law_row ?l_law_row ?c_law_row ?k_law_row⟩
    (case aC => k_is)
    (case a1 => k_is)
    (case i1 => k_is)
    (case l1 => k_is)
    (case c1 => k_is)
    (case k1 => k_is)
    (case a4 => k_is)
    (case l4 => k_is)
    (case c4 => k_is)
    (case k4 => k_is)
    (case mk => k_is)
    (case kc => k_is)
    (case pg => k_is)
    (case hd => k_is)
    (case po => k_is)
    (case sa => k_is)
    (case nw => unfold L2.NoAttr; k_is)
    (case ha => k_is)
    (case hn => k_is)
    (case ht => k_is)
    (case hm => k_is)
    (case a_law_draw => k_is); (case l_law_draw => k_is); (case c_law_draw => k_is); (case k_law_draw => k_is)
    (case a_law_pot => k_is); (case l_law_pot => k_is); (case c_law_pot => k_is); (case k_law_pot => k_is)
    (case a_law_letters => k_is); (case l_law_letters => k_is); (case c_law_letters => k_is); (case k_law_letters => k_is)
    (case amisfit_index => k_is); (case lmisfit_index => k_is); (case cmisfit_index => k_is); (case kmisfit_index => k_is)
    (case aends_by => k_is); (case lends_by => k_is); (case cends_by => k_is); (case kends_by => k_is)
    (case ais_name => k_is); (case lis_name => k_is); (case cis_name => k_is); (case kis_name => k_is)
    (case ais_word => k_is); (case lis_word => k_is); (case cis_word => k_is); (case kis_word => k_is)
    (case astranger_index => k_is); (case lstranger_index => k_is); (case cstranger_index => k_is); (case kstranger_index => k_is)
    (case aparts_in => k_is); (case lparts_in => k_is); (case cparts_in => k_is); (case kparts_in => k_is)
    (case arepeated_index => k_is); (case lrepeated_index => k_is); (case crepeated_index => k_is); (case krepeated_index => k_is)
    (case aends_of => k_is); (case lends_of => k_is); (case cends_of => k_is); (case kends_of => k_is)
    (case aunused_index => k_is); (case lunused_index => k_is); (case cunused_index => k_is); (case kunused_index => k_is)
    (case afault_index => k_is); (case lfault_index => k_is); (case cfault_index => k_is); (case kfault_index => k_is)
    (case astands_as_name => k_is); (case lstands_as_name => k_is); (case cstands_as_name => k_is); (case kstands_as_name => k_is)
    (case agivens => k_is); (case lgivens => k_is); (case cgivens => k_is); (case kgivens => k_is)
    (case abuilt => k_is); (case lbuilt => k_is); (case cbuilt => k_is); (case kbuilt => k_is)
    (case aend_from => k_is); (case lend_from => k_is); (case cend_from => k_is); (case kend_from => k_is)
    (case astep_done => k_is); (case lstep_done => k_is); (case cstep_done => k_is); (case kstep_done => k_is)
    (case ais_number => k_is); (case lis_number => k_is); (case cis_number => k_is); (case kis_number => k_is)
    (case a_law_is_number => k_is); (case l_law_is_number => k_is); (case c_law_is_number => k_is); (case k_law_is_number => k_is)
    (case ais_step => k_is); (case lis_step => k_is); (case cis_step => k_is); (case kis_step => k_is)
    (case asteps => k_is); (case lsteps => k_is); (case csteps => k_is); (case ksteps => k_is)
    (case astepped => k_is); (case lstepped => k_is); (case cstepped => k_is); (case kstepped => k_is)
    (case ais_way => k_is); (case lis_way => k_is); (case cis_way => k_is); (case kis_way => k_is)
    (case arest => k_is); (case lrest => k_is); (case crest => k_is); (case krest => k_is)
    (case amany_steps => k_is); (case lmany_steps => k_is); (case cmany_steps => k_is); (case kmany_steps => k_is)
    (case a_law_numbers => k_is); (case l_law_numbers => k_is); (case c_law_numbers => k_is); (case k_law_numbers => k_is)
    (case a_law_is_words => k_is); (case l_law_is_words => k_is); (case c_law_is_words => k_is); (case k_law_is_words => k_is)
    (case a_law_lefts => k_is); (case l_law_lefts => k_is); (case c_law_lefts => k_is); (case k_law_lefts => k_is)
    (case a_law_rights => k_is); (case l_law_rights => k_is); (case c_law_rights => k_is); (case k_law_rights => k_is)
    (case a_law_turns => k_is); (case l_law_turns => k_is); (case c_law_turns => k_is); (case k_law_turns => k_is)
    (case a_law_row => k_is); (case l_law_row => k_is); (case c_law_row => k_is); (case k_law_row => k_is)
