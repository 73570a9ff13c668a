import PyProof.Rows.All
import Wide.All
import OpenK.AllK
import Wide.FinOn
import HandS.Text
import KE.GoesMore
import HandS.ForMost
import HandS.SetKeys
import HandS.DictComp
import HandS.Codes
import HandS.IsInst
import HandS.Strs
import HandS.RevRange
import HandS.Conv
import HandS.Wide
import HandS.JoinGen
import KE.GoesEnum
import HandS.TupAny
import PyProof.SeqIndex
import PyProof.AutoSeq1
import HandS.Finally
import HandS.Iter
import HandS.Rev
import HandS.Gcd
import HandS.CallLocal
import KE.KMathGC
import HandS.TupMul
import HandS.Style
import PyProof.InstEq
import OpenK.KMake
import PySem.Challenge.RW_oncekinds_k28_whole_common_kinds
set_option Elab.async false
set_option linter.all false
set_option maxRecDepth 100000
set_option maxHeartbeats 4000000
/-! words of programs: plain mathematics -/
namespace Wd
open PySem

abbrev Nm := List Nat
def nmOk (n : Nm) : Prop := 1 ≤ n.length ∧ n.length ≤ 8 ∧ ∀ c ∈ n, 97 ≤ c ∧ c ≤ 122
inductive W where
  | ap
  | tk (n : Nm)
  | nm (n : Nm)
  deriving DecidableEq
def wOk : W → Prop
  | .ap => True
  | .tk n => nmOk n
  | .nm n => nmOk n
def code : W → List Nat
  | .ap => [64]
  | .tk n => 47 :: n
  | .nm n => n
def enc (w : W) : Str := ⟨(code w).toArray⟩
def str (n : Nm) : Str := ⟨n.toArray⟩
theorem str_inj {a b : Nm} (h : str a = str b) : a = b := by
  have := congrArg TL.tl h
  exact this
theorem tl_str (n : Nm) : TL.tl (str n) = n := rfl
theorem tl_enc (w : W) : TL.tl (enc w) = code w := rfl
theorem enc_nm (n : Nm) : enc (.nm n) = str n := rfl
theorem enc_tk (n : Nm) : enc (.tk n) = str (47 :: n) := rfl
theorem code_inj {a b : W} (ha : wOk a) (hb : wOk b) (h : code a = code b) : a = b := by
  cases a <;> cases b <;> simp [code] at h <;> try rfl
  · subst h; have := hb.2.2 64 (by simp); omega
  · subst h; rfl
  · subst h; have := hb.2.2 47 (by simp); omega
  · subst h; have := ha.2.2 64 (by simp); omega
  · subst h; have := ha.2.2 47 (by simp); omega
  · subst h; rfl
theorem enc_inj {a b : W} (ha : wOk a) (hb : wOk b) (h : enc a = enc b) : a = b :=
  code_inj ha hb (by have := congrArg TL.tl h; exact this)

/-! ### trees -/
inductive T where
  | nm (n : Nm)
  | ap (f a : T)
  | tk (n : Nm) (b : T)
namespace T
def ws : T → List W
  | .nm n => [.nm n]
  | .ap f a => .ap :: (f.ws ++ a.ws)
  | .tk n b => .tk n :: b.ws
def lv : T → List Nm
  | .nm n => [n]
  | .ap f a => f.lv ++ a.lv
  | .tk _ b => b.lv
def tks : T → List Nm
  | .nm _ => []
  | .ap f a => f.tks ++ a.tks
  | .tk n b => n :: b.tks
def sc : T → Prop
  | .nm _ => True
  | .ap f a => f.sc ∧ a.sc
  | .tk n b => n ∈ b.lv ∧ b.sc
def aps : T → Nat
  | .nm _ => 0
  | .ap f a => f.aps + a.aps + 1
  | .tk _ b => b.aps
/-- the index behind the part at i -/
def e : T → Nat → Nat
  | .nm _, _ => 1
  | .tk _ b, i => if i = 0 then 1 + b.ws.length else 1 + b.e (i - 1)
  | .ap f a, i => if i = 0 then 1 + f.ws.length + a.ws.length else if i < 1 + f.ws.length then 1 + f.e (i - 1) else 1 + f.ws.length + a.e (i - 1 - f.ws.length)
theorem pos : ∀ t : T, 0 < t.ws.length
  | .nm _ => by simp [ws]
  | .ap _ _ => by simp [ws]
  | .tk _ _ => by simp [ws]
theorem e0 : ∀ t : T, t.e 0 = t.ws.length
  | .nm _ => rfl
  | .ap f a => by simp [e, ws]; omega
  | .tk _ b => by simp [e, ws]; omega
theorem e_lt : ∀ (t : T) (i : Nat), i < t.ws.length → i < t.e i ∧ t.e i ≤ t.ws.length
  | .nm _, i, h => by simp [ws] at h; simp [e, ws]; omega
  | .tk _ b, i, h => by
    simp [ws] at h
    simp only [e, ws, List.length_cons]
    split
    · omega
    · have := e_lt b (i - 1) (by omega); omega
  | .ap f a, i, h => by
    simp [ws] at h
    simp only [e, ws, List.length_cons, List.length_append]
    split
    · omega
    · split
      · have := e_lt f (i - 1) (by omega); omega
      · have := e_lt a (i - 1 - f.ws.length) (by omega); omega
theorem get_tk {n : Nm} {b : T} {i : Nat} (h : i ≠ 0) : (T.tk n b).ws[i]? = b.ws[i - 1]? := by
  cases i with
  | zero => exact absurd rfl h
  | succ i => rfl
theorem get_ap1 {f a : T} {i : Nat} (h : i ≠ 0) (hi : i < 1 + f.ws.length) : (T.ap f a).ws[i]? = f.ws[i - 1]? := by
  cases i with
  | zero => exact absurd rfl h
  | succ i => show (f.ws ++ a.ws)[i]? = _; rw [List.getElem?_append_left (by omega)]; rfl
theorem get_ap2 {f a : T} {i : Nat} (hi : ¬ i < 1 + f.ws.length) : (T.ap f a).ws[i]? = a.ws[i - 1 - f.ws.length]? := by
  cases i with
  | zero => omega
  | succ i => show (f.ws ++ a.ws)[i]? = _; rw [List.getElem?_append_right (by omega)]; rfl
theorem e_nm : ∀ (t : T) (i : Nat) (n : Nm), t.ws[i]? = some (.nm n) → t.e i = i + 1
  | .nm _, i, n, h => by
    cases i with
    | zero => rfl
    | succ i => simp [ws] at h
  | .tk m b, i, n, h => by
    by_cases z : i = 0
    · subst z; simp [ws] at h
    · rw [get_tk z] at h
      have := e_nm b _ n h
      simp only [e]; rw [if_neg z]; omega
  | .ap f a, i, n, h => by
    by_cases z : i = 0
    · subst z; simp [ws] at h
    · by_cases y : i < 1 + f.ws.length
      · rw [get_ap1 z y] at h
        have := e_nm f _ n h
        simp only [e]; rw [if_neg z, if_pos y]; omega
      · rw [get_ap2 y] at h
        have := e_nm a _ n h
        simp only [e]; rw [if_neg z, if_neg y]; omega
theorem lt_of_get {α : Type} {l : List α} {i : Nat} {x : α} (h : l[i]? = some x) : i < l.length := (List.getElem?_eq_some_iff.mp h).1
theorem e_tk : ∀ (t : T) (i : Nat) (n : Nm), t.ws[i]? = some (.tk n) → i + 1 < t.ws.length ∧ t.e i = t.e (i + 1)
  | .nm _, i, n, h => by
    cases i with
    | zero => simp [ws] at h
    | succ i => simp [ws] at h
  | .tk m b, i, n, h => by
    by_cases z : i = 0
    · subst z
      have := pos b
      have := e0 b
      refine ⟨by simp [ws]; omega, ?_⟩
      simp [e]; omega
    · rw [get_tk z] at h
      have q := e_tk b _ n h
      have e1 : i - 1 + 1 = i := by omega
      rw [e1] at q
      refine ⟨by simp [ws]; omega, ?_⟩
      simp only [e]; rw [if_neg z, if_neg (by omega)]
      show _ = 1 + b.e i
      omega
  | .ap f a, i, n, h => by
    by_cases z : i = 0
    · subst z; simp [ws] at h
    · by_cases y : i < 1 + f.ws.length
      · rw [get_ap1 z y] at h
        have q := e_tk f _ n h
        have e1 : i - 1 + 1 = i := by omega
        rw [e1] at q
        refine ⟨by simp [ws]; omega, ?_⟩
        simp only [e]; rw [if_neg z, if_pos y, if_neg (by omega), if_pos (by omega)]
        show _ = 1 + f.e i
        omega
      · rw [get_ap2 y] at h
        have q := e_tk a _ n h
        have e1 : i - 1 - f.ws.length + 1 = i - f.ws.length := by omega
        rw [e1] at q
        refine ⟨by simp [ws]; omega, ?_⟩
        simp only [e]; rw [if_neg z, if_neg y, if_neg (by omega), if_neg (by omega)]
        have e2 : i + 1 - 1 - f.ws.length = i - f.ws.length := by omega
        rw [e2]
        omega
theorem e_ap : ∀ (t : T) (i : Nat), t.ws[i]? = some .ap → i + 1 < t.ws.length ∧ t.e (i + 1) < t.ws.length ∧ t.e i = t.e (t.e (i + 1))
  | .nm _, i, h => by
    cases i with
    | zero => simp [ws] at h
    | succ i => simp [ws] at h
  | .tk m b, i, h => by
    by_cases z : i = 0
    · subst z; simp [ws] at h
    · rw [get_tk z] at h
      have q := e_ap b _ h
      have e1 : i - 1 + 1 = i := by omega
      rw [e1] at q
      have e3 : (T.tk m b).e (i + 1) = 1 + b.e i := by simp only [e]; rw [if_neg (by omega)]; rfl
      have e4 : (T.tk m b).e (1 + b.e i) = 1 + b.e (b.e i) := by simp only [e]; rw [if_neg (by omega)]; rw [Nat.add_sub_cancel_left]
      rw [e3, e4]
      refine ⟨by simp [ws]; omega, by simp [ws]; omega, ?_⟩
      simp only [e]; rw [if_neg z]; omega
  | .ap f a, i, h => by
    by_cases z : i = 0
    · subst z
      have pf := pos f
      have pa := pos a
      have ef := e0 f
      have ea := e0 a
      have e3 : (T.ap f a).e (0 + 1) = 1 + f.ws.length := by simp only [e]; rw [if_neg (by omega), if_pos (by omega)]; simp; omega
      have e4 : (T.ap f a).e (1 + f.ws.length) = 1 + f.ws.length + a.ws.length := by
        simp only [e]; rw [if_neg (by omega), if_neg (by omega)]
        have : 1 + f.ws.length - 1 - f.ws.length = 0 := by omega
        rw [this]; omega
      rw [e3, e4]
      refine ⟨by simp [ws]; omega, by simp [ws]; omega, ?_⟩
      simp [e]
    · by_cases y : i < 1 + f.ws.length
      · rw [get_ap1 z y] at h
        have q := e_ap f _ h
        have e1 : i - 1 + 1 = i := by omega
        rw [e1] at q
        have e3 : (T.ap f a).e (i + 1) = 1 + f.e i := by simp only [e]; rw [if_neg (by omega), if_pos (by omega)]; rfl
        have e4 : (T.ap f a).e (1 + f.e i) = 1 + f.e (f.e i) := by
          simp only [e]; rw [if_neg (by omega), if_pos (by omega)]; rw [Nat.add_sub_cancel_left]
        rw [e3, e4]
        refine ⟨by simp [ws]; omega, by simp [ws]; omega, ?_⟩
        simp only [e]; rw [if_neg z, if_pos y]; omega
      · rw [get_ap2 y] at h
        have q := e_ap a _ h
        have e1 : i - 1 - f.ws.length + 1 = i - f.ws.length := by omega
        rw [e1] at q
        have e2 : i + 1 - 1 - f.ws.length = i - f.ws.length := by omega
        have e3 : (T.ap f a).e (i + 1) = 1 + f.ws.length + a.e (i - f.ws.length) := by simp only [e]; rw [if_neg (by omega), if_neg (by omega), e2]
        have e4 : (T.ap f a).e (1 + f.ws.length + a.e (i - f.ws.length)) = 1 + f.ws.length + a.e (a.e (i - f.ws.length)) := by
          simp only [e]; rw [if_neg (by omega), if_neg (by omega)]
          have : 1 + f.ws.length + a.e (i - f.ws.length) - 1 - f.ws.length = a.e (i - f.ws.length) := by omega
          rw [this]
        rw [e3, e4]
        refine ⟨by simp [ws]; omega, by simp [ws]; omega, ?_⟩
        simp only [e]; rw [if_neg z, if_neg y]; omega
/-- a name that is taken stands in the body -/
theorem used_lv : ∀ (t : T) (n : Nm), n ∈ t.lv → ∃ j : Nat, t.ws[j]? = some (W.nm n)
  | .nm m, n, h => by simp [lv] at h; subst h; exact ⟨0, rfl⟩
  | .tk m b, n, h => by
    obtain ⟨j, hj⟩ := used_lv b n h
    exact ⟨j + 1, by simpa [ws] using hj⟩
  | .ap f a, n, h => by
    rcases List.mem_append.mp h with h | h
    · obtain ⟨j, hj⟩ := used_lv f n h
      refine ⟨j + 1, ?_⟩
      rw [get_ap1 (by omega) (by have := lt_of_get hj; omega)]; simpa using hj
    · obtain ⟨j, hj⟩ := used_lv a n h
      refine ⟨1 + f.ws.length + j, ?_⟩
      rw [get_ap2 (by omega)]
      have : 1 + f.ws.length + j - 1 - f.ws.length = j := by omega
      rw [this]; exact hj
theorem used : ∀ (t : T) (i : Nat) (n : Nm), t.sc → t.ws[i]? = some (.tk n) → ∃ j : Nat, t.ws[j]? = some (W.nm n) ∧ i < j ∧ j < t.e i
  | .nm _, i, n, _, h => by
    cases i with
    | zero => simp [ws] at h
    | succ i => simp [ws] at h
  | .tk m b, i, n, s, h => by
    by_cases z : i = 0
    · subst z
      simp [ws] at h
      subst h
      obtain ⟨j, hj⟩ := used_lv b m s.1
      refine ⟨j + 1, by simpa [ws] using hj, by omega, ?_⟩
      have := lt_of_get hj
      simp [e]; omega
    · rw [get_tk z] at h
      obtain ⟨j, hj, h1, h2⟩ := used b _ n s.2 h
      refine ⟨j + 1, by simpa [ws] using hj, by omega, ?_⟩
      simp only [e]; rw [if_neg z]; omega
  | .ap f a, i, n, s, h => by
    by_cases z : i = 0
    · subst z; simp [ws] at h
    · by_cases y : i < 1 + f.ws.length
      · rw [get_ap1 z y] at h
        obtain ⟨j, hj, h1, h2⟩ := used f _ n s.1 h
        refine ⟨j + 1, ?_, by omega, ?_⟩
        · rw [get_ap1 (by omega) (by have := lt_of_get hj; omega)]; simpa using hj
        · simp only [e]; rw [if_neg z, if_pos y]; omega
      · rw [get_ap2 y] at h
        obtain ⟨j, hj, h1, h2⟩ := used a _ n s.2 h
        refine ⟨1 + f.ws.length + j, ?_, by omega, ?_⟩
        · rw [get_ap2 (by omega)]
          have : 1 + f.ws.length + j - 1 - f.ws.length = j := by omega
          rw [this]; exact hj
        · simp only [e]; rw [if_neg z, if_neg y]; omega
/-- the part at a place is a tree -/
theorem part : ∀ (t : T) (p : Nat), t.sc → p < t.ws.length → ∃ u : T, u.ws = (t.ws.drop p).take (t.e p - p) ∧ u.sc ∧ u.lv.Sublist t.lv ∧ u.tks.Sublist t.tks ∧ (∀ i, i < u.ws.length → u.e i + p = t.e (p + i))
  | .nm n, p, s, h => by
    simp [ws] at h
    subst h
    refine ⟨.nm n, rfl, s, List.Sublist.refl _, List.Sublist.refl _, fun i hi => rfl⟩
  | .tk m b, p, s, h => by
    by_cases z : p = 0
    · subst z
      refine ⟨.tk m b, ?_, s, List.Sublist.refl _, List.Sublist.refl _, fun i hi => by rw [Nat.zero_add]; rfl⟩
      rw [List.drop_zero, Nat.sub_zero, e0, List.take_length]
    · simp [ws] at h
      obtain ⟨u, h1, h2, h3, h4, h5⟩ := part b (p - 1) s.2 (by omega)
      have lt := e_lt b (p - 1) (by omega)
      refine ⟨u, ?_, h2, h3, h4.cons _, fun i hi => ?_⟩
      · rw [h1]
        obtain ⟨q, rfl⟩ : ∃ q, p = q + 1 := ⟨p - 1, by omega⟩
        show _ = (b.ws.drop q).take _
        congr 1
        simp only [e]; rw [if_neg z]; omega
      · have := h5 i hi
        simp only [e]; rw [if_neg (by omega)]
        have : p + i - 1 = p - 1 + i := by omega
        rw [this]; omega
  | .ap f a, p, s, h => by
    by_cases z : p = 0
    · subst z
      refine ⟨.ap f a, ?_, s, List.Sublist.refl _, List.Sublist.refl _, fun i hi => by rw [Nat.zero_add]; rfl⟩
      rw [List.drop_zero, Nat.sub_zero, e0, List.take_length]
    · simp [ws] at h
      by_cases y : p < 1 + f.ws.length
      · obtain ⟨u, h1, h2, h3, h4, h5⟩ := part f (p - 1) s.1 (by omega)
        have lt := e_lt f (p - 1) (by omega)
        have hul : u.ws.length = f.e (p - 1) - (p - 1) := by rw [h1, List.length_take, List.length_drop]; omega
        refine ⟨u, ?_, h2, h3.trans (List.sublist_append_left _ _), h4.trans (List.sublist_append_left _ _), fun i hi => ?_⟩
        · rw [h1]
          obtain ⟨q, rfl⟩ : ∃ q, p = q + 1 := ⟨p - 1, by omega⟩
          show _ = ((f.ws ++ a.ws).drop q).take _
          rw [List.drop_append_of_le_length (by omega), List.take_append_of_le_length]
          · congr 1
            simp only [e]; rw [if_neg z, if_pos y]; omega
          · rw [List.length_drop]
            simp only [e]; rw [if_neg z, if_pos y]
            have e1 : q + 1 - 1 = q := by omega
            rw [e1] at lt ⊢
            omega
        · have := h5 i hi
          simp only [e]; rw [if_neg (by omega), if_pos (by omega)]
          have : p + i - 1 = p - 1 + i := by omega
          rw [this]; omega
      · obtain ⟨u, h1, h2, h3, h4, h5⟩ := part a (p - 1 - f.ws.length) s.2 (by omega)
        have lt := e_lt a (p - 1 - f.ws.length) (by omega)
        refine ⟨u, ?_, h2, h3.trans (List.sublist_append_right _ _), h4.trans (List.sublist_append_right _ _), fun i hi => ?_⟩
        · rw [h1]
          obtain ⟨q, rfl⟩ : ∃ q, p = q + 1 := ⟨p - 1, by omega⟩
          show _ = ((f.ws ++ a.ws).drop q).take _
          have e1 : q + 1 - 1 - f.ws.length = q - f.ws.length := by omega
          rw [List.drop_append, List.drop_of_length_le (by omega : f.ws.length ≤ q), List.nil_append]
          rw [e1] at lt ⊢
          congr 1
          simp only [e]; rw [if_neg z, if_neg y, e1]; omega
        · have := h5 i hi
          simp only [e]; rw [if_neg (by omega), if_neg (by omega)]
          have : p + i - 1 - f.ws.length = p - 1 - f.ws.length + i := by omega
          rw [this]; omega
theorem tks_ws : ∀ t : T, t.tks = t.ws.filterMap (fun w => match w with | .tk n => some n | _ => none)
  | .nm _ => rfl
  | .tk m b => by simp only [tks, ws, List.filterMap_cons]; rw [tks_ws b]
  | .ap f a => by simp only [tks, ws, List.filterMap_cons, List.filterMap_append]; rw [tks_ws f, tks_ws a]
theorem lv_ws : ∀ t : T, t.lv = t.ws.filterMap (fun w => match w with | .nm n => some n | _ => none)
  | .nm _ => rfl
  | .tk m b => by simp only [lv, ws, List.filterMap_cons]; rw [lv_ws b]
  | .ap f a => by simp only [lv, ws, List.filterMap_cons, List.filterMap_append]; rw [lv_ws f, lv_ws a]
theorem lv_aps : ∀ t : T, t.lv.length = t.aps + 1
  | .nm _ => rfl
  | .tk m b => lv_aps b
  | .ap f a => by simp only [lv, aps, List.length_append]; rw [lv_aps f, lv_aps a]; omega
theorem aps_ws : ∀ t : T, t.aps = (t.ws.filter (fun w => decide (w = .ap))).length
  | .nm _ => rfl
  | .tk m b => by simp [aps, ws]; exact aps_ws b
  | .ap f a => by
    have h1 := aps_ws f
    have h2 := aps_ws a
    simp [aps, ws]; omega
theorem len_ws : ∀ t : T, t.ws.length = 2 * t.aps + 1 + t.tks.length
  | .nm _ => rfl
  | .tk m b => by have := len_ws b; simp [ws, aps, tks]; omega
  | .ap f a => by have := len_ws f; have := len_ws a; simp [ws, aps, tks]; omega
end T

/-! ### valid words -/
structure Vd (ws : List W) : Prop where
  tree : ∃ t : T, t.ws = ws ∧ t.sc ∧ t.lv.Nodup ∧ t.tks.Nodup
  ok : ∀ w ∈ ws, wOk w
structure IsEnds (ws : List W) (E : Nat → Nat) : Prop where
  lt : ∀ i, i < ws.length → i < E i ∧ E i ≤ ws.length
  all : E 0 = ws.length
  nm : ∀ i n, ws[i]? = some (.nm n) → E i = i + 1
  tk : ∀ i n, ws[i]? = some (.tk n) → i + 1 < ws.length ∧ E i = E (i + 1)
  ap : ∀ i, ws[i]? = some .ap → i + 1 < ws.length ∧ E (i + 1) < ws.length ∧ E i = E (E (i + 1))
theorem T.isEnds (t : T) : IsEnds t.ws t.e := ⟨t.e_lt, t.e0, t.e_nm, t.e_tk, t.e_ap⟩
/-- two such are alike -/
theorem IsEnds.uniq {ws : List W} {E F : Nat → Nat} (h : IsEnds ws E) (g : IsEnds ws F) : ∀ k i, ws.length - i = k → i < ws.length → E i = F i := by
  intro k
  induction k using Nat.strongRecOn with
  | _ k ih =>
    intro i hk hi
    cases hw : ws[i]? with
    | none => rw [List.getElem?_eq_none_iff] at hw; omega
    | some w =>
      cases w with
      | nm n => rw [h.nm i n hw, g.nm i n hw]
      | tk n =>
        obtain ⟨h1, h2⟩ := h.tk i n hw
        obtain ⟨g1, g2⟩ := g.tk i n hw
        rw [h2, g2]
        exact ih _ (by omega) (i + 1) rfl h1
      | ap =>
        obtain ⟨h1, h2, h3⟩ := h.ap i hw
        obtain ⟨g1, g2, g3⟩ := g.ap i hw
        have e1 := ih _ (by omega) (i + 1) rfl h1
        have l1 := (h.lt (i + 1) h1).1
        rw [h3, g3, ← e1]
        exact ih _ (by omega) (E (i + 1)) rfl h2
/-- the chain of ends from i on -/
def chain (E : Nat → Nat) (n : Nat) : Nat → Nat → List Nat
  | 0, _ => []
  | k + 1, i => if i < n then E i :: chain E n k (E i) else []
theorem chain_more {E : Nat → Nat} {n : Nat} (h : ∀ i, i < n → i < E i ∧ E i ≤ n) : ∀ (k j i : Nat), n - i ≤ k → n - i ≤ j → i ≤ n → chain E n k i = chain E n j i
  | 0, 0, i, _, _, _ => rfl
  | 0, j + 1, i, hk, _, hi => by
    unfold chain; rw [if_neg (by omega)]
  | k + 1, 0, i, _, hj, hi => by
    conv => lhs; unfold chain
    rw [if_neg (by omega)]; rfl
  | k + 1, j + 1, i, hk, hj, hi => by
    unfold chain
    by_cases c : i < n
    · rw [if_pos c, if_pos c, chain_more h k j (E i) (by have := h i c; omega) (by have := h i c; omega) (h i c).2]
    · rw [if_neg c, if_neg c]
def ch (E : Nat → Nat) (n i : Nat) : List Nat := chain E n n i
section
variable {ws : List W} {E : Nat → Nat}
theorem ch_end : ch E n n = [] := by
  unfold ch
  cases n with
  | zero => rfl
  | succ n => unfold chain; rw [if_neg (by omega)]
theorem ch_step (h : IsEnds ws E) {i : Nat} (hi : i < ws.length) : ch E ws.length i = E i :: ch E ws.length (E i) := by
  unfold ch
  obtain ⟨k, hk⟩ : ∃ k, ws.length = k + 1 := ⟨ws.length - 1, by omega⟩
  have l := h.lt i hi
  conv => lhs; rw [hk]; unfold chain
  rw [if_pos (by omega), ← hk, chain_more h.lt k ws.length (E i) (by omega) (by omega) l.2]
theorem ch_ne (h : IsEnds ws E) {i : Nat} (hi : i < ws.length) : 0 < (ch E ws.length i).length := by rw [ch_step h hi]; simp
theorem ch_nm (h : IsEnds ws E) {i : Nat} {n : Nm} (hw : ws[i]? = some (.nm n)) : ch E ws.length i = (i + 1) :: ch E ws.length (i + 1) := by
  rw [ch_step h (T.lt_of_get hw), h.nm i n hw]
theorem ch_tk (h : IsEnds ws E) {i : Nat} {n : Nm} (hw : ws[i]? = some (.tk n)) : ch E ws.length (i + 1) = E i :: ch E ws.length (E i) ∧ ch E ws.length i = E i :: ch E ws.length (E i) := by
  obtain ⟨h1, h2⟩ := h.tk i n hw
  exact ⟨by rw [ch_step h h1, h2], ch_step h (T.lt_of_get hw)⟩
theorem ch_ap (h : IsEnds ws E) {i : Nat} (hw : ws[i]? = some .ap) : ch E ws.length (i + 1) = E (i + 1) :: E i :: ch E ws.length (E i) ∧ ch E ws.length i = E i :: ch E ws.length (E i) := by
  obtain ⟨h1, h2, h3⟩ := h.ap i hw
  refine ⟨?_, ch_step h (T.lt_of_get hw)⟩
  rw [ch_step h h1, ch_step h h2, ← h3]
theorem ch_one (h : IsEnds ws E) (hp : 0 < ws.length) : ch E ws.length 0 = [ws.length] := by
  rw [ch_step h hp, h.all, ch_end]
end
end Wd

set_option maxHeartbeats 2000000
namespace Kk
open PySem PySem.Spec PyProof.Rows L2
/-- a def that can be called: where it stands, and what it promises -/
structure Cal (P : Program) (w : World) (K : PySem.W.Frag) (mg : Str → Option Value) (base : Heap) (x : Str) (k : Nat) (ps : List Str) (sp : Sp) : Prop where
  ex : ∃ f fd, mg x = some (.ref f) ∧ PySem.W.keepIn K (.ref f) = true ∧ Binds K fd ps [] ∧ FnOk P w K mg base CX0 k f fd ps sp
structure DefAt (K : PySem.W.Frag) (mg : Str → Option Value) (x : Str) (st : Stmt) (nm : Str := x) : Prop where
  ex : ∃ f fd, Fun K nm nm st f fd ∧ mg x = some (.ref f)
theorem Cal.imp {P w K mg base x k ps} {sp sp' : Sp} (C : Cal P w K mg base x k ps sp) (h : ∀ vs H Q E, sp' vs H Q E → sp vs H Q E) : Cal P w K mg base x k ps sp' := by
  obtain ⟨f, fd, a, b, c, d⟩ := C
  exact ⟨f, fd, a, b, c, d.imp h⟩
section
variable {P : Program} {w : World} {K : PySem.W.Frag} {mg : Str → Option Value} {base : Heap}
theorem cal_of {x nm : Str} {st : Stmt} {N ps : List Str} {k : Nat} {sp : Sp} (D : DefAt K mg x st nm) (S : FnScope N ps (defScope st))
    (hb : ∀ (kV doc pm : Value) (an : Option Addr) (cdv ct : Value) (us : List Value), us.length = ps.length → bindArgs (PySem.W.fnOf nm nm (defArgs st) (defBody st) (defScope st) .none kV doc pm an cdv ct) ⟨us, []⟩ = pure (ps.zip us))
    (len : ∀ vs H Q E, sp vs H Q E → vs.length = ps.length)
    (hbody : ∀ (f : Addr) (cdv : Value) (A : Around) (outer : List Env) (s : Shared) (H : Hp) (vs : List V) (Q : VK) (E : XK), Room k (A.deeper (envOfC nm (defScope st) s.heap.objs.size f cdv)) → sp vs H Q E →
      ∃ t, PSs (cxOf CX0 P w K mg base N nm (defScope st) f cdv A outer s H E).nox (defBody st) t ∧ t { nx := fun _ H' => Q .non H', rt := Q } (start N vs) H) : Cal P w K mg base x (k + 1) ps sp := by
  obtain ⟨f, fd, F, m⟩ := D
  exact ⟨f, fd, m, F.kp, F.binds hb, F.ok S len fun cdv A outer s H vs Q E hr h => hbody f cdv A outer s H vs Q E hr h⟩
end
section
variable {X : Cx} {e : Expr} {es : List Expr} {t : TA} {x : Str} {k : Nat} {ps : List Str} {sp : Sp} {p pos : Pos}
theorem pe_c (C : Cal X.prog X.w X.K X.mg X.base x k ps sp) (hr : Room k X.A) (ha : PA X (e :: es) t) (hg : Gl X x := by rfl) (hdb : (x == ("__debug__" : Str)) = false := by decide)
    (he : starEach (e :: es) X.env = (false, eval e X.env) :: starEach es X.env := by rfl) (hpl : (backTo pos (starEach es X.env)).any (·.1) = false := by rfl) :
    PE X (.Call (.Name x p) (e :: es) [] pos) (tCall sp [] E0 t) := by
  obtain ⟨f, fd, hm, hk, hb, F⟩ := C
  exact pe_call F hr hg hm hk hb .nil pass0 ha hdb he hpl
theorem pe_c0 (C : Cal X.prog X.w X.K X.mg X.base x k ps sp) (hr : Room k X.A) (hg : Gl X x := by rfl) (hdb : (x == ("__debug__" : Str)) = false := by decide) :
    PE X (.Call (.Name x p) [] [] pos) (tCall sp [] E0 tNil) := by
  obtain ⟨f, fd, hm, hk, hb, F⟩ := C
  exact pe_call0 F hr hg hm hk hb .nil pass0 hdb
theorem pe_gs {z : Str} (hm : ∃ t, X.mg x = some (.str z t)) (hg : Gl X x := by rfl) (hd : (x == ("__debug__" : Str)) = false := by decide) : PE X (.Name x pos) (tC (.str z)) := by
  obtain ⟨t, h⟩ := hm
  exact pe_glob hg h ⟨t, rfl⟩ hd
theorem pe_gi {i : Int} (hm : ∃ t, X.mg x = some (.int i t)) (hg : Gl X x := by rfl) (hd : (x == ("__debug__" : Str)) = false := by decide) : PE X (.Name x pos) (tC (.int i)) := by
  obtain ⟨t, h⟩ := hm
  exact pe_glob hg h ⟨t, rfl⟩ hd
theorem pe_gr {a : Addr} (hm : X.mg x = some (.ref a)) (hg : Gl X x := by rfl) (hd : (x == ("__debug__" : Str)) = false := by decide) : PE X (.Name x pos) (tC (.ref a)) := pe_glob hg hm rfl hd
theorem pe_ty {n : String} (hm : X.mg x = none) (hv : bootBuiltins x = some (.type n)) (hg : Gl X x := by rfl) (hn : x ≠ "__name__" := by decide) (hd : (x == ("__debug__" : Str)) = false := by decide) : PE X (.Name x pos) (tC (.ty n)) := pe_bltn hg hm hv rfl hn hd
end
/-- the built-in names that the text does not hide -/
structure Bt (mg : Str → Option Value) : Prop where
  b_len : mg "len" = none
  b_int : mg "int" = none
  b_bool : mg "bool" = none
  b_str : mg "str" = none
  b_abs : mg "abs" = none
  b_min : mg "min" = none
  b_max : mg "max" = none
  b_sum : mg "sum" = none
  b_list : mg "list" = none
  b_tuple : mg "tuple" = none
  b_all : mg "all" = none
  b_isinstance : mg "isinstance" = none
  b_set : mg "set" = none
  b_range : mg "range" = none
  b_enumerate : mg "enumerate" = none
  b_reversed : mg "reversed" = none
  b_zip : mg "zip" = none
  b_divmod : mg "divmod" = none
  b_dict : mg "dict" = none
  b_sorted : mg "sorted" = none
  m_INTO : ∃ t, mg "INTO" = some (.str ">" t)
  m_MOST_WORDS : ∃ t, mg "MOST_WORDS" = some (.int 4000 t)
  m_MOST_FILLED : ∃ t, mg "MOST_FILLED" = some (.int 100000 t)

/-! ### heaps -/
/-- all but p and g is as it was -/
def Keep (p g : Addr) (H H' : Hp) : Prop := ∀ b o, H b = some o → b ≠ p → b ≠ g → H' b = some o
theorem Keep.refl {p g : Addr} (H : Hp) : Keep p g H H := fun _ _ h _ _ => h
theorem Keep.trans {p g : Addr} {H H1 H2 : Hp} (a : Keep p g H H1) (b : Keep p g H1 H2) : Keep p g H H2 := fun c o h h1 h2 => b c o (a c o h h1 h2) h1 h2
theorem Same.keep {p g : Addr} {H H' : Hp} (a : Same H H') : Keep p g H H' := fun b o h _ _ => a b o h
theorem same_upd {H : Hp} {a : Addr} {o : HO} (h : H a = none) : Same H (upd H a o) := fun b u e => by
  rw [upd_ne (ne_of_none e h)]; exact e
theorem keep_upd {p g : Addr} {H : Hp} {o : HO} (h : True) : Keep p g H (upd H p o) := fun b u e h1 _ => by
  rw [upd_ne h1]; exact e
theorem keep_upd' {p g : Addr} {H : Hp} {o : HO} (h : True) : Keep p g H (upd H g o) := fun b u e _ h2 => by
  rw [upd_ne h2]; exact e
theorem SqL.keep {K : PySem.W.Frag} {p g a : Addr} {H H' : Hp} {xs : List V} (h : SqL K H a xs) (k : Keep p g H H') (h1 : a ≠ p) (h2 : a ≠ g) : SqL K H' a xs := by
  rcases h with (h | ⟨o, h⟩) | h
  · exact .inl (.inl (k _ _ h h1 h2))
  · exact .inl (.inr ⟨o, k _ _ h h1 h2⟩)
  · exact .inr h
theorem SqT.keep {K : PySem.W.Frag} {p g a : Addr} {H H' : Hp} {xs : List V} (h : SqT K H a xs) (k : Keep p g H H') (h1 : a ≠ p) (h2 : a ≠ g) : SqT K H' a xs := by
  rcases h with (h | ⟨o, h⟩) | h
  · exact .inl (.inl (k _ _ h h1 h2))
  · exact .inl (.inr ⟨o, k _ _ h h1 h2⟩)
  · exact .inr h
theorem SqT.same {K : PySem.W.Frag} {a : Addr} {H H' : Hp} {xs : List V} (h : SqT K H a xs) (k : Same H H') : SqT K H' a xs := by
  rcases h with (h | ⟨o, h⟩) | h
  · exact .inl (.inl (k _ _ h))
  · exact .inl (.inr ⟨o, k _ _ h⟩)
  · exact .inr h
theorem atI_int {α : Type} {xs : List α} {i : Int} {v : α} (h0 : 0 ≤ i) (h : xs[i.toNat]? = some v) : atI xs i = some v := by
  have e : i = ((i.toNat : Nat) : Int) := by omega
  rw [e]
  exact atI_nat h
theorem ixN_lt {n j : Nat} (h : j < n) : ixN n (j : Int) = some j := by
  unfold ixN
  rw [if_pos (by omega), if_pos (by omega)]
  rfl
theorem ixN_int {n : Nat} {i : Int} (h0 : 0 ≤ i) (h : i < n) : ixN n i = some i.toNat := by
  unfold ixN
  rw [if_pos h0, if_pos h]
theorem seq0 {n : Nat} (h : 0 < n) : seqIndex? 0 n = some 0 := (ixN_seq (ixN_lt (j := 0) h)).1
/-! ### the law's draws -/
structure PotAt (H : Hp) (p g s : Addr) : Prop where
  ex : ∃ (G S : List Int) (t r : Int), H p = some (.lst [.ref g, .ref s, .int t, .int r]) ∧ H g = some (.lst (G.map V.int)) ∧ H s = some (.lst (S.map V.int)) ∧ 0 < S.length
  pg : p ≠ g
  ps : p ≠ s
  gs : g ≠ s
theorem PotAt.keep {H H' : Hp} {p g s : Addr} (h : PotAt H p g s) (k : Same H H') : PotAt H' p g s := by
  obtain ⟨⟨G, S, t, r, h1, h2, h3, h4⟩, a, b, c⟩ := h
  exact ⟨⟨G, S, t, r, k _ _ h1, k _ _ h2, k _ _ h3, h4⟩, a, b, c⟩
theorem PotAt.off {H H' : Hp} {p g s : Addr} (h : PotAt H p g s) (k : ∀ b o, H b = some o → b = p ∨ b = g ∨ b = s → H' b = some o) : PotAt H' p g s := by
  obtain ⟨⟨G, S, t, r, h1, h2, h3, h4⟩, a, b, c⟩ := h
  exact ⟨⟨G, S, t, r, k _ _ h1 (.inl rfl), k _ _ h2 (.inr (.inl rfl)), k _ _ h3 (.inr (.inr rfl)), h4⟩, a, b, c⟩
def spPot (K : PySem.W.Frag) : Sp := fun vs H Q _ => ∃ (a : Addr) (ns : List Int), vs = [.ref a] ∧ SqL K H a (ns.map V.int) ∧ ns.length ≤ 63 ∧
  ∀ (H' : Hp) (p g s : Addr), PotAt H' p g s → Same H H' → H p = none → H g = none → H s = none → Q (.ref p) H'
def spDraw : Sp := fun vs H Q _ => ∃ (p g s : Addr) (m : Int), vs = [.ref p, .int m] ∧ PotAt H p g s ∧ 0 < m ∧ m.natAbs < 2 ^ 200 ∧
  ∀ (H' : Hp) (r : Int), PotAt H' p g s → Keep p g H H' → 0 ≤ r → r < m → Q (.int r) H'
end Kk

set_option maxHeartbeats 2000000
namespace Kk
open PySem PySem.Spec PyProof.Rows L2
def top (i : Nat) : Stmt := PySem.Challenge.pw_oncekinds_k28_whole_common_kinds.main.body.getD i (.Pass ⟨0, 0, 0, 0⟩)
abbrev s_draw : Stmt := (top 27)
theorem sc_draw : FnScope ["_law_pot_here", "_law_many", "_law_turn", "_law_number", "_law_seed"] ["_law_pot_here", "_law_many"] (defScope s_draw) := ⟨rfl, rfl, rfl, by decide +kernel, rfl, by decide +kernel, by decide +kernel⟩
theorem c_draw {P w K mg base} (B : Bt mg) (D : DefAt K mg "_law_draw" s_draw) : Cal P w K mg base "_law_draw" 1 ["_law_pot_here", "_law_many"] spDraw := by
  refine cal_of D sc_draw (fun _ _ _ _ _ _ us hl => match us, hl with | [_, _], _ => rfl) (fun vs H Q E h => ?_) (fun f cdv A outer st0 H vs Q E hr h => ?_)
  · obtain ⟨p, g, s, m, rfl, _⟩ := h
    rfl
  · obtain ⟨p, g, s, m, rfl, PA, hm, hm9, k⟩ := h
    obtain ⟨⟨G, S, t, r, h1, h2, h3, hS⟩, npg, nps, ngs⟩ := PA
    refine ⟨_, (pss_cons (ps_set (i := 2) sc_draw.nd rfl (by first | exact Or.inl rfl | exact Or.inr rfl) (pe_ix ix_list (pv 0) pe_int (fun _ _ => rfl)))
      (pss_cons (ps_asg (pe_op op_add (pv 2) pe_int) (pg_sub (pv 0) pe_int set_list))
      (pss_cons (ps_if (pt_cmpR op_gt (pe_callB call_len_seq (by rfl) B.b_len (by decide +kernel) (pa_cons (pe_ix ix_list (pv 0) pe_int (fun _ _ => rfl)) pa_nil)) pe_int (nomark _)) (pss_cons (ps_set (i := 3) sc_draw.nd rfl (by first | exact Or.inl rfl | exact Or.inr rfl) (pe_ix ix_list (pe_ix ix_list (pv 0) pe_int (fun _ _ => rfl)) pe_int (fun _ _ => rfl)))
      (pss_cons (ps_asg (pe_op op_fdivW (pv 3) (pv 1)) (pg_sub (pe_ix ix_list (pv 0) pe_int (fun _ _ => rfl)) pe_int set_list))
      (pss_cons (ps_if (pt_cmpR op_lt (pv 3) (pv 1) (nomark _)) (pss_one (ps_expr (pe_bm PySem.F.plainAttrs_list PySem.F.slot_list_pop PySem.F.type_list_pop mt_popAt (pe_ix ix_list (pv 0) pe_int (fun _ _ => rfl)) (pa_cons pe_int pa_nil)))) pss_nil)
      (pss_one (ps_ret (pe_op op_mod (pe_callTy call_int1 (by rfl) B.b_int (by decide +kernel) (pa_cons (pv 3) pa_nil)) (pv 1))))))) pss_nil)
      (pss_cons (ps_set (i := 4) sc_draw.nd rfl (by first | exact Or.inl rfl | exact Or.inr rfl) (pe_op op_add (pe_op op_add (pe_op op_mul (pe_ix ix_list (pe_ix ix_list (pv 0) pe_int (fun _ _ => rfl)) (pe_op op_mod (pe_callTy call_int1 (by rfl) B.b_int (by decide +kernel) (pa_cons (pv 2) pa_nil)) (pe_callB call_len_seq (by rfl) B.b_len (by decide +kernel) (pa_cons (pe_ix ix_list (pv 0) pe_int (fun _ _ => rfl)) pa_nil))) (fun _ _ => rfl)) pe_int) (pe_op op_mul pe_int (pv 2))) (pe_op op_mul (pe_ix ix_list (pv 0) pe_int (fun _ _ => rfl)) pe_int)))
      (pss_cons (ps_set (i := 3) sc_draw.nd rfl (by first | exact Or.inl rfl | exact Or.inr rfl) (pe_op op_mod (pe_callTy call_int1 (by rfl) B.b_int (by decide +kernel) (pa_cons (pe_op op_add (pe_op op_mul (pv 4) pe_int) pe_int) pa_nil)) pe_int))
      (pss_cons (ps_set (i := 3) sc_draw.nd rfl (by first | exact Or.inl rfl | exact Or.inr rfl) (pe_op op_mod (pe_callTy call_int1 (by rfl) B.b_int (by decide +kernel) (pa_cons (pe_op op_mul (pv 3) (pe_op op_add (pe_op op_fdivW (pv 3) pe_int) pe_int)) pa_nil)) pe_int))
      (pss_cons (ps_set (i := 3) sc_draw.nd rfl (by first | exact Or.inl rfl | exact Or.inr rfl) (pe_op op_mod (pe_callTy call_int1 (by rfl) B.b_int (by decide +kernel) (pa_cons (pe_op op_add (pe_op op_mul (pv 3) (pe_op op_add (pe_op op_fdivW (pv 3) pe_int) pe_int)) (pv 2)) pa_nil)) pe_int))
      (pss_one (ps_ret (pe_op op_mod (pe_callTy call_int1 (by rfl) B.b_int (by decide +kernel) (pa_cons (pe_op op_fdivW (pv 3) pe_int) pa_nil)) (pv 1))))))))))), ?_⟩
    -- turn = pot[2]; pot[2] = turn + 1
    refine ⟨_, rfl, p, _, _, _, rfl, rfl, SqL.of h1, rfl, ?_⟩
    refine ⟨_, rfl, _, _, rfl, rfl, _, rfl, p, _, _, _, rfl, rfl, h1, rfl, ?_⟩
    have h1' : upd H p (.lst [.ref g, .ref s, .int (t + 1), .int r]) p = some (.lst [.ref g, .ref s, .int (t + 1), .int r]) := upd_same
    have h2' : upd H p (.lst [.ref g, .ref s, .int (t + 1), .int r]) g = some (.lst (G.map V.int)) := by rw [upd_ne npg.symm]; exact h2
    have h3' : upd H p (.lst [.ref g, .ref s, .int (t + 1), .int r]) s = some (.lst (S.map V.int)) := by rw [upd_ne nps.symm]; exact h3
    have kp : Keep p g H (upd H p (.lst [.ref g, .ref s, .int (t + 1), .int r])) := keep_upd trivial
    have e0 : ([V.ref g, V.ref s, V.int t, V.int r].set 2 (V.int (t + 1))) = [.ref g, .ref s, .int (t + 1), .int r] := rfl
    show tSeq _ _ _ _ (upd H p (.lst [.ref g, .ref s, .int (t + 1), .int r]))
    generalize upd H p (.lst [.ref g, .ref s, .int (t + 1), .int r]) = H1 at *
    -- if len(pot[0]) > 0
    refine ⟨_, rfl, p, _, _, _, rfl, rfl, SqL.of h1', rfl, _, _, rfl, .inl (SqL.of h2'), _, _, rfl, rfl, _, rfl, ?_⟩
    refine ite2 (fun hc => ?_) (fun hc => ?_)
    · have hG : 0 < G.length := by
        rw [List.length_map] at hc
        have := of_decide_eq_true hc
        omega
      obtain ⟨z, G', rfl⟩ : ∃ z G', G = z :: G' := by
        cases G with
        | nil => simp at hG
        | cons z G' => exact ⟨z, G', rfl⟩
      -- number = pot[0][0]; pot[0][0] = number // many
      refine ⟨_, rfl, p, _, _, _, rfl, rfl, SqL.of h1', rfl, _, _, _, _, rfl, rfl, SqL.of h2', at_of (j := 0) rfl rfl, ?_⟩
      refine ⟨_, rfl, _, rfl, _, _, rfl, rfl, wide_div hm hm9 (by decide) (by decide), _, rfl, p, _, _, _, rfl, rfl, SqL.of h1', rfl, g, _, _, 0, rfl, rfl, h2', ixN_lt (j := 0) (by simp), ?_⟩
      have q1 : upd H1 g (.lst ((((z :: G').map V.int)).set 0 (V.int (z / m)))) p = some (.lst [.ref g, .ref s, .int (t + 1), .int r]) := by rw [upd_ne npg]; exact h1'
      have q2 : upd H1 g (.lst ((((z :: G').map V.int)).set 0 (V.int (z / m)))) g = some (.lst (((z / m) :: G').map V.int)) := upd_same
      have q3 : upd H1 g (.lst ((((z :: G').map V.int)).set 0 (V.int (z / m)))) s = some (.lst (S.map V.int)) := by rw [upd_ne ngs.symm]; exact h3'
      have kq : Keep p g H (upd H1 g (.lst ((((z :: G').map V.int)).set 0 (V.int (z / m))))) := kp.trans (keep_upd' trivial)
      show tSeq _ _ _ _ (upd H1 g (.lst ((((z :: G').map V.int)).set 0 (V.int (z / m)))))
      generalize upd H1 g (.lst ((((z :: G').map V.int)).set 0 (V.int (z / m)))) = H2 at *
      refine ⟨_, rfl, _, rfl, _, _, rfl, rfl, _, rfl, ?_⟩
      refine ite2 (fun _ => ?_) (fun _ => ?_)
      · -- pot[0].pop(0)
        refine ⟨_, rfl, p, _, _, _, rfl, rfl, SqL.of q1, rfl, .inl ⟨rfl, _, SqL.of q2⟩, g, _, 0, 0, _, rfl, rfl, q2, (by decide), (by decide), seq0 (by simp), rfl, ?_⟩
        have y1 : upd H2 g (.lst ((((z / m) :: G').map V.int).eraseIdx 0)) p = some (.lst [.ref g, .ref s, .int (t + 1), .int r]) := by rw [upd_ne npg]; exact q1
        have y2 : upd H2 g (.lst ((((z / m) :: G').map V.int).eraseIdx 0)) g = some (.lst (G'.map V.int)) := upd_same
        have y3 : upd H2 g (.lst ((((z / m) :: G').map V.int).eraseIdx 0)) s = some (.lst (S.map V.int)) := by rw [upd_ne ngs.symm]; exact q3
        refine ⟨_, rfl, .inl ⟨_, rfl, _, rfl, _, _, rfl, rfl, hm, ?_⟩⟩
        exact k _ _ ⟨⟨G', S, t + 1, r, y1, y2, y3, hS⟩, npg, nps, ngs⟩ (kq.trans (keep_upd' trivial)) (Int.emod_nonneg _ (by omega)) (Int.emod_lt_of_pos _ hm)
      · refine ⟨_, rfl, .inl ⟨_, rfl, _, rfl, _, _, rfl, rfl, hm, ?_⟩⟩
        exact k _ _ ⟨⟨(z / m) :: G', S, t + 1, r, q1, q2, q3, hS⟩, npg, nps, ngs⟩ kq (Int.emod_nonneg _ (by omega)) (Int.emod_lt_of_pos _ hm)
    · have hSl : (0 : Int) < ((S.map V.int).length : Int) := by rw [List.length_map]; omega
      have hlt : (t % ((S.map V.int).length : Int)).toNat < S.length := by
        have a1 := Int.emod_nonneg t (show ((S.map V.int).length : Int) ≠ 0 by omega)
        have a2 := Int.emod_lt_of_pos t hSl
        rw [List.length_map] at a1 a2 ⊢
        omega
      obtain ⟨sv, hat⟩ : ∃ sv, atI (S.map V.int) (t % ((S.map V.int).length : Int)) = some (V.int sv) := by
        refine ⟨S[(t % ((S.map V.int).length : Int)).toNat], ?_⟩
        refine atI_int (Int.emod_nonneg t (by omega)) ?_
        rw [List.getElem?_map, List.getElem?_eq_getElem hlt]
        rfl
      -- seed
      refine ⟨_, rfl, p, _, _, _, rfl, rfl, SqL.of h1', rfl, _, rfl, .inl ⟨_, rfl, _, rfl, p, _, _, _, rfl, rfl, SqL.of h1', rfl, _, _, rfl, .inl (SqL.of h3'), _, _, rfl, rfl, hSl, _, _, _, _, rfl, rfl, SqL.of h3', hat, ?_⟩⟩
      refine ⟨_, _, rfl, rfl, .inr ⟨by decide, by decide⟩, _, rfl, _, _, rfl, rfl, .inl ⟨by decide, by decide⟩, _, _, rfl, rfl, _, rfl, p, _, _, _, rfl, rfl, SqL.of h1', rfl, _, _, rfl, rfl, .inr ⟨by decide, by decide⟩, _, _, rfl, rfl, ?_⟩
      -- number = int(seed * 48271 + 11) % 2147483647
      refine ⟨_, rfl, _, _, rfl, rfl, .inr ⟨by decide, by decide⟩, _, _, rfl, rfl, .inl ⟨_, rfl, _, _, rfl, rfl, (show (0 : Int) < 2147483647 by decide), ?_⟩⟩
      generalize hy : ((sv * 7919 + 104729 * t + r * 31) * 48271 + 11) % 2147483647 = y1
      have y1a : 0 ≤ y1 := by rw [← hy]; exact Int.emod_nonneg _ (by decide)
      have y1b : y1 < 2147483647 := by rw [← hy]; exact Int.emod_lt_of_pos _ (by decide)
      refine ⟨_, rfl, _, rfl, _, _, rfl, rfl, wide_div (b := 30) (by decide) (by decide) (by decide) (by decide), _, _, rfl, rfl, _, _, rfl, rfl, .inl ⟨by omega, by omega⟩, .inl ⟨_, rfl, _, _, rfl, rfl, (show (0 : Int) < 2147483629 by decide), ?_⟩⟩
      generalize hy2 : (y1 * (y1 / 1009 + 69621)) % 2147483629 = y2
      have y2a : 0 ≤ y2 := by rw [← hy2]; exact Int.emod_nonneg _ (by decide)
      have y2b : y2 < 2147483629 := by rw [← hy2]; exact Int.emod_lt_of_pos _ (by decide)
      refine ⟨_, rfl, _, rfl, _, _, rfl, rfl, wide_div (b := 30) (by decide) (by decide) (by decide) (by decide), _, _, rfl, rfl, _, _, rfl, rfl, .inl ⟨by omega, by omega⟩, _, rfl, _, _, rfl, rfl, .inl ⟨_, rfl, _, _, rfl, rfl, (show (0 : Int) < 2147483399 by decide), ?_⟩⟩
      refine ⟨_, rfl, _, _, rfl, rfl, wide_div (b := 30) (by decide) (by decide) (by decide) (by decide), .inl ⟨_, rfl, _, rfl, _, _, rfl, rfl, hm, ?_⟩⟩
      exact k _ _ ⟨⟨G, S, t + 1, r, h1', h2', h3', hS⟩, npg, nps, ngs⟩ kp (Int.emod_nonneg _ (by omega)) (Int.emod_lt_of_pos _ hm)
end Kk

set_option maxHeartbeats 2000000
namespace Kk
open PySem PySem.Spec PyProof.Rows L2
theorem cut63 {ns : List Int} (h : ns.length ≤ 63) : cutV (ns.map V.int) none (some 63) = ns.map V.int := by
  have e : HT.sIx (ns.map V.int).length (ns.map V.int).length (some 63) = min 63 (ns.map V.int).length := HT.sIx_nat _ _ 63
  unfold cutV
  rw [e]
  show ((ns.map V.int).drop 0).take _ = _
  rw [List.drop_zero]
  exact List.take_of_length_le (by rw [List.length_map]; show _ ≤ min 63 ns.length - 0; omega)
theorem map_get {α : Type} {f : α → V} {l : List α} {i : Nat} {x : V} (h : (l.map f)[i]? = some x) : ∃ y, l[i]? = some y ∧ x = f y := by
  rw [List.getElem?_map] at h
  cases e : l[i]? with
  | none => rw [e] at h; cases h
  | some y => rw [e] at h; exact ⟨y, rfl, (Option.some.inj h).symm⟩
theorem small_lt {n m : Nat} (h : n ≤ m) (hm : m < 16777216) : n < sizeLine := by rw [sizeLine_eq]; omega
theorem upd_over {H H' : Hp} {D : Addr} {o u : HO} (e : H' = upd H D o) : upd H' D u = upd H D u := by rw [e]; exact upd_upd
abbrev s_pot : Stmt := (top 26)
theorem sc_pot : FnScope ["_law_script", "_law_cells", "_law_item", "_law_greats", "_law_smalls"] ["_law_script"] (defScope s_pot) := ⟨rfl, rfl, rfl, by decide +kernel, rfl, by decide +kernel, by decide +kernel⟩
theorem c_pot {P w K mg base} (B : Bt mg) (D : DefAt K mg "_law_pot" s_pot) : Cal P w K mg base "_law_pot" 1 ["_law_script"] (spPot K) := by
  refine cal_of D sc_pot (fun _ _ _ _ _ _ us hl => match us, hl with | [_], _ => rfl) (fun vs H Q E h => ?_) (fun f cdv A outer st0 H vs Q E hr h => ?_)
  · obtain ⟨a, ns, rfl, _⟩ := h
    rfl
  · obtain ⟨a, ns, rfl, hS, hlen, k⟩ := h
    refine ⟨_, (pss_cons (ps_setLc (i := 1) (own := [("_law_item", 2)]) (g := (gName 2)) (tt := tYes) rfl sc_pot.nd rfl rfl (sw_true rfl rfl rfl (by decide +kernel)) (pi_list (pe_slice sl_list (pv 0) po_none (po_some pe_int))) (blkOk_by (own := [("_law_item", 2)]) (N := ["_law_script", "_law_cells", "_law_item", "_law_greats", "_law_smalls"]) (sc := defScope s_pot) (by decide +kernel)) (fun _ _ _ _ _ => (pg_name (i := 2) sc_pot.nd rfl (by first | exact Or.inl rfl | exact Or.inr rfl))) (fun _ _ _ _ _ => pts_nil) (fun _ _ _ _ _ => (pe_callTy call_int1 (by rfl) B.b_int (by decide +kernel) (pa_cons (pv 2) pa_nil))))
      (pss_cons (ps_setLc (i := 3) (own := [("_law_item", 2)]) (g := (gName 2)) rfl sc_pot.nd rfl rfl (sw_true rfl rfl rfl (by decide +kernel)) (pi_list (pv 1)) (blkOk_by (own := [("_law_item", 2)]) (N := ["_law_script", "_law_cells", "_law_item", "_law_greats", "_law_smalls"]) (sc := defScope s_pot) (by decide +kernel)) (fun _ _ _ _ _ => (pg_name (i := 2) sc_pot.nd rfl (by first | exact Or.inl rfl | exact Or.inr rfl))) (fun _ _ _ _ _ => (pts_one (pt_cmpR op_ge (pe_callB call_abs (by rfl) B.b_abs (by decide +kernel) (pa_cons (pv 2) pa_nil)) (pe_op op_pow pe_int pe_int) (nomark _)))) (fun _ _ _ _ _ => (pe_callB call_abs (by rfl) B.b_abs (by decide +kernel) (pa_cons (pv 2) pa_nil))))
      (pss_cons (ps_set (i := 4) sc_pot.nd rfl (by first | exact Or.inl rfl | exact Or.inr rfl) (pe_op op_cat (pe_lc (own := [("_law_item", 2)]) (g := (gName 2)) rfl sc_pot.nd (pi_list (pv 1)) (blkOk_by (own := [("_law_item", 2)]) (N := ["_law_script", "_law_cells", "_law_item", "_law_greats", "_law_smalls"]) (sc := defScope s_pot) (by decide +kernel)) (fun _ _ _ _ _ => (pg_name (i := 2) sc_pot.nd rfl (by first | exact Or.inl rfl | exact Or.inr rfl))) (fun _ _ _ _ _ => (pts_one (pt_cmpR op_lt (pe_callB call_abs (by rfl) B.b_abs (by decide +kernel) (pa_cons (pv 2) pa_nil)) (pe_op op_pow pe_int pe_int) (nomark _)))) (fun _ _ _ _ _ => (pe_op op_mod (pe_callTy call_int1 (by rfl) B.b_int (by decide +kernel) (pa_cons (pv 2) pa_nil)) pe_int))) (pe_lst (pa_cons (pe_op op_add (pe_callB call_len_seq (by rfl) B.b_len (by decide +kernel) (pa_cons (pv 1) pa_nil)) pe_int) pa_nil))))
      (pss_one (ps_ret (pe_lst (pa_cons (pv 3) (pa_cons (pv 4) (pa_cons pe_int (pa_cons (pe_op op_mod (pe_callTy call_int1 (by rfl) B.b_int (by decide +kernel) (pa_cons (pe_callB (cr_sum rfl) (by rfl) B.b_sum (by decide +kernel) (pa_cons (pv 4) pa_nil)) pa_nil)) pe_int) pa_nil)))))))))), ?_⟩
    refine ⟨_, rfl, _, rfl, a, _, rfl, hS, fun p0 n0 => ?_⟩
    rw [cut63 hlen]
    have S0 : Same H (upd H p0 (.lst (ns.map V.int))) := same_upd n0
    have L0 : upd H p0 (.lst (ns.map V.int)) p0 = some (.lst (ns.map V.int)) := upd_same
    generalize upd H p0 (.lst (ns.map V.int)) = H0 at *
    refine ⟨p0, rfl, ⟨_, SqL.of L0⟩, fun D1 nD1 => lc_list (K := K) (a := p0) (xs := ns.map V.int) (fun i H' => ∃ acc : List Int, acc.length ≤ i ∧ H' = upd H0 D1 (.lst (acc.map V.int)))
      ⟨[], Nat.le_refl _, rfl⟩ (fun i H' _ ⟨_, _, e⟩ => SqL.of (by rw [e, upd_ne (ne_of_none L0 nD1)]; exact L0)) ?_ ?_⟩
    · rintro i y H' hi ⟨acc, hl, e⟩
      obtain ⟨z, hz, rfl⟩ := map_get hi
      have hi' := (List.getElem?_eq_some_iff.mp hz).1
      refine ⟨rfl, _, rfl, .inl ⟨_, rfl, ?_⟩⟩
      refine ⟨acc.map V.int, by rw [e, upd_same], by rw [List.length_map]; exact small_lt (Nat.le_trans hl (Nat.le_of_lt (Nat.lt_of_lt_of_le hi' hlen))) (by decide), acc ++ [z], by simp; omega, ?_⟩
      rw [upd_over e, List.map_append]
      rfl
    · rintro H' ⟨cs, hcl, e⟩
      rw [List.length_map] at hcl
      have S1 : Same H H' := S0.trans (by rw [e]; exact same_upd nD1)
      have L1 : H' D1 = some (.lst (cs.map V.int)) := by rw [e, upd_same]
      clear e
      refine ⟨_, rfl, D1, rfl, ⟨_, SqL.of L1⟩, fun D2 nD2 => lc_list (K := K) (a := D1) (xs := cs.map V.int) (fun i H2 => ∃ acc : List Int, acc.length ≤ i ∧ H2 = upd H' D2 (.lst (acc.map V.int)))
        ⟨[], Nat.le_refl _, rfl⟩ (fun i H2 _ ⟨_, _, e⟩ => SqL.of (by rw [e, upd_ne (ne_of_none L1 nD2)]; exact L1)) ?_ ?_⟩
      · rintro i y H2 hi ⟨acc, hl, e⟩
        obtain ⟨z, hz, rfl⟩ := map_get hi
        have hi' := (List.getElem?_eq_some_iff.mp hz).1
        refine ⟨rfl, ?_⟩
        refine ⟨_, rfl, _, rfl, _, _, rfl, rfl, ⟨by decide, by decide, by decide⟩, _, _, rfl, rfl, _, rfl, ?_⟩
        refine ite2 (fun _ => ?_) (fun _ => ?_)
        · refine ⟨_, rfl, _, rfl, ?_⟩
          refine ⟨acc.map V.int, by rw [e, upd_same], by rw [List.length_map]; exact small_lt (m := 63) (by omega) (by decide), acc ++ [if z < 0 then -z else z], by simp; omega, ?_⟩
          rw [upd_over e, List.map_append]
          rfl
        · exact ⟨acc, by omega, e⟩
      · rintro H2 ⟨gs, hgl, e⟩
        have S2 : Same H H2 := S1.trans (by rw [e]; exact same_upd nD2)
        have L12 : H2 D1 = some (.lst (cs.map V.int)) := by rw [e, upd_ne (ne_of_none L1 nD2)]; exact L1
        have L2' : H2 D2 = some (.lst (gs.map V.int)) := by rw [e, upd_same]
        have fD2 : H D2 = none := S1.free nD2
        clear e
        refine ⟨_, rfl, D1, rfl, ⟨_, SqL.of L12⟩, fun D3 nD3 => lc_list (K := K) (a := D1) (xs := cs.map V.int) (fun i H3 => ∃ acc : List Int, acc.length ≤ i ∧ H3 = upd H2 D3 (.lst (acc.map V.int)))
          ⟨[], Nat.le_refl _, rfl⟩ (fun i H3 _ ⟨_, _, e⟩ => SqL.of (by rw [e, upd_ne (ne_of_none L12 nD3)]; exact L12)) ?_ ?_⟩
        · rintro i y H3 hi ⟨acc, hl, e⟩
          obtain ⟨z, hz, rfl⟩ := map_get hi
          have hi' := (List.getElem?_eq_some_iff.mp hz).1
          refine ⟨rfl, ?_⟩
          refine ⟨_, rfl, _, rfl, _, _, rfl, rfl, ⟨by decide, by decide, by decide⟩, _, _, rfl, rfl, _, rfl, ?_⟩
          refine ite2 (fun _ => ?_) (fun _ => ?_)
          · refine ⟨_, rfl, .inl ⟨_, rfl, _, _, rfl, rfl, (show (0 : Int) < 1000000007 by decide), ?_⟩⟩
            refine ⟨acc.map V.int, by rw [e, upd_same], by rw [List.length_map]; exact small_lt (m := 63) (by omega) (by decide), acc ++ [z % 1000000007], by simp; omega, ?_⟩
            rw [upd_over e, List.map_append]
            rfl
          · exact ⟨acc, by omega, e⟩
        · rintro H3 ⟨ss, hsl, e⟩
          rw [List.length_map] at hsl
          have S3 : Same H2 H3 := by rw [e]; exact same_upd nD3
          have L3 : H3 D3 = some (.lst (ss.map V.int)) := by rw [e, upd_same]
          clear e
          -- + [len(cells) + 1]
          refine ⟨_, rfl, _, _, rfl, .inl (SqL.of (S3 _ _ L12)), _, _, rfl, rfl, (by show 1 ≤ sizeLine; decide), fun p4 n4 => ?_⟩
          have S4 : Same H3 (upd H3 p4 (.lst [V.int (((cs.map V.int).length : Nat) + 1)])) := same_upd n4
          have L4 : upd H3 p4 (.lst [V.int (((cs.map V.int).length : Nat) + 1)]) p4 = some (.lst [V.int (((cs.map V.int).length : Nat) + 1)]) := upd_same
          refine ⟨D3, p4, _, _, rfl, rfl, S4 _ _ L3, L4, by rw [List.length_map, sizeLine_eq]; simp; omega, fun p5 n5 => ?_⟩
          generalize upd H3 p4 (.lst [V.int (((cs.map V.int).length : Nat) + 1)]) = H4 at *
          have S5 : Same H4 (upd H4 p5 (.lst ((ss ++ [((cs.map V.int).length : Int) + 1]).map V.int))) := same_upd n5
          have L5 : upd H4 p5 (.lst ((ss ++ [((cs.map V.int).length : Int) + 1]).map V.int)) p5 = some (.lst ((ss ++ [((cs.map V.int).length : Int) + 1]).map V.int)) := upd_same
          have e5 : (ss.map V.int ++ [V.int (((cs.map V.int).length : Nat) + 1)]) = (ss ++ [((cs.map V.int).length : Int) + 1]).map V.int := by rw [List.map_append]; rfl
          rw [e5]
          generalize hss : ss ++ [((cs.map V.int).length : Int) + 1] = s5 at *
          have hs5 : 0 < s5.length := by rw [← hss]; simp
          generalize upd H4 p5 (.lst (s5.map V.int)) = H5 at *
          -- return [greats, smalls, 0, int(sum(smalls)) % 999983]
          refine ⟨_, rfl, _, rfl, _, rfl, _, s5, rfl, SqL.of L5, .inl ⟨_, rfl, _, _, rfl, rfl, (show (0 : Int) < 999983 by decide), (by show 4 ≤ sizeLine; decide), fun p6 n6 => ?_⟩⟩
          have S6 : Same H5 (upd H5 p6 (.lst [.ref D2, .ref p5, .int 0, .int (s5.sum % 999983)])) := same_upd n6
          have S25 : Same H2 H5 := (S3.trans S4).trans S5
          have L25 := S25 _ _ L2'
          have f5 : H p5 = none := ((S2.trans S3).trans S4).free n5
          have f6 : H p6 = none := (S2.trans S25).free n6
          refine k _ p6 D2 p5 ⟨⟨gs, s5, 0, s5.sum % 999983, upd_same, S6 _ _ L25, S6 _ _ L5, hs5⟩, ?_, ?_, ?_⟩ ((S2.trans S25).trans S6) f6 fD2 f5
          · exact (ne_of_none L25 n6).symm
          · exact (ne_of_none L5 n6).symm
          · exact ne_of_none ((S3.trans S4) _ _ L2') n5
end Kk

namespace Wd
open PySem
/-! ### the name with a number -/
def stp (s : Nat × Nm) : Nat × Nm := if 0 < s.1 then ((s.1 - 1) / 26, (97 + (s.1 - 1) % 26) :: s.2) else s
def itr : Nat → Nat × Nm → Nat × Nm
  | 0, s => s
  | k + 1, s => stp (itr k s)
def lett (n : Nat) : Nm := (itr 9 (n + 1, [])).2
def val : Nm → Nat
  | [] => 0
  | c :: l => (c - 96) * 26 ^ l.length + val l
def bd : Nat → Nat
  | 0 => 0
  | k + 1 => 26 * (bd k + 1)
structure LI (n i : Nat) (s : Nat × Nm) : Prop where
  v : val s.2 + s.1 * 26 ^ s.2.length = n
  l : s.2.length ≤ i
  c : ∀ x ∈ s.2, 97 ≤ x ∧ x ≤ 122
theorem LI.start (n : Nat) : LI n 0 (n, []) := ⟨by simp [val], Nat.le_refl _, by simp⟩
theorem LI.step {n i : Nat} {s : Nat × Nm} (h : LI n i s) : LI n (i + 1) (stp s) := by
  unfold stp
  split
  · rename_i hp
    refine ⟨?_, by have := h.l; simp; omega, ?_⟩
    · have hv := h.v
      simp only [val, List.length_cons, Nat.pow_succ]
      have e1 : 97 + (s.1 - 1) % 26 - 96 = (s.1 - 1) % 26 + 1 := by omega
      rw [e1]
      have e2 : (s.1 - 1) / 26 * (26 ^ s.2.length * 26) = (26 * ((s.1 - 1) / 26)) * 26 ^ s.2.length := by
        rw [Nat.mul_comm (26 ^ s.2.length) 26, ← Nat.mul_assoc, Nat.mul_comm ((s.1 - 1) / 26) 26]
      rw [e2]
      have e3 : ((s.1 - 1) % 26 + 1) * 26 ^ s.2.length + val s.2 + 26 * ((s.1 - 1) / 26) * 26 ^ s.2.length = val s.2 + ((s.1 - 1) % 26 + 1 + 26 * ((s.1 - 1) / 26)) * 26 ^ s.2.length := by
        rw [Nat.add_mul ((s.1 - 1) % 26 + 1)]; omega
      rw [e3]
      have e4 : (s.1 - 1) % 26 + 1 + 26 * ((s.1 - 1) / 26) = s.1 := by
        have := Nat.div_add_mod (s.1 - 1) 26
        omega
      rw [e4]; exact hv
    · intro x hx
      rcases List.mem_cons.mp hx with rfl | hx
      · have := Nat.mod_lt (s.1 - 1) (show 26 > 0 by decide); omega
      · exact h.c x hx
  · exact ⟨h.v, by have := h.l; omega, h.c⟩
theorem LI.itr (n : Nat) : ∀ i, LI n i (itr i (n, []))
  | 0 => LI.start n
  | i + 1 => (LI.itr n i).step
theorem itr_bd {n k : Nat} (h : n ≤ bd k) : ∀ i, i ≤ k → (itr i (n, [])).1 ≤ bd (k - i)
  | 0, _ => h
  | i + 1, hi => by
    have ih := itr_bd h i (by omega)
    have e : k - i = (k - (i + 1)) + 1 := by omega
    rw [e] at ih
    simp only [bd] at ih
    simp only [Wd.itr, stp]
    split
    · show ((itr i (n, [])).1 - 1) / 26 ≤ _
      omega
    · omega
theorem itr_done {n i : Nat} (h : (itr i (n, [])).1 = 0) : itr (i + 1) (n, []) = itr i (n, []) := by
  simp only [Wd.itr, stp]
  rw [h]; rfl
theorem lett_itr {n : Nat} (h : n + 1 ≤ 217180147158) : lett n = (itr 8 (n + 1, [])).2 ∧ (itr 8 (n + 1, [])).1 = 0 := by
  have b : bd 8 = 217180147158 := by decide
  have z := itr_bd (n := n + 1) (k := 8) (by rw [b]; exact h) 8 (Nat.le_refl _)
  have z0 : (itr 8 (n + 1, [])).1 = 0 := Nat.le_zero.mp z
  refine ⟨?_, z0⟩
  unfold lett
  rw [itr_done z0]
theorem lett_val {n : Nat} (h : n + 1 ≤ 217180147158) : val (lett n) = n + 1 := by
  obtain ⟨e, z⟩ := lett_itr h
  have v := (LI.itr (n + 1) 8).v
  rw [z, Nat.zero_mul, Nat.add_zero] at v
  rw [e]; exact v
theorem lett_ok {n : Nat} (h : n + 1 ≤ 217180147158) : nmOk (lett n) := by
  obtain ⟨e, z⟩ := lett_itr h
  have L := LI.itr (n + 1) 8
  refine ⟨?_, by rw [e]; exact L.l, by rw [e]; exact L.c⟩
  have v := lett_val h
  cases q : lett n with
  | nil => rw [q] at v; simp [val] at v
  | cons a l => simp
theorem lett_inj {n m : Nat} (h : n + 1 ≤ 217180147158) (g : m + 1 ≤ 217180147158) (e : lett n = lett m) : n = m := by
  have a := lett_val h
  have b := lett_val g
  rw [e] at a
  omega
theorem nodup_len {α : Type} [DecidableEq α] : ∀ {a b : List α}, a.Nodup → (∀ x ∈ a, x ∈ b) → a.length ≤ b.length
  | [], _, _, _ => Nat.zero_le _
  | x :: a, b, nd, h => by
    have hx := h x (List.mem_cons_self ..)
    have nd' := List.nodup_cons.mp nd
    have ih := nodup_len (a := a) (b := b.erase x) nd'.2 (fun y hy => by
      refine (List.mem_erase_of_ne ?_).mpr (h y (List.mem_cons_of_mem _ hy))
      rintro rfl
      exact nd'.1 hy)
    have := List.length_erase_of_mem hx
    have hp : 0 < b.length := List.length_pos_of_mem hx
    simp only [List.length_cons]
    omega
theorem pigeon {α : Type} [DecidableEq α] {l : List α} {f : Nat → α} (inj : ∀ i j, i ≤ l.length → j ≤ l.length → f i = f j → i = j) (h : ∀ i, i ≤ l.length → f i ∈ l) : False := by
  have nd : ((List.range (l.length + 1)).map f).Nodup := by
    refine List.pairwise_map.mpr ?_
    refine List.Pairwise.imp_of_mem ?_ List.nodup_range
    intro a b ha hb hne e
    exact hne (inj a b (by have := List.mem_range.mp ha; omega) (by have := List.mem_range.mp hb; omega) e)
  have := nodup_len nd (b := l) (fun x hx => by
    obtain ⟨i, hi, rfl⟩ := List.mem_map.mp hx
    exact h i (by have := List.mem_range.mp hi; omega))
  simp at this
  omega
theorem alpha (r : Nat) (h : r < 26) : (TL.tl (Str.ofString "abcdefghijklmnopqrstuvwxyz"))[r]? = some (97 + r) := by
  rw [TL.tl_ofString]
  revert r
  decide +kernel
end Wd

set_option maxHeartbeats 2000000
namespace Kk
open PySem PySem.Spec PyProof.Rows L2 Wd
abbrev sv (n : Nm) : V := .str (str n)
abbrev wv (w : W) : V := .str (enc w)
theorem str_cons (c : Nat) (n : Nm) : (⟨#[c]⟩ : Str) ++ str n = str (c :: n) := TL.ext_tl (by rw [TL.tl_append]; rfl)
theorem len_str (n : Nm) : (str n).length = n.length := by rw [TL.len_tl]; rfl
theorem flat_sv (us : List Nm) : (us.map sv).all flatV = true := by
  rw [List.all_eq_true]
  intro x hx
  obtain ⟨n, _, rfl⟩ := List.mem_map.mp hx
  rfl
theorem eq_sv (a b : Nm) : eqV (sv a) (sv b) = decide (a = b) := by
  show (str a == str b) = _
  by_cases h : a = b
  · subst h; simp
  · have h' : ¬ str a = str b := fun e => h (str_inj e)
    rw [decide_eq_false h]; exact beq_eq_false_iff_ne.mpr h'
theorem in_sv (n : Nm) (us : List Nm) : inV (sv n) (us.map sv) = decide (n ∈ us) := by
  unfold inV
  induction us with
  | nil => simp
  | cons a us ih =>
    rw [List.map_cons, List.any_cons, ih, eq_sv]
    by_cases h : a = n
    · subst h; simp
    · by_cases g : n ∈ us
      · simp [h, g]
      · simp [h, g, Ne.symm h]
def spLetters : Sp := fun vs H Q _ => ∃ n : Nat, vs = [.int (n : Int)] ∧ n + 1 ≤ 217180147158 ∧ Q (sv (lett n)) H
def spFresh : Sp := fun vs H Q _ => ∃ (p g s u : Addr) (us : List Nm), vs = [.ref p, .ref u] ∧ PotAt H p g s ∧ H u = some (.lst (us.map sv)) ∧ us.length ≤ 1100 ∧ u ≠ p ∧ u ≠ g ∧
  ∀ (H' : Hp) (n : Nm), nmOk n → n ∉ us → PotAt H' p g s → H' u = some (.lst ((us ++ [n]).map sv)) → (∀ b o, H b = some o → b ≠ p → b ≠ g → b ≠ u → H' b = some o) → Q (sv n) H'
theorem PotAt.su {H : Hp} {p g s u : Addr} (h : PotAt H p g s) {us : List Nm} (hu : H u = some (.lst (us.map sv))) : u ≠ s := by
  obtain ⟨⟨G, S, t, r, h1, h2, h3, h4⟩, _, _, _⟩ := h
  intro e
  rw [e, h3] at hu
  have := HO.lst.inj (Option.some.inj hu)
  cases S with
  | nil => simp at h4
  | cons a S => cases us <;> simp at this
theorem PotAt.wr {H : Hp} {p g s u : Addr} {o : HO} (h : PotAt H p g s) (h1 : u ≠ p) (h2 : u ≠ g) (h3 : u ≠ s) : PotAt (upd H u o) p g s :=
  h.off fun b x e hb => by
    rcases hb with rfl | rfl | rfl
    · rw [upd_ne h1.symm]; exact e
    · rw [upd_ne h2.symm]; exact e
    · rw [upd_ne h3.symm]; exact e
end Kk

namespace Wd
open PySem
/-! ### words that are drawn -/
def Fits (e : List Nm × Nat) (t : T) : Prop := t.sc ∧ t.aps = e.2 ∧ t.lv.Perm (e.1 ++ t.tks)
inductive Mt : List (List Nm × Nat) → List T → Prop where
  | nil : Mt [] []
  | cons {e S t ts} : Fits e t → Mt S ts → Mt (e :: S) (t :: ts)
def Pre (e0 : List Nm × Nat) (F : List W) (S : List (List Nm × Nat)) : Prop := ∀ ts, Mt S ts → ∃ t, t.ws = F ++ (ts.map T.ws).flatten ∧ Fits e0 t
theorem Pre.start (e : List Nm × Nat) : Pre e [] [e] := fun ts h => by
  cases h with
  | cons h1 h2 =>
    cases h2
    exact ⟨_, by simp, h1⟩
theorem Pre.nm {e0 F S} {n : Nm} (h : Pre e0 F (([n], 0) :: S)) : Pre e0 (F ++ [.nm n]) S := fun ts m => by
  obtain ⟨t, h1, h2⟩ := h (T.nm n :: ts) (.cons ⟨trivial, rfl, List.Perm.refl _⟩ m)
  exact ⟨t, by rw [h1]; simp [T.ws], h2⟩
theorem Pre.tk {e0 F S} {n : Nm} {row : List Nm} {m : Nat} (h : Pre e0 F ((row, m) :: S)) : Pre e0 (F ++ [.tk n]) ((row ++ [n], m) :: S) := fun ts mt => by
  cases mt with
  | @cons _ _ b ts h1 h2 =>
    obtain ⟨s, a, p⟩ := h1
    obtain ⟨t, h3, h4⟩ := h (T.tk n b :: ts) (.cons ⟨⟨p.mem_iff.mpr (by simp), s⟩, a, by
      show b.lv.Perm (row ++ (n :: b.tks))
      have e : row ++ [n] ++ b.tks = row ++ (n :: b.tks) := by simp
      rw [← e]; exact p⟩ h2)
    exact ⟨t, by rw [h3]; simp [T.ws], h4⟩
theorem Pre.ap {e0 F S} {row r1 r2 : List Nm} {m m1 m2 : Nat} (h : Pre e0 F ((row, m) :: S)) (hr : (r1 ++ r2).Perm row) (hm : m1 + m2 + 1 = m) : Pre e0 (F ++ [.ap]) ((r1, m1) :: (r2, m2) :: S) := fun ts mt => by
  cases mt with
  | @cons _ _ f ts h1 h2 =>
    cases h2 with
    | @cons _ _ a ts h2 h3 =>
      obtain ⟨s1, a1, p1⟩ := h1
      obtain ⟨s2, a2, p2⟩ := h2
      obtain ⟨t, h4, h5⟩ := h (T.ap f a :: ts) (.cons ⟨⟨s1, s2⟩, by show f.aps + a.aps + 1 = m; rw [a1, a2]; exact hm, by
        show (f.lv ++ a.lv).Perm (row ++ (f.tks ++ a.tks))
        refine (p1.append p2).trans ?_
        show ((r1 ++ f.tks) ++ (r2 ++ a.tks)).Perm (row ++ (f.tks ++ a.tks))
        refine List.Perm.trans ?_ (hr.append_right _)
        rw [List.append_assoc, List.append_assoc]
        refine List.Perm.append_left _ ?_
        rw [← List.append_assoc, ← List.append_assoc]
        exact List.perm_append_comm.append_right _⟩ h3)
      exact ⟨t, by rw [h4]; simp [T.ws], h5⟩
def cost (e : List Nm × Nat) : Nat := 3 * e.2 + 2 - e.1.length
def costs : List (List Nm × Nat) → Nat
  | [] => 0
  | e :: S => cost e + costs S
def takesOf (F : List W) : List Nm := F.filterMap (fun w => match w with | .tk n => some n | _ => none)
theorem takesOf_app (F G : List W) : takesOf (F ++ G) = takesOf F ++ takesOf G := by simp [takesOf]
theorem takesOf_len (F : List W) : (takesOf F).length ≤ F.length := List.length_filterMap_le _ _
/-- what is drawn: names the open names, g the givens -/
structure Gen (names : List Nm) (g : Nat) (ws : List W) : Prop where
  tree : ∃ t : T, t.ws = ws ∧ Fits (names, g) t
  nd : (names ++ takesOf ws).Nodup
  ok : ∀ n ∈ names ++ takesOf ws, nmOk n
theorem takesOf_tree (t : T) : takesOf t.ws = t.tks := (T.tks_ws t).symm
theorem mem_tks_ws {t : T} {n : Nm} (h : W.tk n ∈ t.ws) : n ∈ t.tks := by
  rw [T.tks_ws]
  exact List.mem_filterMap.mpr ⟨_, h, rfl⟩
theorem mem_lv_ws {t : T} {n : Nm} (h : W.nm n ∈ t.ws) : n ∈ t.lv := by
  rw [T.lv_ws]
  exact List.mem_filterMap.mpr ⟨_, h, rfl⟩
theorem Gen.vd {names : List Nm} {g : Nat} {ws : List W} (h : Gen names g ws) : Vd ws := by
  obtain ⟨⟨t, rfl, s, a, p⟩, nd, ok⟩ := h
  rw [takesOf_tree] at nd ok
  refine ⟨⟨t, rfl, s, p.nodup_iff.mpr nd, (List.nodup_append.mp nd).2.1⟩, fun w hw => ?_⟩
  cases w with
  | ap => trivial
  | tk n => exact ok n (List.mem_append_right _ (mem_tks_ws hw))
  | nm n => exact ok n (p.mem_iff.mp (mem_lv_ws hw))
theorem Gen.len {names : List Nm} {g : Nat} {ws : List W} (h : Gen names g ws) : ws.length + names.length = 3 * g + 2 := by
  obtain ⟨⟨t, rfl, s, a, p⟩, nd, ok⟩ := h
  have l1 := p.length_eq
  have l2 := T.lv_aps t
  have l3 := T.len_ws t
  simp at l1 a
  omega
theorem swap_perm {α : Type} (l : List α) (i j : Nat) (hi : i < l.length) (hj : j < l.length) : ((l.set i l[j]).set j l[i]).Perm l := List.set_set_perm hi hj
end Wd

set_option maxHeartbeats 2000000
namespace Kk
open PySem PySem.Spec PyProof.Rows L2 Wd
def spMixed : Sp := fun vs H Q _ => ∃ (p g s r : Addr) (xs : List V), vs = [.ref p, .ref r] ∧ PotAt H p g s ∧ H r = some (.lst xs) ∧ xs.length ≤ 2000 ∧ r ≠ p ∧ r ≠ g ∧
  ∀ (H' : Hp) (q : Addr) (ys : List V), ys.Perm xs → PotAt H' p g s → H q = none → H' q = some (.lst ys) → Keep p g H H' → Q (.ref q) H'
def spMixedN : Sp := fun vs H Q _ => ∃ (p g s r : Addr) (xs : List Nm), vs = [.ref p, .ref r] ∧ PotAt H p g s ∧ H r = some (.lst (xs.map sv)) ∧ xs.length ≤ 2000 ∧ r ≠ p ∧ r ≠ g ∧
  ∀ (H' : Hp) (q : Addr) (ys : List Nm), ys.Perm xs → PotAt H' p g s → H q = none → H' q = some (.lst (ys.map sv)) → Keep p g H H' → Q (.ref q) H'
def svInv : V → Nm
  | .str z => TL.tl z
  | _ => []
theorem sv_back (xs : List Nm) : (xs.map sv).map svInv = xs := by
  rw [List.map_map]
  exact (List.map_congr_left (fun n _ => rfl)).trans (List.map_id _)
theorem perm_sv {ys : List V} {xs : List Nm} (h : ys.Perm (xs.map sv)) : ∃ ns : List Nm, ys = ns.map sv ∧ ns.Perm xs := by
  refine ⟨ys.map svInv, ?_, by have := h.map svInv; rwa [sv_back] at this⟩
  rw [List.map_map]
  refine ((List.map_congr_left fun y hy => ?_).trans (List.map_id _)).symm
  obtain ⟨n, _, rfl⟩ := List.mem_map.mp (h.mem_iff.mp hy)
  rfl
end Kk

namespace Wd
open PySem L2
def isTk : W → Bool
  | .tk _ => true
  | _ => false
def isAp : W → Bool
  | .ap => true
  | _ => false
def isNm : W → Bool
  | .nm _ => true
  | _ => false
theorem starts_pre {x y : Str} (hy : TL.tl y ≠ []) : Txt.startswith x y = TL.pre (TL.tl y) (TL.tl x) := by
  have h := TL.at_iff (x := x) hy 0
  rw [List.drop_zero] at h
  have e : Txt.startswith x y = true ↔ PySem.StrLaws.At x y x.length 0 := by
    unfold Txt.startswith PySem.StrLaws.At
    rw [Bool.and_eq_true, decide_eq_true_eq]
  cases h1 : Txt.startswith x y with
  | true => exact (h.mp (e.mp h1)).symm
  | false =>
    cases h2 : TL.pre (TL.tl y) (TL.tl x) with
    | false => rfl
    | true => rw [e.mpr (h.mpr h2)] at h1; cases h1
theorem slash : TL.tl (Str.ofString "/") = [47] := by rw [TL.tl_ofString]; rfl
theorem at_sign : TL.tl (Str.ofString "@") = [64] := by rw [TL.tl_ofString]; rfl
theorem starts_tk {w : W} (h : wOk w) : Txt.startswith (enc w) "/" = isTk w := by
  rw [starts_pre (by rw [slash]; simp), slash, tl_enc]
  cases w with
  | ap => rfl
  | tk n => simp [code, TL.pre, isTk]
  | nm n =>
    cases n with
    | nil => rfl
    | cons c r =>
      have := h.2.2 c (by simp)
      have hc : c ≠ 47 := by omega
      simp [code, TL.pre, isTk, hc]
theorem cut1 (n : Nm) : cutS (enc (.tk n)) (some 1) none = str n := by
  apply TL.ext_tl
  unfold cutS
  rw [TL.tl_mk]
  have e1 : HT.sIx (enc (.tk n)).length 0 (some 1) = min 1 (enc (.tk n)).length := HT.sIx_nat _ _ 1
  have e2 : (enc (.tk n)).length = n.length + 1 := rfl
  rw [e1, e2, HT.sIx_none, Nat.min_eq_left (by omega)]
  show ((47 :: n).drop 1).take _ = n
  simp
theorem head1 (w : W) : cutS (enc w) none (some 1) = str ((code w).take 1) := by
  apply TL.ext_tl
  unfold cutS
  rw [TL.tl_mk]
  have e1 : HT.sIx (enc w).length (enc w).length (some 1) = min 1 (enc w).length := HT.sIx_nat _ _ 1
  rw [e1, HT.sIx_none]
  show ((code w).drop 0).take (min 1 (code w).length - 0) = (code w).take 1
  rw [List.drop_zero, Nat.sub_zero]
  cases code w <;> simp
theorem head_tk {w : W} (h : wOk w) : decide (V.str (cutS (enc w) none (some 1)) = V.str "/") = isTk w := by
  rw [head1]
  cases w with
  | ap =>
    refine decide_eq_false fun e => ?_
    have := congrArg TL.tl (V.str.inj e)
    rw [slash] at this
    simp [code, tl_str] at this
  | tk n =>
    refine decide_eq_true (congrArg V.str (TL.ext_tl ?_))
    rw [slash]; rfl
  | nm n =>
    refine decide_eq_false fun e => ?_
    have := congrArg TL.tl (V.str.inj e)
    rw [slash, tl_str] at this
    cases n with
    | nil => simp [code] at this
    | cons c r =>
      have := h.2.2 c (by simp)
      simp [code] at *
      omega
theorem is_ap {w : W} (h : wOk w) : decide (V.str (enc w) = V.str "@") = isAp w := by
  cases w with
  | ap =>
    refine decide_eq_true (congrArg V.str (TL.ext_tl ?_))
    rw [at_sign]; rfl
  | tk n =>
    refine decide_eq_false fun e => ?_
    have := congrArg TL.tl (V.str.inj e)
    rw [at_sign, tl_enc] at this
    simp [code] at this
  | nm n =>
    refine decide_eq_false fun e => ?_
    have := congrArg TL.tl (V.str.inj e)
    rw [at_sign, tl_enc] at this
    cases n with
    | nil => simp [code] at this
    | cons c r =>
      have := h.2.2 c (by simp)
      simp [code] at *
      omega
/-- what is_name tells -/
def nameB (z : Str) : Bool := decide (1 ≤ z.length) && (decide (z.length ≤ 8) && (TL.tl z).all fun c => decide (97 ≤ c ∧ c ≤ 122))
theorem nameB_ok {n : Nm} (h : nmOk n) : nameB (str n) = true := by
  unfold nameB
  have hl : (str n).length = n.length := by rw [TL.len_tl]; rfl
  rw [hl, decide_eq_true h.1, decide_eq_true h.2.1, tl_str]
  simp only [Bool.true_and, List.all_eq_true, decide_eq_true_eq]
  exact h.2.2
theorem nameB_tk (n : Nm) : nameB (enc (.tk n)) = false := by
  unfold nameB
  rw [tl_enc]
  simp [code]
theorem nameB_ap : nameB (enc .ap) = false := by
  unfold nameB
  rw [tl_enc]
  simp [code]
theorem letters (c : Nat) : decide (c ∈ (Str.ofString "abcdefghijklmnopqrstuvwxyz").cps.toList) = decide (97 ≤ c ∧ c ≤ 122) := by
  have e : (Str.ofString "abcdefghijklmnopqrstuvwxyz").cps.toList = (List.range 26).map (97 + ·) := by
    show TL.tl _ = _
    rw [TL.tl_ofString]; decide +kernel
  rw [e]
  by_cases h : 97 ≤ c ∧ c ≤ 122
  · rw [decide_eq_true h]
    refine decide_eq_true (List.mem_map.mpr ⟨c - 97, List.mem_range.mpr (by omega), by omega⟩)
  · rw [decide_eq_false h]
    refine decide_eq_false fun hm => ?_
    obtain ⟨k, hk, e⟩ := List.mem_map.mp hm
    have := List.mem_range.mp hk
    omega
end Wd

namespace PySem
open Sem (wp)
open AutoSeq1 (wpAny_loadPart')
set_option maxHeartbeats 1000000 in
theorem kk_meets_enum {v : Value} {o : Obj} {H : Heap → Prop} (B : Begins v o H) :
    Meets (Builtin.«enumerate.__new__» ⟨[.type "enumerate", v], []⟩) (fun _ R s => H s.heap ∧
      R (.ok (.ret (.ref (s.heap.push o).objs.size))) { s with heap := (s.heap.push o).push { cls := .type "enumerate", data := .fields #[.none, .bool false, .ref s.heap.objs.size, rawInt 0, .none, .none] } }) :=
  .of_wp fun prog w A R s h => by
    obtain ⟨hp, g, d, tk, os⟩ := s; obtain ⟨h1, h⟩ := h
    have hsub := sub_enumerate
    have q1 : ∀ {A' : Around} {E : Value → Shared → Prop} {Q : Value → Shared → Prop}, Q (.ref hp.objs.size) ⟨hp.push o, g, d, tk, os⟩ → wpAny (model prog w) A' (pyIter v) Q E ⟨hp, g, d, tk, os⟩ :=
      fun q => B.iter prog w _ _ ⟨hp, g, d, tk, os⟩ _ h1 q
    wp_walk using q1
    refine wpAny_stack_any fun st => wpAny_pure ?_
    split
    · rename_i c _ _ _ _ _
      cases (c == Value.type "enumerate")
      · wp_walk using q1
        exact ⟨_, rfl, h⟩
      · wp_walk using q1
        exact ⟨_, rfl, h⟩
    · wp_walk using q1
      exact ⟨_, rfl, h⟩
section
variable {prog : Program} {w : World} {A : Around} {E : Value → Shared → Prop} {s : Shared}
theorem kk_call_enum {v : Value} {o : Obj} {H : Heap → Prop} {Q : Value → Shared → Prop} (B : Begins v o H) (h1 : H s.heap)
    (h : ∀ h', IsEnum h' (s.heap.objs.size + 1) s.heap.objs.size 0 .none → h'.get? s.heap.objs.size = some o → h'.objs.size = s.heap.objs.size + 2 →
      (∀ b o, s.heap.get? b = some o → h'.get? b = some o) → Q (.ref (s.heap.objs.size + 1)) { s with heap := h' }) :
    wpAny (model prog w) A (call (.type "enumerate") [v]) Q E s := by
  refine callType_new F.called_enumerate (by decide) (F.typeCall_enumerate_1 _) (F.newCall_enumerate_1 _) (fun obj => F.args_object_init_2 obj _) F.entry_enumerate_new
    (kk_meets_enum B) ⟨h1, ?_⟩
  have hz : (s.heap.push o).objs.size = s.heap.objs.size + 1 := Heap.size_push ..
  show _ ∧ _
  rw [hz]
  have he : IsEnum ((s.heap.push o).push { cls := .type "enumerate", data := .fields #[.none, .bool false, .ref s.heap.objs.size, rawInt 0, .none, .none] }) (s.heap.objs.size + 1) s.heap.objs.size 0 .none := by
    have := Heap.get?_push_size (s.heap.push o) (o := { cls := .type "enumerate", data := .fields #[.none, .bool false, .ref s.heap.objs.size, rawInt 0, .none, .none] }) rfl
    rw [hz] at this; exact this
  refine ⟨⟨_, he, rfl⟩, h _ he (Heap.get?_push_of_some _ (Heap.get?_push_size _ B.free)) (by rw [Heap.size_push, hz]) fun b o x => Heap.get?_push_of_some _ (Heap.get?_push_of_some _ x)⟩
end
end PySem
namespace Kk
open PySem PySem.Spec PyProof.Rows L2
/-- the tuple at a, each item in a new pair -/
def IteT (K : PySem.W.Frag) (a : Addr) : It :=
  ⟨fun i H => ∃ (xs : List V) (x : V), SqT K H a xs ∧ xs[i]? = some x, fun i H v H' => ∃ T x, v = .ref T ∧ H T = none ∧ H' = upd H T (.tup [.int (i : Nat), x]) ∧ ∀ xs, SqT K H a xs → xs[i]? = some x, fun i H => ∃ xs : List V, SqT K H a xs ∧ xs.length ≤ i⟩
theorem turn_enumT {P : Program} {w : World} {K : PySem.W.Frag} {elts : List Expr} {kk : Nat} {tpos : Pos} (a e it : Addr) (hae : a ≠ e) (hai : a ≠ it) :
    Turn P w K (.Tuple elts kk tpos) (IteT K a) [e, it] e (fun i h => (∃ old, IsEnum h e it ((i : Nat) : Int) old) ∧ h.IsTupleIter it a i ∧ e ≠ it) where
  mem := by simp
  obj := fun i h st b hb => by
    obtain ⟨⟨old, he⟩, ⟨o, ho, hc, hd⟩, _⟩ := st
    have e' : b = e ∨ b = it := by simpa using hb
    rcases e' with z | z
    · rw [z]; exact ⟨_, he, fun v q => nomatch q⟩
    · rw [z]; exact ⟨o, ho, fun v q => by rw [hd] at q; cases q⟩
  keep := fun i h h' st k => let ⟨⟨old, he⟩, hi, hne⟩ := st; ⟨⟨old, k e (by simp) _ he⟩, hi.at fun o q => k it (by simp) o q, hne⟩
  item := by
    intro X hP hw hK hc i pins s σ H E I hf st hg
    subst hP hw hK
    obtain ⟨⟨old, he⟩, hit, hne⟩ := st
    obtain ⟨xs, x, hq, hx⟩ := hg
    obtain ⟨its, rv, p, hz⟩ := I.tuple hq
    obtain ⟨u, hu, ru⟩ := rv.get hx
    have hel : e < s.heap.objs.size := Heap.lt_size he
    have hil : it < s.heap.objs.size := by obtain ⟨_, q, _⟩ := hit; exact Heap.lt_size q
    have hlt : i < its.toArray.size := by
      have := (List.getElem?_eq_some_iff.mp hu).1
      simpa using this
    have D := Draws.tuple (prog := X.prog) (w := X.w) (A := X.A.in1) (I.ok.hd hc) it a hai its.toArray
    refine wpAny_pyNext_enum_itemD D he ⟨hit, p⟩ hlt hne (by simp [hne, hae.symm]) fun y h' tk hy ho hst hT hsz hk => ?_
    have ey : y = u := by
      have h2 : its[i]? = some y := by simpa using hy
      rw [hu] at h2; exact (Option.some.inj h2).symm
    subst ey
    refine ⟨_, rfl, wpAny_letOwnedTupleGo_enum (s := { s with heap := h', toks := tk + 1 }) ho fun h'' he' sb => ?_⟩
    have hT2 : h''.get? s.heap.objs.size = some { cls := .type "tuple", data := .seq #[.int i tk, y] } := (sb.2 _ (Nat.ne_of_gt hel)).trans hT
    have new : ObjOk X.prog X.w (upd H s.heap.objs.size (.tup [.int (i : Nat), x])) h'' s.heap.objs.size (.tup [.int (i : Nat), x]) :=
      ⟨by show 2 ≤ sizeLine; decide, [.int i tk, y], .cons ⟨_, rfl⟩ (.cons ru .nil), ⟨_, hT2, rfl, _, rfl⟩⟩
    have I1 : Inv X pins σ (upd H s.heap.objs.size (.tup [.int (i : Nat), x])) { s with heap := h'', toks := tk + 1 } :=
      I.turnedNew (ch := [e, it]) (fun b ob hb q => (sb.2 b (fun z => hb (by simp [z]))).trans (hk b ob (fun z => hb (by simp [z])) (fun z => hb (by simp [z])) q)) hf (Nat.le_refl _) new
    refine ⟨.ref s.heap.objs.size, _, I1, rfl, ⟨_, x, rfl, I.hok.fresh (Nat.le_refl _), rfl, fun ys hy' => by rw [I.tuple_inj hy' hq]; exact hx⟩, ⟨⟨y, ?_⟩, hst.1.at fun o q => (sb.2 it (Ne.symm hne)).trans q, hne⟩, fun b hb => ?_⟩
    · have e1 : ((i + 1 : Nat) : Int) = (i : Int) + 1 := by omega
      rw [e1]; exact he'
    · have hb' : b < s.heap.objs.size := by
        have e' : b = e ∨ b = it := by simpa using hb
        rcases e' with z | z
        · rw [z]; exact hel
        · rw [z]; exact hil
      rw [upd_ne (Nat.ne_of_lt hb')]
      exact (hf b hb).1
  done := by
    intro X hP hw hK hc i pins s σ H E I hf st hg
    subst hP hw hK
    obtain ⟨⟨old, he⟩, hit, hne⟩ := st
    obtain ⟨xs, hq, hx⟩ := hg
    obtain ⟨its, rv, p, hz⟩ := I.tuple hq
    obtain ⟨f0, f1, f2, f3, f4, f5⟩ := hf it (by simp)
    have hl := rv.length
    have hT : s.TypeIs (.ref e) "enumerate" := ⟨_, he, rfl⟩
    have D := Draws.tuple (prog := X.prog) (w := X.w) (A := X.A.in1) (I.ok.hd hc) it a hai its.toArray
    unfold pyNext
    refine wpAny_bind (wpAny_attempt (wpAny_callSpecial?_slot (name := Str.ofString "__next__") hT F.slot_enumerate_next
      (wpAny_call_entry F.slot_enumerate_next hT F.entry_enumerate_next ?_ (F.args_enumerate_next_1 _))))
    show wpAny _ _ (field (.ref e) 2 >>= _) _ _ _
    refine wpAny_bind (wpAny_field he rfl (x := .ref it) rfl ?_)
    refine wpAny_bind (wpAny_nextOf_tuple_end (I.ok.hd hc) hit p (by simp; omega) fun h' x he' hx' => ?_)
    obtain ⟨o, ho, hcs⟩ := hx'
    refine wpAny_bind (wpAny_isInstance (T := "StopIteration") (b := true) ⟨o, ho, hcs⟩ isSubtype_stop ?_)
    exact wpAny_pure ⟨rfl, I.turned (t' := s.toks) (fun b o hb q => he' b o hb q) f0 f1 f3 f4 f5⟩
  self := fun A i s Q E st h => let ⟨⟨_, he⟩, _⟩ := st; wpAny_pyIter_enum he h
def iEnumT (K : PySem.W.Frag) (ta : TA) : TI := fun σ H R => ta σ H fun vs H1 => ∃ a xs, vs = [.ref a] ∧ SqT K H1 a xs ∧ R (IteT K a) H1
theorem pi_enumT {X : Cx} {e : Expr} {ta : TA} {p pos tpos : Pos} {elts : List Expr} {kk : Nat} (hg : Gl X "enumerate") (hm : X.mg "enumerate" = none) (ha : PA X [e] ta) (hs : starEach [e] X.env = [(false, eval e X.env)] := by rfl) :
    PI X (.Tuple elts kk tpos) (.Call (.Name "enumerate" p) [e] [] pos) (iEnumT X.K ta) := by
  refine ⟨fun pins s σ H R I h => ?_⟩
  refine Call_ (ld_blt I hg hm boot_enumerate (PyProof.Rows.callWith_type1 (thn (ha.run pos pins s σ H _ I h) fun us s1 ⟨vs, H1, I1, r1, q1⟩ => ?_) hs rfl))
  obtain ⟨a, xs, ex, hq, q⟩ := q1
  subst ex
  cases r1 with
  | cons r rr =>
    cases rr
    cases r
    obtain ⟨its, rv, p', hz⟩ := I1.tuple hq
    have hal : a < s1.heap.objs.size := p'.lt
    refine kk_call_enum (begins_tuple a its.toArray) p' fun h' he hit hsz hk => wpAny_pyIter_enum he ?_
    have I2 : Inv X pins σ H1 { s1 with heap := h' } := I1.kept (t' := s1.toks) hk
    refine ⟨s1.heap.objs.size + 1, [s1.heap.objs.size + 1, s1.heap.objs.size], _, _, H1, rfl, I2, turn_enumT a (s1.heap.objs.size + 1) s1.heap.objs.size (Nat.ne_of_lt (Nat.lt_succ_of_lt hal)) (Nat.ne_of_lt hal), ⟨⟨.none, he⟩, ⟨_, hit, rfl, rfl⟩, Nat.succ_ne_self _⟩, fun b hb => ?_, q⟩
    have e' : b = s1.heap.objs.size + 1 ∨ b = s1.heap.objs.size := by simpa using hb
    have hle : s1.heap.objs.size ≤ b := by
      rcases e' with z | z
      · rw [z]; exact Nat.le_add_right _ _
      · rw [z]; exact Nat.le_refl _
    exact I1.fpOk hle (I1.hok.fresh hle)
/-- the form one uses -/
theorem for_enumT {K : PySem.W.Frag} {a : Addr} {xs : List V} {g : TG} {tb : TS} {D : Ends} {σ : L2.St} {H : Hp} (Pv : Nat → L2.St → Hp → Prop) (h0 : Pv 0 σ H) (hl : ∀ i σ H, i ≤ xs.length → Pv i σ H → SqT K H a xs)
    (hs : ∀ i x σ H T, xs[i]? = some x → Pv i σ H → H T = none → g (.ref T) σ (upd H T (.tup [.int (i : Nat), x])) fun σ2 H2 => tb { D with nx := Pv (i + 1), ct := Pv (i + 1), bk := D.nx } σ2 H2) (hd : ∀ σ H, Pv xs.length σ H → D.nx σ H) :
    ∃ W : Nat → Nat → L2.St → Hp → Prop, (∃ m, W 0 m σ H) ∧ ∀ i m σ H, W i m σ H →
      ((IteT K a).stop i H ∧ D.nx σ H) ∨ ((IteT K a).go i H ∧ ∃ N : L2.St → Hp → Prop, (∀ σ' H', N σ' H' → ∃ m', m' < m ∧ W (i + 1) m' σ' H') ∧ ∀ x H', (IteT K a).yld i H x H' → g x σ H' fun σ2 H2 => tb { D with nx := N, ct := N, bk := D.nx } σ2 H2) := by
  refine ⟨fun i m σ H => m = xs.length - i ∧ i ≤ xs.length ∧ Pv i σ H, ⟨xs.length, by simp, Nat.zero_le _, h0⟩, ?_⟩
  rintro i m σ H ⟨rfl, hi, p⟩
  have q := hl i σ H hi p
  by_cases hlt : i < xs.length
  · refine .inr ⟨⟨xs, xs[i], q, by simp [hlt]⟩, Pv (i + 1), fun σ' H' p' => ⟨xs.length - (i + 1), by omega, rfl, hlt, p'⟩, fun x H' y => ?_⟩
    obtain ⟨T, z, rfl, hT, rfl, hz⟩ := y
    exact hs i z σ H T (hz xs q) p hT
  · have e : i = xs.length := by omega
    subst e
    exact .inl ⟨⟨xs, q, Nat.le_refl _⟩, hd σ H p⟩
end Kk

/-! a set made of a list of texts -/
namespace Kk
open PySem PySem.Spec PyProof.Rows L2
section
variable {prog : Program} {w : World} {A : Around} {R : Result → Shared → Prop} {I : Addr} {fp wr : List Addr} {G : Array GenState → Array GenState → Prop} {n : Nat} {P : Nat → Value → Prop} {St : Nat → Shared → Prop}
/-- at a: the set of the first i texts -/
def SetUp (prog : Program) (w : World) (h : Heap) (a : Addr) (xs : List Str) (i : Nat) : Prop := ∃ c, (c ≤ i ∧ ((xs.take i).Nodup → c = i)) ∧ h.SetOf (mixKind prog w) a (fun k => (xs.take i).any fun x => decide (k = Sum.inr x)) c
theorem SetUp.move {h h' : Heap} {a : Addr} {xs : List Str} {i : Nat} (u : SetUp prog w h a xs i) (k : ∀ o, h.get? a = some o → h'.get? a = some o) : SetUp prog w h' a xs i := by
  obtain ⟨c, hc, z⟩ := u
  exact ⟨c, hc, setOf_at z k⟩
theorem take_any {xs : List Str} {i : Nat} {x : Str} (hx : xs[i]? = some x) (k : Key) : ((xs.take (i + 1)).any fun y => decide (k = Sum.inr y)) = (((xs.take i).any fun y => decide (k = Sum.inr y)) || decide (k = Sum.inr x)) := by
  rw [List.take_add_one, hx, List.any_append]
  simp
theorem update_texts (W : WalksS prog w A.in1 I fp wr G n P St) (S : Addr) (hSf : S ∉ fp) (xs : List Str) (hl : xs.length = n) (hn : n + 1 < scanBound)
    (hv : ∀ i v, P i v → ∃ x t, xs[i]? = some x ∧ v = .str x t) : ∀ (m i : Nat) (s : Shared), n - i = m → i ≤ n → St i s → SetUp prog w s.heap S xs i →
      (∀ s', Moved (S :: wr) G s s' → SetUp prog w s'.heap S xs n → R (.ok (.ret .none)) s') → codeAny (model prog w) A (.builtin "set.update.loop" ⟨[.ref S, .ref I], []⟩) R s := by
  have out : S ∉ wr := fun h => hSf (W.sub _ h)
  have more : ∀ b ∈ wr, b ∈ S :: wr := fun b hb => List.mem_cons_of_mem _ hb
  intro m
  induction m with
  | zero =>
    intro i s hm hi st U q
    obtain rfl : i = n := by omega
    refine codeAny_builtin PyProof.Rows.F.entry_set_update_loop ?_
    rw [Around.under_plainId PyProof.Rows.F.plain_set_update_loop _]
    show wpAny _ A.in1 (pyNext (.ref I) >>= _) _ _ s
    exact wpAny_bind (W.done s _ _ st fun s' hm' => wpAny_pure (q s' (hm'.mono more) (U.move fun o => hm'.heap S o out)))
  | succ m ih =>
    intro i s hm hi st U q
    have lt : i < n := by omega
    refine codeAny_builtin PyProof.Rows.F.entry_set_update_loop ?_
    rw [Around.under_plainId PyProof.Rows.F.plain_set_update_loop _]
    show wpAny _ A.in1 (pyNext (.ref I) >>= _) _ _ s
    refine wpAny_bind (W.item i s _ _ lt st fun v s' hP st' hm' => ?_)
    obtain ⟨x, t, hx, rfl⟩ := hv i v hP
    obtain ⟨c, hc, U'⟩ := U.move (h' := s'.heap) fun o => hm'.heap S o out
    show wpAny _ A.in1 (holding [Value.str x t] (setAdd S (.str x t)) >>= _) _ _ s'
    unfold setAdd
    refine wpAny_bind (wpAny_holding (wpAny_holding (wpAny_bind ((mixKind prog w).pyHash (k := Sum.inr x) (mixKind_str _ _ _ _) ?_))))
    refine wpAny_setAddHashed_of (knd := mixKind prog w) (s := { s' with toks := s'.toks + 1 }) (mixKind_str _ _ _ _) rfl U' (by have := hc.1; omega) fun h' sb U2 => ?_
    refine wpAny_pure ⟨plainId_quiet PyProof.Rows.F.plain_set_update_loop _, ih (i + 1) _ (by omega) lt (W.frame _ s' _ _ st' (Nat.le_succ _) fun b hb o e => (sb.2 b fun z => hSf (z ▸ hb)).trans e) ?_ fun s'' hm2 U3 => ?_⟩
    · have e : (fun k : Key => (xs.take (i + 1)).any fun y => decide (k = Sum.inr y)) = fun k => (((xs.take i).any fun y => decide (k = Sum.inr y)) || decide (k = Sum.inr x)) := funext (take_any hx)
      refine ⟨_, ⟨?_, fun nd => ?_⟩, by rw [e]; exact U2⟩
      · have := hc.1
        split <;> omega
      · have e9 : xs.take (i + 1) = xs.take i ++ [x] := by rw [List.take_add_one, hx]; rfl
        rw [e9] at nd
        have nd2 := List.nodup_append.mp nd
        have no : ((xs.take i).any fun y => decide ((Sum.inr x : Key) = Sum.inr y)) = false := by
          rw [List.any_eq_false]
          intro y hy q
          have q2 := of_decide_eq_true q
          exact nd2.2.2 y hy x (List.mem_singleton.mpr rfl) (Sum.inr.inj q2).symm
        rw [no, if_neg (by decide), hc.2 nd2.1]
    · exact q s'' (Moved.trans W.gtrans ((hm'.mono more).then_heap (Nat.le_succ _) fun b o hb e => (sb.2 b fun z => hb (by rw [z]; exact List.mem_cons_self)).trans e) hm2) U3
end
section
variable {prog : Program} {w : World} {A : Around} {E : Value → Shared → Prop} {s : Shared}
abbrev setOb (led : Bool) : Obj := { cls := .type "set", dict := none, data := .set #[] 0 (.fresh 0 0 led) }
set_option maxHeartbeats 3200000 in
theorem call_set_texts {l : Addr} {items : Array Value} {xs : List Str} {Q : Value → Shared → Prop} (hh : A.handled = none) (hl : s.heap.IsList l items) (hi : StrsAre items.toList xs) (hb : xs.length + 1 < scanBound)
    (h : ∀ (h' : Heap) (tk : Nat), SetUp prog w h' s.heap.objs.size xs xs.length → (∀ b o, s.heap.get? b = some o → h'.get? b = some o) → Q (.ref s.heap.objs.size) { s with heap := h', toks := tk }) :
    wpAny (model prog w) A (call (.type "set") [.ref l]) Q E s := by
  obtain ⟨c, tl, hmro⟩ := PySem.F.called_set.mro
  have hmade := PySem.F.called_set.made
  have hsub := PySem.F.called_set.sub
  have h1 := PySem.F.called_set.notType
  have h2 := PySem.F.called_set.canCreate
  have hct := PySem.F.typeCall_set_1 (.ref l)
  have hlen : items.size = xs.length := by rw [← Array.length_toList, StrsAre.len_eq hi]
  refine wpAny_call (codeAny_of_tree (wpAny_pure ⟨Code.quiet_builtin _ (by decide +kernel), codeAny_builtin PySem.F.entry_type_call ?_⟩))
  rw [Around.under_plain (weight_type_call_type "set" [.ref l] []) rfl]
  repeat (any_goals (first | assumption | wp_step))
  refine codeAny_mono (code_set_new_1 (.ref l) (E := E) (Q₁ := fun obj s₁ => ∃ led : Bool, obj = .ref s.heap.objs.size ∧ s₁ = { s with heap := s.heap.push { cls := .type "set", dict := none, data := .set #[] 0 (.fresh 0 0 led) } }) fun led => ⟨led, rfl, rfl⟩) fun r s₁ hr => ?_
  cases r with
  | error e => exact hr
  | ok fl =>
    cases fl with
    | next => exact hr.elim
    | brk => exact hr.elim
    | cont => exact hr.elim
    | ret obj =>
      obtain ⟨led, rfl, rfl⟩ := hr
      have hS : (s.heap.push (setOb led)).get? s.heap.objs.size = some (setOb led) := Heap.get?_push_size _ rfl
      have hT : Shared.TypeIs { s with heap := s.heap.push (setOb led) } (.ref s.heap.objs.size) "set" := ⟨_, hS, rfl⟩
      have hli := PySem.F.called_set.init.lookup
      have hbi := PySem.F.called_set.init.bind (.ref s.heap.objs.size)
      repeat (any_goals (first | assumption | wp_step))
      refine codeAny_mono (codeAny_call_builtin (R := wants (fun r s₂ => r = .none ∧ ∃ h' tk, s₂ = { s with heap := h', toks := tk } ∧ SetUp prog w h' s.heap.objs.size xs xs.length ∧ (∀ b o, s.heap.get? b = some o → h'.get? b = some o)) E)
        PySem.F.called_set.init.plain PySem.F.entry_set_init (check_set_init_1 hT ?_)) fun r₂ s₂ hr₂ => ?_
      · obtain ⟨ol, hol, hcl, nl, hdl⟩ := hl
        obtain ⟨ocls, odict, odata, oslots⟩ := ol
        simp only at hcl hdl
        subst hcl; subst hdl
        have hlS : l < s.heap.objs.size := Heap.lt_size hol
        have hol' := Heap.get?_push_of_some (h := s.heap) (setOb led) hol
        have hsls := PySem.F.sub_list_set
        have hslf := PySem.F.sub_list_frozenset
        have hne : (Value.type "list" == Value.type "dict") = false := by decide
        have hl1 : (s.heap.push (setOb led)).IsList l items := ⟨_, hol', rfl, nl, rfl⟩
        unfold Builtin.«set.__init__» noKeywords Builtin.Frozenset.updateFrom
        generalize hPI : pyIter = PI
        wp_walk
        subst hPI
        refine wpAny_pyIter_list (s := { s with heap := s.heap.push (setOb led) }) hl1 ?_
        refine wpAny_bind (wpAny_runValue ?_)
        have hneI : l ≠ (s.heap.push (setOb led)).objs.size := by rw [Heap.size_push]; exact Nat.ne_of_lt (Nat.lt_succ_of_lt hlS)
        have hSf : s.heap.objs.size ∉ [(s.heap.push (setOb led)).objs.size, l] := by
          rw [Heap.size_push]
          intro hm
          rcases List.mem_cons.mp hm with z | z
          · exact Nat.ne_of_lt (Nat.lt_succ_self _) z
          · exact Nat.ne_of_gt hlS (List.mem_singleton.mp z)
        have hval : ∀ (i : Nat) (v : Value), items[i]? = some v → ∃ x t, xs[i]? = some x ∧ v = .str x t := fun i v hv => by
          have hv' : items.toList[i]? = some v := by rw [Array.getElem?_toList]; exact hv
          obtain ⟨t, e⟩ := SS.strs_at hi i v hv'
          have lt : i < xs.length := by
            have := (List.getElem?_eq_some_iff.mp hv').1
            rw [Array.length_toList, hlen] at this; exact this
          exact ⟨xs[i], t, List.getElem?_eq_getElem lt, by rw [e, List.getD_eq_getElem?_getD, List.getElem?_eq_getElem lt]; rfl⟩
        have hS2 := Heap.get?_push_of_some (h := s.heap.push (setOb led)) { cls := .type "list_iterator", data := .fields #[.ref l, .int 0 0] } hS
        refine update_texts ((Walks.list (by simp [hh]) _ l hneI items).toS) s.heap.objs.size hSf xs hlen.symm (by omega) hval (items.size - 0) 0 _ rfl (Nat.zero_le _) ⟨⟨_, Heap.get?_push_size _ rfl, rfl, rfl⟩, hl1.push _⟩ ⟨0, ⟨Nat.le_refl _, fun _ => rfl⟩, ?_⟩ fun s' hm U => ?_
        · exact ⟨_, #[], 0, _, hS2, ⟨rfl, rfl, rfl⟩, rfl, (fun e he => by simp at he), (fun k => by simp), (by decide), (by rfl), rfl⟩
        · obtain ⟨h', g', d', tk', os'⟩ := s'
          obtain rfl : g' = s.gens := hm.gens
          obtain rfl : d' = s.drawn := hm.drawn
          obtain rfl : os' = s.os := hm.os
          refine wpAny_pure (wpAny_pure ⟨rfl, h', tk', rfl, by rw [← hlen]; exact U, fun b o e => ?_⟩)
          have hb' := Heap.lt_size e
          refine hm.heap b o (fun z => ?_) (Heap.get?_push_of_some _ (Heap.get?_push_of_some _ e))
          rw [Heap.size_push] at z
          rcases List.mem_cons.mp z with z | z
          · exact Nat.ne_of_lt hb' z
          · exact Nat.ne_of_lt (Nat.lt_succ_of_lt hb') (List.mem_singleton.mp z)
      · cases r₂ with
        | error e => exact hr₂
        | ok fl₂ =>
          cases fl₂ with
          | ret r =>
            obtain ⟨rfl, h', tk, rfl, U, hk'⟩ := hr₂
            repeat (any_goals (first | assumption | wp_step))
            exact h _ _ U hk'
          | next => exact hr₂.elim
          | brk => exact hr₂.elim
          | cont => exact hr₂.elim
end
/-- set(xs), xs a list of texts; how many there are where none stands twice -/
def rSetTxN (K : PySem.W.Frag) (P : Program) (w : World) : List V → Hp → VK → Prop := fun vs H Q => ∃ (l : Addr) (xs : List Str), vs = [.ref l] ∧ SqL K H l (xs.map V.str) ∧ xs.length ≤ 4000 ∧
  ∀ a c, H a = none → (xs.Nodup → c = xs.length) → Q (.ref a) (upd H a (SetK P w a (fun k => xs.any fun x => decide (k = Sum.inr x)) c))
theorem call_setTxN {X : Cx} (hc : X.calm = true) : CallR X (.type "set") (rSetTxN X.K X.prog X.w) := by
  intro pins s σ H vs us Q I r h
  obtain ⟨l, xs, rfl, hl, hn, q⟩ := h
  rw [Vals.ref1 r]
  obtain ⟨its, rv, pl, hz⟩ := I.list hl
  have fresh : H s.heap.objs.size = none := I.hok.fresh (Nat.le_refl _)
  refine call_set_texts (xs := xs) (I.ok.hd hc) pl.isList (by simpa using Vals.strs rv) (by unfold scanBound; omega) fun h' tk U k => ?_
  obtain ⟨c, hcn, U⟩ := U
  rw [List.take_length] at U hcn
  exact ⟨.ref s.heap.objs.size, _, I.laid (t' := tk) k (Nat.le_refl _) (setK_new U), rfl, q _ c fresh hcn.2⟩
/-- set(xs), xs a list of texts -/
def rSetTx (K : PySem.W.Frag) (P : Program) (w : World) : List V → Hp → VK → Prop := fun vs H Q => ∃ (l : Addr) (xs : List Str), vs = [.ref l] ∧ SqL K H l (xs.map V.str) ∧ xs.length ≤ 4000 ∧
  ∀ a c, H a = none → Q (.ref a) (upd H a (SetK P w a (fun k => xs.any fun x => decide (k = Sum.inr x)) c))
theorem call_setTx {X : Cx} (hc : X.calm = true) : CallR X (.type "set") (rSetTx X.K X.prog X.w) := by
  intro pins s σ H vs us Q I r h
  obtain ⟨l, xs, e, hl, hn, q⟩ := h
  exact call_setTxN hc pins s σ H vs us Q I r ⟨l, xs, e, hl, hn, fun a c na _ => q a c na⟩
end Kk

set_option maxHeartbeats 2000000
/-! tuples whose object is known to have no dict of its own: their methods can be called -/
namespace Kk
open PySem PySem.Spec PyProof.Rows L2
def TupF (H : Hp) (a : Addr) (xs : List V) : Prop := ∃ o, H a = some (.frz o (.tup xs)) ∧ o.dict = none
theorem TupF.sq {K : PySem.W.Frag} {H : Hp} {a : Addr} {xs : List V} (h : TupF H a xs) : SqT K H a xs := by
  obtain ⟨o, h, _⟩ := h
  exact .inl (.inr ⟨o, h⟩)
theorem TupF.same {H H' : Hp} {a : Addr} {xs : List V} (h : TupF H a xs) (k : Same H H') : TupF H' a xs := by
  obtain ⟨o, h, d⟩ := h
  exact ⟨o, k _ _ h, d⟩
theorem TupF.keep {p g : Addr} {H H' : Hp} {a : Addr} {xs : List V} (h : TupF H a xs) (k : Keep p g H H') (h1 : a ≠ p) (h2 : a ≠ g) : TupF H' a xs := by
  obtain ⟨o, h, d⟩ := h
  exact ⟨o, k _ _ h h1 h2, d⟩
theorem TupF.ne_lst {H : Hp} {a b : Addr} {xs ys : List V} (h : TupF H a xs) (g : H b = some (.lst ys)) : a ≠ b := by
  obtain ⟨o, h, _⟩ := h
  exact ne_of h g (by intro q; cases q)
theorem TupF.new {H : Hp} {o : Obj} {a : Addr} {xs : List V} (d : o.dict = none) : TupF (upd H a (.frz o (.tup xs))) a xs := ⟨o, upd_same, d⟩
section
variable {X : Cx}
/-- tuple(xs), xs a list -/
theorem call_tupleF : CallR X (.type "tuple") (fun xs H Q => ∃ p ys, xs = [.ref p] ∧ SqL X.K H p ys ∧ ∀ l o, H l = none → o.dict = none → Q (.ref l) (upd H l (.frz o (.tup ys)))) := by
  intro pins s σ H xs us Q I r h
  obtain ⟨p, ys, rfl, hq, q⟩ := h
  rw [Vals.ref1 r]
  obtain ⟨its, r', pl, hz⟩ := I.list hq
  have hlen := r'.length
  refine call_tuple_list pl.isList (fun h' kp => ?_) (by simp only [List.size_toArray] <;> omega)
  have I1 : Inv X pins σ H { s with heap := h' } := I.kept (t' := s.toks) kp
  exact ⟨.ref h'.objs.size, _, I1.laid (t' := s.toks) (o := .frz { cls := .type "tuple", data := .seq its.toArray } (.tup ys)) (fun b o e => Heap.get?_push_of_some _ e) (Nat.le_refl _) ⟨Heap.get?_push_size _ rfl, hz, its, r', IsTup.new _ _⟩, rfl, q _ _ (I1.hok.fresh (Nat.le_refl _)) rfl⟩
/-- a written tuple -/
def tTupF (t : TA) : TE := fun σ H Q => t σ H fun xs H1 => xs.length ≤ sizeLine ∧ ∀ p o, H1 p = none → o.dict = none → Q (.ref p) (upd H1 p (.frz o (.tup xs)))
theorem pe_tupF {es : List Expr} {t : TA} {x1} {pos : Pos} (h : PA X es t) : PE X (.Tuple es x1 pos) (tTupF t) := by
  refine ⟨fun pins s σ H Q I hq => ?_⟩
  refine wpAny_Tuple_spliced (thn (h.run pos pins s σ H _ I hq) fun us s1 ⟨xs, H1, I1, r, z, q⟩ => ⟨by rw [← r.length]; exact z, ?_⟩)
  exact ⟨.ref s1.heap.objs.size, _, I1.laid (t' := s1.toks) (o := .frz { cls := .type "tuple", data := .seq us.toArray } (.tup xs)) (fun b u e => Heap.get?_push_of_some _ e) (Nat.le_refl _) ⟨Heap.get?_push_size _ rfl, z, us, r, ⟨_, Heap.get?_push_size _ rfl, rfl, _, rfl⟩⟩, rfl, q _ _ (I1.hok.fresh (Nat.le_refl _)) rfl⟩
end
section
variable {prog : Program} {w : World} {A : Around} {E : Value → Shared → Prop} {s : Shared}
open HT in
/-- the whole of a tuple is the tuple itself -/
theorem tup_whole {t sl : Addr} {items : Array Value} {vl vu : Value} {lo hi : Option Int} {Q : Value → Shared → Prop} (ht : IsTup s.heap t items) (hs : s.heap.IsSliceOf sl vl vu .none) (pl : IsPart vl lo) (pu : IsPart vu hi)
    (hw : sIx items.size 0 lo = 0 ∧ sIx items.size items.size hi = items.size) (h : Q (.ref t) s) : wpAny (model prog w) A (getItem (.ref t) (.ref sl)) Q E s := by
  obtain ⟨os, hos, hcs, hds⟩ := id hs
  have hTs : s.TypeIs (.ref sl) "slice" := ⟨os, hos, hcs⟩
  obtain ⟨ot, hot, hct, nt, hdt⟩ := id ht
  have hTt : s.TypeIs (.ref t) "tuple" := ⟨ot, hot, hct⟩
  unfold getItem
  try with_reducible refine wpAny_holding ?_
  first | refine wpAny_bind (wpAny_pure ?_) | skip
  refine wpAny_bind (wpAny_sequenceKey ht.typeIs (by decide) ?_)
  refine wpAny_bind (wpAny_callSpecial?_slot (name := Str.ofString "__getitem__") ht.typeIs PyProof.Rows.slot_tuple_getitem
    (wpAny_call_entry PyProof.Rows.slot_tuple_getitem ht.typeIs entry_tuple_getitem ?_ (args_tuple_getitem _ _)))
  show wpAny _ _ (Builtin.Tuple.tupleItemsOf (.ref t) >>= _) _ _ s
  refine wpAny_bind (tupleItemsOf_ ht (wpAny_bind (wpAny_typeOf hTs ?_)))
  rw [if_pos (by decide)]
  refine wpAny_bind (sliceApplied_gen hs pl pu ?_)
  have yes : (((sIx items.size 0 lo : Nat) : Int) == 0 && (1 : Int) == 1 && (sIx items.size items.size hi - sIx items.size 0 lo) == items.size) = true := by
    rw [hw.1, hw.2]; simp
  show wpAny _ _ (if (((sIx items.size 0 lo : Nat) : Int) == 0 && (1 : Int) == 1 && (sIx items.size items.size hi - sIx items.size 0 lo) == items.size) = true then _ else _) _ _ s
  rw [if_pos yes]
  unfold Builtin.Tuple.tupleIsExact
  refine wpAny_bind (wpAny_bind (wpAny_typeOf hTt (wpAny_pure ?_)))
  rw [if_pos (by decide)]
  exact wpAny_bind (wpAny_rule (wpAny_pure ⟨_, rfl, wpAny_pure h⟩))
end
section
variable {X : Cx}
/-- t[lo:hi]: t itself where that is the whole -/
theorem sl_tupF : SlR X (fun x lo hi H Q => ∃ a xs, x = .ref a ∧ SqT X.K H a xs ∧ ((HT.sIx xs.length 0 lo = 0 ∧ HT.sIx xs.length xs.length hi = xs.length) → Q (.ref a) H) ∧
    (¬ (HT.sIx xs.length 0 lo = 0 ∧ HT.sIx xs.length xs.length hi = xs.length) → ∀ p o, H p = none → o.dict = none → Q (.ref p) (upd H p (.frz o (.tup (cutV xs lo hi)))))) := by
  intro pins s σ H x v vl vu lo hi sl Q I rx hs pl pu h
  obtain ⟨a, xs, rfl, hx, q1, q2⟩ := h
  cases rx
  obtain ⟨its, r, ht, hz⟩ := I.tuple hx
  have hlen : its.toArray.size = xs.length := by rw [List.size_toArray]; exact r.length.symm
  refine ⟨"tuple", _, PyProof.Rows.slot_tuple_getitem.lookup, ht.typeIs, ?_⟩
  by_cases hw : HT.sIx xs.length 0 lo = 0 ∧ HT.sIx xs.length xs.length hi = xs.length
  · exact tup_whole ht hs pl pu (by rw [hlen]; exact hw) ⟨.ref a, H, I, rfl, q1 hw⟩
  · refine HT.getItem_tuple_cut ht hs pl pu (by rw [hlen]; exact hw) ?_ (by rw [hlen]; exact hz)
    rw [hlen]
    refine ⟨.ref s.heap.objs.size, _, I.laid (t' := s.toks) (o := .frz { cls := .type "tuple", data := .seq ((its.drop (HT.sIx xs.length 0 lo)).take (HT.sIx xs.length xs.length hi - HT.sIx xs.length 0 lo)).toArray } (.tup (cutV xs lo hi)))
      (fun b ob q => Heap.get?_push_of_some _ q) (Nat.le_refl _) ⟨Heap.get?_push_size _ rfl, Nat.le_trans (cutV_length xs lo hi) hz, _, (r.drop (HT.sIx xs.length 0 lo)).take (HT.sIx xs.length xs.length hi - HT.sIx xs.length 0 lo), IsTup.new _ _⟩, rfl, q2 hw _ _ (I.hok.fresh (Nat.le_refl _)) rfl⟩
/-- t.m(e, ..), t such a tuple -/
def tTM (r : V → List V → Hp → VK → Prop) (to : TE) (t : TA) : TE := fun σ H Q => to σ H fun x H1 => (∃ a xs, x = .ref a ∧ TupF H1 a xs) ∧ t σ H1 fun xs H2 => r x xs H2 Q
theorem pe_tm {o e : Expr} {es : List Expr} {to : TE} {t : TA} {name : Str} {apos cpos : Pos} {id : String} {r : V → List V → Hp → VK → Prop} (slot : Slot "tuple" name id) (hty : typeOf (.builtin id) = pure (.type "method_descriptor")) (hm : MtR X id r) (ho : PE X o to) (ha : PA X (e :: es) t)
    (hbase : attributeBase o name X.env (eval o X.env) = eval o X.env := by rfl)
    (hfew : ((backTo cpos (starEach (e :: es) X.env)).all (fun x => !x.1) && (backToKw cpos (keywordEach [] X.env)).all (fun x => x.1.isSome)
      && decide ((e :: es).length + ([] : List Keyword).length + (if ([] : List Keyword).isEmpty then 0 else 1) < 30)) = true := by rfl)
    (hline : (apos.endLine == cpos.line) = true := by rfl) (hs : starEach (e :: es) X.env = (false, eval e X.env) :: starEach es X.env := by rfl) (hplain : (backTo cpos (starEach es X.env)).any (·.1) = false := by rfl) :
    PE X (.Call (.Attribute o name apos) (e :: es) [] cpos) (tTM r to t) := by
  refine ⟨fun pins s σ H Q I h => ?_⟩
  refine wpAny_Call_method_late hbase hfew hline rfl (thn (ho.run pins s σ H _ I h) fun v s1 ⟨x, H1, I1, r1, ty, q1⟩ => ?_)
  obtain ⟨a, xs, rfl, ob, hob, hd⟩ := ty
  obtain rfl : v = Value.ref a := r1
  have ok : ObjOk X.prog X.w H1 s1.heap a (.frz ob (.tup xs)) := I1.hok a _ hob
  obtain ⟨g1, _, its, rv, o2, g2, c2, d2⟩ := ok
  obtain rfl : ob = o2 := Option.some.inj (g1.symm.trans g2)
  refine ⟨"tuple", id, PySem.F.plainAttrs_tuple, slot, hty, ⟨ob, g1, c2⟩, fun b eb => ?_, ?_⟩
  · cases eb
    exact ⟨ob, g1, hd⟩
  have hA := ha.run cpos pins s1 σ H1 _ I1 q1
  rw [hs] at hA ⊢
  refine Calls.callWith_builtin (by show (false || (backTo cpos (starEach es X.env)).any (·.1)) = false; rw [hplain] <;> rfl) (Calls.evalArgs_plain ?_)
  exact thn hA fun us s2 ⟨vs, H2, I2, r2, q2⟩ => hm pins s2 σ H2 (.ref a) vs (.ref a) us Q I2 rfl r2 q2
/-- t.count(z), t a tuple of texts -/
theorem mt_tcount : MtR X "tuple.count" (fun x xs H Q => ∃ p, ∃ ys : List Str, ∃ z, x = .ref p ∧ xs = [.str z] ∧ SqT X.K H p (ys.map V.str) ∧ Q (.int ((ys.countP fun y => y == z : Nat) : Int)) H) := by
  intro pins s σ H x xs v us Q I rx rs h
  obtain ⟨p, ys, z, rfl, rfl, hq, q⟩ := h
  cases rx
  obtain ⟨u, rfl, t, rfl⟩ := vals1 rs
  obtain ⟨its, r, pl, hz⟩ := I.tuple hq
  obtain ⟨⟨cls, dd, dt, sl⟩, ho, hc, n, hd⟩ := pl
  simp only at hc hd
  subst hc
  subst hd
  have ec : its.countP (eqU (.str z)) = ys.countP fun y => y == z := by
    clear hq q hz ho
    induction ys generalizing its with
    | nil => cases r; rfl
    | cons y ys ih =>
      cases r with
      | cons r1 r2 =>
        obtain ⟨t', rfl⟩ := r1
        rw [List.countP_cons, List.countP_cons, ih _ r2]
        rfl
  refine call_meets PySem.F.slot_tuple_count ⟨_, ho, rfl⟩ PySem.F.entry_tuple_count (PySem.F.args_tuple_count_2 _ _) (SeqAt.tuple_countAt p its.toArray n dd sl (.str z t) (eqU (.str z)))
    ⟨ho, fun w hw => mem_eqAt (x := .str z) ⟨t, rfl⟩ rfl r (flat_strs ys) w (by simpa using hw), ?_⟩
  show EP X pins σ Q (.int ((its.countP (eqU (.str z)) : Nat) : Int) s.toks) { s with toks := s.toks + 1 }
  rw [ec]
  exact ⟨.int _, H, I.tok _, ⟨_, rfl⟩, q⟩
end
end Kk

set_option maxHeartbeats 2000000
/-! t.index(x, start), and tuples put together or cut, whose objects have no dict of their own -/
namespace Kk
open PySem PySem.Spec PyProof.Rows L2
section
variable {X : Cx}
/-- t.index(z, i): the first place from i on -/
theorem mt_tup_index3 : MtR X "tuple.index" (fun x xs H Q => ∃ p, ∃ ys : List Str, ∃ z, ∃ i j : Nat, x = .ref p ∧ xs = [.str z, .int (i : Nat)] ∧ SqT X.K H p (ys.map V.str) ∧ i ≤ j ∧ ys[j]? = some z ∧ (∀ m, i ≤ m → m < j → ys[m]? ≠ some z) ∧ Q (.int (j : Nat)) H) := by
  intro pins s σ H x xs v us Q I rx rs h
  obtain ⟨p, ys, z, i, j, rfl, rfl, hq, hij, hy, hno, q⟩ := h
  cases rx
  cases rs with
  | cons r1 rs =>
  cases rs with
  | cons r2 rs =>
  cases rs
  obtain ⟨t, rfl⟩ := r1
  obtain ⟨t2, rfl⟩ := r2
  obtain ⟨its, r, pl, hz⟩ := I.tuple hq
  obtain ⟨⟨cls, dd, dt, sl⟩, ho, hc, n, hd⟩ := pl
  simp only at hc hd
  subst hc
  subst hd
  have hl : its.toArray.size = ys.length := by rw [List.size_toArray, ← r.length, List.length_map]
  have hj : j < its.toArray.size := by rw [hl]; exact (List.getElem?_eq_some_iff.mp hy).1
  have at' : ∀ (m : Nat) (hm : m < its.toArray.size), ∃ y t', ys[m]? = some y ∧ its.toArray[m] = Value.str y t' := fun m hm => by
    have hm' : m < ys.length := by rw [← hl]; exact hm
    obtain ⟨w, hw, t', hw'⟩ := r.get (i := m) (x := .str ys[m]) (by simp [hm'])
    refine ⟨ys[m], t', List.getElem?_eq_getElem hm', ?_⟩
    have e := (List.getElem?_eq_some_iff.mp hw).2
    rw [← hw', ← e]
    simp
  refine call_meets PySem.F.slot_tuple_index ⟨_, ho, rfl⟩ PySem.F.entry_tuple_index (PySem.F.args_tuple_index_3 _ _ _) (PySem.SeqAt.tuple_index3_found p its.toArray n dd sl (.str z t) (fun m => match its.toArray[m]? with | some w => eqU (.str z) w | none => false) (i : Int) t2 j hj (by rw [PySem.SeqAt.searchFrom_nat]; exact hij) hj ?_ ?_)
    ⟨ho, fun m hm => ?_, ⟨.int (j : Nat), H, I.tok _, ⟨_, rfl⟩, q⟩⟩
  · obtain ⟨y, t', h1, h2⟩ := at' j hj
    rw [hy] at h1
    cases h1
    show (match its.toArray[j]? with | some w => eqU (.str z) w | none => false) = true
    rw [Array.getElem?_eq_getElem hj, h2]
    show (z == z) = true
    exact beq_self_eq_true z
  · intro m hm hi hmj
    rw [PySem.SeqAt.searchFrom_nat] at hi
    obtain ⟨y, t', h1, h2⟩ := at' m hm
    show (match its.toArray[m]? with | some w => eqU (.str z) w | none => false) = false
    rw [Array.getElem?_eq_getElem hm, h2]
    show (y == z) = false
    exact beq_eq_false_iff_ne.mpr fun e => hno m hi hmj (e ▸ h1)
  · show PySem.SeqAt.EqAt _ _ its.toArray[m] (.str z t) (match its.toArray[m]? with | some w => eqU (.str z) w | none => false)
    rw [Array.getElem?_eq_getElem hm]
    exact mem_eqAt (x := .str z) ⟨t, rfl⟩ rfl r (flat_strs ys) _ (by simp)
/-- t + u -/
def rCatF (K : PySem.W.Frag) : R2 := fun x y H Q => ∃ a b xs ys, x = .ref a ∧ y = .ref b ∧ SqT K H a xs ∧ SqT K H b ys ∧ xs.length + ys.length ≤ sizeLine ∧
  (xs = [] → Q (.ref b) H) ∧ (xs ≠ [] → ys = [] → Q (.ref a) H) ∧ (xs ≠ [] → ys ≠ [] → ∀ p o, H p = none → o.dict = none → Q (.ref p) (upd H p (.frz o (.tup (xs ++ ys)))))
theorem op_catF : OpR X (binaryOp .Add) (rCatF X.K) := by
  intro pins s σ H x y v u Q I rx ry h
  obtain ⟨a, b, xs, ys, rfl, rfl, ha, hb, hz, q0, q1, q2⟩ := h
  cases rx
  cases ry
  obtain ⟨its, r1, p1, _⟩ := I.tuple ha
  obtain ⟨its2, r2, p2, _⟩ := I.tuple hb
  by_cases hx : xs = []
  · subst hx
    cases r1
    exact cat_tup0 p1 p2 ⟨.ref b, H, I, rfl, q0 rfl⟩
  · refine HT.cat_tup p1 p2 (fun z => hx (r1.nil_iff.mp z)) (fun z => ⟨.ref a, H, I, rfl, q1 hx (r2.nil_iff.mp z)⟩) (fun z => ?_) (by rw [← r1.length, ← r2.length]; exact hz)
    refine ⟨.ref s.heap.objs.size, _, I.laid (t' := s.toks) (o := .frz { cls := .type "tuple", data := .seq (its ++ its2).toArray } (.tup (xs ++ ys))) (fun b ob q => Heap.get?_push_of_some _ q) (Nat.le_refl _) ?_, rfl, q2 hx (fun w => z (r2.nil_iff.mpr w)) _ _ (I.hok.fresh (Nat.le_refl _)) rfl⟩
    exact ⟨Heap.get?_push_size _ rfl, by rw [List.length_append]; exact hz, _, r1.append r2, IsTup.new _ _⟩
theorem catF_of {K : PySem.W.Frag} {H : Hp} {a b : Addr} {xs ys : List V} {Q : VK} (ha : TupF H a xs) (hb : TupF H b ys) (hl : xs.length + ys.length ≤ 100000) (k : ∀ H' r, Same H H' → TupF H' r (xs ++ ys) → Q (.ref r) H') : rCatF K (.ref a) (.ref b) H Q := by
  refine ⟨a, b, xs, ys, rfl, rfl, ha.sq, hb.sq, Nat.le_trans hl (by decide), fun e => ?_, fun _ e => ?_, fun _ _ p o np ho => k _ p (same_upd np) (TupF.new ho)⟩
  · exact k H b (Same.refl H) (by rw [e]; exact hb)
  · exact k H a (Same.refl H) (by rw [e, List.append_nil]; exact ha)
def rSlF (K : PySem.W.Frag) : V → Option Int → Option Int → Hp → VK → Prop := fun x lo hi H Q => ∃ a xs, x = .ref a ∧ SqT K H a xs ∧ ((HT.sIx xs.length 0 lo = 0 ∧ HT.sIx xs.length xs.length hi = xs.length) → Q (.ref a) H) ∧
    (¬ (HT.sIx xs.length 0 lo = 0 ∧ HT.sIx xs.length xs.length hi = xs.length) → ∀ p o, H p = none → o.dict = none → Q (.ref p) (upd H p (.frz o (.tup (cutV xs lo hi)))))
theorem sl_tupG : SlR X (rSlF X.K) := sl_tupF
theorem cutF_of {K : PySem.W.Frag} {H : Hp} {a : Addr} {xs : List V} {lo hi : Option Int} {Q : VK} (ha : TupF H a xs) (k : ∀ H' r, Same H H' → TupF H' r (cutV xs lo hi) → Q (.ref r) H') : rSlF K (.ref a) lo hi H Q := by
  refine ⟨a, xs, rfl, ha.sq, fun w => k H a (Same.refl H) ?_, fun _ p o np ho => k _ p (same_upd np) (TupF.new ho)⟩
  have e : cutV xs lo hi = xs := by
    unfold cutV
    rw [w.1, w.2, List.drop_zero, Nat.sub_zero, List.take_length]
  rw [e]
  exact ha
end
end Kk

set_option maxHeartbeats 2000000
/-! a word between a test, or an expression, and what follows -/
namespace Kk
open PySem PySem.Spec PyProof.Rows L2
section
variable {X : Cx} {e : Expr}
def tMidT (t : TT) : TT := fun σ H Q => ∃ Mid : Bool → Hp → Prop, t σ H Mid ∧ ∀ b H', Mid b H' → Q b H'
theorem pt_mid {t : TT} (h : PT X e t) : PT X e (tMidT t) := by
  refine ⟨fun pins s σ H Q I q => ?_⟩
  obtain ⟨Mid, q1, q2⟩ := q
  exact thn (h.run pins s σ H Mid I q1) fun b s1 ⟨H1, I1, q3⟩ => ⟨H1, I1, q2 _ _ q3⟩
def tMidE (t : TE) : TE := fun σ H Q => ∃ Mid : VK, t σ H Mid ∧ ∀ v H', Mid v H' → Q v H'
theorem pe_mid {t : TE} (h : PE X e t) : PE X e (tMidE t) := by
  refine ⟨fun pins s σ H Q I q => ?_⟩
  obtain ⟨Mid, q1, q2⟩ := q
  exact thn (h.run pins s σ H Mid I q1) fun v s1 ⟨x, H1, I1, r1, q3⟩ => ⟨x, H1, I1, r1, q2 _ _ q3⟩
end
theorem cutV_take {α : Type} {f : α → V} {l : List α} {j : Nat} (h : j ≤ l.length) : cutV (l.map f) none (some (j : Int)) = (l.take j).map f := by
  unfold cutV
  rw [HT.sIx_none, HT.sIx_nat, List.length_map, Nat.min_eq_left h, Nat.sub_zero, List.drop_zero, ← List.map_take]
theorem cutV_drop {α : Type} {f : α → V} {l : List α} {i : Nat} (h : i ≤ l.length) : cutV (l.map f) (some (i : Int)) none = (l.drop i).map f := by
  unfold cutV
  rw [HT.sIx_none, HT.sIx_nat, List.length_map, Nat.min_eq_left h, ← List.map_drop, ← List.map_take, List.take_of_length_le (by rw [List.length_drop]; omega)]
/-- all but p, g and u is as it was -/
def Ke (p g u : Addr) (H H' : Hp) : Prop := ∀ b o, H b = some o → b ≠ p → b ≠ g → b ≠ u → H' b = some o
theorem Ke.refl {p g u : Addr} (H : Hp) : Ke p g u H H := fun _ _ h _ _ _ => h
theorem Ke.trans {p g u : Addr} {H H1 H2 : Hp} (a : Ke p g u H H1) (b : Ke p g u H1 H2) : Ke p g u H H2 := fun c o h h1 h2 h3 => b c o (a c o h h1 h2 h3) h1 h2 h3
theorem Same.ke {p g u : Addr} {H H' : Hp} (a : Same H H') : Ke p g u H H' := fun b o h _ _ _ => a b o h
theorem Keep.ke {p g u : Addr} {H H' : Hp} (a : Keep p g H H') : Ke p g u H H' := fun b o h h1 h2 _ => a b o h h1 h2
theorem ke_upd {p g u : Addr} {H : Hp} {o : HO} : Ke p g u H (upd H u o) := fun b x e _ _ h3 => by
  rw [upd_ne h3]; exact e
end Kk

set_option maxHeartbeats 2000000
/-! a list extended by a tuple -/
namespace Kk
open PySem PySem.Spec PyProof.Rows L2
theorem meets_extendT (l : Addr) (items : Array Value) (n : Nat) (b : Addr) (items2 : Array Value) (n2 : Nat) (dd : Option Addr) (sl : Array (Option Value)) (hs0 : ¬(!items.isEmpty && Builtin.List.listTooLong (items.size + items2.size)) = true) (hs1 : items.size ≤ sizeLine) (hs2 : items.size + items2.size ≤ sizeLine + 1 := by seq_fits) :
    Meets (Builtin.«list.extend» ⟨[.ref l, .ref b], []⟩) (fun _ R s => s.heap.get? l = some { cls := .type "list", dict := none, data := .seq items n, slots := #[] } ∧ s.heap.get? b = some { cls := .type "tuple", dict := dd, data := .seq items2 n2, slots := sl } ∧ R (.ok (.ret Value.none)) { s with heap := s.heap.update l (Obj.mapSeq fun x => x ++ items2), toks := s.toks }) :=
  .of_wp fun prog w A R s h => by
    obtain ⟨hp, g, d, tk, os⟩ := s; obtain ⟨hl, hb, h⟩ := h; have f1 := AutoSeq1.idx_int; have f2 := AutoSeq1.sub_tuple_tuple; have f3 := AutoSeq1.sub_list_list; have f4 := AutoSeq1.sub_tuple_list; have f5 := AutoSeq1.sub_list_tuple;
    have hz' : (items ++ items2).size ≤ sizeLine + 1 := by rw [Array.size_append]; exact hs2
    wp_walk using (wpAny_updateSeq hl rfl (hz := hs1) (_hz' := hz')), AutoSeq1.wpAny_loadPart' hl, AutoSeq1.wpAny_loadPart' hb; exact ⟨_, rfl, h⟩
section
variable {X : Cx}
def rExtendT (K : PySem.W.Frag) : V → List V → Hp → VK → Prop := fun x vs H Q => ∃ l b xs zs, x = .ref l ∧ vs = [.ref b] ∧ H l = some (.lst xs) ∧ SqT K H b zs ∧ xs.length + zs.length ≤ sizeLine ∧ Q .non (upd H l (.lst (xs ++ zs)))
theorem mt_extendT : MtM X "list.extend" (rExtendT X.K) := by
  intro pins s σ H x vs v us Q I rx rv h
  obtain ⟨l, b, xs, zs, rfl, rfl, hH, hB, hz, q⟩ := h
  cases rx
  obtain ⟨u, rfl, ru⟩ := rv.one
  cases ru
  obtain ⟨z, its, n, r, hl, e⟩ := I.lstM hH
  obtain ⟨its2, r2, pl, hz2⟩ := I.tuple hB
  obtain ⟨⟨cls, dd, dt, sl⟩, e2, hc, n2, hd⟩ := pl
  simp only at hc hd
  subst hc
  subst hd
  have l2 : its2.length = zs.length := r2.length.symm
  have hsz : its.toArray.size + its2.toArray.size ≤ sizeLine := by rw [List.size_toArray, List.size_toArray]; omega
  have hlong : ¬ (!its.toArray.isEmpty && Builtin.List.listTooLong (its.toArray.size + its2.toArray.size)) = true := by
    rw [notLongL hsz, Bool.and_false]
    exact Bool.false_ne_true
  refine call_meets F.slot_list_extend ⟨_, e, rfl⟩ F.entry_list_extend (F.args_list_extend_2 _ _)
    (meets_extendT l its.toArray n b its2.toArray n2 dd sl hlong (by rw [List.size_toArray]; omega) (by omega)) ⟨e, e2, ?_⟩
  refine ⟨.non, _, I.lset (its' := its ++ its2) hH e (by simp) (r.append r2) ?_, rfl, q⟩
  rw [List.length_append]
  omega
end
end Kk

set_option maxHeartbeats 2000000
/-! walks over dicts -/
namespace Kk
open PySem PySem.Spec PyProof.Rows L2
section
variable {d : Addr} {od : Obj} {kvs : List (Key × V)}
/-- for k in d -/
theorem for_keysK {g : TG} {tb : TS} {D : Ends} {σ : L2.St} {H : Hp} (Pv : Nat → L2.St → Hp → Prop) (h0 : Pv 0 σ H) (hl : ∀ i σ H, i ≤ kvs.length → Pv i σ H → H d = some (.frz od (.dK kvs)))
    (hs : ∀ i k v σ H, kvs[i]? = some (k, v) → Pv i σ H → g (kV k) σ H fun σ2 H2 => tb { D with nx := Pv (i + 1), ct := Pv (i + 1), bk := D.nx } σ2 H2) (hd : ∀ σ H, Pv kvs.length σ H → D.nx σ H) :
    ∃ W : Nat → Nat → L2.St → Hp → Prop, (∃ m, W 0 m σ H) ∧ ∀ i m σ H, W i m σ H →
      ((Itk d od kvs).stop i H ∧ D.nx σ H) ∨ ((Itk d od kvs).go i H ∧ ∃ N : L2.St → Hp → Prop, (∀ σ' H', N σ' H' → ∃ m', m' < m ∧ W (i + 1) m' σ' H') ∧ ∀ x H', (Itk d od kvs).yld i H x H' → g x σ H' fun σ2 H2 => tb { D with nx := N, ct := N, bk := D.nx } σ2 H2) := by
  refine ⟨fun i m σ H => m = kvs.length - i ∧ i ≤ kvs.length ∧ Pv i σ H, ⟨kvs.length, by simp, Nat.zero_le _, h0⟩, ?_⟩
  rintro i m σ H ⟨rfl, hi, p⟩
  have q := hl i σ H hi p
  by_cases hlt : i < kvs.length
  · refine .inr ⟨⟨q, hlt⟩, Pv (i + 1), fun σ' H' p' => ⟨kvs.length - (i + 1), by omega, rfl, hlt, p'⟩, fun x H' y => ?_⟩
    obtain ⟨rfl, k, v, hk, rfl⟩ := y
    exact hs i k v σ _ hk p
  · have e : i = kvs.length := by omega
    subst e
    exact .inl ⟨⟨q, Nat.le_refl _⟩, hd σ H p⟩
variable {g : TG} {tt : TT} {te tk tv : TE} {vs : List Nat} {σ : L2.St} {H1 : Hp} {D : Addr} {Qd : Hp → Prop}
/-- [.. for k in d] -/
theorem lc_keysK (Pv : Nat → Hp → Prop) (h0 : Pv 0 (upd H1 D (.lst []))) (hl : ∀ i H, i ≤ kvs.length → Pv i H → H d = some (.frz od (.dK kvs)))
    (hs : ∀ i k v H, kvs[i]? = some (k, v) → Pv i H → g (kV k) (wipe σ vs) H fun σ2 H2 => wipe σ2 vs = wipe σ vs ∧ tt σ2 H2 fun b H3 =>
      if b = true then te σ2 H3 fun y H4 => ∃ acc, H4 D = some (.lst acc) ∧ acc.length < sizeLine ∧ Pv (i + 1) (upd H4 D (.lst (acc ++ [y]))) else Pv (i + 1) H3) (hd : ∀ H, Pv kvs.length H → Qd H) :
    ∃ W : Nat → Nat → Hp → Prop, (∃ m, W 0 m (upd H1 D (.lst []))) ∧ ∀ i m H, W i m H →
      ((Itk d od kvs).stop i H ∧ Qd H) ∨ ((Itk d od kvs).go i H ∧ ∃ Nx : Hp → Prop, (∀ H', Nx H' → ∃ m', m' < m ∧ W (i + 1) m' H') ∧ ∀ x H', (Itk d od kvs).yld i H x H' → g x (wipe σ vs) H' fun σ2 H2 => wipe σ2 vs = wipe σ vs ∧ tt σ2 H2 fun b H3 =>
        if b = true then te σ2 H3 fun y H4 => ∃ acc, H4 D = some (.lst acc) ∧ acc.length < sizeLine ∧ Nx (upd H4 D (.lst (acc ++ [y]))) else Nx H3) := by
  refine ⟨fun i m H => m = kvs.length - i ∧ i ≤ kvs.length ∧ Pv i H, ⟨kvs.length, by simp, Nat.zero_le _, h0⟩, ?_⟩
  rintro i m H ⟨rfl, hi, p⟩
  have q := hl i H hi p
  by_cases hlt : i < kvs.length
  · refine .inr ⟨⟨q, hlt⟩, Pv (i + 1), fun H' p' => ⟨kvs.length - (i + 1), by omega, rfl, hlt, p'⟩, fun x H' y => ?_⟩
    obtain ⟨rfl, k, v, hk, rfl⟩ := y
    exact hs i k v _ hk p
  · have e : i = kvs.length := by omega
    subst e
    exact .inl ⟨⟨q, Nat.le_refl _⟩, hd H p⟩
/-- [.. for k, v in d.items()] -/
theorem lc_itemsK (Pv : Nat → Hp → Prop) (h0 : Pv 0 (upd H1 D (.lst []))) (hl : ∀ i H, i ≤ kvs.length → Pv i H → H d = some (.frz od (.dK kvs)))
    (hs : ∀ i k v T H, kvs[i]? = some (k, v) → Pv i H → H T = none → g (.ref T) (wipe σ vs) (upd H T (.tup [kV k, v])) fun σ2 H2 => wipe σ2 vs = wipe σ vs ∧ tt σ2 H2 fun b H3 =>
      if b = true then te σ2 H3 fun y H4 => ∃ acc, H4 D = some (.lst acc) ∧ acc.length < sizeLine ∧ Pv (i + 1) (upd H4 D (.lst (acc ++ [y]))) else Pv (i + 1) H3) (hd : ∀ H, Pv kvs.length H → Qd H) :
    ∃ W : Nat → Nat → Hp → Prop, (∃ m, W 0 m (upd H1 D (.lst []))) ∧ ∀ i m H, W i m H →
      ((Iti d od kvs).stop i H ∧ Qd H) ∨ ((Iti d od kvs).go i H ∧ ∃ Nx : Hp → Prop, (∀ H', Nx H' → ∃ m', m' < m ∧ W (i + 1) m' H') ∧ ∀ x H', (Iti d od kvs).yld i H x H' → g x (wipe σ vs) H' fun σ2 H2 => wipe σ2 vs = wipe σ vs ∧ tt σ2 H2 fun b H3 =>
        if b = true then te σ2 H3 fun y H4 => ∃ acc, H4 D = some (.lst acc) ∧ acc.length < sizeLine ∧ Nx (upd H4 D (.lst (acc ++ [y]))) else Nx H3) := by
  refine ⟨fun i m H => m = kvs.length - i ∧ i ≤ kvs.length ∧ Pv i H, ⟨kvs.length, by simp, Nat.zero_le _, h0⟩, ?_⟩
  rintro i m H ⟨rfl, hi, p⟩
  have q := hl i H hi p
  by_cases hlt : i < kvs.length
  · refine .inr ⟨⟨q, hlt⟩, Pv (i + 1), fun H' p' => ⟨kvs.length - (i + 1), by omega, rfl, hlt, p'⟩, fun x H' y => ?_⟩
    obtain ⟨T, k, v, hk, rfl, hT, rfl⟩ := y
    exact hs i k v T _ hk p hT
  · have e : i = kvs.length := by omega
    subst e
    exact .inl ⟨⟨q, Nat.le_refl _⟩, hd H p⟩
/-- {.. for k, v in d.items()} -/
theorem dc_itemsK (Pv : Nat → Hp → Prop) (h0 : Pv 0 (upd H1 D (.dK []))) (hl : ∀ i H, i ≤ kvs.length → Pv i H → H d = some (.frz od (.dK kvs)))
    (hs : ∀ i k v T H, kvs[i]? = some (k, v) → Pv i H → H T = none → g (.ref T) (wipe σ vs) (upd H T (.tup [kV k, v])) fun σ2 H2 => wipe σ2 vs = wipe σ vs ∧ tt σ2 H2 fun b H3 =>
      if b = true then tk σ2 H3 fun y H4 => tv σ2 H4 fun z H5 => ∃ kvs k, y = kV k ∧ H5 D = some (.dK kvs) ∧ kvs.length < sizeLine ∧ Pv (i + 1) (upd H5 D (.dK (putK kvs k z))) else Pv (i + 1) H3) (hd : ∀ H, Pv kvs.length H → Qd H) :
    ∃ W : Nat → Nat → Hp → Prop, (∃ m, W 0 m (upd H1 D (.dK []))) ∧ ∀ i m H, W i m H →
      ((Iti d od kvs).stop i H ∧ Qd H) ∨ ((Iti d od kvs).go i H ∧ ∃ Nx : Hp → Prop, (∀ H', Nx H' → ∃ m', m' < m ∧ W (i + 1) m' H') ∧ ∀ x H', (Iti d od kvs).yld i H x H' → g x (wipe σ vs) H' fun σ2 H2 => wipe σ2 vs = wipe σ vs ∧ tt σ2 H2 fun b H3 =>
        if b = true then tk σ2 H3 fun y H4 => tv σ2 H4 fun z H5 => ∃ kvs k, y = kV k ∧ H5 D = some (.dK kvs) ∧ kvs.length < sizeLine ∧ Nx (upd H5 D (.dK (putK kvs k z))) else Nx H3) := by
  refine ⟨fun i m H => m = kvs.length - i ∧ i ≤ kvs.length ∧ Pv i H, ⟨kvs.length, by simp, Nat.zero_le _, h0⟩, ?_⟩
  rintro i m H ⟨rfl, hi, p⟩
  have q := hl i H hi p
  by_cases hlt : i < kvs.length
  · refine .inr ⟨⟨q, hlt⟩, Pv (i + 1), fun H' p' => ⟨kvs.length - (i + 1), by omega, rfl, hlt, p'⟩, fun x H' y => ?_⟩
    obtain ⟨T, k, v, hk, rfl, hT, rfl⟩ := y
    exact hs i k v T _ hk p hT
  · have e : i = kvs.length := by omega
    subst e
    exact .inl ⟨⟨q, Nat.le_refl _⟩, hd H p⟩
end
def rLenQ (K : PySem.W.Frag) : List V → Hp → VK → Prop := fun xs H Q => ∃ p ys, xs = [.ref p] ∧ (SqL K H p ys ∨ SqT K H p ys) ∧ Q (.int ys.length) H
theorem call_lenQ {X : Cx} : CallR X (.builtin "len") (rLenQ X.K) := call_len_seq
end Kk

/-! words that a recursion draws -/
namespace Wd
open PySem
/-- the name made as the i-th one -/
def mkN (f : Nat → Bool) (i : Nat) : Nm := if f i then lett i else 113 :: lett i
structure GenR (names : List Nm) (g L : Nat) (t : T) : Prop where
  sc : t.sc
  aps : t.aps = g
  lv : t.lv.Perm (names ++ t.tks)
  tk : ∃ f : Nat → Bool, t.tks = (List.range' L (g + 1 - names.length)).map (mkN f)
theorem GenR.mkNm (n : Nm) (L : Nat) : GenR [n] 0 L (.nm n) := ⟨trivial, rfl, List.Perm.refl _, fun _ => true, rfl⟩
theorem mkN_congr {f h : Nat → Bool} {l : List Nat} (e : ∀ i ∈ l, f i = h i) : l.map (mkN f) = l.map (mkN h) := List.map_congr_left fun i hi => by unfold mkN; rw [e i hi]
theorem GenR.mkTk {names : List Nm} {g L : Nat} {b : T} {x : Bool} (h : GenR (names ++ [if x then lett L else 113 :: lett L]) g (L + 1) b) (hl : names.length ≤ g) : GenR names g L (.tk (if x then lett L else 113 :: lett L) b) := by
  obtain ⟨s, a, l, f, t⟩ := h
  refine ⟨⟨l.mem_iff.mpr (by simp), s⟩, a, ?_, fun i => if i = L then x else f i, ?_⟩
  · show b.lv.Perm (names ++ (_ :: b.tks))
    refine l.trans ?_
    rw [List.append_assoc]
    exact List.Perm.refl _
  · show _ :: b.tks = _
    rw [t]
    simp only [List.length_append, List.length_cons, List.length_nil]
    rw [show g + 1 - names.length = (g + 1 - (names.length + (0 + 1))) + 1 by omega, List.range'_succ, List.map_cons]
    congr 1
    · simp [mkN]
    · refine mkN_congr fun i hi => ?_
      have := (List.mem_range'_1.mp hi).1
      show f i = if i = L then x else f i
      rw [if_neg (by omega)]
theorem GenR.mkAp {names r1 r2 : List Nm} {g m1 m2 L : Nat} {f a : T} (h1 : GenR r1 m1 L f) (h2 : GenR r2 m2 (L + (m1 + 1 - r1.length)) a) (hr : (r1 ++ r2).Perm names) (hm : m1 + m2 + 1 = g) (l1 : r1.length ≤ m1 + 1) (l2 : r2.length ≤ m2 + 1) : GenR names g L (.ap f a) := by
  obtain ⟨s1, a1, p1, f1, t1⟩ := h1
  obtain ⟨s2, a2, p2, f2, t2⟩ := h2
  have hl := hr.length_eq
  rw [List.length_append] at hl
  refine ⟨⟨s1, s2⟩, by show f.aps + a.aps + 1 = g; rw [a1, a2]; exact hm, ?_, fun i => if i < L + (m1 + 1 - r1.length) then f1 i else f2 i, ?_⟩
  · show (f.lv ++ a.lv).Perm (names ++ (f.tks ++ a.tks))
    refine (p1.append p2).trans ?_
    refine List.Perm.trans ?_ (hr.append_right _)
    rw [List.append_assoc, List.append_assoc]
    refine List.Perm.append_left _ ?_
    rw [← List.append_assoc, ← List.append_assoc]
    exact List.perm_append_comm.append_right _
  · show f.tks ++ a.tks = _
    rw [t1, t2, show g + 1 - names.length = (m1 + 1 - r1.length) + (m2 + 1 - r2.length) by omega, ← List.range'_append_1, List.map_append]
    congr 1
    · refine mkN_congr fun i hi => ?_
      have := List.mem_range'_1.mp hi
      rw [if_pos (by omega)]
    · refine mkN_congr fun i hi => ?_
      have := List.mem_range'_1.mp hi
      rw [if_neg (by omega)]
theorem lett_small {i : Nat} (h : i < 26) : lett i = [97 + i] := by
  have : ((List.range 26).all fun i => lett i == [97 + i]) = true := by decide +kernel
  exact eq_of_beq (List.all_eq_true.mp this i (List.mem_range.mpr h))
theorem mkN_ok {f : Nat → Bool} {i : Nat} (h : i < 26) : nmOk (mkN f i) := by
  unfold mkN
  rw [lett_small h]
  split
  · refine ⟨by simp, by simp, fun c hc => ?_⟩
    have : c = 97 + i := by simpa using hc
    omega
  · refine ⟨by simp, by simp, fun c hc => ?_⟩
    rcases List.mem_cons.mp hc with rfl | hc
    · omega
    · have : c = 97 + i := by simpa using hc
      omega
theorem mkN_inj {f : Nat → Bool} {i j : Nat} (hi : i < 26) (hj : j < 26) (e : mkN f i = mkN f j) : i = j := by
  unfold mkN at e
  rw [lett_small hi, lett_small hj] at e
  split at e <;> split at e
  · simp at e; omega
  · simp at e
  · simp at e
  · simp at e; omega
/-- the names given are none of those that are made -/
def Apt (names : List Nm) (L c : Nat) : Prop := ∀ n ∈ names, ∀ f i, L ≤ i → i < L + c → n ≠ mkN f i
theorem GenR.tksNd {names : List Nm} {g L : Nat} {t : T} (h : GenR names g L t) (hb : L + (g + 1 - names.length) ≤ 26) : t.tks.Nodup := by
  obtain ⟨s, a, l, f, e⟩ := h
  rw [e]
  refine List.pairwise_map.mpr ?_
  refine List.Pairwise.imp_of_mem ?_ (List.nodup_range' (step := 1))
  intro x y hx hy hne q
  have h1 := List.mem_range'_1.mp hx
  have h2 := List.mem_range'_1.mp hy
  exact hne (mkN_inj (by omega) (by omega) q)
theorem GenR.vd {names : List Nm} {g L : Nat} {t : T} (h : GenR names g L t) (hb : L + (g + 1 - names.length) ≤ 26) (nd : names.Nodup) (ok : ∀ n ∈ names, nmOk n) (ap : Apt names L (g + 1 - names.length)) : Vd t.ws := by
  have tn := h.tksNd hb
  obtain ⟨s, a, l, f, e⟩ := h
  have tm : ∀ n ∈ t.tks, ∃ i, L ≤ i ∧ i < L + (g + 1 - names.length) ∧ n = mkN f i := fun n hn => by
    rw [e] at hn
    obtain ⟨i, hi, rfl⟩ := List.mem_map.mp hn
    have := List.mem_range'_1.mp hi
    exact ⟨i, this.1, this.2, rfl⟩
  have nn : (names ++ t.tks).Nodup := List.nodup_append.mpr ⟨nd, tn, fun x hx y hy q => by
    obtain ⟨i, h1, h2, h3⟩ := tm y hy
    exact ap x hx f i h1 h2 (q.trans h3)⟩
  refine ⟨⟨t, rfl, s, l.nodup_iff.mpr nn, tn⟩, fun w hw => ?_⟩
  have okt : ∀ n ∈ t.tks, nmOk n := fun n hn => by
    obtain ⟨i, h1, h2, rfl⟩ := tm n hn
    exact mkN_ok (by omega)
  cases w with
  | ap => trivial
  | tk n => exact okt n (mem_tks_ws hw)
  | nm n =>
    rcases List.mem_append.mp (l.mem_iff.mp (mem_lv_ws hw)) with q | q
    · exact ok n q
    · exact okt n q
end Wd

set_option maxHeartbeats 2000000
namespace Kk
open PySem PySem.Spec PyProof.Rows L2
/-! ### comprehensions that keep or change each item by itself -/
section
variable {α : Type} {K : PySem.W.Frag} {a D : Addr} {ws : List α} {f : α → V} {r : α → Option V} {g : TG} {tt : TT} {te : TE} {vs : List Nat} {σ : L2.St} {H : Hp} {Qd : Hp → Prop}
theorem fm_step {w : α} {i : Nat} (hw : ws[i]? = some w) : (ws.take (i + 1)).filterMap r = (ws.take i).filterMap r ++ (match r w with | some y => [y] | none => []) := by
  rw [List.take_add_one, hw, List.filterMap_append]
  cases h : r w with
  | none => simp [h]
  | some y => simp [h]
theorem fm_len (i : Nat) : ((ws.take i).filterMap r).length ≤ ws.length := Nat.le_trans (List.length_filterMap_le _ _) (by rw [List.length_take]; exact Nat.min_le_right _ _)
theorem lc_fmT (hq : SqT K H a (ws.map f)) (nD : H D = none) (hl : ws.length ≤ 100000)
    (hs : ∀ (i : Nat) (w : α) (H' : Hp) (Qy : V → Hp → Prop) (Qn : Hp → Prop), ws[i]? = some w → Same H H' → (∀ y H4, Same H' H4 → r w = some y → Qy y H4) → (∀ H3, Same H' H3 → r w = none → Qn H3) →
      g (f w) (wipe σ vs) H' fun σ2 H2 => wipe σ2 vs = wipe σ vs ∧ tt σ2 H2 fun b H3 => if b = true then te σ2 H3 Qy else Qn H3)
    (hd : ∀ H', Same H H' → H' D = some (.lst (ws.filterMap r)) → Qd H') :
    ∃ W : Nat → Nat → Hp → Prop, (∃ m, W 0 m (upd H D (.lst []))) ∧ ∀ i m H, W i m H →
      ((Itt K a).stop i H ∧ Qd H) ∨ ((Itt K a).go i H ∧ ∃ Nx : Hp → Prop, (∀ H', Nx H' → ∃ m', m' < m ∧ W (i + 1) m' H') ∧ ∀ x H', (Itt K a).yld i H x H' → g x (wipe σ vs) H' fun σ2 H2 => wipe σ2 vs = wipe σ vs ∧ tt σ2 H2 fun b H3 =>
        if b = true then te σ2 H3 fun y H4 => ∃ acc, H4 D = some (.lst acc) ∧ acc.length < sizeLine ∧ Nx (upd H4 D (.lst (acc ++ [y]))) else Nx H3) := by
  have off : ∀ b o, H b = some o → b ≠ D := fun b o hb => ne_of_none hb nD
  refine lc_tup (K := K) (a := a) (xs := ws.map f) (fun i H' => Same H H' ∧ H' D = some (.lst ((ws.take i).filterMap r))) ⟨same_upd nD, upd_same⟩ (fun i H' _ s => SqT.same hq s.1) (fun i x H' hx s => ?_) (fun H' s => ?_)
  · obtain ⟨S1, L1⟩ := s
    obtain ⟨w, hw, rfl⟩ := map_get hx
    refine hs i w H' _ _ hw S1 (fun y H4 S4 hy => ⟨_, S4 _ _ L1, Nat.lt_of_le_of_lt (Nat.le_trans (fm_len i) hl) (by decide), fun b o hb => ?_, ?_⟩) (fun H3 S3 hn => ⟨S1.trans S3, ?_⟩)
    · rw [upd_ne (off b o hb)]
      exact S4 _ _ (S1 _ _ hb)
    · rw [upd_same, fm_step hw, hy]
    · rw [S3 _ _ L1, fm_step hw, hn, List.append_nil]
  · obtain ⟨S1, L1⟩ := s
    rw [List.length_map, List.take_length] at L1
    exact hd H' S1 L1
theorem lc_fmL (hq : SqL K H a (ws.map f)) (nD : H D = none) (hl : ws.length ≤ 100000)
    (hs : ∀ (i : Nat) (w : α) (H' : Hp) (Qy : V → Hp → Prop) (Qn : Hp → Prop), ws[i]? = some w → Same H H' → (∀ y H4, Same H' H4 → r w = some y → Qy y H4) → (∀ H3, Same H' H3 → r w = none → Qn H3) →
      g (f w) (wipe σ vs) H' fun σ2 H2 => wipe σ2 vs = wipe σ vs ∧ tt σ2 H2 fun b H3 => if b = true then te σ2 H3 Qy else Qn H3)
    (hd : ∀ H', Same H H' → H' D = some (.lst (ws.filterMap r)) → Qd H') :
    ∃ W : Nat → Nat → Hp → Prop, (∃ m, W 0 m (upd H D (.lst []))) ∧ ∀ i m H, W i m H →
      ((Itl K a).stop i H ∧ Qd H) ∨ ((Itl K a).go i H ∧ ∃ Nx : Hp → Prop, (∀ H', Nx H' → ∃ m', m' < m ∧ W (i + 1) m' H') ∧ ∀ x H', (Itl K a).yld i H x H' → g x (wipe σ vs) H' fun σ2 H2 => wipe σ2 vs = wipe σ vs ∧ tt σ2 H2 fun b H3 =>
        if b = true then te σ2 H3 fun y H4 => ∃ acc, H4 D = some (.lst acc) ∧ acc.length < sizeLine ∧ Nx (upd H4 D (.lst (acc ++ [y]))) else Nx H3) := by
  have off : ∀ b o, H b = some o → b ≠ D := fun b o hb => ne_of_none hb nD
  refine lc_list (K := K) (a := a) (xs := ws.map f) (fun i H' => Same H H' ∧ H' D = some (.lst ((ws.take i).filterMap r))) ⟨same_upd nD, upd_same⟩ (fun i H' _ s => s.1.seq hq) (fun i x H' hx s => ?_) (fun H' s => ?_)
  · obtain ⟨S1, L1⟩ := s
    obtain ⟨w, hw, rfl⟩ := map_get hx
    refine hs i w H' _ _ hw S1 (fun y H4 S4 hy => ⟨_, S4 _ _ L1, Nat.lt_of_le_of_lt (Nat.le_trans (fm_len i) hl) (by decide), fun b o hb => ?_, ?_⟩) (fun H3 S3 hn => ⟨S1.trans S3, ?_⟩)
    · rw [upd_ne (off b o hb)]
      exact S4 _ _ (S1 _ _ hb)
    · rw [upd_same, fm_step hw, hy]
    · rw [S3 _ _ L1, fm_step hw, hn, List.append_nil]
  · obtain ⟨S1, L1⟩ := s
    rw [List.length_map, List.take_length] at L1
    exact hd H' S1 L1
end
end Kk

namespace Wd
open PySem L2
theorem filterMap_ix {α β : Type} {f : α → Option β} : ∀ {l : List α} {i j : Nat} {x y : α} {b : β}, (l.filterMap f).Nodup → l[i]? = some x → l[j]? = some y → f x = some b → f y = some b → i = j
  | [], i, j, x, y, b, _, h, _, _, _ => by simp at h
  | a :: l, i, j, x, y, b, nd, h1, h2, e1, e2 => by
    have tail : (l.filterMap f).Nodup := by
      cases h : f a with
      | none => rwa [List.filterMap_cons_none h] at nd
      | some c => rw [List.filterMap_cons_some h] at nd; exact (List.nodup_cons.mp nd).2
    cases i with
    | zero =>
      cases j with
      | zero => rfl
      | succ j =>
        simp at h1 h2
        subst h1
        rw [List.filterMap_cons_some e1] at nd
        exact absurd (List.mem_filterMap.mpr ⟨y, List.mem_of_getElem? h2, e2⟩) (List.nodup_cons.mp nd).1
    | succ i =>
      cases j with
      | zero =>
        simp at h1 h2
        subst h2
        rw [List.filterMap_cons_some e2] at nd
        exact absurd (List.mem_filterMap.mpr ⟨x, List.mem_of_getElem? h1, e1⟩) (List.nodup_cons.mp nd).1
      | succ j =>
        simp at h1 h2
        rw [filterMap_ix tail h1 h2 e1 e2]
/-- no word but "@" stands twice -/
theorem Vd.once {ws : List W} (h : Vd ws) {i j : Nat} {w : W} (hw : w ≠ .ap) (h1 : ws[i]? = some w) (h2 : ws[j]? = some w) : i = j := by
  obtain ⟨⟨t, rfl, s, nl, nt⟩, ok⟩ := h
  cases w with
  | ap => exact absurd rfl hw
  | tk n => rw [T.tks_ws] at nt; exact filterMap_ix nt h1 h2 rfl rfl
  | nm n => rw [T.lv_ws] at nl; exact filterMap_ix nl h1 h2 rfl rfl
theorem Vd.ends {ws : List W} (h : Vd ws) : ∃ E, IsEnds ws E := by
  obtain ⟨⟨t, rfl, s, nl, nt⟩, ok⟩ := h
  exact ⟨t.e, t.isEnds⟩
theorem Vd.pos {ws : List W} (h : Vd ws) : 0 < ws.length := by
  obtain ⟨⟨t, rfl, s, nl, nt⟩, ok⟩ := h
  exact t.pos
theorem Vd.okAt {ws : List W} (h : Vd ws) {i : Nat} {w : W} (hw : ws[i]? = some w) : wOk w := h.ok w (List.mem_of_getElem? hw)
/-- a taken name stands in the body -/
theorem Vd.used {ws : List W} (h : Vd ws) {E : Nat → Nat} (g : IsEnds ws E) {i : Nat} {n : Nm} (hw : ws[i]? = some (.tk n)) : ∃ j, ws[j]? = some (.nm n) ∧ i < j ∧ j < E i := by
  obtain ⟨⟨t, rfl, s, nl, nt⟩, ok⟩ := h
  obtain ⟨j, h1, h2, h3⟩ := T.used t i n s hw
  exact ⟨j, h1, h2, by rw [g.uniq t.isEnds _ i rfl (T.lt_of_get hw)]; exact h3⟩
/-- the part at a place -/
theorem Vd.part {ws : List W} (h : Vd ws) {E : Nat → Nat} (g : IsEnds ws E) {p : Nat} (hp : p < ws.length) :
    Vd ((ws.drop p).take (E p - p)) ∧ ∃ F, IsEnds ((ws.drop p).take (E p - p)) F ∧ ∀ i, i < ((ws.drop p).take (E p - p)).length → F i + p = E (p + i) := by
  obtain ⟨⟨t, rfl, s, nl, nt⟩, ok⟩ := h
  obtain ⟨u, h1, h2, h3, h4, h5⟩ := T.part t p s hp
  have ep : E p = t.e p := g.uniq t.isEnds _ p rfl hp
  rw [ep, ← h1]
  have hu : u.ws.length = t.e p - p := by
    have := T.e_lt t p hp
    rw [h1, List.length_take, List.length_drop]; omega
  refine ⟨⟨⟨u, rfl, h2, h3.nodup nl, h4.nodup nt⟩, fun w hw => ok w ?_⟩, u.e, u.isEnds, fun i hi => ?_⟩
  · rw [h1] at hw
    exact List.mem_of_mem_drop (List.mem_of_mem_take hw)
  · rw [h5 i hi]
    have := T.e_lt t p hp
    exact (g.uniq t.isEnds _ (p + i) rfl (by omega)).symm
end Wd

namespace Wd
open PySem
/-! ### words that have parts behind them, by how many -/
def misF : List Nat → Nat → Nat → Option Nat
  | [], i, l => if l = 0 then none else some i
  | n :: ns, i, l => if l = 0 then some i else misF ns (i + 1) (l + n - 1)
inductive Wh : Nat → List Nat → Prop where
  | nil : Wh 0 []
  | cons {c n ns} : Wh (c + n) ns → Wh (c + 1) (n :: ns)
theorem Wh.mis {c : Nat} {ns : List Nat} (h : Wh c ns) : ∀ i, misF ns i c = none := by
  induction h with
  | nil => intro i; rfl
  | @cons c n ns h ih =>
    intro i
    unfold misF
    rw [if_neg (by omega), show c + 1 + n - 1 = c + n by omega]
    exact ih _
def needW : W → Nat
  | .ap => 2
  | .tk _ => 1
  | .nm _ => 0
theorem T.wh : ∀ (t : T) (c : Nat) (r : List Nat), Wh c r → Wh (c + 1) (t.ws.map needW ++ r)
  | .nm n, c, r, h => by exact Wh.cons h
  | .tk n b, c, r, h => by
    show Wh (c + 1) (1 :: (b.ws.map needW ++ r))
    exact Wh.cons (T.wh b c r h)
  | .ap f a, c, r, h => by
    have e : (T.ap f a).ws.map needW ++ r = 2 :: (f.ws.map needW ++ (a.ws.map needW ++ r)) := by simp [T.ws, needW]
    rw [e]
    exact Wh.cons (T.wh f (c + 1) _ (T.wh a c r h))
theorem Vd.wh {ws : List W} (h : Vd ws) : Wh 1 (ws.map needW) := by
  obtain ⟨⟨t, rfl, s, nl, nt⟩, ok⟩ := h
  have := T.wh t 0 [] .nil
  rwa [List.append_nil] at this
theorem needW_le (w : W) : needW w ≤ 2 := by cases w <;> simp [needW]
def itE (E : Nat → Nat) (i : Nat) : Nat → Nat
  | 0 => i + 1
  | j + 1 => E (itE E i j)
structure EndsN (ns : List Nat) (E : Nat → Nat) : Prop where
  ex : ∀ i n, ns[i]? = some n → (∀ j, j < n → i < itE E i j ∧ itE E i j < ns.length) ∧ E i = itE E i n
  le : ∀ n, n ∈ ns → n ≤ 2
theorem IsEnds.needs {ws : List W} {E : Nat → Nat} (h : IsEnds ws E) : EndsN (ws.map needW) E := by
  refine ⟨fun i n hn => ?_, fun n hn => ?_⟩
  · rw [List.getElem?_map] at hn
    rw [List.length_map]
    cases hw : ws[i]? with
    | none => rw [hw] at hn; cases hn
    | some w =>
      rw [hw] at hn
      cases w with
      | nm x => cases hn; exact ⟨fun j (hj : j < 0) => absurd hj (by omega), h.nm i x hw⟩
      | tk x =>
        cases hn
        obtain ⟨h1, h2⟩ := h.tk i x hw
        refine ⟨fun j (hj : j < 1) => ?_, h2⟩
        have : j = 0 := by omega
        subst this
        exact ⟨by show i < i + 1; omega, h1⟩
      | ap =>
        cases hn
        obtain ⟨h1, h2, h3⟩ := h.ap i hw
        refine ⟨fun j (hj : j < 2) => ?_, h3⟩
        have l := h.lt (i + 1) h1
        match j, hj with
        | 0, _ => exact ⟨by show i < i + 1; omega, h1⟩
        | 1, _ => exact ⟨by show i < E (i + 1); omega, h2⟩
  · obtain ⟨w, _, rfl⟩ := List.mem_map.mp hn
    exact needW_le w
end Wd

set_option maxHeartbeats 2000000
namespace Kk
open PySem PySem.Spec PyProof.Rows L2 Wd
theorem for_enumL {K : PySem.W.Frag} {a : Addr} {xs : List V} {g : TG} {tb : TS} {D : Ends} {σ : L2.St} {H : Hp} (Pv : Nat → L2.St → Hp → Prop) (h0 : Pv 0 σ H) (hl : ∀ i σ H, i ≤ xs.length → Pv i σ H → SqL K H a xs)
    (hs : ∀ i x σ H T, xs[i]? = some x → Pv i σ H → H T = none → g (.ref T) σ (upd H T (.tup [.int (i : Nat), x])) fun σ2 H2 => tb { D with nx := Pv (i + 1), ct := Pv (i + 1), bk := D.nx } σ2 H2) (hd : ∀ σ H, Pv xs.length σ H → D.nx σ H) :
    ∃ W : Nat → Nat → L2.St → Hp → Prop, (∃ m, W 0 m σ H) ∧ ∀ i m σ H, W i m σ H →
      ((Ite K a).stop i H ∧ D.nx σ H) ∨ ((Ite K a).go i H ∧ ∃ N : L2.St → Hp → Prop, (∀ σ' H', N σ' H' → ∃ m', m' < m ∧ W (i + 1) m' σ' H') ∧ ∀ x H', (Ite K a).yld i H x H' → g x σ H' fun σ2 H2 => tb { D with nx := N, ct := N, bk := D.nx } σ2 H2) := by
  refine ⟨fun i m σ H => m = xs.length - i ∧ i ≤ xs.length ∧ Pv i σ H, ⟨xs.length, by simp, Nat.zero_le _, h0⟩, ?_⟩
  rintro i m σ H ⟨rfl, hi, p⟩
  have q := hl i σ H hi p
  by_cases hlt : i < xs.length
  · refine .inr ⟨⟨xs, xs[i], q, by simp [hlt]⟩, Pv (i + 1), fun σ' H' p' => ⟨xs.length - (i + 1), by omega, rfl, hlt, p'⟩, fun x H' y => ?_⟩
    obtain ⟨T, z, rfl, hT, rfl, hz⟩ := y
    exact hs i z σ H T (hz xs q) p hT
  · have e : i = xs.length := by omega
    subst e
    exact .inl ⟨⟨xs, q, Nat.le_refl _⟩, hd σ H p⟩
/-! ### numbers of parts -/
def nv (n : Nat) : V := .int (n : Nat)
def optV : Option Nat → V
  | none => .non
  | some i => .int (i : Nat)
def spMisfit (K : PySem.W.Frag) : Sp := fun vs H Q _ => ∃ (a : Addr) (ns : List Nat), vs = [.ref a] ∧ SqL K H a (ns.map nv) ∧ ns.length ≤ 200000 ∧ ∀ H', Same H H' → Q (optV (misF ns 0 1)) H'
abbrev s_misfit_index : Stmt := (top 2)
theorem sc_misfit_index : FnScope ["needs", "lacking", "at", "need"] ["needs"] (defScope s_misfit_index) := ⟨rfl, rfl, rfl, by decide +kernel, rfl, by decide +kernel, by decide +kernel⟩
theorem misF_drop {ns : List Nat} {i n : Nat} (h : ns[i]? = some n) (at' c : Nat) : misF (ns.drop i) at' c = if c = 0 then some at' else misF (ns.drop (i + 1)) (at' + 1) (c + n - 1) := by
  have hi : i < ns.length := by
    obtain ⟨h1, _⟩ := List.getElem?_eq_some_iff.mp h
    exact h1
  rw [List.drop_eq_getElem_cons hi]
  have : ns[i] = n := by
    obtain ⟨_, h2⟩ := List.getElem?_eq_some_iff.mp h
    exact h2
  rw [this]
  rfl
theorem mapN_get {ns : List Nat} {i : Nat} {x : V} (h : (ns.map nv)[i]? = some x) : ∃ n, ns[i]? = some n ∧ x = nv n := by
  rw [List.getElem?_map] at h
  cases hn : ns[i]? with
  | none => rw [hn] at h; cases h
  | some n => rw [hn] at h; exact ⟨n, rfl, (Option.some.inj h).symm⟩
theorem intz (c : Nat) : decide (V.int ((c : Nat) : Int) = V.int 0) = decide (c = 0) := by
  by_cases h : c = 0
  · subst h; exact (decide_eq_true rfl).trans (decide_eq_true rfl).symm
  · rw [decide_eq_false h]
    exact decide_eq_false fun e => h (by have := V.int.inj e; omega)
theorem c_misfit_index {P w K mg base} (B : Bt mg) (D : DefAt K mg "misfit_index" s_misfit_index) : Cal P w K mg base "misfit_index" 1 ["needs"] (spMisfit K) := by
  refine cal_of D sc_misfit_index (fun _ _ _ _ _ _ us hl => match us, hl with | [_], _ => rfl) (fun vs H Q E h => ?_) (fun fa cdv A outer st0 H vs Q E hr h => ?_)
  · obtain ⟨a, ws, rfl, _⟩ := h
    rfl
  · obtain ⟨a, ns, rfl, hq, hl, k⟩ := h
    refine ⟨_, (pss_cons (ps_set (i := 1) sc_misfit_index.nd rfl (by first | exact Or.inl rfl | exact Or.inr rfl) pe_int)
      (pss_cons (ps_for PassesOwn.never rfl (pi_enum (by rfl) B.b_enumerate (pa_cons (pv 0) pa_nil)) (pg_tup (by rfl) (pgs_cons (pg_name (i := 2) sc_misfit_index.nd rfl (by first | exact Or.inl rfl | exact Or.inr rfl)) (pgs_cons (pg_name (i := 3) sc_misfit_index.nd rfl (by first | exact Or.inl rfl | exact Or.inr rfl)) pgs_nil))) (pss_cons (ps_if (pt_cmpR op_eq (pv 1) pe_int (nomark _)) (pss_one (ps_ret (pv 2))) pss_nil)
      (pss_one (ps_aug (i := 1) sc_misfit_index.nd rfl (by first | exact Or.inl rfl | exact Or.inr rfl) (pe_op op_sub (pv 3) pe_int) ip_add))))
      (pss_one (ps_ret (pe_ifExp (pt_cmpR op_eq (pv 1) pe_int (nomark _)) pe_non (pe_callB call_len_seq (by rfl) B.b_len (by decide +kernel) (pa_cons (pv 0) pa_nil))))))), ?_⟩
    refine ⟨_, rfl, a, _, rfl, hq, for_enumL (K := K) (a := a) (xs := ns.map nv) (fun i σ H' => ∃ (v1 v2 : Option V) (c : Nat), σ = [some (.ref a), some (.int (c : Nat)), v1, v2] ∧ misF ns 0 1 = misF (ns.drop i) i c ∧ Same H H')
      ⟨none, none, 1, rfl, rfl, Same.refl H⟩ (fun i σ H' _ ⟨_, _, _, _, _, s⟩ => s.seq hq) ?_ ?_⟩
    · rintro i x σ H' T hx ⟨v1, v2, c, rfl, em, S1⟩ nT
      obtain ⟨n, hn, rfl⟩ := mapN_get hx
      have S2 : Same H (upd H' T (.tup [.int (i : Nat), nv n])) := S1.trans (same_upd nT)
      rw [misF_drop hn] at em
      refine ⟨T, _, rfl, SqT.of upd_same, rfl, _, _, rfl, _, _, rfl, rfl, ?_⟩
      refine ⟨_, rfl, rfl, _, rfl, ?_⟩
      rw [intz]
      by_cases hc : c = 0
      · rw [decide_eq_true hc]
        rw [if_pos hc] at em
        refine iteT ⟨_, rfl, ?_⟩
        have := k _ S2
        rw [em] at this
        exact this
      · rw [decide_eq_false hc]
        rw [if_neg hc] at em
        refine iteF ⟨_, rfl, _, rfl, _, _, rfl, rfl, _, _, rfl, rfl, ?_⟩
        refine ⟨some (.int (i : Nat)), some (nv n), c + n - 1, ?_, em, S2⟩
        rw [show (((c + n - 1 : Nat)) : Int) = (c : Int) + ((n : Int) - 1) by omega]
        rfl
    · rintro σ H' ⟨v1, v2, c, rfl, em, S1⟩
      rw [List.length_map, List.drop_length] at em
      have := k _ S1
      rw [em] at this
      refine ⟨_, rfl, rfl, _, rfl, ?_⟩
      rw [intz]
      by_cases hc : c = 0
      · rw [decide_eq_true hc]
        rw [show misF [] ns.length c = none by unfold misF; rw [if_pos hc]] at this
        exact iteT this
      · rw [decide_eq_false hc]
        rw [show misF [] ns.length c = some ns.length by unfold misF; rw [if_neg hc]] at this
        refine iteF ⟨_, rfl, _, _, rfl, .inl (S1.seq hq), ?_⟩
        rw [List.length_map]
        exact this
def endsV (n : Nat) (E : Nat → Nat) : List V := (List.range n).map fun i => V.int (E i : Nat)
theorem endsV_len (n : Nat) (E : Nat → Nat) : (endsV n E).length = n := by simp [endsV]
theorem endsV_get {n : Nat} {E : Nat → Nat} {i : Nat} (h : i < n) : (endsV n E)[i]? = some (.int (E i : Nat)) := by simp [endsV, h]
def spEndsBy (K : PySem.W.Frag) : Sp := fun vs H Q _ => ∃ (a : Addr) (ns : List Nat) (E : Nat → Nat), vs = [.ref a] ∧ SqL K H a (ns.map nv) ∧ EndsN ns E ∧ ns.length ≤ 200000 ∧
  ∀ H' q, Same H H' → H q = none → TupF H' q (endsV ns.length E) → Q (.ref q) H'
abbrev s_ends_by : Stmt := (top 3)
theorem sc_ends_by : FnScope ["needs", "behind", "at", "_"] ["needs"] (defScope s_ends_by) := ⟨rfl, rfl, rfl, by decide +kernel, rfl, by decide +kernel, by decide +kernel⟩
theorem c_ends_by {P w K mg base} (B : Bt mg) (D : DefAt K mg "ends_by" s_ends_by) : Cal P w K mg base "ends_by" 1 ["needs"] (spEndsBy K) := by
  refine cal_of D sc_ends_by (fun _ _ _ _ _ _ us hl => match us, hl with | [_], _ => rfl) (fun vs H Q E h => ?_) (fun fa cdv A outer st0 H vs Q E hr h => ?_)
  · obtain ⟨a, ws, E, rfl, _⟩ := h
    rfl
  · obtain ⟨a, ns, E, rfl, hq, he, hl, k⟩ := h
    refine ⟨_, (pss_cons (ps_set (i := 1) sc_ends_by.nd rfl (by first | exact Or.inl rfl | exact Or.inr rfl) (pe_op op_rep (pe_lst (pa_cons pe_int pa_nil)) (pe_callB call_len_seq (by rfl) B.b_len (by decide +kernel) (pa_cons (pv 0) pa_nil))))
      (pss_cons (ps_for PassesOwn.never rfl (pi_revR (by rfl) B.b_reversed (prg_1 (by rfl) B.b_range (pe_callB call_len_seq (by rfl) B.b_len (by decide +kernel) (pa_cons (pv 0) pa_nil)))) (pg_name (i := 2) sc_ends_by.nd rfl (by first | exact Or.inl rfl | exact Or.inr rfl)) (pss_cons (ps_asg (pe_op op_add (pv 2) pe_int) (pg_sub (pv 1) (pv 2) set_list))
      (pss_one (ps_for PassesOwn.never rfl (pi_range1 (by rfl) B.b_range (pa_cons (pe_ix ix_list (pv 0) (pv 2) (fun _ _ => rfl)) pa_nil)) (pg_name (i := 3) sc_ends_by.nd rfl (by first | exact Or.inl rfl | exact Or.inr rfl)) (pss_one (ps_asg (pe_ix ix_list (pv 1) (pe_ix ix_list (pv 1) (pv 2) (fun _ _ => rfl)) (fun _ _ => rfl)) (pg_sub (pv 1) (pv 2) set_list)))))))
      (pss_one (ps_ret (pe_callTy call_tupleF (by rfl) B.b_tuple (by decide +kernel) (pa_cons (pv 1) pa_nil)))))), ?_⟩
    have hlm : (ns.map nv).length = ns.length := List.length_map ..
    -- behind = [0] * len(words)
    refine ⟨(by show 1 ≤ sizeLine; decide), fun z nz => ?_⟩
    have Sz : Same H (upd H z (.lst [.int 0])) := same_upd nz
    have Lz : upd H z (.lst [.int 0]) z = some (.lst [.int 0]) := upd_same
    generalize upd H z (.lst [.int 0]) = H1 at *
    refine ⟨_, rfl, _, _, rfl, .inl (Sz.seq hq), z, _, _, rfl, rfl, Lz, by omega, by omega, ?_, fun b nb => ?_⟩
    · rw [hlm, sizeLine_eq]; show 1 * _ ≤ _; omega
    have eb : (List.replicate (((ns.map nv).length : Nat) : Int).toNat [V.int 0]).flatten = List.replicate ns.length (V.int 0) := by
      rw [hlm]
      show (List.replicate ns.length [V.int 0]).flatten = _
      induction ns.length with
      | zero => rfl
      | succ n ih => rw [List.replicate_succ, List.flatten_cons, ih, List.replicate_succ]; rfl
    rw [eb]
    have Sb : Same H (upd H1 b (.lst (List.replicate ns.length (V.int 0)))) := Sz.trans (same_upd nb)
    have Lb : upd H1 b (.lst (List.replicate ns.length (V.int 0))) b = some (.lst (List.replicate ns.length (V.int 0))) := upd_same
    have fb : H b = none := Sz.free nb
    generalize upd H1 b (.lst (List.replicate ns.length (V.int 0))) = H2 at *
    have en : ((((ns.map nv).length : Nat) : Int) - 0).toNat = ns.length := by rw [hlm]; omega
    refine ⟨_, rfl, _, _, rfl, .inl (Sb.seq hq), _, rfl, by decide, by decide, by omega, by omega, for_rangeC (lo := (0 : Int) + (((((ns.map nv).length : Nat) : Int) - 0).toNat : Nat) - 1) (c := -1) (n := ((((ns.map nv).length : Nat) : Int) - 0).toNat)
      (fun i σ H' => ∃ (v v2 : Option V) (L : List V), σ = [some (.ref a), some (.ref b), v, v2] ∧ Same H H' ∧ H' b = some (.lst L) ∧ L.length = ns.length ∧ ∀ j, ns.length ≤ j + i → j < ns.length → L[j]? = some (.int (E j : Nat)))
      ⟨none, none, _, rfl, Sb, Lb, List.length_replicate .., fun j h1 h2 => absurd h2 (by omega)⟩ ?_ ?_⟩
    · rintro i σ H' hi ⟨v, v2, L, rfl, S3, L3, hL, hE⟩
      rw [en] at hi
      obtain ⟨m, hm⟩ : ∃ m : Nat, m + i + 1 = ns.length := ⟨ns.length - 1 - i, by omega⟩
      have eat : ((0 : Int) + (((((ns.map nv).length : Nat) : Int) - 0).toNat : Nat) - 1) + (i : Nat) * (-1) = (m : Int) := by rw [en]; omega
      rw [eat]
      have hml : m < ns.length := by omega
      obtain ⟨n, hn⟩ : ∃ n, ns[m]? = some n := ⟨ns[m], List.getElem?_eq_getElem hml⟩
      have hnv : (ns.map nv)[m]? = some (nv n) := by rw [List.getElem?_map, hn]; rfl
      obtain ⟨hj, hEm⟩ := he.ex m n hn
      have hn2 := he.le n (List.mem_of_getElem? hn)
      have q3 := S3.seq hq
      have ixm : ixN L.length (m : Int) = some m := ixN_lt (by omega)
      refine ⟨_, rfl, _, _, rfl, rfl, _, rfl, _, rfl, b, _, _, m, rfl, rfl, L3, ixm, ?_⟩
      have off : ∀ c o, H c = some o → c ≠ b := fun c o hc => ne_of_none hc fb
      refine ⟨_, rfl, _, rfl, a, _, _, _, rfl, rfl, (show SqL K _ a _ from Same.seq (fun c o hc => by rw [upd_ne (off c o hc)]; exact S3 c o hc) hq), atI_nat hnv, n, rfl, by omega, by omega, for_range (lo := 0) (n := ((n : Nat) : Int).toNat)
        (fun j σ H' => ∃ (v2 : Option V) (L : List V), σ = [some (.ref a), some (.ref b), some (.int (m : Nat)), v2] ∧ Same H H' ∧ H' b = some (.lst L) ∧ L.length = ns.length ∧ L[m]? = some (.int (itE E m j : Nat)) ∧ ∀ j, m < j → j < ns.length → L[j]? = some (.int (E j : Nat))) ?_ ?_ ?_⟩
      · refine ⟨_, _, rfl, fun c o hc => by rw [upd_ne (off c o hc)]; exact S3 c o hc, upd_same, by rw [List.length_set]; exact hL, List.getElem?_set_self (by omega), fun j h1 h2 => ?_⟩
        rw [List.getElem?_set_ne (by omega)]
        exact hE j (by omega) h2
      · rintro j σ H4 hjn ⟨v2, L4, rfl, S4, L4h, hL4, hm4, hE4⟩
        obtain ⟨j1, j2⟩ := hj j (by omega)
        have ixm4 : ixN L4.length (m : Int) = some m := ixN_lt (by omega)
        refine ⟨_, rfl, _, rfl, _, rfl, b, _, _, _, rfl, rfl, SqL.of L4h, atI_nat hm4, b, _, _, _, rfl, rfl, SqL.of L4h, atI_nat (hE4 _ j1 j2), _, rfl, _, rfl, b, _, _, m, rfl, rfl, L4h, ixm4, ?_⟩
        refine ⟨_, _, rfl, fun c o hc => by rw [upd_ne (off c o hc)]; exact S4 c o hc, upd_same, by rw [List.length_set]; exact hL4, List.getElem?_set_self (by omega), fun j' h1 h2 => ?_⟩
        rw [List.getElem?_set_ne (by omega)]
        exact hE4 j' h1 h2
      · rintro σ H4 ⟨v2, L4, rfl, S4, L4h, hL4, hm4, hE4⟩
        refine ⟨_, _, _, rfl, S4, L4h, hL4, fun j h1 h2 => ?_⟩
        by_cases hjm : j = m
        · subst hjm
          rw [hm4, hEm]
          rfl
        · exact hE4 j (by omega) h2
    · rintro σ H' ⟨v, v2, L, rfl, S3, L3, hL, hE⟩
      rw [en] at hE
      have eL : L = endsV ns.length E := by
        apply List.ext_getElem?
        intro j
        by_cases hj : j < ns.length
        · rw [hE j (by omega) hj, endsV_get hj]
        · rw [List.getElem?_eq_none (by omega), List.getElem?_eq_none (by rw [endsV_len]; omega)]
      refine ⟨_, rfl, _, _, rfl, SqL.of L3, fun q o nq ho => ?_⟩
      rw [eL]
      exact k _ q (S3.trans (same_upd nq)) (S3.free nq) (TupF.new ho)
end Kk

set_option maxHeartbeats 4000000
namespace Kk
open PySem PySem.Spec PyProof.Rows L2 Wd
theorem cut_from {xs : List V} {c : Nat} : cutV xs (some (c : Int)) none = xs.drop c := by
  unfold cutV
  rw [HT.sIx_nat, HT.sIx_none]
  by_cases h : c ≤ xs.length
  · rw [Nat.min_eq_left h]
    exact List.take_of_length_le (by rw [List.length_drop]; exact Nat.le_refl _)
  · rw [Nat.min_eq_right (by omega), Nat.sub_self, List.take_zero, List.drop_of_length_le (by omega)]
theorem cut_to {xs : List V} {c : Nat} : cutV xs none (some (c : Int)) = xs.take c := by
  unfold cutV
  rw [HT.sIx_nat, HT.sIx_none, List.drop_zero, Nat.sub_zero]
  by_cases h : c ≤ xs.length
  · rw [Nat.min_eq_left h]
  · rw [Nat.min_eq_right (by omega), List.take_length, List.take_of_length_le (by omega)]
abbrev Entry := Addr × Addr × List Nm × Nat
def pyl (X : List Entry) : List V := X.reverse.map (fun x => V.ref x.1)
theorem pyl_cons (x : Entry) (X : List Entry) : pyl (x :: X) = pyl X ++ [.ref x.1] := by simp [pyl]
structure Off (p g u f w b : Addr) : Prop where
  p : b ≠ p
  g : b ≠ g
  u : b ≠ u
  f : b ≠ f
  w : b ≠ w
structure Ent (p g u f w : Addr) (H : Hp) (x : Entry) : Prop where
  t : H x.1 = some (.tup [.ref x.2.1, .int (x.2.2.2 : Nat)])
  r : H x.2.1 = some (.lst (x.2.2.1.map sv))
  ot : Off p g u f w x.1
  or : Off p g u f w x.2.1
  le : x.2.2.1.length ≤ x.2.2.2 + 1
/-- all that is off these is as it was -/
def Fro (p g u f w : Addr) (H H' : Hp) : Prop := ∀ b o, H b = some o → Off p g u f w b → H' b = some o
section
variable {p g u f w : Addr} {H H1 H2 : Hp}
theorem Fro.trans (a : Fro p g u f w H H1) (b : Fro p g u f w H1 H2) : Fro p g u f w H H2 := fun c o h k => b c o (a c o h k) k
theorem Fro.same (a : Same H H1) : Fro p g u f w H H1 := fun b o h _ => a b o h
theorem Fro.keep (a : Keep p g H H1) : Fro p g u f w H H1 := fun b o h k => a b o h k.p k.g
theorem Fro.updw {o : HO} : Fro p g u f w H (upd H w o) := fun b x h k => by rw [upd_ne k.w]; exact h
theorem Fro.updf {o : HO} : Fro p g u f w H (upd H f o) := fun b x h k => by rw [upd_ne k.f]; exact h
theorem Ent.fro {x : Entry} (a : Fro p g u f w H H1) (e : Ent p g u f w H x) : Ent p g u f w H1 x := ⟨a _ _ e.t e.ot, a _ _ e.r e.or, e.ot, e.or, e.le⟩
end
/-- the addresses that are written, apart -/
structure Apart (p g s u f w : Addr) (H0 : Hp) : Prop where
  fp : f ≠ p
  fg : f ≠ g
  fs : f ≠ s
  fu : f ≠ u
  fw : f ≠ w
  wp : w ≠ p
  wg : w ≠ g
  ws : w ≠ s
  wu : w ≠ u
  up : u ≠ p
  ug : u ≠ g
  us : u ≠ s
  nf : H0 f = none
  nw : H0 w = none
structure WI (p g s u f w : Addr) (names : List Nm) (gv : Nat) (H0 H : Hp) (i : Nat) (F : List W) (X : List Entry) : Prop where
  pot : PotAt H p g s
  hf : H f = some (.lst (F.map wv))
  hw : H w = some (.lst (pyl X))
  hu : H u = some (.lst ((names ++ takesOf F).map sv))
  ent : ∀ x ∈ X, Ent p g u f w H x
  nd : (names ++ takesOf F).Nodup
  ok : ∀ n ∈ names ++ takesOf F, nmOk n
  len : F.length = i
  cst : costs (X.map (·.2.2)) + i + names.length = 3 * gv + 2
  pre : Pre (names, gv) F (X.map (·.2.2))
  kp : ∀ b o, H0 b = some o → b ≠ p → b ≠ g → b ≠ u → H b = some o
theorem costs_app (a b : List (List Nm × Nat)) : costs (a ++ b) = costs a + costs b := by
  induction a with
  | nil => simp [costs]
  | cons x a ih => simp [costs, ih]; omega
theorem WI.next {p g s u f w : Addr} {names : List Nm} {gv : Nat} {H0 H H' : Hp} {i : Nat} {F F' : List W} {x : Entry} {X Y : List Entry} (A : Apart p g s u f w H0) (I : WI p g s u f w names gv H0 H i F (x :: X))
    (fr : Fro p g u f w H H') (pot : PotAt H' p g s) (hf : H' f = some (.lst (F'.map wv))) (hw : H' w = some (.lst (pyl (Y ++ X)))) (hu : H' u = some (.lst ((names ++ takesOf F').map sv)))
    (ey : ∀ y ∈ Y, Ent p g u f w H' y) (nd : (names ++ takesOf F').Nodup) (ok : ∀ n ∈ names ++ takesOf F', nmOk n) (len : F'.length = i + 1) (cst : costs (Y.map (·.2.2)) + 1 = cost x.2.2)
    (pre : Pre (names, gv) F' ((Y ++ X).map (·.2.2))) : WI p g s u f w names gv H0 H' (i + 1) F' (Y ++ X) where
  pot := pot
  hf := hf
  hw := hw
  hu := hu
  ent := fun y hy => by
    rcases List.mem_append.mp hy with h | h
    · exact ey y h
    · exact (I.ent y (List.mem_cons_of_mem _ h)).fro fr
  nd := nd
  ok := ok
  len := len
  cst := by
    have c := I.cst
    rw [List.map_append, costs_app]
    simp only [List.map_cons, costs] at c
    omega
  pre := pre
  kp := fun b o h b1 b2 b3 => fr b o (I.kp b o h b1 b2 b3) ⟨b1, b2, b3, ne_of_none h A.nf, ne_of_none h A.nw⟩
theorem WI.offNew {p g s u f w : Addr} {H' : Hp} {b : Addr} (PA : PotAt H' p g s) {uf wf uu : HO} (hf : H' f = some uf) (hw : H' w = some wf) (hu : H' u = some uu) (n : H' b = none) : Off p g u f w b := by
  obtain ⟨⟨G, S, t, r, z1, z2, z3, z4⟩, _, _, _⟩ := PA
  exact ⟨(ne_of_none z1 n).symm, (ne_of_none z2 n).symm, (ne_of_none hu n).symm, (ne_of_none hf n).symm, (ne_of_none hw n).symm⟩
/-- behind the pop -/
structure Mid (p g s u f w : Addr) (names : List Nm) (F : List W) (X : List Entry) (x : Entry) (H H' : Hp) : Prop where
  pot : PotAt H' p g s
  hf : H' f = some (.lst (F.map wv))
  hw : H' w = some (.lst (pyl X))
  hu : H' u = some (.lst ((names ++ takesOf F).map sv))
  e : Ent p g u f w H' x
  fr : Fro p g u f w H H'
theorem Mid.keep {p g s u f w : Addr} {names : List Nm} {F : List W} {X : List Entry} {x : Entry} {H H0 H' H'' : Hp} (A : Apart p g s u f w H0) (M : Mid p g s u f w names F X x H H') (P : PotAt H'' p g s) (k : Keep p g H' H'') : Mid p g s u f w names F X x H H'' :=
  ⟨P, k _ _ M.hf A.fp A.fg, k _ _ M.hw A.wp A.wg, k _ _ M.hu A.up A.ug, M.e.fro (Fro.keep k), M.fr.trans (Fro.keep k)⟩
theorem Mid.same {p g s u f w : Addr} {names : List Nm} {F : List W} {X : List Entry} {x : Entry} {H H' H'' : Hp} (M : Mid p g s u f w names F X x H H') (k : Same H' H'') : Mid p g s u f w names F X x H H'' :=
  ⟨M.pot.keep k, k _ _ M.hf, k _ _ M.hw, k _ _ M.hu, M.e.fro (Fro.same k), M.fr.trans (Fro.same k)⟩
theorem int0 (n : Nat) : decide (V.int (n : Int) = V.int 0) = decide (n = 0) := by
  by_cases h : n = 0
  · subst h; simp
  · rw [decide_eq_false h]
    exact decide_eq_false (fun e => h (by have := V.int.inj e; omega))
theorem int1 (n : Nat) : decide (V.int (n : Int) = V.int 1) = decide (n = 1) := by
  by_cases h : n = 1
  · subst h; simp
  · rw [decide_eq_false h]
    exact decide_eq_false (fun e => h (by have := V.int.inj e; omega))
def spWords : Sp := fun vs H Q _ => ∃ (p g s m u : Addr) (names : List Nm) (gv : Nat), vs = [.ref p, .ref m, .int (gv : Nat), .ref u] ∧ PotAt H p g s ∧ H m = some (.lst (names.map sv)) ∧ H u = some (.lst (names.map sv)) ∧ m ≠ p ∧ m ≠ g ∧ m ≠ u ∧ u ≠ p ∧ u ≠ g ∧ gv ≤ 333 ∧ names.length ≤ gv + 1 ∧ names.length ≤ 60 ∧ names.Nodup ∧ (∀ n ∈ names, nmOk n) ∧
  ∀ (H' : Hp) (q : Addr) (ws : List W), Gen names gv ws → PotAt H' p g s → H' u = some (.lst ((names ++ takesOf ws).map sv)) → TupF H' q (ws.map wv) → (∀ b o, H b = some o → b ≠ p → b ≠ g → b ≠ u → H' b = some o) → Q (.ref q) H'
theorem enc_ap : Str.ofString "@" = enc .ap := TL.ext_tl (by rw [TL.tl_ofString]; rfl)
theorem enc_tk' (n : Nm) : Str.ofString "/" ++ str n = enc (.tk n) := TL.ext_tl (by rw [TL.tl_append, TL.tl_ofString]; rfl)
theorem bigN : (2000 : Nat) < 2 ^ 200 := by decide +kernel
end Kk

set_option maxHeartbeats 2000000
namespace Kk
open PySem PySem.Spec PyProof.Rows L2 Wd
def spSize : Sp := fun vs H Q _ => ∃ (p g s : Addr) (m : Nat), vs = [.ref p, .int (m : Int)] ∧ PotAt H p g s ∧ m ≤ 333 ∧
  ∀ (H' : Hp) (n : Nat), n ≤ max m 9 → PotAt H' p g s → Keep p g H H' → Q (.int (n : Int)) H'
def spProgram : Sp := fun vs H Q _ => ∃ (p g s : Addr) (m k : Nat), vs = [.ref p, .int (m : Int), .int (k : Int)] ∧ PotAt H p g s ∧ m ≤ 333 ∧ k ≤ 50 ∧
  ∀ (H' : Hp) (q : Addr) (names : List Nm) (gv : Nat) (ws : List W), Gen names gv ws → gv ≤ max m 9 → names.length ≤ k → PotAt H' p g s → TupF H' q (ws.map wv) → Keep p g H H' → Q (.ref q) H'
end Kk

set_option maxHeartbeats 2000000
namespace Kk
open PySem PySem.Spec PyProof.Rows L2 Wd
theorem PotAt.offs {H : Hp} {p g s q : Addr} {o : HO} (h : PotAt H p g s) (e : H q = some o) (hn : ∀ xs, o ≠ .lst xs) : q ≠ p ∧ q ≠ g := by
  obtain ⟨⟨G, S, t, r, z1, z2, z3, z4⟩, _, _, _⟩ := h
  exact ⟨ne_of e z1 (hn _), ne_of e z2 (hn _)⟩
theorem PotAt.new {H : Hp} {p g s q : Addr} (h : PotAt H p g s) (e : H q = none) : q ≠ p ∧ q ≠ g ∧ q ≠ s := by
  obtain ⟨⟨G, S, t, r, z1, z2, z3, z4⟩, _, _, _⟩ := h
  exact ⟨(ne_of_none z1 e).symm, (ne_of_none z2 e).symm, (ne_of_none z3 e).symm⟩
theorem Keep.free {H H1 : Hp} {p g s q : Addr} (k : Keep p g H H1) (P : PotAt H1 p g s) (e : H1 q = none) : H q = none := by
  cases h : H q with
  | none => rfl
  | some o =>
    obtain ⟨n1, n2, _⟩ := P.new e
    rw [k q o h n1 n2] at e
    cases e
theorem Keep.nw {H H1 : Hp} {p g q : Addr} {o : HO} (k : Keep p g H H1) (e : H q = none) : Keep p g H (upd H1 q o) := fun b u hb h1 h2 => by
  rw [upd_ne (ne_of_none hb e)]
  exact k b u hb h1 h2
theorem Same.nw {H H1 : Hp} {q : Addr} {o : HO} (k : Same H H1) (e : H q = none) : Same H (upd H1 q o) := fun b u hb => by
  rw [upd_ne (ne_of_none hb e)]
  exact k b u hb
theorem TupF.keepP {H H' : Hp} {p g s a : Addr} {xs : List V} (h : TupF H a xs) (P : PotAt H p g s) (k : Keep p g H H') : TupF H' a xs := by
  obtain ⟨o, h2, d2⟩ := h
  obtain ⟨q1, q2⟩ := P.offs h2 (fun _ q => nomatch q)
  exact ⟨o, k _ _ h2 q1 q2, d2⟩
end Kk

set_option maxHeartbeats 4000000
/-! words drawn by a recursion -/
namespace Kk
open PySem PySem.Spec PyProof.Rows L2 Wd
def spWordsR (K : PySem.W.Frag) (m : Nat) : Sp := fun vs H Q _ => ∃ (p g s q u : Addr) (names us : List Nm) (gv : Nat), vs = [.ref p, .ref q, .int (gv : Nat), .ref u] ∧ PotAt H p g s ∧ TupF H q (names.map sv) ∧ H u = some (.lst (us.map sv)) ∧ u ≠ p ∧ u ≠ g ∧
  names.length ≤ gv + 1 ∧ us.length + (gv + 1 - names.length) ≤ 26 ∧ (gv + 1) * (gv + 4) ≤ 2 * (names.length + m) ∧ gv ≤ 30 ∧ (∀ n ∈ names, n.length ≤ 8) ∧
  ∀ (H' : Hp) (r : Addr) (t : T) (us' : List Nm), GenR names gv us.length t → PotAt H' p g s → H' u = some (.lst (us'.map sv)) → us'.length = us.length + (gv + 1 - names.length) → TupF H' r (t.ws.map wv) → Ke p g u H H' → Q (.ref r) H'
theorem sv_q : V.str ("q" : Str) = sv [113] := by
  refine congrArg V.str (TL.ext_tl ?_)
  rw [TL.tl_ofString]; rfl
theorem str_app (a b : Nm) : str a ++ str b = str (a ++ b) := TL.ext_tl (by rw [TL.tl_append]; rfl)
theorem sv_sl (n : Nm) : V.str (("/" : Str) ++ str n) = wv (.tk n) := congrArg V.str (TL.ext_tl (by rw [TL.tl_append, slash]; rfl))
theorem wv_at : V.str ("@" : Str) = wv .ap := congrArg V.str (TL.ext_tl (by rw [at_sign]; rfl))
theorem PotAt.tupNe {H : Hp} {p g s q : Addr} {xs : List V} (h : PotAt H p g s) (t : TupF H q xs) : q ≠ p ∧ q ≠ g ∧ q ≠ s := by
  obtain ⟨⟨G, S, t0, r, h1, h2, h3, h4⟩, _, _, _⟩ := h
  exact ⟨t.ne_lst h1, t.ne_lst h2, t.ne_lst h3⟩
theorem PotAt.freeNe {H : Hp} {p g s q : Addr} (h : PotAt H p g s) (t : H q = none) : q ≠ p ∧ q ≠ g ∧ q ≠ s := by
  obtain ⟨⟨G, S, t0, r, h1, h2, h3, h4⟩, _, _, _⟩ := h
  exact ⟨(ne_of_none h1 t).symm, (ne_of_none h2 t).symm, (ne_of_none h3 t).symm⟩
theorem TupF.ke {p g u : Addr} {H H' : Hp} {a : Addr} {xs : List V} (h : TupF H a xs) (k : Ke p g u H H') (h1 : a ≠ p) (h2 : a ≠ g) (h3 : a ≠ u) : TupF H' a xs := by
  obtain ⟨o, h, d⟩ := h
  exact ⟨o, k _ _ h h1 h2 h3, d⟩
section
variable {P : Program} {w : World} {K : PySem.W.Frag} {mg : Str → Option Value} {base : Heap}
end
end Kk

set_option maxHeartbeats 4000000
/-! any item of a list or of a tuple -/
namespace Kk
open PySem PySem.Spec PyProof.Rows L2 Wd
theorem TupF.wrL {H : Hp} {b l : Addr} {xs ys zs : List V} (t : TupF H b xs) (hl : H l = some (.lst ys)) : TupF (upd H l (.lst zs)) b xs := by
  have ne := t.ne_lst hl
  obtain ⟨o, e, d⟩ := t
  exact ⟨o, by rw [upd_ne ne]; exact e, d⟩
section
variable {P : Program} {w : World} {K : PySem.W.Frag} {mg : Str → Option Value} {base : Heap}
def spAnyV : Sp := fun vs H Q _ => ∃ (p g s r : Addr) (xs : List V), vs = [.ref p, .ref r] ∧ PotAt H p g s ∧ H r = some (.lst xs) ∧ r ≠ p ∧ r ≠ g ∧ 0 < xs.length ∧ xs.length ≤ 100000 ∧
  ∀ (H' : Hp) (v : V), v ∈ xs → PotAt H' p g s → Keep p g H H' → Q v H'
def spAnyT : Sp := fun vs H Q _ => ∃ (p g s r : Addr) (xs : List V), vs = [.ref p, .ref r] ∧ PotAt H p g s ∧ TupF H r xs ∧ 0 < xs.length ∧ xs.length ≤ 100000 ∧
  ∀ (H' : Hp) (v : V), v ∈ xs → PotAt H' p g s → Keep p g H H' → Q v H'
abbrev s_anyV : Stmt := (top 28)
theorem sc_anyV : FnScope ["_law_pot_here", "_law_items"] ["_law_pot_here", "_law_items"] (defScope s_anyV) := ⟨rfl, rfl, rfl, by decide +kernel, rfl, by decide +kernel, by decide +kernel⟩
theorem c_anyV (B : Bt mg) (D : DefAt K mg "_law_any" s_anyV) (C_law_draw : Cal P w K mg base "_law_draw" 1 ["_law_pot_here", "_law_many"] spDraw) : Cal P w K mg base "_law_any" 2 ["_law_pot_here", "_law_items"] spAnyV := by
  refine cal_of D sc_anyV (fun _ _ _ _ _ _ us hl => match us, hl with | [_, _], _ => rfl) (fun vs H Q E h => ?_) (fun fa cdv A outer st0 H vs Q E hr h => ?_)
  · obtain ⟨p, g, s, r, ns, rfl, _⟩ := h
    rfl
  · obtain ⟨p, g, s, r, ns, rfl, PA, hR, rp, rg, pos, hl, k⟩ := h
    refine ⟨_, (pss_one (ps_ret (pe_ix ix_list (pv 1) (pe_c C_law_draw (hr.mono (by decide)) (pa_cons (pv 0) (pa_cons (pe_callB call_len_seq (by rfl) B.b_len (by decide +kernel) (pa_cons (pv 1) pa_nil)) pa_nil))) (fun _ _ => rfl)))), ?_⟩
    have big := bigN
    refine ⟨_, rfl, _, rfl, _, rfl, r, _, rfl, .inl (SqL.of hR), p, g, s, _, rfl, PA, by omega, by omega, fun H1 j P1 K1 j0 j1 => ?_⟩
    obtain ⟨j, rfl⟩ : ∃ n : Nat, j = (n : Int) := ⟨j.toNat, by omega⟩
    have hj : j < ns.length := by omega
    have hn : ns[j]? = some ns[j] := List.getElem?_eq_getElem hj
    exact ⟨r, _, _, _, rfl, rfl, SqL.of (K1 _ _ hR rp rg), atI_nat hn, k H1 ns[j] (List.getElem_mem hj) P1 K1⟩
theorem c_any__T (B : Bt mg) (D : DefAt K mg "_law_any" s_anyV) (C_law_draw : Cal P w K mg base "_law_draw" 1 ["_law_pot_here", "_law_many"] spDraw) : Cal P w K mg base "_law_any" 2 ["_law_pot_here", "_law_items"] spAnyT := by
  refine cal_of D sc_anyV (fun _ _ _ _ _ _ us hl => match us, hl with | [_, _], _ => rfl) (fun vs H Q E h => ?_) (fun fa cdv A outer st0 H vs Q E hr h => ?_)
  · obtain ⟨p, g, s, r, ns, rfl, _⟩ := h
    rfl
  · obtain ⟨p, g, s, r, ns, rfl, PA, hR, pos, hl, k⟩ := h
    refine ⟨_, (pss_one (ps_ret (pe_ix ix_tup (pv 1) (pe_c C_law_draw (hr.mono (by decide)) (pa_cons (pv 0) (pa_cons (pe_callB call_len_seq (by rfl) B.b_len (by decide +kernel) (pa_cons (pv 1) pa_nil)) pa_nil))) (fun _ _ => rfl)))), ?_⟩
    have big := bigN
    refine ⟨_, rfl, _, rfl, _, rfl, r, _, rfl, .inr hR.sq, p, g, s, _, rfl, PA, by omega, by omega, fun H1 j P1 K1 j0 j1 => ?_⟩
    obtain ⟨j, rfl⟩ : ∃ n : Nat, j = (n : Int) := ⟨j.toNat, by omega⟩
    have hj : j < ns.length := by omega
    have hn : ns[j]? = some ns[j] := List.getElem?_eq_getElem hj
    exact ⟨r, _, _, _, rfl, rfl, (hR.keepP PA K1).sq, atI_nat hn, k H1 ns[j] (List.getElem_mem hj) P1 K1⟩
end
end Kk

set_option maxHeartbeats 2000000
/-! what a number is, of any thing -/
namespace Kk
open PySem PySem.Spec PyProof.Rows L2
def isNumV : V → Bool
  | .int i => decide (0 ≤ i)
  | _ => false
def isIntV : V → Bool
  | .int _ => true
  | _ => false
theorem num_of_int {x : V} (h : isIntV x = false) : isNumV x = false := by
  cases x <;> first | rfl | exact absurd h (by simp [isIntV])
theorem isNum_int {i : Int} (h : 0 ≤ i) : isNumV (.int i) = true := by
  show decide (0 ≤ i) = true
  exact decide_eq_true h
/-- what isinstance tells of a thing: whether it is an int, a bool -/
structure NumT (K : PySem.W.Frag) (H : Hp) (x : V) : Prop where
  ex : ∃ (t : Value) (bi bb : Bool), TyX K H x t ∧ PySem.W.kitOne K t (.type "int") = some bi ∧ PySem.W.kitOne K t (.type "bool") = some bb ∧ ((bi = true ∧ bb = false ∧ ∃ i, x = .int i) ∨ ((bi = false ∨ bb = true) ∧ isIntV x = false))
section
variable {K : PySem.W.Frag} {H : Hp}
theorem kitII : kitB "int" "int" = some true := by decide +kernel
theorem kitIB : kitB "int" "bool" = some false := by decide +kernel
theorem NumT.int (i : Int) : NumT K H (.int i) := ⟨_, true, false, .base (.int i), kit_ty kitII, kit_ty kitIB, .inl ⟨rfl, rfl, i, rfl⟩⟩
theorem NumT.bl (b : Bool) : NumT K H (.bl b) := ⟨_, true, true, .base (.bl b), kit_ty (by decide +kernel), kit_ty (by decide +kernel), .inr ⟨.inr rfl, rfl⟩⟩
theorem NumT.non : NumT K H .non := ⟨_, false, false, .base .non, kit_ty (by decide +kernel), kit_ty (by decide +kernel), .inr ⟨.inl rfl, rfl⟩⟩
theorem NumT.str (z : Str) : NumT K H (.str z) := ⟨_, false, false, .base (.str z), kit_ty (by decide +kernel), kit_ty (by decide +kernel), .inr ⟨.inl rfl, rfl⟩⟩
theorem NumT.lst {a : Addr} {xs : List V} (h : H a = some (.lst xs)) : NumT K H (.ref a) := ⟨_, false, false, .base (.lst h), kit_ty (by decide +kernel), kit_ty (by decide +kernel), .inr ⟨.inl rfl, rfl⟩⟩
theorem NumT.tup {a : Addr} {xs : List V} (h : H a = some (.tup xs)) : NumT K H (.ref a) := ⟨_, false, false, .base (.tup h), kit_ty (by decide +kernel), kit_ty (by decide +kernel), .inr ⟨.inl rfl, rfl⟩⟩
theorem NumT.tupF {a : Addr} {o : Obj} {xs : List V} (h : H a = some (.frz o (.tup xs))) : NumT K H (.ref a) := ⟨_, false, false, .fTuple h, kit_ty (by decide +kernel), kit_ty (by decide +kernel), .inr ⟨.inl rfl, rfl⟩⟩
theorem NumT.dK {a : Addr} {kvs : List (Key × V)} (h : H a = some (.dK kvs)) : NumT K H (.ref a) := ⟨_, false, false, .base (.dK h), kit_ty (by decide +kernel), kit_ty (by decide +kernel), .inr ⟨.inl rfl, rfl⟩⟩
end
/-- of any thing -/
def spNumG (K : PySem.W.Frag) : Sp := fun vs H Q _ => ∃ x : V, vs = [x] ∧ NumT K H x ∧ Q (.bl (isNumV x)) H
abbrev s_is_number : Stmt := (top 1)
theorem sc_is_number : FnScope ["thing"] ["thing"] (defScope s_is_number) := ⟨rfl, rfl, rfl, by decide +kernel, rfl, by decide +kernel, by decide +kernel⟩
theorem c_is_number {P w K mg base} (B : Bt mg) (D : DefAt K mg "is_number" s_is_number) : Cal P w K mg base "is_number" 1 ["thing"] (spNumG K) := by
  refine cal_of D sc_is_number (fun _ _ _ _ _ _ us hl => match us, hl with | [_], _ => rfl) (fun vs H Q E h => ?_) (fun fa cdv A outer st0 H vs Q E hr h => ?_)
  · obtain ⟨i, rfl, _⟩ := h
    rfl
  · obtain ⟨x, rfl, ⟨t, bi, bb, ty, h1, h2, h3⟩, k⟩ := h
    refine ⟨_, (pss_one (ps_ret (pe_and (pe_callB call_isi (by rfl) B.b_isinstance (by decide +kernel) (pa_cons (pv 0) (pa_cons (pe_ty (n := "int") B.b_int (by decide +kernel)) pa_nil))) (pe_and (pe_not (pe_callB call_isi (by rfl) B.b_isinstance (by decide +kernel) (pa_cons (pv 0) (pa_cons (pe_ty (n := "bool") B.b_bool (by decide +kernel)) pa_nil)))) (pe_one (pe_cmpR op_ge (pv 0) pe_int (nomark _))))))), ?_⟩
    refine ⟨_, rfl, _, _, _, _, bi, rfl, .ty _, ty, h1, _, rfl, ?_⟩
    rcases h3 with ⟨rfl, rfl, i, rfl⟩ | ⟨h3, h4⟩
    · refine iteT ⟨_, rfl, _, _, _, _, false, rfl, .ty _, ty, h2, _, rfl, _, rfl, iteT ?_⟩
      exact ⟨_, rfl, _, _, rfl, rfl, k⟩
    · rw [num_of_int h4] at k
      cases bi with
      | false => exact iteF k
      | true =>
        have : bb = true := h3.resolve_left (by simp)
        subst this
        exact iteT ⟨_, rfl, _, _, _, _, true, rfl, .ty _, ty, h2, _, rfl, _, rfl, iteF k⟩
end Kk

set_option maxHeartbeats 4000000
/-! kinds: their words, the class -/
namespace Kk
open PySem PySem.Spec PyProof.Rows L2 Wd
/-- a word of a kind -/
inductive KW
  | to
  | lt (n : Nat)
  deriving DecidableEq
def kv : KW → V
  | .to => .str ">"
  | .lt n => .int (n : Nat)
def sidesK : KW → Nat
  | .to => 2
  | .lt _ => 0
/-- the words of a kind -/
structure KOk (ks : List KW) : Prop where
  w : Wh 1 (ks.map sidesK)
  l : ks.length ≤ 4000
theorem KOk.pos {ks : List KW} (h : KOk ks) : 0 < ks.length := by
  have w := h.w
  cases ks with
  | nil => cases w
  | cons a l => simp
theorem kv_num (H : Hp) (K : PySem.W.Frag) (k : KW) : NumT K H (kv k) := by
  cases k with
  | to => exact NumT.str _
  | lt n => exact NumT.int _
theorem kitSSk : kitB "str" "str" = some true := by decide +kernel
theorem kitTTk : kitB "tuple" "tuple" = some true := by decide +kernel
theorem tyx_tupk {K : PySem.W.Frag} {H : Hp} {a : Addr} {xs : List V} (h : SqT K H a xs) : TyX K H (.ref a) (.type "tuple") := by
  rcases h with (h | ⟨o, h⟩) | ⟨o, its, n, h1, h2, _⟩
  · exact .base (.tup h)
  · exact .fTuple h
  · exact .kTuple h1 h2
theorem map_some' {α β : Type} (f : α → β) (l : List α) : l.filterMap (fun x => some (f x)) = l.map f := by
  induction l with
  | nil => rfl
  | cons a l ih => simp only [List.filterMap_cons, ih, List.map_cons]
structure PK (K : PySem.W.Frag) (mg : Str → Option Value) (C : Addr) : Prop where
  cl : Cls K C
  nw : NoAttr K C "words"
  mg : mg "Kind" = some (.ref C)
  ha : PySem.W.findIn K (.ref C) "__class__" = some (some (.builtin "object.__class__"))
  hn : PySem.W.specialIn K (.builtin "object.__class__") "__get__" = some (some (.builtin "getset_descriptor.__get__"))
  ht : PySem.W.takesIn K (.builtin "object.__class__") = some true
  hm : PySem.W.mroIn K C (.type "object") = some true
def kfs (a : Addr) : List (Str × V) := putF "words" (.ref a) []
theorem kfs_get (a : Addr) : (kfs a).lookup ("words" : Str) = some (.ref a) := by unfold kfs; rw [lookup_putF, if_pos rfl]
/-- at x stands a Kind, its words at a -/
def Kd (C : Addr) (H : Hp) (x a : Addr) : Prop := ∃ dx, H x = some (.ins C dx (kfs a))
theorem Kd.same {C : Addr} {H H' : Hp} {x a : Addr} (h : Kd C H x a) (k : Same H H') : Kd C H' x a := by
  obtain ⟨dx, h⟩ := h
  exact ⟨dx, k _ _ h⟩
/-- what isinstance tells of an own class, asked for a number -/
structure NiC (K : PySem.W.Frag) (C : Addr) : Prop where
  i : PySem.W.mroIn K C (.type "int") = some false
  b : PySem.W.mroIn K C (.type "bool") = some false
theorem NiC.int {K : PySem.W.Frag} {C : Addr} (h : NiC K C) : PySem.W.kitOne K (.ref C) (.type "int") = some false := by
  unfold PySem.W.kitOne PySem.W.kitCls
  rw [if_neg (show ¬ (Value.ref C == Value.type "int") = true from fun z => nomatch z)]
  show (if PySem.W.kitMeta "int" = true then PySem.W.mroIn K C (.type "int") else none) = _
  rw [if_pos (by decide +kernel)]
  exact h.i
theorem NiC.bool {K : PySem.W.Frag} {C : Addr} (h : NiC K C) : PySem.W.kitOne K (.ref C) (.type "bool") = some false := by
  unfold PySem.W.kitOne PySem.W.kitCls
  rw [if_neg (show ¬ (Value.ref C == Value.type "bool") = true from fun z => nomatch z)]
  show (if PySem.W.kitMeta "bool" = true then PySem.W.mroIn K C (.type "bool") else none) = _
  rw [if_pos (by decide +kernel)]
  exact h.b
theorem PK.numT {K : PySem.W.Frag} {mg : Str → Option Value} {C : Addr} (pk : PK K mg C) (n : NiC K C) {H : Hp} {x dx : Addr} {fs : List (Str × V)} (h : H x = some (.ins C dx fs)) : NumT K H (.ref x) :=
  ⟨_, false, false, .base (.ins h pk.cl pk.ha pk.hn pk.ht pk.hm), n.int, n.bool, .inr ⟨.inl rfl, rfl⟩⟩
section
variable {P : Program} {w : World} {K : PySem.W.Frag} {mg : Str → Option Value} {base : Heap}
/-- of a word that is one -/
def spKWord : Sp := fun vs H Q _ => ∃ k : KW, vs = [kv k] ∧ ∀ H', Same H H' → Q (.bl true) H'
abbrev s_is_kind_word : Stmt := (top 14)
theorem sc_is_kind_word : FnScope ["thing"] ["thing"] (defScope s_is_kind_word) := ⟨rfl, rfl, rfl, by decide +kernel, rfl, by decide +kernel, by decide +kernel⟩
theorem c_is_kind_word (B : Bt mg) (D : DefAt K mg "is_kind_word" s_is_kind_word) (Cis_number : Cal P w K mg base "is_number" 1 ["thing"] (spNumG K)) : Cal P w K mg base "is_kind_word" 2 ["thing"] spKWord := by
  refine cal_of D sc_is_kind_word (fun _ _ _ _ _ _ us hl => match us, hl with | [_], _ => rfl) (fun vs H Q E h => ?_) (fun fa cdv A outer st0 H vs Q E hr h => ?_)
  · obtain ⟨z, rfl, _⟩ := h
    rfl
  · obtain ⟨z, rfl, k⟩ := h
    refine ⟨_, (pss_one (ps_ret (pe_or (pe_c Cis_number (hr.mono (by decide)) (pa_cons (pv 0) pa_nil)) (pe_one (pe_and (pe_callB call_isi (by rfl) B.b_isinstance (by decide +kernel) (pa_cons (pv 0) (pa_cons (pe_ty (n := "str") B.b_str (by decide +kernel)) pa_nil))) (pe_one (pe_cmpR op_eq (pv 0) (pe_gs B.m_INTO) (nomark _)))))))), ?_⟩
    refine ⟨_, rfl, kv z, rfl, kv_num H K z, ?_⟩
    cases z with
    | to =>
      refine ⟨_, rfl, iteF ⟨_, rfl, _, _, _, _, true, rfl, .ty _, .base (.str _), kit_ty kitSSk, _, rfl, iteT ?_⟩⟩
      refine ⟨_, rfl, rfl, ?_⟩
      rw [decide_eq_true (show kv KW.to = V.str ">" from rfl)]
      exact k H (Same.refl H)
    | lt n =>
      have : isNumV (kv (.lt n)) = true := isNum_int (by omega)
      rw [this]
      exact ⟨_, rfl, iteT (k H (Same.refl H))⟩
def spSides : Sp := fun vs H Q _ => ∃ k : KW, vs = [kv k] ∧ ∀ H', Same H H' → Q (nv (sidesK k)) H'
abbrev s_sides_in : Stmt := (top 15)
theorem sc_sides_in : FnScope ["word"] ["word"] (defScope s_sides_in) := ⟨rfl, rfl, rfl, by decide +kernel, rfl, by decide +kernel, by decide +kernel⟩
theorem c_sides_in (B : Bt mg) (D : DefAt K mg "sides_in" s_sides_in) : Cal P w K mg base "sides_in" 1 ["word"] spSides := by
  refine cal_of D sc_sides_in (fun _ _ _ _ _ _ us hl => match us, hl with | [_], _ => rfl) (fun vs H Q E h => ?_) (fun fa cdv A outer st0 H vs Q E hr h => ?_)
  · obtain ⟨z, rfl, _⟩ := h
    rfl
  · obtain ⟨z, rfl, k⟩ := h
    refine ⟨_, (pss_one (ps_ret (pe_ifExp (pt_cmpR op_eq (pv 0) (pe_gs B.m_INTO) (nomark _)) pe_int pe_int))), ?_⟩
    have kk := k H (Same.refl H)
    cases z with
    | to =>
      refine ⟨_, rfl, rfl, _, rfl, ?_⟩
      rw [decide_eq_true (show kv KW.to = V.str ">" from rfl)]
      exact iteT kk
    | lt n =>
      refine ⟨_, rfl, rfl, _, rfl, ?_⟩
      rw [decide_eq_false (show ¬ kv (KW.lt n) = V.str ">" from fun z => nomatch z)]
      exact iteF kk
def spFineK (K : PySem.W.Frag) : Sp := fun vs H Q _ => ∃ (a : Addr) (ks : List KW), vs = [.ref a] ∧ SqT K H a (ks.map kv) ∧ KOk ks ∧ ∀ H', Same H H' → Q .non H'
abbrev s_fault_index : Stmt := (top 13)
theorem sc_fault_index : FnScope ["words", "at", "word"] ["words"] (defScope s_fault_index) := ⟨rfl, rfl, rfl, by decide +kernel, rfl, by decide +kernel, by decide +kernel⟩
theorem c_fault_index (B : Bt mg) (D : DefAt K mg "fault_index" s_fault_index) (Cis_kind_word : Cal P w K mg base "is_kind_word" 2 ["thing"] spKWord) (Csides_in : Cal P w K mg base "sides_in" 1 ["word"] spSides) (Cmisfit_index : Cal P w K mg base "misfit_index" 1 ["needs"] (spMisfit K)) :
    Cal P w K mg base "fault_index" 3 ["words"] (spFineK K) := by
  refine cal_of D sc_fault_index (fun _ _ _ _ _ _ us hl => match us, hl with | [_], _ => rfl) (fun vs H Q E h => ?_) (fun fa cdv A outer st0 H vs Q E hr h => ?_)
  · obtain ⟨a, ks, rfl, _⟩ := h
    rfl
  · obtain ⟨a, ks, rfl, hq, ok, k⟩ := h
    refine ⟨_, (pss_cons (ps_if (PW.pt (pw_or (pt_not (pt_val (pe_callB call_isi (by rfl) B.b_isinstance (by decide +kernel) (pa_cons (pv 0) (pa_cons (pe_ty (n := "tuple") B.b_tuple (by decide +kernel)) pa_nil))))) (pw_or1 (pt_not (pt_chain op_le op_le pe_int (pe_callB call_len_seq (by rfl) B.b_len (by decide +kernel) (pa_cons (pv 0) pa_nil)) (pe_gi B.m_MOST_WORDS)))))) (pss_one (ps_ret (pe_un un_neg pe_int))) pss_nil)
      (pss_cons (ps_for PassesOwn.never rfl (pi_enumT (by rfl) B.b_enumerate (pa_cons (pv 0) pa_nil)) (pg_tup (by rfl) (pgs_cons (pg_name (i := 1) sc_fault_index.nd rfl (by first | exact Or.inl rfl | exact Or.inr rfl)) (pgs_cons (pg_name (i := 2) sc_fault_index.nd rfl (by first | exact Or.inl rfl | exact Or.inr rfl)) pgs_nil))) (pss_one (ps_if (pt_not (pt_val (pe_c Cis_kind_word (hr.mono (by decide)) (pa_cons (pv 2) pa_nil)))) (pss_one (ps_ret (pv 1))) pss_nil)))
      (pss_one (ps_ret (pe_c Cmisfit_index (hr.mono (by decide)) (pa_cons (pe_lc (own := [("word", 2)]) (g := (gName 2)) (tt := tYes) rfl sc_fault_index.nd (pi_tup (pv 0)) (blkOk_by (own := [("word", 2)]) (N := ["words", "at", "word"]) (sc := defScope s_fault_index) (by decide +kernel)) (fun _ _ _ _ _ => (pg_name (i := 2) sc_fault_index.nd rfl (by first | exact Or.inl rfl | exact Or.inr rfl))) (fun _ _ _ _ _ => pts_nil) (fun _ _ _ _ _ => (pe_c Csides_in (hr.mono (by decide)) (pa_cons (pv 2) pa_nil)))) pa_nil)))))), ?_⟩
    have hlm : (ks.map kv).length = ks.length := List.length_map ..
    have pos := ok.pos
    have hl := ok.l
    refine ⟨_, rfl, _, _, _, _, true, rfl, .ty _, tyx_tupk hq, kit_ty kitTTk, _, rfl, iteF ?_⟩
    refine ⟨_, rfl, _, _, rfl, .inr hq, _, _, rfl, rfl, _, rfl, ?_⟩
    rw [hlm, decide_eq_true (show (1 : Int) ≤ (ks.length : Nat) by omega)]
    refine iteT ⟨_, _, rfl, rfl, _, rfl, ?_⟩
    rw [decide_eq_true (show ((ks.length : Nat) : Int) ≤ 4000 by omega)]
    refine iteF ?_
    refine ⟨_, rfl, a, _, rfl, hq, for_enumT (K := K) (a := a) (xs := ks.map kv) (fun i σ H' => ∃ v1 v2 : Option V, σ = [some (.ref a), v1, v2] ∧ Same H H') ⟨none, none, rfl, Same.refl H⟩ (fun i σ H' _ ⟨_, _, _, s⟩ => SqT.same hq s) ?_ ?_⟩
    · rintro i x σ H' T hx ⟨v1, v2, rfl, S1⟩ nT
      obtain ⟨u, hu, rfl⟩ := map_get hx
      have S2 : Same H (upd H' T (.tup [.int (i : Nat), kv u])) := S1.trans (same_upd nT)
      refine ⟨T, _, rfl, SqT.of upd_same, rfl, _, _, rfl, _, _, rfl, rfl, ?_⟩
      refine ⟨_, rfl, u, rfl, fun H3 S3 => ⟨true, rfl, iteF ?_⟩⟩
      exact ⟨_, _, rfl, S2.trans S3⟩
    · rintro σ H' ⟨v1, v2, rfl, S1⟩
      refine ⟨_, rfl, a, rfl, ⟨_, SqT.same hq S1⟩, fun Dl nDl => lc_fmT (f := kv) (r := fun u => some (nv (sidesK u))) (SqT.same hq S1) nDl (Nat.le_trans hl (by decide)) ?_ ?_⟩
      · rintro i u H2 Qy Qn hu S2 hy hn
        exact ⟨rfl, _, rfl, u, rfl, fun H3 S3 => hy _ _ S3 rfl⟩
      rintro H2 S2 L2
      rw [map_some'] at L2
      have e : ks.map (fun u => nv (sidesK u)) = (ks.map sidesK).map nv := by rw [List.map_map]; rfl
      rw [e] at L2
      refine ⟨Dl, ks.map sidesK, rfl, SqL.of L2, by rw [List.length_map]; exact Nat.le_trans hl (by decide), fun H3 S3 => ?_⟩
      rw [ok.w.mis 0]
      exact k H3 (S1.trans (S2.trans S3))
/-- all but x is as it was -/
def ButK (x : Addr) (H H' : Hp) : Prop := ∀ b o, H b = some o → b ≠ x → H' b = some o
def spKInit (K : PySem.W.Frag) (C : Addr) : Sp := fun vs H Q _ => ∃ (x dx a : Addr) (ks : List KW), vs = [.ref x, .ref a] ∧ H x = some (.ins C dx []) ∧ SqT K H a (ks.map kv) ∧ KOk ks ∧
  ∀ H', ButK x H H' → Kd C H' x a → Q .non H'
abbrev s_kindinit : Stmt := (inClass (top 11) 0)
theorem sc_kindinit : FnScope ["self", "words", "index"] ["self", "words"] (defScope s_kindinit) := ⟨rfl, rfl, rfl, by decide +kernel, rfl, by decide +kernel, by decide +kernel⟩
theorem c_kindinit {C f : Addr} {fd : FuncData} (B : Bt mg) (pk : PK K mg C) (F : Fun K "__init__" "Kind.__init__" s_kindinit f fd) (Cfault_index : Cal P w K mg base "fault_index" 3 ["words"] (spFineK K)) :
    FnOk P w K mg base CX0 4 f fd ["self", "words"] (spKInit K C) := by
  refine F.ok sc_kindinit (fun vs H Q E h => ?_) (fun cdv A outer st0 H vs Q E hr h => ?_)
  · obtain ⟨x, dx, a, ks, rfl, _⟩ := h
    rfl
  · obtain ⟨x, dx, a, ks, rfl, hx, hq, ok, k⟩ := h
    refine ⟨_, (pss_cons (ps_set (i := 2) sc_kindinit.nd rfl (by first | exact Or.inl rfl | exact Or.inr rfl) (pe_c Cfault_index (hr.mono (by decide)) (pa_cons (pv 1) pa_nil)))
      (pss_cons (ps_if (pt_cmpR op_notN (pv 2) pe_non (nomark _)) (pss_one ps_never) pss_nil)
      (pss_one (ps_fld (pv 0) (pv 1) rfl)))), ?_⟩
    refine ⟨_, rfl, a, ks, rfl, hq, ok, fun H1 S1 => ?_⟩
    refine ⟨_, rfl, rfl, _, rfl, iteF ?_⟩
    refine ⟨_, rfl, _, rfl, x, C, dx, [], rfl, S1 _ _ hx, pk.cl, pk.nw, (by show 0 < 1000; decide), ?_⟩
    refine k _ (fun b o hb hne => ?_) ⟨dx, upd_same⟩
    rw [upd_ne hne]
    exact S1 _ _ hb
end
theorem madeK_same {H : Hp} {x dx C : Addr} (nx : H x = none) (ndx : H dx = none) : Same H (upd (upd H dx (.own x)) x (.ins C dx [])) := fun b o e => by
  rw [upd_ne (ne_of_none e nx), upd_ne (ne_of_none e ndx)]
  exact e
theorem ButK.same {x : Addr} {H H1 H2 : Hp} (h : ButK x H1 H2) (s : Same H H1) (n : H x = none) : Same H H2 := fun b o e => h _ _ (s _ _ e) (ne_of_none e n)
theorem tyx_mono {K : PySem.W.Frag} {H H' : Hp} {x : V} {t : Value} (h : TyX K H x t) (k : ∀ a o, x = .ref a → H a = some o → H' a = some o) : TyX K H' x t := by
  cases h with
  | base b =>
    refine .base ?_
    cases b with
    | non => exact .non
    | bl y => exact .bl y
    | int i => exact .int i
    | str y => exact .str y
    | flt y => exact .flt y
    | lst e => exact .lst (k _ _ rfl e)
    | frz e => exact .frz (k _ _ rfl e)
    | tup e => exact .tup (k _ _ rfl e)
    | dK e => exact .dK (k _ _ rfl e)
    | dT e => exact .dT (k _ _ rfl e)
    | ins e cl ha hn htk hm => exact .ins (k _ _ rfl e) cl ha hn htk hm
  | byt b => exact .byt b
  | set e => exact .set (k _ _ rfl e)
  | kList e c => exact .kList e c
  | kTuple e c => exact .kTuple e c
  | kDict e c => exact .kDict e c
  | fTuple e => exact .fTuple (k _ _ rfl e)
  | fDict e => exact .fDict (k _ _ rfl e)
theorem NumT.mono {K : PySem.W.Frag} {H H' : Hp} {x : V} (h : NumT K H x) (k : ∀ a o, x = .ref a → H a = some o → H' a = some o) : NumT K H' x := by
  obtain ⟨t, bi, bb, ty, r⟩ := h
  exact ⟨t, bi, bb, tyx_mono ty k, r⟩
theorem NumT.same {K : PySem.W.Frag} {H H' : Hp} {x : V} (h : NumT K H x) (s : Same H H') : NumT K H' x := h.mono fun a o _ e => s a o e
theorem NumT.keep {K : PySem.W.Frag} {H H' : Hp} {x : V} {p g : Addr} (h : NumT K H x) (s : Keep p g H H') (h1 : x ≠ .ref p) (h2 : x ≠ .ref g) : NumT K H' x :=
  h.mono fun a o e q => s a o q (fun z => h1 (by rw [e, z])) (fun z => h2 (by rw [e, z]))
theorem NumT.tF {K : PySem.W.Frag} {H : Hp} {a : Addr} {xs : List V} (h : TupF H a xs) : NumT K H (.ref a) := by
  obtain ⟨o, h, _⟩ := h
  exact NumT.tupF h
/-- the class can be made -/
structure MkrK (P : Program) (w : World) (K : PySem.W.Frag) (mg : Str → Option Value) (base : Heap) (C : Addr) : Prop where
  ex : ∃ f fd, Mk K C f ∧ mg "Kind" = some (.ref C) ∧ Binds K fd ["self", "words"] [] ∧ FnOk P w K mg base CX0 4 f fd ["self", "words"] (spKInit K C)
theorem pe_mkK {X : Cx} {C : Addr} {e : Expr} {t : TA} {p pos : Pos} (M : MkrK X.prog X.w X.K X.mg X.base C) (hr : Room 5 X.A) (ha : PA X [e] t) (hg : Gl X "Kind" := by rfl)
    (he : starEach [e] X.env = (false, eval e X.env) :: starEach [] X.env := by rfl) (hpl : (backTo pos (starEach [] X.env)).any (·.1) = false := by rfl) :
    PE X (.Call (.Name "Kind" p) [e] [] pos) (tMake C (spKInit X.K C) [] E0 t) := by
  obtain ⟨f, fd, M, hm, hb, F⟩ := M
  exact pe_make M F hr hg hm hb .nil pass0 ha (by decide) he hpl
end Kk

set_option maxHeartbeats 4000000
/-! kinds as trees; kinds drawn -/
namespace Kk
open PySem PySem.Spec PyProof.Rows L2 Wd
inductive KT where
  | lt (n : Nat)
  | to (a b : KT)
def KT.ks : KT → List KW
  | .lt n => [.lt n]
  | .to a b => .to :: (a.ks ++ b.ks)
def ksL (ts : List KT) : List KW := ts.flatMap KT.ks
theorem ksL_cons (t : KT) (ts : List KT) : ksL (t :: ts) = t.ks ++ ksL ts := rfl
theorem wh_forest : ∀ (l : List KW) {c : Nat}, Wh c (l.map sidesK) → ∃ ts : List KT, ts.length = c ∧ ksL ts = l
  | [], c, h => by cases h; exact ⟨[], rfl, rfl⟩
  | k :: l, c, h => by
    cases h with
    | @cons c n ns h =>
      obtain ⟨ts, e1, e2⟩ := wh_forest l h
      cases k with
      | lt n =>
        have e1 : ts.length = c := e1
        exact ⟨.lt n :: ts, by rw [List.length_cons, e1], by rw [ksL_cons, e2]; rfl⟩
      | to =>
        have e1 : ts.length = c + 2 := e1
        match ts, e1, e2 with
        | a :: b :: ts, e1, e2 => exact ⟨.to a b :: ts, by simp at e1 ⊢; omega, by rw [ksL_cons]; show .to :: (a.ks ++ b.ks) ++ _ = _; rw [← e2, ksL_cons, ksL_cons]; simp⟩
        | [_], e1, _ => simp at e1
        | [], e1, _ => simp at e1
theorem tree_wh : ∀ (t : KT) (c : Nat) (r : List Nat), Wh c r → Wh (c + 1) (t.ks.map sidesK ++ r)
  | .lt n, c, r, h => Wh.cons (n := 0) h
  | .to a b, c, r, h => by
    show Wh (c + 1) (2 :: ((a.ks ++ b.ks).map sidesK ++ r))
    refine Wh.cons (n := 2) ?_
    rw [List.map_append, List.append_assoc]
    exact tree_wh a (c + 1) _ (tree_wh b c r h)
theorem forest_wh : ∀ (ts : List KT), Wh ts.length ((ksL ts).map sidesK)
  | [] => .nil
  | t :: ts => by
    rw [ksL_cons, List.map_append]
    exact tree_wh t ts.length _ (forest_wh ts)
theorem KT.pos (t : KT) : 0 < t.ks.length := by cases t <;> simp [KT.ks]
def skipK : Nat → List KW → Nat
  | 0, _ => 0
  | _ + 1, [] => 0
  | c + 1, k :: l => 1 + skipK (c + sidesK k) l
theorem skip_tree : ∀ (t : KT) (c : Nat) (r : List KW), skipK (c + 1) (t.ks ++ r) = t.ks.length + skipK c r
  | .lt n, c, r => rfl
  | .to a b, c, r => by
    show 1 + skipK (c + 2) ((a.ks ++ b.ks) ++ r) = (a.ks ++ b.ks).length + 1 + skipK c r
    rw [List.append_assoc, skip_tree a (c + 1), skip_tree b c, List.length_append]
    omega
/-- the index behind the branch at i -/
def endK (us : List KW) (i : Nat) : Nat := i + skipK 1 (us.drop i)
theorem endK_at {us : List KW} {i : Nat} {t : KT} {r : List KW} (h : us.drop i = t.ks ++ r) : endK us i = i + t.ks.length ∧ us.drop (endK us i) = r ∧ i + t.ks.length ≤ us.length := by
  have e : endK us i = i + t.ks.length := by
    unfold endK
    rw [h, skip_tree t 0 r, show skipK 0 r = 0 by cases r <;> rfl]
    omega
  refine ⟨e, ?_, ?_⟩
  · rw [e, ← List.drop_drop, h, List.drop_left]
  · have := congrArg List.length h
    rw [List.length_drop, List.length_append] at this
    have := t.pos
    omega
theorem wh_drop {c : Nat} : ∀ {l : List KW} {c : Nat}, Wh c (l.map sidesK) → ∀ i, i ≤ l.length → ∃ c', Wh c' ((l.drop i).map sidesK)
  | l, c, h, 0, _ => ⟨c, h⟩
  | [], c, h, i + 1, hi => absurd hi (by simp)
  | k :: l, c, h, i + 1, hi => by
    cases h with
    | cons h => exact wh_drop (c := 0) h i (by simpa using hi)
/-- at each place a branch -/
theorem tree_at {c : Nat} {us : List KW} (h : Wh c (us.map sidesK)) {i : Nat} (hi : i < us.length) : ∃ (t : KT) (ts : List KT), us.drop i = t.ks ++ ksL ts := by
  obtain ⟨c', h'⟩ := wh_drop (c := 0) h i (Nat.le_of_lt hi)
  obtain ⟨ts, e1, e2⟩ := wh_forest _ h'
  cases ts with
  | nil =>
    have := congrArg List.length e2
    rw [List.length_drop] at this
    simp [ksL] at this
    omega
  | cons t ts => exact ⟨t, ts, e2.symm⟩
theorem head_drop {us : List KW} {i : Nat} {k : KW} (h : us[i]? = some k) : us.drop i = k :: us.drop (i + 1) := by
  obtain ⟨h1, h2⟩ := List.getElem?_eq_some_iff.mp h
  rw [List.drop_eq_getElem_cons h1, h2]
theorem ends_kind {c : Nat} {us : List KW} (h : Wh c (us.map sidesK)) : EndsN (us.map sidesK) (endK us) := by
  refine ⟨fun i n hn => ?_, fun n hn => ?_⟩
  · rw [List.getElem?_map] at hn
    rw [List.length_map]
    cases hk : us[i]? with
    | none => rw [hk] at hn; cases hn
    | some k =>
      rw [hk] at hn
      have hi := (List.getElem?_eq_some_iff.mp hk).1
      obtain ⟨t, ts, ht⟩ := tree_at h hi
      have hd := head_drop hk
      rw [ht] at hd
      obtain ⟨e1, e2, e3⟩ := endK_at ht
      cases t with
      | lt m =>
        have ek : KW.lt m = k := (List.cons.inj hd).1
        subst ek
        cases hn
        exact ⟨fun j (hj : j < 0) => absurd hj (by omega), e1⟩
      | to a b =>
        have ek : KW.to = k := (List.cons.inj hd).1
        subst ek
        cases hn
        have hd2 : us.drop (i + 1) = a.ks ++ (b.ks ++ ksL ts) := by
          have := (List.cons.inj hd).2
          rw [← this]; simp
        obtain ⟨a1, a2, a3⟩ := endK_at hd2
        obtain ⟨b1, b2, b3⟩ := endK_at a2
        have pa := a.pos
        have pb := b.pos
        have la : (KT.to a b).ks.length = 1 + a.ks.length + b.ks.length := by simp [KT.ks]; omega
        refine ⟨fun j (hj : j < 2) => ?_, ?_⟩
        · match j, hj with
          | 0, _ => exact ⟨by show i < i + 1; omega, by show i + 1 < us.length; omega⟩
          | 1, _ => exact ⟨by show i < endK us (i + 1); omega, by show endK us (i + 1) < us.length; omega⟩
        · show endK us i = endK us (endK us (i + 1))
          omega
  · obtain ⟨k, _, rfl⟩ := List.mem_map.mp hn
    cases k <;> simp [sidesK]
/-- a shape: a place for a letter, or an arrow -/
def shV : Bool → V
  | true => .str ">"
  | false => .non
def shN : Bool → Nat
  | true => 2
  | false => 0
def wsum : List Nat → Nat
  | [] => 0
  | n :: l => (2 * n - 1) + wsum l
section
variable {P : Program} {w : World} {K : PySem.W.Frag} {mg : Str → Option Value} {base : Heap}
def spShape : Sp := fun vs H Q _ => ∃ (p g s : Addr) (m : Nat) (y : Int), vs = [.ref p, .int (m : Nat), .int y] ∧ PotAt H p g s ∧ 1 ≤ m ∧ m ≤ 4000 ∧
  ∀ (H' : Hp) (r : Addr) (sh : List Bool), PotAt H' p g s → Keep p g H H' → H' r = some (.lst (sh.map shV)) → r ≠ p → r ≠ g → r ≠ s → H r = none → Wh 1 (sh.map shN) → sh.length = 2 * m - 1 → Q (.ref r) H'
abbrev s_shape_of : Stmt := (top 29)
theorem sc_shape_of : FnScope ["_law_pot_here", "_law_leaves", "_law_way", "_law_found", "_law_waiting", "_law_turn", "_law_many", "_law_cut"] ["_law_pot_here", "_law_leaves", "_law_way"] (defScope s_shape_of) := ⟨rfl, rfl, rfl, by decide +kernel, rfl, by decide +kernel, by decide +kernel⟩
theorem c_shape_of (B : Bt mg) (D : DefAt K mg "_law_shape_of" s_shape_of) (C_law_draw : Cal P w K mg base "_law_draw" 1 ["_law_pot_here", "_law_many"] spDraw) : Cal P w K mg base "_law_shape_of" 2 ["_law_pot_here", "_law_leaves", "_law_way"] spShape := by
  refine cal_of D sc_shape_of (fun _ _ _ _ _ _ us hl => match us, hl with | [_, _, _], _ => rfl) (fun vs H Q E h => ?_) (fun fa cdv A outer st0 H vs Q E hr h => ?_)
  · obtain ⟨p, g, s, m, y, rfl, _⟩ := h
    rfl
  · obtain ⟨p, g, s, m, y, rfl, P0, m1, m4, k⟩ := h
    have big := bigN
    refine ⟨_, (pss_cons (ps_set (i := 3) sc_shape_of.nd rfl (by first | exact Or.inl rfl | exact Or.inr rfl) (pe_lst pa_nil))
      (pss_cons (ps_set (i := 4) sc_shape_of.nd rfl (by first | exact Or.inl rfl | exact Or.inr rfl) (pe_lst (pa_cons (pv 1) pa_nil)))
      (pss_cons (ps_for PassesOwn.never rfl (pi_range1 (by rfl) B.b_range (pa_cons (pe_op op_sub (pe_op op_mul pe_int (pv 1)) pe_int) pa_nil)) (pg_name (i := 5) sc_shape_of.nd rfl (by first | exact Or.inl rfl | exact Or.inr rfl)) (pss_cons (ps_set (i := 6) sc_shape_of.nd rfl (by first | exact Or.inl rfl | exact Or.inr rfl) (pe_bm0 PySem.F.plainAttrs_list PySem.F.slot_list_pop PySem.F.type_list_pop mt_pop (pv 4)))
      (pss_one (ps_if (pt_cmpR op_eq (pv 6) pe_int (nomark _)) (pss_one (ps_expr (pe_bm PySem.F.plainAttrs_list PySem.F.slot_list_append PySem.F.type_list_append mt_append (pv 3) (pa_cons pe_non pa_nil)))) (pss_cons (ps_set (i := 7) sc_shape_of.nd rfl (by first | exact Or.inl rfl | exact Or.inr rfl) (pe_mid (pe_ifExp (pt_cmpR op_eq (pv 2) pe_int (nomark _)) (pe_op op_add pe_int (pe_c C_law_draw (hr.mono (by decide)) (pa_cons (pv 0) (pa_cons (pe_op op_sub (pv 6) pe_int) pa_nil)))) (pe_mid (pe_ifExp (pt_cmpR op_eq (pv 2) pe_int (nomark _)) pe_int (pe_op op_sub (pv 6) pe_int))))))
      (pss_cons (ps_expr (pe_bm PySem.F.plainAttrs_list PySem.F.slot_list_append PySem.F.type_list_append mt_append (pv 3) (pa_cons pe_str pa_nil)))
      (pss_cons (ps_expr (pe_bm PySem.F.plainAttrs_list PySem.F.slot_list_append PySem.F.type_list_append mt_append (pv 4) (pa_cons (pe_op op_sub (pv 6) (pv 7)) pa_nil)))
      (pss_one (ps_expr (pe_bm PySem.F.plainAttrs_list PySem.F.slot_list_append PySem.F.type_list_append mt_append (pv 4) (pa_cons (pv 7) pa_nil)))))))))))
      (pss_one (ps_ret (pv 3)))))), ?_⟩
    refine ⟨Nat.zero_le _, fun F nF => ?_⟩
    obtain ⟨Fp, Fg, Fs⟩ := P0.freeNe nF
    have S1 := same_upd (o := HO.lst []) nF
    have F1 : upd H F (.lst []) F = some (.lst []) := upd_same
    have P1 := P0.keep S1
    generalize upd H F (.lst []) = H1 at *
    refine ⟨_, rfl, (by show 1 ≤ sizeLine; decide), fun T nT => ?_⟩
    obtain ⟨Tp, Tg, Ts⟩ := P1.freeNe nT
    have FT : F ≠ T := ne_of_none F1 nT
    have S2 := same_upd (o := HO.lst [V.int (m : Nat)]) nT
    have T2 : upd H1 T (.lst [V.int (m : Nat)]) T = some (.lst [V.int (m : Nat)]) := upd_same
    have F2 := S2 _ _ F1
    have P2 := P1.keep S2
    have nTH : H T = none := S1.free nT
    generalize upd H1 T (.lst [V.int (m : Nat)]) = H2 at *
    refine ⟨_, rfl, _, _, rfl, rfl, .inl ⟨by decide, by decide⟩, _, _, rfl, rfl, _, rfl, by omega, by omega, for_range (lo := 0) (n := ((2 : Int) * ((m : Nat) : Int) - 1).toNat) (fun i σ H' => ∃ (sh : List Bool) (st : List Nat) (v5 v6 v7 : Option V), σ = [some (.ref p), some (.int (m : Nat)), some (.int y), some (.ref F), some (.ref T), v5, v6, v7] ∧ PotAt H' p g s ∧ Keep p g H H' ∧ H' F = some (.lst (sh.map shV)) ∧ H' T = some (.lst (st.reverse.map nv)) ∧ sh.length = i ∧ wsum st + i = 2 * m - 1 ∧ (∀ n ∈ st, 1 ≤ n ∧ n ≤ m) ∧ st.length ≤ i + 1 ∧ ∀ t, Wh st.length t → Wh 1 (sh.map shN ++ t))
      ⟨[], [m], none, none, none, rfl, P2, Same.keep (S1.trans S2), F2, T2, rfl, by simp [wsum], by simp; omega, by simp, fun t h => h⟩ ?_ ?_⟩
    · rintro i σ H3 hi ⟨sh, st, v5, v6, v7, rfl, P3, K3, F3, T3, ls, ws, hst, lst, hW⟩
      cases st with
      | nil => simp [wsum] at ws; omega
      | cons n st =>
      rw [List.reverse_cons, List.map_append] at T3
      have T3 : H3 T = some (.lst (st.reverse.map nv ++ [nv n])) := T3
      obtain ⟨n1, nm⟩ := hst n (List.mem_cons_self ..)
      refine ⟨_, rfl, .inl ⟨rfl, _, SqL.of T3⟩, T, _, nv n, rfl, rfl, T3, by simp, ?_⟩
      rw [List.dropLast_concat]
      have T4 : upd H3 T (.lst (st.reverse.map nv)) T = some (.lst (st.reverse.map nv)) := upd_same
      have F4 : upd H3 T (.lst (st.reverse.map nv)) F = some (.lst (sh.map shV)) := by rw [upd_ne FT]; exact F3
      have P4 : PotAt (upd H3 T (.lst (st.reverse.map nv))) p g s := P3.wr Tp Tg Ts
      have K4 : Keep p g H (upd H3 T (.lst (st.reverse.map nv))) := fun b o hb h1 h2 => by rw [upd_ne (ne_of_none hb nTH)]; exact K3 b o hb h1 h2
      generalize upd H3 T (.lst (st.reverse.map nv)) = H4 at *
      have lsh : (sh.map shV).length < sizeLine := by rw [List.length_map]; exact small_lt (m := 10000) (by omega) (by decide)
      refine ⟨_, rfl, rfl, _, rfl, ite2 (fun h1 => ?_) (fun h1 => ?_)⟩
      · have en : n = 1 := by
          have := of_decide_eq_true h1
          have := V.int.inj this
          omega
        subst en
        refine ⟨_, rfl, .inl ⟨rfl, _, SqL.of F4⟩, F, _, _, rfl, rfl, F4, lsh, ?_⟩
        refine ⟨sh ++ [false], st, _, _, _, rfl, P4.wr Fp Fg Fs, fun b o hb h1 h2 => by rw [upd_ne (ne_of_none hb nF)]; exact K4 b o hb h1 h2, by rw [List.map_append]; exact upd_same, by rw [upd_ne FT.symm]; exact T4, by simp [ls], by simp [wsum] at ws; omega, fun x hx => hst x (List.mem_cons_of_mem _ hx), by simp at lst; omega, fun t ht => ?_⟩
        have := hW (0 :: t) (Wh.cons (n := 0) ht)
        simpa [shN] using this
      · have n2 : 2 ≤ n := by
          have : ¬ n = 1 := fun e => h1 (decide_eq_true (by rw [e]; rfl))
          omega
        refine ⟨fun v H' => ∃ c : Nat, v = .int (c : Nat) ∧ 1 ≤ c ∧ c + 1 ≤ n ∧ PotAt H' p g s ∧ Keep p g H4 H', ?_, ?_⟩
        · refine ⟨_, rfl, rfl, _, rfl, ite2 (fun _ => ?_) (fun _ => ?_)⟩
          · refine ⟨_, rfl, _, rfl, _, _, rfl, rfl, p, g, s, _, rfl, P4, by omega, by omega, fun H5 j P5 K5 j0 j1 => ?_⟩
            refine ⟨_, _, rfl, rfl, (1 + j).toNat, congrArg V.int (by omega), by omega, by omega, P5, K5⟩
          · refine ⟨_, ?_, fun v H' h => h⟩
            refine ⟨_, rfl, rfl, _, rfl, ite2 (fun _ => ⟨1, rfl, by omega, by omega, P4, Keep.refl _⟩) (fun _ => ?_)⟩
            exact ⟨_, rfl, _, _, rfl, rfl, n - 1, congrArg V.int (by omega), by omega, by omega, P4, Keep.refl _⟩
        · rintro v H5 ⟨c, rfl, c1, c2, P5, K5⟩
          have F5 := K5 _ _ F4 Fp Fg
          have T5 := K5 _ _ T4 Tp Tg
          refine ⟨_, rfl, .inl ⟨rfl, _, SqL.of F5⟩, F, _, _, rfl, rfl, F5, lsh, ?_⟩
          have F6 : upd H5 F (.lst (sh.map shV ++ [V.str ">"])) F = some (.lst ((sh ++ [true]).map shV)) := by rw [List.map_append]; exact upd_same
          have T6 : upd H5 F (.lst (sh.map shV ++ [V.str ">"])) T = some (.lst (st.reverse.map nv)) := by rw [upd_ne FT.symm]; exact T5
          have P6 : PotAt (upd H5 F (.lst (sh.map shV ++ [V.str ">"]))) p g s := P5.wr Fp Fg Fs
          have K6 : Keep p g H (upd H5 F (.lst (sh.map shV ++ [V.str ">"]))) := fun b o hb h1 h2 => by rw [upd_ne (ne_of_none hb nF)]; exact K5 _ _ (K4 b o hb h1 h2) h1 h2
          generalize upd H5 F (.lst (sh.map shV ++ [V.str ">"])) = H6 at *
          have lst2 : (st.reverse.map nv).length + 1 < sizeLine := by rw [List.length_map, List.length_reverse]; exact small_lt (m := 10000) (by simp at lst; omega) (by decide)
          refine ⟨_, rfl, .inl ⟨rfl, _, SqL.of T6⟩, _, rfl, _, rfl, _, _, rfl, rfl, T, _, _, rfl, rfl, T6, by omega, ?_⟩
          have T7 : upd H6 T (.lst (st.reverse.map nv ++ [V.int ((n : Nat) - (c : Nat))])) T = some (.lst (st.reverse.map nv ++ [V.int ((n : Nat) - (c : Nat))])) := upd_same
          refine ⟨_, rfl, .inl ⟨rfl, _, SqL.of T7⟩, _, rfl, T, _, _, rfl, rfl, T7, by rw [List.length_append]; exact lst2, ?_⟩
          rw [upd_upd]
          refine ⟨sh ++ [true], c :: (n - c) :: st, _, _, _, rfl, P6.wr Tp Tg Ts, fun b o hb h1 h2 => by rw [upd_ne (ne_of_none hb nTH)]; exact K6 b o hb h1 h2, by rw [upd_ne FT]; exact F6, ?_, by simp [ls], ?_, ?_, by simp at lst ⊢; omega, fun t ht => ?_⟩
          · rw [upd_same, List.reverse_cons, List.reverse_cons, List.map_append, List.map_append]
            show some (HO.lst (_ ++ [V.int ((n : Int) - (c : Int))] ++ [V.int (c : Nat)])) = some (HO.lst (_ ++ [V.int ((n - c : Nat) : Int)] ++ [V.int (c : Nat)]))
            rw [show (n : Int) - (c : Int) = ((n - c : Nat) : Int) by omega]
          · simp only [wsum] at ws ⊢; omega
          · intro x hx
            rcases List.mem_cons.mp hx with e | hx
            · omega
            rcases List.mem_cons.mp hx with e | hx
            · omega
            exact hst x (List.mem_cons_of_mem _ hx)
          · have := hW (2 :: t) (Wh.cons (n := 2) ht)
            simpa [shN] using this
    · rintro σ H3 ⟨sh, st, v5, v6, v7, rfl, P3, K3, F3, T3, ls, ws, hst, lst, hW⟩
      have e0 : st = [] := by
        cases st with
        | nil => rfl
        | cons n st =>
          have := (hst n (List.mem_cons_self ..)).1
          simp only [wsum] at ws
          omega
      subst e0
      have := hW [] .nil
      rw [List.append_nil] at this
      exact ⟨_, rfl, k H3 F sh P3 K3 F3 Fp Fg Fs nF this (by omega)⟩
def spKindD : Sp := fun vs H Q _ => ∃ (p g s l : Addr) (m : Nat) (ls : List Nat), vs = [.ref p, .int (m : Nat), .ref l] ∧ PotAt H p g s ∧ 1 ≤ m ∧ m ≤ 4000 ∧ H l = some (.lst (ls.map nv)) ∧ l ≠ p ∧ l ≠ g ∧ 0 < ls.length ∧ ls.length ≤ 2000 ∧
  ∀ (H' : Hp) (q : Addr) (ks : List KW), PotAt H' p g s → Keep p g H H' → TupF H' q (ks.map kv) → Wh 1 (ks.map sidesK) → ks.length = 2 * m - 1 → (∀ n, KW.lt n ∈ ks → n ∈ ls) → Q (.ref q) H'
abbrev s_kindD : Stmt := (top 30)
theorem sc_kindD : FnScope ["_law_pot_here", "_law_leaves", "_law_letters", "_law_found", "_law_word"] ["_law_pot_here", "_law_leaves", "_law_letters"] (defScope s_kindD) := ⟨rfl, rfl, rfl, by decide +kernel, rfl, by decide +kernel, by decide +kernel⟩
theorem c_kindD (B : Bt mg) (D : DefAt K mg "_law_kind" s_kindD) (C_law_draw : Cal P w K mg base "_law_draw" 1 ["_law_pot_here", "_law_many"] spDraw) (C_law_shape_of : Cal P w K mg base "_law_shape_of" 2 ["_law_pot_here", "_law_leaves", "_law_way"] spShape) (C_law_any : Cal P w K mg base "_law_any" 2 ["_law_pot_here", "_law_items"] spAnyV) : Cal P w K mg base "_law_kind" 3 ["_law_pot_here", "_law_leaves", "_law_letters"] spKindD := by
  refine cal_of D sc_kindD (fun _ _ _ _ _ _ us hl => match us, hl with | [_, _, _], _ => rfl) (fun vs H Q E h => ?_) (fun fa cdv A outer st0 H vs Q E hr h => ?_)
  · obtain ⟨p, g, s, l, m, ls, rfl, _⟩ := h
    rfl
  · obtain ⟨p, g, s, l, m, ls, rfl, P0, m1, m4, L0, lp, lg, lpos, ll, k⟩ := h
    have big := bigN
    refine ⟨_, (pss_cons (ps_set (i := 3) sc_kindD.nd rfl (by first | exact Or.inl rfl | exact Or.inr rfl) (pe_lst pa_nil))
      (pss_cons (ps_for PassesOwn.never rfl (pi_list (pe_c C_law_shape_of (hr.mono (by decide)) (pa_cons (pv 0) (pa_cons (pv 1) (pa_cons (pe_callB (call_max2 rfl) (by rfl) B.b_max (by decide +kernel) (pa_cons pe_int (pa_cons (pe_op op_sub (pe_c C_law_draw (hr.mono (by decide)) (pa_cons (pv 0) (pa_cons pe_int pa_nil))) pe_int) pa_nil))) pa_nil))))) (pg_name (i := 4) sc_kindD.nd rfl (by first | exact Or.inl rfl | exact Or.inr rfl)) (pss_one (ps_expr (pe_bm PySem.F.plainAttrs_list PySem.F.slot_list_append PySem.F.type_list_append mt_append (pv 3) (pa_cons (pe_mid (pe_ifExp (pt_cmpR op_isN (pv 4) pe_non (nomark _)) (pe_c C_law_any (hr.mono (by decide)) (pa_cons (pv 0) (pa_cons (pv 2) pa_nil))) (pv 4))) pa_nil)))))
      (pss_one (ps_ret (pe_callTy call_tupleF (by rfl) B.b_tuple (by decide +kernel) (pa_cons (pv 3) pa_nil)))))), ?_⟩
    refine ⟨Nat.zero_le _, fun F nF => ?_⟩
    obtain ⟨Fp, Fg, Fs⟩ := P0.freeNe nF
    have S1 := same_upd (o := HO.lst []) nF
    have F1 : upd H F (.lst []) F = some (.lst []) := upd_same
    have P1 := P0.keep S1
    have L1 := S1 _ _ L0
    have K1 : Keep p g H (upd H F (.lst [])) := Same.keep S1
    generalize upd H F (.lst []) = H1 at *
    refine ⟨_, rfl, _, rfl, _, rfl, p, g, s, 6, rfl, P1, by decide, by decide, fun H2 j P2 K2 _ _ => ⟨_, _, rfl, rfl, _, _, rfl, p, g, s, m, _, rfl, P2, m1, m4, fun H3 r sh P3 K3 R3 rp rg rs nr W lsh => ?_⟩⟩
    have nrF : r ≠ F := fun e => by
      have := K2 _ _ F1 Fp Fg
      rw [e] at nr
      rw [nr] at this; cases this
    have F3 := K3 _ _ (K2 _ _ F1 Fp Fg) Fp Fg
    have K13 : Keep p g H H3 := K1.trans (K2.trans K3)
    have L3 := K3 _ _ (K2 _ _ L1 lp lg) lp lg
    have lF : l ≠ F := ne_of_none L0 nF
    have rl : r ≠ l := fun e => by
      have := K2 _ _ L1 lp lg
      rw [← e, nr] at this; cases this
    clear K2 K3 K1 S1 F1 L1 P1 P2
    refine ⟨r, rfl, ⟨_, SqL.of R3⟩, for_list (K := K) (a := r) (xs := sh.map shV) (fun i σ H' => ∃ (ks : List KW) (v4 : Option V), σ = [some (.ref p), some (.int (m : Nat)), some (.ref l), some (.ref F), v4] ∧ PotAt H' p g s ∧ Keep p g H H' ∧ H' F = some (.lst (ks.map kv)) ∧ H' r = some (.lst (sh.map shV)) ∧ ks.length = i ∧ ks.map sidesK = (sh.take i).map shN ∧ ∀ n, KW.lt n ∈ ks → n ∈ ls)
      ⟨[], none, rfl, P3, K13, F3, R3, rfl, rfl, fun _ h => by cases h⟩ (fun i σ H' _ ⟨_, _, _, _, _, _, h, _⟩ => SqL.of h) ?_ ?_⟩
    · rintro i x σ H4 hx ⟨ks, v4, rfl, P4, K4, F4, R4, lk, ek, hk⟩
      obtain ⟨b, hb, rfl⟩ := map_get hx
      have hi := (List.getElem?_eq_some_iff.mp hx).1
      rw [List.length_map] at hi
      refine ⟨_, rfl, .inl ⟨rfl, _, SqL.of F4⟩, ⟨fun v H' => ∃ kw : KW, v = kv kw ∧ sidesK kw = shN b ∧ (∀ n, kw = .lt n → n ∈ ls) ∧ PotAt H' p g s ∧ Keep p g H4 H', ?_, ?_⟩⟩
      · cases b with
        | true =>
          refine ⟨_, rfl, rfl, _, rfl, ?_⟩
          rw [decide_eq_false (show ¬ shV true = V.non from fun z => nomatch z)]
          exact iteF ⟨_, rfl, .to, rfl, rfl, (fun n e => nomatch e), P4, Keep.refl _⟩
        | false =>
          refine ⟨_, rfl, rfl, _, rfl, ?_⟩
          rw [decide_eq_true (show shV false = V.non from rfl)]
          refine iteT ⟨_, rfl, _, rfl, p, g, s, l, _, rfl, P4, K4 _ _ L0 lp lg, lp, lg, by rw [List.length_map]; exact lpos, by rw [List.length_map]; exact Nat.le_trans ll (by decide), fun H5 v hv P5 K5 => ?_⟩
          obtain ⟨n, hn, rfl⟩ := List.mem_map.mp hv
          exact ⟨.lt n, rfl, rfl, fun n' e => by cases e; exact hn, P5, K5⟩
      · rintro v H5 ⟨kw, rfl, es, el, P5, K5⟩
        have F5 := K5 _ _ F4 Fp Fg
        refine ⟨F, _, _, rfl, rfl, F5, by rw [List.length_map]; exact small_lt (m := 10000) (by omega) (by decide), ?_⟩
        refine ⟨ks ++ [kw], _, rfl, P5.wr Fp Fg Fs, fun b o hb h1 h2 => by rw [upd_ne (ne_of_none hb nF)]; exact K5 _ _ (K4 b o hb h1 h2) h1 h2, by rw [List.map_append]; exact upd_same, by rw [upd_ne nrF]; exact K5 _ _ R4 rp rg, by simp [lk], ?_, fun n hn => ?_⟩
        · rw [List.map_append, ek, List.take_add_one, hb, List.map_append]
          show _ ++ [sidesK kw] = _ ++ [shN b]
          rw [es]
        · rcases List.mem_append.mp hn with hn | hn
          · exact hk n hn
          · exact el n (List.mem_singleton.mp hn).symm
    · rintro σ H4 ⟨ks, v4, rfl, P4, K4, F4, R4, lk, ek, hk⟩
      rw [List.length_map] at lk ek
      rw [List.take_length] at ek
      refine ⟨_, rfl, F, _, rfl, SqL.of F4, fun q o nq d => ?_⟩
      have S5 := same_upd (o := HO.frz o (.tup (ks.map kv))) nq
      exact k _ q ks (P4.keep S5) (K4.trans (Same.keep S5)) (TupF.new d) (by rw [ek]; exact W) (by omega) hk
end
end Kk

set_option maxHeartbeats 2000000
namespace Kk
open PySem PySem.Spec PyProof.Rows L2 Wd
/-! ### tuples of plain things compared -/
def Plain (x : V) : Prop := (∃ i, x = .int i) ∨ ∃ z : Str, x = .str z ∧ PyData.strOk z = true
def dV : V → PyData
  | .int i => .int i
  | .str z => .str z
  | _ => .none
theorem dp_all {K : PySem.W.Frag} {H : Hp} : ∀ {xs : List V}, (∀ x ∈ xs, Plain x) → DpAll K H xs (xs.map dV)
  | [], _ => .nil
  | x :: xs, h => by
    refine .cons ?_ (dp_all fun y hy => h y (List.mem_cons_of_mem _ hy))
    rcases h x (List.mem_cons_self ..) with ⟨i, rfl⟩ | ⟨z, rfl, _⟩
    · exact .int i
    · exact .str z
theorem can_all : ∀ {xs : List V}, (∀ x ∈ xs, Plain x) → PyData.canLayAll0 (xs.map dV) = true
  | [], _ => rfl
  | x :: xs, h => by
    have ih := can_all fun y hy => h y (List.mem_cons_of_mem x hy)
    rw [List.map_cons, PyData.canLayAll0, ih, Bool.and_true]
    rcases h x (List.mem_cons_self ..) with ⟨i, rfl⟩ | ⟨z, rfl, hz⟩
    · rfl
    · exact hz
theorem depth_all : ∀ {xs : List V}, (∀ x ∈ xs, Plain x) → PyData.depthAll (xs.map dV) = 0
  | [], _ => rfl
  | x :: xs, h => by
    have ih := depth_all fun y hy => h y (List.mem_cons_of_mem x hy)
    rw [List.map_cons, PyData.depthAll, ih]
    rcases h x (List.mem_cons_self ..) with ⟨i, rfl⟩ | ⟨z, rfl, hz⟩
    · rfl
    · rfl
theorem shaped_all {xs : List V} (h : ∀ x ∈ xs, Plain x) : SeqAt.shaped (.tuple (xs.map dV)) = true := by
  unfold SeqAt.shaped
  rw [PyData.canLay0, can_all h, PyData.depth, depth_all h]
  rfl
section
variable {K : PySem.W.Frag} {H : Hp} {p q : Addr} {xs : List V} {Q : VK}
theorem eqD_same (hp : SqT K H p xs) (hq : SqT K H q xs) (ok : ∀ x ∈ xs, Plain x) (k : Q (.bl true) H) : rEqD K (.ref p) (.ref q) H Q := by
  refine ⟨_, _, .tup hp (dp_all ok), .tup hq (dp_all ok), shaped_all ok, shaped_all ok, ?_⟩
  rw [SeqAt.eqv_refl _ (by rw [PyData.canLay0]; exact can_all ok)]
  exact k
theorem neD_same (hp : SqT K H p xs) (hq : SqT K H q xs) (ok : ∀ x ∈ xs, Plain x) (k : Q (.bl false) H) : rNeD K (.ref p) (.ref q) H Q := by
  refine ⟨_, _, .tup hp (dp_all ok), .tup hq (dp_all ok), shaped_all ok, shaped_all ok, ?_⟩
  rw [SeqAt.eqv_refl _ (by rw [PyData.canLay0]; exact can_all ok)]
  exact k
end
theorem ok_str {n : Nm} (h : nmOk n) : PyData.strOk (str n) = true := by
  unfold PyData.strOk
  show (n.toArray).all _ = true
  rw [List.all_toArray, List.all_eq_true]
  intro c hc
  have := h.2.2 c hc
  exact decide_eq_true (by omega)
theorem ok_enc {v : W} (h : wOk v) : PyData.strOk (enc v) = true := by
  cases v with
  | ap => decide +kernel
  | nm n => exact ok_str h
  | tk n =>
    unfold PyData.strOk
    show ((47 :: n).toArray).all _ = true
    rw [List.all_toArray, List.all_eq_true]
    intro c hc
    rcases List.mem_cons.mp hc with rfl | hc
    · decide
    · have := h.2.2 c hc
      exact decide_eq_true (by omega)
theorem plain_ws {ws : List W} (ok : ∀ v ∈ ws, wOk v) : ∀ x ∈ ws.map wv, Plain x := fun x hx => by
  obtain ⟨v, hv, rfl⟩ := List.mem_map.mp hx
  exact .inr ⟨_, rfl, ok_enc (ok v hv)⟩
end Kk

set_option maxHeartbeats 4000000
/-! kinds filled, fillings found -/
namespace Kk
open PySem PySem.Spec PyProof.Rows L2 Wd
/-! ### kinds' words compared -/
theorem plain_kv (ks : List KW) : ∀ x ∈ ks.map kv, Plain x := fun x hx => by
  obtain ⟨k, _, rfl⟩ := List.mem_map.mp hx
  cases k with
  | to => exact .inr ⟨_, rfl, by decide +kernel⟩
  | lt n => exact .inl ⟨_, rfl⟩
theorem eqv_kv : ∀ (ks us : List KW), PyData.eqvAll ((ks.map kv).map dV) ((us.map kv).map dV) = decide (ks = us)
  | [], [] => rfl
  | [], _ :: _ => rfl
  | _ :: _, [] => rfl
  | a :: ks, b :: us => by
    have ih := eqv_kv ks us
    show (PyData.eqv (dV (kv a)) (dV (kv b)) && PyData.eqvAll ((ks.map kv).map dV) ((us.map kv).map dV)) = _
    rw [ih]
    have e1 : PyData.eqv (dV (kv a)) (dV (kv b)) = decide (a = b) := by
      cases a with
      | to => cases b with
        | to => decide +kernel
        | lt n => rfl
      | lt n => cases b with
        | to => rfl
        | lt m =>
          show decide (((n : Nat) : Int) = ((m : Nat) : Int)) = _
          by_cases h : n = m
          · subst h; simp
          · rw [decide_eq_false (by omega), decide_eq_false (fun e => h (KW.lt.inj e))]
    rw [e1]
    by_cases e : a = b
    · subst e
      by_cases e2 : ks = us
      · subst e2; simp
      · simp [e2]
    · simp [e]
section
variable {K : PySem.W.Frag} {H : Hp} {p q : Addr} {ks us : List KW} {Q : VK}
theorem eqD_kv (hp : SqT K H p (ks.map kv)) (hq : SqT K H q (us.map kv)) (k : Q (.bl (decide (ks = us))) H) : rEqD K (.ref p) (.ref q) H Q := by
  refine ⟨_, _, .tup hp (dp_all (plain_kv ks)), .tup hq (dp_all (plain_kv us)), shaped_all (plain_kv ks), shaped_all (plain_kv us), ?_⟩
  rw [show PyData.eqv (.tuple ((ks.map kv).map dV)) (.tuple ((us.map kv).map dV)) = decide (ks = us) from eqv_kv ks us]
  exact k
theorem neD_kv (hp : SqT K H p (ks.map kv)) (hq : SqT K H q (us.map kv)) (k : Q (.bl (!decide (ks = us))) H) : rNeD K (.ref p) (.ref q) H Q := by
  refine ⟨_, _, .tup hp (dp_all (plain_kv ks)), .tup hq (dp_all (plain_kv us)), shaped_all (plain_kv ks), shaped_all (plain_kv us), ?_⟩
  rw [show PyData.eqv (.tuple ((ks.map kv).map dV)) (.tuple ((us.map kv).map dV)) = decide (ks = us) from eqv_kv ks us]
  exact k
end
/-! ### letters called -/
abbrev Rws := List (Nat × List KW)
def lkp : Rws → Nat → Option (List KW)
  | [], _ => none
  | (m, r) :: l, n => if m = n then some r else lkp l n
inductive DRel (R : Addr → List KW → Prop) : List (Key × V) → Rws → Prop
  | nil : DRel R [] []
  | cons {n : Nat} {a : Addr} {r : List KW} {kvs : List (Key × V)} {rows : Rws} : R a r → DRel R kvs rows → DRel R ((.inl (n : Int), .ref a) :: kvs) ((n, r) :: rows)
section
variable {R R' : Addr → List KW → Prop} {kvs : List (Key × V)} {rows : Rws}
theorem DRel.mono (h : DRel R kvs rows) (f : ∀ a r, R a r → R' a r) : DRel R' kvs rows := by
  induction h with
  | nil => exact .nil
  | cons x _ ih => exact .cons (f _ _ x) ih
theorem DRel.len (h : DRel R kvs rows) : kvs.length = rows.length := by
  induction h with
  | nil => rfl
  | cons _ _ ih => rw [List.length_cons, List.length_cons, ih]
theorem DRel.no (h : DRel R kvs rows) {n : Nat} (e : lkp rows n = none) : valV kvs (.inl (n : Int)) = none := by
  induction h with
  | nil => rfl
  | @cons m a r kvs rows _ _ ih =>
    unfold lkp at e
    split at e
    · cases e
    · rename_i q
      rw [valV_neg (fun z => q (by have := Sum.inl.inj z; omega))]
      exact ih e
theorem DRel.yes (h : DRel R kvs rows) {n : Nat} {r : List KW} (e : lkp rows n = some r) : ∃ a, valV kvs (.inl (n : Int)) = some (.ref a) ∧ R a r := by
  induction h with
  | nil => cases e
  | @cons m a r' kvs rows x _ ih =>
    unfold lkp at e
    split at e
    · rename_i q
      cases e
      subst q
      exact ⟨a, valV_pos rfl, x⟩
    · rename_i q
      rw [valV_neg (fun z => q (by have := Sum.inl.inj z; omega))]
      exact ih e
theorem DRel.str (h : DRel R kvs rows) (z : Str) : valV kvs (.inr z) = none := by
  induction h with
  | nil => rfl
  | @cons n a r kvs rows _ _ ih =>
    have e : ¬ (Sum.inl (n : Int) : Key) = Sum.inr z := fun e => by cases e
    rw [valV_neg (p := ((Sum.inl (n : Int) : Key), V.ref a)) e]
    exact ih
theorem DRel.snoc (h : DRel R kvs rows) {n : Nat} {a : Addr} {r : List KW} (x : R a r) : DRel R (kvs ++ [(.inl (n : Int), .ref a)]) (rows ++ [(n, r)]) := by
  induction h with
  | nil => exact .cons x .nil
  | cons y _ ih => exact .cons y ih
theorem DRel.get (h : DRel R kvs rows) : ∀ {i : Nat} {k : Key} {v : V}, kvs[i]? = some (k, v) → ∃ (n : Nat) (a : Addr) (r : List KW), k = .inl (n : Int) ∧ v = .ref a ∧ rows[i]? = some (n, r) ∧ R a r := by
  induction h with
  | nil => intro i k v e; cases e
  | @cons m a r kvs rows x _ ih =>
    intro i k v e
    cases i with
    | zero => cases e; exact ⟨m, a, r, rfl, rfl, rfl, x⟩
    | succ i => exact ih e
end
theorem putK_new {kvs : List (Key × V)} {k : Key} {v : V} (h : valV kvs k = none) : putK kvs k v = kvs ++ [(k, v)] := by
  unfold putK
  rw [valV_any, h]
  rfl
theorem lkp_mem : ∀ {rows : Rws} {n : Nat} {r : List KW}, lkp rows n = some r → (n, r) ∈ rows
  | (m, r') :: l, n, r, h => by
    unfold lkp at h
    split at h
    · rename_i q; cases h; subst q; exact List.mem_cons_self ..
    · exact List.mem_cons_of_mem _ (lkp_mem h)
theorem lkp_snoc {rows : Rws} {n m : Nat} {r : List KW} : lkp (rows ++ [(m, r)]) n = (match lkp rows n with | some x => some x | none => if m = n then some r else none) := by
  induction rows with
  | nil => rfl
  | cons p l ih =>
    obtain ⟨k, x⟩ := p
    show (if k = n then some x else lkp (l ++ [(m, r)]) n) = _
    show _ = (match (if k = n then some x else lkp l n) with | some x => some x | none => if m = n then some r else none)
    split
    · rfl
    · exact ih
theorem lkp_none : ∀ {rows : Rws} {n : Nat}, lkp rows n = none → n ∉ rows.map (·.1)
  | [], n, _ => by simp
  | (m, r) :: l, n, h => by
    unfold lkp at h
    split at h
    · cases h
    · rename_i q
      rw [List.map_cons]
      intro hm
      rcases List.mem_cons.mp hm with e | hm
      · exact q e.symm
      · exact lkp_none h hm
theorem lkp_nodup : ∀ {rows : Rws} {i n : Nat} {r : List KW}, (rows.map (·.1)).Nodup → rows[i]? = some (n, r) → lkp rows n = some r
  | (m, r') :: l, 0, n, r, _, h => by cases h; exact if_pos rfl
  | (m, r') :: l, i + 1, n, r, nd, h => by
    have nd' := List.nodup_cons.mp nd
    have hm : n ∈ l.map (·.1) := List.mem_map.mpr ⟨(n, r), List.mem_of_getElem? h, rfl⟩
    unfold lkp
    rw [if_neg fun e => nd'.1 (by rw [e]; exact hm)]
    exact lkp_nodup nd'.2 h
def subK (rows : Rws) : KW → List KW
  | .to => [.to]
  | .lt n => (lkp rows n).getD [.lt n]
def fillK (rows : Rws) (ks : List KW) : List KW := ks.flatMap (subK rows)
/-- what the one makes of the other: what its letters stand for -/
def mtch (us : List KW) : List KW → Nat → Rws → Option Rws
  | [], _, rows => some rows
  | .to :: ks, i, rows => if us[i]? = some .to then mtch us ks (i + 1) rows else none
  | .lt n :: ks, i, rows => match lkp rows n with
    | some r => if r = (us.drop i).take (endK us i - i) then mtch us ks (endK us i) rows else none
    | none => mtch us ks (endK us i) (rows ++ [(n, (us.drop i).take (endK us i - i))])
theorem row_at {us : List KW} {i : Nat} {t : KT} {r : List KW} (h : us.drop i = t.ks ++ r) : (us.drop i).take (endK us i - i) = t.ks := by
  rw [(endK_at h).1, Nat.add_sub_cancel_left, h, List.take_left]
theorem mtch_fill (us : List KW) : ∀ (ks : List KW) (c i : Nat) (rows rf : Rws), Wh c (ks.map sidesK) → Wh c ((us.drop i).map sidesK) → mtch us ks i rows = some rf → (∀ n r, lkp rows n = some r → lkp rf n = some r) ∧ fillK rf ks = us.drop i
  | [], c, i, rows, rf, h1, h2, hm => by
    cases h1
    have e : rows = rf := Option.some.inj hm
    subst e
    refine ⟨fun _ _ h => h, ?_⟩
    generalize us.drop i = l at h2
    cases l with
    | nil => rfl
    | cons a l => cases h2
  | .to :: ks, c, i, rows, rf, h1, h2, hm => by
    cases h1 with
    | @cons c n ns h1 =>
    have hm : (if us[i]? = some .to then mtch us ks (i + 1) rows else none) = some rf := hm
    split at hm
    · rename_i q
      rw [head_drop q] at h2
      cases h2 with
      | cons h2 =>
      obtain ⟨a, b⟩ := mtch_fill us ks _ (i + 1) rows rf h1 h2 hm
      refine ⟨a, ?_⟩
      rw [head_drop q]
      show [KW.to] ++ fillK rf ks = _
      rw [b]; rfl
    · cases hm
  | .lt n :: ks, c, i, rows, rf, h1, h2, hm => by
    cases h1 with
    | @cons c n' ns h1 =>
    obtain ⟨ts, e1, e2⟩ := wh_forest _ h2
    cases ts with
    | nil => simp at e1
    | cons t ts =>
    have hd : us.drop i = t.ks ++ ksL ts := e2.symm
    obtain ⟨q1, q2, q3⟩ := endK_at hd
    have hrow := row_at hd
    have h3 : Wh c ((us.drop (endK us i)).map sidesK) := by
      rw [q2]
      have : ts.length = c := by simpa using e1
      rw [← this]; exact forest_wh ts
    have fin : ∀ rows', mtch us ks (endK us i) rows' = some rf → lkp rows' n = some t.ks → (∀ m r, lkp rows' m = some r → lkp rf m = some r) ∧ fillK rf (.lt n :: ks) = us.drop i := fun rows' h l => by
      obtain ⟨a, b⟩ := mtch_fill us ks _ (endK us i) rows' rf h1 h3 h
      refine ⟨a, ?_⟩
      show (lkp rf n).getD [.lt n] ++ fillK rf ks = _
      rw [a n _ l, b, q2, hd]; rfl
    unfold mtch at hm
    split at hm
    · rename_i r hr
      split at hm
      · rename_i er
        rw [er, hrow] at hr
        exact fin rows hm hr
      · cases hm
    · rename_i hr
      rw [hrow] at hm
      obtain ⟨a, b⟩ := fin _ hm (by rw [lkp_snoc, hr]; exact if_pos rfl)
      refine ⟨fun m r h => a m r ?_, b⟩
      rw [lkp_snoc, h]
theorem mtch_nodup (us : List KW) : ∀ (ks : List KW) (i : Nat) (rows rf : Rws), (rows.map (·.1)).Nodup → mtch us ks i rows = some rf → (rf.map (·.1)).Nodup ∧ rf.length ≤ rows.length + ks.length
  | [], i, rows, rf, nd, h => by cases h; exact ⟨nd, by simp⟩
  | .to :: ks, i, rows, rf, nd, h => by
    have h : (if us[i]? = some .to then mtch us ks (i + 1) rows else none) = some rf := h
    split at h
    · have := mtch_nodup us ks _ _ _ nd h
      exact ⟨this.1, by rw [List.length_cons]; omega⟩
    · cases h
  | .lt n :: ks, i, rows, rf, nd, h => by
    unfold mtch at h
    split at h
    · split at h
      · have := mtch_nodup us ks _ _ _ nd h
        exact ⟨this.1, by rw [List.length_cons]; omega⟩
      · cases h
    · rename_i hr
      have nd2 : ((rows ++ [(n, (us.drop i).take (endK us i - i))]).map (·.1)).Nodup := by
        rw [List.map_append]
        refine List.nodup_append.mpr ⟨nd, by simp, fun a ha b hb e => ?_⟩
        have : b = n := by simpa using hb
        exact lkp_none hr (by rw [← this, ← e]; exact ha)
      have := mtch_nodup us ks _ _ _ nd2 h
      rw [List.length_append] at this
      exact ⟨this.1, by rw [List.length_cons]; simp at this; omega⟩
/-! ### what the program does -/
theorem kfs_put (a b : Addr) : putF "words" (.ref b) (kfs a) = kfs b := by
  show (if ("words" : Str) = "words" then [(("words" : Str), V.ref b)] else _) = kfs b
  rw [if_pos rfl]
  all_goals rfl
theorem Kd.keepP {C p g s x a : Addr} {H H' : Hp} (h : Kd C H x a) (P : PotAt H p g s) (k : Keep p g H H') : Kd C H' x a := by
  obtain ⟨dx, e⟩ := h
  obtain ⟨h1, h2⟩ := P.offs e (fun _ q => nomatch q)
  exact ⟨dx, k _ _ e h1 h2⟩
theorem kit_selfK {K : PySem.W.Frag} {C : Addr} : PySem.W.kitOne K (.ref C) (.ref C) = some true := by
  unfold PySem.W.kitOne
  rw [if_pos (by simp)]
section
variable {P : Program} {w : World} {K : PySem.W.Frag} {mg : Str → Option Value} {base : Heap}
def spKindOf (CK : Addr) : Sp := fun vs H Q _ => ∃ a : Addr, vs = [.ref a] ∧ ∀ H' y, Same H H' → H y = none → Kd CK H' y a → Q (.ref y) H'
abbrev s_kind_of : Stmt := (top 12)
theorem sc_kind_of : FnScope ["words", "kind"] ["words"] (defScope s_kind_of) := ⟨rfl, rfl, rfl, by decide +kernel, rfl, by decide +kernel, by decide +kernel⟩
theorem c_kind_of {CK : Addr} (B : Bt mg) (pk : PK K mg CK) (D : DefAt K mg "kind_of" s_kind_of) (MKind : MkrK P w K mg base CK) : Cal P w K mg base "kind_of" 6 ["words"] (spKindOf CK) := by
  refine cal_of D sc_kind_of (fun _ _ _ _ _ _ us hl => match us, hl with | [_], _ => rfl) (fun vs H Q E h => ?_) (fun fa cdv A outer st0 H vs Q E hr h => ?_)
  · obtain ⟨a, rfl, _⟩ := h
    rfl
  · obtain ⟨a, rfl, k⟩ := h
    refine ⟨_, (pss_cons (ps_set (i := 1) sc_kind_of.nd rfl (by first | exact Or.inl rfl | exact Or.inr rfl) (pe_mkK MKind (hr.mono (by decide)) (pa_cons (pe_tupF (pa_cons pe_int pa_nil)) pa_nil)))
      (pss_cons (ps_fld (pv 1) (pv 0) rfl)
      (pss_one (ps_ret (pv 1))))), ?_⟩
    refine ⟨(by show 1 ≤ sizeLine; decide), fun t o nt ho x dx nx ndx nex => ?_⟩
    have S1 : Same H (upd H t (.frz o (.tup [V.int 0]))) := same_upd nt
    have T1 : TupF (upd H t (.frz o (.tup [V.int 0]))) t [V.int 0] := TupF.new ho
    have S2 := madeK_same (C := CK) nx ndx
    refine ⟨x, dx, t, [.lt 0], rfl, upd_same, (T1.same S2).sq, ⟨.cons .nil, by decide⟩, fun H3 B3 ⟨dx3, P3⟩ => ⟨rfl, ?_⟩⟩
    have S3 := S1.trans (B3.same S2 nx)
    refine ⟨_, rfl, _, rfl, x, CK, dx3, _, rfl, P3, pk.cl, pk.nw, (by show 1 < 1000; decide), _, rfl, ?_⟩
    rw [kfs_put]
    have n0 : H x = none := S1.free nx
    exact k _ x (fun b o hb => by rw [upd_ne (ne_of_none hb n0)]; exact S3 _ _ hb) n0 ⟨dx3, upd_same⟩
theorem cut_partK {xs : List V} {i j : Nat} (hi : i ≤ xs.length) (hj : j ≤ xs.length) : cutV xs (some (i : Int)) (some (j : Int)) = (xs.drop i).take (j - i) := by
  unfold cutV
  rw [HT.sIx_nat, HT.sIx_nat, Nat.min_eq_left hi, Nat.min_eq_left hj]
def spKEnds (K : PySem.W.Frag) : Sp := fun vs H Q _ => ∃ (a : Addr) (ks : List KW) (c : Nat), vs = [.ref a] ∧ SqT K H a (ks.map kv) ∧ Wh c (ks.map sidesK) ∧ ks.length ≤ 100000 ∧ ∀ H' q, Same H H' → H q = none → TupF H' q (endsV ks.length (endK ks)) → Q (.ref q) H'
abbrev s_kind_ends : Stmt := (top 16)
theorem sc_kind_ends : FnScope ["words", "word"] ["words"] (defScope s_kind_ends) := ⟨rfl, rfl, rfl, by decide +kernel, rfl, by decide +kernel, by decide +kernel⟩
theorem c_kind_ends (B : Bt mg) (D : DefAt K mg "kind_ends" s_kind_ends) (Csides_in : Cal P w K mg base "sides_in" 1 ["word"] spSides) (Cends_by : Cal P w K mg base "ends_by" 1 ["needs"] (spEndsBy K)) : Cal P w K mg base "kind_ends" 2 ["words"] (spKEnds K) := by
  refine cal_of D sc_kind_ends (fun _ _ _ _ _ _ us hl => match us, hl with | [_], _ => rfl) (fun vs H Q E h => ?_) (fun fa cdv A outer st0 H vs Q E hr h => ?_)
  · obtain ⟨a, ks, c, rfl, _⟩ := h
    rfl
  · obtain ⟨a, ks, c, rfl, hq, hw, hl, k⟩ := h
    refine ⟨_, (pss_one (ps_ret (pe_c Cends_by (hr.mono (by decide)) (pa_cons (pe_lc (own := [("word", 1)]) (g := (gName 1)) (tt := tYes) rfl sc_kind_ends.nd (pi_tup (pv 0)) (blkOk_by (own := [("word", 1)]) (N := ["words", "word"]) (sc := defScope s_kind_ends) (by decide +kernel)) (fun _ _ _ _ _ => (pg_name (i := 1) sc_kind_ends.nd rfl (by first | exact Or.inl rfl | exact Or.inr rfl))) (fun _ _ _ _ _ => pts_nil) (fun _ _ _ _ _ => (pe_c Csides_in (hr.mono (by decide)) (pa_cons (pv 1) pa_nil)))) pa_nil)))), ?_⟩
    refine ⟨_, rfl, a, rfl, ⟨_, hq⟩, fun Dl nDl => lc_fmT (f := kv) (r := fun u => some (nv (sidesK u))) hq nDl hl ?_ ?_⟩
    · rintro i u H2 Qy Qn hu S2 hy hn
      exact ⟨rfl, _, rfl, u, rfl, fun H3 S3 => hy _ _ S3 rfl⟩
    · intro H2 S2 L2
      rw [map_some'] at L2
      have e : ks.map (fun u => nv (sidesK u)) = (ks.map sidesK).map nv := by rw [List.map_map]; rfl
      rw [e] at L2
      refine ⟨Dl, ks.map sidesK, endK ks, rfl, SqL.of L2, ends_kind hw, by rw [List.length_map]; omega, fun H3 q S3 nq T3 => ?_⟩
      rw [List.length_map] at T3
      exact k H3 q (S2.trans S3) (S2.free nq) T3
/-- at y stands a Kind with these words -/
def KdAt (CK : Addr) (H : Hp) (y : Addr) (r : List KW) : Prop := ∃ b, Kd CK H y b ∧ TupF H b (r.map kv)
theorem KdAt.same {CK y : Addr} {H H' : Hp} {r : List KW} (h : KdAt CK H y r) (k : Same H H') : KdAt CK H' y r := by
  obtain ⟨b, h1, h2⟩ := h
  exact ⟨b, h1.same k, h2.same k⟩
/-- what changes lists and dicts at one place leaves it -/
theorem KdAt.but {CK y d : Addr} {H H' : Hp} {r : List KW} {u : HO} (h : KdAt CK H y r) (hd : H d = some u) (nu : (∀ a b c, u ≠ .ins a b c) ∧ ∀ o v, u ≠ .frz o v) (k : ∀ b o, H b = some o → b ≠ d → H' b = some o) : KdAt CK H' y r := by
  obtain ⟨b, ⟨dx, h1⟩, ⟨o, h2, h3⟩⟩ := h
  exact ⟨b, ⟨dx, k _ _ h1 fun q => by rw [q, hd] at h1; exact nu.1 _ _ _ (Option.some.inj h1)⟩, o, k _ _ h2 (fun q => by rw [q, hd] at h2; exact nu.2 _ _ (Option.some.inj h2)), h3⟩
theorem tf_but {d a : Addr} {H H' : Hp} {xs : List V} {u : HO} (h : TupF H a xs) (hd : H d = some u) (nu : (∀ a b c, u ≠ .ins a b c) ∧ ∀ o v, u ≠ .frz o v) (k : ∀ b o, H b = some o → b ≠ d → H' b = some o) : TupF H' a xs := by
  obtain ⟨o, h2, h3⟩ := h
  exact ⟨o, k _ _ h2 (fun q => by rw [q, hd] at h2; exact nu.2 _ _ (Option.some.inj h2)), h3⟩
theorem nu_dK {kvs : List (Key × V)} : (∀ a b c, HO.dK kvs ≠ .ins a b c) ∧ ∀ o v, HO.dK kvs ≠ .frz o v := ⟨(fun _ _ _ e => nomatch e), (fun _ _ e => nomatch e)⟩
theorem nu_lst {xs : List V} : (∀ a b c, HO.lst xs ≠ .ins a b c) ∧ ∀ o v, HO.lst xs ≠ .frz o v := ⟨(fun _ _ _ e => nomatch e), (fun _ _ e => nomatch e)⟩
def spIsFill (CK : Addr) : Sp := fun vs H Q _ => ∃ (d : Addr) (kvs : List (Key × V)) (rows : Rws), vs = [.ref d] ∧ H d = some (.dK kvs) ∧ DRel (KdAt CK H) kvs rows ∧ rows.length ≤ 10000 ∧ ∀ H', Same H H' → Q (.bl true) H'
theorem lkp_take {rows : Rws} {i n : Nat} {r : List KW} (nd : (rows.map (·.1)).Nodup) (h : rows[i]? = some (n, r)) : lkp (rows.take i) n = none := by
  induction rows generalizing i with
  | nil => cases h
  | cons p l ih =>
    obtain ⟨m, x⟩ := p
    have nd' := List.nodup_cons.mp nd
    cases i with
    | zero => rfl
    | succ i =>
      have hm : n ∈ l.map (·.1) := List.mem_map.mpr ⟨(n, r), List.mem_of_getElem? h, rfl⟩
      show (if m = n then some x else lkp (l.take i) n) = none
      rw [if_neg fun e => nd'.1 (by rw [e]; exact hm)]
      exact ih nd'.2 h
theorem sum_len (f : KW → List KW) : ∀ ks : List KW, (ks.map fun u => (((f u).length : Nat) : Int)).sum = (((ks.flatMap f).length : Nat) : Int)
  | [] => rfl
  | k :: ks => by
    rw [List.map_cons, List.sum_cons, sum_len f ks, List.flatMap_cons, List.length_append]
    omega
theorem fillK_take {rows : Rws} {ks : List KW} {j : Nat} {u : KW} (h : ks[j]? = some u) : fillK rows (ks.take (j + 1)) = fillK rows (ks.take j) ++ subK rows u := by
  unfold fillK
  rw [List.take_add_one, h, List.flatMap_append]
  simp
theorem fillK_le {rows : Rws} (ks : List KW) (j : Nat) : (fillK rows (ks.take j)).length ≤ (fillK rows ks).length := by
  have e : fillK rows ks = fillK rows (ks.take j) ++ fillK rows (ks.drop j) := by
    unfold fillK
    rw [← List.flatMap_append, List.take_append_drop]
  rw [e, List.length_append]
  omega
/-- what rows.get(word, (word,)) tells -/
theorem get_row {H : Hp} {R : Addr} {kvs : List (Key × V)} {rows : Rws} {u : KW} {z : V} (hd : H R = some (.dK kvs)) (h : DRel (fun a r => TupF H a (r.map kv)) kvs rows) (hz : ∃ q, z = .ref q ∧ TupF H q [kv u]) : ∃ o, DGet H R (kv u) o ∧ ∃ q, o.getD z = .ref q ∧ TupF H q ((subK rows u).map kv) := by
  cases u with
  | to => exact ⟨_, .inl ⟨kvs, .inr ">", .inl hd, rfl, rfl⟩, by rw [h.str]; exact hz⟩
  | lt n =>
    refine ⟨_, .inl ⟨kvs, .inl (n : Int), .inl hd, rfl, rfl⟩, ?_⟩
    cases e : lkp rows n with
    | none =>
      rw [h.no e]
      show ∃ q, z = .ref q ∧ TupF H q (((lkp rows n).getD [.lt n]).map kv)
      rw [e]; exact hz
    | some r =>
      obtain ⟨a, e1, e2⟩ := h.yes e
      rw [e1]
      refine ⟨a, rfl, ?_⟩
      show TupF H a (((lkp rows n).getD [.lt n]).map kv)
      rw [e]; exact e2
def spFilled (CK : Addr) : Sp := fun vs H Q _ => ∃ (x a d : Addr) (ks : List KW) (kvs : List (Key × V)) (rows : Rws), vs = [.ref x, .ref d] ∧ Kd CK H x a ∧ TupF H a (ks.map kv) ∧ H d = some (.dK kvs) ∧ DRel (KdAt CK H) kvs rows ∧ (rows.map (·.1)).Nodup ∧ rows.length ≤ 10000 ∧ ks.length ≤ 10000 ∧ (fillK rows ks).length ≤ 100000 ∧
  ∀ H' y q, Same H H' → H y = none → Kd CK H' y q → TupF H' q ((fillK rows ks).map kv) → Q (.ref y) H'
/-- a filling, or None -/
def FillV (CK : Addr) (m : Option Rws) (H H' : Hp) (v : V) : Prop := match m with
  | none => v = .non
  | some rows => ∃ (d : Addr) (kvs : List (Key × V)), v = .ref d ∧ H d = none ∧ H' d = some (.dK kvs) ∧ DRel (KdAt CK H') kvs rows
def spFilling (CK : Addr) : Sp := fun vs H Q _ => ∃ (x y a b : Addr) (ks us : List KW), vs = [.ref x, .ref y] ∧ Kd CK H x a ∧ TupF H a (ks.map kv) ∧ Kd CK H y b ∧ TupF H b (us.map kv) ∧ Wh 1 (ks.map sidesK) ∧ Wh 1 (us.map sidesK) ∧ ks.length ≤ 10000 ∧ us.length ≤ 10000 ∧
  ∀ H' v, Same H H' → FillV CK (mtch us ks 0 []) H H' v → Q v H'
theorem intoB (k : KW) : decide (kv k = V.str ">") = decide (k = .to) := by
  cases k with
  | to => exact (decide_eq_true (show kv KW.to = V.str ">" from rfl)).trans (decide_eq_true rfl).symm
  | lt n => exact (decide_eq_false (show ¬ kv (KW.lt n) = V.str ">" from fun z => nomatch z)).trans (decide_eq_false (fun e => nomatch e)).symm
abbrev s_filling : Stmt := (top 21)
theorem sc_filling : FnScope ["kind", "other", "behind", "rows", "at", "word", "row", "letter"] ["kind", "other"] (defScope s_filling) := ⟨rfl, rfl, rfl, by decide +kernel, rfl, by decide +kernel, by decide +kernel⟩
theorem c_filling {CK : Addr} (B : Bt mg) (pk : PK K mg CK) (D : DefAt K mg "filling" s_filling) (Ckind_ends : Cal P w K mg base "kind_ends" 2 ["words"] (spKEnds K)) (Ckind_of : Cal P w K mg base "kind_of" 6 ["words"] (spKindOf CK)) : Cal P w K mg base "filling" 7 ["kind", "other"] (spFilling CK) := by
  refine cal_of D sc_filling (fun _ _ _ _ _ _ us hl => match us, hl with | [_, _], _ => rfl) (fun vs H Q E h => ?_) (fun fa cdv A outer st0 H vs Q E hr h => ?_)
  · obtain ⟨x, y, a, b, ks, us, rfl, _⟩ := h
    rfl
  · obtain ⟨x, y, a, b, ks, us, rfl, hx, ha, hy, hb, wk, wu, lks, lus, k⟩ := h
    refine ⟨_, (pss_cons (ps_set (i := 2) sc_filling.nd rfl (by first | exact Or.inl rfl | exact Or.inr rfl) (pe_c Ckind_ends (hr.mono (by decide)) (pa_cons (pe_fld (pv 1) rfl) pa_nil)))
      (pss_cons (ps_set (i := 3) sc_filling.nd rfl (by first | exact Or.inl rfl | exact Or.inr rfl) pe_dnewK)
      (pss_cons (ps_set (i := 4) sc_filling.nd rfl (by first | exact Or.inl rfl | exact Or.inr rfl) pe_int)
      (pss_cons (ps_for PassesOwn.never rfl (pi_tup (pe_fld (pv 0) rfl)) (pg_name (i := 5) sc_filling.nd rfl (by first | exact Or.inl rfl | exact Or.inr rfl)) (pss_one (ps_if (pt_cmpR op_eq (pv 5) (pe_gs B.m_INTO) (nomark _)) (pss_cons (ps_if (pt_cmpR op_ne (pe_ix ix_tup (pe_fld (pv 1) rfl) (pv 4) (fun _ _ => rfl)) (pe_gs B.m_INTO) (nomark _)) (pss_one (ps_ret pe_non)) pss_nil)
      (pss_one (ps_aug (i := 4) sc_filling.nd rfl (by first | exact Or.inl rfl | exact Or.inr rfl) pe_int ip_add))) (pss_cons (ps_set (i := 6) sc_filling.nd rfl (by first | exact Or.inl rfl | exact Or.inr rfl) (pe_slice sl_tupG (pe_fld (pv 1) rfl) (po_some (pv 4)) (po_some (pe_ix ix_tup (pv 2) (pv 4) (fun _ _ => rfl)))))
      (pss_cons (ps_if (pt_cmpR (op_neD hr.units) (pe_dsetd (pv 3) (pv 5) (pv 6) ⟨by rfl, by rfl, by rfl, by rfl⟩) (pv 6) (nomark _)) (pss_one (ps_ret pe_non)) pss_nil)
      (pss_one (ps_set (i := 4) sc_filling.nd rfl (by first | exact Or.inl rfl | exact Or.inr rfl) (pe_ix ix_tup (pv 2) (pv 4) (fun _ _ => rfl)))))))))
      (pss_one (ps_ret (pe_lock (pe_dc (own := [("letter", 7), ("row", 6)]) (g := (gTup K 2 (gCons (gName 7) (gCons (gName 6) gNil)))) (tt := tYes) rfl sc_filling.nd (pi_items (pv 3)) (blkOk_by (own := [("letter", 7), ("row", 6)]) (N := ["kind", "other", "behind", "rows", "at", "word", "row", "letter"]) (sc := defScope s_filling) (by decide +kernel)) (fun _ _ _ _ _ => by exact (pg_tup (by rfl) (pgs_cons (pg_name (i := 7) sc_filling.nd rfl (by first | exact Or.inl rfl | exact Or.inr rfl)) (pgs_cons (pg_name (i := 6) sc_filling.nd rfl (by first | exact Or.inl rfl | exact Or.inr rfl)) pgs_nil)))) (fun _ _ _ _ _ => pts_nil) (fun _ _ _ _ _ => by exact (pv 7)) (fun _ _ _ _ _ => by exact (pe_c Ckind_of (hr.mono (by decide)) (pa_cons (pv 6) pa_nil))))))))))), ?_⟩
    obtain ⟨dx, hx0⟩ := id hx
    obtain ⟨dy, hy0⟩ := id hy
    refine ⟨_, rfl, y, CK, dy, _, _, rfl, hy0, pk.cl, pk.nw, kfs_get b, b, us, 1, rfl, hb.sq, wu, by omega, fun H1 e S1 ne T1 => ?_⟩
    refine fun R nR => ?_
    have S2 := same_upd (o := HO.dK []) nR
    have R2 : upd H1 R (.dK []) R = some (.dK []) := upd_same
    have T2 := T1.same S2
    have nRH : H R = none := S1.free nR
    have S02 := S1.trans S2
    generalize upd H1 R (.dK []) = H2 at *
    refine ⟨_, rfl, x, CK, dx, _, _, rfl, S02 _ _ hx0, pk.cl, pk.nw, kfs_get a, a, rfl, ⟨_, (ha.same S02).sq⟩, for_tup (K := K) (a := a) (xs := ks.map kv) (fun j σ H' => ∃ (i c : Nat) (rows : Rws) (kvs : List (Key × V)) (v5 v6 v7 : Option V), σ = [some (.ref x), some (.ref y), some (.ref e), some (.ref R), some (.int (i : Nat)), v5, v6, v7] ∧ Same H H' ∧ TupF H' e (endsV us.length (endK us)) ∧ H' R = some (.dK kvs) ∧ DRel (fun a r => TupF H' a (r.map kv)) kvs rows ∧ (rows.map (·.1)).Nodup ∧ rows.length ≤ j ∧ Wh c ((ks.drop j).map sidesK) ∧ Wh c ((us.drop i).map sidesK) ∧ mtch us ks 0 [] = mtch us (ks.drop j) i rows)
      ⟨0, 1, [], [], none, none, none, rfl, S02, T2, R2, .nil, List.nodup_nil, Nat.le_refl _, wk, wu, rfl⟩ (fun i σ H' _ ⟨_, _, _, _, _, _, _, _, s, _⟩ => (ha.same s).sq) ?_ ?_⟩
    · rintro j z σ H3 hz ⟨i, c, rows, kvs, v5, v6, v7, rfl, S3, T3, R3, h3, nd, lr, w1, w2, em⟩
      obtain ⟨u, hu, rfl⟩ := map_get hz
      have hj := (List.getElem?_eq_some_iff.mp hu).1
      rw [head_drop hu] at w1 em
      obtain ⟨c, rfl⟩ : ∃ c', c = c' + 1 := by
        cases w1 with
        | @cons c n ns h => exact ⟨c, rfl⟩
      have w1' : Wh (c + sidesK u) ((ks.drop (j + 1)).map sidesK) := by
        cases w1 with
        | cons h => exact h
      obtain ⟨ts, e1, e2⟩ := wh_forest _ w2
      obtain ⟨t, ts, rfl⟩ : ∃ t ts', ts = t :: ts' := by
        cases ts with
        | nil => simp at e1
        | cons t ts => exact ⟨t, ts, rfl⟩
      have lts : ts.length = c := by simpa using e1
      have hd : us.drop i = t.ks ++ ksL ts := e2.symm
      obtain ⟨q1, q2, q3⟩ := endK_at hd
      have pt := t.pos
      have hi : i < us.length := by omega
      have hbs := (hb.same S3)
      obtain ⟨ui, hui⟩ : ∃ ui, us[i]? = some ui := ⟨us[i], List.getElem?_eq_getElem hi⟩
      have huv : (us.map kv)[i]? = some (kv ui) := by rw [List.getElem?_map, hui]; rfl
      refine ⟨_, rfl, by cases u <;> rfl, _, rfl, ?_⟩
      rw [intoB]
      cases u with
      | to =>
        rw [decide_eq_true rfl]
        refine iteT ⟨_, rfl, y, CK, dy, _, _, rfl, S3 _ _ hy0, pk.cl, pk.nw, kfs_get b, _, rfl, b, _, _, _, rfl, rfl, hbs.sq, atI_nat huv, ?_⟩
        have em : mtch us ks 0 [] = (if us[i]? = some .to then mtch us (ks.drop (j + 1)) (i + 1) rows else none) := em
        rw [hui] at em
        refine ⟨by cases ui <;> rfl, _, rfl, ?_⟩
        rw [intoB]
        by_cases eu : ui = .to
        · subst eu
          rw [if_pos rfl] at em
          rw [decide_eq_true rfl]
          refine iteF ⟨_, rfl, _, _, rfl, rfl, ?_⟩
          rw [head_drop hui] at w2
          have w2' : Wh (c + 2) ((us.drop (i + 1)).map sidesK) := by
            cases w2 with
            | cons h => exact h
          exact ⟨i + 1, c + 2, rows, kvs, _, _, _, rfl, S3, T3, R3, h3, nd, by omega, w1', w2', em⟩
        · rw [if_neg (fun e => eu (Option.some.inj e))] at em
          rw [decide_eq_false eu]
          refine iteT (k H3 .non S3 ?_)
          rw [em]; rfl
      | lt n =>
        rw [decide_eq_false (fun e => nomatch e)]
        have ge : (endsV us.length (endK us))[i]? = some (.int (endK us i : Nat)) := endsV_get hi
        have le : endK us i ≤ us.length := by omega
        have cr : cutV (us.map kv) (some (i : Int)) (some ((endK us i : Nat) : Int)) = t.ks.map kv := by
          rw [cut_partK (by rw [List.length_map]; omega) (by rw [List.length_map]; omega), ← List.map_drop, ← List.map_take, row_at hd]
        refine iteF ⟨_, rfl, y, CK, dy, _, _, rfl, S3 _ _ hy0, pk.cl, pk.nw, kfs_get b, _, rfl, _, rfl, _, rfl, _, rfl, e, _, _, _, rfl, rfl, T3.sq, atI_nat ge, _, rfl, cutF_of hbs fun H4 q S4 Tq => ?_⟩
        rw [cr] at Tq
        have R4 := S4 _ _ R3
        have T4 := T3.same S4
        have h4 := h3.mono fun a r z => z.same S4
        have S04 := S3.trans S4
        have w3 : Wh c ((us.drop (endK us i)).map sidesK) := by rw [q2, ← lts]; exact forest_wh ts
        have em : mtch us ks 0 [] = (match lkp rows n with
          | some r => if r = t.ks then mtch us (ks.drop (j + 1)) (endK us i) rows else none
          | none => mtch us (ks.drop (j + 1)) (endK us i) (rows ++ [(n, t.ks)])) := by
          rw [em]
          show (match lkp rows n with
            | some r => if r = (us.drop i).take (endK us i - i) then mtch us (ks.drop (j + 1)) (endK us i) rows else none
            | none => mtch us (ks.drop (j + 1)) (endK us i) (rows ++ [(n, (us.drop i).take (endK us i - i))])) = _
          rw [row_at hd]
        have at' : ∀ (H5 : Hp) (rows' : Rws) (kvs' : List (Key × V)) (v : V), Same H H5 → TupF H5 e (endsV us.length (endK us)) → H5 R = some (.dK kvs') → DRel (fun a r => TupF H5 a (r.map kv)) kvs' rows' → (rows'.map (·.1)).Nodup → rows'.length ≤ j + 1 → mtch us ks 0 [] = mtch us (ks.drop (j + 1)) (endK us i) rows' → True := fun _ _ _ _ _ _ _ _ _ _ _ => trivial
        refine ⟨_, rfl, R, rfl, .inl ⟨_, .inl R4⟩, _, rfl, _, rfl, kvs, .inl (n : Int), R4, rfl, ?_, fun v hv => ?_, fun hv => ?_⟩
        · rw [h4.len]; exact small_lt (m := 10000) (by omega) (by decide)
        · cases er : lkp rows n with
          | none => rw [h4.no er] at hv; cases hv
          | some r =>
            obtain ⟨a2, g1, g2⟩ := h4.yes er
            rw [g1] at hv
            cases hv
            rw [er] at em
            refine ⟨_, rfl, neD_kv g2.sq Tq.sq ?_⟩
            have em : mtch us ks 0 [] = (if r = t.ks then mtch us (ks.drop (j + 1)) (endK us i) rows else none) := em
            by_cases eq : r = t.ks
            · rw [if_pos eq] at em
              rw [decide_eq_true eq]
              refine ⟨_, rfl, iteF ⟨_, rfl, _, rfl, e, _, _, _, rfl, rfl, T4.sq, atI_nat ge, ?_⟩⟩
              exact ⟨endK us i, c, rows, kvs, _, _, _, rfl, S04, T4, R4, h4, nd, by omega, w1', w3, em⟩
            · rw [if_neg eq] at em
              rw [decide_eq_false eq]
              refine ⟨_, rfl, iteT (k H4 .non S04 ?_)⟩
              rw [em]; rfl
        · cases er : lkp rows n with
          | some r =>
            obtain ⟨a2, g1, g2⟩ := h4.yes er
            rw [g1] at hv
            cases hv
          | none =>
            rw [er] at em
            have em : mtch us ks 0 [] = mtch us (ks.drop (j + 1)) (endK us i) (rows ++ [(n, t.ks)]) := em
            have R5 : upd H4 R (.dK (putK kvs (.inl (n : Int)) (.ref q))) R = some (.dK (kvs ++ [(.inl (n : Int), .ref q)])) := by rw [upd_same, putK_new hv]
            have nu : ∀ {c xs}, TupF H4 c xs → TupF (upd H4 R (.dK (putK kvs (.inl (n : Int)) (.ref q)))) c xs := fun {c xs} t => tf_but t R4 nu_dK (fun b o hb hn => by rw [upd_ne hn]; exact hb)
            have h5 : DRel (fun a r => TupF (upd H4 R (.dK (putK kvs (.inl (n : Int)) (.ref q)))) a (r.map kv)) (kvs ++ [(.inl (n : Int), .ref q)]) (rows ++ [(n, t.ks)]) := (h4.mono fun a r t => nu t).snoc (nu Tq)
            have T5 := nu T4
            have Tq5 := nu Tq
            have S05 : Same H (upd H4 R (.dK (putK kvs (.inl (n : Int)) (.ref q)))) := fun b o hb => by rw [upd_ne (ne_of_none hb nRH)]; exact S04 _ _ hb
            generalize upd H4 R (.dK (putK kvs (.inl (n : Int)) (.ref q))) = H5 at *
            refine ⟨_, rfl, neD_kv Tq5.sq Tq5.sq ?_⟩
            rw [decide_eq_true rfl]
            refine ⟨_, rfl, iteF ⟨_, rfl, _, rfl, e, _, _, _, rfl, rfl, T5.sq, atI_nat ge, ?_⟩⟩
            refine ⟨endK us i, c, rows ++ [(n, t.ks)], _, _, _, _, rfl, S05, T5, R5, h5, ?_, by rw [List.length_append]; show _ + 1 ≤ _; omega, w1', w3, em⟩
            rw [List.map_append]
            refine List.nodup_append.mpr ⟨nd, by simp, fun a ha b hb e => ?_⟩
            have : b = n := by simpa using hb
            exact lkp_none er (by rw [← this, ← e]; exact ha)
    · rintro σ H3 ⟨i, c, rows, kvs, v5, v6, v7, rfl, S3, T3, R3, h3, nd, lr, w1, w2, em⟩
      rw [List.length_map] at lr w1 em
      rw [List.drop_length] at em
      have em : mtch us ks 0 [] = some rows := em
      have lk := h3.len
      refine ⟨R, .dK kvs, R3, trivial, fun od => ?_⟩
      have off : ∀ b o, H3 b = some o → b ≠ R → upd H3 R (.frz od (.dK kvs)) b = some o := fun b o hb hn => by rw [upd_ne hn]; exact hb
      have R4 : upd H3 R (.frz od (.dK kvs)) R = some (.frz od (.dK kvs)) := upd_same
      generalize upd H3 R (.frz od (.dK kvs)) = H4 at *
      refine ⟨_, rfl, R, od, kvs, rfl, R4, fun G nG => ?_⟩
      have RG : R ≠ G := ne_of_none R4 nG
      have nGH : ∀ b o, H3 b = some o → b ≠ R → b ≠ G := fun b o hb hn => ne_of_none (off b o hb hn) nG
      have nGH0 : H G = none := by
        cases hG : H G with
        | none => rfl
        | some o => exact absurd rfl (nGH G o (S3 _ _ hG) RG.symm)
      refine dc_itemsK (fun i H' => H' R = some (.frz od (.dK kvs)) ∧ (∀ b o, H3 b = some o → b ≠ R → H' b = some o) ∧ ∃ kvs', H' G = some (.dK kvs') ∧ DRel (KdAt CK H') kvs' (rows.take i)) ⟨by rw [upd_ne RG]; exact R4, fun b o hb hn => by rw [upd_ne (nGH b o hb hn)]; exact off b o hb hn, [], upd_same, .nil⟩ (fun i H' _ h => h.1) ?_ ?_
      · rintro i k0 v T H5 hk ⟨h1, h2, kvs', h5, h6⟩ nT
        obtain ⟨n, q, r, rfl, rfl, hr, hq⟩ := h3.get hk
        have hi := (List.getElem?_eq_some_iff.mp hk).1
        have S6 := same_upd (o := HO.tup [kV (.inl (n : Int)), V.ref q]) nT
        have T6 : upd H5 T (.tup [kV (.inl (n : Int)), V.ref q]) T = some (.tup [kV (.inl (n : Int)), V.ref q]) := upd_same
        generalize upd H5 T (.tup [kV (.inl (n : Int)), V.ref q]) = H6 at *
        have tq := tf_but hq R3 nu_dK (fun b o hb hn => S6 _ _ (h2 b o hb hn))
        refine ⟨T, _, rfl, SqT.of T6, rfl, _, _, rfl, _, _, rfl, rfl, rfl, _, rfl, _, rfl, q, rfl, fun H7 z S7 nz Kz => ?_⟩
        have S57 := S6.trans S7
        refine ⟨kvs', .inl (n : Int), rfl, S57 _ _ h5, ?_, ?_, fun b o hb hn => ?_, kvs' ++ [(.inl (n : Int), .ref z)], ?_, ?_⟩
        · rw [h6.len, List.length_take]
          exact small_lt (m := 10000) (by omega) (by decide)
        · rw [upd_ne RG]; exact S57 _ _ h1
        · rw [upd_ne (nGH b o hb hn)]; exact S57 _ _ (h2 b o hb hn)
        · rw [putK_new (h6.no (lkp_take nd hr)), upd_same]
        · rw [List.take_add_one, hr]
          have nu : ∀ {c xs}, KdAt CK H7 c xs → KdAt CK (upd H7 G (.dK (putK kvs' (.inl (n : Int)) (.ref z)))) c xs := fun {c xs} t => t.but (S57 _ _ h5) nu_dK (fun b o hb hn => by rw [upd_ne hn]; exact hb)
          exact (h6.mono fun a r t => nu (t.same S57)).snoc (nu ⟨q, Kz, tq.same S7⟩)
      · rintro H5 ⟨h1, h2, kvs', h5, h6⟩
        rw [lk, List.take_length] at h6
        refine ⟨h1, k _ _ (fun b o hb => ?_) ?_⟩
        · by_cases q : b = R
          · subst q
            rw [nRH] at hb; cases hb
          · rw [upd_ne q]; exact h2 b o (S3 _ _ hb) q
        · rw [em]
          refine ⟨G, kvs', rfl, nGH0, by rw [upd_ne RG.symm]; exact h5, h6.mono fun a r ⟨c, ⟨dc, g1⟩, o, g2, g3⟩ => ⟨c, ⟨dc, ?_⟩, o, ?_, g3⟩⟩
          · rw [upd_ne fun z => by rw [z, h1] at g1; cases g1]; exact g1
          · rw [upd_ne fun z => by rw [z, h1] at g2; cases g2]; exact g2
end
end Kk

set_option maxHeartbeats 4000000
/-! kinds, by the law's own hand -/
namespace Kk
open PySem PySem.Spec PyProof.Rows L2 Wd
theorem wh_uniq : ∀ {l : List Nat} {c c' : Nat}, Wh c l → Wh c' l → c = c'
  | [], _, _, h, h' => by cases h; cases h'; rfl
  | n :: l, _, _, h, h' => by
    cases h with
    | @cons c _ _ h =>
    cases h' with
    | @cons c' _ _ h' =>
    have := wh_uniq h h'
    omega
def endsF (i : Nat) : List KT → List Nat
  | [] => []
  | t :: ts => (i + t.ks.length) :: endsF (i + t.ks.length) ts
theorem endsF_len (ts : List KT) : ∀ i, (endsF i ts).length = ts.length := by
  induction ts with
  | nil => intro _; rfl
  | cons t ts ih => intro i; show _ + 1 = _ + 1; rw [ih]
theorem ts_len (ts : List KT) : ts.length ≤ (ksL ts).length := by
  induction ts with
  | nil => exact Nat.le_refl _
  | cons t ts ih =>
    have := t.pos
    rw [ksL_cons, List.length_append, List.length_cons]
    omega
theorem intoB' (k : KW) : decide (kv k = V.str ">") = decide (k = .to) := by
  cases k with
  | to => exact (decide_eq_true (show kv KW.to = V.str ">" from rfl)).trans (decide_eq_true rfl).symm
  | lt n => exact (decide_eq_false (show ¬ kv (KW.lt n) = V.str ">" from fun z => nomatch z)).trans (decide_eq_false (fun e => nomatch e)).symm
theorem big39 : V.int (10 ^ (39 : Int).toNat) = nv (10 ^ 39) := by
  show V.int _ = V.int _
  congr 1
section
variable {P : Program} {w : World} {K : PySem.W.Frag} {mg : Str → Option Value} {base : Heap}
def spIntL (K : PySem.W.Frag) : Sp := fun vs H Q _ => ∃ x : V, vs = [x] ∧ NumT K H x ∧ Q (.bl (isIntV x)) H
def spSomeK : Sp := fun vs H Q _ => ∃ p g s : Addr, vs = [.ref p] ∧ PotAt H p g s ∧ ∀ (H' : Hp) (q : Addr) (ks : List KW), PotAt H' p g s → Keep p g H H' → TupF H' q (ks.map kv) → Wh 1 (ks.map sidesK) → ks.length ≤ 400 → Q (.ref q) H'
def spLKE (K : PySem.W.Frag) : Sp := fun vs H Q _ => ∃ (a : Addr) (ks : List KW), vs = [.ref a] ∧ SqT K H a (ks.map kv) ∧ Wh 1 (ks.map sidesK) ∧ ks.length ≤ 10000 ∧ ∀ H' q, Same H H' → H q = none → H' q = some (.lst (endsV ks.length (endK ks))) → Q (.ref q) H'
abbrev s_lke : Stmt := (top 31)
theorem sc_lke : FnScope ["_law_words", "_law_found", "_law_whole", "_law_place", "_law_end"] ["_law_words"] (defScope s_lke) := ⟨rfl, rfl, rfl, by decide +kernel, rfl, by decide +kernel, by decide +kernel⟩
theorem c_lke (B : Bt mg) (D : DefAt K mg "_law_kind_ends" s_lke) : Cal P w K mg base "_law_kind_ends" 1 ["_law_words"] (spLKE K) := by
  refine cal_of D sc_lke (fun _ _ _ _ _ _ us hl => match us, hl with | [_], _ => rfl) (fun vs H Q E h => ?_) (fun fa cdv A outer st0 H vs Q E hr h => ?_)
  · obtain ⟨a, ks, rfl, _⟩ := h
    rfl
  · obtain ⟨a, ks, rfl, hq, W, hl, k⟩ := h
    refine ⟨_, (pss_cons (ps_set (i := 1) sc_lke.nd rfl (by first | exact Or.inl rfl | exact Or.inr rfl) (pe_op op_rep (pe_lst (pa_cons pe_int pa_nil)) (pe_callB call_len_seq (by rfl) B.b_len (by decide +kernel) (pa_cons (pv 0) pa_nil))))
      (pss_cons (ps_set (i := 2) sc_lke.nd rfl (by first | exact Or.inl rfl | exact Or.inr rfl) (pe_lst pa_nil))
      (pss_cons (ps_for PassesOwn.never rfl (pi_range3 (by rfl) B.b_range (pa_cons (pe_op op_sub (pe_callB call_len_seq (by rfl) B.b_len (by decide +kernel) (pa_cons (pv 0) pa_nil)) pe_int) (pa_cons (pe_un un_neg pe_int) (pa_cons (pe_un un_neg pe_int) pa_nil)))) (pg_name (i := 3) sc_lke.nd rfl (by first | exact Or.inl rfl | exact Or.inr rfl)) (pss_cons (ps_set (i := 4) sc_lke.nd rfl (by first | exact Or.inl rfl | exact Or.inr rfl) (pe_op op_add (pv 3) pe_int))
      (pss_cons (ps_if (pt_cmpR op_eq (pe_ix ix_tup (pv 0) (pv 3) (fun _ _ => rfl)) pe_str (nomark _)) (pss_cons (ps_expr (pe_bm0 PySem.F.plainAttrs_list PySem.F.slot_list_pop PySem.F.type_list_pop mt_pop (pv 2)))
      (pss_one (ps_set (i := 4) sc_lke.nd rfl (by first | exact Or.inl rfl | exact Or.inr rfl) (pe_bm0 PySem.F.plainAttrs_list PySem.F.slot_list_pop PySem.F.type_list_pop mt_pop (pv 2))))) pss_nil)
      (pss_cons (ps_asg (pv 4) (pg_sub (pv 1) (pv 3) set_list))
      (pss_one (ps_expr (pe_bm PySem.F.plainAttrs_list PySem.F.slot_list_append PySem.F.type_list_append mt_append (pv 2) (pa_cons (pv 4) pa_nil))))))))
      (pss_one (ps_ret (pv 1)))))), ?_⟩
    have hlm : (ks.map kv).length = ks.length := List.length_map ..
    refine ⟨(by show 1 ≤ sizeLine; decide), fun z nz => ?_⟩
    have Sz : Same H (upd H z (.lst [.int 0])) := same_upd nz
    have Lz : upd H z (.lst [.int 0]) z = some (.lst [.int 0]) := upd_same
    generalize upd H z (.lst [.int 0]) = H1 at *
    refine ⟨_, rfl, _, _, rfl, .inr (SqT.same hq Sz), z, _, _, rfl, rfl, Lz, by omega, by omega, ?_, fun b nb => ?_⟩
    · rw [hlm, sizeLine_eq]; show 1 * _ ≤ _; omega
    have eb : (List.replicate (((ks.map kv).length : Nat) : Int).toNat [V.int 0]).flatten = List.replicate ks.length (V.int 0) := by
      rw [hlm]
      show (List.replicate ks.length [V.int 0]).flatten = _
      induction ks.length with
      | zero => rfl
      | succ n ih => rw [List.replicate_succ, List.flatten_cons, ih, List.replicate_succ]; rfl
    rw [eb]
    have Sb : Same H (upd H1 b (.lst (List.replicate ks.length (V.int 0)))) := Sz.trans (same_upd nb)
    have Lb : upd H1 b (.lst (List.replicate ks.length (V.int 0))) b = some (.lst (List.replicate ks.length (V.int 0))) := upd_same
    have fb : H b = none := Sz.free nb
    generalize upd H1 b (.lst (List.replicate ks.length (V.int 0))) = H2 at *
    refine ⟨Nat.zero_le _, fun c nc => ?_⟩
    have Sc : Same H (upd H2 c (.lst [])) := Sb.trans (same_upd nc)
    have Lc : upd H2 c (.lst []) c = some (.lst []) := upd_same
    have nbc : b ≠ c := ne_of_none Lb nc
    have Lb2 : upd H2 c (.lst []) b = some (.lst (List.replicate ks.length (V.int 0))) := by rw [upd_ne nbc]; exact Lb
    have fc : H c = none := Sb.free nc
    generalize upd H2 c (.lst []) = H3 at *
    have en : ((((ks.map kv).length : Nat) : Int) - 1 - -1).toNat = ks.length := by rw [hlm]; omega
    have big : (10000 : Int) < 2 ^ 62 := by decide
    refine ⟨_, rfl, _, _, rfl, .inr (SqT.same hq Sc), _, _, rfl, rfl, _, rfl, _, rfl, _, _, _, _, rfl, RgC.neg (i := (((ks.map kv).length : Nat) : Int) - 1) (j := -1) (by omega) (by omega) (by omega) (by omega),
      for_rangeC (lo := (((ks.map kv).length : Nat) : Int) - 1) (c := -1) (n := ((((ks.map kv).length : Nat) : Int) - 1 - -1).toNat)
      (fun i σ H' => ∃ (v1 v2 : Option V) (L : List V) (ts : List KT), σ = [some (.ref a), some (.ref b), some (.ref c), v1, v2] ∧ Same H H' ∧ H' b = some (.lst L) ∧ L.length = ks.length ∧ (∀ j, ks.length ≤ j + i → j < ks.length → L[j]? = some (.int (endK ks j : Nat))) ∧ ks.drop (ks.length - i) = ksL ts ∧ H' c = some (.lst ((endsF (ks.length - i) ts).reverse.map nv)))
      ⟨none, none, _, [], rfl, Sc, Lb2, List.length_replicate .., fun j h1 h2 => absurd h2 (by omega), by rw [Nat.sub_zero, List.drop_length]; rfl, Lc⟩ ?_ ?_⟩
    · rintro i σ H' hi ⟨v1, v2, L, ts, rfl, S3, L3, hL, hE, hts, C3⟩
      rw [en] at hi
      obtain ⟨m, hm⟩ : ∃ m : Nat, m + i + 1 = ks.length := ⟨ks.length - 1 - i, by omega⟩
      have eat : ((((ks.map kv).length : Nat) : Int) - 1) + (i : Nat) * (-1) = (m : Int) := by rw [hlm]; omega
      rw [eat]
      have eni : ks.length - i = m + 1 := by omega
      have eni2 : ks.length - (i + 1) = m := by omega
      rw [eni] at C3 hts
      have hml : m < ks.length := by omega
      obtain ⟨u, hu⟩ : ∃ u, ks[m]? = some u := ⟨ks[m], List.getElem?_eq_getElem hml⟩
      have huv : (ks.map kv)[m]? = some (kv u) := by rw [List.getElem?_map, hu]; rfl
      have q3 := SqT.same hq S3
      have hd := head_drop hu
      rw [hts] at hd
      have lts := ts_len ts
      rw [← hts, List.length_drop] at lts
      have ixm : ixN L.length (m : Int) = some m := ixN_lt (by omega)
      refine ⟨_, rfl, _, _, rfl, rfl, _, rfl, _, rfl, a, _, _, _, rfl, rfl, q3, atI_nat huv, by cases u <;> rfl, _, rfl, ?_⟩
      rw [intoB']
      cases u with
      | lt n =>
        rw [decide_eq_false (fun e => nomatch e)]
        have hd2 : ks.drop m = (KT.lt n).ks ++ ksL ts := hd
        have e1 := (endK_at hd2).1
        have e1 : endK ks m = m + 1 := e1
        refine iteF ⟨_, rfl, _, rfl, _, rfl, b, _, _, m, rfl, rfl, L3, ixm, ?_⟩
        have C4 : upd H' b (.lst (L.set m (.int ((m : Int) + 1)))) c = some (.lst ((endsF (m + 1) ts).reverse.map nv)) := by rw [upd_ne nbc.symm]; exact C3
        have L4 : upd H' b (.lst (L.set m (.int ((m : Int) + 1)))) b = some (.lst (L.set m (.int ((m : Int) + 1)))) := upd_same
        have S4 : Same H (upd H' b (.lst (L.set m (.int ((m : Int) + 1))))) := fun x o hx => by rw [upd_ne (ne_of_none hx fb)]; exact S3 _ _ hx
        generalize upd H' b (.lst (L.set m (.int ((m : Int) + 1)))) = H4 at *
        refine ⟨_, rfl, .inl ⟨rfl, _, SqL.of C4⟩, _, rfl, c, _, _, rfl, rfl, C4, ?_, ?_⟩
        · rw [List.length_map, List.length_reverse, endsF_len]
          exact small_lt (m := 10000) (by omega) (by decide)
        refine ⟨_, _, _, .lt n :: ts, rfl, fun x o hx => by rw [upd_ne (ne_of_none hx fc)]; exact S4 _ _ hx, by rw [upd_ne nbc]; exact L4, by rw [List.length_set]; exact hL, fun j h1 h2 => ?_, by rw [eni2]; exact hd2, ?_⟩
        · by_cases hj : j = m
          · subst hj
            rw [List.getElem?_set_self (by omega), e1]; rfl
          · rw [List.getElem?_set_ne (by omega)]
            exact hE j (by omega) h2
        · rw [upd_same, eni2]
          show _ = some (HO.lst (((m + 1) :: endsF (m + 1) ts).reverse.map nv))
          rw [List.reverse_cons, List.map_append]; rfl
      | to =>
        rw [decide_eq_true rfl]
        have w2 : 2 ≤ ts.length := by
          obtain ⟨c', wc⟩ := wh_drop (c := 0) W m (Nat.le_of_lt hml)
          rw [hd] at wc
          cases wc with
          | @cons c' n ns wc =>
            have := wh_uniq wc (forest_wh ts)
            have e : sidesK .to = 2 := rfl
            omega
        obtain ⟨ta, tb, ts, rfl⟩ : ∃ ta tb ts', ts = ta :: tb :: ts' := by
          match ts, w2 with
          | a :: b :: ts, _ => exact ⟨a, b, ts, rfl⟩
          | [_], h => simp at h
          | [], h => simp at h
        have hd2 : ks.drop m = (KT.to ta tb).ks ++ ksL ts := by
          rw [hd]
          show .to :: (ta.ks ++ (tb.ks ++ ksL ts)) = .to :: (ta.ks ++ tb.ks) ++ ksL ts
          simp
        have la : (KT.to ta tb).ks.length = 1 + ta.ks.length + tb.ks.length := by simp [KT.ks]; omega
        have e1 : endK ks m = m + 1 + ta.ks.length + tb.ks.length := by rw [(endK_at hd2).1]; omega
        have C3 : H' c = some (.lst ((endsF (m + 1 + ta.ks.length + tb.ks.length) ts).reverse.map nv ++ [nv (m + 1 + ta.ks.length + tb.ks.length)] ++ [nv (m + 1 + ta.ks.length)])) := by
          rw [C3]
          show some (HO.lst (((m + 1 + ta.ks.length) :: (m + 1 + ta.ks.length + tb.ks.length) :: endsF (m + 1 + ta.ks.length + tb.ks.length) ts).reverse.map nv)) = _
          rw [List.reverse_cons, List.reverse_cons, List.map_append, List.map_append]; rfl
        generalize hE2 : m + 1 + ta.ks.length + tb.ks.length = e2 at *
        refine iteT ⟨_, rfl, .inl ⟨rfl, _, SqL.of C3⟩, c, _, nv (m + 1 + ta.ks.length), rfl, rfl, C3, by simp, ?_⟩
        rw [List.dropLast_concat]
        have C4 : upd H' c (.lst ((endsF e2 ts).reverse.map nv ++ [nv e2])) c = some (.lst ((endsF e2 ts).reverse.map nv ++ [nv e2])) := upd_same
        have L4 : upd H' c (.lst ((endsF e2 ts).reverse.map nv ++ [nv e2])) b = some (.lst L) := by rw [upd_ne nbc]; exact L3
        have S4 : Same H (upd H' c (.lst ((endsF e2 ts).reverse.map nv ++ [nv e2]))) := fun x o hx => by rw [upd_ne (ne_of_none hx fc)]; exact S3 _ _ hx
        generalize upd H' c (.lst ((endsF e2 ts).reverse.map nv ++ [nv e2])) = H4 at *
        refine ⟨_, rfl, .inl ⟨rfl, _, SqL.of C4⟩, c, _, nv e2, rfl, rfl, C4, by simp, ?_⟩
        rw [List.dropLast_concat]
        have C5 : upd H4 c (.lst ((endsF e2 ts).reverse.map nv)) c = some (.lst ((endsF e2 ts).reverse.map nv)) := upd_same
        have L5 : upd H4 c (.lst ((endsF e2 ts).reverse.map nv)) b = some (.lst L) := by rw [upd_ne nbc]; exact L4
        have S5 : Same H (upd H4 c (.lst ((endsF e2 ts).reverse.map nv))) := fun x o hx => by rw [upd_ne (ne_of_none hx fc)]; exact S4 _ _ hx
        generalize upd H4 c (.lst ((endsF e2 ts).reverse.map nv)) = H5 at *
        refine ⟨_, rfl, _, rfl, _, rfl, b, _, _, m, rfl, rfl, L5, ixm, ?_⟩
        have C6 : upd H5 b (.lst (L.set m (nv e2))) c = some (.lst ((endsF e2 ts).reverse.map nv)) := by rw [upd_ne nbc.symm]; exact C5
        have L6 : upd H5 b (.lst (L.set m (nv e2))) b = some (.lst (L.set m (nv e2))) := upd_same
        have S6 : Same H (upd H5 b (.lst (L.set m (nv e2)))) := fun x o hx => by rw [upd_ne (ne_of_none hx fb)]; exact S5 _ _ hx
        generalize upd H5 b (.lst (L.set m (nv e2))) = H6 at *
        refine ⟨_, rfl, .inl ⟨rfl, _, SqL.of C6⟩, _, rfl, c, _, _, rfl, rfl, C6, ?_, ?_⟩
        · rw [List.length_map, List.length_reverse, endsF_len]
          exact small_lt (m := 10000) (by simp at lts; omega) (by decide)
        refine ⟨_, _, _, .to ta tb :: ts, rfl, fun x o hx => by rw [upd_ne (ne_of_none hx fc)]; exact S6 _ _ hx, by rw [upd_ne nbc]; exact L6, by rw [List.length_set]; exact hL, fun j h1 h2 => ?_, by rw [eni2]; exact hd2, ?_⟩
        · by_cases hj : j = m
          · subst hj
            rw [List.getElem?_set_self (by omega), e1]; rfl
          · rw [List.getElem?_set_ne (by omega)]
            exact hE j (by omega) h2
        · rw [upd_same, eni2]
          show _ = some (HO.lst (((m + (KT.to ta tb).ks.length) :: endsF (m + (KT.to ta tb).ks.length) ts).reverse.map nv))
          rw [show m + (KT.to ta tb).ks.length = e2 by omega, List.reverse_cons, List.map_append]; rfl
    · rintro σ H' ⟨v1, v2, L, ts, rfl, S3, L3, hL, hE, hts, C3⟩
      rw [en] at hE
      have eL : L = endsV ks.length (endK ks) := by
        apply List.ext_getElem?
        intro j
        by_cases hj : j < ks.length
        · rw [hE j (by omega) hj, endsV_get hj]
        · rw [List.getElem?_eq_none (by omega), List.getElem?_eq_none (by rw [endsV_len]; omega)]
      rw [eL] at L3
      exact ⟨_, rfl, k H' b S3 fb L3⟩
end
end Kk

/-! kinds made the same: plain mathematics -/
namespace Kk
noncomputable instance : DecidableEq KT := fun _ _ => Classical.propDecidable _
/-- kinds in the places of letters -/
def KT.sub (θ : Nat → KT) : KT → KT
  | .lt n => θ n
  | .to a b => .to (a.sub θ) (b.sub θ)
def KT.lets : KT → List Nat
  | .lt n => [n]
  | .to a b => a.lets ++ b.lets
theorem KT.sub_sub (θ η : Nat → KT) : ∀ t : KT, (t.sub θ).sub η = t.sub fun x => (θ x).sub η
  | .lt n => rfl
  | .to a b => by simp only [KT.sub]; rw [KT.sub_sub θ η a, KT.sub_sub θ η b]
theorem KT.sub_congr {θ η : Nat → KT} : ∀ {t : KT}, (∀ x ∈ t.lets, θ x = η x) → t.sub θ = t.sub η
  | .lt n, h => h n (by simp [KT.lets])
  | .to a b, h => by
    simp only [KT.sub]
    rw [KT.sub_congr (t := a) fun x hx => h x (by simp [KT.lets, hx]), KT.sub_congr (t := b) fun x hx => h x (by simp [KT.lets, hx])]
theorem KT.sub_lt : ∀ t : KT, t.sub .lt = t
  | .lt n => rfl
  | .to a b => by simp only [KT.sub]; rw [KT.sub_lt a, KT.sub_lt b]
theorem KT.sub_fix {θ : Nat → KT} : ∀ {t : KT}, t.sub θ = t → ∀ x ∈ t.lets, θ x = .lt x
  | .lt n, h, x, hx => by
    have : x = n := by simpa [KT.lets] using hx
    rw [this]; exact h
  | .to a b, h, x, hx => by
    simp only [KT.sub] at h
    injection h with h1 h2
    rcases List.mem_append.mp hx with hx | hx
    · exact KT.sub_fix h1 x hx
    · exact KT.sub_fix h2 x hx
/-! ### letters numbered as they come -/
def numG (known : List Nat) : List KW → List KW
  | [] => []
  | .to :: l => .to :: numG known l
  | .lt n :: l => if n ∈ known then .lt (known.idxOf n) :: numG known l else .lt known.length :: numG (known ++ [n]) l
def knownG (known : List Nat) : List KW → List Nat
  | [] => known
  | .to :: l => knownG known l
  | .lt n :: l => if n ∈ known then knownG known l else knownG (known ++ [n]) l
def renK (f : Nat → Nat) : KW → KW
  | .to => .to
  | .lt n => .lt (f n)
theorem numG_len : ∀ (l : List KW) (k : List Nat), (numG k l).length = l.length
  | [], _ => rfl
  | .to :: l, k => by simp [numG, numG_len l k]
  | .lt n :: l, k => by
    simp only [numG]
    split
    · simp [numG_len l k]
    · simp [numG_len l (k ++ [n])]
theorem numG_app : ∀ (l m : List KW) (k : List Nat), numG k (l ++ m) = numG k l ++ numG (knownG k l) m
  | [], m, k => rfl
  | .to :: l, m, k => by
    show KW.to :: numG k (l ++ m) = _
    rw [numG_app l m k]; rfl
  | .lt n :: l, m, k => by
    show numG k (.lt n :: (l ++ m)) = _
    simp only [numG, knownG]
    split
    · rw [numG_app l m k]; rfl
    · rw [numG_app l m (k ++ [n])]; rfl
theorem known_app : ∀ (l m : List KW) (k : List Nat), knownG k (l ++ m) = knownG (knownG k l) m
  | [], m, k => rfl
  | .to :: l, m, k => known_app l m k
  | .lt n :: l, m, k => by
    show knownG k (.lt n :: (l ++ m)) = _
    simp only [knownG]
    split
    · exact known_app l m k
    · exact known_app l m (k ++ [n])
theorem idxOf_map {f : Nat → Nat} : ∀ {k : List Nat} {n : Nat}, (∀ a ∈ n :: k, ∀ b ∈ n :: k, f a = f b → a = b) → (k.map f).idxOf (f n) = k.idxOf n
  | [], n, _ => rfl
  | a :: k, n, h => by
    rw [List.map_cons, List.idxOf_cons, List.idxOf_cons]
    by_cases e : a = n
    · subst e; simp
    · have : ¬ f a = f n := fun q => e (h a (by simp) n (by simp) q)
      have e1 : (f a == f n) = false := beq_false_of_ne this
      have e2 : (a == n) = false := beq_false_of_ne e
      have sb : ∀ x, x ∈ n :: k → x ∈ n :: a :: k := fun x hx => by
        rcases List.mem_cons.mp hx with e | e
        · rw [e]; simp
        · simp [e]
      rw [e1, e2, idxOf_map fun a ha b hb => h a (sb a ha) b (sb b hb)]
theorem num_ren {f : Nat → Nat} : ∀ (l : List KW) (k : List Nat), (∀ a b, (a ∈ k ∨ KW.lt a ∈ l) → (b ∈ k ∨ KW.lt b ∈ l) → f a = f b → a = b) → numG (k.map f) (l.map (renK f)) = numG k l
  | [], k, _ => rfl
  | .to :: l, k, h => by
    show KW.to :: numG (k.map f) (l.map (renK f)) = _
    rw [num_ren l k fun a b ha hb => h a b (by simpa using ha) (by simpa using hb)]; rfl
  | .lt n :: l, k, h => by
    show numG (k.map f) (.lt (f n) :: l.map (renK f)) = _
    simp only [numG]
    by_cases e : n ∈ k
    · rw [if_pos e, if_pos (List.mem_map.mpr ⟨n, e, rfl⟩), num_ren l k fun a b ha hb => h a b (ha.imp id fun q => by simp [q]) (hb.imp id fun q => by simp [q])]
      rw [idxOf_map fun a ha b hb => h a b ?_ ?_]
      · rcases List.mem_cons.mp ha with q | q
        · rw [q]; exact .inl e
        · exact .inl q
      · rcases List.mem_cons.mp hb with q | q
        · rw [q]; exact .inl e
        · exact .inl q
    · rw [if_neg e, if_neg fun q => ?_]
      · have := num_ren l (k ++ [n]) fun a b ha hb => h a b ?_ ?_
        · rw [List.map_append] at this
          rw [List.length_map]
          exact congrArg _ this
        · rcases ha with q | q
          · rcases List.mem_append.mp q with q | q
            · exact .inl q
            · have : a = n := by simpa using q
              rw [this]; simp
          · simp [q]
        · rcases hb with q | q
          · rcases List.mem_append.mp q with q | q
            · exact .inl q
            · have : b = n := by simpa using q
              rw [this]; simp
          · simp [q]
      · obtain ⟨m, hm, em⟩ := List.mem_map.mp q
        have : m = n := h m n (.inl hm) (.inr (by simp)) em
        rw [this] at hm
        exact e hm
theorem lets_ks : ∀ (t : KT) (n : Nat), KW.lt n ∈ t.ks ↔ n ∈ t.lets
  | .lt m, n => by simp [KT.ks, KT.lets]
  | .to a b, n => by simp [KT.ks, KT.lets, lets_ks a n, lets_ks b n]
theorem sub_ren {θ : Nat → KT} {f : Nat → Nat} : ∀ {t : KT}, (∀ x ∈ t.lets, θ x = .lt (f x)) → (t.sub θ).ks = t.ks.map (renK f)
  | .lt n, h => by simp only [KT.sub]; rw [h n (by simp [KT.lets])]; rfl
  | .to a b, h => by
    simp only [KT.sub, KT.ks, List.map_cons, List.map_append]
    rw [sub_ren (t := a) fun x hx => h x (by simp [KT.lets, hx]), sub_ren (t := b) fun x hx => h x (by simp [KT.lets, hx])]; rfl
theorem lt_of_sub {θ : Nat → KT} {t : KT} {x : Nat} (h : t.sub θ = .lt x) : ∃ y, t = .lt y ∧ θ y = .lt x := by
  cases t with
  | lt y => exact ⟨y, rfl, h⟩
  | to a b => exact absurd h (fun e => nomatch e)
/-- what comes of one another is numbered alike -/
theorem num_mut {ts us : List KT} {θ η : Nat → KT} (h1 : us = ts.map (KT.sub θ)) (h2 : ts = us.map (KT.sub η)) : numG [] (ksL ts) = numG [] (ksL us) := by
  have fx : ∀ t ∈ ts, (t.sub θ).sub η = t := fun t ht => by
    have e : ts.map (fun t => (t.sub θ).sub η) = ts.map id := by
      rw [List.map_id]
      conv => rhs; rw [h2, h1]
      rw [List.map_map]; rfl
    exact List.map_inj_left.mp e t ht
  have lx : ∀ x, (∃ t ∈ ts, x ∈ t.lets) → (θ x).sub η = .lt x := fun x ⟨t, ht, hx⟩ => by
    have := fx t ht
    rw [KT.sub_sub] at this
    exact KT.sub_fix this x hx
  let f : Nat → Nat := fun x => match θ x with | .lt y => y | .to _ _ => 0
  have fl : ∀ x, (∃ t ∈ ts, x ∈ t.lets) → θ x = .lt (f x) ∧ η (f x) = .lt x := fun x hx => by
    obtain ⟨y, e1, e2⟩ := lt_of_sub (lx x hx)
    have : f x = y := by show (match θ x with | .lt y => y | .to _ _ => 0) = y; rw [e1]
    rw [this]; exact ⟨e1, e2⟩
  have ek : ksL us = (ksL ts).map (renK f) := by
    rw [h1]
    unfold ksL
    rw [List.flatMap_map, List.map_flatMap]
    have : ∀ t ∈ ts, (t.sub θ).ks = t.ks.map (renK f) := fun t ht => sub_ren fun x hx => (fl x ⟨t, ht, hx⟩).1
    clear h1 h2 fx lx fl
    induction ts with
    | nil => rfl
    | cons t ts ih => rw [List.flatMap_cons, List.flatMap_cons, this t (by simp), ih fun t ht => this t (by simp [ht])]
  rw [ek]
  refine (num_ren (f := f) (ksL ts) [] fun a b ha hb e => ?_).symm
  have la : ∀ a, (a ∈ ([] : List Nat) ∨ KW.lt a ∈ ksL ts) → ∃ t ∈ ts, a ∈ t.lets := fun a ha => by
    rcases ha with q | q
    · exact absurd q (by simp)
    · obtain ⟨t, ht, q⟩ := List.mem_flatMap.mp q
      exact ⟨t, ht, (lets_ks t a).mp q⟩
  have e1 := (fl a (la a ha)).2
  have e2 := (fl b (la b hb)).2
  rw [e, e2] at e1
  injection e1 with e1
  exact e1.symm
/-! ### knots -/
structure Sys where
  n : Nat
  rep : Nat → Nat
  prs : Nat → Option (Nat × Nat)
structure Sys.Ok (S : Sys) : Prop where
  rl : ∀ i, i < S.n → S.rep i < S.n
  rr : ∀ i, i < S.n → S.rep (S.rep i) = S.rep i
  pl : ∀ i l r, i < S.n → S.prs i = some (l, r) → l < S.n ∧ r < S.n
  pr : ∀ i, i < S.n → S.prs i ≠ none → S.prs (S.rep i) ≠ none
structure Sol (S : Sys) (σ : Nat → KT) : Prop where
  r : ∀ i, i < S.n → σ i = σ (S.rep i)
  p : ∀ i l r, i < S.n → S.prs i = some (l, r) → σ i = .to (σ l) (σ r)
def Sys.emp : Sys := ⟨0, id, fun _ => Option.none⟩
theorem Sys.emp_ok : Sys.emp.Ok := ⟨fun i h => absurd h (Nat.not_lt_zero i), fun i h => absurd h (Nat.not_lt_zero i), fun i _ _ h => absurd h (Nat.not_lt_zero i), fun i h => absurd h (Nat.not_lt_zero i)⟩
def Sys.new (S : Sys) (p : Option (Nat × Nat)) : Sys := ⟨S.n + 1, fun i => if i = S.n then S.n else S.rep i, fun i => if i = S.n then p else S.prs i⟩
def Sys.link (S : Sys) (x y : Nat) : Sys := ⟨S.n, fun i => if S.rep i = y then x else S.rep i, S.prs⟩
theorem Sys.Ok.new {S : Sys} (h : S.Ok) {p : Option (Nat × Nat)} (hp : ∀ l r, p = some (l, r) → l < S.n ∧ r < S.n) : (S.new p).Ok := by
  obtain ⟨a, b, c, d⟩ := h
  refine ⟨fun i hi => ?_, fun i hi => ?_, fun i l r hi e => ?_, fun i hi => ?_⟩
  all_goals simp only [Sys.new] at *
  · split
    · omega
    · have := a i (by omega); omega
  · by_cases e : i = S.n
    · rw [if_pos e, if_pos rfl]
    · have := a i (by omega)
      rw [if_neg e, if_neg (by omega)]; exact b i (by omega)
  · split at e
    · have := hp l r e; omega
    · have := c i l r (by omega) e; omega
  · by_cases e : i = S.n
    · rw [if_pos e, if_pos e, if_pos rfl]; exact id
    · have := a i (by omega)
      rw [if_neg e, if_neg e, if_neg (by omega)]; exact d i (by omega)
theorem Sys.Ok.link {S : Sys} (h : S.Ok) {x y : Nat} (hx : x < S.n) (rx : S.rep x = x) (ne : x ≠ y) (hp : S.prs y ≠ Option.none → S.prs x ≠ Option.none) : (S.link x y).Ok := by
  obtain ⟨a, b, c, d⟩ := h
  refine ⟨fun i hi => ?_, fun i hi => ?_, c, fun i hi e => ?_⟩
  all_goals simp only [Sys.link] at *
  · split
    · exact hx
    · exact a i hi
  · by_cases e : S.rep i = y
    · rw [if_pos e, if_neg (by rw [rx]; exact ne), rx]
    · rw [if_neg e, b i hi, if_neg e]
  · by_cases q : S.rep i = y
    · rw [if_pos q]; exact hp (by rw [← q]; exact d i hi e)
    · rw [if_neg q]; exact d i hi e
theorem Sol.of_new {S : Sys} {p : Option (Nat × Nat)} {σ : Nat → KT} (ok : S.Ok) (h : Sol (S.new p) σ) : Sol S σ ∧ ∀ l r, p = some (l, r) → σ S.n = .to (σ l) (σ r) := by
  refine ⟨⟨fun i hi => ?_, fun i l r hi e => ?_⟩, fun l r e => ?_⟩
  · have := h.r i (Nat.lt_succ_of_lt hi)
    simpa [Sys.new, Nat.ne_of_lt hi] using this
  · exact h.p i l r (Nat.lt_succ_of_lt hi) (by simpa [Sys.new, Nat.ne_of_lt hi] using e)
  · exact h.p S.n l r (Nat.lt_succ_self _) (by simp [Sys.new, e])
theorem Sol.new {S : Sys} {p : Option (Nat × Nat)} {σ τ : Nat → KT} (ok : S.Ok) (hp : ∀ l r, p = some (l, r) → l < S.n ∧ r < S.n) (h : Sol S σ) (e : ∀ i, i < S.n → τ i = σ i) (q : ∀ l r, p = some (l, r) → τ S.n = .to (σ l) (σ r)) : Sol (S.new p) τ := by
  refine ⟨fun i hi => ?_, fun i l r hi e2 => ?_⟩
  · simp only [Sys.new] at *
    by_cases z : i = S.n
    · rw [if_pos z, z]
    · rw [if_neg z, e i (by omega), e _ (ok.rl i (by omega))]
      exact h.r i (by omega)
  · simp only [Sys.new] at *
    by_cases z : i = S.n
    · rw [if_pos z] at e2
      obtain ⟨h1, h2⟩ := hp l r e2
      rw [z, q l r e2, e l h1, e r h2]
    · rw [if_neg z] at e2
      obtain ⟨h1, h2⟩ := ok.pl i l r (by omega) e2
      rw [e i (by omega), e l h1, e r h2]
      exact h.p i l r (by omega) e2
theorem Sol.link {S : Sys} {x y : Nat} {σ : Nat → KT} (ok : S.Ok) (hx : x < S.n) (hy : y < S.n) (ry : S.rep y = y) : Sol (S.link x y) σ ↔ Sol S σ ∧ σ x = σ y := by
  constructor
  · intro h
    have exy : σ y = σ x := by
      have := h.r y hy
      simpa [Sys.link, ry] using this
    refine ⟨⟨fun i hi => ?_, h.p⟩, exy.symm⟩
    have := h.r i hi
    simp only [Sys.link] at this
    by_cases e : S.rep i = y
    · rw [if_pos e] at this
      rw [this, e, exy]
    · rw [if_neg e] at this
      exact this
  · rintro ⟨h, e⟩
    refine ⟨fun i hi => ?_, h.p⟩
    simp only [Sys.link]
    by_cases q : S.rep i = y
    · rw [if_pos q, e, ← q]; exact h.r i hi
    · rw [if_neg q]; exact h.r i hi
/-! ### pairs of knots that wait to be made the same -/
def EqW (W : List (Nat × Nat)) (R : Nat → Nat → Prop) : Prop := ∀ p ∈ W, R p.1 p.2
structure Eqv (R : Nat → Nat → Prop) : Prop where
  r : ∀ x, R x x
  s : ∀ x y, R x y → R y x
  t : ∀ x y z, R x y → R y z → R x z
def Cong (S : Sys) (W : List (Nat × Nat)) : Prop := ∀ R : Nat → Nat → Prop, Eqv R → (∀ i, i < S.n → R i (S.rep i)) → EqW W R → ∀ i l r, i < S.n → S.prs i = some (l, r) → ∃ L Q, S.prs (S.rep i) = some (L, Q) ∧ R l L ∧ R r Q
theorem Eqv.of (σ : Nat → KT) : Eqv fun x y => σ x = σ y := ⟨fun _ => rfl, fun _ _ e => e.symm, fun _ _ _ a b => a.trans b⟩
theorem Cong.mono {S : Sys} {W W' : List (Nat × Nat)} (h : Cong S W) (k : ∀ R, Eqv R → (∀ i, i < S.n → R i (S.rep i)) → EqW W' R → EqW W R) : Cong S W' := fun R e r w => h R e r (k R e r w)
theorem Cong.same {S : Sys} {W : List (Nat × Nat)} {a b : Nat} (ha : a < S.n) (hb : b < S.n) (h : Cong S ((a, b) :: W)) (e : S.rep a = S.rep b) : Cong S W :=
  h.mono fun R E r w p hp => by
    rcases List.mem_cons.mp hp with q | q
    · rw [q]
      exact E.t _ _ _ (r a ha) (by show R (S.rep a) b; rw [e]; exact E.s _ _ (r b hb))
    · exact w p q
theorem Sol.same {S : Sys} {W : List (Nat × Nat)} {a b : Nat} {σ : Nat → KT} (ha : a < S.n) (hb : b < S.n) (e : S.rep a = S.rep b) (h : Sol S σ) : EqW ((a, b) :: W) (fun x y => σ x = σ y) ↔ EqW W (fun x y => σ x = σ y) := by
  have : σ a = σ b := by rw [h.r a ha, h.r b hb, e]
  constructor
  · exact fun k p hp => k p (List.mem_cons_of_mem _ hp)
  · intro k p hp
    rcases List.mem_cons.mp hp with q | q
    · rw [q]; exact this
    · exact k p q
/-- the pairs of (a, b) and W, x and y being the heads of a and b, in either order, are those of W' when y follows x -/
structure Push (S : Sys) (x y : Nat) (W W' : List (Nat × Nat)) : Prop where
  none : S.prs y = Option.none → W' = W
  some : ∀ l r, S.prs y = some (l, r) → ∃ L Q, S.prs x = Option.some (L, Q) ∧ ∀ R, Eqv R → (EqW W' R ↔ R l L ∧ R r Q ∧ EqW W R)
theorem link_back {S : Sys} {W W' : List (Nat × Nat)} {a b x y : Nat} (ok : S.Ok) (ha : a < S.n) (hb : b < S.n) (xy : (x = S.rep a ∧ y = S.rep b) ∨ (x = S.rep b ∧ y = S.rep a)) (P : Push S x y W W') {R : Nat → Nat → Prop} (E : Eqv R) (r : ∀ i, i < S.n → R i (if S.rep i = y then x else S.rep i)) (w : EqW W' R) :
    (∀ i, i < S.n → R i (S.rep i)) ∧ EqW ((a, b) :: W) R := by
  have hx : x < S.n ∧ y < S.n ∧ S.rep x = x ∧ S.rep y = y := by
    rcases xy with ⟨e1, e2⟩ | ⟨e1, e2⟩ <;> subst e1 <;> subst e2
    · exact ⟨ok.rl a ha, ok.rl b hb, ok.rr a ha, ok.rr b hb⟩
    · exact ⟨ok.rl b hb, ok.rl a ha, ok.rr b hb, ok.rr a ha⟩
  obtain ⟨x1, y1, rx, ry⟩ := hx
  have Ryx : R y x := by
    have := r y y1
    rwa [if_pos ry] at this
  have r0 : ∀ i, i < S.n → R i (S.rep i) := fun i hi => by
    have := r i hi
    by_cases e : S.rep i = y
    · rw [if_pos e] at this
      rw [e]
      exact E.t _ _ _ this (E.s _ _ Ryx)
    · rwa [if_neg e] at this
  refine ⟨r0, ?_⟩
  intro p hp
  rcases List.mem_cons.mp hp with z | z
  · rw [z]
    show R a b
    have ra := r0 a ha
    have rb := r0 b hb
    rcases xy with ⟨e1, e2⟩ | ⟨e1, e2⟩
    · rw [← e1] at ra; rw [← e2] at rb
      exact E.t _ _ _ ra (E.t _ _ _ (E.s _ _ Ryx) (E.s _ _ rb))
    · rw [← e2] at ra; rw [← e1] at rb
      exact E.t _ _ _ ra (E.t _ _ _ Ryx (E.s _ _ rb))
  · cases py : S.prs y with
    | none => rw [P.none py] at w; exact w p z
    | some lr =>
      obtain ⟨l', r'⟩ := lr
      obtain ⟨L, Q, _, k⟩ := P.some l' r' py
      exact ((k R E).mp w).2.2 p z
theorem Cong.link {S : Sys} {W W' : List (Nat × Nat)} {a b x y : Nat} (ok : S.Ok) (ha : a < S.n) (hb : b < S.n) (xy : (x = S.rep a ∧ y = S.rep b) ∨ (x = S.rep b ∧ y = S.rep a)) (P : Push S x y W W') (h : Cong S ((a, b) :: W)) : Cong (S.link x y) W' := by
  intro R E r w i l q hi e
  simp only [Sys.link] at *
  obtain ⟨r0, w0⟩ := link_back ok ha hb xy P E r w
  obtain ⟨L, Q, pL, k1, k2⟩ := h R E r0 w0 i l q hi e
  by_cases z : S.rep i = y
  · rw [if_pos z]
    rw [z] at pL
    obtain ⟨L', Q', pX, k⟩ := P.some L Q pL
    obtain ⟨m1, m2, _⟩ := (k R E).mp w
    exact ⟨L', Q', pX, E.t _ _ _ k1 m1, E.t _ _ _ k2 m2⟩
  · rw [if_neg z]
    exact ⟨L, Q, pL, k1, k2⟩
/-- two knots that are, or will be, the same -/
def Conn (S : Sys) (W : List (Nat × Nat)) (c d : Nat) : Prop := ∀ R : Nat → Nat → Prop, Eqv R → (∀ i, i < S.n → R i (S.rep i)) → EqW W R → R c d
theorem Conn.link {S : Sys} {W W' : List (Nat × Nat)} {a b x y c d : Nat} (ok : S.Ok) (ha : a < S.n) (hb : b < S.n) (xy : (x = S.rep a ∧ y = S.rep b) ∨ (x = S.rep b ∧ y = S.rep a)) (P : Push S x y W W') (h : Conn S ((a, b) :: W) c d) : Conn (S.link x y) W' c d := fun R E r w => by
  obtain ⟨r0, w0⟩ := link_back ok ha hb xy P E r w
  exact h R E r0 w0
theorem Conn.same {S : Sys} {W : List (Nat × Nat)} {a b c d : Nat} (ha : a < S.n) (hb : b < S.n) (h : Conn S ((a, b) :: W) c d) (e : S.rep a = S.rep b) : Conn S W c d := fun R E r w => h R E r fun p hp => by
  rcases List.mem_cons.mp hp with q | q
  · rw [q]
    exact E.t _ _ _ (r a ha) (by show R (S.rep a) b; rw [e]; exact E.s _ _ (r b hb))
  · exact w p q
theorem Conn.fin {S : Sys} {c d : Nat} (ok : S.Ok) (h : Conn S [] c d) : S.rep c = S.rep d :=
  h (fun x y => S.rep x = S.rep y) ⟨fun _ => rfl, fun _ _ e => e.symm, fun _ _ _ a b => a.trans b⟩ (fun i hi => (ok.rr i hi).symm) fun p hp => absurd hp (by simp)
theorem Sol.step {S : Sys} {W W' : List (Nat × Nat)} {a b x y : Nat} {σ : Nat → KT} (ok : S.Ok) (ha : a < S.n) (hb : b < S.n) (xy : (x = S.rep a ∧ y = S.rep b) ∨ (x = S.rep b ∧ y = S.rep a)) (P : Push S x y W W') :
    (Sol (S.link x y) σ ∧ EqW W' fun x y => σ x = σ y) ↔ (Sol S σ ∧ EqW ((a, b) :: W) fun x y => σ x = σ y) := by
  have hx : x < S.n ∧ y < S.n ∧ S.rep x = x ∧ S.rep y = y := by
    rcases xy with ⟨e1, e2⟩ | ⟨e1, e2⟩ <;> subst e1 <;> subst e2
    · exact ⟨ok.rl a ha, ok.rl b hb, ok.rr a ha, ok.rr b hb⟩
    · exact ⟨ok.rl b hb, ok.rl a ha, ok.rr b hb, ok.rr a ha⟩
  obtain ⟨x1, y1, rx, ry⟩ := hx
  rw [Sol.link ok x1 y1 ry]
  have ab : ∀ {τ : Nat → KT}, Sol S τ → (τ x = τ y ↔ τ a = τ b) := fun {τ} h => by
    rw [h.r a ha, h.r b hb]
    rcases xy with ⟨e1, e2⟩ | ⟨e1, e2⟩
    · rw [← e1, ← e2]
    · rw [← e1, ← e2]; exact eq_comm
  have cons : (EqW ((a, b) :: W) fun x y => σ x = σ y) ↔ σ a = σ b ∧ EqW W fun x y => σ x = σ y := by
    unfold EqW; simp
  rw [cons]
  constructor
  · rintro ⟨⟨h, e⟩, w⟩
    refine ⟨h, (ab h).mp e, ?_⟩
    cases py : S.prs y with
    | none => rw [P.none py] at w; exact w
    | some lr =>
      obtain ⟨l, r⟩ := lr
      obtain ⟨L, Q, _, k⟩ := P.some l r py
      exact ((k _ (Eqv.of σ)).mp w).2.2
  · rintro ⟨h, e, w⟩
    have exy := (ab h).mpr e
    refine ⟨⟨h, exy⟩, ?_⟩
    cases py : S.prs y with
    | none => rw [P.none py]; exact w
    | some lr =>
      obtain ⟨l, r⟩ := lr
      obtain ⟨L, Q, px, k⟩ := P.some l r py
      have e1 := h.p x L Q x1 px
      have e2 := h.p y l r y1 py
      rw [exy, e2] at e1
      injection e1 with e3 e4
      exact (k _ (Eqv.of σ)).mpr ⟨e3, e4, w⟩
end Kk

/-! trees of knots, what is as wide as can be -/
namespace Kk
inductive Tr (S : Sys) : Nat → KT → Prop where
  | lt {i : Nat} (h : S.prs (S.rep i) = none) : Tr S i (.lt (S.rep i))
  | to {i l r : Nat} {a b : KT} (h : S.prs (S.rep i) = some (l, r)) (x : Tr S l a) (y : Tr S r b) : Tr S i (.to a b)
theorem Tr.uniq {S : Sys} {i : Nat} {t u : KT} (h : Tr S i t) (g : Tr S i u) : t = u := by
  induction h generalizing u with
  | lt h =>
    cases g with
    | lt _ => rfl
    | to e _ _ => rw [h] at e; cases e
  | to h x y ihx ihy =>
    cases g with
    | lt e => rw [h] at e; cases e
    | to e x' y' =>
      rw [h] at e
      cases e
      rw [ihx x', ihy y']
theorem Tr.cast {S : Sys} {i j : Nat} {t : KT} (h : Tr S i t) (e : S.rep i = S.rep j) : Tr S j t := by
  cases h with
  | lt h => rw [e]; rw [e] at h; exact .lt h
  | to h x y => rw [e] at h; exact .to h x y
theorem Tr.sol {S : Sys} {σ : Nat → KT} (ok : S.Ok) (hs : Sol S σ) {i : Nat} {t : KT} (h : Tr S i t) (hi : i < S.n) : σ i = t.sub σ := by
  induction h with
  | lt h => exact hs.r _ hi
  | @to i l r a b h x y ihx ihy =>
    have ri := ok.rl i hi
    obtain ⟨h1, h2⟩ := ok.pl _ _ _ ri h
    rw [hs.r i hi, hs.p _ _ _ ri h, ihx h1, ihy h2]; rfl
def Sys.Fin (S : Sys) : Prop := ∀ i, i < S.n → ∃ t, Tr S i t
theorem Sys.sol {S : Sys} (ok : S.Ok) (cg : Cong S []) (fin : S.Fin) (θ : Nat → KT) : ∃ σ, Sol S σ ∧ ∀ i t, i < S.n → Tr S i t → σ i = t.sub θ := by
  have ex : ∀ i, ∃ t, i < S.n → Tr S i t := fun i => by
    by_cases h : i < S.n
    · obtain ⟨t, ht⟩ := fin i h
      exact ⟨t, fun _ => ht⟩
    · exact ⟨.lt 0, fun q => absurd q h⟩
  let f : Nat → KT := fun i => (ex i).choose
  have hf : ∀ i, i < S.n → Tr S i (f i) := fun i hi => (ex i).choose_spec hi
  refine ⟨fun i => (f i).sub θ, ⟨fun i hi => ?_, fun i l r hi e => ?_⟩, fun i t hi ht => ?_⟩
  · have := (hf i hi).cast (j := S.rep i) (ok.rr i hi).symm
    show (f i).sub θ = (f (S.rep i)).sub θ
    rw [this.uniq (hf _ (ok.rl i hi))]
  · obtain ⟨L, Q, e2, k1, k2⟩ := cg (fun x y => S.rep x = S.rep y) ⟨fun _ => rfl, fun _ _ e => e.symm, fun _ _ _ a b => a.trans b⟩ (fun i hi => (ok.rr i hi).symm) (fun p hp => absurd hp (by simp)) i l r hi e
    obtain ⟨h1, h2⟩ := ok.pl _ _ _ hi e
    have ti := hf i hi
    cases htr : f i with
    | lt m =>
      rw [htr] at ti
      generalize hk : KT.lt m = k at ti
      cases ti with
      | lt h => rw [e2] at h; cases h
      | to _ _ _ => cases hk
    | to a b =>
      rw [htr] at ti
      cases ti with
      | to h x y =>
        rw [e2] at h
        cases h
        show KT.sub θ (.to a b) = .to ((f l).sub θ) ((f r).sub θ)
        rw [(x.cast k1.symm).uniq (hf l h1), (y.cast k2.symm).uniq (hf r h2)]; rfl
  · show (f i).sub θ = t.sub θ
    rw [(hf i hi).uniq ht]
theorem Sol.fin {S : Sys} {σ : Nat → KT} (ok : S.Ok) (hs : Sol S σ) : S.Fin := by
  have : ∀ (m i : Nat), i < S.n → (σ i).ks.length ≤ m → ∃ t, Tr S i t := by
    intro m
    induction m with
    | zero => intro i _ h; have := (σ i).pos; omega
    | succ m ih =>
      intro i hi h
      cases e : S.prs (S.rep i) with
      | none => exact ⟨_, .lt e⟩
      | some lr =>
        obtain ⟨l, r⟩ := lr
        have ri := ok.rl i hi
        obtain ⟨h1, h2⟩ := ok.pl _ _ _ ri e
        rw [hs.r i hi, hs.p _ _ _ ri e] at h
        simp [KT.ks] at h
        obtain ⟨a, ha⟩ := ih l h1 (by omega)
        obtain ⟨b, hb⟩ := ih r h2 (by omega)
        exact ⟨_, .to e ha hb⟩
  exact fun i hi => this _ i hi (Nat.le_refl _)
/-! ### as wide as can be -/
structure Top (A : List KT → Prop) (ts : List KT) : Prop where
  a : A ts
  w : ∀ us, A us → ∃ θ, us = ts.map (KT.sub θ)
theorem Top.num {A : List KT → Prop} {ts us : List KT} (h : Top A ts) (g : Top A us) : numG [] (ksL ts) = numG [] (ksL us) := by
  obtain ⟨θ, e1⟩ := h.w us g.a
  obtain ⟨η, e2⟩ := g.w ts h.a
  exact num_mut e1 e2
theorem Top.congr {A B : List KT → Prop} {ts : List KT} (h : Top A ts) (e : ∀ us, A us ↔ B us) : Top B ts := ⟨(e ts).mp h.a, fun us hu => h.w us ((e us).mpr hu)⟩
theorem Sys.top {S : Sys} (ok : S.Ok) (cg : Cong S []) (fin : S.Fin) {ns : List Nat} {ts : List KT} (hl : ns.length = ts.length) (ht : ∀ (k i : Nat) (t : KT), ns[k]? = some i → ts[k]? = some t → i < S.n ∧ Tr S i t) : Top (fun us => ∃ σ, Sol S σ ∧ us = ns.map σ) ts := by
  have key : ∀ (σ θ : Nat → KT), (∀ i t, i < S.n → Tr S i t → σ i = t.sub θ) → ns.map σ = ts.map (KT.sub θ) := by
    intro σ θ h
    refine List.ext_getElem? fun k => ?_
    rw [List.getElem?_map, List.getElem?_map]
    cases e1 : ns[k]? with
    | none =>
      have : ts[k]? = none := by rw [List.getElem?_eq_none_iff] at e1 ⊢; omega
      rw [this]; rfl
    | some i =>
      cases e2 : ts[k]? with
      | none => rw [List.getElem?_eq_none_iff] at e2; have := (List.getElem?_eq_some_iff.mp e1).1; omega
      | some t =>
        obtain ⟨h1, h2⟩ := ht k i t e1 e2
        show some (σ i) = some (t.sub θ)
        rw [h i t h1 h2]
  refine ⟨?_, fun us ⟨σ, hs, e⟩ => ⟨σ, ?_⟩⟩
  · obtain ⟨σ, hs, e⟩ := S.sol ok cg fin .lt
    refine ⟨σ, hs, ?_⟩
    rw [key σ .lt e]
    have : ts.map (KT.sub .lt) = ts.map id := List.map_congr_left fun t _ => KT.sub_lt t
    rw [this, List.map_id]
  · rw [e]
    exact key σ σ fun i t hi h => h.sol ok hs hi
/-! ### heights -/
def KT.ht : KT → Nat
  | .lt _ => 0
  | .to a b => max a.ht b.ht + 1
theorem KT.len_ht : ∀ t : KT, t.ks.length + 1 ≤ 2 ^ (t.ht + 1)
  | .lt _ => by simp [KT.ks, KT.ht]
  | .to a b => by
    have h1 := KT.len_ht a
    have h2 := KT.len_ht b
    have m1 : 2 ^ (a.ht + 1) ≤ 2 ^ (max a.ht b.ht + 1) := Nat.pow_le_pow_right (by decide) (by omega)
    have m2 : 2 ^ (b.ht + 1) ≤ 2 ^ (max a.ht b.ht + 1) := Nat.pow_le_pow_right (by decide) (by omega)
    simp only [KT.ks, KT.ht, List.length_cons, List.length_append]
    rw [Nat.pow_succ]
    omega
theorem KT.sub_len {θ : Nat → KT} : ∀ t : KT, t.ks.length ≤ (t.sub θ).ks.length
  | .lt n => by have := (θ n).pos; simp [KT.ks, KT.sub]; omega
  | .to a b => by
    have h1 := KT.sub_len (θ := θ) a
    have h2 := KT.sub_len (θ := θ) b
    simp only [KT.ks, KT.sub, List.length_cons, List.length_append]
    omega
theorem KT.sub_ht {θ : Nat → KT} : ∀ {t : KT} {x : Nat}, x ∈ t.lets → (θ x).ht ≤ (t.sub θ).ht ∧ (0 < t.ht → (θ x).ht + 1 ≤ (t.sub θ).ht)
  | .lt n, x, h => by
    have : x = n := by simpa [KT.lets] using h
    subst this
    exact ⟨Nat.le_refl _, fun h => absurd h (Nat.lt_irrefl 0)⟩
  | .to a b, x, h => by
    have : (θ x).ht ≤ max (a.sub θ).ht (b.sub θ).ht := by
      rcases List.mem_append.mp h with h | h
      · have := (KT.sub_ht (θ := θ) h).1; omega
      · have := (KT.sub_ht (θ := θ) h).1; omega
    simp only [KT.sub, KT.ht]
    exact ⟨by omega, fun _ => by omega⟩
def KT.tos : KT → Nat
  | .lt _ => 0
  | .to a b => a.tos + b.tos + 1
theorem KT.tos_len : ∀ t : KT, t.ks.length = 2 * t.tos + 1
  | .lt _ => rfl
  | .to a b => by simp only [KT.ks, KT.tos, List.length_cons, List.length_append]; rw [KT.tos_len a, KT.tos_len b]; omega
theorem KT.lets_len : ∀ t : KT, t.lets.length = t.tos + 1
  | .lt _ => rfl
  | .to a b => by simp only [KT.lets, KT.tos, List.length_append]; rw [KT.lets_len a, KT.lets_len b]; omega
theorem KT.ht_tos : ∀ t : KT, t.ht ≤ t.tos
  | .lt _ => Nat.le_refl _
  | .to a b => by have := KT.ht_tos a; have := KT.ht_tos b; simp only [KT.ht, KT.tos]; omega
theorem KT.sub_le {θ : Nat → KT} {m : Nat} : ∀ {t : KT}, (∀ x ∈ t.lets, (θ x).ks.length ≤ m) → (t.sub θ).ks.length ≤ t.tos + (t.tos + 1) * m
  | .lt n, h => by have := h n (by simp [KT.lets]); simp only [KT.sub, KT.tos]; omega
  | .to a b, h => by
    have h1 := KT.sub_le (t := a) fun x hx => h x (by simp [KT.lets, hx])
    have h2 := KT.sub_le (t := b) fun x hx => h x (by simp [KT.lets, hx])
    simp only [KT.sub, KT.ks, KT.tos, List.length_cons, List.length_append]
    have e : (a.tos + b.tos + 1 + 1) * m = (a.tos + 1) * m + (b.tos + 1) * m := by rw [← Nat.add_mul]; congr 1; omega
    rw [e]; omega
theorem Tr.levels {S : Sys} (ok : S.Ok) {i : Nat} {t : KT} (h : Tr S i t) (hi : i < S.n) : ∀ k, 1 ≤ k → k ≤ t.ht → ∃ j u, j < S.n ∧ S.prs j ≠ none ∧ S.rep j = j ∧ Tr S j u ∧ u.ht = k := by
  induction h with
  | lt h => intro k h1 h2; simp [KT.ht] at h2; omega
  | @to i l r a b h x y ihx ihy =>
    intro k h1 h2
    have ri := ok.rl i hi
    obtain ⟨b1, b2⟩ := ok.pl _ _ _ ri h
    by_cases e : k = (KT.to a b).ht
    · exact ⟨S.rep i, .to a b, ri, by rw [h]; simp, ok.rr i hi, (Tr.to h x y).cast (ok.rr i hi).symm, e.symm⟩
    · simp only [KT.ht] at h2 e
      by_cases q : k ≤ a.ht
      · exact ihx b1 k h1 q
      · exact ihy b2 k h1 (by omega)
theorem len_nodup {α : Type} [DecidableEq α] : ∀ {a b : List α}, a.Nodup → (∀ x ∈ a, x ∈ b) → a.length ≤ b.length
  | [], _, _, _ => Nat.zero_le _
  | x :: a, b, nd, h => by
    have hx := h x (List.mem_cons_self ..)
    have nd' := List.nodup_cons.mp nd
    have ih := len_nodup (a := a) (b := b.erase x) nd'.2 (fun y hy => by
      refine (List.mem_erase_of_ne ?_).mpr (h y (List.mem_cons_of_mem _ hy))
      rintro rfl
      exact nd'.1 hy)
    have := List.length_erase_of_mem hx
    have hp : 0 < b.length := List.length_pos_of_mem hx
    simp only [List.length_cons]
    omega
def Sys.pairs (S : Sys) : List Nat := (List.range S.n).filter fun i => (S.prs i).isSome
theorem Tr.ht_le {S : Sys} (ok : S.Ok) {i : Nat} {t : KT} (h : Tr S i t) (hi : i < S.n) : t.ht ≤ S.pairs.length := by
  have lv := h.levels ok hi
  have ex : ∀ k, ∃ j, 1 ≤ k → k ≤ t.ht → j < S.n ∧ S.prs j ≠ none ∧ ∃ u, Tr S j u ∧ u.ht = k := fun k => by
    by_cases q : 1 ≤ k ∧ k ≤ t.ht
    · obtain ⟨j, u, h1, h2, h3, h4, h5⟩ := lv k q.1 q.2
      exact ⟨j, fun _ _ => ⟨h1, h2, u, h4, h5⟩⟩
    · exact ⟨0, fun a b => absurd ⟨a, b⟩ q⟩
  let f : Nat → Nat := fun k => (ex k).choose
  have hf : ∀ k, 1 ≤ k → k ≤ t.ht → f k < S.n ∧ S.prs (f k) ≠ none ∧ ∃ u, Tr S (f k) u ∧ u.ht = k := fun k => (ex k).choose_spec
  have nd : ((List.range' 1 t.ht).map f).Nodup := by
    refine List.pairwise_map.mpr (List.Pairwise.imp_of_mem ?_ (List.nodup_range' (step := 1)))
    intro a b ha hb ne e
    have ha := List.mem_range'_1.mp ha
    have hb := List.mem_range'_1.mp hb
    obtain ⟨_, _, u, hu, eu⟩ := hf a (by omega) (by omega)
    obtain ⟨_, _, v, hv, ev⟩ := hf b (by omega) (by omega)
    rw [e] at hu
    have := hu.uniq hv
    subst this
    omega
  have := len_nodup nd (b := S.pairs) fun x hx => by
    obtain ⟨k, hk, rfl⟩ := List.mem_map.mp hx
    have hk := List.mem_range'_1.mp hk
    obtain ⟨h1, h2, _⟩ := hf k (by omega) (by omega)
    refine List.mem_filter.mpr ⟨List.mem_range.mpr h1, ?_⟩
    exact Option.isSome_iff_ne_none.mpr h2
  simpa using this
theorem pairs_new {S : Sys} {p : Option (Nat × Nat)} : (S.new p).pairs.length = S.pairs.length + if p.isSome then 1 else 0 := by
  unfold Sys.pairs Sys.new
  rw [List.range_succ, List.filter_append, List.length_append]
  have e : (List.range S.n).filter (fun i => (if i = S.n then p else S.prs i).isSome) = (List.range S.n).filter fun i => (S.prs i).isSome := by
    refine List.filter_congr fun i hi => ?_
    rw [if_neg (Nat.ne_of_lt (List.mem_range.mp hi))]
  rw [e]
  congr 1
  cases p <;> simp
/-! ### unifying, as a thought -/
def Sys.roots (S : Sys) : List Nat := (List.range S.n).filter fun i => decide (S.rep i = i)
theorem mem_roots {S : Sys} {i : Nat} : i ∈ S.roots ↔ i < S.n ∧ S.rep i = i := by simp [Sys.roots]
theorem filter_lt {α : Type} {p q : α → Bool} : ∀ {l : List α} {y : α}, (∀ i ∈ l, q i = true → p i = true) → y ∈ l → p y = true → q y = false → (l.filter q).length + 1 ≤ (l.filter p).length
  | [], y, _, hy, _, _ => absurd hy (by simp)
  | a :: l, y, h, hy, py, qy => by
    have mono : ∀ {l : List α}, (∀ i ∈ l, q i = true → p i = true) → (l.filter q).length ≤ (l.filter p).length := fun {l} h => by
      induction l with
      | nil => simp
      | cons a l ih =>
        have ih := ih fun i hi => h i (by simp [hi])
        have ha := h a (by simp)
        simp only [List.filter_cons]
        cases hq : q a <;> cases hp : p a <;> simp_all
        omega
    have ha := h a (by simp)
    rcases List.mem_cons.mp hy with e | e
    · subst e
      have m := mono (l := l) fun i hi => h i (by simp [hi])
      simp only [List.filter_cons, py, qy]
      simp; exact m
    · have ih := filter_lt (l := l) (fun i hi => h i (by simp [hi])) e py qy
      simp only [List.filter_cons]
      cases hq : q a <;> cases hp : p a <;> simp_all
theorem roots_link {S : Sys} (ok : S.Ok) {x y : Nat} (hx : x < S.n) (hy : y < S.n) (rx : S.rep x = x) (ry : S.rep y = y) (ne : x ≠ y) : (S.link x y).roots.length + 1 ≤ S.roots.length := by
  unfold Sys.roots Sys.link
  refine filter_lt (y := y) (fun i hi h => ?_) (List.mem_range.mpr hy) (decide_eq_true ry) ?_
  · have h : (if S.rep i = y then x else S.rep i) = i := of_decide_eq_true h
    by_cases e : S.rep i = y
    · rw [if_pos e] at h
      rw [← h, rx] at e
      exact absurd e ne
    · rw [if_neg e] at h
      exact decide_eq_true h
  · refine decide_eq_false ?_
    show ¬ (if S.rep y = y then x else S.rep y) = y
    rw [if_pos ry]
    exact ne
theorem unify_ex (c d : Nat) : ∀ (m : Nat) (S : Sys) (W : List (Nat × Nat)), 3 * S.roots.length + W.length ≤ m → S.Ok → Cong S W → Conn S W c d → (∀ p ∈ W, p.1 < S.n ∧ p.2 < S.n) → ∃ F : Sys, F.n = S.n ∧ F.prs = S.prs ∧ F.Ok ∧ Cong F [] ∧ F.rep c = F.rep d ∧ ∀ σ, Sol F σ ↔ Sol S σ ∧ EqW W fun x y => σ x = σ y := by
  intro m
  induction m with
  | zero =>
    intro S W hm ok cg cn hW
    have : W = [] := List.length_eq_zero_iff.mp (by omega)
    subst this
    exact ⟨S, rfl, rfl, ok, cg, cn.fin ok, fun σ => ⟨fun h => ⟨h, fun p hp => absurd hp (by simp)⟩, fun h => h.1⟩⟩
  | succ m ih =>
    intro S W hm ok cg cn hW
    cases W with
    | nil => exact ⟨S, rfl, rfl, ok, cg, cn.fin ok, fun σ => ⟨fun h => ⟨h, fun p hp => absurd hp (by simp)⟩, fun h => h.1⟩⟩
    | cons p W =>
      obtain ⟨a, b⟩ := p
      obtain ⟨ha, hb⟩ := hW (a, b) (by simp)
      have hW' : ∀ p ∈ W, p.1 < S.n ∧ p.2 < S.n := fun p hp => hW p (by simp [hp])
      simp only [List.length_cons] at hm
      by_cases e : S.rep a = S.rep b
      · obtain ⟨F, f1, f2, f3, f4, f6, f5⟩ := ih S W (by omega) ok (cg.same ha hb e) (cn.same ha hb e) hW'
        refine ⟨F, f1, f2, f3, f4, f6, fun σ => ?_⟩
        rw [f5 σ]
        constructor
        · rintro ⟨h1, h2⟩; exact ⟨h1, (Sol.same ha hb e h1).mpr h2⟩
        · rintro ⟨h1, h2⟩; exact ⟨h1, (Sol.same ha hb e h1).mp h2⟩
      · have st : ∀ x y W', ((x = S.rep a ∧ y = S.rep b) ∨ (x = S.rep b ∧ y = S.rep a)) → (S.prs y ≠ none → S.prs x ≠ none) → Push S x y W W' → W'.length ≤ W.length + 2 → (∀ p ∈ W', p.1 < S.n ∧ p.2 < S.n) →
            ∃ F : Sys, F.n = S.n ∧ F.prs = S.prs ∧ F.Ok ∧ Cong F [] ∧ F.rep c = F.rep d ∧ ∀ σ, Sol F σ ↔ Sol S σ ∧ EqW ((a, b) :: W) fun x y => σ x = σ y := by
          intro x y W' xy hp P hl hW2
          have q : x < S.n ∧ y < S.n ∧ S.rep x = x ∧ S.rep y = y ∧ x ≠ y := by
            rcases xy with ⟨e1, e2⟩ | ⟨e1, e2⟩ <;> subst e1 <;> subst e2
            · exact ⟨ok.rl a ha, ok.rl b hb, ok.rr a ha, ok.rr b hb, e⟩
            · exact ⟨ok.rl b hb, ok.rl a ha, ok.rr b hb, ok.rr a ha, fun z => e z.symm⟩
          obtain ⟨x1, y1, rx, ry, ne⟩ := q
          have rl := roots_link ok x1 y1 rx ry ne
          obtain ⟨F, f1, f2, f3, f4, f6, f5⟩ := ih (S.link x y) W' (by omega) (ok.link x1 rx ne hp) (Cong.link ok ha hb xy P cg) (Conn.link ok ha hb xy P cn) hW2
          exact ⟨F, f1, f2, f3, f4, f6, fun σ => by rw [f5 σ]; exact Sol.step ok ha hb xy P⟩
        cases pa : S.prs (S.rep a) with
        | none =>
          refine st (S.rep b) (S.rep a) W (.inr ⟨rfl, rfl⟩) (fun h => absurd pa h) ⟨fun _ => rfl, fun l r h => ?_⟩ (by omega) hW'
          rw [pa] at h; cases h
        | some la =>
          obtain ⟨l1, r1⟩ := la
          obtain ⟨hl1, hr1⟩ := ok.pl _ _ _ (ok.rl a ha) pa
          cases pb : S.prs (S.rep b) with
          | none =>
            refine st (S.rep a) (S.rep b) W (.inl ⟨rfl, rfl⟩) (fun h => absurd pb h) ⟨fun _ => rfl, fun l r h => ?_⟩ (by omega) hW'
            rw [pb] at h; cases h
          | some lb =>
            obtain ⟨l2, r2⟩ := lb
            obtain ⟨hl2, hr2⟩ := ok.pl _ _ _ (ok.rl b hb) pb
            refine st (S.rep a) (S.rep b) ((l2, l1) :: (r2, r1) :: W) (.inl ⟨rfl, rfl⟩) (fun _ => by rw [pa]; simp) ⟨(fun h => by rw [pb] at h; cases h), fun l r h => ?_⟩ (by simp) ?_
            · rw [pb] at h
              cases h
              refine ⟨l1, r1, pa, fun R E => ?_⟩
              unfold EqW; simp
            · intro p hp
              rcases List.mem_cons.mp hp with z | hp
              · rw [z]; exact ⟨hl2, hl1⟩
              rcases List.mem_cons.mp hp with z | hp
              · rw [z]; exact ⟨hr2, hr1⟩
              exact hW' p hp
end Kk

/-! kinds taken in; in order; sizes -/
namespace Kk
/-- what stands at a knot: a kind whose letters stand where lam tells -/
inductive Shp (S : Sys) (lam : Nat → Nat) : Nat → KT → Prop where
  | lt {x : Nat} : Shp S lam (lam x) (.lt x)
  | to {i l r : Nat} {a b : KT} (h : S.prs i = some (l, r)) (x : Shp S lam l a) (y : Shp S lam r b) : Shp S lam i (.to a b)
theorem Shp.mono {S S' : Sys} {lam lam' : Nat → Nat} (ok : S.Ok) {i : Nat} {t : KT} (h : Shp S lam i t) (hi : i < S.n) (e : ∀ i l r, i < S.n → S.prs i = some (l, r) → S'.prs i = some (l, r)) (q : ∀ x ∈ t.lets, lam' x = lam x) : Shp S' lam' i t := by
  induction h with
  | @lt x => rw [← q x (by simp [KT.lets])]; exact .lt
  | to h x y ihx ihy =>
    obtain ⟨h1, h2⟩ := ok.pl _ _ _ hi h
    exact .to (e _ _ _ hi h) (ihx h1 fun z hz => q z (by simp [KT.lets, hz])) (ihy h2 fun z hz => q z (by simp [KT.lets, hz]))
theorem Shp.sol {S : Sys} {lam : Nat → Nat} {σ : Nat → KT} (ok : S.Ok) (hs : Sol S σ) {i : Nat} {t : KT} (h : Shp S lam i t) (hi : i < S.n) : σ i = t.sub fun x => σ (lam x) := by
  induction h with
  | lt => rfl
  | @to i l r a b h x y ihx ihy =>
    obtain ⟨h1, h2⟩ := ok.pl _ _ _ hi h
    rw [hs.p _ _ _ hi h, ihx h1, ihy h2]; rfl
theorem Shp.tr {S : Sys} {lam : Nat → Nat} (ok : S.Ok) (cg : Cong S []) {i : Nat} {t T : KT} (h : Shp S lam i t) (hi : i < S.n) (g : Tr S i T) (f : Nat → KT) (hf : ∀ x u, Tr S (lam x) u → f x = u) : T = t.sub f := by
  induction h generalizing T with
  | lt => exact (hf _ _ g).symm
  | @to i l r a b h x y ihx ihy =>
    obtain ⟨h1, h2⟩ := ok.pl _ _ _ hi h
    obtain ⟨L, Q, e2, k1, k2⟩ := cg (fun x y => S.rep x = S.rep y) ⟨fun _ => rfl, fun _ _ e => e.symm, fun _ _ _ a b => a.trans b⟩ (fun i hi => (ok.rr i hi).symm) (fun p hp => absurd hp (by simp)) i l r hi h
    cases g with
    | lt g => rw [e2] at g; cases g
    | to g u v =>
      rw [e2] at g
      cases g
      rw [ihx h1 (u.cast k1.symm), ihy h2 (v.cast k2.symm)]; rfl
theorem tr_choice (S : Sys) (lam : Nat → Nat) : ∃ f : Nat → KT, ∀ x u, Tr S (lam x) u → f x = u := by
  have : ∀ x, ∃ t, ∀ u, Tr S (lam x) u → t = u := fun x => by
    by_cases h : ∃ t, Tr S (lam x) t
    · obtain ⟨t, ht⟩ := h
      exact ⟨t, fun u hu => ht.uniq hu⟩
    · exact ⟨.lt 0, fun u hu => absurd ⟨u, hu⟩ h⟩
  exact ⟨fun x => (this x).choose, fun x => (this x).choose_spec⟩
theorem Cong.new {S : Sys} (ok : S.Ok) {p : Option (Nat × Nat)} (h : Cong S []) : Cong (S.new p) [] := by
  intro R E r w i l q hi e
  simp only [Sys.new] at *
  by_cases z : i = S.n
  · rw [if_pos z] at e
    rw [if_pos z, if_pos rfl]
    exact ⟨l, q, e, E.r _, E.r _⟩
  · rw [if_neg z] at e
    have hr := ok.rl i (by omega)
    rw [if_neg z, if_neg (by omega)]
    refine h R E (fun j hj => ?_) (fun p hp => absurd hp (by simp)) i l q (by omega) e
    have := r j (by omega)
    rwa [if_neg (by omega)] at this
/-- some kinds are taken in: rd are their knots -/
structure TK (S0 S : Sys) (lam : Nat → Nat) (dom rd : List Nat) (ts : List KT) : Prop where
  ok : S.Ok
  cg : Cong S []
  le : S0.n ≤ S.n
  old : ∀ i, i < S0.n → S.prs i = S0.prs i
  dl : ∀ x ∈ dom, lam x < S.n
  rl : ∀ i ∈ rd, i < S.n
  len : rd.length = ts.length
  shp : ∀ (k i : Nat) (t : KT), rd[k]? = some i → ts[k]? = some t → Shp S lam i t
  back : ∀ σ, Sol S σ → Sol S0 σ
  ext : ∀ σ θ : Nat → KT, Sol S0 σ → ∃ τ, Sol S τ ∧ (∀ i, i < S0.n → τ i = σ i) ∧ ∀ x ∈ dom, τ (lam x) = θ x
  lets : ∀ t ∈ ts, ∀ x ∈ t.lets, x ∈ dom
  pairs : S.pairs.length = S0.pairs.length + (ts.map KT.tos).sum
theorem TK.start {S0 : Sys} (ok : S0.Ok) (cg : Cong S0 []) (lam : Nat → Nat) : TK S0 S0 lam [] [] [] :=
  ⟨ok, cg, Nat.le_refl _, fun _ _ => rfl, fun x h => absurd h (by simp), fun x h => absurd h (by simp), rfl, fun k i t h => by simp at h, fun _ h => h, fun σ θ h => ⟨σ, h, fun _ _ => rfl, fun x h => absurd h (by simp)⟩, fun t h => absurd h (by simp), rfl⟩
theorem TK.know {S0 S : Sys} {lam : Nat → Nat} {dom rd : List Nat} {ts : List KT} (h : TK S0 S lam dom rd ts) {x : Nat} (hx : x ∈ dom) : TK S0 S lam dom (lam x :: rd) (.lt x :: ts) := by
  obtain ⟨ok, cg, le, old, dl, rl, len, shp, back, ext, lets, pairs⟩ := h
  refine ⟨ok, cg, le, old, dl, fun i hi => ?_, by simp [len], fun k i t h1 h2 => ?_, back, ext, fun t ht y hy => ?_, by simpa [KT.tos] using pairs⟩
  · rcases List.mem_cons.mp hi with e | e
    · rw [e]; exact dl x hx
    · exact rl i e
  · cases k with
    | zero => cases h1; cases h2; exact .lt
    | succ k => exact shp k i t h1 h2
  · rcases List.mem_cons.mp ht with e | e
    · subst e
      have : y = x := by simpa [KT.lets] using hy
      rw [this]; exact hx
    · exact lets t e y hy
theorem TK.letter {S0 S : Sys} {lam : Nat → Nat} {dom rd : List Nat} {ts : List KT} (h : TK S0 S lam dom rd ts) {x : Nat} (hx : x ∉ dom) : TK S0 (S.new none) (fun y => if y = x then S.n else lam y) (dom ++ [x]) (S.n :: rd) (.lt x :: ts) := by
  obtain ⟨ok, cg, le, old, dl, rl, len, shp, back, ext, lets, pairs⟩ := h
  have np : ∀ l r, (none : Option (Nat × Nat)) = some (l, r) → l < S.n ∧ r < S.n := fun _ _ h => by cases h
  have ne : ∀ y ∈ dom, y ≠ x := fun y hy e => hx (e ▸ hy)
  refine ⟨ok.new np, Cong.new ok cg, by show S0.n ≤ S.n + 1; omega, fun i hi => ?_, fun y hy => ?_, fun i hi => ?_, by simp [len], fun k i t h1 h2 => ?_, fun σ hs => back σ (Sol.of_new ok hs).1, fun σ θ hs => ?_, fun t ht y hy => ?_, ?_⟩
  · show (if i = S.n then none else S.prs i) = _
    rw [if_neg (by omega)]; exact old i hi
  · show (if y = x then S.n else lam y) < S.n + 1
    split
    · omega
    · rcases List.mem_append.mp hy with q | q
      · have := dl y q; omega
      · simp at q; contradiction
  · show i < S.n + 1
    rcases List.mem_cons.mp hi with e | e
    · omega
    · have := rl i e; omega
  · cases k with
    | zero =>
      cases h1; cases h2
      have := Shp.lt (S := S.new none) (lam := fun y => if y = x then S.n else lam y) (x := x)
      simpa using this
    | succ k =>
      have hi := rl i (List.mem_of_getElem? h1)
      refine (shp k i t h1 h2).mono ok hi (fun j l r hj e => ?_) fun y hy => if_neg (ne y (lets t (List.mem_of_getElem? h2) y hy))
      show (if j = S.n then none else S.prs j) = _
      rw [if_neg (by omega)]; exact e
  · obtain ⟨τ, h1, h2, h3⟩ := ext σ θ hs
    refine ⟨fun i => if i = S.n then θ x else τ i, Sol.new ok np h1 (fun i hi => if_neg (by omega)) (fun l r e => by cases e), fun i hi => ?_, fun y hy => ?_⟩
    · show (if i = S.n then θ x else τ i) = _
      rw [if_neg (by omega)]; exact h2 i hi
    · dsimp only
      by_cases z : y = x
      · rw [if_pos z, if_pos rfl, z]
      · rcases List.mem_append.mp hy with q | q
        · have := dl y q
          rw [if_neg z, if_neg (by omega)]; exact h3 y q
        · simp at q; contradiction
  · rcases List.mem_cons.mp ht with e | e
    · subst e
      have : y = x := by simpa [KT.lets] using hy
      rw [this]; simp
    · exact List.mem_append_left _ (lets t e y hy)
  · rw [pairs_new]
    simpa [KT.tos] using pairs
theorem TK.pair {S0 S : Sys} {lam : Nat → Nat} {dom rd : List Nat} {l r : Nat} {a b : KT} {ts : List KT} (h : TK S0 S lam dom (l :: r :: rd) (a :: b :: ts)) : TK S0 (S.new (some (l, r))) lam dom (S.n :: rd) (.to a b :: ts) := by
  obtain ⟨ok, cg, le, old, dl, rl, len, shp, back, ext, lets, pairs⟩ := h
  have hl := rl l (by simp)
  have hr := rl r (by simp)
  have np : ∀ l' r', some (l, r) = some (l', r') → l' < S.n ∧ r' < S.n := fun _ _ h => by cases h; exact ⟨hl, hr⟩
  have up : ∀ {k i : Nat} {t : KT}, (l :: r :: rd)[k]? = some i → (a :: b :: ts)[k]? = some t → Shp (S.new (some (l, r))) lam i t := fun {k i t} h1 h2 => by
    have hi := rl i (List.mem_of_getElem? h1)
    refine (shp k i t h1 h2).mono ok hi (fun j l' r' hj e => ?_) fun y hy => rfl
    show (if j = S.n then _ else S.prs j) = _
    rw [if_neg (by omega)]; exact e
  refine ⟨ok.new np, Cong.new ok cg, by show S0.n ≤ S.n + 1; omega, fun i hi => ?_, fun y hy => ?_, fun i hi => ?_, by simpa using len, fun k i t h1 h2 => ?_, fun σ hs => back σ (Sol.of_new ok hs).1, fun σ θ hs => ?_, fun t ht y hy => ?_, ?_⟩
  · show (if i = S.n then _ else S.prs i) = _
    rw [if_neg (by omega)]; exact old i hi
  · show _ < S.n + 1
    have := dl y hy; omega
  · show i < S.n + 1
    rcases List.mem_cons.mp hi with e | e
    · omega
    · have := rl i (by simp [e]); omega
  · cases k with
    | zero =>
      cases h1; cases h2
      refine .to (show (if S.n = S.n then some (l, r) else S.prs S.n) = some (l, r) from if_pos rfl) ?_ ?_
      · exact up (k := 0) rfl rfl
      · exact up (k := 1) rfl rfl
    | succ k => exact up (k := k + 2) h1 h2
  · obtain ⟨τ, h1, h2, h3⟩ := ext σ θ hs
    refine ⟨fun i => if i = S.n then .to (τ l) (τ r) else τ i, Sol.new ok np h1 (fun i hi => if_neg (by omega)) (fun l' r' e => ?_), fun i hi => ?_, fun y hy => ?_⟩
    · cases e; exact if_pos rfl
    · dsimp only
      rw [if_neg (by omega)]; exact h2 i hi
    · dsimp only
      have := dl y hy
      rw [if_neg (by omega)]; exact h3 y hy
  · rcases List.mem_cons.mp ht with e | e
    · subst e
      rcases List.mem_append.mp hy with q | q
      · exact lets a (by simp) y q
      · exact lets b (by simp) y q
    · exact lets t (by simp [e]) y hy
  · rw [pairs_new]
    simp [KT.tos] at pairs ⊢
    omega
/-- one kind taken in -/
theorem TK.one {S0 S : Sys} {lam : Nat → Nat} {dom : List Nat} {i : Nat} {t : KT} (h : TK S0 S lam dom [i] [t]) : i < S.n ∧ Shp S lam i t ∧ (∀ σ, Sol S σ → σ i = t.sub fun x => σ (lam x)) ∧ ∀ σ θ : Nat → KT, Sol S0 σ → ∃ τ, Sol S τ ∧ (∀ j, j < S0.n → τ j = σ j) ∧ τ i = t.sub θ := by
  have hi := h.rl i (by simp)
  have sh := h.shp 0 i t rfl rfl
  refine ⟨hi, sh, fun σ hs => sh.sol h.ok hs hi, fun σ θ hs => ?_⟩
  obtain ⟨τ, h1, h2, h3⟩ := h.ext σ θ hs
  refine ⟨τ, h1, h2, ?_⟩
  rw [sh.sol h.ok h1 hi]
  exact KT.sub_congr fun x hx => h3 x (h.lets t (by simp) x hx)
/-- a system made the same at two knots -/
structure Made (S F : Sys) (a b : Nat) : Prop where
  n : F.n = S.n
  prs : F.prs = S.prs
  ok : F.Ok
  cg : Cong F []
  rep : F.rep a = F.rep b
  sol : ∀ σ, Sol F σ ↔ Sol S σ ∧ σ a = σ b
/-! ### what a kind becomes that is given another one -/
def Uni (a o : KT) (θ η : Nat → KT) : Prop := a.sub θ = o.sub η
def Giv (a b o : KT) (us : List KT) : Prop := ∃ θ η, Uni a o θ η ∧ us = [b.sub θ]
theorem sol_emp (σ : Nat → KT) : Sol Sys.emp σ := ⟨fun i h => absurd h (Nat.not_lt_zero i), fun i _ _ h => absurd h (Nat.not_lt_zero i)⟩
theorem cong_emp : Cong Sys.emp [] := fun R E r w i l q hi => absurd hi (Nat.not_lt_zero i)
section
variable {S1 S2 F : Sys} {lam1 lam2 : Nat → Nat} {dom1 dom2 : List Nat} {n1 n2 l r : Nat} {a b o : KT}
theorem giv_sol (h1 : TK Sys.emp S1 lam1 dom1 [n1] [.to a b]) (e : S1.prs n1 = some (l, r)) (h2 : TK S1 S2 lam2 dom2 [n2] [o]) (m : Made S2 F l n2) (us : List KT) : (∃ σ, Sol F σ ∧ us = [r].map σ) ↔ Giv a b o us := by
  obtain ⟨i1, s1, d1, x1⟩ := h1.one
  obtain ⟨i2, s2, d2, x2⟩ := h2.one
  have sp : ∀ {σ θ : Nat → KT}, Sol S1 σ → σ n1 = (KT.to a b).sub θ → σ l = a.sub θ ∧ σ r = b.sub θ := fun hs q => by
    rw [hs.p n1 l r i1 e] at q
    injection q with q1 q2
    exact ⟨q1, q2⟩
  constructor
  · rintro ⟨σ, hs, rfl⟩
    obtain ⟨hs2, eq⟩ := (m.sol σ).mp hs
    have hs1 := h2.back σ hs2
    obtain ⟨el, er⟩ := sp hs1 (d1 σ hs1)
    refine ⟨fun x => σ (lam1 x), fun x => σ (lam2 x), ?_, ?_⟩
    · show a.sub _ = o.sub _
      rw [← el, ← d2 σ hs2, eq]
    · show [σ r] = _
      rw [er]
  · rintro ⟨θ, η, u, rfl⟩
    obtain ⟨τ, t1, _, t2⟩ := x1 (fun _ => .lt 0) θ (sol_emp _)
    obtain ⟨el, er⟩ := sp t1 t2
    obtain ⟨ρ, r1, r2, r3⟩ := x2 τ η t1
    obtain ⟨hl, hr⟩ := h1.ok.pl _ _ _ i1 e
    refine ⟨ρ, (m.sol ρ).mpr ⟨r1, ?_⟩, ?_⟩
    · rw [r2 l hl, el, r3]; exact u
    · show _ = [ρ r]
      rw [r2 r hr, er]
theorem giv_fin (h1 : TK Sys.emp S1 lam1 dom1 [n1] [.to a b]) (e : S1.prs n1 = some (l, r)) (h2 : TK S1 S2 lam2 dom2 [n2] [o]) (m : Made S2 F l n2) : F.Fin ↔ ∃ θ η, Uni a o θ η := by
  constructor
  · intro f
    obtain ⟨σ, hs, _⟩ := F.sol m.ok m.cg f .lt
    obtain ⟨θ, η, u, _⟩ := (giv_sol h1 e h2 m _).mp ⟨σ, hs, rfl⟩
    exact ⟨θ, η, u⟩
  · rintro ⟨θ, η, u⟩
    obtain ⟨σ, hs, _⟩ := (giv_sol h1 e h2 m _).mpr ⟨θ, η, u, rfl⟩
    exact hs.fin m.ok
theorem giv_ring (h1 : TK Sys.emp S1 lam1 dom1 [n1] [.to a b]) (e : S1.prs n1 = some (l, r)) (h2 : TK S1 S2 lam2 dom2 [n2] [o]) (m : Made S2 F l n2) : (∃ T, Tr F l T) ↔ ∃ θ η, Uni a o θ η := by
  obtain ⟨i1, s1, d1, x1⟩ := h1.one
  obtain ⟨i2, s2, d2, x2⟩ := h2.one
  obtain ⟨hl, hr⟩ := h1.ok.pl _ _ _ i1 e
  have ll : l < S2.n := Nat.lt_of_lt_of_le hl h2.le
  constructor
  · rintro ⟨T, hT⟩
    have sl : Shp S1 lam1 l a := by
      generalize hz : KT.to a b = z at s1
      cases s1 with
      | lt => cases hz
      | to h x y => cases hz; rw [e] at h; cases h; exact x
    have sl : Shp F lam1 l a := sl.mono h1.ok hl (fun j l' r' hj q => by rw [m.prs, h2.old j hj]; exact q) fun _ _ => rfl
    have so : Shp F lam2 n2 o := s2.mono h2.ok i2 (fun j l' r' hj q => by rw [m.prs]; exact q) fun _ _ => rfl
    have hn : F.rep l = F.rep n2 := m.rep
    obtain ⟨f, hf⟩ := tr_choice F lam1
    obtain ⟨g, hg⟩ := tr_choice F lam2
    refine ⟨f, g, ?_⟩
    show a.sub f = o.sub g
    rw [← sl.tr m.ok m.cg (by rw [m.n]; exact ll) hT f hf, ← so.tr m.ok m.cg (by rw [m.n]; exact i2) (hT.cast hn) g hg]
  · rintro ⟨θ, η, u⟩
    obtain ⟨σ, hs, _⟩ := (giv_sol h1 e h2 m _).mpr ⟨θ, η, u, rfl⟩
    exact hs.fin m.ok l (by rw [m.n]; exact ll)
end
theorem made_ex {S : Sys} {a b : Nat} (ok : S.Ok) (cg : Cong S []) (ha : a < S.n) (hb : b < S.n) : ∃ F, Made S F a b := by
  obtain ⟨F, f1, f2, f3, f4, f6, f5⟩ := unify_ex a b _ S [(a, b)] (Nat.le_refl _) ok (cg.mono fun R _ _ _ p hp => absurd hp (by simp)) (fun R E r w => w (a, b) (by simp)) fun p hp => by
    have : p = (a, b) := by simpa using hp
    rw [this]; exact ⟨ha, hb⟩
  refine ⟨F, f1, f2, f3, f4, f6, fun σ => ?_⟩
  rw [f5 σ]
  unfold EqW
  simp
/-- any kind can be taken in -/
theorem take_ex {S0 : Sys} {lam0 : Nat → Nat} : ∀ (t : KT) (S : Sys) (lam : Nat → Nat) (dom rd : List Nat) (ts : List KT), TK S0 S lam dom rd ts → ∃ S' lam' dom' i, TK S0 S' lam' dom' (i :: rd) (t :: ts)
  | .lt x, S, lam, dom, rd, ts, h => by
    by_cases hx : x ∈ dom
    · exact ⟨S, lam, dom, _, h.know hx⟩
    · exact ⟨_, _, _, _, h.letter hx⟩
  | .to a b, S, lam, dom, rd, ts, h => by
    obtain ⟨S1, l1, d1, i1, h1⟩ := take_ex (lam0 := lam0) b S lam dom rd ts h
    obtain ⟨S2, l2, d2, i2, h2⟩ := take_ex (lam0 := lam0) a S1 l1 d1 (i1 :: rd) (b :: ts) h1
    exact ⟨_, _, _, _, h2.pair⟩
/-- what can be made the same can be so by small ones -/
theorem uni_small {a o : KT} (h : ∃ θ η, Uni a o θ η) : ∃ θ η, Uni a o θ η ∧ (a.sub θ).ht ≤ a.tos + o.tos := by
  obtain ⟨S1, l1, d1, i1, h1⟩ := take_ex (lam0 := id) a _ id _ _ _ (TK.start Sys.emp_ok cong_emp id)
  obtain ⟨S2, l2, d2, i2, h2⟩ := take_ex (lam0 := id) o _ id _ _ _ (TK.start h1.ok h1.cg id)
  obtain ⟨b1, s1, e1, x1⟩ := h1.one
  obtain ⟨b2, s2, e2, x2⟩ := h2.one
  have b12 := Nat.lt_of_lt_of_le b1 h2.le
  obtain ⟨F, m⟩ := made_ex h2.ok h2.cg b12 b2
  have fin : F.Fin := by
    obtain ⟨θ, η, u⟩ := h
    obtain ⟨τ, t1, _, t2⟩ := x1 (fun _ => .lt 0) θ (sol_emp _)
    obtain ⟨ρ, r1, r2, r3⟩ := x2 τ η t1
    have : Sol F ρ := (m.sol ρ).mpr ⟨r1, by rw [r2 i1 b1, t2, r3]; exact u⟩
    exact this.fin m.ok
  obtain ⟨σ, hs, tr⟩ := F.sol m.ok m.cg fin .lt
  obtain ⟨g1, g2⟩ := (m.sol σ).mp hs
  have g3 := h2.back σ g1
  refine ⟨fun x => σ (l1 x), fun x => σ (l2 x), ?_, ?_⟩
  · show a.sub _ = o.sub _
    rw [← e1 σ g3, ← e2 σ g1, g2]
  · rw [← e1 σ g3]
    obtain ⟨t, ht⟩ := fin i1 (by rw [m.n]; exact b12)
    rw [tr i1 t (by rw [m.n]; exact b12) ht, KT.sub_lt]
    have := ht.ht_le m.ok (by rw [m.n]; exact b12)
    have p1 := h1.pairs
    have p2 := h2.pairs
    have pe : Sys.emp.pairs.length = 0 := rfl
    have pf : F.pairs = S2.pairs := by unfold Sys.pairs; rw [m.n, m.prs]
    rw [pf] at this
    simp at p1 p2
    omega
theorem giv_len {a b o : KT} {t : KT} (h : Top (Giv a b o) [t]) (ha : a.tos ≤ 7) (ho : o.tos ≤ 7) (hb : b.tos ≤ 5) : t.ks.length ≤ 100000 := by
  obtain ⟨θ0, η0, u0, _⟩ := h.a
  obtain ⟨θ, η, u, hh⟩ := uni_small ⟨θ0, η0, u0⟩
  let μ : Nat → KT := fun x => if x ∈ a.lets then θ x else .lt x
  have ea : a.sub μ = a.sub θ := KT.sub_congr fun x hx => if_pos hx
  obtain ⟨ρ, e⟩ := h.w [b.sub μ] ⟨μ, η, by show a.sub μ = o.sub η; rw [ea]; exact u, rfl⟩
  have e : b.sub μ = t.sub ρ := by simpa using e
  have l1 := KT.sub_len (θ := ρ) t
  rw [← e] at l1
  have bd : ∀ x ∈ b.lets, (μ x).ks.length ≤ 16383 := fun x _ => by
    by_cases hx : x ∈ a.lets
    · have e1 : μ x = θ x := if_pos hx
      rw [e1]
      have hx2 := KT.sub_ht (θ := θ) hx
      have : (θ x).ht ≤ 13 := by
        cases a with
        | lt n => simp only [KT.tos] at hh ha; omega
        | to p q => have := hx2.2 (by simp [KT.ht]); omega
      have l2 := KT.len_ht (θ x)
      have : 2 ^ ((θ x).ht + 1) ≤ 2 ^ 14 := Nat.pow_le_pow_right (by decide) (by omega)
      omega
    · have e1 : μ x = .lt x := if_neg hx
      rw [e1]; simp [KT.ks]
  have l3 := KT.sub_le bd
  have : (b.tos + 1) * 16383 ≤ 6 * 16383 := Nat.mul_le_mul_right _ (by omega)
  omega
end Kk

/-! all heads in order, each ahead of its parts -/
namespace Kk
def Sys.parts (S : Sys) (v : Nat) : List Nat := match S.prs v with
  | none => []
  | some (l, r) => [S.rep l, S.rep r]
theorem mem_parts {S : Sys} {v p : Nat} : p ∈ S.parts v ↔ ∃ l r, S.prs v = some (l, r) ∧ (p = S.rep l ∨ p = S.rep r) := by
  unfold Sys.parts
  cases S.prs v with
  | none => simp
  | some lr =>
    obtain ⟨l, r⟩ := lr
    simp
    constructor
    · intro h; exact ⟨l, r, ⟨rfl, rfl⟩, h⟩
    · rintro ⟨_, _, ⟨rfl, rfl⟩, h⟩; exact h
theorem parts_root {S : Sys} (ok : S.Ok) {v p : Nat} (hv : v < S.n) (h : p ∈ S.parts v) : p ∈ S.roots := by
  obtain ⟨l, r, e, h⟩ := mem_parts.mp h
  obtain ⟨h1, h2⟩ := ok.pl _ _ _ hv e
  rcases h with h | h <;> subst h
  · exact mem_roots.mpr ⟨ok.rl l h1, ok.rr l h1⟩
  · exact mem_roots.mpr ⟨ok.rl r h2, ok.rr r h2⟩
theorem roots_nd (S : Sys) : S.roots.Nodup := List.Pairwise.filter _ List.nodup_range
structure KI (S : Sys) (row todo : List Nat) (uses : Nat → Nat) (ready : List Nat) : Prop where
  nd : ready.Nodup
  mem : ∀ j, j ∈ ready ↔ j ∈ S.roots ∧ j ∉ row ∧ uses j = 0
  rnd : row.Nodup
  sub : ∀ j ∈ row, j ∈ S.roots
  zero : ∀ j ∈ row, uses j = 0
  tdr : ∀ j ∈ todo, j ∈ S.roots
  cnt : ∀ j, j < S.n → uses j = (((S.roots.filter fun v => decide (v ∉ row)).flatMap S.parts) ++ todo).count j
  ord : ∀ X p Y, row = X ++ p :: Y → ∀ v ∈ S.roots, p ∈ S.parts v → v ∈ X
theorem KI.start {S : Sys} {uses : Nat → Nat} (hu : ∀ j, j < S.n → uses j = (S.roots.flatMap S.parts).count j) : KI S [] [] uses (S.roots.filter fun v => decide (uses v = 0)) := by
  refine ⟨(roots_nd S).filter _, fun j => by simp, List.nodup_nil, fun j h => absurd h (by simp), fun j h => absurd h (by simp), fun j h => absurd h (by simp), fun j hj => ?_, fun X p Y e => absurd e (by simp)⟩
  rw [hu j hj]
  have : S.roots.filter (fun v => decide (v ∉ ([] : List Nat))) = S.roots := List.filter_eq_self.mpr fun a _ => by simp
  rw [this, List.append_nil]
theorem KI.pop {S : Sys} (ok : S.Ok) {row : List Nat} {uses : Nat → Nat} {R : List Nat} {node : Nat} (h : KI S row [] uses (R ++ [node])) : KI S (row ++ [node]) (S.parts node) uses R := by
  obtain ⟨nd, mem, rnd, sub, zero, tdr, cnt, ord⟩ := h
  obtain ⟨nr, nrow, nz⟩ := (mem node).mp (by simp)
  have nn : node < S.n := (mem_roots.mp nr).1
  have nR : node ∉ R := fun q => (List.nodup_append.mp nd).2.2 node q node (by simp) rfl
  have no : ∀ v ∈ S.roots, v ∉ row → node ∉ S.parts v := fun v hv hr q => by
    have := cnt node nn
    rw [nz, List.append_nil] at this
    have := List.count_eq_zero.mp this.symm
    exact this (List.mem_flatMap.mpr ⟨v, List.mem_filter.mpr ⟨hv, decide_eq_true hr⟩, q⟩)
  refine ⟨(List.nodup_append.mp nd).1, fun j => ?_, List.nodup_append.mpr ⟨rnd, by simp, fun a ha b hb e => ?_⟩, fun j hj => ?_, fun j hj => ?_, fun j hj => parts_root ok nn hj, fun j hj => ?_, fun X p Y e v hv hp => ?_⟩
  · constructor
    · intro hj
      obtain ⟨h1, h2, h3⟩ := (mem j).mp (by simp [hj])
      refine ⟨h1, fun q => ?_, h3⟩
      rcases List.mem_append.mp q with q | q
      · exact h2 q
      · have : j = node := by simpa using q
        exact nR (this ▸ hj)
    · rintro ⟨h1, h2, h3⟩
      have := (mem j).mpr ⟨h1, fun q => h2 (by simp [q]), h3⟩
      rcases List.mem_append.mp this with q | q
      · exact q
      · exact absurd (List.mem_append_right row q) h2
  · have : b = node := by simpa using hb
    exact nrow (by rw [← this, ← e]; exact ha)
  · rcases List.mem_append.mp hj with q | q
    · exact sub j q
    · have : j = node := by simpa using q
      rw [this]; exact nr
  · rcases List.mem_append.mp hj with q | q
    · exact zero j q
    · have : j = node := by simpa using q
      rw [this]; exact nz
  · rw [cnt j hj, List.append_nil]
    have pm : (S.roots.filter fun v => decide (v ∉ row)).Perm (node :: S.roots.filter fun v => decide (v ∉ row ++ [node])) := by
      refine (List.perm_ext_iff_of_nodup ?_ ?_).mpr ?_
      · exact (roots_nd S).filter _
      · refine List.nodup_cons.mpr ⟨fun q => ?_, (roots_nd S).filter _⟩
        have := (List.mem_filter.mp q).2
        simp at this
      · intro a
        simp only [List.mem_filter, List.mem_cons, List.mem_append, decide_eq_true_eq, List.not_mem_nil, or_false, not_or]
        constructor
        · rintro ⟨h1, h2⟩
          by_cases e : a = node
          · exact .inl e
          · exact .inr ⟨h1, h2, e⟩
        · rintro (e | ⟨h1, h2, _⟩)
          · rw [e]; exact ⟨nr, nrow⟩
          · exact ⟨h1, h2⟩
    rw [(pm.flatMap_right S.parts).count_eq]
    rw [List.flatMap_cons, List.count_append, List.count_append, Nat.add_comm]
  · rcases List.eq_nil_or_concat Y with e0 | ⟨Z, z, e0⟩
    · subst e0
      have e1 : X = row ∧ p = node := by
        have := List.append_inj' e (by simp)
        exact ⟨this.1.symm, by simpa using this.2.symm⟩
      obtain ⟨rfl, rfl⟩ := e1
      by_cases q : v ∈ X
      · exact q
      · exact absurd hp (no v hv q)
    · subst e0
      have e1 : row = X ++ p :: Z := by
        rw [show X ++ p :: Z.concat z = (X ++ p :: Z) ++ [z] by simp] at e
        exact (List.append_inj' e (by simp)).1
      exact ord X p Z e1 v hv hp
theorem KI.step {S : Sys} (ok : S.Ok) {row todo : List Nat} {uses : Nat → Nat} {ready : List Nat} {p : Nat} (h : KI S row (p :: todo) uses ready) : 1 ≤ uses p ∧ ∀ uses', (∀ j, uses' j = if j = p then uses p - 1 else uses j) → KI S row todo uses' (if uses p = 1 then ready ++ [p] else ready) := by
  obtain ⟨nd, mem, rnd, sub, zero, tdr, cnt, ord⟩ := h
  have pr := tdr p (by simp)
  have pn : p < S.n := (mem_roots.mp pr).1
  have up : 1 ≤ uses p := by
    rw [cnt p pn]
    exact List.count_pos_iff.mpr (by simp)
  have prow : p ∉ row := fun q => by have := zero p q; omega
  have prd : p ∉ ready := fun q => by have := ((mem p).mp q).2.2; omega
  refine ⟨up, fun uses' hu => ⟨?_, fun j => ?_, rnd, sub, fun j hj => ?_, fun j hj => tdr j (by simp [hj]), fun j hj => ?_, ord⟩⟩
  · split
    · refine List.nodup_append.mpr ⟨nd, by simp, fun a ha b hb e => prd ?_⟩
      have : b = p := by simpa using hb
      rw [← this, ← e]; exact ha
    · exact nd
  · rw [hu j]
    by_cases e : j = p
    · subst e
      rw [if_pos rfl]
      constructor
      · intro hj
        split at hj
        · exact ⟨pr, prow, by omega⟩
        · exact absurd hj prd
      · rintro ⟨_, _, h3⟩
        rw [if_pos (by omega)]; simp
    · rw [if_neg e, ← mem j]
      split
      · simp [e]
      · exact Iff.rfl
  · have ne : ¬ j = p := fun e => prow (by rw [← e]; exact hj)
    rw [hu j, if_neg ne]; exact zero j hj
  · rw [hu j]
    have c := cnt j hj
    by_cases e : j = p
    · subst e
      rw [if_pos rfl, c]
      simp [List.count_append]
    · rw [if_neg e, c]
      simp [List.count_append, List.count_cons, Ne.symm e]
/-- all heads, each ahead of its parts -/
structure Row (S : Sys) (row : List Nat) : Prop where
  nd : row.Nodup
  mem : ∀ j, j ∈ row ↔ j ∈ S.roots
  dn : ∀ X p Y, row = X ++ p :: Y → ∀ q ∈ S.parts p, q ∈ Y
theorem KI.done {S : Sys} (ok : S.Ok) {row : List Nat} {uses : Nat → Nat} (h : KI S row [] uses []) (hl : row.length = S.roots.length) : Row S row := by
  obtain ⟨nd, mem, rnd, sub, zero, tdr, cnt, ord⟩ := h
  have all : ∀ j ∈ S.roots, j ∈ row := fun j hj => by
    by_cases q : j ∈ row
    · exact q
    · exfalso
      have := len_nodup (a := j :: row) (b := S.roots) (List.nodup_cons.mpr ⟨q, rnd⟩) fun x hx => by
        rcases List.mem_cons.mp hx with e | e
        · rw [e]; exact hj
        · exact sub x e
      simp at this
      omega
  refine ⟨rnd, fun j => ⟨sub j, all j⟩, fun X p Y e q hq => ?_⟩
  have pr := sub p (by rw [e]; simp)
  have qr := parts_root ok (mem_roots.mp pr).1 hq
  obtain ⟨X', Y', e'⟩ := List.append_of_mem (all q qr)
  have px := ord X' q Y' e' p pr hq
  obtain ⟨A, B, ex⟩ := List.append_of_mem px
  rw [e'] at e rnd
  rw [ex] at e rnd
  -- p stands once
  have : A = X ∧ B ++ q :: Y' = Y := by
    have e2 : A ++ p :: (B ++ q :: Y') = X ++ p :: Y := by simpa using e
    have n2 : (A ++ p :: (B ++ q :: Y')).Nodup := by simpa using rnd
    clear e rnd ex e' px
    induction A generalizing X with
    | nil =>
      cases X with
      | nil => exact ⟨rfl, (List.cons.inj e2).2⟩
      | cons x X =>
        have h1 := (List.cons.inj e2).1
        have h2 := (List.cons.inj e2).2
        have := (List.nodup_cons.mp n2).1
        rw [h2] at this
        simp at this
    | cons a A ih =>
      cases X with
      | nil =>
        have h1 : a = p := (List.cons.inj e2).1
        have := (List.nodup_cons.mp n2).1
        rw [h1] at this
        simp at this
      | cons x X =>
        have h1 : a = x := (List.cons.inj e2).1
        obtain ⟨e3, e4⟩ := ih X (List.cons.inj e2).2 (List.nodup_cons.mp n2).2
        exact ⟨by rw [h1, e3], e4⟩
  rw [← this.2]; simp
theorem Row.fin {S : Sys} (ok : S.Ok) {row : List Nat} (h : Row S row) : S.Fin := by
  have key : ∀ (Y X : List Nat), row = X ++ Y → ∀ p ∈ Y, ∃ t, Tr S p t := by
    intro Y
    induction Y with
    | nil => intro X _ p hp; exact absurd hp (by simp)
    | cons y Y ih =>
      intro X e p hp
      have ihY := ih (X ++ [y]) (by simpa using e)
      rcases List.mem_cons.mp hp with q | q
      · subst q
        have pr := mem_roots.mp ((h.mem p).mp (by rw [e]; simp))
        have dn := h.dn X p Y e
        cases hp : S.prs p with
        | none => exact ⟨_, .lt (by rw [pr.2]; exact hp)⟩
        | some lr =>
          obtain ⟨l, r⟩ := lr
          obtain ⟨h1, h2⟩ := ok.pl _ _ _ pr.1 hp
          obtain ⟨a, ha⟩ := ihY (S.rep l) (dn _ (mem_parts.mpr ⟨l, r, hp, .inl rfl⟩))
          obtain ⟨b, hb⟩ := ihY (S.rep r) (dn _ (mem_parts.mpr ⟨l, r, hp, .inr rfl⟩))
          exact ⟨_, .to (by rw [pr.2]; exact hp) (ha.cast (ok.rr l h1)) (hb.cast (ok.rr r h2))⟩
      · exact ihY p q
  intro i hi
  have ri : S.rep i ∈ row := (h.mem _).mpr (mem_roots.mpr ⟨ok.rl i hi, ok.rr i hi⟩)
  obtain ⟨t, ht⟩ := key row [] rfl _ ri
  exact ⟨t, ht.cast (ok.rr i hi)⟩
theorem KI.full {S : Sys} (ok : S.Ok) {row : List Nat} {uses : Nat → Nat} (h : KI S row [] uses []) (fin : S.Fin) : row.length = S.roots.length := by
  obtain ⟨nd, mem, rnd, sub, zero, tdr, cnt, ord⟩ := h
  have all : ∀ j ∈ S.roots, j ∈ row := by
    have ex : ∀ j, j ∈ S.roots → ∃ t, Tr S j t := fun j hj => fin j (mem_roots.mp hj).1
    -- the greatest one that is left
    have key : ∀ (m : Nat) (j : Nat), j ∈ S.roots → j ∉ row → ∀ t, Tr S j t → S.n ≤ t.ht + m → False := by
      intro m
      induction m with
      | zero =>
        intro j hj hr t ht hm
        have h1 := ht.ht_le ok (mem_roots.mp hj).1
        -- the pairs are fewer than the knots, or all knots are pairs: a letter is needed
        have h2 : S.pairs.length ≤ S.n := by
          have := List.length_filter_le (fun i => (S.prs i).isSome) (List.range S.n)
          simpa [Sys.pairs] using this
        have h3 : S.pairs.length < S.n := by
          rcases Nat.lt_or_ge S.pairs.length S.n with q | q
          · exact q
          · exfalso
            have all : ∀ i, i < S.n → (S.prs i).isSome = true := fun i hi => by
              have e : S.pairs.length = (List.range S.n).length := by rw [List.length_range]; omega
              have := List.length_filter_eq_length_iff.mp e i (List.mem_range.mpr hi)
              exact this
            have : ∀ (t : KT) (i : Nat), i < S.n → Tr S i t → False := by
              intro t
              induction t with
              | lt x =>
                intro i hi h
                have ri := ok.rl i hi
                have := all _ ri
                generalize hz : KT.lt x = z at h
                cases h with
                | lt h => rw [h] at this; cases this
                | to _ _ _ => cases hz
              | to a b iha ihb =>
                intro i hi h
                cases h with
                | to h x y => exact iha _ (ok.pl _ _ _ (ok.rl i hi) h).1 x
            exact this t j (mem_roots.mp hj).1 ht
        omega
      | succ m ih =>
        intro j hj hr t ht hm
        have jn := (mem_roots.mp hj).1
        have uj : uses j ≠ 0 := fun q => absurd ((mem j).mpr ⟨hj, hr, q⟩) (by simp)
        have cj := cnt j jn
        rw [List.append_nil] at cj
        have : 0 < ((S.roots.filter fun v => decide (v ∉ row)).flatMap S.parts).count j := by omega
        obtain ⟨v, hv, hp⟩ := List.mem_flatMap.mp (List.count_pos_iff.mp this)
        obtain ⟨v1, v2⟩ := List.mem_filter.mp hv
        have v2 := of_decide_eq_true v2
        obtain ⟨u, hu⟩ := ex v v1
        obtain ⟨l, r, e, hp⟩ := mem_parts.mp hp
        have vr := mem_roots.mp v1
        obtain ⟨h1, h2⟩ := ok.pl _ _ _ vr.1 e
        refine ih v v1 v2 u hu ?_
        cases hu with
        | lt h => rw [vr.2, e] at h; cases h
        | @to _ l' r' a b h x y =>
          rw [vr.2, e] at h
          cases h
          have : t.ht ≤ max a.ht b.ht := by
            rcases hp with q | q
            · have := (x.cast (ok.rr l h1).symm).uniq (q ▸ ht)
              rw [this]; omega
            · have := (y.cast (ok.rr r h2).symm).uniq (q ▸ ht)
              rw [this]; omega
          simp only [KT.ht]
          omega
    intro j hj
    by_cases q : j ∈ row
    · exact q
    · obtain ⟨t, ht⟩ := ex j hj
      exact absurd (key S.n j hj q t ht (by omega)) id
  refine Nat.le_antisymm ?_ ?_
  · exact len_nodup rnd sub
  · exact len_nodup (roots_nd S) all
end Kk

/-! while two knots are made the same -/
namespace Kk
structure UI (S : Sys) (a b : Nat) (F : Sys) (W : List (Nat × Nat)) : Prop where
  n : F.n = S.n
  prs : F.prs = S.prs
  cg : Cong F W
  cn : Conn F W a b
  bd : ∀ p ∈ W, p.1 < S.n ∧ p.2 < S.n
  sol : ∀ σ, (Sol F σ ∧ EqW W fun x y => σ x = σ y) ↔ (Sol S σ ∧ σ a = σ b)
theorem UI.start {S : Sys} {a b : Nat} (cg : Cong S []) (ha : a < S.n) (hb : b < S.n) : UI S a b S [(a, b)] :=
  ⟨rfl, rfl, cg.mono fun R _ _ _ p hp => absurd hp (by simp), fun R E r w => w (a, b) (by simp), fun p hp => by
    have : p = (a, b) := by simpa using hp
    rw [this]; exact ⟨ha, hb⟩, fun σ => by unfold EqW; simp⟩
theorem UI.same {S F : Sys} {a b c d : Nat} {W : List (Nat × Nat)} (h : UI S a b F ((c, d) :: W)) (e : F.rep c = F.rep d) : UI S a b F W := by
  obtain ⟨n, prs, cg, cn, bd, sol⟩ := h
  have hc : c < F.n ∧ d < F.n := by rw [n]; exact bd (c, d) (by simp)
  refine ⟨n, prs, cg.same hc.1 hc.2 e, cn.same hc.1 hc.2 e, fun p hp => bd p (by simp [hp]), fun σ => ?_⟩
  rw [← sol σ]
  constructor
  · rintro ⟨h1, h2⟩; exact ⟨h1, (Sol.same hc.1 hc.2 e h1).mpr h2⟩
  · rintro ⟨h1, h2⟩; exact ⟨h1, (Sol.same hc.1 hc.2 e h1).mp h2⟩
theorem UI.link {S F : Sys} {a b c d x y : Nat} {W W' : List (Nat × Nat)} (h : UI S a b F ((c, d) :: W)) (ok : F.Ok) (xy : (x = F.rep c ∧ y = F.rep d) ∨ (x = F.rep d ∧ y = F.rep c)) (P : Push F x y W W') (bd' : ∀ p ∈ W', p.1 < S.n ∧ p.2 < S.n) : UI S a b (F.link x y) W' := by
  obtain ⟨n, prs, cg, cn, bd, sol⟩ := h
  have hc : c < F.n ∧ d < F.n := by rw [n]; exact bd (c, d) (by simp)
  refine ⟨n, prs, Cong.link ok hc.1 hc.2 xy P cg, Conn.link ok hc.1 hc.2 xy P cn, bd', fun σ => ?_⟩
  rw [← sol σ]
  exact Sol.step ok hc.1 hc.2 xy P
theorem UI.done {S F : Sys} {a b : Nat} (h : UI S a b F []) (ok : F.Ok) : Made S F a b :=
  ⟨h.n, h.prs, ok, h.cg, h.cn.fin ok, fun σ => by
    rw [← h.sol σ]
    exact ⟨fun q => ⟨q, fun p hp => absurd hp (by simp)⟩, fun q => q.1⟩⟩
/-- two pairs that are made the same push their parts, in either order, either way around -/
theorem push_pair {S : Sys} {x y L Q l r : Nat} {W W' : List (Nat × Nat)} (px : S.prs x = some (L, Q)) (py : S.prs y = some (l, r)) (h : ∀ R, Eqv R → (EqW W' R ↔ R l L ∧ R r Q ∧ EqW W R)) : Push S x y W W' :=
  ⟨(fun e => by rw [py] at e; cases e), fun l' r' e => by
    rw [py] at e
    cases e
    exact ⟨L, Q, px, h⟩⟩
theorem push_none {S : Sys} {x y : Nat} {W : List (Nat × Nat)} (py : S.prs y = none) : Push S x y W W := ⟨fun _ => rfl, fun l r e => by rw [py] at e; cases e⟩
end Kk

/-! methods that can be called -/
namespace Kk
open PySem PySem.Spec PyProof.Rows L2
/-- a method can be called -/
structure Mth (P : Program) (w : World) (K : PySem.W.Frag) (mg : Str → Option Value) (base : Heap) (C : Addr) (m : Str) (k : Nat) (ps : List Str) (sp : Sp) : Prop where
  ex : ∃ f fd, Meth K C m f ∧ Binds K fd ps [] ∧ FnOk P w K mg base CX0 k f fd ps sp
theorem pe_m0 {X : Cx} {C : Addr} {m : Str} {k : Nat} {ps : List Str} {sp : Sp} {o : Expr} {ta : TE} {apos pos : Pos} {pl : Sem Bool} (M : Mth X.prog X.w X.K X.mg X.base C m k ps sp) (c : Cls X.K C) (hr : Room k X.A) (he : PE X o ta)
    (ht : eval (.Call (.Attribute o m apos) [] [] pos) X.env = (do
      let ov ← eval o X.env
      standAt apos.atName
      let (f, first) ← holding [ov] (getMethod ov m pl)
      callWith pos f first (backTo pos (starEach [] X.env)) (backToKw pos (keywordEach [] X.env))) := by rfl) :
    PE X (.Call (.Attribute o m apos) [] [] pos) (tMeth C m sp [] E0 ta tNil) := by
  obtain ⟨f, fd, hm, hb, F⟩ := M
  exact pe_meth0 he c hm F hr hb .nil pass0 ht
theorem pe_m1 {X : Cx} {C : Addr} {m : Str} {k : Nat} {ps : List Str} {sp : Sp} {o e : Expr} {es : List Expr} {ta : TE} {t : TA} {apos pos : Pos} {pl : Sem Bool} (M : Mth X.prog X.w X.K X.mg X.base C m k ps sp) (c : Cls X.K C) (hr : Room k X.A) (he : PE X o ta) (ha : PA X (e :: es) t)
    (hst : starEach (e :: es) X.env = (false, eval e X.env) :: starEach es X.env := by rfl) (hpl : (backTo pos (starEach es X.env)).any (·.1) = false := by rfl)
    (ht : eval (.Call (.Attribute o m apos) (e :: es) [] pos) X.env = (do
      let ov ← eval o X.env
      standAt apos.atName
      let (f, first) ← holding [ov] (getMethod ov m pl)
      callWith pos f first (backTo pos (starEach (e :: es) X.env)) (backToKw pos (keywordEach [] X.env))) := by rfl) :
    PE X (.Call (.Attribute o m apos) (e :: es) [] pos) (tMeth C m sp [] E0 ta t) := by
  obtain ⟨f, fd, hm, hb, F⟩ := M
  exact pe_meth he c hm F hr hb .nil pass0 ha hst hpl ht
end Kk

set_option maxHeartbeats 4000000
/-! knots: the class Nodes -/
namespace Kk
open PySem PySem.Spec PyProof.Rows L2 Wd
theorem ifY {c : Prop} [Decidable c] {A B : Prop} (h : c) (a : A) : if decide c = true then A else B := by
  rw [decide_eq_true h, if_pos rfl]; exact a
theorem ifN {c : Prop} [Decidable c] {A B : Prop} (h : ¬ c) (b : B) : if decide c = true then A else B := by
  rw [decide_eq_false h, if_neg Bool.false_ne_true]; exact b
theorem ifNY {c : Prop} [Decidable c] {A B : Prop} (h : c) (b : B) : if (!decide c) = true then A else B := by
  rw [decide_eq_true h]; exact b
theorem ifNN {c : Prop} [Decidable c] {A B : Prop} (h : ¬ c) (a : A) : if (!decide c) = true then A else B := by
  rw [decide_eq_false h]; exact a
structure PN (K : PySem.W.Frag) (mg : Str → Option Value) (C : Addr) : Prop where
  cl : Cls K C
  nh : NoAttr K C "heads"
  nl : NoAttr K C "lefts"
  nr : NoAttr K C "rights"
  mg : mg "Nodes" = some (.ref C)
def nfs (A L R : Addr) : List (Str × V) := putF "rights" (.ref R) (putF "lefts" (.ref L) (putF "heads" (.ref A) []))
theorem nfs_h (A L R : Addr) : (nfs A L R).lookup ("heads" : Str) = some (.ref A) := by
  unfold nfs
  rw [lookup_putF, if_neg (by decide +kernel), lookup_putF, if_neg (by decide +kernel), lookup_putF, if_pos rfl]
theorem nfs_l (A L R : Addr) : (nfs A L R).lookup ("lefts" : Str) = some (.ref L) := by
  unfold nfs
  rw [lookup_putF, if_neg (by decide +kernel), lookup_putF, if_pos rfl]
theorem nfs_r (A L R : Addr) : (nfs A L R).lookup ("rights" : Str) = some (.ref R) := by
  unfold nfs
  rw [lookup_putF, if_pos rfl]
theorem nfs_no {n : Str} (A L R : Addr) (h1 : ("heads" : Str) ≠ n) (h2 : ("lefts" : Str) ≠ n) (h3 : ("rights" : Str) ≠ n) : (nfs A L R).lookup n = none := by
  unfold nfs
  rw [lookup_putF, if_neg (fun e => h3 e.symm), lookup_putF, if_neg (fun e => h2 e.symm), lookup_putF, if_neg (fun e => h1 e.symm)]
  rfl
/-- the row of heads, while it leads to those that speak for all -/
structure HdsD (d : Nat → Nat) (hs : List Nat) (S : Sys) : Prop where
  len : hs.length = S.n
  lt : ∀ (i h : Nat), hs[i]? = some h → h < S.n ∧ S.rep h = S.rep i
  fix : ∀ i : Nat, hs[i]? = some i ↔ i < S.n ∧ S.rep i = i
  ms : ∀ (i h : Nat), hs[i]? = some h → h ≠ i → d h < d i
def Hds (hs : List Nat) (S : Sys) : Prop := ∃ d, HdsD d hs S
theorem Hds.emp : Hds [] Sys.emp := ⟨fun _ => 0, rfl, (fun i h e => by simp at e), (fun i => ⟨(fun e => by simp at e), fun h => absurd h.1 (Nat.not_lt_zero i)⟩), fun i h e => by simp at e⟩
theorem Hds.len {hs : List Nat} {S : Sys} (h : Hds hs S) : hs.length = S.n := h.choose_spec.len
theorem Hds.lt {hs : List Nat} {S : Sys} (h : Hds hs S) : ∀ (i j : Nat), hs[i]? = some j → j < S.n ∧ S.rep j = S.rep i := h.choose_spec.lt
theorem Hds.fix {hs : List Nat} {S : Sys} (h : Hds hs S) : ∀ i : Nat, hs[i]? = some i ↔ i < S.n ∧ S.rep i = i := h.choose_spec.fix
theorem Hds.at_ {hs : List Nat} {S : Sys} (h : Hds hs S) {i : Nat} (hi : i < S.n) : ∃ j, hs[i]? = some j ∧ j < S.n ∧ S.rep j = S.rep i := by
  have l : i < hs.length := by rw [h.len]; exact hi
  exact ⟨hs[i], List.getElem?_eq_getElem l, h.lt i _ (List.getElem?_eq_getElem l)⟩
theorem Hds.new {hs : List Nat} {S : Sys} (h : Hds hs S) (ok : S.Ok) (p : Option (Nat × Nat)) : Hds (hs ++ [S.n]) (S.new p) := by
  obtain ⟨d, len, lt, fix, ms⟩ := h
  have cs : ∀ (i j : Nat), (hs ++ [S.n])[i]? = some j → (i < S.n ∧ hs[i]? = some j) ∨ (i = S.n ∧ j = S.n) := fun i j e => by
    rcases Nat.lt_or_ge i hs.length with q | q
    · rw [List.getElem?_append_left q] at e
      exact .inl ⟨by omega, e⟩
    · rw [List.getElem?_append_right q] at e
      have : i - hs.length = 0 := by
        rcases Nat.eq_zero_or_pos (i - hs.length) with z | z
        · exact z
        · rw [List.getElem?_eq_none (by simp; omega)] at e; cases e
      rw [this] at e
      exact .inr ⟨by omega, (Option.some.inj e).symm⟩
  refine ⟨d, by simp [len, Sys.new], fun i j e => ?_, fun i => ⟨fun e => ?_, fun e => ?_⟩, fun i j e ne => ?_⟩
  · rcases cs i j e with ⟨q, e⟩ | ⟨q, e⟩
    · obtain ⟨h1, h2⟩ := lt i j e
      refine ⟨Nat.lt_succ_of_lt h1, ?_⟩
      show (if j = S.n then _ else _) = if i = S.n then _ else _
      rw [if_neg (by omega), if_neg (by omega)]; exact h2
    · rw [q, e]; exact ⟨Nat.lt_succ_self _, rfl⟩
  · rcases cs i i e with ⟨q, e⟩ | ⟨q, e⟩
    · obtain ⟨h1, h2⟩ := (fix i).mp e
      refine ⟨Nat.lt_succ_of_lt h1, ?_⟩
      show (if i = S.n then _ else _) = _
      rw [if_neg (by omega)]; exact h2
    · rw [q]; exact ⟨Nat.lt_succ_self _, if_pos rfl⟩
  · obtain ⟨h1, h2⟩ := e
    have h2 : (if i = S.n then S.n else S.rep i) = i := h2
    have h1 : i < S.n + 1 := h1
    by_cases q : i = S.n
    · rw [q, ← len, List.getElem?_append_right (Nat.le_refl _)]; simp
    · rw [if_neg q] at h2
      rw [List.getElem?_append_left (by omega)]
      exact (fix i).mpr ⟨by omega, h2⟩
  · rcases cs i j e with ⟨q, e⟩ | ⟨q, e⟩
    · exact ms i j e ne
    · exact absurd (e.trans q.symm) ne
/-- a shorter way -/
theorem HdsD.half {d : Nat → Nat} {hs : List Nat} {S : Sys} (h : HdsD d hs S) {i j k : Nat} (e1 : hs[i]? = some j) (e2 : hs[j]? = some k) (ne : j ≠ i) : HdsD d (hs.set i k) S ∧ d k < d i := by
  obtain ⟨len, lt, fix, ms⟩ := h
  have hi := (List.getElem?_eq_some_iff.mp e1).1
  obtain ⟨k1, k2⟩ := lt j k e2
  obtain ⟨j1, j2⟩ := lt i j e1
  have dk : d k < d i := by
    have h1 := ms i j e1 ne
    by_cases q : k = j
    · rw [q]; exact h1
    · have := ms j k e2 q; omega
  have cs : ∀ (a b : Nat), (hs.set i k)[a]? = some b → (a = i ∧ b = k) ∨ (a ≠ i ∧ hs[a]? = some b) := fun a b e => by
    rw [List.getElem?_set] at e
    by_cases q : i = a
    · rw [if_pos q, if_pos hi] at e
      exact .inl ⟨q.symm, (Option.some.inj e).symm⟩
    · rw [if_neg q] at e
      exact .inr ⟨fun z => q z.symm, e⟩
  refine ⟨⟨by simp [len], fun a b e => ?_, fun a => ⟨fun e => ?_, fun e => ?_⟩, fun a b e n => ?_⟩, dk⟩
  · rcases cs a b e with ⟨q1, q2⟩ | ⟨_, e⟩
    · rw [q1, q2]; exact ⟨k1, k2.trans j2⟩
    · exact lt a b e
  · rcases cs a a e with ⟨q1, q2⟩ | ⟨_, e⟩
    · rw [← q2, q1] at dk; exact absurd dk (Nat.lt_irrefl _)
    · exact (fix a).mp e
  · have := (fix a).mpr e
    have ai : i ≠ a := fun q => by
      rw [← q, e1] at this
      exact ne (Option.some.inj this)
    rw [List.getElem?_set, if_neg ai]; exact this
  · rcases cs a b e with ⟨q1, q2⟩ | ⟨_, e⟩
    · rw [q1, q2]; exact dk
    · exact ms a b e n
theorem Hds.link {hs : List Nat} {S : Sys} (h : Hds hs S) (ok : S.Ok) {x y : Nat} (hx : x < S.n) (hy : y < S.n) (rx : S.rep x = x) (ry : S.rep y = y) (ne : x ≠ y) : Hds (hs.set y x) (S.link x y) := by
  obtain ⟨d, len, lt, fix, ms⟩ := h
  have hyl : y < hs.length := by rw [len]; exact hy
  have cs : ∀ (a b : Nat), (hs.set y x)[a]? = some b → (a = y ∧ b = x) ∨ (a ≠ y ∧ hs[a]? = some b) := fun a b e => by
    rw [List.getElem?_set] at e
    by_cases q : y = a
    · rw [if_pos q, if_pos hyl] at e
      exact .inl ⟨q.symm, (Option.some.inj e).symm⟩
    · rw [if_neg q] at e
      exact .inr ⟨fun z => q z.symm, e⟩
  -- the ways to x, then those to y
  refine ⟨fun a => if S.rep a = y then d x + 1 + d a else d a, by simp [len, Sys.link], fun a b e => ?_, fun a => ⟨fun e => ?_, fun e => ?_⟩, fun a b e n => ?_⟩
  · rcases cs a b e with ⟨q1, q2⟩ | ⟨_, e⟩
    · rw [q1, q2]
      refine ⟨hx, ?_⟩
      show (if S.rep x = y then x else S.rep x) = if S.rep y = y then x else S.rep y
      rw [rx, if_neg ne, if_pos ry]
    · obtain ⟨h1, h2⟩ := lt a b e
      refine ⟨h1, ?_⟩
      show (if S.rep b = y then x else S.rep b) = if S.rep a = y then x else S.rep a
      rw [h2]
  · rcases cs a a e with ⟨q1, q2⟩ | ⟨ay, e⟩
    · exact absurd (q2.symm.trans q1) ne
    · obtain ⟨h1, h2⟩ := (fix a).mp e
      refine ⟨h1, ?_⟩
      show (if S.rep a = y then x else S.rep a) = a
      rw [h2, if_neg ay]
  · obtain ⟨h1, h2⟩ := e
    have h2 : (if S.rep a = y then x else S.rep a) = a := h2
    have h1 : a < S.n := h1
    by_cases q : S.rep a = y
    · rw [if_pos q] at h2
      rw [← h2, rx] at q
      exact absurd q ne
    · rw [if_neg q] at h2
      have ay : y ≠ a := fun z => q (by rw [← z]; exact ry)
      rw [List.getElem?_set, if_neg ay]
      exact (fix a).mpr ⟨h1, h2⟩
  · rcases cs a b e with ⟨q1, q2⟩ | ⟨ay, e⟩
    · rw [q1, q2]
      show (if S.rep x = y then _ else _) < if S.rep y = y then _ else _
      rw [rx, if_neg ne, if_pos ry]; omega
    · have h1 := ms a b e n
      obtain ⟨_, h2⟩ := lt a b e
      show (if S.rep b = y then _ else _) < if S.rep a = y then _ else _
      rw [h2]
      split <;> omega
def lfV (S : Sys) : List V := (List.range S.n).map fun i => optV ((S.prs i).map (·.1))
def rtV (S : Sys) : List V := (List.range S.n).map fun i => optV ((S.prs i).map (·.2))
theorem lfV_get {S : Sys} {i : Nat} (h : i < S.n) : (lfV S)[i]? = some (optV ((S.prs i).map (·.1))) := by
  unfold lfV
  rw [List.getElem?_map, List.getElem?_range h]; rfl
theorem rtV_get {S : Sys} {i : Nat} (h : i < S.n) : (rtV S)[i]? = some (optV ((S.prs i).map (·.2))) := by
  unfold rtV
  rw [List.getElem?_map, List.getElem?_range h]; rfl
theorem lfV_new (S : Sys) (p : Option (Nat × Nat)) : lfV (S.new p) = lfV S ++ [optV (p.map (·.1))] := by
  unfold lfV
  show (List.range (S.n + 1)).map _ = _
  rw [List.range_succ, List.map_append]
  congr 1
  · refine List.map_congr_left fun i hi => ?_
    have := List.mem_range.mp hi
    simp only [Sys.new]
    rw [if_neg (by omega)]
  · simp [Sys.new]
theorem rtV_new (S : Sys) (p : Option (Nat × Nat)) : rtV (S.new p) = rtV S ++ [optV (p.map (·.2))] := by
  unfold rtV
  show (List.range (S.n + 1)).map _ = _
  rw [List.range_succ, List.map_append]
  congr 1
  · refine List.map_congr_left fun i hi => ?_
    have := List.mem_range.mp hi
    simp only [Sys.new]
    rw [if_neg (by omega)]
  · simp [Sys.new]
/-- at x stand knots: the heads at A, the lefts at L, the rights at R -/
structure NdAt (C : Addr) (x A L R : Addr) (S : Sys) (H : Hp) : Prop where
  ins : ∃ dx, H x = some (.ins C dx (nfs A L R))
  a : ∃ hs : List Nat, H A = some (.lst (hs.map nv)) ∧ Hds hs S
  l : H L = some (.lst (lfV S))
  r : H R = some (.lst (rtV S))
  ok : S.Ok
  le : S.n ≤ 100000
  al : A ≠ L
  ar : A ≠ R
  lr : L ≠ R
section
variable {C x A L R : Addr} {S : Sys} {H H' : Hp}
theorem NdAt.same (h : NdAt C x A L R S H) (k : Same H H') : NdAt C x A L R S H' := by
  obtain ⟨⟨dx, e⟩, ⟨hs, e2, q⟩, e3, e4, ok, le, n1, n2, n3⟩ := h
  exact ⟨⟨dx, k _ _ e⟩, ⟨hs, k _ _ e2, q⟩, k _ _ e3, k _ _ e4, ok, le, n1, n2, n3⟩
theorem NdAt.xne (h : NdAt C x A L R S H) : x ≠ A ∧ x ≠ L ∧ x ≠ R := by
  obtain ⟨⟨dx, e⟩, ⟨hs, e2, q⟩, e3, e4, ok, le, n1, n2, n3⟩ := h
  exact ⟨(fun z => by rw [z, e2] at e; cases e), (fun z => by rw [z, e3] at e; cases e), (fun z => by rw [z, e4] at e; cases e)⟩
/-- what else is written leaves them -/
theorem NdAt.wr {b : Addr} {xs ys : List V} (h : NdAt C x A L R S H) (hb : H b = some (.lst xs)) (n1 : b ≠ A) (n2 : b ≠ L) (n3 : b ≠ R) : NdAt C x A L R S (upd H b (.lst ys)) := by
  obtain ⟨⟨dx, e⟩, ⟨hs, e2, q⟩, e3, e4, ok, le, m1, m2, m3⟩ := h
  exact ⟨⟨dx, by rw [upd_ne (fun z => by rw [z, hb] at e; cases e)]; exact e⟩, ⟨hs, by rw [upd_ne n1.symm]; exact e2, q⟩, by rw [upd_ne n2.symm]; exact e3, by rw [upd_ne n3.symm]; exact e4, ok, le, m1, m2, m3⟩
theorem NdAt.wrD {b : Addr} {xs : List (Key × V)} {o : HO} (h : NdAt C x A L R S H) (hb : H b = some (.dK xs)) : NdAt C x A L R S (upd H b o) := by
  obtain ⟨⟨dx, e⟩, ⟨hs, e2, q⟩, e3, e4, ok, le, m1, m2, m3⟩ := h
  have ne : ∀ {c o'}, H c = some o' → (∀ zs, o' ≠ .dK zs) → c ≠ b := fun {c o'} hc n z => by
    rw [z, hb] at hc
    exact n xs (Option.some.inj hc).symm
  exact ⟨⟨dx, by rw [upd_ne (ne e fun _ z => nomatch z)]; exact e⟩, ⟨hs, by rw [upd_ne (ne e2 fun _ z => nomatch z)]; exact e2, q⟩, by rw [upd_ne (ne e3 fun _ z => nomatch z)]; exact e3, by rw [upd_ne (ne e4 fun _ z => nomatch z)]; exact e4, ok, le, m1, m2, m3⟩
end
section
variable {P : Program} {w : World} {K : PySem.W.Frag} {mg : Str → Option Value} {base : Heap}
def spNInit (C : Addr) : Sp := fun vs H Q _ => ∃ (x dx : Addr), vs = [.ref x] ∧ H x = some (.ins C dx []) ∧
  ∀ H' A L R, ButK x H H' → H A = none → H L = none → H R = none → NdAt C x A L R Sys.emp H' → Q .non H'
abbrev s_ninit : Stmt := (inClass (top 18) 0)
theorem sc_ninit : FnScope ["self"] ["self"] (defScope s_ninit) := ⟨rfl, rfl, rfl, by decide +kernel, rfl, by decide +kernel, by decide +kernel⟩
theorem c_ninit {CN f : Addr} {fd : FuncData} (pn : PN K mg CN) (F : Fun K "__init__" "Nodes.__init__" s_ninit f fd) : FnOk P w K mg base CX0 1 f fd ["self"] (spNInit CN) := by
  refine F.ok sc_ninit (fun vs H Q E h => ?_) (fun cdv A outer st0 H vs Q E hr h => ?_)
  · obtain ⟨x, dx, rfl, _⟩ := h
    rfl
  · obtain ⟨x, dx, rfl, hx, k⟩ := h
    refine ⟨_, (pss_cons (ps_fld (pv 0) (pe_lst pa_nil) rfl)
      (pss_cons (ps_fld (pv 0) (pe_lst pa_nil) rfl)
      (pss_one (ps_fld (pv 0) (pe_lst pa_nil) rfl)))), ?_⟩
    refine ⟨Nat.zero_le _, fun A nA => ?_⟩
    have S1 := same_upd (o := HO.lst []) nA
    have A1 : upd H A (.lst []) A = some (.lst []) := upd_same
    have hx1 := S1 _ _ hx
    generalize upd H A (.lst []) = H1 at *
    refine ⟨_, rfl, x, CN, dx, [], rfl, hx1, pn.cl, pn.nh, (by show 0 < 1000; decide), ?_⟩
    have xA : x ≠ A := fun e => by rw [e, A1] at hx1; cases hx1
    have hx2 : upd H1 x (.ins CN dx (putF "heads" (.ref A) [])) x = some (.ins CN dx (putF "heads" (.ref A) [])) := upd_same
    have A2 : upd H1 x (.ins CN dx (putF "heads" (.ref A) [])) A = some (.lst []) := by rw [upd_ne xA.symm]; exact A1
    have B2 : ButK x H (upd H1 x (.ins CN dx (putF "heads" (.ref A) []))) := fun b o hb hn => by rw [upd_ne hn]; exact S1 _ _ hb
    generalize upd H1 x (.ins CN dx (putF "heads" (.ref A) [])) = H2 at *
    refine ⟨Nat.zero_le _, fun L nL => ?_⟩
    have S3 := same_upd (o := HO.lst []) nL
    have L3 : upd H2 L (.lst []) L = some (.lst []) := upd_same
    have hx3 := S3 _ _ hx2
    have A3 := S3 _ _ A2
    have xL : x ≠ L := ne_of_none hx2 nL
    have AL : A ≠ L := ne_of_none A2 nL
    have nLH : H L = none := by
      cases e : H L with
      | none => rfl
      | some o => rw [B2 L o e xL.symm] at nL; cases nL
    have B3 : ButK x H (upd H2 L (.lst [])) := fun b o hb hn => S3 _ _ (B2 b o hb hn)
    generalize upd H2 L (.lst []) = H3 at *
    refine ⟨_, rfl, x, CN, dx, _, rfl, hx3, pn.cl, pn.nl, (by show 1 < 1000; decide), ?_⟩
    have hx4 : upd H3 x (.ins CN dx (putF "lefts" (.ref L) (putF "heads" (.ref A) []))) x = some (.ins CN dx (putF "lefts" (.ref L) (putF "heads" (.ref A) []))) := upd_same
    have A4 : upd H3 x (.ins CN dx (putF "lefts" (.ref L) (putF "heads" (.ref A) []))) A = some (.lst []) := by rw [upd_ne xA.symm]; exact A3
    have L4 : upd H3 x (.ins CN dx (putF "lefts" (.ref L) (putF "heads" (.ref A) []))) L = some (.lst []) := by rw [upd_ne xL.symm]; exact L3
    have B4 : ButK x H (upd H3 x (.ins CN dx (putF "lefts" (.ref L) (putF "heads" (.ref A) [])))) := fun b o hb hn => by rw [upd_ne hn]; exact B3 _ _ hb hn
    generalize upd H3 x (.ins CN dx (putF "lefts" (.ref L) (putF "heads" (.ref A) []))) = H4 at *
    refine ⟨Nat.zero_le _, fun R nR => ?_⟩
    have S5 := same_upd (o := HO.lst []) nR
    have R5 : upd H4 R (.lst []) R = some (.lst []) := upd_same
    have hx5 := S5 _ _ hx4
    have A5 := S5 _ _ A4
    have L5 := S5 _ _ L4
    have xR : x ≠ R := ne_of_none hx4 nR
    have AR : A ≠ R := ne_of_none A4 nR
    have LR : L ≠ R := ne_of_none L4 nR
    have nRH : H R = none := by
      cases e : H R with
      | none => rfl
      | some o => rw [B4 R o e xR.symm] at nR; cases nR
    have B5 : ButK x H (upd H4 R (.lst [])) := fun b o hb hn => S5 _ _ (B4 b o hb hn)
    generalize upd H4 R (.lst []) = H5 at *
    refine ⟨_, rfl, x, CN, dx, _, rfl, hx5, pn.cl, pn.nr, ?_, ?_⟩
    · show (if ("heads" : Str) = "lefts" then _ else _ :: _ : List (Str × V)).length < 1000
      rw [if_neg (by decide +kernel)]
      show 2 < 1000
      decide
    · exact k _ A L R (fun b o hb hn => by rw [upd_ne hn]; exact B5 _ _ hb hn) nA nLH nRH ⟨⟨dx, upd_same⟩, ⟨[], by rw [upd_ne xA.symm]; exact A5, Hds.emp⟩, by rw [upd_ne xL.symm]; exact L5, by rw [upd_ne xR.symm]; exact R5, Sys.emp_ok, by show 0 ≤ 100000; decide, AL, AR, LR⟩
/-- the class can be made -/
structure MkrN (P : Program) (w : World) (K : PySem.W.Frag) (mg : Str → Option Value) (base : Heap) (C : Addr) : Prop where
  ex : ∃ f fd, Mk K C f ∧ mg "Nodes" = some (.ref C) ∧ Binds K fd ["self"] [] ∧ FnOk P w K mg base CX0 1 f fd ["self"] (spNInit C)
theorem pe_mkNd {X : Cx} {C : Addr} {p pos : Pos} (M : MkrN X.prog X.w X.K X.mg X.base C) (hr : Room 2 X.A) (hg : Gl X "Nodes" := by rfl) :
    PE X (.Call (.Name "Nodes" p) [] [] pos) (tMake C (spNInit C) [] E0 tNil) := by
  obtain ⟨f, fd, M, hm, hb, F⟩ := M
  exact pe_make0 M F hr hg hm hb .nil pass0 (by decide)
end
end Kk

set_option maxHeartbeats 4000000
/-! knots: heads, new ones, kinds taken in -/
namespace Kk
open PySem PySem.Spec PyProof.Rows L2 Wd
theorem ne_nv (i j : Nat) : (!decide (V.int ((i : Nat) : Int) = V.int ((j : Nat) : Int))) = !decide (i = j) := by
  by_cases e : i = j
  · subst e; simp
  · rw [decide_eq_false e, decide_eq_false fun q => e (by have := V.int.inj q; omega)]
theorem nv_get {hs : List Nat} {i j : Nat} (h : hs[i]? = some j) : (hs.map nv)[i]? = some (nv j) := by rw [List.getElem?_map, h]; rfl
section
variable {P : Program} {w : World} {K : PySem.W.Frag} {mg : Str → Option Value} {base : Heap}
def spHead (C : Addr) : Sp := fun vs H Q _ => ∃ (x A L R : Addr) (S : Sys) (i : Nat), vs = [.ref x, .int (i : Nat)] ∧ NdAt C x A L R S H ∧ i < S.n ∧
  ∀ H', NdAt C x A L R S H' → Ke A L R H H' → Q (.int (S.rep i : Nat)) H'
abbrev s_nhead : Stmt := (inClass (top 18) 4)
theorem sc_nhead : FnScope ["self", "node"] ["self", "node"] (defScope s_nhead) := ⟨rfl, rfl, rfl, by decide +kernel, rfl, by decide +kernel, by decide +kernel⟩
theorem c_nhead {CN f : Addr} {fd : FuncData} (pn : PN K mg CN) (F : Fun K "head" "Nodes.head" s_nhead f fd) : FnOk P w K mg base CX0 1 f fd ["self", "node"] (spHead CN) := by
  refine F.ok sc_nhead (fun vs H Q E h => ?_) (fun cdv A outer st0 H vs Q E hr h => ?_)
  · obtain ⟨x, A, L, R, S, i, rfl, _⟩ := h
    rfl
  · obtain ⟨x, A, L, R, S, i, rfl, N0, hi, k⟩ := h
    refine ⟨_, (pss_cons (ps_while PassesOwn.never (pt_cmpR op_ne (pe_ix ix_list (pe_fld (pv 0) rfl) (pv 1) (fun _ _ => rfl)) (pv 1) (nomark _)) (pss_cons (ps_asg (pe_ix ix_list (pe_fld (pv 0) rfl) (pe_ix ix_list (pe_fld (pv 0) rfl) (pv 1) (fun _ _ => rfl)) (fun _ _ => rfl)) (pg_sub (pe_fld (pv 0) rfl) (pv 1) set_list))
      (pss_one (ps_set (i := 1) sc_nhead.nd rfl (by first | exact Or.inl rfl | exact Or.inr rfl) (pe_ix ix_list (pe_fld (pv 0) rfl) (pv 1) (fun _ _ => rfl))))))
      (pss_one (ps_ret (pv 1)))), ?_⟩
    obtain ⟨⟨dx, hx⟩, ⟨hs, ha, d, hd⟩, hl, hR, ok, le, n1, n2, n3⟩ := id N0
    obtain ⟨xA, xL, xR⟩ := N0.xne
    refine ⟨fun m σ H' => ∃ (hs : List Nat) (j : Nat), σ = [some (.ref x), some (.int (j : Nat))] ∧ m = d j ∧ j < S.n ∧ S.rep j = S.rep i ∧ HdsD d hs S ∧ H' A = some (.lst (hs.map nv)) ∧ ∀ b o, H b = some o → b ≠ A → H' b = some o, ⟨d i, hs, i, rfl, rfl, hi, rfl, hd, ha, fun _ _ h _ => h⟩, ?_⟩
    rintro m σ H1 ⟨hs1, j, rfl, rfl, hj, rj, hd1, a1, K1⟩
    have hx1 := K1 _ _ hx xA
    obtain ⟨j1, e1⟩ : ∃ j1, hs1[j]? = some j1 := ⟨hs1[j]'(by rw [hd1.len]; exact hj), List.getElem?_eq_getElem _⟩
    obtain ⟨j1n, rj1⟩ := hd1.lt j j1 e1
    refine ⟨_, rfl, x, CN, dx, _, _, rfl, hx1, pn.cl, pn.nh, nfs_h A L R, _, rfl, A, _, _, _, rfl, rfl, SqL.of a1, atI_nat (nv_get e1), ?_⟩
    refine ⟨_, rfl, rfl, _, rfl, ?_⟩
    show if (!decide (V.int ((j1 : Nat) : Int) = V.int ((j : Nat) : Int))) = true then _ else _
    rw [ne_nv]
    by_cases e : j1 = j
    · rw [decide_eq_true e]
      refine iteF ?_
      subst e
      obtain ⟨_, fx⟩ := (hd1.fix j1).mp e1
      rw [fx] at rj
      rw [rj]
      refine ⟨_, rfl, k H1 ⟨⟨dx, hx1⟩, ⟨hs1, a1, d, hd1⟩, K1 _ _ hl n1.symm, K1 _ _ hR n2.symm, ok, le, n1, n2, n3⟩ fun b o hb h1 _ _ => K1 b o hb h1⟩
    · rw [decide_eq_false e]
      obtain ⟨j2, e2⟩ : ∃ j2, hs1[j1]? = some j2 := ⟨hs1[j1]'(by rw [hd1.len]; exact j1n), List.getElem?_eq_getElem _⟩
      obtain ⟨j2n, rj2⟩ := hd1.lt j1 j2 e2
      obtain ⟨hd2, dl⟩ := hd1.half e1 e2 e
      refine iteT ⟨fun σ' H' => ∃ (hs : List Nat), σ' = [some (.ref x), some (.int (j2 : Nat))] ∧ HdsD d hs S ∧ H' A = some (.lst (hs.map nv)) ∧ ∀ b o, H b = some o → b ≠ A → H' b = some o, ?_, ?_⟩
      · rintro σ' H' ⟨hs', rfl, h1, h2, h3⟩
        exact ⟨d j2, dl, hs', j2, rfl, rfl, j2n, (rj2.trans rj1).trans rj, h1, h2, h3⟩
      have jl : j < hs1.length := by rw [hd1.len]; exact hj
      refine ⟨_, rfl, x, CN, dx, _, _, rfl, hx1, pn.cl, pn.nh, nfs_h A L R, _, rfl, x, CN, dx, _, _, rfl, hx1, pn.cl, pn.nh, nfs_h A L R, _, rfl, A, _, _, _, rfl, rfl, SqL.of a1, atI_nat (nv_get e1), A, _, _, _, rfl, rfl, SqL.of a1, atI_nat (nv_get e2), ?_⟩
      refine ⟨_, rfl, x, CN, dx, _, _, rfl, hx1, pn.cl, pn.nh, nfs_h A L R, _, rfl, A, _, _, j, rfl, rfl, a1, ixN_lt (by rw [List.length_map]; exact jl), ?_⟩
      have a2 : upd H1 A (.lst ((hs1.map nv).set j (nv j2))) A = some (.lst ((hs1.set j j2).map nv)) := by rw [upd_same, List.map_set]
      have hx2 : upd H1 A (.lst ((hs1.map nv).set j (nv j2))) x = some (.ins CN dx (nfs A L R)) := by rw [upd_ne xA]; exact hx1
      have K2 : ∀ b o, H b = some o → b ≠ A → upd H1 A (.lst ((hs1.map nv).set j (nv j2))) b = some o := fun b o hb hn => by rw [upd_ne hn]; exact K1 b o hb hn
      dsimp only
      generalize upd H1 A (.lst ((hs1.map nv).set j (nv j2))) = H2 at *
      have g3 : (hs1.set j j2)[j]? = some j2 := by rw [List.getElem?_set, if_pos rfl, if_pos jl]
      exact ⟨_, rfl, x, CN, dx, _, _, rfl, hx2, pn.cl, pn.nh, nfs_h A L R, _, rfl, A, _, _, _, rfl, rfl, SqL.of a2, atI_nat (nv_get g3), _, rfl, hd2, a2, K2⟩
/-- a new knot -/
def spPair (C : Addr) : Sp := fun vs H Q _ => ∃ (x A L R : Addr) (S : Sys) (p : Option (Nat × Nat)), vs = [.ref x, optV (p.map (·.1)), optV (p.map (·.2))] ∧ NdAt C x A L R S H ∧ S.n < 100000 ∧ (∀ l r, p = some (l, r) → l < S.n ∧ r < S.n) ∧
  ∀ H', NdAt C x A L R (S.new p) H' → Ke A L R H H' → Q (.int (S.n : Nat)) H'
abbrev s_npair : Stmt := (inClass (top 18) 2)
theorem sc_npair : FnScope ["self", "left", "right"] ["self", "left", "right"] (defScope s_npair) := ⟨rfl, rfl, rfl, by decide +kernel, rfl, by decide +kernel, by decide +kernel⟩
theorem c_npair {CN f : Addr} {fd : FuncData} (B : Bt mg) (pn : PN K mg CN) (F : Fun K "pair" "Nodes.pair" s_npair f fd) : FnOk P w K mg base CX0 1 f fd ["self", "left", "right"] (spPair CN) := by
  refine F.ok sc_npair (fun vs H Q E h => ?_) (fun cdv A outer st0 H vs Q E hr h => ?_)
  · obtain ⟨x, A, L, R, S, p, rfl, _⟩ := h
    rfl
  · obtain ⟨x, A, L, R, S, p, rfl, N0, hn, hp, k⟩ := h
    refine ⟨_, (pss_cons (ps_expr (pe_bm PySem.F.plainAttrs_list PySem.F.slot_list_append PySem.F.type_list_append mt_append (pe_fld (pv 0) rfl) (pa_cons (pe_callB call_len_seq (by rfl) B.b_len (by decide +kernel) (pa_cons (pe_fld (pv 0) rfl) pa_nil)) pa_nil)))
      (pss_cons (ps_expr (pe_bm PySem.F.plainAttrs_list PySem.F.slot_list_append PySem.F.type_list_append mt_append (pe_fld (pv 0) rfl) (pa_cons (pv 1) pa_nil)))
      (pss_cons (ps_expr (pe_bm PySem.F.plainAttrs_list PySem.F.slot_list_append PySem.F.type_list_append mt_append (pe_fld (pv 0) rfl) (pa_cons (pv 2) pa_nil)))
      (pss_one (ps_ret (pe_op op_sub (pe_callB call_len_seq (by rfl) B.b_len (by decide +kernel) (pa_cons (pe_fld (pv 0) rfl) pa_nil)) pe_int)))))), ?_⟩
    obtain ⟨⟨dx, hx⟩, ⟨hs, ha, hd⟩, hl, hR, ok, le, n1, n2, n3⟩ := id N0
    obtain ⟨xA, xL, xR⟩ := N0.xne
    have la : (hs.map nv).length = S.n := by rw [List.length_map]; exact hd.len
    have ll : (lfV S).length = S.n := by unfold lfV; rw [List.length_map, List.length_range]
    have lr : (rtV S).length = S.n := by unfold rtV; rw [List.length_map, List.length_range]
    have sm : S.n < sizeLine := small_lt (m := 1000000) (by omega) (by decide)
    -- heads
    refine ⟨_, rfl, x, CN, dx, _, _, rfl, hx, pn.cl, pn.nh, nfs_h A L R, .inl ⟨rfl, _, SqL.of ha⟩, _, rfl, x, CN, dx, _, _, rfl, hx, pn.cl, pn.nh, nfs_h A L R, _, _, rfl, .inl (SqL.of ha), A, _, _, rfl, rfl, ha, by rw [la]; exact sm, ?_⟩
    rw [la]
    have a1 : upd H A (.lst (hs.map nv ++ [V.int (S.n : Nat)])) A = some (.lst ((hs ++ [S.n]).map nv)) := by rw [upd_same, List.map_append]; rfl
    have x1 : upd H A (.lst (hs.map nv ++ [V.int (S.n : Nat)])) x = some (.ins CN dx (nfs A L R)) := by rw [upd_ne xA]; exact hx
    have l1 : upd H A (.lst (hs.map nv ++ [V.int (S.n : Nat)])) L = some (.lst (lfV S)) := by rw [upd_ne n1.symm]; exact hl
    have r1 : upd H A (.lst (hs.map nv ++ [V.int (S.n : Nat)])) R = some (.lst (rtV S)) := by rw [upd_ne n2.symm]; exact hR
    have K1 : Ke A L R H (upd H A (.lst (hs.map nv ++ [V.int (S.n : Nat)]))) := fun b o hb h1 _ _ => by rw [upd_ne h1]; exact hb
    generalize upd H A (.lst (hs.map nv ++ [V.int (S.n : Nat)])) = H1 at *
    -- lefts
    refine ⟨_, rfl, x, CN, dx, _, _, rfl, x1, pn.cl, pn.nl, nfs_l A L R, .inl ⟨rfl, _, SqL.of l1⟩, _, rfl, L, _, _, rfl, rfl, l1, by rw [ll]; exact sm, ?_⟩
    have a2 : upd H1 L (.lst (lfV S ++ [optV (p.map (·.1))])) A = some (.lst ((hs ++ [S.n]).map nv)) := by rw [upd_ne n1]; exact a1
    have x2 : upd H1 L (.lst (lfV S ++ [optV (p.map (·.1))])) x = some (.ins CN dx (nfs A L R)) := by rw [upd_ne xL]; exact x1
    have l2 : upd H1 L (.lst (lfV S ++ [optV (p.map (·.1))])) L = some (.lst (lfV (S.new p))) := by rw [upd_same, lfV_new]
    have r2 : upd H1 L (.lst (lfV S ++ [optV (p.map (·.1))])) R = some (.lst (rtV S)) := by rw [upd_ne n3.symm]; exact r1
    have K2 : Ke A L R H (upd H1 L (.lst (lfV S ++ [optV (p.map (·.1))]))) := fun b o hb h1 h2 h3 => by rw [upd_ne h2]; exact K1 b o hb h1 h2 h3
    generalize upd H1 L (.lst (lfV S ++ [optV (p.map (·.1))])) = H2 at *
    -- rights
    refine ⟨_, rfl, x, CN, dx, _, _, rfl, x2, pn.cl, pn.nr, nfs_r A L R, .inl ⟨rfl, _, SqL.of r2⟩, _, rfl, R, _, _, rfl, rfl, r2, by rw [lr]; exact sm, ?_⟩
    have a3 : upd H2 R (.lst (rtV S ++ [optV (p.map (·.2))])) A = some (.lst ((hs ++ [S.n]).map nv)) := by rw [upd_ne n2]; exact a2
    have x3 : upd H2 R (.lst (rtV S ++ [optV (p.map (·.2))])) x = some (.ins CN dx (nfs A L R)) := by rw [upd_ne xR]; exact x2
    have l3 : upd H2 R (.lst (rtV S ++ [optV (p.map (·.2))])) L = some (.lst (lfV (S.new p))) := by rw [upd_ne n3]; exact l2
    have r3 : upd H2 R (.lst (rtV S ++ [optV (p.map (·.2))])) R = some (.lst (rtV (S.new p))) := by rw [upd_same, rtV_new]
    have K3 : Ke A L R H (upd H2 R (.lst (rtV S ++ [optV (p.map (·.2))]))) := fun b o hb h1 h2 h3 => by rw [upd_ne h3]; exact K2 b o hb h1 h2 h3
    generalize upd H2 R (.lst (rtV S ++ [optV (p.map (·.2))])) = H3 at *
    refine ⟨_, rfl, x, CN, dx, _, _, rfl, x3, pn.cl, pn.nh, nfs_h A L R, _, _, rfl, .inl (SqL.of a3), _, _, rfl, rfl, ?_⟩
    have e : (((hs ++ [S.n]).map nv).length : Int) - 1 = (S.n : Nat) := by
      rw [List.length_map, List.length_append, hd.len]
      simp
    dsimp only
    rw [e]
    exact k H3 ⟨⟨dx, x3⟩, ⟨_, a3, hd.new ok p⟩, l3, r3, ok.new hp, by show S.n + 1 ≤ 100000; omega, n1, n2, n3⟩ K3
/-- a new letter -/
def spLetter (C : Addr) : Sp := fun vs H Q _ => ∃ (x A L R : Addr) (S : Sys), vs = [.ref x] ∧ NdAt C x A L R S H ∧ S.n < 100000 ∧
  ∀ H', NdAt C x A L R (S.new none) H' → Ke A L R H H' → Q (.int (S.n : Nat)) H'
abbrev s_nletter : Stmt := (inClass (top 18) 1)
theorem sc_nletter : FnScope ["self"] ["self"] (defScope s_nletter) := ⟨rfl, rfl, rfl, by decide +kernel, rfl, by decide +kernel, by decide +kernel⟩
theorem c_nletter {CN f : Addr} {fd : FuncData} (pn : PN K mg CN) (F : Fun K "letter" "Nodes.letter" s_nletter f fd) (Mpair : Mth P w K mg base CN "pair" 1 ["self", "left", "right"] (spPair CN)) : FnOk P w K mg base CX0 2 f fd ["self"] (spLetter CN) := by
  refine F.ok sc_nletter (fun vs H Q E h => ?_) (fun cdv A outer st0 H vs Q E hr h => ?_)
  · obtain ⟨x, A, L, R, S, rfl, _⟩ := h
    rfl
  · obtain ⟨x, A, L, R, S, rfl, N0, hn, k⟩ := h
    refine ⟨_, (pss_one (ps_ret (pe_m1 Mpair pn.cl (hr.mono (by decide)) (pv 0) (pa_cons pe_non (pa_cons pe_non pa_nil))))), ?_⟩
    obtain ⟨dx, hx⟩ := id N0.ins
    exact ⟨_, rfl, x, dx, _, rfl, hx, nfs_no A L R (by decide +kernel) (by decide +kernel) (by decide +kernel), x, A, L, R, S, none, rfl, N0, hn, (fun l r e => by cases e), k⟩
theorem whU : ∀ {l : List Nat} {c c' : Nat}, Wh c l → Wh c' l → c = c'
  | [], _, _, h, h' => by cases h; cases h'; rfl
  | n :: l, _, _, h, h' => by
    cases h with
    | @cons c _ _ h =>
    cases h' with
    | @cons c' _ _ h' =>
    have := whU h h'
    omega
theorem ks_inj : ∀ (a b : KT) (r r' : List KW), a.ks ++ r = b.ks ++ r' → a = b ∧ r = r'
  | .lt n, .lt m, r, r', h => by
    have h1 := (List.cons.inj h).1
    have h2 := (List.cons.inj h).2
    cases h1
    exact ⟨rfl, h2⟩
  | .lt n, .to _ _, r, r', h => by have h1 := (List.cons.inj h).1; cases h1
  | .to _ _, .lt n, r, r', h => by have h1 := (List.cons.inj h).1; cases h1
  | .to a b, .to c d, r, r', h => by
    have h2 : (a.ks ++ b.ks) ++ r = (c.ks ++ d.ks) ++ r' := (List.cons.inj h).2
    rw [List.append_assoc, List.append_assoc] at h2
    obtain ⟨e1, h3⟩ := ks_inj a c _ _ h2
    obtain ⟨e2, h4⟩ := ks_inj b d _ _ h3
    exact ⟨by rw [e1, e2], h4⟩
theorem ksL_one {ts : List KT} {t : KT} (h : ksL ts = t.ks) : ts = [t] := by
  have w1 := forest_wh ts
  have w2 := tree_wh t 0 [] .nil
  rw [List.append_nil, ← h] at w2
  have := whU w1 w2
  match ts, this with
  | [u], _ =>
    have h2 : u.ks ++ [] = t.ks ++ [] := by rw [List.append_nil, List.append_nil]; simpa [ksL] using h
    rw [(ks_inj u t _ _ h2).1]
/-- in front of an arrow two kinds are ready -/
theorem two_ready {t : KT} {ts : List KT} {j : Nat} (h : t.ks.drop j = .to :: ksL ts) : ∃ a b r, ts = a :: b :: r := by
  have w2 := tree_wh t 0 [] .nil
  rw [List.append_nil] at w2
  have hj : j ≤ t.ks.length := by
    have := congrArg List.length h
    rw [List.length_drop] at this
    simp at this
    omega
  obtain ⟨c, w3⟩ := wh_drop (c := 0) w2 j hj
  rw [h] at w3
  cases w3 with
  | @cons c n ns w4 =>
    have w4 : Wh (c + 2) ((ksL ts).map sidesK) := w4
    have := whU w4 (forest_wh ts)
    match ts, this with
    | a :: b :: r, _ => exact ⟨a, b, r, rfl⟩
    | [_], e => simp at e
    | [], e => simp at e
theorem ke_wr {a b c l : Addr} {H H' : Hp} {ys : List V} (k : Ke a b c H H') (hl : H l = none) : Ke a b c H (upd H' l (.lst ys)) := fun x o hx h1 h2 h3 => by
  rw [upd_ne (ne_of_none hx hl)]
  exact k x o hx h1 h2 h3
/-- the letters that were met: the knots that stand for them -/
structure LtD (kvs : List (Key × V)) (lam : Nat → Nat) (dom : List Nat) : Prop where
  get : ∀ n : Nat, valV kvs (.inl (n : Int)) = if n ∈ dom then some (nv (lam n)) else none
  len : kvs.length = dom.length
theorem LtD.start (lam : Nat → Nat) : LtD [] lam [] := ⟨fun n => by simp [valV], rfl⟩
theorem LtD.put {kvs : List (Key × V)} {lam : Nat → Nat} {dom : List Nat} (h : LtD kvs lam dom) {x m : Nat} (hx : x ∉ dom) : LtD (putK kvs (.inl (x : Int)) (nv m)) (fun y => if y = x then m else lam y) (dom ++ [x]) := by
  have e : valV kvs (.inl (x : Int)) = none := by rw [h.get, if_neg hx]
  refine ⟨fun n => ?_, ?_⟩
  · rw [valV_put]
    by_cases q : n = x
    · subst q
      rw [if_pos rfl, if_pos (by simp), if_pos rfl]
    · have : ¬ (Sum.inl ((n : Nat) : Int) : Key) = Sum.inl ((x : Nat) : Int) := fun z => q (by have := Sum.inl.inj z; omega)
      rw [if_neg this, h.get, if_neg q]
      by_cases z : n ∈ dom
      · rw [if_pos z, if_pos (by simp [z])]
      · rw [if_neg z, if_neg (by simp [z, q])]
  · rw [putK_new e, List.length_append, List.length_append, h.len]; rfl
def spTake (C CK : Addr) : Sp := fun vs H Q _ => ∃ (x A L R y a : Addr) (S : Sys) (t : KT), vs = [.ref x, .ref y] ∧ NdAt C x A L R S H ∧ Cong S [] ∧ Kd CK H y a ∧ TupF H a (t.ks.map kv) ∧ S.n + t.ks.length ≤ 100000 ∧
  ∀ H' S' lam dom i, NdAt C x A L R S' H' → Ke A L R H H' → TK S S' lam dom [i] [t] → S'.n ≤ S.n + t.ks.length → Q (.int (i : Nat)) H'
abbrev s_ntake : Stmt := (inClass (top 18) 3)
theorem sc_ntake : FnScope ["self", "kind", "letters", "ready", "word", "left"] ["self", "kind"] (defScope s_ntake) := ⟨rfl, rfl, rfl, by decide +kernel, rfl, by decide +kernel, by decide +kernel⟩
theorem c_ntake {CN CK f : Addr} {fd : FuncData} (B : Bt mg) (pn : PN K mg CN) (pk : PK K mg CK) (F : Fun K "take_in" "Nodes.take_in" s_ntake f fd) (Mpair : Mth P w K mg base CN "pair" 1 ["self", "left", "right"] (spPair CN)) (Mletter : Mth P w K mg base CN "letter" 2 ["self"] (spLetter CN)) :
    FnOk P w K mg base CX0 3 f fd ["self", "kind"] (spTake CN CK) := by
  refine F.ok sc_ntake (fun vs H Q E h => ?_) (fun cdv A outer st0 H vs Q E hr h => ?_)
  · obtain ⟨x, A, L, R, y, a, S, t, rfl, _⟩ := h
    rfl
  · obtain ⟨x, A, L, R, y, a, S, t, rfl, N0, cg, ⟨dy, hy⟩, T0, hn, k⟩ := h
    refine ⟨_, (pss_cons (ps_set (i := 2) sc_ntake.nd rfl (by first | exact Or.inl rfl | exact Or.inr rfl) pe_dnewK)
      (pss_cons (ps_set (i := 3) sc_ntake.nd rfl (by first | exact Or.inl rfl | exact Or.inr rfl) (pe_lst pa_nil))
      (pss_cons (ps_for PassesOwn.never rfl (RT.pi_revA (by rfl) B.b_reversed (pe_fld (pv 1) rfl)) (pg_name (i := 4) sc_ntake.nd rfl (by first | exact Or.inl rfl | exact Or.inr rfl)) (pss_one (ps_if (pt_cmpR op_eq (pv 4) (pe_gs B.m_INTO) (nomark _)) (pss_cons (ps_set (i := 5) sc_ntake.nd rfl (by first | exact Or.inl rfl | exact Or.inr rfl) (pe_bm0 PySem.F.plainAttrs_list PySem.F.slot_list_pop PySem.F.type_list_pop mt_pop (pv 3)))
      (pss_one (ps_expr (pe_bm PySem.F.plainAttrs_list PySem.F.slot_list_append PySem.F.type_list_append mt_append (pv 3) (pa_cons (pe_m1 Mpair pn.cl (hr.mono (by decide)) (pv 0) (pa_cons (pv 5) (pa_cons (pe_bm0 PySem.F.plainAttrs_list PySem.F.slot_list_pop PySem.F.type_list_pop mt_pop (pv 3)) pa_nil))) pa_nil))))) (pss_cons (ps_if (pt_cmp (pc_dnotin (hu_of hr) (pv 4) (pv 2))) (pss_one (ps_dput (hu_of hr) (pv 2) (pv 4) (pe_m0 Mletter pn.cl (hr.mono (by decide)) (pv 0)) rfl)) pss_nil)
      (pss_one (ps_expr (pe_bm PySem.F.plainAttrs_list PySem.F.slot_list_append PySem.F.type_list_append mt_append (pv 3) (pa_cons (pe_dget (hu_of hr) (pv 2) (pv 4) (fun _ _ => rfl)) pa_nil))))))))
      (pss_one (ps_ret (pe_ix ix_list (pv 3) pe_int (fun _ _ => rfl))))))), ?_⟩
    have lus : (t.ks.map kv).length = t.ks.length := List.length_map ..
    obtain ⟨dx, hx⟩ := id N0.ins
    refine fun D nD => ?_
    have S1 := same_upd (o := HO.dK []) nD
    have D1 : upd H D (.dK []) D = some (.dK []) := upd_same
    have N1 := N0.same S1
    generalize upd H D (.dK []) = H1 at *
    refine ⟨Nat.zero_le _, fun Rd nR => ?_⟩
    have S2 := same_upd (o := HO.lst []) nR
    have R2 : upd H1 Rd (.lst []) Rd = some (.lst []) := upd_same
    have D2 := S2 _ _ D1
    have N2 := N1.same S2
    have S12 := S1.trans S2
    have nRH : H Rd = none := S1.free nR
    have DR : D ≠ Rd := ne_of_none D1 nR
    generalize upd H1 Rd (.lst []) = H2 at *
    obtain ⟨_, ⟨hs0, ha0, _⟩, hl0, hR0, _⟩ := id N0
    have RA : Rd ≠ A := (ne_of_none ha0 nRH).symm
    have RL : Rd ≠ L := (ne_of_none hl0 nRH).symm
    have RR : Rd ≠ R := (ne_of_none hR0 nRH).symm
    have DA : D ≠ A := (ne_of_none ha0 nD).symm
    have DL : D ≠ L := (ne_of_none hl0 nD).symm
    have DRr : D ≠ R := (ne_of_none hR0 nD).symm
    refine ⟨_, rfl, y, CK, dy, _, _, rfl, S12 _ _ hy, pk.cl, pk.nw, kfs_get a, a, t.ks.map kv, rfl, .inr ⟨(T0.same S12).sq, RT.for_ItvT (K := K) (a := a) (xs := t.ks.map kv) (fun i σ H' => ∃ (S' : Sys) (lam : Nat → Nat) (dom rd : List Nat) (ts : List KT) (kvs : List (Key × V)) (v4 v5 : Option V), σ = [some (.ref x), some (.ref y), some (.ref D), some (.ref Rd), v4, v5] ∧ TK S S' lam dom rd ts ∧ ksL ts = t.ks.drop (t.ks.length - i) ∧ H' D = some (.dK kvs) ∧ LtD kvs lam dom ∧ H' Rd = some (.lst (rd.reverse.map nv)) ∧ NdAt CN x A L R S' H' ∧ S'.n ≤ S.n + i ∧ dom.length ≤ i ∧ Ke A L R H H' ∧ TupF H' a (t.ks.map kv))
      ⟨S, id, [], [], [], [], none, none, rfl, TK.start N0.ok cg id, by rw [Nat.sub_zero, List.drop_length]; rfl, D2, LtD.start id, R2, N2, Nat.le_refl _, Nat.le_refl _, Same.ke S12, T0.same S12⟩ (fun i σ H' ⟨_, _, _, _, _, _, _, _, _, _, _, _, _, _, _, _, _, _, h⟩ => h.sq) ?_ ?_⟩⟩
    · rintro i z σ H3 hi hz ⟨S', lam, dom, rd, ts, kvs, v4, v5, rfl, tk, ek, D3, ld, R3, N3, ln, ldm, K3, T3⟩
      rw [lus] at hi hz
      obtain ⟨u, hu, rfl⟩ := map_get hz
      have hd0 := head_drop hu
      rw [show t.ks.length - 1 - i + 1 = t.ks.length - i by omega, ← ek] at hd0
      have lrd : rd.length ≤ t.ks.length := by
        rw [tk.len]
        have h1 : ts.length ≤ (ksL ts).length := by
          clear ek hd0 tk
          induction ts with
          | nil => exact Nat.le_refl _
          | cons t ts ih =>
            have := t.pos
            rw [ksL_cons, List.length_append, List.length_cons]
            omega
        rw [ek, List.length_drop] at h1
        omega
      have sml : ∀ n : Nat, n ≤ 100000 → n < sizeLine := fun n h => small_lt (m := 1000000) (by omega) (by decide)
      have hl3 : (rd.reverse.map nv).length = rd.length := by rw [List.length_map, List.length_reverse]
      cases u with
      | to =>
        refine ⟨_, rfl, rfl, _, rfl, ifY rfl ?_⟩
        obtain ⟨ta, tb, tr, rfl⟩ := two_ready hd0
        have l2 := tk.len
        obtain ⟨l, r, rd, rfl⟩ : ∃ l r rd', rd = l :: r :: rd' := by
          match rd, l2 with
          | l :: r :: rd, _ => exact ⟨l, r, rd, rfl⟩
          | [_], e => simp at e
          | [], e => simp at e
        have e3 : ((l :: r :: rd).reverse.map nv) = (rd.reverse.map nv ++ [nv r]) ++ [nv l] := by simp
        rw [e3] at R3
        have hln := tk.rl l (by simp)
        have hrn := tk.rl r (by simp)
        refine ⟨_, rfl, .inl ⟨rfl, _, SqL.of R3⟩, Rd, _, nv l, rfl, rfl, R3, by simp, ?_⟩
        rw [List.dropLast_concat]
        have R4 : upd H3 Rd (.lst (rd.reverse.map nv ++ [nv r])) Rd = some (.lst (rd.reverse.map nv ++ [nv r])) := upd_same
        have D4 : upd H3 Rd (.lst (rd.reverse.map nv ++ [nv r])) D = some (.dK kvs) := by rw [upd_ne DR]; exact D3
        have N4 : NdAt CN x A L R S' (upd H3 Rd (.lst (rd.reverse.map nv ++ [nv r]))) := N3.wr R3 RA RL RR
        have K4 : Ke A L R H (upd H3 Rd (.lst (rd.reverse.map nv ++ [nv r]))) := ke_wr K3 nRH
        have T4 : TupF (upd H3 Rd (.lst (rd.reverse.map nv ++ [nv r]))) a (t.ks.map kv) := T3.wrL R3
        generalize upd H3 Rd (.lst (rd.reverse.map nv ++ [nv r])) = H4 at *
        obtain ⟨dx4, hx4⟩ := id N4.ins
        refine ⟨_, rfl, .inl ⟨rfl, _, SqL.of R4⟩, _, rfl, x, dx4, _, rfl, hx4, nfs_no A L R (by decide +kernel) (by decide +kernel) (by decide +kernel), _, rfl, _, rfl, .inl ⟨rfl, _, SqL.of R4⟩, Rd, _, nv r, rfl, rfl, R4, by simp, ?_⟩
        have R5 : upd H4 Rd (.lst (rd.reverse.map nv)) Rd = some (.lst (rd.reverse.map nv)) := upd_same
        rw [List.dropLast_concat]
        have D5 : upd H4 Rd (.lst (rd.reverse.map nv)) D = some (.dK kvs) := by rw [upd_ne DR]; exact D4
        have N5 : NdAt CN x A L R S' (upd H4 Rd (.lst (rd.reverse.map nv))) := N4.wr R4 RA RL RR
        have K5 : Ke A L R H (upd H4 Rd (.lst (rd.reverse.map nv))) := ke_wr K4 nRH
        have T5 : TupF (upd H4 Rd (.lst (rd.reverse.map nv))) a (t.ks.map kv) := T4.wrL R4
        generalize upd H4 Rd (.lst (rd.reverse.map nv)) = H5 at *
        refine ⟨x, A, L, R, S', some (l, r), rfl, N5, by omega, fun l' r' e => (by cases e; exact ⟨hln, hrn⟩), fun H6 N6 K6 => ?_⟩
        have R6 := K6 _ _ R5 RA RL RR
        have D6 := K6 _ _ D5 DA DL DRr
        have T6 := T5.ke K6 (T5.ne_lst (N5.a.choose_spec.1)) (T5.ne_lst N5.l) (T5.ne_lst N5.r)
        refine ⟨Rd, _, _, rfl, rfl, R6, by rw [List.length_map, List.length_reverse]; exact sml _ (by simp at lrd; omega), ?_⟩
        refine ⟨_, lam, dom, _, _, kvs, _, _, rfl, tk.pair, ?_, by rw [upd_ne DR]; exact D6, ld, ?_, N6.wr R6 RA RL RR, by show S'.n + 1 ≤ S.n + (i + 1); omega, by omega, ke_wr (K5.trans K6) nRH, T6.wrL R6⟩
        · rw [show t.ks.length - (i + 1) = t.ks.length - 1 - i by omega, hd0]
          show KW.to :: (ta.ks ++ tb.ks) ++ ksL tr = _
          rw [ksL_cons, ksL_cons]; simp
        · rw [upd_same]; simp; rfl
      | lt m =>
        refine ⟨_, rfl, rfl, _, rfl, ifN (fun e => nomatch e) ?_⟩
        have lk := ld.len
        have sk : kvs.length < sizeLine := sml _ (by omega)
        have fin : ∀ (lam' : Nat → Nat) (dom' : List Nat) (kvs' : List (Key × V)) (S1 : Sys) (H6 : Hp), TK S S1 lam' dom' (lam' m :: rd) (.lt m :: ts) → H6 D = some (.dK kvs') → LtD kvs' lam' dom' → m ∈ dom' → H6 Rd = some (.lst (rd.reverse.map nv)) → NdAt CN x A L R S1 H6 → S1.n ≤ S.n + (i + 1) → dom'.length ≤ i + 1 → Ke A L R H H6 → TupF H6 a (t.ks.map kv) →
            tDrop (tBM K "list" rAppend (tVar 3) (tCons (tDGet (tVar 2) (tVar 4)) tNil)) { nx := fun σ H' => ∃ (S' : Sys) (lam : Nat → Nat) (dom rd : List Nat) (ts : List KT) (kvs : List (Key × V)) (v4 v5 : Option V), σ = [some (.ref x), some (.ref y), some (.ref D), some (.ref Rd), v4, v5] ∧ TK S S' lam dom rd ts ∧ ksL ts = t.ks.drop (t.ks.length - (i + 1)) ∧ H' D = some (.dK kvs) ∧ LtD kvs lam dom ∧ H' Rd = some (.lst (rd.reverse.map nv)) ∧ NdAt CN x A L R S' H' ∧ S'.n ≤ S.n + (i + 1) ∧ dom.length ≤ i + 1 ∧ Ke A L R H H' ∧ TupF H' a (t.ks.map kv), rt := Q } [some (.ref x), some (.ref y), some (.ref D), some (.ref Rd), some (.int (m : Nat)), v5] H6 := by
          intro lam' dom' kvs' S1 H6 tk1 D6 ld1 hm R6 N6 ln1 ldm1 K6 T6
          have dg : DGet H6 D (nv m) (some (nv (lam' m))) := by
            have := DGet.k (k := Sum.inl (m : Int)) D6
            rw [ld1.get, if_pos hm] at this
            exact this
          refine ⟨_, rfl, .inl ⟨rfl, _, SqL.of R6⟩, _, rfl, _, rfl, D, _, rfl, dg, Rd, _, _, rfl, rfl, R6, by rw [List.length_map, List.length_reverse]; exact sml _ (by omega), ?_⟩
          refine ⟨S1, lam', dom', _, _, kvs', _, _, rfl, tk1, ?_, by rw [upd_ne DR]; exact D6, ld1, by rw [upd_same]; simp, N6.wr R6 RA RL RR, ln1, ldm1, ke_wr K6 nRH, T6.wrL R6⟩
          rw [show t.ks.length - (i + 1) = t.ks.length - 1 - i by omega, hd0]; rfl
        have dm : (valV kvs (Sum.inl (m : Int))).isSome = decide (m ∈ dom) := by
          rw [ld.get]
          by_cases e : m ∈ dom
          · rw [if_pos e, decide_eq_true e]; rfl
          · rw [if_neg e, decide_eq_false e]; rfl
        refine ⟨_, rfl, _, rfl, D, _, rfl, DGet.k (k := Sum.inl (m : Int)) D3, ?_⟩
        rw [dm]
        by_cases e : m ∈ dom
        · rw [decide_eq_true e]
          exact ⟨_, rfl, iteF (fin lam dom kvs S' H3 (tk.know e) D3 ld e R3 N3 (by omega) (by omega) K3 T3)⟩
        · rw [decide_eq_false e]
          refine ⟨_, rfl, iteT ?_⟩
          obtain ⟨dx3, hx3⟩ := id N3.ins
          refine ⟨_, rfl, x, dx3, _, rfl, hx3, nfs_no A L R (by decide +kernel) (by decide +kernel) (by decide +kernel), x, A, L, R, S', rfl, N3, by omega, fun H4 N4 K4 => ?_⟩
          have R4 := K4 _ _ R3 RA RL RR
          have D4 := K4 _ _ D3 DA DL DRr
          have T4 := T3.ke K4 (T3.ne_lst (N3.a.choose_spec.1)) (T3.ne_lst N3.l) (T3.ne_lst N3.r)
          refine ⟨_, rfl, _, rfl, D, _, rfl, DPut.k (k := Sum.inl (m : Int)) D4 sk, ?_⟩
          have tk' : TK S (S'.new none) (fun y => if y = m then S'.n else lam y) (dom ++ [m]) ((if m = m then S'.n else lam m) :: rd) (.lt m :: ts) := by rw [if_pos rfl]; exact tk.letter e
          refine fin _ _ _ _ _ tk' upd_same (ld.put e) (by simp) (by rw [upd_ne DR.symm]; exact R4) (N4.wrD D4) (by show S'.n + 1 ≤ _; omega) (by simp; omega) ?_ ?_
          · intro b o hb h1 h2 h3
            rw [upd_ne (ne_of_none hb nD)]
            exact K4 _ _ (K3 b o hb h1 h2 h3) h1 h2 h3
          · obtain ⟨oT, hT, dT⟩ := T4
            exact ⟨oT, by rw [upd_ne (fun q => by rw [q, D4] at hT; cases hT)]; exact hT, dT⟩
    · rintro σ H3 ⟨S', lam, dom, rd, ts, kvs, v4, v5, rfl, tk, ek, D3, ld, R3, N3, ln, ldm, K3, T3⟩
      rw [lus, Nat.sub_self, List.drop_zero] at ek
      have := ksL_one ek
      subst this
      obtain ⟨i, rfl⟩ : ∃ i, rd = [i] := by
        have := tk.len
        match rd, this with
        | [i], _ => exact ⟨i, rfl⟩
      refine ⟨_, rfl, Rd, _, _, _, rfl, rfl, SqL.of R3, at_of (j := 0) rfl rfl, ?_⟩
      rw [lus] at ln
      exact k H3 S' lam dom i N3 K3 tk ln
end
end Kk

set_option maxHeartbeats 4000000
/-! knots: made the same, their parts -/
namespace Kk
open PySem PySem.Spec PyProof.Rows L2 Wd
/-- a list of pairs of knots, the last one on top -/
structure WqAt (H : Hp) (q : Addr) (ws : List (Addr × Nat × Nat)) : Prop where
  l : H q = some (.lst (ws.reverse.map fun p => V.ref p.1))
  t : ∀ p ∈ ws, H p.1 = some (.tup [nv p.2.1, nv p.2.2])
theorem WqAt.ke {A L R q : Addr} {H H' : Hp} {ws : List (Addr × Nat × Nat)} (h : WqAt H q ws) (k : Ke A L R H H') (n1 : q ≠ A) (n2 : q ≠ L) (n3 : q ≠ R) (a : ∃ xs, H A = some (.lst xs)) (l : ∃ xs, H L = some (.lst xs)) (r : ∃ xs, H R = some (.lst xs)) : WqAt H' q ws := by
  refine ⟨k _ _ h.l n1 n2 n3, fun p hp => ?_⟩
  have e := h.t p hp
  have ne : ∀ {b : Addr}, (∃ xs, H b = some (.lst xs)) → p.1 ≠ b := fun ⟨xs, hb⟩ z => by rw [z, hb] at e; cases e
  exact k _ _ e (ne a) (ne l) (ne r)
theorem WqAt.pop {H : Hp} {q : Addr} {p : Addr × Nat × Nat} {ws : List (Addr × Nat × Nat)} (h : WqAt H q (p :: ws)) : WqAt (upd H q (.lst (ws.reverse.map fun p => V.ref p.1))) q ws := by
  refine ⟨upd_same, fun p' hp => ?_⟩
  have e := h.t p' (by simp [hp])
  rw [upd_ne fun z => by rw [z, h.l] at e; cases e]
  exact e
theorem WqAt.push {H : Hp} {q t : Addr} {c d : Nat} {ws : List (Addr × Nat × Nat)} (h : WqAt H q ws) (e : H t = some (.tup [nv c, nv d])) : WqAt (upd H q (.lst ((ws.reverse.map fun p => V.ref p.1) ++ [V.ref t]))) q ((t, c, d) :: ws) := by
  refine ⟨by rw [upd_same, List.reverse_cons, List.map_append]; rfl, fun p' hp => ?_⟩
  have e : H p'.1 = some (.tup [nv p'.2.1, nv p'.2.2]) := by
    rcases List.mem_cons.mp hp with z | z
    · rw [z]; exact e
    · exact h.t p' z
  rw [upd_ne fun z => by rw [z, h.l] at e; cases e]
  exact e
theorem WqAt.same {H H' : Hp} {q : Addr} {ws : List (Addr × Nat × Nat)} (h : WqAt H q ws) (k : Same H H') : WqAt H' q ws := ⟨k _ _ h.l, fun p hp => k _ _ (h.t p hp)⟩
section
variable {P : Program} {w : World} {K : PySem.W.Frag} {mg : Str → Option Value} {base : Heap}
def spUnite (C : Addr) : Sp := fun vs H Q _ => ∃ (x A L R : Addr) (S : Sys) (a b : Nat), vs = [.ref x, .int (a : Nat), .int (b : Nat)] ∧ NdAt C x A L R S H ∧ Cong S [] ∧ a < S.n ∧ b < S.n ∧
  ∀ H' F, NdAt C x A L R F H' → Ke A L R H H' → Made S F a b → Q .non H'
abbrev s_nunite : Stmt := (inClass (top 18) 5)
theorem sc_nunite : FnScope ["self", "node", "other", "waiting", "one", "two"] ["self", "node", "other"] (defScope s_nunite) := ⟨rfl, rfl, rfl, by decide +kernel, rfl, by decide +kernel, by decide +kernel⟩
theorem c_nunite {CN f : Addr} {fd : FuncData} (pn : PN K mg CN) (F : Fun K "unite" "Nodes.unite" s_nunite f fd) (Mhead : Mth P w K mg base CN "head" 1 ["self", "node"] (spHead CN)) : FnOk P w K mg base CX0 2 f fd ["self", "node", "other"] (spUnite CN) := by
  refine F.ok sc_nunite (fun vs H Q E h => ?_) (fun cdv A outer st0 H vs Q E hr h => ?_)
  · obtain ⟨x, A, L, R, S, a, b, rfl, _⟩ := h
    rfl
  · obtain ⟨x, A, L, R, S, a, b, rfl, N0, cg, ha, hb, k⟩ := h
    refine ⟨_, (pss_cons (ps_set (i := 3) sc_nunite.nd rfl (by first | exact Or.inl rfl | exact Or.inr rfl) (pe_lst (pa_cons (pe_tup (pa_cons (pv 1) (pa_cons (pv 2) pa_nil))) pa_nil)))
      (pss_one (ps_while PassesOwn.never (pt_truth (pv 3) (by intro _; rfl)) (pss_cons (ps_asg (pe_bm0 PySem.F.plainAttrs_list PySem.F.slot_list_pop PySem.F.type_list_pop mt_pop (pv 3)) (pg_tup (by rfl) (pgs_cons (pg_name (i := 4) sc_nunite.nd rfl (by first | exact Or.inl rfl | exact Or.inr rfl)) (pgs_cons (pg_name (i := 5) sc_nunite.nd rfl (by first | exact Or.inl rfl | exact Or.inr rfl)) pgs_nil))))
      (pss_cons (ps_par (i := 4) (j := 5) rfl sc_nunite.nd rfl rfl (by decide) rfl rfl (pa_cons (pe_m1 Mhead pn.cl (hr.mono (by decide)) (pv 0) (pa_cons (pv 4) pa_nil)) (pa_cons (pe_m1 Mhead pn.cl (hr.mono (by decide)) (pv 0) (pa_cons (pv 5) pa_nil)) pa_nil)) rfl)
      (C8.pss_cut (ps_if (pt_cmpR op_eq (pv 4) (pv 5) (nomark _)) (pss_one ps_continue) pss_nil)
      (C8.pss_cut (ps_if (pt_cmpR op_isN (pe_ix ix_list (pe_fld (pv 0) rfl) (pv 4) (fun _ _ => rfl)) pe_non (nomark _)) (pss_one (ps_par (i := 4) (j := 5) rfl sc_nunite.nd rfl rfl (by decide) rfl rfl (pa_cons (pv 5) (pa_cons (pv 4) pa_nil)) rfl)) pss_nil)
      (C8.pss_cut (ps_if (pt_cmpR op_notN (pe_ix ix_list (pe_fld (pv 0) rfl) (pv 5) (fun _ _ => rfl)) pe_non (nomark _)) (pss_cons (ps_expr (pe_bm PySem.F.plainAttrs_list PySem.F.slot_list_append PySem.F.type_list_append mt_append (pv 3) (pa_cons (pe_tup (pa_cons (pe_ix ix_list (pe_fld (pv 0) rfl) (pv 4) (fun _ _ => rfl)) (pa_cons (pe_ix ix_list (pe_fld (pv 0) rfl) (pv 5) (fun _ _ => rfl)) pa_nil))) pa_nil)))
      (pss_one (ps_expr (pe_bm PySem.F.plainAttrs_list PySem.F.slot_list_append PySem.F.type_list_append mt_append (pv 3) (pa_cons (pe_tup (pa_cons (pe_ix ix_list (pe_fld (pv 0) rfl) (pv 4) (fun _ _ => rfl)) (pa_cons (pe_ix ix_list (pe_fld (pv 0) rfl) (pv 5) (fun _ _ => rfl)) pa_nil))) pa_nil))))) pss_nil)
      (pss_one (ps_asg (pv 4) (pg_sub (pe_fld (pv 0) rfl) (pv 5) set_list))))))))))), ?_⟩
    obtain ⟨⟨dx, hx⟩, ⟨hs0, ha0, hd0⟩, hl0, hR0, ok0, le0, n1, n2, n3⟩ := id N0
    obtain ⟨xA, xL, xR⟩ := N0.xne
    refine ⟨_, rfl, _, rfl, (by show 2 ≤ sizeLine; decide), fun t nt => ⟨(by show 1 ≤ sizeLine; decide), fun Wq nW => ?_⟩⟩
    have S1 := same_upd (o := HO.tup [V.int (a : Nat), V.int (b : Nat)]) nt
    have t1 : upd H t (.tup [V.int (a : Nat), V.int (b : Nat)]) t = some (.tup [V.int (a : Nat), V.int (b : Nat)]) := upd_same
    have N1 := N0.same S1
    generalize upd H t (.tup [V.int (a : Nat), V.int (b : Nat)]) = H1 at *
    have S2 := same_upd (o := HO.lst [V.ref t]) nW
    have W2 : WqAt (upd H1 Wq (.lst [V.ref t])) Wq [(t, a, b)] := ⟨upd_same, fun p hp => by
      have : p = (t, a, b) := by simpa using hp
      rw [this]; exact S2 _ _ t1⟩
    have N2 := N1.same S2
    have nWH : H Wq = none := S1.free nW
    have WA : Wq ≠ A := (ne_of_none ha0 nWH).symm
    have WL : Wq ≠ L := (ne_of_none hl0 nWH).symm
    have WR : Wq ≠ R := (ne_of_none hR0 nWH).symm
    have K2 : Ke A L R H (upd H1 Wq (.lst [V.ref t])) := Same.ke (S1.trans S2)
    generalize upd H1 Wq (.lst [V.ref t]) = H2 at *
    have big : ∀ n : Nat, n ≤ 1000000 → n < sizeLine := fun n h => small_lt (m := 1000000) (by omega) (by decide)
    refine ⟨fun m σ H' => ∃ (F : Sys) (ws : List (Addr × Nat × Nat)) (v4 v5 : Option V), σ = [some (.ref x), some (.int (a : Nat)), some (.int (b : Nat)), some (.ref Wq), v4, v5] ∧ m = 3 * F.roots.length + ws.length ∧ m ≤ 900000 ∧ NdAt CN x A L R F H' ∧ WqAt H' Wq ws ∧ UI S a b F (ws.map Prod.snd) ∧ Ke A L R H H', ⟨_, S, [(t, a, b)], none, none, rfl, rfl, ?_, N2, W2, UI.start cg ha hb, K2⟩, ?_⟩
    · have : S.roots.length ≤ S.n := by
        have := List.length_filter_le (fun i => decide (S.rep i = i)) (List.range S.n)
        simpa [Sys.roots] using this
      simp
      omega
    rintro m σ H3 ⟨F, ws, v4, v5, rfl, em, hm, N3, W3, ui, K3⟩
    refine ⟨_, rfl, _, .inl ⟨_, SqL.of W3.l, rfl⟩, ?_⟩
    cases ws with
    | nil =>
      refine ite2 (fun e => by simp at e) (fun _ => ?_)
      exact k H3 F N3 K3 (ui.done N3.ok)
    | cons p ws =>
    obtain ⟨q, c, d⟩ := p
    refine ite2 (fun _ => ?_) (fun e => absurd (by simp) e)
    refine ⟨fun σ' H' => ∃ (F' : Sys) (ws' : List (Addr × Nat × Nat)) (v4 v5 : Option V), σ' = [some (.ref x), some (.int (a : Nat)), some (.int (b : Nat)), some (.ref Wq), v4, v5] ∧ 3 * F'.roots.length + ws'.length < m ∧ NdAt CN x A L R F' H' ∧ WqAt H' Wq ws' ∧ UI S a b F' (ws'.map Prod.snd) ∧ Ke A L R H H', ?_, ?_⟩
    · rintro σ' H' ⟨F', ws', v4', v5', rfl, lt, h1, h2, h3, h4⟩
      exact ⟨_, lt, F', ws', v4', v5', rfl, rfl, by omega, h1, h2, h3, h4⟩
    have l3 := W3.l
    rw [List.reverse_cons, List.map_append] at l3
    have l3 : H3 Wq = some (.lst ((ws.reverse.map fun p => V.ref p.1) ++ [V.ref q])) := l3
    refine ⟨_, rfl, .inl ⟨rfl, _, SqL.of l3⟩, Wq, _, V.ref q, rfl, rfl, l3, by simp, ?_⟩
    rw [List.dropLast_concat]
    have W4 := W3.pop
    have N4 : NdAt CN x A L R F (upd H3 Wq (.lst (ws.reverse.map fun p => V.ref p.1))) := N3.wr l3 WA WL WR
    have K4 : Ke A L R H (upd H3 Wq (.lst (ws.reverse.map fun p => V.ref p.1))) := ke_wr K3 nWH
    have q4 : upd H3 Wq (.lst (ws.reverse.map fun p => V.ref p.1)) q = some (.tup [nv c, nv d]) := by
      have e := W3.t (q, c, d) (by simp)
      rw [upd_ne fun z => by rw [show (q, c, d).1 = q from rfl, z, l3] at e; cases e]
      exact e
    generalize upd H3 Wq (.lst (ws.reverse.map fun p => V.ref p.1)) = H4 at *
    obtain ⟨hc, hd⟩ := ui.bd (c, d) (by simp)
    have en := ui.n
    refine ⟨q, _, rfl, SqT.of q4, rfl, _, _, rfl, _, _, rfl, rfl, ?_⟩
    obtain ⟨dx4, hx4⟩ := id N4.ins
    refine ⟨_, rfl, x, dx4, _, rfl, hx4, nfs_no A L R (by decide +kernel) (by decide +kernel) (by decide +kernel), _, rfl, x, A, L, R, F, c, rfl, N4, by omega, fun H5 N5 K5 => ?_⟩
    obtain ⟨dx5, hx5⟩ := id N5.ins
    have lsA : ∀ {Hz : Hp} {Fz : Sys}, NdAt CN x A L R Fz Hz → (∃ xs, Hz A = some (.lst xs)) ∧ (∃ xs, Hz L = some (.lst xs)) ∧ ∃ xs, Hz R = some (.lst xs) := fun N => ⟨⟨_, N.a.choose_spec.1⟩, ⟨_, N.l⟩, ⟨_, N.r⟩⟩
    have W5 := W4.ke K5 WA WL WR (lsA N4).1 (lsA N4).2.1 (lsA N4).2.2
    refine ⟨_, rfl, x, dx5, _, rfl, hx5, nfs_no A L R (by decide +kernel) (by decide +kernel) (by decide +kernel), _, rfl, x, A, L, R, F, d, rfl, N5, by omega, fun H6 N6 K6 => ?_⟩
    have W6 := W5.ke K6 WA WL WR (lsA N5).1 (lsA N5).2.1 (lsA N5).2.2
    have K46 := K4.trans (K5.trans K6)
    refine ⟨_, _, rfl, ?_⟩
    rw [← show nv (F.rep c) = V.int ((F.rep c : Nat) : Int) from rfl, ← show nv (F.rep d) = V.int ((F.rep d : Nat) : Int) from rfl]
    show tSeq _ _ _ [some (.ref x), some (.int (a : Nat)), some (.int (b : Nat)), some (.ref Wq), some (nv (F.rep c)), some (nv (F.rep d))] H6
    have okF := N6.ok
    have rc := okF.rl c (by omega)
    have rd := okF.rl d (by omega)
    have rrc := okF.rr c (by omega)
    have rrd := okF.rr d (by omega)
    refine ⟨fun σ H' => σ = [some (.ref x), some (.int (a : Nat)), some (.int (b : Nat)), some (.ref Wq), some (nv (F.rep c)), some (nv (F.rep d))] ∧ H' = H6 ∧ F.rep c ≠ F.rep d, ?_, ?_⟩
    · refine ⟨_, rfl, _, rfl, rfl, _, rfl, ?_⟩
      by_cases e : F.rep c = F.rep d
      · -- already the same
        refine ifY (congrArg nv e) ?_
        exact ⟨F, ws, _, _, rfl, by simp at em; omega, N6, W6, ui.same e, K46⟩
      · exact ifN (fun z => e (by have := V.int.inj z; omega)) ⟨rfl, rfl, e⟩
    rintro σ H6 ⟨rfl, rfl, e⟩
    -- the tail: y follows x'
    have tail : ∀ (x' y' : Nat) (ws' : List (Addr × Nat × Nat)) (H7 : Hp), ((x' = F.rep c ∧ y' = F.rep d) ∨ (x' = F.rep d ∧ y' = F.rep c)) → (F.prs y' ≠ none → F.prs x' ≠ none) → Push F x' y' (ws.map Prod.snd) (ws'.map Prod.snd) → (∀ p ∈ ws'.map Prod.snd, p.1 < S.n ∧ p.2 < S.n) → ws'.length ≤ ws.length + 2 → NdAt CN x A L R F H7 → WqAt H7 Wq ws' → Ke A L R H H7 →
        ∃ H8, (∃ dx', H7 x = some (.ins CN dx' (nfs A L R))) ∧ (∃ xs, H7 A = some (.lst xs) ∧ y' < xs.length ∧ H8 = upd H7 A (.lst (xs.set y' (nv x')))) ∧ ∃ (F' : Sys) (ws' : List (Addr × Nat × Nat)), 3 * F'.roots.length + ws'.length < m ∧ NdAt CN x A L R F' H8 ∧ WqAt H8 Wq ws' ∧ UI S a b F' (ws'.map Prod.snd) ∧ Ke A L R H H8 := by
      intro x' y' ws' H7 xy hp Pu bd hl N7 W7 K7
      have q : x' < F.n ∧ y' < F.n ∧ F.rep x' = x' ∧ F.rep y' = y' ∧ x' ≠ y' := by
        rcases xy with ⟨e1, e2⟩ | ⟨e1, e2⟩ <;> subst e1 <;> subst e2
        · exact ⟨rc, rd, rrc, rrd, e⟩
        · exact ⟨rd, rc, rrd, rrc, fun z => e z.symm⟩
      obtain ⟨x1, y1, rx, ry, ne⟩ := q
      have rl := roots_link okF x1 y1 rx ry ne
      obtain ⟨⟨dx7, hx7⟩, ⟨hs7, ha7, hd7⟩, hl7, hR7, _, le7, _⟩ := id N7
      have ey : y' < (hs7.map nv).length := by rw [List.length_map, hd7.len]; exact y1
      have a8 : upd H7 A (.lst ((hs7.map nv).set y' (nv x'))) A = some (.lst ((hs7.set y' x').map nv)) := by rw [upd_same, List.map_set]
      have ui' := ui.link okF xy Pu bd
      have ne' : ∀ {b' : Addr} {o : HO}, H7 b' = some o → b' ≠ A → upd H7 A (.lst ((hs7.map nv).set y' (nv x'))) b' = some o := fun hb hn => by rw [upd_ne hn]; exact hb
      refine ⟨_, ⟨dx7, hx7⟩, ⟨_, ha7, ey, rfl⟩, F.link x' y', ws', by simp at em; omega, ⟨⟨dx7, ne' hx7 xA⟩, ⟨_, a8, hd7.link okF x1 y1 rx ry ne⟩, ne' hl7 n1.symm, ne' hR7 n2.symm, okF.link x1 rx ne hp, le7, n1, n2, n3⟩, ⟨ne' W7.l WA, fun p hp' => ?_⟩, ui', fun b' o hb' h1 h2 h3 => ne' (K7 b' o hb' h1 h2 h3) h1⟩
      have := W7.t p hp'
      exact ne' this (fun z => by rw [z, ha7] at this; cases this)
    -- the other way around where the first is a letter
    refine ⟨fun σ H' => ∃ X Y : Nat, σ = [some (.ref x), some (.int (a : Nat)), some (.int (b : Nat)), some (.ref Wq), some (nv X), some (nv Y)] ∧ H' = H6 ∧ ((X = F.rep c ∧ Y = F.rep d) ∨ (X = F.rep d ∧ Y = F.rep c)) ∧ (F.prs Y ≠ none → F.prs X ≠ none), ?_, ?_⟩
    · obtain ⟨dx6, hx6⟩ := id N6.ins
      refine ⟨_, rfl, x, CN, dx6, _, _, rfl, hx6, pn.cl, pn.nl, nfs_l A L R, _, rfl, L, _, _, _, rfl, rfl, SqL.of N6.l, atI_nat (lfV_get rc), rfl, _, rfl, ?_⟩
      cases hp : F.prs (F.rep c) with
      | none => exact ifY (by rfl) ⟨_, rfl, _, rfl, _, _, rfl, _, _, rfl, rfl, .inr ⟨rfl, rfl⟩, fun h => absurd hp h⟩
      | some lr => exact ifN (fun z => nomatch z) ⟨_, _, rfl, rfl, .inl ⟨rfl, rfl⟩, fun _ => by rw [hp]; simp⟩
    rintro σ H6 ⟨X, Y, rfl, rfl, xy, hpXY⟩
    have q : X < F.n ∧ Y < F.n := by
      rcases xy with ⟨e1, e2⟩ | ⟨e1, e2⟩ <;> subst e1 <;> subst e2
      · exact ⟨rc, rd⟩
      · exact ⟨rd, rc⟩
    obtain ⟨hX, hY⟩ := q
    refine ⟨fun σ H' => σ = [some (.ref x), some (.int (a : Nat)), some (.int (b : Nat)), some (.ref Wq), some (nv X), some (nv Y)] ∧ ∃ ws' : List (Addr × Nat × Nat), Push F X Y (ws.map Prod.snd) (ws'.map Prod.snd) ∧ (∀ p ∈ ws'.map Prod.snd, p.1 < S.n ∧ p.2 < S.n) ∧ ws'.length ≤ ws.length + 2 ∧ NdAt CN x A L R F H' ∧ WqAt H' Wq ws' ∧ Ke A L R H H', ?_, ?_⟩
    · obtain ⟨dx6, hx6⟩ := id N6.ins
      refine ⟨_, rfl, x, CN, dx6, _, _, rfl, hx6, pn.cl, pn.nl, nfs_l A L R, _, rfl, L, _, _, _, rfl, rfl, SqL.of N6.l, atI_nat (lfV_get hY), rfl, _, rfl, ?_⟩
      have bd0 : ∀ p ∈ ws.map Prod.snd, p.1 < S.n ∧ p.2 < S.n := fun p hp => ui.bd p (by simp only [List.map_cons, List.mem_cons]; exact .inr hp)
      cases hp : F.prs Y with
      | none => 
        refine iteF ⟨rfl, ws, push_none hp, bd0, by omega, N6, W6, K46⟩
      | some lr =>
        obtain ⟨l, r⟩ := lr
        obtain ⟨Lx, Rx, hpx⟩ : ∃ l r, F.prs X = some (l, r) := by
          have := hpXY (by rw [hp]; simp)
          cases h : F.prs X with
          | none => exact absurd h this
          | some lr => exact ⟨lr.1, lr.2, rfl⟩
        refine iteT ?_
        obtain ⟨bl, br⟩ := okF.pl _ _ _ hY hp
        obtain ⟨bL, bR⟩ := okF.pl _ _ _ hX hpx
        have gl : ∀ {i : Nat} {p : Nat × Nat}, i < F.n → F.prs i = some p → (lfV F)[i]? = some (nv p.1) ∧ (rtV F)[i]? = some (nv p.2) := fun hi e => by
          refine ⟨?_, ?_⟩
          · rw [lfV_get hi, e]; rfl
          · rw [rtV_get hi, e]; rfl
        have lw : ((ws.reverse.map fun p => V.ref p.1).length) = ws.length := by rw [List.length_map, List.length_reverse]
        have lwb : ws.length ≤ 900000 := by simp at em; omega
        refine ⟨_, rfl, .inl ⟨rfl, _, SqL.of W6.l⟩, _, rfl, x, CN, dx6, _, _, rfl, hx6, pn.cl, pn.nr, nfs_r A L R, _, rfl, R, _, _, _, rfl, rfl, SqL.of N6.r, atI_nat (gl hX hpx).2, _, rfl, x, CN, dx6, _, _, rfl, hx6, pn.cl, pn.nr, nfs_r A L R, _, rfl, R, _, _, _, rfl, rfl, SqL.of N6.r, atI_nat (gl hY hp).2, (by show 2 ≤ sizeLine; decide), fun t1 nt1 => ?_⟩
        have Sa := same_upd (o := HO.tup [nv Rx, nv r]) nt1
        have Ta : upd H6 t1 (.tup [nv Rx, nv r]) t1 = some (.tup [nv Rx, nv r]) := upd_same
        have Na := N6.same Sa
        have Wa := W6.same Sa
        have Ka := K46.trans (Same.ke Sa)
        generalize upd H6 t1 (.tup [nv Rx, nv r]) = H7 at *
        refine ⟨Wq, _, _, rfl, rfl, Wa.l, by rw [lw]; exact big _ (by omega), ?_⟩
        have Nb := Na.wr (ys := (ws.reverse.map fun p => V.ref p.1) ++ [V.ref t1]) Wa.l WA WL WR
        have Wb := Wa.push Ta
        have Kb := ke_wr (ys := (ws.reverse.map fun p => V.ref p.1) ++ [V.ref t1]) Ka nWH
        generalize upd H7 Wq (.lst ((ws.reverse.map fun p => V.ref p.1) ++ [V.ref t1])) = H8 at *
        obtain ⟨dx8, hx8⟩ := id Nb.ins
        refine ⟨_, rfl, .inl ⟨rfl, _, SqL.of Wb.l⟩, _, rfl, x, CN, dx8, _, _, rfl, hx8, pn.cl, pn.nl, nfs_l A L R, _, rfl, L, _, _, _, rfl, rfl, SqL.of Nb.l, atI_nat (gl hX hpx).1, _, rfl, x, CN, dx8, _, _, rfl, hx8, pn.cl, pn.nl, nfs_l A L R, _, rfl, L, _, _, _, rfl, rfl, SqL.of Nb.l, atI_nat (gl hY hp).1, (by show 2 ≤ sizeLine; decide), fun t2 nt2 => ?_⟩
        have Sc := same_upd (o := HO.tup [nv Lx, nv l]) nt2
        have Tc : upd H8 t2 (.tup [nv Lx, nv l]) t2 = some (.tup [nv Lx, nv l]) := upd_same
        have Nc := Nb.same Sc
        have Wc := Wb.same Sc
        have Kc := Kb.trans (Same.ke Sc)
        generalize upd H8 t2 (.tup [nv Lx, nv l]) = H9 at *
        refine ⟨Wq, _, _, rfl, rfl, Wc.l, by rw [List.length_map, List.length_reverse]; exact big _ (by simp; omega), ?_⟩
        refine ⟨rfl, (t2, Lx, l) :: (t1, Rx, r) :: ws, push_pair hpx hp fun R' E' => ?_, fun p hp' => ?_, by simp, Nc.wr Wc.l WA WL WR, Wc.push Tc, ke_wr Kc nWH⟩
        · unfold EqW
          simp only [List.map_cons, List.mem_cons]
          constructor
          · intro h
            exact ⟨E'.s _ _ (h (Lx, l) (.inl rfl)), E'.s _ _ (h (Rx, r) (.inr (.inl rfl))), fun p hp => h p (.inr (.inr hp))⟩
          · rintro ⟨h1, h2, h3⟩ p (z | z | z)
            · rw [z]; exact E'.s _ _ h1
            · rw [z]; exact E'.s _ _ h2
            · exact h3 p z
        · simp only [List.map_cons, List.mem_cons] at hp'
          rcases hp' with z | z | z
          · rw [z]; exact ⟨by show Lx < _; omega, by show l < _; omega⟩
          · rw [z]; exact ⟨by show Rx < _; omega, by show r < _; omega⟩
          · exact bd0 p z
    rintro σ H7 ⟨rfl, ws', Pu, bd, hl, N7, W7, K7⟩
    obtain ⟨H8, ⟨dx7, hx7⟩, ⟨xs, hA7, hy7, rfl⟩, F', ws'', lt, N8, W8, U8, K8⟩ := tail X Y ws' H7 xy hpXY Pu bd hl N7 W7 K7
    refine ⟨_, rfl, _, rfl, x, CN, dx7, _, _, rfl, hx7, pn.cl, pn.nh, nfs_h A L R, _, rfl, A, _, _, Y, rfl, rfl, hA7, ixN_lt hy7, ?_⟩
    exact ⟨F', ws'', _, _, rfl, lt, N8, W8, U8, K8⟩
/-- the heads of the left and of the right -/
def spParts (C : Addr) : Sp := fun vs H Q _ => ∃ (x A L R : Addr) (S : Sys) (i : Nat), vs = [.ref x, .int (i : Nat)] ∧ NdAt C x A L R S H ∧ i < S.n ∧
  ∀ H' q, NdAt C x A L R S H' → Ke A L R H H' → H q = none → H' q = some (.lst ((S.parts i).map nv)) → (q ≠ A ∧ q ≠ L ∧ q ≠ R) → Q (.ref q) H'
abbrev s_nparts : Stmt := (inClass (top 18) 6)
theorem sc_nparts : FnScope ["self", "node"] ["self", "node"] (defScope s_nparts) := ⟨rfl, rfl, rfl, by decide +kernel, rfl, by decide +kernel, by decide +kernel⟩
theorem c_nparts {CN f : Addr} {fd : FuncData} (pn : PN K mg CN) (F : Fun K "parts" "Nodes.parts" s_nparts f fd) (Mhead : Mth P w K mg base CN "head" 1 ["self", "node"] (spHead CN)) : FnOk P w K mg base CX0 2 f fd ["self", "node"] (spParts CN) := by
  refine F.ok sc_nparts (fun vs H Q E h => ?_) (fun cdv A outer st0 H vs Q E hr h => ?_)
  · obtain ⟨x, A, L, R, S, i, rfl, _⟩ := h
    rfl
  · obtain ⟨x, A, L, R, S, i, rfl, N0, hi, k⟩ := h
    refine ⟨_, (pss_cons (ps_if (pt_cmpR op_isN (pe_ix ix_list (pe_fld (pv 0) rfl) (pv 1) (fun _ _ => rfl)) pe_non (nomark _)) (pss_one (ps_ret (pe_lst pa_nil))) pss_nil)
      (pss_one (ps_ret (pe_lst (pa_cons (pe_m1 Mhead pn.cl (hr.mono (by decide)) (pv 0) (pa_cons (pe_ix ix_list (pe_fld (pv 0) rfl) (pv 1) (fun _ _ => rfl)) pa_nil)) (pa_cons (pe_m1 Mhead pn.cl (hr.mono (by decide)) (pv 0) (pa_cons (pe_ix ix_list (pe_fld (pv 0) rfl) (pv 1) (fun _ _ => rfl)) pa_nil)) pa_nil)))))), ?_⟩
    obtain ⟨dx, hx⟩ := id N0.ins
    have off : ∀ {Hz : Hp} {q : Addr}, NdAt CN x A L R S Hz → Hz q = none → q ≠ A ∧ q ≠ L ∧ q ≠ R := fun N n => ⟨(ne_of_none N.a.choose_spec.1 n).symm, (ne_of_none N.l n).symm, (ne_of_none N.r n).symm⟩
    refine ⟨_, rfl, x, CN, dx, _, _, rfl, hx, pn.cl, pn.nl, nfs_l A L R, _, rfl, L, _, _, _, rfl, rfl, SqL.of N0.l, atI_nat (lfV_get hi), rfl, _, rfl, ?_⟩
    cases hp : S.prs i with
    | none =>
      refine iteT ⟨Nat.zero_le _, fun q nq => ?_⟩
      have S1 := same_upd (o := HO.lst []) nq
      have e : S.parts i = [] := by unfold Sys.parts; rw [hp]
      exact k _ q (N0.same S1) (Same.ke S1) nq (by rw [e]; exact upd_same) (off N0 nq)
    | some lr =>
      obtain ⟨l, r⟩ := lr
      obtain ⟨hl, hr'⟩ := N0.ok.pl _ _ _ hi hp
      have gl : (lfV S)[i]? = some (nv l) := by rw [lfV_get hi, hp]; rfl
      have gr : (rtV S)[i]? = some (nv r) := by rw [rtV_get hi, hp]; rfl
      refine iteF ?_
      refine ⟨_, rfl, x, dx, _, rfl, hx, nfs_no A L R (by decide +kernel) (by decide +kernel) (by decide +kernel), _, rfl, x, CN, dx, _, _, rfl, hx, pn.cl, pn.nl, nfs_l A L R, _, rfl, L, _, _, _, rfl, rfl, SqL.of N0.l, atI_nat gl, x, A, L, R, S, l, rfl, N0, hl, fun H1 N1 K1 => ?_⟩
      obtain ⟨dx1, hx1⟩ := id N1.ins
      refine ⟨_, rfl, x, dx1, _, rfl, hx1, nfs_no A L R (by decide +kernel) (by decide +kernel) (by decide +kernel), _, rfl, x, CN, dx1, _, _, rfl, hx1, pn.cl, pn.nr, nfs_r A L R, _, rfl, R, _, _, _, rfl, rfl, SqL.of N1.r, atI_nat gr, x, A, L, R, S, r, rfl, N1, hr', fun H2 N2 K2 => ?_⟩
      refine ⟨(by show 2 ≤ sizeLine; decide), fun q nq => ?_⟩
      have e : S.parts i = [S.rep l, S.rep r] := by unfold Sys.parts; rw [hp]
      have K12 := K1.trans K2
      obtain ⟨q1, q2, q3⟩ := off N2 nq
      have nqH : H q = none := by
        cases h : H q with
        | none => rfl
        | some o => rw [K12 q o h q1 q2 q3] at nq; cases nq
      exact k _ q (N2.same (same_upd nq)) (K12.trans (Same.ke (same_upd nq))) nqH (by rw [e]; exact upd_same) ⟨q1, q2, q3⟩
end
end Kk

set_option maxHeartbeats 2000000
/-! math.comb; xs[i] read for an augmented store; a held def called; a walk over an enumerated list in a comprehension -/
namespace Kk
open PySem PySem.Spec PyProof.Rows L2
section
variable {X : Cx}
def rComb : List V → Hp → VK → Prop := fun vs H Q => ∃ a b : Int, vs = [.int a, .int b] ∧ 0 ≤ a ∧ 0 ≤ b ∧ a ≤ 18000 ∧ Q (.int (PySem.W.mcComb a b)) H
theorem cr_comb : CallR X (.builtin "math.comb") rComb := by
  intro pins s σ H vs us Q I r h
  obtain ⟨a, b, rfl, ha, hb, h2, q⟩ := h
  obtain ⟨t, u, rfl⟩ := Vals.int2 r
  exact PySem.W.mc_comb ha hb (by omega) (.inr h2) fun _ => ⟨.int _, H, I.tok _, ⟨_, rfl⟩, q⟩
/-- xs[i], 0 ≤ i, for an augmented store -/
def rGetL (K : PySem.W.Frag) : V → V → Hp → VK → Prop := fun x y H Q => ∃ p xs v, ∃ i : Nat, x = .ref p ∧ y = .int (i : Nat) ∧ SqL K H p xs ∧ xs[i]? = some v ∧ Q v H
theorem pget_list : PGet X (rGetL X.K) := by
  intro pins s σ H o i ov iv Q I rx ry h
  obtain ⟨p, xs, v, j, rfl, rfl, hq, he, q⟩ := h
  cases rx
  obtain ⟨t, rfl⟩ := ry
  obtain ⟨its, r, pl, hz⟩ := I.list hq
  obtain ⟨w, ew, rw'⟩ := r.get he
  have hl := r.length
  have hn := line63
  have hj : j < its.length := by
    have := (List.getElem?_eq_some_iff.mp ew).1
    simpa using this
  exact wpAny_getItem_list pl.isList (by omega) (by rw [sizeLine_eq] at hz; omega) (by simpa using ew) ⟨v, H, I, rw', q⟩
/-- f(e, ..), f a local name that holds a def -/
theorem pe_hL {k i : Nat} {f : Addr} {sp : Sp} {x : Str} {p pos : Pos} {e : Expr} {es : List Expr} {t : TA} (A : Held X.prog X.w X.K X.mg X.base k f sp) (hr : Room k X.A) (hN : X.N[i]? = some x) (hv : Vis X.env.scope x) (ha : PA X (e :: es) t)
    (hdb : (x == ("__debug__" : Str)) = false := by decide) (hcd : (x == ("__classdict__" : Str)) = false := by decide)
    (he : starEach (e :: es) X.env = (false, eval e X.env) :: starEach es X.env := by rfl) (hpl : (backTo pos (starEach es X.env)).any (·.1) = false := by rfl) : PE X (.Call (.Name x p) (e :: es) [] pos) (tCallL i f sp [] E0 t) := by
  obtain ⟨fd, ps, F, hk, hb⟩ := A.ex
  exact pe_callL F hr hN hv hk hb .nil pass0 ha hdb hcd he hpl
/-- e(..), e some expression that tells a def -/
def tCallE (te : TE) (S : Addr → Sp → Prop) (t : TA) : TE := fun σ H Q => te σ H fun v H1 => ∃ f sp, v = .ref f ∧ S f sp ∧ t σ H1 fun vs H2 => sp vs H2 Q E0
theorem pe_callSX {k : Nat} {S : Addr → Sp → Prop} {fe : Expr} {te : TE} {pos : Pos} {e : Expr} {es : List Expr} {t : TA} (A : ∀ f sp, S f sp → Held X.prog X.w X.K X.mg X.base k f sp) (hr : Room k X.A) (hf : PE X fe te) (ha : PA X (e :: es) t)
    (ht : eval (.Call fe (e :: es) [] pos) X.env = (do callWith pos (← eval fe X.env) [] (backTo pos (starEach (e :: es) X.env)) (backToKw pos (keywordEach [] X.env))) := by rfl)
    (he : starEach (e :: es) X.env = (false, eval e X.env) :: starEach es X.env := by rfl) (hpl : (backTo pos (starEach es X.env)).any (·.1) = false := by rfl) : PE X (.Call fe (e :: es) [] pos) (tCallE te S t) := by
  refine ⟨fun pins s σ H Q I h => ?_⟩
  rw [ht]
  refine wpAny_bind (thn (hf.run pins s σ H _ I h) fun u s1 ⟨v, H1, I1, r1, f, sp, ev, hS, q1⟩ => ?_)
  subst ev
  cases r1
  obtain ⟨fd, ps, F, hk, hb⟩ := (A f sp hS).ex
  refine PySem.W.callWith_K (h₀ := X.base) I.ok.mod.kin hk (thn (ha.run pos pins s1 σ _ _ I1 q1) fun us s2 ⟨vs, H2, I2, r, q⟩ => ⟨I2.kIn, ?_⟩) he hpl
  exact run_fn F hr hb (dvs := []) .nil pass0 I2 r (by rw [List.append_nil]; exact q)
end
/-- over an enumerated list that the block leaves as it is -/
theorem lc_enumL {K : PySem.W.Frag} {a : Addr} {xs : List V} {g : TG} {tt : TT} {te : TE} {vs : List Nat} {σ : L2.St} {H1 : Hp} {D : Addr} {Qd : Hp → Prop} (Pv : Nat → Hp → Prop) (h0 : Pv 0 (upd H1 D (.lst []))) (hl : ∀ i H, i ≤ xs.length → Pv i H → SqL K H a xs)
    (hs : ∀ i x H T, xs[i]? = some x → Pv i H → H T = none → g (.ref T) (wipe σ vs) (upd H T (.tup [.int (i : Nat), x])) fun σ2 H2 => wipe σ2 vs = wipe σ vs ∧ tt σ2 H2 fun b H3 =>
      if b = true then te σ2 H3 fun y H4 => ∃ acc, H4 D = some (.lst acc) ∧ acc.length < sizeLine ∧ Pv (i + 1) (upd H4 D (.lst (acc ++ [y]))) else Pv (i + 1) H3) (hd : ∀ H, Pv xs.length H → Qd H) :
    ∃ W : Nat → Nat → Hp → Prop, (∃ m, W 0 m (upd H1 D (.lst []))) ∧ ∀ i m H, W i m H →
      ((Ite K a).stop i H ∧ Qd H) ∨ ((Ite K a).go i H ∧ ∃ Nx : Hp → Prop, (∀ H', Nx H' → ∃ m', m' < m ∧ W (i + 1) m' H') ∧ ∀ x H', (Ite K a).yld i H x H' → g x (wipe σ vs) H' fun σ2 H2 => wipe σ2 vs = wipe σ vs ∧ tt σ2 H2 fun b H3 =>
        if b = true then te σ2 H3 fun y H4 => ∃ acc, H4 D = some (.lst acc) ∧ acc.length < sizeLine ∧ Nx (upd H4 D (.lst (acc ++ [y]))) else Nx H3) := by
  refine ⟨fun i m H => m = xs.length - i ∧ i ≤ xs.length ∧ Pv i H, ⟨xs.length, by simp, Nat.zero_le _, h0⟩, ?_⟩
  rintro i m H ⟨rfl, hi, p⟩
  have q := hl i H hi p
  by_cases hlt : i < xs.length
  · refine .inr ⟨⟨xs, xs[i], q, by simp [hlt]⟩, Pv (i + 1), fun H' p' => ⟨xs.length - (i + 1), by omega, rfl, hlt, p'⟩, fun x H' y => ?_⟩
    obtain ⟨T, z, rfl, hT, rfl, hz⟩ := y
    exact hs i z H T (hz xs q) p hT
  · have e : i = xs.length := by omega
    subst e
    exact .inl ⟨⟨xs, q, Nat.le_refl _⟩, hd H p⟩
end Kk

set_option maxHeartbeats 4000000
/-! knots: in order -/
namespace Kk
open PySem PySem.Spec PyProof.Rows L2 Wd
/-- a row of numbers, one for each knot -/
def rowN (n : Nat) (f : Nat → Nat) : List V := (List.range n).map fun j => nv (f j)
theorem rowN_len (n : Nat) (f : Nat → Nat) : (rowN n f).length = n := by unfold rowN; rw [List.length_map, List.length_range]
theorem rowN_get {n j : Nat} (f : Nat → Nat) (h : j < n) : (rowN n f)[j]? = some (nv (f j)) := by
  unfold rowN
  rw [List.getElem?_map, List.getElem?_range h]; rfl
theorem rowN_set (n p : Nat) (f : Nat → Nat) (v : Nat) : (rowN n f).set p (nv v) = rowN n fun j => if j = p then v else f j := by
  refine List.ext_getElem? fun j => ?_
  rw [List.getElem?_set]
  by_cases hj : j < n
  · by_cases e : p = j
    · subst e
      rw [if_pos rfl, if_pos (by rw [rowN_len]; exact hj), rowN_get _ hj, if_pos rfl]
    · rw [if_neg e, rowN_get _ hj, rowN_get _ hj, if_neg fun z => e z.symm]
  · have e2 : (rowN n fun j => if j = p then v else f j)[j]? = none := List.getElem?_eq_none (by rw [rowN_len]; omega)
    rw [e2]
    split
    · rw [if_neg (by rw [rowN_len]; omega)]
    · exact List.getElem?_eq_none (by rw [rowN_len]; omega)
theorem rowN_congr {n : Nat} {f g : Nat → Nat} (h : ∀ j, j < n → f j = g j) : rowN n f = rowN n g := by
  unfold rowN
  exact List.map_congr_left fun j hj => by rw [h j (List.mem_range.mp hj)]
theorem rowN_zero (n : Nat) : List.replicate n (nv 0) = rowN n fun _ => 0 := by
  unfold rowN
  refine List.ext_getElem? fun j => ?_
  rw [List.getElem?_map, List.getElem?_replicate]
  by_cases h : j < n
  · rw [if_pos h, List.getElem?_range h]; rfl
  · rw [if_neg h, List.getElem?_eq_none (by simpa using h)]; rfl
theorem roots_bound (S : Sys) : S.roots.length ≤ S.n := by
  have := List.length_filter_le (fun i => decide (S.rep i = i)) (List.range S.n)
  simpa [Sys.roots] using this
theorem fm_filter {c : Nat → Prop} [DecidablePred c] : ∀ l : List Nat, l.filterMap (fun v => if c v then some (nv v) else none) = (l.filter fun v => decide (c v)).map nv
  | [] => rfl
  | v :: l => by
    by_cases e : c v
    · simp only [List.filterMap_cons, if_pos e, List.filter_cons, decide_eq_true e, fm_filter l]; rfl
    · simp only [List.filterMap_cons, if_neg e, List.filter_cons, decide_eq_false e, fm_filter l]; rfl
section
variable {P : Program} {w : World} {K : PySem.W.Frag} {mg : Str → Option Value} {base : Heap}
def OrdV (A L R : Addr) (S : Sys) (H H' : Hp) (v : V) : Prop := (v = .non ∧ ¬ S.Fin) ∨ ∃ q row, v = .ref q ∧ H' q = some (.lst (row.map nv)) ∧ Row S row ∧ H q = none ∧ q ≠ A ∧ q ≠ L ∧ q ≠ R
def spOrder (C : Addr) : Sp := fun vs H Q _ => ∃ (x A L R : Addr) (S : Sys), vs = [.ref x] ∧ NdAt C x A L R S H ∧
  ∀ H' v, NdAt C x A L R S H' → Ke A L R H H' → OrdV A L R S H H' v → Q v H'
abbrev s_norder : Stmt := (inClass (top 18) 7)
theorem sc_norder : FnScope ["self", "tops", "node", "uses", "part", "ready", "row"] ["self"] (defScope s_norder) := ⟨rfl, rfl, rfl, by decide +kernel, rfl, by decide +kernel, by decide +kernel⟩
theorem c_norder {CN f : Addr} {fd : FuncData} (B : Bt mg) (pn : PN K mg CN) (F : Fun K "in_order" "Nodes.in_order" s_norder f fd) (Mparts : Mth P w K mg base CN "parts" 2 ["self", "node"] (spParts CN)) : FnOk P w K mg base CX0 3 f fd ["self"] (spOrder CN) := by
  refine F.ok sc_norder (fun vs H Q E h => ?_) (fun cdv A outer st0 H vs Q E hr h => ?_)
  · obtain ⟨x, A, L, R, S, rfl, _⟩ := h
    rfl
  · obtain ⟨x, A, L, R, S, rfl, N0, k⟩ := h
    refine ⟨_, (pss_cons (ps_setLc (i := 1) (own := [("node", 2)]) (g := (gName 2)) (tt := (tTest (tOp _ (tOp (rIxL K) (tFld K _ _) _) _))) rfl sc_norder.nd rfl rfl (sw_true rfl rfl rfl (by decide +kernel)) (pi_range1 (by rfl) B.b_range (pa_cons (pe_callB call_len_seq (by rfl) B.b_len (by decide +kernel) (pa_cons (pe_fld (pv 0) rfl) pa_nil)) pa_nil)) (blkOk_by (own := [("node", 2)]) (N := ["self", "tops", "node", "uses", "part", "ready", "row"]) (sc := defScope s_norder) (by decide +kernel)) (fun _ _ _ _ _ => (pg_name (i := 2) sc_norder.nd rfl (by first | exact Or.inl rfl | exact Or.inr rfl))) (fun _ _ _ _ _ => (pts_one (pt_cmpR op_eq (pe_ix ix_list (pe_fld (pv 0) rfl) (pv 2) (fun _ _ => rfl)) (pv 2) (nomark _)))) (fun _ _ _ _ _ => (pv 2)))
      (pss_cons (ps_set (i := 3) sc_norder.nd rfl (by first | exact Or.inl rfl | exact Or.inr rfl) (pe_op op_rep (pe_lst (pa_cons pe_int pa_nil)) (pe_callB call_len_seq (by rfl) B.b_len (by decide +kernel) (pa_cons (pe_fld (pv 0) rfl) pa_nil))))
      (pss_cons (ps_for PassesOwn.never rfl (pi_list (pv 1)) (pg_name (i := 2) sc_norder.nd rfl (by first | exact Or.inl rfl | exact Or.inr rfl)) (pss_one (ps_for PassesOwn.never rfl (pi_list (pe_m1 Mparts pn.cl (hr.mono (by decide)) (pv 0) (pa_cons (pv 2) pa_nil))) (pg_name (i := 4) sc_norder.nd rfl (by first | exact Or.inl rfl | exact Or.inr rfl)) (pss_one (ps_augS (pv 3) (pv 4) pget_list pe_int ip_add set_list)))))
      (pss_cons (ps_setLc (i := 5) (own := [("node", 2)]) (g := (gName 2)) (tt := (tTest (tOp _ (tOp (rIxL K) _ _) _))) rfl sc_norder.nd rfl rfl (sw_true rfl rfl rfl (by decide +kernel)) (pi_list (pv 1)) (blkOk_by (own := [("node", 2)]) (N := ["self", "tops", "node", "uses", "part", "ready", "row"]) (sc := defScope s_norder) (by decide +kernel)) (fun _ _ _ _ _ => (pg_name (i := 2) sc_norder.nd rfl (by first | exact Or.inl rfl | exact Or.inr rfl))) (fun _ _ _ _ _ => (pts_one (pt_cmpR op_eq (pe_ix ix_list (pv 3) (pv 2) (fun _ _ => rfl)) pe_int (nomark _)))) (fun _ _ _ _ _ => (pv 2)))
      (pss_cons (ps_set (i := 6) sc_norder.nd rfl (by first | exact Or.inl rfl | exact Or.inr rfl) (pe_lst pa_nil))
      (pss_cons (ps_while PassesOwn.never (pt_truth (pv 5) (by intro _; rfl)) (pss_cons (ps_set (i := 2) sc_norder.nd rfl (by first | exact Or.inl rfl | exact Or.inr rfl) (pe_bm0 PySem.F.plainAttrs_list PySem.F.slot_list_pop PySem.F.type_list_pop mt_pop (pv 5)))
      (pss_cons (ps_expr (pe_bm PySem.F.plainAttrs_list PySem.F.slot_list_append PySem.F.type_list_append mt_append (pv 6) (pa_cons (pv 2) pa_nil)))
      (pss_one (ps_for PassesOwn.never rfl (pi_list (pe_m1 Mparts pn.cl (hr.mono (by decide)) (pv 0) (pa_cons (pv 2) pa_nil))) (pg_name (i := 4) sc_norder.nd rfl (by first | exact Or.inl rfl | exact Or.inr rfl)) (pss_cons (ps_augS (pv 3) (pv 4) pget_list pe_int ip_sub set_list)
      (pss_one (ps_if (pt_cmpR op_eq (pe_ix ix_list (pv 3) (pv 4) (fun _ _ => rfl)) pe_int (nomark _)) (pss_one (ps_expr (pe_bm PySem.F.plainAttrs_list PySem.F.slot_list_append PySem.F.type_list_append mt_append (pv 5) (pa_cons (pv 4) pa_nil)))) pss_nil))))))))
      (pss_one (ps_ret (pe_ifExp (pt_cmpR op_eq (pe_callB call_len_seq (by rfl) B.b_len (by decide +kernel) (pa_cons (pv 6) pa_nil)) (pe_callB call_len_seq (by rfl) B.b_len (by decide +kernel) (pa_cons (pv 1) pa_nil)) (nomark _)) (pv 6) pe_non))))))))), ?_⟩
    obtain ⟨⟨dx, hx⟩, ⟨hs, ha, hd⟩, hl, hR, ok, le, n1, n2, n3⟩ := id N0
    have lah : (hs.map nv).length = S.n := by rw [List.length_map]; exact hd.len
    have big : ∀ n : Nat, n ≤ 1000000 → n < sizeLine := fun n h => small_lt (m := 1000000) (by omega) (by decide)
    have off : ∀ {q : Addr}, H q = none → q ≠ A ∧ q ≠ L ∧ q ≠ R := fun n => ⟨(ne_of_none ha n).symm, (ne_of_none hl n).symm, (ne_of_none hR n).symm⟩
    -- tops
    refine ⟨_, rfl, x, CN, dx, _, _, rfl, hx, pn.cl, pn.nh, nfs_h A L R, _, _, rfl, .inl (SqL.of ha), _, rfl, by omega, by rw [lah]; omega, fun T nT => ?_⟩
    have en : (((hs.map nv).length : Nat) : Int).toNat = S.n := by rw [lah]; omega
    refine lc_range (lo := 0) (n := (((hs.map nv).length : Nat) : Int).toNat) (fun i H' => Same H H' ∧ H' T = some (.lst (((List.range i).filter fun i => decide (S.rep i = i)).map nv))) ⟨same_upd nT, upd_same⟩ ?_ ?_
    · rintro i H' hi ⟨S2, L2⟩
      rw [en] at hi
      have hx2 := S2 _ _ hx
      have ha2 := S2 _ _ ha
      obtain ⟨j, ej, _⟩ := hd.at_ hi
      refine ⟨rfl, _, rfl, x, CN, dx, _, _, rfl, hx2, pn.cl, pn.nh, nfs_h A L R, _, rfl, A, _, _, nv j, rfl, ?_, SqL.of ha2, atI_nat (nv_get ej), ?_⟩
      · show V.int ((0 : Int) + (i : Int)) = _
        rw [Int.zero_add]
      refine ⟨_, rfl, rfl, _, rfl, ?_⟩
      have ej2 : (j = i) ↔ S.rep i = i := ⟨fun e => ((hd.fix i).mp (e ▸ ej)).2, fun e => by
        have := (hd.fix i).mpr ⟨hi, e⟩
        rw [ej] at this
        exact Option.some.inj this⟩
      by_cases e : S.rep i = i
      · have ei := ej2.mpr e
        refine ifY (by rw [ei, Int.zero_add]; rfl) ⟨_, rfl, _, L2, ?_, fun b o hb => ?_, ?_⟩
        · have : ((List.range i).filter fun i => decide (S.rep i = i)).length ≤ i := by have := List.length_filter_le (fun i => decide (S.rep i = i)) (List.range i); rwa [List.length_range] at this
          rw [List.length_map]
          exact big _ (by omega)
        · rw [upd_ne (ne_of_none hb nT)]
          exact S2 _ _ hb
        · have fl : ([i] : List Nat).filter (fun i => decide (S.rep i = i)) = [i] := by simp [e]
          rw [upd_same, List.range_succ, List.filter_append, fl, List.map_append]
          show some (HO.lst (_ ++ [V.int ((0 : Int) + (i : Int))])) = _
          rw [Int.zero_add]
          rfl
      · refine ifN (fun z => e (ej2.mp ?_)) ⟨S2, ?_⟩
        · have z : V.int ((j : Nat) : Int) = V.int ((0 : Int) + (i : Int)) := z
          have := V.int.inj z
          omega
        · have fl : ([i] : List Nat).filter (fun i => decide (S.rep i = i)) = [] := by simp [e]
          rw [L2, List.range_succ, List.filter_append, fl, List.append_nil]
    · rintro H1 ⟨S1, L1⟩
      rw [en] at L1
      have L1 : H1 T = some (.lst (S.roots.map nv)) := L1
      have N1 := N0.same S1
      obtain ⟨⟨dx1, hx1⟩, ⟨hs1, ha1, hd1⟩, _⟩ := id N1
      have lah1 : (hs1.map nv).length = S.n := by rw [List.length_map]; exact hd1.len
      obtain ⟨TA, TL, TR⟩ := off nT
      -- uses
      refine ⟨(by show 1 ≤ sizeLine; decide), fun z nz => ?_⟩
      have S2 := same_upd (o := HO.lst [V.int 0]) nz
      have z2 : upd H1 z (.lst [.int 0]) z = some (.lst [.int 0]) := upd_same
      generalize upd H1 z (.lst [.int 0]) = H2 at *
      refine ⟨_, rfl, x, CN, dx1, _, _, rfl, S2 _ _ hx1, pn.cl, pn.nh, nfs_h A L R, _, _, rfl, .inl (SqL.of (S2 _ _ ha1)), z, _, _, rfl, rfl, z2, by omega, by rw [lah1]; omega, ?_, fun U nU => ?_⟩
      · rw [lah1, sizeLine_eq]; show 1 * _ ≤ _; omega
      have eb : (List.replicate (((hs1.map nv).length : Nat) : Int).toNat [V.int 0]).flatten = rowN S.n fun _ => 0 := by
        rw [lah1, ← rowN_zero]
        show (List.replicate S.n [V.int 0]).flatten = List.replicate S.n (V.int 0)
        induction S.n with
        | zero => rfl
        | succ n ih => rw [List.replicate_succ, List.flatten_cons, ih, List.replicate_succ]; rfl
      rw [eb]
      have S3 : Same H (upd H2 U (.lst (rowN S.n fun _ => 0))) := S1.trans (S2.trans (same_upd nU))
      have U3 : upd H2 U (.lst (rowN S.n fun _ => 0)) U = some (.lst (rowN S.n fun _ => 0)) := upd_same
      have T3 : upd H2 U (.lst (rowN S.n fun _ => 0)) T = some (.lst (S.roots.map nv)) := same_upd nU _ _ (S2 _ _ L1)
      have N3 := N0.same S3
      have nUH : H U = none := (S1.trans S2).free nU
      obtain ⟨UA, UL, UR⟩ := off nUH
      have UT : U ≠ T := (ne_of_none (S2 _ _ L1) nU).symm
      generalize upd H2 U (.lst (rowN S.n fun _ => 0)) = H3 at *
      clear S2 z2 nz nU
      have rb := roots_bound S
      -- the walk over the tops
      refine ⟨_, rfl, T, rfl, ⟨_, SqL.of T3⟩, for_list (K := K) (a := T) (xs := S.roots.map nv) (fun i σ H' => ∃ v2 v4 v5 v6 : Option V, σ = [some (.ref x), some (.ref T), v2, some (.ref U), v4, v5, v6] ∧ NdAt CN x A L R S H' ∧ H' T = some (.lst (S.roots.map nv)) ∧ H' U = some (.lst (rowN S.n fun j => ((S.roots.take i).flatMap S.parts).count j)) ∧ Ke A L R H H')
        ⟨none, none, none, none, rfl, N3, T3, by rw [U3]; rfl, Same.ke S3⟩ (fun i σ H' _ ⟨_, _, _, _, _, _, h, _⟩ => SqL.of h) ?_ ?_⟩
      · rintro i z σ H4 hz ⟨v2, v4, v5, v6, rfl, N4, T4, U4, K4⟩
        obtain ⟨v, hv, rfl⟩ := map_get hz
        have vr := mem_roots.mp (List.mem_of_getElem? hv)
        obtain ⟨dx4, hx4⟩ := id N4.ins
        refine ⟨_, rfl, x, dx4, _, rfl, hx4, nfs_no A L R (by decide +kernel) (by decide +kernel) (by decide +kernel), _, rfl, x, A, L, R, S, v, rfl, N4, vr.1, fun H5 q N5 K5 nq q5 off5 => ?_⟩
        have T5 := K5 _ _ T4 TA TL TR
        have U5 := K5 _ _ U4 UA UL UR
        have qU : q ≠ U := (ne_of_none U4 nq).symm
        have qT : q ≠ T := (ne_of_none T4 nq).symm
        refine ⟨q, rfl, ⟨_, SqL.of q5⟩, for_list (K := K) (a := q) (xs := (S.parts v).map nv) (fun r σ H' => ∃ v4 : Option V, σ = [some (.ref x), some (.ref T), some (nv v), some (.ref U), v4, v5, v6] ∧ NdAt CN x A L R S H' ∧ H' T = some (.lst (S.roots.map nv)) ∧ H' U = some (.lst (rowN S.n fun j => ((S.roots.take i).flatMap S.parts).count j + ((S.parts v).take r).count j)) ∧ Ke A L R H H' ∧ H' q = some (.lst ((S.parts v).map nv)))
          ⟨v4, rfl, N5, T5, by rw [U5]; simp, K4.trans K5, q5⟩ (fun r σ H' _ ⟨_, _, _, _, _, _, h⟩ => SqL.of h) ?_ ?_⟩
        · rintro r z σ H6 hz ⟨v4, rfl, N6, T6, U6, K6, q6⟩
          obtain ⟨p, hp, rfl⟩ := map_get hz
          have pr := (mem_roots.mp (parts_root ok vr.1 (List.mem_of_getElem? hp))).1
          have gu := rowN_get (n := S.n) (fun j => ((S.roots.take i).flatMap S.parts).count j + ((S.parts v).take r).count j) pr
          refine ⟨_, rfl, _, rfl, U, _, _, p, rfl, rfl, SqL.of U6, gu, _, _, rfl, rfl, U, _, _, p, rfl, rfl, U6, ixN_lt (by rw [rowN_len]; exact pr), ?_⟩
          have e1 : ((rowN S.n fun j => ((S.roots.take i).flatMap S.parts).count j + ((S.parts v).take r).count j).set p (V.int (((((S.roots.take i).flatMap S.parts).count p + ((S.parts v).take r).count p : Nat) : Int) + 1))) = rowN S.n fun j => ((S.roots.take i).flatMap S.parts).count j + ((S.parts v).take (r + 1)).count j := by
            have := rowN_set S.n p (fun j => ((S.roots.take i).flatMap S.parts).count j + ((S.parts v).take r).count j) (((S.roots.take i).flatMap S.parts).count p + ((S.parts v).take r).count p + 1)
            refine Eq.trans (congrArg _ ?_) (this.trans (rowN_congr fun j _ => ?_))
            · show V.int _ = V.int _
              congr 1
            · rw [List.take_add_one, hp, List.count_append]
              by_cases e : j = p
              · subst e; simp; omega
              · rw [if_neg e]; simp [Ne.symm e]
          refine ⟨_, rfl, N6.wr U6 UA UL UR, by rw [upd_ne UT.symm]; exact T6, ?_, ke_wr K6 nUH, by rw [upd_ne qU]; exact q6⟩
          rw [upd_same]
          exact congrArg (fun l => some (HO.lst l)) e1
        · rintro σ H6 ⟨v4, rfl, N6, T6, U6, K6, q6⟩
          refine ⟨_, _, _, _, rfl, N6, T6, ?_, K6⟩
          rw [U6, List.length_map, List.take_length, List.take_add_one, hv, List.flatMap_append]
          congr 2
          refine rowN_congr fun j _ => ?_
          simp [List.count_append]
      · rintro σ H4 ⟨v2, v4, v5, v6, rfl, N4, T4, U4, K4⟩
        rw [List.length_map, List.take_length] at U4
        -- those that are in no use
        refine ⟨_, rfl, T, rfl, ⟨_, SqL.of T4⟩, fun Rq nRq => lc_fmL (f := nv) (r := fun v => if (S.roots.flatMap S.parts).count v = 0 then some (nv v) else none) (SqL.of T4) nRq (by omega) (fun i v H' Qy Qn hv S5 gy gn => ?_) (fun H5 S5 R5 => ?_)⟩
        · have vr := mem_roots.mp (List.mem_of_getElem? hv)
          refine ⟨rfl, _, rfl, _, rfl, U, _, _, _, rfl, rfl, SqL.of (S5 _ _ U4), atI_nat (rowN_get _ vr.1), rfl, _, rfl, ?_⟩
          by_cases e : (S.roots.flatMap S.parts).count v = 0
          · exact ifY (by rw [e]; rfl) ⟨_, rfl, gy _ _ (Same.refl _) (if_pos e)⟩
          · refine ifN (fun z => e ?_) (gn _ (Same.refl _) (if_neg e))
            have z : V.int (((S.roots.flatMap S.parts).count v : Nat) : Int) = V.int 0 := z
            have := V.int.inj z
            omega
        rw [fm_filter] at R5
        have U5 := S5 _ _ U4
        have T5 := S5 _ _ T4
        have N5 := N4.same S5
        have K5 := K4.trans (Same.ke S5)
        have UR5 : U ≠ Rq := ne_of_none U4 nRq
        have TR5 : T ≠ Rq := ne_of_none T4 nRq
        have offz : ∀ {Hz : Hp} {q : Addr}, NdAt CN x A L R S Hz → Hz q = none → q ≠ A ∧ q ≠ L ∧ q ≠ R := fun N n => ⟨(ne_of_none N.a.choose_spec.1 n).symm, (ne_of_none N.l n).symm, (ne_of_none N.r n).symm⟩
        have nRH : H Rq = none := by
          obtain ⟨q1, q2, q3⟩ := offz N4 nRq
          cases h : H Rq with
          | none => rfl
          | some o => rw [K4 Rq o h q1 q2 q3] at nRq; cases nRq
        obtain ⟨RA, RL, RR⟩ := off nRH
        refine ⟨Nat.zero_le _, fun Wq nWq => ?_⟩
        have S6 := same_upd (o := HO.lst []) nWq
        have W6 : upd H5 Wq (.lst []) Wq = some (.lst []) := upd_same
        have R6 := S6 _ _ R5
        have U6 := S6 _ _ U5
        have T6 := S6 _ _ T5
        have N6 := N5.same S6
        have K6 := K5.trans (Same.ke S6)
        have UW : U ≠ Wq := ne_of_none U5 nWq
        have TW : T ≠ Wq := ne_of_none T5 nWq
        have RW : Rq ≠ Wq := ne_of_none R5 nWq
        have nWH : H Wq = none := by
          obtain ⟨q1, q2, q3⟩ := offz N5 nWq
          cases h : H Wq with
          | none => rfl
          | some o => rw [K5 Wq o h q1 q2 q3] at nWq; cases nWq
        obtain ⟨WA, WL, WR⟩ := off nWH
        generalize upd H5 Wq (.lst []) = H6 at *
        have ki := KI.start (S := S) (uses := fun j => (S.roots.flatMap S.parts).count j) fun j _ => rfl
        refine ⟨fun m σ H' => ∃ (row ready : List Nat) (uses : Nat → Nat) (v2 v4 : Option V), σ = [some (.ref x), some (.ref T), v2, some (.ref U), v4, some (.ref Rq), some (.ref Wq)] ∧ m = S.roots.length - row.length ∧ KI S row [] uses ready ∧ NdAt CN x A L R S H' ∧ H' T = some (.lst (S.roots.map nv)) ∧ H' U = some (.lst (rowN S.n uses)) ∧ H' Rq = some (.lst (ready.map nv)) ∧ H' Wq = some (.lst (row.map nv)) ∧ Ke A L R H H', ⟨_, [], _, _, v2, v4, rfl, rfl, ki, N6, T6, U6, R6, W6, K6⟩, ?_⟩
        rintro m σ H7 ⟨row, ready, uses, v2, v4, rfl, rfl, ki, N7, T7, U7, R7, W7, K7⟩
        refine ⟨_, rfl, _, .inl ⟨_, SqL.of R7, rfl⟩, ?_⟩
        rcases List.eq_nil_or_concat ready with e0 | ⟨rest, node, e0⟩
        · subst e0
          refine ite2 (fun e => by simp at e) (fun _ => ?_)
          refine ⟨_, rfl, _, _, rfl, .inl (SqL.of W7), _, rfl, _, _, rfl, .inl (SqL.of T7), rfl, _, rfl, ?_⟩
          rw [List.length_map, List.length_map]
          by_cases e : row.length = S.roots.length
          · refine ifY (by rw [e]) ⟨_, rfl, k H7 _ N7 K7 (.inr ⟨Wq, row, rfl, W7, ki.done ok e, nWH, WA, WL, WR⟩)⟩
          · refine ifN (fun z => e (by have := V.int.inj z; omega)) (k H7 _ N7 K7 (.inl ⟨rfl, fun fin => e (ki.full ok fin)⟩))
        · rw [List.concat_eq_append] at e0
          subst e0
          refine ite2 (fun _ => ?_) (fun e => absurd (by simp) e)
          have kp := ki.pop ok
          have nn : node ∈ S.roots := kp.sub node (by simp)
          have nb := (mem_roots.mp nn).1
          have rl : row.length + 1 ≤ S.roots.length := by
            have := len_nodup kp.rnd kp.sub
            simpa using this
          refine ⟨fun σ' H' => ∃ (ready : List Nat) (uses : Nat → Nat) (v4 : Option V), σ' = [some (.ref x), some (.ref T), some (nv node), some (.ref U), v4, some (.ref Rq), some (.ref Wq)] ∧ KI S (row ++ [node]) [] uses ready ∧ NdAt CN x A L R S H' ∧ H' T = some (.lst (S.roots.map nv)) ∧ H' U = some (.lst (rowN S.n uses)) ∧ H' Rq = some (.lst (ready.map nv)) ∧ H' Wq = some (.lst ((row ++ [node]).map nv)) ∧ Ke A L R H H', ?_, ?_⟩
          · rintro σ' H' ⟨ready', uses', v4', rfl, h⟩
            exact ⟨S.roots.length - (row ++ [node]).length, by simp; omega, row ++ [node], ready', uses', _, v4', rfl, rfl, h⟩
          rw [List.map_append] at R7
          have R7 : H7 Rq = some (.lst (rest.map nv ++ [nv node])) := R7
          refine ⟨_, rfl, .inl ⟨rfl, _, SqL.of R7⟩, Rq, _, nv node, rfl, rfl, R7, by simp, ?_⟩
          rw [List.dropLast_concat]
          have R8 : upd H7 Rq (.lst (rest.map nv)) Rq = some (.lst (rest.map nv)) := upd_same
          have W8 : upd H7 Rq (.lst (rest.map nv)) Wq = some (.lst (row.map nv)) := by rw [upd_ne RW.symm]; exact W7
          have U8 : upd H7 Rq (.lst (rest.map nv)) U = some (.lst (rowN S.n uses)) := by rw [upd_ne UR5]; exact U7
          have T8 : upd H7 Rq (.lst (rest.map nv)) T = some (.lst (S.roots.map nv)) := by rw [upd_ne TR5]; exact T7
          have N8 : NdAt CN x A L R S (upd H7 Rq (.lst (rest.map nv))) := N7.wr R7 RA RL RR
          have K8 : Ke A L R H (upd H7 Rq (.lst (rest.map nv))) := ke_wr K7 nRH
          generalize upd H7 Rq (.lst (rest.map nv)) = H8 at *
          refine ⟨_, rfl, .inl ⟨rfl, _, SqL.of W8⟩, _, rfl, Wq, _, _, rfl, rfl, W8, by rw [List.length_map]; exact big _ (by omega), ?_⟩
          have W9 : upd H8 Wq (.lst (row.map nv ++ [nv node])) Wq = some (.lst ((row ++ [node]).map nv)) := by rw [upd_same, List.map_append]; rfl
          have R9 : upd H8 Wq (.lst (row.map nv ++ [nv node])) Rq = some (.lst (rest.map nv)) := by rw [upd_ne RW]; exact R8
          have U9 : upd H8 Wq (.lst (row.map nv ++ [nv node])) U = some (.lst (rowN S.n uses)) := by rw [upd_ne UW]; exact U8
          have T9 : upd H8 Wq (.lst (row.map nv ++ [nv node])) T = some (.lst (S.roots.map nv)) := by rw [upd_ne TW]; exact T8
          have N9 : NdAt CN x A L R S (upd H8 Wq (.lst (row.map nv ++ [nv node]))) := N8.wr W8 WA WL WR
          have K9 : Ke A L R H (upd H8 Wq (.lst (row.map nv ++ [nv node]))) := ke_wr K8 nWH
          generalize upd H8 Wq (.lst (row.map nv ++ [nv node])) = H9 at *
          obtain ⟨dx9, hx9⟩ := id N9.ins
          refine ⟨_, rfl, x, dx9, _, rfl, hx9, nfs_no A L R (by decide +kernel) (by decide +kernel) (by decide +kernel), _, rfl, x, A, L, R, S, node, rfl, N9, nb, fun H10 q N10 K10 nq q10 off10 => ?_⟩
          have qU : q ≠ U := (ne_of_none U9 nq).symm
          have qR : q ≠ Rq := (ne_of_none R9 nq).symm
          refine ⟨q, rfl, ⟨_, SqL.of q10⟩, for_list (K := K) (a := q) (xs := (S.parts node).map nv) (fun r σ H' => ∃ (ready : List Nat) (uses : Nat → Nat) (v4 : Option V), σ = [some (.ref x), some (.ref T), some (nv node), some (.ref U), v4, some (.ref Rq), some (.ref Wq)] ∧ KI S (row ++ [node]) ((S.parts node).drop r) uses ready ∧ NdAt CN x A L R S H' ∧ H' T = some (.lst (S.roots.map nv)) ∧ H' U = some (.lst (rowN S.n uses)) ∧ H' Rq = some (.lst (ready.map nv)) ∧ H' Wq = some (.lst ((row ++ [node]).map nv)) ∧ Ke A L R H H' ∧ H' q = some (.lst ((S.parts node).map nv)))
            ⟨rest, uses, v4, rfl, kp, N10, K10 _ _ T9 TA TL TR, K10 _ _ U9 UA UL UR, K10 _ _ R9 RA RL RR, K10 _ _ W9 WA WL WR, K9.trans K10, q10⟩ (fun r σ H' _ ⟨_, _, _, _, _, _, _, _, _, _, _, h⟩ => SqL.of h) ?_ ?_⟩
          · rintro r z σ H11 hz ⟨ready, uses, v4, rfl, ki11, N11, T11, U11, R11, W11, K11, q11⟩
            obtain ⟨p, hp, rfl⟩ := map_get hz
            have pr := (mem_roots.mp (parts_root ok nb (List.mem_of_getElem? hp))).1
            have hdr : (S.parts node).drop r = p :: (S.parts node).drop (r + 1) := by
              obtain ⟨h1, h2⟩ := List.getElem?_eq_some_iff.mp hp
              rw [List.drop_eq_getElem_cons h1, h2]
            rw [hdr] at ki11
            obtain ⟨u1, kst⟩ := ki11.step ok
            have ki12 := kst (fun j => if j = p then uses p - 1 else uses j) fun j => rfl
            refine ⟨_, rfl, _, rfl, U, _, _, p, rfl, rfl, SqL.of U11, rowN_get uses pr, _, _, rfl, rfl, U, _, _, p, rfl, rfl, U11, ixN_lt (by rw [rowN_len]; exact pr), ?_⟩
            have e1 : (rowN S.n uses).set p (V.int (((uses p : Nat) : Int) - 1)) = rowN S.n fun j => if j = p then uses p - 1 else uses j := by
              rw [← rowN_set]
              congr 1
              show V.int _ = V.int _
              congr 1
              omega
            have U12 : upd H11 U (.lst ((rowN S.n uses).set p (V.int (((uses p : Nat) : Int) - 1)))) U = some (.lst (rowN S.n fun j => if j = p then uses p - 1 else uses j)) := by rw [upd_same, e1]
            have R12 : upd H11 U (.lst ((rowN S.n uses).set p (V.int (((uses p : Nat) : Int) - 1)))) Rq = some (.lst (ready.map nv)) := by rw [upd_ne UR5.symm]; exact R11
            have W12 : upd H11 U (.lst ((rowN S.n uses).set p (V.int (((uses p : Nat) : Int) - 1)))) Wq = some (.lst ((row ++ [node]).map nv)) := by rw [upd_ne UW.symm]; exact W11
            have T12 : upd H11 U (.lst ((rowN S.n uses).set p (V.int (((uses p : Nat) : Int) - 1)))) T = some (.lst (S.roots.map nv)) := by rw [upd_ne UT.symm]; exact T11
            have q12 : upd H11 U (.lst ((rowN S.n uses).set p (V.int (((uses p : Nat) : Int) - 1)))) q = some (.lst ((S.parts node).map nv)) := by rw [upd_ne qU]; exact q11
            have N12 : NdAt CN x A L R S (upd H11 U (.lst ((rowN S.n uses).set p (V.int (((uses p : Nat) : Int) - 1))))) := N11.wr U11 UA UL UR
            have K12 : Ke A L R H (upd H11 U (.lst ((rowN S.n uses).set p (V.int (((uses p : Nat) : Int) - 1))))) := ke_wr K11 nUH
            dsimp only
            generalize upd H11 U (.lst ((rowN S.n uses).set p (V.int (((uses p : Nat) : Int) - 1)))) = H12 at *
            have gp : (rowN S.n fun j => if j = p then uses p - 1 else uses j)[p]? = some (nv (uses p - 1)) := by rw [rowN_get _ pr, if_pos rfl]
            refine ⟨_, rfl, _, rfl, U, _, _, _, rfl, rfl, SqL.of U12, atI_nat gp, rfl, _, rfl, ?_⟩
            by_cases e : uses p = 1
            · rw [if_pos e] at ki12
              have lr : ready.length ≤ S.roots.length := len_nodup ki11.nd fun j hj => ((ki11.mem j).mp hj).1
              refine ifY (by rw [e]; rfl) ⟨_, rfl, .inl ⟨rfl, _, SqL.of R12⟩, _, rfl, Rq, _, _, rfl, rfl, R12, by rw [List.length_map]; exact big _ (by omega), ?_⟩
              exact ⟨ready ++ [p], _, _, rfl, ki12, N12.wr R12 RA RL RR, by rw [upd_ne TR5]; exact T12, by rw [upd_ne UR5]; exact U12, by rw [upd_same, List.map_append]; rfl, by rw [upd_ne RW.symm]; exact W12, ke_wr K12 nRH, by rw [upd_ne qR]; exact q12⟩
            · rw [if_neg e] at ki12
              refine ifN (fun z => e ?_) ⟨ready, _, _, rfl, ki12, N12, T12, U12, R12, W12, K12, q12⟩
              have z : V.int ((uses p - 1 : Nat) : Int) = V.int 0 := z
              have := V.int.inj z
              omega
          · rintro σ H11 ⟨ready, uses, v4, rfl, ki11, N11, T11, U11, R11, W11, K11, q11⟩
            rw [List.length_map, List.drop_length] at ki11
            exact ⟨ready, uses, v4, rfl, ki11, N11, T11, U11, R11, W11, K11⟩
end
end Kk

set_option maxHeartbeats 4000000
/-! knots: how long, written -/
namespace Kk
open PySem PySem.Spec PyProof.Rows L2 Wd
/-- trees at knots -/
structure TrL (S : Sys) (ns : List Nat) (ts : List KT) : Prop where
  len : ns.length = ts.length
  tr : ∀ (k i : Nat) (t : KT), ns[k]? = some i → ts[k]? = some t → i < S.n ∧ Tr S i t
/-- how long a head is, by its parts -/
def lenBy (g : Nat → Nat) (ps : List Nat) : Nat := 1 + (ps.map g).sum
theorem len_parts {S : Sys} (ok : S.Ok) {p m : Nat} {g : Nat → Nat} {t : KT} (hp : p < S.n) (rp : S.rep p = p) (h : Tr S p t) (hg : ∀ q ∈ S.parts p, ∀ u, Tr S q u → g q = min (m + 1) u.ks.length) : min (m + 1) (lenBy g (S.parts p)) = min (m + 1) t.ks.length := by
  unfold lenBy
  cases h with
  | lt h =>
    rw [rp] at h
    have : S.parts p = [] := by unfold Sys.parts; rw [h]
    rw [this]; rfl
  | @to _ l r a b h x y =>
    rw [rp] at h
    obtain ⟨h1, h2⟩ := ok.pl _ _ _ hp h
    have e : S.parts p = [S.rep l, S.rep r] := by unfold Sys.parts; rw [h]
    rw [e] at hg ⊢
    have g1 := hg (S.rep l) (by simp) a (x.cast (ok.rr l h1).symm)
    have g2 := hg (S.rep r) (by simp) b (y.cast (ok.rr r h2).symm)
    simp only [List.map_cons, List.map_nil, List.sum_cons, List.sum_nil, KT.ks, List.length_cons, List.length_append]
    rw [g1, g2]
    omega
theorem ksL_len (ts : List KT) : (ksL ts).length = (ts.map fun t => t.ks.length).sum := by
  induction ts with
  | nil => rfl
  | cons t ts ih => rw [ksL_cons, List.length_append, ih, List.map_cons, List.sum_cons]
theorem min_sum (m : Nat) (f g : Nat → Nat) (l : List Nat) (h : ∀ v ∈ l, f v = min (m + 1) (g v)) : min (m + 1) (l.map f).sum = min (m + 1) (l.map g).sum := by
  induction l with
  | nil => rfl
  | cons a l ih =>
    have ih := ih fun v hv => h v (by simp [hv])
    have ha := h a (by simp)
    simp only [List.map_cons, List.sum_cons]
    rw [ha]
    omega
theorem min_min {m a b : Nat} : min (m + 1) (1 + (min (m + 1) a + min (m + 1) b)) = min (m + 1) (1 + (a + b)) := by omega
section
variable {P : Program} {w : World} {K : PySem.W.Frag} {mg : Str → Option Value} {base : Heap}
def spLonger (C : Addr) : Sp := fun vs H Q _ => ∃ (x A L R rq wq : Addr) (S : Sys) (row ns : List Nat) (ts : List KT) (m : Nat), vs = [.ref x, .ref rq, .ref wq, .int (m : Nat)] ∧ NdAt C x A L R S H ∧ H rq = some (.lst (row.map nv)) ∧ Row S row ∧ H wq = some (.lst (ns.map nv)) ∧ TrL S ns ts ∧ (rq ≠ A ∧ rq ≠ L ∧ rq ≠ R) ∧ (wq ≠ A ∧ wq ≠ L ∧ wq ≠ R) ∧ ns.length ≤ 100000 ∧ m ≤ 1000000 ∧
  ∀ H', NdAt C x A L R S H' → Ke A L R H H' → Q (.bl (decide (m < (ksL ts).length))) H'
abbrev s_nlonger : Stmt := (inClass (top 18) 9)
theorem sc_nlonger : FnScope ["self", "row", "wanted", "most", "lengths", "node", "part"] ["self", "row", "wanted", "most"] (defScope s_nlonger) := ⟨rfl, rfl, rfl, by decide +kernel, rfl, by decide +kernel, by decide +kernel⟩
theorem c_nlonger {CN f : Addr} {fd : FuncData} (B : Bt mg) (pn : PN K mg CN) (F : Fun K "are_longer" "Nodes.are_longer" s_nlonger f fd) (Mhead : Mth P w K mg base CN "head" 1 ["self", "node"] (spHead CN)) (Mparts : Mth P w K mg base CN "parts" 2 ["self", "node"] (spParts CN)) :
    FnOk P w K mg base CX0 3 f fd ["self", "row", "wanted", "most"] (spLonger CN) := by
  refine F.ok sc_nlonger (fun vs H Q E h => ?_) (fun cdv A outer st0 H vs Q E hr h => ?_)
  · obtain ⟨x, A, L, R, rq, wq, S, row, ns, ts, m, rfl, _⟩ := h
    rfl
  · obtain ⟨x, A, L, R, rq, wq, S, row, ns, ts, m, rfl, N0, r0, hrow, w0, tl, ⟨rA, rL, rR⟩, ⟨wA, wL, wR⟩, hns, hm, k⟩ := h
    refine ⟨_, (pss_cons (ps_set (i := 4) sc_nlonger.nd rfl (by first | exact Or.inl rfl | exact Or.inr rfl) (pe_op op_rep (pe_lst (pa_cons pe_int pa_nil)) (pe_callB call_len_seq (by rfl) B.b_len (by decide +kernel) (pa_cons (pe_fld (pv 0) rfl) pa_nil))))
      (pss_cons (ps_for PassesOwn.never rfl (RT.pi_revA (by rfl) B.b_reversed (pv 1)) (pg_name (i := 5) sc_nlonger.nd rfl (by first | exact Or.inl rfl | exact Or.inr rfl)) (pss_one (ps_asg (pe_callB (call_min2 rfl) (by rfl) B.b_min (by decide +kernel) (pa_cons (pe_op op_add (pv 3) pe_int) (pa_cons (pe_op op_add pe_int (pe_callB (cr_sum rfl) (by rfl) B.b_sum (by decide +kernel) (pa_cons (pe_lc (own := [("part", 6)]) (g := (gName 6)) (tt := tYes) (te := (tOp (rIxL K) _ _)) rfl sc_nlonger.nd (pi_list (pe_m1 Mparts pn.cl (hr.mono (by decide)) (pv 0) (pa_cons (pv 5) pa_nil))) (blkOk_by (own := [("part", 6)]) (N := ["self", "row", "wanted", "most", "lengths", "node", "part"]) (sc := defScope s_nlonger) (by decide +kernel)) (fun _ _ _ _ _ => (pg_name (i := 6) sc_nlonger.nd rfl (by first | exact Or.inl rfl | exact Or.inr rfl))) (fun _ _ _ _ _ => pts_nil) (fun _ _ _ _ _ => (pe_ix ix_list (pv 4) (pv 6) (fun _ _ => rfl)))) pa_nil))) pa_nil))) (pg_sub (pv 4) (pv 5) set_list))))
      (pss_one (ps_ret (pe_cmpR op_gt (pe_callB (cr_sum rfl) (by rfl) B.b_sum (by decide +kernel) (pa_cons (pe_lc (own := [("node", 5)]) (g := (gName 5)) (tt := tYes) (te := (tOp (rIxL K) _ _)) rfl sc_nlonger.nd (pi_list (pv 2)) (blkOk_by (own := [("node", 5)]) (N := ["self", "row", "wanted", "most", "lengths", "node", "part"]) (sc := defScope s_nlonger) (by decide +kernel)) (fun _ _ _ _ _ => (pg_name (i := 5) sc_nlonger.nd rfl (by first | exact Or.inl rfl | exact Or.inr rfl))) (fun _ _ _ _ _ => pts_nil) (fun _ _ _ _ _ => (pe_ix ix_list (pv 4) (pe_m1 Mhead pn.cl (hr.mono (by decide)) (pv 0) (pa_cons (pv 5) pa_nil)) (fun _ _ => rfl)))) pa_nil)) (pv 3) (nomark _)))))), ?_⟩
    obtain ⟨⟨dx, hx⟩, ⟨hs, ha, hd⟩, hl, hR, ok, le, n1, n2, n3⟩ := id N0
    have lah : (hs.map nv).length = S.n := by rw [List.length_map]; exact hd.len
    have big : ∀ n : Nat, n ≤ 1000000 → n < sizeLine := fun n h => small_lt (m := 2000000) (by omega) (by decide)
    have off : ∀ {q : Addr}, H q = none → q ≠ A ∧ q ≠ L ∧ q ≠ R := fun n => ⟨(ne_of_none ha n).symm, (ne_of_none hl n).symm, (ne_of_none hR n).symm⟩
    -- lengths
    refine ⟨(by show 1 ≤ sizeLine; decide), fun z nz => ?_⟩
    have S2 := same_upd (o := HO.lst [V.int 1]) nz
    have z2 : upd H z (.lst [.int 1]) z = some (.lst [.int 1]) := upd_same
    generalize upd H z (.lst [.int 1]) = H2 at *
    refine ⟨_, rfl, x, CN, dx, _, _, rfl, S2 _ _ hx, pn.cl, pn.nh, nfs_h A L R, _, _, rfl, .inl (SqL.of (S2 _ _ ha)), z, _, _, rfl, rfl, z2, by omega, by rw [lah]; omega, ?_, fun U nU => ?_⟩
    · rw [lah, sizeLine_eq]; show 1 * _ ≤ _; omega
    have eb : (List.replicate (((hs.map nv).length : Nat) : Int).toNat [V.int 1]).flatten = rowN S.n fun _ => 1 := by
      rw [lah]
      unfold rowN
      show (List.replicate S.n [V.int 1]).flatten = (List.range S.n).map fun _ => V.int 1
      rw [List.map_const', List.length_range]
      induction S.n with
      | zero => rfl
      | succ n ih => rw [List.replicate_succ, List.flatten_cons, ih, List.replicate_succ]; rfl
    rw [eb]
    have S3 : Same H (upd H2 U (.lst (rowN S.n fun _ => 1))) := S2.trans (same_upd nU)
    have U3 : upd H2 U (.lst (rowN S.n fun _ => 1)) U = some (.lst (rowN S.n fun _ => 1)) := upd_same
    have N3 := N0.same S3
    have nUH : H U = none := S2.free nU
    obtain ⟨UA, UL, UR⟩ := off nUH
    have Ur : U ≠ rq := (ne_of_none r0 nUH).symm
    have Uw : U ≠ wq := (ne_of_none w0 nUH).symm
    generalize upd H2 U (.lst (rowN S.n fun _ => 1)) = H3 at *
    clear S2 z2 nz nU
    have fin := hrow.fin ok
    have lrow : (row.map nv).length = row.length := List.length_map ..
    refine ⟨_, rfl, rq, row.map nv, rfl, .inl ⟨SqL.of (S3 _ _ r0), RT.for_Itv (K := K) (a := rq) (xs := row.map nv) (fun i σ H' => ∃ (g : Nat → Nat) (v5 v6 : Option V), σ = [some (.ref x), some (.ref rq), some (.ref wq), some (.int (m : Nat)), some (.ref U), v5, v6] ∧ NdAt CN x A L R S H' ∧ H' rq = some (.lst (row.map nv)) ∧ H' wq = some (.lst (ns.map nv)) ∧ H' U = some (.lst (rowN S.n g)) ∧ Ke A L R H H' ∧ ∀ p ∈ row.drop (row.length - i), ∀ t, Tr S p t → g p = min (m + 1) t.ks.length)
      ⟨_, none, none, rfl, N3, S3 _ _ r0, S3 _ _ w0, U3, Same.ke S3, fun p hp => absurd hp (by rw [Nat.sub_zero, List.drop_length]; simp)⟩ (fun i σ H' ⟨_, _, _, _, _, h, _⟩ => SqL.of h) ?_ ?_⟩⟩
    · rintro i z σ H4 hi hz ⟨g, v5, v6, rfl, N4, r4, w4, U4, K4, hg⟩
      rw [lrow] at hi hz
      obtain ⟨p, hp, rfl⟩ := map_get hz
      have pr := mem_roots.mp ((hrow.mem p).mp (List.mem_of_getElem? hp))
      obtain ⟨dx4, hx4⟩ := id N4.ins
      refine ⟨_, rfl, _, _, rfl, rfl, _, rfl, x, dx4, _, rfl, hx4, nfs_no A L R (by decide +kernel) (by decide +kernel) (by decide +kernel), _, rfl, x, A, L, R, S, p, rfl, N4, pr.1, fun H5 q N5 K5 nq q5 off5 => ?_⟩
      have U5 := K5 _ _ U4 UA UL UR
      have pp : ∀ q ∈ S.parts p, q < S.n := fun q hq => (mem_roots.mp (parts_root ok pr.1 hq)).1
      refine ⟨q, rfl, ⟨_, SqL.of q5⟩, fun D nD => lc_fmL (f := nv) (r := fun v => some (nv (g v))) (SqL.of q5) nD ?_ (fun i v H' Qy Qn hv S6 gy gn => ?_) (fun H6 S6 L6 => ?_)⟩
      · have : (S.parts p).length ≤ 2 := by
          unfold Sys.parts
          cases S.prs p with
          | none => simp
          | some lr => simp
        omega
      · exact ⟨rfl, _, rfl, _, rfl, U, _, _, _, rfl, rfl, SqL.of (S6 _ _ U5), atI_nat (rowN_get g (pp v (List.mem_of_getElem? hv))), gy _ _ (Same.refl _) rfl⟩
      rw [map_some'] at L6
      have eL : (S.parts p).map (fun v => nv (g v)) = ((S.parts p).map fun v => ((g v : Nat) : Int)).map V.int := by rw [List.map_map]; rfl
      rw [eL] at L6
      refine ⟨D, _, rfl, SqL.of L6, _, _, rfl, rfl, _, _, rfl, ?_⟩
      have es : (((S.parts p).map fun v => ((g v : Nat) : Int))).sum = ((((S.parts p).map g).sum : Nat) : Int) := by
        generalize S.parts p = l
        induction l with
        | nil => rfl
        | cons a l ih => simp only [List.map_cons, List.sum_cons]; rw [ih]; omega
      rw [es]
      have em : (if (1 : Int) + ((((S.parts p).map g).sum : Nat) : Int) < ((m : Nat) : Int) + 1 then (1 : Int) + ((((S.parts p).map g).sum : Nat) : Int) else ((m : Nat) : Int) + 1) = ((min (m + 1) (lenBy g (S.parts p)) : Nat) : Int) := by
        unfold lenBy
        split <;> omega
      rw [em]
      have U6 := S6 _ _ U5
      have N6 := N5.same S6
      refine ⟨_, rfl, _, rfl, U, _, _, p, rfl, rfl, U6, ixN_lt (by rw [rowN_len]; exact pr.1), ?_⟩
      refine ⟨fun j => if j = p then min (m + 1) (lenBy g (S.parts p)) else g j, _, _, rfl, N6.wr U6 UA UL UR, ?_, ?_, by rw [upd_same]; exact congrArg (fun l => some (HO.lst l)) (rowN_set _ _ _ _), ke_wr (K4.trans (K5.trans (Same.ke S6))) nUH, fun p' hp' t ht => ?_⟩
      · rw [upd_ne Ur.symm]; exact S6 _ _ (K5 _ _ r4 rA rL rR)
      · rw [upd_ne Uw.symm]; exact S6 _ _ (K5 _ _ w4 wA wL wR)
      have hi2 : row.length - (i + 1) < row.length := by omega
      have hdr : row.drop (row.length - (i + 1)) = p :: row.drop (row.length - i) := by
        have e1 : row.length - 1 - i = row.length - (i + 1) := by omega
        rw [e1] at hp
        obtain ⟨h1, h2⟩ := List.getElem?_eq_some_iff.mp hp
        rw [List.drop_eq_getElem_cons h1, h2]
        congr 2
        omega
      rw [hdr] at hp'
      have sp : row = row.take (row.length - (i + 1)) ++ p :: row.drop (row.length - i) := by
        rw [← hdr, List.take_append_drop]
      have below : ∀ q ∈ S.parts p, q ∈ row.drop (row.length - i) := hrow.dn _ p _ sp
      have pn : p ∉ row.drop (row.length - i) := by
        have := hrow.nd
        rw [sp] at this
        exact (List.nodup_cons.mp (List.nodup_append.mp this).2.1).1
      show (if p' = p then _ else g p') = _
      rcases List.mem_cons.mp hp' with z | z
      · subst z
        rw [if_pos rfl]
        exact len_parts ok pr.1 pr.2 ht fun q hq u hu => hg q (below q hq) u hu
      · have ne : ¬ p' = p := fun e => pn (by rw [← e]; exact z)
        rw [if_neg ne]
        exact hg p' z t ht
    · rintro σ H4 ⟨g, v5, v6, rfl, N4, r4, w4, U4, K4, hg⟩
      rw [lrow, Nat.sub_self, List.drop_zero] at hg
      have gr : ∀ i, i < S.n → ∀ t, Tr S i t → g (S.rep i) = min (m + 1) t.ks.length := fun i hi t ht => hg _ ((hrow.mem _).mpr (mem_roots.mpr ⟨ok.rl i hi, ok.rr i hi⟩)) t (ht.cast (ok.rr i hi).symm)
      have nb : ∀ {i v : Nat}, ns[i]? = some v → v < S.n ∧ ∃ t, ts[i]? = some t ∧ Tr S v t := fun {i v} hv => by
        have hi := (List.getElem?_eq_some_iff.mp hv).1
        have ht : ts[i]? = some (ts[i]'(by rw [← tl.len]; exact hi)) := List.getElem?_eq_getElem _
        obtain ⟨h1, h2⟩ := tl.tr i v _ hv ht
        exact ⟨h1, _, ht, h2⟩
      refine ⟨_, rfl, wq, rfl, ⟨_, SqL.of w4⟩, fun D nD => ?_⟩
      have offz : ∀ {Hz : Hp} {q : Addr}, NdAt CN x A L R S Hz → Hz q = none → q ≠ A ∧ q ≠ L ∧ q ≠ R := fun N n => ⟨(ne_of_none N.a.choose_spec.1 n).symm, (ne_of_none N.l n).symm, (ne_of_none N.r n).symm⟩
      obtain ⟨DA, DL, DR⟩ := offz N4 nD
      have S5 := same_upd (o := HO.lst []) nD
      have Dw : D ≠ wq := (ne_of_none w4 nD).symm
      have DU : D ≠ U := (ne_of_none U4 nD).symm
      have nDH : H D = none := by
        cases h : H D with
        | none => rfl
        | some o => rw [K4 D o h DA DL DR] at nD; cases nD
      refine lc_list (K := K) (a := wq) (xs := ns.map nv) (fun i H' => NdAt CN x A L R S H' ∧ H' wq = some (.lst (ns.map nv)) ∧ H' U = some (.lst (rowN S.n g)) ∧ Ke A L R H H' ∧ H' D = some (.lst ((ns.take i).map fun v => nv (g (S.rep v))))) ⟨N4.same S5, S5 _ _ w4, S5 _ _ U4, K4.trans (Same.ke S5), upd_same⟩ (fun i H' _ h => SqL.of h.2.1) ?_ ?_
      · rintro i z H6 hz ⟨N6, w6, U6, K6, D6⟩
        obtain ⟨v, hv, rfl⟩ := map_get hz
        obtain ⟨vb, t, _, ht⟩ := nb hv
        obtain ⟨dx6, hx6⟩ := id N6.ins
        refine ⟨rfl, _, rfl, _, rfl, x, dx6, _, rfl, hx6, nfs_no A L R (by decide +kernel) (by decide +kernel) (by decide +kernel), _, rfl, x, A, L, R, S, v, rfl, N6, vb, fun H7 N7 K7 => ?_⟩
        have U7 := K7 _ _ U6 UA UL UR
        have D7 := K7 _ _ D6 DA DL DR
        refine ⟨U, _, _, _, rfl, rfl, SqL.of U7, atI_nat (rowN_get g (ok.rl v vb)), _, D7, ?_, N7.wr D7 DA DL DR, ?_, ?_, ke_wr (K6.trans K7) nDH, ?_⟩
        · rw [List.length_map, List.length_take]; exact big _ (by omega)
        · rw [upd_ne Dw.symm]; exact K7 _ _ w6 wA wL wR
        · rw [upd_ne DU.symm]; exact U7
        · rw [upd_same, List.take_add_one, hv, List.map_append]; rfl
      · rintro H6 ⟨N6, w6, U6, K6, D6⟩
        rw [List.length_map, List.take_length] at D6
        have eL : ns.map (fun v => nv (g (S.rep v))) = (ns.map fun v => ((g (S.rep v) : Nat) : Int)).map V.int := by rw [List.map_map]; rfl
        rw [eL] at D6
        refine ⟨D, _, rfl, SqL.of D6, _, rfl, _, _, rfl, rfl, ?_⟩
        have es : ∀ l : List Nat, (l.map fun v => ((g (S.rep v) : Nat) : Int)).sum = (((l.map fun v => g (S.rep v)).sum : Nat) : Int) := fun l => by
          induction l with
          | nil => rfl
          | cons a l ih => simp only [List.map_cons, List.sum_cons]; rw [ih]; omega
        rw [es]
        have h2 : (ns.map fun v => g (S.rep v)) = ts.map fun t => min (m + 1) t.ks.length := by
          refine List.ext_getElem? fun i => ?_
          rw [List.getElem?_map, List.getElem?_map]
          cases e1 : ns[i]? with
          | none =>
            have : ts[i]? = none := by rw [List.getElem?_eq_none_iff] at e1 ⊢; have := tl.len; omega
            rw [this]; rfl
          | some v =>
            obtain ⟨vb, t, e2, ht⟩ := nb e1
            rw [e2]
            exact congrArg some (gr v vb t ht)
        have h3 : min (m + 1) (ts.map fun t => min (m + 1) t.ks.length).sum = min (m + 1) (ts.map fun t => t.ks.length).sum := by
          generalize ts = l
          induction l with
          | nil => rfl
          | cons a l ih => simp only [List.map_cons, List.sum_cons]; omega
        have k2 := k H6 N6 K6
        rw [ksL_len] at k2
        rw [h2]
        generalize (ts.map fun t => min (m + 1) t.ks.length).sum = s1 at h3 ⊢
        generalize (ts.map fun t => t.ks.length).sum = s2 at h3 k2
        show Q (V.bl (decide (((m : Nat) : Int) < ((s1 : Nat) : Int)))) H6
        by_cases e : m < s2
        · rw [decide_eq_true e] at k2
          rw [decide_eq_true (show ((m : Nat) : Int) < ((s1 : Nat) : Int) by omega)]
          exact k2
        · rw [decide_eq_false e] at k2
          rw [decide_eq_false (show ¬ ((m : Nat) : Int) < ((s1 : Nat) : Int) by omega)]
          exact k2
end
end Kk

set_option maxHeartbeats 4000000
/-! knots: written out -/
namespace Kk
open PySem PySem.Spec PyProof.Rows L2 Wd
theorem mem_ksL_len {t : KT} : ∀ {ts : List KT}, t ∈ ts → t.ks.length ≤ (ksL ts).length
  | [], h => absurd h (by simp)
  | a :: ts, h => by
    rw [ksL_cons, List.length_append]
    rcases List.mem_cons.mp h with e | e
    · rw [e]; omega
    · have := mem_ksL_len e; omega
theorem len_ksL : ∀ ts : List KT, ts.length ≤ (ksL ts).length
  | [] => Nat.le_refl _
  | t :: ts => by
    have := t.pos
    have := len_ksL ts
    rw [ksL_cons, List.length_append, List.length_cons]
    omega
theorem known_len : ∀ (l : List KW) (k : List Nat), (knownG k l).length ≤ k.length + l.length
  | [], k => by simp [knownG]
  | .to :: l, k => by have := known_len l k; simp only [knownG, List.length_cons]; omega
  | .lt n :: l, k => by
    simp only [knownG, List.length_cons]
    split
    · have := known_len l k; omega
    · have := known_len l (k ++ [n]); simp at this; omega
/-- letters that have their numbers -/
structure KnD (kvs : List (Key × V)) (kn : List Nat) : Prop where
  get : ∀ n : Nat, valV kvs (.inl (n : Int)) = if n ∈ kn then some (nv (kn.idxOf n)) else none
  len : kvs.length = kn.length
theorem KnD.start : KnD [] [] := ⟨fun n => by simp [valV], rfl⟩
theorem KnD.put {kvs : List (Key × V)} {kn : List Nat} (h : KnD kvs kn) {x : Nat} (hx : x ∉ kn) : KnD (putK kvs (.inl (x : Int)) (nv kn.length)) (kn ++ [x]) := by
  have e : valV kvs (.inl (x : Int)) = none := by rw [h.get, if_neg hx]
  refine ⟨fun n => ?_, ?_⟩
  · rw [valV_put]
    by_cases q : n = x
    · subst q
      rw [if_pos rfl, if_pos (by simp), List.idxOf_append, if_neg hx]
      simp
    · have : ¬ (Sum.inl ((n : Nat) : Int) : Key) = Sum.inl ((x : Nat) : Int) := fun z => q (by have := Sum.inl.inj z; omega)
      rw [if_neg this, h.get]
      by_cases z : n ∈ kn
      · rw [if_pos z, if_pos (by simp [z]), List.idxOf_append, if_pos z]
      · rw [if_neg z, if_neg (by simp [z, q])]
  · rw [putK_new e, List.length_append, List.length_append, h.len]; rfl
/-- the words of each kind, numbered all together -/
def numL (kn : List Nat) : List KT → List (List KW)
  | [] => []
  | t :: ts => numG kn t.ks :: numL (knownG kn t.ks) ts
theorem numL_len : ∀ (ts : List KT) (kn : List Nat), (numL kn ts).length = ts.length
  | [], _ => rfl
  | t :: ts, kn => by simp [numL, numL_len ts]
theorem numL_get : ∀ (ts : List KT) (kn : List Nat) (k : Nat) (t : KT), ts[k]? = some t → (numL kn ts)[k]? = some (numG (knownG kn (ksL (ts.take k))) t.ks)
  | [], _, k, t, h => by simp at h
  | a :: ts, kn, 0, t, h => by cases h; rfl
  | a :: ts, kn, k + 1, t, h => by
    have := numL_get ts (knownG kn a.ks) k t h
    simp only [numL, List.getElem?_cons_succ, List.take_succ_cons, ksL_cons]
    rw [this, known_app]
theorem KdAt.ke {CK y A L R : Addr} {H H' : Hp} {r : List KW} (h : KdAt CK H y r) (k : Ke A L R H H') (a : ∃ xs, H A = some (.lst xs)) (l : ∃ xs, H L = some (.lst xs)) (rr : ∃ xs, H R = some (.lst xs)) : KdAt CK H' y r := by
  obtain ⟨b, ⟨dx, e⟩, ⟨o, t, d⟩⟩ := h
  have n1 : ∀ {c : Addr}, (∃ xs, H c = some (.lst xs)) → y ≠ c := fun ⟨xs, hc⟩ z => by rw [z, hc] at e; cases e
  have n2 : ∀ {c : Addr}, (∃ xs, H c = some (.lst xs)) → b ≠ c := fun ⟨xs, hc⟩ z => by rw [z, hc] at t; cases t
  exact ⟨b, ⟨dx, k _ _ e (n1 a) (n1 l) (n1 rr)⟩, ⟨o, k _ _ t (n2 a) (n2 l) (n2 rr), d⟩⟩
section
variable {P : Program} {w : World} {K : PySem.W.Frag} {mg : Str → Option Value} {base : Heap}
def WrV (CK A L R : Addr) (rs : List (List KW)) (H H' : Hp) (v : V) : Prop := ∃ (q : Addr) (ys : List Addr), v = .ref q ∧ H' q = some (.lst (ys.map V.ref)) ∧ ys.length = rs.length ∧ (∀ (k : Nat) (y : Addr) (r : List KW), ys[k]? = some y → rs[k]? = some r → KdAt CK H' y r) ∧ H q = none ∧ q ≠ A ∧ q ≠ L ∧ q ≠ R
def spWritten (C CK : Addr) : Sp := fun vs H Q _ => ∃ (x A L R wq : Addr) (S : Sys) (ns : List Nat) (ts : List KT), vs = [.ref x, .ref wq] ∧ NdAt C x A L R S H ∧ H wq = some (.lst (ns.map nv)) ∧ TrL S ns ts ∧ (wq ≠ A ∧ wq ≠ L ∧ wq ≠ R) ∧ (ksL ts).length ≤ 1000000 ∧
  ∀ H' v, NdAt C x A L R S H' → Ke A L R H H' → WrV CK A L R (numL [] ts) H H' v → Q v H'
abbrev s_nwritten : Stmt := (inClass (top 18) 10)
theorem sc_nwritten : FnScope ["self", "wanted", "letters", "found", "start", "words", "waiting", "node"] ["self", "wanted"] (defScope s_nwritten) := ⟨rfl, rfl, rfl, by decide +kernel, rfl, by decide +kernel, by decide +kernel⟩
theorem c_nwritten {CN CK f : Addr} {fd : FuncData} (B : Bt mg) (pn : PN K mg CN) (pk : PK K mg CK) (F : Fun K "written" "Nodes.written" s_nwritten f fd) (Mhead : Mth P w K mg base CN "head" 1 ["self", "node"] (spHead CN)) (Ckind_of : Cal P w K mg base "kind_of" 6 ["words"] (spKindOf CK)) :
    FnOk P w K mg base CX0 7 f fd ["self", "wanted"] (spWritten CN CK) := by
  refine F.ok sc_nwritten (fun vs H Q E h => ?_) (fun cdv A outer st0 H vs Q E hr h => ?_)
  · obtain ⟨x, A, L, R, wq, S, ns, ts, rfl, _⟩ := h
    rfl
  · obtain ⟨x, A, L, R, wq, S, ns, ts, rfl, N0, w0, tl, ⟨wA, wL, wR⟩, hks, k⟩ := h
    refine ⟨_, (pss_cons (ps_set (i := 2) sc_nwritten.nd rfl (by first | exact Or.inl rfl | exact Or.inr rfl) pe_dnewK)
      (pss_cons (ps_set (i := 3) sc_nwritten.nd rfl (by first | exact Or.inl rfl | exact Or.inr rfl) (pe_lst pa_nil))
      (pss_cons (ps_for PassesOwn.never rfl (pi_list (pv 1)) (pg_name (i := 4) sc_nwritten.nd rfl (by first | exact Or.inl rfl | exact Or.inr rfl)) (pss_cons (ps_set (i := 5) sc_nwritten.nd rfl (by first | exact Or.inl rfl | exact Or.inr rfl) (pe_lst pa_nil))
      (pss_cons (ps_set (i := 6) sc_nwritten.nd rfl (by first | exact Or.inl rfl | exact Or.inr rfl) (pe_lst (pa_cons (pv 4) pa_nil)))
      (pss_cons (ps_while PassesOwn.never (pt_truth (pv 6) (by intro _; rfl)) (pss_cons (ps_set (i := 7) sc_nwritten.nd rfl (by first | exact Or.inl rfl | exact Or.inr rfl) (pe_m1 Mhead pn.cl (hr.mono (by decide)) (pv 0) (pa_cons (pe_bm0 PySem.F.plainAttrs_list PySem.F.slot_list_pop PySem.F.type_list_pop mt_pop (pv 6)) pa_nil)))
      (pss_one (ps_if (pt_cmpR op_isN (pe_ix ix_list (pe_fld (pv 0) rfl) (pv 7) (fun _ _ => rfl)) pe_non (nomark _)) (pss_one (ps_expr (pe_bm PySem.F.plainAttrs_list PySem.F.slot_list_append PySem.F.type_list_append mt_append (pv 5) (pa_cons (pe_dsetd (pv 2) (pv 7) (pe_callB call_lenD (by rfl) B.b_len (by decide +kernel) (pa_cons (pv 2) pa_nil)) ⟨by rfl, by rfl, by rfl, by rfl⟩) pa_nil)))) (pss_cons (ps_expr (pe_bm PySem.F.plainAttrs_list PySem.F.slot_list_append PySem.F.type_list_append mt_append (pv 5) (pa_cons (pe_gs B.m_INTO) pa_nil)))
      (pss_one (ps_expr (pe_bm PySem.F.plainAttrs_list PySem.F.slot_list_extend PySem.F.type_list_extend mt_extend (pv 6) (pa_cons (pe_lst (pa_cons (pe_ix ix_list (pe_fld (pv 0) rfl) (pv 7) (fun _ _ => rfl)) (pa_cons (pe_ix ix_list (pe_fld (pv 0) rfl) (pv 7) (fun _ _ => rfl)) pa_nil))) pa_nil)))))))))
      (pss_one (ps_expr (pe_bm PySem.F.plainAttrs_list PySem.F.slot_list_append PySem.F.type_list_append mt_append (pv 3) (pa_cons (pe_c Ckind_of (hr.mono (by decide)) (pa_cons (pe_callTy call_tupleF (by rfl) B.b_tuple (by decide +kernel) (pa_cons (pv 5) pa_nil)) pa_nil)) pa_nil))))))))
      (pss_one (ps_ret (pv 3)))))), ?_⟩
    obtain ⟨⟨dx, hx⟩, ⟨hs, ha, hd⟩, hl, hR, ok, le, n1, n2, n3⟩ := id N0
    have big : ∀ n : Nat, n ≤ 3000000 → n < sizeLine := fun n h => small_lt (m := 4000000) (by omega) (by decide)
    have off : ∀ {q : Addr}, H q = none → q ≠ A ∧ q ≠ L ∧ q ≠ R := fun n => ⟨(ne_of_none ha n).symm, (ne_of_none hl n).symm, (ne_of_none hR n).symm⟩
    have offz : ∀ {Hz : Hp} {q : Addr}, NdAt CN x A L R S Hz → Hz q = none → q ≠ A ∧ q ≠ L ∧ q ≠ R := fun N n => ⟨(ne_of_none N.a.choose_spec.1 n).symm, (ne_of_none N.l n).symm, (ne_of_none N.r n).symm⟩
    have lsA : ∀ {Hz : Hp}, NdAt CN x A L R S Hz → (∃ xs, Hz A = some (.lst xs)) ∧ (∃ xs, Hz L = some (.lst xs)) ∧ ∃ xs, Hz R = some (.lst xs) := fun N => ⟨⟨_, N.a.choose_spec.1⟩, ⟨_, N.l⟩, ⟨_, N.r⟩⟩
    refine fun D nD => ?_
    have S1 := same_upd (o := HO.dK []) nD
    have D1 : upd H D (.dK []) D = some (.dK []) := upd_same
    have N1 := N0.same S1
    have w1 := S1 _ _ w0
    obtain ⟨DA, DL, DR⟩ := off nD
    have Dw : D ≠ wq := (ne_of_none w0 nD).symm
    generalize upd H D (.dK []) = H1 at *
    refine ⟨Nat.zero_le _, fun Fq nF => ?_⟩
    have S2 := same_upd (o := HO.lst []) nF
    have F2 : upd H1 Fq (.lst []) Fq = some (.lst []) := upd_same
    have N2 := N1.same S2
    have w2 := S2 _ _ w1
    have D2 := S2 _ _ D1
    have nFH : H Fq = none := S1.free nF
    obtain ⟨FA, FL, FR⟩ := off nFH
    have Fw : Fq ≠ wq := (ne_of_none w1 nF).symm
    have FD : Fq ≠ D := (ne_of_none D1 nF).symm
    have S12 := S1.trans S2
    generalize upd H1 Fq (.lst []) = H2 at *
    refine ⟨_, rfl, wq, rfl, ⟨_, SqL.of w2⟩, for_list (K := K) (a := wq) (xs := ns.map nv) (fun i σ H' => ∃ (kvs : List (Key × V)) (kn : List Nat) (ys : List Addr) (v4 v5 v6 v7 : Option V), σ = [some (.ref x), some (.ref wq), some (.ref D), some (.ref Fq), v4, v5, v6, v7] ∧ NdAt CN x A L R S H' ∧ H' wq = some (.lst (ns.map nv)) ∧ H' D = some (.dK kvs) ∧ KnD kvs kn ∧ kn = knownG [] (ksL (ts.take i)) ∧ H' Fq = some (.lst (ys.map V.ref)) ∧ ys.length = i ∧ (∀ (k : Nat) (y : Addr) (r : List KW), ys[k]? = some y → (numL [] ts)[k]? = some r → KdAt CK H' y r) ∧ Ke A L R H H')
      ⟨[], [], [], none, none, none, none, rfl, N2, w2, D2, KnD.start, rfl, F2, rfl, fun k y r h => by simp at h, Same.ke S12⟩ (fun i σ H' _ ⟨_, _, _, _, _, _, _, _, _, h, _⟩ => SqL.of h) ?_ ?_⟩
    · rintro i z σ H3 hz ⟨kvs, kn, ys, v4, v5, v6, v7, rfl, N3, w3, D3, kd3, ekn, F3, hys, hkd, K3⟩
      obtain ⟨v, hv, rfl⟩ := map_get hz
      have hi := (List.getElem?_eq_some_iff.mp hv).1
      have ht : ts[i]? = some (ts[i]'(by rw [← tl.len]; exact hi)) := List.getElem?_eq_getElem _
      generalize ts[i]'(by rw [← tl.len]; exact hi) = t at ht
      obtain ⟨vb, htr⟩ := tl.tr i v t hv ht
      have tle : t.ks.length ≤ (ksL ts).length := mem_ksL_len (List.mem_of_getElem? ht)
      have knle : (knownG [] (ksL (ts.take i))).length ≤ (ksL ts).length := by
        have h2 := known_len (ksL (ts.take i)) []
        have h3 : (ksL (ts.take i)).length ≤ (ksL ts).length := by
          have : ksL ts = ksL (ts.take i) ++ ksL (ts.drop i) := by
            unfold ksL
            rw [← List.flatMap_append, List.take_append_drop]
          rw [this, List.length_append]
          omega
        simp at h2
        omega
      refine ⟨Nat.zero_le _, fun Wd' nWd => ?_⟩
      have S4 := same_upd (o := HO.lst []) nWd
      have d4 : upd H3 Wd' (.lst []) Wd' = some (.lst []) := upd_same
      have N4 := N3.same S4
      have w4 := S4 _ _ w3
      have D4 := S4 _ _ D3
      have F4 := S4 _ _ F3
      obtain ⟨WdA, WdL, WdR⟩ := offz N3 nWd
      have Wdw : Wd' ≠ wq := (ne_of_none w3 nWd).symm
      have WdD : Wd' ≠ D := (ne_of_none D3 nWd).symm
      have WdF : Wd' ≠ Fq := (ne_of_none F3 nWd).symm
      have nWdH : H Wd' = none := by
        cases h : H Wd' with
        | none => rfl
        | some o => rw [K3 Wd' o h WdA WdL WdR] at nWd; cases nWd
      have hkd4 : ∀ (k : Nat) (y : Addr) (r : List KW), ys[k]? = some y → (numL [] ts)[k]? = some r → KdAt CK (upd H3 Wd' (.lst [])) y r := fun k y r h1 h2 => (hkd k y r h1 h2).same S4
      have K4 := K3.trans (Same.ke S4)
      generalize upd H3 Wd' (.lst []) = H4 at *
      refine ⟨_, rfl, (by show 1 ≤ sizeLine; decide), fun Wt nWt => ?_⟩
      have S5 := same_upd (o := HO.lst [nv v]) nWt
      have t5 : upd H4 Wt (.lst [nv v]) Wt = some (.lst [nv v]) := upd_same
      have d5 := S5 _ _ d4
      have N5 := N4.same S5
      have w5 := S5 _ _ w4
      have D5 := S5 _ _ D4
      have F5 := S5 _ _ F4
      obtain ⟨WtA, WtL, WtR⟩ := offz N4 nWt
      have Wtw : Wt ≠ wq := (ne_of_none w4 nWt).symm
      have WtD : Wt ≠ D := (ne_of_none D4 nWt).symm
      have WtF : Wt ≠ Fq := (ne_of_none F4 nWt).symm
      have Wtd : Wt ≠ Wd' := (ne_of_none d4 nWt).symm
      have nWtH : H Wt = none := by
        cases h : H Wt with
        | none => rfl
        | some o => rw [K4 Wt o h WtA WtL WtR] at nWt; cases nWt
      have hkd5 : ∀ (k : Nat) (y : Addr) (r : List KW), ys[k]? = some y → (numL [] ts)[k]? = some r → KdAt CK (upd H4 Wt (.lst [nv v])) y r := fun k y r h1 h2 => (hkd4 k y r h1 h2).same S5
      have K5 := K4.trans (Same.ke S5)
      generalize upd H4 Wt (.lst [nv v]) = H5 at *
      refine ⟨fun m σ H' => ∃ (ws : List KW) (st : List Nat) (us : List KT) (kvs : List (Key × V)) (kn2 : List Nat) (v7 : Option V), σ = [some (.ref x), some (.ref wq), some (.ref D), some (.ref Fq), some (nv v), some (.ref Wd'), some (.ref Wt), v7] ∧ m = (ksL us).length ∧ NdAt CN x A L R S H' ∧ H' wq = some (.lst (ns.map nv)) ∧ H' D = some (.dK kvs) ∧ KnD kvs kn2 ∧ H' Fq = some (.lst (ys.map V.ref)) ∧ (∀ (k : Nat) (y : Addr) (r : List KW), ys[k]? = some y → (numL [] ts)[k]? = some r → KdAt CK H' y r) ∧ Ke A L R H H' ∧ H' Wd' = some (.lst (ws.map kv)) ∧ H' Wt = some (.lst (st.reverse.map nv)) ∧ TrL S st us ∧ numG kn t.ks = ws ++ numG kn2 (ksL us) ∧ knownG kn t.ks = knownG kn2 (ksL us) ∧ kn2.length ≤ kn.length + ws.length, ⟨_, [], [v], [t], kvs, kn, v7, rfl, rfl, N5, w5, D5, kd3, F5, hkd5, K5, d5, t5, ⟨rfl, fun k i u h1 h2 => ?_⟩, ?_, ?_, by simp⟩, ?_⟩
      · cases k with
        | zero => cases h1; cases h2; exact ⟨vb, htr⟩
        | succ k => simp at h1
      · simp [ksL]
      · simp [ksL]
      rintro m σ H6 ⟨ws, st, us, kvs, kn2, v7, rfl, rfl, N6, w6, D6, kd6, F6, hkd6, K6, d6, t6, tl6, en, ek, lk6⟩
      refine ⟨_, rfl, _, .inl ⟨_, SqL.of t6, rfl⟩, ?_⟩
      have lws : ws.length ≤ (ksL ts).length := by
        have := congrArg List.length en
        rw [numG_len, List.length_append] at this
        omega
      cases us with
      | nil =>
        have : st = [] := List.length_eq_zero_iff.mp tl6.len
        subst this
        refine ite2 (fun e => by simp at e) (fun _ => ?_)
        have en : numG kn t.ks = ws := by rw [en]; simp [ksL, numG]
        have ek : knownG kn t.ks = kn2 := ek
        refine ⟨_, rfl, .inl ⟨rfl, _, SqL.of F6⟩, _, rfl, Wd', _, rfl, SqL.of d6, fun tq o ntq dtq => ?_⟩
        have S7 := same_upd (o := HO.frz o (.tup (ws.map kv))) ntq
        have T7 : TupF (upd H6 tq (.frz o (.tup (ws.map kv)))) tq (ws.map kv) := TupF.new dtq
        have N7 := N6.same S7
        refine ⟨tq, rfl, fun H8 y S8 ny KY => ?_⟩
        have S68 := S7.trans S8
        have F8 := S68 _ _ F6
        have N8 := N6.same S68
        have KD : KdAt CK H8 y ws := ⟨tq, KY, T7.same S8⟩
        have lF : ys.length ≤ (ksL ts).length := by
          have h1 := len_ksL ts
          have := tl.len
          omega
        refine ⟨Fq, _, _, rfl, rfl, F8, by rw [List.length_map]; exact big _ (by omega), ?_⟩
        refine ⟨kvs, kn2, ys ++ [y], _, _, _, _, rfl, N8.wr F8 FA FL FR, by rw [upd_ne Fw.symm]; exact S68 _ _ w6, by rw [upd_ne FD.symm]; exact S68 _ _ D6, kd6, ?_, by rw [upd_same, List.map_append]; rfl, by simp [hys], ?_, ke_wr (K6.trans (Same.ke S68)) nFH⟩
        · rw [List.take_add_one, ht]
          have : ksL (ts.take i ++ [t]) = ksL (ts.take i) ++ t.ks := by simp [ksL]
          show kn2 = knownG [] (ksL (ts.take i ++ [t]))
          rw [this, known_app, ← ekn, ek]
        · intro k' y' r' h1 h2
          have fr : ∀ {z : Addr} {r : List KW}, KdAt CK H8 z r → KdAt CK (upd H8 Fq (.lst (ys.map V.ref ++ [V.ref y]))) z r := fun h => h.but F8 nu_lst fun b o hb hn => by rw [upd_ne hn]; exact hb
          rcases Nat.lt_or_ge k' ys.length with q | q
          · rw [List.getElem?_append_left q] at h1
            exact fr ((hkd6 k' y' r' h1 h2).same S68)
          · rw [List.getElem?_append_right q] at h1
            have : k' - ys.length = 0 := by
              rcases Nat.eq_zero_or_pos (k' - ys.length) with z | z
              · exact z
              · rw [List.getElem?_eq_none (by simp; omega)] at h1; cases h1
            rw [this] at h1
            have e1 : y = y' := by simpa using h1
            have e2 : k' = i := by omega
            subst e1
            subst e2
            rw [numL_get ts [] k' t ht, ← ekn, en] at h2
            cases h2
            exact fr KD
      | cons u us =>
        obtain ⟨c, st, rfl⟩ : ∃ c st', st = c :: st' := by
          cases st with
          | nil => have := tl6.len; simp at this
          | cons c st => exact ⟨c, st, rfl⟩
        refine ite2 (fun _ => ?_) (fun e => absurd (by simp) e)
        obtain ⟨cb, ctr⟩ := tl6.tr 0 c u rfl rfl
        have tl7 : TrL S st us := ⟨by have := tl6.len; simpa using this, fun k i t h1 h2 => tl6.tr (k + 1) i t h1 h2⟩
        refine ⟨fun σ' H' => ∃ (ws : List KW) (st : List Nat) (us' : List KT) (kvs : List (Key × V)) (kn2 : List Nat) (v7 : Option V), (ksL us').length < (ksL (u :: us)).length ∧ σ' = [some (.ref x), some (.ref wq), some (.ref D), some (.ref Fq), some (nv v), some (.ref Wd'), some (.ref Wt), v7] ∧ NdAt CN x A L R S H' ∧ H' wq = some (.lst (ns.map nv)) ∧ H' D = some (.dK kvs) ∧ KnD kvs kn2 ∧ H' Fq = some (.lst (ys.map V.ref)) ∧ (∀ (k : Nat) (y : Addr) (r : List KW), ys[k]? = some y → (numL [] ts)[k]? = some r → KdAt CK H' y r) ∧ Ke A L R H H' ∧ H' Wd' = some (.lst (ws.map kv)) ∧ H' Wt = some (.lst (st.reverse.map nv)) ∧ TrL S st us' ∧ numG kn t.ks = ws ++ numG kn2 (ksL us') ∧ knownG kn t.ks = knownG kn2 (ksL us') ∧ kn2.length ≤ kn.length + ws.length, ?_, ?_⟩
        · rintro σ' H' ⟨ws, st, us', kvs, kn2, v7, lt, rfl, h⟩
          exact ⟨_, lt, ws, st, us', kvs, kn2, v7, rfl, rfl, h⟩
        rw [List.reverse_cons, List.map_append] at t6
        have t6 : H6 Wt = some (.lst (st.reverse.map nv ++ [nv c])) := t6
        obtain ⟨dx6, hx6⟩ := id N6.ins
        refine ⟨_, rfl, x, dx6, _, rfl, hx6, nfs_no A L R (by decide +kernel) (by decide +kernel) (by decide +kernel), _, rfl, .inl ⟨rfl, _, SqL.of t6⟩, Wt, _, nv c, rfl, rfl, t6, by simp, ?_⟩
        rw [List.dropLast_concat]
        have t7 : upd H6 Wt (.lst (st.reverse.map nv)) Wt = some (.lst (st.reverse.map nv)) := upd_same
        have N7 : NdAt CN x A L R S (upd H6 Wt (.lst (st.reverse.map nv))) := N6.wr t6 WtA WtL WtR
        have w7 : upd H6 Wt (.lst (st.reverse.map nv)) wq = some (.lst (ns.map nv)) := by rw [upd_ne Wtw.symm]; exact w6
        have D7 : upd H6 Wt (.lst (st.reverse.map nv)) D = some (.dK kvs) := by rw [upd_ne WtD.symm]; exact D6
        have F7 : upd H6 Wt (.lst (st.reverse.map nv)) Fq = some (.lst (ys.map V.ref)) := by rw [upd_ne WtF.symm]; exact F6
        have d7 : upd H6 Wt (.lst (st.reverse.map nv)) Wd' = some (.lst (ws.map kv)) := by rw [upd_ne Wtd.symm]; exact d6
        have hkd7 : ∀ (k : Nat) (y : Addr) (r : List KW), ys[k]? = some y → (numL [] ts)[k]? = some r → KdAt CK (upd H6 Wt (.lst (st.reverse.map nv))) y r := fun k y r h1 h2 => (hkd6 k y r h1 h2).but t6 nu_lst fun b o hb hn => by rw [upd_ne hn]; exact hb
        have K7 : Ke A L R H (upd H6 Wt (.lst (st.reverse.map nv))) := ke_wr K6 nWtH
        generalize upd H6 Wt (.lst (st.reverse.map nv)) = H7 at *
        refine ⟨x, A, L, R, S, c, rfl, N7, cb, fun H8 N8 K8 => ?_⟩
        have t8 := K8 _ _ t7 WtA WtL WtR
        have w8 := K8 _ _ w7 wA wL wR
        have D8 := K8 _ _ D7 DA DL DR
        have F8 := K8 _ _ F7 FA FL FR
        have d8 := K8 _ _ d7 WdA WdL WdR
        have hkd8 : ∀ (k : Nat) (y : Addr) (r : List KW), ys[k]? = some y → (numL [] ts)[k]? = some r → KdAt CK H8 y r := fun k y r h1 h2 => (hkd7 k y r h1 h2).ke K8 (lsA N7).1 (lsA N7).2.1 (lsA N7).2.2
        have K78 := K7.trans K8
        have rcb := ok.rl c cb
        obtain ⟨dx8, hx8⟩ := id N8.ins
        refine ⟨_, rfl, x, CN, dx8, _, _, rfl, hx8, pn.cl, pn.nl, nfs_l A L R, _, rfl, L, _, _, _, rfl, rfl, SqL.of N8.l, atI_nat (lfV_get rcb), rfl, _, rfl, ?_⟩
        have wle : ws.length < sizeLine := big _ (by omega)
        rw [ksL_cons] at en ek
        cases ctr with
        | lt hp =>
          rw [hp]
          refine ifY (by rfl) ?_
          have en : numG kn t.ks = ws ++ numG kn2 (.lt (S.rep c) :: ksL us) := en
          have ek : knownG kn t.ks = knownG kn2 (.lt (S.rep c) :: ksL us) := ek
          have lk := kd6.len
          have lkn := congrArg List.length ekn
          refine ⟨_, rfl, .inl ⟨rfl, _, SqL.of d8⟩, _, rfl, D, rfl, .inl ⟨kvs, .inl D8⟩, _, rfl, _, rfl, D, kvs, rfl, D8, kvs, .inl ((S.rep c : Nat) : Int), D8, rfl, big _ (by omega), fun z hz => ?_, fun hz => ?_⟩
          · have hin : S.rep c ∈ kn2 := by
              rw [kd6.get] at hz
              by_cases q : S.rep c ∈ kn2
              · exact q
              · rw [if_neg q] at hz; cases hz
            rw [kd6.get, if_pos hin] at hz
            cases hz
            simp only [numG, knownG, if_pos hin] at en ek
            refine ⟨Wd', _, _, rfl, rfl, d8, by rw [List.length_map]; exact wle, ?_⟩
            refine ⟨ws ++ [.lt (kn2.idxOf (S.rep c))], st, us, kvs, kn2, _, by rw [ksL_cons, List.length_append]; simp [KT.ks], rfl, N8.wr d8 WdA WdL WdR, by rw [upd_ne Wdw.symm]; exact w8, by rw [upd_ne WdD.symm]; exact D8, kd6, by rw [upd_ne WdF.symm]; exact F8, fun k y r h1 h2 => (hkd8 k y r h1 h2).but d8 nu_lst fun b o hb hn => by rw [upd_ne hn]; exact hb, ke_wr K78 nWdH, by rw [upd_same, List.map_append]; rfl, by rw [upd_ne Wtd]; exact t8, tl7, by rw [en, List.append_assoc]; rfl, ek, by simp; omega⟩
          · have hout : S.rep c ∉ kn2 := fun q => by rw [kd6.get, if_pos q] at hz; cases hz
            simp only [numG, knownG, if_neg hout] at en ek
            have nd : ∀ b o, H8 b = some o → b ≠ D → upd H8 D (.dK (putK kvs (.inl ((S.rep c : Nat) : Int)) (V.int (kvs.length : Nat)))) b = some o := fun b o hb hn => by rw [upd_ne hn]; exact hb
            have kd9 := kd6.put hout
            rw [← lk] at kd9
            have D9 : upd H8 D (.dK (putK kvs (.inl ((S.rep c : Nat) : Int)) (V.int (kvs.length : Nat)))) D = some (.dK (putK kvs (.inl ((S.rep c : Nat) : Int)) (nv kvs.length))) := upd_same
            have N9 : NdAt CN x A L R S (upd H8 D (.dK (putK kvs (.inl ((S.rep c : Nat) : Int)) (V.int (kvs.length : Nat))))) := N8.wrD D8
            have hkd9 : ∀ (k : Nat) (y : Addr) (r : List KW), ys[k]? = some y → (numL [] ts)[k]? = some r → KdAt CK (upd H8 D (.dK (putK kvs (.inl ((S.rep c : Nat) : Int)) (V.int (kvs.length : Nat))))) y r := fun k y r h1 h2 => (hkd8 k y r h1 h2).but D8 nu_dK nd
            have t9 := nd _ _ t8 WtD
            have w9 := nd _ _ w8 Dw.symm
            have F9 := nd _ _ F8 FD
            have d9 := nd _ _ d8 WdD
            have K9 : Ke A L R H (upd H8 D (.dK (putK kvs (.inl ((S.rep c : Nat) : Int)) (V.int (kvs.length : Nat))))) := fun b o hb h1 h2 h3 => by
              rw [upd_ne (ne_of_none hb nD)]
              exact K78 b o hb h1 h2 h3
            generalize upd H8 D (.dK (putK kvs (.inl ((S.rep c : Nat) : Int)) (V.int (kvs.length : Nat)))) = H9 at *
            refine ⟨Wd', _, _, rfl, rfl, d9, by rw [List.length_map]; exact wle, ?_⟩
            refine ⟨ws ++ [.lt kn2.length], st, us, _, kn2 ++ [S.rep c], _, by rw [ksL_cons, List.length_append]; simp [KT.ks], rfl, N9.wr d9 WdA WdL WdR, by rw [upd_ne Wdw.symm]; exact w9, by rw [upd_ne WdD.symm]; exact D9, kd9, by rw [upd_ne WdF.symm]; exact F9, fun k y r h1 h2 => (hkd9 k y r h1 h2).but d9 nu_lst fun b o hb hn => by rw [upd_ne hn]; exact hb, ke_wr K9 nWdH, by rw [upd_same, List.map_append, lk]; rfl, by rw [upd_ne Wtd]; exact t9, tl7, by rw [en, List.append_assoc]; rfl, ek, by simp; omega⟩
        | @to _ l r a b hp xa yb =>
          rw [hp]
          refine ifN (fun z => nomatch z) ?_
          obtain ⟨bl, br⟩ := ok.pl _ _ _ rcb hp
          have gl : (lfV S)[S.rep c]? = some (nv l) := by rw [lfV_get rcb, hp]; rfl
          have gr : (rtV S)[S.rep c]? = some (nv r) := by rw [rtV_get rcb, hp]; rfl
          refine ⟨_, rfl, .inl ⟨rfl, _, SqL.of d8⟩, Wd', _, _, rfl, rfl, d8, by rw [List.length_map]; exact wle, ?_⟩
          have t9 : upd H8 Wd' (.lst (ws.map kv ++ [V.str ">"])) Wt = some (.lst (st.reverse.map nv)) := by rw [upd_ne Wtd]; exact t8
          have N9 : NdAt CN x A L R S (upd H8 Wd' (.lst (ws.map kv ++ [V.str ">"]))) := N8.wr d8 WdA WdL WdR
          have w9 : upd H8 Wd' (.lst (ws.map kv ++ [V.str ">"])) wq = some (.lst (ns.map nv)) := by rw [upd_ne Wdw.symm]; exact w8
          have D9 : upd H8 Wd' (.lst (ws.map kv ++ [V.str ">"])) D = some (.dK kvs) := by rw [upd_ne WdD.symm]; exact D8
          have F9 : upd H8 Wd' (.lst (ws.map kv ++ [V.str ">"])) Fq = some (.lst (ys.map V.ref)) := by rw [upd_ne WdF.symm]; exact F8
          have d9 : upd H8 Wd' (.lst (ws.map kv ++ [V.str ">"])) Wd' = some (.lst ((ws ++ [KW.to]).map kv)) := by rw [upd_same, List.map_append]; rfl
          have hkd9 : ∀ (k : Nat) (y : Addr) (r : List KW), ys[k]? = some y → (numL [] ts)[k]? = some r → KdAt CK (upd H8 Wd' (.lst (ws.map kv ++ [V.str ">"]))) y r := fun k y r h1 h2 => (hkd8 k y r h1 h2).but d8 nu_lst fun b o hb hn => by rw [upd_ne hn]; exact hb
          have K9 : Ke A L R H (upd H8 Wd' (.lst (ws.map kv ++ [V.str ">"]))) := ke_wr K78 nWdH
          generalize upd H8 Wd' (.lst (ws.map kv ++ [V.str ">"])) = H9 at *
          obtain ⟨dx9, hx9⟩ := id N9.ins
          refine ⟨_, rfl, .inl ⟨rfl, _, SqL.of t9⟩, _, rfl, x, CN, dx9, _, _, rfl, hx9, pn.cl, pn.nr, nfs_r A L R, _, rfl, R, _, _, _, rfl, rfl, SqL.of N9.r, atI_nat gr, _, rfl, x, CN, dx9, _, _, rfl, hx9, pn.cl, pn.nl, nfs_l A L R, _, rfl, L, _, _, _, rfl, rfl, SqL.of N9.l, atI_nat gl, (by show 2 ≤ sizeLine; decide), fun eq neq => ?_⟩
          have Se := same_upd (o := HO.lst [nv r, nv l]) neq
          have e10 : upd H9 eq (.lst [nv r, nv l]) eq = some (.lst [nv r, nv l]) := upd_same
          have t10 := Se _ _ t9
          have N10 := N9.same Se
          have w10 := Se _ _ w9
          have D10 := Se _ _ D9
          have F10 := Se _ _ F9
          have d10 := Se _ _ d9
          have hkd10 : ∀ (k : Nat) (y : Addr) (r' : List KW), ys[k]? = some y → (numL [] ts)[k]? = some r' → KdAt CK (upd H9 eq (.lst [nv r, nv l])) y r' := fun k y r' h1 h2 => (hkd9 k y r' h1 h2).same Se
          have K10 := K9.trans (Same.ke Se)
          generalize upd H9 eq (.lst [nv r, nv l]) = H10 at *
          have lst : st.length ≤ (ksL ts).length := by
            have h1 := len_ksL us
            have h2 := tl7.len
            have h3 := congrArg List.length en
            rw [numG_len, List.length_append, numG_len, List.length_append] at h3
            omega
          refine ⟨Wt, eq, _, _, rfl, rfl, t10, e10, by rw [List.length_map, List.length_reverse]; simp; exact Nat.le_of_lt (big _ (by omega)), ?_⟩
          have en : numG kn t.ks = ws ++ .to :: numG kn2 (ksL (a :: b :: us)) := by
            rw [en]
            show ws ++ (.to :: numG kn2 ((a.ks ++ b.ks) ++ ksL us)) = _
            rw [ksL_cons, ksL_cons, List.append_assoc]
          have ek : knownG kn t.ks = knownG kn2 (ksL (a :: b :: us)) := by
            rw [ek]
            show knownG kn2 ((a.ks ++ b.ks) ++ ksL us) = _
            rw [ksL_cons, ksL_cons, List.append_assoc]
          refine ⟨ws ++ [.to], l :: r :: st, a :: b :: us, kvs, kn2, _, by simp [ksL_cons, KT.ks, Nat.add_assoc], rfl, N10.wr t10 WtA WtL WtR, by rw [upd_ne Wtw.symm]; exact w10, by rw [upd_ne WtD.symm]; exact D10, kd6, by rw [upd_ne WtF.symm]; exact F10, fun k y r' h1 h2 => (hkd10 k y r' h1 h2).but t10 nu_lst fun b o hb hn => by rw [upd_ne hn]; exact hb, ke_wr K10 nWtH, by rw [upd_ne Wtd.symm]; exact d10, by rw [upd_same]; simp, ⟨by simp [tl7.len], fun k i t' h1 h2 => ?_⟩, by rw [en, List.append_assoc]; rfl, ek, by simp; omega⟩
          match k, h1, h2 with
          | 0, h1, h2 => cases h1; cases h2; exact ⟨bl, xa⟩
          | 1, h1, h2 => cases h1; cases h2; exact ⟨br, yb⟩
          | k + 2, h1, h2 => exact tl7.tr k i t' h1 h2
    · rintro σ H3 ⟨kvs, kn, ys, v4, v5, v6, v7, rfl, N3, w3, D3, kd3, ekn, F3, hys, hkd, K3⟩
      rw [List.length_map] at hys
      exact ⟨_, rfl, k H3 _ N3 K3 ⟨Fq, ys, rfl, F3, by rw [numL_len, hys, tl.len], hkd, nFH, FA, FL, FR⟩⟩
end
end Kk

set_option maxHeartbeats 4000000
/-! knots: the kinds of some; what a kind becomes that is given another -/
namespace Kk
open PySem PySem.Spec PyProof.Rows L2 Wd
/-- the most that is let, if there is a bound -/
def mostV : Option Nat → V
  | none => .non
  | some m => .int (m : Nat)
section
variable {P : Program} {w : World} {K : PySem.W.Frag} {mg : Str → Option Value} {base : Heap}
/-- the kinds of some knots, where they are not too long -/
def spKinds (C CK : Addr) : Sp := fun vs H Q _ => ∃ (x A L R wq : Addr) (S : Sys) (ns : List Nat) (mo : Option Nat), vs = [.ref x, .ref wq, mostV mo] ∧ NdAt C x A L R S H ∧ H wq = some (.lst (ns.map nv)) ∧ (wq ≠ A ∧ wq ≠ L ∧ wq ≠ R) ∧ (∀ i ∈ ns, i < S.n) ∧ ns.length ≤ 100000 ∧ (∀ m, mo = some m → m ≤ 1000000) ∧
  (S.Fin → ∀ ts, TrL S ns ts → (ksL ts).length ≤ mo.getD 1000000) ∧
  ∀ H' v, NdAt C x A L R S H' → Ke A L R H H' → ((v = .non ∧ ¬ S.Fin) ∨ (S.Fin ∧ ∃ ts, TrL S ns ts ∧ WrV CK A L R (numL [] ts) H H' v)) → Q v H'
theorem Sys.Fin.trees {S : Sys} (f : S.Fin) : ∀ {ns : List Nat}, (∀ i ∈ ns, i < S.n) → ∃ ts, TrL S ns ts
  | [], _ => ⟨[], rfl, fun k i t h => by simp at h⟩
  | n :: ns, h => by
    obtain ⟨t, ht⟩ := f n (h n (by simp))
    obtain ⟨ts, e, tr⟩ := f.trees (ns := ns) fun i hi => h i (by simp [hi])
    refine ⟨t :: ts, by simp [e], fun k i u h1 h2 => ?_⟩
    cases k with
    | zero => cases h1; cases h2; exact ⟨h _ (by simp), ht⟩
    | succ k => exact tr k i u h1 h2
theorem TrL.uniq {S : Sys} : ∀ {ns : List Nat} {ts us : List KT}, TrL S ns ts → TrL S ns us → ts = us
  | ns, ts, us, h, g => by
    refine List.ext_getElem? fun k => ?_
    have l1 := h.len
    have l2 := g.len
    cases e1 : ts[k]? with
    | none => rw [List.getElem?_eq_none_iff] at e1; exact (List.getElem?_eq_none (by omega)).symm
    | some t =>
      have hk := (List.getElem?_eq_some_iff.mp e1).1
      have hn : ns[k]? = some (ns[k]'(by omega)) := List.getElem?_eq_getElem _
      have hu : us[k]? = some (us[k]'(by omega)) := List.getElem?_eq_getElem _
      rw [hu, ((h.tr k _ _ hn e1).2).uniq (g.tr k _ _ hn hu).2]
theorem WrV.ke {CK A L R : Addr} {rs : List (List KW)} {H H1 H' : Hp} {v : V} (h : WrV CK A L R rs H1 H' v) (k : Ke A L R H H1) : WrV CK A L R rs H H' v := by
  obtain ⟨q, ys, e, h1, h2, h3, h4, a, b, c⟩ := h
  refine ⟨q, ys, e, h1, h2, h3, ?_, a, b, c⟩
  cases h : H q with
  | none => rfl
  | some o => rw [k q o h a b c] at h4; cases h4
abbrev s_nkinds : Stmt := (inClass (top 18) 8)
theorem sc_nkinds : FnScope ["self", "wanted", "most", "row"] ["self", "wanted", "most"] (defScope s_nkinds) := ⟨rfl, rfl, rfl, by decide +kernel, rfl, by decide +kernel, by decide +kernel⟩
theorem c_nkinds {CN CK f : Addr} {fd : FuncData} (pn : PN K mg CN) (F : Fun K "kinds" "Nodes.kinds" s_nkinds f fd) (Min_order : Mth P w K mg base CN "in_order" 3 ["self"] (spOrder CN)) (Mare_longer : Mth P w K mg base CN "are_longer" 3 ["self", "row", "wanted", "most"] (spLonger CN)) (Mwritten : Mth P w K mg base CN "written" 7 ["self", "wanted"] (spWritten CN CK)) :
    FnOk P w K mg base CX0 8 f fd ["self", "wanted", "most"] (spKinds CN CK) := by
  refine F.ok sc_nkinds (fun vs H Q E h => ?_) (fun cdv A outer st0 H vs Q E hr h => ?_)
  · obtain ⟨x, A, L, R, wq, S, ns, mo, rfl, _⟩ := h
    rfl
  · obtain ⟨x, A, L, R, wq, S, ns, mo, rfl, N0, w0, ⟨wA, wL, wR⟩, hns, lns, hmo, hsz, k⟩ := h
    refine ⟨_, (pss_cons (ps_set (i := 3) sc_nkinds.nd rfl (by first | exact Or.inl rfl | exact Or.inr rfl) (pe_m0 Min_order pn.cl (hr.mono (by decide)) (pv 0)))
      (pss_cons (ps_if (pt_cmpR op_isN (pv 3) pe_non (nomark _)) (pss_one (ps_ret pe_non)) pss_nil)
      (pss_cons (ps_if (PW.pt (pw_and (pt_cmpR op_notN (pv 2) pe_non (nomark _)) (pw_and1 (pt_val (pe_m1 Mare_longer pn.cl (hr.mono (by decide)) (pv 0) (pa_cons (pv 3) (pa_cons (pv 1) (pa_cons (pv 2) pa_nil)))))))) (pss_one ps_never) pss_nil)
      (pss_one (ps_ret (pe_m1 Mwritten pn.cl (hr.mono (by decide)) (pv 0) (pa_cons (pv 1) pa_nil))))))), ?_⟩
    obtain ⟨dx, hx⟩ := id N0.ins
    refine ⟨_, rfl, x, dx, _, rfl, hx, nfs_no A L R (by decide +kernel) (by decide +kernel) (by decide +kernel), x, A, L, R, S, rfl, N0, fun H1 v N1 K1 ov => ?_⟩
    have w1 := K1 _ _ w0 wA wL wR
    rcases ov with ⟨rfl, nf⟩ | ⟨q, row, rfl, hq, hrow, nq, qA, qL, qR⟩
    · exact ⟨_, rfl, rfl, _, rfl, ifY rfl (k H1 _ N1 K1 (.inl ⟨rfl, nf⟩))⟩
    refine ⟨_, rfl, rfl, _, rfl, ifN (fun z => nomatch z) ?_⟩
    have fin := hrow.fin N1.ok
    obtain ⟨ts, tl⟩ := fin.trees hns
    have hl := hsz fin ts tl
    have fin2 : ∀ H2, NdAt CN x A L R S H2 → Ke A L R H H2 → spWritten CN CK [.ref x, .ref wq] H2 Q E0 := fun H2 N2 K2 =>
      ⟨x, A, L, R, wq, S, ns, ts, rfl, N2, K2 _ _ w0 wA wL wR, tl, ⟨wA, wL, wR⟩, by
        refine Nat.le_trans hl ?_
        cases mo with
        | none => exact Nat.le_refl _
        | some m => exact hmo m rfl, fun H' v N' K' W => k H' v N' (K2.trans K') (.inr ⟨fin, ts, tl, W.ke K2⟩)⟩
    obtain ⟨dx1, hx1⟩ := id N1.ins
    cases mo with
    | none =>
      refine ⟨_, rfl, rfl, _, rfl, iteF ?_⟩
      exact ⟨_, rfl, x, dx1, _, rfl, hx1, nfs_no A L R (by decide +kernel) (by decide +kernel) (by decide +kernel), _, rfl, fin2 H1 N1 K1⟩
    | some m =>
      refine ⟨_, rfl, rfl, _, rfl, iteT ?_⟩
      refine ⟨_, rfl, x, dx1, _, rfl, hx1, nfs_no A L R (by decide +kernel) (by decide +kernel) (by decide +kernel), _, rfl, _, rfl, _, rfl, x, A, L, R, q, wq, S, row, ns, ts, m, rfl, N1, hq, hrow, w1, tl, ⟨qA, qL, qR⟩, ⟨wA, wL, wR⟩, lns, hmo m rfl, fun H2 N2 K2 => ?_⟩
      have hl : (ksL ts).length ≤ m := hl
      rw [decide_eq_false (show ¬ m < (ksL ts).length by omega)]
      obtain ⟨dx2, hx2⟩ := id N2.ins
      refine ⟨_, rfl, iteF ?_⟩
      exact ⟨_, rfl, x, dx2, _, rfl, hx2, nfs_no A L R (by decide +kernel) (by decide +kernel) (by decide +kernel), _, rfl, fin2 H2 N2 (K1.trans K2)⟩
end
end Kk

set_option maxHeartbeats 4000000
/-! what a kind becomes that is given another one -/
namespace Kk
open PySem PySem.Spec PyProof.Rows L2 Wd
theorem Ke.same {A L R : Addr} {H H1 H' : Hp} (k : Ke A L R H1 H') (s : Same H H1) (a : H A = none) (l : H L = none) (r : H R = none) : Same H H' := fun b o e =>
  k b o (s b o e) (ne_of_none e a) (ne_of_none e l) (ne_of_none e r)
theorem kt_of {ks : List KW} (h : Wh 1 (ks.map sidesK)) : ∃ t : KT, ks = t.ks := by
  obtain ⟨ts, e1, e2⟩ := wh_forest _ h
  match ts, e1 with
  | [t], _ => exact ⟨t, by rw [← e2]; simp [ksL]⟩
section
variable {P : Program} {w : World} {K : PySem.W.Frag} {mg : Str → Option Value} {base : Heap}
def spOnly (C CK : Addr) : Sp := fun vs H Q _ => ∃ (x A L R : Addr) (S : Sys) (i m : Nat), vs = [.ref x, .int (i : Nat), .int (m : Nat)] ∧ NdAt C x A L R S H ∧ i < S.n ∧ m ≤ 1000000 ∧ (S.Fin → ∀ t, Tr S i t → t.ks.length ≤ m) ∧
  ∀ H' v, NdAt C x A L R S H' → Ke A L R H H' → ((v = .non ∧ ¬ S.Fin) ∨ (S.Fin ∧ ∃ t y, Tr S i t ∧ v = .ref y ∧ KdAt CK H' y (numG [] t.ks))) → Q v H'
abbrev s_only : Stmt := (top 24)
theorem sc_only : FnScope ["nodes", "node", "most", "told"] ["nodes", "node", "most"] (defScope s_only) := ⟨rfl, rfl, rfl, by decide +kernel, rfl, by decide +kernel, by decide +kernel⟩
theorem c_only {CN CK : Addr} (pn : PN K mg CN) (D : DefAt K mg "only_kind" s_only) (Mkinds : Mth P w K mg base CN "kinds" 8 ["self", "wanted", "most"] (spKinds CN CK)) : Cal P w K mg base "only_kind" 9 ["nodes", "node", "most"] (spOnly CN CK) := by
  refine cal_of D sc_only (fun _ _ _ _ _ _ us hl => match us, hl with | [_, _, _], _ => rfl) (fun vs H Q E h => ?_) (fun fa cdv A outer st0 H vs Q E hr h => ?_)
  · obtain ⟨x, A, L, R, S, i, m, rfl, _⟩ := h
    rfl
  · obtain ⟨x, A, L, R, S, i, m, rfl, N0, hi, hm, hsz, k⟩ := h
    refine ⟨_, (pss_cons (ps_set (i := 3) sc_only.nd rfl (by first | exact Or.inl rfl | exact Or.inr rfl) (pe_m1 Mkinds pn.cl (hr.mono (by decide)) (pv 0) (pa_cons (pe_lst (pa_cons (pv 1) pa_nil)) (pa_cons (pv 2) pa_nil))))
      (pss_one (ps_ret (pe_ifExp (pt_cmpR op_isN (pv 3) pe_non (nomark _)) pe_non (pe_ix ix_list (pv 3) pe_int (fun _ _ => rfl)))))), ?_⟩
    obtain ⟨dx, hx⟩ := id N0.ins
    refine ⟨_, rfl, x, dx, _, rfl, hx, nfs_no A L R (by decide +kernel) (by decide +kernel) (by decide +kernel), _, rfl, (by show 1 ≤ sizeLine; decide), fun q nq => ?_⟩
    have S1 := same_upd (o := HO.lst [V.int (i : Nat)]) nq
    have q1 : upd H q (.lst [V.int (i : Nat)]) q = some (.lst ([i].map nv)) := upd_same
    have N1 := N0.same S1
    have off : q ≠ A ∧ q ≠ L ∧ q ≠ R := ⟨(ne_of_none N0.a.choose_spec.1 nq).symm, (ne_of_none N0.l nq).symm, (ne_of_none N0.r nq).symm⟩
    generalize upd H q (.lst [V.int (i : Nat)]) = H1 at *
    refine ⟨_, rfl, x, A, L, R, q, S, [i], some m, rfl, N1, q1, off, fun j hj => (by rw [show j = i by simpa using hj]; exact hi), by simp, fun m' e => (by cases e; exact hm), fun fin ts tl => ?_, fun H2 v N2 K2 hv => ?_⟩
    · match ts, tl.len with
      | [t], _ =>
        have := hsz fin t (tl.tr 0 i t rfl rfl).2
        simpa [ksL] using this
    rcases hv with ⟨rfl, nf⟩ | ⟨fin, ts, tl, q2, ys, rfl, h1, h2, h3, _⟩
    · exact ⟨_, rfl, rfl, _, rfl, ifY rfl (k H2 _ N2 ((Same.ke S1).trans K2) (.inl ⟨rfl, nf⟩))⟩
    · refine ⟨_, rfl, rfl, _, rfl, ifN (fun z => nomatch z) ?_⟩
      match ts, tl.len with
      | [t], _ =>
        rw [numL_len] at h2
        match ys, h2 with
        | [y], _ =>
          have kd := h3 0 y _ rfl rfl
          exact ⟨_, rfl, q2, _, _, _, rfl, rfl, SqL.of h1, at_of (j := 0) rfl rfl, k H2 _ N2 ((Same.ke S1).trans K2) (.inr ⟨fin, t, y, (tl.tr 0 i t rfl rfl).2, rfl, kd⟩)⟩
end
end Kk

set_option maxHeartbeats 2000000
/-! a tuple times a number, any number from 0 on -/
namespace L2
open PySem PySem.Spec PyProof.Rows
theorem tuple_mul1 (l : Addr) (items : Array Value) (n : Nat) (dd : Option Addr) (sl : Array (Option Value)) (x : Int) (u : Tok) (c0 : (decide (x < -(2 ^ 63)) || decide (x ≥ 2 ^ 63)) = false) (c1 : (items.isEmpty || x == 1) = true) :
    Meets (Builtin.«tuple.__mul__» ⟨[.ref l, .int x u], []⟩) (fun _ R s => s.heap.get? l = some { cls := .type "tuple", dict := dd, data := .seq items n, slots := sl } ∧
      R (.ok (.ret (Value.ref l))) s) :=
  .of_wp fun prog w A R s h => by
    obtain ⟨hp, g, d, tk, os⟩ := s
    obtain ⟨hl, h⟩ := h
    have f1 := AutoSeq1.idx_int
    wp_walk using wpAny_loadPart' hl
    repeat (first
      | (refine wpAny_ite_false (decide_eq_false (by rw [c0]; exact Bool.false_ne_true)) ?_; wp_walk using wpAny_loadPart' hl)
      | (refine wpAny_ite_true (decide_eq_true (by rw [c1])) ?_; wp_walk using wpAny_loadPart' hl))
    exact ⟨_, rfl, h⟩
theorem tuple_mul0 (l : Addr) (items : Array Value) (n : Nat) (dd : Option Addr) (sl : Array (Option Value)) (x : Int) (u : Tok) (c0 : (decide (x < -(2 ^ 63)) || decide (x ≥ 2 ^ 63)) = false) (c1 : (items.isEmpty || x == 1) = false) (c2 : (decide (x ≤ 0) || items.isEmpty) = true) :
    Meets (Builtin.«tuple.__mul__» ⟨[.ref l, .int x u], []⟩) (fun _ R s => s.heap.get? l = some { cls := .type "tuple", dict := dd, data := .seq items n, slots := sl } ∧
      R (.ok (.ret (Value.ref s.heap.objs.size))) { s with heap := s.heap.push { cls := Value.type "tuple", data := Data.seq #[] }, toks := s.toks }) :=
  .of_wp fun prog w A R s h => by
    obtain ⟨hp, g, d, tk, os⟩ := s
    obtain ⟨hl, h⟩ := h
    have f1 := AutoSeq1.idx_int
    wp_walk using wpAny_loadPart' hl
    repeat (first
      | (refine wpAny_ite_false (decide_eq_false (by rw [c0]; exact Bool.false_ne_true)) ?_; wp_walk using wpAny_loadPart' hl)
      | (refine wpAny_ite_false (decide_eq_false (by rw [c1]; exact Bool.false_ne_true)) ?_; wp_walk using wpAny_loadPart' hl)
      | (refine wpAny_ite_true (decide_eq_true (by rw [c2])) ?_; wp_walk using wpAny_loadPart' hl))
    exact ⟨_, rfl, h⟩
/-- a tuple times a number -/
def rRepTF (K : PySem.W.Frag) : R2 := fun x y H Q => ∃ l k xs, x = .ref l ∧ y = .int ((k : Nat) : Int) ∧ SqT K H l xs ∧ xs ≠ [] ∧ k ≤ 1000 ∧ xs.length ≤ 1000 ∧ (k = 1 → Q (.ref l) H) ∧ (k ≠ 1 → ∀ p o, H p = none → o.dict = none → Q (.ref p) (upd H p (.frz o (.tup (List.replicate k xs).flatten))))
section
variable {X : Cx}
theorem op_repTF : OpR X (binaryOp .Mult) (rRepTF X.K) := by
  intro pins s σ H x y v u Q I rx ry h
  obtain ⟨l, k, xs, rfl, rfl, hT, hne, h2, hz, q1, q⟩ := h
  cases rx
  obtain ⟨t, rfl⟩ := ry
  obtain ⟨its, r, ⟨⟨cls, dd, data, sl⟩, ho, hc, n, hd⟩, hs⟩ := I.tuple hT
  simp only at hc hd
  subst hc hd
  have hle : its.length = xs.length := r.length.symm
  have hn : its ≠ [] := fun e => hne (by
    rw [e] at hle
    exact List.eq_nil_of_length_eq_zero hle.symm)
  have hi : its.toArray.isEmpty = false := by
    cases its with
    | nil => exact absurd rfl hn
    | cons a b => rfl
  have hsz0 : its.toArray.size = xs.length := by rw [List.size_toArray, hle]
  have hm : ((its.toArray.size : Nat) : Int) * ((k : Nat) : Int) ≤ 1000000 := by
    rw [hsz0]
    have a1 : xs.length * k ≤ 1000 * 1000 := Nat.mul_le_mul hz h2
    have a2 : ((xs.length : Nat) : Int) * ((k : Nat) : Int) = ((xs.length * k : Nat) : Int) := (Int.natCast_mul _ _).symm
    omega
  have flen : (List.replicate k its).flatten.length ≤ sizeLine := by
    rw [PyProof.Rows.lm_len_rep_flat, hle, sizeLine_eq]
    have a1 : k * xs.length ≤ 1000 * 1000 := Nat.mul_le_mul h2 hz
    omega
  have c0 : (decide (((k : Nat) : Int) < -(2 ^ 63)) || decide (((k : Nat) : Int) ≥ 2 ^ 63)) = false := by
    rw [decide_eq_false (by omega), decide_eq_false (by omega)] <;> rfl
  rcases Nat.eq_zero_or_pos k with k0 | kp
  · have c1 : (its.toArray.isEmpty || ((k : Nat) : Int) == 1) = false := by
      rw [hi, Bool.false_or]
      exact beq_eq_false_iff_ne.mpr (by omega)
    have c2 : (decide (((k : Nat) : Int) ≤ 0) || its.toArray.isEmpty) = true := by
      rw [hi, Bool.or_false]
      exact decide_eq_true (by omega)
    refine wpAny_binaryOp_repeat_ref (T := "tuple") (U := "int") (by decide) ⟨_, ho, rfl⟩ (fun s' => typeIs_int s' _ t) noFill_tuple_mul F.fills_int_mul F.slot_int_rmul repeat_tuple F.slot_int_index.lookup
      (call_meets F.slot_int_rmul (typeIs_int s _ t) F.entry_int_rmul (F.args_int_rmul_2 _ _) (int_rmul_tuple _ t l its.toArray n dd sl)
        ⟨ho, rfl, ⟨_, ho, rfl⟩, call_meets F.slot_tuple_mul ⟨_, ho, rfl⟩ F.entry_tuple_mul (F.args_tuple_mul_2 _ _) (tuple_mul0 l its.toArray n dd sl _ t c0 c1 c2) ⟨ho, ?_⟩⟩)
    have e0 : (List.replicate k xs).flatten = [] := by rw [k0]; rfl
    refine ⟨.ref s.heap.objs.size, _, I.laid (t' := s.toks) (o := .frz { cls := .type "tuple", data := .seq #[] } (.tup (List.replicate k xs).flatten)) (fun b ob q => Heap.get?_push_of_some _ q) (Nat.le_refl _) ?_, rfl, q (by omega) _ _ (I.hok.fresh (Nat.le_refl _)) rfl⟩
    rw [e0]
    exact ⟨Heap.get?_push_size _ rfl, Nat.zero_le _, [], .nil, IsTup.new _ _⟩
  · by_cases k1 : k = 1
    · have c1 : (its.toArray.isEmpty || ((k : Nat) : Int) == 1) = true := by
        rw [hi, Bool.false_or, k1]
        rfl
      refine wpAny_binaryOp_repeat_ref (T := "tuple") (U := "int") (by decide) ⟨_, ho, rfl⟩ (fun s' => typeIs_int s' _ t) noFill_tuple_mul F.fills_int_mul F.slot_int_rmul repeat_tuple F.slot_int_index.lookup
        (call_meets F.slot_int_rmul (typeIs_int s _ t) F.entry_int_rmul (F.args_int_rmul_2 _ _) (int_rmul_tuple _ t l its.toArray n dd sl)
          ⟨ho, rfl, ⟨_, ho, rfl⟩, call_meets F.slot_tuple_mul ⟨_, ho, rfl⟩ F.entry_tuple_mul (F.args_tuple_mul_2 _ _) (tuple_mul1 l its.toArray n dd sl _ t c0 c1) ⟨ho, ?_⟩⟩)
      exact ⟨.ref l, H, I, rfl, q1 k1⟩
    · have c1 : (its.toArray.isEmpty || ((k : Nat) : Int) == 1) = false := by
        rw [hi, Bool.false_or]
        exact beq_eq_false_iff_ne.mpr (by omega)
      have c2 : (decide (((k : Nat) : Int) ≤ 0) || its.toArray.isEmpty) = false := by
        rw [hi, Bool.or_false]
        exact decide_eq_false (by omega)
      have c4 : Builtin.Tuple.tupleTooMany (((its.toArray.size : Nat) : Int) * ((k : Nat) : Int)) = false := by
        unfold Builtin.Tuple.tupleTooMany
        rw [sizeLine_eq]
        exact decide_eq_false (by omega)
      refine wpAny_binaryOp_repeat_ref (T := "tuple") (U := "int") (by decide) ⟨_, ho, rfl⟩ (fun s' => typeIs_int s' _ t) noFill_tuple_mul F.fills_int_mul F.slot_int_rmul repeat_tuple F.slot_int_index.lookup
        (call_meets F.slot_int_rmul (typeIs_int s _ t) F.entry_int_rmul (F.args_int_rmul_2 _ _) (int_rmul_tuple _ t l its.toArray n dd sl)
          ⟨ho, rfl, ⟨_, ho, rfl⟩, call_meets F.slot_tuple_mul ⟨_, ho, rfl⟩ F.entry_tuple_mul (F.args_tuple_mul_2 _ _) (tuple_mulW l its.toArray n dd sl _ t c0 c1 c2 (by omega) c4 (by rw [size_rep, List.size_toArray]; exact flen)) ⟨ho, ?_⟩⟩)
      rw [size_rep]
      refine ⟨.ref s.heap.objs.size, _, I.laid (t' := s.toks) (o := .frz { cls := .type "tuple", data := .seq (List.replicate k its).flatten.toArray } (.tup (List.replicate k xs).flatten)) (fun b ob q => Heap.get?_push_of_some _ q) (Nat.le_refl _) ?_, rfl, q k1 _ _ (I.hok.fresh (Nat.le_refl _)) rfl⟩
      exact ⟨Heap.get?_push_size _ rfl, by rw [PyProof.Rows.lm_len_rep_flat, sizeLine_eq]; have a1 : k * xs.length ≤ 1000 * 1000 := Nat.mul_le_mul h2 hz; omega, _, r.rep k, IsTup.new _ _⟩
end
end L2

set_option maxHeartbeats 2000000
/-! a tuple turned around by [::-1] -/
namespace HT
open PySem PySem.Spec PyProof.Rows
section
variable {prog : Program} {w : World} {A : Around} {E : Value → Shared → Prop} {s : Shared}
theorem adjust_rev (n : Nat) : Builtin.Slice.sliceAdjust none none (-1) (n : Int) = ((n : Int) - 1, -1) := by
  unfold Builtin.Slice.sliceAdjust
  simp
theorem places_rev (n : Nat) : Builtin.Slice.slicePlaces ((n : Int) - 1) (-1) (-1) = n := by
  unfold Builtin.Slice.slicePlaces
  have h1 : ¬ ((-1 : Int) > 0) := by decide
  simp only [h1, if_false]
  split
  · rw [show (- -1 : Int) = 1 by decide, Int.ediv_one]
    omega
  · omega
theorem fm_map {α : Type} {f : Nat → Option α} {g : Nat → α} : ∀ (l : List Nat), (∀ m ∈ l, f m = some (g m)) → l.filterMap f = l.map g
  | [], _ => rfl
  | m :: l, h => by
    rw [List.filterMap_cons, h m (List.mem_cons_self ..), List.map_cons]
    show _ :: l.filterMap f = _
    rw [fm_map l fun k hk => h k (List.mem_cons_of_mem _ hk)]
theorem applied_rev {sl : Addr} {vl vu vs : Value} {n : Nat} {Q : Int × Int × Nat → Shared → Prop} (hs : s.heap.IsSliceOf sl vl vu vs) (pl : IsPart vl none) (pu : IsPart vu none) (ps : IsPart vs (some (-1)))
    (h : Q ((n : Int) - 1, -1, n) s) : wpAny (model prog w) A (Builtin.Slice.sliceApplied (.ref sl) (pure (n : Int))) Q E s := by
  obtain ⟨os, hos, hcs, hds⟩ := id hs
  unfold Builtin.Slice.sliceApplied Builtin.Slice.sliceFields
  refine wpAny_bind (wpAny_bind (wpAny_field hos hds (x := vl) rfl (wpAny_bind (wpAny_field hos hds (x := vu) rfl (wpAny_bind (wpAny_field hos hds (x := vs) rfl (wpAny_pure ?_)))))))
  refine wpAny_bind (slicePart_ ps ?_)
  show wpAny _ _ (if ((-1 : Int) == 0) = true then _ else _) _ _ s
  rw [if_neg (by decide)]
  refine wpAny_bind (slicePart_ pl (wpAny_bind (slicePart_ pu (wpAny_bind (wpAny_pure ?_)))))
  show wpAny _ _ (match Builtin.Slice.sliceAdjust none none (-1) (n : Int) with | (lo, hi) => pure (lo, (-1 : Int), Builtin.Slice.slicePlaces lo hi (-1))) _ _ s
  rw [adjust_rev n]
  show wpAny _ _ (pure ((n : Int) - 1, (-1 : Int), Builtin.Slice.slicePlaces ((n : Int) - 1) (-1) (-1))) _ _ s
  rw [places_rev]
  exact wpAny_pure h
theorem pick_rev (xs : Array Value) : ((List.range xs.size).filterMap fun (m : Nat) => xs[((xs.size : Int) - 1 + (m : Int) * (-1)).toNat]?).toArray = xs.toList.reverse.toArray := by
  congr 1
  apply List.ext_getElem?
  intro i
  have e : ((List.range xs.size).filterMap fun (m : Nat) => xs[((xs.size : Int) - 1 + (m : Int) * (-1)).toNat]?) = (List.range xs.size).map fun m => (xs[xs.size - 1 - m]?).getD default := by
    refine fm_map _ fun m hm => ?_
    have hm := List.mem_range.mp hm
    rw [show ((xs.size : Int) - 1 + (m : Int) * (-1)).toNat = xs.size - 1 - m by omega, Array.getElem?_eq_getElem (by omega)]
    rfl
  rw [e, List.getElem?_map]
  by_cases hi : i < xs.size
  · rw [List.getElem?_range hi, List.getElem?_reverse (by rw [Array.length_toList]; exact hi), Array.length_toList, Array.getElem?_toList]
    show some ((xs[xs.size - 1 - i]?).getD default) = _
    rw [Array.getElem?_eq_getElem (by omega)]
    rfl
  · rw [List.getElem?_eq_none (by rw [List.length_range]; omega), List.getElem?_eq_none (by rw [List.length_reverse, Array.length_toList]; omega)]
    rfl
theorem getItem_tuple_rev {t sl : Addr} {items : Array Value} {vl vu vs : Value} {Q : Value → Shared → Prop} (ht : IsTup s.heap t items) (hs : s.heap.IsSliceOf sl vl vu vs) (pl : IsPart vl none) (pu : IsPart vu none) (ps : IsPart vs (some (-1)))
    (h : Q (.ref s.heap.objs.size) { s with heap := s.heap.push { cls := .type "tuple", data := .seq items.toList.reverse.toArray } })
    (hsz : items.size ≤ sizeLine) : wpAny (model prog w) A (getItem (.ref t) (.ref sl)) Q E s := by
  have htake : sizeOk (.seq items.toList.reverse.toArray) := by
    show items.toList.reverse.toArray.size ≤ sizeLine
    rw [List.size_toArray, List.length_reverse, Array.length_toList]
    exact hsz
  obtain ⟨os, hos, hcs, hds⟩ := id hs
  have hTs : s.TypeIs (.ref sl) "slice" := ⟨os, hos, hcs⟩
  unfold getItem
  try with_reducible refine wpAny_holding ?_
  first | refine wpAny_bind (wpAny_pure ?_) | skip
  refine wpAny_bind (wpAny_sequenceKey ht.typeIs (by decide) ?_)
  refine wpAny_bind (wpAny_callSpecial?_slot (name := Str.ofString "__getitem__") ht.typeIs PyProof.Rows.slot_tuple_getitem
    (wpAny_call_entry PyProof.Rows.slot_tuple_getitem ht.typeIs entry_tuple_getitem ?_ (args_tuple_getitem _ _)))
  show wpAny _ _ (Builtin.Tuple.tupleItemsOf (.ref t) >>= _) _ _ s
  refine wpAny_bind (tupleItemsOf_ ht ?_)
  refine wpAny_bind (wpAny_typeOf hTs ?_)
  rw [if_pos (by decide)]
  refine wpAny_bind (applied_rev hs pl pu ps ?_)
  have hno : ¬ (((((items.size : Nat) : Int) - 1) == 0 && (-1 : Int) == 1 && items.size == items.size) = true) := by
    rw [show ((-1 : Int) == 1) = false by decide, Bool.and_false, Bool.false_and]
    exact Bool.false_ne_true
  show wpAny _ _ (if ((((items.size : Nat) : Int) - 1) == 0 && (-1 : Int) == 1 && items.size == items.size) = true then _ else _) _ _ s
  rw [if_neg hno, pick_rev]
  first
    | exact wpAny_bind (m := Builtin.Tuple.tupleExact _) (wpAny_newObj_type (wpAny_pure ⟨_, rfl, wpAny_pure h⟩) htake)
    | exact wpAny_bind (m := Builtin.Tuple.tupleExact _) (wpAny_newObj_type (wpAny_bind (wpAny_pure (wpAny_pure ⟨_, rfl, wpAny_pure h⟩))) htake)
    | exact wpAny_bind (wpAny_bind (m := Builtin.Tuple.tupleExact _) (wpAny_newObj_type (wpAny_pure (wpAny_pure ⟨_, rfl, wpAny_pure h⟩)) htake))
    | exact wpAny_bind (wpAny_bind (m := Builtin.Tuple.tupleExact _) (wpAny_newObj_type (wpAny_pure ⟨_, rfl, wpAny_pure h⟩) htake))
end
end HT
namespace L2
open PySem PySem.Spec PyProof.Rows
section
variable {X : Cx}
def tRevT (K : PySem.W.Frag) (te : TE) : TE := fun σ H Q => te σ H fun x H1 => ∃ a xs, x = .ref a ∧ SqT K H1 a xs ∧ ∀ p o, H1 p = none → o.dict = none → Q (.ref p) (upd H1 p (.frz o (.tup xs.reverse)))
theorem pe_revT {e : Expr} {te : TE} {k : Nat} {p1 p2 p3 pos : Pos} (he : PE X e te) : PE X (.Subscript e (.Slice none none (some (.UnaryOp .USub (.Constant (.int 1) k p1) p2)) p3) pos) (tRevT X.K te) := by
  refine ⟨fun pins s σ H Q I h => ?_⟩
  refine Subscript_ (thn (he.run pins s σ H _ I h) fun v s1 ⟨x, H1, I1, r1, q1⟩ => ?_)
  obtain ⟨a, xs, ex, hx, q⟩ := q1
  subst ex
  cases r1
  have hst : PO X (some (.UnaryOp .USub (.Constant (.int 1) k p1) p2)) (tPart (tUn (rU fun i => .int (-i)) (tC (.int 1)))) := po_some (pe_un un_neg pe_int)
  refine wpAny_Slice (thn (po_none.run pins s1 σ H1 (fun o H2 => o = none ∧ H2 = H1) I1 ⟨rfl, rfl⟩) fun vl s2 ⟨l, H2, I2, pl, el, e2⟩ => ?_)
  subst el e2
  refine thn (po_none.run pins s2 σ H2 (fun o H3 => o = none ∧ H3 = H2) I2 ⟨rfl, rfl⟩) fun vu s3 ⟨u, H3, I3, pu, eu, e3⟩ => ?_
  subst eu e3
  refine thn (hst.run pins s3 σ H3 (fun o H4 => o = some (-1) ∧ H4 = H3) I3 ⟨1, rfl, -1, rfl, rfl, rfl⟩) fun vs s4 ⟨o, H4, I4, ps, eo, e4⟩ => ?_
  subst eo e4
  have I5 : Inv X pins σ H4 { s4 with heap := s4.heap.push { cls := .type "slice", data := .fields #[vl, vu, vs] } } := I4.kept (t' := s4.toks) fun b ob q => Heap.get?_push_of_some _ q
  obtain ⟨its, r, ht, hz⟩ := I5.tuple hx
  have hlen := r.length
  show wpAny (model X.prog X.w) X.A (subscriptTail e (.Slice none none (some (.UnaryOp .USub (.Constant (.int 1) k p1) p2)) p3) (.ref a) (.ref s4.heap.objs.size)) (EP X pins σ Q) X.xe { s4 with heap := s4.heap.push { cls := .type "slice", data := .fields #[vl, vu, vs] } }
  refine tail_any (ops := [.ref a, .ref s4.heap.objs.size]) ht.typeIs (PyProof.Rows.slot_tuple_getitem.lookup) ?_ (by with_unfolding_all rfl)
  refine HT.getItem_tuple_rev ht (Heap.IsSliceOf.new _ vl vu vs) pl pu ps ?_ (by rw [List.size_toArray]; omega)
  refine ⟨.ref _, _, I5.laid (t' := s4.toks) (o := .frz { cls := .type "tuple", data := .seq its.reverse.toArray } (.tup xs.reverse)) (fun b ob q => Heap.get?_push_of_some _ q) (Nat.le_refl _) ?_, rfl, q _ _ (I5.hok.fresh (Nat.le_refl _)) rfl⟩
  exact ⟨Heap.get?_push_size _ rfl, by rw [List.length_reverse]; exact hz, _, r.reverse, IsTup.new _ _⟩
end
end L2

set_option maxHeartbeats 4000000
/-! the law's own knots: links and pairs -/
namespace Kk
open PySem PySem.Spec PyProof.Rows L2 Wd
/-- what the row of pairs has for a knot -/
def PrV (H : Hp) (p : Option (Nat × Nat)) (v : V) : Prop := match p with
  | none => v = .non
  | some (l, r) => ∃ q, v = .ref q ∧ H q = some (.tup [nv l, nv r])
/-- links at A, pairs at B -/
structure LkAt (A B : Addr) (S : Sys) (H : Hp) : Prop where
  a : ∃ hs : List Nat, H A = some (.lst (hs.map nv)) ∧ Hds hs S
  b : ∃ ps : List V, H B = some (.lst ps) ∧ ps.length = S.n ∧ ∀ i v, ps[i]? = some v → PrV H (S.prs i) v
  ok : S.Ok
  le : S.n ≤ 100000
  ab : A ≠ B
section
variable {A B : Addr} {S : Sys} {H H' : Hp}
theorem PrV.same {p : Option (Nat × Nat)} {v : V} (h : PrV H p v) (k : Same H H') : PrV H' p v := by
  cases p with
  | none => exact h
  | some lr =>
    obtain ⟨q, e, t⟩ := h
    exact ⟨q, e, k _ _ t⟩
theorem PrV.wr {p : Option (Nat × Nat)} {v : V} {b : Addr} {xs ys : List V} (h : PrV H p v) (hb : H b = some (.lst xs)) : PrV (upd H b (.lst ys)) p v := by
  cases p with
  | none => exact h
  | some lr =>
    obtain ⟨q, e, t⟩ := h
    exact ⟨q, e, by rw [upd_ne (fun z => by rw [z, hb] at t; cases t)]; exact t⟩
theorem PrV.wrD {p : Option (Nat × Nat)} {v : V} {b : Addr} {xs : List (Key × V)} {o : HO} (h : PrV H p v) (hb : H b = some (.dK xs)) : PrV (upd H b o) p v := by
  cases p with
  | none => exact h
  | some lr =>
    obtain ⟨q, e, t⟩ := h
    exact ⟨q, e, by rw [upd_ne (fun z => by rw [z, hb] at t; cases t)]; exact t⟩
theorem LkAt.same (h : LkAt A B S H) (k : Same H H') : LkAt A B S H' := by
  obtain ⟨⟨hs, e1, q⟩, ⟨ps, e2, l, p⟩, ok, le, n⟩ := h
  exact ⟨⟨hs, k _ _ e1, q⟩, ⟨ps, k _ _ e2, l, fun i v hv => (p i v hv).same k⟩, ok, le, n⟩
theorem LkAt.wr {b : Addr} {xs ys : List V} (h : LkAt A B S H) (hb : H b = some (.lst xs)) (n1 : b ≠ A) (n2 : b ≠ B) : LkAt A B S (upd H b (.lst ys)) := by
  obtain ⟨⟨hs, e1, q⟩, ⟨ps, e2, l, p⟩, ok, le, n⟩ := h
  exact ⟨⟨hs, by rw [upd_ne n1.symm]; exact e1, q⟩, ⟨ps, by rw [upd_ne n2.symm]; exact e2, l, fun i v hv => (p i v hv).wr hb⟩, ok, le, n⟩
theorem LkAt.wrD {b : Addr} {xs : List (Key × V)} {o : HO} (h : LkAt A B S H) (hb : H b = some (.dK xs)) : LkAt A B S (upd H b o) := by
  obtain ⟨⟨hs, e1, q⟩, ⟨ps, e2, l, p⟩, ok, le, n⟩ := h
  have n1 : A ≠ b := fun z => by rw [z, hb] at e1; cases e1
  have n2 : B ≠ b := fun z => by rw [z, hb] at e2; cases e2
  exact ⟨⟨hs, by rw [upd_ne n1]; exact e1, q⟩, ⟨ps, by rw [upd_ne n2]; exact e2, l, fun i v hv => (p i v hv).wrD hb⟩, ok, le, n⟩
/-- the links are written -/
theorem LkAt.link {hs : List Nat} (h : LkAt A B S H) (ha : H A = some (.lst (hs.map nv))) (hd : Hds hs S) {x y : Nat} (hx : x < S.n) (hy : y < S.n) (rx : S.rep x = x) (ry : S.rep y = y) (ne : x ≠ y) (hp : S.prs y ≠ none → S.prs x ≠ none) : LkAt A B (S.link x y) (upd H A (.lst ((hs.map nv).set y (nv x)))) := by
  obtain ⟨_, ⟨ps, e2, l, p⟩, ok, le, n⟩ := h
  exact ⟨⟨hs.set y x, by rw [upd_same, List.map_set], hd.link ok hx hy rx ry ne⟩, ⟨ps, by rw [upd_ne n.symm]; exact e2, l, fun i v hv => (p i v hv).wr ha⟩, ok.link hx rx ne hp, le, n⟩
theorem LkAt.pget (h : LkAt A B S H) {i : Nat} (hi : i < S.n) : ∃ ps v, H B = some (.lst ps) ∧ ps[i]? = some v ∧ PrV H (S.prs i) v := by
  obtain ⟨_, ⟨ps, e2, l, p⟩, _⟩ := h
  have : ps[i]? = some (ps[i]'(by omega)) := List.getElem?_eq_getElem _
  exact ⟨ps, _, e2, this, p i _ this⟩
end
section
variable {P : Program} {w : World} {K : PySem.W.Frag} {mg : Str → Option Value} {base : Heap}
def spTop : Sp := fun vs H Q _ => ∃ (A B : Addr) (S : Sys) (i : Nat), vs = [.ref A, .int (i : Nat)] ∧ LkAt A B S H ∧ i < S.n ∧ Q (.int (S.rep i : Nat)) H
abbrev s_top : Stmt := (top 35)
theorem sc_top : FnScope ["_law_links", "_law_knot", "_law_turn"] ["_law_links", "_law_knot"] (defScope s_top) := ⟨rfl, rfl, rfl, by decide +kernel, rfl, by decide +kernel, by decide +kernel⟩
theorem c_top (B : Bt mg) (D : DefAt K mg "_law_top" s_top) : Cal P w K mg base "_law_top" 1 ["_law_links", "_law_knot"] spTop := by
  refine cal_of D sc_top (fun _ _ _ _ _ _ us hl => match us, hl with | [_, _], _ => rfl) (fun vs H Q E h => ?_) (fun fa cdv A0 outer st0 H vs Q E hr h => ?_)
  · obtain ⟨A, B, S, i, rfl, _⟩ := h
    rfl
  · obtain ⟨A, B0, S, i, rfl, N0, hi, k⟩ := h
    refine ⟨_, (pss_cons (ps_for PassesOwn.never rfl (pi_range1 (by rfl) B.b_range (pa_cons (pe_callB call_len_seq (by rfl) B.b_len (by decide +kernel) (pa_cons (pv 0) pa_nil)) pa_nil)) (pg_name (i := 2) sc_top.nd rfl (by first | exact Or.inl rfl | exact Or.inr rfl)) (pss_cons (ps_if (pt_cmpR op_eq (pe_ix ix_list (pv 0) (pv 1) (fun _ _ => rfl)) (pv 1) (nomark _)) (pss_one ps_break) pss_nil)
      (pss_one (ps_set (i := 1) sc_top.nd rfl (by first | exact Or.inl rfl | exact Or.inr rfl) (pe_ix ix_list (pv 0) (pv 1) (fun _ _ => rfl))))))
      (pss_one (ps_ret (pv 1)))), ?_⟩
    obtain ⟨⟨hs, ha, d, hd⟩, _, ok, le, _⟩ := id N0
    have lah : (hs.map nv).length = S.n := by rw [List.length_map]; exact hd.len
    have en : (((hs.map nv).length : Nat) : Int).toNat = S.n := by rw [lah]; omega
    refine ⟨_, rfl, _, _, rfl, .inl (SqL.of ha), _, rfl, by omega, by rw [lah]; omega, for_range (lo := 0) (n := (((hs.map nv).length : Nat) : Int).toNat) (fun n σ H' => H' = H ∧ ∃ (j : Nat) (vis : List Nat) (v : Option V), σ = [some (.ref A), some (.int (j : Nat)), v] ∧ j < S.n ∧ S.rep j = S.rep i ∧ vis.length = n ∧ vis.Nodup ∧ ∀ z ∈ vis, z < S.n ∧ d j < d z) ⟨rfl, i, [], none, rfl, hi, rfl, rfl, List.nodup_nil, fun z h => absurd h (by simp)⟩ ?_ ?_⟩
    · rintro n σ H' hn ⟨rfl, j, vis, v, rfl, hj, rj, lv, nd, hv⟩
      obtain ⟨j1, e1⟩ : ∃ j1, hs[j]? = some j1 := ⟨hs[j]'(by rw [hd.len]; exact hj), List.getElem?_eq_getElem _⟩
      obtain ⟨j1n, rj1⟩ := hd.lt j j1 e1
      refine ⟨_, rfl, _, rfl, A, _, _, _, rfl, rfl, SqL.of ha, atI_nat (nv_get e1), _, rfl, rfl, _, rfl, ?_⟩
      by_cases e : j1 = j
      · refine ifY (by rw [e]; rfl) ?_
        subst e
        have fx := ((hd.fix j1).mp e1).2
        rw [fx] at rj
        rw [← rj] at k
        exact ⟨_, rfl, k⟩
      · refine ifN (fun z => e (by have z : V.int ((j1 : Nat) : Int) = V.int ((j : Nat) : Int) := z; have := V.int.inj z; omega)) ?_
        have dl := hd.ms j j1 e1 e
        refine ⟨_, rfl, _, rfl, A, _, _, _, rfl, rfl, SqL.of ha, atI_nat (nv_get e1), ?_⟩
        refine ⟨rfl, j1, j :: vis, _, rfl, j1n, rj1.trans rj, by simp [lv], List.nodup_cons.mpr ⟨fun q => Nat.lt_irrefl _ (hv j q).2, nd⟩, fun z hz => ?_⟩
        rcases List.mem_cons.mp hz with q | q
        · rw [q]; exact ⟨hj, dl⟩
        · exact ⟨(hv z q).1, Nat.lt_trans dl (hv z q).2⟩
    · rintro σ H' ⟨rfl, j, vis, v, rfl, hj, rj, lv, nd, hv⟩
      exfalso
      rw [en] at lv
      have := len_nodup (a := j :: vis) (b := List.range S.n) (List.nodup_cons.mpr ⟨fun q => Nat.lt_irrefl _ (hv j q).2, nd⟩) fun z hz => by
        rcases List.mem_cons.mp hz with q | q
        · rw [q]; exact List.mem_range.mpr hj
        · exact List.mem_range.mpr (hv z q).1
      simp at this
      omega
end
end Kk

set_option maxHeartbeats 4000000
/-! the law's own knots: new ones, made the same -/
namespace Kk
open PySem PySem.Spec PyProof.Rows L2 Wd
theorem LkAt.keep {A B p g : Addr} {S : Sys} {H H' : Hp} (h : LkAt A B S H) (k : Keep p g H H') (hp : ∃ xs, H p = some (.lst xs)) (hg : ∃ xs, H g = some (.lst xs)) (ap : A ≠ p) (ag : A ≠ g) (bp : B ≠ p) (bg : B ≠ g) : LkAt A B S H' := by
  obtain ⟨⟨hs, e1, q⟩, ⟨ps, e2, l, pv⟩, ok, le, n⟩ := h
  refine ⟨⟨hs, k _ _ e1 ap ag, q⟩, ⟨ps, k _ _ e2 bp bg, l, fun i v hv => ?_⟩, ok, le, n⟩
  have := pv i v hv
  cases e : S.prs i with
  | none => rw [e] at this; exact this
  | some lr =>
    rw [e] at this
    obtain ⟨q, e1, t⟩ := this
    obtain ⟨xs, hp⟩ := hp
    obtain ⟨ys, hg⟩ := hg
    exact ⟨q, e1, k _ _ t (fun z => by rw [z, hp] at t; cases t) (fun z => by rw [z, hg] at t; cases t)⟩
section
variable {P : Program} {w : World} {K : PySem.W.Frag} {mg : Str → Option Value} {base : Heap}
def spNewL : Sp := fun vs H Q _ => ∃ (A B : Addr) (S : Sys) (p : Option (Nat × Nat)) (v : V), vs = [.ref A, .ref B, v] ∧ LkAt A B S H ∧ PrV H p v ∧ S.n < 100000 ∧ (∀ l r, p = some (l, r) → l < S.n ∧ r < S.n) ∧
  ∀ H', LkAt A B (S.new p) H' → Keep A B H H' → Q (.int (S.n : Nat)) H'
abbrev s_newL : Stmt := (top 36)
theorem sc_newL : FnScope ["_law_links", "_law_pairs", "_law_pair"] ["_law_links", "_law_pairs", "_law_pair"] (defScope s_newL) := ⟨rfl, rfl, rfl, by decide +kernel, rfl, by decide +kernel, by decide +kernel⟩
theorem c_newL (B : Bt mg) (D : DefAt K mg "_law_new" s_newL) : Cal P w K mg base "_law_new" 1 ["_law_links", "_law_pairs", "_law_pair"] spNewL := by
  refine cal_of D sc_newL (fun _ _ _ _ _ _ us hl => match us, hl with | [_, _, _], _ => rfl) (fun vs H Q E h => ?_) (fun fa cdv A0 outer st0 H vs Q E hr h => ?_)
  · obtain ⟨A, B, S, p, v, rfl, _⟩ := h
    rfl
  · obtain ⟨A, B0, S, p, v, rfl, N0, pvh, hn, hp, k⟩ := h
    refine ⟨_, (pss_cons (ps_expr (pe_bm PySem.F.plainAttrs_list PySem.F.slot_list_append PySem.F.type_list_append mt_append (pv 0) (pa_cons (pe_callB call_len_seq (by rfl) B.b_len (by decide +kernel) (pa_cons (pv 0) pa_nil)) pa_nil)))
      (pss_cons (ps_expr (pe_bm PySem.F.plainAttrs_list PySem.F.slot_list_append PySem.F.type_list_append mt_append (pv 1) (pa_cons (pv 2) pa_nil)))
      (pss_one (ps_ret (pe_op op_sub (pe_callB call_len_seq (by rfl) B.b_len (by decide +kernel) (pa_cons (pv 0) pa_nil)) pe_int))))), ?_⟩
    obtain ⟨⟨hs, ha, hd⟩, ⟨ps, hb, lp, hpv⟩, ok, le, nab⟩ := id N0
    have la : (hs.map nv).length = S.n := by rw [List.length_map]; exact hd.len
    have sm : S.n < sizeLine := small_lt (m := 1000000) (by omega) (by decide)
    refine ⟨_, rfl, .inl ⟨rfl, _, SqL.of ha⟩, _, rfl, _, _, rfl, .inl (SqL.of ha), A, _, _, rfl, rfl, ha, by rw [la]; exact sm, ?_⟩
    rw [la]
    have a1 : upd H A (.lst (hs.map nv ++ [V.int (S.n : Nat)])) A = some (.lst ((hs ++ [S.n]).map nv)) := by rw [upd_same, List.map_append]; rfl
    have b1 : upd H A (.lst (hs.map nv ++ [V.int (S.n : Nat)])) B0 = some (.lst ps) := by rw [upd_ne nab.symm]; exact hb
    have pw : ∀ {q : Option (Nat × Nat)} {u : V}, PrV H q u → PrV (upd H A (.lst (hs.map nv ++ [V.int (S.n : Nat)]))) q u := fun h => h.wr ha
    have K1 : Keep A B0 H (upd H A (.lst (hs.map nv ++ [V.int (S.n : Nat)]))) := fun b o hb h1 _ => by rw [upd_ne h1]; exact hb
    generalize upd H A (.lst (hs.map nv ++ [V.int (S.n : Nat)])) = H1 at *
    refine ⟨_, rfl, .inl ⟨rfl, _, SqL.of b1⟩, _, rfl, B0, _, _, rfl, rfl, b1, by rw [lp]; exact sm, ?_⟩
    have a2 : upd H1 B0 (.lst (ps ++ [v])) A = some (.lst ((hs ++ [S.n]).map nv)) := by rw [upd_ne nab]; exact a1
    have b2 : upd H1 B0 (.lst (ps ++ [v])) B0 = some (.lst (ps ++ [v])) := upd_same
    have pw2 : ∀ {q : Option (Nat × Nat)} {u : V}, PrV H q u → PrV (upd H1 B0 (.lst (ps ++ [v]))) q u := fun h => (pw h).wr b1
    have K2 : Keep A B0 H (upd H1 B0 (.lst (ps ++ [v]))) := fun b o hb h1 h2 => by rw [upd_ne h2]; exact K1 b o hb h1 h2
    generalize upd H1 B0 (.lst (ps ++ [v])) = H2 at *
    refine ⟨_, rfl, _, _, rfl, .inl (SqL.of a2), _, _, rfl, rfl, ?_⟩
    have e : (((hs ++ [S.n]).map nv).length : Int) - 1 = (S.n : Nat) := by
      rw [List.length_map, List.length_append, hd.len]
      simp
    dsimp only
    rw [e]
    refine k H2 ⟨⟨_, a2, hd.new ok p⟩, ⟨_, b2, by simp [lp, Sys.new], fun i u hu => ?_⟩, ok.new hp, by show S.n + 1 ≤ 100000; omega, nab⟩ K2
    show PrV H2 (if i = S.n then p else S.prs i) u
    rcases Nat.lt_or_ge i ps.length with q | q
    · rw [List.getElem?_append_left q] at hu
      rw [if_neg (by omega)]
      exact pw2 (hpv i u hu)
    · rw [List.getElem?_append_right q] at hu
      have : i - ps.length = 0 := by
        rcases Nat.eq_zero_or_pos (i - ps.length) with z | z
        · exact z
        · rw [List.getElem?_eq_none (by simp; omega)] at hu; cases hu
      rw [this] at hu
      have e1 : v = u := by simpa using hu
      rw [if_pos (by omega), ← e1]
      exact pw2 pvh
def spJoinL : Sp := fun vs H Q _ => ∃ (A B : Addr) (S : Sys) (a b : Nat), vs = [.ref A, .ref B, .int (a : Nat), .int (b : Nat)] ∧ LkAt A B S H ∧ Cong S [] ∧ a < S.n ∧ b < S.n ∧
  ∀ H' F, LkAt A B F H' → Keep A B H H' → Made S F a b → Q .non H'
abbrev s_joinL : Stmt := (top 37)
theorem sc_joinL : FnScope ["_law_links", "_law_pairs", "_law_one", "_law_other", "_law_waiting", "_law_turn", "_law_first", "_law_last"] ["_law_links", "_law_pairs", "_law_one", "_law_other"] (defScope s_joinL) := ⟨rfl, rfl, rfl, by decide +kernel, rfl, by decide +kernel, by decide +kernel⟩
theorem c_joinL (B : Bt mg) (D : DefAt K mg "_law_join" s_joinL) (C_law_top : Cal P w K mg base "_law_top" 1 ["_law_links", "_law_knot"] spTop) : Cal P w K mg base "_law_join" 2 ["_law_links", "_law_pairs", "_law_one", "_law_other"] spJoinL := by
  refine cal_of D sc_joinL (fun _ _ _ _ _ _ us hl => match us, hl with | [_, _, _, _], _ => rfl) (fun vs H Q E h => ?_) (fun fa cdv A0 outer st0 H vs Q E hr h => ?_)
  · obtain ⟨A, B, S, a, b, rfl, _⟩ := h
    rfl
  · obtain ⟨A, B0, S, a, b, rfl, N0, cg, ha, hb, k⟩ := h
    refine ⟨_, (pss_cons (ps_set (i := 4) sc_joinL.nd rfl (by first | exact Or.inl rfl | exact Or.inr rfl) (pe_lst (pa_cons (pe_tup (pa_cons (pv 2) (pa_cons (pv 3) pa_nil))) pa_nil)))
      (pss_one (ps_for PassesOwn.never rfl (pi_range1 (by rfl) B.b_range (pa_cons (pe_op op_add (pe_op op_mul pe_int (pe_callB call_len_seq (by rfl) B.b_len (by decide +kernel) (pa_cons (pv 0) pa_nil))) pe_int) pa_nil)) (pg_name (i := 5) sc_joinL.nd rfl (by first | exact Or.inl rfl | exact Or.inr rfl)) (pss_cons (ps_if (pt_cmpR op_eq (pe_callB call_len_seq (by rfl) B.b_len (by decide +kernel) (pa_cons (pv 4) pa_nil)) pe_int (nomark _)) (pss_one ps_break) pss_nil)
      (pss_cons (ps_asg (pe_bm0 PySem.F.plainAttrs_list PySem.F.slot_list_pop PySem.F.type_list_pop mt_pop (pv 4)) (pg_tup (by rfl) (pgs_cons (pg_name (i := 6) sc_joinL.nd rfl (by first | exact Or.inl rfl | exact Or.inr rfl)) (pgs_cons (pg_name (i := 7) sc_joinL.nd rfl (by first | exact Or.inl rfl | exact Or.inr rfl)) pgs_nil))))
      (pss_cons (ps_set (i := 6) sc_joinL.nd rfl (by first | exact Or.inl rfl | exact Or.inr rfl) (pe_c C_law_top (hr.mono (by decide)) (pa_cons (pv 0) (pa_cons (pv 6) pa_nil))))
      (pss_cons (ps_set (i := 7) sc_joinL.nd rfl (by first | exact Or.inl rfl | exact Or.inr rfl) (pe_c C_law_top (hr.mono (by decide)) (pa_cons (pv 0) (pa_cons (pv 7) pa_nil))))
      (pss_one (ps_if (PW.pt (pw_and (pt_cmpR op_ne (pv 6) (pv 7) (nomark _)) (pw_and1 (pt_cmpR op_isN (pe_ix ix_list (pv 1) (pv 6) (fun _ _ => rfl)) pe_non (nomark _))))) (pss_one (ps_asg (pv 7) (pg_sub (pv 0) (pv 6) set_list))) (pss_one (ps_if (PW.pt (pw_and (pt_cmpR op_ne (pv 6) (pv 7) (nomark _)) (pw_and1 (pt_cmpR op_isN (pe_ix ix_list (pv 1) (pv 7) (fun _ _ => rfl)) pe_non (nomark _))))) (pss_one (ps_asg (pv 6) (pg_sub (pv 0) (pv 7) set_list))) (pss_one (ps_if (pt_cmpR op_ne (pv 6) (pv 7) (nomark _)) (pss_cons (ps_asg (pv 7) (pg_sub (pv 0) (pv 6) set_list))
      (pss_cons (ps_expr (pe_bm PySem.F.plainAttrs_list PySem.F.slot_list_append PySem.F.type_list_append mt_append (pv 4) (pa_cons (pe_tup (pa_cons (pe_ix ix_tup (pe_ix ix_list (pv 1) (pv 6) (fun _ _ => rfl)) pe_int (fun _ _ => rfl)) (pa_cons (pe_ix ix_tup (pe_ix ix_list (pv 1) (pv 7) (fun _ _ => rfl)) pe_int (fun _ _ => rfl)) pa_nil))) pa_nil)))
      (pss_one (ps_expr (pe_bm PySem.F.plainAttrs_list PySem.F.slot_list_append PySem.F.type_list_append mt_append (pv 4) (pa_cons (pe_tup (pa_cons (pe_ix ix_tup (pe_ix ix_list (pv 1) (pv 6) (fun _ _ => rfl)) pe_int (fun _ _ => rfl)) (pa_cons (pe_ix ix_tup (pe_ix ix_list (pv 1) (pv 7) (fun _ _ => rfl)) pe_int (fun _ _ => rfl)) pa_nil))) pa_nil)))))) pss_nil))))))))))))), ?_⟩
    obtain ⟨⟨hs0, ha0, hd0⟩, ⟨ps0, hb0, lp0, _⟩, ok0, le0, nab⟩ := id N0
    have la0 : (hs0.map nv).length = S.n := by rw [List.length_map]; exact hd0.len
    refine ⟨_, rfl, _, rfl, (by show 2 ≤ sizeLine; decide), fun t nt => ⟨(by show 1 ≤ sizeLine; decide), fun Wq nW => ?_⟩⟩
    have S1 := same_upd (o := HO.tup [V.int (a : Nat), V.int (b : Nat)]) nt
    have t1 : upd H t (.tup [V.int (a : Nat), V.int (b : Nat)]) t = some (.tup [V.int (a : Nat), V.int (b : Nat)]) := upd_same
    have N1 := N0.same S1
    generalize upd H t (.tup [V.int (a : Nat), V.int (b : Nat)]) = H1 at *
    have S2 := same_upd (o := HO.lst [V.ref t]) nW
    have W2 : WqAt (upd H1 Wq (.lst [V.ref t])) Wq [(t, a, b)] := ⟨upd_same, fun p hp => by
      have : p = (t, a, b) := by simpa using hp
      rw [this]; exact S2 _ _ t1⟩
    have N2 := N1.same S2
    have nWH : H Wq = none := S1.free nW
    have WA : Wq ≠ A := (ne_of_none ha0 nWH).symm
    have WB : Wq ≠ B0 := (ne_of_none hb0 nWH).symm
    have ha2 := (S1.trans S2) _ _ ha0
    have K2 : Keep A B0 H (upd H1 Wq (.lst [V.ref t])) := Same.keep (S1.trans S2)
    generalize upd H1 Wq (.lst [V.ref t]) = H2 at *
    have big : ∀ n : Nat, n ≤ 1000000 → n < sizeLine := fun n h => small_lt (m := 2000000) (by omega) (by decide)
    have rb := roots_bound S
    have kwr : ∀ {Hz : Hp} {ys : List V}, Keep A B0 H Hz → Keep A B0 H (upd Hz Wq (.lst ys)) := fun k b o hb h1 h2 => by
      rw [upd_ne (ne_of_none hb nWH)]
      exact k b o hb h1 h2
    refine ⟨_, rfl, _, _, rfl, .inl (SqL.of ha2), _, _, rfl, rfl, .inl ⟨by decide, by decide⟩, _, _, rfl, rfl, _, rfl, by omega, by rw [la0]; omega, for_range (lo := 0) (n := (3 * (((hs0.map nv).length : Nat) : Int) + 3).toNat) (fun i σ H' => ∃ (F : Sys) (ws : List (Addr × Nat × Nat)) (v5 v6 v7 : Option V), σ = [some (.ref A), some (.ref B0), some (.int (a : Nat)), some (.int (b : Nat)), some (.ref Wq), v5, v6, v7] ∧ 3 * F.roots.length + ws.length + i ≤ 3 * S.n + 1 ∧ LkAt A B0 F H' ∧ WqAt H' Wq ws ∧ UI S a b F (ws.map Prod.snd) ∧ Keep A B0 H H')
      ⟨S, [(t, a, b)], none, none, none, rfl, by simp; omega, N2, W2, UI.start cg ha hb, K2⟩ ?_ ?_⟩
    · rintro i σ H3 hi ⟨F, ws, v5, v6, v7, rfl, em, N3, W3, ui, K3⟩
      have lw : (ws.reverse.map fun p => V.ref p.1).length = ws.length := by rw [List.length_map, List.length_reverse]
      refine ⟨_, rfl, _, _, rfl, .inl (SqL.of W3.l), rfl, _, rfl, ?_⟩
      rw [lw]
      cases ws with
      | nil =>
        refine ifY (by rfl) ?_
        exact k H3 F N3 K3 (ui.done N3.ok)
      | cons p ws =>
      refine ifN (fun z => by have z : V.int (((p :: ws).length : Nat) : Int) = V.int 0 := z; have := V.int.inj z; simp at this; omega) ?_
      obtain ⟨q, c, d⟩ := p
      have l3 := W3.l
      rw [List.reverse_cons, List.map_append] at l3
      have l3 : H3 Wq = some (.lst ((ws.reverse.map fun p => V.ref p.1) ++ [V.ref q])) := l3
      refine ⟨_, rfl, .inl ⟨rfl, _, SqL.of l3⟩, Wq, _, V.ref q, rfl, rfl, l3, by simp, ?_⟩
      rw [List.dropLast_concat]
      have W4 := W3.pop
      have N4 : LkAt A B0 F (upd H3 Wq (.lst (ws.reverse.map fun p => V.ref p.1))) := N3.wr l3 WA WB
      have K4 : Keep A B0 H (upd H3 Wq (.lst (ws.reverse.map fun p => V.ref p.1))) := kwr K3
      have q4 : upd H3 Wq (.lst (ws.reverse.map fun p => V.ref p.1)) q = some (.tup [nv c, nv d]) := by
        have e := W3.t (q, c, d) (by simp)
        rw [upd_ne fun z => by rw [show (q, c, d).1 = q from rfl, z, l3] at e; cases e]
        exact e
      generalize upd H3 Wq (.lst (ws.reverse.map fun p => V.ref p.1)) = H4 at *
      obtain ⟨hc, hd⟩ := ui.bd (c, d) (by simp)
      have en := ui.n
      refine ⟨q, _, rfl, SqT.of q4, rfl, _, _, rfl, _, _, rfl, rfl, ?_⟩
      refine ⟨_, rfl, _, rfl, A, B0, F, c, rfl, N4, by omega, ?_⟩
      refine ⟨_, rfl, _, rfl, A, B0, F, d, rfl, N4, by omega, ?_⟩
      have okF := N4.ok
      have rc := okF.rl c (by omega)
      have rd := okF.rl d (by omega)
      have rrc := okF.rr c (by omega)
      have rrd := okF.rr d (by omega)
      have bd0 : ∀ p ∈ ws.map Prod.snd, p.1 < S.n ∧ p.2 < S.n := fun p hp => ui.bd p (by simp only [List.map_cons, List.mem_cons]; exact .inr hp)
      simp only [List.length_cons] at em
      -- the tests
      by_cases e : F.rep c = F.rep d
      · have e1 : nv (F.rep c) = nv (F.rep d) := congrArg nv e
        refine ⟨_, rfl, _, rfl, rfl, _, rfl, ifNY e1 (iteF ?_)⟩
        refine ⟨_, rfl, _, rfl, rfl, _, rfl, ifNY e1 (iteF ?_)⟩
        exact ⟨_, rfl, _, rfl, rfl, _, rfl, ifNY e1 ⟨F, ws, _, _, _, rfl, by omega, N4, W4, ui.same e, K4⟩⟩
      have e1 : ¬ nv (F.rep c) = nv (F.rep d) := fun z => e (by have := V.int.inj z; omega)
      -- the tail: y follows x'
      have tail : ∀ (x' y' : Nat) (ws' : List (Addr × Nat × Nat)) (H7 : Hp) (xs : List V), ((x' = F.rep c ∧ y' = F.rep d) ∨ (x' = F.rep d ∧ y' = F.rep c)) → (F.prs y' ≠ none → F.prs x' ≠ none) → Push F x' y' (ws.map Prod.snd) (ws'.map Prod.snd) → (∀ p ∈ ws'.map Prod.snd, p.1 < S.n ∧ p.2 < S.n) → ws'.length ≤ ws.length + 2 → LkAt A B0 F H7 → WqAt H7 Wq ws' → Keep A B0 H H7 → H7 A = some (.lst xs) →
          y' < xs.length ∧ LkAt A B0 (F.link x' y') (upd H7 A (.lst (xs.set y' (nv x')))) ∧ WqAt (upd H7 A (.lst (xs.set y' (nv x')))) Wq ws' ∧ UI S a b (F.link x' y') (ws'.map Prod.snd) ∧ Keep A B0 H (upd H7 A (.lst (xs.set y' (nv x')))) ∧ 3 * (F.link x' y').roots.length + ws'.length + (i + 1) ≤ 3 * S.n + 1 := by
        intro x' y' ws' H7 xs xy hp Pu bd hl N7 W7 K7 hx7
        have q : x' < F.n ∧ y' < F.n ∧ F.rep x' = x' ∧ F.rep y' = y' ∧ x' ≠ y' := by
          rcases xy with ⟨e1, e2⟩ | ⟨e1, e2⟩ <;> subst e1 <;> subst e2
          · exact ⟨rc, rd, rrc, rrd, e⟩
          · exact ⟨rd, rc, rrd, rrc, fun z => e z.symm⟩
        obtain ⟨x1, y1, rx, ry, ne⟩ := q
        have rl := roots_link okF x1 y1 rx ry ne
        obtain ⟨⟨hs7, ha7, hd7⟩, _⟩ := id N7
        rw [hx7] at ha7
        have exs : xs = hs7.map nv := by injection ha7 with h; injection h
        subst exs
        refine ⟨by rw [List.length_map, hd7.len]; exact y1, N7.link hx7 hd7 x1 y1 rx ry ne hp, ⟨by rw [upd_ne WA]; exact W7.l, fun p hp' => ?_⟩, ui.link okF xy Pu bd, fun b' o hb' h1 h2 => by rw [upd_ne h1]; exact K7 b' o hb' h1 h2, by omega⟩
        have := W7.t p hp'
        rw [upd_ne (fun z => by rw [z, hx7] at this; cases this)]
        exact this
      obtain ⟨hs4, ha4, hd4⟩ := id N4.a
      obtain ⟨ps, pc, hps, gpc, vc⟩ := N4.pget rc
      refine ⟨_, rfl, _, rfl, rfl, _, rfl, ifNN e1 ?_⟩
      refine ⟨_, rfl, _, rfl, B0, _, _, _, rfl, rfl, SqL.of hps, atI_nat gpc, rfl, _, rfl, ?_⟩
      cases hpc : F.prs (F.rep c) with
      | none =>
        rw [hpc] at vc
        have vc : pc = .non := vc
        subst vc
        obtain ⟨b1, b2, b3, b4, b5, b6⟩ := tail (F.rep d) (F.rep c) ws H4 _ (.inr ⟨rfl, rfl⟩) (fun h => absurd hpc h) (push_none hpc) bd0 (by omega) N4 W4 K4 ha4
        refine ifY rfl ?_
        exact ⟨_, rfl, _, rfl, _, rfl, A, _, _, F.rep c, rfl, rfl, ha4, ixN_lt b1, _, ws, _, _, _, rfl, b6, b2, b3, b4, b5⟩
      | some lr =>
        obtain ⟨lc, rc'⟩ := lr
        rw [hpc] at vc
        obtain ⟨qc, rfl, tc⟩ := vc
        refine ifN (fun z => nomatch z) ?_
        obtain ⟨ps', pd, hps', gpd, vd⟩ := N4.pget rd
        have eps : ps' = ps := by rw [hps] at hps'; injection hps' with h; injection h with h; exact h.symm
        subst eps
        refine ⟨_, rfl, _, rfl, rfl, _, rfl, ifNN e1 ?_⟩
        refine ⟨_, rfl, _, rfl, B0, _, _, _, rfl, rfl, SqL.of hps, atI_nat gpd, rfl, _, rfl, ?_⟩
        cases hpd : F.prs (F.rep d) with
        | none =>
          rw [hpd] at vd
          have vd : pd = .non := vd
          subst vd
          obtain ⟨b1, b2, b3, b4, b5, b6⟩ := tail (F.rep c) (F.rep d) ws H4 _ (.inl ⟨rfl, rfl⟩) (fun h => absurd hpd h) (push_none hpd) bd0 (by omega) N4 W4 K4 ha4
          refine ifY rfl ?_
          exact ⟨_, rfl, _, rfl, _, rfl, A, _, _, F.rep d, rfl, rfl, ha4, ixN_lt b1, _, ws, _, _, _, rfl, b6, b2, b3, b4, b5⟩
        | some lr =>
          obtain ⟨ld, rd'⟩ := lr
          rw [hpd] at vd
          obtain ⟨qd, rfl, td⟩ := vd
          refine ifN (fun z => nomatch z) ?_
          refine ⟨_, rfl, _, rfl, rfl, _, rfl, ifNN e1 ?_⟩
          obtain ⟨blc, brc⟩ := okF.pl _ _ _ rc hpc
          obtain ⟨bld, brd⟩ := okF.pl _ _ _ rd hpd
          have ne : F.rep d ≠ F.rep c := fun z => e z.symm
          have yl : F.rep c < (hs4.map nv).length := by rw [List.length_map, hd4.len]; exact rc
          have N5 : LkAt A B0 (F.link (F.rep d) (F.rep c)) (upd H4 A (.lst ((hs4.map nv).set (F.rep c) (V.int (F.rep d : Nat))))) := N4.link ha4 hd4 rd rc rrd rrc ne (fun _ => by rw [hpd]; simp)
          have rl := roots_link okF rd rc rrd rrc ne
          have rwA : ∀ {b' : Addr} {o : HO}, H4 b' = some o → b' ≠ A → upd H4 A (.lst ((hs4.map nv).set (F.rep c) (V.int (F.rep d : Nat)))) b' = some o := fun hb hn => by rw [upd_ne hn]; exact hb
          have tA : ∀ {q : Addr} {xs : List V}, H4 q = some (.tup xs) → q ≠ A := fun h z => by rw [z, ha4] at h; cases h
          have W5 : WqAt (upd H4 A (.lst ((hs4.map nv).set (F.rep c) (V.int (F.rep d : Nat))))) Wq ws := ⟨rwA W4.l WA, fun p hp' => rwA (W4.t p hp') (tA (W4.t p hp'))⟩
          have K5 : Keep A B0 H (upd H4 A (.lst ((hs4.map nv).set (F.rep c) (V.int (F.rep d : Nat))))) := fun b' o hb' h1 h2 => rwA (K4 b' o hb' h1 h2) h1
          have tc5 := rwA tc (tA tc)
          have td5 := rwA td (tA td)
          have ps5 := rwA hps nab.symm
          refine ⟨_, rfl, _, rfl, _, rfl, A, _, _, F.rep c, rfl, rfl, ha4, ixN_lt yl, ?_⟩
          dsimp only
          generalize upd H4 A (.lst ((hs4.map nv).set (F.rep c) (V.int (F.rep d : Nat)))) = H5 at *
          have lwb : ws.length ≤ 900000 := by omega
          have lw5 : (ws.reverse.map fun p => V.ref p.1).length = ws.length := by rw [List.length_map, List.length_reverse]
          refine ⟨_, rfl, .inl ⟨rfl, _, SqL.of W5.l⟩, _, rfl, _, rfl, B0, _, _, _, rfl, rfl, SqL.of ps5, atI_nat gpc, qc, _, _, _, rfl, rfl, SqT.of tc5, at_of (j := 0) rfl rfl, _, rfl, _, rfl, B0, _, _, _, rfl, rfl, SqL.of ps5, atI_nat gpd, qd, _, _, _, rfl, rfl, SqT.of td5, at_of (j := 0) rfl rfl, (by show 2 ≤ sizeLine; decide), fun t1 nt1 => ?_⟩
          have Sa := same_upd (o := HO.tup [nv lc, nv ld]) nt1
          have Ta : upd H5 t1 (.tup [nv lc, nv ld]) t1 = some (.tup [nv lc, nv ld]) := upd_same
          have N6 := N5.same Sa
          have W6 := W5.same Sa
          have K6 := K5.trans (Same.keep Sa)
          have tc6 := Sa _ _ tc5
          have td6 := Sa _ _ td5
          have ps6 := Sa _ _ ps5
          generalize upd H5 t1 (.tup [nv lc, nv ld]) = H6 at *
          refine ⟨Wq, _, _, rfl, rfl, W6.l, by rw [lw5]; exact big _ (by omega), ?_⟩
          have tW : ∀ {q : Addr} {xs : List V}, H6 q = some (.tup xs) → q ≠ Wq := fun h z => by rw [z, W6.l] at h; cases h
          have N7 := N6.wr (ys := (ws.reverse.map fun p => V.ref p.1) ++ [V.ref t1]) W6.l WA WB
          have W7 := W6.push Ta
          have K7 := kwr (ys := (ws.reverse.map fun p => V.ref p.1) ++ [V.ref t1]) K6
          have tc7 : upd H6 Wq (.lst ((ws.reverse.map fun p => V.ref p.1) ++ [V.ref t1])) qc = some (.tup [nv lc, nv rc']) := by rw [upd_ne (tW tc6)]; exact tc6
          have td7 : upd H6 Wq (.lst ((ws.reverse.map fun p => V.ref p.1) ++ [V.ref t1])) qd = some (.tup [nv ld, nv rd']) := by rw [upd_ne (tW td6)]; exact td6
          have ps7 : upd H6 Wq (.lst ((ws.reverse.map fun p => V.ref p.1) ++ [V.ref t1])) B0 = some (.lst ps') := by rw [upd_ne WB.symm]; exact ps6
          generalize upd H6 Wq (.lst ((ws.reverse.map fun p => V.ref p.1) ++ [V.ref t1])) = H7 at *
          refine ⟨_, rfl, .inl ⟨rfl, _, SqL.of W7.l⟩, _, rfl, _, rfl, B0, _, _, _, rfl, rfl, SqL.of ps7, atI_nat gpc, qc, _, _, _, rfl, rfl, SqT.of tc7, at_of (j := 1) rfl rfl, _, rfl, _, rfl, B0, _, _, _, rfl, rfl, SqL.of ps7, atI_nat gpd, qd, _, _, _, rfl, rfl, SqT.of td7, at_of (j := 1) rfl rfl, (by show 2 ≤ sizeLine; decide), fun t2 nt2 => ?_⟩
          have Sc := same_upd (o := HO.tup [nv rc', nv rd']) nt2
          have Tc : upd H7 t2 (.tup [nv rc', nv rd']) t2 = some (.tup [nv rc', nv rd']) := upd_same
          have N8 := N7.same Sc
          have W8 := W7.same Sc
          have K8 := K7.trans (Same.keep Sc)
          generalize upd H7 t2 (.tup [nv rc', nv rd']) = H8 at *
          refine ⟨Wq, _, _, rfl, rfl, W8.l, by rw [List.length_map, List.length_reverse]; exact big _ (by simp; omega), ?_⟩
          refine ⟨F.link (F.rep d) (F.rep c), (t2, rc', rd') :: (t1, lc, ld) :: ws, _, _, _, rfl, by simp; omega, N8.wr W8.l WA WB, W8.push Tc, ui.link okF (.inr ⟨rfl, rfl⟩) (push_pair hpd hpc fun R' E' => ?_) fun p hp' => ?_, kwr K8⟩
          · unfold EqW
            simp only [List.map_cons, List.mem_cons]
            constructor
            · intro h
              exact ⟨h (lc, ld) (.inr (.inl rfl)), h (rc', rd') (.inl rfl), fun p hp => h p (.inr (.inr hp))⟩
            · rintro ⟨h1, h2, h3⟩ p (z | z | z)
              · rw [z]; exact h2
              · rw [z]; exact h1
              · exact h3 p z
          · simp only [List.map_cons, List.mem_cons] at hp'
            rcases hp' with z | z | z
            · rw [z]; exact ⟨by show rc' < _; omega, by show rd' < _; omega⟩
            · rw [z]; exact ⟨by show lc < _; omega, by show ld < _; omega⟩
            · exact bd0 p z
    · rintro σ H3 ⟨F, ws, v5, v6, v7, rfl, em, N3, W3, ui, K3⟩
      exfalso
      have : (3 * (((hs0.map nv).length : Nat) : Int) + 3).toNat = 3 * S.n + 3 := by rw [la0]; omega
      rw [this] at em
      omega
end
end Kk

set_option maxHeartbeats 4000000
/-! the law's own knots: rings, sizes -/
namespace Kk
open PySem PySem.Spec PyProof.Rows L2 Wd
/-- knots that are done -/
structure DnD (kvs : List (Key × V)) (dn : List Nat) : Prop where
  get : ∀ n : Nat, valV kvs (.inl (n : Int)) = if n ∈ dn then some (.bl true) else none
  nd : dn.Nodup
  len : kvs.length = dn.length
theorem DnD.start : DnD [] [] := ⟨fun n => by simp [valV], List.nodup_nil, rfl⟩
theorem DnD.some {kvs : List (Key × V)} {dn : List Nat} (h : DnD kvs dn) (n : Nat) : (valV kvs (.inl (n : Int))).isSome = decide (n ∈ dn) := by
  rw [h.get]
  by_cases e : n ∈ dn
  · rw [if_pos e, decide_eq_true e]; rfl
  · rw [if_neg e, decide_eq_false e]; rfl
theorem putK_old {kvs : List (Key × V)} {k : Key} {v u : V} (h : valV kvs k = some u) : (putK kvs k v).length = kvs.length := by
  unfold putK
  have : kvs.any (fun p => decide (p.1 = k)) = true := by
    rw [valV_any, h]; rfl
  rw [if_pos this, List.length_map]
theorem DnD.put {kvs : List (Key × V)} {dn : List Nat} (h : DnD kvs dn) (x : Nat) : ∃ dn', DnD (putK kvs (.inl (x : Int)) (.bl true)) dn' ∧ ∀ n, n ∈ dn' ↔ n ∈ dn ∨ n = x := by
  have key : ∀ n : Nat, ((Sum.inl ((n : Nat) : Int) : Key) = Sum.inl ((x : Nat) : Int)) ↔ n = x := fun n => ⟨fun z => by have := Sum.inl.inj z; omega, fun z => by rw [z]⟩
  by_cases hx : x ∈ dn
  · refine ⟨dn, ⟨fun n => ?_, h.nd, ?_⟩, fun n => ⟨.inl, fun q => q.elim id fun z => z ▸ hx⟩⟩
    · rw [valV_put]
      by_cases q : n = x
      · subst q
        rw [if_pos rfl, if_pos hx]
      · rw [if_neg (fun z => q ((key n).mp z)), h.get]
    · rw [putK_old (by rw [h.get, if_pos hx])]; exact h.len
  · refine ⟨dn ++ [x], ⟨fun n => ?_, List.nodup_append.mpr ⟨h.nd, by simp, fun a ha b hb e => hx ?_⟩, ?_⟩, fun n => by simp⟩
    · rw [valV_put]
      by_cases q : n = x
      · subst q
        rw [if_pos rfl, if_pos (by simp)]
      · rw [if_neg (fun z => q ((key n).mp z)), h.get]
        by_cases z : n ∈ dn
        · rw [if_pos z, if_pos (by simp [z])]
        · rw [if_neg z, if_neg (by simp [z, q])]
    · have : b = x := by simpa using hb
      rw [← this, ← e]; exact ha
    · rw [putK_new (by rw [h.get, if_neg hx]), List.length_append, List.length_append, h.len]; rfl
section
variable {P : Program} {w : World} {K : PySem.W.Frag} {mg : Str → Option Value} {base : Heap}
def spRing : Sp := fun vs H Q _ => ∃ (A B : Addr) (S : Sys) (i : Nat), vs = [.ref A, .ref B, .int (i : Nat)] ∧ LkAt A B S H ∧ i < S.n ∧
  ∀ H' b, Same H H' → (b = true ↔ ¬ ∃ t, Tr S i t) → Q (.bl b) H'
abbrev s_ring : Stmt := (top 38)
theorem sc_ring : FnScope ["_law_links", "_law_pairs", "_law_start", "_law_done", "_law_turn", "_law_knot", "_law_pair"] ["_law_links", "_law_pairs", "_law_start"] (defScope s_ring) := ⟨rfl, rfl, rfl, by decide +kernel, rfl, by decide +kernel, by decide +kernel⟩
theorem c_ring (B : Bt mg) (D : DefAt K mg "_law_is_ring" s_ring) (C_law_top : Cal P w K mg base "_law_top" 1 ["_law_links", "_law_knot"] spTop) : Cal P w K mg base "_law_is_ring" 2 ["_law_links", "_law_pairs", "_law_start"] spRing := by
  refine cal_of D sc_ring (fun _ _ _ _ _ _ us hl => match us, hl with | [_, _, _], _ => rfl) (fun vs H Q E h => ?_) (fun fa cdv A0 outer st0 H vs Q E hr h => ?_)
  · obtain ⟨A, B, S, i, rfl, _⟩ := h
    rfl
  · obtain ⟨A, B0, S, i, rfl, N0, hi, k⟩ := h
    refine ⟨_, (pss_cons (ps_set (i := 3) sc_ring.nd rfl (by first | exact Or.inl rfl | exact Or.inr rfl) pe_dnewK)
      (pss_cons (ps_for PassesOwn.never rfl (pi_range1 (by rfl) B.b_range (pa_cons (pe_op op_add (pe_callB call_len_seq (by rfl) B.b_len (by decide +kernel) (pa_cons (pv 0) pa_nil)) pe_int) pa_nil)) (pg_name (i := 4) sc_ring.nd rfl (by first | exact Or.inl rfl | exact Or.inr rfl)) (pss_one (ps_for PassesOwn.never rfl (pi_range1 (by rfl) B.b_range (pa_cons (pe_callB call_len_seq (by rfl) B.b_len (by decide +kernel) (pa_cons (pv 0) pa_nil)) pa_nil)) (pg_name (i := 5) sc_ring.nd rfl (by first | exact Or.inl rfl | exact Or.inr rfl)) (pss_one (ps_if (pt_cmpR op_eq (pe_ix ix_list (pv 0) (pv 5) (fun _ _ => rfl)) (pv 5) (nomark _)) (pss_cons (ps_set (i := 6) sc_ring.nd rfl (by first | exact Or.inl rfl | exact Or.inr rfl) (pe_ix ix_list (pv 1) (pv 5) (fun _ _ => rfl)))
      (pss_one (ps_if (PW.pt (pw_or (pt_cmpR op_isN (pv 6) pe_non (nomark _)) (pw_or1 (PW.pt (pw_and (pt_cmp (pc_din (hu_of hr) (pe_c C_law_top (hr.mono (by decide)) (pa_cons (pv 0) (pa_cons (pe_ix ix_tup (pv 6) pe_int (fun _ _ => rfl)) pa_nil))) (pv 3))) (pw_and1 (pt_cmp (pc_din (hu_of hr) (pe_c C_law_top (hr.mono (by decide)) (pa_cons (pv 0) (pa_cons (pe_ix ix_tup (pv 6) pe_int (fun _ _ => rfl)) pa_nil))) (pv 3))))))))) (pss_one (ps_dput (hu_of hr) (pv 3) (pv 5) pe_bl rfl)) pss_nil))) pss_nil)))))
      (pss_one (ps_ret (pe_cmp (pc_dnotin (hu_of hr) (pe_c C_law_top (hr.mono (by decide)) (pa_cons (pv 0) (pa_cons (pv 2) pa_nil))) (pv 3))))))), ?_⟩
    obtain ⟨⟨hs, ha, hd⟩, _, ok, le, nab⟩ := id N0
    have la : (hs.map nv).length = S.n := by rw [List.length_map]; exact hd.len
    refine fun D nD => ?_
    have S1 := same_upd (o := HO.dK []) nD
    have D1 : upd H D (.dK []) D = some (.dK []) := upd_same
    have N1 := N0.same S1
    have ha1 := S1 _ _ ha
    generalize upd H D (.dK []) = H1 at *
    refine ⟨_, rfl, _, _, rfl, .inl (SqL.of ha1), _, _, rfl, rfl, _, rfl, by omega, by rw [la]; omega, for_range (lo := 0) (n := ((((hs.map nv).length : Nat) : Int) + 1).toNat) (fun k σ H' => ∃ (kvs : List (Key × V)) (dn : List Nat) (v4 v5 v6 : Option V), σ = [some (.ref A), some (.ref B0), some (.int (i : Nat)), some (.ref D), v4, v5, v6] ∧ H' D = some (.dK kvs) ∧ DnD kvs dn ∧ LkAt A B0 S H' ∧ Same H H' ∧ (∀ j ∈ dn, j ∈ S.roots ∧ ∃ t, Tr S j t) ∧ ∀ j ∈ S.roots, ∀ t, Tr S j t → t.ht < k → j ∈ dn)
      ⟨[], [], none, none, none, rfl, D1, DnD.start, N1, S1, fun j h => absurd h (by simp), fun j _ t _ h => absurd h (Nat.not_lt_zero _)⟩ ?_ ?_⟩
    · rintro m σ H2 hm ⟨kvs, dn, v4, v5, v6, rfl, D2, dd2, N2, S2, hdn, hall⟩
      have ha2 := S2 _ _ ha
      refine ⟨_, rfl, _, _, rfl, .inl (SqL.of ha2), _, rfl, by omega, by rw [la]; omega, for_range (lo := 0) (n := (((hs.map nv).length : Nat) : Int).toNat) (fun k σ H' => ∃ (kvs : List (Key × V)) (dn : List Nat) (v5 v6 : Option V), σ = [some (.ref A), some (.ref B0), some (.int (i : Nat)), some (.ref D), some (.int (0 + (m : Int))), v5, v6] ∧ H' D = some (.dK kvs) ∧ DnD kvs dn ∧ LkAt A B0 S H' ∧ Same H H' ∧ (∀ j ∈ dn, j ∈ S.roots ∧ ∃ t, Tr S j t) ∧ (∀ j ∈ S.roots, ∀ t, Tr S j t → t.ht < m → j ∈ dn) ∧ ∀ j ∈ S.roots, j < k → ∀ t, Tr S j t → t.ht ≤ m → j ∈ dn)
        ⟨kvs, dn, v5, v6, rfl, D2, dd2, N2, S2, hdn, hall, fun j _ h => absurd h (Nat.not_lt_zero _)⟩ ?_ ?_⟩
      · rintro j σ H3 hj ⟨kvs, dn, v5, v6, rfl, D3, dd3, N3, S3, hdn, hall, hj3⟩
        have en : (((hs.map nv).length : Nat) : Int).toNat = S.n := by rw [la]; omega
        rw [en] at hj
        have ha3 := S3 _ _ ha
        obtain ⟨j1, e1, _⟩ := hd.at_ hj
        have ej : j1 = j ↔ S.rep j = j := ⟨fun e => ((hd.fix j).mp (e ▸ e1)).2, fun e => by
          have := (hd.fix j).mpr ⟨hj, e⟩
          rw [e1] at this
          exact Option.some.inj this⟩
        rw [Int.zero_add (j : Int)]
        -- what is left to be shown, the knot being done or not
        have stay : (∀ t, S.rep j = j → Tr S j t → t.ht ≤ m → j ∈ dn) → ∀ v6', ∃ (kvs : List (Key × V)) (dn : List Nat) (v5 v6 : Option V), [some (V.ref A), some (V.ref B0), some (V.int (i : Nat)), some (V.ref D), some (V.int (0 + (m : Int))), some (V.int (j : Nat)), v6'] = [some (.ref A), some (.ref B0), some (.int (i : Nat)), some (.ref D), some (.int (0 + (m : Int))), v5, v6] ∧ H3 D = some (.dK kvs) ∧ DnD kvs dn ∧ LkAt A B0 S H3 ∧ Same H H3 ∧ (∀ j ∈ dn, j ∈ S.roots ∧ ∃ t, Tr S j t) ∧ (∀ j ∈ S.roots, ∀ t, Tr S j t → t.ht < m → j ∈ dn) ∧ ∀ j' ∈ S.roots, j' < j + 1 → ∀ t, Tr S j' t → t.ht ≤ m → j' ∈ dn := fun hh v6' =>
          ⟨kvs, dn, _, _, rfl, D3, dd3, N3, S3, hdn, hall, fun j' hr' hl t ht hm' => by
            by_cases e : j' = j
            · rw [e] at hr' ht ⊢
              exact hh t (mem_roots.mp hr').2 ht hm'
            · exact hj3 j' hr' (by omega) t ht hm'⟩
        have done : S.rep j = j → (∃ t, Tr S j t) → ∀ v6', ∃ (kvs' : List (Key × V)) (dn : List Nat) (v5 v6 : Option V), [some (V.ref A), some (V.ref B0), some (V.int (i : Nat)), some (V.ref D), some (V.int (0 + (m : Int))), some (V.int (j : Nat)), v6'] = [some (.ref A), some (.ref B0), some (.int (i : Nat)), some (.ref D), some (.int (0 + (m : Int))), v5, v6] ∧ (upd H3 D (.dK (putK kvs (.inl (j : Int)) (.bl true)))) D = some (.dK kvs') ∧ DnD kvs' dn ∧ LkAt A B0 S (upd H3 D (.dK (putK kvs (.inl (j : Int)) (.bl true)))) ∧ Same H (upd H3 D (.dK (putK kvs (.inl (j : Int)) (.bl true)))) ∧ (∀ j ∈ dn, j ∈ S.roots ∧ ∃ t, Tr S j t) ∧ (∀ j ∈ S.roots, ∀ t, Tr S j t → t.ht < m → j ∈ dn) ∧ ∀ j' ∈ S.roots, j' < j + 1 → ∀ t, Tr S j' t → t.ht ≤ m → j' ∈ dn := fun rj tj v6' => by
          obtain ⟨dn', dd', me⟩ := dd3.put j
          refine ⟨_, dn', _, _, rfl, upd_same, dd', N3.wrD D3, fun b o hb => by rw [upd_ne (ne_of_none hb nD)]; exact S3 _ _ hb, fun z hz => ?_, fun z hz t ht hm' => (me z).mpr (.inl (hall z hz t ht hm')), fun j' hr' hl t ht hm' => (me j').mpr ?_⟩
          · rcases (me z).mp hz with q | q
            · exact hdn z q
            · rw [q]; exact ⟨mem_roots.mpr ⟨hj, rj⟩, tj⟩
          · by_cases e : j' = j
            · exact .inr e
            · exact .inl (hj3 j' hr' (by omega) t ht hm')
        have kle : kvs.length < sizeLine := by
          rw [dd3.len]
          have := len_nodup dd3.nd (b := S.roots) fun z hz => (hdn z hz).1
          have := roots_bound S
          exact small_lt (m := 200000) (by omega) (by decide)
        refine ⟨_, rfl, _, rfl, A, _, _, _, rfl, rfl, SqL.of ha3, atI_nat (nv_get e1), _, rfl, rfl, _, rfl, ?_⟩
        by_cases e : S.rep j = j
        · refine ifY (congrArg nv (ej.mpr e)) ?_
          obtain ⟨ps, pj, hps, gpj, vj⟩ := N3.pget hj
          refine ⟨_, rfl, _, rfl, B0, _, _, _, rfl, rfl, SqL.of hps, atI_nat gpj, ?_⟩
          cases hp : S.prs j with
          | none =>
            rw [hp] at vj
            have vj : pj = .non := vj
            subst vj
            refine ⟨_, rfl, rfl, _, rfl, ifY rfl (iteT ?_)⟩
            exact ⟨_, rfl, _, rfl, D, _, rfl, DPut.k (k := Sum.inl (j : Int)) D3 kle, done e ⟨_, .lt (by rw [e]; exact hp)⟩ _⟩
          | some lr =>
            obtain ⟨l, r⟩ := lr
            rw [hp] at vj
            obtain ⟨q, rfl, tq⟩ := vj
            obtain ⟨bl, br⟩ := ok.pl _ _ _ hj hp
            refine ⟨_, rfl, rfl, _, rfl, ifN (fun z => nomatch z) ?_⟩
            have sub : ∀ t, S.rep j = j → Tr S j t → t.ht ≤ m → S.rep l ∈ dn ∧ S.rep r ∈ dn := fun t _ ht hm' => by
              cases ht with
              | lt h => rw [e, hp] at h; cases h
              | @to _ l' r' a b h x y =>
                rw [e, hp] at h
                cases h
                simp only [KT.ht] at hm'
                exact ⟨hall _ (mem_roots.mpr ⟨ok.rl l bl, ok.rr l bl⟩) a (x.cast (ok.rr l bl).symm) (by omega), hall _ (mem_roots.mpr ⟨ok.rl r br, ok.rr r br⟩) b (y.cast (ok.rr r br).symm) (by omega)⟩
            refine ⟨_, rfl, _, rfl, q, _, _, _, rfl, rfl, SqT.of tq, at_of (j := 0) rfl rfl, A, B0, S, l, rfl, N3, bl, _, rfl, D, _, rfl, DGet.k (k := Sum.inl (S.rep l : Int)) D3, ?_⟩
            rw [dd3.some]
            by_cases hl : S.rep l ∈ dn
            · rw [decide_eq_true hl]
              refine ⟨_, rfl, iteT ?_⟩
              refine ⟨_, rfl, _, rfl, q, _, _, _, rfl, rfl, SqT.of tq, at_of (j := 1) rfl rfl, A, B0, S, r, rfl, N3, br, _, rfl, D, _, rfl, DGet.k (k := Sum.inl (S.rep r : Int)) D3, ?_⟩
              rw [dd3.some]
              by_cases hr2 : S.rep r ∈ dn
              · rw [decide_eq_true hr2]
                refine ⟨_, rfl, iteT ?_⟩
                obtain ⟨_, a, hta⟩ := hdn _ hl
                obtain ⟨_, b, htb⟩ := hdn _ hr2
                exact ⟨_, rfl, _, rfl, D, _, rfl, DPut.k (k := Sum.inl (j : Int)) D3 kle, done e ⟨_, .to (by rw [e]; exact hp) (hta.cast (ok.rr l bl)) (htb.cast (ok.rr r br))⟩ _⟩
              · rw [decide_eq_false hr2]
                exact ⟨_, rfl, iteF (stay (fun t h1 h2 h3 => absurd (sub t h1 h2 h3).2 hr2) _)⟩
            · rw [decide_eq_false hl]
              exact ⟨_, rfl, iteF (stay (fun t h1 h2 h3 => absurd (sub t h1 h2 h3).1 hl) _)⟩
        · refine ifN (fun z => e (ej.mp (by have z : V.int ((j1 : Nat) : Int) = V.int ((j : Nat) : Int) := z; have := V.int.inj z; omega))) ?_
          exact stay (fun t hr' => absurd hr' e) _
      · rintro σ H3 ⟨kvs, dn, v5, v6, rfl, D3, dd3, N3, S3, hdn, hall, hj3⟩
        have en : (((hs.map nv).length : Nat) : Int).toNat = S.n := by rw [la]; omega
        rw [en] at hj3
        exact ⟨kvs, dn, _, _, _, rfl, D3, dd3, N3, S3, hdn, fun j hj t ht hh => hj3 j hj (mem_roots.mp hj).1 t ht (by omega)⟩
    · rintro σ H2 ⟨kvs, dn, v4, v5, v6, rfl, D2, dd2, N2, S2, hdn, hall⟩
      have en : ((((hs.map nv).length : Nat) : Int) + 1).toNat = S.n + 1 := by rw [la]; omega
      rw [en] at hall
      have ri := ok.rl i hi
      refine ⟨_, rfl, _, rfl, A, B0, S, i, rfl, N2, hi, _, rfl, D, _, rfl, DGet.k (k := Sum.inl (S.rep i : Int)) D2, ?_⟩
      rw [dd2.some]
      refine k H2 _ S2 ?_
      have : S.rep i ∈ dn ↔ ∃ t, Tr S i t := by
        constructor
        · intro h
          obtain ⟨_, t, ht⟩ := hdn _ h
          exact ⟨t, ht.cast (ok.rr i hi)⟩
        · rintro ⟨t, ht⟩
          refine hall _ (mem_roots.mpr ⟨ri, ok.rr i hi⟩) t (ht.cast (ok.rr i hi).symm) ?_
          have h1 := ht.ht_le ok hi
          have h2 : S.pairs.length ≤ S.n := by
            have := List.length_filter_le (fun i => (S.prs i).isSome) (List.range S.n)
            simpa [Sys.pairs] using this
          omega
      rw [← this]
      simp
end
end Kk

set_option maxHeartbeats 4000000
/-! the law's own knots: sizes -/
namespace Kk
open PySem PySem.Spec PyProof.Rows L2 Wd
/-- the keys are heads, none twice -/
structure SzD (S : Sys) (kvs : List (Key × V)) : Prop where
  nd : (kvs.map Prod.fst).Nodup
  mem : ∀ k ∈ kvs.map Prod.fst, ∃ j ∈ S.roots, k = .inl ((j : Nat) : Int)
theorem SzD.start (S : Sys) : SzD S [] := ⟨List.nodup_nil, fun k h => absurd h (by simp)⟩
theorem SzD.le {S : Sys} {kvs : List (Key × V)} (h : SzD S kvs) : kvs.length ≤ S.n := by
  have l1 : kvs.length = ((kvs.map Prod.fst).map fun k => match k with | .inl i => i.toNat | .inr _ => 0).length := by simp
  rw [l1]
  refine Nat.le_trans (len_nodup (b := S.roots) (List.pairwise_map.mpr (List.Pairwise.imp_of_mem ?_ h.nd)) fun x hx => ?_) (roots_bound S)
  · intro a b ha hb ne e
    obtain ⟨i, _, rfl⟩ := h.mem a ha
    obtain ⟨j, _, rfl⟩ := h.mem b hb
    have e : ((i : Nat) : Int).toNat = ((j : Nat) : Int).toNat := e
    exact ne (by rw [show i = j by omega])
  · obtain ⟨k, hk, rfl⟩ := List.mem_map.mp hx
    obtain ⟨j, hj, rfl⟩ := h.mem k hk
    show ((j : Nat) : Int).toNat ∈ _
    rw [show ((j : Nat) : Int).toNat = j by omega]; exact hj
theorem SzD.put {S : Sys} {kvs : List (Key × V)} (h : SzD S kvs) {j : Nat} (hj : j ∈ S.roots) (v : V) : SzD S (putK kvs (.inl ((j : Nat) : Int)) v) := by
  unfold putK
  split
  · have e : (kvs.map fun kv => if kv.1 = Sum.inl ((j : Nat) : Int) then (kv.1, v) else kv).map Prod.fst = kvs.map Prod.fst := by
      rw [List.map_map]
      refine List.map_congr_left fun kv _ => ?_
      show (if kv.1 = _ then (kv.1, v) else kv).1 = kv.1
      split <;> rfl
    exact ⟨by rw [e]; exact h.nd, by rw [e]; exact h.mem⟩
  · rename_i hn
    have no : Sum.inl ((j : Nat) : Int) ∉ kvs.map Prod.fst := fun q => by
      obtain ⟨kv, hkv, e⟩ := List.mem_map.mp q
      exact hn (List.any_eq_true.mpr ⟨kv, hkv, decide_eq_true e⟩)

    refine ⟨?_, fun k hk => ?_⟩
    · rw [List.map_append]
      refine List.nodup_append.mpr ⟨h.nd, by simp, fun a ha b hb e => no ?_⟩
      have : b = Sum.inl ((j : Nat) : Int) := by simpa using hb
      rw [← this, ← e]; exact ha
    · rw [List.map_append] at hk
      rcases List.mem_append.mp hk with q | q
      · exact h.mem k q
      · exact ⟨j, hj, by simpa using q⟩
/-- sizes are right up to a height -/
def Right (S : Sys) (kvs : List (Key × V)) (n : Nat) : Prop := ∀ j u v, j ∈ S.roots → Tr S j u → u.ht ≤ n → valV kvs (.inl ((j : Nat) : Int)) = some v → v = nv u.ks.length
def Above (S : Sys) (kvs kvs' : List (Key × V)) (n : Nat) : Prop := ∀ j u, j ∈ S.roots → Tr S j u → n < u.ht → valV kvs' (.inl ((j : Nat) : Int)) = valV kvs (.inl ((j : Nat) : Int))
theorem key_ne {j r : Nat} (h : j ≠ r) : ¬ (Sum.inl ((j : Nat) : Int) : Key) = Sum.inl ((r : Nat) : Int) := fun z => h (by have := Sum.inl.inj z; omega)
section
variable {P : Program} {w : World} {K : PySem.W.Frag} {mg : Str → Option Value} {base : Heap}
def spSizeAt (m : Nat) : Sp := fun vs H Q _ => ∃ (A B D : Addr) (S : Sys) (i : Nat) (t : KT) (kvs : List (Key × V)), vs = [.ref A, .ref B, .int (i : Nat), .ref D] ∧ LkAt A B S H ∧ i < S.n ∧ Tr S i t ∧ t.ht < m ∧ H D = some (.dK kvs) ∧ SzD S kvs ∧ Right S kvs t.ht ∧
  ∀ H' kvs', LkAt A B S H' → (∀ b o, H b = some o → b ≠ D → H' b = some o) → H' D = some (.dK kvs') → SzD S kvs' → Right S kvs' t.ht → Above S kvs kvs' t.ht → (valV kvs' (.inl ((S.rep i : Nat) : Int))).isSome = true → Q (.int (t.ks.length : Nat)) H'
abbrev s_sizeAt : Stmt := (top 39)
theorem sc_sizeAt : FnScope ["_law_links", "_law_pairs", "_law_start", "_law_known", "_law_top_here", "_law_pair", "_law_left"] ["_law_links", "_law_pairs", "_law_start", "_law_known"] (defScope s_sizeAt) := ⟨rfl, rfl, rfl, by decide +kernel, rfl, by decide +kernel, by decide +kernel⟩
theorem rec_size (B : Bt mg) (D : DefAt K mg "_law_size_at" s_sizeAt) (C_law_top : Cal P w K mg base "_law_top" 1 ["_law_links", "_law_knot"] spTop) : ∀ m, Cal P w K mg base "_law_size_at" (m + 2) ["_law_links", "_law_pairs", "_law_start", "_law_known"] (spSizeAt m) := by
  intro m
  induction m with
  | zero =>
    refine cal_of D sc_sizeAt (fun _ _ _ _ _ _ us hl => match us, hl with | [_, _, _, _], _ => rfl) (fun vs H Q E h => ?_) (fun fa cdv A outer st0 H vs Q E hr h => ?_)
    · obtain ⟨A, B, D, S, i, t, kvs, rfl, _⟩ := h
      rfl
    · obtain ⟨A, B, D, S, i, t, kvs, rfl, _, _, _, h0, _⟩ := h
      exact absurd h0 (Nat.not_lt_zero _)
  | succ m C_law_size_at =>
    refine cal_of D sc_sizeAt (fun _ _ _ _ _ _ us hl => match us, hl with | [_, _, _, _], _ => rfl) (fun vs H Q E h => ?_) (fun fa cdv A0 outer st0 H vs Q E hr h => ?_)
    · obtain ⟨A, B, D, S, i, t, kvs, rfl, _⟩ := h
      rfl
    · obtain ⟨A, B0, D0, S, i, t, kvs, rfl, N0, hi, htr, hfu, hD, sz, hrt, k⟩ := h
      refine ⟨_, (pss_cons (ps_set (i := 4) sc_sizeAt.nd rfl (by first | exact Or.inl rfl | exact Or.inr rfl) (pe_c C_law_top (hr.mono (by omega)) (pa_cons (pv 0) (pa_cons (pv 2) pa_nil))))
      (pss_cons (ps_if (pt_cmp (pc_dnotin (hu_of hr) (pv 4) (pv 3))) (pss_cons (ps_set (i := 5) sc_sizeAt.nd rfl (by first | exact Or.inl rfl | exact Or.inr rfl) (pe_ix ix_list (pv 1) (pv 4) (fun _ _ => rfl)))
      (pss_cons (ps_dput (hu_of hr) (pv 3) (pv 4) pe_int rfl)
      (pss_one (ps_if (pt_cmpR op_notN (pv 5) pe_non (nomark _)) (pss_cons (ps_set (i := 6) sc_sizeAt.nd rfl (by first | exact Or.inl rfl | exact Or.inr rfl) (pe_c C_law_size_at (hr.mono (by omega)) (pa_cons (pv 0) (pa_cons (pv 1) (pa_cons (pe_ix ix_tup (pv 5) pe_int (fun _ _ => rfl)) (pa_cons (pv 3) pa_nil))))))
      (pss_one (ps_dput (hu_of hr) (pv 3) (pv 4) (pe_op op_add (pe_op op_add pe_int (pv 6)) (pe_c C_law_size_at (hr.mono (by omega)) (pa_cons (pv 0) (pa_cons (pv 1) (pa_cons (pe_ix ix_tup (pv 5) pe_int (fun _ _ => rfl)) (pa_cons (pv 3) pa_nil)))))) rfl))) pss_nil)))) pss_nil)
      (pss_one (ps_ret (pe_dget (hu_of hr) (pv 3) (pv 4) (fun _ _ => rfl)))))), ?_⟩
      have ok := N0.ok
      have ri := ok.rl i hi
      have rri := ok.rr i hi
      have rm : S.rep i ∈ S.roots := mem_roots.mpr ⟨ri, rri⟩
      have htr' := htr.cast (j := S.rep i) rri.symm
      have big : ∀ n : Nat, n ≤ 1000000 → n < sizeLine := fun n h => small_lt (m := 2000000) (by omega) (by decide)
      have le := N0.le
      refine ⟨_, rfl, _, rfl, A, B0, S, i, rfl, N0, hi, ?_⟩
      refine ⟨_, rfl, _, rfl, D0, _, rfl, DGet.k (k := Sum.inl ((S.rep i : Nat) : Int)) hD, ?_⟩
      cases hv : valV kvs (Sum.inl ((S.rep i : Nat) : Int)) with
      | some v =>
        have ev := hrt _ t v rm htr' (Nat.le_refl _) hv
        subst ev
        refine ⟨_, rfl, iteF ?_⟩
        have dg := DGet.k (k := Sum.inl ((S.rep i : Nat) : Int)) hD
        rw [hv] at dg
        exact ⟨_, rfl, _, rfl, D0, _, rfl, dg, k H kvs N0 (fun _ _ h _ => h) hD sz hrt (fun _ _ _ _ _ => rfl) (by rw [hv]; rfl)⟩
      | none =>
      refine ⟨_, rfl, iteT ?_⟩
      obtain ⟨ps, pj, hps, gpj, vj⟩ := N0.pget ri
      refine ⟨_, rfl, _, rfl, B0, _, _, _, rfl, rfl, SqL.of hps, atI_nat gpj, ?_⟩
      refine ⟨_, rfl, _, rfl, D0, _, rfl, DPut.k (k := Sum.inl ((S.rep i : Nat) : Int)) hD (big _ (by have := sz.le; omega)), ?_⟩
      have sz1 := sz.put rm (.int 1)
      have D1 : upd H D0 (.dK (putK kvs (.inl ((S.rep i : Nat) : Int)) (.int 1))) D0 = some (.dK (putK kvs (.inl ((S.rep i : Nat) : Int)) (.int 1))) := upd_same
      have N1 : LkAt A B0 S (upd H D0 (.dK (putK kvs (.inl ((S.rep i : Nat) : Int)) (.int 1)))) := N0.wrD hD
      have K1 : ∀ b o, H b = some o → b ≠ D0 → upd H D0 (.dK (putK kvs (.inl ((S.rep i : Nat) : Int)) (.int 1))) b = some o := fun b o hb hn => by rw [upd_ne hn]; exact hb
      have g1 : ∀ j, valV (putK kvs (.inl ((S.rep i : Nat) : Int)) (.int 1)) (.inl ((j : Nat) : Int)) = if j = S.rep i then some (.int 1) else valV kvs (.inl ((j : Nat) : Int)) := fun j => by
        rw [valV_put]
        by_cases e : j = S.rep i
        · rw [e, if_pos rfl, if_pos rfl]
        · rw [if_neg (key_ne e), if_neg e]
      have vj1 : PrV (upd H D0 (.dK (putK kvs (.inl ((S.rep i : Nat) : Int)) (.int 1)))) (S.prs (S.rep i)) pj := vj.wrD hD
      generalize upd H D0 (.dK (putK kvs (.inl ((S.rep i : Nat) : Int)) (.int 1))) = H1 at *
      generalize putK kvs (.inl ((S.rep i : Nat) : Int)) (.int 1) = kvs1 at *
      cases htr with
      | lt hp =>
        rw [hp] at vj1
        have vj1 : pj = .non := vj1
        subst vj1
        refine ⟨_, rfl, rfl, _, rfl, iteF ?_⟩
        have dg := DGet.k (k := Sum.inl ((S.rep i : Nat) : Int)) D1
        rw [g1, if_pos rfl] at dg
        refine ⟨_, rfl, _, rfl, D0, _, rfl, dg, k H1 kvs1 N1 K1 D1 sz1 (fun j u v hj hu hl hv' => ?_) (fun j u hj hu hl => ?_) (by rw [g1, if_pos rfl]; rfl)⟩
        · rw [g1] at hv'
          by_cases e : j = S.rep i
          · rw [if_pos e] at hv'
            cases hv'
            rw [e] at hu
            rw [hu.uniq htr']; rfl
          · rw [if_neg e] at hv'
            exact hrt j u v hj hu hl hv'
        · rw [g1, if_neg fun e => ?_]
          rw [e] at hu
          rw [hu.uniq htr'] at hl
          exact absurd hl (Nat.lt_irrefl _)
      | @to _ l r a b hp x y =>
        rw [hp] at vj1
        obtain ⟨q, rfl, tq⟩ := vj1
        obtain ⟨bl, br⟩ := ok.pl _ _ _ ri hp
        have hA : a.ht < (KT.to a b).ht := by simp only [KT.ht]; omega
        have hB : b.ht < (KT.to a b).ht := by simp only [KT.ht]; omega
        have ner : ∀ {j u}, Tr S j u → u.ht ≠ (KT.to a b).ht → j ≠ S.rep i := fun hu hne e => hne (by rw [e] at hu; rw [hu.uniq htr'])
        refine ⟨_, rfl, rfl, _, rfl, iteT ?_⟩
        have right1 : Right S kvs1 a.ht := fun j u v hj hu hl hv' => by
          rw [g1, if_neg (ner hu (by omega))] at hv'
          exact hrt j u v hj hu (by omega) hv'
        refine ⟨_, rfl, _, rfl, _, rfl, q, _, _, _, rfl, rfl, SqT.of tq, at_of (j := 0) rfl rfl, _, rfl, A, B0, D0, S, l, a, kvs1, rfl, N1, bl, x, by omega, D1, sz1, right1, fun H2 kvs2 N2 K2 D2 sz2 rt2 ab2 so2 => ?_⟩
        have tq2 := K2 _ _ tq (fun z => by rw [z, D1] at tq; cases tq)
        have right2 : Right S kvs2 b.ht := fun j u v hj hu hl hv' => by
          rcases Nat.lt_or_ge a.ht u.ht with z | z
          · rw [ab2 j u hj hu z, g1, if_neg (ner hu (by omega))] at hv'
            exact hrt j u v hj hu (by omega) hv'
          · exact rt2 j u v hj hu z hv'
        refine ⟨_, rfl, _, _, rfl, rfl, _, rfl, _, rfl, _, rfl, q, _, _, _, rfl, rfl, SqT.of tq2, at_of (j := 1) rfl rfl, _, rfl, A, B0, D0, S, r, b, kvs2, rfl, N2, br, y, by omega, D2, sz2, right2, fun H3 kvs3 N3 K3 D3 sz3 rt3 ab3 so3 => ?_⟩
        refine ⟨_, _, rfl, rfl, _, rfl, _, rfl, D0, _, rfl, DPut.k (k := Sum.inl ((S.rep i : Nat) : Int)) D3 (big _ (by have := sz3.le; omega)), ?_⟩
        have ev : (1 : Int) + ((a.ks.length : Nat) : Int) + ((b.ks.length : Nat) : Int) = (((KT.to a b).ks.length : Nat) : Int) := by
          simp [KT.ks]; omega
        dsimp only
        rw [ev]
        have g4 : ∀ j, valV (putK kvs3 (.inl ((S.rep i : Nat) : Int)) (.int (((KT.to a b).ks.length : Nat) : Int))) (.inl ((j : Nat) : Int)) = if j = S.rep i then some (.int (((KT.to a b).ks.length : Nat) : Int)) else valV kvs3 (.inl ((j : Nat) : Int)) := fun j => by
          rw [valV_put]
          by_cases e : j = S.rep i
          · rw [e, if_pos rfl, if_pos rfl]
          · rw [if_neg (key_ne e), if_neg e]
        have D4 : upd H3 D0 (.dK (putK kvs3 (.inl ((S.rep i : Nat) : Int)) (.int (((KT.to a b).ks.length : Nat) : Int)))) D0 = some (.dK (putK kvs3 (.inl ((S.rep i : Nat) : Int)) (.int (((KT.to a b).ks.length : Nat) : Int)))) := upd_same
        have dg := DGet.k (k := Sum.inl ((S.rep i : Nat) : Int)) D4
        rw [g4, if_pos rfl] at dg
        refine ⟨_, rfl, _, rfl, D0, _, rfl, dg, k _ _ (N3.wrD D3) (fun b' o hb hn => by rw [upd_ne hn]; exact K3 _ _ (K2 _ _ (K1 _ _ hb hn) hn) hn) D4 (sz3.put rm _) (fun j u v hj hu hl hv' => ?_) (fun j u hj hu hl => ?_) (by rw [g4, if_pos rfl]; rfl)⟩
        · rw [g4] at hv'
          by_cases e : j = S.rep i
          · rw [if_pos e] at hv'
            cases hv'
            rw [e] at hu
            rw [hu.uniq htr']; rfl
          · rw [if_neg e] at hv'
            rcases Nat.lt_or_ge b.ht u.ht with z | z
            · rw [ab3 j u hj hu z] at hv'
              rcases Nat.lt_or_ge a.ht u.ht with z2 | z2
              · rw [ab2 j u hj hu z2, g1, if_neg e] at hv'
                exact hrt j u v hj hu hl hv'
              · exact rt2 j u v hj hu z2 hv'
            · exact rt3 j u v hj hu z hv'
        · have e := ner hu (by omega)
          rw [g4, if_neg e, ab3 j u hj hu (by omega), ab2 j u hj hu (by omega), g1, if_neg e]
end
end Kk

set_option maxHeartbeats 4000000
/-! the law's own knots: written out, kinds taken in -/
namespace Kk
open PySem PySem.Spec PyProof.Rows L2 Wd
section
variable {P : Program} {w : World} {K : PySem.W.Frag} {mg : Str → Option Value} {base : Heap}
def ButD (D : Addr) (H H' : Hp) : Prop := ∀ b o, H b = some o → b ≠ D → H' b = some o
def spWrittenL (m : Nat) : Sp := fun vs H Q _ => ∃ (A B D : Addr) (S : Sys) (i : Nat) (t : KT) (kvs : List (Key × V)) (kn : List Nat), vs = [.ref A, .ref B, .int (i : Nat), .ref D] ∧ LkAt A B S H ∧ i < S.n ∧ Tr S i t ∧ t.ht < m ∧ H D = some (.dK kvs) ∧ KnD kvs kn ∧ kn.length + t.ks.length ≤ 1000000 ∧
  ∀ H' q kvs', LkAt A B S H' → ButD D H H' → H' D = some (.dK kvs') → KnD kvs' (knownG kn t.ks) → TupF H' q ((numG kn t.ks).map kv) → Q (.ref q) H'
abbrev s_writL : Stmt := (top 40)
theorem sc_writL : FnScope ["_law_links", "_law_pairs", "_law_start", "_law_letters", "_law_found", "_law_waiting", "_law_turn", "_law_knot"] ["_law_links", "_law_pairs", "_law_start", "_law_letters"] (defScope s_writL) := ⟨rfl, rfl, rfl, by decide +kernel, rfl, by decide +kernel, by decide +kernel⟩
theorem of_writL {m : Nat} (B : Bt mg) (D : DefAt K mg "_law_written" s_writL) (C_law_top : Cal P w K mg base "_law_top" 1 ["_law_links", "_law_knot"] spTop) (C_law_size_at : Cal P w K mg base "_law_size_at" (m + 2) ["_law_links", "_law_pairs", "_law_start", "_law_known"] (spSizeAt m)) : Cal P w K mg base "_law_written" (m + 3) ["_law_links", "_law_pairs", "_law_start", "_law_letters"] (spWrittenL m) := by
  refine cal_of D sc_writL (fun _ _ _ _ _ _ us hl => match us, hl with | [_, _, _, _], _ => rfl) (fun vs H Q E h => ?_) (fun fa cdv A0 outer st0 H vs Q E hr h => ?_)
  · obtain ⟨A, B, D, S, i, t, kvs, kn, rfl, _⟩ := h
    rfl
  · obtain ⟨A, B0, D0, S, i, t, kvs, kn, rfl, N0, hi, htr, hfu, hD, kd, hkn, k⟩ := h
    refine ⟨_, (pss_cons (ps_set (i := 4) sc_writL.nd rfl (by first | exact Or.inl rfl | exact Or.inr rfl) (pe_lst pa_nil))
      (pss_cons (ps_set (i := 5) sc_writL.nd rfl (by first | exact Or.inl rfl | exact Or.inr rfl) (pe_lst (pa_cons (pv 2) pa_nil)))
      (pss_cons (ps_for PassesOwn.never rfl (pi_range1 (by rfl) B.b_range (pa_cons (pe_c C_law_size_at (hr.mono (by omega)) (pa_cons (pv 0) (pa_cons (pv 1) (pa_cons (pv 2) (pa_cons pe_dnewK pa_nil))))) pa_nil)) (pg_name (i := 6) sc_writL.nd rfl (by first | exact Or.inl rfl | exact Or.inr rfl)) (pss_cons (ps_set (i := 7) sc_writL.nd rfl (by first | exact Or.inl rfl | exact Or.inr rfl) (pe_c C_law_top (hr.mono (by omega)) (pa_cons (pv 0) (pa_cons (pe_bm0 PySem.F.plainAttrs_list PySem.F.slot_list_pop PySem.F.type_list_pop mt_pop (pv 5)) pa_nil))))
      (pss_one (ps_if (pt_cmpR op_isN (pe_ix ix_list (pv 1) (pv 7) (fun _ _ => rfl)) pe_non (nomark _)) (pss_cons (ps_expr (pe_dsetd (pv 3) (pv 7) (pe_callB call_lenD (by rfl) B.b_len (by decide +kernel) (pa_cons (pv 3) pa_nil)) ⟨by rfl, by rfl, by rfl, by rfl⟩))
      (pss_one (ps_expr (pe_bm PySem.F.plainAttrs_list PySem.F.slot_list_append PySem.F.type_list_append mt_append (pv 4) (pa_cons (pe_dget (hu_of hr) (pv 3) (pv 7) (fun _ _ => rfl)) pa_nil))))) (pss_cons (ps_expr (pe_bm PySem.F.plainAttrs_list PySem.F.slot_list_append PySem.F.type_list_append mt_append (pv 4) (pa_cons pe_str pa_nil)))
      (pss_cons (ps_expr (pe_bm PySem.F.plainAttrs_list PySem.F.slot_list_append PySem.F.type_list_append mt_append (pv 5) (pa_cons (pe_ix ix_tup (pe_ix ix_list (pv 1) (pv 7) (fun _ _ => rfl)) pe_int (fun _ _ => rfl)) pa_nil)))
      (pss_one (ps_expr (pe_bm PySem.F.plainAttrs_list PySem.F.slot_list_append PySem.F.type_list_append mt_append (pv 5) (pa_cons (pe_ix ix_tup (pe_ix ix_list (pv 1) (pv 7) (fun _ _ => rfl)) pe_int (fun _ _ => rfl)) pa_nil))))))))))
      (pss_one (ps_ret (pe_callTy call_tupleF (by rfl) B.b_tuple (by decide +kernel) (pa_cons (pv 4) pa_nil))))))), ?_⟩
    have ok := N0.ok
    have big : ∀ n : Nat, n ≤ 3000000 → n < sizeLine := fun n h => small_lt (m := 4000000) (by omega) (by decide)
    refine ⟨Nat.zero_le _, fun Fq nF => ?_⟩
    have S1 := same_upd (o := HO.lst []) nF
    have F1 : upd H Fq (.lst []) Fq = some (.lst []) := upd_same
    have N1 := N0.same S1
    have D1 := S1 _ _ hD
    have off : ∀ {Hz : Hp} {q : Addr}, LkAt A B0 S Hz → Hz q = none → q ≠ A ∧ q ≠ B0 := fun N n => ⟨(ne_of_none N.a.choose_spec.1 n).symm, (ne_of_none N.b.choose_spec.1 n).symm⟩
    obtain ⟨FA, FB⟩ := off N0 nF
    have FD : Fq ≠ D0 := (ne_of_none hD nF).symm
    generalize upd H Fq (.lst []) = H1 at *
    refine ⟨_, rfl, (by show 1 ≤ sizeLine; decide), fun Wt nW => ?_⟩
    have S2 := same_upd (o := HO.lst [V.int (i : Nat)]) nW
    have W2 : upd H1 Wt (.lst [V.int (i : Nat)]) Wt = some (.lst [V.int (i : Nat)]) := upd_same
    have F2 := S2 _ _ F1
    have N2 := N1.same S2
    have D2 := S2 _ _ D1
    obtain ⟨WA, WB⟩ := off N1 nW
    have WD : Wt ≠ D0 := (ne_of_none D1 nW).symm
    have WF : Wt ≠ Fq := (ne_of_none F1 nW).symm
    have nWH : H Wt = none := S1.free nW
    have S12 := S1.trans S2
    generalize upd H1 Wt (.lst [V.int (i : Nat)]) = H2 at *
    refine ⟨_, rfl, _, rfl, _, rfl, fun E0' nE => ?_⟩
    have S3 := same_upd (o := HO.dK []) nE
    have E3 : upd H2 E0' (.dK []) E0' = some (.dK []) := upd_same
    have N3 := N2.same S3
    have D3 := S3 _ _ D2
    have F3 := S3 _ _ F2
    have W3 := S3 _ _ W2
    have ED : E0' ≠ D0 := (ne_of_none D2 nE).symm
    have EF : E0' ≠ Fq := (ne_of_none F2 nE).symm
    have EW : E0' ≠ Wt := (ne_of_none W2 nE).symm
    have nEH : H E0' = none := S12.free nE
    have S13 := S12.trans S3
    generalize upd H2 E0' (.dK []) = H3 at *
    refine ⟨A, B0, E0', S, i, t, [], rfl, N3, hi, htr, hfu, E3, SzD.start S, fun j u v _ _ _ h => by simp [valV] at h, fun H4 kvs4 N4 K4 _ _ _ _ _ => ?_⟩
    have D4 := K4 _ _ D3 ED.symm
    have F4 := K4 _ _ F3 EF.symm
    have W4 := K4 _ _ W3 EW.symm
    have B4 : ∀ b o, H b = some o → H4 b = some o := fun b o hb => K4 _ _ (S13 _ _ hb) (ne_of_none hb nEH)
    have et : ((t.ks.length : Nat) : Int).toNat = t.ks.length := by omega
    refine ⟨_, rfl, by omega, by omega, for_range (lo := 0) (n := ((t.ks.length : Nat) : Int).toNat) (fun k σ H' => ∃ (ws : List KW) (st : List Nat) (us : List KT) (kvs : List (Key × V)) (kn2 : List Nat) (v6 v7 : Option V), σ = [some (.ref A), some (.ref B0), some (.int (i : Nat)), some (.ref D0), some (.ref Fq), some (.ref Wt), v6, v7] ∧ LkAt A B0 S H' ∧ ButD D0 H H' ∧ H' D0 = some (.dK kvs) ∧ KnD kvs kn2 ∧ H' Fq = some (.lst (ws.map kv)) ∧ H' Wt = some (.lst (st.reverse.map nv)) ∧ TrL S st us ∧ numG kn t.ks = ws ++ numG kn2 (ksL us) ∧ knownG kn t.ks = knownG kn2 (ksL us) ∧ ws.length = k ∧ (ksL us).length + k = t.ks.length ∧ kn2.length ≤ kn.length + k)
      ⟨[], [i], [t], kvs, kn, none, none, rfl, N4, fun b o hb _ => B4 b o hb, D4, kd, F4, W4, ⟨rfl, fun k i u h1 h2 => ?_⟩, by simp [ksL], by simp [ksL], rfl, by simp [ksL], by simp⟩ ?_ ?_⟩
    · cases k with
      | zero => cases h1; cases h2; exact ⟨hi, htr⟩
      | succ k => simp at h1
    · rintro j σ H5 hj ⟨ws, st, us, kvs, kn2, v6, v7, rfl, N5, K5, D5, kd5, F5, W5, tl5, en, ek, lw, lu, lk5⟩
      rw [et] at hj
      have sm : ∀ n : Nat, n ≤ 3000000 → n < sizeLine := big
      have D0A : D0 ≠ A := fun z => by rw [z, N5.a.choose_spec.1] at D5; cases D5
      cases us with
      | nil => simp [ksL] at lu; omega
      | cons u us =>
      obtain ⟨c, st, rfl⟩ : ∃ c st', st = c :: st' := by
        cases st with
        | nil => have := tl5.len; simp at this
        | cons c st => exact ⟨c, st, rfl⟩
      obtain ⟨cb, ctr⟩ := tl5.tr 0 c u rfl rfl
      have tl6 : TrL S st us := ⟨by have := tl5.len; simpa using this, fun k i t h1 h2 => tl5.tr (k + 1) i t h1 h2⟩
      rw [List.reverse_cons, List.map_append] at W5
      have W5 : H5 Wt = some (.lst (st.reverse.map nv ++ [nv c])) := W5
      refine ⟨_, rfl, _, rfl, .inl ⟨rfl, _, SqL.of W5⟩, Wt, _, nv c, rfl, rfl, W5, by simp, ?_⟩
      rw [List.dropLast_concat]
      have W6 : upd H5 Wt (.lst (st.reverse.map nv)) Wt = some (.lst (st.reverse.map nv)) := upd_same
      have N6 : LkAt A B0 S (upd H5 Wt (.lst (st.reverse.map nv))) := N5.wr W5 WA WB
      have D6 : upd H5 Wt (.lst (st.reverse.map nv)) D0 = some (.dK kvs) := by rw [upd_ne WD.symm]; exact D5
      have F6 : upd H5 Wt (.lst (st.reverse.map nv)) Fq = some (.lst (ws.map kv)) := by rw [upd_ne WF.symm]; exact F5
      have wr6 : ∀ {Hz : Hp} {ys : List V}, ButD D0 H Hz → ButD D0 H (upd Hz Wt (.lst ys)) := fun k b o hb h1 => by
        rw [upd_ne (ne_of_none hb nWH)]
        exact k b o hb h1
      have wrF : ∀ {Hz : Hp} {ys : List V}, ButD D0 H Hz → ButD D0 H (upd Hz Fq (.lst ys)) := fun k b o hb h1 => by
        rw [upd_ne (ne_of_none hb nF)]
        exact k b o hb h1
      have K6 : ButD D0 H (upd H5 Wt (.lst (st.reverse.map nv))) := wr6 K5
      generalize upd H5 Wt (.lst (st.reverse.map nv)) = H6 at *
      refine ⟨A, B0, S, c, rfl, N6, cb, ?_⟩
      have rcb := ok.rl c cb
      obtain ⟨ps, pj, hps, gpj, vj⟩ := N6.pget rcb
      refine ⟨_, rfl, _, rfl, B0, _, _, _, rfl, rfl, SqL.of hps, atI_nat gpj, rfl, _, rfl, ?_⟩
      rw [ksL_cons] at en ek lu
      rw [List.length_append] at lu
      have lfw : (ws.map kv).length < sizeLine := by rw [List.length_map]; exact big _ (by omega)
      cases ctr with
      | lt hp =>
        rw [hp] at vj
        have vj : pj = .non := vj
        subst vj
        refine ifY rfl ?_
        have en : numG kn t.ks = ws ++ numG kn2 (.lt (S.rep c) :: ksL us) := en
        have ek : knownG kn t.ks = knownG kn2 (.lt (S.rep c) :: ksL us) := ek
        have lk := kd5.len
        simp only [KT.ks, List.length_cons, List.length_nil] at lu
        refine ⟨_, rfl, D0, rfl, .inl ⟨kvs, .inl D6⟩, _, rfl, _, rfl, D0, kvs, rfl, D6, kvs, .inl ((S.rep c : Nat) : Int), D6, rfl, big _ (by omega), fun z hz => ?_, fun hz => ?_⟩
        · have hin : S.rep c ∈ kn2 := by
            rw [kd5.get] at hz
            by_cases q : S.rep c ∈ kn2
            · exact q
            · rw [if_neg q] at hz; cases hz
          have dg := DGet.k (k := Sum.inl ((S.rep c : Nat) : Int)) D6
          rw [kd5.get, if_pos hin] at dg
          simp only [numG, knownG, if_pos hin] at en ek
          refine ⟨_, rfl, .inl ⟨rfl, _, SqL.of F6⟩, _, rfl, _, rfl, D0, _, rfl, dg, Fq, _, _, rfl, rfl, F6, lfw, ?_⟩
          exact ⟨ws ++ [.lt (kn2.idxOf (S.rep c))], st, us, kvs, kn2, _, _, rfl, N6.wr F6 FA FB, wrF K6, by rw [upd_ne FD.symm]; exact D6, kd5, by rw [upd_same, List.map_append]; rfl, by rw [upd_ne WF]; exact W6, tl6, by rw [en, List.append_assoc]; rfl, ek, by simp [lw], by omega, by omega⟩
        · have hout : S.rep c ∉ kn2 := fun q => by rw [kd5.get, if_pos q] at hz; cases hz
          simp only [numG, knownG, if_neg hout] at en ek
          have nd : ∀ b o, H6 b = some o → b ≠ D0 → upd H6 D0 (.dK (putK kvs (.inl ((S.rep c : Nat) : Int)) (V.int (kvs.length : Nat)))) b = some o := fun b o hb hn => by rw [upd_ne hn]; exact hb
          have kd7 := kd5.put hout
          rw [← lk] at kd7
          have D7 : upd H6 D0 (.dK (putK kvs (.inl ((S.rep c : Nat) : Int)) (V.int (kvs.length : Nat)))) D0 = some (.dK (putK kvs (.inl ((S.rep c : Nat) : Int)) (nv kvs.length))) := upd_same
          have N7 : LkAt A B0 S (upd H6 D0 (.dK (putK kvs (.inl ((S.rep c : Nat) : Int)) (V.int (kvs.length : Nat))))) := N6.wrD D6
          have W7 := nd _ _ W6 WD
          have F7 := nd _ _ F6 FD
          have K7 : ButD D0 H (upd H6 D0 (.dK (putK kvs (.inl ((S.rep c : Nat) : Int)) (V.int (kvs.length : Nat))))) := fun b o hb h1 => by rw [upd_ne h1]; exact K6 b o hb h1
          generalize upd H6 D0 (.dK (putK kvs (.inl ((S.rep c : Nat) : Int)) (V.int (kvs.length : Nat)))) = H7 at *
          have dg := DGet.k (k := Sum.inl ((S.rep c : Nat) : Int)) D7
          rw [kd7.get, if_pos (by simp), List.idxOf_append, if_neg hout] at dg
          have e0 : ([S.rep c] : List Nat).idxOf (S.rep c) = 0 := by simp
          rw [e0, Nat.zero_add] at dg
          refine ⟨_, rfl, .inl ⟨rfl, _, SqL.of F7⟩, _, rfl, _, rfl, D0, _, rfl, dg, Fq, _, _, rfl, rfl, F7, lfw, ?_⟩
          exact ⟨ws ++ [.lt kn2.length], st, us, _, kn2 ++ [S.rep c], _, _, rfl, N7.wr F7 FA FB, wrF K7, by rw [upd_ne FD.symm]; exact D7, kd7, by rw [upd_same, List.map_append]; rfl, by rw [upd_ne WF]; exact W7, tl6, by rw [en, List.append_assoc]; rfl, ek, by simp [lw], by omega, by simp; omega⟩
      | @to _ l r a b hp xa yb =>
        rw [hp] at vj
        obtain ⟨q, rfl, tq⟩ := vj
        refine ifN (fun z => nomatch z) ?_
        obtain ⟨bl, br⟩ := ok.pl _ _ _ rcb hp
        have tq' : ∀ {b' : Addr} {xs : List V}, H6 b' = some (.lst xs) → q ≠ b' := fun h z => by rw [z, h] at tq; cases tq
        refine ⟨_, rfl, .inl ⟨rfl, _, SqL.of F6⟩, Fq, _, _, rfl, rfl, F6, lfw, ?_⟩
        have W7 : upd H6 Fq (.lst (ws.map kv ++ [V.str ">"])) Wt = some (.lst (st.reverse.map nv)) := by rw [upd_ne WF]; exact W6
        have N7 : LkAt A B0 S (upd H6 Fq (.lst (ws.map kv ++ [V.str ">"]))) := N6.wr F6 FA FB
        have D7 : upd H6 Fq (.lst (ws.map kv ++ [V.str ">"])) D0 = some (.dK kvs) := by rw [upd_ne FD.symm]; exact D6
        have F7 : upd H6 Fq (.lst (ws.map kv ++ [V.str ">"])) Fq = some (.lst ((ws ++ [KW.to]).map kv)) := by rw [upd_same, List.map_append]; rfl
        have t7 : upd H6 Fq (.lst (ws.map kv ++ [V.str ">"])) q = some (.tup [nv l, nv r]) := by rw [upd_ne (tq' F6)]; exact tq
        have p7 : upd H6 Fq (.lst (ws.map kv ++ [V.str ">"])) B0 = some (.lst ps) := by rw [upd_ne FB.symm]; exact hps
        have K7 : ButD D0 H (upd H6 Fq (.lst (ws.map kv ++ [V.str ">"]))) := wrF K6
        generalize upd H6 Fq (.lst (ws.map kv ++ [V.str ">"])) = H7 at *
        have lst : st.length ≤ t.ks.length := by
          have h1 := len_ksL us
          have h2 := tl6.len
          omega
        have lsm : (st.reverse.map nv).length + 2 < sizeLine := by rw [List.length_map, List.length_reverse]; exact big _ (by omega)
        refine ⟨_, rfl, .inl ⟨rfl, _, SqL.of W7⟩, _, rfl, _, rfl, B0, _, _, _, rfl, rfl, SqL.of p7, atI_nat gpj, q, _, _, _, rfl, rfl, SqT.of t7, at_of (j := 1) rfl rfl, Wt, _, _, rfl, rfl, W7, by omega, ?_⟩
        have W8 : upd H7 Wt (.lst (st.reverse.map nv ++ [nv r])) Wt = some (.lst (st.reverse.map nv ++ [nv r])) := upd_same
        have N8 : LkAt A B0 S (upd H7 Wt (.lst (st.reverse.map nv ++ [nv r]))) := N7.wr W7 WA WB
        have D8 : upd H7 Wt (.lst (st.reverse.map nv ++ [nv r])) D0 = some (.dK kvs) := by rw [upd_ne WD.symm]; exact D7
        have F8 : upd H7 Wt (.lst (st.reverse.map nv ++ [nv r])) Fq = some (.lst ((ws ++ [KW.to]).map kv)) := by rw [upd_ne WF.symm]; exact F7
        have t8 : upd H7 Wt (.lst (st.reverse.map nv ++ [nv r])) q = some (.tup [nv l, nv r]) := by rw [upd_ne (fun z => by rw [z, W7] at t7; cases t7)]; exact t7
        have p8 : upd H7 Wt (.lst (st.reverse.map nv ++ [nv r])) B0 = some (.lst ps) := by rw [upd_ne WB.symm]; exact p7
        have K8 : ButD D0 H (upd H7 Wt (.lst (st.reverse.map nv ++ [nv r]))) := wr6 K7
        generalize upd H7 Wt (.lst (st.reverse.map nv ++ [nv r])) = H8 at *
        refine ⟨_, rfl, .inl ⟨rfl, _, SqL.of W8⟩, _, rfl, _, rfl, B0, _, _, _, rfl, rfl, SqL.of p8, atI_nat gpj, q, _, _, _, rfl, rfl, SqT.of t8, at_of (j := 0) rfl rfl, Wt, _, _, rfl, rfl, W8, by rw [List.length_append]; exact Nat.lt_of_le_of_lt (by simp) lsm, ?_⟩
        have en : numG kn t.ks = ws ++ .to :: numG kn2 (ksL (a :: b :: us)) := by
          rw [en]
          show ws ++ (.to :: numG kn2 ((a.ks ++ b.ks) ++ ksL us)) = _
          rw [ksL_cons, ksL_cons, List.append_assoc]
        have ek : knownG kn t.ks = knownG kn2 (ksL (a :: b :: us)) := by
          rw [ek]
          show knownG kn2 ((a.ks ++ b.ks) ++ ksL us) = _
          rw [ksL_cons, ksL_cons, List.append_assoc]
        refine ⟨ws ++ [.to], l :: r :: st, a :: b :: us, kvs, kn2, _, _, rfl, N8.wr W8 WA WB, wr6 K8, by rw [upd_ne WD.symm]; exact D8, kd5, by rw [upd_ne WF.symm]; exact F8, by rw [upd_same]; simp, ⟨by simp [tl6.len], fun k i t' h1 h2 => ?_⟩, by rw [en, List.append_assoc]; rfl, ek, by simp [lw], by simp [ksL_cons, KT.ks] at lu ⊢; omega, by omega⟩
        match k, h1, h2 with
        | 0, h1, h2 => cases h1; cases h2; exact ⟨bl, xa⟩
        | 1, h1, h2 => cases h1; cases h2; exact ⟨br, yb⟩
        | k + 2, h1, h2 => exact tl6.tr k i t' h1 h2
    · rintro σ H5 ⟨ws, st, us, kvs, kn2, v6, v7, rfl, N5, K5, D5, kd5, F5, W5, tl5, en, ek, lw, lu, lk5⟩
      rw [et] at lu lw
      have e0 : us = [] := by
        cases us with
        | nil => rfl
        | cons u us => have := u.pos; rw [ksL_cons, List.length_append] at lu; omega
      subst e0
      have en : numG kn t.ks = ws := by rw [en]; simp [ksL, numG]
      have ek : knownG kn t.ks = kn2 := ek
      refine ⟨_, rfl, Fq, _, rfl, SqL.of F5, fun q o nq dq => ?_⟩
      have S6 := same_upd (o := HO.frz o (.tup (ws.map kv))) nq
      refine k _ q kvs (N5.same S6) (fun b o' hb hn => S6 _ _ (K5 b o' hb hn)) (S6 _ _ D5) (by rw [ek]; exact kd5) ?_
      rw [en]
      exact TupF.new dq
end
end Kk

set_option maxHeartbeats 4000000
/-! the law's own knots: kinds taken in -/
namespace Kk
open PySem PySem.Spec PyProof.Rows L2 Wd
section
variable {P : Program} {w : World} {K : PySem.W.Frag} {mg : Str → Option Value} {base : Heap}
def spOfWords (K : PySem.W.Frag) : Sp := fun vs H Q _ => ∃ (A B a : Addr) (S : Sys) (t : KT), vs = [.ref A, .ref B, .ref a] ∧ LkAt A B S H ∧ Cong S [] ∧ SqT K H a (t.ks.map kv) ∧ S.n + t.ks.length ≤ 100000 ∧
  ∀ H' S' lam dom i, LkAt A B S' H' → Keep A B H H' → TK S S' lam dom [i] [t] → S'.n ≤ S.n + t.ks.length → Q (.int (i : Nat)) H'
abbrev s_ofw : Stmt := (top 41)
theorem sc_ofw : FnScope ["_law_links", "_law_pairs", "_law_words", "_law_letters", "_law_whole", "_law_word", "_law_left"] ["_law_links", "_law_pairs", "_law_words"] (defScope s_ofw) := ⟨rfl, rfl, rfl, by decide +kernel, rfl, by decide +kernel, by decide +kernel⟩
theorem c_ofw (B : Bt mg) (D : DefAt K mg "_law_of_words" s_ofw) (C_law_new : Cal P w K mg base "_law_new" 1 ["_law_links", "_law_pairs", "_law_pair"] spNewL) : Cal P w K mg base "_law_of_words" 2 ["_law_links", "_law_pairs", "_law_words"] (spOfWords K) := by
  refine cal_of D sc_ofw (fun _ _ _ _ _ _ us hl => match us, hl with | [_, _, _], _ => rfl) (fun vs H Q E h => ?_) (fun fa cdv A0 outer st0 H vs Q E hr h => ?_)
  · obtain ⟨A, B, a, S, t, rfl, _⟩ := h
    rfl
  · obtain ⟨A, B0, a, S, t, rfl, N0, cg, T0, hn, k⟩ := h
    refine ⟨_, (pss_cons (ps_set (i := 3) sc_ofw.nd rfl (by first | exact Or.inl rfl | exact Or.inr rfl) pe_dnewK)
      (pss_cons (ps_set (i := 4) sc_ofw.nd rfl (by first | exact Or.inl rfl | exact Or.inr rfl) (pe_lst pa_nil))
      (pss_cons (ps_for PassesOwn.never rfl (pi_tup (pe_revT (pv 2))) (pg_name (i := 5) sc_ofw.nd rfl (by first | exact Or.inl rfl | exact Or.inr rfl)) (pss_one (ps_if (pt_cmpR op_eq (pv 5) pe_str (nomark _)) (pss_cons (ps_set (i := 6) sc_ofw.nd rfl (by first | exact Or.inl rfl | exact Or.inr rfl) (pe_bm0 PySem.F.plainAttrs_list PySem.F.slot_list_pop PySem.F.type_list_pop mt_pop (pv 4)))
      (pss_one (ps_expr (pe_bm PySem.F.plainAttrs_list PySem.F.slot_list_append PySem.F.type_list_append mt_append (pv 4) (pa_cons (pe_c C_law_new (hr.mono (by decide)) (pa_cons (pv 0) (pa_cons (pv 1) (pa_cons (pe_tup (pa_cons (pv 6) (pa_cons (pe_bm0 PySem.F.plainAttrs_list PySem.F.slot_list_pop PySem.F.type_list_pop mt_pop (pv 4)) pa_nil))) pa_nil)))) pa_nil))))) (pss_cons (ps_if (pt_cmp (pc_dnotin (hu_of hr) (pv 5) (pv 3))) (pss_one (ps_dput (hu_of hr) (pv 3) (pv 5) (pe_c C_law_new (hr.mono (by decide)) (pa_cons (pv 0) (pa_cons (pv 1) (pa_cons pe_non pa_nil)))) rfl)) pss_nil)
      (pss_one (ps_expr (pe_bm PySem.F.plainAttrs_list PySem.F.slot_list_append PySem.F.type_list_append mt_append (pv 4) (pa_cons (pe_dget (hu_of hr) (pv 3) (pv 5) (fun _ _ => rfl)) pa_nil))))))))
      (pss_one (ps_ret (pe_ix ix_list (pv 4) pe_int (fun _ _ => rfl))))))), ?_⟩
    obtain ⟨⟨hs0, ha0, _⟩, ⟨ps0, hb0, _⟩, _⟩ := id N0
    refine fun D nD => ?_
    have S1 := same_upd (o := HO.dK []) nD
    have D1 : upd H D (.dK []) D = some (.dK []) := upd_same
    have N1 := N0.same S1
    have T1 := SqT.same T0 S1
    generalize upd H D (.dK []) = H1 at *
    refine ⟨Nat.zero_le _, fun Rd nR => ?_⟩
    have S2 := same_upd (o := HO.lst []) nR
    have R2 : upd H1 Rd (.lst []) Rd = some (.lst []) := upd_same
    have D2 := S2 _ _ D1
    have N2 := N1.same S2
    have T2 := SqT.same T1 S2
    have S12 := S1.trans S2
    have nRH : H Rd = none := S1.free nR
    have DR : D ≠ Rd := ne_of_none D1 nR
    have RA : Rd ≠ A := (ne_of_none ha0 nRH).symm
    have RB : Rd ≠ B0 := (ne_of_none hb0 nRH).symm
    have DA : D ≠ A := (ne_of_none ha0 nD).symm
    have DB : D ≠ B0 := (ne_of_none hb0 nD).symm
    generalize upd H1 Rd (.lst []) = H2 at *
    refine ⟨_, rfl, a, _, rfl, T2, fun rv orv nrv drv => ?_⟩
    have S3 := same_upd (o := HO.frz orv (.tup (t.ks.map kv).reverse)) nrv
    have V3 : TupF (upd H2 rv (.frz orv (.tup (t.ks.map kv).reverse))) rv (t.ks.map kv).reverse := TupF.new drv
    have D3 := S3 _ _ D2
    have R3 := S3 _ _ R2
    have N3 := N2.same S3
    have S13 := S12.trans S3
    generalize upd H2 rv (.frz orv (.tup (t.ks.map kv).reverse)) = H3 at *
    have erv : (t.ks.map kv).reverse = t.ks.reverse.map kv := by rw [List.map_reverse]
    rw [erv] at V3
    have lus : (t.ks.reverse.map kv).length = t.ks.length := by rw [List.length_map, List.length_reverse]
    refine ⟨rv, rfl, ⟨_, V3.sq⟩, for_tup (K := K) (a := rv) (xs := t.ks.reverse.map kv) (fun i σ H' => ∃ (S' : Sys) (lam : Nat → Nat) (dom rd : List Nat) (ts : List KT) (kvs : List (Key × V)) (v5 v6 : Option V), σ = [some (.ref A), some (.ref B0), some (.ref a), some (.ref D), some (.ref Rd), v5, v6] ∧ TK S S' lam dom rd ts ∧ ksL ts = t.ks.drop (t.ks.length - i) ∧ H' D = some (.dK kvs) ∧ LtD kvs lam dom ∧ H' Rd = some (.lst (rd.reverse.map nv)) ∧ LkAt A B0 S' H' ∧ S'.n ≤ S.n + i ∧ dom.length ≤ i ∧ Keep A B0 H H' ∧ TupF H' rv (t.ks.reverse.map kv))
      ⟨S, id, [], [], [], [], none, none, rfl, TK.start N0.ok cg id, by rw [Nat.sub_zero, List.drop_length]; rfl, D3, LtD.start id, R3, N3, Nat.le_refl _, Nat.le_refl _, Same.keep S13, V3⟩ (fun i σ H' _ ⟨_, _, _, _, _, _, _, _, _, _, _, _, _, _, _, _, _, _, h⟩ => h.sq) ?_ ?_⟩
    · rintro i z σ H4 hz ⟨S', lam, dom, rd, ts, kvs, v5, v6, rfl, tk, ek, D4, ld, R4, N4, ln, ldm, K4, V4⟩
      obtain ⟨u, hu, rfl⟩ := map_get hz
      have hi : i < t.ks.length := by have := (List.getElem?_eq_some_iff.mp hu).1; simpa using this
      rw [List.getElem?_reverse (by omega)] at hu
      have hd0 := head_drop hu
      rw [show t.ks.length - 1 - i + 1 = t.ks.length - i by omega, ← ek] at hd0
      have lrd : rd.length ≤ t.ks.length := by
        rw [tk.len]
        have h1 := len_ksL ts
        rw [ek, List.length_drop] at h1
        omega
      have sml : ∀ n : Nat, n ≤ 200000 → n < sizeLine := fun n h => small_lt (m := 1000000) (by omega) (by decide)
      have kwr : ∀ {Hz : Hp} {ys : List V}, Keep A B0 H Hz → Keep A B0 H (upd Hz Rd (.lst ys)) := fun k b o hb h1 h2 => by
        rw [upd_ne (ne_of_none hb nRH)]
        exact k b o hb h1 h2
      cases u with
      | to =>
        refine ⟨_, rfl, rfl, _, rfl, ifY rfl ?_⟩
        obtain ⟨ta, tb, tr, rfl⟩ := two_ready hd0
        have l2 := tk.len
        obtain ⟨l, r, rd, rfl⟩ : ∃ l r rd', rd = l :: r :: rd' := by
          match rd, l2 with
          | l :: r :: rd, _ => exact ⟨l, r, rd, rfl⟩
          | [_], e => simp at e
          | [], e => simp at e
        have e3 : ((l :: r :: rd).reverse.map nv) = (rd.reverse.map nv ++ [nv r]) ++ [nv l] := by simp
        rw [e3] at R4
        have hln := tk.rl l (by simp)
        have hrn := tk.rl r (by simp)
        refine ⟨_, rfl, .inl ⟨rfl, _, SqL.of R4⟩, Rd, _, nv l, rfl, rfl, R4, by simp, ?_⟩
        rw [List.dropLast_concat]
        have R5 : upd H4 Rd (.lst (rd.reverse.map nv ++ [nv r])) Rd = some (.lst (rd.reverse.map nv ++ [nv r])) := upd_same
        have D5 : upd H4 Rd (.lst (rd.reverse.map nv ++ [nv r])) D = some (.dK kvs) := by rw [upd_ne DR]; exact D4
        have N5 : LkAt A B0 S' (upd H4 Rd (.lst (rd.reverse.map nv ++ [nv r]))) := N4.wr R4 RA RB
        have K5 : Keep A B0 H (upd H4 Rd (.lst (rd.reverse.map nv ++ [nv r]))) := kwr K4
        have V5 : TupF (upd H4 Rd (.lst (rd.reverse.map nv ++ [nv r]))) rv (t.ks.reverse.map kv) := V4.wrL R4
        generalize upd H4 Rd (.lst (rd.reverse.map nv ++ [nv r])) = H5 at *
        refine ⟨_, rfl, .inl ⟨rfl, _, SqL.of R5⟩, _, rfl, _, rfl, _, rfl, _, rfl, .inl ⟨rfl, _, SqL.of R5⟩, Rd, _, nv r, rfl, rfl, R5, by simp, ?_⟩
        rw [List.dropLast_concat]
        have R6 : upd H5 Rd (.lst (rd.reverse.map nv)) Rd = some (.lst (rd.reverse.map nv)) := upd_same
        have D6 : upd H5 Rd (.lst (rd.reverse.map nv)) D = some (.dK kvs) := by rw [upd_ne DR]; exact D5
        have N6 : LkAt A B0 S' (upd H5 Rd (.lst (rd.reverse.map nv))) := N5.wr R5 RA RB
        have K6 : Keep A B0 H (upd H5 Rd (.lst (rd.reverse.map nv))) := kwr K5
        have V6 : TupF (upd H5 Rd (.lst (rd.reverse.map nv))) rv (t.ks.reverse.map kv) := V5.wrL R5
        generalize upd H5 Rd (.lst (rd.reverse.map nv)) = H6 at *
        refine ⟨(by show 2 ≤ sizeLine; decide), fun tq ntq => ?_⟩
        have S7 := same_upd (o := HO.tup [nv l, nv r]) ntq
        have q7 : upd H6 tq (.tup [nv l, nv r]) tq = some (.tup [nv l, nv r]) := upd_same
        have N7 := N6.same S7
        have R7 := S7 _ _ R6
        have D7 := S7 _ _ D6
        have V7 := V6.same S7
        have K7 := K6.trans (Same.keep S7)
        generalize upd H6 tq (.tup [nv l, nv r]) = H7 at *
        refine ⟨A, B0, S', some (l, r), .ref tq, rfl, N7, ⟨tq, rfl, q7⟩, by omega, fun l' r' e => (by cases e; exact ⟨hln, hrn⟩), fun H8 N8 K8 => ?_⟩
        have R8 := K8 _ _ R7 RA RB
        have D8 := K8 _ _ D7 DA DB
        have V8 := V7.keep K8 (V7.ne_lst N7.a.choose_spec.1) (V7.ne_lst N7.b.choose_spec.1)
        refine ⟨Rd, _, _, rfl, rfl, R8, by rw [List.length_map, List.length_reverse]; exact sml _ (by simp at lrd; omega), ?_⟩
        refine ⟨_, lam, dom, _, _, kvs, _, _, rfl, tk.pair, ?_, by rw [upd_ne DR]; exact D8, ld, ?_, N8.wr R8 RA RB, by show S'.n + 1 ≤ S.n + (i + 1); omega, by omega, kwr (K7.trans K8), V8.wrL R8⟩
        · rw [show t.ks.length - (i + 1) = t.ks.length - 1 - i by omega, hd0]
          show KW.to :: (ta.ks ++ tb.ks) ++ ksL tr = _
          rw [ksL_cons, ksL_cons]; simp
        · rw [upd_same]; simp; rfl
      | lt m =>
        refine ⟨_, rfl, rfl, _, rfl, ifN (fun e => nomatch e) ?_⟩
        have lk := ld.len
        have sk : kvs.length < sizeLine := sml _ (by omega)
        have fin : ∀ (lam' : Nat → Nat) (dom' : List Nat) (kvs' : List (Key × V)) (S1 : Sys) (H6 : Hp), TK S S1 lam' dom' (lam' m :: rd) (.lt m :: ts) → H6 D = some (.dK kvs') → LtD kvs' lam' dom' → m ∈ dom' → H6 Rd = some (.lst (rd.reverse.map nv)) → LkAt A B0 S1 H6 → S1.n ≤ S.n + (i + 1) → dom'.length ≤ i + 1 → Keep A B0 H H6 → TupF H6 rv (t.ks.reverse.map kv) →
            tDrop (tBM K "list" rAppend (tVar 4) (tCons (tDGet (tVar 3) (tVar 5)) tNil)) { nx := fun σ H' => ∃ (S' : Sys) (lam : Nat → Nat) (dom rd : List Nat) (ts : List KT) (kvs : List (Key × V)) (v5 v6 : Option V), σ = [some (.ref A), some (.ref B0), some (.ref a), some (.ref D), some (.ref Rd), v5, v6] ∧ TK S S' lam dom rd ts ∧ ksL ts = t.ks.drop (t.ks.length - (i + 1)) ∧ H' D = some (.dK kvs) ∧ LtD kvs lam dom ∧ H' Rd = some (.lst (rd.reverse.map nv)) ∧ LkAt A B0 S' H' ∧ S'.n ≤ S.n + (i + 1) ∧ dom.length ≤ i + 1 ∧ Keep A B0 H H' ∧ TupF H' rv (t.ks.reverse.map kv), rt := Q } [some (.ref A), some (.ref B0), some (.ref a), some (.ref D), some (.ref Rd), some (.int (m : Nat)), v6] H6 := by
          intro lam' dom' kvs' S1 H6 tk1 D6 ld1 hm R6 N6 ln1 ldm1 K6 V6
          have dg : DGet H6 D (nv m) (some (nv (lam' m))) := by
            have := DGet.k (k := Sum.inl (m : Int)) D6
            rw [ld1.get, if_pos hm] at this
            exact this
          refine ⟨_, rfl, .inl ⟨rfl, _, SqL.of R6⟩, _, rfl, _, rfl, D, _, rfl, dg, Rd, _, _, rfl, rfl, R6, by rw [List.length_map, List.length_reverse]; exact sml _ (by omega), ?_⟩
          refine ⟨S1, lam', dom', _, _, kvs', _, _, rfl, tk1, ?_, by rw [upd_ne DR]; exact D6, ld1, by rw [upd_same]; simp, N6.wr R6 RA RB, ln1, ldm1, kwr K6, V6.wrL R6⟩
          rw [show t.ks.length - (i + 1) = t.ks.length - 1 - i by omega, hd0]; rfl
        have dm : (valV kvs (Sum.inl (m : Int))).isSome = decide (m ∈ dom) := by
          rw [ld.get]
          by_cases e : m ∈ dom
          · rw [if_pos e, decide_eq_true e]; rfl
          · rw [if_neg e, decide_eq_false e]; rfl
        refine ⟨_, rfl, _, rfl, D, _, rfl, DGet.k (k := Sum.inl (m : Int)) D4, ?_⟩
        rw [dm]
        by_cases e : m ∈ dom
        · rw [decide_eq_true e]
          exact ⟨_, rfl, iteF (fin lam dom kvs S' H4 (tk.know e) D4 ld e R4 N4 (by omega) (by omega) K4 V4)⟩
        · rw [decide_eq_false e]
          refine ⟨_, rfl, iteT ?_⟩
          refine ⟨_, rfl, _, rfl, A, B0, S', none, .non, rfl, N4, rfl, by omega, fun l r e => (by cases e), fun H5 N5 K5 => ?_⟩
          have R5 := K5 _ _ R4 RA RB
          have D5 := K5 _ _ D4 DA DB
          have V5 := V4.keep K5 (V4.ne_lst N4.a.choose_spec.1) (V4.ne_lst N4.b.choose_spec.1)
          refine ⟨_, rfl, _, rfl, D, _, rfl, DPut.k (k := Sum.inl (m : Int)) D5 sk, ?_⟩
          have tk' : TK S (S'.new none) (fun y => if y = m then S'.n else lam y) (dom ++ [m]) ((if m = m then S'.n else lam m) :: rd) (.lt m :: ts) := by rw [if_pos rfl]; exact tk.letter e
          refine fin _ _ _ _ _ tk' upd_same (ld.put e) (by simp) (by rw [upd_ne DR.symm]; exact R5) (N5.wrD D5) (by show S'.n + 1 ≤ _; omega) (by simp; omega) ?_ ?_
          · intro b o hb h1 h2
            rw [upd_ne (ne_of_none hb nD)]
            exact K5 _ _ (K4 b o hb h1 h2) h1 h2
          · obtain ⟨oT, hT, dT⟩ := V5
            exact ⟨oT, by rw [upd_ne (fun q => by rw [q, D5] at hT; cases hT)]; exact hT, dT⟩
    · rintro σ H4 ⟨S', lam, dom, rd, ts, kvs, v5, v6, rfl, tk, ek, D4, ld, R4, N4, ln, ldm, K4, V4⟩
      rw [lus, Nat.sub_self, List.drop_zero] at ek
      have := ksL_one ek
      subst this
      obtain ⟨i, rfl⟩ : ∃ i, rd = [i] := by
        have := tk.len
        match rd, this with
        | [i], _ => exact ⟨i, rfl⟩
      refine ⟨_, rfl, Rd, _, _, _, rfl, rfl, SqL.of R4, at_of (j := 0) rfl rfl, ?_⟩
      rw [lus] at ln
      exact k H4 S' lam dom i N4 K4 tk ln
end
end Kk

/-! what is common to two kinds; a kind with its letters numbered; the filling is told where there is one -/
namespace Kk
open PySem L2
def Com (a o : KT) (us : List KT) : Prop := ∃ θ η, Uni a o θ η ∧ us = [a.sub θ]
section
variable {S1 S2 F : Sys} {lam1 lam2 : Nat → Nat} {dom1 dom2 : List Nat} {n1 n2 : Nat} {a o : KT}
theorem com_sol (h1 : TK Sys.emp S1 lam1 dom1 [n1] [a]) (h2 : TK S1 S2 lam2 dom2 [n2] [o]) (m : Made S2 F n1 n2) (us : List KT) : (∃ σ, Sol F σ ∧ us = [n1].map σ) ↔ Com a o us := by
  obtain ⟨i1, s1, d1, x1⟩ := h1.one
  obtain ⟨i2, s2, d2, x2⟩ := h2.one
  constructor
  · rintro ⟨σ, hs, rfl⟩
    obtain ⟨hs2, eq⟩ := (m.sol σ).mp hs
    have hs1 := h2.back σ hs2
    refine ⟨fun x => σ (lam1 x), fun x => σ (lam2 x), ?_, ?_⟩
    · show a.sub _ = o.sub _
      rw [← d1 σ hs1, ← d2 σ hs2, eq]
    · show [σ n1] = _
      rw [d1 σ hs1]
  · rintro ⟨θ, η, u, rfl⟩
    obtain ⟨τ, t1, _, t2⟩ := x1 (fun _ => .lt 0) θ (sol_emp _)
    obtain ⟨ρ, r1, r2, r3⟩ := x2 τ η t1
    refine ⟨ρ, (m.sol ρ).mpr ⟨r1, ?_⟩, ?_⟩
    · rw [r2 n1 i1, t2, r3]; exact u
    · show _ = [ρ n1]
      rw [r2 n1 i1, t2]
theorem com_fin (h1 : TK Sys.emp S1 lam1 dom1 [n1] [a]) (h2 : TK S1 S2 lam2 dom2 [n2] [o]) (m : Made S2 F n1 n2) : F.Fin ↔ ∃ θ η, Uni a o θ η := by
  constructor
  · intro f
    obtain ⟨σ, hs, _⟩ := F.sol m.ok m.cg f .lt
    obtain ⟨θ, η, u, _⟩ := (com_sol h1 h2 m _).mp ⟨σ, hs, rfl⟩
    exact ⟨θ, η, u⟩
  · rintro ⟨θ, η, u⟩
    obtain ⟨σ, hs, _⟩ := (com_sol h1 h2 m _).mpr ⟨θ, η, u, rfl⟩
    exact hs.fin m.ok
theorem com_ring (h1 : TK Sys.emp S1 lam1 dom1 [n1] [a]) (h2 : TK S1 S2 lam2 dom2 [n2] [o]) (m : Made S2 F n1 n2) : (∃ T, Tr F n1 T) ↔ ∃ θ η, Uni a o θ η := by
  obtain ⟨i1, s1, d1, x1⟩ := h1.one
  obtain ⟨i2, s2, d2, x2⟩ := h2.one
  have ll : n1 < S2.n := Nat.lt_of_lt_of_le i1 h2.le
  constructor
  · rintro ⟨T, hT⟩
    have sl : Shp F lam1 n1 a := s1.mono h1.ok i1 (fun j l' r' hj q => by rw [m.prs, h2.old j hj]; exact q) fun _ _ => rfl
    have so : Shp F lam2 n2 o := s2.mono h2.ok i2 (fun j l' r' hj q => by rw [m.prs]; exact q) fun _ _ => rfl
    have hn : F.rep n1 = F.rep n2 := m.rep
    obtain ⟨f, hf⟩ := tr_choice F lam1
    obtain ⟨g, hg⟩ := tr_choice F lam2
    refine ⟨f, g, ?_⟩
    show a.sub f = o.sub g
    rw [← sl.tr m.ok m.cg (by rw [m.n]; exact ll) hT f hf, ← so.tr m.ok m.cg (by rw [m.n]; exact i2) (hT.cast hn) g hg]
  · rintro ⟨θ, η, u⟩
    obtain ⟨σ, hs, _⟩ := (com_sol h1 h2 m _).mpr ⟨θ, η, u, rfl⟩
    exact hs.fin m.ok n1 (by rw [m.n]; exact ll)
end
theorem com_len {a o t : KT} (h : Top (Com a o) [t]) (ha : a.tos ≤ 6) (ho : o.tos ≤ 6) : t.ks.length ≤ 10000 := by
  obtain ⟨θ0, η0, u0, _⟩ := h.a
  obtain ⟨θ, η, u, hh⟩ := uni_small ⟨θ0, η0, u0⟩
  obtain ⟨ρ, e⟩ := h.w [a.sub θ] ⟨θ, η, u, rfl⟩
  have e : a.sub θ = t.sub ρ := by simpa using e
  have l1 := KT.sub_len (θ := ρ) t
  rw [← e] at l1
  have l2 := KT.len_ht (a.sub θ)
  have : 2 ^ ((a.sub θ).ht + 1) ≤ 2 ^ 13 := Nat.pow_le_pow_right (by decide) (by omega)
  omega
theorem com_len_of {a o t w : KT} {θ η : Nat → KT} (h : Top (Com a o) [t]) (e1 : a.sub θ = w) (e2 : o.sub η = w) : t.ks.length ≤ w.ks.length := by
  obtain ⟨ρ, e⟩ := h.w [a.sub θ] ⟨θ, η, e1.trans e2.symm, rfl⟩
  have e : a.sub θ = t.sub ρ := by simpa using e
  rw [← e1, e]
  exact KT.sub_len t
theorem com_comm {a o : KT} (us : List KT) : Com a o us ↔ Com o a us := by
  constructor
  · rintro ⟨θ, η, u, rfl⟩
    exact ⟨η, θ, Eq.symm u, by rw [show a.sub θ = o.sub η from u]⟩
  · rintro ⟨θ, η, u, rfl⟩
    exact ⟨η, θ, Eq.symm u, by rw [show o.sub θ = a.sub η from u]⟩
theorem com_self (a : KT) : Top (Com a a) [a] := ⟨⟨.lt, .lt, rfl, by rw [KT.sub_lt]⟩, by
  rintro us ⟨θ, η, u, rfl⟩
  exact ⟨θ, rfl⟩⟩
/-- what comes of a kind and the kind itself -/
theorem com_inst {a o : KT} {θ : Nat → KT} (e : o.sub θ = a) : Top (Com a o) [a] := ⟨⟨.lt, θ, by show a.sub .lt = _; rw [KT.sub_lt, e], by rw [KT.sub_lt]⟩, by
  rintro us ⟨θ, η, u, rfl⟩
  exact ⟨θ, rfl⟩⟩
theorem Com.sub {a o : KT} {t : KT} {ρ : Nat → KT} (h : Com a o [t]) : Com a o [t.sub ρ] := by
  obtain ⟨θ, η, u, e⟩ := h
  have e : t = a.sub θ := by simpa using e
  refine ⟨fun x => (θ x).sub ρ, fun x => (η x).sub ρ, ?_, ?_⟩
  · show a.sub _ = o.sub _
    rw [← KT.sub_sub, ← KT.sub_sub, show a.sub θ = o.sub η from u]
  · rw [e, KT.sub_sub]
/-! ### numbered -/
theorem get_idx : ∀ {l : List Nat} {n : Nat}, n ∈ l → l[l.idxOf n]? = some n
  | a :: l, n, h => by
    rw [List.idxOf_cons]
    by_cases e : a = n
    · subst e; simp
    · have e2 : (a == n) = false := beq_false_of_ne e
      have h : n ∈ l := by
        rcases List.mem_cons.mp h with q | q
        · exact absurd q.symm e
        · exact q
      rw [e2]
      exact get_idx h
theorem known_pre : ∀ (l : List KW) (k : List Nat), ∃ m, knownG k l = k ++ m
  | [], k => ⟨[], by simp [knownG]⟩
  | .to :: l, k => known_pre l k
  | .lt n :: l, k => by
    unfold knownG
    by_cases e : n ∈ k
    · rw [if_pos e]; exact known_pre l k
    · rw [if_neg e]
      obtain ⟨m, h⟩ := known_pre l (k ++ [n])
      exact ⟨n :: m, by rw [h]; simp⟩
theorem known_all : ∀ (l : List KW) (k : List Nat) (n : Nat), KW.lt n ∈ l → n ∈ knownG k l
  | .to :: l, k, n, h => known_all l k n (by simpa using h)
  | .lt m :: l, k, n, h => by
    unfold knownG
    by_cases e : n = m
    · subst e
      by_cases q : n ∈ k
      · rw [if_pos q]
        obtain ⟨m, h⟩ := known_pre l k
        rw [h]; simp [q]
      · rw [if_neg q]
        obtain ⟨m, h⟩ := known_pre l (k ++ [n])
        rw [h]; simp
    · have h : KW.lt n ∈ l := by simpa [e] using h
      by_cases q : m ∈ k
      · rw [if_pos q]; exact known_all l k n h
      · rw [if_neg q]; exact known_all l _ n h
theorem num_map : ∀ (l : List KW) (k K : List Nat), (∃ m, K = knownG k l ++ m) → numG k l = l.map (renK fun n => K.idxOf n)
  | [], k, K, _ => rfl
  | .to :: l, k, K, h => by
    show KW.to :: numG k l = KW.to :: l.map _
    rw [num_map l k K h]
  | .lt n :: l, k, K, h => by
    obtain ⟨m, h⟩ := h
    unfold knownG at h
    unfold numG
    by_cases e : n ∈ k
    · rw [if_pos e] at h
      rw [if_pos e, num_map l k K ⟨m, h⟩]
      obtain ⟨m2, h2⟩ := known_pre l k
      have : K.idxOf n = k.idxOf n := by
        rw [h, h2, List.append_assoc, List.idxOf_append, if_pos e]
      show KW.lt (k.idxOf n) :: _ = KW.lt (K.idxOf n) :: _
      rw [this]
    · rw [if_neg e] at h
      rw [if_neg e, num_map l (k ++ [n]) K ⟨m, h⟩]
      obtain ⟨m2, h2⟩ := known_pre l (k ++ [n])
      have : K.idxOf n = k.length := by
        rw [h, h2, List.append_assoc, List.append_assoc, List.idxOf_append]
        rw [if_neg e]
        simp
      show KW.lt k.length :: _ = KW.lt (K.idxOf n) :: _
      rw [this]
/-- a kind with its letters numbered is a kind: the one comes of the other -/
theorem num_kt (T : KT) : ∃ (U : KT) (θ η : Nat → KT), U.ks = numG [] T.ks ∧ U = T.sub θ ∧ T = U.sub η ∧ numG [] U.ks = U.ks := by
  have e := num_map T.ks [] (knownG [] T.ks) ⟨[], by simp⟩
  refine ⟨T.sub (fun n => .lt ((knownG [] T.ks).idxOf n)), fun n => .lt ((knownG [] T.ks).idxOf n), fun i => .lt ((knownG [] T.ks).getD i 0), ?_, rfl, ?_, ?_⟩
  · rw [sub_ren (f := fun n => (knownG [] T.ks).idxOf n) fun x _ => rfl, e]
  · rw [KT.sub_sub]
    refine Eq.trans (KT.sub_lt T).symm (KT.sub_congr fun x hx => ?_)
    have hm := known_all T.ks [] x ((lets_ks T x).mpr hx)
    show _ = KT.lt _
    rw [List.getD_eq_getElem?_getD, get_idx hm]; rfl
  · rw [sub_ren (f := fun n => (knownG [] T.ks).idxOf n) fun x _ => rfl]
    have := num_ren (f := fun n => (knownG [] T.ks).idxOf n) T.ks [] fun a b ha hb q => by
      have ha : a ∈ knownG [] T.ks := by
        rcases ha with h | h
        · exact absurd h (by simp)
        · exact known_all _ _ _ h
      have hb : b ∈ knownG [] T.ks := by
        rcases hb with h | h
        · exact absurd h (by simp)
        · exact known_all _ _ _ h
      have q : (knownG [] T.ks).idxOf a = (knownG [] T.ks).idxOf b := q
      have e1 := get_idx ha
      have e2 := get_idx hb
      rw [q, e2] at e1
      exact (Option.some.inj e1).symm
    rw [List.map_nil] at this
    rw [this, e]
theorem KT.ks_inj : ∀ {a b : KT} {r s : List KW}, a.ks ++ r = b.ks ++ s → a = b ∧ r = s
  | .lt n, .lt m, r, s, h => by
    simp only [KT.ks, List.singleton_append, List.cons.injEq, KW.lt.injEq] at h
    exact ⟨by rw [h.1], h.2⟩
  | .lt n, .to c d, r, s, h => by simp [KT.ks] at h
  | .to c d, .lt n, r, s, h => by simp [KT.ks] at h
  | .to a b, .to c d, r, s, h => by
    simp only [KT.ks, List.cons_append, List.cons.injEq, true_and, List.append_assoc] at h
    obtain ⟨e1, h1⟩ := KT.ks_inj h
    obtain ⟨e2, h2⟩ := KT.ks_inj h1
    exact ⟨by rw [e1, e2], h2⟩
/-- a filling is told where there is one -/
theorem mtch_sub {θ : Nat → KT} (us : List KW) : ∀ (ts : List KT) (i : Nat) (rows : Rws), us.drop i = ksL (ts.map (KT.sub θ)) → (∀ n r, lkp rows n = some r → r = (θ n).ks) → ∃ rf, mtch us (ksL ts) i rows = some rf := by
  intro ts
  generalize em : (ksL ts).length = m
  induction m using Nat.strongRecOn generalizing ts with
  | _ m ih =>
  intro i rows hd hr
  cases ts with
  | nil => exact ⟨rows, rfl⟩
  | cons t ts =>
    have ec : ∀ (t : KT) (ts : List KT), ksL (t :: ts) = t.ks ++ ksL ts := fun t ts => by unfold ksL; rw [List.flatMap_cons]
    cases t with
    | to a b =>
      have hd : us.drop i = KW.to :: ksL ((a :: b :: ts).map (KT.sub θ)) := by
        rw [hd, List.map_cons, ec]
        simp only [KT.sub, KT.ks, List.map_cons, ec, List.cons_append, List.append_assoc]
      have hi : us[i]? = some .to := by
        have := congrArg (fun l => l[0]?) hd
        simpa [List.getElem?_drop] using this
      have hd2 : us.drop (i + 1) = ksL ((a :: b :: ts).map (KT.sub θ)) := by
        rw [← List.drop_drop, hd]; rfl
      obtain ⟨rf, h⟩ := ih (ksL (a :: b :: ts)).length (by
        rw [← em]; simp only [ec, KT.ks, List.length_append, List.length_cons]; omega) (a :: b :: ts) rfl (i + 1) rows hd2 hr
      refine ⟨rf, ?_⟩
      have e : ksL (.to a b :: ts) = KW.to :: ksL (a :: b :: ts) := by
        simp only [ec, KT.ks, List.cons_append, List.append_assoc]
      rw [e]
      show (if us[i]? = some .to then mtch us (ksL (a :: b :: ts)) (i + 1) rows else none) = some rf
      rw [if_pos hi]; exact h
    | lt n =>
      have hd : us.drop i = (θ n).ks ++ ksL (ts.map (KT.sub θ)) := by
        rw [hd, List.map_cons, ec]; rfl
      obtain ⟨q1, q2, q3⟩ := endK_at hd
      have hrow := row_at hd
      have ll : (ksL ts).length < m := by rw [← em, ec]; simp [KT.ks]
      have e : ksL (.lt n :: ts) = KW.lt n :: ksL ts := by rw [ec]; rfl
      rw [e]
      unfold mtch
      rw [hrow]
      split
      · rename_i r h
        rw [hr n r h, if_pos rfl]
        exact ih _ ll ts rfl _ rows q2 hr
      · rename_i h
        refine ih _ ll ts rfl _ _ q2 fun k r hk => ?_
        rw [lkp_snoc] at hk
        split at hk
        · rename_i z hz
          cases hk
          exact hr k _ hz
        · split at hk
          · rename_i q; cases hk; rw [q]
          · cases hk
theorem mtch_of {θ : Nat → KT} {t u : KT} (e : t.sub θ = u) : ∃ rf, mtch u.ks t.ks 0 [] = some rf := by
  have := mtch_sub (θ := θ) u.ks [t] 0 [] (by rw [List.drop_zero]; simp [ksL, e]) (fun n r h => by simp [lkp] at h)
  simpa [ksL] using this
end Kk

set_option maxHeartbeats 4000000
/-! what is common to two kinds -/
namespace Kk
open PySem PySem.Spec PyProof.Rows L2 Wd
section
variable {P : Program} {w : World} {K : PySem.W.Frag} {mg : Str → Option Value} {base : Heap}
def ComV (CK : Addr) (t o : KT) (H' : Hp) (v : V) : Prop := (v = .non ∧ ¬ ∃ θ η, Uni t o θ η) ∨ ∃ T y, v = .ref y ∧ Top (Com t o) [T] ∧ KdAt CK H' y (numG [] T.ks)
def spCommonW (CK : Addr) : Sp := fun vs H Q _ => ∃ (x y a b : Addr) (t o : KT) (m : Nat), vs = [.ref x, .ref y, .int (m : Nat)] ∧ Kd CK H x a ∧ TupF H a (t.ks.map kv) ∧ Kd CK H y b ∧ TupF H b (o.ks.map kv) ∧ t.ks.length + o.ks.length ≤ 100000 ∧ m ≤ 1000000 ∧
  (∀ T, Top (Com t o) [T] → T.ks.length ≤ m) ∧ ∀ H' v, Same H H' → ComV CK t o H' v → Q v H'
abbrev s_commonW : Stmt := (top 23)
theorem sc_commonW : FnScope ["kind", "other", "most", "nodes", "node"] ["kind", "other", "most"] (defScope s_commonW) := ⟨rfl, rfl, rfl, by decide +kernel, rfl, by decide +kernel, by decide +kernel⟩
theorem c_commonW {CN CK : Addr} (B : Bt mg) (pn : PN K mg CN) (pk : PK K mg CK) (D : DefAt K mg "common_within" s_commonW) (MNodes : MkrN P w K mg base CN) (Mtake_in : Mth P w K mg base CN "take_in" 3 ["self", "kind"] (spTake CN CK)) (Munite : Mth P w K mg base CN "unite" 2 ["self", "node", "other"] (spUnite CN)) (Conly_kind : Cal P w K mg base "only_kind" 9 ["nodes", "node", "most"] (spOnly CN CK)) :
    Cal P w K mg base "common_within" 10 ["kind", "other", "most"] (spCommonW CK) := by
  refine cal_of D sc_commonW (fun _ _ _ _ _ _ us hl => match us, hl with | [_, _, _], _ => rfl) (fun vs H Q E h => ?_) (fun fa cdv A outer st0 H vs Q E hr h => ?_)
  · obtain ⟨x, y, a, b, t, o, m, rfl, _⟩ := h
    rfl
  · obtain ⟨x, y, a, b, t, o, m, rfl, hx, ha, hy, hb, hl, hm, hsz, k⟩ := h
    refine ⟨_, (pss_cons (ps_set (i := 3) sc_commonW.nd rfl (by first | exact Or.inl rfl | exact Or.inr rfl) (pe_mkNd MNodes (hr.mono (by decide))))
      (pss_cons (ps_set (i := 4) sc_commonW.nd rfl (by first | exact Or.inl rfl | exact Or.inr rfl) (pe_m1 Mtake_in pn.cl (hr.mono (by decide)) (pv 3) (pa_cons (pv 0) pa_nil)))
      (pss_cons (ps_expr (pe_m1 Munite pn.cl (hr.mono (by decide)) (pv 3) (pa_cons (pv 4) (pa_cons (pe_m1 Mtake_in pn.cl (hr.mono (by decide)) (pv 3) (pa_cons (pv 1) pa_nil)) pa_nil))))
      (pss_one (ps_ret (pe_c Conly_kind (hr.mono (by decide)) (pa_cons (pv 3) (pa_cons (pv 4) (pa_cons (pv 2) pa_nil))))))))), ?_⟩
    obtain ⟨dx, hx0⟩ := id hx
    refine fun z dz nz ndz nez => ?_
    have Sm := madeK_same (C := CN) nz ndz
    refine ⟨z, dz, rfl, upd_same, fun H1 A L R B1 nA nL nR N1 => ⟨rfl, ?_⟩⟩
    have S1 := B1.same Sm nz
    have fA : H A = none := Sm.free nA
    have fL : H L = none := Sm.free nL
    have fR : H R = none := Sm.free nR
    clear Sm B1 nA nL nR
    obtain ⟨dz1, hz1⟩ := id N1.ins
    refine ⟨_, rfl, z, dz1, _, rfl, hz1, nfs_no A L R (by decide +kernel) (by decide +kernel) (by decide +kernel), _, rfl, z, A, L, R, x, a, Sys.emp, t, rfl, N1, cong_emp, hx.same S1, ha.same S1, by show 0 + _ ≤ _; omega, fun H2 S2 lam1 dom1 n1 N2 K2 tk1 ln1 => ?_⟩
    have S02 := K2.same S1 fA fL fR
    obtain ⟨b1, _, _, _⟩ := tk1.one
    obtain ⟨dz2, hz2⟩ := id N2.ins
    have ln1 : S2.n ≤ 0 + t.ks.length := ln1
    refine ⟨_, rfl, z, dz2, _, rfl, hz2, nfs_no A L R (by decide +kernel) (by decide +kernel) (by decide +kernel), _, rfl, _, rfl, z, dz2, _, rfl, hz2, nfs_no A L R (by decide +kernel) (by decide +kernel) (by decide +kernel), _, rfl, z, A, L, R, y, b, S2, o, rfl, N2, tk1.cg, hy.same S02, hb.same S02, by omega, fun H3 S3 lam2 dom2 n2 N3 K3 tk2 ln2 => ?_⟩
    obtain ⟨b2, sh2, _, _⟩ := tk2.one
    have b13 := Nat.lt_of_lt_of_le b1 tk2.le
    refine ⟨z, A, L, R, S3, n1, n2, rfl, N3, tk2.cg, b13, b2, fun H4 G N4 K4 md => ?_⟩
    have rG : n1 < G.n := by rw [md.n]; exact b13
    have top : ∀ T, G.Fin → Tr G n1 T → Top (Com t o) [T] := fun T f hT => (G.top md.ok md.cg f (ns := [n1]) (ts := [T]) rfl fun k i t h1 h2 => by
      cases k with
      | zero => cases h1; cases h2; exact ⟨rG, hT⟩
      | succ k => simp at h1).congr fun us => com_sol tk1 tk2 md us
    refine ⟨_, rfl, _, rfl, _, rfl, z, A, L, R, G, n1, m, rfl, N4, rG, hm, fun fin T hT => hsz T (top T fin hT), fun H5 v N5 K5 hv => ?_⟩
    have S5 := (K2.trans (K3.trans (K4.trans K5))).same S1 fA fL fR
    refine k H5 v S5 ?_
    rcases hv with ⟨rfl, nf⟩ | ⟨fin, T, y', hT, rfl, kd⟩
    · exact .inl ⟨rfl, fun h => nf ((com_fin tk1 tk2 md).mpr h)⟩
    · exact .inr ⟨T, y', rfl, top T fin hT, kd⟩
def spCommon (CK : Addr) : Sp := fun vs H Q _ => ∃ (x y a b : Addr) (t o : KT), vs = [.ref x, .ref y] ∧ Kd CK H x a ∧ TupF H a (t.ks.map kv) ∧ Kd CK H y b ∧ TupF H b (o.ks.map kv) ∧ t.ks.length + o.ks.length ≤ 100000 ∧
  (∀ T, Top (Com t o) [T] → T.ks.length ≤ 100000) ∧ ∀ H' v, Same H H' → ComV CK t o H' v → Q v H'
abbrev s_common : Stmt := (top 22)
theorem sc_common : FnScope ["kind", "other"] ["kind", "other"] (defScope s_common) := ⟨rfl, rfl, rfl, by decide +kernel, rfl, by decide +kernel, by decide +kernel⟩
theorem c_common {CK : Addr} (B : Bt mg) (D : DefAt K mg "common" s_common) (Ccommon_within : Cal P w K mg base "common_within" 10 ["kind", "other", "most"] (spCommonW CK)) : Cal P w K mg base "common" 11 ["kind", "other"] (spCommon CK) := by
  refine cal_of D sc_common (fun _ _ _ _ _ _ us hl => match us, hl with | [_, _], _ => rfl) (fun vs H Q E h => ?_) (fun fa cdv A outer st0 H vs Q E hr h => ?_)
  · obtain ⟨x, y, a, b, t, o, rfl, _⟩ := h
    rfl
  · obtain ⟨x, y, a, b, t, o, rfl, hx, ha, hy, hb, hl, hsz, k⟩ := h
    refine ⟨_, (pss_one (ps_ret (pe_c Ccommon_within (hr.mono (by decide)) (pa_cons (pv 0) (pa_cons (pv 1) (pa_cons (pe_gi B.m_MOST_FILLED) pa_nil)))))), ?_⟩
    exact ⟨_, rfl, _, rfl, x, y, a, b, t, o, 100000, rfl, hx, ha, hy, hb, hl, by decide, hsz, k⟩
end
end Kk

set_option maxHeartbeats 4000000
/-! letters numbered as they come -/
namespace Kk
open PySem PySem.Spec PyProof.Rows L2 Wd
theorem num_snoc (l : List KW) (u : KW) : numG [] (l ++ [u]) = numG [] l ++ numG (knownG [] l) [u] := numG_app l [u] []
theorem known_snoc (l : List KW) (u : KW) : knownG [] (l ++ [u]) = knownG (knownG [] l) [u] := known_app l [u] []
theorem same_wr {H H' : Hp} {a : Addr} {o : HO} (s : Same H H') (n : H a = none) : Same H (upd H' a o) := fun b p hb => by
  rw [upd_ne (ne_of_none hb n)]; exact s b p hb
section
variable {P : Program} {w : World} {K : PySem.W.Frag} {mg : Str → Option Value} {base : Heap}
def spNumb (K : PySem.W.Frag) : Sp := fun vs H Q _ => ∃ (a : Addr) (ks : List KW), vs = [.ref a] ∧ SqT K H a (ks.map kv) ∧ ks.length ≤ 1000000 ∧
  ∀ H' q, Same H H' → TupF H' q ((numG [] ks).map kv) → Q (.ref q) H'
abbrev s_numb : Stmt := (top 34)
theorem sc_numb : FnScope ["_law_words", "_law_known", "_law_found", "_law_word"] ["_law_words"] (defScope s_numb) := ⟨rfl, rfl, rfl, by decide +kernel, rfl, by decide +kernel, by decide +kernel⟩
theorem c_numb (B : Bt mg) (D : DefAt K mg "_law_numbered" s_numb) : Cal P w K mg base "_law_numbered" 1 ["_law_words"] (spNumb K) := by
  refine cal_of D sc_numb (fun _ _ _ _ _ _ us hl => match us, hl with | [_], _ => rfl) (fun vs H Q E h => ?_) (fun fa cdv A0 outer st0 H vs Q E hr h => ?_)
  · obtain ⟨a, ks, rfl, _⟩ := h
    rfl
  · obtain ⟨a, ks, rfl, T0, lks, k⟩ := h
    refine ⟨_, (pss_cons (ps_set (i := 1) sc_numb.nd rfl (by first | exact Or.inl rfl | exact Or.inr rfl) pe_dnewK)
      (pss_cons (ps_set (i := 2) sc_numb.nd rfl (by first | exact Or.inl rfl | exact Or.inr rfl) (pe_lst pa_nil))
      (pss_cons (ps_for PassesOwn.never rfl (pi_tup (pv 0)) (pg_name (i := 3) sc_numb.nd rfl (by first | exact Or.inl rfl | exact Or.inr rfl)) (pss_cons (ps_if (pt_cmpR op_ne (pv 3) pe_str (nomark _)) (pss_cons (ps_expr (pe_dsetd (pv 1) (pv 3) (pe_callB call_lenD (by rfl) B.b_len (by decide +kernel) (pa_cons (pv 1) pa_nil)) ⟨by rfl, by rfl, by rfl, by rfl⟩))
      (pss_one (ps_set (i := 3) sc_numb.nd rfl (by first | exact Or.inl rfl | exact Or.inr rfl) (pe_dget (hu_of hr) (pv 1) (pv 3) (fun _ _ => rfl))))) pss_nil)
      (pss_one (ps_expr (pe_bm PySem.F.plainAttrs_list PySem.F.slot_list_append PySem.F.type_list_append mt_append (pv 2) (pa_cons (pv 3) pa_nil))))))
      (pss_one (ps_ret (pe_callTy call_tupleF (by rfl) B.b_tuple (by decide +kernel) (pa_cons (pv 2) pa_nil))))))), ?_⟩
    refine fun D nD => ?_
    have S1 := same_upd (o := HO.dK []) nD
    have D1 : upd H D (.dK []) D = some (.dK []) := upd_same
    generalize upd H D (.dK []) = H1 at *
    refine ⟨Nat.zero_le _, fun F nF => ?_⟩
    have S2 := same_upd (o := HO.lst []) nF
    have F2 : upd H1 F (.lst []) F = some (.lst []) := upd_same
    have D2 := S2 _ _ D1
    have DF : D ≠ F := ne_of_none D1 nF
    have nFH : H F = none := S1.free nF
    have S12 := S1.trans S2
    generalize upd H1 F (.lst []) = H2 at *
    have big : ∀ n : Nat, n ≤ 1000000 → n < sizeLine := fun n h => small_lt (m := 1000000) (by omega) (by decide)
    refine ⟨_, rfl, a, rfl, ⟨_, SqT.same T0 S12⟩, for_tup (K := K) (a := a) (xs := ks.map kv) (fun i σ H' => ∃ (v3 : Option V) (kvs : List (Key × V)), σ = [some (.ref a), some (.ref D), some (.ref F), v3] ∧ Same H H' ∧ H' D = some (.dK kvs) ∧ KnD kvs (knownG [] (ks.take i)) ∧ H' F = some (.lst ((numG [] (ks.take i)).map kv)))
      ⟨none, [], rfl, S12, D2, KnD.start, F2⟩ (fun i σ H' _ ⟨_, _, _, s, _⟩ => SqT.same T0 s) ?_ ?_⟩
    · rintro i z σ H3 hz ⟨v3, kvs, rfl, S3, D3, kd, F3⟩
      obtain ⟨u, hu, rfl⟩ := map_get hz
      have et : ks.take (i + 1) = ks.take i ++ [u] := by rw [List.take_add_one, hu]; rfl
      have li : i < ks.length := (List.getElem?_eq_some_iff.mp hu).1
      have lf : ((numG [] (ks.take i)).map kv).length < sizeLine := by
        rw [List.length_map, numG_len]
        exact big _ (by rw [List.length_take]; omega)
      cases u with
      | to =>
        refine ⟨_, rfl, rfl, _, rfl, ?_⟩
        rw [show (!decide (kv KW.to = V.str ">")) = false by rw [decide_eq_true (show kv KW.to = V.str ">" from rfl)]; rfl]
        refine iteF ⟨_, rfl, .inl ⟨rfl, _, SqL.of F3⟩, _, rfl, F, _, _, rfl, rfl, F3, lf, ?_⟩
        refine ⟨_, kvs, rfl, same_wr S3 nFH, by rw [upd_ne DF]; exact D3, ?_, ?_⟩
        · rw [et, known_snoc]; exact kd
        · rw [upd_same, et, num_snoc, List.map_append]; rfl
      | lt n =>
        refine ⟨_, rfl, rfl, _, rfl, ?_⟩
        rw [show (!decide (kv (KW.lt n) = V.str ">")) = true by rw [decide_eq_false (show ¬ kv (KW.lt n) = V.str ">" from fun z => nomatch z)]; rfl]
        have lk := kd.len
        have kl := known_len (ks.take i) []
        have lt : (ks.take i).length ≤ 1000000 := by rw [List.length_take]; omega
        refine iteT ⟨_, rfl, D, rfl, .inl ⟨kvs, .inl D3⟩, _, rfl, _, rfl, D, kvs, rfl, D3, kvs, .inl (n : Int), D3, rfl, big _ (by simp at kl; omega), fun z hz => ?_, fun hz => ?_⟩
        · have hin : n ∈ knownG [] (ks.take i) := by
            rw [kd.get] at hz
            by_cases q : n ∈ knownG [] (ks.take i)
            · exact q
            · rw [if_neg q] at hz; cases hz
          have dg := DGet.k (k := Sum.inl (n : Int)) D3
          rw [kd.get, if_pos hin] at dg
          refine ⟨_, rfl, _, rfl, D, _, rfl, dg, _, rfl, .inl ⟨rfl, _, SqL.of F3⟩, _, rfl, F, _, _, rfl, rfl, F3, lf, ?_⟩
          refine ⟨_, kvs, rfl, same_wr S3 nFH, by rw [upd_ne DF]; exact D3, ?_, ?_⟩
          · rw [et, known_snoc]; unfold knownG; rw [if_pos hin]; exact kd
          · rw [upd_same, et, num_snoc, List.map_append]; unfold numG; rw [if_pos hin]; rfl
        · have hout : n ∉ knownG [] (ks.take i) := fun q => by rw [kd.get, if_pos q] at hz; cases hz
          have kd4 := kd.put hout
          rw [← lk] at kd4
          have kd4 : KnD (putK kvs (.inl (n : Int)) (V.int (kvs.length : Nat))) (knownG [] (ks.take i) ++ [n]) := kd4
          have D4 : upd H3 D (.dK (putK kvs (.inl (n : Int)) (V.int (kvs.length : Nat)))) D = some (.dK (putK kvs (.inl (n : Int)) (V.int (kvs.length : Nat)))) := upd_same
          have F4 : upd H3 D (.dK (putK kvs (.inl (n : Int)) (V.int (kvs.length : Nat)))) F = some (.lst ((numG [] (ks.take i)).map kv)) := by rw [upd_ne DF.symm]; exact F3
          have S4 := same_wr (o := .dK (putK kvs (.inl (n : Int)) (V.int (kvs.length : Nat)))) S3 nD
          have dg := DGet.k (k := Sum.inl (n : Int)) D4
          rw [kd4.get, if_pos (by simp)] at dg
          generalize upd H3 D (.dK (putK kvs (.inl (n : Int)) (V.int (kvs.length : Nat)))) = H4 at *
          refine ⟨_, rfl, _, rfl, D, _, rfl, dg, _, rfl, .inl ⟨rfl, _, SqL.of F4⟩, _, rfl, F, _, _, rfl, rfl, F4, lf, ?_⟩
          refine ⟨_, _, rfl, same_wr S4 nFH, by rw [upd_ne DF]; exact D4, ?_, ?_⟩
          · rw [et, known_snoc]; unfold knownG; rw [if_neg hout]; exact kd4
          · rw [upd_same, et, num_snoc, List.map_append]; unfold numG; rw [if_neg hout]
            have e : (knownG [] (ks.take i) ++ [n]).idxOf n = (knownG [] (ks.take i)).length := by rw [List.idxOf_append, if_neg hout]; simp
            rw [e]; rfl
    · rintro σ H3 ⟨v3, kvs, rfl, S3, D3, kd, F3⟩
      rw [List.take_of_length_le (by rw [List.length_map]; exact Nat.le_refl _)] at F3
      refine ⟨_, rfl, F, _, rfl, SqL.of F3, fun q o nq dq => k _ q (S3.trans (same_upd nq)) (TupF.new dq)⟩
end
end Kk

set_option maxHeartbeats 4000000
/-! kinds compared (TJ without the error: not both) -/
namespace Kk
open PySem PySem.Spec PyProof.Rows L2 Wd
/-- a Kind at x, its words ks -/
def KdW (K : PySem.W.Frag) (CK : Addr) (H : Hp) (x : Addr) (ks : List KW) : Prop := ∃ a, Kd CK H x a ∧ SqT K H a (ks.map kv)
theorem KdW.same {K : PySem.W.Frag} {CK : Addr} {H H' : Hp} {x : Addr} {ks : List KW} (h : KdW K CK H x ks) (s : Same H H') : KdW K CK H' x ks := by
  obtain ⟨a, h1, h2⟩ := h
  exact ⟨a, h1.same s, SqT.same h2 s⟩
/-- a thing and whether it is the kind of these words -/
inductive OthK (K : PySem.W.Frag) (CK : Addr) (H : Hp) (ks : List KW) : V → Bool → Prop where
  | kd {z : Addr} {us : List KW} (h : KdW K CK H z us) : OthK K CK H ks (.ref z) (decide (ks = us))
  | no {y : V} {t : Value} (ty : TyX K H y t) (k : PySem.W.kitOne K t (.ref CK) = some false) (n : PySem.W.notFirst K CK t = true) : OthK K CK H ks y false
def rEqK (K : PySem.W.Frag) (CK : Addr) : R2 := fun x y H Q => ∃ (a : Addr) (ks : List KW) (b : Bool), x = .ref a ∧ KdW K CK H a ks ∧ OthK K CK H ks y b ∧ Q (.bl b) H
def rNeK (K : PySem.W.Frag) (CK : Addr) : R2 := fun x y H Q => ∃ (a c : Addr) (ks us : List KW), x = .ref a ∧ y = .ref c ∧ KdW K CK H a ks ∧ KdW K CK H c us ∧ Q (.bl (!decide (ks = us))) H
def spEqK (K : PySem.W.Frag) (CK : Addr) : Sp := fun vs H Q _ => ∃ (x : Addr) (y : V) (ks : List KW) (b : Bool), vs = [.ref x, y] ∧ KdW K CK H x ks ∧ OthK K CK H ks y b ∧ Q (.bl b) H
structure EqrK (P : Program) (w : World) (K : PySem.W.Frag) (mg : Str → Option Value) (base : Heap) (CK : Addr) : Prop where
  ex : ∃ f fd, PySem.W.findIn K (.ref CK) "__eq__" = some (some (.ref f)) ∧ PySem.W.isFn K (.ref f) = true ∧ Binds K fd ["self", "other"] [] ∧ FnOk P w K mg base CX0 1 f fd ["self", "other"] (spEqK K CK)
theorem oth_ty {K : PySem.W.Frag} {mg : Str → Option Value} {CK : Addr} {H : Hp} {ks : List KW} {y : V} {b : Bool} (pk : PK K mg CK) (h : OthK K CK H ks y b) : ∃ t, TyX K H y t ∧ PySem.W.notFirst K CK t = true := by
  cases h with
  | kd h =>
    obtain ⟨a, ⟨dx, e⟩, _⟩ := h
    exact ⟨_, .base (.ins e pk.cl pk.ha pk.hn pk.ht pk.hm), by simp [PySem.W.notFirst]⟩
  | no ty k n => exact ⟨_, ty, n⟩
theorem op_eqK {X : Cx} {CK : Addr} (pk : PK X.K X.mg CK) (EQ : EqrK X.prog X.w X.K X.mg X.base CK) (hr : Room 1 X.A) : OpR X (compareOp .Eq) (rEqK X.K CK) := by
  obtain ⟨f, fd, hs, hf, hb, F⟩ := EQ
  intro pins s σ H x y v u Q I rx ry d
  obtain ⟨a, ks, b, rfl, hx, ho, q⟩ := d
  cases rx
  obtain ⟨t, ty, nf⟩ := oth_ty pk ho
  obtain ⟨Pk, kx, hP, _⟩ := kit_of I ry ty
  obtain ⟨aw, ⟨dx, ha⟩, _⟩ := id hx
  obtain ⟨mA, J, _⟩ := ins_get I.hok ha
  obtain ⟨od, J, _⟩ := J.look
  obtain ⟨m, hF⟩ := I.fr
  show wpAny (model X.prog X.w) X.A (richCompare .Eq (.ref a) u) (EP X pins σ Q) X.xe s
  have hsp : spEqK X.K CK [.ref a, y] H (fun v H' => (∃ c, v = .bl c) ∧ Q v H') E0 := ⟨a, y, ks, b, rfl, hx, ho, ⟨_, rfl⟩, q⟩
  refine PySem.W.cmp_K (op := .Eq) (tb := t) hr.units0 hF I.ok.mod.kin J (kx.ty _ _ I.kIn hP) nf hs hf ?_
  have e0 : Env0 X.prog X.w X.K X.mg X.base X.A X.stack s H := I.env0
  have r2 : Vals [V.ref a, y] [Value.ref a, u] := .cons rfl (.cons ry .nil)
  refine wpAny_call (codeAny_mono (F.run X.A X.stack s H ⟨[.ref a, u], []⟩ [.ref a, u] [.ref a, y] _ E0 hr e0 (by
    have := hb s [.ref a, u] I.kIn rfl
    simpa using this) r2 hsp) fun r s' hq => ?_)
  cases r with
  | error e => exact pass0 pins σ H s e s' I hq
  | ok fl =>
    cases fl with
    | ret w =>
      obtain ⟨z, H', I', rz, ⟨c, ez⟩, ex⟩ := I.after hq
      subst ez
      cases rz
      exact ⟨.bl c, H', I', rfl, ex⟩
    | next => exact False.elim hq
    | brk => exact False.elim hq
    | cont => exact False.elim hq
theorem ifBound_BK {M : Model} {A : Around} {E : Value → Shared → Prop} {s : Shared} {K : PySem.W.Frag} {x C : Addr} {ox : Obj} {od : Option Obj} {name : Str} {id : String} {args : List Value} {Q : Option Value → Shared → Prop} (X : K.In s.heap) (I : PySem.W.InstAt s.heap x ox C od)
    (hs : PySem.W.findIn K (.ref C) name = some (some (.builtin id))) (hb : ∀ self, bindSpecial (.builtin id) self = pure (.builtin id, [self])) (h : wpAny M A (call (.builtin id) (.ref x :: args)) (fun v => Q (some v)) E s) : wpAny M A (callSpecialIfBound? (.ref x) name args) Q E s := by
  simp only [callSpecialIfBound?, bindSpecialIfBound?]
  refine wpAny_holding (wpAny_bind (wpAny_bind (wpAny_bind (I.type.here ((PySem.W.looks_findIn X hs).here ?_)))))
  refine wpAny_bind (wpAny_askSetting (wpAny_ite ?_))
  have fin : wpAny M A (call (.builtin id) ([.ref x] ++ args) >>= fun v => pure (some v)) Q E s := wpAny_bind (wpAny_mono h (fun v s' h' => wpAny_pure h') fun _ _ h' => h')
  split
  · exact wpAny_bind (wpAny_of_eq (hb _) (wpAny_pure (by exact fin)))
  · exact wpAny_tryCatch (wpAny_bind (wpAny_of_eq (hb _) (wpAny_pure (by exact fin))))
/-- the class has object's != -/
structure NkC (K : PySem.W.Frag) (CK : Addr) : Prop where
  ne : PySem.W.findIn K (.ref CK) "__ne__" = some (some (.builtin "object.__ne__"))
theorem op_neK {X : Cx} {CK : Addr} (pk : PK X.K X.mg CK) (q : NkC X.K CK) (EQ : EqrK X.prog X.w X.K X.mg X.base CK) (hr : Room 2 X.A) : OpR X (compareOp .NotEq) (rNeK X.K CK) := by
  obtain ⟨f, fd, h1, h2, h3, F⟩ := EQ
  intro pins s σ H x y v u Q I rx ry d
  obtain ⟨a, b, ws, us, rfl, rfl, T, T2, q1⟩ := d
  obtain ⟨p, ⟨dx, e1⟩, t1⟩ := id T
  obtain ⟨r, ⟨dy, e2⟩, t2⟩ := id T2
  cases rx
  cases ry
  obtain ⟨mA, J, _⟩ := ins_get I.hok e1
  obtain ⟨mB, J', _⟩ := ins_get I.hok e2
  obtain ⟨od, J, _⟩ := J.look
  obtain ⟨od', J', _⟩ := J'.look
  show wpAny (model X.prog X.w) X.A (richCompare .NotEq (.ref a) (.ref b)) (EP X pins σ Q) X.xe s
  have one : wpAny (model X.prog X.w) X.A (tryCompare (.ref a) (cmpInfo .NotEq).2.1 (.ref b)) (fun r s' => ∃ v, r = some v ∧ EP X pins σ Q v s') X.xe s := by
    unfold tryCompare
    refine wpAny_bind (ifBound_BK I.kIn J q.ne PySem.F.cmp_object.ne.bind ?_)
    have sub : PySem.W.Looks (model X.prog X.w) s.heap (isInstance (.ref a) (.type "object")) true := J.type.andThen (PySem.W.looks_mroIn I.kIn pk.hm)
    refine wpAny_call (codeAny_call_builtin PySem.F.cmp_object.ne.plain PySem.F.cmpEntry_ne (PySem.W.check_slot PySem.F.cmpKind_ne PySem.F.cmpSplit_ne sub (PySem.F.cmpArgs_ne _ _) ?_))
    unfold Builtin.«object.__ne__»
    show wpAny _ X.A.in1 (slotArgs "__ne__" 1 ⟨[.ref a, .ref b], []⟩ >>= _) _ _ s
    unfold slotArgs
    refine wpAny_bind (wpAny_pure ?_)
    dsimp only
    refine wpAny_bind (wpAny_cRoomFor (by have := hr.units; show X.A.units + 1 < cLine; omega) ?_)
    have e0 : Env0 X.prog X.w X.K X.mg X.base X.A.in1 X.stack s H := I.env0.in1
    have hsp : spEqK X.K CK [V.ref a, V.ref b] H (fun v H' => (∃ c, v = .bl c) ∧ v = .bl (decide (ws = us)) ∧ H' = H) E0 := ⟨a, _, ws, _, rfl, T, .kd T2, ⟨_, rfl⟩, rfl, rfl⟩
    have r2 : Vals [V.ref a, V.ref b] [Value.ref a, Value.ref b] := .cons rfl (.cons rfl .nil)
    refine wpAny_bind (PySem.W.ifBound_K I.kIn J h1 h2 (wpAny_call (codeAny_mono (F.run X.A.in1 X.stack s H ⟨[.ref a, .ref b], []⟩ [.ref a, .ref b] [.ref a, .ref b] _ E0 hr.in1 e0 (by
      have := h3 s [.ref a, .ref b] I.kIn rfl
      simpa using this) r2 hsp) fun r s' hq => ?_)))
    cases r with
    | error e => exact pass0 pins σ H s e s' I hq
    | ok fl =>
      cases fl with
      | ret w =>
        obtain ⟨z, H', I', rz, _, ez, eH⟩ := I.after hq
        subst ez eH
        cases rz
        show wpAny _ X.A.in1 (truthy (.bool (decide (ws = us))) >>= _) _ _ s'
        refine wpAny_bind (wpAny_of_eq (a := decide (ws = us)) (by rfl) ?_)
        exact wpAny_pure (wpAny_pure ⟨_, rfl, .bl (!decide (ws = us)), _, I', rfl, q1⟩)
      | next => exact False.elim hq
      | brk => exact False.elim hq
      | cont => exact False.elim hq
  unfold richCompare
  simp only [oneThing_ref]
  refine wpAny_holding (wpAny_bind (wpAny_cRoomFor hr.units0 ?_))
  refine wpAny_bind (J.type.here (wpAny_bind (J'.type.here ?_)))
  refine wp_if_neg (by simp) ?_
  refine wpAny_bind (wpAny_pure ?_)
  refine wp_if_neg (by decide) ?_
  refine wpAny_bind (wpAny_mono one (fun r s' z => ?_) fun _ _ e => e)
  obtain ⟨v, rfl, hq⟩ := z
  exact wpAny_pure hq
section
variable {P : Program} {w : World} {K : PySem.W.Frag} {mg : Str → Option Value} {base : Heap}
abbrev s_keq : Stmt := (inClass (top 11) 1)
theorem sc_keq : FnScope ["self", "other"] ["self", "other"] (defScope s_keq) := ⟨rfl, rfl, rfl, by decide +kernel, rfl, by decide +kernel, by decide +kernel⟩
theorem c_keq {CK f : Addr} {fd : FuncData} (B : Bt mg) (pk : PK K mg CK) (F : Fun K "__eq__" "Kind.__eq__" s_keq f fd) : FnOk P w K mg base CX0 1 f fd ["self", "other"] (spEqK K CK) := by
  refine F.ok sc_keq (fun vs H Q E h => ?_) (fun cdv A outer st0 H vs Q E hr h => ?_)
  · obtain ⟨x, y, ks, b, rfl, _⟩ := h
    rfl
  · obtain ⟨x, y, ks, b, rfl, ⟨a, ⟨dx, hx⟩, t1⟩, ho, k⟩ := h
    have m_Kind := pk.mg
    refine ⟨_, (pss_one (ps_ret (pe_and (pe_callB call_isi (by rfl) B.b_isinstance (by decide +kernel) (pa_cons (pv 1) (pa_cons (pe_gr m_Kind) pa_nil))) (pe_one (pe_cmpR (op_eqD hr.units) (pe_fld (pv 0) rfl) (pe_fld (pv 1) rfl) (nomark _)))))), ?_⟩
    cases ho with
    | @kd z us h =>
      obtain ⟨b, ⟨dy, hy⟩, t2⟩ := h
      refine ⟨_, rfl, _, _, _, _, true, rfl, .own CK, .base (.ins hy pk.cl pk.ha pk.hn pk.ht pk.hm), kit_selfK, _, rfl, iteT ?_⟩
      refine ⟨_, rfl, x, CK, dx, _, _, rfl, hx, pk.cl, pk.nw, kfs_get a, _, rfl, z, CK, dy, _, _, rfl, hy, pk.cl, pk.nw, kfs_get b, ?_⟩
      exact eqD_kv t1 t2 k
    | no ty hk n =>
      exact ⟨_, rfl, _, _, _, _, false, rfl, .own CK, ty, hk, _, rfl, iteF k⟩
end
end Kk

set_option maxHeartbeats 4000000
/-! what is due of what is common -/
namespace Kk
open PySem PySem.Spec PyProof.Rows L2 Wd
section
variable {P : Program} {w : World} {K : PySem.W.Frag} {mg : Str → Option Value} {base : Heap}
def ComT (t o : KT) (H' : Hp) (v : V) : Prop := (v = .non ∧ ¬ ∃ θ η, Uni t o θ η) ∨ ∃ T q, v = .ref q ∧ Top (Com t o) [T] ∧ TupF H' q ((numG [] T.ks).map kv)
def spDueC : Sp := fun vs H Q _ => ∃ (a b : Addr) (t o : KT), vs = [.ref a, .ref b] ∧ TupF H a (t.ks.map kv) ∧ TupF H b (o.ks.map kv) ∧ t.tos ≤ 9 ∧ o.tos ≤ 9 ∧ (∀ T, Top (Com t o) [T] → T.ks.length ≤ 100000) ∧
  ∀ H' v, Same H H' → ComT t o H' v → Q v H'
theorem c_sizeAt (B : Bt mg) (D : DefAt K mg "_law_size_at" s_sizeAt) (C_law_top : Cal P w K mg base "_law_top" 1 ["_law_links", "_law_knot"] spTop) : Cal P w K mg base "_law_size_at" 27 ["_law_links", "_law_pairs", "_law_start", "_law_known"] (spSizeAt 25) := by
  exact rec_size B D C_law_top 25
theorem c_writL (B : Bt mg) (D : DefAt K mg "_law_written" s_writL) (C_law_top : Cal P w K mg base "_law_top" 1 ["_law_links", "_law_knot"] spTop) (C_law_size_at : Cal P w K mg base "_law_size_at" 27 ["_law_links", "_law_pairs", "_law_start", "_law_known"] (spSizeAt 25)) : Cal P w K mg base "_law_written" 28 ["_law_links", "_law_pairs", "_law_start", "_law_letters"] (spWrittenL 25) := by
  exact of_writL B D C_law_top C_law_size_at
abbrev s_dueC : Stmt := (top 42)
theorem sc_dueC : FnScope ["_law_one", "_law_other", "_law_links", "_law_pairs", "_law_start"] ["_law_one", "_law_other"] (defScope s_dueC) := ⟨rfl, rfl, rfl, by decide +kernel, rfl, by decide +kernel, by decide +kernel⟩
theorem c_dueC (B : Bt mg) (D : DefAt K mg "_law_due" s_dueC) (C_law_of_words : Cal P w K mg base "_law_of_words" 2 ["_law_links", "_law_pairs", "_law_words"] (spOfWords K)) (C_law_join : Cal P w K mg base "_law_join" 2 ["_law_links", "_law_pairs", "_law_one", "_law_other"] spJoinL) (C_law_is_ring : Cal P w K mg base "_law_is_ring" 2 ["_law_links", "_law_pairs", "_law_start"] spRing) (C_law_written : Cal P w K mg base "_law_written" 28 ["_law_links", "_law_pairs", "_law_start", "_law_letters"] (spWrittenL 25)) :
    Cal P w K mg base "_law_due" 29 ["_law_one", "_law_other"] spDueC := by
  refine cal_of D sc_dueC (fun _ _ _ _ _ _ us hl => match us, hl with | [_, _], _ => rfl) (fun vs H Q E h => ?_) (fun fa cdv A0 outer st0 H vs Q E hr h => ?_)
  · obtain ⟨a, b, t, o, rfl, _⟩ := h
    rfl
  · obtain ⟨a, b, t, o, rfl, Ta, Tb, htd, ho, gl, k⟩ := h
    refine ⟨_, (pss_cons (ps_set (i := 2) sc_dueC.nd rfl (by first | exact Or.inl rfl | exact Or.inr rfl) (pe_lst pa_nil))
      (pss_cons (ps_set (i := 3) sc_dueC.nd rfl (by first | exact Or.inl rfl | exact Or.inr rfl) (pe_lst pa_nil))
      (pss_cons (ps_set (i := 4) sc_dueC.nd rfl (by first | exact Or.inl rfl | exact Or.inr rfl) (pe_c C_law_of_words (hr.mono (by decide)) (pa_cons (pv 2) (pa_cons (pv 3) (pa_cons (pv 0) pa_nil)))))
      (pss_cons (ps_expr (pe_c C_law_join (hr.mono (by decide)) (pa_cons (pv 2) (pa_cons (pv 3) (pa_cons (pv 4) (pa_cons (pe_c C_law_of_words (hr.mono (by decide)) (pa_cons (pv 2) (pa_cons (pv 3) (pa_cons (pv 1) pa_nil)))) pa_nil))))))
      (pss_cons (ps_if (pt_val (pe_c C_law_is_ring (hr.mono (by decide)) (pa_cons (pv 2) (pa_cons (pv 3) (pa_cons (pv 4) pa_nil))))) (pss_one (ps_ret pe_non)) pss_nil)
      (pss_one (ps_ret (pe_c C_law_written (hr.mono (by decide)) (pa_cons (pv 2) (pa_cons (pv 3) (pa_cons (pv 4) (pa_cons pe_dnewK pa_nil)))))))))))), ?_⟩
    refine ⟨Nat.zero_le _, fun A nA => ?_⟩
    have S1 := same_upd (o := HO.lst []) nA
    have A1 : upd H A (.lst []) A = some (.lst []) := upd_same
    generalize upd H A (.lst []) = H1 at *
    refine ⟨Nat.zero_le _, fun B0 nB => ?_⟩
    have S2 := same_upd (o := HO.lst []) nB
    have B2 : upd H1 B0 (.lst []) B0 = some (.lst []) := upd_same
    have A2 := S2 _ _ A1
    have nab : A ≠ B0 := ne_of_none A1 nB
    have nBH : H B0 = none := S1.free nB
    have S12 := S1.trans S2
    generalize upd H1 B0 (.lst []) = H2 at *
    have N2 : LkAt A B0 Sys.emp H2 := ⟨⟨[], A2, Hds.emp⟩, ⟨[], B2, rfl, fun i v h => by simp at h⟩, Sys.emp_ok, by show 0 ≤ 100000; decide, nab⟩
    have lt := KT.tos_len t
    have lo := KT.tos_len o
    have kS : ∀ {Hz : Hp}, Keep A B0 H2 Hz → Same H Hz := fun k b o hb => k b o (S12 _ _ hb) (ne_of_none hb nA) (ne_of_none hb nBH)
    refine ⟨_, rfl, _, rfl, _, rfl, A, B0, a, Sys.emp, t, rfl, N2, cong_emp, (Ta.same S12).sq, by show 0 + _ ≤ _; omega, fun H3 S3 lam1 dom1 n1 N3 K3 tk1 ln1 => ?_⟩
    obtain ⟨b1, _, _, _⟩ := tk1.one
    have ln1 : S3.n ≤ 0 + t.ks.length := ln1
    refine ⟨_, rfl, _, rfl, _, rfl, _, rfl, _, rfl, _, rfl, A, B0, b, S3, o, rfl, N3, tk1.cg, (Tb.same (kS K3)).sq, by omega, fun H4 S4 lam2 dom2 n2 N4 K4 tk2 ln2 => ?_⟩
    obtain ⟨b2, _, _, _⟩ := tk2.one
    have bl4 := Nat.lt_of_lt_of_le b1 tk2.le
    refine ⟨A, B0, S4, n1, n2, rfl, N4, tk2.cg, bl4, b2, fun H5 G N5 K5 md => ?_⟩
    have lG : n1 < G.n := by rw [md.n]; exact bl4
    refine ⟨_, rfl, _, rfl, _, rfl, A, B0, G, n1, rfl, N5, lG, fun H6 bb S6 hbb => ⟨_, rfl, ?_⟩⟩
    have S06 : Same H H6 := (kS (K3.trans (K4.trans K5))).trans S6
    have ring := com_ring tk1 tk2 md
    cases bb with
    | true =>
      refine iteT (k H6 _ S06 (.inl ⟨rfl, fun h => (hbb.mp rfl) (ring.mpr h)⟩))
    | false =>
      refine iteF ?_
      have ex : ∃ t, Tr G n1 t := by
        rcases Classical.em (∃ t, Tr G n1 t) with h | h
        · exact h
        · exact absurd (hbb.mpr h) (by simp)
      have fin := (com_fin tk1 tk2 md).mpr (ring.mp ex)
      obtain ⟨T, hT⟩ := fin n1 lG
      have top : Top (Com t o) [T] := (G.top md.ok md.cg fin (ns := [n1]) (ts := [T]) rfl fun k i t h1 h2 => by
        cases k with
        | zero => cases h1; cases h2; exact ⟨lG, hT⟩
        | succ k => simp at h1).congr fun us => com_sol tk1 tk2 md us
      have hh := hT.ht_le md.ok lG
      have pG : G.pairs = S4.pairs := by unfold Sys.pairs; rw [md.n, md.prs]
      have p1 := tk1.pairs
      have p2 := tk2.pairs
      have pe : Sys.emp.pairs.length = 0 := rfl
      rw [pG] at hh
      simp only [List.map_cons, List.map_nil, List.sum_cons, List.sum_nil] at p1 p2
      have gl := gl T top
      refine ⟨_, rfl, _, rfl, _, rfl, fun D nD => ?_⟩
      have S7 := same_upd (o := HO.dK []) nD
      refine ⟨A, B0, D, G, n1, T, [], [], rfl, (N5.same S6).same S7, lG, hT, by omega, upd_same, KnD.start, by simp; omega, fun H8 q8 kvs8 N8 K8 D8 kd8 T8 => ?_⟩
      have S08 : Same H H8 := fun b' o' hb => K8 _ _ (S7 _ _ (S06 _ _ hb)) (ne_of_none (S06 _ _ hb) nD)
      exact k H8 _ S08 (.inr ⟨T, q8, rfl, top, T8⟩)
end
end Kk

set_option maxHeartbeats 4000000
/-! a kind of which a kind comes -/
namespace Kk
open PySem PySem.Spec PyProof.Rows L2 Wd
theorem wh_swap (t t' : KT) (r : List Nat) : ∀ (X : List Nat) {c : Nat}, Wh c (X ++ (t.ks.map sidesK ++ r)) → Wh c (X ++ (t'.ks.map sidesK ++ r))
  | [], c, h => by
    have hr : ∀ (t : KT) (c : Nat) (r : List Nat), Wh c (t.ks.map sidesK ++ r) → ∃ c', c = c' + 1 ∧ Wh c' r := by
      intro t
      induction t with
      | lt n => intro c r h; cases h with | @cons c _ _ h => exact ⟨c, rfl, h⟩
      | to a b iha ihb =>
        intro c r h
        have h : Wh c (2 :: ((a.ks ++ b.ks).map sidesK ++ r)) := h
        cases h with
        | @cons c _ _ h =>
          rw [List.map_append, List.append_assoc] at h
          obtain ⟨c1, e1, h1⟩ := iha _ _ h
          obtain ⟨c2, e2, h2⟩ := ihb _ _ h1
          exact ⟨c2, by omega, h2⟩
    obtain ⟨c', rfl, h'⟩ := hr t c r h
    exact tree_wh t' c' r h'
  | n :: X, c, h => by
    cases h with
    | cons h => exact Wh.cons (wh_swap t t' r X h)
def exK (L : Nat) (b : KT) (w : KW) : List KW := if w = .lt L then b.ks else [w]
theorem ex_kt (L : Nat) (b : KT) : ∀ s : KT, s.ks.flatMap (exK L b) = (s.sub fun x => if x = L then b else .lt x).ks
  | .lt n => by
    simp only [KT.ks, KT.sub, List.flatMap_cons, List.flatMap_nil, List.append_nil, exK, KW.lt.injEq]
    split <;> rfl
  | .to p q => by
    simp only [KT.ks, KT.sub, List.flatMap_cons, List.flatMap_append, exK]
    rw [if_neg (fun z => nomatch z), ← ex_kt L b p, ← ex_kt L b q]; rfl
structure WdI (L : Nat) (b : KT) (ws fs : List KW) (pl : Nat) : Prop where
  e : fs.flatMap (exK L b) = ws.take pl
  w : Wh 1 (fs.map sidesK ++ (ws.drop pl).map sidesK)
  l : pl ≤ ws.length
  n : fs.length ≤ pl
  x : ∀ m, KW.lt m ∈ fs → m ≤ L
theorem WdI.start {L : Nat} {b s : KT} : WdI L b s.ks [] 0 := ⟨rfl, by have := tree_wh s 0 [] .nil; simpa using this, Nat.zero_le _, Nat.le_refl _, fun m h => by simp at h⟩
theorem WdI.rep {L : Nat} {b : KT} {ws fs r : List KW} {pl : Nat} (h : WdI L b ws fs pl) (hd : ws.drop pl = b.ks ++ r) : WdI L b ws (fs ++ [.lt L]) (pl + b.ks.length) := by
  have ll := congrArg List.length hd
  rw [List.length_drop, List.length_append] at ll
  have bp := KT.pos b
  refine ⟨?_, ?_, by have := h.l; omega, by have := h.n; simp; omega, fun m hm => ?_⟩
  · rw [List.flatMap_append, h.e, List.take_add, hd, List.take_left]
    simp [exK]
  · have hw := h.w
    rw [hd, List.map_append] at hw
    have := wh_swap b (.lt L) (r.map sidesK) (fs.map sidesK) hw
    rw [← List.drop_drop, hd, List.drop_left, List.map_append, List.append_assoc]
    exact this
  · rcases List.mem_append.mp hm with q | q
    · exact h.x m q
    · have : m = L := by simpa using q
      omega
theorem WdI.keep {L : Nat} {b : KT} {ws fs : List KW} {pl : Nat} {u : KW} (h : WdI L b ws fs pl) (hu : ws[pl]? = some u) (lt : ∀ m, KW.lt m ∈ ws → m < L) : WdI L b ws (fs ++ [u]) (pl + 1) := by
  have hl := (List.getElem?_eq_some_iff.mp hu).1
  have nl : ∀ m, u = .lt m → m < L := fun m e => lt m (by rw [← e]; exact List.mem_of_getElem? hu)
  refine ⟨?_, ?_, hl, by have := h.n; simp; omega, fun m hm => ?_⟩
  · rw [List.flatMap_append, h.e, List.take_add_one, hu]
    have : exK L b u = [u] := by
      unfold exK
      rw [if_neg fun e => Nat.lt_irrefl _ (nl L e)]
    simp [this]
  · have hw := h.w
    rw [head_drop hu] at hw
    rw [List.map_append, List.append_assoc]
    exact hw
  · rcases List.mem_append.mp hm with q | q
    · exact h.x m q
    · have : u = .lt m := by simpa using Eq.symm (List.mem_singleton.mp q)
      exact Nat.le_of_lt (nl m this)
theorem WdI.done {L : Nat} {b s : KT} {fs : List KW} (h : WdI L b s.ks fs s.ks.length) : ∃ s' : KT, fs = s'.ks ∧ (s'.sub fun x => if x = L then b else .lt x) = s ∧ ∀ x ∈ s'.lets, x ≤ L := by
  have hw := h.w
  rw [List.drop_length, List.map_nil, List.append_nil] at hw
  obtain ⟨s', rfl⟩ := kt_of hw
  refine ⟨s', rfl, ?_, fun x hx => h.x x ((lets_ks s' x).mpr hx)⟩
  have e := h.e
  rw [List.take_length, ex_kt] at e
  exact (KT.ks_inj (r := []) (s := []) (by rw [e])).1
section
variable {P : Program} {w : World} {K : PySem.W.Frag} {mg : Str → Option Value} {base : Heap}
def spWiderC : Sp := fun vs H Q _ => ∃ (p g s a : Addr) (t : KT) (n : Nat), vs = [.ref p, .ref a, .int (n : Nat)] ∧ PotAt H p g s ∧ TupF H a (t.ks.map kv) ∧ t.ks.length ≤ 100 ∧ (∀ x ∈ t.lets, x < 20) ∧ n ≤ 1000 ∧
  ∀ H' q (o : KT) α, PotAt H' p g s → Keep p g H H' → TupF H' q (o.ks.map kv) → o.sub α = t → Q (.ref q) H'
abbrev s_widerC : Stmt := (top 43)
theorem sc_widerC : FnScope ["_law_pot_here", "_law_words", "_law_turns", "_law_turn", "_law_ends", "_law_at", "_law_branch", "_law_letter", "_law_found", "_law_place", "_law_many", "_law_step", "_law_alike"] ["_law_pot_here", "_law_words", "_law_turns"] (defScope s_widerC) := ⟨rfl, rfl, rfl, by decide +kernel, rfl, by decide +kernel, by decide +kernel⟩
theorem c_widerC (B : Bt mg) (D : DefAt K mg "_law_wider" s_widerC) (C_law_draw : Cal P w K mg base "_law_draw" 1 ["_law_pot_here", "_law_many"] spDraw) (C_law_kind_ends : Cal P w K mg base "_law_kind_ends" 1 ["_law_words"] (spLKE K)) : Cal P w K mg base "_law_wider" 2 ["_law_pot_here", "_law_words", "_law_turns"] spWiderC := by
  refine cal_of D sc_widerC (fun _ _ _ _ _ _ us hl => match us, hl with | [_, _, _], _ => rfl) (fun vs H Q E h => ?_) (fun fa cdv A0 outer st0 H vs Q E hr h => ?_)
  · obtain ⟨p, g, s, a, t, n, rfl, _⟩ := h
    rfl
  · obtain ⟨p, g, s, a, t, n, rfl, P0, T0, l0, x0, hn, k⟩ := h
    refine ⟨_, (pss_cons (ps_for PassesOwn.never rfl (pi_range1 (by rfl) B.b_range (pa_cons (pv 2) pa_nil)) (pg_name (i := 3) sc_widerC.nd rfl (by first | exact Or.inl rfl | exact Or.inr rfl)) (pss_cons (ps_set (i := 4) sc_widerC.nd rfl (by first | exact Or.inl rfl | exact Or.inr rfl) (pe_c C_law_kind_ends (hr.mono (by decide)) (pa_cons (pv 1) pa_nil)))
      (pss_cons (ps_set (i := 5) sc_widerC.nd rfl (by first | exact Or.inl rfl | exact Or.inr rfl) (pe_c C_law_draw (hr.mono (by decide)) (pa_cons (pv 0) (pa_cons (pe_callB call_len_seq (by rfl) B.b_len (by decide +kernel) (pa_cons (pv 1) pa_nil)) pa_nil))))
      (pss_cons (ps_set (i := 6) sc_widerC.nd rfl (by first | exact Or.inl rfl | exact Or.inr rfl) (pe_slice sl_tupG (pv 1) (po_some (pv 5)) (po_some (pe_ix ix_list (pv 4) (pv 5) (fun _ _ => rfl)))))
      (pss_cons (ps_set (i := 7) sc_widerC.nd rfl (by first | exact Or.inl rfl | exact Or.inr rfl) (pe_op op_add pe_int (pv 3)))
      (pss_cons (ps_set (i := 8) sc_widerC.nd rfl (by first | exact Or.inl rfl | exact Or.inr rfl) (pe_tupF pa_nil))
      (pss_cons (ps_set (i := 9) sc_widerC.nd rfl (by first | exact Or.inl rfl | exact Or.inr rfl) pe_int)
      (pss_cons (ps_set (i := 10) sc_widerC.nd rfl (by first | exact Or.inl rfl | exact Or.inr rfl) (pe_c C_law_draw (hr.mono (by decide)) (pa_cons (pv 0) (pa_cons pe_int pa_nil))))
      (pss_cons (ps_for PassesOwn.never rfl (pi_range1 (by rfl) B.b_range (pa_cons (pe_callB call_len_seq (by rfl) B.b_len (by decide +kernel) (pa_cons (pv 1) pa_nil)) pa_nil)) (pg_name (i := 11) sc_widerC.nd rfl (by first | exact Or.inl rfl | exact Or.inr rfl)) (pss_one (ps_if (pt_cmpR op_lt (pv 9) (pe_callB call_len_seq (by rfl) B.b_len (by decide +kernel) (pa_cons (pv 1) pa_nil)) (nomark _)) (pss_cons (ps_set (i := 12) sc_widerC.nd rfl (by first | exact Or.inl rfl | exact Or.inr rfl) (pe_cmpR (op_eqD hr.units) (pe_slice sl_tupG (pv 1) (po_some (pv 9)) (po_some (pe_ix ix_list (pv 4) (pv 9) (fun _ _ => rfl)))) (pv 6) (nomark _)))
      (pss_one (ps_if (pt_mid (PW.pt (pw_or (pt_cmpR op_eq (pv 9) (pv 5) (nomark _)) (pw_or1 (PW.pt (pw_and (pt_val (pv 12)) (pw_and1 (pt_cmpR op_gt (pv 10) pe_int (nomark _))))))))) (pss_cons (ps_set (i := 8) sc_widerC.nd rfl (by first | exact Or.inl rfl | exact Or.inr rfl) (pe_op op_catF (pv 8) (pe_tupF (pa_cons (pv 7) pa_nil))))
      (pss_one (ps_set (i := 9) sc_widerC.nd rfl (by first | exact Or.inl rfl | exact Or.inr rfl) (pe_ix ix_list (pv 4) (pv 9) (fun _ _ => rfl))))) (pss_cons (ps_set (i := 8) sc_widerC.nd rfl (by first | exact Or.inl rfl | exact Or.inr rfl) (pe_op op_catF (pv 8) (pe_tupF (pa_cons (pe_ix ix_tup (pv 1) (pv 9) (fun _ _ => rfl)) pa_nil))))
      (pss_one (ps_set (i := 9) sc_widerC.nd rfl (by first | exact Or.inl rfl | exact Or.inr rfl) (pe_op op_add (pv 9) pe_int))))))) pss_nil)))
      (pss_one (ps_set (i := 1) sc_widerC.nd rfl (by first | exact Or.inl rfl | exact Or.inr rfl) (pv 8))))))))))))
      (pss_one (ps_ret (pv 1)))), ?_⟩
    refine ⟨_, rfl, _, rfl, by omega, by omega, for_range (lo := 0) (n := ((n : Nat) : Int).toNat) (fun i σ H' => ∃ (b : Addr) (o : KT) (α : Nat → KT) (v3 v4 v5 v6 v7 v8 v9 v10 v11 v12 : Option V), σ = [some (.ref p), some (.ref b), some (.int (n : Nat)), v3, v4, v5, v6, v7, v8, v9, v10, v11, v12] ∧ PotAt H' p g s ∧ Keep p g H H' ∧ TupF H' b (o.ks.map kv) ∧ o.sub α = t ∧ ∀ x ∈ o.lets, x < 20 + i)
      ⟨a, t, .lt, _, _, _, _, _, _, _, _, _, _, rfl, P0, Keep.refl _, T0, KT.sub_lt t, x0⟩ ?_ ?_⟩
    · rintro i σ H1 hi ⟨b, o, α, v3, v4, v5, v6, v7, v8, v9, v10, v11, v12, rfl, P1, K1, T1, eo, xo⟩
      have wo := tree_wh o 0 [] .nil
      rw [List.append_nil] at wo
      have lo : o.ks.length ≤ 100 := Nat.le_trans (by rw [← eo]; exact KT.sub_len o) l0
      have lm : (o.ks.map kv).length = o.ks.length := List.length_map ..
      have op := KT.pos o
      refine ⟨_, rfl, b, o.ks, rfl, T1.sq, wo, by omega, fun H2 Eq S2 nE hE => ?_⟩
      have P2 := P1.keep S2
      have T2 := T1.same S2
      refine ⟨_, rfl, _, rfl, _, _, rfl, .inr T2.sq, p, g, s, _, rfl, P2, by rw [lm]; omega, by rw [lm]; exact Nat.lt_of_le_of_lt (show o.ks.length ≤ 100 from lo) (by decide +kernel), fun H3 j P3 K3 j0 j1 => ?_⟩
      rw [lm] at j1
      obtain ⟨j, rfl⟩ : ∃ n : Nat, j = (n : Int) := ⟨j.toNat, by omega⟩
      have hj : j < o.ks.length := by omega
      have T3 := T2.keepP P2 K3
      obtain ⟨ep, eg, es⟩ := P1.freeNe (show H1 Eq = none from nE)
      have hE3 := K3 _ _ hE ep eg
      obtain ⟨br, ts, ht⟩ := tree_at wo hj
      obtain ⟨ee, ed, el⟩ := endK_at ht
      refine ⟨_, rfl, _, rfl, _, rfl, _, rfl, _, rfl, Eq, _, _, _, rfl, rfl, SqL.of hE3, atI_nat (endsV_get hj), _, rfl, cutF_of T3 fun H4 bq S4 Tb4 => ?_⟩
      rw [cut_partK (by rw [lm]; omega) (by rw [lm]; omega), ← List.map_drop, ← List.map_take, row_at ht] at Tb4
      have T4 := T3.same S4
      have hE4 := S4 _ _ hE3
      have P4 := P3.keep S4
      clear T1 T2 T3 hE hE3 P2 P3
      refine ⟨_, rfl, _, _, rfl, rfl, (by show 0 ≤ sizeLine; decide), fun f5 o5 n5 d5 => ?_⟩
      have S5 := same_upd (o := HO.frz o5 (.tup [])) n5
      have F5 : TupF (upd H4 f5 (.frz o5 (.tup []))) f5 (([] : List KW).map kv) := TupF.new d5
      generalize upd H4 f5 (.frz o5 (.tup [])) = H5 at *
      have P5 := P4.keep S5
      refine ⟨_, rfl, p, g, s, 3, rfl, P5, by decide, by decide, fun H6 many P6 K6 _ _ => ?_⟩
      have T6 := (T4.same S5).keepP P5 K6
      have F6 := F5.keepP P5 K6
      have Tb6 := (Tb4.same S5).keepP P5 K6
      have hE6 := K6 _ _ (S5 _ _ hE4) ep eg
      have K16 : Keep p g H1 H6 := (Same.keep S2).trans (K3.trans ((Same.keep (S4.trans S5)).trans K6))
      clear T4 F5 Tb4 hE4 P4 P5
      have xl : ∀ m, KW.lt m ∈ o.ks → m < 20 + i := fun m hm => xo m ((lets_ks o m).mp hm)
      refine ⟨_, rfl, _, _, rfl, .inr T6.sq, _, rfl, by rw [lm]; omega, by rw [lm]; omega, for_range (lo := 0) (n := (((o.ks.map kv).length : Nat) : Int).toNat) (fun q σ H' => ∃ (f : Addr) (fs : List KW) (pl : Nat) (v11 v12 : Option V), σ = [some (.ref p), some (.ref b), some (.int (n : Nat)), some (.int (0 + (i : Int))), some (.ref Eq), some (.int (j : Nat)), some (.ref bq), some (.int (20 + (0 + (i : Int)))), some (.ref f), some (.int (pl : Nat)), some (.int many), v11, v12] ∧ Same H6 H' ∧ TupF H' f (fs.map kv) ∧ WdI (20 + i) br o.ks fs pl ∧ (pl = o.ks.length ∨ q ≤ pl))
        ⟨f5, [], 0, _, _, rfl, Same.refl _, F6, WdI.start, .inr (Nat.le_refl _)⟩ ?_ ?_⟩
      · rintro q σ H7 hq ⟨f, fs, pl, v11, v12, rfl, S7, F7, wd, hp⟩
        have T7 := T6.same S7
        have hE7 := S7 _ _ hE6
        have Tb7 := Tb6.same S7
        refine ⟨_, rfl, _, rfl, _, _, rfl, .inr T7.sq, _, _, rfl, rfl, _, rfl, ite2 (fun h1 => ?_) (fun h1 => ?_)⟩
        · have h1 : pl < o.ks.length := by
            have := of_decide_eq_true h1
            rw [lm] at this
            omega
          obtain ⟨u, ts', hd⟩ := tree_at wo h1
          obtain ⟨ge, gd, gl⟩ := endK_at hd
          refine ⟨_, rfl, _, rfl, _, rfl, _, rfl, _, rfl, Eq, _, _, _, rfl, rfl, SqL.of hE7, atI_nat (endsV_get h1), _, rfl, cutF_of T7 fun H8 rq S8 T8 => ?_⟩
          rw [cut_partK (by rw [lm]; omega) (by rw [lm]; omega), ← List.map_drop, ← List.map_take, row_at hd] at T8
          refine ⟨_, rfl, eqD_kv T8.sq (Tb7.same S8).sq ?_⟩
          have S68 := S7.trans S8
          have T78 := T7.same S8
          have F8 := F7.same S8
          have hE8 := S8 _ _ hE7
          have lfs := wd.n
          refine ⟨fun c H' => H' = H8 ∧ (c = true → ∃ r, o.ks.drop pl = br.ks ++ r), ?_, ?_⟩
          · refine ⟨_, rfl, _, rfl, rfl, _, rfl, ite2 (fun z => ?_) (fun z => ?_)⟩
            · refine ⟨rfl, fun _ => ⟨ksL ts, ?_⟩⟩
              have : pl = j := by
                have := of_decide_eq_true z
                have := V.int.inj this
                omega
              rw [this]; exact ht
            · refine ⟨_, rfl, _, rfl, ite2 (fun z2 => ?_) (fun z2 => ?_)⟩
              · refine ⟨_, rfl, _, _, rfl, rfl, _, rfl, rfl, fun _ => ⟨ksL ts', ?_⟩⟩
                have := of_decide_eq_true z2
                rw [hd, this]
              · exact ⟨rfl, fun e => nomatch e⟩
          · rintro c H8 ⟨rfl, hc⟩
            cases c with
            | true =>
              obtain ⟨r, hr'⟩ := hc rfl
              obtain ⟨ge', _, gl'⟩ := endK_at hr'
              refine iteT ⟨_, rfl, _, rfl, (by show 1 ≤ sizeLine; decide), fun r9 o9 n9 d9 => ?_⟩
              have S9 := same_upd (o := HO.frz o9 (.tup [V.int (20 + (0 + (i : Int)))])) n9
              have T9 : TupF (upd H8 r9 (.frz o9 (.tup [V.int (20 + (0 + (i : Int)))]))) r9 ([KW.lt (20 + i)].map kv) := by
                have e : [KW.lt (20 + i)].map kv = [V.int (20 + (0 + (i : Int)))] := by
                  show [V.int ((20 + i : Nat) : Int)] = _
                  rw [show ((20 + i : Nat) : Int) = 20 + (0 + (i : Int)) by omega]
                rw [e]
                exact TupF.new d9
              generalize upd H8 r9 (.frz o9 (.tup [V.int (20 + (0 + (i : Int)))])) = H9 at *
              refine catF_of (F8.same S9) T9 (by simp; omega) fun H10 f' S10 T10 => ?_
              refine ⟨_, rfl, _, rfl, Eq, _, _, _, rfl, rfl, SqL.of (S10 _ _ (S9 _ _ hE8)), atI_nat (endsV_get h1), ?_⟩
              rw [ge']
              exact ⟨f', fs ++ [.lt (20 + i)], pl + br.ks.length, _, _, rfl, S68.trans (S9.trans S10), by rw [List.map_append]; exact T10, wd.rep hr', by have := KT.pos br; omega⟩
            | false =>
              have hw : o.ks[pl]? = some o.ks[pl] := List.getElem?_eq_getElem h1
              have hv : (o.ks.map kv)[pl]? = some (kv o.ks[pl]) := by rw [List.getElem?_map, hw]; rfl
              refine iteF ⟨_, rfl, _, rfl, _, rfl, b, _, _, _, rfl, rfl, T78.sq, atI_nat hv, (by show 1 ≤ sizeLine; decide), fun r9 o9 n9 d9 => ?_⟩
              have S9 := same_upd (o := HO.frz o9 (.tup [kv o.ks[pl]])) n9
              have T9 : TupF (upd H8 r9 (.frz o9 (.tup [kv o.ks[pl]]))) r9 ([o.ks[pl]].map kv) := TupF.new d9
              generalize upd H8 r9 (.frz o9 (.tup [kv o.ks[pl]])) = H9 at *
              refine catF_of (F8.same S9) T9 (by simp; omega) fun H10 f' S10 T10 => ?_
              refine ⟨_, rfl, _, _, rfl, rfl, f', fs ++ [o.ks[pl]], pl + 1, _, _, rfl, S68.trans (S9.trans S10), by rw [List.map_append]; exact T10, wd.keep hw xl, by omega⟩
        · have h1 : pl = o.ks.length := by
            rw [decide_eq_true_eq, lm] at h1
            have := wd.l
            omega
          exact ⟨f, fs, pl, _, _, rfl, S7, F7, wd, .inl h1⟩
      · rintro σ H7 ⟨f, fs, pl, v11, v12, rfl, S7, F7, wd, hp⟩
        have hp : pl = o.ks.length := by
          have := wd.l
          rw [lm] at hp
          omega
        subst hp
        obtain ⟨s', rfl, es', xs'⟩ := wd.done
        refine ⟨_, rfl, f, s', fun x => (if x = 20 + i then br else KT.lt x).sub α, _, _, _, _, _, _, _, _, _, _, rfl, P6.keep S7, K1.trans (K16.trans (Same.keep S7)), F7, ?_, fun x hx => by have := xs' x hx; omega⟩
        rw [← eo, ← es', KT.sub_sub]
    · rintro σ H2 ⟨b, o, α, v3, v4, v5, v6, v7, v8, v9, v10, v11, v12, rfl, P2, K2, T2, eo, xo⟩
      exact ⟨_, rfl, k H2 b o α P2 K2 T2 eo⟩
end
end Kk

set_option maxHeartbeats 4000000
/-! the law -/
namespace Kk
open PySem PySem.Spec PyProof.Rows L2 Wd
theorem ks_ok (t : KT) (h : t.ks.length ≤ 4000) : KOk t.ks := ⟨by have := tree_wh t 0 [] .nil; rwa [List.append_nil] at this, h⟩
theorem ks_wh (t : KT) : Wh 1 (t.ks.map sidesK) := by have := tree_wh t 0 [] .nil; rwa [List.append_nil] at this
section
variable {P : Program} {w : World} {K : PySem.W.Frag} {mg : Str → Option Value} {base : Heap}
def spRightC : Sp := fun vs H Q _ => ∃ (a b : Addr) (t o : KT), vs = [.ref a, .ref b] ∧ TupF H a (t.ks.map kv) ∧ TupF H b (o.ks.map kv) ∧ t.tos ≤ 9 ∧ o.tos ≤ 9 ∧ (∀ T, Top (Com t o) [T] → T.ks.length ≤ 10000) ∧ ∀ H', Same H H' → Q (.bl true) H'
abbrev s_rightC : Stmt := (top 44)
theorem sc_rightC : FnScope ["_law_one", "_law_other", "_law_due_here", "_law_told"] ["_law_one", "_law_other"] (defScope s_rightC) := ⟨rfl, rfl, rfl, by decide +kernel, rfl, by decide +kernel, by decide +kernel⟩
theorem c_rightC {CK : Addr} (B : Bt mg) (pk : PK K mg CK) (D : DefAt K mg "_law_right" s_rightC) (MKind : MkrK P w K mg base CK) (C_law_due : Cal P w K mg base "_law_due" 29 ["_law_one", "_law_other"] spDueC)
    (Ccommon : Cal P w K mg base "common" 11 ["kind", "other"] (spCommon CK)) (Cfilling : Cal P w K mg base "filling" 7 ["kind", "other"] (spFilling CK)) : Cal P w K mg base "_law_right" 30 ["_law_one", "_law_other"] spRightC := by
  refine cal_of D sc_rightC (fun _ _ _ _ _ _ us hl => match us, hl with | [_, _], _ => rfl) (fun vs H Q E h => ?_) (fun fa cdv A outer st0 H vs Q E hr h => ?_)
  · obtain ⟨a, b, t, o, rfl, _⟩ := h
    rfl
  · obtain ⟨a, b, t, o, rfl, Ta, Tb, ht, ho, gl, k⟩ := h
    have m_Kind := pk.mg
    have lt := KT.tos_len t
    have lo := KT.tos_len o
    refine ⟨_, (pss_cons (ps_set (i := 2) sc_rightC.nd rfl (by first | exact Or.inl rfl | exact Or.inr rfl) (pe_c C_law_due (hr.mono (by decide)) (pa_cons (pv 0) (pa_cons (pv 1) pa_nil))))
      (pss_cons (ps_set (i := 3) sc_rightC.nd rfl (by first | exact Or.inl rfl | exact Or.inr rfl) (pe_c Ccommon (hr.mono (by decide)) (pa_cons (pe_mkK MKind (hr.mono (by decide)) (pa_cons (pv 0) pa_nil)) (pa_cons (pe_mkK MKind (hr.mono (by decide)) (pa_cons (pv 1) pa_nil)) pa_nil))))
      (pss_cons (ps_if (PW.pt (pw_or (pt_cmpR op_isN (pv 2) pe_non (nomark _)) (pw_or1 (pt_cmpR op_isN (pv 3) pe_non (nomark _))))) (pss_one (ps_ret (pe_and (pe_cmpR op_isN (pv 2) pe_non (nomark _)) (pe_one (pe_cmpR op_isN (pv 3) pe_non (nomark _)))))) pss_nil)
      (pss_cons (ps_if (PW.pt (pw_or (pt_not (pt_val (pe_callB call_isi (by rfl) B.b_isinstance (by decide +kernel) (pa_cons (pv 3) (pa_cons (pe_gr m_Kind) pa_nil))))) (pw_or1 (pt_cmpR (op_neD hr.units) (pe_fld (pv 3) rfl) (pv 2) (nomark _))))) (pss_one (ps_ret pe_bl)) pss_nil)
      (pss_one (ps_ret (pe_and (pe_cmpR op_notN (pe_c Cfilling (hr.mono (by decide)) (pa_cons (pe_mkK MKind (hr.mono (by decide)) (pa_cons (pv 0) pa_nil)) (pa_cons (pv 3) pa_nil))) pe_non (nomark _)) (pe_one (pe_cmpR op_notN (pe_c Cfilling (hr.mono (by decide)) (pa_cons (pe_mkK MKind (hr.mono (by decide)) (pa_cons (pv 1) pa_nil)) (pa_cons (pv 3) pa_nil))) pe_non (nomark _)))))))))), ?_⟩
    refine ⟨_, rfl, _, rfl, a, b, t, o, rfl, Ta, Tb, ht, ho, fun T hT => Nat.le_trans (gl T hT) (by decide), fun H1 v S1 gt => ?_⟩
    have Ta1 := Ta.same S1
    have Tb1 := Tb.same S1
    refine ⟨_, rfl, fun x dx nx ndx nex => ?_⟩
    have Sm := madeK_same (C := CK) nx ndx
    refine ⟨x, dx, a, t.ks, rfl, upd_same, (Ta1.same Sm).sq, ks_ok t (by omega), fun H2 B2 X2 => ⟨rfl, ?_⟩⟩
    have S2 := B2.same Sm nx
    clear Sm B2
    refine ⟨_, rfl, fun y dy ny ndy ney => ?_⟩
    have Sm := madeK_same (C := CK) ny ndy
    have Tb2 := Tb1.same S2
    refine ⟨y, dy, b, o.ks, rfl, upd_same, (Tb2.same Sm).sq, ks_ok o (by omega), fun H3 B3 Y3 => ⟨rfl, ?_⟩⟩
    have S3 := B3.same Sm ny
    clear Sm B3
    have X3 := X2.same S3
    have Ta3 := (Ta1.same S2).same S3
    have Tb3 := Tb2.same S3
    refine ⟨x, y, a, b, t, o, rfl, X3, Ta3, Y3, Tb3, by omega, fun T hT => Nat.le_trans (gl T hT) (by decide), fun H4 v' S4 gv => ?_⟩
    have S14 := S2.trans (S3.trans S4)
    have S04 := S1.trans S14
    have Ta4 := Ta3.same S4
    have Tb4 := Tb3.same S4
    rcases gt with ⟨rfl, n1⟩ | ⟨T, q, rfl, t1, T1⟩
    · rcases gv with ⟨rfl, n2⟩ | ⟨U, y', rfl, t2, T2⟩
      · refine ⟨_, rfl, rfl, _, rfl, ?_⟩
        rw [decide_eq_true rfl]
        refine iteT (iteT ⟨_, rfl, rfl, ?_⟩)
        rw [decide_eq_true rfl]
        refine ⟨true, rfl, iteT ⟨_, rfl, rfl, ?_⟩⟩
        rw [decide_eq_true rfl]
        exact k H4 S04
      · obtain ⟨θ, η, h, _⟩ := t2.a
        exact absurd ⟨θ, η, h⟩ n1
    · rcases gv with ⟨rfl, n2⟩ | ⟨U0, y', rfl, t2, T2⟩
      · obtain ⟨θ, η, h, _⟩ := t1.a
        exact absurd ⟨θ, η, h⟩ n2
      · have en : numG [] T.ks = numG [] U0.ks := by
          have := t1.num t2
          simpa [ksL] using this
        obtain ⟨U, θ, η, eU, e1, e2, _⟩ := num_kt U0
        rw [← eU] at T2 en
        obtain ⟨θ0, η0, u0, eq0⟩ := t2.a
        have eq0 : U0 = t.sub θ0 := by simpa using eq0
        have i1 : t.sub (fun x => (θ0 x).sub θ) = U := by rw [← KT.sub_sub, ← eq0, ← e1]
        have i2 : o.sub (fun x => (η0 x).sub θ) = U := by rw [← KT.sub_sub, ← show t.sub θ0 = o.sub η0 from u0, ← eq0, ← e1]
        have lU : U.ks.length ≤ 10000 := by rw [eU, numG_len]; exact gl U0 t2
        obtain ⟨y2, K2, T2⟩ := T2
        refine ⟨_, rfl, rfl, _, rfl, ?_⟩
        rw [decide_eq_false (show ¬ V.ref q = V.non from fun z => nomatch z)]
        refine iteF ⟨_, rfl, rfl, _, rfl, ?_⟩
        rw [decide_eq_false (show ¬ V.ref y' = V.non from fun z => nomatch z)]
        obtain ⟨dy', hy'⟩ := id K2
        refine iteF ⟨_, rfl, _, _, _, _, true, rfl, .own CK, .base (.ins hy' pk.cl pk.ha pk.hn pk.ht pk.hm), kit_selfK, _, rfl, iteF ?_⟩
        refine ⟨_, rfl, y', CK, dy', _, _, rfl, hy', pk.cl, pk.nw, kfs_get y2, _, rfl, neD_kv T2.sq (T1.same S14).sq ?_⟩
        rw [decide_eq_true en.symm]
        refine ⟨_, rfl, iteF ?_⟩
        -- the fillings
        refine ⟨_, rfl, fun x5 dx5 nx5 ndx5 nex5 => ?_⟩
        have Sm := madeK_same (C := CK) nx5 ndx5
        refine ⟨x5, dx5, a, t.ks, rfl, upd_same, (Ta4.same Sm).sq, ks_ok t (by omega), fun H5 B5 X5 => ⟨rfl, ?_⟩⟩
        have S5 := B5.same Sm nx5
        clear Sm B5
        obtain ⟨r1, m1⟩ := mtch_of i1
        obtain ⟨r2, m2⟩ := mtch_of i2
        refine ⟨_, rfl, x5, y', a, y2, t.ks, U.ks, rfl, X5, Ta4.same S5, K2.same S5, T2.same S5, ks_wh t, ks_wh U, by omega, lU, fun H6 f1 S6 V1 => ?_⟩
        rw [m1] at V1
        obtain ⟨d1, kvs1, rfl, _⟩ := V1
        refine ⟨rfl, ?_⟩
        rw [decide_eq_false (show ¬ V.ref d1 = V.non from fun z => nomatch z)]
        refine ⟨true, rfl, iteT ⟨_, rfl, fun x7 dx7 nx7 ndx7 nex7 => ?_⟩⟩
        have Sm := madeK_same (C := CK) nx7 ndx7
        have Tb6 := (Tb4.same S5).same S6
        have S56 := S5.trans S6
        refine ⟨x7, dx7, b, o.ks, rfl, upd_same, (Tb6.same Sm).sq, ks_ok o (by omega), fun H7 B7 X7 => ⟨rfl, ?_⟩⟩
        have S7 := B7.same Sm nx7
        clear Sm B7
        have S57 := S56.trans S7
        refine ⟨_, rfl, x7, y', b, y2, o.ks, U.ks, rfl, X7, Tb6.same S7, K2.same S57, T2.same S57, ks_wh o, ks_wh U, by omega, lU, fun H8 f2 S8 V2 => ?_⟩
        rw [m2] at V2
        obtain ⟨d2, kvs2, rfl, _⟩ := V2
        refine ⟨rfl, ?_⟩
        rw [decide_eq_false (show ¬ V.ref d2 = V.non from fun z => nomatch z)]
        exact k H8 (S04.trans (S57.trans S8))
end
end Kk

set_option maxHeartbeats 4000000
/-! the law -/
namespace Kk
open PySem PySem.Spec PyProof.Rows L2 Wd
section
variable {P : Program} {w : World} {K : PySem.W.Frag} {mg : Str → Option Value} {base : Heap}
def spLaw (K : PySem.W.Frag) : Sp := fun vs H Q _ => ∃ (a : Addr) (ns : List Int), vs = [.ref a] ∧ SqL K H a (ns.map V.int) ∧ ns.length ≤ 63 ∧ ∀ H', Q (.bl true) H'
abbrev s_law : Stmt := (top 45)
theorem sc_law : FnScope ["_law_script", "_law_pot_here", "_law_turn", "_law_letters", "_law_one", "_law_other", "_law_whole", "_law_told"] ["_law_script"] (defScope s_law) := ⟨rfl, rfl, rfl, by decide +kernel, rfl, by decide +kernel, by decide +kernel⟩
theorem c_law {f0 CK : Addr} {fd : FuncData} (B : Bt mg) (pk : PK K mg CK) (KQ : NkC K CK) (MKind : MkrK P w K mg base CK) (EK : EqrK P w K mg base CK) (F : Fun K "law" "law" s_law f0 fd)
    (C_law_pot : Cal P w K mg base "_law_pot" 1 ["_law_script"] (spPot K)) (C_law_draw : Cal P w K mg base "_law_draw" 1 ["_law_pot_here", "_law_many"] spDraw) (C_law_kind : Cal P w K mg base "_law_kind" 3 ["_law_pot_here", "_law_leaves", "_law_letters"] spKindD) (C_law_wider : Cal P w K mg base "_law_wider" 2 ["_law_pot_here", "_law_words", "_law_turns"] spWiderC) (C_law_numbered : Cal P w K mg base "_law_numbered" 1 ["_law_words"] (spNumb K)) (C_law_right : Cal P w K mg base "_law_right" 30 ["_law_one", "_law_other"] spRightC)
    (Ccommon : Cal P w K mg base "common" 11 ["kind", "other"] (spCommon CK)) (Cfilling : Cal P w K mg base "filling" 7 ["kind", "other"] (spFilling CK)) :
    FnOk P w K mg base CX0 31 f0 fd ["_law_script"] (spLaw K) := by
  refine F.ok sc_law (fun vs H Q E h => ?_) (fun cdv A0 outer st0 H vs Q E hr h => ?_)
  · obtain ⟨a, ns, rfl, _⟩ := h
    rfl
  · obtain ⟨a0, ns0, rfl, hS, hlen, k⟩ := h
    have m_Kind := pk.mg
    refine ⟨_, (pss_cons (ps_set (i := 1) sc_law.nd rfl (by first | exact Or.inl rfl | exact Or.inr rfl) (pe_c C_law_pot (hr.mono (by decide)) (pa_cons (pv 0) pa_nil)))
      (pss_cons (ps_for PassesOwn.never rfl (pi_range1 (by rfl) B.b_range (pa_cons (pe_op op_add pe_int (pe_op op_fdiv (pe_callB call_len_seq (by rfl) B.b_len (by decide +kernel) (pa_cons (pe_slice sl_list (pv 0) po_none (po_some pe_int)) pa_nil)) pe_int)) pa_nil)) (pg_name (i := 2) sc_law.nd rfl (by first | exact Or.inl rfl | exact Or.inr rfl)) (pss_cons (ps_setLc (i := 3) (own := [("_law_one", 4)]) (g := (gName 4)) (tt := tYes) rfl sc_law.nd rfl rfl (sw_true rfl rfl rfl (by decide +kernel)) (pi_range1 (by rfl) B.b_range (pa_cons (pe_op op_add pe_int (pe_c C_law_draw (hr.mono (by decide)) (pa_cons (pv 1) (pa_cons pe_int pa_nil)))) pa_nil)) (blkOk_by (own := [("_law_one", 4)]) (N := ["_law_script", "_law_pot_here", "_law_turn", "_law_letters", "_law_one", "_law_other", "_law_whole", "_law_told"]) (sc := defScope s_law) (by decide +kernel)) (fun _ _ _ _ _ => (pg_name (i := 4) sc_law.nd rfl (by first | exact Or.inl rfl | exact Or.inr rfl))) (fun _ _ _ _ _ => pts_nil) (fun _ _ _ _ _ => (pe_c C_law_draw (hr.mono (by decide)) (pa_cons (pv 1) (pa_cons pe_int pa_nil)))))
      (pss_cons (ps_set (i := 4) sc_law.nd rfl (by first | exact Or.inl rfl | exact Or.inr rfl) (pe_c C_law_kind (hr.mono (by decide)) (pa_cons (pv 1) (pa_cons (pe_op op_add pe_int (pe_c C_law_draw (hr.mono (by decide)) (pa_cons (pv 1) (pa_cons pe_int pa_nil)))) (pa_cons (pv 3) pa_nil)))))
      (pss_cons (ps_set (i := 5) sc_law.nd rfl (by first | exact Or.inl rfl | exact Or.inr rfl) (pe_c C_law_kind (hr.mono (by decide)) (pa_cons (pv 1) (pa_cons (pe_op op_add pe_int (pe_c C_law_draw (hr.mono (by decide)) (pa_cons (pv 1) (pa_cons pe_int pa_nil)))) (pa_cons (pv 3) pa_nil)))))
      (pss_cons (ps_if (pt_mid (PW.pt (pw_or (pt_not (pt_val (pe_c C_law_right (hr.mono (by decide)) (pa_cons (pv 4) (pa_cons (pv 5) pa_nil))))) (pw_or1 (pt_not (pt_val (pe_c C_law_right (hr.mono (by decide)) (pa_cons (pv 5) (pa_cons (pv 4) pa_nil))))))))) (pss_one (ps_ret pe_bl)) pss_nil)
      (pss_cons (ps_set (i := 6) sc_law.nd rfl (by first | exact Or.inl rfl | exact Or.inr rfl) (pe_c C_law_kind (hr.mono (by decide)) (pa_cons (pv 1) (pa_cons (pe_op op_add pe_int (pe_c C_law_draw (hr.mono (by decide)) (pa_cons (pv 1) (pa_cons pe_int pa_nil)))) (pa_cons (pv 3) pa_nil)))))
      (pss_cons (ps_set (i := 4) sc_law.nd rfl (by first | exact Or.inl rfl | exact Or.inr rfl) (pe_c C_law_wider (hr.mono (by decide)) (pa_cons (pv 1) (pa_cons (pv 6) (pa_cons (pe_op op_add pe_int (pe_c C_law_draw (hr.mono (by decide)) (pa_cons (pv 1) (pa_cons pe_int pa_nil)))) pa_nil)))))
      (pss_cons (ps_set (i := 5) sc_law.nd rfl (by first | exact Or.inl rfl | exact Or.inr rfl) (pe_c C_law_wider (hr.mono (by decide)) (pa_cons (pv 1) (pa_cons (pv 6) (pa_cons (pe_op op_add pe_int (pe_c C_law_draw (hr.mono (by decide)) (pa_cons (pv 1) (pa_cons pe_int pa_nil)))) pa_nil)))))
      (pss_cons (ps_set (i := 7) sc_law.nd rfl (by first | exact Or.inl rfl | exact Or.inr rfl) (pe_c Ccommon (hr.mono (by decide)) (pa_cons (pe_mkK MKind (hr.mono (by decide)) (pa_cons (pv 4) pa_nil)) (pa_cons (pe_mkK MKind (hr.mono (by decide)) (pa_cons (pv 5) pa_nil)) pa_nil))))
      (pss_cons (ps_if (pt_mid (PW.pt (pw_or (pt_not (pt_val (pe_c C_law_right (hr.mono (by decide)) (pa_cons (pv 4) (pa_cons (pv 5) pa_nil))))) (pw_or (pt_not (pt_val (pe_c C_law_right (hr.mono (by decide)) (pa_cons (pv 5) (pa_cons (pv 4) pa_nil))))) (pw_or1 (pt_cmpR op_isN (pv 7) pe_non (nomark _))))))) (pss_one (ps_ret pe_bl)) pss_nil)
      (pss_cons (ps_if (pt_mid (PW.pt (pw_or (pt_cmpR op_isN (pe_c Cfilling (hr.mono (by decide)) (pa_cons (pv 7) (pa_cons (pe_mkK MKind (hr.mono (by decide)) (pa_cons (pv 6) pa_nil)) pa_nil))) pe_non (nomark _)) (pw_or1 (pt_cmpR (op_neK pk KQ EK (hr.mono (by decide))) (pe_c Ccommon (hr.mono (by decide)) (pa_cons (pe_mkK MKind (hr.mono (by decide)) (pa_cons (pv 5) pa_nil)) (pa_cons (pe_mkK MKind (hr.mono (by decide)) (pa_cons (pv 4) pa_nil)) pa_nil))) (pv 7) (nomark _)))))) (pss_one (ps_ret pe_bl)) pss_nil)
      (pss_one (ps_if (pt_mid (PW.pt (pw_or (pt_cmpR (op_neD hr.units) (pe_fld (pe_c Ccommon (hr.mono (by decide)) (pa_cons (pe_mkK MKind (hr.mono (by decide)) (pa_cons (pv 4) pa_nil)) (pa_cons (pe_mkK MKind (hr.mono (by decide)) (pa_cons (pv 4) pa_nil)) pa_nil))) rfl) (pe_c C_law_numbered (hr.mono (by decide)) (pa_cons (pv 4) pa_nil)) (nomark _)) (pw_or1 (pt_cmpR (op_neK pk KQ EK (hr.mono (by decide))) (pe_c Ccommon (hr.mono (by decide)) (pa_cons (pv 7) (pa_cons (pe_mkK MKind (hr.mono (by decide)) (pa_cons (pv 4) pa_nil)) pa_nil))) (pv 7) (nomark _)))))) (pss_one (ps_ret pe_bl)) pss_nil)))))))))))))
      (pss_one (ps_ret pe_bl)))), ?_⟩
    refine ⟨_, rfl, a0, ns0, rfl, hS, hlen, fun H1 p g s P1 S1 np ng ns1 => ?_⟩
    refine ⟨_, rfl, _, rfl, a0, _, rfl, S1.seq hS, fun p2 n2 => ?_⟩
    rw [cut63 hlen]
    refine ⟨p2, _, rfl, .inl (SqL.of upd_same), _, _, rfl, rfl, ⟨by decide, by decide⟩, _, _, rfl, rfl, _, rfl, ?_, ?_, for_range (lo := 0) (n := ((4 : Int) + (((ns0.map V.int).length : Nat) : Int) / 8).toNat) (fun i σ H' => ∃ v2 v3 v4 v5 v6 v7 : Option V, σ = [some (.ref a0), some (.ref p), v2, v3, v4, v5, v6, v7] ∧ PotAt H' p g s)
      ⟨none, none, none, none, none, none, rfl, P1.keep (same_upd n2)⟩ ?_ ?_⟩
    · rw [List.length_map]; omega
    · rw [List.length_map]; omega
    · rintro i0 σ H2 hi ⟨v2, v3, v4, v5, v6, v7, rfl, P2⟩
      clear hi
      generalize (0 : Int) + (i0 : Int) = turn
      refine ⟨_, rfl, p, g, s, 5, rfl, P2, by decide, by decide, fun H3 j P3 K3 j0 j1 => ⟨_, _, rfl, rfl, _, rfl, by omega, by omega, fun D nD => ?_⟩⟩
      obtain ⟨Dp, Dg, Ds⟩ := P3.freeNe nD
      have S4 := same_upd (o := HO.lst []) nD
      refine lc_range (lo := 0) (n := ((1 : Int) + j).toNat) (fun i H' => ∃ ls : List Nat, PotAt H' p g s ∧ H' D = some (.lst (ls.map nv)) ∧ ls.length = i ∧ ∀ x ∈ ls, x < 20) ⟨[], P3.keep S4, upd_same, rfl, fun x h => by simp at h⟩ ?_ ?_
      · rintro i H5 hi ⟨ls, P5, L5, ll, lx⟩
        refine ⟨rfl, _, rfl, p, g, s, 4, rfl, P5, by decide, by decide, fun H6 z P6 K6 z0 z1 => ?_⟩
        obtain ⟨z, rfl⟩ : ∃ n : Nat, z = (n : Int) := ⟨z.toNat, by omega⟩
        have L6 := K6 _ _ L5 Dp Dg
        exact ⟨_, L6, by rw [List.length_map]; exact small_lt (m := 10000) (by omega) (by decide), ls ++ [z], P6.wr Dp Dg Ds, by rw [List.map_append]; exact upd_same, by simp [ll], fun x hx => by
          rcases List.mem_append.mp hx with q | q
          · exact lx x q
          · have : x = z := by simpa using q
            omega⟩
      · rintro H5 ⟨ls, P5, L5, ll, lx⟩
        have l1 : 0 < ls.length := by omega
        have l2 : ls.length ≤ 5 := by omega
        clear ll S4 nD K3 P3 j0 j1
        clear j
        have pos : ∀ z : Int, 0 ≤ z → ∃ n : Nat, z = (n : Int) := fun z h => ⟨z.toNat, by omega⟩
        -- one
        refine ⟨_, rfl, _, rfl, p, g, s, 7, rfl, P5, by decide, by decide, fun H6 z P6 K6 z0 z1 => ⟨_, _, rfl, rfl, _, rfl, ?_⟩⟩
        obtain ⟨z, rfl⟩ := pos z z0
        have L6 := K6 _ _ L5 Dp Dg
        refine ⟨p, g, s, D, 1 + z, ls, ?_, P6, by omega, by omega, L6, Dp, Dg, l1, by omega, fun H7 a ks P7 K7 Ta7 Wa la0 _ => ?_⟩
        · show [V.ref p, V.int ((1 : Int) + (z : Int)), V.ref D] = _
          rw [show (1 : Int) + (z : Int) = ((1 + z : Nat) : Int) by omega]
        obtain ⟨t, rfl⟩ := kt_of Wa
        have la := KT.tos_len t
        have ha : t.tos ≤ 6 := by omega
        have L7 := K7 _ _ L6 Dp Dg
        clear la0 la K6 K7 L6 P6 z0 z1
        -- other
        refine ⟨_, rfl, _, rfl, p, g, s, 7, rfl, P7, by decide, by decide, fun H8 z P8 K8 z0 z1 => ⟨_, _, rfl, rfl, _, rfl, ?_⟩⟩
        obtain ⟨z, rfl⟩ := pos z z0
        have L8 := K8 _ _ L7 Dp Dg
        have Ta8 := Ta7.keepP P7 K8
        refine ⟨p, g, s, D, 1 + z, ls, ?_, P8, by omega, by omega, L8, Dp, Dg, l1, by omega, fun H9 b us P9 K9 Tb9 Wb lb0 _ => ?_⟩
        · show [V.ref p, V.int ((1 : Int) + (z : Int)), V.ref D] = _
          rw [show (1 : Int) + (z : Int) = ((1 + z : Nat) : Int) by omega]
        obtain ⟨o, rfl⟩ := kt_of Wb
        have lb := KT.tos_len o
        have hb : o.tos ≤ 6 := by omega
        have L9 := K9 _ _ L8 Dp Dg
        have Ta9 := Ta8.keepP P8 K9
        clear lb0 lb K8 K9 L8 P8 z0 z1 Ta8 Ta7 L7 P7
        have cl : ∀ T, Top (Com t o) [T] → T.ks.length ≤ 10000 := fun T hT => com_len hT ha hb
        have cl2 : ∀ T, Top (Com o t) [T] → T.ks.length ≤ 10000 := fun T hT => com_len hT hb ha
        refine ⟨fun c H' => c = false ∧ Same H9 H', ?_, ?_⟩
        · refine ⟨_, rfl, _, rfl, a, b, t, o, rfl, Ta9, Tb9, by omega, by omega, cl, fun H10 S10 => ⟨_, rfl, iteF ?_⟩⟩
          exact ⟨_, rfl, _, rfl, b, a, o, t, rfl, Tb9.same S10, Ta9.same S10, by omega, by omega, cl2, fun H11 S11 => ⟨_, rfl, rfl, S10.trans S11⟩⟩
        rintro c H10 ⟨rfl, S10⟩
        refine iteF ?_
        have P10 := P9.keep S10
        have L10 := S10 _ _ L9
        clear cl cl2 Ta9 Tb9 P9 L9 S10 ha hb P5 L5
        -- the whole
        refine ⟨_, rfl, _, rfl, p, g, s, 9, rfl, P10, by decide, by decide, fun H11 z P11 K11 z0 z1 => ⟨_, _, rfl, rfl, _, rfl, ?_⟩⟩
        obtain ⟨z, rfl⟩ := pos z z0
        have L11 := K11 _ _ L10 Dp Dg
        refine ⟨p, g, s, D, 2 + z, ls, ?_, P11, by omega, by omega, L11, Dp, Dg, l1, by omega, fun H12 c us P12 K12 Tc12 Wc lc0 xc => ?_⟩
        · show [V.ref p, V.int ((2 : Int) + (z : Int)), V.ref D] = _
          rw [show (2 : Int) + (z : Int) = ((2 + z : Nat) : Int) by omega]
        obtain ⟨w0, rfl⟩ := kt_of Wc
        have lc : w0.ks.length ≤ 19 := by omega
        have xw : ∀ x ∈ w0.lets, x < 20 := fun x hx => lx x (xc x ((lets_ks w0 x).mpr hx))
        clear L11 K11 K12 L10 P11 P10 lc0 z0 z1
        refine ⟨_, rfl, _, rfl, _, rfl, p, g, s, 4, rfl, P12, by decide, by decide, fun H13 z P13 K13 z0 z1 => ⟨_, _, rfl, rfl, ?_⟩⟩
        obtain ⟨z, rfl⟩ := pos z z0
        have Tc13 := Tc12.keepP P12 K13
        refine ⟨p, g, s, c, w0, 1 + z, ?_, P13, Tc13, by omega, xw, by omega, fun H14 a t α P14 K14 Ta14 et => ?_⟩
        · show [V.ref p, V.ref c, V.int ((1 : Int) + (z : Int))] = _
          rw [show (1 : Int) + (z : Int) = ((1 + z : Nat) : Int) by omega]
        have Tc14 := Tc13.keepP P13 K14
        refine ⟨_, rfl, _, rfl, _, rfl, p, g, s, 4, rfl, P14, by decide, by decide, fun H15 z' P15 K15 z0' z1' => ⟨_, _, rfl, rfl, ?_⟩⟩
        obtain ⟨z', rfl⟩ := pos z' z0'
        have Tc15 := Tc14.keepP P14 K15
        have Ta15 := Ta14.keepP P14 K15
        refine ⟨p, g, s, c, w0, 1 + z', ?_, P15, Tc15, by omega, xw, by omega, fun H16 b o β P16 K16 Tb16 eo => ?_⟩
        · show [V.ref p, V.ref c, V.int ((1 : Int) + (z' : Int))] = _
          rw [show (1 : Int) + (z' : Int) = ((1 + z' : Nat) : Int) by omega]
        have Tc16 := Tc15.keepP P15 K16
        have Ta16 := Ta15.keepP P15 K16
        have lt : t.ks.length ≤ 19 := Nat.le_trans (by rw [← et]; exact KT.sub_len t) lc
        have lo : o.ks.length ≤ 19 := Nat.le_trans (by rw [← eo]; exact KT.sub_len o) lc
        have tt := KT.tos_len t
        have to := KT.tos_len o
        clear P15 P14 P13 P12 K13 K14 K15 K16 Tc12 Tc13 Tc14 Tc15 Ta14 Ta15 z0 z1 z0' z1'
        have uni : ∃ θ η, Uni t o θ η := ⟨α, β, et.trans eo.symm⟩
        have uni2 : ∃ θ η, Uni o t θ η := ⟨β, α, eo.trans et.symm⟩
        have cl : ∀ T, Top (Com t o) [T] → T.ks.length ≤ 19 := fun T hT => Nat.le_trans (com_len_of hT et eo) lc
        have cl2 : ∀ T, Top (Com o t) [T] → T.ks.length ≤ 19 := fun T hT => Nat.le_trans (com_len_of hT eo et) lc
        -- told
        refine ⟨_, rfl, fun x17 dx17 nx17 ndx17 nex17 => ?_⟩
        have Sm := madeK_same (C := CK) nx17 ndx17
        refine ⟨x17, dx17, a, _, rfl, upd_same, (Ta16.same Sm).sq, ks_ok t (by omega), fun H17 B17 X17 => ⟨rfl, ?_⟩⟩
        have S17 := B17.same Sm nx17
        clear Sm B17
        have Tb17 := Tb16.same S17
        refine ⟨_, rfl, fun x18 dx18 nx18 ndx18 nex18 => ?_⟩
        have Sm := madeK_same (C := CK) nx18 ndx18
        refine ⟨x18, dx18, b, _, rfl, upd_same, (Tb17.same Sm).sq, ks_ok o (by omega), fun H18 B18 X18 => ⟨rfl, ?_⟩⟩
        have S18 := B18.same Sm nx18
        clear Sm B18
        refine ⟨x17, x18, a, b, t, o, rfl, X17.same S18, (Ta16.same S17).same S18, X18, Tb17.same S18, by omega, fun T hT => Nat.le_trans (cl T hT) (by decide), fun H19 v S19 gv => ?_⟩
        have S1619 := S17.trans (S18.trans S19)
        rcases gv with ⟨_, n2⟩ | ⟨T0, y, rfl, top0, kd0⟩
        · exact absurd uni n2
        obtain ⟨U, θ, η, eU, e1, e2, eN⟩ := num_kt T0
        rw [← eU] at kd0
        have top : Top (Com t o) [U] := ⟨by rw [e1]; exact Com.sub top0.a, fun us hu => by
          obtain ⟨ρ, h⟩ := top0.w us hu
          refine ⟨fun x => (η x).sub ρ, ?_⟩
          rw [h]
          show [T0.sub ρ] = [U.sub _]
          rw [← KT.sub_sub, ← e2]⟩
        obtain ⟨ρ, hρ⟩ := top.w [t.sub α] ⟨α, β, et.trans eo.symm, rfl⟩
        have hρ : U.sub ρ = w0 := by
          have : t.sub α = U.sub ρ := by simpa using hρ
          rw [← this]; exact et
        have lU : U.ks.length ≤ 19 := cl U top
        obtain ⟨θ1, η1, u1, q1⟩ := top.a
        have q1 : t.sub θ1 = U := by
          have : U = t.sub θ1 := by simpa using q1
          exact this.symm
        have Ta19 := Ta16.same S1619
        have Tb19 := Tb16.same S1619
        have Tc19 := Tc16.same S1619
        have P19 := P16.keep S1619
        clear P16 S1619 S19 S18 S17 Ta16 Tb16 Tb17 Tc16 X17 X18 top0 e1 e2 u1 nx17 ndx17 nex17 nx18 ndx18 nex18
        clear uni
        refine ⟨fun c H' => c = false ∧ Same H19 H', ?_, ?_⟩
        · refine ⟨_, rfl, _, rfl, a, b, t, o, rfl, Ta19, Tb19, by omega, by omega, fun T hT => Nat.le_trans (cl T hT) (by decide), fun H20 S20 => ⟨_, rfl, iteF ?_⟩⟩
          refine ⟨_, rfl, _, rfl, b, a, o, t, rfl, Tb19.same S20, Ta19.same S20, by omega, by omega, fun T hT => Nat.le_trans (cl2 T hT) (by decide), fun H21 S21 => ⟨_, rfl, iteF ?_⟩⟩
          refine ⟨_, rfl, rfl, _, rfl, ?_⟩
          exact ⟨rfl, S20.trans S21⟩
        rintro c' H20 ⟨rfl, S20⟩
        refine iteF ?_
        obtain ⟨yw, ky, Ty19⟩ := kd0
        have ky20 := ky.same S20
        have Ty20 := Ty19.same S20
        have Ta20 := Ta19.same S20
        have Tb20 := Tb19.same S20
        have Tc20 := Tc19.same S20
        have P20 := P19.keep S20
        clear S20 ky Ty19 Ta19 Tb19 Tc19 P19
        refine ⟨fun c H' => c = false ∧ Same H20 H', ?_, ?_⟩
        · refine ⟨_, rfl, _, rfl, fun x21 dx21 nx21 ndx21 nex21 => ?_⟩
          have Sm := madeK_same (C := CK) nx21 ndx21
          refine ⟨x21, dx21, c, _, rfl, upd_same, (Tc20.same Sm).sq, ks_ok w0 (by omega), fun H21 B21 X21 => ⟨rfl, ?_⟩⟩
          have S21 := B21.same Sm nx21
          clear Sm B21
          obtain ⟨r1, m1⟩ := mtch_of hρ
          refine ⟨y, x21, yw, c, U.ks, w0.ks, rfl, ky20.same S21, Ty20.same S21, X21, Tc20.same S21, ks_wh U, ks_wh w0, by omega, by omega, fun H22 f1 S22 V1 => ?_⟩
          rw [m1] at V1
          obtain ⟨d1, kvs1, rfl, _⟩ := V1
          refine ⟨rfl, _, rfl, ?_⟩
          rw [decide_eq_false (show ¬ V.ref d1 = V.non from fun z => nomatch z)]
          refine iteF ?_
          have S2022 := S21.trans S22
          have Ta22 := Ta20.same S2022
          have Tb22 := Tb20.same S2022
          refine ⟨_, rfl, fun x23 dx23 nx23 ndx23 nex23 => ?_⟩
          have Sm := madeK_same (C := CK) nx23 ndx23
          refine ⟨x23, dx23, b, _, rfl, upd_same, (Tb22.same Sm).sq, ks_ok o (by omega), fun H23 B23 X23 => ⟨rfl, ?_⟩⟩
          have S23 := B23.same Sm nx23
          clear Sm B23
          have Ta23 := Ta22.same S23
          refine ⟨_, rfl, fun x24 dx24 nx24 ndx24 nex24 => ?_⟩
          have Sm := madeK_same (C := CK) nx24 ndx24
          refine ⟨x24, dx24, a, _, rfl, upd_same, (Ta23.same Sm).sq, ks_ok t (by omega), fun H24 B24 X24 => ⟨rfl, ?_⟩⟩
          have S24 := B24.same Sm nx24
          clear Sm B24
          refine ⟨x23, x24, b, a, o, t, rfl, X23.same S24, (Tb22.same S23).same S24, X24, Ta23.same S24, by omega, fun T hT => Nat.le_trans (cl2 T hT) (by decide), fun H25 v S25 gv => ?_⟩
          have S2025 := S2022.trans (S23.trans (S24.trans S25))
          rcases gv with ⟨_, n2⟩ | ⟨T1, y1, rfl, top1, kd1⟩
          · exact absurd uni2 n2
          have en : numG [] T1.ks = U.ks := by
            have := (top1.congr fun us => com_comm us).num top
            have e : numG [] T1.ks = numG [] U.ks := by simpa [ksL] using this
            rw [e, eN]
          rw [en] at kd1
          obtain ⟨yb, k1, Ty1⟩ := kd1
          refine ⟨_, rfl, y1, y, U.ks, U.ks, rfl, rfl, ⟨yb, k1, Ty1.sq⟩, ⟨yw, ky20.same S2025, (Ty20.same S2025).sq⟩, ?_⟩
          refine ⟨_, rfl, ?_⟩
          rw [decide_eq_true rfl]
          exact ⟨rfl, S2025⟩
        rintro c' H21 ⟨rfl, S21⟩
        refine iteF ?_
        have ky21 := ky20.same S21
        have Ty21 := Ty20.same S21
        have Ta21 := Ta20.same S21
        have P21 := P20.keep S21
        clear S21 ky20 Ty20 Ta20 Tb20 Tc20 P20
        refine ⟨fun c H' => c = false ∧ Same H21 H', ?_, ?_⟩
        · refine ⟨_, rfl, fun x22 dx22 nx22 ndx22 nex22 => ?_⟩
          have Sm := madeK_same (C := CK) nx22 ndx22
          refine ⟨x22, dx22, a, _, rfl, upd_same, (Ta21.same Sm).sq, ks_ok t (by omega), fun H22 B22 X22 => ⟨rfl, ?_⟩⟩
          have S22 := B22.same Sm nx22
          clear Sm B22
          have Ta22 := Ta21.same S22
          refine ⟨_, rfl, fun x23 dx23 nx23 ndx23 nex23 => ?_⟩
          have Sm := madeK_same (C := CK) nx23 ndx23
          refine ⟨x23, dx23, a, _, rfl, upd_same, (Ta22.same Sm).sq, ks_ok t (by omega), fun H23 B23 X23 => ⟨rfl, ?_⟩⟩
          have S23 := B23.same Sm nx23
          clear Sm B23
          refine ⟨x22, x23, a, a, t, t, rfl, X22.same S23, Ta22.same S23, X23, Ta22.same S23, by omega, fun T hT => Nat.le_trans (com_len_of (θ := .lt) (η := .lt) (w := t) hT (KT.sub_lt t) (KT.sub_lt t)) (by omega), fun H24 v S24 gv => ?_⟩
          have S2124 := S22.trans (S23.trans S24)
          rcases gv with ⟨_, n2⟩ | ⟨T1, y1, rfl, top1, kd1⟩
          · exact absurd ⟨.lt, .lt, rfl⟩ n2
          have en : numG [] T1.ks = numG [] t.ks := by
            have := top1.num (com_self t)
            simpa [ksL] using this
          rw [en] at kd1
          obtain ⟨yb, ⟨dyb, k1⟩, Ty1⟩ := kd1
          refine ⟨y1, CK, dyb, _, _, rfl, k1, pk.cl, pk.nw, kfs_get yb, _, rfl, a, t.ks, rfl, (Ta21.same S2124).sq, by omega, fun H25 qn S25 Tn => ?_⟩
          refine neD_kv (Ty1.same S25).sq Tn.sq ?_
          rw [decide_eq_true rfl]
          refine ⟨_, rfl, iteF ?_⟩
          have S2125 := S2124.trans S25
          have Ta25 := Ta21.same S2125
          refine ⟨_, rfl, _, rfl, fun x26 dx26 nx26 ndx26 nex26 => ?_⟩
          have Sm := madeK_same (C := CK) nx26 ndx26
          refine ⟨x26, dx26, a, _, rfl, upd_same, (Ta25.same Sm).sq, ks_ok t (by omega), fun H26 B26 X26 => ⟨rfl, ?_⟩⟩
          have S26 := B26.same Sm nx26
          clear Sm B26
          refine ⟨y, x26, yw, a, U, t, rfl, (ky21.same S2125).same S26, (Ty21.same S2125).same S26, X26, Ta25.same S26, by omega, fun T hT => Nat.le_trans (com_len_of (θ := .lt) (η := θ1) (w := U) hT (KT.sub_lt U) q1) (by omega), fun H27 v S27 gv => ?_⟩
          have S2127 := S2125.trans (S26.trans S27)
          rcases gv with ⟨_, n2⟩ | ⟨T2, y2, rfl, top2, kd2⟩
          · exact absurd ⟨.lt, θ1, by show U.sub .lt = _; rw [KT.sub_lt, q1]⟩ n2
          have en2 : numG [] T2.ks = U.ks := by
            have := top2.num (com_inst q1)
            have e : numG [] T2.ks = numG [] U.ks := by simpa [ksL] using this
            rw [e, eN]
          rw [en2] at kd2
          obtain ⟨yc, k2, Ty2⟩ := kd2
          refine ⟨_, rfl, y2, y, U.ks, U.ks, rfl, rfl, ⟨yc, k2, Ty2.sq⟩, ⟨yw, ky21.same S2127, (Ty21.same S2127).sq⟩, ?_⟩
          refine ⟨_, rfl, ?_⟩
          rw [decide_eq_true rfl]
          exact ⟨rfl, S2127⟩
        rintro c' H22 ⟨rfl, S22⟩
        exact iteF ⟨_, _, _, _, _, _, rfl, P21.keep S22⟩
    · rintro σ H2 ⟨v2, v3, v4, v5, v6, v7, rfl, P2⟩
      exact k H2
end
end Kk

/-! ### the end -/
namespace Kk
open PySem PySem.Spec PyProof.Rows L2
structure AllD (K : PySem.W.Frag) (mg : Str → Option Value) : Prop where
  d_law_draw : DefAt K mg "_law_draw" s_draw
  d_law_pot : DefAt K mg "_law_pot" s_pot
  dmisfit_index : DefAt K mg "misfit_index" s_misfit_index
  dends_by : DefAt K mg "ends_by" s_ends_by
  d_law_any : DefAt K mg "_law_any" s_anyV
  dis_number : DefAt K mg "is_number" s_is_number
  dis_kind_word : DefAt K mg "is_kind_word" s_is_kind_word
  dsides_in : DefAt K mg "sides_in" s_sides_in
  dfault_index : DefAt K mg "fault_index" s_fault_index
  d_law_shape_of : DefAt K mg "_law_shape_of" s_shape_of
  d_law_kind : DefAt K mg "_law_kind" s_kindD
  dkind_of : DefAt K mg "kind_of" s_kind_of
  dkind_ends : DefAt K mg "kind_ends" s_kind_ends
  dfilling : DefAt K mg "filling" s_filling
  d_law_kind_ends : DefAt K mg "_law_kind_ends" s_lke
  donly_kind : DefAt K mg "only_kind" s_only
  d_law_top : DefAt K mg "_law_top" s_top
  d_law_new : DefAt K mg "_law_new" s_newL
  d_law_join : DefAt K mg "_law_join" s_joinL
  d_law_is_ring : DefAt K mg "_law_is_ring" s_ring
  d_law_of_words : DefAt K mg "_law_of_words" s_ofw
  dcommon_within : DefAt K mg "common_within" s_commonW
  dcommon : DefAt K mg "common" s_common
  d_law_numbered : DefAt K mg "_law_numbered" s_numb
  d_law_size_at : DefAt K mg "_law_size_at" s_sizeAt
  d_law_written : DefAt K mg "_law_written" s_writL
  d_law_due : DefAt K mg "_law_due" s_dueC
  d_law_wider : DefAt K mg "_law_wider" s_widerC
  d_law_right : DefAt K mg "_law_right" s_rightC
theorem law_ok {P : Program} {w : World} {K : PySem.W.Frag} {mg : Str → Option Value} {base : Heap} {f : Addr} {fkq : Addr} {CN fiN : Addr} {CK fik : Addr} {fdik : FuncData} {fdiN : FuncData} {fn_head : Addr} {fdn_head : FuncData} {fn_pair : Addr} {fdn_pair : FuncData} {fn_letter : Addr} {fdn_letter : FuncData} {fn_take_in : Addr} {fdn_take_in : FuncData} {fn_unite : Addr} {fdn_unite : FuncData} {fn_parts : Addr} {fdn_parts : FuncData} {fn_in_order : Addr} {fdn_in_order : FuncData} {fn_are_longer : Addr} {fdn_are_longer : FuncData} {fn_written : Addr} {fdn_written : FuncData} {fn_kinds : Addr} {fdn_kinds : FuncData} {fdkq : FuncData} {fd : FuncData} (B : Bt mg) (pk : PK K mg CK) (MKk : Mk K CK fik) (FIK : Fun K "__init__" "Kind.__init__" s_kindinit fik fdik) (NIK : NiC K CK) (KQ : NkC K CK) (KQe : PySem.W.findIn K (.ref CK) "__eq__" = some (some (.ref fkq))) (KQi : PySem.W.isFn K (.ref fkq) = true) (FKQ : Fun K "__eq__" "Kind.__eq__" s_keq fkq fdkq) (pn : PN K mg CN) (MNk : Mk K CN fiN) (FIN : Fun K "__init__" "Nodes.__init__" s_ninit fiN fdiN) (nn_head : Meth K CN "head" fn_head) (FN_head : Fun K "head" "Nodes.head" s_nhead fn_head fdn_head) (nn_pair : Meth K CN "pair" fn_pair) (FN_pair : Fun K "pair" "Nodes.pair" s_npair fn_pair fdn_pair) (nn_letter : Meth K CN "letter" fn_letter) (FN_letter : Fun K "letter" "Nodes.letter" s_nletter fn_letter fdn_letter) (nn_take_in : Meth K CN "take_in" fn_take_in) (FN_take_in : Fun K "take_in" "Nodes.take_in" s_ntake fn_take_in fdn_take_in) (nn_unite : Meth K CN "unite" fn_unite) (FN_unite : Fun K "unite" "Nodes.unite" s_nunite fn_unite fdn_unite) (nn_parts : Meth K CN "parts" fn_parts) (FN_parts : Fun K "parts" "Nodes.parts" s_nparts fn_parts fdn_parts) (nn_in_order : Meth K CN "in_order" fn_in_order) (FN_in_order : Fun K "in_order" "Nodes.in_order" s_norder fn_in_order fdn_in_order) (nn_are_longer : Meth K CN "are_longer" fn_are_longer) (FN_are_longer : Fun K "are_longer" "Nodes.are_longer" s_nlonger fn_are_longer fdn_are_longer) (nn_written : Meth K CN "written" fn_written) (FN_written : Fun K "written" "Nodes.written" s_nwritten fn_written fdn_written) (nn_kinds : Meth K CN "kinds" fn_kinds) (FN_kinds : Fun K "kinds" "Nodes.kinds" s_nkinds fn_kinds fdn_kinds) (a : AllD K mg) (F : Fun K "law" "law" s_law f fd) :
    FnOk P w K mg base CX0 31 f fd ["_law_script"] (spLaw K) := by
  have C_law_draw := c_draw (P := P) (w := w) (base := base) B (D := a.d_law_draw)
  have C_law_pot := c_pot (P := P) (w := w) (base := base) B (D := a.d_law_pot)
  have Cmisfit_index := c_misfit_index (P := P) (w := w) (base := base) B (D := a.dmisfit_index)
  have Cends_by := c_ends_by (P := P) (w := w) (base := base) B (D := a.dends_by)
  have C_law_any := c_anyV (P := P) (w := w) (base := base) B (D := a.d_law_any) (C_law_draw := C_law_draw)
  have Cis_number := c_is_number (P := P) (w := w) (base := base) B (D := a.dis_number)
  have Cis_kind_word := c_is_kind_word (P := P) (w := w) (base := base) B (D := a.dis_kind_word) (Cis_number := Cis_number)
  have Csides_in := c_sides_in (P := P) (w := w) (base := base) B (D := a.dsides_in)
  have Cfault_index := c_fault_index (P := P) (w := w) (base := base) B (D := a.dfault_index) (Cis_kind_word := Cis_kind_word) (Csides_in := Csides_in) (Cmisfit_index := Cmisfit_index)
  have MKind : MkrK P w K mg base CK := ⟨fik, fdik, MKk, pk.mg, FIK.binds (ps := ["self", "words"]) (fun _ _ _ _ _ _ us hl => match us, hl with | [_, _], _ => rfl), c_kindinit (P := P) (w := w) (base := base) B (pk := pk) (F := FIK) (Cfault_index := Cfault_index)⟩
  have C_law_shape_of := c_shape_of (P := P) (w := w) (base := base) B (D := a.d_law_shape_of) (C_law_draw := C_law_draw)
  have C_law_kind := c_kindD (P := P) (w := w) (base := base) B (D := a.d_law_kind) (C_law_draw := C_law_draw) (C_law_shape_of := C_law_shape_of) (C_law_any := C_law_any)
  have Ckind_of := c_kind_of (P := P) (w := w) (base := base) B (pk := pk) (D := a.dkind_of) (MKind := MKind)
  have Ckind_ends := c_kind_ends (P := P) (w := w) (base := base) B (D := a.dkind_ends) (Csides_in := Csides_in) (Cends_by := Cends_by)
  have Cfilling := c_filling (P := P) (w := w) (base := base) B (pk := pk) (D := a.dfilling) (Ckind_ends := Ckind_ends) (Ckind_of := Ckind_of)
  have C_law_kind_ends := c_lke (P := P) (w := w) (base := base) B (D := a.d_law_kind_ends)
  have MNodes : MkrN P w K mg base CN := ⟨fiN, fdiN, MNk, pn.mg, FIN.binds (ps := ["self"]) (fun _ _ _ _ _ _ us hl => match us, hl with | [_], _ => rfl), c_ninit (P := P) (w := w) (base := base) (pn := pn) (F := FIN)⟩
  have Mhead : Mth P w K mg base CN "head" 1 ["self", "node"] (spHead CN) := ⟨fn_head, fdn_head, nn_head, FN_head.binds (ps := ["self", "node"]) (fun _ _ _ _ _ _ us hl => match us, hl with | [_, _], _ => rfl), c_nhead (P := P) (w := w) (base := base) (pn := pn) (F := FN_head)⟩
  have Mpair : Mth P w K mg base CN "pair" 1 ["self", "left", "right"] (spPair CN) := ⟨fn_pair, fdn_pair, nn_pair, FN_pair.binds (ps := ["self", "left", "right"]) (fun _ _ _ _ _ _ us hl => match us, hl with | [_, _, _], _ => rfl), c_npair (P := P) (w := w) (base := base) B (pn := pn) (F := FN_pair)⟩
  have Mletter : Mth P w K mg base CN "letter" 2 ["self"] (spLetter CN) := ⟨fn_letter, fdn_letter, nn_letter, FN_letter.binds (ps := ["self"]) (fun _ _ _ _ _ _ us hl => match us, hl with | [_], _ => rfl), c_nletter (P := P) (w := w) (base := base) (pn := pn) (F := FN_letter) (Mpair := Mpair)⟩
  have Mtake_in : Mth P w K mg base CN "take_in" 3 ["self", "kind"] (spTake CN CK) := ⟨fn_take_in, fdn_take_in, nn_take_in, FN_take_in.binds (ps := ["self", "kind"]) (fun _ _ _ _ _ _ us hl => match us, hl with | [_, _], _ => rfl), c_ntake (P := P) (w := w) (base := base) B (pn := pn) (pk := pk) (F := FN_take_in) (Mpair := Mpair) (Mletter := Mletter)⟩
  have Munite : Mth P w K mg base CN "unite" 2 ["self", "node", "other"] (spUnite CN) := ⟨fn_unite, fdn_unite, nn_unite, FN_unite.binds (ps := ["self", "node", "other"]) (fun _ _ _ _ _ _ us hl => match us, hl with | [_, _, _], _ => rfl), c_nunite (P := P) (w := w) (base := base) (pn := pn) (F := FN_unite) (Mhead := Mhead)⟩
  have Mparts : Mth P w K mg base CN "parts" 2 ["self", "node"] (spParts CN) := ⟨fn_parts, fdn_parts, nn_parts, FN_parts.binds (ps := ["self", "node"]) (fun _ _ _ _ _ _ us hl => match us, hl with | [_, _], _ => rfl), c_nparts (P := P) (w := w) (base := base) (pn := pn) (F := FN_parts) (Mhead := Mhead)⟩
  have Min_order : Mth P w K mg base CN "in_order" 3 ["self"] (spOrder CN) := ⟨fn_in_order, fdn_in_order, nn_in_order, FN_in_order.binds (ps := ["self"]) (fun _ _ _ _ _ _ us hl => match us, hl with | [_], _ => rfl), c_norder (P := P) (w := w) (base := base) B (pn := pn) (F := FN_in_order) (Mparts := Mparts)⟩
  have Mare_longer : Mth P w K mg base CN "are_longer" 3 ["self", "row", "wanted", "most"] (spLonger CN) := ⟨fn_are_longer, fdn_are_longer, nn_are_longer, FN_are_longer.binds (ps := ["self", "row", "wanted", "most"]) (fun _ _ _ _ _ _ us hl => match us, hl with | [_, _, _, _], _ => rfl), c_nlonger (P := P) (w := w) (base := base) B (pn := pn) (F := FN_are_longer) (Mhead := Mhead) (Mparts := Mparts)⟩
  have Mwritten : Mth P w K mg base CN "written" 7 ["self", "wanted"] (spWritten CN CK) := ⟨fn_written, fdn_written, nn_written, FN_written.binds (ps := ["self", "wanted"]) (fun _ _ _ _ _ _ us hl => match us, hl with | [_, _], _ => rfl), c_nwritten (P := P) (w := w) (base := base) B (pn := pn) (pk := pk) (F := FN_written) (Mhead := Mhead) (Ckind_of := Ckind_of)⟩
  have Mkinds : Mth P w K mg base CN "kinds" 8 ["self", "wanted", "most"] (spKinds CN CK) := ⟨fn_kinds, fdn_kinds, nn_kinds, FN_kinds.binds (ps := ["self", "wanted", "most"]) (fun _ _ _ _ _ _ us hl => match us, hl with | [_, _, _], _ => rfl), c_nkinds (P := P) (w := w) (base := base) (pn := pn) (F := FN_kinds) (Min_order := Min_order) (Mare_longer := Mare_longer) (Mwritten := Mwritten)⟩
  have Conly_kind := c_only (P := P) (w := w) (base := base) (pn := pn) (D := a.donly_kind) (Mkinds := Mkinds)
  have C_law_top := c_top (P := P) (w := w) (base := base) B (D := a.d_law_top)
  have C_law_new := c_newL (P := P) (w := w) (base := base) B (D := a.d_law_new)
  have C_law_join := c_joinL (P := P) (w := w) (base := base) B (D := a.d_law_join) (C_law_top := C_law_top)
  have C_law_is_ring := c_ring (P := P) (w := w) (base := base) B (D := a.d_law_is_ring) (C_law_top := C_law_top)
  have C_law_of_words := c_ofw (P := P) (w := w) (base := base) B (D := a.d_law_of_words) (C_law_new := C_law_new)
  have Ccommon_within := c_commonW (P := P) (w := w) (base := base) B (pn := pn) (pk := pk) (D := a.dcommon_within) (MNodes := MNodes) (Mtake_in := Mtake_in) (Munite := Munite) (Conly_kind := Conly_kind)
  have Ccommon := c_common (P := P) (w := w) (base := base) B (D := a.dcommon) (Ccommon_within := Ccommon_within)
  have C_law_numbered := c_numb (P := P) (w := w) (base := base) B (D := a.d_law_numbered)
  have EK : EqrK P w K mg base CK := ⟨fkq, fdkq, KQe, KQi, FKQ.binds (ps := ["self", "other"]) (fun _ _ _ _ _ _ us hl => match us, hl with | [_, _], _ => rfl), c_keq (P := P) (w := w) (base := base) B (pk := pk) (F := FKQ)⟩
  have C_law_size_at := c_sizeAt (P := P) (w := w) (base := base) B (D := a.d_law_size_at) (C_law_top := C_law_top)
  have C_law_written := c_writL (P := P) (w := w) (base := base) B (D := a.d_law_written) (C_law_top := C_law_top) (C_law_size_at := C_law_size_at)
  have C_law_due := c_dueC (P := P) (w := w) (base := base) B (D := a.d_law_due) (C_law_of_words := C_law_of_words) (C_law_join := C_law_join) (C_law_is_ring := C_law_is_ring) (C_law_written := C_law_written)
  have C_law_wider := c_widerC (P := P) (w := w) (base := base) B (D := a.d_law_wider) (C_law_draw := C_law_draw) (C_law_kind_ends := C_law_kind_ends)
  have C_law_right := c_rightC (P := P) (w := w) (base := base) B (pk := pk) (D := a.d_law_right) (MKind := MKind) (C_law_due := C_law_due) (Ccommon := Ccommon) (Cfilling := Cfilling)
  exact c_law (P := P) (w := w) (base := base) B (pk := pk) (KQ := KQ) (MKind := MKind) (EK := EK) (F := F) (C_law_pot := C_law_pot) (C_law_draw := C_law_draw) (C_law_kind := C_law_kind) (C_law_wider := C_law_wider) (C_law_numbered := C_law_numbered) (C_law_right := C_law_right) (Ccommon := Ccommon) (Cfilling := Cfilling)
theorem def_mk {K : PySem.W.Frag} {h : Heap} {mg : Str → Option Value} {x : Str} {st : Stmt} (X : K.In h) (G : h.Ns mainGlobals mg) {f : Addr} {od an : Option Addr} {sl : Array (Option Value)} {oc kV dc pm cd ct : Value} {nm : Str}
    (a : PySem.W.nsIn K mainGlobals x = some (some (.ref f))) (l : K.lookup f = some ⟨oc, od, .func (PySem.W.fnOf nm nm (defArgs st) (defBody st) (defScope st) .none kV dc pm an cd ct), sl⟩) (c : PySem.W.codeIn K cd nm = true) (k : PySem.W.keepIn K (.ref f) = true) : DefAt K mg x st nm :=
  ⟨f, _, fun_mk (st := st) l c k, PySem.W.mg_of X G a⟩
theorem glob_s {K : PySem.W.Frag} {h : Heap} {mg : Str → Option Value} {x z : Str} {t : Tok} (X : K.In h) (G : h.Ns mainGlobals mg) (a : PySem.W.nsIn K mainGlobals x = some (some (.str z t))) : ∃ t, mg x = some (.str z t) := ⟨t, PySem.W.mg_of X G a⟩
theorem glob_i {K : PySem.W.Frag} {h : Heap} {mg : Str → Option Value} {x : Str} {z : Int} {t : Tok} (X : K.In h) (G : h.Ns mainGlobals mg) (a : PySem.W.nsIn K mainGlobals x = some (some (.int z t))) : ∃ t, mg x = some (.int z t) := ⟨t, PySem.W.mg_of X G a⟩
theorem law_mk {l : PySem.W.OpenLaw} {w : World} {K : PySem.W.Frag} {h : Heap} {mg : Str → Option Value} {fa f : Addr} (X : K.In h) (G : h.Ns mainGlobals mg) (hfa : mg "law" = some (.ref fa))
    {CK fik : Addr} {od7 an7 : Option Addr} {sl7 : Array (Option Value)} {oc7 kV7 dc7 pm7 cd7 ct7 : Value} {fkq : Addr} {odQ anQ : Option Addr} {slQ : Array (Option Value)} {ocQ kVQ dcQ pmQ cdQ ctQ : Value} {CN fiN : Addr} {odN anN : Option Addr} {slN : Array (Option Value)} {ocN kVN dcN pmN cdN ctN : Value} {fn_head : Addr} {odNhead anNhead : Option Addr} {slNhead : Array (Option Value)} {ocNhead kVNhead dcNhead pmNhead cdNhead ctNhead : Value} {fn_pair : Addr} {odNpair anNpair : Option Addr} {slNpair : Array (Option Value)} {ocNpair kVNpair dcNpair pmNpair cdNpair ctNpair : Value} {fn_letter : Addr} {odNletter anNletter : Option Addr} {slNletter : Array (Option Value)} {ocNletter kVNletter dcNletter pmNletter cdNletter ctNletter : Value} {fn_take_in : Addr} {odNtake_in anNtake_in : Option Addr} {slNtake_in : Array (Option Value)} {ocNtake_in kVNtake_in dcNtake_in pmNtake_in cdNtake_in ctNtake_in : Value} {fn_unite : Addr} {odNunite anNunite : Option Addr} {slNunite : Array (Option Value)} {ocNunite kVNunite dcNunite pmNunite cdNunite ctNunite : Value} {fn_parts : Addr} {odNparts anNparts : Option Addr} {slNparts : Array (Option Value)} {ocNparts kVNparts dcNparts pmNparts cdNparts ctNparts : Value} {fn_in_order : Addr} {odNin_order anNin_order : Option Addr} {slNin_order : Array (Option Value)} {ocNin_order kVNin_order dcNin_order pmNin_order cdNin_order ctNin_order : Value} {fn_are_longer : Addr} {odNare_longer anNare_longer : Option Addr} {slNare_longer : Array (Option Value)} {ocNare_longer kVNare_longer dcNare_longer pmNare_longer cdNare_longer ctNare_longer : Value} {fn_written : Addr} {odNwritten anNwritten : Option Addr} {slNwritten : Array (Option Value)} {ocNwritten kVNwritten dcNwritten pmNwritten cdNwritten ctNwritten : Value} {fn_kinds : Addr} {odNkinds anNkinds : Option Addr} {slNkinds : Array (Option Value)} {ocNkinds kVNkinds dcNkinds pmNkinds cdNkinds ctNkinds : Value} {od4 an4 : Option Addr} {sl4 : Array (Option Value)} {oc4 kV4 dc4 pm4 cd4 ct4 : Value}
    (a4 : PySem.W.nsIn K mainGlobals "law" = some (some (.ref f))) (l4 : K.lookup f = some ⟨oc4, od4, .func (PySem.W.fnOf "law" "law" (defArgs s_law) (defBody s_law) (defScope s_law) .none kV4 dc4 pm4 an4 cd4 ct4), sl4⟩) (c4 : PySem.W.codeIn K cd4 "law" = true) (k4 : PySem.W.keepIn K (.ref f) = true)
    (a7 : PySem.W.findIn K (.ref CK) "__init__" = some (some (.ref fik))) (i7 : PySem.W.isFn K (.ref fik) = true) (l7 : K.lookup fik = some ⟨oc7, od7, .func (PySem.W.fnOf "__init__" "Kind.__init__" (defArgs s_kindinit) (defBody s_kindinit) (defScope s_kindinit) .none kV7 dc7 pm7 an7 cd7 ct7), sl7⟩) (c7 : PySem.W.codeIn K cd7 "Kind.__init__" = true) (k7 : PySem.W.keepIn K (.ref fik) = true) (mk7 : PySem.W.makesIn K CK = true) (kc7 : PySem.W.keepIn K (.ref CK) = true) (pk : PK K mg CK) (NIK : NiC K CK) (KQ : NkC K CK) (aQ : PySem.W.findIn K (.ref CK) "__eq__" = some (some (.ref fkq))) (iQ : PySem.W.isFn K (.ref fkq) = true) (lQ : K.lookup fkq = some ⟨ocQ, odQ, .func (PySem.W.fnOf "__eq__" "Kind.__eq__" (defArgs s_keq) (defBody s_keq) (defScope s_keq) .none kVQ dcQ pmQ anQ cdQ ctQ), slQ⟩) (cQ : PySem.W.codeIn K cdQ "Kind.__eq__" = true) (kQ : PySem.W.keepIn K (.ref fkq) = true) (aN : PySem.W.findIn K (.ref CN) "__init__" = some (some (.ref fiN))) (iN : PySem.W.isFn K (.ref fiN) = true) (lN : K.lookup fiN = some ⟨ocN, odN, .func (PySem.W.fnOf "__init__" "Nodes.__init__" (defArgs s_ninit) (defBody s_ninit) (defScope s_ninit) .none kVN dcN pmN anN cdN ctN), slN⟩) (cN : PySem.W.codeIn K cdN "Nodes.__init__" = true) (kN : PySem.W.keepIn K (.ref fiN) = true) (mkN : PySem.W.makesIn K CN = true) (kcN : PySem.W.keepIn K (.ref CN) = true) (pn : PN K mg CN) (aNhead : PySem.W.findIn K (.ref CN) "head" = some (some (.ref fn_head))) (iNhead : PySem.W.isFn K (.ref fn_head) = true) (lNhead : K.lookup fn_head = some ⟨ocNhead, odNhead, .func (PySem.W.fnOf "head" "Nodes.head" (defArgs s_nhead) (defBody s_nhead) (defScope s_nhead) .none kVNhead dcNhead pmNhead anNhead cdNhead ctNhead), slNhead⟩) (cNhead : PySem.W.codeIn K cdNhead "Nodes.head" = true) (kNhead : PySem.W.keepIn K (.ref fn_head) = true) (aNpair : PySem.W.findIn K (.ref CN) "pair" = some (some (.ref fn_pair))) (iNpair : PySem.W.isFn K (.ref fn_pair) = true) (lNpair : K.lookup fn_pair = some ⟨ocNpair, odNpair, .func (PySem.W.fnOf "pair" "Nodes.pair" (defArgs s_npair) (defBody s_npair) (defScope s_npair) .none kVNpair dcNpair pmNpair anNpair cdNpair ctNpair), slNpair⟩) (cNpair : PySem.W.codeIn K cdNpair "Nodes.pair" = true) (kNpair : PySem.W.keepIn K (.ref fn_pair) = true) (aNletter : PySem.W.findIn K (.ref CN) "letter" = some (some (.ref fn_letter))) (iNletter : PySem.W.isFn K (.ref fn_letter) = true) (lNletter : K.lookup fn_letter = some ⟨ocNletter, odNletter, .func (PySem.W.fnOf "letter" "Nodes.letter" (defArgs s_nletter) (defBody s_nletter) (defScope s_nletter) .none kVNletter dcNletter pmNletter anNletter cdNletter ctNletter), slNletter⟩) (cNletter : PySem.W.codeIn K cdNletter "Nodes.letter" = true) (kNletter : PySem.W.keepIn K (.ref fn_letter) = true) (aNtake_in : PySem.W.findIn K (.ref CN) "take_in" = some (some (.ref fn_take_in))) (iNtake_in : PySem.W.isFn K (.ref fn_take_in) = true) (lNtake_in : K.lookup fn_take_in = some ⟨ocNtake_in, odNtake_in, .func (PySem.W.fnOf "take_in" "Nodes.take_in" (defArgs s_ntake) (defBody s_ntake) (defScope s_ntake) .none kVNtake_in dcNtake_in pmNtake_in anNtake_in cdNtake_in ctNtake_in), slNtake_in⟩) (cNtake_in : PySem.W.codeIn K cdNtake_in "Nodes.take_in" = true) (kNtake_in : PySem.W.keepIn K (.ref fn_take_in) = true) (aNunite : PySem.W.findIn K (.ref CN) "unite" = some (some (.ref fn_unite))) (iNunite : PySem.W.isFn K (.ref fn_unite) = true) (lNunite : K.lookup fn_unite = some ⟨ocNunite, odNunite, .func (PySem.W.fnOf "unite" "Nodes.unite" (defArgs s_nunite) (defBody s_nunite) (defScope s_nunite) .none kVNunite dcNunite pmNunite anNunite cdNunite ctNunite), slNunite⟩) (cNunite : PySem.W.codeIn K cdNunite "Nodes.unite" = true) (kNunite : PySem.W.keepIn K (.ref fn_unite) = true) (aNparts : PySem.W.findIn K (.ref CN) "parts" = some (some (.ref fn_parts))) (iNparts : PySem.W.isFn K (.ref fn_parts) = true) (lNparts : K.lookup fn_parts = some ⟨ocNparts, odNparts, .func (PySem.W.fnOf "parts" "Nodes.parts" (defArgs s_nparts) (defBody s_nparts) (defScope s_nparts) .none kVNparts dcNparts pmNparts anNparts cdNparts ctNparts), slNparts⟩) (cNparts : PySem.W.codeIn K cdNparts "Nodes.parts" = true) (kNparts : PySem.W.keepIn K (.ref fn_parts) = true) (aNin_order : PySem.W.findIn K (.ref CN) "in_order" = some (some (.ref fn_in_order))) (iNin_order : PySem.W.isFn K (.ref fn_in_order) = true) (lNin_order : K.lookup fn_in_order = some ⟨ocNin_order, odNin_order, .func (PySem.W.fnOf "in_order" "Nodes.in_order" (defArgs s_norder) (defBody s_norder) (defScope s_norder) .none kVNin_order dcNin_order pmNin_order anNin_order cdNin_order ctNin_order), slNin_order⟩) (cNin_order : PySem.W.codeIn K cdNin_order "Nodes.in_order" = true) (kNin_order : PySem.W.keepIn K (.ref fn_in_order) = true) (aNare_longer : PySem.W.findIn K (.ref CN) "are_longer" = some (some (.ref fn_are_longer))) (iNare_longer : PySem.W.isFn K (.ref fn_are_longer) = true) (lNare_longer : K.lookup fn_are_longer = some ⟨ocNare_longer, odNare_longer, .func (PySem.W.fnOf "are_longer" "Nodes.are_longer" (defArgs s_nlonger) (defBody s_nlonger) (defScope s_nlonger) .none kVNare_longer dcNare_longer pmNare_longer anNare_longer cdNare_longer ctNare_longer), slNare_longer⟩) (cNare_longer : PySem.W.codeIn K cdNare_longer "Nodes.are_longer" = true) (kNare_longer : PySem.W.keepIn K (.ref fn_are_longer) = true) (aNwritten : PySem.W.findIn K (.ref CN) "written" = some (some (.ref fn_written))) (iNwritten : PySem.W.isFn K (.ref fn_written) = true) (lNwritten : K.lookup fn_written = some ⟨ocNwritten, odNwritten, .func (PySem.W.fnOf "written" "Nodes.written" (defArgs s_nwritten) (defBody s_nwritten) (defScope s_nwritten) .none kVNwritten dcNwritten pmNwritten anNwritten cdNwritten ctNwritten), slNwritten⟩) (cNwritten : PySem.W.codeIn K cdNwritten "Nodes.written" = true) (kNwritten : PySem.W.keepIn K (.ref fn_written) = true) (aNkinds : PySem.W.findIn K (.ref CN) "kinds" = some (some (.ref fn_kinds))) (iNkinds : PySem.W.isFn K (.ref fn_kinds) = true) (lNkinds : K.lookup fn_kinds = some ⟨ocNkinds, odNkinds, .func (PySem.W.fnOf "kinds" "Nodes.kinds" (defArgs s_nkinds) (defBody s_nkinds) (defScope s_nkinds) .none kVNkinds dcNkinds pmNkinds anNkinds cdNkinds ctNkinds), slNkinds⟩) (cNkinds : PySem.W.codeIn K cdNkinds "Nodes.kinds" = true) (kNkinds : PySem.W.keepIn K (.ref fn_kinds) = true) 
    (B : Bt mg) (a : AllD K mg) :
    ∃ fd : FuncData, (∀ (s : Shared) (v : Value), BindsTo s fd ⟨[v], []⟩ [("_law_script", v)]) ∧ ∀ base : Heap, K.In base → base.Ns mainGlobals mg → FnOk l.prog w K mg base CX0 31 fa fd ["_law_script"] (spLaw K) := by
  have e := hfa.symm.trans (PySem.W.mg_of X G a4)
  cases e
  exact ⟨PySem.W.fnOf "law" "law" (defArgs s_law) (defBody s_law) (defScope s_law) .none kV4 dc4 pm4 an4 cd4 ct4, fun s v => .of_eq rfl, fun base _ _ => law_ok B pk ⟨mk7, a7, i7, kc7⟩ (fun_mk (st := s_kindinit) l7 c7 k7) NIK KQ aQ iQ (fun_mk (st := s_keq) lQ cQ kQ) pn ⟨mkN, aN, iN, kcN⟩ (fun_mk (st := s_ninit) lN cN kN) ⟨aNhead, iNhead, kNhead⟩ (fun_mk (st := s_nhead) lNhead cNhead kNhead) ⟨aNpair, iNpair, kNpair⟩ (fun_mk (st := s_npair) lNpair cNpair kNpair) ⟨aNletter, iNletter, kNletter⟩ (fun_mk (st := s_nletter) lNletter cNletter kNletter) ⟨aNtake_in, iNtake_in, kNtake_in⟩ (fun_mk (st := s_ntake) lNtake_in cNtake_in kNtake_in) ⟨aNunite, iNunite, kNunite⟩ (fun_mk (st := s_nunite) lNunite cNunite kNunite) ⟨aNparts, iNparts, kNparts⟩ (fun_mk (st := s_nparts) lNparts cNparts kNparts) ⟨aNin_order, iNin_order, kNin_order⟩ (fun_mk (st := s_norder) lNin_order cNin_order kNin_order) ⟨aNare_longer, iNare_longer, kNare_longer⟩ (fun_mk (st := s_nlonger) lNare_longer cNare_longer kNare_longer) ⟨aNwritten, iNwritten, kNwritten⟩ (fun_mk (st := s_nwritten) lNwritten cNwritten kNwritten) ⟨aNkinds, iNkinds, kNkinds⟩ (fun_mk (st := s_nkinds) lNkinds cNkinds kNkinds) a (fun_mk (st := s_law) l4 c4 k4)⟩
theorem walk {l : PySem.W.OpenLaw} {q : Program} {loose : List Str} {XP : (Str → Option Value) → Heap → Prop} {YP : World → Heap → Prop} {d : DefRec} {K : Params → PySem.W.Frag} (hn : l.most = some 63) (hdf : d.params.defaults = [])
    (hY : ∀ (w : World) (h : Heap), YP w h → (K w.params).In h)
    (F : ∀ (w : World) (mg : Str → Option Value) (fa : Addr) (h : Heap), (K w.params).In h → h.Ns mainGlobals mg → mg d.name = some (.ref fa) →
      ∃ fd : FuncData, (∀ (s : Shared) (u : Value), BindsTo s fd ⟨[u], []⟩ [("_law_script", u)]) ∧ ∀ base : Heap, (K w.params).In base → base.Ns mainGlobals mg → FnOk l.prog w (K w.params) mg base CX0 31 fa fd ["_law_script"] (spLaw (K w.params))) :
    PySem.W.WalkO q loose XP YP l.row.toRowW d [] (fun f vs => PySem.call f vs) :=
  L2.walk_of (n := 63) (k := 31) (x := "_law_script") (CX := fun _ => CX0) (sp := fun w => spLaw (K w.params)) hn (by decide) hdf ⟨rfl, by decide, by decide⟩ hY F (fun _ _ a ns hl _ hS => ⟨a, ns, rfl, hS, hl, fun _ => rfl⟩) fun _ _ _ _ _ z => z
end Kk
open PySem PySem.W PyProof.Rows
set_option maxRecDepth 100000 in
set_option maxHeartbeats 0 in
theorem PySem.Challenge.cw_oncekinds_k28_whole_common_kinds_holds : PySem.Challenge.rw_oncekinds_k28_whole_common_kinds.Holds := by
  w_on; o_law; k_head; (case hw => w_witness2)
  k_fill
  refine Kk.walk (l := PySem.Challenge.rw_oncekinds_k28_whole_common_kinds) rfl rfl (fun w h Y => PySem.W.kIn_of Y) ?F
  case F =>
    intro w mg fa h KX G hmg
    have b_len : mg "len" = none := by refine' PySem.W.mg_none_of KX G ?z <;> k_is
    have b_int : mg "int" = none := by refine' PySem.W.mg_none_of KX G ?z <;> k_is
    have b_bool : mg "bool" = none := by refine' PySem.W.mg_none_of KX G ?z <;> k_is
    have b_str : mg "str" = none := by refine' PySem.W.mg_none_of KX G ?z <;> k_is
    have b_abs : mg "abs" = none := by refine' PySem.W.mg_none_of KX G ?z <;> k_is
    have b_min : mg "min" = none := by refine' PySem.W.mg_none_of KX G ?z <;> k_is
    have b_max : mg "max" = none := by refine' PySem.W.mg_none_of KX G ?z <;> k_is
    have b_sum : mg "sum" = none := by refine' PySem.W.mg_none_of KX G ?z <;> k_is
    have b_list : mg "list" = none := by refine' PySem.W.mg_none_of KX G ?z <;> k_is
    have b_tuple : mg "tuple" = none := by refine' PySem.W.mg_none_of KX G ?z <;> k_is
    have b_all : mg "all" = none := by refine' PySem.W.mg_none_of KX G ?z <;> k_is
    have b_isinstance : mg "isinstance" = none := by refine' PySem.W.mg_none_of KX G ?z <;> k_is
    have b_set : mg "set" = none := by refine' PySem.W.mg_none_of KX G ?z <;> k_is
    have b_range : mg "range" = none := by refine' PySem.W.mg_none_of KX G ?z <;> k_is
    have b_enumerate : mg "enumerate" = none := by refine' PySem.W.mg_none_of KX G ?z <;> k_is
    have b_reversed : mg "reversed" = none := by refine' PySem.W.mg_none_of KX G ?z <;> k_is
    have b_zip : mg "zip" = none := by refine' PySem.W.mg_none_of KX G ?z <;> k_is
    have b_divmod : mg "divmod" = none := by refine' PySem.W.mg_none_of KX G ?z <;> k_is
    have b_dict : mg "dict" = none := by refine' PySem.W.mg_none_of KX G ?z <;> k_is
    have b_sorted : mg "sorted" = none := by refine' PySem.W.mg_none_of KX G ?z <;> k_is
    have m_INTO : ∃ t, mg "INTO" = some (.str ">" t) := by refine' Kk.glob_s KX G ?gINTO; (case gINTO => k_is)
    have m_MOST_WORDS : ∃ t, mg "MOST_WORDS" = some (.int 4000 t) := by refine' Kk.glob_i KX G ?gMOST_WORDS; (case gMOST_WORDS => k_is)
    have m_MOST_FILLED : ∃ t, mg "MOST_FILLED" = some (.int 100000 t) := by refine' Kk.glob_i KX G ?gMOST_FILLED; (case gMOST_FILLED => k_is)
    have B : Kk.Bt mg := ⟨b_len, b_int, b_bool, b_str, b_abs, b_min, b_max, b_sum, b_list, b_tuple, b_all, b_isinstance, b_set, b_range, b_enumerate, b_reversed, b_zip, b_divmod, b_dict, b_sorted, m_INTO, m_MOST_WORDS, m_MOST_FILLED⟩
    refine' Kk.law_mk KX G hmg ?a4 ?l4 ?c4 ?k4 ?a7 ?i7 ?l7 ?c7 ?k7 ?mk7 ?kc7 ⟨⟨?pg7, ?hd7, ?po7, ?sa7⟩, ?nw7, PySem.W.mg_of KX G ?aC7, ?ha7, ?hn7, ?ht7, ?hm7⟩ ⟨?nk1, ?nk2⟩ ⟨?kq1⟩ ?aQ ?iQ ?lQ ?cQ ?kQ ?aN ?iN ?lN ?cN ?kN ?mkN ?kcN ⟨⟨?pgN, ?hdN, ?poN, ?saN⟩, ?nhN, ?nlN, ?nrN, PySem.W.mg_of KX G ?aCN⟩ ?aNhead ?iNhead ?lNhead ?cNhead ?kNhead ?aNpair ?iNpair ?lNpair ?cNpair ?kNpair ?aNletter ?iNletter ?lNletter ?cNletter ?kNletter ?aNtake_in ?iNtake_in ?lNtake_in ?cNtake_in ?kNtake_in ?aNunite ?iNunite ?lNunite ?cNunite ?kNunite ?aNparts ?iNparts ?lNparts ?cNparts ?kNparts ?aNin_order ?iNin_order ?lNin_order ?cNin_order ?kNin_order ?aNare_longer ?iNare_longer ?lNare_longer ?cNare_longer ?kNare_longer ?aNwritten ?iNwritten ?lNwritten ?cNwritten ?kNwritten ?aNkinds ?iNkinds ?lNkinds ?cNkinds ?kNkinds B ⟨Kk.def_mk KX G ?a_law_draw ?l_law_draw ?c_law_draw ?k_law_draw, Kk.def_mk KX G ?a_law_pot ?l_law_pot ?c_law_pot ?k_law_pot, Kk.def_mk KX G ?amisfit_index ?lmisfit_index ?cmisfit_index ?kmisfit_index, Kk.def_mk KX G ?aends_by ?lends_by ?cends_by ?kends_by, Kk.def_mk KX G ?a_law_any ?l_law_any ?c_law_any ?k_law_any, Kk.def_mk KX G ?ais_number ?lis_number ?cis_number ?kis_number, Kk.def_mk KX G ?ais_kind_word ?lis_kind_word ?cis_kind_word ?kis_kind_word, Kk.def_mk KX G ?asides_in ?lsides_in ?csides_in ?ksides_in, Kk.def_mk KX G ?afault_index ?lfault_index ?cfault_index ?kfault_index, Kk.def_mk KX G ?a_law_shape_of ?l_law_shape_of ?c_law_shape_of ?k_law_shape_of, Kk.def_mk KX G ?a_law_kind ?l_law_kind ?c_law_kind ?k_law_kind, Kk.def_mk KX G ?akind_of ?lkind_of ?ckind_of ?kkind_of, Kk.def_mk KX G ?akind_ends ?lkind_ends ?ckind_ends ?kkind_ends, Kk.def_mk KX G ?afilling ?lfilling ?cfilling ?kfilling, Kk.def_mk KX G ?a_law_kind_ends ?l_law_kind_ends ?c_law_kind_ends ?k_law_kind_ends, Kk.def_mk KX G ?aonly_kind ?lonly_kind ?conly_kind ?konly_kind, Kk.def_mk KX G ?a_law_top ?l_law_top ?c_law_top ?k_law_top, Kk.def_mk KX G ?a_law_new ?l_law_new ?c_law_new ?k_law_new, Kk.def_mk KX G ?a_law_join ?l_law_join ?c_law_join ?k_law_join, Kk.def_mk KX G ?a_law_is_ring ?l_law_is_ring ?c_law_is_ring ?k_law_is_ring, Kk.def_mk KX G ?a_law_of_words ?l_law_of_words ?c_law_of_words ?k_law_of_words, Kk.def_mk KX G ?acommon_within ?lcommon_within ?ccommon_within ?kcommon_within, Kk.def_mk KX G ?acommon ?lcommon ?ccommon ?kcommon, Kk.def_mk KX G ?a_law_numbered ?l_law_numbered ?c_law_numbered ?k_law_numbered, Kk.def_mk KX G ?a_law_size_at ?l_law_size_at ?c_law_size_at ?k_law_size_at, Kk.def_mk KX G ?a_law_written ?l_law_written ?c_law_written ?k_law_written, Kk.def_mk KX G ?a_law_due ?l_law_due ?c_law_due ?k_law_due, Kk.def_mk KX G ?a_law_wider ?l_law_wider ?c_law_wider ?k_law_wider, Kk.def_mk KX G ?a_law_right ?l_law_right ?c_law_right ?k_law_right⟩
    (case a4 => k_is)
    (case l4 => k_is)
    (case c4 => k_is)
    (case k4 => k_is)
    (case aC7 => k_is)
    (case a7 => k_is)
    (case i7 => k_is)
    (case l7 => k_is)
    (case c7 => k_is)
    (case k7 => k_is)
    (case mk7 => k_is)
    (case kc7 => k_is)
    (case pg7 => k_is)
    (case hd7 => k_is)
    (case po7 => k_is)
    (case sa7 => k_is)
    (case nw7 => unfold L2.NoAttr; k_is)
    (case ha7 => k_is)
    (case hn7 => k_is)
    (case ht7 => k_is)
    (case hm7 => k_is)
    (case nk1 => k_is)
    (case nk2 => k_is)
    (case kq1 => k_is)
    (case aQ => k_is)
    (case iQ => k_is)
    (case lQ => k_is)
    (case cQ => k_is)
    (case kQ => k_is)
    (case aCN => k_is)
    (case aN => k_is)
    (case iN => k_is)
    (case lN => k_is)
    (case cN => k_is)
    (case kN => k_is)
    (case mkN => k_is)
    (case kcN => k_is)
    (case pgN => k_is)
    (case hdN => k_is)
    (case poN => k_is)
    (case saN => k_is)
    (case nhN => unfold L2.NoAttr; k_is)
    (case nlN => unfold L2.NoAttr; k_is)
    (case nrN => unfold L2.NoAttr; k_is)
    (case aNhead => k_is)
    (case iNhead => k_is)
    (case lNhead => k_is)
    (case cNhead => k_is)
    (case kNhead => k_is)
    (case aNpair => k_is)
    (case iNpair => k_is)
    (case lNpair => k_is)
    (case cNpair => k_is)
    (case kNpair => k_is)
    (case aNletter => k_is)
    (case iNletter => k_is)
    (case lNletter => k_is)
    (case cNletter => k_is)
    (case kNletter => k_is)
    (case aNtake_in => k_is)
    (case iNtake_in => k_is)
    (case lNtake_in => k_is)
    (case cNtake_in => k_is)
    (case kNtake_in => k_is)
    (case aNunite => k_is)
    (case iNunite => k_is)
    (case lNunite => k_is)
    (case cNunite => k_is)
    (case kNunite => k_is)
    (case aNparts => k_is)
    (case iNparts => k_is)
    (case lNparts => k_is)
    (case cNparts => k_is)
    (case kNparts => k_is)
    (case aNin_order => k_is)
    (case iNin_order => k_is)
    (case lNin_order => k_is)
    (case cNin_order => k_is)
    (case kNin_order => k_is)
    (case aNare_longer => k_is)
    (case iNare_longer => k_is)
    (case lNare_longer => k_is)
    (case cNare_longer => k_is)
    (case kNare_longer => k_is)
    (case aNwritten => k_is)
    (case iNwritten => k_is)
    (case lNwritten => k_is)
    (case cNwritten => k_is)
    (case kNwritten => k_is)
    (case aNkinds => k_is)
    (case iNkinds => k_is)
    (case lNkinds => k_is)
    (case cNkinds => k_is)
    (case kNkinds => k_is)
    (case a_law_draw => k_is); (case l_law_draw => k_is); (case c_law_draw => k_is); (case k_law_draw => k_is)
    (case a_law_pot => k_is); (case l_law_pot => k_is); (case c_law_pot => k_is); (case k_law_pot => k_is)
    (case amisfit_index => k_is); (case lmisfit_index => k_is); (case cmisfit_index => k_is); (case kmisfit_index => k_is)
    (case aends_by => k_is); (case lends_by => k_is); (case cends_by => k_is); (case kends_by => k_is)
    (case a_law_any => k_is); (case l_law_any => k_is); (case c_law_any => k_is); (case k_law_any => k_is)
    (case ais_number => k_is); (case lis_number => k_is); (case cis_number => k_is); (case kis_number => k_is)
    (case ais_kind_word => k_is); (case lis_kind_word => k_is); (case cis_kind_word => k_is); (case kis_kind_word => k_is)
    (case asides_in => k_is); (case lsides_in => k_is); (case csides_in => k_is); (case ksides_in => k_is)
    (case afault_index => k_is); (case lfault_index => k_is); (case cfault_index => k_is); (case kfault_index => k_is)
    (case a_law_shape_of => k_is); (case l_law_shape_of => k_is); (case c_law_shape_of => k_is); (case k_law_shape_of => k_is)
    (case a_law_kind => k_is); (case l_law_kind => k_is); (case c_law_kind => k_is); (case k_law_kind => k_is)
    (case akind_of => k_is); (case lkind_of => k_is); (case ckind_of => k_is); (case kkind_of => k_is)
    (case akind_ends => k_is); (case lkind_ends => k_is); (case ckind_ends => k_is); (case kkind_ends => k_is)
    (case afilling => k_is); (case lfilling => k_is); (case cfilling => k_is); (case kfilling => k_is)
    (case a_law_kind_ends => k_is); (case l_law_kind_ends => k_is); (case c_law_kind_ends => k_is); (case k_law_kind_ends => k_is)
    (case aonly_kind => k_is); (case lonly_kind => k_is); (case conly_kind => k_is); (case konly_kind => k_is)
    (case a_law_top => k_is); (case l_law_top => k_is); (case c_law_top => k_is); (case k_law_top => k_is)
    (case a_law_new => k_is); (case l_law_new => k_is); (case c_law_new => k_is); (case k_law_new => k_is)
    (case a_law_join => k_is); (case l_law_join => k_is); (case c_law_join => k_is); (case k_law_join => k_is)
    (case a_law_is_ring => k_is); (case l_law_is_ring => k_is); (case c_law_is_ring => k_is); (case k_law_is_ring => k_is)
    (case a_law_of_words => k_is); (case l_law_of_words => k_is); (case c_law_of_words => k_is); (case k_law_of_words => k_is)
    (case acommon_within => k_is); (case lcommon_within => k_is); (case ccommon_within => k_is); (case kcommon_within => k_is)
    (case acommon => k_is); (case lcommon => k_is); (case ccommon => k_is); (case kcommon => k_is)
    (case a_law_numbered => k_is); (case l_law_numbered => k_is); (case c_law_numbered => k_is); (case k_law_numbered => k_is)
    (case a_law_size_at => k_is); (case l_law_size_at => k_is); (case c_law_size_at => k_is); (case k_law_size_at => k_is)
    (case a_law_written => k_is); (case l_law_written => k_is); (case c_law_written => k_is); (case k_law_written => k_is)
    (case a_law_due => k_is); (case l_law_due => k_is); (case c_law_due => k_is); (case k_law_due => k_is)
    (case a_law_wider => k_is); (case l_law_wider => k_is); (case c_law_wider => k_is); (case k_law_wider => k_is)
    (case a_law_right => k_is); (case l_law_right => k_is); (case c_law_right => k_is); (case k_law_right => k_is)
