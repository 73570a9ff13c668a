import PyProof.Rows.All
import Wide.All
import OpenK.AllK
import Wide.FinOn
import HandS.Text
import KE.GoesMore
import HandS.ForMost
import HandS.SetKeys
import HandS.DictComp
import HandS.Codes
import HandS.IsInst
import HandS.Strs
import HandS.RevRange
import HandS.Conv
import HandS.Wide
import HandS.JoinGen
import KE.GoesEnum
import HandS.TupAny
import PyProof.SeqIndex
import PyProof.WalksMore
import PyProof.TupleIter
import HandS.ExcInit
import HandS.WordsExc
import HandS.TryOnly
import HandS.ExcOwn
import HandS.ExcIs
import PyProof.AutoSeq1
import HandS.Finally
import HandS.Iter
import PyProof.InstEq
import OpenK.KMake
import PySem.Challenge.RW_oncekinds_k01_whole_programs_are_judged
set_option Elab.async false
set_option linter.all false
set_option maxRecDepth 100000
set_option maxHeartbeats 4000000
/-! words of programs: plain mathematics -/
namespace Wd
open PySem

abbrev Nm := List Nat
def nmOk (n : Nm) : Prop := 1 ≤ n.length ∧ n.length ≤ 8 ∧ ∀ c ∈ n, 97 ≤ c ∧ c ≤ 122
inductive W where
  | ap
  | tk (n : Nm)
  | nm (n : Nm)
  deriving DecidableEq
def wOk : W → Prop
  | .ap => True
  | .tk n => nmOk n
  | .nm n => nmOk n
def code : W → List Nat
  | .ap => [64]
  | .tk n => 47 :: n
  | .nm n => n
def enc (w : W) : Str := ⟨(code w).toArray⟩
def str (n : Nm) : Str := ⟨n.toArray⟩
theorem str_inj {a b : Nm} (h : str a = str b) : a = b := by
  have := congrArg TL.tl h
  exact this
theorem tl_str (n : Nm) : TL.tl (str n) = n := rfl
theorem tl_enc (w : W) : TL.tl (enc w) = code w := rfl
theorem enc_nm (n : Nm) : enc (.nm n) = str n := rfl
theorem enc_tk (n : Nm) : enc (.tk n) = str (47 :: n) := rfl
theorem code_inj {a b : W} (ha : wOk a) (hb : wOk b) (h : code a = code b) : a = b := by
  cases a <;> cases b <;> simp [code] at h <;> try rfl
  · subst h; have := hb.2.2 64 (by simp); omega
  · subst h; rfl
  · subst h; have := hb.2.2 47 (by simp); omega
  · subst h; have := ha.2.2 64 (by simp); omega
  · subst h; have := ha.2.2 47 (by simp); omega
  · subst h; rfl
theorem enc_inj {a b : W} (ha : wOk a) (hb : wOk b) (h : enc a = enc b) : a = b :=
  code_inj ha hb (by have := congrArg TL.tl h; exact this)

/-! ### trees -/
inductive T where
  | nm (n : Nm)
  | ap (f a : T)
  | tk (n : Nm) (b : T)
namespace T
def ws : T → List W
  | .nm n => [.nm n]
  | .ap f a => .ap :: (f.ws ++ a.ws)
  | .tk n b => .tk n :: b.ws
def lv : T → List Nm
  | .nm n => [n]
  | .ap f a => f.lv ++ a.lv
  | .tk _ b => b.lv
def tks : T → List Nm
  | .nm _ => []
  | .ap f a => f.tks ++ a.tks
  | .tk n b => n :: b.tks
def sc : T → Prop
  | .nm _ => True
  | .ap f a => f.sc ∧ a.sc
  | .tk n b => n ∈ b.lv ∧ b.sc
def aps : T → Nat
  | .nm _ => 0
  | .ap f a => f.aps + a.aps + 1
  | .tk _ b => b.aps
/-- the index behind the part at i -/
def e : T → Nat → Nat
  | .nm _, _ => 1
  | .tk _ b, i => if i = 0 then 1 + b.ws.length else 1 + b.e (i - 1)
  | .ap f a, i => if i = 0 then 1 + f.ws.length + a.ws.length else if i < 1 + f.ws.length then 1 + f.e (i - 1) else 1 + f.ws.length + a.e (i - 1 - f.ws.length)
theorem pos : ∀ t : T, 0 < t.ws.length
  | .nm _ => by simp [ws]
  | .ap _ _ => by simp [ws]
  | .tk _ _ => by simp [ws]
theorem e0 : ∀ t : T, t.e 0 = t.ws.length
  | .nm _ => rfl
  | .ap f a => by simp [e, ws]; omega
  | .tk _ b => by simp [e, ws]; omega
theorem e_lt : ∀ (t : T) (i : Nat), i < t.ws.length → i < t.e i ∧ t.e i ≤ t.ws.length
  | .nm _, i, h => by simp [ws] at h; simp [e, ws]; omega
  | .tk _ b, i, h => by
    simp [ws] at h
    simp only [e, ws, List.length_cons]
    split
    · omega
    · have := e_lt b (i - 1) (by omega); omega
  | .ap f a, i, h => by
    simp [ws] at h
    simp only [e, ws, List.length_cons, List.length_append]
    split
    · omega
    · split
      · have := e_lt f (i - 1) (by omega); omega
      · have := e_lt a (i - 1 - f.ws.length) (by omega); omega
theorem get_tk {n : Nm} {b : T} {i : Nat} (h : i ≠ 0) : (T.tk n b).ws[i]? = b.ws[i - 1]? := by
  cases i with
  | zero => exact absurd rfl h
  | succ i => rfl
theorem get_ap1 {f a : T} {i : Nat} (h : i ≠ 0) (hi : i < 1 + f.ws.length) : (T.ap f a).ws[i]? = f.ws[i - 1]? := by
  cases i with
  | zero => exact absurd rfl h
  | succ i => show (f.ws ++ a.ws)[i]? = _; rw [List.getElem?_append_left (by omega)]; rfl
theorem get_ap2 {f a : T} {i : Nat} (hi : ¬ i < 1 + f.ws.length) : (T.ap f a).ws[i]? = a.ws[i - 1 - f.ws.length]? := by
  cases i with
  | zero => omega
  | succ i => show (f.ws ++ a.ws)[i]? = _; rw [List.getElem?_append_right (by omega)]; rfl
theorem e_nm : ∀ (t : T) (i : Nat) (n : Nm), t.ws[i]? = some (.nm n) → t.e i = i + 1
  | .nm _, i, n, h => by
    cases i with
    | zero => rfl
    | succ i => simp [ws] at h
  | .tk m b, i, n, h => by
    by_cases z : i = 0
    · subst z; simp [ws] at h
    · rw [get_tk z] at h
      have := e_nm b _ n h
      simp only [e]; rw [if_neg z]; omega
  | .ap f a, i, n, h => by
    by_cases z : i = 0
    · subst z; simp [ws] at h
    · by_cases y : i < 1 + f.ws.length
      · rw [get_ap1 z y] at h
        have := e_nm f _ n h
        simp only [e]; rw [if_neg z, if_pos y]; omega
      · rw [get_ap2 y] at h
        have := e_nm a _ n h
        simp only [e]; rw [if_neg z, if_neg y]; omega
theorem lt_of_get {α : Type} {l : List α} {i : Nat} {x : α} (h : l[i]? = some x) : i < l.length := (List.getElem?_eq_some_iff.mp h).1
theorem e_tk : ∀ (t : T) (i : Nat) (n : Nm), t.ws[i]? = some (.tk n) → i + 1 < t.ws.length ∧ t.e i = t.e (i + 1)
  | .nm _, i, n, h => by
    cases i with
    | zero => simp [ws] at h
    | succ i => simp [ws] at h
  | .tk m b, i, n, h => by
    by_cases z : i = 0
    · subst z
      have := pos b
      have := e0 b
      refine ⟨by simp [ws]; omega, ?_⟩
      simp [e]; omega
    · rw [get_tk z] at h
      have q := e_tk b _ n h
      have e1 : i - 1 + 1 = i := by omega
      rw [e1] at q
      refine ⟨by simp [ws]; omega, ?_⟩
      simp only [e]; rw [if_neg z, if_neg (by omega)]
      show _ = 1 + b.e i
      omega
  | .ap f a, i, n, h => by
    by_cases z : i = 0
    · subst z; simp [ws] at h
    · by_cases y : i < 1 + f.ws.length
      · rw [get_ap1 z y] at h
        have q := e_tk f _ n h
        have e1 : i - 1 + 1 = i := by omega
        rw [e1] at q
        refine ⟨by simp [ws]; omega, ?_⟩
        simp only [e]; rw [if_neg z, if_pos y, if_neg (by omega), if_pos (by omega)]
        show _ = 1 + f.e i
        omega
      · rw [get_ap2 y] at h
        have q := e_tk a _ n h
        have e1 : i - 1 - f.ws.length + 1 = i - f.ws.length := by omega
        rw [e1] at q
        refine ⟨by simp [ws]; omega, ?_⟩
        simp only [e]; rw [if_neg z, if_neg y, if_neg (by omega), if_neg (by omega)]
        have e2 : i + 1 - 1 - f.ws.length = i - f.ws.length := by omega
        rw [e2]
        omega
theorem e_ap : ∀ (t : T) (i : Nat), t.ws[i]? = some .ap → i + 1 < t.ws.length ∧ t.e (i + 1) < t.ws.length ∧ t.e i = t.e (t.e (i + 1))
  | .nm _, i, h => by
    cases i with
    | zero => simp [ws] at h
    | succ i => simp [ws] at h
  | .tk m b, i, h => by
    by_cases z : i = 0
    · subst z; simp [ws] at h
    · rw [get_tk z] at h
      have q := e_ap b _ h
      have e1 : i - 1 + 1 = i := by omega
      rw [e1] at q
      have e3 : (T.tk m b).e (i + 1) = 1 + b.e i := by simp only [e]; rw [if_neg (by omega)]; rfl
      have e4 : (T.tk m b).e (1 + b.e i) = 1 + b.e (b.e i) := by simp only [e]; rw [if_neg (by omega)]; rw [Nat.add_sub_cancel_left]
      rw [e3, e4]
      refine ⟨by simp [ws]; omega, by simp [ws]; omega, ?_⟩
      simp only [e]; rw [if_neg z]; omega
  | .ap f a, i, h => by
    by_cases z : i = 0
    · subst z
      have pf := pos f
      have pa := pos a
      have ef := e0 f
      have ea := e0 a
      have e3 : (T.ap f a).e (0 + 1) = 1 + f.ws.length := by simp only [e]; rw [if_neg (by omega), if_pos (by omega)]; simp; omega
      have e4 : (T.ap f a).e (1 + f.ws.length) = 1 + f.ws.length + a.ws.length := by
        simp only [e]; rw [if_neg (by omega), if_neg (by omega)]
        have : 1 + f.ws.length - 1 - f.ws.length = 0 := by omega
        rw [this]; omega
      rw [e3, e4]
      refine ⟨by simp [ws]; omega, by simp [ws]; omega, ?_⟩
      simp [e]
    · by_cases y : i < 1 + f.ws.length
      · rw [get_ap1 z y] at h
        have q := e_ap f _ h
        have e1 : i - 1 + 1 = i := by omega
        rw [e1] at q
        have e3 : (T.ap f a).e (i + 1) = 1 + f.e i := by simp only [e]; rw [if_neg (by omega), if_pos (by omega)]; rfl
        have e4 : (T.ap f a).e (1 + f.e i) = 1 + f.e (f.e i) := by
          simp only [e]; rw [if_neg (by omega), if_pos (by omega)]; rw [Nat.add_sub_cancel_left]
        rw [e3, e4]
        refine ⟨by simp [ws]; omega, by simp [ws]; omega, ?_⟩
        simp only [e]; rw [if_neg z, if_pos y]; omega
      · rw [get_ap2 y] at h
        have q := e_ap a _ h
        have e1 : i - 1 - f.ws.length + 1 = i - f.ws.length := by omega
        rw [e1] at q
        have e2 : i + 1 - 1 - f.ws.length = i - f.ws.length := by omega
        have e3 : (T.ap f a).e (i + 1) = 1 + f.ws.length + a.e (i - f.ws.length) := by simp only [e]; rw [if_neg (by omega), if_neg (by omega), e2]
        have e4 : (T.ap f a).e (1 + f.ws.length + a.e (i - f.ws.length)) = 1 + f.ws.length + a.e (a.e (i - f.ws.length)) := by
          simp only [e]; rw [if_neg (by omega), if_neg (by omega)]
          have : 1 + f.ws.length + a.e (i - f.ws.length) - 1 - f.ws.length = a.e (i - f.ws.length) := by omega
          rw [this]
        rw [e3, e4]
        refine ⟨by simp [ws]; omega, by simp [ws]; omega, ?_⟩
        simp only [e]; rw [if_neg z, if_neg y]; omega
/-- a name that is taken stands in the body -/
theorem used_lv : ∀ (t : T) (n : Nm), n ∈ t.lv → ∃ j : Nat, t.ws[j]? = some (W.nm n)
  | .nm m, n, h => by simp [lv] at h; subst h; exact ⟨0, rfl⟩
  | .tk m b, n, h => by
    obtain ⟨j, hj⟩ := used_lv b n h
    exact ⟨j + 1, by simpa [ws] using hj⟩
  | .ap f a, n, h => by
    rcases List.mem_append.mp h with h | h
    · obtain ⟨j, hj⟩ := used_lv f n h
      refine ⟨j + 1, ?_⟩
      rw [get_ap1 (by omega) (by have := lt_of_get hj; omega)]; simpa using hj
    · obtain ⟨j, hj⟩ := used_lv a n h
      refine ⟨1 + f.ws.length + j, ?_⟩
      rw [get_ap2 (by omega)]
      have : 1 + f.ws.length + j - 1 - f.ws.length = j := by omega
      rw [this]; exact hj
theorem used : ∀ (t : T) (i : Nat) (n : Nm), t.sc → t.ws[i]? = some (.tk n) → ∃ j : Nat, t.ws[j]? = some (W.nm n) ∧ i < j ∧ j < t.e i
  | .nm _, i, n, _, h => by
    cases i with
    | zero => simp [ws] at h
    | succ i => simp [ws] at h
  | .tk m b, i, n, s, h => by
    by_cases z : i = 0
    · subst z
      simp [ws] at h
      subst h
      obtain ⟨j, hj⟩ := used_lv b m s.1
      refine ⟨j + 1, by simpa [ws] using hj, by omega, ?_⟩
      have := lt_of_get hj
      simp [e]; omega
    · rw [get_tk z] at h
      obtain ⟨j, hj, h1, h2⟩ := used b _ n s.2 h
      refine ⟨j + 1, by simpa [ws] using hj, by omega, ?_⟩
      simp only [e]; rw [if_neg z]; omega
  | .ap f a, i, n, s, h => by
    by_cases z : i = 0
    · subst z; simp [ws] at h
    · by_cases y : i < 1 + f.ws.length
      · rw [get_ap1 z y] at h
        obtain ⟨j, hj, h1, h2⟩ := used f _ n s.1 h
        refine ⟨j + 1, ?_, by omega, ?_⟩
        · rw [get_ap1 (by omega) (by have := lt_of_get hj; omega)]; simpa using hj
        · simp only [e]; rw [if_neg z, if_pos y]; omega
      · rw [get_ap2 y] at h
        obtain ⟨j, hj, h1, h2⟩ := used a _ n s.2 h
        refine ⟨1 + f.ws.length + j, ?_, by omega, ?_⟩
        · rw [get_ap2 (by omega)]
          have : 1 + f.ws.length + j - 1 - f.ws.length = j := by omega
          rw [this]; exact hj
        · simp only [e]; rw [if_neg z, if_neg y]; omega
/-- the part at a place is a tree -/
theorem part : ∀ (t : T) (p : Nat), t.sc → p < t.ws.length → ∃ u : T, u.ws = (t.ws.drop p).take (t.e p - p) ∧ u.sc ∧ u.lv.Sublist t.lv ∧ u.tks.Sublist t.tks ∧ (∀ i, i < u.ws.length → u.e i + p = t.e (p + i))
  | .nm n, p, s, h => by
    simp [ws] at h
    subst h
    refine ⟨.nm n, rfl, s, List.Sublist.refl _, List.Sublist.refl _, fun i hi => rfl⟩
  | .tk m b, p, s, h => by
    by_cases z : p = 0
    · subst z
      refine ⟨.tk m b, ?_, s, List.Sublist.refl _, List.Sublist.refl _, fun i hi => by rw [Nat.zero_add]; rfl⟩
      rw [List.drop_zero, Nat.sub_zero, e0, List.take_length]
    · simp [ws] at h
      obtain ⟨u, h1, h2, h3, h4, h5⟩ := part b (p - 1) s.2 (by omega)
      have lt := e_lt b (p - 1) (by omega)
      refine ⟨u, ?_, h2, h3, h4.cons _, fun i hi => ?_⟩
      · rw [h1]
        obtain ⟨q, rfl⟩ : ∃ q, p = q + 1 := ⟨p - 1, by omega⟩
        show _ = (b.ws.drop q).take _
        congr 1
        simp only [e]; rw [if_neg z]; omega
      · have := h5 i hi
        simp only [e]; rw [if_neg (by omega)]
        have : p + i - 1 = p - 1 + i := by omega
        rw [this]; omega
  | .ap f a, p, s, h => by
    by_cases z : p = 0
    · subst z
      refine ⟨.ap f a, ?_, s, List.Sublist.refl _, List.Sublist.refl _, fun i hi => by rw [Nat.zero_add]; rfl⟩
      rw [List.drop_zero, Nat.sub_zero, e0, List.take_length]
    · simp [ws] at h
      by_cases y : p < 1 + f.ws.length
      · obtain ⟨u, h1, h2, h3, h4, h5⟩ := part f (p - 1) s.1 (by omega)
        have lt := e_lt f (p - 1) (by omega)
        have hul : u.ws.length = f.e (p - 1) - (p - 1) := by rw [h1, List.length_take, List.length_drop]; omega
        refine ⟨u, ?_, h2, h3.trans (List.sublist_append_left _ _), h4.trans (List.sublist_append_left _ _), fun i hi => ?_⟩
        · rw [h1]
          obtain ⟨q, rfl⟩ : ∃ q, p = q + 1 := ⟨p - 1, by omega⟩
          show _ = ((f.ws ++ a.ws).drop q).take _
          rw [List.drop_append_of_le_length (by omega), List.take_append_of_le_length]
          · congr 1
            simp only [e]; rw [if_neg z, if_pos y]; omega
          · rw [List.length_drop]
            simp only [e]; rw [if_neg z, if_pos y]
            have e1 : q + 1 - 1 = q := by omega
            rw [e1] at lt ⊢
            omega
        · have := h5 i hi
          simp only [e]; rw [if_neg (by omega), if_pos (by omega)]
          have : p + i - 1 = p - 1 + i := by omega
          rw [this]; omega
      · obtain ⟨u, h1, h2, h3, h4, h5⟩ := part a (p - 1 - f.ws.length) s.2 (by omega)
        have lt := e_lt a (p - 1 - f.ws.length) (by omega)
        refine ⟨u, ?_, h2, h3.trans (List.sublist_append_right _ _), h4.trans (List.sublist_append_right _ _), fun i hi => ?_⟩
        · rw [h1]
          obtain ⟨q, rfl⟩ : ∃ q, p = q + 1 := ⟨p - 1, by omega⟩
          show _ = ((f.ws ++ a.ws).drop q).take _
          have e1 : q + 1 - 1 - f.ws.length = q - f.ws.length := by omega
          rw [List.drop_append, List.drop_of_length_le (by omega : f.ws.length ≤ q), List.nil_append]
          rw [e1] at lt ⊢
          congr 1
          simp only [e]; rw [if_neg z, if_neg y, e1]; omega
        · have := h5 i hi
          simp only [e]; rw [if_neg (by omega), if_neg (by omega)]
          have : p + i - 1 - f.ws.length = p - 1 - f.ws.length + i := by omega
          rw [this]; omega
theorem tks_ws : ∀ t : T, t.tks = t.ws.filterMap (fun w => match w with | .tk n => some n | _ => none)
  | .nm _ => rfl
  | .tk m b => by simp only [tks, ws, List.filterMap_cons]; rw [tks_ws b]
  | .ap f a => by simp only [tks, ws, List.filterMap_cons, List.filterMap_append]; rw [tks_ws f, tks_ws a]
theorem lv_ws : ∀ t : T, t.lv = t.ws.filterMap (fun w => match w with | .nm n => some n | _ => none)
  | .nm _ => rfl
  | .tk m b => by simp only [lv, ws, List.filterMap_cons]; rw [lv_ws b]
  | .ap f a => by simp only [lv, ws, List.filterMap_cons, List.filterMap_append]; rw [lv_ws f, lv_ws a]
theorem lv_aps : ∀ t : T, t.lv.length = t.aps + 1
  | .nm _ => rfl
  | .tk m b => lv_aps b
  | .ap f a => by simp only [lv, aps, List.length_append]; rw [lv_aps f, lv_aps a]; omega
theorem aps_ws : ∀ t : T, t.aps = (t.ws.filter (fun w => decide (w = .ap))).length
  | .nm _ => rfl
  | .tk m b => by simp [aps, ws]; exact aps_ws b
  | .ap f a => by
    have h1 := aps_ws f
    have h2 := aps_ws a
    simp [aps, ws]; omega
theorem len_ws : ∀ t : T, t.ws.length = 2 * t.aps + 1 + t.tks.length
  | .nm _ => rfl
  | .tk m b => by have := len_ws b; simp [ws, aps, tks]; omega
  | .ap f a => by have := len_ws f; have := len_ws a; simp [ws, aps, tks]; omega
end T

/-! ### valid words -/
structure Vd (ws : List W) : Prop where
  tree : ∃ t : T, t.ws = ws ∧ t.sc ∧ t.lv.Nodup ∧ t.tks.Nodup
  ok : ∀ w ∈ ws, wOk w
structure IsEnds (ws : List W) (E : Nat → Nat) : Prop where
  lt : ∀ i, i < ws.length → i < E i ∧ E i ≤ ws.length
  all : E 0 = ws.length
  nm : ∀ i n, ws[i]? = some (.nm n) → E i = i + 1
  tk : ∀ i n, ws[i]? = some (.tk n) → i + 1 < ws.length ∧ E i = E (i + 1)
  ap : ∀ i, ws[i]? = some .ap → i + 1 < ws.length ∧ E (i + 1) < ws.length ∧ E i = E (E (i + 1))
theorem T.isEnds (t : T) : IsEnds t.ws t.e := ⟨t.e_lt, t.e0, t.e_nm, t.e_tk, t.e_ap⟩
/-- two such are alike -/
theorem IsEnds.uniq {ws : List W} {E F : Nat → Nat} (h : IsEnds ws E) (g : IsEnds ws F) : ∀ k i, ws.length - i = k → i < ws.length → E i = F i := by
  intro k
  induction k using Nat.strongRecOn with
  | _ k ih =>
    intro i hk hi
    cases hw : ws[i]? with
    | none => rw [List.getElem?_eq_none_iff] at hw; omega
    | some w =>
      cases w with
      | nm n => rw [h.nm i n hw, g.nm i n hw]
      | tk n =>
        obtain ⟨h1, h2⟩ := h.tk i n hw
        obtain ⟨g1, g2⟩ := g.tk i n hw
        rw [h2, g2]
        exact ih _ (by omega) (i + 1) rfl h1
      | ap =>
        obtain ⟨h1, h2, h3⟩ := h.ap i hw
        obtain ⟨g1, g2, g3⟩ := g.ap i hw
        have e1 := ih _ (by omega) (i + 1) rfl h1
        have l1 := (h.lt (i + 1) h1).1
        rw [h3, g3, ← e1]
        exact ih _ (by omega) (E (i + 1)) rfl h2
/-- the chain of ends from i on -/
def chain (E : Nat → Nat) (n : Nat) : Nat → Nat → List Nat
  | 0, _ => []
  | k + 1, i => if i < n then E i :: chain E n k (E i) else []
theorem chain_more {E : Nat → Nat} {n : Nat} (h : ∀ i, i < n → i < E i ∧ E i ≤ n) : ∀ (k j i : Nat), n - i ≤ k → n - i ≤ j → i ≤ n → chain E n k i = chain E n j i
  | 0, 0, i, _, _, _ => rfl
  | 0, j + 1, i, hk, _, hi => by
    unfold chain; rw [if_neg (by omega)]
  | k + 1, 0, i, _, hj, hi => by
    conv => lhs; unfold chain
    rw [if_neg (by omega)]; rfl
  | k + 1, j + 1, i, hk, hj, hi => by
    unfold chain
    by_cases c : i < n
    · rw [if_pos c, if_pos c, chain_more h k j (E i) (by have := h i c; omega) (by have := h i c; omega) (h i c).2]
    · rw [if_neg c, if_neg c]
def ch (E : Nat → Nat) (n i : Nat) : List Nat := chain E n n i
section
variable {ws : List W} {E : Nat → Nat}
theorem ch_end : ch E n n = [] := by
  unfold ch
  cases n with
  | zero => rfl
  | succ n => unfold chain; rw [if_neg (by omega)]
theorem ch_step (h : IsEnds ws E) {i : Nat} (hi : i < ws.length) : ch E ws.length i = E i :: ch E ws.length (E i) := by
  unfold ch
  obtain ⟨k, hk⟩ : ∃ k, ws.length = k + 1 := ⟨ws.length - 1, by omega⟩
  have l := h.lt i hi
  conv => lhs; rw [hk]; unfold chain
  rw [if_pos (by omega), ← hk, chain_more h.lt k ws.length (E i) (by omega) (by omega) l.2]
theorem ch_ne (h : IsEnds ws E) {i : Nat} (hi : i < ws.length) : 0 < (ch E ws.length i).length := by rw [ch_step h hi]; simp
theorem ch_nm (h : IsEnds ws E) {i : Nat} {n : Nm} (hw : ws[i]? = some (.nm n)) : ch E ws.length i = (i + 1) :: ch E ws.length (i + 1) := by
  rw [ch_step h (T.lt_of_get hw), h.nm i n hw]
theorem ch_tk (h : IsEnds ws E) {i : Nat} {n : Nm} (hw : ws[i]? = some (.tk n)) : ch E ws.length (i + 1) = E i :: ch E ws.length (E i) ∧ ch E ws.length i = E i :: ch E ws.length (E i) := by
  obtain ⟨h1, h2⟩ := h.tk i n hw
  exact ⟨by rw [ch_step h h1, h2], ch_step h (T.lt_of_get hw)⟩
theorem ch_ap (h : IsEnds ws E) {i : Nat} (hw : ws[i]? = some .ap) : ch E ws.length (i + 1) = E (i + 1) :: E i :: ch E ws.length (E i) ∧ ch E ws.length i = E i :: ch E ws.length (E i) := by
  obtain ⟨h1, h2, h3⟩ := h.ap i hw
  refine ⟨?_, ch_step h (T.lt_of_get hw)⟩
  rw [ch_step h h1, ch_step h h2, ← h3]
theorem ch_one (h : IsEnds ws E) (hp : 0 < ws.length) : ch E ws.length 0 = [ws.length] := by
  rw [ch_step h hp, h.all, ch_end]
end
end Wd

set_option maxHeartbeats 2000000
namespace Kk
open PySem PySem.Spec PyProof.Rows L2
/-- a def that can be called: where it stands, and what it promises -/
structure Cal (P : Program) (w : World) (K : PySem.W.Frag) (mg : Str → Option Value) (base : Heap) (x : Str) (k : Nat) (ps : List Str) (sp : Sp) : Prop where
  ex : ∃ f fd, mg x = some (.ref f) ∧ PySem.W.keepIn K (.ref f) = true ∧ Binds K fd ps [] ∧ FnOk P w K mg base CX0 k f fd ps sp
structure DefAt (K : PySem.W.Frag) (mg : Str → Option Value) (x : Str) (st : Stmt) (nm : Str := x) : Prop where
  ex : ∃ f fd, Fun K nm nm st f fd ∧ mg x = some (.ref f)
theorem Cal.imp {P w K mg base x k ps} {sp sp' : Sp} (C : Cal P w K mg base x k ps sp) (h : ∀ vs H Q E, sp' vs H Q E → sp vs H Q E) : Cal P w K mg base x k ps sp' := by
  obtain ⟨f, fd, a, b, c, d⟩ := C
  exact ⟨f, fd, a, b, c, d.imp h⟩
section
variable {P : Program} {w : World} {K : PySem.W.Frag} {mg : Str → Option Value} {base : Heap}
theorem cal_of {x nm : Str} {st : Stmt} {N ps : List Str} {k : Nat} {sp : Sp} (D : DefAt K mg x st nm) (S : FnScope N ps (defScope st))
    (hb : ∀ (kV doc pm : Value) (an : Option Addr) (cdv ct : Value) (us : List Value), us.length = ps.length → bindArgs (PySem.W.fnOf nm nm (defArgs st) (defBody st) (defScope st) .none kV doc pm an cdv ct) ⟨us, []⟩ = pure (ps.zip us))
    (len : ∀ vs H Q E, sp vs H Q E → vs.length = ps.length)
    (hbody : ∀ (f : Addr) (cdv : Value) (A : Around) (outer : List Env) (s : Shared) (H : Hp) (vs : List V) (Q : VK) (E : XK), Room k (A.deeper (envOfC nm (defScope st) s.heap.objs.size f cdv)) → sp vs H Q E →
      ∃ t, PSs (cxOf CX0 P w K mg base N nm (defScope st) f cdv A outer s H E).nox (defBody st) t ∧ t { nx := fun _ H' => Q .non H', rt := Q } (start N vs) H) : Cal P w K mg base x (k + 1) ps sp := by
  obtain ⟨f, fd, F, m⟩ := D
  exact ⟨f, fd, m, F.kp, F.binds hb, F.ok S len fun cdv A outer s H vs Q E hr h => hbody f cdv A outer s H vs Q E hr h⟩
end
section
variable {X : Cx} {e : Expr} {es : List Expr} {t : TA} {x : Str} {k : Nat} {ps : List Str} {sp : Sp} {p pos : Pos}
theorem pe_c (C : Cal X.prog X.w X.K X.mg X.base x k ps sp) (hr : Room k X.A) (ha : PA X (e :: es) t) (hg : Gl X x := by rfl) (hdb : (x == ("__debug__" : Str)) = false := by decide)
    (he : starEach (e :: es) X.env = (false, eval e X.env) :: starEach es X.env := by rfl) (hpl : (backTo pos (starEach es X.env)).any (·.1) = false := by rfl) :
    PE X (.Call (.Name x p) (e :: es) [] pos) (tCall sp [] E0 t) := by
  obtain ⟨f, fd, hm, hk, hb, F⟩ := C
  exact pe_call F hr hg hm hk hb .nil pass0 ha hdb he hpl
theorem pe_c0 (C : Cal X.prog X.w X.K X.mg X.base x k ps sp) (hr : Room k X.A) (hg : Gl X x := by rfl) (hdb : (x == ("__debug__" : Str)) = false := by decide) :
    PE X (.Call (.Name x p) [] [] pos) (tCall sp [] E0 tNil) := by
  obtain ⟨f, fd, hm, hk, hb, F⟩ := C
  exact pe_call0 F hr hg hm hk hb .nil pass0 hdb
theorem pe_gs {z : Str} (hm : ∃ t, X.mg x = some (.str z t)) (hg : Gl X x := by rfl) (hd : (x == ("__debug__" : Str)) = false := by decide) : PE X (.Name x pos) (tC (.str z)) := by
  obtain ⟨t, h⟩ := hm
  exact pe_glob hg h ⟨t, rfl⟩ hd
theorem pe_gi {i : Int} (hm : ∃ t, X.mg x = some (.int i t)) (hg : Gl X x := by rfl) (hd : (x == ("__debug__" : Str)) = false := by decide) : PE X (.Name x pos) (tC (.int i)) := by
  obtain ⟨t, h⟩ := hm
  exact pe_glob hg h ⟨t, rfl⟩ hd
theorem pe_gr {a : Addr} (hm : X.mg x = some (.ref a)) (hg : Gl X x := by rfl) (hd : (x == ("__debug__" : Str)) = false := by decide) : PE X (.Name x pos) (tC (.ref a)) := pe_glob hg hm rfl hd
theorem pe_ty {n : String} (hm : X.mg x = none) (hv : bootBuiltins x = some (.type n)) (hg : Gl X x := by rfl) (hn : x ≠ "__name__" := by decide) (hd : (x == ("__debug__" : Str)) = false := by decide) : PE X (.Name x pos) (tC (.ty n)) := pe_bltn hg hm hv rfl hn hd
end
/-- the built-in names that the text does not hide -/
structure Bt (mg : Str → Option Value) : Prop where
  b_len : mg "len" = none
  b_int : mg "int" = none
  b_bool : mg "bool" = none
  b_str : mg "str" = none
  b_abs : mg "abs" = none
  b_min : mg "min" = none
  b_max : mg "max" = none
  b_sum : mg "sum" = none
  b_list : mg "list" = none
  b_tuple : mg "tuple" = none
  b_all : mg "all" = none
  b_isinstance : mg "isinstance" = none
  b_set : mg "set" = none
  b_range : mg "range" = none
  b_enumerate : mg "enumerate" = none
  b_reversed : mg "reversed" = none
  b_zip : mg "zip" = none
  b_divmod : mg "divmod" = none
  b_dict : mg "dict" = none
  b_sorted : mg "sorted" = none
  m_INTO : ∃ t, mg "INTO" = some (.str ">" t)
  m_GIVEN : ∃ t, mg "GIVEN" = some (.str "@" t)
  m_TAKE : ∃ t, mg "TAKE" = some (.str "/" t)
  m_LETTERS : ∃ t, mg "LETTERS" = some (.str "abcdefghijklmnopqrstuvwxyz" t)
  m_MOST_LETTERS : ∃ t, mg "MOST_LETTERS" = some (.int 8 t)
  m_MOST_WORDS_programs : ∃ t, mg "MOST_WORDS_programs" = some (.int 1000 t)
  m_MOST_WORDS_kinds : ∃ t, mg "MOST_WORDS_kinds" = some (.int 4000 t)

/-! ### heaps -/
/-- all but p and g is as it was -/
def Keep (p g : Addr) (H H' : Hp) : Prop := ∀ b o, H b = some o → b ≠ p → b ≠ g → H' b = some o
theorem Keep.refl {p g : Addr} (H : Hp) : Keep p g H H := fun _ _ h _ _ => h
theorem Keep.trans {p g : Addr} {H H1 H2 : Hp} (a : Keep p g H H1) (b : Keep p g H1 H2) : Keep p g H H2 := fun c o h h1 h2 => b c o (a c o h h1 h2) h1 h2
theorem Same.keep {p g : Addr} {H H' : Hp} (a : Same H H') : Keep p g H H' := fun b o h _ _ => a b o h
theorem same_upd {H : Hp} {a : Addr} {o : HO} (h : H a = none) : Same H (upd H a o) := fun b u e => by
  rw [upd_ne (ne_of_none e h)]; exact e
theorem keep_upd {p g : Addr} {H : Hp} {o : HO} (h : True) : Keep p g H (upd H p o) := fun b u e h1 _ => by
  rw [upd_ne h1]; exact e
theorem keep_upd' {p g : Addr} {H : Hp} {o : HO} (h : True) : Keep p g H (upd H g o) := fun b u e _ h2 => by
  rw [upd_ne h2]; exact e
theorem SqL.keep {K : PySem.W.Frag} {p g a : Addr} {H H' : Hp} {xs : List V} (h : SqL K H a xs) (k : Keep p g H H') (h1 : a ≠ p) (h2 : a ≠ g) : SqL K H' a xs := by
  rcases h with (h | ⟨o, h⟩) | h
  · exact .inl (.inl (k _ _ h h1 h2))
  · exact .inl (.inr ⟨o, k _ _ h h1 h2⟩)
  · exact .inr h
theorem SqT.keep {K : PySem.W.Frag} {p g a : Addr} {H H' : Hp} {xs : List V} (h : SqT K H a xs) (k : Keep p g H H') (h1 : a ≠ p) (h2 : a ≠ g) : SqT K H' a xs := by
  rcases h with (h | ⟨o, h⟩) | h
  · exact .inl (.inl (k _ _ h h1 h2))
  · exact .inl (.inr ⟨o, k _ _ h h1 h2⟩)
  · exact .inr h
theorem SqT.same {K : PySem.W.Frag} {a : Addr} {H H' : Hp} {xs : List V} (h : SqT K H a xs) (k : Same H H') : SqT K H' a xs := by
  rcases h with (h | ⟨o, h⟩) | h
  · exact .inl (.inl (k _ _ h))
  · exact .inl (.inr ⟨o, k _ _ h⟩)
  · exact .inr h
theorem atI_int {α : Type} {xs : List α} {i : Int} {v : α} (h0 : 0 ≤ i) (h : xs[i.toNat]? = some v) : atI xs i = some v := by
  have e : i = ((i.toNat : Nat) : Int) := by omega
  rw [e]
  exact atI_nat h
theorem ixN_lt {n j : Nat} (h : j < n) : ixN n (j : Int) = some j := by
  unfold ixN
  rw [if_pos (by omega), if_pos (by omega)]
  rfl
theorem ixN_int {n : Nat} {i : Int} (h0 : 0 ≤ i) (h : i < n) : ixN n i = some i.toNat := by
  unfold ixN
  rw [if_pos h0, if_pos h]
theorem seq0 {n : Nat} (h : 0 < n) : seqIndex? 0 n = some 0 := (ixN_seq (ixN_lt (j := 0) h)).1
/-! ### the law's draws -/
structure PotAt (H : Hp) (p g s : Addr) : Prop where
  ex : ∃ (G S : List Int) (t r : Int), H p = some (.lst [.ref g, .ref s, .int t, .int r]) ∧ H g = some (.lst (G.map V.int)) ∧ H s = some (.lst (S.map V.int)) ∧ 0 < S.length
  pg : p ≠ g
  ps : p ≠ s
  gs : g ≠ s
theorem PotAt.keep {H H' : Hp} {p g s : Addr} (h : PotAt H p g s) (k : Same H H') : PotAt H' p g s := by
  obtain ⟨⟨G, S, t, r, h1, h2, h3, h4⟩, a, b, c⟩ := h
  exact ⟨⟨G, S, t, r, k _ _ h1, k _ _ h2, k _ _ h3, h4⟩, a, b, c⟩
theorem PotAt.off {H H' : Hp} {p g s : Addr} (h : PotAt H p g s) (k : ∀ b o, H b = some o → b = p ∨ b = g ∨ b = s → H' b = some o) : PotAt H' p g s := by
  obtain ⟨⟨G, S, t, r, h1, h2, h3, h4⟩, a, b, c⟩ := h
  exact ⟨⟨G, S, t, r, k _ _ h1 (.inl rfl), k _ _ h2 (.inr (.inl rfl)), k _ _ h3 (.inr (.inr rfl)), h4⟩, a, b, c⟩
def spPot (K : PySem.W.Frag) : Sp := fun vs H Q _ => ∃ (a : Addr) (ns : List Int), vs = [.ref a] ∧ SqL K H a (ns.map V.int) ∧ ns.length ≤ 63 ∧
  ∀ (H' : Hp) (p g s : Addr), PotAt H' p g s → Same H H' → H p = none → H g = none → H s = none → Q (.ref p) H'
def spDraw : Sp := fun vs H Q _ => ∃ (p g s : Addr) (m : Int), vs = [.ref p, .int m] ∧ PotAt H p g s ∧ 0 < m ∧ m.natAbs < 2 ^ 200 ∧
  ∀ (H' : Hp) (r : Int), PotAt H' p g s → Keep p g H H' → 0 ≤ r → r < m → Q (.int r) H'
end Kk

set_option maxHeartbeats 2000000
namespace Kk
open PySem PySem.Spec PyProof.Rows L2
def top (i : Nat) : Stmt := PySem.Challenge.pw_oncekinds_k01_whole_programs_are_judged.main.body.getD i (.Pass ⟨0, 0, 0, 0⟩)
abbrev s_draw : Stmt := (top 34)
theorem sc_draw : FnScope ["_law_pot_here", "_law_many", "_law_turn", "_law_number", "_law_seed"] ["_law_pot_here", "_law_many"] (defScope s_draw) := ⟨rfl, rfl, rfl, by decide +kernel, rfl, by decide +kernel, by decide +kernel⟩
theorem c_draw {P w K mg base} (B : Bt mg) (D : DefAt K mg "_law_draw" s_draw) : Cal P w K mg base "_law_draw" 1 ["_law_pot_here", "_law_many"] spDraw := by
  refine cal_of D sc_draw (fun _ _ _ _ _ _ us hl => match us, hl with | [_, _], _ => rfl) (fun vs H Q E h => ?_) (fun f cdv A outer st0 H vs Q E hr h => ?_)
  · obtain ⟨p, g, s, m, rfl, _⟩ := h
    rfl
  · obtain ⟨p, g, s, m, rfl, PA, hm, hm9, k⟩ := h
    obtain ⟨⟨G, S, t, r, h1, h2, h3, hS⟩, npg, nps, ngs⟩ := PA
    refine ⟨_, (pss_cons (ps_set (i := 2) sc_draw.nd rfl (by first | exact Or.inl rfl | exact Or.inr rfl) (pe_ix ix_list (pv 0) pe_int (fun _ _ => rfl)))
      (pss_cons (ps_asg (pe_op op_add (pv 2) pe_int) (pg_sub (pv 0) pe_int set_list))
      (pss_cons (ps_if (pt_cmpR op_gt (pe_callB call_len_seq (by rfl) B.b_len (by decide +kernel) (pa_cons (pe_ix ix_list (pv 0) pe_int (fun _ _ => rfl)) pa_nil)) pe_int (nomark _)) (pss_cons (ps_set (i := 3) sc_draw.nd rfl (by first | exact Or.inl rfl | exact Or.inr rfl) (pe_ix ix_list (pe_ix ix_list (pv 0) pe_int (fun _ _ => rfl)) pe_int (fun _ _ => rfl)))
      (pss_cons (ps_asg (pe_op op_fdivW (pv 3) (pv 1)) (pg_sub (pe_ix ix_list (pv 0) pe_int (fun _ _ => rfl)) pe_int set_list))
      (pss_cons (ps_if (pt_cmpR op_lt (pv 3) (pv 1) (nomark _)) (pss_one (ps_expr (pe_bm PySem.F.plainAttrs_list PySem.F.slot_list_pop PySem.F.type_list_pop mt_popAt (pe_ix ix_list (pv 0) pe_int (fun _ _ => rfl)) (pa_cons pe_int pa_nil)))) pss_nil)
      (pss_one (ps_ret (pe_op op_mod (pe_callTy call_int1 (by rfl) B.b_int (by decide +kernel) (pa_cons (pv 3) pa_nil)) (pv 1))))))) pss_nil)
      (pss_cons (ps_set (i := 4) sc_draw.nd rfl (by first | exact Or.inl rfl | exact Or.inr rfl) (pe_op op_add (pe_op op_add (pe_op op_mul (pe_ix ix_list (pe_ix ix_list (pv 0) pe_int (fun _ _ => rfl)) (pe_op op_mod (pe_callTy call_int1 (by rfl) B.b_int (by decide +kernel) (pa_cons (pv 2) pa_nil)) (pe_callB call_len_seq (by rfl) B.b_len (by decide +kernel) (pa_cons (pe_ix ix_list (pv 0) pe_int (fun _ _ => rfl)) pa_nil))) (fun _ _ => rfl)) pe_int) (pe_op op_mul pe_int (pv 2))) (pe_op op_mul (pe_ix ix_list (pv 0) pe_int (fun _ _ => rfl)) pe_int)))
      (pss_cons (ps_set (i := 3) sc_draw.nd rfl (by first | exact Or.inl rfl | exact Or.inr rfl) (pe_op op_mod (pe_callTy call_int1 (by rfl) B.b_int (by decide +kernel) (pa_cons (pe_op op_add (pe_op op_mul (pv 4) pe_int) pe_int) pa_nil)) pe_int))
      (pss_cons (ps_set (i := 3) sc_draw.nd rfl (by first | exact Or.inl rfl | exact Or.inr rfl) (pe_op op_mod (pe_callTy call_int1 (by rfl) B.b_int (by decide +kernel) (pa_cons (pe_op op_mul (pv 3) (pe_op op_add (pe_op op_fdivW (pv 3) pe_int) pe_int)) pa_nil)) pe_int))
      (pss_cons (ps_set (i := 3) sc_draw.nd rfl (by first | exact Or.inl rfl | exact Or.inr rfl) (pe_op op_mod (pe_callTy call_int1 (by rfl) B.b_int (by decide +kernel) (pa_cons (pe_op op_add (pe_op op_mul (pv 3) (pe_op op_add (pe_op op_fdivW (pv 3) pe_int) pe_int)) (pv 2)) pa_nil)) pe_int))
      (pss_one (ps_ret (pe_op op_mod (pe_callTy call_int1 (by rfl) B.b_int (by decide +kernel) (pa_cons (pe_op op_fdivW (pv 3) pe_int) pa_nil)) (pv 1))))))))))), ?_⟩
    -- turn = pot[2]; pot[2] = turn + 1
    refine ⟨_, rfl, p, _, _, _, rfl, rfl, SqL.of h1, rfl, ?_⟩
    refine ⟨_, rfl, _, _, rfl, rfl, _, rfl, p, _, _, _, rfl, rfl, h1, rfl, ?_⟩
    have h1' : upd H p (.lst [.ref g, .ref s, .int (t + 1), .int r]) p = some (.lst [.ref g, .ref s, .int (t + 1), .int r]) := upd_same
    have h2' : upd H p (.lst [.ref g, .ref s, .int (t + 1), .int r]) g = some (.lst (G.map V.int)) := by rw [upd_ne npg.symm]; exact h2
    have h3' : upd H p (.lst [.ref g, .ref s, .int (t + 1), .int r]) s = some (.lst (S.map V.int)) := by rw [upd_ne nps.symm]; exact h3
    have kp : Keep p g H (upd H p (.lst [.ref g, .ref s, .int (t + 1), .int r])) := keep_upd trivial
    have e0 : ([V.ref g, V.ref s, V.int t, V.int r].set 2 (V.int (t + 1))) = [.ref g, .ref s, .int (t + 1), .int r] := rfl
    show tSeq _ _ _ _ (upd H p (.lst [.ref g, .ref s, .int (t + 1), .int r]))
    generalize upd H p (.lst [.ref g, .ref s, .int (t + 1), .int r]) = H1 at *
    -- if len(pot[0]) > 0
    refine ⟨_, rfl, p, _, _, _, rfl, rfl, SqL.of h1', rfl, _, _, rfl, .inl (SqL.of h2'), _, _, rfl, rfl, _, rfl, ?_⟩
    refine ite2 (fun hc => ?_) (fun hc => ?_)
    · have hG : 0 < G.length := by
        rw [List.length_map] at hc
        have := of_decide_eq_true hc
        omega
      obtain ⟨z, G', rfl⟩ : ∃ z G', G = z :: G' := by
        cases G with
        | nil => simp at hG
        | cons z G' => exact ⟨z, G', rfl⟩
      -- number = pot[0][0]; pot[0][0] = number // many
      refine ⟨_, rfl, p, _, _, _, rfl, rfl, SqL.of h1', rfl, _, _, _, _, rfl, rfl, SqL.of h2', at_of (j := 0) rfl rfl, ?_⟩
      refine ⟨_, rfl, _, rfl, _, _, rfl, rfl, wide_div hm hm9 (by decide) (by decide), _, rfl, p, _, _, _, rfl, rfl, SqL.of h1', rfl, g, _, _, 0, rfl, rfl, h2', ixN_lt (j := 0) (by simp), ?_⟩
      have q1 : upd H1 g (.lst ((((z :: G').map V.int)).set 0 (V.int (z / m)))) p = some (.lst [.ref g, .ref s, .int (t + 1), .int r]) := by rw [upd_ne npg]; exact h1'
      have q2 : upd H1 g (.lst ((((z :: G').map V.int)).set 0 (V.int (z / m)))) g = some (.lst (((z / m) :: G').map V.int)) := upd_same
      have q3 : upd H1 g (.lst ((((z :: G').map V.int)).set 0 (V.int (z / m)))) s = some (.lst (S.map V.int)) := by rw [upd_ne ngs.symm]; exact h3'
      have kq : Keep p g H (upd H1 g (.lst ((((z :: G').map V.int)).set 0 (V.int (z / m))))) := kp.trans (keep_upd' trivial)
      show tSeq _ _ _ _ (upd H1 g (.lst ((((z :: G').map V.int)).set 0 (V.int (z / m)))))
      generalize upd H1 g (.lst ((((z :: G').map V.int)).set 0 (V.int (z / m)))) = H2 at *
      refine ⟨_, rfl, _, rfl, _, _, rfl, rfl, _, rfl, ?_⟩
      refine ite2 (fun _ => ?_) (fun _ => ?_)
      · -- pot[0].pop(0)
        refine ⟨_, rfl, p, _, _, _, rfl, rfl, SqL.of q1, rfl, .inl ⟨rfl, _, SqL.of q2⟩, g, _, 0, 0, _, rfl, rfl, q2, (by decide), (by decide), seq0 (by simp), rfl, ?_⟩
        have y1 : upd H2 g (.lst ((((z / m) :: G').map V.int).eraseIdx 0)) p = some (.lst [.ref g, .ref s, .int (t + 1), .int r]) := by rw [upd_ne npg]; exact q1
        have y2 : upd H2 g (.lst ((((z / m) :: G').map V.int).eraseIdx 0)) g = some (.lst (G'.map V.int)) := upd_same
        have y3 : upd H2 g (.lst ((((z / m) :: G').map V.int).eraseIdx 0)) s = some (.lst (S.map V.int)) := by rw [upd_ne ngs.symm]; exact q3
        refine ⟨_, rfl, .inl ⟨_, rfl, _, rfl, _, _, rfl, rfl, hm, ?_⟩⟩
        exact k _ _ ⟨⟨G', S, t + 1, r, y1, y2, y3, hS⟩, npg, nps, ngs⟩ (kq.trans (keep_upd' trivial)) (Int.emod_nonneg _ (by omega)) (Int.emod_lt_of_pos _ hm)
      · refine ⟨_, rfl, .inl ⟨_, rfl, _, rfl, _, _, rfl, rfl, hm, ?_⟩⟩
        exact k _ _ ⟨⟨(z / m) :: G', S, t + 1, r, q1, q2, q3, hS⟩, npg, nps, ngs⟩ kq (Int.emod_nonneg _ (by omega)) (Int.emod_lt_of_pos _ hm)
    · have hSl : (0 : Int) < ((S.map V.int).length : Int) := by rw [List.length_map]; omega
      have hlt : (t % ((S.map V.int).length : Int)).toNat < S.length := by
        have a1 := Int.emod_nonneg t (show ((S.map V.int).length : Int) ≠ 0 by omega)
        have a2 := Int.emod_lt_of_pos t hSl
        rw [List.length_map] at a1 a2 ⊢
        omega
      obtain ⟨sv, hat⟩ : ∃ sv, atI (S.map V.int) (t % ((S.map V.int).length : Int)) = some (V.int sv) := by
        refine ⟨S[(t % ((S.map V.int).length : Int)).toNat], ?_⟩
        refine atI_int (Int.emod_nonneg t (by omega)) ?_
        rw [List.getElem?_map, List.getElem?_eq_getElem hlt]
        rfl
      -- seed
      refine ⟨_, rfl, p, _, _, _, rfl, rfl, SqL.of h1', rfl, _, rfl, .inl ⟨_, rfl, _, rfl, p, _, _, _, rfl, rfl, SqL.of h1', rfl, _, _, rfl, .inl (SqL.of h3'), _, _, rfl, rfl, hSl, _, _, _, _, rfl, rfl, SqL.of h3', hat, ?_⟩⟩
      refine ⟨_, _, rfl, rfl, .inr ⟨by decide, by decide⟩, _, rfl, _, _, rfl, rfl, .inl ⟨by decide, by decide⟩, _, _, rfl, rfl, _, rfl, p, _, _, _, rfl, rfl, SqL.of h1', rfl, _, _, rfl, rfl, .inr ⟨by decide, by decide⟩, _, _, rfl, rfl, ?_⟩
      -- number = int(seed * 48271 + 11) % 2147483647
      refine ⟨_, rfl, _, _, rfl, rfl, .inr ⟨by decide, by decide⟩, _, _, rfl, rfl, .inl ⟨_, rfl, _, _, rfl, rfl, (show (0 : Int) < 2147483647 by decide), ?_⟩⟩
      generalize hy : ((sv * 7919 + 104729 * t + r * 31) * 48271 + 11) % 2147483647 = y1
      have y1a : 0 ≤ y1 := by rw [← hy]; exact Int.emod_nonneg _ (by decide)
      have y1b : y1 < 2147483647 := by rw [← hy]; exact Int.emod_lt_of_pos _ (by decide)
      refine ⟨_, rfl, _, rfl, _, _, rfl, rfl, wide_div (b := 30) (by decide) (by decide) (by decide) (by decide), _, _, rfl, rfl, _, _, rfl, rfl, .inl ⟨by omega, by omega⟩, .inl ⟨_, rfl, _, _, rfl, rfl, (show (0 : Int) < 2147483629 by decide), ?_⟩⟩
      generalize hy2 : (y1 * (y1 / 1009 + 69621)) % 2147483629 = y2
      have y2a : 0 ≤ y2 := by rw [← hy2]; exact Int.emod_nonneg _ (by decide)
      have y2b : y2 < 2147483629 := by rw [← hy2]; exact Int.emod_lt_of_pos _ (by decide)
      refine ⟨_, rfl, _, rfl, _, _, rfl, rfl, wide_div (b := 30) (by decide) (by decide) (by decide) (by decide), _, _, rfl, rfl, _, _, rfl, rfl, .inl ⟨by omega, by omega⟩, _, rfl, _, _, rfl, rfl, .inl ⟨_, rfl, _, _, rfl, rfl, (show (0 : Int) < 2147483399 by decide), ?_⟩⟩
      refine ⟨_, rfl, _, _, rfl, rfl, wide_div (b := 30) (by decide) (by decide) (by decide) (by decide), .inl ⟨_, rfl, _, rfl, _, _, rfl, rfl, hm, ?_⟩⟩
      exact k _ _ ⟨⟨G, S, t + 1, r, h1', h2', h3', hS⟩, npg, nps, ngs⟩ kp (Int.emod_nonneg _ (by omega)) (Int.emod_lt_of_pos _ hm)
end Kk

set_option maxHeartbeats 2000000
namespace Kk
open PySem PySem.Spec PyProof.Rows L2
theorem cut63 {ns : List Int} (h : ns.length ≤ 63) : cutV (ns.map V.int) none (some 63) = ns.map V.int := by
  have e : HT.sIx (ns.map V.int).length (ns.map V.int).length (some 63) = min 63 (ns.map V.int).length := HT.sIx_nat _ _ 63
  unfold cutV
  rw [e]
  show ((ns.map V.int).drop 0).take _ = _
  rw [List.drop_zero]
  exact List.take_of_length_le (by rw [List.length_map]; show _ ≤ min 63 ns.length - 0; omega)
theorem map_get {α : Type} {f : α → V} {l : List α} {i : Nat} {x : V} (h : (l.map f)[i]? = some x) : ∃ y, l[i]? = some y ∧ x = f y := by
  rw [List.getElem?_map] at h
  cases e : l[i]? with
  | none => rw [e] at h; cases h
  | some y => rw [e] at h; exact ⟨y, rfl, (Option.some.inj h).symm⟩
theorem small_lt {n m : Nat} (h : n ≤ m) (hm : m < 16777216) : n < sizeLine := by rw [sizeLine_eq]; omega
theorem upd_over {H H' : Hp} {D : Addr} {o u : HO} (e : H' = upd H D o) : upd H' D u = upd H D u := by rw [e]; exact upd_upd
abbrev s_pot : Stmt := (top 33)
theorem sc_pot : FnScope ["_law_script", "_law_cells", "_law_item_here", "_law_greats", "_law_smalls"] ["_law_script"] (defScope s_pot) := ⟨rfl, rfl, rfl, by decide +kernel, rfl, by decide +kernel, by decide +kernel⟩
theorem c_pot {P w K mg base} (B : Bt mg) (D : DefAt K mg "_law_pot" s_pot) : Cal P w K mg base "_law_pot" 1 ["_law_script"] (spPot K) := by
  refine cal_of D sc_pot (fun _ _ _ _ _ _ us hl => match us, hl with | [_], _ => rfl) (fun vs H Q E h => ?_) (fun f cdv A outer st0 H vs Q E hr h => ?_)
  · obtain ⟨a, ns, rfl, _⟩ := h
    rfl
  · obtain ⟨a, ns, rfl, hS, hlen, k⟩ := h
    refine ⟨_, (pss_cons (ps_setLc (i := 1) (own := [("_law_item_here", 2)]) (g := (gName 2)) (tt := tYes) rfl sc_pot.nd rfl rfl (sw_true rfl rfl rfl (by decide +kernel)) (pi_list (pe_slice sl_list (pv 0) po_none (po_some pe_int))) (blkOk_by (own := [("_law_item_here", 2)]) (N := ["_law_script", "_law_cells", "_law_item_here", "_law_greats", "_law_smalls"]) (sc := defScope s_pot) (by decide +kernel)) (fun _ _ _ _ _ => (pg_name (i := 2) sc_pot.nd rfl (by first | exact Or.inl rfl | exact Or.inr rfl))) (fun _ _ _ _ _ => pts_nil) (fun _ _ _ _ _ => (pe_callTy call_int1 (by rfl) B.b_int (by decide +kernel) (pa_cons (pv 2) pa_nil))))
      (pss_cons (ps_setLc (i := 3) (own := [("_law_item_here", 2)]) (g := (gName 2)) rfl sc_pot.nd rfl rfl (sw_true rfl rfl rfl (by decide +kernel)) (pi_list (pv 1)) (blkOk_by (own := [("_law_item_here", 2)]) (N := ["_law_script", "_law_cells", "_law_item_here", "_law_greats", "_law_smalls"]) (sc := defScope s_pot) (by decide +kernel)) (fun _ _ _ _ _ => (pg_name (i := 2) sc_pot.nd rfl (by first | exact Or.inl rfl | exact Or.inr rfl))) (fun _ _ _ _ _ => (pts_one (pt_cmpR op_ge (pe_callB call_abs (by rfl) B.b_abs (by decide +kernel) (pa_cons (pv 2) pa_nil)) (pe_op op_pow pe_int pe_int) (nomark _)))) (fun _ _ _ _ _ => (pe_callB call_abs (by rfl) B.b_abs (by decide +kernel) (pa_cons (pv 2) pa_nil))))
      (pss_cons (ps_set (i := 4) sc_pot.nd rfl (by first | exact Or.inl rfl | exact Or.inr rfl) (pe_op op_cat (pe_lc (own := [("_law_item_here", 2)]) (g := (gName 2)) rfl sc_pot.nd (pi_list (pv 1)) (blkOk_by (own := [("_law_item_here", 2)]) (N := ["_law_script", "_law_cells", "_law_item_here", "_law_greats", "_law_smalls"]) (sc := defScope s_pot) (by decide +kernel)) (fun _ _ _ _ _ => (pg_name (i := 2) sc_pot.nd rfl (by first | exact Or.inl rfl | exact Or.inr rfl))) (fun _ _ _ _ _ => (pts_one (pt_cmpR op_lt (pe_callB call_abs (by rfl) B.b_abs (by decide +kernel) (pa_cons (pv 2) pa_nil)) (pe_op op_pow pe_int pe_int) (nomark _)))) (fun _ _ _ _ _ => (pe_op op_mod (pe_callTy call_int1 (by rfl) B.b_int (by decide +kernel) (pa_cons (pv 2) pa_nil)) pe_int))) (pe_lst (pa_cons (pe_op op_add (pe_callB call_len_seq (by rfl) B.b_len (by decide +kernel) (pa_cons (pv 1) pa_nil)) pe_int) pa_nil))))
      (pss_one (ps_ret (pe_lst (pa_cons (pv 3) (pa_cons (pv 4) (pa_cons pe_int (pa_cons (pe_op op_mod (pe_callTy call_int1 (by rfl) B.b_int (by decide +kernel) (pa_cons (pe_callB (cr_sum rfl) (by rfl) B.b_sum (by decide +kernel) (pa_cons (pv 4) pa_nil)) pa_nil)) pe_int) pa_nil)))))))))), ?_⟩
    refine ⟨_, rfl, _, rfl, a, _, rfl, hS, fun p0 n0 => ?_⟩
    rw [cut63 hlen]
    have S0 : Same H (upd H p0 (.lst (ns.map V.int))) := same_upd n0
    have L0 : upd H p0 (.lst (ns.map V.int)) p0 = some (.lst (ns.map V.int)) := upd_same
    generalize upd H p0 (.lst (ns.map V.int)) = H0 at *
    refine ⟨p0, rfl, ⟨_, SqL.of L0⟩, fun D1 nD1 => lc_list (K := K) (a := p0) (xs := ns.map V.int) (fun i H' => ∃ acc : List Int, acc.length ≤ i ∧ H' = upd H0 D1 (.lst (acc.map V.int)))
      ⟨[], Nat.le_refl _, rfl⟩ (fun i H' _ ⟨_, _, e⟩ => SqL.of (by rw [e, upd_ne (ne_of_none L0 nD1)]; exact L0)) ?_ ?_⟩
    · rintro i y H' hi ⟨acc, hl, e⟩
      obtain ⟨z, hz, rfl⟩ := map_get hi
      have hi' := (List.getElem?_eq_some_iff.mp hz).1
      refine ⟨rfl, _, rfl, .inl ⟨_, rfl, ?_⟩⟩
      refine ⟨acc.map V.int, by rw [e, upd_same], by rw [List.length_map]; exact small_lt (Nat.le_trans hl (Nat.le_of_lt (Nat.lt_of_lt_of_le hi' hlen))) (by decide), acc ++ [z], by simp; omega, ?_⟩
      rw [upd_over e, List.map_append]
      rfl
    · rintro H' ⟨cs, hcl, e⟩
      rw [List.length_map] at hcl
      have S1 : Same H H' := S0.trans (by rw [e]; exact same_upd nD1)
      have L1 : H' D1 = some (.lst (cs.map V.int)) := by rw [e, upd_same]
      clear e
      refine ⟨_, rfl, D1, rfl, ⟨_, SqL.of L1⟩, fun D2 nD2 => lc_list (K := K) (a := D1) (xs := cs.map V.int) (fun i H2 => ∃ acc : List Int, acc.length ≤ i ∧ H2 = upd H' D2 (.lst (acc.map V.int)))
        ⟨[], Nat.le_refl _, rfl⟩ (fun i H2 _ ⟨_, _, e⟩ => SqL.of (by rw [e, upd_ne (ne_of_none L1 nD2)]; exact L1)) ?_ ?_⟩
      · rintro i y H2 hi ⟨acc, hl, e⟩
        obtain ⟨z, hz, rfl⟩ := map_get hi
        have hi' := (List.getElem?_eq_some_iff.mp hz).1
        refine ⟨rfl, ?_⟩
        refine ⟨_, rfl, _, rfl, _, _, rfl, rfl, ⟨by decide, by decide, by decide⟩, _, _, rfl, rfl, _, rfl, ?_⟩
        refine ite2 (fun _ => ?_) (fun _ => ?_)
        · refine ⟨_, rfl, _, rfl, ?_⟩
          refine ⟨acc.map V.int, by rw [e, upd_same], by rw [List.length_map]; exact small_lt (m := 63) (by omega) (by decide), acc ++ [if z < 0 then -z else z], by simp; omega, ?_⟩
          rw [upd_over e, List.map_append]
          rfl
        · exact ⟨acc, by omega, e⟩
      · rintro H2 ⟨gs, hgl, e⟩
        have S2 : Same H H2 := S1.trans (by rw [e]; exact same_upd nD2)
        have L12 : H2 D1 = some (.lst (cs.map V.int)) := by rw [e, upd_ne (ne_of_none L1 nD2)]; exact L1
        have L2' : H2 D2 = some (.lst (gs.map V.int)) := by rw [e, upd_same]
        have fD2 : H D2 = none := S1.free nD2
        clear e
        refine ⟨_, rfl, D1, rfl, ⟨_, SqL.of L12⟩, fun D3 nD3 => lc_list (K := K) (a := D1) (xs := cs.map V.int) (fun i H3 => ∃ acc : List Int, acc.length ≤ i ∧ H3 = upd H2 D3 (.lst (acc.map V.int)))
          ⟨[], Nat.le_refl _, rfl⟩ (fun i H3 _ ⟨_, _, e⟩ => SqL.of (by rw [e, upd_ne (ne_of_none L12 nD3)]; exact L12)) ?_ ?_⟩
        · rintro i y H3 hi ⟨acc, hl, e⟩
          obtain ⟨z, hz, rfl⟩ := map_get hi
          have hi' := (List.getElem?_eq_some_iff.mp hz).1
          refine ⟨rfl, ?_⟩
          refine ⟨_, rfl, _, rfl, _, _, rfl, rfl, ⟨by decide, by decide, by decide⟩, _, _, rfl, rfl, _, rfl, ?_⟩
          refine ite2 (fun _ => ?_) (fun _ => ?_)
          · refine ⟨_, rfl, .inl ⟨_, rfl, _, _, rfl, rfl, (show (0 : Int) < 1000000007 by decide), ?_⟩⟩
            refine ⟨acc.map V.int, by rw [e, upd_same], by rw [List.length_map]; exact small_lt (m := 63) (by omega) (by decide), acc ++ [z % 1000000007], by simp; omega, ?_⟩
            rw [upd_over e, List.map_append]
            rfl
          · exact ⟨acc, by omega, e⟩
        · rintro H3 ⟨ss, hsl, e⟩
          rw [List.length_map] at hsl
          have S3 : Same H2 H3 := by rw [e]; exact same_upd nD3
          have L3 : H3 D3 = some (.lst (ss.map V.int)) := by rw [e, upd_same]
          clear e
          -- + [len(cells) + 1]
          refine ⟨_, rfl, _, _, rfl, .inl (SqL.of (S3 _ _ L12)), _, _, rfl, rfl, (by show 1 ≤ sizeLine; decide), fun p4 n4 => ?_⟩
          have S4 : Same H3 (upd H3 p4 (.lst [V.int (((cs.map V.int).length : Nat) + 1)])) := same_upd n4
          have L4 : upd H3 p4 (.lst [V.int (((cs.map V.int).length : Nat) + 1)]) p4 = some (.lst [V.int (((cs.map V.int).length : Nat) + 1)]) := upd_same
          refine ⟨D3, p4, _, _, rfl, rfl, S4 _ _ L3, L4, by rw [List.length_map, sizeLine_eq]; simp; omega, fun p5 n5 => ?_⟩
          generalize upd H3 p4 (.lst [V.int (((cs.map V.int).length : Nat) + 1)]) = H4 at *
          have S5 : Same H4 (upd H4 p5 (.lst ((ss ++ [((cs.map V.int).length : Int) + 1]).map V.int))) := same_upd n5
          have L5 : upd H4 p5 (.lst ((ss ++ [((cs.map V.int).length : Int) + 1]).map V.int)) p5 = some (.lst ((ss ++ [((cs.map V.int).length : Int) + 1]).map V.int)) := upd_same
          have e5 : (ss.map V.int ++ [V.int (((cs.map V.int).length : Nat) + 1)]) = (ss ++ [((cs.map V.int).length : Int) + 1]).map V.int := by rw [List.map_append]; rfl
          rw [e5]
          generalize hss : ss ++ [((cs.map V.int).length : Int) + 1] = s5 at *
          have hs5 : 0 < s5.length := by rw [← hss]; simp
          generalize upd H4 p5 (.lst (s5.map V.int)) = H5 at *
          -- return [greats, smalls, 0, int(sum(smalls)) % 999983]
          refine ⟨_, rfl, _, rfl, _, rfl, _, s5, rfl, SqL.of L5, .inl ⟨_, rfl, _, _, rfl, rfl, (show (0 : Int) < 999983 by decide), (by show 4 ≤ sizeLine; decide), fun p6 n6 => ?_⟩⟩
          have S6 : Same H5 (upd H5 p6 (.lst [.ref D2, .ref p5, .int 0, .int (s5.sum % 999983)])) := same_upd n6
          have S25 : Same H2 H5 := (S3.trans S4).trans S5
          have L25 := S25 _ _ L2'
          have f5 : H p5 = none := ((S2.trans S3).trans S4).free n5
          have f6 : H p6 = none := (S2.trans S25).free n6
          refine k _ p6 D2 p5 ⟨⟨gs, s5, 0, s5.sum % 999983, upd_same, S6 _ _ L25, S6 _ _ L5, hs5⟩, ?_, ?_, ?_⟩ ((S2.trans S25).trans S6) f6 fD2 f5
          · exact (ne_of_none L25 n6).symm
          · exact (ne_of_none L5 n6).symm
          · exact ne_of_none ((S3.trans S4) _ _ L2') n5
end Kk

namespace Wd
open PySem
/-! ### the name with a number -/
def stp (s : Nat × Nm) : Nat × Nm := if 0 < s.1 then ((s.1 - 1) / 26, (97 + (s.1 - 1) % 26) :: s.2) else s
def itr : Nat → Nat × Nm → Nat × Nm
  | 0, s => s
  | k + 1, s => stp (itr k s)
def lett (n : Nat) : Nm := (itr 9 (n + 1, [])).2
def val : Nm → Nat
  | [] => 0
  | c :: l => (c - 96) * 26 ^ l.length + val l
def bd : Nat → Nat
  | 0 => 0
  | k + 1 => 26 * (bd k + 1)
structure LI (n i : Nat) (s : Nat × Nm) : Prop where
  v : val s.2 + s.1 * 26 ^ s.2.length = n
  l : s.2.length ≤ i
  c : ∀ x ∈ s.2, 97 ≤ x ∧ x ≤ 122
theorem LI.start (n : Nat) : LI n 0 (n, []) := ⟨by simp [val], Nat.le_refl _, by simp⟩
theorem LI.step {n i : Nat} {s : Nat × Nm} (h : LI n i s) : LI n (i + 1) (stp s) := by
  unfold stp
  split
  · rename_i hp
    refine ⟨?_, by have := h.l; simp; omega, ?_⟩
    · have hv := h.v
      simp only [val, List.length_cons, Nat.pow_succ]
      have e1 : 97 + (s.1 - 1) % 26 - 96 = (s.1 - 1) % 26 + 1 := by omega
      rw [e1]
      have e2 : (s.1 - 1) / 26 * (26 ^ s.2.length * 26) = (26 * ((s.1 - 1) / 26)) * 26 ^ s.2.length := by
        rw [Nat.mul_comm (26 ^ s.2.length) 26, ← Nat.mul_assoc, Nat.mul_comm ((s.1 - 1) / 26) 26]
      rw [e2]
      have e3 : ((s.1 - 1) % 26 + 1) * 26 ^ s.2.length + val s.2 + 26 * ((s.1 - 1) / 26) * 26 ^ s.2.length = val s.2 + ((s.1 - 1) % 26 + 1 + 26 * ((s.1 - 1) / 26)) * 26 ^ s.2.length := by
        rw [Nat.add_mul ((s.1 - 1) % 26 + 1)]; omega
      rw [e3]
      have e4 : (s.1 - 1) % 26 + 1 + 26 * ((s.1 - 1) / 26) = s.1 := by
        have := Nat.div_add_mod (s.1 - 1) 26
        omega
      rw [e4]; exact hv
    · intro x hx
      rcases List.mem_cons.mp hx with rfl | hx
      · have := Nat.mod_lt (s.1 - 1) (show 26 > 0 by decide); omega
      · exact h.c x hx
  · exact ⟨h.v, by have := h.l; omega, h.c⟩
theorem LI.itr (n : Nat) : ∀ i, LI n i (itr i (n, []))
  | 0 => LI.start n
  | i + 1 => (LI.itr n i).step
theorem itr_bd {n k : Nat} (h : n ≤ bd k) : ∀ i, i ≤ k → (itr i (n, [])).1 ≤ bd (k - i)
  | 0, _ => h
  | i + 1, hi => by
    have ih := itr_bd h i (by omega)
    have e : k - i = (k - (i + 1)) + 1 := by omega
    rw [e] at ih
    simp only [bd] at ih
    simp only [Wd.itr, stp]
    split
    · show ((itr i (n, [])).1 - 1) / 26 ≤ _
      omega
    · omega
theorem itr_done {n i : Nat} (h : (itr i (n, [])).1 = 0) : itr (i + 1) (n, []) = itr i (n, []) := by
  simp only [Wd.itr, stp]
  rw [h]; rfl
theorem lett_itr {n : Nat} (h : n + 1 ≤ 217180147158) : lett n = (itr 8 (n + 1, [])).2 ∧ (itr 8 (n + 1, [])).1 = 0 := by
  have b : bd 8 = 217180147158 := by decide
  have z := itr_bd (n := n + 1) (k := 8) (by rw [b]; exact h) 8 (Nat.le_refl _)
  have z0 : (itr 8 (n + 1, [])).1 = 0 := Nat.le_zero.mp z
  refine ⟨?_, z0⟩
  unfold lett
  rw [itr_done z0]
theorem lett_val {n : Nat} (h : n + 1 ≤ 217180147158) : val (lett n) = n + 1 := by
  obtain ⟨e, z⟩ := lett_itr h
  have v := (LI.itr (n + 1) 8).v
  rw [z, Nat.zero_mul, Nat.add_zero] at v
  rw [e]; exact v
theorem lett_ok {n : Nat} (h : n + 1 ≤ 217180147158) : nmOk (lett n) := by
  obtain ⟨e, z⟩ := lett_itr h
  have L := LI.itr (n + 1) 8
  refine ⟨?_, by rw [e]; exact L.l, by rw [e]; exact L.c⟩
  have v := lett_val h
  cases q : lett n with
  | nil => rw [q] at v; simp [val] at v
  | cons a l => simp
theorem lett_inj {n m : Nat} (h : n + 1 ≤ 217180147158) (g : m + 1 ≤ 217180147158) (e : lett n = lett m) : n = m := by
  have a := lett_val h
  have b := lett_val g
  rw [e] at a
  omega
theorem nodup_len {α : Type} [DecidableEq α] : ∀ {a b : List α}, a.Nodup → (∀ x ∈ a, x ∈ b) → a.length ≤ b.length
  | [], _, _, _ => Nat.zero_le _
  | x :: a, b, nd, h => by
    have hx := h x (List.mem_cons_self ..)
    have nd' := List.nodup_cons.mp nd
    have ih := nodup_len (a := a) (b := b.erase x) nd'.2 (fun y hy => by
      refine (List.mem_erase_of_ne ?_).mpr (h y (List.mem_cons_of_mem _ hy))
      rintro rfl
      exact nd'.1 hy)
    have := List.length_erase_of_mem hx
    have hp : 0 < b.length := List.length_pos_of_mem hx
    simp only [List.length_cons]
    omega
theorem pigeon {α : Type} [DecidableEq α] {l : List α} {f : Nat → α} (inj : ∀ i j, i ≤ l.length → j ≤ l.length → f i = f j → i = j) (h : ∀ i, i ≤ l.length → f i ∈ l) : False := by
  have nd : ((List.range (l.length + 1)).map f).Nodup := by
    refine List.pairwise_map.mpr ?_
    refine List.Pairwise.imp_of_mem ?_ List.nodup_range
    intro a b ha hb hne e
    exact hne (inj a b (by have := List.mem_range.mp ha; omega) (by have := List.mem_range.mp hb; omega) e)
  have := nodup_len nd (b := l) (fun x hx => by
    obtain ⟨i, hi, rfl⟩ := List.mem_map.mp hx
    exact h i (by have := List.mem_range.mp hi; omega))
  simp at this
  omega
theorem alpha (r : Nat) (h : r < 26) : (TL.tl (Str.ofString "abcdefghijklmnopqrstuvwxyz"))[r]? = some (97 + r) := by
  rw [TL.tl_ofString]
  revert r
  decide +kernel
end Wd

set_option maxHeartbeats 2000000
namespace Kk
open PySem PySem.Spec PyProof.Rows L2 Wd
abbrev sv (n : Nm) : V := .str (str n)
abbrev wv (w : W) : V := .str (enc w)
theorem str_cons (c : Nat) (n : Nm) : (⟨#[c]⟩ : Str) ++ str n = str (c :: n) := TL.ext_tl (by rw [TL.tl_append]; rfl)
theorem len_str (n : Nm) : (str n).length = n.length := by rw [TL.len_tl]; rfl
theorem flat_sv (us : List Nm) : (us.map sv).all flatV = true := by
  rw [List.all_eq_true]
  intro x hx
  obtain ⟨n, _, rfl⟩ := List.mem_map.mp hx
  rfl
theorem eq_sv (a b : Nm) : eqV (sv a) (sv b) = decide (a = b) := by
  show (str a == str b) = _
  by_cases h : a = b
  · subst h; simp
  · have h' : ¬ str a = str b := fun e => h (str_inj e)
    rw [decide_eq_false h]; exact beq_eq_false_iff_ne.mpr h'
theorem in_sv (n : Nm) (us : List Nm) : inV (sv n) (us.map sv) = decide (n ∈ us) := by
  unfold inV
  induction us with
  | nil => simp
  | cons a us ih =>
    rw [List.map_cons, List.any_cons, ih, eq_sv]
    by_cases h : a = n
    · subst h; simp
    · by_cases g : n ∈ us
      · simp [h, g]
      · simp [h, g, Ne.symm h]
def spLetters : Sp := fun vs H Q _ => ∃ n : Nat, vs = [.int (n : Int)] ∧ n + 1 ≤ 217180147158 ∧ Q (sv (lett n)) H
abbrev s_letters : Stmt := (top 36)
theorem sc_letters : FnScope ["_law_number", "_law_found", "_law_left", "_law_turn"] ["_law_number"] (defScope s_letters) := ⟨rfl, rfl, rfl, by decide +kernel, rfl, by decide +kernel, by decide +kernel⟩
theorem c_letters {P w K mg base} (B : Bt mg) (D : DefAt K mg "_law_letters" s_letters) : Cal P w K mg base "_law_letters" 1 ["_law_number"] spLetters := by
  refine cal_of D sc_letters (fun _ _ _ _ _ _ us hl => match us, hl with | [_], _ => rfl) (fun vs H Q E h => ?_) (fun f cdv A outer st0 H vs Q E hr h => ?_)
  · obtain ⟨n, rfl, _⟩ := h
    rfl
  · obtain ⟨n, rfl, hn, k⟩ := h
    refine ⟨_, (pss_cons (ps_set (i := 1) sc_letters.nd rfl (by first | exact Or.inl rfl | exact Or.inr rfl) pe_str)
      (pss_cons (ps_set (i := 2) sc_letters.nd rfl (by first | exact Or.inl rfl | exact Or.inr rfl) (pe_op op_add (pv 0) pe_int))
      (pss_cons (ps_for PassesOwn.never rfl (pi_range1 (by rfl) B.b_range (pa_cons pe_int pa_nil)) (pg_name (i := 3) sc_letters.nd rfl (by first | exact Or.inl rfl | exact Or.inr rfl)) (pss_one (ps_if (pt_cmpR op_gt (pv 2) pe_int (nomark _)) (pss_cons (ps_set (i := 2) sc_letters.nd rfl (by first | exact Or.inl rfl | exact Or.inr rfl) (pe_op op_sub (pv 2) pe_int))
      (pss_cons (ps_set (i := 1) sc_letters.nd rfl (by first | exact Or.inl rfl | exact Or.inr rfl) (pe_op op_add_str (pe_ix ix_str pe_str (pe_op op_mod (pe_callTy call_int1 (by rfl) B.b_int (by decide +kernel) (pa_cons (pv 2) pa_nil)) pe_int) (fun _ _ => rfl)) (pv 1)))
      (pss_one (ps_set (i := 2) sc_letters.nd rfl (by first | exact Or.inl rfl | exact Or.inr rfl) (pe_op op_fdiv (pv 2) pe_int))))) pss_nil)))
      (pss_one (ps_ret (pv 1)))))), ?_⟩
    refine ⟨_, rfl, _, _, rfl, rfl, 9, rfl, by decide, by decide, for_range (n := 9) (fun i σ H' => H' = H ∧ ∃ v : Option V, σ = [some (.int (n : Int)), some (sv (itr i (n + 1, [])).2), some (.int (((itr i (n + 1, [])).1 : Nat) : Int)), v])
      ⟨rfl, none, rfl⟩ ?_ ?_⟩
    · rintro i σ H' hi ⟨rfl, v, rfl⟩
      have L := LI.itr (n + 1) i
      have e : itr (i + 1) (n + 1, []) = stp (itr i (n + 1, [])) := rfl
      rw [e]
      generalize itr i (n + 1, []) = s at *
      refine ⟨_, rfl, _, _, rfl, rfl, _, rfl, ?_⟩
      refine ite2 (fun hc => ?_) (fun hc => ?_)
      · have hp : 0 < s.1 := by have := of_decide_eq_true hc; omega
        have e1 : stp s = ((s.1 - 1) / 26, (97 + (s.1 - 1) % 26) :: s.2) := if_pos hp
        have r1 : (s.1 - 1) % 26 < 26 := Nat.mod_lt _ (by decide)
        refine ⟨_, rfl, _, _, rfl, rfl, _, rfl, .inl ⟨_, rfl, _, _, rfl, rfl, (show (0 : Int) < 26 by decide), _, _, 97 + (s.1 - 1) % 26, rfl, rfl, ?_, ?_, ?_⟩⟩
        · rw [sizeLine_eq]; decide +kernel
        · refine atI_int (Int.emod_nonneg _ (by decide)) ?_
          have e2 : (((s.1 : Nat) : Int) - 1) % 26 = (((s.1 - 1) % 26 : Nat) : Int) := by omega
          rw [e2]
          exact alpha _ r1
        · refine ⟨_, rfl, _, _, rfl, rfl, ?_, ?_⟩
          · rw [len_str, sizeLine_eq]
            have := L.l
            show 1 + _ ≤ _
            omega
          · rw [str_cons]
            refine ⟨_, rfl, _, _, rfl, rfl, ⟨by decide, by decide⟩, rfl, some (.int ((0 : Int) + (i : Int))), ?_⟩
            rw [e1]
            have e3 : (((s.1 : Nat) : Int) - 1) / 26 = (((s.1 - 1) / 26 : Nat) : Int) := by omega
            show [some (V.int (n : Int)), some (sv _), some (V.int ((((s.1 : Nat) : Int) - 1) / 26)), some (V.int (0 + (i : Int)))] = _
            rw [e3]
      · have hz : ¬ 0 < s.1 := fun hp => hc (decide_eq_true (by omega))
        have e1 : stp s = s := if_neg hz
        exact ⟨rfl, some (.int ((0 : Int) + (i : Int))), by rw [e1]; rfl⟩
    · rintro σ H' ⟨rfl, v, rfl⟩
      exact ⟨_, rfl, k⟩
def spFresh : Sp := fun vs H Q _ => ∃ (p g s u : Addr) (us : List Nm), vs = [.ref p, .ref u] ∧ PotAt H p g s ∧ H u = some (.lst (us.map sv)) ∧ us.length ≤ 1100 ∧ u ≠ p ∧ u ≠ g ∧
  ∀ (H' : Hp) (n : Nm), nmOk n → n ∉ us → PotAt H' p g s → H' u = some (.lst ((us ++ [n]).map sv)) → (∀ b o, H b = some o → b ≠ p → b ≠ g → b ≠ u → H' b = some o) → Q (sv n) H'
theorem PotAt.su {H : Hp} {p g s u : Addr} (h : PotAt H p g s) {us : List Nm} (hu : H u = some (.lst (us.map sv))) : u ≠ s := by
  obtain ⟨⟨G, S, t, r, h1, h2, h3, h4⟩, _, _, _⟩ := h
  intro e
  rw [e, h3] at hu
  have := HO.lst.inj (Option.some.inj hu)
  cases S with
  | nil => simp at h4
  | cons a S => cases us <;> simp at this
theorem PotAt.wr {H : Hp} {p g s u : Addr} {o : HO} (h : PotAt H p g s) (h1 : u ≠ p) (h2 : u ≠ g) (h3 : u ≠ s) : PotAt (upd H u o) p g s :=
  h.off fun b x e hb => by
    rcases hb with rfl | rfl | rfl
    · rw [upd_ne h1.symm]; exact e
    · rw [upd_ne h2.symm]; exact e
    · rw [upd_ne h3.symm]; exact e
abbrev s_fresh : Stmt := (top 37)
theorem sc_fresh : FnScope ["_law_pot_here", "_law_used", "_law_start", "_law_name", "_law_turn"] ["_law_pot_here", "_law_used"] (defScope s_fresh) := ⟨rfl, rfl, rfl, by decide +kernel, rfl, by decide +kernel, by decide +kernel⟩
theorem c_fresh {P w K mg base} (B : Bt mg) (D : DefAt K mg "_law_fresh" s_fresh) (C_law_draw : Cal P w K mg base "_law_draw" 1 ["_law_pot_here", "_law_many"] spDraw) (C_law_letters : Cal P w K mg base "_law_letters" 1 ["_law_number"] spLetters) :
    Cal P w K mg base "_law_fresh" 2 ["_law_pot_here", "_law_used"] spFresh := by
  refine cal_of D sc_fresh (fun _ _ _ _ _ _ us hl => match us, hl with | [_, _], _ => rfl) (fun vs H Q E h => ?_) (fun f cdv A outer st0 H vs Q E hr h => ?_)
  · obtain ⟨p, g, s, u, us, rfl, _⟩ := h
    rfl
  · obtain ⟨p, g, s, u, us, rfl, PA, hu, hlen, hup, hug, k⟩ := h
    refine ⟨_, (pss_cons (ps_set (i := 2) sc_fresh.nd rfl (by first | exact Or.inl rfl | exact Or.inr rfl) (pe_c C_law_draw (hr.mono (by decide)) (pa_cons (pv 0) (pa_cons pe_int pa_nil))))
      (pss_cons (ps_if (pt_cmpR op_eq (pe_c C_law_draw (hr.mono (by decide)) (pa_cons (pv 0) (pa_cons pe_int pa_nil))) pe_int (nomark _)) (pss_one (ps_set (i := 2) sc_fresh.nd rfl (by first | exact Or.inl rfl | exact Or.inr rfl) (pe_c C_law_draw (hr.mono (by decide)) (pa_cons (pv 0) (pa_cons pe_int pa_nil))))) pss_nil)
      (pss_cons (ps_set (i := 3) sc_fresh.nd rfl (by first | exact Or.inl rfl | exact Or.inr rfl) pe_str)
      (pss_cons (ps_for PassesOwn.never rfl (pi_range1 (by rfl) B.b_range (pa_cons (pe_op op_add (pe_callB call_len_seq (by rfl) B.b_len (by decide +kernel) (pa_cons (pv 1) pa_nil)) pe_int) pa_nil)) (pg_name (i := 4) sc_fresh.nd rfl (by first | exact Or.inl rfl | exact Or.inr rfl)) (pss_cons (ps_set (i := 3) sc_fresh.nd rfl (by first | exact Or.inl rfl | exact Or.inr rfl) (pe_c C_law_letters (hr.mono (by decide)) (pa_cons (pe_op op_add (pv 2) (pv 4)) pa_nil)))
      (pss_one (ps_if (pt_cmpR op_notIn_seq (pv 3) (pv 1) (by rfl)) (pss_one ps_break) pss_nil))))
      (pss_cons (ps_expr (pe_bm PySem.F.plainAttrs_list PySem.F.slot_list_append PySem.F.type_list_append mt_append (pv 1) (pa_cons (pv 3) pa_nil)))
      (pss_one (ps_ret (pv 3)))))))), ?_⟩
    refine ⟨_, rfl, p, g, s, 30, rfl, PA, by decide, by decide, fun H1 z PA1 K1 z0 z1 => ?_⟩
    refine ⟨_, rfl, p, g, s, 2, rfl, PA1, by decide, by decide, fun H2 y PA2 K2 y0 y1 => ?_⟩
    refine ⟨rfl, _, rfl, ?_⟩
    refine ite2 (fun _ => ?ga) (fun _ => ?gb)
    case' ga =>
      refine ⟨_, rfl, p, g, s, 217180140000, rfl, PA2, by decide, by decide, fun H3 x PA3 K3 x0 x1 => ?_⟩
      have K03 : Keep p g H H3 := (K1.trans K2).trans K3
    case' gb =>
      have PA3 := PA2
      have K03 : Keep p g H H2 := K1.trans K2
      have x0 := z0
      have x1 : z < 217180140000 := by omega
      generalize H2 = H3 at *
      generalize z = x at *
    all_goals
      have hu3 := K03 _ _ hu hup hug
      obtain ⟨m, rfl⟩ : ∃ m : Nat, x = (m : Int) := ⟨x.toNat, by omega⟩
      have en : ((((us.map sv).length : Nat) : Int) + 1).toNat = us.length + 1 := by rw [List.length_map]; omega
      refine ⟨_, rfl, _, _, rfl, .inl (SqL.of hu3), _, _, rfl, rfl, _, rfl, ?_, ?_, for_range (lo := 0) (n := ((((us.map sv).length : Nat) : Int) + 1).toNat) (fun i σ H' => H' = H3 ∧ (∀ j, j < i → lett (m + j) ∈ us) ∧ ∃ (z : Str) (v : Option V), σ = [some (.ref p), some (.ref u), some (.int (m : Int)), some (.str z), v])
        ⟨rfl, fun j hj => absurd hj (Nat.not_lt_zero j), _, none, rfl⟩ ?_ ?_⟩
      · rw [List.length_map]; omega
      · rw [List.length_map]; omega
      · rintro i σ H' hi ⟨rfl, hin, zz, v, rfl⟩
        rw [en] at hi
        refine ⟨_, rfl, _, rfl, _, _, rfl, rfl, m + i, ?_, by omega, ?_⟩
        · show [V.int ((m : Int) + (0 + (i : Int)))] ++ [] = _
          have e : (m : Int) + (0 + (i : Int)) = ((m + i : Nat) : Int) := by omega
          rw [e]; rfl
        · refine ⟨_, rfl, _, rfl, u, _, rfl, .inl (SqL.of hu3), rfl, flat_sv us, ?_⟩
          rw [in_sv]
          refine ⟨_, rfl, ?_⟩
          by_cases hm : lett (m + i) ∈ us
          · rw [decide_eq_true hm]
            refine iteF ?_
            refine ⟨rfl, fun j hj => ?_, _, _, rfl⟩
            by_cases hj' : j = i
            · rw [hj']; exact hm
            · exact hin j (by omega)
          · rw [decide_eq_false hm]
            refine iteT ?_
            -- used.append(name); return name
            have hus := PA3.su hu3
            refine ⟨_, rfl, .inl ⟨rfl, _, SqL.of hu3⟩, _, rfl, u, _, _, rfl, rfl, hu3, ?_, ?_⟩
            · rw [List.length_map]; exact small_lt hlen (by decide)
            · refine ⟨_, rfl, ?_⟩
              refine k _ _ (lett_ok (by omega)) hm (PA3.wr hup hug hus) ?_ ?_
              · rw [upd_same, List.map_append]; rfl
              · intro b o hb b1 b2 b3
                rw [upd_ne b3]
                exact K03 b o hb b1 b2
      · rintro σ H' ⟨rfl, hin, _⟩
        rw [en] at hin
        refine (pigeon (l := us) (f := fun j => lett (m + j)) (fun i j hi hj e => ?_) (fun i hi => hin i (by omega))).elim
        have := lett_inj (n := m + i) (m := m + j) (by omega) (by omega) e
        omega
end Kk

namespace Wd
open PySem
/-! ### words that are drawn -/
def Fits (e : List Nm × Nat) (t : T) : Prop := t.sc ∧ t.aps = e.2 ∧ t.lv.Perm (e.1 ++ t.tks)
inductive Mt : List (List Nm × Nat) → List T → Prop where
  | nil : Mt [] []
  | cons {e S t ts} : Fits e t → Mt S ts → Mt (e :: S) (t :: ts)
def Pre (e0 : List Nm × Nat) (F : List W) (S : List (List Nm × Nat)) : Prop := ∀ ts, Mt S ts → ∃ t, t.ws = F ++ (ts.map T.ws).flatten ∧ Fits e0 t
theorem Pre.start (e : List Nm × Nat) : Pre e [] [e] := fun ts h => by
  cases h with
  | cons h1 h2 =>
    cases h2
    exact ⟨_, by simp, h1⟩
theorem Pre.nm {e0 F S} {n : Nm} (h : Pre e0 F (([n], 0) :: S)) : Pre e0 (F ++ [.nm n]) S := fun ts m => by
  obtain ⟨t, h1, h2⟩ := h (T.nm n :: ts) (.cons ⟨trivial, rfl, List.Perm.refl _⟩ m)
  exact ⟨t, by rw [h1]; simp [T.ws], h2⟩
theorem Pre.tk {e0 F S} {n : Nm} {row : List Nm} {m : Nat} (h : Pre e0 F ((row, m) :: S)) : Pre e0 (F ++ [.tk n]) ((row ++ [n], m) :: S) := fun ts mt => by
  cases mt with
  | @cons _ _ b ts h1 h2 =>
    obtain ⟨s, a, p⟩ := h1
    obtain ⟨t, h3, h4⟩ := h (T.tk n b :: ts) (.cons ⟨⟨p.mem_iff.mpr (by simp), s⟩, a, by
      show b.lv.Perm (row ++ (n :: b.tks))
      have e : row ++ [n] ++ b.tks = row ++ (n :: b.tks) := by simp
      rw [← e]; exact p⟩ h2)
    exact ⟨t, by rw [h3]; simp [T.ws], h4⟩
theorem Pre.ap {e0 F S} {row r1 r2 : List Nm} {m m1 m2 : Nat} (h : Pre e0 F ((row, m) :: S)) (hr : (r1 ++ r2).Perm row) (hm : m1 + m2 + 1 = m) : Pre e0 (F ++ [.ap]) ((r1, m1) :: (r2, m2) :: S) := fun ts mt => by
  cases mt with
  | @cons _ _ f ts h1 h2 =>
    cases h2 with
    | @cons _ _ a ts h2 h3 =>
      obtain ⟨s1, a1, p1⟩ := h1
      obtain ⟨s2, a2, p2⟩ := h2
      obtain ⟨t, h4, h5⟩ := h (T.ap f a :: ts) (.cons ⟨⟨s1, s2⟩, by show f.aps + a.aps + 1 = m; rw [a1, a2]; exact hm, by
        show (f.lv ++ a.lv).Perm (row ++ (f.tks ++ a.tks))
        refine (p1.append p2).trans ?_
        show ((r1 ++ f.tks) ++ (r2 ++ a.tks)).Perm (row ++ (f.tks ++ a.tks))
        refine List.Perm.trans ?_ (hr.append_right _)
        rw [List.append_assoc, List.append_assoc]
        refine List.Perm.append_left _ ?_
        rw [← List.append_assoc, ← List.append_assoc]
        exact List.perm_append_comm.append_right _⟩ h3)
      exact ⟨t, by rw [h4]; simp [T.ws], h5⟩
def cost (e : List Nm × Nat) : Nat := 3 * e.2 + 2 - e.1.length
def costs : List (List Nm × Nat) → Nat
  | [] => 0
  | e :: S => cost e + costs S
def takesOf (F : List W) : List Nm := F.filterMap (fun w => match w with | .tk n => some n | _ => none)
theorem takesOf_app (F G : List W) : takesOf (F ++ G) = takesOf F ++ takesOf G := by simp [takesOf]
theorem takesOf_len (F : List W) : (takesOf F).length ≤ F.length := List.length_filterMap_le _ _
/-- what is drawn: names the open names, g the givens -/
structure Gen (names : List Nm) (g : Nat) (ws : List W) : Prop where
  tree : ∃ t : T, t.ws = ws ∧ Fits (names, g) t
  nd : (names ++ takesOf ws).Nodup
  ok : ∀ n ∈ names ++ takesOf ws, nmOk n
theorem takesOf_tree (t : T) : takesOf t.ws = t.tks := (T.tks_ws t).symm
theorem mem_tks_ws {t : T} {n : Nm} (h : W.tk n ∈ t.ws) : n ∈ t.tks := by
  rw [T.tks_ws]
  exact List.mem_filterMap.mpr ⟨_, h, rfl⟩
theorem mem_lv_ws {t : T} {n : Nm} (h : W.nm n ∈ t.ws) : n ∈ t.lv := by
  rw [T.lv_ws]
  exact List.mem_filterMap.mpr ⟨_, h, rfl⟩
theorem Gen.vd {names : List Nm} {g : Nat} {ws : List W} (h : Gen names g ws) : Vd ws := by
  obtain ⟨⟨t, rfl, s, a, p⟩, nd, ok⟩ := h
  rw [takesOf_tree] at nd ok
  refine ⟨⟨t, rfl, s, p.nodup_iff.mpr nd, (List.nodup_append.mp nd).2.1⟩, fun w hw => ?_⟩
  cases w with
  | ap => trivial
  | tk n => exact ok n (List.mem_append_right _ (mem_tks_ws hw))
  | nm n => exact ok n (p.mem_iff.mp (mem_lv_ws hw))
theorem Gen.len {names : List Nm} {g : Nat} {ws : List W} (h : Gen names g ws) : ws.length + names.length = 3 * g + 2 := by
  obtain ⟨⟨t, rfl, s, a, p⟩, nd, ok⟩ := h
  have l1 := p.length_eq
  have l2 := T.lv_aps t
  have l3 := T.len_ws t
  simp at l1 a
  omega
theorem swap_perm {α : Type} (l : List α) (i j : Nat) (hi : i < l.length) (hj : j < l.length) : ((l.set i l[j]).set j l[i]).Perm l := List.set_set_perm hi hj
end Wd

set_option maxHeartbeats 2000000
namespace Kk
open PySem PySem.Spec PyProof.Rows L2 Wd
def spMixed : Sp := fun vs H Q _ => ∃ (p g s r : Addr) (xs : List V), vs = [.ref p, .ref r] ∧ PotAt H p g s ∧ H r = some (.lst xs) ∧ xs.length ≤ 2000 ∧ r ≠ p ∧ r ≠ g ∧
  ∀ (H' : Hp) (q : Addr) (ys : List V), ys.Perm xs → PotAt H' p g s → H q = none → H' q = some (.lst ys) → Keep p g H H' → Q (.ref q) H'
abbrev s_mixed : Stmt := (top 38)
theorem sc_mixed : FnScope ["_law_pot_here", "_law_items", "_law_line", "_law_at", "_law_other"] ["_law_pot_here", "_law_items"] (defScope s_mixed) := ⟨rfl, rfl, rfl, by decide +kernel, rfl, by decide +kernel, by decide +kernel⟩
theorem c_mixed {P w K mg base} (B : Bt mg) (D : DefAt K mg "_law_mixed" s_mixed) (C_law_draw : Cal P w K mg base "_law_draw" 1 ["_law_pot_here", "_law_many"] spDraw) :
    Cal P w K mg base "_law_mixed" 2 ["_law_pot_here", "_law_items"] spMixed := by
  refine cal_of D sc_mixed (fun _ _ _ _ _ _ us hl => match us, hl with | [_, _], _ => rfl) (fun vs H Q E h => ?_) (fun f cdv A outer st0 H vs Q E hr h => ?_)
  · obtain ⟨p, g, s, r, xs, rfl, _⟩ := h
    rfl
  · obtain ⟨p, g, s, r, xs, rfl, PA, hx, hlen, hrp, hrg, k⟩ := h
    refine ⟨_, (pss_cons (ps_set (i := 2) sc_mixed.nd rfl (by first | exact Or.inl rfl | exact Or.inr rfl) (pe_callTy call_list_of (by rfl) B.b_list (by decide +kernel) (pa_cons (pv 1) pa_nil)))
      (pss_cons (ps_for PassesOwn.never rfl (pi_range1 (by rfl) B.b_range (pa_cons (pe_callB call_len_seq (by rfl) B.b_len (by decide +kernel) (pa_cons (pv 2) pa_nil)) pa_nil)) (pg_name (i := 3) sc_mixed.nd rfl (by first | exact Or.inl rfl | exact Or.inr rfl)) (pss_cons (ps_set (i := 4) sc_mixed.nd rfl (by first | exact Or.inl rfl | exact Or.inr rfl) (pe_c C_law_draw (hr.mono (by decide)) (pa_cons (pv 0) (pa_cons (pe_callB call_len_seq (by rfl) B.b_len (by decide +kernel) (pa_cons (pv 2) pa_nil)) pa_nil))))
      (pss_one (ps_asg (pe_tup (pa_cons (pe_ix ix_list (pv 2) (pv 4) (fun _ _ => rfl)) (pa_cons (pe_ix ix_list (pv 2) (pv 3) (fun _ _ => rfl)) pa_nil))) (pg_tup (by rfl) (pgs_cons (pg_sub (pv 2) (pv 3) set_list) (pgs_cons (pg_sub (pv 2) (pv 4) set_list) pgs_nil)))))))
      (pss_one (ps_ret (pv 2))))), ?_⟩
    refine ⟨_, rfl, _, _, rfl, .inl (SqL.of hx), fun l nl => ?_⟩
    have S1 : Same H (upd H l (.lst xs)) := same_upd nl
    have L1 : upd H l (.lst xs) l = some (.lst xs) := upd_same
    have PA1 := PA.keep S1
    generalize upd H l (.lst xs) = H1 at *
    obtain ⟨⟨G, S, t, rr, z1, z2, z3, z4⟩, _, _, _⟩ := id PA
    have hlp : l ≠ p := (ne_of_none z1 nl).symm
    have hlg : l ≠ g := (ne_of_none z2 nl).symm
    have hls : l ≠ s := (ne_of_none z3 nl).symm
    have en : ((xs.length : Nat) : Int).toNat = xs.length := by omega
    refine ⟨_, rfl, _, _, rfl, .inl (SqL.of L1), _, rfl, ?_, ?_, for_range (lo := 0) (n := ((xs.length : Nat) : Int).toNat) (fun i σ H' => ∃ (ys : List V) (v1 v2 : Option V), σ = [some (.ref p), some (.ref r), some (.ref l), v1, v2] ∧ ys.Perm xs ∧ PotAt H' p g s ∧ H' l = some (.lst ys) ∧ Keep p g H H')
      ⟨xs, none, none, rfl, List.Perm.refl _, PA1, L1, Same.keep S1⟩ ?_ ?_⟩
    · omega
    · omega
    · rintro i σ H' hi ⟨ys, v1, v2, rfl, hp, PA2, L2', K2⟩
      rw [en] at hi
      have hyl := hp.length_eq
      have hlm : (ys.length : Int) = (xs.length : Int) := by rw [hyl]
      refine ⟨_, rfl, _, rfl, _, _, rfl, .inl (SqL.of L2'), p, g, s, _, rfl, PA2, ?_, ?_, fun H3 j PA3 K3 j0 j1 => ?_⟩
      · rw [hlm]; omega
      · rw [hlm]
        have : (2000 : Nat) < 2 ^ 200 := by decide +kernel
        omega
      · rw [hlm] at j1
        have L3 := K3 _ _ L2' hlp hlg
        have hjl : j.toNat < ys.length := by omega
        have hil : i < ys.length := by omega
        have aj : atI ys j = some ys[j.toNat] := atI_int j0 (List.getElem?_eq_getElem hjl)
        have ai : atI ys ((0 : Int) + (i : Int)) = some ys[i] := at_of (j := i) (by omega) (List.getElem?_eq_getElem hil)
        refine ⟨_, rfl, _, rfl, _, _, _, _, rfl, rfl, SqL.of L3, aj, _, rfl, _, rfl, _, _, _, _, rfl, rfl, SqL.of L3, ai, (by show 2 ≤ sizeLine; decide), fun T nT => ?_⟩
        have K4 : Keep p g H (upd H3 T (.tup [ys[j.toNat], ys[i]])) := K2.trans (K3.trans (Same.keep (same_upd nT)))
        have PA4 : PotAt (upd H3 T (.tup [ys[j.toNat], ys[i]])) p g s := PA3.keep (same_upd nT)
        have L4 : upd H3 T (.tup [ys[j.toNat], ys[i]]) l = some (.lst ys) := same_upd nT _ _ L3
        have T4 : upd H3 T (.tup [ys[j.toNat], ys[i]]) T = some (.tup [ys[j.toNat], ys[i]]) := upd_same
        generalize upd H3 T (.tup [ys[j.toNat], ys[i]]) = H4 at *
        refine ⟨T, _, rfl, SqT.of T4, rfl, _, _, rfl, ?_⟩
        refine ⟨_, rfl, _, rfl, l, _, _, i, rfl, rfl, L4, ?_, ?_⟩
        · have e : (0 : Int) + (i : Int) = (i : Int) := by omega
          rw [e]; exact ixN_lt hil
        · have L5 : upd H4 l (.lst (ys.set i ys[j.toNat])) l = some (.lst (ys.set i ys[j.toNat])) := upd_same
          refine ⟨_, _, rfl, _, rfl, _, rfl, l, _, _, j.toNat, rfl, rfl, L5, ?_, rfl, ?_⟩
          · rw [List.length_set]; exact ixN_int j0 (by omega)
          · refine ⟨(ys.set i ys[j.toNat]).set j.toNat ys[i], _, _, rfl, (swap_perm ys i j.toNat hil hjl).trans hp, (PA4.wr hlp hlg hls).wr hlp hlg hls, ?_, ?_⟩
            · exact upd_same
            · intro b o hb b1 b2
              have hbl : b ≠ l := ne_of_none hb nl
              rw [upd_ne hbl, upd_ne hbl]
              exact K4 b o hb b1 b2
    · rintro σ H' ⟨ys, v1, v2, rfl, hp, PA2, L2', K2⟩
      exact ⟨_, rfl, k _ l ys hp PA2 nl L2' K2⟩
/-- the same of names -/
def spMixedN : Sp := fun vs H Q _ => ∃ (p g s r : Addr) (xs : List Nm), vs = [.ref p, .ref r] ∧ PotAt H p g s ∧ H r = some (.lst (xs.map sv)) ∧ xs.length ≤ 2000 ∧ r ≠ p ∧ r ≠ g ∧
  ∀ (H' : Hp) (q : Addr) (ys : List Nm), ys.Perm xs → PotAt H' p g s → H q = none → H' q = some (.lst (ys.map sv)) → Keep p g H H' → Q (.ref q) H'
def svInv : V → Nm
  | .str z => TL.tl z
  | _ => []
theorem sv_back (xs : List Nm) : (xs.map sv).map svInv = xs := by
  rw [List.map_map]
  exact (List.map_congr_left (fun n _ => rfl)).trans (List.map_id _)
theorem perm_sv {ys : List V} {xs : List Nm} (h : ys.Perm (xs.map sv)) : ∃ ns : List Nm, ys = ns.map sv ∧ ns.Perm xs := by
  refine ⟨ys.map svInv, ?_, by have := h.map svInv; rwa [sv_back] at this⟩
  rw [List.map_map]
  refine ((List.map_congr_left fun y hy => ?_).trans (List.map_id _)).symm
  obtain ⟨n, _, rfl⟩ := List.mem_map.mp (h.mem_iff.mp hy)
  rfl
theorem c_mixed__N {P w K mg base} (C_law_mixed : Cal P w K mg base "_law_mixed" 2 ["_law_pot_here", "_law_items"] spMixed) : Cal P w K mg base "_law_mixed" 2 ["_law_pot_here", "_law_items"] spMixedN := by
  refine C_law_mixed.imp fun vs H Q E h => ?_
  obtain ⟨p, g, s, r, xs, rfl, P1, h1, hl, n1, n2, k⟩ := h
  refine ⟨p, g, s, r, xs.map sv, rfl, P1, h1, by rw [List.length_map]; exact hl, n1, n2, fun H' q ys hp P2 nq hq kp => ?_⟩
  obtain ⟨ns, rfl, hn⟩ := perm_sv hp
  exact k H' q ns hn P2 nq hq kp
end Kk

namespace Wd
open PySem L2
def isTk : W → Bool
  | .tk _ => true
  | _ => false
def isAp : W → Bool
  | .ap => true
  | _ => false
def isNm : W → Bool
  | .nm _ => true
  | _ => false
theorem starts_pre {x y : Str} (hy : TL.tl y ≠ []) : Txt.startswith x y = TL.pre (TL.tl y) (TL.tl x) := by
  have h := TL.at_iff (x := x) hy 0
  rw [List.drop_zero] at h
  have e : Txt.startswith x y = true ↔ PySem.StrLaws.At x y x.length 0 := by
    unfold Txt.startswith PySem.StrLaws.At
    rw [Bool.and_eq_true, decide_eq_true_eq]
  cases h1 : Txt.startswith x y with
  | true => exact (h.mp (e.mp h1)).symm
  | false =>
    cases h2 : TL.pre (TL.tl y) (TL.tl x) with
    | false => rfl
    | true => rw [e.mpr (h.mpr h2)] at h1; cases h1
theorem slash : TL.tl (Str.ofString "/") = [47] := by rw [TL.tl_ofString]; rfl
theorem at_sign : TL.tl (Str.ofString "@") = [64] := by rw [TL.tl_ofString]; rfl
theorem starts_tk {w : W} (h : wOk w) : Txt.startswith (enc w) "/" = isTk w := by
  rw [starts_pre (by rw [slash]; simp), slash, tl_enc]
  cases w with
  | ap => rfl
  | tk n => simp [code, TL.pre, isTk]
  | nm n =>
    cases n with
    | nil => rfl
    | cons c r =>
      have := h.2.2 c (by simp)
      have hc : c ≠ 47 := by omega
      simp [code, TL.pre, isTk, hc]
theorem cut1 (n : Nm) : cutS (enc (.tk n)) (some 1) none = str n := by
  apply TL.ext_tl
  unfold cutS
  rw [TL.tl_mk]
  have e1 : HT.sIx (enc (.tk n)).length 0 (some 1) = min 1 (enc (.tk n)).length := HT.sIx_nat _ _ 1
  have e2 : (enc (.tk n)).length = n.length + 1 := rfl
  rw [e1, e2, HT.sIx_none, Nat.min_eq_left (by omega)]
  show ((47 :: n).drop 1).take _ = n
  simp
theorem head1 (w : W) : cutS (enc w) none (some 1) = str ((code w).take 1) := by
  apply TL.ext_tl
  unfold cutS
  rw [TL.tl_mk]
  have e1 : HT.sIx (enc w).length (enc w).length (some 1) = min 1 (enc w).length := HT.sIx_nat _ _ 1
  rw [e1, HT.sIx_none]
  show ((code w).drop 0).take (min 1 (code w).length - 0) = (code w).take 1
  rw [List.drop_zero, Nat.sub_zero]
  cases code w <;> simp
theorem head_tk {w : W} (h : wOk w) : decide (V.str (cutS (enc w) none (some 1)) = V.str "/") = isTk w := by
  rw [head1]
  cases w with
  | ap =>
    refine decide_eq_false fun e => ?_
    have := congrArg TL.tl (V.str.inj e)
    rw [slash] at this
    simp [code, tl_str] at this
  | tk n =>
    refine decide_eq_true (congrArg V.str (TL.ext_tl ?_))
    rw [slash]; rfl
  | nm n =>
    refine decide_eq_false fun e => ?_
    have := congrArg TL.tl (V.str.inj e)
    rw [slash, tl_str] at this
    cases n with
    | nil => simp [code] at this
    | cons c r =>
      have := h.2.2 c (by simp)
      simp [code] at *
      omega
theorem is_ap {w : W} (h : wOk w) : decide (V.str (enc w) = V.str "@") = isAp w := by
  cases w with
  | ap =>
    refine decide_eq_true (congrArg V.str (TL.ext_tl ?_))
    rw [at_sign]; rfl
  | tk n =>
    refine decide_eq_false fun e => ?_
    have := congrArg TL.tl (V.str.inj e)
    rw [at_sign, tl_enc] at this
    simp [code] at this
  | nm n =>
    refine decide_eq_false fun e => ?_
    have := congrArg TL.tl (V.str.inj e)
    rw [at_sign, tl_enc] at this
    cases n with
    | nil => simp [code] at this
    | cons c r =>
      have := h.2.2 c (by simp)
      simp [code] at *
      omega
/-- what is_name tells -/
def nameB (z : Str) : Bool := decide (1 ≤ z.length) && (decide (z.length ≤ 8) && (TL.tl z).all fun c => decide (97 ≤ c ∧ c ≤ 122))
theorem nameB_ok {n : Nm} (h : nmOk n) : nameB (str n) = true := by
  unfold nameB
  have hl : (str n).length = n.length := by rw [TL.len_tl]; rfl
  rw [hl, decide_eq_true h.1, decide_eq_true h.2.1, tl_str]
  simp only [Bool.true_and, List.all_eq_true, decide_eq_true_eq]
  exact h.2.2
theorem nameB_tk (n : Nm) : nameB (enc (.tk n)) = false := by
  unfold nameB
  rw [tl_enc]
  simp [code]
theorem nameB_ap : nameB (enc .ap) = false := by
  unfold nameB
  rw [tl_enc]
  simp [code]
theorem letters (c : Nat) : decide (c ∈ (Str.ofString "abcdefghijklmnopqrstuvwxyz").cps.toList) = decide (97 ≤ c ∧ c ≤ 122) := by
  have e : (Str.ofString "abcdefghijklmnopqrstuvwxyz").cps.toList = (List.range 26).map (97 + ·) := by
    show TL.tl _ = _
    rw [TL.tl_ofString]; decide +kernel
  rw [e]
  by_cases h : 97 ≤ c ∧ c ≤ 122
  · rw [decide_eq_true h]
    refine decide_eq_true (List.mem_map.mpr ⟨c - 97, List.mem_range.mpr (by omega), by omega⟩)
  · rw [decide_eq_false h]
    refine decide_eq_false fun hm => ?_
    obtain ⟨k, hk, e⟩ := List.mem_map.mp hm
    have := List.mem_range.mp hk
    omega
end Wd

namespace PySem
open Sem (wp)
open AutoSeq1 (wpAny_loadPart')
set_option maxHeartbeats 1000000 in
theorem kk_meets_enum {v : Value} {o : Obj} {H : Heap → Prop} (B : Begins v o H) :
    Meets (Builtin.«enumerate.__new__» ⟨[.type "enumerate", v], []⟩) (fun _ R s => H s.heap ∧
      R (.ok (.ret (.ref (s.heap.push o).objs.size))) { s with heap := (s.heap.push o).push { cls := .type "enumerate", data := .fields #[.none, .bool false, .ref s.heap.objs.size, rawInt 0, .none, .none] } }) :=
  .of_wp fun prog w A R s h => by
    obtain ⟨hp, g, d, tk, os⟩ := s; obtain ⟨h1, h⟩ := h
    have hsub := sub_enumerate
    have q1 : ∀ {A' : Around} {E : Value → Shared → Prop} {Q : Value → Shared → Prop}, Q (.ref hp.objs.size) ⟨hp.push o, g, d, tk, os⟩ → wpAny (model prog w) A' (pyIter v) Q E ⟨hp, g, d, tk, os⟩ :=
      fun q => B.iter prog w _ _ ⟨hp, g, d, tk, os⟩ _ h1 q
    wp_walk using q1
    refine wpAny_stack_any fun st => wpAny_pure ?_
    split
    · rename_i c _ _ _ _ _
      cases (c == Value.type "enumerate")
      · wp_walk using q1
        exact ⟨_, rfl, h⟩
      · wp_walk using q1
        exact ⟨_, rfl, h⟩
    · wp_walk using q1
      exact ⟨_, rfl, h⟩
section
variable {prog : Program} {w : World} {A : Around} {E : Value → Shared → Prop} {s : Shared}
theorem kk_call_enum {v : Value} {o : Obj} {H : Heap → Prop} {Q : Value → Shared → Prop} (B : Begins v o H) (h1 : H s.heap)
    (h : ∀ h', IsEnum h' (s.heap.objs.size + 1) s.heap.objs.size 0 .none → h'.get? s.heap.objs.size = some o → h'.objs.size = s.heap.objs.size + 2 →
      (∀ b o, s.heap.get? b = some o → h'.get? b = some o) → Q (.ref (s.heap.objs.size + 1)) { s with heap := h' }) :
    wpAny (model prog w) A (call (.type "enumerate") [v]) Q E s := by
  refine callType_new F.called_enumerate (by decide) (F.typeCall_enumerate_1 _) (F.newCall_enumerate_1 _) (fun obj => F.args_object_init_2 obj _) F.entry_enumerate_new
    (kk_meets_enum B) ⟨h1, ?_⟩
  have hz : (s.heap.push o).objs.size = s.heap.objs.size + 1 := Heap.size_push ..
  show _ ∧ _
  rw [hz]
  have he : IsEnum ((s.heap.push o).push { cls := .type "enumerate", data := .fields #[.none, .bool false, .ref s.heap.objs.size, rawInt 0, .none, .none] }) (s.heap.objs.size + 1) s.heap.objs.size 0 .none := by
    have := Heap.get?_push_size (s.heap.push o) (o := { cls := .type "enumerate", data := .fields #[.none, .bool false, .ref s.heap.objs.size, rawInt 0, .none, .none] }) rfl
    rw [hz] at this; exact this
  refine ⟨⟨_, he, rfl⟩, h _ he (Heap.get?_push_of_some _ (Heap.get?_push_size _ B.free)) (by rw [Heap.size_push, hz]) fun b o x => Heap.get?_push_of_some _ (Heap.get?_push_of_some _ x)⟩
end
end PySem
namespace Kk
open PySem PySem.Spec PyProof.Rows L2
/-- the tuple at a, each item in a new pair -/
def IteT (K : PySem.W.Frag) (a : Addr) : It :=
  ⟨fun i H => ∃ (xs : List V) (x : V), SqT K H a xs ∧ xs[i]? = some x, fun i H v H' => ∃ T x, v = .ref T ∧ H T = none ∧ H' = upd H T (.tup [.int (i : Nat), x]) ∧ ∀ xs, SqT K H a xs → xs[i]? = some x, fun i H => ∃ xs : List V, SqT K H a xs ∧ xs.length ≤ i⟩
theorem turn_enumT {P : Program} {w : World} {K : PySem.W.Frag} {elts : List Expr} {kk : Nat} {tpos : Pos} (a e it : Addr) (hae : a ≠ e) (hai : a ≠ it) :
    Turn P w K (.Tuple elts kk tpos) (IteT K a) [e, it] e (fun i h => (∃ old, IsEnum h e it ((i : Nat) : Int) old) ∧ h.IsTupleIter it a i ∧ e ≠ it) where
  mem := by simp
  obj := fun i h st b hb => by
    obtain ⟨⟨old, he⟩, ⟨o, ho, hc, hd⟩, _⟩ := st
    have e' : b = e ∨ b = it := by simpa using hb
    rcases e' with z | z
    · rw [z]; exact ⟨_, he, fun v q => nomatch q⟩
    · rw [z]; exact ⟨o, ho, fun v q => by rw [hd] at q; cases q⟩
  keep := fun i h h' st k => let ⟨⟨old, he⟩, hi, hne⟩ := st; ⟨⟨old, k e (by simp) _ he⟩, hi.at fun o q => k it (by simp) o q, hne⟩
  item := by
    intro X hP hw hK hc i pins s σ H E I hf st hg
    subst hP hw hK
    obtain ⟨⟨old, he⟩, hit, hne⟩ := st
    obtain ⟨xs, x, hq, hx⟩ := hg
    obtain ⟨its, rv, p, hz⟩ := I.tuple hq
    obtain ⟨u, hu, ru⟩ := rv.get hx
    have hel : e < s.heap.objs.size := Heap.lt_size he
    have hil : it < s.heap.objs.size := by obtain ⟨_, q, _⟩ := hit; exact Heap.lt_size q
    have hlt : i < its.toArray.size := by
      have := (List.getElem?_eq_some_iff.mp hu).1
      simpa using this
    have D := Draws.tuple (prog := X.prog) (w := X.w) (A := X.A.in1) (I.ok.hd hc) it a hai its.toArray
    refine wpAny_pyNext_enum_itemD D he ⟨hit, p⟩ hlt hne (by simp [hne, hae.symm]) fun y h' tk hy ho hst hT hsz hk => ?_
    have ey : y = u := by
      have h2 : its[i]? = some y := by simpa using hy
      rw [hu] at h2; exact (Option.some.inj h2).symm
    subst ey
    refine ⟨_, rfl, wpAny_letOwnedTupleGo_enum (s := { s with heap := h', toks := tk + 1 }) ho fun h'' he' sb => ?_⟩
    have hT2 : h''.get? s.heap.objs.size = some { cls := .type "tuple", data := .seq #[.int i tk, y] } := (sb.2 _ (Nat.ne_of_gt hel)).trans hT
    have new : ObjOk X.prog X.w (upd H s.heap.objs.size (.tup [.int (i : Nat), x])) h'' s.heap.objs.size (.tup [.int (i : Nat), x]) :=
      ⟨by show 2 ≤ sizeLine; decide, [.int i tk, y], .cons ⟨_, rfl⟩ (.cons ru .nil), ⟨_, hT2, rfl, _, rfl⟩⟩
    have I1 : Inv X pins σ (upd H s.heap.objs.size (.tup [.int (i : Nat), x])) { s with heap := h'', toks := tk + 1 } :=
      I.turnedNew (ch := [e, it]) (fun b ob hb q => (sb.2 b (fun z => hb (by simp [z]))).trans (hk b ob (fun z => hb (by simp [z])) (fun z => hb (by simp [z])) q)) hf (Nat.le_refl _) new
    refine ⟨.ref s.heap.objs.size, _, I1, rfl, ⟨_, x, rfl, I.hok.fresh (Nat.le_refl _), rfl, fun ys hy' => by rw [I.tuple_inj hy' hq]; exact hx⟩, ⟨⟨y, ?_⟩, hst.1.at fun o q => (sb.2 it (Ne.symm hne)).trans q, hne⟩, fun b hb => ?_⟩
    · have e1 : ((i + 1 : Nat) : Int) = (i : Int) + 1 := by omega
      rw [e1]; exact he'
    · have hb' : b < s.heap.objs.size := by
        have e' : b = e ∨ b = it := by simpa using hb
        rcases e' with z | z
        · rw [z]; exact hel
        · rw [z]; exact hil
      rw [upd_ne (Nat.ne_of_lt hb')]
      exact (hf b hb).1
  done := by
    intro X hP hw hK hc i pins s σ H E I hf st hg
    subst hP hw hK
    obtain ⟨⟨old, he⟩, hit, hne⟩ := st
    obtain ⟨xs, hq, hx⟩ := hg
    obtain ⟨its, rv, p, hz⟩ := I.tuple hq
    obtain ⟨f0, f1, f2, f3, f4, f5⟩ := hf it (by simp)
    have hl := rv.length
    have hT : s.TypeIs (.ref e) "enumerate" := ⟨_, he, rfl⟩
    have D := Draws.tuple (prog := X.prog) (w := X.w) (A := X.A.in1) (I.ok.hd hc) it a hai its.toArray
    unfold pyNext
    refine wpAny_bind (wpAny_attempt (wpAny_callSpecial?_slot (name := Str.ofString "__next__") hT F.slot_enumerate_next
      (wpAny_call_entry F.slot_enumerate_next hT F.entry_enumerate_next ?_ (F.args_enumerate_next_1 _))))
    show wpAny _ _ (field (.ref e) 2 >>= _) _ _ _
    refine wpAny_bind (wpAny_field he rfl (x := .ref it) rfl ?_)
    refine wpAny_bind (wpAny_nextOf_tuple_end (I.ok.hd hc) hit p (by simp; omega) fun h' x he' hx' => ?_)
    obtain ⟨o, ho, hcs⟩ := hx'
    refine wpAny_bind (wpAny_isInstance (T := "StopIteration") (b := true) ⟨o, ho, hcs⟩ isSubtype_stop ?_)
    exact wpAny_pure ⟨rfl, I.turned (t' := s.toks) (fun b o hb q => he' b o hb q) f0 f1 f3 f4 f5⟩
  self := fun A i s Q E st h => let ⟨⟨_, he⟩, _⟩ := st; wpAny_pyIter_enum he h
def iEnumT (K : PySem.W.Frag) (ta : TA) : TI := fun σ H R => ta σ H fun vs H1 => ∃ a xs, vs = [.ref a] ∧ SqT K H1 a xs ∧ R (IteT K a) H1
theorem pi_enumT {X : Cx} {e : Expr} {ta : TA} {p pos tpos : Pos} {elts : List Expr} {kk : Nat} (hg : Gl X "enumerate") (hm : X.mg "enumerate" = none) (ha : PA X [e] ta) (hs : starEach [e] X.env = [(false, eval e X.env)] := by rfl) :
    PI X (.Tuple elts kk tpos) (.Call (.Name "enumerate" p) [e] [] pos) (iEnumT X.K ta) := by
  refine ⟨fun pins s σ H R I h => ?_⟩
  refine Call_ (ld_blt I hg hm boot_enumerate (PyProof.Rows.callWith_type1 (thn (ha.run pos pins s σ H _ I h) fun us s1 ⟨vs, H1, I1, r1, q1⟩ => ?_) hs rfl))
  obtain ⟨a, xs, ex, hq, q⟩ := q1
  subst ex
  cases r1 with
  | cons r rr =>
    cases rr
    cases r
    obtain ⟨its, rv, p', hz⟩ := I1.tuple hq
    have hal : a < s1.heap.objs.size := p'.lt
    refine kk_call_enum (begins_tuple a its.toArray) p' fun h' he hit hsz hk => wpAny_pyIter_enum he ?_
    have I2 : Inv X pins σ H1 { s1 with heap := h' } := I1.kept (t' := s1.toks) hk
    refine ⟨s1.heap.objs.size + 1, [s1.heap.objs.size + 1, s1.heap.objs.size], _, _, H1, rfl, I2, turn_enumT a (s1.heap.objs.size + 1) s1.heap.objs.size (Nat.ne_of_lt (Nat.lt_succ_of_lt hal)) (Nat.ne_of_lt hal), ⟨⟨.none, he⟩, ⟨_, hit, rfl, rfl⟩, Nat.succ_ne_self _⟩, fun b hb => ?_, q⟩
    have e' : b = s1.heap.objs.size + 1 ∨ b = s1.heap.objs.size := by simpa using hb
    have hle : s1.heap.objs.size ≤ b := by
      rcases e' with z | z
      · rw [z]; exact Nat.le_add_right _ _
      · rw [z]; exact Nat.le_refl _
    exact I1.fpOk hle (I1.hok.fresh hle)
/-- the form one uses -/
theorem for_enumT {K : PySem.W.Frag} {a : Addr} {xs : List V} {g : TG} {tb : TS} {D : Ends} {σ : L2.St} {H : Hp} (Pv : Nat → L2.St → Hp → Prop) (h0 : Pv 0 σ H) (hl : ∀ i σ H, i ≤ xs.length → Pv i σ H → SqT K H a xs)
    (hs : ∀ i x σ H T, xs[i]? = some x → Pv i σ H → H T = none → g (.ref T) σ (upd H T (.tup [.int (i : Nat), x])) fun σ2 H2 => tb { D with nx := Pv (i + 1), ct := Pv (i + 1), bk := D.nx } σ2 H2) (hd : ∀ σ H, Pv xs.length σ H → D.nx σ H) :
    ∃ W : Nat → Nat → L2.St → Hp → Prop, (∃ m, W 0 m σ H) ∧ ∀ i m σ H, W i m σ H →
      ((IteT K a).stop i H ∧ D.nx σ H) ∨ ((IteT K a).go i H ∧ ∃ N : L2.St → Hp → Prop, (∀ σ' H', N σ' H' → ∃ m', m' < m ∧ W (i + 1) m' σ' H') ∧ ∀ x H', (IteT K a).yld i H x H' → g x σ H' fun σ2 H2 => tb { D with nx := N, ct := N, bk := D.nx } σ2 H2) := by
  refine ⟨fun i m σ H => m = xs.length - i ∧ i ≤ xs.length ∧ Pv i σ H, ⟨xs.length, by simp, Nat.zero_le _, h0⟩, ?_⟩
  rintro i m σ H ⟨rfl, hi, p⟩
  have q := hl i σ H hi p
  by_cases hlt : i < xs.length
  · refine .inr ⟨⟨xs, xs[i], q, by simp [hlt]⟩, Pv (i + 1), fun σ' H' p' => ⟨xs.length - (i + 1), by omega, rfl, hlt, p'⟩, fun x H' y => ?_⟩
    obtain ⟨T, z, rfl, hT, rfl, hz⟩ := y
    exact hs i z σ H T (hz xs q) p hT
  · have e : i = xs.length := by omega
    subst e
    exact .inl ⟨⟨xs, q, Nat.le_refl _⟩, hd σ H p⟩
end Kk

/-! a set made of a list of texts -/
namespace Kk
open PySem PySem.Spec PyProof.Rows L2
section
variable {prog : Program} {w : World} {A : Around} {R : Result → Shared → Prop} {I : Addr} {fp wr : List Addr} {G : Array GenState → Array GenState → Prop} {n : Nat} {P : Nat → Value → Prop} {St : Nat → Shared → Prop}
/-- at a: the set of the first i texts -/
def SetUp (prog : Program) (w : World) (h : Heap) (a : Addr) (xs : List Str) (i : Nat) : Prop := ∃ c, (c ≤ i ∧ ((xs.take i).Nodup → c = i)) ∧ h.SetOf (mixKind prog w) a (fun k => (xs.take i).any fun x => decide (k = Sum.inr x)) c
theorem SetUp.move {h h' : Heap} {a : Addr} {xs : List Str} {i : Nat} (u : SetUp prog w h a xs i) (k : ∀ o, h.get? a = some o → h'.get? a = some o) : SetUp prog w h' a xs i := by
  obtain ⟨c, hc, z⟩ := u
  exact ⟨c, hc, setOf_at z k⟩
theorem take_any {xs : List Str} {i : Nat} {x : Str} (hx : xs[i]? = some x) (k : Key) : ((xs.take (i + 1)).any fun y => decide (k = Sum.inr y)) = (((xs.take i).any fun y => decide (k = Sum.inr y)) || decide (k = Sum.inr x)) := by
  rw [List.take_add_one, hx, List.any_append]
  simp
theorem update_texts (W : WalksS prog w A.in1 I fp wr G n P St) (S : Addr) (hSf : S ∉ fp) (xs : List Str) (hl : xs.length = n) (hn : n + 1 < scanBound)
    (hv : ∀ i v, P i v → ∃ x t, xs[i]? = some x ∧ v = .str x t) : ∀ (m i : Nat) (s : Shared), n - i = m → i ≤ n → St i s → SetUp prog w s.heap S xs i →
      (∀ s', Moved (S :: wr) G s s' → SetUp prog w s'.heap S xs n → R (.ok (.ret .none)) s') → codeAny (model prog w) A (.builtin "set.update.loop" ⟨[.ref S, .ref I], []⟩) R s := by
  have out : S ∉ wr := fun h => hSf (W.sub _ h)
  have more : ∀ b ∈ wr, b ∈ S :: wr := fun b hb => List.mem_cons_of_mem _ hb
  intro m
  induction m with
  | zero =>
    intro i s hm hi st U q
    obtain rfl : i = n := by omega
    refine codeAny_builtin PyProof.Rows.F.entry_set_update_loop ?_
    rw [Around.under_plainId PyProof.Rows.F.plain_set_update_loop _]
    show wpAny _ A.in1 (pyNext (.ref I) >>= _) _ _ s
    exact wpAny_bind (W.done s _ _ st fun s' hm' => wpAny_pure (q s' (hm'.mono more) (U.move fun o => hm'.heap S o out)))
  | succ m ih =>
    intro i s hm hi st U q
    have lt : i < n := by omega
    refine codeAny_builtin PyProof.Rows.F.entry_set_update_loop ?_
    rw [Around.under_plainId PyProof.Rows.F.plain_set_update_loop _]
    show wpAny _ A.in1 (pyNext (.ref I) >>= _) _ _ s
    refine wpAny_bind (W.item i s _ _ lt st fun v s' hP st' hm' => ?_)
    obtain ⟨x, t, hx, rfl⟩ := hv i v hP
    obtain ⟨c, hc, U'⟩ := U.move (h' := s'.heap) fun o => hm'.heap S o out
    show wpAny _ A.in1 (holding [Value.str x t] (setAdd S (.str x t)) >>= _) _ _ s'
    unfold setAdd
    refine wpAny_bind (wpAny_holding (wpAny_holding (wpAny_bind ((mixKind prog w).pyHash (k := Sum.inr x) (mixKind_str _ _ _ _) ?_))))
    refine wpAny_setAddHashed_of (knd := mixKind prog w) (s := { s' with toks := s'.toks + 1 }) (mixKind_str _ _ _ _) rfl U' (by have := hc.1; omega) fun h' sb U2 => ?_
    refine wpAny_pure ⟨plainId_quiet PyProof.Rows.F.plain_set_update_loop _, ih (i + 1) _ (by omega) lt (W.frame _ s' _ _ st' (Nat.le_succ _) fun b hb o e => (sb.2 b fun z => hSf (z ▸ hb)).trans e) ?_ fun s'' hm2 U3 => ?_⟩
    · have e : (fun k : Key => (xs.take (i + 1)).any fun y => decide (k = Sum.inr y)) = fun k => (((xs.take i).any fun y => decide (k = Sum.inr y)) || decide (k = Sum.inr x)) := funext (take_any hx)
      refine ⟨_, ⟨?_, fun nd => ?_⟩, by rw [e]; exact U2⟩
      · have := hc.1
        split <;> omega
      · have e9 : xs.take (i + 1) = xs.take i ++ [x] := by rw [List.take_add_one, hx]; rfl
        rw [e9] at nd
        have nd2 := List.nodup_append.mp nd
        have no : ((xs.take i).any fun y => decide ((Sum.inr x : Key) = Sum.inr y)) = false := by
          rw [List.any_eq_false]
          intro y hy q
          have q2 := of_decide_eq_true q
          exact nd2.2.2 y hy x (List.mem_singleton.mpr rfl) (Sum.inr.inj q2).symm
        rw [no, if_neg (by decide), hc.2 nd2.1]
    · exact q s'' (Moved.trans W.gtrans ((hm'.mono more).then_heap (Nat.le_succ _) fun b o hb e => (sb.2 b fun z => hb (by rw [z]; exact List.mem_cons_self)).trans e) hm2) U3
end
section
variable {prog : Program} {w : World} {A : Around} {E : Value → Shared → Prop} {s : Shared}
abbrev setOb (led : Bool) : Obj := { cls := .type "set", dict := none, data := .set #[] 0 (.fresh 0 0 led) }
set_option maxHeartbeats 3200000 in
theorem call_set_texts {l : Addr} {items : Array Value} {xs : List Str} {Q : Value → Shared → Prop} (hh : A.handled = none) (hl : s.heap.IsList l items) (hi : StrsAre items.toList xs) (hb : xs.length + 1 < scanBound)
    (h : ∀ (h' : Heap) (tk : Nat), SetUp prog w h' s.heap.objs.size xs xs.length → (∀ b o, s.heap.get? b = some o → h'.get? b = some o) → Q (.ref s.heap.objs.size) { s with heap := h', toks := tk }) :
    wpAny (model prog w) A (call (.type "set") [.ref l]) Q E s := by
  obtain ⟨c, tl, hmro⟩ := PySem.F.called_set.mro
  have hmade := PySem.F.called_set.made
  have hsub := PySem.F.called_set.sub
  have h1 := PySem.F.called_set.notType
  have h2 := PySem.F.called_set.canCreate
  have hct := PySem.F.typeCall_set_1 (.ref l)
  have hlen : items.size = xs.length := by rw [← Array.length_toList, StrsAre.len_eq hi]
  refine wpAny_call (codeAny_of_tree (wpAny_pure ⟨Code.quiet_builtin _ (by decide +kernel), codeAny_builtin PySem.F.entry_type_call ?_⟩))
  rw [Around.under_plain (weight_type_call_type "set" [.ref l] []) rfl]
  repeat (any_goals (first | assumption | wp_step))
  refine codeAny_mono (code_set_new_1 (.ref l) (E := E) (Q₁ := fun obj s₁ => ∃ led : Bool, obj = .ref s.heap.objs.size ∧ s₁ = { s with heap := s.heap.push { cls := .type "set", dict := none, data := .set #[] 0 (.fresh 0 0 led) } }) fun led => ⟨led, rfl, rfl⟩) fun r s₁ hr => ?_
  cases r with
  | error e => exact hr
  | ok fl =>
    cases fl with
    | next => exact hr.elim
    | brk => exact hr.elim
    | cont => exact hr.elim
    | ret obj =>
      obtain ⟨led, rfl, rfl⟩ := hr
      have hS : (s.heap.push (setOb led)).get? s.heap.objs.size = some (setOb led) := Heap.get?_push_size _ rfl
      have hT : Shared.TypeIs { s with heap := s.heap.push (setOb led) } (.ref s.heap.objs.size) "set" := ⟨_, hS, rfl⟩
      have hli := PySem.F.called_set.init.lookup
      have hbi := PySem.F.called_set.init.bind (.ref s.heap.objs.size)
      repeat (any_goals (first | assumption | wp_step))
      refine codeAny_mono (codeAny_call_builtin (R := wants (fun r s₂ => r = .none ∧ ∃ h' tk, s₂ = { s with heap := h', toks := tk } ∧ SetUp prog w h' s.heap.objs.size xs xs.length ∧ (∀ b o, s.heap.get? b = some o → h'.get? b = some o)) E)
        PySem.F.called_set.init.plain PySem.F.entry_set_init (check_set_init_1 hT ?_)) fun r₂ s₂ hr₂ => ?_
      · obtain ⟨ol, hol, hcl, nl, hdl⟩ := hl
        obtain ⟨ocls, odict, odata, oslots⟩ := ol
        simp only at hcl hdl
        subst hcl; subst hdl
        have hlS : l < s.heap.objs.size := Heap.lt_size hol
        have hol' := Heap.get?_push_of_some (h := s.heap) (setOb led) hol
        have hsls := PySem.F.sub_list_set
        have hslf := PySem.F.sub_list_frozenset
        have hne : (Value.type "list" == Value.type "dict") = false := by decide
        have hl1 : (s.heap.push (setOb led)).IsList l items := ⟨_, hol', rfl, nl, rfl⟩
        unfold Builtin.«set.__init__» noKeywords Builtin.Frozenset.updateFrom
        generalize hPI : pyIter = PI
        wp_walk
        subst hPI
        refine wpAny_pyIter_list (s := { s with heap := s.heap.push (setOb led) }) hl1 ?_
        refine wpAny_bind (wpAny_runValue ?_)
        have hneI : l ≠ (s.heap.push (setOb led)).objs.size := by rw [Heap.size_push]; exact Nat.ne_of_lt (Nat.lt_succ_of_lt hlS)
        have hSf : s.heap.objs.size ∉ [(s.heap.push (setOb led)).objs.size, l] := by
          rw [Heap.size_push]
          intro hm
          rcases List.mem_cons.mp hm with z | z
          · exact Nat.ne_of_lt (Nat.lt_succ_self _) z
          · exact Nat.ne_of_gt hlS (List.mem_singleton.mp z)
        have hval : ∀ (i : Nat) (v : Value), items[i]? = some v → ∃ x t, xs[i]? = some x ∧ v = .str x t := fun i v hv => by
          have hv' : items.toList[i]? = some v := by rw [Array.getElem?_toList]; exact hv
          obtain ⟨t, e⟩ := SS.strs_at hi i v hv'
          have lt : i < xs.length := by
            have := (List.getElem?_eq_some_iff.mp hv').1
            rw [Array.length_toList, hlen] at this; exact this
          exact ⟨xs[i], t, List.getElem?_eq_getElem lt, by rw [e, List.getD_eq_getElem?_getD, List.getElem?_eq_getElem lt]; rfl⟩
        have hS2 := Heap.get?_push_of_some (h := s.heap.push (setOb led)) { cls := .type "list_iterator", data := .fields #[.ref l, .int 0 0] } hS
        refine update_texts ((Walks.list (by simp [hh]) _ l hneI items).toS) s.heap.objs.size hSf xs hlen.symm (by omega) hval (items.size - 0) 0 _ rfl (Nat.zero_le _) ⟨⟨_, Heap.get?_push_size _ rfl, rfl, rfl⟩, hl1.push _⟩ ⟨0, ⟨Nat.le_refl _, fun _ => rfl⟩, ?_⟩ fun s' hm U => ?_
        · exact ⟨_, #[], 0, _, hS2, ⟨rfl, rfl, rfl⟩, rfl, (fun e he => by simp at he), (fun k => by simp), (by decide), (by rfl), rfl⟩
        · obtain ⟨h', g', d', tk', os'⟩ := s'
          obtain rfl : g' = s.gens := hm.gens
          obtain rfl : d' = s.drawn := hm.drawn
          obtain rfl : os' = s.os := hm.os
          refine wpAny_pure (wpAny_pure ⟨rfl, h', tk', rfl, by rw [← hlen]; exact U, fun b o e => ?_⟩)
          have hb' := Heap.lt_size e
          refine hm.heap b o (fun z => ?_) (Heap.get?_push_of_some _ (Heap.get?_push_of_some _ e))
          rw [Heap.size_push] at z
          rcases List.mem_cons.mp z with z | z
          · exact Nat.ne_of_lt hb' z
          · exact Nat.ne_of_lt (Nat.lt_succ_of_lt hb') (List.mem_singleton.mp z)
      · cases r₂ with
        | error e => exact hr₂
        | ok fl₂ =>
          cases fl₂ with
          | ret r =>
            obtain ⟨rfl, h', tk, rfl, U, hk'⟩ := hr₂
            repeat (any_goals (first | assumption | wp_step))
            exact h _ _ U hk'
          | next => exact hr₂.elim
          | brk => exact hr₂.elim
          | cont => exact hr₂.elim
end
/-- set(xs), xs a list of texts; how many there are where none stands twice -/
def rSetTxN (K : PySem.W.Frag) (P : Program) (w : World) : List V → Hp → VK → Prop := fun vs H Q => ∃ (l : Addr) (xs : List Str), vs = [.ref l] ∧ SqL K H l (xs.map V.str) ∧ xs.length ≤ 4000 ∧
  ∀ a c, H a = none → (xs.Nodup → c = xs.length) → Q (.ref a) (upd H a (SetK P w a (fun k => xs.any fun x => decide (k = Sum.inr x)) c))
theorem call_setTxN {X : Cx} (hc : X.calm = true) : CallR X (.type "set") (rSetTxN X.K X.prog X.w) := by
  intro pins s σ H vs us Q I r h
  obtain ⟨l, xs, rfl, hl, hn, q⟩ := h
  rw [Vals.ref1 r]
  obtain ⟨its, rv, pl, hz⟩ := I.list hl
  have fresh : H s.heap.objs.size = none := I.hok.fresh (Nat.le_refl _)
  refine call_set_texts (xs := xs) (I.ok.hd hc) pl.isList (by simpa using Vals.strs rv) (by unfold scanBound; omega) fun h' tk U k => ?_
  obtain ⟨c, hcn, U⟩ := U
  rw [List.take_length] at U hcn
  exact ⟨.ref s.heap.objs.size, _, I.laid (t' := tk) k (Nat.le_refl _) (setK_new U), rfl, q _ c fresh hcn.2⟩
/-- set(xs), xs a list of texts -/
def rSetTx (K : PySem.W.Frag) (P : Program) (w : World) : List V → Hp → VK → Prop := fun vs H Q => ∃ (l : Addr) (xs : List Str), vs = [.ref l] ∧ SqL K H l (xs.map V.str) ∧ xs.length ≤ 4000 ∧
  ∀ a c, H a = none → Q (.ref a) (upd H a (SetK P w a (fun k => xs.any fun x => decide (k = Sum.inr x)) c))
theorem call_setTx {X : Cx} (hc : X.calm = true) : CallR X (.type "set") (rSetTx X.K X.prog X.w) := by
  intro pins s σ H vs us Q I r h
  obtain ⟨l, xs, e, hl, hn, q⟩ := h
  exact call_setTxN hc pins s σ H vs us Q I r ⟨l, xs, e, hl, hn, fun a c na _ => q a c na⟩
end Kk

set_option maxHeartbeats 2000000
/-! tuples whose object is known to have no dict of its own: their methods can be called -/
namespace Kk
open PySem PySem.Spec PyProof.Rows L2
def TupF (H : Hp) (a : Addr) (xs : List V) : Prop := ∃ o, H a = some (.frz o (.tup xs)) ∧ o.dict = none
theorem TupF.sq {K : PySem.W.Frag} {H : Hp} {a : Addr} {xs : List V} (h : TupF H a xs) : SqT K H a xs := by
  obtain ⟨o, h, _⟩ := h
  exact .inl (.inr ⟨o, h⟩)
theorem TupF.same {H H' : Hp} {a : Addr} {xs : List V} (h : TupF H a xs) (k : Same H H') : TupF H' a xs := by
  obtain ⟨o, h, d⟩ := h
  exact ⟨o, k _ _ h, d⟩
theorem TupF.keep {p g : Addr} {H H' : Hp} {a : Addr} {xs : List V} (h : TupF H a xs) (k : Keep p g H H') (h1 : a ≠ p) (h2 : a ≠ g) : TupF H' a xs := by
  obtain ⟨o, h, d⟩ := h
  exact ⟨o, k _ _ h h1 h2, d⟩
theorem TupF.ne_lst {H : Hp} {a b : Addr} {xs ys : List V} (h : TupF H a xs) (g : H b = some (.lst ys)) : a ≠ b := by
  obtain ⟨o, h, _⟩ := h
  exact ne_of h g (by intro q; cases q)
theorem TupF.new {H : Hp} {o : Obj} {a : Addr} {xs : List V} (d : o.dict = none) : TupF (upd H a (.frz o (.tup xs))) a xs := ⟨o, upd_same, d⟩
section
variable {X : Cx}
/-- tuple(xs), xs a list -/
theorem call_tupleF : CallR X (.type "tuple") (fun xs H Q => ∃ p ys, xs = [.ref p] ∧ SqL X.K H p ys ∧ ∀ l o, H l = none → o.dict = none → Q (.ref l) (upd H l (.frz o (.tup ys)))) := by
  intro pins s σ H xs us Q I r h
  obtain ⟨p, ys, rfl, hq, q⟩ := h
  rw [Vals.ref1 r]
  obtain ⟨its, r', pl, hz⟩ := I.list hq
  have hlen := r'.length
  refine call_tuple_list pl.isList (fun h' kp => ?_) (by simp only [List.size_toArray] <;> omega)
  have I1 : Inv X pins σ H { s with heap := h' } := I.kept (t' := s.toks) kp
  exact ⟨.ref h'.objs.size, _, I1.laid (t' := s.toks) (o := .frz { cls := .type "tuple", data := .seq its.toArray } (.tup ys)) (fun b o e => Heap.get?_push_of_some _ e) (Nat.le_refl _) ⟨Heap.get?_push_size _ rfl, hz, its, r', IsTup.new _ _⟩, rfl, q _ _ (I1.hok.fresh (Nat.le_refl _)) rfl⟩
/-- a written tuple -/
def tTupF (t : TA) : TE := fun σ H Q => t σ H fun xs H1 => xs.length ≤ sizeLine ∧ ∀ p o, H1 p = none → o.dict = none → Q (.ref p) (upd H1 p (.frz o (.tup xs)))
theorem pe_tupF {es : List Expr} {t : TA} {x1} {pos : Pos} (h : PA X es t) : PE X (.Tuple es x1 pos) (tTupF t) := by
  refine ⟨fun pins s σ H Q I hq => ?_⟩
  refine wpAny_Tuple_spliced (thn (h.run pos pins s σ H _ I hq) fun us s1 ⟨xs, H1, I1, r, z, q⟩ => ⟨by rw [← r.length]; exact z, ?_⟩)
  exact ⟨.ref s1.heap.objs.size, _, I1.laid (t' := s1.toks) (o := .frz { cls := .type "tuple", data := .seq us.toArray } (.tup xs)) (fun b u e => Heap.get?_push_of_some _ e) (Nat.le_refl _) ⟨Heap.get?_push_size _ rfl, z, us, r, ⟨_, Heap.get?_push_size _ rfl, rfl, _, rfl⟩⟩, rfl, q _ _ (I1.hok.fresh (Nat.le_refl _)) rfl⟩
end
section
variable {prog : Program} {w : World} {A : Around} {E : Value → Shared → Prop} {s : Shared}
open HT in
/-- the whole of a tuple is the tuple itself -/
theorem tup_whole {t sl : Addr} {items : Array Value} {vl vu : Value} {lo hi : Option Int} {Q : Value → Shared → Prop} (ht : IsTup s.heap t items) (hs : s.heap.IsSliceOf sl vl vu .none) (pl : IsPart vl lo) (pu : IsPart vu hi)
    (hw : sIx items.size 0 lo = 0 ∧ sIx items.size items.size hi = items.size) (h : Q (.ref t) s) : wpAny (model prog w) A (getItem (.ref t) (.ref sl)) Q E s := by
  obtain ⟨os, hos, hcs, hds⟩ := id hs
  have hTs : s.TypeIs (.ref sl) "slice" := ⟨os, hos, hcs⟩
  obtain ⟨ot, hot, hct, nt, hdt⟩ := id ht
  have hTt : s.TypeIs (.ref t) "tuple" := ⟨ot, hot, hct⟩
  unfold getItem
  try with_reducible refine wpAny_holding ?_
  first | refine wpAny_bind (wpAny_pure ?_) | skip
  refine wpAny_bind (wpAny_sequenceKey ht.typeIs (by decide) ?_)
  refine wpAny_bind (wpAny_callSpecial?_slot (name := Str.ofString "__getitem__") ht.typeIs PyProof.Rows.slot_tuple_getitem
    (wpAny_call_entry PyProof.Rows.slot_tuple_getitem ht.typeIs entry_tuple_getitem ?_ (args_tuple_getitem _ _)))
  show wpAny _ _ (Builtin.Tuple.tupleItemsOf (.ref t) >>= _) _ _ s
  refine wpAny_bind (tupleItemsOf_ ht (wpAny_bind (wpAny_typeOf hTs ?_)))
  rw [if_pos (by decide)]
  refine wpAny_bind (sliceApplied_gen hs pl pu ?_)
  have yes : (((sIx items.size 0 lo : Nat) : Int) == 0 && (1 : Int) == 1 && (sIx items.size items.size hi - sIx items.size 0 lo) == items.size) = true := by
    rw [hw.1, hw.2]; simp
  show wpAny _ _ (if (((sIx items.size 0 lo : Nat) : Int) == 0 && (1 : Int) == 1 && (sIx items.size items.size hi - sIx items.size 0 lo) == items.size) = true then _ else _) _ _ s
  rw [if_pos yes]
  unfold Builtin.Tuple.tupleIsExact
  refine wpAny_bind (wpAny_bind (wpAny_typeOf hTt (wpAny_pure ?_)))
  rw [if_pos (by decide)]
  exact wpAny_bind (wpAny_rule (wpAny_pure ⟨_, rfl, wpAny_pure h⟩))
end
section
variable {X : Cx}
/-- t[lo:hi]: t itself where that is the whole -/
theorem sl_tupF : SlR X (fun x lo hi H Q => ∃ a xs, x = .ref a ∧ SqT X.K H a xs ∧ ((HT.sIx xs.length 0 lo = 0 ∧ HT.sIx xs.length xs.length hi = xs.length) → Q (.ref a) H) ∧
    (¬ (HT.sIx xs.length 0 lo = 0 ∧ HT.sIx xs.length xs.length hi = xs.length) → ∀ p o, H p = none → o.dict = none → Q (.ref p) (upd H p (.frz o (.tup (cutV xs lo hi)))))) := by
  intro pins s σ H x v vl vu lo hi sl Q I rx hs pl pu h
  obtain ⟨a, xs, rfl, hx, q1, q2⟩ := h
  cases rx
  obtain ⟨its, r, ht, hz⟩ := I.tuple hx
  have hlen : its.toArray.size = xs.length := by rw [List.size_toArray]; exact r.length.symm
  refine ⟨"tuple", _, PyProof.Rows.slot_tuple_getitem.lookup, ht.typeIs, ?_⟩
  by_cases hw : HT.sIx xs.length 0 lo = 0 ∧ HT.sIx xs.length xs.length hi = xs.length
  · exact tup_whole ht hs pl pu (by rw [hlen]; exact hw) ⟨.ref a, H, I, rfl, q1 hw⟩
  · refine HT.getItem_tuple_cut ht hs pl pu (by rw [hlen]; exact hw) ?_ (by rw [hlen]; exact hz)
    rw [hlen]
    refine ⟨.ref s.heap.objs.size, _, I.laid (t' := s.toks) (o := .frz { cls := .type "tuple", data := .seq ((its.drop (HT.sIx xs.length 0 lo)).take (HT.sIx xs.length xs.length hi - HT.sIx xs.length 0 lo)).toArray } (.tup (cutV xs lo hi)))
      (fun b ob q => Heap.get?_push_of_some _ q) (Nat.le_refl _) ⟨Heap.get?_push_size _ rfl, Nat.le_trans (cutV_length xs lo hi) hz, _, (r.drop (HT.sIx xs.length 0 lo)).take (HT.sIx xs.length xs.length hi - HT.sIx xs.length 0 lo), IsTup.new _ _⟩, rfl, q2 hw _ _ (I.hok.fresh (Nat.le_refl _)) rfl⟩
/-- t.m(e, ..), t such a tuple -/
def tTM (r : V → List V → Hp → VK → Prop) (to : TE) (t : TA) : TE := fun σ H Q => to σ H fun x H1 => (∃ a xs, x = .ref a ∧ TupF H1 a xs) ∧ t σ H1 fun xs H2 => r x xs H2 Q
theorem pe_tm {o e : Expr} {es : List Expr} {to : TE} {t : TA} {name : Str} {apos cpos : Pos} {id : String} {r : V → List V → Hp → VK → Prop} (slot : Slot "tuple" name id) (hty : typeOf (.builtin id) = pure (.type "method_descriptor")) (hm : MtR X id r) (ho : PE X o to) (ha : PA X (e :: es) t)
    (hbase : attributeBase o name X.env (eval o X.env) = eval o X.env := by rfl)
    (hfew : ((backTo cpos (starEach (e :: es) X.env)).all (fun x => !x.1) && (backToKw cpos (keywordEach [] X.env)).all (fun x => x.1.isSome)
      && decide ((e :: es).length + ([] : List Keyword).length + (if ([] : List Keyword).isEmpty then 0 else 1) < 30)) = true := by rfl)
    (hline : (apos.endLine == cpos.line) = true := by rfl) (hs : starEach (e :: es) X.env = (false, eval e X.env) :: starEach es X.env := by rfl) (hplain : (backTo cpos (starEach es X.env)).any (·.1) = false := by rfl) :
    PE X (.Call (.Attribute o name apos) (e :: es) [] cpos) (tTM r to t) := by
  refine ⟨fun pins s σ H Q I h => ?_⟩
  refine wpAny_Call_method_late hbase hfew hline rfl (thn (ho.run pins s σ H _ I h) fun v s1 ⟨x, H1, I1, r1, ty, q1⟩ => ?_)
  obtain ⟨a, xs, rfl, ob, hob, hd⟩ := ty
  obtain rfl : v = Value.ref a := r1
  have ok : ObjOk X.prog X.w H1 s1.heap a (.frz ob (.tup xs)) := I1.hok a _ hob
  obtain ⟨g1, _, its, rv, o2, g2, c2, d2⟩ := ok
  obtain rfl : ob = o2 := Option.some.inj (g1.symm.trans g2)
  refine ⟨"tuple", id, PySem.F.plainAttrs_tuple, slot, hty, ⟨ob, g1, c2⟩, fun b eb => ?_, ?_⟩
  · cases eb
    exact ⟨ob, g1, hd⟩
  have hA := ha.run cpos pins s1 σ H1 _ I1 q1
  rw [hs] at hA ⊢
  refine Calls.callWith_builtin (by show (false || (backTo cpos (starEach es X.env)).any (·.1)) = false; rw [hplain] <;> rfl) (Calls.evalArgs_plain ?_)
  exact thn hA fun us s2 ⟨vs, H2, I2, r2, q2⟩ => hm pins s2 σ H2 (.ref a) vs (.ref a) us Q I2 rfl r2 q2
/-- t.count(z), t a tuple of texts -/
theorem mt_tcount : MtR X "tuple.count" (fun x xs H Q => ∃ p, ∃ ys : List Str, ∃ z, x = .ref p ∧ xs = [.str z] ∧ SqT X.K H p (ys.map V.str) ∧ Q (.int ((ys.countP fun y => y == z : Nat) : Int)) H) := by
  intro pins s σ H x xs v us Q I rx rs h
  obtain ⟨p, ys, z, rfl, rfl, hq, q⟩ := h
  cases rx
  obtain ⟨u, rfl, t, rfl⟩ := vals1 rs
  obtain ⟨its, r, pl, hz⟩ := I.tuple hq
  obtain ⟨⟨cls, dd, dt, sl⟩, ho, hc, n, hd⟩ := pl
  simp only at hc hd
  subst hc
  subst hd
  have ec : its.countP (eqU (.str z)) = ys.countP fun y => y == z := by
    clear hq q hz ho
    induction ys generalizing its with
    | nil => cases r; rfl
    | cons y ys ih =>
      cases r with
      | cons r1 r2 =>
        obtain ⟨t', rfl⟩ := r1
        rw [List.countP_cons, List.countP_cons, ih _ r2]
        rfl
  refine call_meets PySem.F.slot_tuple_count ⟨_, ho, rfl⟩ PySem.F.entry_tuple_count (PySem.F.args_tuple_count_2 _ _) (SeqAt.tuple_countAt p its.toArray n dd sl (.str z t) (eqU (.str z)))
    ⟨ho, fun w hw => mem_eqAt (x := .str z) ⟨t, rfl⟩ rfl r (flat_strs ys) w (by simpa using hw), ?_⟩
  show EP X pins σ Q (.int ((its.countP (eqU (.str z)) : Nat) : Int) s.toks) { s with toks := s.toks + 1 }
  rw [ec]
  exact ⟨.int _, H, I.tok _, ⟨_, rfl⟩, q⟩
end
end Kk

set_option maxHeartbeats 2000000
/-! t.index(x, start), and tuples put together or cut, whose objects have no dict of their own -/
namespace Kk
open PySem PySem.Spec PyProof.Rows L2
section
variable {X : Cx}
/-- t.index(z, i): the first place from i on -/
theorem mt_tup_index3 : MtR X "tuple.index" (fun x xs H Q => ∃ p, ∃ ys : List Str, ∃ z, ∃ i j : Nat, x = .ref p ∧ xs = [.str z, .int (i : Nat)] ∧ SqT X.K H p (ys.map V.str) ∧ i ≤ j ∧ ys[j]? = some z ∧ (∀ m, i ≤ m → m < j → ys[m]? ≠ some z) ∧ Q (.int (j : Nat)) H) := by
  intro pins s σ H x xs v us Q I rx rs h
  obtain ⟨p, ys, z, i, j, rfl, rfl, hq, hij, hy, hno, q⟩ := h
  cases rx
  cases rs with
  | cons r1 rs =>
  cases rs with
  | cons r2 rs =>
  cases rs
  obtain ⟨t, rfl⟩ := r1
  obtain ⟨t2, rfl⟩ := r2
  obtain ⟨its, r, pl, hz⟩ := I.tuple hq
  obtain ⟨⟨cls, dd, dt, sl⟩, ho, hc, n, hd⟩ := pl
  simp only at hc hd
  subst hc
  subst hd
  have hl : its.toArray.size = ys.length := by rw [List.size_toArray, ← r.length, List.length_map]
  have hj : j < its.toArray.size := by rw [hl]; exact (List.getElem?_eq_some_iff.mp hy).1
  have at' : ∀ (m : Nat) (hm : m < its.toArray.size), ∃ y t', ys[m]? = some y ∧ its.toArray[m] = Value.str y t' := fun m hm => by
    have hm' : m < ys.length := by rw [← hl]; exact hm
    obtain ⟨w, hw, t', hw'⟩ := r.get (i := m) (x := .str ys[m]) (by simp [hm'])
    refine ⟨ys[m], t', List.getElem?_eq_getElem hm', ?_⟩
    have e := (List.getElem?_eq_some_iff.mp hw).2
    rw [← hw', ← e]
    simp
  refine call_meets PySem.F.slot_tuple_index ⟨_, ho, rfl⟩ PySem.F.entry_tuple_index (PySem.F.args_tuple_index_3 _ _ _) (PySem.SeqAt.tuple_index3_found p its.toArray n dd sl (.str z t) (fun m => match its.toArray[m]? with | some w => eqU (.str z) w | none => false) (i : Int) t2 j hj (by rw [PySem.SeqAt.searchFrom_nat]; exact hij) hj ?_ ?_)
    ⟨ho, fun m hm => ?_, ⟨.int (j : Nat), H, I.tok _, ⟨_, rfl⟩, q⟩⟩
  · obtain ⟨y, t', h1, h2⟩ := at' j hj
    rw [hy] at h1
    cases h1
    show (match its.toArray[j]? with | some w => eqU (.str z) w | none => false) = true
    rw [Array.getElem?_eq_getElem hj, h2]
    show (z == z) = true
    exact beq_self_eq_true z
  · intro m hm hi hmj
    rw [PySem.SeqAt.searchFrom_nat] at hi
    obtain ⟨y, t', h1, h2⟩ := at' m hm
    show (match its.toArray[m]? with | some w => eqU (.str z) w | none => false) = false
    rw [Array.getElem?_eq_getElem hm, h2]
    show (y == z) = false
    exact beq_eq_false_iff_ne.mpr fun e => hno m hi hmj (e ▸ h1)
  · show PySem.SeqAt.EqAt _ _ its.toArray[m] (.str z t) (match its.toArray[m]? with | some w => eqU (.str z) w | none => false)
    rw [Array.getElem?_eq_getElem hm]
    exact mem_eqAt (x := .str z) ⟨t, rfl⟩ rfl r (flat_strs ys) _ (by simp)
/-- t + u -/
def rCatF (K : PySem.W.Frag) : R2 := fun x y H Q => ∃ a b xs ys, x = .ref a ∧ y = .ref b ∧ SqT K H a xs ∧ SqT K H b ys ∧ xs.length + ys.length ≤ sizeLine ∧
  (xs = [] → Q (.ref b) H) ∧ (xs ≠ [] → ys = [] → Q (.ref a) H) ∧ (xs ≠ [] → ys ≠ [] → ∀ p o, H p = none → o.dict = none → Q (.ref p) (upd H p (.frz o (.tup (xs ++ ys)))))
theorem op_catF : OpR X (binaryOp .Add) (rCatF X.K) := by
  intro pins s σ H x y v u Q I rx ry h
  obtain ⟨a, b, xs, ys, rfl, rfl, ha, hb, hz, q0, q1, q2⟩ := h
  cases rx
  cases ry
  obtain ⟨its, r1, p1, _⟩ := I.tuple ha
  obtain ⟨its2, r2, p2, _⟩ := I.tuple hb
  by_cases hx : xs = []
  · subst hx
    cases r1
    exact cat_tup0 p1 p2 ⟨.ref b, H, I, rfl, q0 rfl⟩
  · refine HT.cat_tup p1 p2 (fun z => hx (r1.nil_iff.mp z)) (fun z => ⟨.ref a, H, I, rfl, q1 hx (r2.nil_iff.mp z)⟩) (fun z => ?_) (by rw [← r1.length, ← r2.length]; exact hz)
    refine ⟨.ref s.heap.objs.size, _, I.laid (t' := s.toks) (o := .frz { cls := .type "tuple", data := .seq (its ++ its2).toArray } (.tup (xs ++ ys))) (fun b ob q => Heap.get?_push_of_some _ q) (Nat.le_refl _) ?_, rfl, q2 hx (fun w => z (r2.nil_iff.mpr w)) _ _ (I.hok.fresh (Nat.le_refl _)) rfl⟩
    exact ⟨Heap.get?_push_size _ rfl, by rw [List.length_append]; exact hz, _, r1.append r2, IsTup.new _ _⟩
theorem catF_of {K : PySem.W.Frag} {H : Hp} {a b : Addr} {xs ys : List V} {Q : VK} (ha : TupF H a xs) (hb : TupF H b ys) (hl : xs.length + ys.length ≤ 100000) (k : ∀ H' r, Same H H' → TupF H' r (xs ++ ys) → Q (.ref r) H') : rCatF K (.ref a) (.ref b) H Q := by
  refine ⟨a, b, xs, ys, rfl, rfl, ha.sq, hb.sq, Nat.le_trans hl (by decide), fun e => ?_, fun _ e => ?_, fun _ _ p o np ho => k _ p (same_upd np) (TupF.new ho)⟩
  · exact k H b (Same.refl H) (by rw [e]; exact hb)
  · exact k H a (Same.refl H) (by rw [e, List.append_nil]; exact ha)
def rSlF (K : PySem.W.Frag) : V → Option Int → Option Int → Hp → VK → Prop := fun x lo hi H Q => ∃ a xs, x = .ref a ∧ SqT K H a xs ∧ ((HT.sIx xs.length 0 lo = 0 ∧ HT.sIx xs.length xs.length hi = xs.length) → Q (.ref a) H) ∧
    (¬ (HT.sIx xs.length 0 lo = 0 ∧ HT.sIx xs.length xs.length hi = xs.length) → ∀ p o, H p = none → o.dict = none → Q (.ref p) (upd H p (.frz o (.tup (cutV xs lo hi)))))
theorem sl_tupG : SlR X (rSlF X.K) := sl_tupF
theorem cutF_of {K : PySem.W.Frag} {H : Hp} {a : Addr} {xs : List V} {lo hi : Option Int} {Q : VK} (ha : TupF H a xs) (k : ∀ H' r, Same H H' → TupF H' r (cutV xs lo hi) → Q (.ref r) H') : rSlF K (.ref a) lo hi H Q := by
  refine ⟨a, xs, rfl, ha.sq, fun w => k H a (Same.refl H) ?_, fun _ p o np ho => k _ p (same_upd np) (TupF.new ho)⟩
  have e : cutV xs lo hi = xs := by
    unfold cutV
    rw [w.1, w.2, List.drop_zero, Nat.sub_zero, List.take_length]
  rw [e]
  exact ha
end
end Kk

set_option maxHeartbeats 2000000
/-! a word between a test, or an expression, and what follows -/
namespace Kk
open PySem PySem.Spec PyProof.Rows L2
section
variable {X : Cx} {e : Expr}
def tMidT (t : TT) : TT := fun σ H Q => ∃ Mid : Bool → Hp → Prop, t σ H Mid ∧ ∀ b H', Mid b H' → Q b H'
theorem pt_mid {t : TT} (h : PT X e t) : PT X e (tMidT t) := by
  refine ⟨fun pins s σ H Q I q => ?_⟩
  obtain ⟨Mid, q1, q2⟩ := q
  exact thn (h.run pins s σ H Mid I q1) fun b s1 ⟨H1, I1, q3⟩ => ⟨H1, I1, q2 _ _ q3⟩
def tMidE (t : TE) : TE := fun σ H Q => ∃ Mid : VK, t σ H Mid ∧ ∀ v H', Mid v H' → Q v H'
theorem pe_mid {t : TE} (h : PE X e t) : PE X e (tMidE t) := by
  refine ⟨fun pins s σ H Q I q => ?_⟩
  obtain ⟨Mid, q1, q2⟩ := q
  exact thn (h.run pins s σ H Mid I q1) fun v s1 ⟨x, H1, I1, r1, q3⟩ => ⟨x, H1, I1, r1, q2 _ _ q3⟩
end
theorem cutV_take {α : Type} {f : α → V} {l : List α} {j : Nat} (h : j ≤ l.length) : cutV (l.map f) none (some (j : Int)) = (l.take j).map f := by
  unfold cutV
  rw [HT.sIx_none, HT.sIx_nat, List.length_map, Nat.min_eq_left h, Nat.sub_zero, List.drop_zero, ← List.map_take]
theorem cutV_drop {α : Type} {f : α → V} {l : List α} {i : Nat} (h : i ≤ l.length) : cutV (l.map f) (some (i : Int)) none = (l.drop i).map f := by
  unfold cutV
  rw [HT.sIx_none, HT.sIx_nat, List.length_map, Nat.min_eq_left h, ← List.map_drop, ← List.map_take, List.take_of_length_le (by rw [List.length_drop]; omega)]
/-- all but p, g and u is as it was -/
def Ke (p g u : Addr) (H H' : Hp) : Prop := ∀ b o, H b = some o → b ≠ p → b ≠ g → b ≠ u → H' b = some o
theorem Ke.refl {p g u : Addr} (H : Hp) : Ke p g u H H := fun _ _ h _ _ _ => h
theorem Ke.trans {p g u : Addr} {H H1 H2 : Hp} (a : Ke p g u H H1) (b : Ke p g u H1 H2) : Ke p g u H H2 := fun c o h h1 h2 h3 => b c o (a c o h h1 h2 h3) h1 h2 h3
theorem Same.ke {p g u : Addr} {H H' : Hp} (a : Same H H') : Ke p g u H H' := fun b o h _ _ _ => a b o h
theorem Keep.ke {p g u : Addr} {H H' : Hp} (a : Keep p g H H') : Ke p g u H H' := fun b o h h1 h2 _ => a b o h h1 h2
theorem ke_upd {p g u : Addr} {H : Hp} {o : HO} : Ke p g u H (upd H u o) := fun b x e _ _ h3 => by
  rw [upd_ne h3]; exact e
end Kk

/-! a set made of a tuple of texts -/
namespace Kk
open PySem PySem.Spec PyProof.Rows L2
section
variable {prog : Program} {w : World} {A : Around} {E : Value → Shared → Prop} {s : Shared}
set_option maxHeartbeats 3200000 in
theorem call_set_textsT {l : Addr} {items : Array Value} {xs : List Str} {Q : Value → Shared → Prop} (hh : A.handled = none) (hl : s.heap.IsTuple l items) (hi : StrsAre items.toList xs) (hb : xs.length + 1 < scanBound)
    (h : ∀ (h' : Heap) (tk : Nat), SetUp prog w h' s.heap.objs.size xs xs.length → (∀ b o, s.heap.get? b = some o → h'.get? b = some o) → Q (.ref s.heap.objs.size) { s with heap := h', toks := tk }) :
    wpAny (model prog w) A (call (.type "set") [.ref l]) Q E s := by
  obtain ⟨c, tl, hmro⟩ := PySem.F.called_set.mro
  have hmade := PySem.F.called_set.made
  have hsub := PySem.F.called_set.sub
  have h1 := PySem.F.called_set.notType
  have h2 := PySem.F.called_set.canCreate
  have hct := PySem.F.typeCall_set_1 (.ref l)
  have hlen : items.size = xs.length := by rw [← Array.length_toList, StrsAre.len_eq hi]
  refine wpAny_call (codeAny_of_tree (wpAny_pure ⟨Code.quiet_builtin _ (by decide +kernel), codeAny_builtin PySem.F.entry_type_call ?_⟩))
  rw [Around.under_plain (weight_type_call_type "set" [.ref l] []) rfl]
  repeat (any_goals (first | assumption | wp_step))
  refine codeAny_mono (code_set_new_1 (.ref l) (E := E) (Q₁ := fun obj s₁ => ∃ led : Bool, obj = .ref s.heap.objs.size ∧ s₁ = { s with heap := s.heap.push { cls := .type "set", dict := none, data := .set #[] 0 (.fresh 0 0 led) } }) fun led => ⟨led, rfl, rfl⟩) fun r s₁ hr => ?_
  cases r with
  | error e => exact hr
  | ok fl =>
    cases fl with
    | next => exact hr.elim
    | brk => exact hr.elim
    | cont => exact hr.elim
    | ret obj =>
      obtain ⟨led, rfl, rfl⟩ := hr
      have hS : (s.heap.push (setOb led)).get? s.heap.objs.size = some (setOb led) := Heap.get?_push_size _ rfl
      have hT : Shared.TypeIs { s with heap := s.heap.push (setOb led) } (.ref s.heap.objs.size) "set" := ⟨_, hS, rfl⟩
      have hli := PySem.F.called_set.init.lookup
      have hbi := PySem.F.called_set.init.bind (.ref s.heap.objs.size)
      repeat (any_goals (first | assumption | wp_step))
      refine codeAny_mono (codeAny_call_builtin (R := wants (fun r s₂ => r = .none ∧ ∃ h' tk, s₂ = { s with heap := h', toks := tk } ∧ SetUp prog w h' s.heap.objs.size xs xs.length ∧ (∀ b o, s.heap.get? b = some o → h'.get? b = some o)) E)
        PySem.F.called_set.init.plain PySem.F.entry_set_init (check_set_init_1 hT ?_)) fun r₂ s₂ hr₂ => ?_
      · obtain ⟨ol, hol, hcl, nl, hdl⟩ := hl
        obtain ⟨ocls, odict, odata, oslots⟩ := ol
        simp only at hcl hdl
        subst hcl; subst hdl
        have hlS : l < s.heap.objs.size := Heap.lt_size hol
        have hol' := Heap.get?_push_of_some (h := s.heap) (setOb led) hol
        have hsls := PySem.F.sub_tuple_set
        have hslf := PySem.F.sub_tuple_frozenset
        have hne : (Value.type "tuple" == Value.type "dict") = false := by decide
        have hl1 : (s.heap.push (setOb led)).IsTuple l items := ⟨_, hol', rfl, nl, rfl⟩
        unfold Builtin.«set.__init__» noKeywords Builtin.Frozenset.updateFrom
        generalize hPI : pyIter = PI
        wp_walk
        subst hPI
        refine wpAny_pyIter_tuple (s := { s with heap := s.heap.push (setOb led) }) hl1 ?_
        refine wpAny_bind (wpAny_runValue ?_)
        have hneI : l ≠ (s.heap.push (setOb led)).objs.size := by rw [Heap.size_push]; exact Nat.ne_of_lt (Nat.lt_succ_of_lt hlS)
        have hSf : s.heap.objs.size ∉ [(s.heap.push (setOb led)).objs.size, l] := by
          rw [Heap.size_push]
          intro hm
          rcases List.mem_cons.mp hm with z | z
          · exact Nat.ne_of_lt (Nat.lt_succ_self _) z
          · exact Nat.ne_of_gt hlS (List.mem_singleton.mp z)
        have hval : ∀ (i : Nat) (v : Value), items[i]? = some v → ∃ x t, xs[i]? = some x ∧ v = .str x t := fun i v hv => by
          have hv' : items.toList[i]? = some v := by rw [Array.getElem?_toList]; exact hv
          obtain ⟨t, e⟩ := SS.strs_at hi i v hv'
          have lt : i < xs.length := by
            have := (List.getElem?_eq_some_iff.mp hv').1
            rw [Array.length_toList, hlen] at this; exact this
          exact ⟨xs[i], t, List.getElem?_eq_getElem lt, by rw [e, List.getD_eq_getElem?_getD, List.getElem?_eq_getElem lt]; rfl⟩
        have hS2 := Heap.get?_push_of_some (h := s.heap.push (setOb led)) { cls := .type "tuple_iterator", data := .fields #[.ref l, .int 0 0] } hS
        refine update_texts ((Walks.tuple (by simp [hh]) _ l hneI items).toS) s.heap.objs.size hSf xs hlen.symm (by omega) hval (items.size - 0) 0 _ rfl (Nat.zero_le _) ⟨⟨_, Heap.get?_push_size _ rfl, rfl, rfl⟩, hl1.push _⟩ ⟨0, ⟨Nat.le_refl _, fun _ => rfl⟩, ?_⟩ fun s' hm U => ?_
        · exact ⟨_, #[], 0, _, hS2, ⟨rfl, rfl, rfl⟩, rfl, (fun e he => by simp at he), (fun k => by simp), (by decide), (by rfl), rfl⟩
        · obtain ⟨h', g', d', tk', os'⟩ := s'
          obtain rfl : g' = s.gens := hm.gens
          obtain rfl : d' = s.drawn := hm.drawn
          obtain rfl : os' = s.os := hm.os
          refine wpAny_pure (wpAny_pure ⟨rfl, h', tk', rfl, by rw [← hlen]; exact U, fun b o e => ?_⟩)
          have hb' := Heap.lt_size e
          refine hm.heap b o (fun z => ?_) (Heap.get?_push_of_some _ (Heap.get?_push_of_some _ e))
          rw [Heap.size_push] at z
          rcases List.mem_cons.mp z with z | z
          · exact Nat.ne_of_lt hb' z
          · exact Nat.ne_of_lt (Nat.lt_succ_of_lt hb') (List.mem_singleton.mp z)
      · cases r₂ with
        | error e => exact hr₂
        | ok fl₂ =>
          cases fl₂ with
          | ret r =>
            obtain ⟨rfl, h', tk, rfl, U, hk'⟩ := hr₂
            repeat (any_goals (first | assumption | wp_step))
            exact h _ _ U hk'
          | next => exact hr₂.elim
          | brk => exact hr₂.elim
          | cont => exact hr₂.elim
end
/-- set(xs), xs a list or a tuple of texts -/
def rSetLT (K : PySem.W.Frag) (P : Program) (w : World) : List V → Hp → VK → Prop := fun vs H Q => ∃ (l : Addr) (xs : List Str), vs = [.ref l] ∧ (SqL K H l (xs.map V.str) ∨ SqT K H l (xs.map V.str)) ∧ xs.length ≤ 4000 ∧
  ∀ a c, H a = none → (xs.Nodup → c = xs.length) → Q (.ref a) (upd H a (SetK P w a (fun k => xs.any fun x => decide (k = Sum.inr x)) c))
theorem call_setLT {X : Cx} (hc : X.calm = true) : CallR X (.type "set") (rSetLT X.K X.prog X.w) := by
  intro pins s σ H vs us Q I r h
  obtain ⟨l, xs, e, hl, hn, q⟩ := h
  rcases hl with hl | hl
  · exact call_setTxN hc pins s σ H vs us Q I r ⟨l, xs, e, hl, hn, q⟩
  · subst e
    rw [Vals.ref1 r]
    obtain ⟨its, rv, pl, hz⟩ := I.tuple hl
    have fresh : H s.heap.objs.size = none := I.hok.fresh (Nat.le_refl _)
    refine call_set_textsT (xs := xs) (I.ok.hd hc) pl (by simpa using Vals.strs rv) (by unfold scanBound; omega) fun h' tk U k => ?_
    obtain ⟨c, hcn, U⟩ := U
    rw [List.take_length] at U hcn
    exact ⟨.ref s.heap.objs.size, _, I.laid (t' := tk) k (Nat.le_refl _) (setK_new U), rfl, q _ c fresh hcn.2⟩
end Kk

set_option maxHeartbeats 2000000
/-! the & of two sets of texts -/
namespace Kk
open PySem PySem.Spec PyProof.Rows L2
theorem Inv.draws {X : Cx} {pins : List (Addr × Obj)} {σ : L2.St} {H : Hp} {s : Shared} (I : Inv X pins σ H s) (d : Drawn) : Inv X pins σ H { s with drawn := d } :=
  Inv.step (h' := s.heap) (H' := H) (g' := s.gens) (t' := s.toks) (d' := d) (ch := []) I (fun _ z => nomatch z) (fun b o _ _ _ q _ => q) (fun b o _ _ _ q _ => ⟨o.slots, q⟩)
    (fun b o _ _ z => z) (fun b o _ q => ⟨o, q⟩) (fun b xs q => q) (fun b o u q => q) (fun b ps q => ⟨#[], by rw [q]; simp⟩) (fun m h => h) I.hok I.bare
theorem entry_set_and : entryFor table "set.__and__" = some Builtin.«frozenset.__and__» :=
  entryFor_alias (id' := "frozenset.__and__") (by kernel_rfl) rfl (by decide +kernel) (by kernel_rfl)
section
variable {prog : Program} {w : World} {A : Around} {E : Value → Shared → Prop} {s : Shared}
theorem anySet_set {a : Addr} {Q : Bool → Shared → Prop} (h : s.TypeIs (.ref a) "set") (q : Q true s) : wpAny (model prog w) A (Builtin.Frozenset.isAnySet (.ref a)) Q E s := by
  unfold Builtin.Frozenset.isAnySet
  refine wpAny_bind (wpAny_isInstance h PySem.F.sub_set_set ?_)
  exact wpAny_pure q
theorem setOf_type {P : Program} {h : Shared} {a : Addr} {S : Key → Bool} {n : Nat} (R : h.heap.SetOf (mixKind P w) a S n) : h.TypeIs (.ref a) "set" := by
  obtain ⟨o, _, _, _, ho, hx, _⟩ := R
  exact ⟨o, ho, hx.1⟩
theorem sizeOf_set {a : Addr} {S : Key → Bool} {n : Nat} {Q : Nat → Shared → Prop} (R : s.heap.SetOf (mixKind prog w) a S n) (q : Q n s) : wpAny (model prog w) A (Builtin.Frozenset.sizeOf a) Q E s := by
  obtain ⟨o, es, ep, t, ho, _, hd, _, _, _, hf, hn⟩ := R
  unfold Builtin.Frozenset.sizeOf
  refine wpAny_bind (wpAny_setEntries_of ho hd hf (wpAny_pure ?_))
  rw [hn]
  exact q
/-- the entries of a set, as they are walked -/
def WalkOf (P : Program) (w : World) (S : Key → Bool) (es : List (Int × Value)) : Prop := ElemsOf (mixKind P w) es ∧ ∀ k, S k = true ↔ ∃ e ∈ es, (mixKind P w).is k e.2 = true
theorem WalkOf.perm {P : Program} {S : Key → Bool} {es es' : List (Int × Value)} (h : WalkOf P w S es) (p : es'.Perm es) : WalkOf P w S es' :=
  ⟨h.1.perm p, fun k => (h.2 k).trans ⟨fun ⟨e, m, i⟩ => ⟨e, p.mem_iff.mpr m, i⟩, fun ⟨e, m, i⟩ => ⟨e, p.mem_iff.mp m, i⟩⟩⟩
theorem walk_set {a : Addr} {es : Array (Int × Value)} {ep : Nat} {t : SetTable} {o : Obj} {Q : Array (Int × Value) → Shared → Prop} (ho : s.heap.get? a = some o) (hd : o.data = .set es ep t) (hf : t.fits es.size = true)
    (hl : w.params.followText "set-order" = true ∨ (t.led = true ∨ es.size ≤ 1) ) (q : ∀ (es' : Array (Int × Value)) (d : Drawn), es'.toList.Perm es.toList → Q es' { s with drawn := d }) : wpAny (model prog w) A (setWalk a) Q E s := by
  unfold setWalk
  refine wpAny_bind (wpAny_setState_of ho hd hf ?_)
  dsimp only
  refine wpAny_bind (wpAny_byText ?_)
  by_cases hbt : w.params.followText "set-order" = true
  · refine wp_if_pos hbt ?_
    exact wpAny_bind (wpAny_askSetting (wpAny_pure (q _ s.drawn (pick_perm _ _))))
  · refine wp_if_neg hbt ?_
    try refine wpAny_bind (wpAny_pure ?_)
    by_cases hdr : (!t.plain && decide (es.size > 1)) = true
    · refine wp_if_pos hdr ?_
      refine wpAny_bind (drawOrder_at es.size es.toList s _ (by simp) fun ys d p => wpAny_pure (q _ d ?_))
      simpa using p
    · refine wp_if_neg hdr ?_
      try refine wpAny_bind (wpAny_pure ?_)
      refine wpAny_bind (wpAny_of_eq (a := ()) ?_ ?_)
      · show (if (!t.led && decide (es.size > 1)) = true then unsupported "set:maker-not-led" else pure ()) = pure ()
        rcases hl with z | z | z
        · exact absurd z hbt
        · rw [z]; rfl
        · rw [show decide (es.size > 1) = false from decide_eq_false (by omega)]
          rw [Bool.and_false]; rfl
      · exact wpAny_pure (q es s.drawn (List.Perm.refl _))
theorem quiet_sets (l : List Addr) {Q : Bool → Shared → Prop} (hl : ∀ a ∈ l, ∃ S n, s.heap.SetOf (mixKind prog w) a S n) (q : Q true s) : wpAny (model prog w) A (setsQuiet l) Q E s := by
  unfold setsQuiet
  refine wpAny_bind (wpAny_forIn_list _ (fun rest b s' => b.1 = none ∧ s' = s ∧ ∀ a ∈ rest, ∃ S n, s.heap.SetOf (mixKind prog w) a S n) _ ?turn ?fin _ _ ⟨rfl, rfl, hl⟩)
  case turn =>
    rintro a rest b s' ⟨hb, rfl, hr⟩
    obtain ⟨S, n, o, es, ep, t, ho, _, hd, hel, _, _, hf, _⟩ := hr a (List.mem_cons_self ..)
    refine wpAny_bind (wpAny_setEntries_of ho hd hf ?_)
    refine wpAny_bind (MeetsSeq2.wpAny_forIn_array _ (fun rest b s2 => b.1 = none ∧ s2 = s' ∧ ElemsOf (mixKind prog w) rest) _ ?turn2 ?fin2 _ _ ⟨rfl, rfl, hel⟩)
    case turn2 =>
      rintro ⟨h, x⟩ rest2 b2 s2 ⟨hb2, rfl, he⟩
      have sc := he.head.2
      have ht := he.tail
      cases x with
      | ref y => simp [Value.scannable] at sc
      | _ => exact wpAny_pure ⟨rfl, rfl, ht⟩
    case fin2 =>
      rintro ⟨b1, b2⟩ s2 ⟨hb2, rfl, _⟩
      simp only at hb2
      subst hb2
      exact wpAny_pure ⟨rfl, rfl, fun x hx => hr x (List.mem_cons_of_mem _ hx)⟩
  case fin =>
    rintro ⟨b1, b2⟩ s' ⟨hb, rfl, _⟩
    simp only at hb
    subst hb
    exact wpAny_pure q
/-- the walk of a set, for one that is filled meanwhile (an empty one yet) -/
theorem unseen {a b r : Addr} {S T : Key → Bool} {n m : Nat} {Q : Array (Int × Value) → Shared → Prop} (ha : s.heap.SetOf (mixKind prog w) a S n) (hb : s.heap.SetOf (mixKind prog w) b T m) (hr : s.heap.SetOf (mixKind prog w) r (fun _ => false) 0)
    (q : ∀ (es : Array (Int × Value)) (h' : Heap) (d : Drawn), WalkOf prog w S es.toList → es.size = n → Heap.SameBut r s.heap h' → h'.SetOf (mixKind prog w) r (fun _ => false) 0 → Q es { s with heap := h', drawn := d }) :
    wpAny (model prog w) A (setWalkUnseen a [b, r] (some r)) Q E s := by
  have ha' := ha
  have hr' := hr
  obtain ⟨o, es, ep, t, ho, _, hd, hel, hmem, _, hf, hn⟩ := ha
  obtain ⟨o2, es2, ep2, t2, ho2, hx2, hd2, hel2, hmem2, hb2, hf2, hn2⟩ := hr
  have wo : WalkOf prog w S es.toList := ⟨hel, hmem⟩
  have fin : ∀ (es' : Array (Int × Value)) (d : Drawn), es'.toList.Perm es.toList → Q es' { s with drawn := d } := fun es' d p =>
    q es' s.heap d (wo.perm p) (by rw [← hn, ← Array.length_toList, p.length_eq, Array.length_toList]) (Heap.SameBut.refl r s.heap) hr'
  unfold setWalkUnseen
  refine wpAny_bind (wpAny_setState_of ho hd hf ?_)
  dsimp only
  refine wpAny_bind (wpAny_byText ?_)
  by_cases hc : (w.params.followText "set-order" || t.led && t.plain || decide (es.size ≤ 1)) = true
  · refine wp_if_pos hc ?_
    refine walk_set ho hd hf ?_ fin
    rw [Bool.or_eq_true, Bool.or_eq_true, Bool.and_eq_true, decide_eq_true_eq] at hc
    rcases hc with (h | h) | h
    · exact .inl h
    · exact .inr (.inl h.1)
    · exact .inr (.inr h)
  · refine wp_if_neg hc ?_
    refine wpAny_bind (quiet_sets _ (fun x hx => ?_) ?_)
    · rcases List.mem_cons.mp hx with rfl | hx
      · exact ⟨_, _, ha'⟩
      rcases List.mem_cons.mp hx with rfl | hx
      · exact ⟨_, _, hb⟩
      · rw [List.mem_singleton.mp hx]; exact ⟨_, _, hr'⟩
    refine wp_if_neg (by decide) ?_
    refine wpAny_bind (wpAny_rule ?_)
    refine wpAny_bind (wpAny_setState_of ho2 hd2 hf2 ?_)
    dsimp only
    have z2 : es2.size ≤ sizeLine := fits_of_scanBound hb2
    split
    · refine wpAny_bind (wpAny_storeSet_of ho2 hd2 ?_ z2)
      have hq := SetOf_store (knd := mixKind prog w) (es' := es2) (t' := { mask := t2.mask, place := t2.place, dummies := t2.dummies, finger := t2.finger, led := t2.led && t.led, moves := t2.moves, plain := t2.plain && t.plain }) ho2 hx2 hd2 hel2 hmem2 hb2 hf2
      rw [hn2] at hq
      exact wpAny_pure (q es _ s.drawn wo hn (Heap.SameBut.update s.heap r _) hq.2)
    · exact wpAny_pure (fin es s.drawn (List.Perm.refl _))
theorem or_step {es : List (Int × Value)} {k k' : Key} {x : Value} (hk : (mixKind prog w).is k x = true) : ((mixKind prog w).is k' x = true) ↔ k' = k :=
  ⟨fun h => (mixKind prog w).inj x k' k h hk, fun h => h ▸ hk⟩
theorem and_loop {id : String} {a b r : Addr} {S T : Key → Bool} {n m : Nat} {Q : Unit → Shared → Prop} (har : a ≠ r) (hbr : b ≠ r) (ha : s.heap.SetOf (mixKind prog w) a S n) (hb : s.heap.SetOf (mixKind prog w) b T m) (hr : s.heap.SetOf (mixKind prog w) r (fun _ => false) 0) (hn : n + 1 < scanBound)
    (q : ∀ (h' : Heap) (d : Drawn) (c : Nat), Heap.SameBut r s.heap h' → h'.SetOf (mixKind prog w) r (fun k => S k && T k) c → Q () { s with heap := h', drawn := d }) :
    wpAny (model prog w) A (do
      let was ← setEpoch a
      let es ← setWalkUnseen a [b, r] (some r)
      forIn es PUnit.unit fun x __s =>
          match x with
          | (h, x) => do
            holding [x] do
                let __do_lift ← setFind b x h
                if __do_lift.isSome = true then do
                    let _ ← setAddHashed r x h
                    pure ()
                  else pure ()
            Builtin.Frozenset.unchanged id a was
            pure (ForInStep.yield PUnit.unit)
      pure ()) Q E s := by
  have ha' := ha
  obtain ⟨o, es0, ep, t, ho, hx, hd, hel, hmem, hbd, hf, hes⟩ := ha
  refine wpAny_bind (wpAny_setEpoch_of ho hd hf ?_)
  refine wpAny_bind (unseen ha' hb hr fun es h1 d wk hsz sb1 hr1 => ?_)
  have ho1 : h1.get? a = some o := by rw [← ho]; exact sb1.2 a har
  obtain ⟨wk1, wk2⟩ := wk
  have hb1 : h1.SetOf (mixKind prog w) b T m := setOf_at hb fun o2 e => by rw [← e]; exact sb1.2 b hbr
  refine wpAny_bind (MeetsSeq2.wpAny_forIn_array _ (fun rest _ s' => ∃ (dn : List (Int × Value)) (h' : Heap) (c : Nat), es.toList = dn ++ rest ∧ s' = { s with heap := h', drawn := d } ∧ Heap.SameBut r h1 h' ∧
    h'.SetOf (mixKind prog w) r (fun k => T k && dn.any fun e => (mixKind prog w).is k e.2) c ∧ c ≤ dn.length) _ ?turn ?fin es PUnit.unit ⟨[], h1, 0, rfl, rfl, Heap.SameBut.refl r h1, by simpa using hr1, Nat.le_refl _⟩)
  case turn =>
    rintro ⟨h, x⟩ rest b' s' ⟨dn, h', c, ed, rfl, sb, hS, hc⟩
    obtain ⟨⟨k, hk, hh⟩, sc⟩ := wk1 (h, x) (by rw [ed]; exact List.mem_append_right _ (List.mem_cons_self ..))
    simp only at hh hk sc
    subst hh
    have hb' : h'.SetOf (mixKind prog w) b T m := setOf_at hb1 fun o2 e => by rw [← e]; exact sb.2 b hbr
    have ho' : h'.get? a = some o := by rw [← ho1]; exact sb.2 a har
    have eany : ∀ k', ((dn ++ [((mixKind prog w).hash k, x)]).any fun e => (mixKind prog w).is k' e.2) = ((dn.any fun e => (mixKind prog w).is k' e.2) || decide (k' = k)) := fun k' => by
      rw [List.any_append]
      congr 1
      show ((mixKind prog w).is k' x || false) = _
      rw [Bool.or_false]
      exact KeyKind.is_eq_decide hk k'
    have hlen : dn.length + 1 ≤ n := by
      have : es.toList.length = n := by rw [Array.length_toList]; exact hsz
      rw [ed, List.length_append, List.length_cons] at this
      omega
    refine wpAny_bind (wpAny_holding (wpAny_bind (wpAny_setFind_of hk sc hb' fun res hres => ?_)))
    have back : ∀ (h2 : Heap) (R : ForInStep PUnit → Shared → Prop), Heap.SameBut r h1 h2 → R (.yield ⟨⟩) { s with heap := h2, drawn := d } → wpAny (model prog w) A (do
          Builtin.Frozenset.unchanged id a ep
          pure (ForInStep.yield PUnit.unit)) R E { s with heap := h2, drawn := d } := fun h2 R sb2 hR => by
      unfold Builtin.Frozenset.unchanged
      have ho2 : h2.get? a = some o := by rw [← ho1]; exact sb2.2 a har
      refine wpAny_bind (wpAny_bind (wpAny_setEpoch_of (s := { s with heap := h2, drawn := d }) ho2 hd hf ?_))
      refine wp_if_neg (by simp) ?_
      exact wpAny_pure (wpAny_pure hR)
    cases hT : T k with
    | true =>
      rw [hT] at hres
      rw [hres]
      refine wp_if_pos rfl ?_
      refine wpAny_bind (wpAny_setAddHashed_of (s := { s with heap := h', drawn := d }) hk sc hS (by omega) fun h2 sb2 hS2 => wpAny_pure ?_)
      refine back h2 _ (sb.trans sb2) ⟨dn ++ [((mixKind prog w).hash k, x)], h2, _, by rw [ed]; simp, rfl, sb.trans sb2, cast (congrArg (fun f => h2.SetOf (mixKind prog w) r f _) (funext fun k' => ?_)) hS2, by rw [List.length_append]; show _ ≤ dn.length + 1; split <;> omega⟩
      rw [eany k']
      by_cases e : k' = k
      · subst e
        simp [hT]
      · simp [e]
    | false =>
      rw [hT] at hres
      rw [hres]
      refine wp_if_neg (by decide) (wpAny_pure ?_)
      refine back h' _ sb ⟨dn ++ [((mixKind prog w).hash k, x)], h', c, by rw [ed]; simp, rfl, sb, cast (congrArg (fun f => h'.SetOf (mixKind prog w) r f c) (funext fun k' => ?_)) hS, by rw [List.length_append]; show _ ≤ dn.length + 1; omega⟩
      rw [eany k']
      by_cases e : k' = k
      · subst e
        simp [hT]
      · simp [e]
  case fin =>
    rintro b' s' ⟨dn, h', c, ed, rfl, sb, hS, hc⟩
    rw [List.append_nil] at ed
    refine wpAny_pure (q h' d c (sb1.trans sb) (cast (congrArg (fun f => h'.SetOf (mixKind prog w) r f c) (funext fun k' => ?_)) hS))
    rw [← ed]
    have := wk2 k'
    cases hS' : S k' with
    | true =>
      obtain ⟨e, he, hi⟩ := this.mp hS'
      rw [List.any_eq_true.mpr ⟨e, he, hi⟩, Bool.and_true, Bool.true_and]
    | false =>
      have : (es.toList.any fun e => (mixKind prog w).is k' e.2) = false := by
        rw [List.any_eq_false]
        intro e he hi
        rw [this.mpr ⟨e, he, hi⟩] at hS'
        cases hS'
      rw [this, Bool.and_false, Bool.false_and]
theorem set_and {a b : Addr} {S T : Key → Bool} {n m : Nat} {Q : Value → Shared → Prop} (hab : a ≠ b) (ha : s.heap.SetOf (mixKind prog w) a S n) (hb : s.heap.SetOf (mixKind prog w) b T m) (hn : n + 1 < scanBound) (hm : m + 1 < scanBound)
    (q : ∀ (h' : Heap) (d : Drawn) (c : Nat), (∀ x o, s.heap.get? x = some o → h'.get? x = some o) → h'.SetOf (mixKind prog w) s.heap.objs.size (fun k => S k && T k) c → Q (.ref s.heap.objs.size) { s with heap := h', drawn := d }) :
    wpAny (model prog w) A (call (.builtin "set.__and__") [.ref a, .ref b]) Q E s := by
  have Ta := setOf_type (h := s) ha
  refine wpAny_call_entry PySem.F.slot_set_and Ta entry_set_and ?_ (PySem.F.args_set_and_2 _ _)
  unfold Builtin.«frozenset.__and__»
  show wpAny _ _ (Builtin.Frozenset.slot1 "__and__" ⟨[.ref a, .ref b], []⟩ >>= _) _ _ s
  unfold Builtin.Frozenset.slot1 slotArgs
  refine wpAny_bind (wpAny_bind (wpAny_pure (wpAny_pure ?_)))
  dsimp only
  refine wpAny_bind (wpAny_bind (anySet_set Ta (anySet_set (setOf_type (h := s) hb) ?_)))
  refine wp_if_neg (by decide) ?_
  refine wpAny_bind (wpAny_pure ?_)
  refine wpAny_bind (m := Builtin.Frozenset.intersection _ a (.ref b)) ?_
  unfold Builtin.Frozenset.intersection
  have hba : (Value.ref b == Value.ref a) = false := by
    rw [beq_eq_false_iff_ne]
    intro e
    exact hab (Value.ref.inj e).symm
  refine wp_if_neg (by rw [hba]; decide) ?_
  refine wpAny_bind (m := Builtin.Frozenset.baseOf a) ?_
  unfold Builtin.Frozenset.baseOf
  refine wpAny_bind (wpAny_isInstance Ta PySem.F.sub_set_set (wpAny_pure ?_))
  refine wpAny_bind (wpAny_newSet_of (knd := mixKind prog w) fun led hnew => ?_)
  have hla : a < s.heap.objs.size := by obtain ⟨o, _, _, _, ho, _⟩ := ha; exact Heap.lt_size ho
  have hlb : b < s.heap.objs.size := by obtain ⟨o, _, _, _, ho, _⟩ := hb; exact Heap.lt_size ho
  have nar : a ≠ s.heap.objs.size := Nat.ne_of_lt hla
  have nbr : b ≠ s.heap.objs.size := Nat.ne_of_lt hlb
  have ha2 := setOf_at ha fun o e => Heap.get?_push_of_some { cls := .type "set", dict := none, data := .set #[] 0 (.fresh 0 0 led) } e
  have hb2 := setOf_at hb fun o e => Heap.get?_push_of_some { cls := .type "set", dict := none, data := .set #[] 0 (.fresh 0 0 led) } e
  have hk : ∀ x o, s.heap.get? x = some o → (s.heap.push { cls := .type "set", dict := none, data := .set #[] 0 (.fresh 0 0 led) }).get? x = some o := fun x o e => Heap.get?_push_of_some _ e
  generalize s.heap.push { cls := .type "set", dict := none, data := .set #[] 0 (.fresh 0 0 led) } = h1 at *
  refine wpAny_bind (wpAny_pure ?_)
  refine wpAny_bind (wpAny_holding (wpAny_bind (anySet_set (setOf_type (h := { s with heap := h1 }) hb2) ?_)))
  refine wp_if_pos rfl ?_
  refine wpAny_bind (wpAny_pure ?_)
  refine wpAny_bind (sizeOf_set (s := { s with heap := h1 }) hb2 ?_)
  refine wpAny_bind (sizeOf_set (s := { s with heap := h1 }) ha2 ?_)
  have fin : ∀ (h' : Heap) (d : Drawn) (c : Nat), Heap.SameBut s.heap.objs.size h1 h' → h'.SetOf (mixKind prog w) s.heap.objs.size (fun k => S k && T k) c →
      wpAny (model prog w) A.in1 (pure (Value.ref s.heap.objs.size)) (fun a s' => wpAny (model prog w) A.in1 (ret a) (fun fin s' => ∃ v, fin = Fin.done (Flow.ret v) ∧ Q v s') E s') E { s with heap := h', drawn := d } := fun h' d c sb hS =>
    wpAny_pure (wpAny_pure ⟨_, rfl, q h' d c (fun x o e => by
      have hx := Heap.lt_size e
      rw [← hk x o e]
      exact sb.2 x (Nat.ne_of_lt hx)) hS⟩)
  split
  rename_i asked walked hw
  by_cases hmn : m > n
  · rw [if_pos hmn] at hw
    cases hw
    exact and_loop (s := { s with heap := h1 }) nar nbr ha2 hb2 hnew hn fun h' d c sb hS => fin h' d c sb hS
  · rw [if_neg hmn] at hw
    cases hw
    exact and_loop (s := { s with heap := h1 }) nbr nar hb2 ha2 hnew hm fun h' d c sb hS => fin h' d c sb (cast (congrArg (fun f => h'.SetOf (mixKind prog w) s.heap.objs.size f c) (funext fun k' => Bool.and_comm _ _)) hS)
end
/-- a & b, sets of texts -/
def rAndK (P : Program) (w : World) : R2 := fun x y H Q => ∃ (a b : Addr) (S T : Key → Bool) (n m : Nat), x = .ref a ∧ y = .ref b ∧ a ≠ b ∧ H a = some (SetK P w a S n) ∧ H b = some (SetK P w b T m) ∧ n + 1 < scanBound ∧ m + 1 < scanBound ∧
  ∀ r c, H r = none → c < scanBound → (0 < c ↔ ∃ k, S k = true ∧ T k = true) → Q (.ref r) (upd H r (SetK P w r (fun k => S k && T k) c))
theorem setOf_pos {P : Program} {w : World} {h : Heap} {a : Addr} {S : Key → Bool} {c : Nat} (R : h.SetOf (mixKind P w) a S c) : 0 < c ↔ ∃ k, S k = true := by
  obtain ⟨o, es, ep, t, ho, _, hd, hel, hmem, _, hf, rfl⟩ := R
  constructor
  · intro hp
    have hl : 0 < es.toList.length := by rw [Array.length_toList]; exact hp
    have hm : es.toList[0] ∈ es.toList := List.getElem_mem hl
    obtain ⟨⟨k, hk, _⟩, _⟩ := hel _ hm
    exact ⟨k, (hmem k).mpr ⟨_, hm, hk⟩⟩
  · rintro ⟨k, hk⟩
    obtain ⟨e, he, _⟩ := (hmem k).mp hk
    have := List.length_pos_of_mem he
    rwa [Array.length_toList] at this
theorem op_andK {X : Cx} : OpR X (binaryOp .BitAnd) (rAndK X.prog X.w) := by
  intro pins s σ H x y v u Q I rx ry h
  obtain ⟨a, b, S, T, n, m, rfl, rfl, hab, ha, hb, hn, hm, q⟩ := h
  cases rx
  cases ry
  have Sa := setK_get I ha
  have Sb := setK_get I hb
  refine wpAny_binaryOp_same (op := .BitAnd) (T := "set") (setOf_type (h := s) Sa) (setOf_type (h := s) Sb) PySem.F.fills_set_and PySem.F.slot_set_and (set_and hab Sa Sb hn hm fun h' d c k hS => ⟨by simp, ?_⟩)
  have J := (Inv.draws I d).laid (t' := s.toks) k (Nat.le_refl _) (setK_new hS)
  refine ⟨.ref s.heap.objs.size, _, J, rfl, q _ c (I.hok.fresh (Nat.le_refl _)) (by obtain ⟨_, _, _, _, _, _, _, _, _, hb, _, rfl⟩ := hS; exact hb) ?_⟩
  rw [setOf_pos hS]
  simp
end Kk

/-! words that a recursion draws -/
namespace Wd
open PySem
/-- the name made as the i-th one -/
def mkN (f : Nat → Bool) (i : Nat) : Nm := if f i then lett i else 113 :: lett i
structure GenR (names : List Nm) (g L : Nat) (t : T) : Prop where
  sc : t.sc
  aps : t.aps = g
  lv : t.lv.Perm (names ++ t.tks)
  tk : ∃ f : Nat → Bool, t.tks = (List.range' L (g + 1 - names.length)).map (mkN f)
theorem GenR.mkNm (n : Nm) (L : Nat) : GenR [n] 0 L (.nm n) := ⟨trivial, rfl, List.Perm.refl _, fun _ => true, rfl⟩
theorem mkN_congr {f h : Nat → Bool} {l : List Nat} (e : ∀ i ∈ l, f i = h i) : l.map (mkN f) = l.map (mkN h) := List.map_congr_left fun i hi => by unfold mkN; rw [e i hi]
theorem GenR.mkTk {names : List Nm} {g L : Nat} {b : T} {x : Bool} (h : GenR (names ++ [if x then lett L else 113 :: lett L]) g (L + 1) b) (hl : names.length ≤ g) : GenR names g L (.tk (if x then lett L else 113 :: lett L) b) := by
  obtain ⟨s, a, l, f, t⟩ := h
  refine ⟨⟨l.mem_iff.mpr (by simp), s⟩, a, ?_, fun i => if i = L then x else f i, ?_⟩
  · show b.lv.Perm (names ++ (_ :: b.tks))
    refine l.trans ?_
    rw [List.append_assoc]
    exact List.Perm.refl _
  · show _ :: b.tks = _
    rw [t]
    simp only [List.length_append, List.length_cons, List.length_nil]
    rw [show g + 1 - names.length = (g + 1 - (names.length + (0 + 1))) + 1 by omega, List.range'_succ, List.map_cons]
    congr 1
    · simp [mkN]
    · refine mkN_congr fun i hi => ?_
      have := (List.mem_range'_1.mp hi).1
      show f i = if i = L then x else f i
      rw [if_neg (by omega)]
theorem GenR.mkAp {names r1 r2 : List Nm} {g m1 m2 L : Nat} {f a : T} (h1 : GenR r1 m1 L f) (h2 : GenR r2 m2 (L + (m1 + 1 - r1.length)) a) (hr : (r1 ++ r2).Perm names) (hm : m1 + m2 + 1 = g) (l1 : r1.length ≤ m1 + 1) (l2 : r2.length ≤ m2 + 1) : GenR names g L (.ap f a) := by
  obtain ⟨s1, a1, p1, f1, t1⟩ := h1
  obtain ⟨s2, a2, p2, f2, t2⟩ := h2
  have hl := hr.length_eq
  rw [List.length_append] at hl
  refine ⟨⟨s1, s2⟩, by show f.aps + a.aps + 1 = g; rw [a1, a2]; exact hm, ?_, fun i => if i < L + (m1 + 1 - r1.length) then f1 i else f2 i, ?_⟩
  · show (f.lv ++ a.lv).Perm (names ++ (f.tks ++ a.tks))
    refine (p1.append p2).trans ?_
    refine List.Perm.trans ?_ (hr.append_right _)
    rw [List.append_assoc, List.append_assoc]
    refine List.Perm.append_left _ ?_
    rw [← List.append_assoc, ← List.append_assoc]
    exact List.perm_append_comm.append_right _
  · show f.tks ++ a.tks = _
    rw [t1, t2, show g + 1 - names.length = (m1 + 1 - r1.length) + (m2 + 1 - r2.length) by omega, ← List.range'_append_1, List.map_append]
    congr 1
    · refine mkN_congr fun i hi => ?_
      have := List.mem_range'_1.mp hi
      rw [if_pos (by omega)]
    · refine mkN_congr fun i hi => ?_
      have := List.mem_range'_1.mp hi
      rw [if_neg (by omega)]
theorem lett_small {i : Nat} (h : i < 26) : lett i = [97 + i] := by
  have : ((List.range 26).all fun i => lett i == [97 + i]) = true := by decide +kernel
  exact eq_of_beq (List.all_eq_true.mp this i (List.mem_range.mpr h))
theorem mkN_ok {f : Nat → Bool} {i : Nat} (h : i < 26) : nmOk (mkN f i) := by
  unfold mkN
  rw [lett_small h]
  split
  · refine ⟨by simp, by simp, fun c hc => ?_⟩
    have : c = 97 + i := by simpa using hc
    omega
  · refine ⟨by simp, by simp, fun c hc => ?_⟩
    rcases List.mem_cons.mp hc with rfl | hc
    · omega
    · have : c = 97 + i := by simpa using hc
      omega
theorem mkN_inj {f : Nat → Bool} {i j : Nat} (hi : i < 26) (hj : j < 26) (e : mkN f i = mkN f j) : i = j := by
  unfold mkN at e
  rw [lett_small hi, lett_small hj] at e
  split at e <;> split at e
  · simp at e; omega
  · simp at e
  · simp at e
  · simp at e; omega
/-- the names given are none of those that are made -/
def Apt (names : List Nm) (L c : Nat) : Prop := ∀ n ∈ names, ∀ f i, L ≤ i → i < L + c → n ≠ mkN f i
theorem GenR.tksNd {names : List Nm} {g L : Nat} {t : T} (h : GenR names g L t) (hb : L + (g + 1 - names.length) ≤ 26) : t.tks.Nodup := by
  obtain ⟨s, a, l, f, e⟩ := h
  rw [e]
  refine List.pairwise_map.mpr ?_
  refine List.Pairwise.imp_of_mem ?_ (List.nodup_range' (step := 1))
  intro x y hx hy hne q
  have h1 := List.mem_range'_1.mp hx
  have h2 := List.mem_range'_1.mp hy
  exact hne (mkN_inj (by omega) (by omega) q)
theorem GenR.vd {names : List Nm} {g L : Nat} {t : T} (h : GenR names g L t) (hb : L + (g + 1 - names.length) ≤ 26) (nd : names.Nodup) (ok : ∀ n ∈ names, nmOk n) (ap : Apt names L (g + 1 - names.length)) : Vd t.ws := by
  have tn := h.tksNd hb
  obtain ⟨s, a, l, f, e⟩ := h
  have tm : ∀ n ∈ t.tks, ∃ i, L ≤ i ∧ i < L + (g + 1 - names.length) ∧ n = mkN f i := fun n hn => by
    rw [e] at hn
    obtain ⟨i, hi, rfl⟩ := List.mem_map.mp hn
    have := List.mem_range'_1.mp hi
    exact ⟨i, this.1, this.2, rfl⟩
  have nn : (names ++ t.tks).Nodup := List.nodup_append.mpr ⟨nd, tn, fun x hx y hy q => by
    obtain ⟨i, h1, h2, h3⟩ := tm y hy
    exact ap x hx f i h1 h2 (q.trans h3)⟩
  refine ⟨⟨t, rfl, s, l.nodup_iff.mpr nn, tn⟩, fun w hw => ?_⟩
  have okt : ∀ n ∈ t.tks, nmOk n := fun n hn => by
    obtain ⟨i, h1, h2, rfl⟩ := tm n hn
    exact mkN_ok (by omega)
  cases w with
  | ap => trivial
  | tk n => exact okt n (mem_tks_ws hw)
  | nm n =>
    rcases List.mem_append.mp (l.mem_iff.mp (mem_lv_ws hw)) with q | q
    · exact ok n q
    · exact okt n q
end Wd

set_option maxHeartbeats 2000000
namespace Kk
open PySem PySem.Spec PyProof.Rows L2
/-! ### comprehensions that keep or change each item by itself -/
section
variable {α : Type} {K : PySem.W.Frag} {a D : Addr} {ws : List α} {f : α → V} {r : α → Option V} {g : TG} {tt : TT} {te : TE} {vs : List Nat} {σ : L2.St} {H : Hp} {Qd : Hp → Prop}
theorem fm_step {w : α} {i : Nat} (hw : ws[i]? = some w) : (ws.take (i + 1)).filterMap r = (ws.take i).filterMap r ++ (match r w with | some y => [y] | none => []) := by
  rw [List.take_add_one, hw, List.filterMap_append]
  cases h : r w with
  | none => simp [h]
  | some y => simp [h]
theorem fm_len (i : Nat) : ((ws.take i).filterMap r).length ≤ ws.length := Nat.le_trans (List.length_filterMap_le _ _) (by rw [List.length_take]; exact Nat.min_le_right _ _)
theorem lc_fmT (hq : SqT K H a (ws.map f)) (nD : H D = none) (hl : ws.length ≤ 100000)
    (hs : ∀ (i : Nat) (w : α) (H' : Hp) (Qy : V → Hp → Prop) (Qn : Hp → Prop), ws[i]? = some w → Same H H' → (∀ y H4, Same H' H4 → r w = some y → Qy y H4) → (∀ H3, Same H' H3 → r w = none → Qn H3) →
      g (f w) (wipe σ vs) H' fun σ2 H2 => wipe σ2 vs = wipe σ vs ∧ tt σ2 H2 fun b H3 => if b = true then te σ2 H3 Qy else Qn H3)
    (hd : ∀ H', Same H H' → H' D = some (.lst (ws.filterMap r)) → Qd H') :
    ∃ W : Nat → Nat → Hp → Prop, (∃ m, W 0 m (upd H D (.lst []))) ∧ ∀ i m H, W i m H →
      ((Itt K a).stop i H ∧ Qd H) ∨ ((Itt K a).go i H ∧ ∃ Nx : Hp → Prop, (∀ H', Nx H' → ∃ m', m' < m ∧ W (i + 1) m' H') ∧ ∀ x H', (Itt K a).yld i H x H' → g x (wipe σ vs) H' fun σ2 H2 => wipe σ2 vs = wipe σ vs ∧ tt σ2 H2 fun b H3 =>
        if b = true then te σ2 H3 fun y H4 => ∃ acc, H4 D = some (.lst acc) ∧ acc.length < sizeLine ∧ Nx (upd H4 D (.lst (acc ++ [y]))) else Nx H3) := by
  have off : ∀ b o, H b = some o → b ≠ D := fun b o hb => ne_of_none hb nD
  refine lc_tup (K := K) (a := a) (xs := ws.map f) (fun i H' => Same H H' ∧ H' D = some (.lst ((ws.take i).filterMap r))) ⟨same_upd nD, upd_same⟩ (fun i H' _ s => SqT.same hq s.1) (fun i x H' hx s => ?_) (fun H' s => ?_)
  · obtain ⟨S1, L1⟩ := s
    obtain ⟨w, hw, rfl⟩ := map_get hx
    refine hs i w H' _ _ hw S1 (fun y H4 S4 hy => ⟨_, S4 _ _ L1, Nat.lt_of_le_of_lt (Nat.le_trans (fm_len i) hl) (by decide), fun b o hb => ?_, ?_⟩) (fun H3 S3 hn => ⟨S1.trans S3, ?_⟩)
    · rw [upd_ne (off b o hb)]
      exact S4 _ _ (S1 _ _ hb)
    · rw [upd_same, fm_step hw, hy]
    · rw [S3 _ _ L1, fm_step hw, hn, List.append_nil]
  · obtain ⟨S1, L1⟩ := s
    rw [List.length_map, List.take_length] at L1
    exact hd H' S1 L1
theorem lc_fmL (hq : SqL K H a (ws.map f)) (nD : H D = none) (hl : ws.length ≤ 100000)
    (hs : ∀ (i : Nat) (w : α) (H' : Hp) (Qy : V → Hp → Prop) (Qn : Hp → Prop), ws[i]? = some w → Same H H' → (∀ y H4, Same H' H4 → r w = some y → Qy y H4) → (∀ H3, Same H' H3 → r w = none → Qn H3) →
      g (f w) (wipe σ vs) H' fun σ2 H2 => wipe σ2 vs = wipe σ vs ∧ tt σ2 H2 fun b H3 => if b = true then te σ2 H3 Qy else Qn H3)
    (hd : ∀ H', Same H H' → H' D = some (.lst (ws.filterMap r)) → Qd H') :
    ∃ W : Nat → Nat → Hp → Prop, (∃ m, W 0 m (upd H D (.lst []))) ∧ ∀ i m H, W i m H →
      ((Itl K a).stop i H ∧ Qd H) ∨ ((Itl K a).go i H ∧ ∃ Nx : Hp → Prop, (∀ H', Nx H' → ∃ m', m' < m ∧ W (i + 1) m' H') ∧ ∀ x H', (Itl K a).yld i H x H' → g x (wipe σ vs) H' fun σ2 H2 => wipe σ2 vs = wipe σ vs ∧ tt σ2 H2 fun b H3 =>
        if b = true then te σ2 H3 fun y H4 => ∃ acc, H4 D = some (.lst acc) ∧ acc.length < sizeLine ∧ Nx (upd H4 D (.lst (acc ++ [y]))) else Nx H3) := by
  have off : ∀ b o, H b = some o → b ≠ D := fun b o hb => ne_of_none hb nD
  refine lc_list (K := K) (a := a) (xs := ws.map f) (fun i H' => Same H H' ∧ H' D = some (.lst ((ws.take i).filterMap r))) ⟨same_upd nD, upd_same⟩ (fun i H' _ s => s.1.seq hq) (fun i x H' hx s => ?_) (fun H' s => ?_)
  · obtain ⟨S1, L1⟩ := s
    obtain ⟨w, hw, rfl⟩ := map_get hx
    refine hs i w H' _ _ hw S1 (fun y H4 S4 hy => ⟨_, S4 _ _ L1, Nat.lt_of_le_of_lt (Nat.le_trans (fm_len i) hl) (by decide), fun b o hb => ?_, ?_⟩) (fun H3 S3 hn => ⟨S1.trans S3, ?_⟩)
    · rw [upd_ne (off b o hb)]
      exact S4 _ _ (S1 _ _ hb)
    · rw [upd_same, fm_step hw, hy]
    · rw [S3 _ _ L1, fm_step hw, hn, List.append_nil]
  · obtain ⟨S1, L1⟩ := s
    rw [List.length_map, List.take_length] at L1
    exact hd H' S1 L1
end
end Kk

namespace Wd
open PySem L2
theorem filterMap_ix {α β : Type} {f : α → Option β} : ∀ {l : List α} {i j : Nat} {x y : α} {b : β}, (l.filterMap f).Nodup → l[i]? = some x → l[j]? = some y → f x = some b → f y = some b → i = j
  | [], i, j, x, y, b, _, h, _, _, _ => by simp at h
  | a :: l, i, j, x, y, b, nd, h1, h2, e1, e2 => by
    have tail : (l.filterMap f).Nodup := by
      cases h : f a with
      | none => rwa [List.filterMap_cons_none h] at nd
      | some c => rw [List.filterMap_cons_some h] at nd; exact (List.nodup_cons.mp nd).2
    cases i with
    | zero =>
      cases j with
      | zero => rfl
      | succ j =>
        simp at h1 h2
        subst h1
        rw [List.filterMap_cons_some e1] at nd
        exact absurd (List.mem_filterMap.mpr ⟨y, List.mem_of_getElem? h2, e2⟩) (List.nodup_cons.mp nd).1
    | succ i =>
      cases j with
      | zero =>
        simp at h1 h2
        subst h2
        rw [List.filterMap_cons_some e2] at nd
        exact absurd (List.mem_filterMap.mpr ⟨x, List.mem_of_getElem? h1, e1⟩) (List.nodup_cons.mp nd).1
      | succ j =>
        simp at h1 h2
        rw [filterMap_ix tail h1 h2 e1 e2]
/-- no word but "@" stands twice -/
theorem Vd.once {ws : List W} (h : Vd ws) {i j : Nat} {w : W} (hw : w ≠ .ap) (h1 : ws[i]? = some w) (h2 : ws[j]? = some w) : i = j := by
  obtain ⟨⟨t, rfl, s, nl, nt⟩, ok⟩ := h
  cases w with
  | ap => exact absurd rfl hw
  | tk n => rw [T.tks_ws] at nt; exact filterMap_ix nt h1 h2 rfl rfl
  | nm n => rw [T.lv_ws] at nl; exact filterMap_ix nl h1 h2 rfl rfl
theorem Vd.ends {ws : List W} (h : Vd ws) : ∃ E, IsEnds ws E := by
  obtain ⟨⟨t, rfl, s, nl, nt⟩, ok⟩ := h
  exact ⟨t.e, t.isEnds⟩
theorem Vd.pos {ws : List W} (h : Vd ws) : 0 < ws.length := by
  obtain ⟨⟨t, rfl, s, nl, nt⟩, ok⟩ := h
  exact t.pos
theorem Vd.okAt {ws : List W} (h : Vd ws) {i : Nat} {w : W} (hw : ws[i]? = some w) : wOk w := h.ok w (List.mem_of_getElem? hw)
/-- a taken name stands in the body -/
theorem Vd.used {ws : List W} (h : Vd ws) {E : Nat → Nat} (g : IsEnds ws E) {i : Nat} {n : Nm} (hw : ws[i]? = some (.tk n)) : ∃ j, ws[j]? = some (.nm n) ∧ i < j ∧ j < E i := by
  obtain ⟨⟨t, rfl, s, nl, nt⟩, ok⟩ := h
  obtain ⟨j, h1, h2, h3⟩ := T.used t i n s hw
  exact ⟨j, h1, h2, by rw [g.uniq t.isEnds _ i rfl (T.lt_of_get hw)]; exact h3⟩
/-- the part at a place -/
theorem Vd.part {ws : List W} (h : Vd ws) {E : Nat → Nat} (g : IsEnds ws E) {p : Nat} (hp : p < ws.length) :
    Vd ((ws.drop p).take (E p - p)) ∧ ∃ F, IsEnds ((ws.drop p).take (E p - p)) F ∧ ∀ i, i < ((ws.drop p).take (E p - p)).length → F i + p = E (p + i) := by
  obtain ⟨⟨t, rfl, s, nl, nt⟩, ok⟩ := h
  obtain ⟨u, h1, h2, h3, h4, h5⟩ := T.part t p s hp
  have ep : E p = t.e p := g.uniq t.isEnds _ p rfl hp
  rw [ep, ← h1]
  have hu : u.ws.length = t.e p - p := by
    have := T.e_lt t p hp
    rw [h1, List.length_take, List.length_drop]; omega
  refine ⟨⟨⟨u, rfl, h2, h3.nodup nl, h4.nodup nt⟩, fun w hw => ok w ?_⟩, u.e, u.isEnds, fun i hi => ?_⟩
  · rw [h1] at hw
    exact List.mem_of_mem_drop (List.mem_of_mem_take hw)
  · rw [h5 i hi]
    have := T.e_lt t p hp
    exact (g.uniq t.isEnds _ (p + i) rfl (by omega)).symm
end Wd

namespace Wd
open PySem
/-! ### words that have parts behind them, by how many -/
def misF : List Nat → Nat → Nat → Option Nat
  | [], i, l => if l = 0 then none else some i
  | n :: ns, i, l => if l = 0 then some i else misF ns (i + 1) (l + n - 1)
inductive Wh : Nat → List Nat → Prop where
  | nil : Wh 0 []
  | cons {c n ns} : Wh (c + n) ns → Wh (c + 1) (n :: ns)
theorem Wh.mis {c : Nat} {ns : List Nat} (h : Wh c ns) : ∀ i, misF ns i c = none := by
  induction h with
  | nil => intro i; rfl
  | @cons c n ns h ih =>
    intro i
    unfold misF
    rw [if_neg (by omega), show c + 1 + n - 1 = c + n by omega]
    exact ih _
def needW : W → Nat
  | .ap => 2
  | .tk _ => 1
  | .nm _ => 0
theorem T.wh : ∀ (t : T) (c : Nat) (r : List Nat), Wh c r → Wh (c + 1) (t.ws.map needW ++ r)
  | .nm n, c, r, h => by exact Wh.cons h
  | .tk n b, c, r, h => by
    show Wh (c + 1) (1 :: (b.ws.map needW ++ r))
    exact Wh.cons (T.wh b c r h)
  | .ap f a, c, r, h => by
    have e : (T.ap f a).ws.map needW ++ r = 2 :: (f.ws.map needW ++ (a.ws.map needW ++ r)) := by simp [T.ws, needW]
    rw [e]
    exact Wh.cons (T.wh f (c + 1) _ (T.wh a c r h))
theorem Vd.wh {ws : List W} (h : Vd ws) : Wh 1 (ws.map needW) := by
  obtain ⟨⟨t, rfl, s, nl, nt⟩, ok⟩ := h
  have := T.wh t 0 [] .nil
  rwa [List.append_nil] at this
theorem needW_le (w : W) : needW w ≤ 2 := by cases w <;> simp [needW]
def itE (E : Nat → Nat) (i : Nat) : Nat → Nat
  | 0 => i + 1
  | j + 1 => E (itE E i j)
structure EndsN (ns : List Nat) (E : Nat → Nat) : Prop where
  ex : ∀ i n, ns[i]? = some n → (∀ j, j < n → i < itE E i j ∧ itE E i j < ns.length) ∧ E i = itE E i n
  le : ∀ n, n ∈ ns → n ≤ 2
theorem IsEnds.needs {ws : List W} {E : Nat → Nat} (h : IsEnds ws E) : EndsN (ws.map needW) E := by
  refine ⟨fun i n hn => ?_, fun n hn => ?_⟩
  · rw [List.getElem?_map] at hn
    rw [List.length_map]
    cases hw : ws[i]? with
    | none => rw [hw] at hn; cases hn
    | some w =>
      rw [hw] at hn
      cases w with
      | nm x => cases hn; exact ⟨fun j (hj : j < 0) => absurd hj (by omega), h.nm i x hw⟩
      | tk x =>
        cases hn
        obtain ⟨h1, h2⟩ := h.tk i x hw
        refine ⟨fun j (hj : j < 1) => ?_, h2⟩
        have : j = 0 := by omega
        subst this
        exact ⟨by show i < i + 1; omega, h1⟩
      | ap =>
        cases hn
        obtain ⟨h1, h2, h3⟩ := h.ap i hw
        refine ⟨fun j (hj : j < 2) => ?_, h3⟩
        have l := h.lt (i + 1) h1
        match j, hj with
        | 0, _ => exact ⟨by show i < i + 1; omega, h1⟩
        | 1, _ => exact ⟨by show i < E (i + 1); omega, h2⟩
  · obtain ⟨w, _, rfl⟩ := List.mem_map.mp hn
    exact needW_le w
end Wd

set_option maxHeartbeats 2000000
namespace Kk
open PySem PySem.Spec PyProof.Rows L2 Wd
theorem for_enumL {K : PySem.W.Frag} {a : Addr} {xs : List V} {g : TG} {tb : TS} {D : Ends} {σ : L2.St} {H : Hp} (Pv : Nat → L2.St → Hp → Prop) (h0 : Pv 0 σ H) (hl : ∀ i σ H, i ≤ xs.length → Pv i σ H → SqL K H a xs)
    (hs : ∀ i x σ H T, xs[i]? = some x → Pv i σ H → H T = none → g (.ref T) σ (upd H T (.tup [.int (i : Nat), x])) fun σ2 H2 => tb { D with nx := Pv (i + 1), ct := Pv (i + 1), bk := D.nx } σ2 H2) (hd : ∀ σ H, Pv xs.length σ H → D.nx σ H) :
    ∃ W : Nat → Nat → L2.St → Hp → Prop, (∃ m, W 0 m σ H) ∧ ∀ i m σ H, W i m σ H →
      ((Ite K a).stop i H ∧ D.nx σ H) ∨ ((Ite K a).go i H ∧ ∃ N : L2.St → Hp → Prop, (∀ σ' H', N σ' H' → ∃ m', m' < m ∧ W (i + 1) m' σ' H') ∧ ∀ x H', (Ite K a).yld i H x H' → g x σ H' fun σ2 H2 => tb { D with nx := N, ct := N, bk := D.nx } σ2 H2) := by
  refine ⟨fun i m σ H => m = xs.length - i ∧ i ≤ xs.length ∧ Pv i σ H, ⟨xs.length, by simp, Nat.zero_le _, h0⟩, ?_⟩
  rintro i m σ H ⟨rfl, hi, p⟩
  have q := hl i σ H hi p
  by_cases hlt : i < xs.length
  · refine .inr ⟨⟨xs, xs[i], q, by simp [hlt]⟩, Pv (i + 1), fun σ' H' p' => ⟨xs.length - (i + 1), by omega, rfl, hlt, p'⟩, fun x H' y => ?_⟩
    obtain ⟨T, z, rfl, hT, rfl, hz⟩ := y
    exact hs i z σ H T (hz xs q) p hT
  · have e : i = xs.length := by omega
    subst e
    exact .inl ⟨⟨xs, q, Nat.le_refl _⟩, hd σ H p⟩
/-! ### numbers of parts -/
def nv (n : Nat) : V := .int (n : Nat)
def optV : Option Nat → V
  | none => .non
  | some i => .int (i : Nat)
def spMisfit (K : PySem.W.Frag) : Sp := fun vs H Q _ => ∃ (a : Addr) (ns : List Nat), vs = [.ref a] ∧ SqL K H a (ns.map nv) ∧ ns.length ≤ 200000 ∧ ∀ H', Same H H' → Q (optV (misF ns 0 1)) H'
abbrev s_misfit_index : Stmt := (top 5)
theorem sc_misfit_index : FnScope ["needs", "lacking", "at", "need"] ["needs"] (defScope s_misfit_index) := ⟨rfl, rfl, rfl, by decide +kernel, rfl, by decide +kernel, by decide +kernel⟩
theorem misF_drop {ns : List Nat} {i n : Nat} (h : ns[i]? = some n) (at' c : Nat) : misF (ns.drop i) at' c = if c = 0 then some at' else misF (ns.drop (i + 1)) (at' + 1) (c + n - 1) := by
  have hi : i < ns.length := by
    obtain ⟨h1, _⟩ := List.getElem?_eq_some_iff.mp h
    exact h1
  rw [List.drop_eq_getElem_cons hi]
  have : ns[i] = n := by
    obtain ⟨_, h2⟩ := List.getElem?_eq_some_iff.mp h
    exact h2
  rw [this]
  rfl
theorem mapN_get {ns : List Nat} {i : Nat} {x : V} (h : (ns.map nv)[i]? = some x) : ∃ n, ns[i]? = some n ∧ x = nv n := by
  rw [List.getElem?_map] at h
  cases hn : ns[i]? with
  | none => rw [hn] at h; cases h
  | some n => rw [hn] at h; exact ⟨n, rfl, (Option.some.inj h).symm⟩
theorem intz (c : Nat) : decide (V.int ((c : Nat) : Int) = V.int 0) = decide (c = 0) := by
  by_cases h : c = 0
  · subst h; exact (decide_eq_true rfl).trans (decide_eq_true rfl).symm
  · rw [decide_eq_false h]
    exact decide_eq_false fun e => h (by have := V.int.inj e; omega)
theorem c_misfit_index {P w K mg base} (B : Bt mg) (D : DefAt K mg "misfit_index" s_misfit_index) : Cal P w K mg base "misfit_index" 1 ["needs"] (spMisfit K) := by
  refine cal_of D sc_misfit_index (fun _ _ _ _ _ _ us hl => match us, hl with | [_], _ => rfl) (fun vs H Q E h => ?_) (fun fa cdv A outer st0 H vs Q E hr h => ?_)
  · obtain ⟨a, ws, rfl, _⟩ := h
    rfl
  · obtain ⟨a, ns, rfl, hq, hl, k⟩ := h
    refine ⟨_, (pss_cons (ps_set (i := 1) sc_misfit_index.nd rfl (by first | exact Or.inl rfl | exact Or.inr rfl) pe_int)
      (pss_cons (ps_for PassesOwn.never rfl (pi_enum (by rfl) B.b_enumerate (pa_cons (pv 0) pa_nil)) (pg_tup (by rfl) (pgs_cons (pg_name (i := 2) sc_misfit_index.nd rfl (by first | exact Or.inl rfl | exact Or.inr rfl)) (pgs_cons (pg_name (i := 3) sc_misfit_index.nd rfl (by first | exact Or.inl rfl | exact Or.inr rfl)) pgs_nil))) (pss_cons (ps_if (pt_cmpR op_eq (pv 1) pe_int (nomark _)) (pss_one (ps_ret (pv 2))) pss_nil)
      (pss_one (ps_aug (i := 1) sc_misfit_index.nd rfl (by first | exact Or.inl rfl | exact Or.inr rfl) (pe_op op_sub (pv 3) pe_int) ip_add))))
      (pss_one (ps_ret (pe_ifExp (pt_cmpR op_eq (pv 1) pe_int (nomark _)) pe_non (pe_callB call_len_seq (by rfl) B.b_len (by decide +kernel) (pa_cons (pv 0) pa_nil))))))), ?_⟩
    refine ⟨_, rfl, a, _, rfl, hq, for_enumL (K := K) (a := a) (xs := ns.map nv) (fun i σ H' => ∃ (v1 v2 : Option V) (c : Nat), σ = [some (.ref a), some (.int (c : Nat)), v1, v2] ∧ misF ns 0 1 = misF (ns.drop i) i c ∧ Same H H')
      ⟨none, none, 1, rfl, rfl, Same.refl H⟩ (fun i σ H' _ ⟨_, _, _, _, _, s⟩ => s.seq hq) ?_ ?_⟩
    · rintro i x σ H' T hx ⟨v1, v2, c, rfl, em, S1⟩ nT
      obtain ⟨n, hn, rfl⟩ := mapN_get hx
      have S2 : Same H (upd H' T (.tup [.int (i : Nat), nv n])) := S1.trans (same_upd nT)
      rw [misF_drop hn] at em
      refine ⟨T, _, rfl, SqT.of upd_same, rfl, _, _, rfl, _, _, rfl, rfl, ?_⟩
      refine ⟨_, rfl, rfl, _, rfl, ?_⟩
      rw [intz]
      by_cases hc : c = 0
      · rw [decide_eq_true hc]
        rw [if_pos hc] at em
        refine iteT ⟨_, rfl, ?_⟩
        have := k _ S2
        rw [em] at this
        exact this
      · rw [decide_eq_false hc]
        rw [if_neg hc] at em
        refine iteF ⟨_, rfl, _, rfl, _, _, rfl, rfl, _, _, rfl, rfl, ?_⟩
        refine ⟨some (.int (i : Nat)), some (nv n), c + n - 1, ?_, em, S2⟩
        rw [show (((c + n - 1 : Nat)) : Int) = (c : Int) + ((n : Int) - 1) by omega]
        rfl
    · rintro σ H' ⟨v1, v2, c, rfl, em, S1⟩
      rw [List.length_map, List.drop_length] at em
      have := k _ S1
      rw [em] at this
      refine ⟨_, rfl, rfl, _, rfl, ?_⟩
      rw [intz]
      by_cases hc : c = 0
      · rw [decide_eq_true hc]
        rw [show misF [] ns.length c = none by unfold misF; rw [if_pos hc]] at this
        exact iteT this
      · rw [decide_eq_false hc]
        rw [show misF [] ns.length c = some ns.length by unfold misF; rw [if_neg hc]] at this
        refine iteF ⟨_, rfl, _, _, rfl, .inl (S1.seq hq), ?_⟩
        rw [List.length_map]
        exact this
def endsV (n : Nat) (E : Nat → Nat) : List V := (List.range n).map fun i => V.int (E i : Nat)
theorem endsV_len (n : Nat) (E : Nat → Nat) : (endsV n E).length = n := by simp [endsV]
theorem endsV_get {n : Nat} {E : Nat → Nat} {i : Nat} (h : i < n) : (endsV n E)[i]? = some (.int (E i : Nat)) := by simp [endsV, h]
def spEndsBy (K : PySem.W.Frag) : Sp := fun vs H Q _ => ∃ (a : Addr) (ns : List Nat) (E : Nat → Nat), vs = [.ref a] ∧ SqL K H a (ns.map nv) ∧ EndsN ns E ∧ ns.length ≤ 200000 ∧
  ∀ H' q, Same H H' → H q = none → TupF H' q (endsV ns.length E) → Q (.ref q) H'
abbrev s_ends_by : Stmt := (top 6)
theorem sc_ends_by : FnScope ["needs", "behind", "at", "_"] ["needs"] (defScope s_ends_by) := ⟨rfl, rfl, rfl, by decide +kernel, rfl, by decide +kernel, by decide +kernel⟩
theorem c_ends_by {P w K mg base} (B : Bt mg) (D : DefAt K mg "ends_by" s_ends_by) : Cal P w K mg base "ends_by" 1 ["needs"] (spEndsBy K) := by
  refine cal_of D sc_ends_by (fun _ _ _ _ _ _ us hl => match us, hl with | [_], _ => rfl) (fun vs H Q E h => ?_) (fun fa cdv A outer st0 H vs Q E hr h => ?_)
  · obtain ⟨a, ws, E, rfl, _⟩ := h
    rfl
  · obtain ⟨a, ns, E, rfl, hq, he, hl, k⟩ := h
    refine ⟨_, (pss_cons (ps_set (i := 1) sc_ends_by.nd rfl (by first | exact Or.inl rfl | exact Or.inr rfl) (pe_op op_rep (pe_lst (pa_cons pe_int pa_nil)) (pe_callB call_len_seq (by rfl) B.b_len (by decide +kernel) (pa_cons (pv 0) pa_nil))))
      (pss_cons (ps_for PassesOwn.never rfl (pi_revR (by rfl) B.b_reversed (prg_1 (by rfl) B.b_range (pe_callB call_len_seq (by rfl) B.b_len (by decide +kernel) (pa_cons (pv 0) pa_nil)))) (pg_name (i := 2) sc_ends_by.nd rfl (by first | exact Or.inl rfl | exact Or.inr rfl)) (pss_cons (ps_asg (pe_op op_add (pv 2) pe_int) (pg_sub (pv 1) (pv 2) set_list))
      (pss_one (ps_for PassesOwn.never rfl (pi_range1 (by rfl) B.b_range (pa_cons (pe_ix ix_list (pv 0) (pv 2) (fun _ _ => rfl)) pa_nil)) (pg_name (i := 3) sc_ends_by.nd rfl (by first | exact Or.inl rfl | exact Or.inr rfl)) (pss_one (ps_asg (pe_ix ix_list (pv 1) (pe_ix ix_list (pv 1) (pv 2) (fun _ _ => rfl)) (fun _ _ => rfl)) (pg_sub (pv 1) (pv 2) set_list)))))))
      (pss_one (ps_ret (pe_callTy call_tupleF (by rfl) B.b_tuple (by decide +kernel) (pa_cons (pv 1) pa_nil)))))), ?_⟩
    have hlm : (ns.map nv).length = ns.length := List.length_map ..
    -- behind = [0] * len(words)
    refine ⟨(by show 1 ≤ sizeLine; decide), fun z nz => ?_⟩
    have Sz : Same H (upd H z (.lst [.int 0])) := same_upd nz
    have Lz : upd H z (.lst [.int 0]) z = some (.lst [.int 0]) := upd_same
    generalize upd H z (.lst [.int 0]) = H1 at *
    refine ⟨_, rfl, _, _, rfl, .inl (Sz.seq hq), z, _, _, rfl, rfl, Lz, by omega, by omega, ?_, fun b nb => ?_⟩
    · rw [hlm, sizeLine_eq]; show 1 * _ ≤ _; omega
    have eb : (List.replicate (((ns.map nv).length : Nat) : Int).toNat [V.int 0]).flatten = List.replicate ns.length (V.int 0) := by
      rw [hlm]
      show (List.replicate ns.length [V.int 0]).flatten = _
      induction ns.length with
      | zero => rfl
      | succ n ih => rw [List.replicate_succ, List.flatten_cons, ih, List.replicate_succ]; rfl
    rw [eb]
    have Sb : Same H (upd H1 b (.lst (List.replicate ns.length (V.int 0)))) := Sz.trans (same_upd nb)
    have Lb : upd H1 b (.lst (List.replicate ns.length (V.int 0))) b = some (.lst (List.replicate ns.length (V.int 0))) := upd_same
    have fb : H b = none := Sz.free nb
    generalize upd H1 b (.lst (List.replicate ns.length (V.int 0))) = H2 at *
    have en : ((((ns.map nv).length : Nat) : Int) - 0).toNat = ns.length := by rw [hlm]; omega
    refine ⟨_, rfl, _, _, rfl, .inl (Sb.seq hq), _, rfl, by decide, by decide, by omega, by omega, for_rangeC (lo := (0 : Int) + (((((ns.map nv).length : Nat) : Int) - 0).toNat : Nat) - 1) (c := -1) (n := ((((ns.map nv).length : Nat) : Int) - 0).toNat)
      (fun i σ H' => ∃ (v v2 : Option V) (L : List V), σ = [some (.ref a), some (.ref b), v, v2] ∧ Same H H' ∧ H' b = some (.lst L) ∧ L.length = ns.length ∧ ∀ j, ns.length ≤ j + i → j < ns.length → L[j]? = some (.int (E j : Nat)))
      ⟨none, none, _, rfl, Sb, Lb, List.length_replicate .., fun j h1 h2 => absurd h2 (by omega)⟩ ?_ ?_⟩
    · rintro i σ H' hi ⟨v, v2, L, rfl, S3, L3, hL, hE⟩
      rw [en] at hi
      obtain ⟨m, hm⟩ : ∃ m : Nat, m + i + 1 = ns.length := ⟨ns.length - 1 - i, by omega⟩
      have eat : ((0 : Int) + (((((ns.map nv).length : Nat) : Int) - 0).toNat : Nat) - 1) + (i : Nat) * (-1) = (m : Int) := by rw [en]; omega
      rw [eat]
      have hml : m < ns.length := by omega
      obtain ⟨n, hn⟩ : ∃ n, ns[m]? = some n := ⟨ns[m], List.getElem?_eq_getElem hml⟩
      have hnv : (ns.map nv)[m]? = some (nv n) := by rw [List.getElem?_map, hn]; rfl
      obtain ⟨hj, hEm⟩ := he.ex m n hn
      have hn2 := he.le n (List.mem_of_getElem? hn)
      have q3 := S3.seq hq
      have ixm : ixN L.length (m : Int) = some m := ixN_lt (by omega)
      refine ⟨_, rfl, _, _, rfl, rfl, _, rfl, _, rfl, b, _, _, m, rfl, rfl, L3, ixm, ?_⟩
      have off : ∀ c o, H c = some o → c ≠ b := fun c o hc => ne_of_none hc fb
      refine ⟨_, rfl, _, rfl, a, _, _, _, rfl, rfl, (show SqL K _ a _ from Same.seq (fun c o hc => by rw [upd_ne (off c o hc)]; exact S3 c o hc) hq), atI_nat hnv, n, rfl, by omega, by omega, for_range (lo := 0) (n := ((n : Nat) : Int).toNat)
        (fun j σ H' => ∃ (v2 : Option V) (L : List V), σ = [some (.ref a), some (.ref b), some (.int (m : Nat)), v2] ∧ Same H H' ∧ H' b = some (.lst L) ∧ L.length = ns.length ∧ L[m]? = some (.int (itE E m j : Nat)) ∧ ∀ j, m < j → j < ns.length → L[j]? = some (.int (E j : Nat))) ?_ ?_ ?_⟩
      · refine ⟨_, _, rfl, fun c o hc => by rw [upd_ne (off c o hc)]; exact S3 c o hc, upd_same, by rw [List.length_set]; exact hL, List.getElem?_set_self (by omega), fun j h1 h2 => ?_⟩
        rw [List.getElem?_set_ne (by omega)]
        exact hE j (by omega) h2
      · rintro j σ H4 hjn ⟨v2, L4, rfl, S4, L4h, hL4, hm4, hE4⟩
        obtain ⟨j1, j2⟩ := hj j (by omega)
        have ixm4 : ixN L4.length (m : Int) = some m := ixN_lt (by omega)
        refine ⟨_, rfl, _, rfl, _, rfl, b, _, _, _, rfl, rfl, SqL.of L4h, atI_nat hm4, b, _, _, _, rfl, rfl, SqL.of L4h, atI_nat (hE4 _ j1 j2), _, rfl, _, rfl, b, _, _, m, rfl, rfl, L4h, ixm4, ?_⟩
        refine ⟨_, _, rfl, fun c o hc => by rw [upd_ne (off c o hc)]; exact S4 c o hc, upd_same, by rw [List.length_set]; exact hL4, List.getElem?_set_self (by omega), fun j' h1 h2 => ?_⟩
        rw [List.getElem?_set_ne (by omega)]
        exact hE4 j' h1 h2
      · rintro σ H4 ⟨v2, L4, rfl, S4, L4h, hL4, hm4, hE4⟩
        refine ⟨_, _, _, rfl, S4, L4h, hL4, fun j h1 h2 => ?_⟩
        by_cases hjm : j = m
        · subst hjm
          rw [hm4, hEm]
          rfl
        · exact hE4 j (by omega) h2
    · rintro σ H' ⟨v, v2, L, rfl, S3, L3, hL, hE⟩
      rw [en] at hE
      have eL : L = endsV ns.length E := by
        apply List.ext_getElem?
        intro j
        by_cases hj : j < ns.length
        · rw [hE j (by omega) hj, endsV_get hj]
        · rw [List.getElem?_eq_none (by omega), List.getElem?_eq_none (by rw [endsV_len]; omega)]
      refine ⟨_, rfl, _, _, rfl, SqL.of L3, fun q o nq ho => ?_⟩
      rw [eL]
      exact k _ q (S3.trans (same_upd nq)) (S3.free nq) (TupF.new ho)
end Kk

set_option maxHeartbeats 4000000
namespace Kk
open PySem PySem.Spec PyProof.Rows L2 Wd
theorem cut_from {xs : List V} {c : Nat} : cutV xs (some (c : Int)) none = xs.drop c := by
  unfold cutV
  rw [HT.sIx_nat, HT.sIx_none]
  by_cases h : c ≤ xs.length
  · rw [Nat.min_eq_left h]
    exact List.take_of_length_le (by rw [List.length_drop]; exact Nat.le_refl _)
  · rw [Nat.min_eq_right (by omega), Nat.sub_self, List.take_zero, List.drop_of_length_le (by omega)]
theorem cut_to {xs : List V} {c : Nat} : cutV xs none (some (c : Int)) = xs.take c := by
  unfold cutV
  rw [HT.sIx_nat, HT.sIx_none, List.drop_zero, Nat.sub_zero]
  by_cases h : c ≤ xs.length
  · rw [Nat.min_eq_left h]
  · rw [Nat.min_eq_right (by omega), List.take_length, List.take_of_length_le (by omega)]
abbrev Entry := Addr × Addr × List Nm × Nat
def pyl (X : List Entry) : List V := X.reverse.map (fun x => V.ref x.1)
theorem pyl_cons (x : Entry) (X : List Entry) : pyl (x :: X) = pyl X ++ [.ref x.1] := by simp [pyl]
structure Off (p g u f w b : Addr) : Prop where
  p : b ≠ p
  g : b ≠ g
  u : b ≠ u
  f : b ≠ f
  w : b ≠ w
structure Ent (p g u f w : Addr) (H : Hp) (x : Entry) : Prop where
  t : H x.1 = some (.tup [.ref x.2.1, .int (x.2.2.2 : Nat)])
  r : H x.2.1 = some (.lst (x.2.2.1.map sv))
  ot : Off p g u f w x.1
  or : Off p g u f w x.2.1
  le : x.2.2.1.length ≤ x.2.2.2 + 1
/-- all that is off these is as it was -/
def Fro (p g u f w : Addr) (H H' : Hp) : Prop := ∀ b o, H b = some o → Off p g u f w b → H' b = some o
section
variable {p g u f w : Addr} {H H1 H2 : Hp}
theorem Fro.trans (a : Fro p g u f w H H1) (b : Fro p g u f w H1 H2) : Fro p g u f w H H2 := fun c o h k => b c o (a c o h k) k
theorem Fro.same (a : Same H H1) : Fro p g u f w H H1 := fun b o h _ => a b o h
theorem Fro.keep (a : Keep p g H H1) : Fro p g u f w H H1 := fun b o h k => a b o h k.p k.g
theorem Fro.updw {o : HO} : Fro p g u f w H (upd H w o) := fun b x h k => by rw [upd_ne k.w]; exact h
theorem Fro.updf {o : HO} : Fro p g u f w H (upd H f o) := fun b x h k => by rw [upd_ne k.f]; exact h
theorem Ent.fro {x : Entry} (a : Fro p g u f w H H1) (e : Ent p g u f w H x) : Ent p g u f w H1 x := ⟨a _ _ e.t e.ot, a _ _ e.r e.or, e.ot, e.or, e.le⟩
end
/-- the addresses that are written, apart -/
structure Apart (p g s u f w : Addr) (H0 : Hp) : Prop where
  fp : f ≠ p
  fg : f ≠ g
  fs : f ≠ s
  fu : f ≠ u
  fw : f ≠ w
  wp : w ≠ p
  wg : w ≠ g
  ws : w ≠ s
  wu : w ≠ u
  up : u ≠ p
  ug : u ≠ g
  us : u ≠ s
  nf : H0 f = none
  nw : H0 w = none
structure WI (p g s u f w : Addr) (names : List Nm) (gv : Nat) (H0 H : Hp) (i : Nat) (F : List W) (X : List Entry) : Prop where
  pot : PotAt H p g s
  hf : H f = some (.lst (F.map wv))
  hw : H w = some (.lst (pyl X))
  hu : H u = some (.lst ((names ++ takesOf F).map sv))
  ent : ∀ x ∈ X, Ent p g u f w H x
  nd : (names ++ takesOf F).Nodup
  ok : ∀ n ∈ names ++ takesOf F, nmOk n
  len : F.length = i
  cst : costs (X.map (·.2.2)) + i + names.length = 3 * gv + 2
  pre : Pre (names, gv) F (X.map (·.2.2))
  kp : ∀ b o, H0 b = some o → b ≠ p → b ≠ g → b ≠ u → H b = some o
theorem costs_app (a b : List (List Nm × Nat)) : costs (a ++ b) = costs a + costs b := by
  induction a with
  | nil => simp [costs]
  | cons x a ih => simp [costs, ih]; omega
theorem WI.next {p g s u f w : Addr} {names : List Nm} {gv : Nat} {H0 H H' : Hp} {i : Nat} {F F' : List W} {x : Entry} {X Y : List Entry} (A : Apart p g s u f w H0) (I : WI p g s u f w names gv H0 H i F (x :: X))
    (fr : Fro p g u f w H H') (pot : PotAt H' p g s) (hf : H' f = some (.lst (F'.map wv))) (hw : H' w = some (.lst (pyl (Y ++ X)))) (hu : H' u = some (.lst ((names ++ takesOf F').map sv)))
    (ey : ∀ y ∈ Y, Ent p g u f w H' y) (nd : (names ++ takesOf F').Nodup) (ok : ∀ n ∈ names ++ takesOf F', nmOk n) (len : F'.length = i + 1) (cst : costs (Y.map (·.2.2)) + 1 = cost x.2.2)
    (pre : Pre (names, gv) F' ((Y ++ X).map (·.2.2))) : WI p g s u f w names gv H0 H' (i + 1) F' (Y ++ X) where
  pot := pot
  hf := hf
  hw := hw
  hu := hu
  ent := fun y hy => by
    rcases List.mem_append.mp hy with h | h
    · exact ey y h
    · exact (I.ent y (List.mem_cons_of_mem _ h)).fro fr
  nd := nd
  ok := ok
  len := len
  cst := by
    have c := I.cst
    rw [List.map_append, costs_app]
    simp only [List.map_cons, costs] at c
    omega
  pre := pre
  kp := fun b o h b1 b2 b3 => fr b o (I.kp b o h b1 b2 b3) ⟨b1, b2, b3, ne_of_none h A.nf, ne_of_none h A.nw⟩
theorem WI.offNew {p g s u f w : Addr} {H' : Hp} {b : Addr} (PA : PotAt H' p g s) {uf wf uu : HO} (hf : H' f = some uf) (hw : H' w = some wf) (hu : H' u = some uu) (n : H' b = none) : Off p g u f w b := by
  obtain ⟨⟨G, S, t, r, z1, z2, z3, z4⟩, _, _, _⟩ := PA
  exact ⟨(ne_of_none z1 n).symm, (ne_of_none z2 n).symm, (ne_of_none hu n).symm, (ne_of_none hf n).symm, (ne_of_none hw n).symm⟩
/-- behind the pop -/
structure Mid (p g s u f w : Addr) (names : List Nm) (F : List W) (X : List Entry) (x : Entry) (H H' : Hp) : Prop where
  pot : PotAt H' p g s
  hf : H' f = some (.lst (F.map wv))
  hw : H' w = some (.lst (pyl X))
  hu : H' u = some (.lst ((names ++ takesOf F).map sv))
  e : Ent p g u f w H' x
  fr : Fro p g u f w H H'
theorem Mid.keep {p g s u f w : Addr} {names : List Nm} {F : List W} {X : List Entry} {x : Entry} {H H0 H' H'' : Hp} (A : Apart p g s u f w H0) (M : Mid p g s u f w names F X x H H') (P : PotAt H'' p g s) (k : Keep p g H' H'') : Mid p g s u f w names F X x H H'' :=
  ⟨P, k _ _ M.hf A.fp A.fg, k _ _ M.hw A.wp A.wg, k _ _ M.hu A.up A.ug, M.e.fro (Fro.keep k), M.fr.trans (Fro.keep k)⟩
theorem Mid.same {p g s u f w : Addr} {names : List Nm} {F : List W} {X : List Entry} {x : Entry} {H H' H'' : Hp} (M : Mid p g s u f w names F X x H H') (k : Same H' H'') : Mid p g s u f w names F X x H H'' :=
  ⟨M.pot.keep k, k _ _ M.hf, k _ _ M.hw, k _ _ M.hu, M.e.fro (Fro.same k), M.fr.trans (Fro.same k)⟩
theorem int0 (n : Nat) : decide (V.int (n : Int) = V.int 0) = decide (n = 0) := by
  by_cases h : n = 0
  · subst h; simp
  · rw [decide_eq_false h]
    exact decide_eq_false (fun e => h (by have := V.int.inj e; omega))
theorem int1 (n : Nat) : decide (V.int (n : Int) = V.int 1) = decide (n = 1) := by
  by_cases h : n = 1
  · subst h; simp
  · rw [decide_eq_false h]
    exact decide_eq_false (fun e => h (by have := V.int.inj e; omega))
def spWords : Sp := fun vs H Q _ => ∃ (p g s m u : Addr) (names : List Nm) (gv : Nat), vs = [.ref p, .ref m, .int (gv : Nat), .ref u] ∧ PotAt H p g s ∧ H m = some (.lst (names.map sv)) ∧ H u = some (.lst (names.map sv)) ∧ m ≠ p ∧ m ≠ g ∧ m ≠ u ∧ u ≠ p ∧ u ≠ g ∧ gv ≤ 333 ∧ names.length ≤ gv + 1 ∧ names.length ≤ 60 ∧ names.Nodup ∧ (∀ n ∈ names, nmOk n) ∧
  ∀ (H' : Hp) (q : Addr) (ws : List W), Gen names gv ws → PotAt H' p g s → H' u = some (.lst ((names ++ takesOf ws).map sv)) → TupF H' q (ws.map wv) → (∀ b o, H b = some o → b ≠ p → b ≠ g → b ≠ u → H' b = some o) → Q (.ref q) H'
abbrev s_words : Stmt := (top 39)
theorem sc_words : FnScope ["_law_pot_here", "_law_names", "_law_givens", "_law_used", "_law_found", "_law_waiting", "_law_turn", "_law_row", "_law_many", "_law_name", "_law_least", "_law_cut", "_law_low", "_law_more"] ["_law_pot_here", "_law_names", "_law_givens", "_law_used"] (defScope s_words) := ⟨rfl, rfl, rfl, by decide +kernel, rfl, by decide +kernel, by decide +kernel⟩
theorem enc_ap : Str.ofString "@" = enc .ap := TL.ext_tl (by rw [TL.tl_ofString]; rfl)
theorem enc_tk' (n : Nm) : Str.ofString "/" ++ str n = enc (.tk n) := TL.ext_tl (by rw [TL.tl_append, TL.tl_ofString]; rfl)
theorem bigN : (2000 : Nat) < 2 ^ 200 := by decide +kernel
theorem c_words {P w K mg base} (B : Bt mg) (D : DefAt K mg "_law_words" s_words) (C_law_draw : Cal P w K mg base "_law_draw" 1 ["_law_pot_here", "_law_many"] spDraw)
    (C_law_fresh : Cal P w K mg base "_law_fresh" 2 ["_law_pot_here", "_law_used"] spFresh) (C_law_mixed : Cal P w K mg base "_law_mixed" 2 ["_law_pot_here", "_law_items"] spMixedN) :
    Cal P w K mg base "_law_words" 3 ["_law_pot_here", "_law_names", "_law_givens", "_law_used"] spWords := by
  refine cal_of D sc_words (fun _ _ _ _ _ _ us hl => match us, hl with | [_, _, _, _], _ => rfl) (fun vs H Q E h => ?_) (fun fa cdv A outer st0 H vs Q E hr h => ?_)
  · obtain ⟨p, g, s, m, u, names, gv, rfl, _⟩ := h
    rfl
  · obtain ⟨p, g, s, m, u, names, gv, rfl, PA, hm, hu, hmp, hmg, hmu, hup, hug, hgv, hng, hn60, hnd, hok, k⟩ := h
    refine ⟨_, (pss_cons (ps_set (i := 4) sc_words.nd rfl (by first | exact Or.inl rfl | exact Or.inr rfl) (pe_lst pa_nil))
      (pss_cons (ps_set (i := 5) sc_words.nd rfl (by first | exact Or.inl rfl | exact Or.inr rfl) (pe_lst (pa_cons (pe_tup (pa_cons (pe_callTy call_list_of (by rfl) B.b_list (by decide +kernel) (pa_cons (pv 1) pa_nil)) (pa_cons (pv 2) pa_nil))) pa_nil)))
      (pss_cons (ps_for PassesOwn.never rfl (pi_range1 (by rfl) B.b_range (pa_cons (pe_op op_add (pe_op op_mul pe_int (pv 2)) pe_int) pa_nil)) (pg_name (i := 6) sc_words.nd rfl (by first | exact Or.inl rfl | exact Or.inr rfl)) (pss_cons (ps_if (pt_cmpR op_eq (pe_callB call_len_seq (by rfl) B.b_len (by decide +kernel) (pa_cons (pv 5) pa_nil)) pe_int (nomark _)) (pss_one ps_break) pss_nil)
      (pss_cons (ps_asg (pe_bm0 PySem.F.plainAttrs_list PySem.F.slot_list_pop PySem.F.type_list_pop mt_pop (pv 5)) (pg_tup (by rfl) (pgs_cons (pg_name (i := 7) sc_words.nd rfl (by first | exact Or.inl rfl | exact Or.inr rfl)) (pgs_cons (pg_name (i := 8) sc_words.nd rfl (by first | exact Or.inl rfl | exact Or.inr rfl)) pgs_nil))))
      (pss_one (ps_if (PW.pt (pw_and (pt_cmpR op_eq (pv 8) pe_int (nomark _)) (pw_and1 (pt_cmpR op_eq (pe_callB call_len_seq (by rfl) B.b_len (by decide +kernel) (pa_cons (pv 7) pa_nil)) pe_int (nomark _))))) (pss_one (ps_expr (pe_bm PySem.F.plainAttrs_list PySem.F.slot_list_append PySem.F.type_list_append mt_append (pv 4) (pa_cons (pe_ix ix_list (pv 7) pe_int (fun _ _ => rfl)) pa_nil)))) (pss_one (ps_if (PW.pt (pw_or (pt_cmpR op_eq (pv 8) pe_int (nomark _)) (pw_or1 (PW.pt (pw_and (pt_cmpR op_le (pe_callB call_len_seq (by rfl) B.b_len (by decide +kernel) (pa_cons (pv 7) pa_nil)) (pv 8) (nomark _)) (pw_and1 (pt_cmpR op_eq (pe_c C_law_draw (hr.mono (by decide)) (pa_cons (pv 0) (pa_cons pe_int pa_nil))) pe_int (nomark _)))))))) (pss_cons (ps_set (i := 9) sc_words.nd rfl (by first | exact Or.inl rfl | exact Or.inr rfl) (pe_c C_law_fresh (hr.mono (by decide)) (pa_cons (pv 0) (pa_cons (pv 3) pa_nil))))
      (pss_cons (ps_expr (pe_bm PySem.F.plainAttrs_list PySem.F.slot_list_append PySem.F.type_list_append mt_append (pv 4) (pa_cons (pe_op op_add_str pe_str (pv 9)) pa_nil)))
      (pss_one (ps_expr (pe_bm PySem.F.plainAttrs_list PySem.F.slot_list_append PySem.F.type_list_append mt_append (pv 5) (pa_cons (pe_tup (pa_cons (pe_op op_cat (pv 7) (pe_lst (pa_cons (pv 9) pa_nil))) (pa_cons (pv 8) pa_nil))) pa_nil)))))) (pss_cons (ps_set (i := 7) sc_words.nd rfl (by first | exact Or.inl rfl | exact Or.inr rfl) (pe_c C_law_mixed (hr.mono (by decide)) (pa_cons (pv 0) (pa_cons (pv 7) pa_nil))))
      (pss_cons (ps_set (i := 10) sc_words.nd rfl (by first | exact Or.inl rfl | exact Or.inr rfl) (pe_callB (call_max2 rfl) (by rfl) B.b_max (by decide +kernel) (pa_cons pe_int (pa_cons (pe_op op_sub (pe_callB call_len_seq (by rfl) B.b_len (by decide +kernel) (pa_cons (pv 7) pa_nil)) (pv 8)) pa_nil))))
      (pss_cons (ps_set (i := 11) sc_words.nd rfl (by first | exact Or.inl rfl | exact Or.inr rfl) (pe_op op_add (pv 10) (pe_c C_law_draw (hr.mono (by decide)) (pa_cons (pv 0) (pa_cons (pe_op op_add (pe_op op_sub (pe_callB (call_min2 rfl) (by rfl) B.b_min (by decide +kernel) (pa_cons (pe_callB call_len_seq (by rfl) B.b_len (by decide +kernel) (pa_cons (pv 7) pa_nil)) (pa_cons (pv 8) pa_nil))) (pv 10)) pe_int) pa_nil)))))
      (pss_cons (ps_set (i := 12) sc_words.nd rfl (by first | exact Or.inl rfl | exact Or.inr rfl) (pe_callB (call_max2 rfl) (by rfl) B.b_max (by decide +kernel) (pa_cons pe_int (pa_cons (pe_op op_sub (pv 11) pe_int) pa_nil))))
      (pss_cons (ps_set (i := 13) sc_words.nd rfl (by first | exact Or.inl rfl | exact Or.inr rfl) (pe_op op_add (pv 12) (pe_c C_law_draw (hr.mono (by decide)) (pa_cons (pv 0) (pa_cons (pe_op op_add (pe_op op_sub (pe_op op_sub (pe_op op_sub (pv 8) pe_int) (pe_callB (call_max2 rfl) (by rfl) B.b_max (by decide +kernel) (pa_cons pe_int (pa_cons (pe_op op_sub (pe_op op_sub (pe_callB call_len_seq (by rfl) B.b_len (by decide +kernel) (pa_cons (pv 7) pa_nil)) (pv 11)) pe_int) pa_nil)))) (pv 12)) pe_int) pa_nil)))))
      (pss_cons (ps_expr (pe_bm PySem.F.plainAttrs_list PySem.F.slot_list_append PySem.F.type_list_append mt_append (pv 4) (pa_cons pe_str pa_nil)))
      (pss_cons (ps_expr (pe_bm PySem.F.plainAttrs_list PySem.F.slot_list_append PySem.F.type_list_append mt_append (pv 5) (pa_cons (pe_tup (pa_cons (pe_slice sl_list (pv 7) (po_some (pv 11)) po_none) (pa_cons (pe_op op_sub (pe_op op_sub (pv 8) pe_int) (pv 13)) pa_nil))) pa_nil)))
      (pss_one (ps_expr (pe_bm PySem.F.plainAttrs_list PySem.F.slot_list_append PySem.F.type_list_append mt_append (pv 5) (pa_cons (pe_tup (pa_cons (pe_slice sl_list (pv 7) po_none (po_some (pv 11))) (pa_cons (pv 13) pa_nil))) pa_nil))))))))))))))))))
      (pss_one (ps_ret (pe_callTy call_tupleF (by rfl) B.b_tuple (by decide +kernel) (pa_cons (pv 4) pa_nil))))))), ?_⟩
    -- found = []
    refine ⟨Nat.zero_le _, fun f nf => ?_⟩
    have S1 : Same H (upd H f (.lst [])) := same_upd nf
    have F1 : upd H f (.lst []) f = some (.lst []) := upd_same
    have PA1 := PA.keep S1
    generalize upd H f (.lst []) = H1 at *
    -- waiting = [(list(names), gives)]
    refine ⟨_, rfl, _, _, rfl, .inl (SqL.of (S1 _ _ hm)), fun R nR => ?_⟩
    have S2 : Same H1 (upd H1 R (.lst (names.map sv))) := same_upd nR
    have R2' : upd H1 R (.lst (names.map sv)) R = some (.lst (names.map sv)) := upd_same
    have PA2 := PA1.keep S2
    generalize upd H1 R (.lst (names.map sv)) = H2 at *
    refine ⟨_, rfl, (by show 2 ≤ sizeLine; decide), fun T nT => ?_⟩
    have S3 : Same H2 (upd H2 T (.tup [.ref R, .int (gv : Nat)])) := same_upd nT
    have T3 : upd H2 T (.tup [.ref R, .int (gv : Nat)]) T = some (.tup [.ref R, .int (gv : Nat)]) := upd_same
    have PA3 := PA2.keep S3
    generalize upd H2 T (.tup [.ref R, .int (gv : Nat)]) = H3 at *
    refine ⟨(by show 1 ≤ sizeLine; decide), fun w nw => ?_⟩
    have S4 : Same H3 (upd H3 w (.lst [.ref T])) := same_upd nw
    have W4 : upd H3 w (.lst [.ref T]) w = some (.lst [.ref T]) := upd_same
    have PA4 := PA3.keep S4
    generalize upd H3 w (.lst [.ref T]) = H4 at *
    have S14 : Same H1 H4 := (S2.trans S3).trans S4
    obtain ⟨⟨G, S, t, r, z1, z2, z3, z4⟩, _, _, _⟩ := id PA
    have AP : Apart p g s u f w H := by
      have q1 := S1.trans (S2.trans S3)
      exact ⟨(ne_of_none z1 nf).symm, (ne_of_none z2 nf).symm, (ne_of_none z3 nf).symm, (ne_of_none hu nf).symm, ne_of_none ((S2.trans S3) _ _ F1) nw, (ne_of_none (q1 _ _ z1) nw).symm, (ne_of_none (q1 _ _ z2) nw).symm, (ne_of_none (q1 _ _ z3) nw).symm, (ne_of_none (q1 _ _ hu) nw).symm, hup, hug, PA.su hu, nf, q1.free nw⟩
    have OR : Off p g u f w R := ⟨(ne_of_none (S1 _ _ z1) nR).symm, (ne_of_none (S1 _ _ z2) nR).symm, (ne_of_none (S1 _ _ hu) nR).symm, (ne_of_none F1 nR).symm, ne_of_none (S3 _ _ R2') nw⟩
    have OT : Off p g u f w T := ⟨(ne_of_none (S2 _ _ (S1 _ _ z1)) nT).symm, (ne_of_none (S2 _ _ (S1 _ _ z2)) nT).symm, (ne_of_none (S2 _ _ (S1 _ _ hu)) nT).symm, (ne_of_none (S2 _ _ F1) nT).symm, ne_of_none T3 nw⟩
    have I0 : WI p g s u f w names gv H H4 0 [] [(T, R, names, gv)] := by
      refine ⟨PA4, S14 _ _ F1, W4, ?_, ?_, ?_, ?_, rfl, ?_, Pre.start _, fun b o h _ _ _ => S14 _ _ (S1 _ _ h)⟩
      · show H4 u = some (.lst ((names ++ []).map sv))
        rw [List.append_nil]; exact S14 _ _ (S1 _ _ hu)
      · intro x hx
        have e : x = (T, R, names, gv) := by simpa using hx
        subst e
        exact ⟨S4 _ _ T3, S4 _ _ (S3 _ _ R2'), OT, OR, hng⟩
      · show (names ++ []).Nodup
        rw [List.append_nil]; exact hnd
      · intro n hn
        exact hok n (by simpa [takesOf] using hn)
      · show cost (names, gv) + 0 + 0 + names.length = _
        unfold cost
        show 3 * gv + 2 - names.length + 0 + 0 + names.length = _
        omega
    have fin : ∀ (Hz : Hp) (i : Nat) (F : List W), WI p g s u f w names gv H Hz i F [] → ∀ q o, Hz q = none → o.dict = none → Q (.ref q) (upd Hz q (.frz o (.tup (F.map wv)))) := by
      intro Hz i F I q o nq ho
      have Sz : Same Hz (upd Hz q (.frz o (.tup (F.map wv)))) := same_upd nq
      obtain ⟨tr, e1, e2⟩ := I.pre [] .nil
      refine k _ q F ⟨⟨tr, by simpa using e1, e2⟩, I.nd, I.ok⟩ (I.pot.keep Sz) (Sz _ _ I.hu) (TupF.new ho) fun b o h b1 b2 b3 => Sz _ _ (I.kp b o h b1 b2 b3)
    clear k PA1 PA2 PA3 S1 S2 S3 S4 S14 R2' T3 W4 F1 nR nT nw OR OT z1 z2 z3 z4
    -- for turn in range(3 * gives + 2)
    have en : (3 * ((gv : Nat) : Int) + 2).toNat = 3 * gv + 2 := by omega
    refine ⟨_, rfl, _, _, rfl, rfl, .inl ⟨by decide, by decide⟩, _, _, rfl, rfl, _, rfl, ?_, ?_, for_range (lo := 0) (n := (3 * ((gv : Nat) : Int) + 2).toNat) (fun i σ H' => ∃ (F : List W) (X : List Entry) (v6 v7 v8 v9 v10 v11 v12 v13 : Option V),
        σ = [some (.ref p), some (.ref m), some (.int (gv : Nat)), some (.ref u), some (.ref f), some (.ref w), v6, v7, v8, v9, v10, v11, v12, v13] ∧ WI p g s u f w names gv H H' i F X)
      ⟨[], _, none, none, none, none, none, none, none, none, rfl, I0⟩ ?_ ?_⟩
    · omega
    · omega
    · rintro i σ H' hi ⟨F, X, v6, v7, v8, v9, v10, v11, v12, v13, rfl, I⟩
      rw [en] at hi
      cases X with
      | nil =>
        refine ⟨_, rfl, _, _, rfl, .inl (SqL.of I.hw), rfl, _, rfl, iteT ?_⟩
        exact ⟨_, rfl, _, _, rfl, SqL.of I.hf, fun q o nq ho => fin _ _ _ I q o nq ho⟩
      | cons x X =>
        obtain ⟨T, R, row, mm⟩ := x
        have E := I.ent (T, R, row, mm) (List.mem_cons_self ..)
        have hiF := I.len
        have cst := I.cst
        have nopyl : ¬ (pyl ((T, R, row, mm) :: X)).length = 0 := by rw [pyl_cons]; simp
        refine ⟨_, rfl, _, _, rfl, .inl (SqL.of I.hw), rfl, _, rfl, ?_⟩
        rw [int0, decide_eq_false nopyl]
        refine iteF ?_
        -- row, many = waiting.pop()
        refine ⟨_, rfl, .inl ⟨rfl, _, SqL.of I.hw⟩, w, _, V.ref T, rfl, rfl, I.hw, (by rw [pyl_cons]; simp), ?_⟩
        have ed : (pyl ((T, R, row, mm) :: X)).dropLast = pyl X := by rw [pyl_cons]; simp
        rw [ed]
        have M0 : Mid p g s u f w names F X (T, R, row, mm) H' (upd H' w (.lst (pyl X))) :=
          ⟨I.pot.wr AP.wp AP.wg AP.ws, by rw [upd_ne AP.fw]; exact I.hf, upd_same, by rw [upd_ne AP.wu.symm]; exact I.hu, E.fro Fro.updw, Fro.updw⟩
        generalize upd H' w (.lst (pyl X)) = Hx at *
        have t0 : Hx T = some (.tup [.ref R, .int (mm : Nat)]) := M0.e.t
        refine ⟨T, _, rfl, SqT.of t0, rfl, _, _, rfl, _, _, rfl, rfl, ?_⟩
        clear t0
        have hle : row.length ≤ mm + 1 := E.le
        have r0 : Hx R = some (.lst (row.map sv)) := M0.e.r
        have hmm : mm ≤ 1000 := by
          have c := cst
          simp only [List.map_cons, costs, cost] at c
          omega
        have hrl : (row.map sv).length = row.length := List.length_map ..
        have hU : (names ++ takesOf F).length ≤ 1100 := by
          have := takesOf_len F
          rw [List.length_append]; omega
        have hF : (F.map wv).length < sizeLine := by rw [List.length_map]; exact small_lt (m := 2000) (by omega) (by decide)
        -- many == 0 and len(row) == 1
        refine ⟨_, rfl, rfl, _, rfl, ?_⟩
        rw [int0]
        refine (Decidable.em (mm = 0)).elim (fun hm0 => ?b0) (fun hm0 => ?b1)
        case' b0 =>
          rw [decide_eq_true hm0]
          refine iteT ⟨_, rfl, _, _, rfl, .inl (SqL.of r0), rfl, _, rfl, ?_⟩
          rw [int1, hrl]
          refine (Decidable.em (row.length = 1)).elim (fun hr1 => ?c0) (fun hr1 => ?c1)
          case' c0 =>
            rw [decide_eq_true hr1]
            refine iteT ?_
          case' c1 =>
            rw [decide_eq_false hr1]
            refine iteF ?_
            refine ⟨_, rfl, rfl, _, rfl, ?_⟩
            rw [int0, decide_eq_true hm0]
            refine iteT (iteT ?_)
            have M := M0
            have hy : row.length ≤ mm := by omega
            clear r0
            generalize Hx = Hy at *
        case' b1 =>
          rw [decide_eq_false hm0]
          refine iteF (iteF ?_)
          refine ⟨_, rfl, rfl, _, rfl, ?_⟩
          rw [int0, decide_eq_false hm0]
          refine iteF ?_
          refine ⟨_, rfl, _, _, rfl, .inl (SqL.of r0), _, rfl, _, _, rfl, rfl, _, rfl, ?_⟩
          refine ite2 (fun hc => ?ga) (fun hc => ?gb)
          case' ga =>
            have hy : row.length ≤ mm := by have := of_decide_eq_true hc; rw [hrl] at this; omega
            refine ⟨_, rfl, p, g, s, 2, rfl, M0.pot, by decide, by decide, fun H2 y P2 K2 y0 y1 => ⟨rfl, _, rfl, ?_⟩⟩
            have M := M0.keep AP P2 K2
            clear M0 r0
            refine ite2 (fun _ => ?gc) (fun _ => ?gd)
            case' gc => generalize H2 = Hy at *
            case' gd => generalize H2 = Hy at *
          case' gb =>
            have M := M0
            refine iteF ?_
            clear r0
            generalize Hx = Hy at *
        case c0 =>
          -- found.append(row[0])
          obtain ⟨n, rfl⟩ : ∃ n, row = [n] := by
            cases row with
            | nil => simp at hr1
            | cons n r =>
              cases r with
              | nil => exact ⟨n, rfl⟩
              | cons a r => simp at hr1
          subst hm0
          refine ⟨_, rfl, .inl ⟨rfl, _, SqL.of M0.hf⟩, _, rfl, _, _, _, _, rfl, rfl, SqL.of r0, rfl, f, _, _, rfl, rfl, M0.hf, hF, ?_⟩
          have tk0 : takesOf (F ++ [W.nm n]) = takesOf F := by rw [takesOf_app]; simp [takesOf]
          refine ⟨F ++ [.nm n], X, _, _, _, _, _, _, _, _, rfl, WI.next (Y := []) AP I (M0.fr.trans Fro.updf) (M0.pot.wr AP.fp AP.fg AP.fs) ?_ ?_ ?_ (fun y hy => absurd hy (by simp)) ?_ ?_ (by simp [I.len]) (by simp [costs, cost]) I.pre.nm⟩
          · rw [upd_same, List.map_append]; rfl
          · rw [upd_ne AP.fw.symm]; exact M0.hw
          · rw [upd_ne AP.fu.symm, tk0]; exact M0.hu
          · rw [tk0]; exact I.nd
          · rw [tk0]; exact I.ok
        case c1 | gc =>
          -- name = fresh(pot, used)
          refine ⟨_, rfl, _, rfl, p, g, s, u, names ++ takesOf F, rfl, M.pot, M.hu, hU, AP.up, AP.ug, fun H5 n nok nin P5 U5 k5 => ?_⟩
          have fr5 : Fro p g u f w Hy H5 := fun b o h kk => k5 b o h kk.p kk.g kk.u
          have hf5 := k5 f _ M.hf AP.fp AP.fg AP.fu
          have hw5 := k5 w _ M.hw AP.wp AP.wg AP.wu
          have E5 := M.e.fro fr5
          have fr05 := M.fr.trans fr5
          -- found.append('/' + name)
          refine ⟨_, rfl, .inl ⟨rfl, _, SqL.of hf5⟩, _, rfl, _, _, rfl, rfl, ?_, f, _, _, rfl, rfl, hf5, hF, ?_⟩
          · rw [len_str, sizeLine_eq]
            have := nok.2.1
            show 1 + _ ≤ _
            omega
          rw [enc_tk' n]
          have fr6 : Fro p g u f w H5 (upd H5 f (.lst (F.map wv ++ [wv (.tk n)]))) := Fro.updf
          have hf6 : upd H5 f (.lst (F.map wv ++ [wv (.tk n)])) f = some (.lst (F.map wv ++ [wv (.tk n)])) := upd_same
          have hw6 : upd H5 f (.lst (F.map wv ++ [wv (.tk n)])) w = _ := (upd_ne AP.fw.symm).trans hw5
          have hu6 : upd H5 f (.lst (F.map wv ++ [wv (.tk n)])) u = _ := (upd_ne AP.fu.symm).trans U5
          have P6 : PotAt (upd H5 f (.lst (F.map wv ++ [wv (.tk n)]))) p g s := P5.wr AP.fp AP.fg AP.fs
          have E6 := E5.fro fr6
          have fr06 := fr05.trans fr6
          generalize upd H5 f (.lst (F.map wv ++ [wv (.tk n)])) = H6 at *
          -- waiting.append((row + [name], many))
          have r6 : H6 R = some (.lst (row.map sv)) := E6.r
          refine ⟨_, rfl, .inl ⟨rfl, _, SqL.of hw6⟩, _, rfl, _, rfl, (by show 1 ≤ sizeLine; decide), fun q1 n1 => ?_⟩
          have S7 : Same H6 (upd H6 q1 (.lst [sv n])) := same_upd n1
          have l7 : upd H6 q1 (.lst [sv n]) q1 = some (.lst [sv n]) := upd_same
          have P7 := P6.keep S7
          generalize upd H6 q1 (.lst [sv n]) = H7 at *
          refine ⟨R, q1, _, _, rfl, rfl, S7 _ _ r6, l7, ?_, fun q2 n2 => ?_⟩
          · rw [hrl, sizeLine_eq]; show _ + 1 ≤ _; omega
          have eq2 : row.map sv ++ [sv n] = (row ++ [n]).map sv := by rw [List.map_append]; rfl
          rw [eq2]
          have S8 : Same H7 (upd H7 q2 (.lst ((row ++ [n]).map sv))) := same_upd n2
          have l8 : upd H7 q2 (.lst ((row ++ [n]).map sv)) q2 = some (.lst ((row ++ [n]).map sv)) := upd_same
          have P8 := P7.keep S8
          have o2 : Off p g u f w q2 := WI.offNew P7 (S7 _ _ hf6) (S7 _ _ hw6) (S7 _ _ hu6) n2
          generalize upd H7 q2 (.lst ((row ++ [n]).map sv)) = H8 at *
          refine ⟨_, rfl, (by show 2 ≤ sizeLine; decide), fun T2 nT2 => ?_⟩
          have S68 := S7.trans S8
          have S9 : Same H8 (upd H8 T2 (.tup [.ref q2, .int (mm : Nat)])) := same_upd nT2
          have l9 : upd H8 T2 (.tup [.ref q2, .int (mm : Nat)]) T2 = some (.tup [.ref q2, .int (mm : Nat)]) := upd_same
          have P9 := P8.keep S9
          have oT : Off p g u f w T2 := WI.offNew P8 (S68 _ _ hf6) (S68 _ _ hw6) (S68 _ _ hu6) nT2
          generalize upd H8 T2 (.tup [.ref q2, .int (mm : Nat)]) = H9 at *
          have S69 := S68.trans S9
          have hw9 := S69 _ _ hw6
          have hXl : (pyl X).length < sizeLine := by
            have c1 : ∀ (Y : List Entry), (∀ y ∈ Y, y.2.2.1.length ≤ y.2.2.2 + 1) → Y.length ≤ costs (Y.map (·.2.2)) := by
              intro Y
              induction Y with
              | nil => intro _; simp
              | cons y Y ih =>
                intro hy
                have h1 := ih fun z hz => hy z (List.mem_cons_of_mem _ hz)
                have h2 := hy y (List.mem_cons_self ..)
                simp only [List.length_cons, List.map_cons, costs, cost]
                omega
            have c2 := c1 X fun y hy => (I.ent y (List.mem_cons_of_mem _ hy)).le
            simp only [List.map_cons, costs] at cst
            have : (pyl X).length = X.length := by simp [pyl]
            rw [this, sizeLine_eq]; omega
          refine ⟨w, _, _, rfl, rfl, hw9, hXl, ?_⟩
          have tk1 : takesOf (F ++ [W.tk n]) = takesOf F ++ [n] := by rw [takesOf_app]; simp [takesOf]
          have eU : names ++ takesOf (F ++ [W.tk n]) = (names ++ takesOf F) ++ [n] := by rw [tk1, List.append_assoc]
          refine ⟨F ++ [.tk n], (T2, q2, row ++ [n], mm) :: X, _, _, _, _, _, _, _, _, rfl, WI.next (Y := [(T2, q2, row ++ [n], mm)]) AP I ((fr06.trans (Fro.same S69)).trans Fro.updw) (P9.wr AP.wp AP.wg AP.ws) ?_ ?_ ?_ ?_ ?_ ?_ (by simp [I.len]) ?_ I.pre.tk⟩
          · rw [upd_ne AP.fw, List.map_append]; exact S69 _ _ hf6
          · rw [upd_same]
            show _ = some (HO.lst (pyl ((T2, q2, row ++ [n], mm) :: X)))
            rw [pyl_cons]
          · rw [upd_ne AP.wu.symm, eU]; exact S69 _ _ hu6
          · intro y hy
            have e : y = (T2, q2, row ++ [n], mm) := by simpa using hy
            subst e
            exact ⟨by rw [upd_ne oT.w]; exact l9, by rw [upd_ne o2.w]; exact S9 _ _ l8, oT, o2, by show (row ++ [n]).length ≤ mm + 1; rw [List.length_append]; show _ + 1 ≤ _; omega⟩
          · rw [eU]
            refine List.nodup_append.mpr ⟨I.nd, by simp, fun a ha b hb e => ?_⟩
            have : b = n := by simpa using hb
            exact nin (by rw [← this, ← e]; exact ha)
          · rw [eU]
            intro x hx
            rcases List.mem_append.mp hx with hx | hx
            · exact I.ok x hx
            · have : x = n := by simpa using hx
              rw [this]; exact nok
          · show cost (row ++ [n], mm) + 0 + 1 = cost (row, mm)
            unfold cost
            show 3 * mm + 2 - (row ++ [n]).length + 0 + 1 = 3 * mm + 2 - row.length
            rw [List.length_append]; show 3 * mm + 2 - (row.length + 1) + 0 + 1 = _; omega
        case gd | gb =>
          -- row = mixed(pot, row)
          refine ⟨_, rfl, _, rfl, p, g, s, R, row, rfl, M.pot, M.e.r, by omega, M.e.or.p, M.e.or.g, fun H5 R5 ys hp P5 n5 L5 K5 => ?_⟩
          have M5 := M.keep AP P5 K5
          have o5 : Off p g u f w R5 := WI.offNew M.pot M.hf M.hw M.hu n5
          have hyl : ((ys.map sv).length : Nat) = row.length := by rw [List.length_map]; exact hp.length_eq
          have hm1 : 0 < mm := Nat.pos_of_ne_zero hm0
          have big := bigN
          -- least = max(0, len(row) - many)
          refine ⟨_, rfl, _, _, rfl, .inl (SqL.of L5), _, rfl, _, _, rfl, rfl, _, _, rfl, ?_⟩
          rw [hyl]
          generalize hle1 : (if ((row.length : Nat) : Int) - ((mm : Nat) : Int) > 0 then ((row.length : Nat) : Int) - ((mm : Nat) : Int) else 0) = le
          have le1 : (le = 0 ∧ row.length ≤ mm) ∨ (le = 1 ∧ row.length = mm + 1) := by
            rw [← hle1]
            by_cases q : row.length ≤ mm
            · rw [if_neg (by omega)]; exact .inl ⟨rfl, q⟩
            · rw [if_pos (by omega)]; exact .inr ⟨by omega, by omega⟩
          clear hle1
          -- cut = least + draw(pot, min(len(row), many) - least + 1)
          refine ⟨_, rfl, _, rfl, _, rfl, _, _, rfl, .inl (SqL.of L5), _, rfl, _, _, rfl, _, rfl, _, _, rfl, rfl, _, _, rfl, rfl, ?_⟩
          rw [hyl]
          generalize hmi : (if ((mm : Nat) : Int) < ((row.length : Nat) : Int) then ((mm : Nat) : Int) else ((row.length : Nat) : Int)) = mi
          have mi1 : mi ≤ mm ∧ mi ≤ row.length ∧ (mi = mm ∨ mi = row.length) := by
            rw [← hmi]
            by_cases q : ((mm : Nat) : Int) < ((row.length : Nat) : Int)
            · rw [if_pos q]; exact ⟨by omega, by omega, .inl rfl⟩
            · rw [if_neg q]; exact ⟨by omega, by omega, .inr rfl⟩
          clear hmi
          refine ⟨p, g, s, _, rfl, P5, by omega, by omega, fun H6 c1 P6 K6 c10 c11 => ?_⟩
          refine ⟨_, _, rfl, rfl, ?_⟩
          have M6 := M5.keep AP P6 K6
          have L6 := K6 _ _ L5 o5.p o5.g
          obtain ⟨cn, hcn⟩ : ∃ cn : Nat, le + c1 = (cn : Int) := ⟨(le + c1).toNat, by omega⟩
          have cnb : cn ≤ row.length ∧ cn ≤ mm ∧ row.length ≤ cn + mm ∧ (cn = 0 → row.length ≤ mm) := by omega
          show gName 11 (V.int (le + c1)) _ _ _
          rw [hcn]
          clear hcn c10 c11 mi1
          -- low = max(0, cut - 1)
          refine ⟨_, rfl, _, _, rfl, rfl, _, _, rfl, ?_⟩
          generalize hlo : (if ((cn : Nat) : Int) - 1 > 0 then ((cn : Nat) : Int) - 1 else 0) = lo
          have lo1 : (lo = 0 ∧ cn ≤ 1) ∨ (lo = (cn : Int) - 1 ∧ 1 ≤ cn) := by
            rw [← hlo]
            by_cases q : ((cn : Nat) : Int) - 1 > 0
            · rw [if_pos q]; exact .inr ⟨rfl, by omega⟩
            · rw [if_neg q]; exact .inl ⟨rfl, by omega⟩
          clear hlo
          -- more
          refine ⟨_, rfl, _, rfl, _, rfl, _, _, rfl, rfl, _, rfl, _, _, rfl, .inl (SqL.of L6), _, rfl, _, _, rfl, rfl, _, _, rfl, rfl, _, _, rfl, _, _, rfl, rfl, _, rfl, _, _, rfl, rfl, _, _, rfl, rfl, ?_⟩
          rw [hyl]
          generalize hma : (if ((row.length : Nat) : Int) - ((cn : Nat) : Int) - 1 > 0 then ((row.length : Nat) : Int) - ((cn : Nat) : Int) - 1 else 0) = ma
          have ma1 : (ma = 0 ∧ (row.length : Int) - cn - 1 ≤ 0) ∨ (ma = (row.length : Int) - cn - 1 ∧ 0 < (row.length : Int) - cn - 1) := by
            rw [← hma]
            by_cases q : ((row.length : Nat) : Int) - ((cn : Nat) : Int) - 1 > 0
            · rw [if_pos q]; exact .inr ⟨rfl, q⟩
            · rw [if_neg q]; exact .inl ⟨rfl, by omega⟩
          clear hma
          refine ⟨p, g, s, _, rfl, P6, by omega, by omega, fun H7 m1 P7 K7 m10 m11 => ?_⟩
          refine ⟨_, _, rfl, rfl, ?_⟩
          have M7 := M6.keep AP P7 K7
          have L7 := K7 _ _ L6 o5.p o5.g
          obtain ⟨mn, hmn⟩ : ∃ mn : Nat, lo + m1 = (mn : Int) := ⟨(lo + m1).toNat, by omega⟩
          have mnb : cn ≤ mn + 1 ∧ mn + 1 ≤ mm ∧ row.length - cn ≤ mm - mn := by omega
          show gName 13 (V.int (lo + m1)) _ _ _
          rw [hmn]
          clear hmn m10 m11 ma1 lo1 le1
          -- found.append('@')
          have fr7 := M7.fr
          have hf7 := M7.hf
          refine ⟨_, rfl, .inl ⟨rfl, _, SqL.of hf7⟩, f, _, _, rfl, rfl, hf7, hF, ?_⟩
          rw [enc_ap]
          have M8 : Mid p g s u f w names (F ++ [W.ap]) X (T, R, row, mm) H' (upd H7 f (.lst (F.map wv ++ [wv .ap]))) := by
            have tk0 : takesOf (F ++ [W.ap]) = takesOf F := by rw [takesOf_app]; simp [takesOf]
            refine ⟨P7.wr AP.fp AP.fg AP.fs, by rw [upd_same, List.map_append]; rfl, by rw [upd_ne AP.fw.symm]; exact M7.hw, by rw [upd_ne AP.fu.symm, tk0]; exact M7.hu, M7.e.fro Fro.updf, M7.fr.trans Fro.updf⟩
          have L8 : upd H7 f (.lst (F.map wv ++ [wv .ap])) R5 = some (.lst (ys.map sv)) := (upd_ne o5.f).trans L7
          generalize upd H7 f (.lst (F.map wv ++ [wv .ap])) = H8 at *
          have hXl : (pyl X).length + 1 < sizeLine := by
            have c1 : ∀ (Y : List Entry), (∀ y ∈ Y, y.2.2.1.length ≤ y.2.2.2 + 1) → Y.length ≤ costs (Y.map (·.2.2)) := by
              intro Y
              induction Y with
              | nil => intro _; simp
              | cons y Y ih =>
                intro hy
                have h1 := ih fun z hz => hy z (List.mem_cons_of_mem _ hz)
                have h2 := hy y (List.mem_cons_self ..)
                simp only [List.length_cons, List.map_cons, costs, cost]
                omega
            have c2 := c1 X fun y hy => (I.ent y (List.mem_cons_of_mem _ hy)).le
            simp only [List.map_cons, costs] at cst
            have : (pyl X).length = X.length := by simp [pyl]
            rw [this, sizeLine_eq]; omega
          -- waiting.append((row[cut:], many - 1 - more))
          refine ⟨_, rfl, .inl ⟨rfl, _, SqL.of M8.hw⟩, _, rfl, _, rfl, _, rfl, R5, _, rfl, SqL.of L8, fun q1 n1 => ?_⟩
          have ec1 : cutV (ys.map sv) (some ((cn : Nat) : Int)) none = (ys.drop cn).map sv := by rw [cut_from, List.map_drop]
          rw [ec1]
          have S9 : Same H8 (upd H8 q1 (.lst ((ys.drop cn).map sv))) := same_upd n1
          have l9 : upd H8 q1 (.lst ((ys.drop cn).map sv)) q1 = some (.lst ((ys.drop cn).map sv)) := upd_same
          have o9 : Off p g u f w q1 := WI.offNew M8.pot M8.hf M8.hw M8.hu n1
          have M9 := M8.same S9
          have L9 := S9 _ _ L8
          generalize upd H8 q1 (.lst ((ys.drop cn).map sv)) = H9 at *
          refine ⟨_, rfl, _, _, rfl, rfl, _, rfl, _, _, rfl, rfl, (by show 2 ≤ sizeLine; decide), fun T1 nT1 => ?_⟩
          have e2 : ((mm : Nat) : Int) - 1 - ((mn : Nat) : Int) = ((mm - 1 - mn : Nat) : Int) := by omega
          have e3 : (V.int (((mm : Nat) : Int) - 1 - ((mn : Nat) : Int))) = V.int ((mm - 1 - mn : Nat) : Int) := by rw [e2]
          show tNil _ (upd H9 T1 (.tup [.ref q1, V.int (((mm : Nat) : Int) - 1 - ((mn : Nat) : Int))])) _
          rw [e3]
          have S10 : Same H9 (upd H9 T1 (.tup [.ref q1, .int ((mm - 1 - mn : Nat) : Int)])) := same_upd nT1
          have l10 : upd H9 T1 (.tup [.ref q1, .int ((mm - 1 - mn : Nat) : Int)]) T1 = some (.tup [.ref q1, .int ((mm - 1 - mn : Nat) : Int)]) := upd_same
          have o10 : Off p g u f w T1 := WI.offNew M9.pot M9.hf M9.hw M9.hu nT1
          have M10 := M9.same S10
          have L10 := S10 _ _ L9
          have l9' := S10 _ _ l9
          generalize upd H9 T1 (.tup [.ref q1, .int ((mm - 1 - mn : Nat) : Int)]) = H10 at *
          refine ⟨w, _, _, rfl, rfl, M10.hw, by omega, ?_⟩
          have E1 : Ent p g u f w (upd H10 w (.lst (pyl X ++ [.ref T1]))) (T1, q1, ys.drop cn, mm - 1 - mn) :=
            ⟨(upd_ne o10.w).trans l10, (upd_ne o9.w).trans l9', o10, o9, by show (ys.drop cn).length ≤ mm - 1 - mn + 1; rw [List.length_drop, hp.length_eq]; omega⟩
          have ep1 : pyl X ++ [.ref T1] = pyl ((T1, q1, ys.drop cn, mm - 1 - mn) :: X) := (pyl_cons (T1, q1, ys.drop cn, mm - 1 - mn) X).symm
          have M11 : Mid p g s u f w names (F ++ [W.ap]) ((T1, q1, ys.drop cn, mm - 1 - mn) :: X) (T, R, row, mm) H' (upd H10 w (.lst (pyl X ++ [.ref T1]))) :=
            ⟨M10.pot.wr AP.wp AP.wg AP.ws, (upd_ne AP.fw).trans M10.hf, by rw [← ep1]; exact upd_same, (upd_ne AP.wu.symm).trans M10.hu, M10.e.fro Fro.updw, M10.fr.trans Fro.updw⟩
          have L11 : upd H10 w (.lst (pyl X ++ [.ref T1])) R5 = some (.lst (ys.map sv)) := (upd_ne o5.w).trans L10
          generalize upd H10 w (.lst (pyl X ++ [.ref T1])) = H11 at *
          -- waiting.append((row[:cut], more))
          refine ⟨_, rfl, .inl ⟨rfl, _, SqL.of M11.hw⟩, _, rfl, _, rfl, _, rfl, R5, _, rfl, SqL.of L11, fun q2 n2 => ?_⟩
          have ec2 : cutV (ys.map sv) none (some ((cn : Nat) : Int)) = (ys.take cn).map sv := by rw [cut_to, List.map_take]
          rw [ec2]
          have S12 : Same H11 (upd H11 q2 (.lst ((ys.take cn).map sv))) := same_upd n2
          have l12 : upd H11 q2 (.lst ((ys.take cn).map sv)) q2 = some (.lst ((ys.take cn).map sv)) := upd_same
          have o12 : Off p g u f w q2 := WI.offNew M11.pot M11.hf M11.hw M11.hu n2
          have M12 := M11.same S12
          have E2 := E1.fro (Fro.same S12)
          generalize upd H11 q2 (.lst ((ys.take cn).map sv)) = H12 at *
          refine ⟨_, rfl, (by show 2 ≤ sizeLine; decide), fun T2 nT2 => ?_⟩
          have S13 : Same H12 (upd H12 T2 (.tup [.ref q2, .int ((mn : Nat) : Int)])) := same_upd nT2
          have l13 : upd H12 T2 (.tup [.ref q2, .int ((mn : Nat) : Int)]) T2 = some (.tup [.ref q2, .int ((mn : Nat) : Int)]) := upd_same
          have o13 : Off p g u f w T2 := WI.offNew M12.pot M12.hf M12.hw M12.hu nT2
          have M13 := M12.same S13
          have E3 := E2.fro (Fro.same S13)
          have l12' := S13 _ _ l12
          generalize upd H12 T2 (.tup [.ref q2, .int ((mn : Nat) : Int)]) = H13 at *
          refine ⟨w, _, _, rfl, rfl, M13.hw, by rw [pyl_cons, List.length_append]; exact hXl, ?_⟩
          have hpl := hp.length_eq
          refine ⟨F ++ [.ap], (T2, q2, ys.take cn, mn) :: (T1, q1, ys.drop cn, mm - 1 - mn) :: X, _, _, _, _, _, _, _, _, rfl,
            WI.next (Y := [(T2, q2, ys.take cn, mn), (T1, q1, ys.drop cn, mm - 1 - mn)]) AP I (M13.fr.trans Fro.updw) (M13.pot.wr AP.wp AP.wg AP.ws) ((upd_ne AP.fw).trans M13.hf) ?_ ((upd_ne AP.wu.symm).trans M13.hu) ?_ ?_ ?_ (by simp [I.len]) ?_ (I.pre.ap (by rw [List.take_append_drop]; exact hp) (by omega))⟩
          · rw [upd_same]
            show _ = some (HO.lst (pyl ((T2, q2, ys.take cn, mn) :: (T1, q1, ys.drop cn, mm - 1 - mn) :: X)))
            rw [pyl_cons (T2, q2, ys.take cn, mn)]
          · intro y hy
            have e : y = (T2, q2, ys.take cn, mn) ∨ y = (T1, q1, ys.drop cn, mm - 1 - mn) := by simpa using hy
            rcases e with e | e
            · subst e
              exact ⟨(upd_ne o13.w).trans l13, (upd_ne o12.w).trans l12', o13, o12, by show (ys.take cn).length ≤ mn + 1; rw [List.length_take]; omega⟩
            · subst e
              exact E3.fro Fro.updw
          · have tk0 : takesOf (F ++ [W.ap]) = takesOf F := by rw [takesOf_app]; simp [takesOf]
            rw [tk0]; exact I.nd
          · have tk0 : takesOf (F ++ [W.ap]) = takesOf F := by rw [takesOf_app]; simp [takesOf]
            rw [tk0]; exact I.ok
          · show cost (ys.take cn, mn) + (cost (ys.drop cn, mm - 1 - mn) + 0) + 1 = cost (row, mm)
            unfold cost
            show 3 * mn + 2 - (ys.take cn).length + (3 * (mm - 1 - mn) + 2 - (ys.drop cn).length + 0) + 1 = 3 * mm + 2 - row.length
            rw [List.length_take, List.length_drop]
            omega
    · rintro σ H' ⟨F, X, v6, v7, v8, v9, v10, v11, v12, v13, rfl, I⟩
      rw [en] at I
      have c := I.cst
      cases X with
      | nil => exact ⟨_, rfl, _, _, rfl, SqL.of I.hf, fun q o nq ho => fin _ _ _ I q o nq ho⟩
      | cons x X =>
        have e := I.ent x (List.mem_cons_self ..)
        have l := e.le
        simp only [List.map_cons, costs, cost] at c
        omega
end Kk

set_option maxHeartbeats 2000000
namespace Kk
open PySem PySem.Spec PyProof.Rows L2 Wd
def spSize : Sp := fun vs H Q _ => ∃ (p g s : Addr) (m : Nat), vs = [.ref p, .int (m : Int)] ∧ PotAt H p g s ∧ m ≤ 333 ∧
  ∀ (H' : Hp) (n : Nat), n ≤ max m 9 → PotAt H' p g s → Keep p g H H' → Q (.int (n : Int)) H'
def spProgram : Sp := fun vs H Q _ => ∃ (p g s : Addr) (m k : Nat), vs = [.ref p, .int (m : Int), .int (k : Int)] ∧ PotAt H p g s ∧ m ≤ 333 ∧ k ≤ 50 ∧
  ∀ (H' : Hp) (q : Addr) (names : List Nm) (gv : Nat) (ws : List W), Gen names gv ws → gv ≤ max m 9 → names.length ≤ k → PotAt H' p g s → TupF H' q (ws.map wv) → Keep p g H H' → Q (.ref q) H'
end Kk

set_option maxHeartbeats 2000000
namespace Kk
open PySem PySem.Spec PyProof.Rows L2 Wd
theorem PotAt.offs {H : Hp} {p g s q : Addr} {o : HO} (h : PotAt H p g s) (e : H q = some o) (hn : ∀ xs, o ≠ .lst xs) : q ≠ p ∧ q ≠ g := by
  obtain ⟨⟨G, S, t, r, z1, z2, z3, z4⟩, _, _, _⟩ := h
  exact ⟨ne_of e z1 (hn _), ne_of e z2 (hn _)⟩
theorem PotAt.new {H : Hp} {p g s q : Addr} (h : PotAt H p g s) (e : H q = none) : q ≠ p ∧ q ≠ g ∧ q ≠ s := by
  obtain ⟨⟨G, S, t, r, z1, z2, z3, z4⟩, _, _, _⟩ := h
  exact ⟨(ne_of_none z1 e).symm, (ne_of_none z2 e).symm, (ne_of_none z3 e).symm⟩
theorem Keep.free {H H1 : Hp} {p g s q : Addr} (k : Keep p g H H1) (P : PotAt H1 p g s) (e : H1 q = none) : H q = none := by
  cases h : H q with
  | none => rfl
  | some o =>
    obtain ⟨n1, n2, _⟩ := P.new e
    rw [k q o h n1 n2] at e
    cases e
theorem Keep.nw {H H1 : Hp} {p g q : Addr} {o : HO} (k : Keep p g H H1) (e : H q = none) : Keep p g H (upd H1 q o) := fun b u hb h1 h2 => by
  rw [upd_ne (ne_of_none hb e)]
  exact k b u hb h1 h2
theorem Same.nw {H H1 : Hp} {q : Addr} {o : HO} (k : Same H H1) (e : H q = none) : Same H (upd H1 q o) := fun b u hb => by
  rw [upd_ne (ne_of_none hb e)]
  exact k b u hb
theorem TupF.keepP {H H' : Hp} {p g s a : Addr} {xs : List V} (h : TupF H a xs) (P : PotAt H p g s) (k : Keep p g H H') : TupF H' a xs := by
  obtain ⟨o, h2, d2⟩ := h
  obtain ⟨q1, q2⟩ := P.offs h2 (fun _ q => nomatch q)
  exact ⟨o, k _ _ h2 q1 q2, d2⟩
end Kk

set_option maxHeartbeats 2000000
namespace Kk
open PySem PySem.Spec PyProof.Rows L2 Wd
theorem lc_text {x : Str} {g : TG} {tt : TT} {te : TE} {vs : List Nat} {σ : L2.St} {H1 : Hp} {D : Addr} {Qd : Hp → Prop} (Pv : Nat → Hp → Prop) (h0 : Pv 0 (upd H1 D (.lst [])))
    (hs : ∀ i c H, x.cps[i]? = some c → Pv i H → g (.str ⟨#[c]⟩) (wipe σ vs) H fun σ2 H2 => wipe σ2 vs = wipe σ vs ∧ tt σ2 H2 fun b H3 =>
      if b = true then te σ2 H3 fun y H4 => ∃ acc, H4 D = some (.lst acc) ∧ acc.length < sizeLine ∧ Pv (i + 1) (upd H4 D (.lst (acc ++ [y]))) else Pv (i + 1) H3) (hd : ∀ H, Pv x.cps.size H → Qd H) :
    ∃ W : Nat → Nat → Hp → Prop, (∃ m, W 0 m (upd H1 D (.lst []))) ∧ ∀ i m H, W i m H →
      ((Its x).stop i H ∧ Qd H) ∨ ((Its x).go i H ∧ ∃ Nx : Hp → Prop, (∀ H', Nx H' → ∃ m', m' < m ∧ W (i + 1) m' H') ∧ ∀ v H', (Its x).yld i H v H' → g v (wipe σ vs) H' fun σ2 H2 => wipe σ2 vs = wipe σ vs ∧ tt σ2 H2 fun b H3 =>
        if b = true then te σ2 H3 fun y H4 => ∃ acc, H4 D = some (.lst acc) ∧ acc.length < sizeLine ∧ Nx (upd H4 D (.lst (acc ++ [y]))) else Nx H3) := by
  refine ⟨fun i m H => m = x.cps.size - i ∧ i ≤ x.cps.size ∧ Pv i H, ⟨x.cps.size, by simp, Nat.zero_le _, h0⟩, ?_⟩
  rintro i m H ⟨rfl, hi, p⟩
  by_cases hlt : i < x.cps.size
  · refine .inr ⟨hlt, Pv (i + 1), fun H' p' => ⟨x.cps.size - (i + 1), by omega, rfl, hlt, p'⟩, fun v H' y => ?_⟩
    obtain ⟨rfl, c, hc, rfl⟩ := y
    exact hs i c _ hc p
  · have e : i = x.cps.size := by omega
    subst e
    exact .inl ⟨Nat.le_refl _, hd H p⟩
def spIsName : Sp := fun vs H Q _ => ∃ z : Str, vs = [.str z] ∧ z.length ≤ 1000 ∧ ∀ H', Same H H' → Q (.bl (nameB z)) H'
abbrev s_is_name : Stmt := (top 4)
theorem sc_is_name : FnScope ["thing", "sign"] ["thing"] (defScope s_is_name) := ⟨rfl, rfl, rfl, by decide +kernel, rfl, by decide +kernel, by decide +kernel⟩
theorem kitSS : kitB "str" "str" = some true := by decide +kernel
theorem c_is_name {P w K mg base} (B : Bt mg) (D : DefAt K mg "is_name" s_is_name) : Cal P w K mg base "is_name" 1 ["thing"] spIsName := by
  refine cal_of D sc_is_name (fun _ _ _ _ _ _ us hl => match us, hl with | [_], _ => rfl) (fun vs H Q E h => ?_) (fun fa cdv A outer st0 H vs Q E hr h => ?_)
  · obtain ⟨z, rfl, _⟩ := h
    rfl
  · obtain ⟨z, rfl, hz, k⟩ := h
    refine ⟨_, (pss_cons (ps_if (PW.pt (pw_or (pt_not (pt_val (pe_callB call_isi (by rfl) B.b_isinstance (by decide +kernel) (pa_cons (pv 0) (pa_cons (pe_ty (n := "str") B.b_str (by decide +kernel)) pa_nil))))) (pw_or1 (pt_not (pt_chain op_le op_le pe_int (pe_callB call_len_str (by rfl) B.b_len (by decide +kernel) (pa_cons (pv 0) pa_nil)) (pe_gi B.m_MOST_LETTERS)))))) (pss_one (ps_ret pe_bl)) pss_nil)
      (pss_one (ps_ret (pe_callB (cr_all rfl) (by rfl) B.b_all (by decide +kernel) (pa_cons (pe_lc (own := [("sign", 1)]) (g := (gName 1)) (tt := tYes) rfl sc_is_name.nd (pi_str (pv 0)) (blkOk_by (own := [("sign", 1)]) (N := ["thing", "sign"]) (sc := defScope s_is_name) (by decide +kernel)) (fun _ _ _ _ _ => (pg_name (i := 1) sc_is_name.nd rfl (by first | exact Or.inl rfl | exact Or.inr rfl))) (fun _ _ _ _ _ => pts_nil) (fun _ _ _ _ _ => (pe_cmpR op_in_sign (pv 1) (pe_gs B.m_LETTERS) (by rfl)))) pa_nil))))), ?_⟩
    refine ⟨_, rfl, _, _, _, _, true, rfl, .ty _, .base (.str z), kit_ty kitSS, _, rfl, ?_⟩
    refine iteF ?_
    have hzl : z.length ≤ sizeLine := Nat.le_of_lt (small_lt hz (by decide))
    refine ⟨_, rfl, _, rfl, hzl, _, _, rfl, rfl, _, rfl, ?_⟩
    by_cases h1 : 1 ≤ z.length
    · rw [decide_eq_true (show (1 : Int) ≤ (z.length : Nat) by omega)]
      refine iteT ⟨_, _, rfl, rfl, _, rfl, ?_⟩
      by_cases h2 : z.length ≤ 8
      · rw [decide_eq_true (show ((z.length : Nat) : Int) ≤ 8 by omega)]
        refine iteF ?_
        refine ⟨_, rfl, z, rfl, fun D nD => lc_text (x := z) (fun i H' => H' = upd H D (.lst ((((TL.tl z).take i).map fun c => decide (97 ≤ c ∧ c ≤ 122)).map V.bl))) rfl ?_ ?_⟩
        · rintro i c H' hc e
          have hc' : (TL.tl z)[i]? = some c := by
            show z.cps.toList[i]? = _
            rw [Array.getElem?_toList]; exact hc
          refine ⟨rfl, _, rfl, c, _, rfl, rfl, ?_⟩
          rw [letters c]
          refine ⟨_, by rw [e]; exact upd_same, ?_, ?_⟩
          · rw [List.length_map, List.length_map, List.length_take]
            have : (TL.tl z).length = z.length := (TL.len_tl z).symm
            exact small_lt (m := 1000) (by omega) (by decide)
          · rw [upd_over e, List.take_add_one, hc']
            simp
        · rintro H' rfl
          have hl : (TL.tl z).take z.cps.size = TL.tl z := List.take_of_length_le (by rw [← TL.len_tl]; exact Nat.le_refl _)
          refine ⟨D, _, rfl, SqL.of upd_same, ?_⟩
          rw [hl]
          have ef : (((TL.tl z).map fun c => decide (97 ≤ c ∧ c ≤ 122)).all id) = nameB z := by
            unfold nameB
            rw [decide_eq_true h1, decide_eq_true h2, List.all_map]
            rfl
          rw [ef]
          exact k _ (same_upd nD)
      · rw [decide_eq_false (show ¬ ((z.length : Nat) : Int) ≤ 8 by omega)]
        refine iteT ?_
        have ef : nameB z = false := by unfold nameB; rw [decide_eq_false h2]; simp
        have := k H (Same.refl H)
        rw [ef] at this
        exact this
    · rw [decide_eq_false (show ¬ (1 : Int) ≤ (z.length : Nat) by omega)]
      refine iteF ⟨_, rfl, iteT ?_⟩
      have ef : nameB z = false := by unfold nameB; rw [decide_eq_false h1]; rfl
      have := k H (Same.refl H)
      rw [ef] at this
      exact this
/-- of a word that is one -/
def spIsWord : Sp := fun vs H Q _ => ∃ w : W, vs = [wv w] ∧ wOk w ∧ ∀ H', Same H H' → Q (.bl true) H'
theorem len_enc {w : W} (h : wOk w) : (enc w).length ≤ 9 := by
  have : (enc w).length = (code w).length := TL.len_tl _
  rw [this]
  cases w with
  | ap => decide
  | tk n => have := h.2.1; simp [Wd.code]; omega
  | nm n => have := h.2.1; simp [Wd.code]; omega
abbrev s_is_word : Stmt := (top 18)
theorem sc_is_word : FnScope ["thing"] ["thing"] (defScope s_is_word) := ⟨rfl, rfl, rfl, by decide +kernel, rfl, by decide +kernel, by decide +kernel⟩
theorem c_is_word {P w K mg base} (B : Bt mg) (D : DefAt K mg "is_word" s_is_word) (Cis_name : Cal P w K mg base "is_name" 1 ["thing"] spIsName) : Cal P w K mg base "is_word" 2 ["thing"] spIsWord := by
  refine cal_of D sc_is_word (fun _ _ _ _ _ _ us hl => match us, hl with | [_], _ => rfl) (fun vs H Q E h => ?_) (fun fa cdv A outer st0 H vs Q E hr h => ?_)
  · obtain ⟨z, rfl, _⟩ := h
    rfl
  · obtain ⟨z, rfl, hz, k⟩ := h
    refine ⟨_, (pss_cons (ps_if (pt_not (pt_val (pe_callB call_isi (by rfl) B.b_isinstance (by decide +kernel) (pa_cons (pv 0) (pa_cons (pe_ty (n := "str") B.b_str (by decide +kernel)) pa_nil))))) (pss_one (ps_ret pe_bl)) pss_nil)
      (pss_one (ps_ret (pe_or (pe_cmpR op_eq (pv 0) (pe_gs B.m_GIVEN) (nomark _)) (pe_or (pe_c Cis_name (hr.mono (by decide)) (pa_cons (pv 0) pa_nil)) (pe_one (pe_and (pe_bm PySem.F.plainAttrs_str PySem.F.slot_str_startswith PySem.F.type_str_startswith mt_startswith (pv 0) (pa_cons (pe_gs B.m_TAKE) pa_nil)) (pe_one (pe_c Cis_name (hr.mono (by decide)) (pa_cons (pe_slice sl_str (pv 0) (po_some pe_int) po_none) pa_nil)))))))))), ?_⟩
    refine ⟨_, rfl, _, _, _, _, true, rfl, .ty _, .base (.str _), kit_ty kitSS, _, rfl, ?_⟩
    refine iteF ?_
    have hl := len_enc hz
    refine ⟨_, rfl, rfl, _, rfl, ?_⟩
    rw [is_ap hz]
    cases z with
    | ap => exact iteT (k H (Same.refl H))
    | nm n =>
      refine iteF ⟨_, rfl, _, rfl, by omega, fun H1 S1 => ?_⟩
      rw [enc_nm, nameB_ok hz]
      exact ⟨true, rfl, iteT (k H1 S1)⟩
    | tk n =>
      refine iteF ⟨_, rfl, _, rfl, by omega, fun H1 S1 => ?_⟩
      rw [nameB_tk]
      refine ⟨false, rfl, iteF ?_⟩
      refine ⟨_, rfl, rfl, _, _, rfl, rfl, ?_⟩
      rw [starts_tk hz]
      refine ⟨true, rfl, iteT ?_⟩
      refine ⟨_, rfl, _, rfl, _, rfl, Nat.le_of_lt (small_lt (m := 9) hl (by decide)), ?_⟩
      rw [cut1]
      refine ⟨_, rfl, ?_, fun H2 S2 => ?_⟩
      · rw [len_str]; have := hz.2.1; omega
      · rw [nameB_ok hz]
        exact k H2 (S1.trans S2)
end Kk

set_option maxHeartbeats 2000000
namespace Kk
open PySem PySem.Spec PyProof.Rows L2 Wd
/-- a check of words that finds no fault -/
def spFine (K : PySem.W.Frag) : Sp := fun vs H Q _ => ∃ (a : Addr) (ws : List W), vs = [.ref a] ∧ SqT K H a (ws.map wv) ∧ Vd ws ∧ ws.length ≤ 1000 ∧ ∀ H', Same H H' → Q .non H'
abbrev s_stranger_index : Stmt := (top 19)
theorem sc_stranger_index : FnScope ["things", "at", "thing"] ["things"] (defScope s_stranger_index) := ⟨rfl, rfl, rfl, by decide +kernel, rfl, by decide +kernel, by decide +kernel⟩
theorem c_stranger_index {P w K mg base} (B : Bt mg) (D : DefAt K mg "stranger_index" s_stranger_index) (Cis_word : Cal P w K mg base "is_word" 2 ["thing"] spIsWord) : Cal P w K mg base "stranger_index" 3 ["things"] (spFine K) := by
  refine cal_of D sc_stranger_index (fun _ _ _ _ _ _ us hl => match us, hl with | [_], _ => rfl) (fun vs H Q E h => ?_) (fun fa cdv A outer st0 H vs Q E hr h => ?_)
  · obtain ⟨a, ws, rfl, _⟩ := h
    rfl
  · obtain ⟨a, ws, rfl, hq, vd, hl, k⟩ := h
    refine ⟨_, (pss_cons (ps_for PassesOwn.never rfl (pi_enumT (by rfl) B.b_enumerate (pa_cons (pv 0) pa_nil)) (pg_tup (by rfl) (pgs_cons (pg_name (i := 1) sc_stranger_index.nd rfl (by first | exact Or.inl rfl | exact Or.inr rfl)) (pgs_cons (pg_name (i := 2) sc_stranger_index.nd rfl (by first | exact Or.inl rfl | exact Or.inr rfl)) pgs_nil))) (pss_one (ps_if (pt_not (pt_val (pe_c Cis_word (hr.mono (by decide)) (pa_cons (pv 2) pa_nil)))) (pss_one (ps_ret (pv 1))) pss_nil)))
      (pss_one (ps_ret pe_non))), ?_⟩
    refine ⟨_, rfl, a, _, rfl, hq, for_enumT (K := K) (a := a) (xs := ws.map wv) (fun i σ H' => ∃ v1 v2 : Option V, σ = [some (.ref a), v1, v2] ∧ Same H H') ⟨none, none, rfl, Same.refl H⟩ (fun i σ H' _ ⟨_, _, _, s⟩ => SqT.same hq s) ?_ ?_⟩
    · rintro i x σ H' T hx ⟨v1, v2, rfl, S1⟩ nT
      obtain ⟨w, hw, rfl⟩ := map_get hx
      have S2 : Same H (upd H' T (.tup [.int (i : Nat), wv w])) := S1.trans (same_upd nT)
      refine ⟨T, _, rfl, SqT.of upd_same, rfl, _, _, rfl, _, _, rfl, rfl, ?_⟩
      refine ⟨_, rfl, w, rfl, vd.okAt hw, fun H3 S3 => ⟨true, rfl, iteF ?_⟩⟩
      exact ⟨_, _, rfl, S2.trans S3⟩
    · rintro σ H' ⟨v1, v2, rfl, S1⟩
      exact k H' S1
/-- how many parts belong to a word -/
def spPartsIn : Sp := fun vs H Q _ => ∃ w : W, vs = [wv w] ∧ wOk w ∧ ∀ H', Same H H' → Q (nv (needW w)) H'
abbrev s_parts_in : Stmt := (top 20)
theorem sc_parts_in : FnScope ["word"] ["word"] (defScope s_parts_in) := ⟨rfl, rfl, rfl, by decide +kernel, rfl, by decide +kernel, by decide +kernel⟩
theorem c_parts_in {P w K mg base} (B : Bt mg) (D : DefAt K mg "parts_in" s_parts_in) : Cal P w K mg base "parts_in" 1 ["word"] spPartsIn := by
  refine cal_of D sc_parts_in (fun _ _ _ _ _ _ us hl => match us, hl with | [_], _ => rfl) (fun vs H Q E h => ?_) (fun fa cdv A outer st0 H vs Q E hr h => ?_)
  · obtain ⟨z, rfl, _⟩ := h
    rfl
  · obtain ⟨z, rfl, hz, k⟩ := h
    refine ⟨_, (pss_cons (ps_if (pt_cmpR op_eq (pv 0) (pe_gs B.m_GIVEN) (nomark _)) (pss_one (ps_ret pe_int)) pss_nil)
      (pss_one (ps_ret (pe_ifExp (pt_val (pe_bm PySem.F.plainAttrs_str PySem.F.slot_str_startswith PySem.F.type_str_startswith mt_startswith (pv 0) (pa_cons (pe_gs B.m_TAKE) pa_nil))) pe_int pe_int)))), ?_⟩
    have kk := k H (Same.refl H)
    refine ⟨_, rfl, rfl, _, rfl, ?_⟩
    rw [is_ap hz]
    cases z with
    | ap => exact iteT kk
    | tk n =>
      refine iteF ⟨_, rfl, rfl, _, _, rfl, rfl, ?_⟩
      rw [starts_tk hz]
      exact ⟨true, rfl, iteT kk⟩
    | nm n =>
      refine iteF ⟨_, rfl, rfl, _, _, rfl, rfl, ?_⟩
      rw [starts_tk hz]
      exact ⟨false, rfl, iteF kk⟩
abbrev s_repeated_index : Stmt := (top 21)
theorem sc_repeated_index : FnScope ["words", "seen", "at", "word"] ["words"] (defScope s_repeated_index) := ⟨rfl, rfl, rfl, by decide +kernel, rfl, by decide +kernel, by decide +kernel⟩
def seenK (ws : List W) (i : Nat) (k : Key) : Bool := (ws.take i).any fun w => !isAp w && decide (k = Sum.inr (enc w))
theorem seenK_new {ws : List W} (vd : Vd ws) {i : Nat} {w : W} (hw : ws[i]? = some w) : seenK ws i (Sum.inr (enc w)) = false := by
  unfold seenK
  rw [List.any_eq_false]
  intro u hu hc
  rw [Bool.and_eq_true, decide_eq_true_eq] at hc
  obtain ⟨h1, h2⟩ := hc
  have e : w = u := enc_inj (vd.okAt hw) (vd.ok u (List.mem_of_mem_take hu)) (Sum.inr.inj h2)
  subst e
  obtain ⟨j, hj, e⟩ := List.mem_iff_getElem.mp hu
  rw [List.length_take] at hj
  have hj' : ws[j]? = some w := by
    rw [List.getElem?_eq_getElem (by omega)]
    rw [List.getElem_take] at e
    rw [e]
  have hne : w ≠ .ap := by rintro rfl; cases h1
  have := vd.once hne hw hj'
  omega
theorem seenK_step {ws : List W} {i : Nat} {w : W} (hw : ws[i]? = some w) (k : Key) : seenK ws (i + 1) k = (seenK ws i k || (!isAp w && decide (k = Sum.inr (enc w)))) := by
  unfold seenK
  rw [List.take_add_one, hw, List.any_append]
  simp
theorem c_repeated_index {P w K mg base} (B : Bt mg) (D : DefAt K mg "repeated_index" s_repeated_index) : Cal P w K mg base "repeated_index" 1 ["words"] (spFine K) := by
  refine cal_of D sc_repeated_index (fun _ _ _ _ _ _ us hl => match us, hl with | [_], _ => rfl) (fun vs H Q E h => ?_) (fun fa cdv A outer st0 H vs Q E hr h => ?_)
  · obtain ⟨a, ws, rfl, _⟩ := h
    rfl
  · obtain ⟨a, ws, rfl, hq, vd, hl, k⟩ := h
    refine ⟨_, (pss_cons (ps_set (i := 1) sc_repeated_index.nd rfl (by first | exact Or.inl rfl | exact Or.inr rfl) (pe_callTy0 cr_set0K (by rfl) B.b_set (by decide +kernel)))
      (pss_cons (ps_for PassesOwn.never rfl (pi_enumT (by rfl) B.b_enumerate (pa_cons (pv 0) pa_nil)) (pg_tup (by rfl) (pgs_cons (pg_name (i := 2) sc_repeated_index.nd rfl (by first | exact Or.inl rfl | exact Or.inr rfl)) (pgs_cons (pg_name (i := 3) sc_repeated_index.nd rfl (by first | exact Or.inl rfl | exact Or.inr rfl)) pgs_nil))) (pss_cons (ps_if (pt_cmpR or_sinK (pv 3) (pv 1) (by rfl)) (pss_one (ps_ret (pv 2))) pss_nil)
      (pss_one (ps_if (pt_cmpR op_ne (pv 3) (pe_gs B.m_GIVEN) (nomark _)) (pss_one (ps_expr (pe_saddK (pv 1) (pa_cons (pv 3) pa_nil)))) pss_nil))))
      (pss_one (ps_ret pe_non)))), ?_⟩
    refine ⟨rfl, fun S nS => ?_⟩
    refine ⟨_, rfl, a, _, rfl, SqT.same hq (same_upd nS), for_enumT (K := K) (a := a) (xs := ws.map wv) (fun i σ H' => ∃ (v1 v2 : Option V) (c : Nat), σ = [some (.ref a), some (.ref S), v1, v2] ∧ Same H H' ∧ c ≤ i ∧ H' S = some (SetK P w S (seenK ws i) c))
      ⟨none, none, 0, rfl, same_upd nS, Nat.le_refl _, upd_same⟩ (fun i σ H' _ ⟨_, _, _, _, s, _⟩ => SqT.same hq s) ?_ ?_⟩
    · rintro i x σ H' T hx ⟨v1, v2, c, rfl, S1, hc, L1⟩ nT
      obtain ⟨w', hw, rfl⟩ := map_get hx
      have hi := Wd.T.lt_of_get hw
      have S2 : Same H (upd H' T (.tup [.int (i : Nat), wv w'])) := S1.trans (same_upd nT)
      have L2 : upd H' T (.tup [.int (i : Nat), wv w']) S = _ := same_upd nT _ _ L1
      refine ⟨T, _, rfl, SqT.of upd_same, rfl, _, _, rfl, _, _, rfl, rfl, ?_⟩
      generalize upd H' T (.tup [.int (i : Nat), wv w']) = H2 at *
      refine ⟨_, rfl, _, rfl, Sum.inr (enc w'), S, _, c, rfl, rfl, L2, _, rfl, ?_⟩
      show if (seenK ws i (Sum.inr (enc w'))) = true then _ else _
      rw [seenK_new vd hw]
      refine iteF ⟨_, rfl, rfl, _, rfl, ?_⟩
      rw [is_ap (vd.okAt hw)]
      have hst : seenK ws (i + 1) = fun k => (seenK ws i k || (!isAp w' && decide (k = Sum.inr (enc w')))) := funext (seenK_step hw)
      cases hap : isAp w' with
      | true =>
        refine iteF ?_
        refine ⟨_, _, c, rfl, S2, by omega, ?_⟩
        rw [hst, hap]
        have e : (fun k : Key => (seenK ws i k || (!true && decide (k = Sum.inr (enc w'))))) = seenK ws i := by funext k; simp
        rw [e]; exact L2
      | false =>
        refine iteT ?_
        refine ⟨_, rfl, ⟨_, _, _, rfl, L2⟩, _, rfl, S, Sum.inr (enc w'), _, c, rfl, rfl, L2, ?_, ?_⟩
        · show c + 1 < 4096; omega
        · have ns : ∀ b o, H b = some o → b ≠ S := fun b o hb => ne_of_none hb nS
          refine ⟨some (.int (i : Nat)), some (wv w'), if seenK ws i (Sum.inr (enc w')) = true then c else c + 1, rfl, fun b o hb => by rw [upd_ne (ns b o hb)]; exact S2 b o hb, ?_, ?_⟩
          · split <;> omega
          · rw [upd_same, hst, hap]
            have e : (fun k : Key => (seenK ws i k || (!false && decide (k = Sum.inr (enc w'))))) = fun j => seenK ws i j || decide (j = Sum.inr (enc w')) := by funext k; simp
            rw [e]
            rfl
    · rintro σ H' ⟨v1, v2, c, rfl, S1, _⟩
      exact k H' S1
def spEndsOf (K : PySem.W.Frag) : Sp := fun vs H Q _ => ∃ (a : Addr) (ws : List W) (E : Nat → Nat), vs = [.ref a] ∧ SqT K H a (ws.map wv) ∧ Vd ws ∧ IsEnds ws E ∧ ws.length ≤ 4000 ∧
  ∀ H' q, Same H H' → H q = none → TupF H' q (endsV ws.length E) → Q (.ref q) H'
abbrev s_ends_of : Stmt := (top 23)
theorem sc_ends_of : FnScope ["words", "word"] ["words"] (defScope s_ends_of) := ⟨rfl, rfl, rfl, by decide +kernel, rfl, by decide +kernel, by decide +kernel⟩
theorem needs_map (ws : List W) : ws.filterMap (fun w => some (nv (needW w))) = (ws.map needW).map nv := by
  rw [List.map_map, ← List.filterMap_eq_map]
  rfl
theorem c_ends_of {P w K mg base} (B : Bt mg) (D : DefAt K mg "ends_of" s_ends_of) (Cparts_in : Cal P w K mg base "parts_in" 1 ["word"] spPartsIn) (Cends_by : Cal P w K mg base "ends_by" 1 ["needs"] (spEndsBy K)) : Cal P w K mg base "ends_of" 2 ["words"] (spEndsOf K) := by
  refine cal_of D sc_ends_of (fun _ _ _ _ _ _ us hl => match us, hl with | [_], _ => rfl) (fun vs H Q E h => ?_) (fun fa cdv A outer st0 H vs Q E hr h => ?_)
  · obtain ⟨a, ws, E, rfl, _⟩ := h
    rfl
  · obtain ⟨a, ws, E, rfl, hq, vd, he, hl, k⟩ := h
    refine ⟨_, (pss_one (ps_ret (pe_c Cends_by (hr.mono (by decide)) (pa_cons (pe_lc (own := [("word", 1)]) (g := (gName 1)) (tt := tYes) rfl sc_ends_of.nd (pi_tup (pv 0)) (blkOk_by (own := [("word", 1)]) (N := ["words", "word"]) (sc := defScope s_ends_of) (by decide +kernel)) (fun _ _ _ _ _ => (pg_name (i := 1) sc_ends_of.nd rfl (by first | exact Or.inl rfl | exact Or.inr rfl))) (fun _ _ _ _ _ => pts_nil) (fun _ _ _ _ _ => (pe_c Cparts_in (hr.mono (by decide)) (pa_cons (pv 1) pa_nil)))) pa_nil)))), ?_⟩
    refine ⟨_, rfl, a, rfl, ⟨_, hq⟩, fun D nD => lc_fmT (f := wv) (r := fun w => some (nv (needW w))) hq nD (Nat.le_trans hl (by decide)) ?_ ?_⟩
    · rintro i w' H' Qy Qn hw S1 hy hn
      refine ⟨rfl, _, rfl, w', rfl, vd.okAt hw, fun H2 S2 => hy _ _ S2 rfl⟩
    · rintro H1 S1 L1
      rw [needs_map] at L1
      refine ⟨D, ws.map needW, E, rfl, SqL.of L1, he.needs, by rw [List.length_map]; exact Nat.le_trans hl (by decide), fun H2 q S2 n2 T2 => ?_⟩
      rw [List.length_map] at T2
      exact k H2 q (S1.trans S2) (S1.free n2) T2
end Kk

set_option maxHeartbeats 2000000
/-! a dict comprehension stored to a local's name -/
namespace Kk
open PySem PySem.Spec PyProof.Rows L2
section
variable {X : Cx}
theorem sw_dict {ke ve : Expr} {gs : List Comprehension} {scope : Scope} {pos py : Pos} {y : Str} {l : Nat} {env : Env} (hk : env.scope.kind = .function) (hy : env.scope.names.lookup y = some .local) (hl : (py.line == pos.line) = true)
    (ha : (scope.names.any fun (n, k) => n == y && (k == .local || k == .cell)) = false) : swapsWith (.DictComp ke ve gs scope pos) (some (.Name y py)) l env = pure true := by
  have e1 : env.kindOf y = some .local := hy
  have e2 : env.blockKind = .function := by unfold Env.blockKind; rw [hk]; rfl
  unfold swapsWith
  simp only [e1, e2, ha, Expr.pos, hl]
  rfl
theorem ps_setDc {i : Nat} {y : Str} {py : Pos} {ke ve tg iter : Expr} {ifs : List Expr} {scope : Scope} {own : List (Str × Nat)} {pos spos : Pos} {wi : TI} {g : TG} {tt : TT} {tk tv : TE} (hc : X.calm = true) (hN : X.N.Nodup) (hy : X.N[i]? = some y) (hyl : X.env.scope.names.lookup y = some .local)
    (hsw : swapsWith (.DictComp ke ve [⟨tg, iter, ifs, 0⟩] scope pos) (some (.Name y py)) spos.line X.env = pure true) (hi : PI X tg iter wi) (ok : BlkOk X.N X.env.scope scope own)
    (hg : ∀ (s : Shared) (H : Hp) (C : Addr) (cl : List (Str × Addr)) (fp : List Addr), PG (X.blk s H scope (compEnvC scope cl C X.env) fp) tg g) (ht : ∀ (s : Shared) (H : Hp) (C : Addr) (cl : List (Str × Addr)) (fp : List Addr), PTs (X.blk s H scope (compEnvC scope cl C X.env) fp) ifs tt)
    (hk : ∀ (s : Shared) (H : Hp) (C : Addr) (cl : List (Str × Addr)) (fp : List Addr), PE (X.blk s H scope (compEnvC scope cl C X.env) fp) ke tk)
    (he : ∀ (s : Shared) (H : Hp) (C : Addr) (cl : List (Str × Addr)) (fp : List Addr), PE (X.blk s H scope (compEnvC scope cl C X.env) fp) ve tv) (hs : ∀ x, foldedSetIterable iter X.env x = pure x := by intro _; rfl) :
    PS X (.Assign [.Name y py] (.DictComp ke ve [⟨tg, iter, ifs, 0⟩] scope pos) spos) (tAsg (tDc wi g tt tk tv (own.map (·.2))) (gName i)) := by
  refine ⟨fun pins s σ H D I h => ?_⟩
  rw [exec_Assign_Name_used _ _ _ _ hsw]
  refine wpAny_bind (wpAny_standAt (wpAny_bind ?_))
  show wpAny _ X.A (do let _ ← comprehension (.DictComp ke ve [⟨tg, iter, ifs, 0⟩] scope pos) scope X.env (firstIterPos [⟨tg, iter, ifs, 0⟩] pos) newDict false (eval iter X.env) (some (assign (.Name y py) X.env))) _ _ s
  have h : tDc wi g tt tk tv (own.map (·.2)) σ H (fun x H1 => gName i x σ H1 D.nx) := h
  refine wpAny_bind (thn (dc_core (Qf := fun _ s' => SP X pins D .next s') hc hN I hi ok hg ht hk he hs h fun L C s' m H' I' q hn f => ?_) fun _ s' hq => wpAny_pure (wpAny_pure hq))
  show wpAny _ _ (assign (.Name y py) X.env (.ref L)) _ _ _
  refine wpAny_assign_Name (store_ok2 (v := V.ref L) I' hN hy (.inl hyl) rfl (fun s2 I2 ⟨a, sb, ha⟩ => ?_) (.inr hyl))
  obtain ⟨f0, f1, f2, f3, f4, f5⟩ := f
  have haC : C ≠ a := by
    rcases ha with z | z
    · rw [z]; exact f1
    · exact fun e => f4 y a z e.symm
  refine ⟨m, hn.sameBut sb haC, fun h3 sb3 => ?_⟩
  exact ⟨_, H', I2.turned (t' := s2.toks) (fun b o hb e => (sb3.2 b hb).trans e) f0 f1 f3 f4 f5, q⟩
end
end Kk

set_option maxHeartbeats 2000000
namespace Kk
open PySem PySem.Spec PyProof.Rows L2 Wd
theorem dc_enumT {K : PySem.W.Frag} {a : Addr} {xs : List V} {g : TG} {tt : TT} {tk tv : TE} {vs : List Nat} {σ : L2.St} {H1 : Hp} {D : Addr} {Qd : Hp → Prop} (Pv : Nat → Hp → Prop) (h0 : Pv 0 (upd H1 D (.dK []))) (hl : ∀ i H, i ≤ xs.length → Pv i H → SqT K H a xs)
    (hs : ∀ i x H T, xs[i]? = some x → Pv i H → H T = none → g (.ref T) (wipe σ vs) (upd H T (.tup [.int (i : Nat), x])) fun σ2 H2 => wipe σ2 vs = wipe σ vs ∧ tt σ2 H2 fun b H3 =>
      if b = true then tk σ2 H3 fun y H4 => tv σ2 H4 fun z H5 => ∃ kvs k, y = kV k ∧ H5 D = some (.dK kvs) ∧ kvs.length < sizeLine ∧ Pv (i + 1) (upd H5 D (.dK (putK kvs k z))) else Pv (i + 1) H3) (hd : ∀ H, Pv xs.length H → Qd H) :
    ∃ W : Nat → Nat → Hp → Prop, (∃ m, W 0 m (upd H1 D (.dK []))) ∧ ∀ i m H, W i m H →
      ((IteT K a).stop i H ∧ Qd H) ∨ ((IteT K a).go i H ∧ ∃ Nx : Hp → Prop, (∀ H', Nx H' → ∃ m', m' < m ∧ W (i + 1) m' H') ∧ ∀ x H', (IteT K a).yld i H x H' → g x (wipe σ vs) H' fun σ2 H2 => wipe σ2 vs = wipe σ vs ∧ tt σ2 H2 fun b H3 =>
        if b = true then tk σ2 H3 fun y H4 => tv σ2 H4 fun z H5 => ∃ kvs k, y = kV k ∧ H5 D = some (.dK kvs) ∧ kvs.length < sizeLine ∧ Nx (upd H5 D (.dK (putK kvs k z))) else Nx H3) := by
  refine ⟨fun i m H => m = xs.length - i ∧ i ≤ xs.length ∧ Pv i H, ⟨xs.length, by simp, Nat.zero_le _, h0⟩, ?_⟩
  rintro i m H ⟨rfl, hi, p⟩
  have q := hl i H hi p
  by_cases hlt : i < xs.length
  · refine .inr ⟨⟨xs, xs[i], q, by simp [hlt]⟩, Pv (i + 1), fun H' p' => ⟨xs.length - (i + 1), by omega, rfl, hlt, p'⟩, fun x H' y => ?_⟩
    obtain ⟨T, z, rfl, hT, rfl, hz⟩ := y
    exact hs i z H T (hz xs q) p hT
  · have e : i = xs.length := by omega
    subst e
    exact .inl ⟨⟨xs, q, Nat.le_refl _⟩, hd H p⟩
abbrev s_unused_index : Stmt := (top 22)
theorem sc_unused_index : FnScope ["words", "places", "at", "word", "behind"] ["words"] (defScope s_unused_index) := ⟨rfl, rfl, rfl, by decide +kernel, rfl, by decide +kernel, by decide +kernel⟩
/-- where names stand, among the first i words -/
def Places (ws : List W) (i : Nat) (kvs : List (Key × V)) : Prop := kvs.length ≤ i ∧ ∀ j n, j < i → ws[j]? = some (.nm n) → valV kvs (Sum.inr (str n)) = some (.int (j : Nat))
theorem Places.put {ws : List W} (vd : Vd ws) {i : Nat} {w : W} {kvs : List (Key × V)} (hw : ws[i]? = some w) (p : Places ws i kvs) : Places ws (i + 1) (putK kvs (Sum.inr (enc w)) (.int (i : Nat))) := by
  refine ⟨by have := length_putK kvs (Sum.inr (enc w)) (.int (i : Nat)); have := p.1; omega, fun j n hj hn => ?_⟩
  rw [valV_put]
  by_cases e : (Sum.inr (str n) : Key) = Sum.inr (enc w)
  · rw [if_pos e]
    have e2 : W.nm n = w := enc_inj (vd.okAt hn) (vd.okAt hw) (Sum.inr.inj e)
    subst e2
    have := vd.once (by simp) hn hw
    subst this
    rfl
  · rw [if_neg e]
    refine p.2 j n ?_ hn
    have : j ≠ i := by
      rintro rfl
      rw [hw] at hn
      cases hn
      exact e rfl
    omega
theorem c_unused_index {P w K mg base} (B : Bt mg) (D : DefAt K mg "unused_index" s_unused_index) (Cends_of : Cal P w K mg base "ends_of" 2 ["words"] (spEndsOf K)) : Cal P w K mg base "unused_index" 3 ["words"] (spFine K) := by
  refine cal_of D sc_unused_index (fun _ _ _ _ _ _ us hl => match us, hl with | [_], _ => rfl) (fun vs H Q E h => ?_) (fun fa cdv A outer st0 H vs Q E hr h => ?_)
  · obtain ⟨a, ws, rfl, _⟩ := h
    rfl
  · obtain ⟨a, ws, rfl, hq, vd, hl, k⟩ := h
    obtain ⟨EE, he⟩ := vd.ends
    refine ⟨_, (pss_cons (ps_setDc (i := 1) (own := [("at", 2), ("word", 3)]) (g := (gTup K 2 (gCons (gName 2) (gCons (gName 3) gNil)))) (tt := tYes) rfl sc_unused_index.nd rfl rfl (sw_dict rfl rfl rfl (by decide +kernel)) (pi_enumT (by rfl) B.b_enumerate (pa_cons (pv 0) pa_nil)) (blkOk_by (own := [("at", 2), ("word", 3)]) (N := ["words", "places", "at", "word", "behind"]) (sc := defScope s_unused_index) (by decide +kernel)) (fun _ _ _ _ _ => by exact (pg_tup (by rfl) (pgs_cons (pg_name (i := 2) sc_unused_index.nd rfl (by first | exact Or.inl rfl | exact Or.inr rfl)) (pgs_cons (pg_name (i := 3) sc_unused_index.nd rfl (by first | exact Or.inl rfl | exact Or.inr rfl)) pgs_nil)))) (fun _ _ _ _ _ => pts_nil) (fun _ _ _ _ _ => by exact (pv 3)) (fun _ _ _ _ _ => by exact (pv 2)))
      (pss_cons (ps_set (i := 4) sc_unused_index.nd rfl (by first | exact Or.inl rfl | exact Or.inr rfl) (pe_c Cends_of (hr.mono (by decide)) (pa_cons (pv 0) pa_nil)))
      (pss_cons (ps_for PassesOwn.never rfl (pi_enumT (by rfl) B.b_enumerate (pa_cons (pv 0) pa_nil)) (pg_tup (by rfl) (pgs_cons (pg_name (i := 2) sc_unused_index.nd rfl (by first | exact Or.inl rfl | exact Or.inr rfl)) (pgs_cons (pg_name (i := 3) sc_unused_index.nd rfl (by first | exact Or.inl rfl | exact Or.inr rfl)) pgs_nil))) (pss_one (ps_if (PW.pt (pw_and (pt_val (pe_bm PySem.F.plainAttrs_str PySem.F.slot_str_startswith PySem.F.type_str_startswith mt_startswith (pv 3) (pa_cons (pe_gs B.m_TAKE) pa_nil))) (pw_and1 (pt_not (pt_chain op_lt op_lt (pv 2) (pe_dget2 (hu_of hr) (pv 1) (pe_slice sl_str (pv 3) (po_some pe_int) po_none) (pe_un un_neg pe_int) ⟨by rfl, by rfl, by rfl, by rfl⟩) (pe_ix ix_tup (pv 4) (pv 2) (fun _ _ => rfl))))))) (pss_one (ps_ret (pv 2))) pss_nil)))
      (pss_one (ps_ret pe_non))))), ?_⟩
    have hlm : (ws.map wv).length = ws.length := List.length_map ..
    refine ⟨_, rfl, a, _, rfl, hq, fun D nD => dc_enumT (K := K) (a := a) (xs := ws.map wv) (fun i H' => Same H H' ∧ ∃ kvs, H' D = some (.dK kvs) ∧ Places ws i kvs)
      ⟨same_upd nD, [], upd_same, Nat.le_refl _, fun j n hj => absurd hj (by omega)⟩ (fun i H' _ ⟨s, _⟩ => SqT.same hq s) ?_ ?_⟩
    · rintro i x H' T hx ⟨S1, kvs, L1, p⟩ nT
      obtain ⟨w', hw, rfl⟩ := map_get hx
      have hi := Wd.T.lt_of_get hw
      refine ⟨T, _, rfl, SqT.of upd_same, rfl, _, _, rfl, _, _, rfl, rfl, ?_⟩
      refine ⟨rfl, _, rfl, _, rfl, kvs, Sum.inr (enc w'), rfl, same_upd nT _ _ L1, ?_, ?_⟩
      · have := p.1
        exact small_lt (m := 1000) (by omega) (by decide)
      · have nd : ∀ b o, H b = some o → b ≠ D := fun b o hb => ne_of_none hb nD
        exact ⟨fun b o hb => by rw [upd_ne (nd b o hb)]; exact same_upd nT _ _ (S1 b o hb), _, upd_same, p.put vd hw⟩
    · rintro H1 ⟨S1, kvs, L1, p⟩
      rw [hlm] at p
      refine ⟨_, rfl, a, ws, EE, rfl, SqT.same hq S1, vd, he, Nat.le_trans hl (by decide), fun H2 q S2 _ T2 => ?_⟩
      have L2 := S2 _ _ L1
      have S3 := S1.trans S2
      refine ⟨_, rfl, a, _, rfl, SqT.same hq S3, for_enumT (K := K) (a := a) (xs := ws.map wv) (fun i σ H' => ∃ v1 v2 : Option V, σ = [some (.ref a), some (.ref D), v1, v2, some (.ref q)] ∧ Same H2 H') ⟨_, _, rfl, Same.refl H2⟩ (fun i σ H' _ ⟨_, _, _, s⟩ => SqT.same hq (S3.trans s)) ?_ ?_⟩
      · rintro i x σ H' T hx ⟨v1, v2, rfl, S4⟩ nT
        obtain ⟨w', hw, rfl⟩ := map_get hx
        have hi := Wd.T.lt_of_get hw
        have hk := vd.okAt hw
        have S5 : Same H2 (upd H' T (.tup [.int (i : Nat), wv w'])) := S4.trans (same_upd nT)
        refine ⟨T, _, rfl, SqT.of upd_same, rfl, _, _, rfl, _, _, rfl, rfl, ?_⟩
        generalize upd H' T (.tup [.int (i : Nat), wv w']) = H5 at *
        refine ⟨_, rfl, rfl, _, _, rfl, rfl, ?_⟩
        rw [starts_tk hk]
        refine ⟨_, rfl, ?_⟩
        cases w' with
        | ap => exact iteF (iteF ⟨_, _, rfl, S5⟩)
        | nm n => exact iteF (iteF ⟨_, _, rfl, S5⟩)
        | tk n =>
          obtain ⟨j, hj, h1, h2⟩ := vd.used he hw
          have hjl := Wd.T.lt_of_get hj
          have hv := p.2 j n hjl hj
          have L5 := S5 _ _ L2
          refine iteT ?_
          refine ⟨_, rfl, _, rfl, D, rfl, .inl ⟨kvs, .inl L5⟩, _, rfl, _, rfl, _, rfl, Nat.le_of_lt (small_lt (m := 9) (len_enc hk) (by decide)), ?_⟩
          rw [cut1]
          refine ⟨_, rfl, some (.int (j : Nat)), by rw [← hv]; exact DGet.k (k := Sum.inr (str n)) L5, ?_⟩
          refine ⟨_, _, rfl, rfl, _, rfl, ?_⟩
          rw [decide_eq_true (show ((i : Nat) : Int) < ((j : Nat) : Int) by omega)]
          refine iteT ⟨_, rfl, _, rfl, q, _, _, _, rfl, rfl, (T2.same S5).sq, atI_nat (endsV_get hi), _, _, rfl, rfl, ?_⟩
          refine ⟨true, congrArg V.bl (decide_eq_true (show ((j : Nat) : Int) < ((EE i : Nat) : Int) by omega)), iteF ?_⟩
          exact ⟨_, _, rfl, S5⟩
      · rintro σ H' ⟨v1, v2, rfl, S4⟩
        exact k H' (S3.trans S4)
abbrev s_fault_index_programs : Stmt := (top 16)
theorem sc_fault_index_programs : FnScope ["words", "index", "word"] ["words"] (defScope s_fault_index_programs) := ⟨rfl, rfl, rfl, by decide +kernel, rfl, by decide +kernel, by decide +kernel⟩
theorem tyx_tup {K : PySem.W.Frag} {H : Hp} {a : Addr} {xs : List V} (h : SqT K H a xs) : TyX K H (.ref a) (.type "tuple") := by
  rcases h with (h | ⟨o, h⟩) | ⟨o, its, n, h1, h2, _⟩
  · exact .base (.tup h)
  · exact .fTuple h
  · exact .kTuple h1 h2
theorem kitTT : kitB "tuple" "tuple" = some true := by decide +kernel
theorem c_fault_index_programs {P w K mg base} (B : Bt mg) (D : DefAt K mg "fault_index_programs" s_fault_index_programs "fault_index") (Cstranger_index : Cal P w K mg base "stranger_index" 3 ["things"] (spFine K)) (Cparts_in : Cal P w K mg base "parts_in" 1 ["word"] spPartsIn) (Cmisfit_index : Cal P w K mg base "misfit_index" 1 ["needs"] (spMisfit K))
    (Crepeated_index : Cal P w K mg base "repeated_index" 1 ["words"] (spFine K)) (Cunused_index : Cal P w K mg base "unused_index" 3 ["words"] (spFine K)) : Cal P w K mg base "fault_index_programs" 4 ["words"] (spFine K) := by
  refine cal_of D sc_fault_index_programs (fun _ _ _ _ _ _ us hl => match us, hl with | [_], _ => rfl) (fun vs H Q E h => ?_) (fun fa cdv A outer st0 H vs Q E hr h => ?_)
  · obtain ⟨a, ws, rfl, _⟩ := h
    rfl
  · obtain ⟨a, ws, rfl, hq, vd, hl, k⟩ := h
    refine ⟨_, (pss_cons (ps_if (PW.pt (pw_or (pt_not (pt_val (pe_callB call_isi (by rfl) B.b_isinstance (by decide +kernel) (pa_cons (pv 0) (pa_cons (pe_ty (n := "tuple") B.b_tuple (by decide +kernel)) pa_nil))))) (pw_or1 (pt_not (pt_chain op_le op_le pe_int (pe_callB call_len_seq (by rfl) B.b_len (by decide +kernel) (pa_cons (pv 0) pa_nil)) (pe_gi B.m_MOST_WORDS_programs)))))) (pss_one (ps_ret (pe_un un_neg pe_int))) pss_nil)
      (pss_cons (ps_set (i := 1) sc_fault_index_programs.nd rfl (by first | exact Or.inl rfl | exact Or.inr rfl) (pe_c Cstranger_index (hr.mono (by decide)) (pa_cons (pv 0) pa_nil)))
      (pss_cons (ps_if (pt_cmpR op_isN (pv 1) pe_non (nomark _)) (pss_one (ps_set (i := 1) sc_fault_index_programs.nd rfl (by first | exact Or.inl rfl | exact Or.inr rfl) (pe_c Cmisfit_index (hr.mono (by decide)) (pa_cons (pe_lc (own := [("word", 2)]) (g := (gName 2)) (tt := tYes) rfl sc_fault_index_programs.nd (pi_tup (pv 0)) (blkOk_by (own := [("word", 2)]) (N := ["words", "index", "word"]) (sc := defScope s_fault_index_programs) (by decide +kernel)) (fun _ _ _ _ _ => (pg_name (i := 2) sc_fault_index_programs.nd rfl (by first | exact Or.inl rfl | exact Or.inr rfl))) (fun _ _ _ _ _ => pts_nil) (fun _ _ _ _ _ => (pe_c Cparts_in (hr.mono (by decide)) (pa_cons (pv 2) pa_nil)))) pa_nil)))) pss_nil)
      (pss_cons (ps_if (pt_cmpR op_isN (pv 1) pe_non (nomark _)) (pss_one (ps_set (i := 1) sc_fault_index_programs.nd rfl (by first | exact Or.inl rfl | exact Or.inr rfl) (pe_c Crepeated_index (hr.mono (by decide)) (pa_cons (pv 0) pa_nil)))) pss_nil)
      (pss_cons (ps_if (pt_cmpR op_isN (pv 1) pe_non (nomark _)) (pss_one (ps_set (i := 1) sc_fault_index_programs.nd rfl (by first | exact Or.inl rfl | exact Or.inr rfl) (pe_c Cunused_index (hr.mono (by decide)) (pa_cons (pv 0) pa_nil)))) pss_nil)
      (pss_one (ps_ret (pv 1)))))))), ?_⟩
    have hlm : (ws.map wv).length = ws.length := List.length_map ..
    have pos := vd.pos
    refine ⟨_, rfl, _, _, _, _, true, rfl, .ty _, tyx_tup hq, kit_ty kitTT, _, rfl, iteF ?_⟩
    refine ⟨_, rfl, _, _, rfl, .inr hq, _, _, rfl, rfl, _, rfl, ?_⟩
    rw [hlm, decide_eq_true (show (1 : Int) ≤ (ws.length : Nat) by omega)]
    refine iteT ⟨_, _, rfl, rfl, _, rfl, ?_⟩
    rw [decide_eq_true (show ((ws.length : Nat) : Int) ≤ 1000 by omega)]
    refine iteF ?_
    refine ⟨_, rfl, a, ws, rfl, hq, vd, Nat.le_trans hl (by decide), fun H1 S1 => ?_⟩
    refine ⟨_, rfl, rfl, _, rfl, iteT ?_⟩
    refine ⟨_, rfl, a, rfl, ⟨_, SqT.same hq S1⟩, fun Dl nDl => lc_fmT (f := wv) (r := fun w => some (nv (needW w))) (SqT.same hq S1) nDl (Nat.le_trans hl (by decide)) ?_ ?_⟩
    · rintro i w' H' Qy Qn hw S1' hy hn
      refine ⟨rfl, _, rfl, w', rfl, vd.okAt hw, fun H2 S2 => hy _ _ S2 rfl⟩
    rintro H1' S1' L1'
    rw [needs_map] at L1'
    refine ⟨Dl, ws.map needW, rfl, SqL.of L1', by rw [List.length_map]; exact Nat.le_trans hl (by decide), fun H2 S2 => ?_⟩
    have S12 := S1.trans (S1'.trans S2)
    rw [vd.wh.mis 0]
    refine ⟨_, rfl, rfl, _, rfl, iteT ?_⟩
    refine ⟨_, rfl, a, ws, rfl, SqT.same hq S12, vd, Nat.le_trans hl (by decide), fun H3 S3 => ?_⟩
    have S13 := S12.trans S3
    refine ⟨_, rfl, rfl, _, rfl, iteT ?_⟩
    refine ⟨_, rfl, a, ws, rfl, SqT.same hq S13, vd, Nat.le_trans hl (by decide), fun H4 S4 => ?_⟩
    exact ⟨_, rfl, k H4 (S13.trans S4)⟩
end Kk

set_option maxHeartbeats 2000000
namespace Kk
open PySem PySem.Spec PyProof.Rows L2 Wd
/-! ### the class -/
structure PC (K : PySem.W.Frag) (mg : Str → Option Value) (C : Addr) : Prop where
  cl : Cls K C
  nw : NoAttr K C "words"
  mg : mg "Program" = some (.ref C)
  ha : PySem.W.findIn K (.ref C) "__class__" = some (some (.builtin "object.__class__"))
  hn : PySem.W.specialIn K (.builtin "object.__class__") "__get__" = some (some (.builtin "getset_descriptor.__get__"))
  ht : PySem.W.takesIn K (.builtin "object.__class__") = some true
  hm : PySem.W.mroIn K C (.type "object") = some true
def pfs (a : Addr) : List (Str × V) := putF "words" (.ref a) []
theorem pfs_get (a : Addr) : (pfs a).lookup ("words" : Str) = some (.ref a) := by unfold pfs; rw [lookup_putF, if_pos rfl]
theorem pfs_put (a b : Addr) : putF "words" (.ref b) (pfs a) = pfs b := by
  show (if ("words" : Str) = "words" then [(("words" : Str), V.ref b)] else _) = pfs b
  rw [if_pos rfl]
  all_goals rfl
/-- at x stands a Program, its words at a -/
def Pg (C : Addr) (H : Hp) (x a : Addr) : Prop := ∃ dx, H x = some (.ins C dx (pfs a))
theorem Pg.same {C : Addr} {H H' : Hp} {x a : Addr} (h : Pg C H x a) (k : Same H H') : Pg C H' x a := by
  obtain ⟨dx, h⟩ := h
  exact ⟨dx, k _ _ h⟩
theorem Pg.keep {C p g : Addr} {H H' : Hp} {x a : Addr} (h : Pg C H x a) (k : Keep p g H H') (h1 : x ≠ p) (h2 : x ≠ g) : Pg C H' x a := by
  obtain ⟨dx, h⟩ := h
  exact ⟨dx, k _ _ h h1 h2⟩
/-- all but x is as it was -/
def But (x : Addr) (H H' : Hp) : Prop := ∀ b o, H b = some o → b ≠ x → H' b = some o
def spInit (K : PySem.W.Frag) (C : Addr) : Sp := fun vs H Q _ => ∃ (x dx a : Addr) (ws : List W), vs = [.ref x, .ref a] ∧ H x = some (.ins C dx []) ∧ SqT K H a (ws.map wv) ∧ Vd ws ∧ ws.length ≤ 1000 ∧
  ∀ H', But x H H' → Pg C H' x a → Q .non H'
abbrev s_init : Stmt := (inClass (top 15) 0)
theorem sc_init : FnScope ["self", "words", "index"] ["self", "words"] (defScope s_init) := ⟨rfl, rfl, rfl, by decide +kernel, rfl, by decide +kernel, by decide +kernel⟩
theorem c_init {P w K mg base} {C f : Addr} {fd : FuncData} (B : Bt mg) (pc : PC K mg C) (F : Fun K "__init__" "Program.__init__" s_init f fd) (Cfault_index_programs : Cal P w K mg base "fault_index_programs" 4 ["words"] (spFine K)) :
    FnOk P w K mg base CX0 5 f fd ["self", "words"] (spInit K C) := by
  refine F.ok sc_init (fun vs H Q E h => ?_) (fun cdv A outer st0 H vs Q E hr h => ?_)
  · obtain ⟨x, dx, a, ws, rfl, _⟩ := h
    rfl
  · obtain ⟨x, dx, a, ws, rfl, hx, hq, vd, hl, k⟩ := h
    refine ⟨_, (pss_cons (ps_set (i := 2) sc_init.nd rfl (by first | exact Or.inl rfl | exact Or.inr rfl) (pe_c Cfault_index_programs (hr.mono (by decide)) (pa_cons (pv 1) pa_nil)))
      (pss_cons (ps_if (pt_cmpR op_notN (pv 2) pe_non (nomark _)) (pss_one ps_never) pss_nil)
      (pss_one (ps_fld (pv 0) (pv 1) rfl)))), ?_⟩
    refine ⟨_, rfl, a, ws, rfl, hq, vd, hl, fun H1 S1 => ?_⟩
    refine ⟨_, rfl, rfl, _, rfl, iteF ?_⟩
    refine ⟨_, rfl, _, rfl, x, C, dx, [], rfl, S1 _ _ hx, pc.cl, pc.nw, (by show 0 < 1000; decide), ?_⟩
    refine k _ (fun b o hb hne => ?_) ⟨dx, upd_same⟩
    rw [upd_ne hne]
    exact S1 _ _ hb
end Kk

set_option maxHeartbeats 2000000
namespace Kk
open PySem PySem.Spec PyProof.Rows L2 Wd
/-! ### what the words hold -/
def tkN : W → Option Nm
  | .tk n => some n
  | _ => none
def nmN : W → Option Nm
  | .nm n => some n
  | _ => none
def namesOf (ws : List W) : List Nm := ws.filterMap nmN
theorem takesOf_eq (ws : List W) : takesOf ws = ws.filterMap tkN := by
  unfold takesOf
  congr 1
def apsOf (ws : List W) : Nat := ws.countP isAp
def openR (ws : List W) (n : Nm) : Option V := if n ∈ takesOf ws then none else some (sv n)
def openV (ws : List W) : List V := (namesOf ws).filterMap (openR ws)
theorem tk_map (ws : List W) : ws.filterMap (fun w => (tkN w).map sv) = (takesOf ws).map sv := by rw [takesOf_eq, List.map_filterMap]
theorem nm_map (ws : List W) : ws.filterMap (fun w => (nmN w).map sv) = (namesOf ws).map sv := by unfold namesOf; rw [List.map_filterMap]
theorem enc_map (ws : List W) : (ws.map enc).map V.str = ws.map wv := by rw [List.map_map]; rfl
theorem str_map (ns : List Nm) : (ns.map str).map V.str = ns.map sv := by rw [List.map_map]; rfl
theorem beq_ap {w : W} (h : wOk w) : (enc w == ("@" : Str)) = isAp w := by
  rw [← is_ap h]
  by_cases e : enc w = ("@" : Str)
  · rw [e]; simp
  · rw [decide_eq_false (fun q => e (V.str.inj q))]
    simp [e]
theorem count_ap {ws : List W} (ok : ∀ w ∈ ws, wOk w) : (ws.map enc).countP (fun y => y == ("@" : Str)) = apsOf ws := by
  unfold apsOf
  rw [List.countP_map]
  refine List.countP_congr fun w hw => ?_
  show (enc w == ("@" : Str)) = true ↔ _
  rw [beq_ap (ok w hw)]
theorem any_str (n : Nm) (ns : List Nm) : ((ns.map str).any fun x => decide ((Sum.inr (str n) : Key) = Sum.inr x)) = decide (n ∈ ns) := by
  induction ns with
  | nil => rfl
  | cons a ns ih =>
    rw [List.map_cons, List.any_cons, ih]
    by_cases e : n = a
    · subst e; simp
    · have : ¬ (str n = str a) := fun q => e (str_inj q)
      simp [this, e]
section
variable {P : Program} {w : World} {K : PySem.W.Frag} {mg : Str → Option Value} {base : Heap}
def spStands : Sp := fun vs H Q _ => ∃ v : W, vs = [wv v] ∧ wOk v ∧ ∀ H', Same H H' → Q (.bl (isNm v)) H'
def spOfP (K : PySem.W.Frag) (C : Addr) (R : List W → Hp → Hp → V → Prop) : Sp := fun vs H Q _ => ∃ (x a : Addr) (ws : List W), vs = [.ref x] ∧ Pg C H x a ∧ TupF H a (ws.map wv) ∧ Vd ws ∧ ws.length ≤ 4000 ∧
  ∀ H' v, Same H H' → R ws H H' v → Q v H'
def rTaken : List W → Hp → Hp → V → Prop := fun ws H H' v => ∃ q, v = .ref q ∧ H q = none ∧ H' q = some (.lst ((takesOf ws).map sv))
def rStand : List W → Hp → Hp → V → Prop := fun ws H H' v => ∃ q, v = .ref q ∧ H q = none ∧ H' q = some (.lst ((namesOf ws).map sv))
def rOpen : List W → Hp → Hp → V → Prop := fun ws H H' v => ∃ q, v = .ref q ∧ H q = none ∧ TupF H' q (openV ws)
theorem takes_le (ws : List W) : (takesOf ws).length ≤ ws.length := takesOf_len ws
theorem names_le (ws : List W) : (namesOf ws).length ≤ ws.length := List.length_filterMap_le _ _
end
end Kk

set_option maxHeartbeats 2000000
namespace Kk
open PySem PySem.Spec PyProof.Rows L2 Wd
section
variable {P : Program} {w : World} {K : PySem.W.Frag} {mg : Str → Option Value} {base : Heap}
def rGivens : List W → Hp → Hp → V → Prop := fun ws _ _ v => v = .int (apsOf ws : Nat)
def rTakes : List W → Hp → Hp → V → Prop := fun ws _ _ v => v = .int ((takesOf ws).length : Nat)
def rEnds : List W → Hp → Hp → V → Prop := fun ws H H' v => ∃ q E, v = .ref q ∧ IsEnds ws E ∧ H q = none ∧ TupF H' q (endsV ws.length E)
/-- of a Program and one of its places -/
def spAtP (K : PySem.W.Frag) (C : Addr) (R : List W → Nat → Addr → Hp → Hp → V → Prop) : Sp := fun vs H Q _ => ∃ (x a : Addr) (ws : List W) (i : Nat), vs = [.ref x, .int (i : Int)] ∧ Pg C H x a ∧ TupF H a (ws.map wv) ∧ Vd ws ∧ ws.length ≤ 1000 ∧ i < ws.length ∧
  ∀ H' v, Same H H' → R ws i a H H' v → Q v H'
def rNone : List W → Nat → Addr → Hp → Hp → V → Prop := fun _ _ _ _ _ v => v = .non
/-- the class can be made -/
structure Mkr (P : Program) (w : World) (K : PySem.W.Frag) (mg : Str → Option Value) (base : Heap) (C : Addr) : Prop where
  ex : ∃ f fd, Mk K C f ∧ mg "Program" = some (.ref C) ∧ Binds K fd ["self", "words"] [] ∧ FnOk P w K mg base CX0 5 f fd ["self", "words"] (spInit K C)
theorem pe_mk1 {X : Cx} {C : Addr} {e : Expr} {t : TA} {p pos : Pos} (M : Mkr X.prog X.w X.K X.mg X.base C) (hr : Room 6 X.A) (ha : PA X [e] t) (hg : Gl X "Program" := by rfl)
    (he : starEach [e] X.env = (false, eval e X.env) :: starEach [] X.env := by rfl) (hpl : (backTo pos (starEach [] X.env)).any (·.1) = false := by rfl) :
    PE X (.Call (.Name "Program" p) [e] [] pos) (tMake C (spInit X.K C) [] E0 t) := by
  obtain ⟨f, fd, M, hm, hb, F⟩ := M
  exact pe_make M F hr hg hm hb .nil pass0 ha (by decide) he hpl
theorem made_same {H : Hp} {x dx C : Addr} (nx : H x = none) (ndx : H dx = none) : Same H (upd (upd H dx (.own x)) x (.ins C dx [])) := fun b o e => by
  rw [upd_ne (ne_of_none e nx), upd_ne (ne_of_none e ndx)]
  exact e
theorem But.same {x : Addr} {H H1 H2 : Hp} (h : But x H1 H2) (s : Same H H1) (n : H x = none) : Same H H2 := fun b o e => h _ _ (s _ _ e) (ne_of_none e n)
def spBuilt (K : PySem.W.Frag) (C : Addr) : Sp := fun vs H Q _ => ∃ (a : Addr) (ws : List W), vs = [.ref a] ∧ TupF H a (ws.map wv) ∧ ∀ H' x, Same H H' → H x = none → Pg C H' x a → Q (.ref x) H'
theorem wv_a : V.str ("a" : Str) = wv (.nm [97]) := by
  refine congrArg V.str (TL.ext_tl ?_)
  rw [TL.tl_ofString]
  rfl
theorem vd_a : Vd [.nm [97]] := by
  refine ⟨⟨.nm [97], rfl, trivial, by decide, by decide⟩, fun w hw => ?_⟩
  have : w = .nm [97] := by simpa using hw
  subst this
  exact ⟨by decide, by decide, by decide⟩
end
end Kk

set_option maxHeartbeats 2000000
namespace Kk
open PySem PySem.Spec PyProof.Rows L2 Wd
section
variable {P : Program} {w : World} {K : PySem.W.Frag} {mg : Str → Option Value} {base : Heap}
def rPart (C : Addr) : List W → Nat → Addr → Hp → Hp → V → Prop := fun ws i a H H' v => ∃ x' a' E, v = .ref x' ∧ H x' = none ∧ IsEnds ws E ∧ Pg C H' x' a' ∧ TupF H' a' (((ws.drop i).take (E i - i)).map wv)
theorem cut_part {xs : List V} {i j : Nat} (hi : i ≤ xs.length) (hj : j ≤ xs.length) : cutV xs (some (i : Int)) (some (j : Int)) = (xs.drop i).take (j - i) := by
  unfold cutV
  rw [HT.sIx_nat, HT.sIx_nat, Nat.min_eq_left hi, Nat.min_eq_left hj]
def rTakenAt : List W → Nat → Addr → Hp → Hp → V → Prop := fun ws i _ _ _ v => (∀ n j, ws[i]? = some (.nm n) → ws[j]? = some (.tk n) → v = .int (j : Nat)) ∧ ((∀ n, ws[i]? = some (.nm n) → W.tk n ∉ ws) → v = .non)
theorem in_wv (z : Str) (ws : List W) : inV (.str z) (ws.map wv) = decide (z ∈ ws.map enc) := by
  unfold inV
  induction ws with
  | nil => simp
  | cons a us ih =>
    rw [List.map_cons, List.any_cons, ih]
    show (decide (enc a = z) || _) = _
    by_cases e : z = enc a
    · subst e; simp
    · have : ¬ enc a = z := fun q => e q.symm
      simp [this, e]
theorem flat_wv (us : List W) : (us.map wv).all flatV = true := by
  rw [List.all_eq_true]
  intro x hx
  obtain ⟨n, _, rfl⟩ := List.mem_map.mp hx
  rfl
theorem tl_take (v : W) : TL.tl (("/" : Str) ++ enc v) = 47 :: code v := by
  rw [TL.tl_append, slash]
  rfl
theorem take_nm (n : Nm) : (("/" : Str) ++ enc (.nm n)) = enc (.tk n) := TL.ext_tl (by rw [tl_take]; rfl)
theorem no_take {ws : List W} (ok : ∀ u ∈ ws, wOk u) {v : W} (h : ∀ n, v ≠ .nm n) : (("/" : Str) ++ enc v) ∉ ws.map enc := fun hm => by
  obtain ⟨u, hu, e⟩ := List.mem_map.mp hm
  have e2 := congrArg TL.tl e
  rw [tl_take, tl_enc] at e2
  have hk := ok u hu
  cases u with
  | ap => simp [Wd.code] at e2
  | tk n =>
    simp [Wd.code] at e2
    cases v with
    | ap => subst e2; have := hk.2.2 64 (by simp [Wd.code]); omega
    | tk m => subst e2; have := hk.2.2 47 (by simp [Wd.code]); omega
    | nm m => exact h m rfl
  | nm n =>
    simp [Wd.code] at e2
    subst e2
    have := hk.2.2 47 (by simp); omega
end
end Kk

set_option maxHeartbeats 2000000
namespace Kk
open PySem PySem.Spec PyProof.Rows L2 Wd
section
variable {P : Program} {w : World} {K : PySem.W.Frag} {mg : Str → Option Value} {base : Heap}
def iv (n : Nat) : V := .int (n : Int)
def stk (L : List Nat) : List V := L.reverse.map iv
def endAt (L : List Nat) (z t : Nat) : Nat := if t = 0 then z else L.getD (t - 1) 0
theorem stk_cons (z : Nat) (L : List Nat) : stk (z :: L) = stk L ++ [iv z] := by simp [stk]
theorem stk_last (z : Nat) (L : List Nat) : (stk (z :: L))[(stk (z :: L)).length - 1]? = some (iv z) := by rw [stk_cons]; simp
theorem stk_pop (z : Nat) (L : List Nat) : (stk (z :: L)).dropLast = stk L := by rw [stk_cons]; simp
theorem drop_at {L : List Nat} {i : Nat} (h : i < L.length) : ∃ z, L.drop i = z :: L.drop (i + 1) ∧ endAt L 0 (i + 1) = z ∧ ∀ y, endAt L y (i + 1) = z := by
  refine ⟨L[i], List.drop_eq_getElem_cons h, ?_, fun y => ?_⟩
  · unfold endAt; rw [if_neg (by omega)]; simp [h]
  · unfold endAt; rw [if_neg (by omega)]; simp [h]
theorem chain_len (E : Nat → Nat) (n : Nat) : ∀ k i, (chain E n k i).length ≤ k
  | 0, _ => Nat.le_refl _
  | k + 1, i => by
    unfold chain
    by_cases h : i < n
    · rw [if_pos h, List.length_cons]; have := chain_len E n k (E i); omega
    · rw [if_neg h]; exact Nat.zero_le _
abbrev s_ends2 : Stmt := (top 40)
theorem sc_ends2 : FnScope ["_law_words_here", "_law_found", "_law_whole", "_law_place", "_law_end", "_law_turn"] ["_law_words_here"] (defScope s_ends2) := ⟨rfl, rfl, rfl, by decide +kernel, rfl, by decide +kernel, by decide +kernel⟩
def spEndsR (K : PySem.W.Frag) : Sp := fun vs H Q _ => ∃ (a : Addr) (ws : List W) (E : Nat → Nat), vs = [.ref a] ∧ SqT K H a (ws.map wv) ∧ (∀ v ∈ ws, wOk v) ∧ IsEnds ws E ∧ ws.length ≤ 4000 ∧
  ∀ H' q, Same H H' → H q = none → TupF H' q (endsV ws.length E) → Q (.ref q) H'
theorem c_ends2 (B : Bt mg) (D : DefAt K mg "_law_ends" s_ends2) : Cal P w K mg base "_law_ends" 1 ["_law_words_here"] (spEndsR K) := by
  refine cal_of D sc_ends2 (fun _ _ _ _ _ _ us hl => match us, hl with | [_], _ => rfl) (fun vs H Q E h => ?_) (fun fa cdv A outer st0 H vs Q E hr h => ?_)
  · obtain ⟨a, ws, E, rfl, _⟩ := h
    rfl
  · obtain ⟨a, ws, E, rfl, hq, vd, he, hl, k⟩ := h
    refine ⟨_, (pss_cons (ps_set (i := 1) sc_ends2.nd rfl (by first | exact Or.inl rfl | exact Or.inr rfl) (pe_op op_rep (pe_lst (pa_cons pe_int pa_nil)) (pe_callB call_len_seq (by rfl) B.b_len (by decide +kernel) (pa_cons (pv 0) pa_nil))))
      (pss_cons (ps_set (i := 2) sc_ends2.nd rfl (by first | exact Or.inl rfl | exact Or.inr rfl) (pe_lst pa_nil))
      (pss_cons (ps_for PassesOwn.never rfl (pi_range3 (by rfl) B.b_range (pa_cons (pe_op op_sub (pe_callB call_len_seq (by rfl) B.b_len (by decide +kernel) (pa_cons (pv 0) pa_nil)) pe_int) (pa_cons (pe_un un_neg pe_int) (pa_cons (pe_un un_neg pe_int) pa_nil)))) (pg_name (i := 3) sc_ends2.nd rfl (by first | exact Or.inl rfl | exact Or.inr rfl)) (pss_cons (ps_set (i := 4) sc_ends2.nd rfl (by first | exact Or.inl rfl | exact Or.inr rfl) (pe_op op_add (pv 3) pe_int))
      (pss_cons (ps_for PassesOwn.never rfl (pi_range1 (by rfl) B.b_range (pa_cons (pe_ifExp (pt_cmpR op_eq (pe_ix ix_tup (pv 0) (pv 3) (fun _ _ => rfl)) pe_str (nomark _)) pe_int (pe_callTy call_int1 (by rfl) B.b_int (by decide +kernel) (pa_cons (pe_cmpR op_eq (pe_slice sl_str (pe_ix ix_tup (pv 0) (pv 3) (fun _ _ => rfl)) po_none (po_some pe_int)) pe_str (nomark _)) pa_nil))) pa_nil)) (pg_name (i := 5) sc_ends2.nd rfl (by first | exact Or.inl rfl | exact Or.inr rfl)) (pss_one (ps_set (i := 4) sc_ends2.nd rfl (by first | exact Or.inl rfl | exact Or.inr rfl) (pe_bm0 PySem.F.plainAttrs_list PySem.F.slot_list_pop PySem.F.type_list_pop mt_pop (pv 2)))))
      (pss_cons (ps_asg (pv 4) (pg_sub (pv 1) (pv 3) set_list))
      (pss_one (ps_expr (pe_bm PySem.F.plainAttrs_list PySem.F.slot_list_append PySem.F.type_list_append mt_append (pv 2) (pa_cons (pv 4) pa_nil))))))))
      (pss_one (ps_ret (pe_callTy call_tupleF (by rfl) B.b_tuple (by decide +kernel) (pa_cons (pv 1) pa_nil))))))), ?_⟩
    have hlm : (ws.map wv).length = ws.length := List.length_map ..
    -- found = [0] * len(words)
    refine ⟨(by show 1 ≤ sizeLine; decide), fun z nz => ?_⟩
    have Sz : Same H (upd H z (.lst [.int 0])) := same_upd nz
    have Lz : upd H z (.lst [.int 0]) z = some (.lst [.int 0]) := upd_same
    generalize upd H z (.lst [.int 0]) = H1 at *
    refine ⟨_, rfl, _, _, rfl, .inr (SqT.same hq Sz), z, _, _, rfl, rfl, Lz, by omega, by omega, ?_, fun b nb => ?_⟩
    · rw [hlm, sizeLine_eq]; show 1 * _ ≤ _; omega
    have eb : (List.replicate (((ws.map wv).length : Nat) : Int).toNat [V.int 0]).flatten = List.replicate ws.length (V.int 0) := by
      rw [hlm]
      show (List.replicate ws.length [V.int 0]).flatten = _
      induction ws.length with
      | zero => rfl
      | succ n ih => rw [List.replicate_succ, List.flatten_cons, ih, List.replicate_succ]; rfl
    rw [eb]
    have Sb : Same H (upd H1 b (.lst (List.replicate ws.length (V.int 0)))) := Sz.trans (same_upd nb)
    have Lb : upd H1 b (.lst (List.replicate ws.length (V.int 0))) b = some (.lst (List.replicate ws.length (V.int 0))) := upd_same
    have fb : H b = none := Sz.free nb
    generalize upd H1 b (.lst (List.replicate ws.length (V.int 0))) = H2 at *
    refine ⟨Nat.zero_le _, fun c nc => ?_⟩
    have Sc : Same H (upd H2 c (.lst [])) := Sb.trans (same_upd nc)
    have Lc : upd H2 c (.lst []) c = some (.lst []) := upd_same
    have nbc : b ≠ c := ne_of_none Lb nc
    have Lb2 : upd H2 c (.lst []) b = some (.lst (List.replicate ws.length (V.int 0))) := by rw [upd_ne nbc]; exact Lb
    have fc : H c = none := Sb.free nc
    generalize upd H2 c (.lst []) = H3 at *
    have en : ((((ws.map wv).length : Nat) : Int) - 1 - -1).toNat = ws.length := by rw [hlm]; omega
    have big : (4000 : Int) < 2 ^ 62 := by decide
    refine ⟨_, rfl, _, _, rfl, .inr (SqT.same hq Sc), _, _, rfl, rfl, _, rfl, _, rfl, _, _, _, _, rfl, RgC.neg (i := (((ws.map wv).length : Nat) : Int) - 1) (j := -1) (by omega) (by omega) (by omega) (by omega),
      for_rangeC (lo := (((ws.map wv).length : Nat) : Int) - 1) (c := -1) (n := ((((ws.map wv).length : Nat) : Int) - 1 - -1).toNat)
      (fun i σ H' => ∃ (v1 v2 v3 : Option V) (L : List V), σ = [some (.ref a), some (.ref b), some (.ref c), v1, v2, v3] ∧ Same H H' ∧ H' b = some (.lst L) ∧ L.length = ws.length ∧ (∀ j, ws.length ≤ j + i → j < ws.length → L[j]? = some (.int (E j : Nat))) ∧ H' c = some (.lst (stk (ch E ws.length (ws.length - i)))))
      ⟨none, none, none, _, rfl, Sc, Lb2, List.length_replicate .., fun j h1 h2 => absurd h2 (by omega), by rw [Nat.sub_zero, ch_end]; exact Lc⟩ ?_ ?_⟩
    · rintro i σ H' hi ⟨v1, v2, v3, L, rfl, S3, L3, hL, hE, C3⟩
      rw [en] at hi
      obtain ⟨m, hm⟩ : ∃ m : Nat, m + i + 1 = ws.length := ⟨ws.length - 1 - i, by omega⟩
      have eat : ((((ws.map wv).length : Nat) : Int) - 1) + (i : Nat) * (-1) = (m : Int) := by rw [hlm]; omega
      rw [eat]
      have eni : ws.length - i = m + 1 := by omega
      rw [eni] at C3
      have hml : m < ws.length := by omega
      obtain ⟨w', hw⟩ : ∃ w', ws[m]? = some w' := ⟨ws[m], List.getElem?_eq_getElem hml⟩
      have hk := vd _ (List.mem_of_getElem? hw)
      have hwv : (ws.map wv)[m]? = some (wv w') := by rw [List.getElem?_map, hw]; rfl
      have q3 := SqT.same hq S3
      refine ⟨_, rfl, _, _, rfl, rfl, ?_⟩
      refine ⟨_, rfl, _, rfl, a, _, _, _, rfl, rfl, q3, atI_nat hwv, rfl, _, rfl, ?_⟩
      rw [is_ap hk]
      have chl : ∀ j, (ch E ws.length j).length ≤ ws.length := fun j => chain_len E ws.length ws.length j
      cases w'
      case' ap =>
        obtain ⟨c1, c2⟩ := ch_ap he hw
        have f1 : (2 : Int).toNat ≤ (ch E ws.length (m + 1)).length := by rw [c1]; simp
        have f2 : (ch E ws.length (m + 1)).drop (2 : Int).toNat = ch E ws.length (E m) := by rw [c1]; rfl
        have f3 : endAt (ch E ws.length (m + 1)) (m + 1) (2 : Int).toNat = E m := by rw [c1]; rfl
        refine iteT ?_
      case' tk n =>
        obtain ⟨c1, c2⟩ := ch_tk he hw
        have f1 : (if true = true then (1 : Int) else 0).toNat ≤ (ch E ws.length (m + 1)).length := by rw [c1]; simp
        have f2 : (ch E ws.length (m + 1)).drop (if true = true then (1 : Int) else 0).toNat = ch E ws.length (E m) := by rw [c1]; rfl
        have f3 : endAt (ch E ws.length (m + 1)) (m + 1) (if true = true then (1 : Int) else 0).toNat = E m := by rw [c1]; rfl
        refine iteF ⟨_, rfl, _, rfl, a, _, _, _, rfl, rfl, q3, atI_nat hwv, _, rfl, _, rfl, Nat.le_of_lt (small_lt (m := 9) (len_enc hk) (by decide)), rfl, ?_⟩
        rw [head_tk hk, show isTk (W.tk n) = true from rfl]
        refine .inr ⟨_, rfl, ?_⟩
      case' nm n =>
        have c1 := ch_nm he hw
        have a1 := he.nm m n hw
        have f1 : (if false = true then (1 : Int) else 0).toNat ≤ (ch E ws.length (m + 1)).length := Nat.zero_le _
        have f2 : (ch E ws.length (m + 1)).drop (if false = true then (1 : Int) else 0).toNat = ch E ws.length (E m) := by rw [a1]; rfl
        have f3 : endAt (ch E ws.length (m + 1)) (m + 1) (if false = true then (1 : Int) else 0).toNat = E m := a1.symm
        refine iteF ⟨_, rfl, _, rfl, a, _, _, _, rfl, rfl, q3, atI_nat hwv, _, rfl, _, rfl, Nat.le_of_lt (small_lt (m := 9) (len_enc hk) (by decide)), rfl, ?_⟩
        rw [head_tk hk, show isTk (W.nm n) = false from rfl]
        refine .inr ⟨_, rfl, ?_⟩
      all_goals
        refine ⟨_, rfl, by decide, by decide, for_range (lo := 0) (fun t σ H2 => ∃ (v : Option V), σ = [some (.ref a), some (.ref b), some (.ref c), some (.int (m : Int)), some (iv (endAt (ch E ws.length (m + 1)) (m + 1) t)), v] ∧ Same H H2 ∧ H2 b = some (.lst L) ∧ H2 c = some (.lst (stk ((ch E ws.length (m + 1)).drop t))))
          ⟨_, rfl, S3, L3, C3⟩ ?_ ?_⟩
        · rintro t σ H2 ht ⟨v, rfl, S4, L4, C4⟩
          have ht' : t < (ch E ws.length (m + 1)).length := Nat.lt_of_lt_of_le ht f1
          obtain ⟨z, d1, d2, d3⟩ := drop_at ht'
          rw [d1] at C4
          refine ⟨_, rfl, .inl ⟨rfl, _, SqL.of C4⟩, c, _, iv z, rfl, rfl, C4, stk_last _ _, ?_⟩
          rw [stk_pop]
          exact ⟨_, by rw [d3]; rfl, fun x o hx => by rw [upd_ne (ne_of_none hx fc)]; exact S4 _ _ hx, by rw [upd_ne nbc]; exact L4, upd_same⟩
        · rintro σ H2 ⟨v, rfl, S4, L4, C4⟩
          have C5 : H2 c = some (.lst (stk (ch E ws.length (E m)))) := by rw [← f2]; exact C4
          have ixm : ixN L.length (m : Int) = some m := ixN_lt (by omega)
          rw [f3]
          refine ⟨_, rfl, _, rfl, _, rfl, b, _, _, m, rfl, rfl, L4, ixm, ?_⟩
          have C6 : upd H2 b (.lst (L.set m (iv (E m)))) c = some (.lst (stk (ch E ws.length (E m)))) := by rw [upd_ne nbc.symm]; exact C5
          refine ⟨_, rfl, .inl ⟨rfl, _, SqL.of C6⟩, _, rfl, c, _, _, rfl, rfl, C6, ?_, ?_⟩
          · have := chl (E m)
            unfold stk
            rw [List.length_map, List.length_reverse]
            exact small_lt (m := 4000) (by omega) (by decide)
          · refine ⟨_, _, _, L.set m (iv (E m)), rfl, fun x o hx => ?_, ?_, ?_, fun j h1 h2 => ?_, ?_⟩
            · rw [upd_ne (ne_of_none hx fc), upd_ne (ne_of_none hx fb)]
              exact S4 _ _ hx
            · rw [upd_ne nbc, upd_same]
            · rw [List.length_set]; exact hL
            · by_cases hj : j = m
              · subst hj
                rw [List.getElem?_set_self (by omega)]
                rfl
              · rw [List.getElem?_set_ne (Ne.symm hj)]
                exact hE j (by omega) h2
            · rw [upd_same, show ws.length - (i + 1) = m by omega, ch_step he hml, stk_cons]
    · rintro σ H' ⟨v1, v2, v3, L, rfl, S3, L3, hL, hE, C3⟩
      rw [en] at hE
      have eL : L = endsV ws.length E := by
        apply List.ext_getElem?
        intro j
        by_cases hj : j < ws.length
        · rw [hE j (by omega) hj, endsV_get hj]
        · rw [List.getElem?_eq_none (by omega), List.getElem?_eq_none (by rw [endsV_len]; omega)]
      refine ⟨_, rfl, _, _, rfl, SqL.of L3, fun q o nq ho => ?_⟩
      rw [eL]
      exact k _ q (S3.trans (same_upd nq)) (S3.free nq) (TupF.new ho)
theorem c_ends2__V (C_law_ends : Cal P w K mg base "_law_ends" 1 ["_law_words_here"] (spEndsR K)) : Cal P w K mg base "_law_ends" 1 ["_law_words_here"] (spEndsOf K) := by
  exact C_law_ends.imp fun vs H Q E ⟨a, ws, EE, e, hq, vd, he, hl, k⟩ => ⟨a, ws, EE, e, hq, vd.ok, he, hl, k⟩
end
end Kk

set_option maxHeartbeats 4000000
/-! words drawn by a recursion -/
namespace Kk
open PySem PySem.Spec PyProof.Rows L2 Wd
def spWordsR (K : PySem.W.Frag) (m : Nat) : Sp := fun vs H Q _ => ∃ (p g s q u : Addr) (names us : List Nm) (gv : Nat), vs = [.ref p, .ref q, .int (gv : Nat), .ref u] ∧ PotAt H p g s ∧ TupF H q (names.map sv) ∧ H u = some (.lst (us.map sv)) ∧ u ≠ p ∧ u ≠ g ∧
  names.length ≤ gv + 1 ∧ us.length + (gv + 1 - names.length) ≤ 26 ∧ (gv + 1) * (gv + 4) ≤ 2 * (names.length + m) ∧ gv ≤ 30 ∧ (∀ n ∈ names, n.length ≤ 8) ∧
  ∀ (H' : Hp) (r : Addr) (t : T) (us' : List Nm), GenR names gv us.length t → PotAt H' p g s → H' u = some (.lst (us'.map sv)) → us'.length = us.length + (gv + 1 - names.length) → TupF H' r (t.ws.map wv) → Ke p g u H H' → Q (.ref r) H'
theorem sv_q : V.str ("q" : Str) = sv [113] := by
  refine congrArg V.str (TL.ext_tl ?_)
  rw [TL.tl_ofString]; rfl
theorem str_app (a b : Nm) : str a ++ str b = str (a ++ b) := TL.ext_tl (by rw [TL.tl_append]; rfl)
theorem sv_sl (n : Nm) : V.str (("/" : Str) ++ str n) = wv (.tk n) := congrArg V.str (TL.ext_tl (by rw [TL.tl_append, slash]; rfl))
theorem wv_at : V.str ("@" : Str) = wv .ap := congrArg V.str (TL.ext_tl (by rw [at_sign]; rfl))
theorem PotAt.tupNe {H : Hp} {p g s q : Addr} {xs : List V} (h : PotAt H p g s) (t : TupF H q xs) : q ≠ p ∧ q ≠ g ∧ q ≠ s := by
  obtain ⟨⟨G, S, t0, r, h1, h2, h3, h4⟩, _, _, _⟩ := h
  exact ⟨t.ne_lst h1, t.ne_lst h2, t.ne_lst h3⟩
theorem PotAt.freeNe {H : Hp} {p g s q : Addr} (h : PotAt H p g s) (t : H q = none) : q ≠ p ∧ q ≠ g ∧ q ≠ s := by
  obtain ⟨⟨G, S, t0, r, h1, h2, h3, h4⟩, _, _, _⟩ := h
  exact ⟨(ne_of_none h1 t).symm, (ne_of_none h2 t).symm, (ne_of_none h3 t).symm⟩
theorem TupF.ke {p g u : Addr} {H H' : Hp} {a : Addr} {xs : List V} (h : TupF H a xs) (k : Ke p g u H H') (h1 : a ≠ p) (h2 : a ≠ g) (h3 : a ≠ u) : TupF H' a xs := by
  obtain ⟨o, h, d⟩ := h
  exact ⟨o, k _ _ h h1 h2 h3, d⟩
section
variable {P : Program} {w : World} {K : PySem.W.Frag} {mg : Str → Option Value} {base : Heap}
end
end Kk

set_option maxHeartbeats 4000000
/-! any item of a list or of a tuple -/
namespace Kk
open PySem PySem.Spec PyProof.Rows L2 Wd
theorem TupF.wrL {H : Hp} {b l : Addr} {xs ys zs : List V} (t : TupF H b xs) (hl : H l = some (.lst ys)) : TupF (upd H l (.lst zs)) b xs := by
  have ne := t.ne_lst hl
  obtain ⟨o, e, d⟩ := t
  exact ⟨o, by rw [upd_ne ne]; exact e, d⟩
theorem Pg.keepP {C p g s x a : Addr} {H H' : Hp} (h : Pg C H x a) (P : PotAt H p g s) (k : Keep p g H H') : Pg C H' x a := by
  obtain ⟨dx, e⟩ := h
  obtain ⟨h1, h2⟩ := P.offs e (fun _ q => nomatch q)
  exact ⟨dx, k _ _ e h1 h2⟩
theorem Pg.wrL {C x a l : Addr} {H : Hp} {xs ys : List V} (h : Pg C H x a) (hl : H l = some (.lst xs)) : Pg C (upd H l (.lst ys)) x a := by
  obtain ⟨dx, e⟩ := h
  exact ⟨dx, by rw [upd_ne fun q => by rw [q, hl] at e; cases e]; exact e⟩
section
variable {P : Program} {w : World} {K : PySem.W.Frag} {mg : Str → Option Value} {base : Heap}
def spAnyV : Sp := fun vs H Q _ => ∃ (p g s r : Addr) (xs : List V), vs = [.ref p, .ref r] ∧ PotAt H p g s ∧ H r = some (.lst xs) ∧ r ≠ p ∧ r ≠ g ∧ 0 < xs.length ∧ xs.length ≤ 100000 ∧
  ∀ (H' : Hp) (v : V), v ∈ xs → PotAt H' p g s → Keep p g H H' → Q v H'
def spAnyT : Sp := fun vs H Q _ => ∃ (p g s r : Addr) (xs : List V), vs = [.ref p, .ref r] ∧ PotAt H p g s ∧ TupF H r xs ∧ 0 < xs.length ∧ xs.length ≤ 100000 ∧
  ∀ (H' : Hp) (v : V), v ∈ xs → PotAt H' p g s → Keep p g H H' → Q v H'
abbrev s_anyV : Stmt := (top 35)
theorem sc_anyV : FnScope ["_law_pot_here", "_law_items"] ["_law_pot_here", "_law_items"] (defScope s_anyV) := ⟨rfl, rfl, rfl, by decide +kernel, rfl, by decide +kernel, by decide +kernel⟩
theorem c_anyV (B : Bt mg) (D : DefAt K mg "_law_any" s_anyV) (C_law_draw : Cal P w K mg base "_law_draw" 1 ["_law_pot_here", "_law_many"] spDraw) : Cal P w K mg base "_law_any" 2 ["_law_pot_here", "_law_items"] spAnyV := by
  refine cal_of D sc_anyV (fun _ _ _ _ _ _ us hl => match us, hl with | [_, _], _ => rfl) (fun vs H Q E h => ?_) (fun fa cdv A outer st0 H vs Q E hr h => ?_)
  · obtain ⟨p, g, s, r, ns, rfl, _⟩ := h
    rfl
  · obtain ⟨p, g, s, r, ns, rfl, PA, hR, rp, rg, pos, hl, k⟩ := h
    refine ⟨_, (pss_one (ps_ret (pe_ix ix_list (pv 1) (pe_c C_law_draw (hr.mono (by decide)) (pa_cons (pv 0) (pa_cons (pe_callB call_len_seq (by rfl) B.b_len (by decide +kernel) (pa_cons (pv 1) pa_nil)) pa_nil))) (fun _ _ => rfl)))), ?_⟩
    have big := bigN
    refine ⟨_, rfl, _, rfl, _, rfl, r, _, rfl, .inl (SqL.of hR), p, g, s, _, rfl, PA, by omega, by omega, fun H1 j P1 K1 j0 j1 => ?_⟩
    obtain ⟨j, rfl⟩ : ∃ n : Nat, j = (n : Int) := ⟨j.toNat, by omega⟩
    have hj : j < ns.length := by omega
    have hn : ns[j]? = some ns[j] := List.getElem?_eq_getElem hj
    exact ⟨r, _, _, _, rfl, rfl, SqL.of (K1 _ _ hR rp rg), atI_nat hn, k H1 ns[j] (List.getElem_mem hj) P1 K1⟩
theorem c_any__T (B : Bt mg) (D : DefAt K mg "_law_any" s_anyV) (C_law_draw : Cal P w K mg base "_law_draw" 1 ["_law_pot_here", "_law_many"] spDraw) : Cal P w K mg base "_law_any" 2 ["_law_pot_here", "_law_items"] spAnyT := by
  refine cal_of D sc_anyV (fun _ _ _ _ _ _ us hl => match us, hl with | [_, _], _ => rfl) (fun vs H Q E h => ?_) (fun fa cdv A outer st0 H vs Q E hr h => ?_)
  · obtain ⟨p, g, s, r, ns, rfl, _⟩ := h
    rfl
  · obtain ⟨p, g, s, r, ns, rfl, PA, hR, pos, hl, k⟩ := h
    refine ⟨_, (pss_one (ps_ret (pe_ix ix_tup (pv 1) (pe_c C_law_draw (hr.mono (by decide)) (pa_cons (pv 0) (pa_cons (pe_callB call_len_seq (by rfl) B.b_len (by decide +kernel) (pa_cons (pv 1) pa_nil)) pa_nil))) (fun _ _ => rfl)))), ?_⟩
    have big := bigN
    refine ⟨_, rfl, _, rfl, _, rfl, r, _, rfl, .inr hR.sq, p, g, s, _, rfl, PA, by omega, by omega, fun H1 j P1 K1 j0 j1 => ?_⟩
    obtain ⟨j, rfl⟩ : ∃ n : Nat, j = (n : Int) := ⟨j.toNat, by omega⟩
    have hj : j < ns.length := by omega
    have hn : ns[j]? = some ns[j] := List.getElem?_eq_getElem hj
    exact ⟨r, _, _, _, rfl, rfl, (hR.keepP PA K1).sq, atI_nat hn, k H1 ns[j] (List.getElem_mem hj) P1 K1⟩
end
end Kk

set_option maxHeartbeats 2000000
/-! what a number is, of any thing -/
namespace Kk
open PySem PySem.Spec PyProof.Rows L2
def isNumV : V → Bool
  | .int i => decide (0 ≤ i)
  | _ => false
def isIntV : V → Bool
  | .int _ => true
  | _ => false
theorem num_of_int {x : V} (h : isIntV x = false) : isNumV x = false := by
  cases x <;> first | rfl | exact absurd h (by simp [isIntV])
theorem isNum_int {i : Int} (h : 0 ≤ i) : isNumV (.int i) = true := by
  show decide (0 ≤ i) = true
  exact decide_eq_true h
/-- what isinstance tells of a thing: whether it is an int, a bool -/
structure NumT (K : PySem.W.Frag) (H : Hp) (x : V) : Prop where
  ex : ∃ (t : Value) (bi bb : Bool), TyX K H x t ∧ PySem.W.kitOne K t (.type "int") = some bi ∧ PySem.W.kitOne K t (.type "bool") = some bb ∧ ((bi = true ∧ bb = false ∧ ∃ i, x = .int i) ∨ ((bi = false ∨ bb = true) ∧ isIntV x = false))
section
variable {K : PySem.W.Frag} {H : Hp}
theorem kitII : kitB "int" "int" = some true := by decide +kernel
theorem kitIB : kitB "int" "bool" = some false := by decide +kernel
theorem NumT.int (i : Int) : NumT K H (.int i) := ⟨_, true, false, .base (.int i), kit_ty kitII, kit_ty kitIB, .inl ⟨rfl, rfl, i, rfl⟩⟩
theorem NumT.bl (b : Bool) : NumT K H (.bl b) := ⟨_, true, true, .base (.bl b), kit_ty (by decide +kernel), kit_ty (by decide +kernel), .inr ⟨.inr rfl, rfl⟩⟩
theorem NumT.non : NumT K H .non := ⟨_, false, false, .base .non, kit_ty (by decide +kernel), kit_ty (by decide +kernel), .inr ⟨.inl rfl, rfl⟩⟩
theorem NumT.str (z : Str) : NumT K H (.str z) := ⟨_, false, false, .base (.str z), kit_ty (by decide +kernel), kit_ty (by decide +kernel), .inr ⟨.inl rfl, rfl⟩⟩
theorem NumT.lst {a : Addr} {xs : List V} (h : H a = some (.lst xs)) : NumT K H (.ref a) := ⟨_, false, false, .base (.lst h), kit_ty (by decide +kernel), kit_ty (by decide +kernel), .inr ⟨.inl rfl, rfl⟩⟩
theorem NumT.tup {a : Addr} {xs : List V} (h : H a = some (.tup xs)) : NumT K H (.ref a) := ⟨_, false, false, .base (.tup h), kit_ty (by decide +kernel), kit_ty (by decide +kernel), .inr ⟨.inl rfl, rfl⟩⟩
theorem NumT.tupF {a : Addr} {o : Obj} {xs : List V} (h : H a = some (.frz o (.tup xs))) : NumT K H (.ref a) := ⟨_, false, false, .fTuple h, kit_ty (by decide +kernel), kit_ty (by decide +kernel), .inr ⟨.inl rfl, rfl⟩⟩
theorem NumT.dK {a : Addr} {kvs : List (Key × V)} (h : H a = some (.dK kvs)) : NumT K H (.ref a) := ⟨_, false, false, .base (.dK h), kit_ty (by decide +kernel), kit_ty (by decide +kernel), .inr ⟨.inl rfl, rfl⟩⟩
end
/-- of any thing -/
def spNumG (K : PySem.W.Frag) : Sp := fun vs H Q _ => ∃ x : V, vs = [x] ∧ NumT K H x ∧ Q (.bl (isNumV x)) H
abbrev s_is_number : Stmt := (top 3)
theorem sc_is_number : FnScope ["thing"] ["thing"] (defScope s_is_number) := ⟨rfl, rfl, rfl, by decide +kernel, rfl, by decide +kernel, by decide +kernel⟩
theorem c_is_number {P w K mg base} (B : Bt mg) (D : DefAt K mg "is_number" s_is_number) : Cal P w K mg base "is_number" 1 ["thing"] (spNumG K) := by
  refine cal_of D sc_is_number (fun _ _ _ _ _ _ us hl => match us, hl with | [_], _ => rfl) (fun vs H Q E h => ?_) (fun fa cdv A outer st0 H vs Q E hr h => ?_)
  · obtain ⟨i, rfl, _⟩ := h
    rfl
  · obtain ⟨x, rfl, ⟨t, bi, bb, ty, h1, h2, h3⟩, k⟩ := h
    refine ⟨_, (pss_one (ps_ret (pe_and (pe_callB call_isi (by rfl) B.b_isinstance (by decide +kernel) (pa_cons (pv 0) (pa_cons (pe_ty (n := "int") B.b_int (by decide +kernel)) pa_nil))) (pe_and (pe_not (pe_callB call_isi (by rfl) B.b_isinstance (by decide +kernel) (pa_cons (pv 0) (pa_cons (pe_ty (n := "bool") B.b_bool (by decide +kernel)) pa_nil)))) (pe_one (pe_cmpR op_ge (pv 0) pe_int (nomark _))))))), ?_⟩
    refine ⟨_, rfl, _, _, _, _, bi, rfl, .ty _, ty, h1, _, rfl, ?_⟩
    rcases h3 with ⟨rfl, rfl, i, rfl⟩ | ⟨h3, h4⟩
    · refine iteT ⟨_, rfl, _, _, _, _, false, rfl, .ty _, ty, h2, _, rfl, _, rfl, iteT ?_⟩
      exact ⟨_, rfl, _, _, rfl, rfl, k⟩
    · rw [num_of_int h4] at k
      cases bi with
      | false => exact iteF k
      | true =>
        have : bb = true := h3.resolve_left (by simp)
        subst this
        exact iteT ⟨_, rfl, _, _, _, _, true, rfl, .ty _, ty, h2, _, rfl, _, rfl, iteF k⟩
end Kk

set_option maxHeartbeats 4000000
/-! kinds: their words, the class -/
namespace Kk
open PySem PySem.Spec PyProof.Rows L2 Wd
/-- a word of a kind -/
inductive KW
  | to
  | lt (n : Nat)
  deriving DecidableEq
def kv : KW → V
  | .to => .str ">"
  | .lt n => .int (n : Nat)
def sidesK : KW → Nat
  | .to => 2
  | .lt _ => 0
/-- the words of a kind -/
structure KOk (ks : List KW) : Prop where
  w : Wh 1 (ks.map sidesK)
  l : ks.length ≤ 4000
theorem KOk.pos {ks : List KW} (h : KOk ks) : 0 < ks.length := by
  have w := h.w
  cases ks with
  | nil => cases w
  | cons a l => simp
theorem kv_num (H : Hp) (K : PySem.W.Frag) (k : KW) : NumT K H (kv k) := by
  cases k with
  | to => exact NumT.str _
  | lt n => exact NumT.int _
theorem kitSSk : kitB "str" "str" = some true := by decide +kernel
theorem kitTTk : kitB "tuple" "tuple" = some true := by decide +kernel
theorem tyx_tupk {K : PySem.W.Frag} {H : Hp} {a : Addr} {xs : List V} (h : SqT K H a xs) : TyX K H (.ref a) (.type "tuple") := by
  rcases h with (h | ⟨o, h⟩) | ⟨o, its, n, h1, h2, _⟩
  · exact .base (.tup h)
  · exact .fTuple h
  · exact .kTuple h1 h2
theorem map_some' {α β : Type} (f : α → β) (l : List α) : l.filterMap (fun x => some (f x)) = l.map f := by
  induction l with
  | nil => rfl
  | cons a l ih => simp only [List.filterMap_cons, ih, List.map_cons]
structure PK (K : PySem.W.Frag) (mg : Str → Option Value) (C : Addr) : Prop where
  cl : Cls K C
  nw : NoAttr K C "words"
  mg : mg "Kind" = some (.ref C)
  ha : PySem.W.findIn K (.ref C) "__class__" = some (some (.builtin "object.__class__"))
  hn : PySem.W.specialIn K (.builtin "object.__class__") "__get__" = some (some (.builtin "getset_descriptor.__get__"))
  ht : PySem.W.takesIn K (.builtin "object.__class__") = some true
  hm : PySem.W.mroIn K C (.type "object") = some true
def kfs (a : Addr) : List (Str × V) := putF "words" (.ref a) []
theorem kfs_get (a : Addr) : (kfs a).lookup ("words" : Str) = some (.ref a) := by unfold kfs; rw [lookup_putF, if_pos rfl]
/-- at x stands a Kind, its words at a -/
def Kd (C : Addr) (H : Hp) (x a : Addr) : Prop := ∃ dx, H x = some (.ins C dx (kfs a))
theorem Kd.same {C : Addr} {H H' : Hp} {x a : Addr} (h : Kd C H x a) (k : Same H H') : Kd C H' x a := by
  obtain ⟨dx, h⟩ := h
  exact ⟨dx, k _ _ h⟩
/-- what isinstance tells of an own class, asked for a number -/
structure NiC (K : PySem.W.Frag) (C : Addr) : Prop where
  i : PySem.W.mroIn K C (.type "int") = some false
  b : PySem.W.mroIn K C (.type "bool") = some false
theorem NiC.int {K : PySem.W.Frag} {C : Addr} (h : NiC K C) : PySem.W.kitOne K (.ref C) (.type "int") = some false := by
  unfold PySem.W.kitOne PySem.W.kitCls
  rw [if_neg (show ¬ (Value.ref C == Value.type "int") = true from fun z => nomatch z)]
  show (if PySem.W.kitMeta "int" = true then PySem.W.mroIn K C (.type "int") else none) = _
  rw [if_pos (by decide +kernel)]
  exact h.i
theorem NiC.bool {K : PySem.W.Frag} {C : Addr} (h : NiC K C) : PySem.W.kitOne K (.ref C) (.type "bool") = some false := by
  unfold PySem.W.kitOne PySem.W.kitCls
  rw [if_neg (show ¬ (Value.ref C == Value.type "bool") = true from fun z => nomatch z)]
  show (if PySem.W.kitMeta "bool" = true then PySem.W.mroIn K C (.type "bool") else none) = _
  rw [if_pos (by decide +kernel)]
  exact h.b
theorem PK.numT {K : PySem.W.Frag} {mg : Str → Option Value} {C : Addr} (pk : PK K mg C) (n : NiC K C) {H : Hp} {x dx : Addr} {fs : List (Str × V)} (h : H x = some (.ins C dx fs)) : NumT K H (.ref x) :=
  ⟨_, false, false, .base (.ins h pk.cl pk.ha pk.hn pk.ht pk.hm), n.int, n.bool, .inr ⟨.inl rfl, rfl⟩⟩
section
variable {P : Program} {w : World} {K : PySem.W.Frag} {mg : Str → Option Value} {base : Heap}
/-- of a word that is one -/
def spKWord : Sp := fun vs H Q _ => ∃ k : KW, vs = [kv k] ∧ ∀ H', Same H H' → Q (.bl true) H'
abbrev s_is_kind_word : Stmt := (top 30)
theorem sc_is_kind_word : FnScope ["thing"] ["thing"] (defScope s_is_kind_word) := ⟨rfl, rfl, rfl, by decide +kernel, rfl, by decide +kernel, by decide +kernel⟩
theorem c_is_kind_word (B : Bt mg) (D : DefAt K mg "is_kind_word" s_is_kind_word) (Cis_number : Cal P w K mg base "is_number" 1 ["thing"] (spNumG K)) : Cal P w K mg base "is_kind_word" 2 ["thing"] spKWord := by
  refine cal_of D sc_is_kind_word (fun _ _ _ _ _ _ us hl => match us, hl with | [_], _ => rfl) (fun vs H Q E h => ?_) (fun fa cdv A outer st0 H vs Q E hr h => ?_)
  · obtain ⟨z, rfl, _⟩ := h
    rfl
  · obtain ⟨z, rfl, k⟩ := h
    refine ⟨_, (pss_one (ps_ret (pe_or (pe_c Cis_number (hr.mono (by decide)) (pa_cons (pv 0) pa_nil)) (pe_one (pe_and (pe_callB call_isi (by rfl) B.b_isinstance (by decide +kernel) (pa_cons (pv 0) (pa_cons (pe_ty (n := "str") B.b_str (by decide +kernel)) pa_nil))) (pe_one (pe_cmpR op_eq (pv 0) (pe_gs B.m_INTO) (nomark _)))))))), ?_⟩
    refine ⟨_, rfl, kv z, rfl, kv_num H K z, ?_⟩
    cases z with
    | to =>
      refine ⟨_, rfl, iteF ⟨_, rfl, _, _, _, _, true, rfl, .ty _, .base (.str _), kit_ty kitSSk, _, rfl, iteT ?_⟩⟩
      refine ⟨_, rfl, rfl, ?_⟩
      rw [decide_eq_true (show kv KW.to = V.str ">" from rfl)]
      exact k H (Same.refl H)
    | lt n =>
      have : isNumV (kv (.lt n)) = true := isNum_int (by omega)
      rw [this]
      exact ⟨_, rfl, iteT (k H (Same.refl H))⟩
def spSides : Sp := fun vs H Q _ => ∃ k : KW, vs = [kv k] ∧ ∀ H', Same H H' → Q (nv (sidesK k)) H'
abbrev s_sides_in : Stmt := (top 31)
theorem sc_sides_in : FnScope ["word"] ["word"] (defScope s_sides_in) := ⟨rfl, rfl, rfl, by decide +kernel, rfl, by decide +kernel, by decide +kernel⟩
theorem c_sides_in (B : Bt mg) (D : DefAt K mg "sides_in" s_sides_in) : Cal P w K mg base "sides_in" 1 ["word"] spSides := by
  refine cal_of D sc_sides_in (fun _ _ _ _ _ _ us hl => match us, hl with | [_], _ => rfl) (fun vs H Q E h => ?_) (fun fa cdv A outer st0 H vs Q E hr h => ?_)
  · obtain ⟨z, rfl, _⟩ := h
    rfl
  · obtain ⟨z, rfl, k⟩ := h
    refine ⟨_, (pss_one (ps_ret (pe_ifExp (pt_cmpR op_eq (pv 0) (pe_gs B.m_INTO) (nomark _)) pe_int pe_int))), ?_⟩
    have kk := k H (Same.refl H)
    cases z with
    | to =>
      refine ⟨_, rfl, rfl, _, rfl, ?_⟩
      rw [decide_eq_true (show kv KW.to = V.str ">" from rfl)]
      exact iteT kk
    | lt n =>
      refine ⟨_, rfl, rfl, _, rfl, ?_⟩
      rw [decide_eq_false (show ¬ kv (KW.lt n) = V.str ">" from fun z => nomatch z)]
      exact iteF kk
def spFineK (K : PySem.W.Frag) : Sp := fun vs H Q _ => ∃ (a : Addr) (ks : List KW), vs = [.ref a] ∧ SqT K H a (ks.map kv) ∧ KOk ks ∧ ∀ H', Same H H' → Q .non H'
abbrev s_fault_index_kinds : Stmt := (top 28)
theorem sc_fault_index_kinds : FnScope ["words", "at", "word"] ["words"] (defScope s_fault_index_kinds) := ⟨rfl, rfl, rfl, by decide +kernel, rfl, by decide +kernel, by decide +kernel⟩
theorem c_fault_index_kinds (B : Bt mg) (D : DefAt K mg "fault_index_kinds" s_fault_index_kinds "fault_index") (Cis_kind_word : Cal P w K mg base "is_kind_word" 2 ["thing"] spKWord) (Csides_in : Cal P w K mg base "sides_in" 1 ["word"] spSides) (Cmisfit_index : Cal P w K mg base "misfit_index" 1 ["needs"] (spMisfit K)) :
    Cal P w K mg base "fault_index_kinds" 3 ["words"] (spFineK K) := by
  refine cal_of D sc_fault_index_kinds (fun _ _ _ _ _ _ us hl => match us, hl with | [_], _ => rfl) (fun vs H Q E h => ?_) (fun fa cdv A outer st0 H vs Q E hr h => ?_)
  · obtain ⟨a, ks, rfl, _⟩ := h
    rfl
  · obtain ⟨a, ks, rfl, hq, ok, k⟩ := h
    refine ⟨_, (pss_cons (ps_if (PW.pt (pw_or (pt_not (pt_val (pe_callB call_isi (by rfl) B.b_isinstance (by decide +kernel) (pa_cons (pv 0) (pa_cons (pe_ty (n := "tuple") B.b_tuple (by decide +kernel)) pa_nil))))) (pw_or1 (pt_not (pt_chain op_le op_le pe_int (pe_callB call_len_seq (by rfl) B.b_len (by decide +kernel) (pa_cons (pv 0) pa_nil)) (pe_gi B.m_MOST_WORDS_kinds)))))) (pss_one (ps_ret (pe_un un_neg pe_int))) pss_nil)
      (pss_cons (ps_for PassesOwn.never rfl (pi_enumT (by rfl) B.b_enumerate (pa_cons (pv 0) pa_nil)) (pg_tup (by rfl) (pgs_cons (pg_name (i := 1) sc_fault_index_kinds.nd rfl (by first | exact Or.inl rfl | exact Or.inr rfl)) (pgs_cons (pg_name (i := 2) sc_fault_index_kinds.nd rfl (by first | exact Or.inl rfl | exact Or.inr rfl)) pgs_nil))) (pss_one (ps_if (pt_not (pt_val (pe_c Cis_kind_word (hr.mono (by decide)) (pa_cons (pv 2) pa_nil)))) (pss_one (ps_ret (pv 1))) pss_nil)))
      (pss_one (ps_ret (pe_c Cmisfit_index (hr.mono (by decide)) (pa_cons (pe_lc (own := [("word", 2)]) (g := (gName 2)) (tt := tYes) rfl sc_fault_index_kinds.nd (pi_tup (pv 0)) (blkOk_by (own := [("word", 2)]) (N := ["words", "at", "word"]) (sc := defScope s_fault_index_kinds) (by decide +kernel)) (fun _ _ _ _ _ => (pg_name (i := 2) sc_fault_index_kinds.nd rfl (by first | exact Or.inl rfl | exact Or.inr rfl))) (fun _ _ _ _ _ => pts_nil) (fun _ _ _ _ _ => (pe_c Csides_in (hr.mono (by decide)) (pa_cons (pv 2) pa_nil)))) pa_nil)))))), ?_⟩
    have hlm : (ks.map kv).length = ks.length := List.length_map ..
    have pos := ok.pos
    have hl := ok.l
    refine ⟨_, rfl, _, _, _, _, true, rfl, .ty _, tyx_tupk hq, kit_ty kitTTk, _, rfl, iteF ?_⟩
    refine ⟨_, rfl, _, _, rfl, .inr hq, _, _, rfl, rfl, _, rfl, ?_⟩
    rw [hlm, decide_eq_true (show (1 : Int) ≤ (ks.length : Nat) by omega)]
    refine iteT ⟨_, _, rfl, rfl, _, rfl, ?_⟩
    rw [decide_eq_true (show ((ks.length : Nat) : Int) ≤ 4000 by omega)]
    refine iteF ?_
    refine ⟨_, rfl, a, _, rfl, hq, for_enumT (K := K) (a := a) (xs := ks.map kv) (fun i σ H' => ∃ v1 v2 : Option V, σ = [some (.ref a), v1, v2] ∧ Same H H') ⟨none, none, rfl, Same.refl H⟩ (fun i σ H' _ ⟨_, _, _, s⟩ => SqT.same hq s) ?_ ?_⟩
    · rintro i x σ H' T hx ⟨v1, v2, rfl, S1⟩ nT
      obtain ⟨u, hu, rfl⟩ := map_get hx
      have S2 : Same H (upd H' T (.tup [.int (i : Nat), kv u])) := S1.trans (same_upd nT)
      refine ⟨T, _, rfl, SqT.of upd_same, rfl, _, _, rfl, _, _, rfl, rfl, ?_⟩
      refine ⟨_, rfl, u, rfl, fun H3 S3 => ⟨true, rfl, iteF ?_⟩⟩
      exact ⟨_, _, rfl, S2.trans S3⟩
    · rintro σ H' ⟨v1, v2, rfl, S1⟩
      refine ⟨_, rfl, a, rfl, ⟨_, SqT.same hq S1⟩, fun Dl nDl => lc_fmT (f := kv) (r := fun u => some (nv (sidesK u))) (SqT.same hq S1) nDl (Nat.le_trans hl (by decide)) ?_ ?_⟩
      · rintro i u H2 Qy Qn hu S2 hy hn
        exact ⟨rfl, _, rfl, u, rfl, fun H3 S3 => hy _ _ S3 rfl⟩
      rintro H2 S2 L2
      rw [map_some'] at L2
      have e : ks.map (fun u => nv (sidesK u)) = (ks.map sidesK).map nv := by rw [List.map_map]; rfl
      rw [e] at L2
      refine ⟨Dl, ks.map sidesK, rfl, SqL.of L2, by rw [List.length_map]; exact Nat.le_trans hl (by decide), fun H3 S3 => ?_⟩
      rw [ok.w.mis 0]
      exact k H3 (S1.trans (S2.trans S3))
/-- all but x is as it was -/
def ButK (x : Addr) (H H' : Hp) : Prop := ∀ b o, H b = some o → b ≠ x → H' b = some o
def spKInit (K : PySem.W.Frag) (C : Addr) : Sp := fun vs H Q _ => ∃ (x dx a : Addr) (ks : List KW), vs = [.ref x, .ref a] ∧ H x = some (.ins C dx []) ∧ SqT K H a (ks.map kv) ∧ KOk ks ∧
  ∀ H', ButK x H H' → Kd C H' x a → Q .non H'
abbrev s_kindinit : Stmt := (inClass (top 27) 0)
theorem sc_kindinit : FnScope ["self", "words", "index"] ["self", "words"] (defScope s_kindinit) := ⟨rfl, rfl, rfl, by decide +kernel, rfl, by decide +kernel, by decide +kernel⟩
theorem c_kindinit {C f : Addr} {fd : FuncData} (B : Bt mg) (pk : PK K mg C) (F : Fun K "__init__" "Kind.__init__" s_kindinit f fd) (Cfault_index_kinds : Cal P w K mg base "fault_index_kinds" 3 ["words"] (spFineK K)) :
    FnOk P w K mg base CX0 4 f fd ["self", "words"] (spKInit K C) := by
  refine F.ok sc_kindinit (fun vs H Q E h => ?_) (fun cdv A outer st0 H vs Q E hr h => ?_)
  · obtain ⟨x, dx, a, ks, rfl, _⟩ := h
    rfl
  · obtain ⟨x, dx, a, ks, rfl, hx, hq, ok, k⟩ := h
    refine ⟨_, (pss_cons (ps_set (i := 2) sc_kindinit.nd rfl (by first | exact Or.inl rfl | exact Or.inr rfl) (pe_c Cfault_index_kinds (hr.mono (by decide)) (pa_cons (pv 1) pa_nil)))
      (pss_cons (ps_if (pt_cmpR op_notN (pv 2) pe_non (nomark _)) (pss_one ps_never) pss_nil)
      (pss_one (ps_fld (pv 0) (pv 1) rfl)))), ?_⟩
    refine ⟨_, rfl, a, ks, rfl, hq, ok, fun H1 S1 => ?_⟩
    refine ⟨_, rfl, rfl, _, rfl, iteF ?_⟩
    refine ⟨_, rfl, _, rfl, x, C, dx, [], rfl, S1 _ _ hx, pk.cl, pk.nw, (by show 0 < 1000; decide), ?_⟩
    refine k _ (fun b o hb hne => ?_) ⟨dx, upd_same⟩
    rw [upd_ne hne]
    exact S1 _ _ hb
end
theorem madeK_same {H : Hp} {x dx C : Addr} (nx : H x = none) (ndx : H dx = none) : Same H (upd (upd H dx (.own x)) x (.ins C dx [])) := fun b o e => by
  rw [upd_ne (ne_of_none e nx), upd_ne (ne_of_none e ndx)]
  exact e
theorem ButK.same {x : Addr} {H H1 H2 : Hp} (h : ButK x H1 H2) (s : Same H H1) (n : H x = none) : Same H H2 := fun b o e => h _ _ (s _ _ e) (ne_of_none e n)
theorem tyx_mono {K : PySem.W.Frag} {H H' : Hp} {x : V} {t : Value} (h : TyX K H x t) (k : ∀ a o, x = .ref a → H a = some o → H' a = some o) : TyX K H' x t := by
  cases h with
  | base b =>
    refine .base ?_
    cases b with
    | non => exact .non
    | bl y => exact .bl y
    | int i => exact .int i
    | str y => exact .str y
    | flt y => exact .flt y
    | lst e => exact .lst (k _ _ rfl e)
    | frz e => exact .frz (k _ _ rfl e)
    | tup e => exact .tup (k _ _ rfl e)
    | dK e => exact .dK (k _ _ rfl e)
    | dT e => exact .dT (k _ _ rfl e)
    | ins e cl ha hn htk hm => exact .ins (k _ _ rfl e) cl ha hn htk hm
  | byt b => exact .byt b
  | set e => exact .set (k _ _ rfl e)
  | kList e c => exact .kList e c
  | kTuple e c => exact .kTuple e c
  | kDict e c => exact .kDict e c
  | fTuple e => exact .fTuple (k _ _ rfl e)
  | fDict e => exact .fDict (k _ _ rfl e)
theorem NumT.mono {K : PySem.W.Frag} {H H' : Hp} {x : V} (h : NumT K H x) (k : ∀ a o, x = .ref a → H a = some o → H' a = some o) : NumT K H' x := by
  obtain ⟨t, bi, bb, ty, r⟩ := h
  exact ⟨t, bi, bb, tyx_mono ty k, r⟩
theorem NumT.same {K : PySem.W.Frag} {H H' : Hp} {x : V} (h : NumT K H x) (s : Same H H') : NumT K H' x := h.mono fun a o _ e => s a o e
theorem NumT.keep {K : PySem.W.Frag} {H H' : Hp} {x : V} {p g : Addr} (h : NumT K H x) (s : Keep p g H H') (h1 : x ≠ .ref p) (h2 : x ≠ .ref g) : NumT K H' x :=
  h.mono fun a o e q => s a o q (fun z => h1 (by rw [e, z])) (fun z => h2 (by rw [e, z]))
theorem NumT.tF {K : PySem.W.Frag} {H : Hp} {a : Addr} {xs : List V} (h : TupF H a xs) : NumT K H (.ref a) := by
  obtain ⟨o, h, _⟩ := h
  exact NumT.tupF h
/-- the class can be made -/
structure MkrK (P : Program) (w : World) (K : PySem.W.Frag) (mg : Str → Option Value) (base : Heap) (C : Addr) : Prop where
  ex : ∃ f fd, Mk K C f ∧ mg "Kind" = some (.ref C) ∧ Binds K fd ["self", "words"] [] ∧ FnOk P w K mg base CX0 4 f fd ["self", "words"] (spKInit K C)
theorem pe_mkK {X : Cx} {C : Addr} {e : Expr} {t : TA} {p pos : Pos} (M : MkrK X.prog X.w X.K X.mg X.base C) (hr : Room 5 X.A) (ha : PA X [e] t) (hg : Gl X "Kind" := by rfl)
    (he : starEach [e] X.env = (false, eval e X.env) :: starEach [] X.env := by rfl) (hpl : (backTo pos (starEach [] X.env)).any (·.1) = false := by rfl) :
    PE X (.Call (.Name "Kind" p) [e] [] pos) (tMake C (spKInit X.K C) [] E0 t) := by
  obtain ⟨f, fd, M, hm, hb, F⟩ := M
  exact pe_make M F hr hg hm hb .nil pass0 ha (by decide) he hpl
end Kk

set_option maxHeartbeats 4000000
/-! kinds as trees; kinds drawn -/
namespace Kk
open PySem PySem.Spec PyProof.Rows L2 Wd
inductive KT where
  | lt (n : Nat)
  | to (a b : KT)
def KT.ks : KT → List KW
  | .lt n => [.lt n]
  | .to a b => .to :: (a.ks ++ b.ks)
def ksL (ts : List KT) : List KW := ts.flatMap KT.ks
theorem ksL_cons (t : KT) (ts : List KT) : ksL (t :: ts) = t.ks ++ ksL ts := rfl
theorem wh_forest : ∀ (l : List KW) {c : Nat}, Wh c (l.map sidesK) → ∃ ts : List KT, ts.length = c ∧ ksL ts = l
  | [], c, h => by cases h; exact ⟨[], rfl, rfl⟩
  | k :: l, c, h => by
    cases h with
    | @cons c n ns h =>
      obtain ⟨ts, e1, e2⟩ := wh_forest l h
      cases k with
      | lt n =>
        have e1 : ts.length = c := e1
        exact ⟨.lt n :: ts, by rw [List.length_cons, e1], by rw [ksL_cons, e2]; rfl⟩
      | to =>
        have e1 : ts.length = c + 2 := e1
        match ts, e1, e2 with
        | a :: b :: ts, e1, e2 => exact ⟨.to a b :: ts, by simp at e1 ⊢; omega, by rw [ksL_cons]; show .to :: (a.ks ++ b.ks) ++ _ = _; rw [← e2, ksL_cons, ksL_cons]; simp⟩
        | [_], e1, _ => simp at e1
        | [], e1, _ => simp at e1
theorem tree_wh : ∀ (t : KT) (c : Nat) (r : List Nat), Wh c r → Wh (c + 1) (t.ks.map sidesK ++ r)
  | .lt n, c, r, h => Wh.cons (n := 0) h
  | .to a b, c, r, h => by
    show Wh (c + 1) (2 :: ((a.ks ++ b.ks).map sidesK ++ r))
    refine Wh.cons (n := 2) ?_
    rw [List.map_append, List.append_assoc]
    exact tree_wh a (c + 1) _ (tree_wh b c r h)
theorem forest_wh : ∀ (ts : List KT), Wh ts.length ((ksL ts).map sidesK)
  | [] => .nil
  | t :: ts => by
    rw [ksL_cons, List.map_append]
    exact tree_wh t ts.length _ (forest_wh ts)
theorem KT.pos (t : KT) : 0 < t.ks.length := by cases t <;> simp [KT.ks]
def skipK : Nat → List KW → Nat
  | 0, _ => 0
  | _ + 1, [] => 0
  | c + 1, k :: l => 1 + skipK (c + sidesK k) l
theorem skip_tree : ∀ (t : KT) (c : Nat) (r : List KW), skipK (c + 1) (t.ks ++ r) = t.ks.length + skipK c r
  | .lt n, c, r => rfl
  | .to a b, c, r => by
    show 1 + skipK (c + 2) ((a.ks ++ b.ks) ++ r) = (a.ks ++ b.ks).length + 1 + skipK c r
    rw [List.append_assoc, skip_tree a (c + 1), skip_tree b c, List.length_append]
    omega
/-- the index behind the branch at i -/
def endK (us : List KW) (i : Nat) : Nat := i + skipK 1 (us.drop i)
theorem endK_at {us : List KW} {i : Nat} {t : KT} {r : List KW} (h : us.drop i = t.ks ++ r) : endK us i = i + t.ks.length ∧ us.drop (endK us i) = r ∧ i + t.ks.length ≤ us.length := by
  have e : endK us i = i + t.ks.length := by
    unfold endK
    rw [h, skip_tree t 0 r, show skipK 0 r = 0 by cases r <;> rfl]
    omega
  refine ⟨e, ?_, ?_⟩
  · rw [e, ← List.drop_drop, h, List.drop_left]
  · have := congrArg List.length h
    rw [List.length_drop, List.length_append] at this
    have := t.pos
    omega
theorem wh_drop {c : Nat} : ∀ {l : List KW} {c : Nat}, Wh c (l.map sidesK) → ∀ i, i ≤ l.length → ∃ c', Wh c' ((l.drop i).map sidesK)
  | l, c, h, 0, _ => ⟨c, h⟩
  | [], c, h, i + 1, hi => absurd hi (by simp)
  | k :: l, c, h, i + 1, hi => by
    cases h with
    | cons h => exact wh_drop (c := 0) h i (by simpa using hi)
/-- at each place a branch -/
theorem tree_at {c : Nat} {us : List KW} (h : Wh c (us.map sidesK)) {i : Nat} (hi : i < us.length) : ∃ (t : KT) (ts : List KT), us.drop i = t.ks ++ ksL ts := by
  obtain ⟨c', h'⟩ := wh_drop (c := 0) h i (Nat.le_of_lt hi)
  obtain ⟨ts, e1, e2⟩ := wh_forest _ h'
  cases ts with
  | nil =>
    have := congrArg List.length e2
    rw [List.length_drop] at this
    simp [ksL] at this
    omega
  | cons t ts => exact ⟨t, ts, e2.symm⟩
theorem head_drop {us : List KW} {i : Nat} {k : KW} (h : us[i]? = some k) : us.drop i = k :: us.drop (i + 1) := by
  obtain ⟨h1, h2⟩ := List.getElem?_eq_some_iff.mp h
  rw [List.drop_eq_getElem_cons h1, h2]
theorem ends_kind {c : Nat} {us : List KW} (h : Wh c (us.map sidesK)) : EndsN (us.map sidesK) (endK us) := by
  refine ⟨fun i n hn => ?_, fun n hn => ?_⟩
  · rw [List.getElem?_map] at hn
    rw [List.length_map]
    cases hk : us[i]? with
    | none => rw [hk] at hn; cases hn
    | some k =>
      rw [hk] at hn
      have hi := (List.getElem?_eq_some_iff.mp hk).1
      obtain ⟨t, ts, ht⟩ := tree_at h hi
      have hd := head_drop hk
      rw [ht] at hd
      obtain ⟨e1, e2, e3⟩ := endK_at ht
      cases t with
      | lt m =>
        have ek : KW.lt m = k := (List.cons.inj hd).1
        subst ek
        cases hn
        exact ⟨fun j (hj : j < 0) => absurd hj (by omega), e1⟩
      | to a b =>
        have ek : KW.to = k := (List.cons.inj hd).1
        subst ek
        cases hn
        have hd2 : us.drop (i + 1) = a.ks ++ (b.ks ++ ksL ts) := by
          have := (List.cons.inj hd).2
          rw [← this]; simp
        obtain ⟨a1, a2, a3⟩ := endK_at hd2
        obtain ⟨b1, b2, b3⟩ := endK_at a2
        have pa := a.pos
        have pb := b.pos
        have la : (KT.to a b).ks.length = 1 + a.ks.length + b.ks.length := by simp [KT.ks]; omega
        refine ⟨fun j (hj : j < 2) => ?_, ?_⟩
        · match j, hj with
          | 0, _ => exact ⟨by show i < i + 1; omega, by show i + 1 < us.length; omega⟩
          | 1, _ => exact ⟨by show i < endK us (i + 1); omega, by show endK us (i + 1) < us.length; omega⟩
        · show endK us i = endK us (endK us (i + 1))
          omega
  · obtain ⟨k, _, rfl⟩ := List.mem_map.mp hn
    cases k <;> simp [sidesK]
/-- a shape: a place for a letter, or an arrow -/
def shV : Bool → V
  | true => .str ">"
  | false => .non
def shN : Bool → Nat
  | true => 2
  | false => 0
def wsum : List Nat → Nat
  | [] => 0
  | n :: l => (2 * n - 1) + wsum l
section
variable {P : Program} {w : World} {K : PySem.W.Frag} {mg : Str → Option Value} {base : Heap}
def spShape : Sp := fun vs H Q _ => ∃ (p g s : Addr) (m : Nat) (y : Int), vs = [.ref p, .int (m : Nat), .int y] ∧ PotAt H p g s ∧ 1 ≤ m ∧ m ≤ 4000 ∧
  ∀ (H' : Hp) (r : Addr) (sh : List Bool), PotAt H' p g s → Keep p g H H' → H' r = some (.lst (sh.map shV)) → r ≠ p → r ≠ g → r ≠ s → H r = none → Wh 1 (sh.map shN) → sh.length = 2 * m - 1 → Q (.ref r) H'
def spKindD : Sp := fun vs H Q _ => ∃ (p g s l : Addr) (m : Nat) (ls : List Nat), vs = [.ref p, .int (m : Nat), .ref l] ∧ PotAt H p g s ∧ 1 ≤ m ∧ m ≤ 4000 ∧ H l = some (.lst (ls.map nv)) ∧ l ≠ p ∧ l ≠ g ∧ 0 < ls.length ∧ ls.length ≤ 2000 ∧
  ∀ (H' : Hp) (q : Addr) (ks : List KW), PotAt H' p g s → Keep p g H H' → TupF H' q (ks.map kv) → Wh 1 (ks.map sidesK) → ks.length = 2 * m - 1 → (∀ n, KW.lt n ∈ ks → n ∈ ls) → Q (.ref q) H'
end
end Kk

set_option maxHeartbeats 2000000
namespace Kk
open PySem PySem.Spec PyProof.Rows L2 Wd
/-! ### tuples of plain things compared -/
def Plain (x : V) : Prop := (∃ i, x = .int i) ∨ ∃ z : Str, x = .str z ∧ PyData.strOk z = true
def dV : V → PyData
  | .int i => .int i
  | .str z => .str z
  | _ => .none
theorem dp_all {K : PySem.W.Frag} {H : Hp} : ∀ {xs : List V}, (∀ x ∈ xs, Plain x) → DpAll K H xs (xs.map dV)
  | [], _ => .nil
  | x :: xs, h => by
    refine .cons ?_ (dp_all fun y hy => h y (List.mem_cons_of_mem _ hy))
    rcases h x (List.mem_cons_self ..) with ⟨i, rfl⟩ | ⟨z, rfl, _⟩
    · exact .int i
    · exact .str z
theorem can_all : ∀ {xs : List V}, (∀ x ∈ xs, Plain x) → PyData.canLayAll0 (xs.map dV) = true
  | [], _ => rfl
  | x :: xs, h => by
    have ih := can_all fun y hy => h y (List.mem_cons_of_mem x hy)
    rw [List.map_cons, PyData.canLayAll0, ih, Bool.and_true]
    rcases h x (List.mem_cons_self ..) with ⟨i, rfl⟩ | ⟨z, rfl, hz⟩
    · rfl
    · exact hz
theorem depth_all : ∀ {xs : List V}, (∀ x ∈ xs, Plain x) → PyData.depthAll (xs.map dV) = 0
  | [], _ => rfl
  | x :: xs, h => by
    have ih := depth_all fun y hy => h y (List.mem_cons_of_mem x hy)
    rw [List.map_cons, PyData.depthAll, ih]
    rcases h x (List.mem_cons_self ..) with ⟨i, rfl⟩ | ⟨z, rfl, hz⟩
    · rfl
    · rfl
theorem shaped_all {xs : List V} (h : ∀ x ∈ xs, Plain x) : SeqAt.shaped (.tuple (xs.map dV)) = true := by
  unfold SeqAt.shaped
  rw [PyData.canLay0, can_all h, PyData.depth, depth_all h]
  rfl
section
variable {K : PySem.W.Frag} {H : Hp} {p q : Addr} {xs : List V} {Q : VK}
theorem eqD_same (hp : SqT K H p xs) (hq : SqT K H q xs) (ok : ∀ x ∈ xs, Plain x) (k : Q (.bl true) H) : rEqD K (.ref p) (.ref q) H Q := by
  refine ⟨_, _, .tup hp (dp_all ok), .tup hq (dp_all ok), shaped_all ok, shaped_all ok, ?_⟩
  rw [SeqAt.eqv_refl _ (by rw [PyData.canLay0]; exact can_all ok)]
  exact k
theorem neD_same (hp : SqT K H p xs) (hq : SqT K H q xs) (ok : ∀ x ∈ xs, Plain x) (k : Q (.bl false) H) : rNeD K (.ref p) (.ref q) H Q := by
  refine ⟨_, _, .tup hp (dp_all ok), .tup hq (dp_all ok), shaped_all ok, shaped_all ok, ?_⟩
  rw [SeqAt.eqv_refl _ (by rw [PyData.canLay0]; exact can_all ok)]
  exact k
end
theorem ok_str {n : Nm} (h : nmOk n) : PyData.strOk (str n) = true := by
  unfold PyData.strOk
  show (n.toArray).all _ = true
  rw [List.all_toArray, List.all_eq_true]
  intro c hc
  have := h.2.2 c hc
  exact decide_eq_true (by omega)
theorem ok_enc {v : W} (h : wOk v) : PyData.strOk (enc v) = true := by
  cases v with
  | ap => decide +kernel
  | nm n => exact ok_str h
  | tk n =>
    unfold PyData.strOk
    show ((47 :: n).toArray).all _ = true
    rw [List.all_toArray, List.all_eq_true]
    intro c hc
    rcases List.mem_cons.mp hc with rfl | hc
    · decide
    · have := h.2.2 c hc
      exact decide_eq_true (by omega)
theorem plain_ws {ws : List W} (ok : ∀ v ∈ ws, wOk v) : ∀ x ∈ ws.map wv, Plain x := fun x hx => by
  obtain ⟨v, hv, rfl⟩ := List.mem_map.mp hx
  exact .inr ⟨_, rfl, ok_enc (ok v hv)⟩
end Kk

set_option maxHeartbeats 2000000
namespace Kk
open PySem PySem.Spec PyProof.Rows L2 Wd
/-! ### tuples of words compared -/
theorem beq_enc {a b : W} (ha : wOk a) (hb : wOk b) : (enc a == enc b) = decide (a = b) := by
  by_cases h : a = b
  · subst h; simp
  · rw [decide_eq_false h]
    exact beq_eq_false_iff_ne.mpr fun e => h (enc_inj ha hb e)
theorem eqv_words : ∀ {ws us : List W}, (∀ v ∈ ws, wOk v) → (∀ v ∈ us, wOk v) → PyData.eqvAll ((ws.map wv).map dV) ((us.map wv).map dV) = decide (ws = us)
  | [], [], _, _ => rfl
  | [], _ :: _, _, _ => rfl
  | _ :: _, [], _, _ => rfl
  | a :: ws, b :: us, h1, h2 => by
    have ih := eqv_words (ws := ws) (us := us) (fun v hv => h1 v (List.mem_cons_of_mem _ hv)) (fun v hv => h2 v (List.mem_cons_of_mem _ hv))
    show (PyData.eqv (.str (enc a)) (.str (enc b)) && PyData.eqvAll ((ws.map wv).map dV) ((us.map wv).map dV)) = _
    rw [ih]
    show ((enc a == enc b) && _) = _
    rw [beq_enc (h1 a (List.mem_cons_self ..)) (h2 b (List.mem_cons_self ..))]
    by_cases e : a = b
    · subst e
      by_cases e2 : ws = us
      · subst e2; simp
      · simp [e2]
    · simp [e]
theorem eqv_tups {ws us : List W} (h1 : ∀ v ∈ ws, wOk v) (h2 : ∀ v ∈ us, wOk v) : PyData.eqv (.tuple ((ws.map wv).map dV)) (.tuple ((us.map wv).map dV)) = decide (ws = us) := by
  show PyData.eqvAll _ _ = _
  exact eqv_words h1 h2
section
variable {K : PySem.W.Frag} {H : Hp} {p q : Addr} {ws us : List W} {Q : VK}
theorem eqD_ws (hp : SqT K H p (ws.map wv)) (hq : SqT K H q (us.map wv)) (h1 : ∀ v ∈ ws, wOk v) (h2 : ∀ v ∈ us, wOk v) (k : Q (.bl (decide (ws = us))) H) : rEqD K (.ref p) (.ref q) H Q := by
  refine ⟨_, _, .tup hp (dp_all (plain_ws h1)), .tup hq (dp_all (plain_ws h2)), shaped_all (plain_ws h1), shaped_all (plain_ws h2), ?_⟩
  rw [eqv_tups h1 h2]
  exact k
theorem neD_ws (hp : SqT K H p (ws.map wv)) (hq : SqT K H q (us.map wv)) (h1 : ∀ v ∈ ws, wOk v) (h2 : ∀ v ∈ us, wOk v) (k : Q (.bl (!decide (ws = us))) H) : rNeD K (.ref p) (.ref q) H Q := by
  refine ⟨_, _, .tup hp (dp_all (plain_ws h1)), .tup hq (dp_all (plain_ws h2)), shaped_all (plain_ws h1), shaped_all (plain_ws h2), ?_⟩
  rw [eqv_tups h1 h2]
  exact k
end
end Kk

set_option maxHeartbeats 4000000
/-! C(), an own exception class whose __init__ is another own class's: def __init__(self): pass -/
namespace Kk
open PySem PySem.Spec PyProof.Rows L2
theorem mk_end00 {X : Cx} {pins : List (Addr × Obj)} {σ : L2.St} {H1 H2 : Hp} {hp hp2 h2 : Heap} {g1 g2 : Array GenState} {d1 d2 : Drawn} {t1 t2 : Nat} {os1 os2 : OsState} {a C : Addr} (I1 : Inv X pins σ H1 ⟨hp, g1, d1, t1, os1⟩)
    (ha : hp.objs.size ≤ a) (k : ∀ b o, hp.get? b = some o → hp2.get? b = some o) (un : Un (frs X.stack) [] (upd H1 a (exo a C none)) H2 hp2 h2) (hok : HOk X.prog X.w H2 h2) (ho : os2 = os1) (hb : AllBare g2)
    (ea : H2 a = some (exo a C none)) :
    ∃ (t0 : Addr) (G : Heap), Inv X pins σ (del H2 a) ⟨G, g2, d2, t2, os2⟩ ∧ (∀ b o, G.get? b = some o → h2.get? b = some o) ∧ G.get? a = none ∧
      h2.get? a = some ({ cls := .ref C, dict := none, data := .fields #[.ref t0, .none, .none, .none, .bool false, .none] } : Obj) := by
  obtain ⟨t0, hoe⟩ := exo_at hok ea
  have hn : H1 a = none := I1.hok.fresh ha
  obtain ⟨G, g1', g2'⟩ := restrict h2 fun b => decide (b ≠ a)
  have gk : ∀ b, b ≠ a → G.get? b = h2.get? b := fun b hb => g1' b (decide_eq_true hb)
  have ge : G.get? a = none := g2' a (by simp)
  have nha : ∀ {b : Addr} {o : Obj}, hp.get? b = some o → b ≠ a := fun {b o} z => Nat.ne_of_lt (Nat.lt_of_lt_of_le (Heap.lt_size z) ha)
  have up : ∀ {b : Addr}, b ≠ a → H1 b = none → upd H1 a (exo a C none) b = none := fun {b} hb n => by rw [upd_ne hb]; exact n
  have U : Un (frs X.stack) [] H1 (del H2 a) hp G := {
    keep := fun b o z n hf hx => by
      rw [gk b (nha z)]
      exact un.keep b o (k b o z) (up (nha z) n) hf hx
    slot := fun b o z n hf hx => by
      rw [gk b (nha z)]
      exact un.slot b o (k b o z) (up (nha z) n) hf hx
    free := fun b o z n hx => by
      rw [del_ne (nha z)]
      exact un.free b o (k b o z) (up (nha z) n) hx
    there := fun b o z hx => by
      rw [gk b (nha z)]
      exact un.there b o (k b o z) hx
    tups := fun b xs z => by
      rw [del_ne (ne_of_none z hn)]
      exact un.tups b xs (by rw [upd_ne (ne_of_none z hn)]; exact z)
    frzs := fun b o v z => by
      rw [del_ne (ne_of_none z hn)]
      exact un.frzs b o v (by rw [upd_ne (ne_of_none z hn)]; exact z)
    tbls := fun b ps z => by
      rw [del_ne (ne_of_none z hn)]
      exact un.tbls b ps (by rw [upd_ne (ne_of_none z hn)]; exact z) }
  have hok3 : HOk X.prog X.w (del H2 a) G := fun b o z => by
    have hba : b ≠ a := fun e => by
      rw [e, del_same] at z
      cases z
    rw [del_ne hba] at z
    have noa : ∀ {c : Addr}, H2 c = some (.own b) → c ≠ a := fun {c} hc => at_ne ea hc exo_own
    exact (hok b o z).stay (fun c v hc y => by
        have hca : c ≠ a := by
          rcases hc with hc | hc
          · rw [hc]
            exact hba
          · exact noa hc
        rw [gk c hca]
        exact y)
      (fun c hc => by rw [del_ne (noa hc)]; exact hc) (fun c xs hc => by rw [del_ne (at_ne ea hc exo_tup)]; exact hc)
  have J : Inv X pins σ (del H2 a) ⟨G, g2, d2, t2, os2⟩ := I1.call' (ch := []) ho U hok3 hb (fun b z => absurd z (by simp))
  refine ⟨t0, G, J, fun b o z => ?_, ge, hoe⟩
  by_cases hba : b = a
  · rw [hba, ge] at z
    cases z
  · exact (gk b hba).symm.trans z
/-- C(), its __init__ keeping sp -/
def tMkO0 (C : Addr) (sp : Sp) : L2.St → Hp → XK → Prop := fun σ H Q => ∀ a, H a = none → sp [.ref a] (upd H a (exo a C none)) (fun v H2 => v = .non ∧ H2 a = some (exo a C none) ∧ Q (.ref C) none (del H2 a)) (fun _ _ _ => False)
theorem pmk_oex0 {X : Cx} {p pos : Pos} {CX : CXT} {x : Str} {C fI : Addr} {k : Nat} {fd : FuncData} {ps : List Str} {sp : Sp} (T : OexC X.K C) (iC : PySem.W.findIn X.K (.ref C) "__init__" = some (some (.ref fI))) (tI : PySem.W.typeIn X.K (.ref fI) = some (.type "function"))
    (F1 : FnOk X.prog X.w X.K X.mg X.base CX k fI fd ps sp) (hr : Room (k + 1) X.A) (hb : Binds X.K fd ps []) (hx : Passes CX X (fun _ _ _ => False)) (hg : Gl X x) (hm : X.mg x = some (.ref C))
    (hdb : (x == ("__debug__" : Str)) = false := by decide) :
    PMk X (.Call (.Name x p) [] [] pos) (tMkO0 C sp) := by
  intro pins s σ H Q I h
  obtain ⟨nm, q, N, bs, bm, sn, sub, ab, col, dd, k0, k1, k2, k3, k5, hC, hbm⟩ := T.cls
  refine wpAny_Call_Name_kw (ld_glob I hg hm ?_ hdb)
  refine PySem.W.callWith_K0 I.kIn T.kC ?_
  show wpAny _ _ (call (.ref C) []) _ _ _
  obtain ⟨hp, g, dr, tk, os⟩ := s
  have hsz : hp.objs.size ≤ hp.objs.size + 1 := Nat.le_succ _
  have hn : H (hp.objs.size + 1) = none := I.hok.fresh hsz
  have hq := h (hp.objs.size + 1) hn
  have kk : ∀ b o, hp.get? b = some o → ((hp.push (PySem.W.kdv_tup [])).push (PySem.HandSPX.excO C hp.objs.size)).get? b = some o := fun b o e => Heap.get?_push_of_some _ (Heap.get?_push_of_some _ e)
  have hget : ((hp.push (PySem.W.kdv_tup [])).push (PySem.HandSPX.excO C hp.objs.size)).get? (hp.objs.size + 1) = some (PySem.HandSPX.excO C hp.objs.size) := by heap_get
  have I2 : Inv X pins σ (upd H (hp.objs.size + 1) (exo (hp.objs.size + 1) C none)) ⟨(hp.push (PySem.W.kdv_tup [])).push (PySem.HandSPX.excO C hp.objs.size), g, dr, tk, os⟩ :=
    I.laid (t' := tk) (a := hp.objs.size + 1) (o := exo (hp.objs.size + 1) C none) (h' := (hp.push (PySem.W.kdv_tup [])).push (PySem.HandSPX.excO C hp.objs.size)) kk hsz (exo_ok hget)
  have r2 : Vals [V.ref (hp.objs.size + 1)] [Value.ref (hp.objs.size + 1)] := .cons rfl .nil
  have hl : ([Value.ref (hp.objs.size + 1)] ++ ([] : List Value)).length = ps.length := by
    have e := F1.len _ _ _ _ hq
    simpa using e
  refine wpAny_call (PySem.HandSPX.call_own F.excBase_ValueError (fun Y => PySem.HandSPX.refsVE_contains Y bm hbm) (I.kIn _ _ hC) (PySem.W.looks_findIn I.kIn iC) (fun self => PySem.W.bind_fn I.kIn self tI) (Nat.zero_le _)
    (codeAny_mono (F1.run _ X.stack _ _ ⟨[Value.ref (hp.objs.size + 1)], []⟩ [Value.ref (hp.objs.size + 1)] _ _ (fun _ _ _ => False) (hr.make C [] []) (I2.env0.make C [] []) (by have := hb { heap := (hp.push (PySem.W.kdv_tup [])).push (PySem.HandSPX.excO C hp.objs.size), gens := g, drawn := dr, toks := tk, os := os } [Value.ref (hp.objs.size + 1)] I2.kIn hl; simpa using this) r2 hq) fun r s' hq' => ?_))
  cases r with
  | error er => exact hx pins σ _ _ er s' I2 hq'
  | ok fl =>
    cases fl with
    | ret u =>
      obtain ⟨v, H2, os2, bare2, un2, hok2, rv, ev, ea, q2⟩ := hq'
      subst ev
      obtain ⟨h2, g2, d2, t2, os'⟩ := s'
      obtain ⟨t0, G, J, kG, ge, hoe⟩ := mk_end00 (d2 := d2) (t2 := t2) I hsz kk un2 hok2 os2 bare2 ea
      exact ⟨rv, _, _, _, ⟨G, g2, d2, t2, os'⟩, _, .ref C, none, rfl, J, kG, ge, hoe, ⟨rfl, rfl⟩, rfl, rfl, del_same, rfl, bare2, raises_own T.exC T.tyC, q2⟩
    | next => exact False.elim hq'
    | brk => exact False.elim hq'
    | cont => exact False.elim hq'
end Kk

set_option maxHeartbeats 4000000
namespace Kk
open PySem PySem.Spec PyProof.Rows L2
/-- as rSetLT, and how many there are at most -/
def rSetLTc (K : PySem.W.Frag) (P : Program) (w : World) : List V → Hp → VK → Prop := fun vs H Q => ∃ (l : Addr) (xs : List Str), vs = [.ref l] ∧ (SqL K H l (xs.map V.str) ∨ SqT K H l (xs.map V.str)) ∧ xs.length ≤ 4000 ∧
  ∀ H' a c, Same H H' → H a = none → H' a = some (SetK P w a (fun k => xs.any fun x => decide (k = Sum.inr x)) c) → c ≤ xs.length → Q (.ref a) H'
theorem call_setLTc {X : Cx} (hc : X.calm = true) : CallR X (.type "set") (rSetLTc X.K X.prog X.w) := by
  intro pins s σ H vs us Q I r h
  obtain ⟨l, xs, e, hl, hn, q⟩ := h
  subst e
  rw [Vals.ref1 r]
  have fresh : H s.heap.objs.size = none := I.hok.fresh (Nat.le_refl _)
  rcases hl with hl | hl
  · obtain ⟨its, rv, pl, hz⟩ := I.list hl
    refine call_set_texts (xs := xs) (I.ok.hd hc) pl.isList (by simpa using Vals.strs rv) (by unfold scanBound; omega) fun h' tk U k => ?_
    obtain ⟨c, hcn, U⟩ := U
    rw [List.take_length] at U
    exact ⟨.ref s.heap.objs.size, _, I.laid (t' := tk) k (Nat.le_refl _) (setK_new U), rfl, q _ _ c (same_upd fresh) fresh upd_same hcn.1⟩
  · obtain ⟨its, rv, pl, hz⟩ := I.tuple hl
    refine call_set_textsT (xs := xs) (I.ok.hd hc) pl (by simpa using Vals.strs rv) (by unfold scanBound; omega) fun h' tk U k => ?_
    obtain ⟨c, hcn, U⟩ := U
    rw [List.take_length] at U
    exact ⟨.ref s.heap.objs.size, _, I.laid (t' := tk) k (Nat.le_refl _) (setK_new U), rfl, q _ _ c (same_upd fresh) fresh upd_same hcn.1⟩
/-! ### defs that may raise -/
structure CalX (P : Program) (w : World) (K : PySem.W.Frag) (mg : Str → Option Value) (base : Heap) (x : Str) (k : Nat) (ps : List Str) (sp : Sp) : Prop where
  ex : ∃ f fd, mg x = some (.ref f) ∧ PySem.W.keepIn K (.ref f) = true ∧ Binds K fd ps [] ∧ FnOk P w K mg base (L2.CX P w) k f fd ps sp
section
variable {P : Program} {w : World} {K : PySem.W.Frag} {mg : Str → Option Value} {base : Heap}
theorem cal_ofX {x : Str} {st : Stmt} {N ps : List Str} {k : Nat} {sp : Sp} (D : DefAt K mg x st) (S : FnScope N ps (defScope st))
    (hb : ∀ (kV doc pm : Value) (an : Option Addr) (cdv ct : Value) (us : List Value), us.length = ps.length → bindArgs (PySem.W.fnOf x x (defArgs st) (defBody st) (defScope st) .none kV doc pm an cdv ct) ⟨us, []⟩ = pure (ps.zip us))
    (len : ∀ vs H Q E, sp vs H Q E → vs.length = ps.length)
    (hbody : ∀ (f : Addr) (cdv : Value) (A : Around) (outer : List Env) (s : Shared) (H : Hp) (vs : List V) (Q : VK) (E : XK), Room k (A.deeper (envOfC x (defScope st) s.heap.objs.size f cdv)) → sp vs H Q E →
      ∃ t, PSs (cxOf (L2.CX P w) P w K mg base N x (defScope st) f cdv A outer s H E) (defBody st) t ∧ t { nx := fun _ H' => Q .non H', rt := Q } (start N vs) H) : CalX P w K mg base x (k + 1) ps sp := by
  obtain ⟨f, fd, F, m⟩ := D
  exact ⟨f, fd, m, F.kp, F.binds hb, F.okX S len fun cdv A outer s H vs Q E hr h => hbody f cdv A outer s H vs Q E hr h⟩
end
section
variable {X : Cx} {e : Expr} {es : List Expr} {t : TA} {x : Str} {k : Nat} {ps : List Str} {sp : Sp} {p pos : Pos}
/-- called where nothing is raised -/
theorem pe_cX (C : CalX X.prog X.w X.K X.mg X.base x k ps sp) (hr : Room k X.A) (ha : PA X (e :: es) t) (hg : Gl X x := by rfl) (hdb : (x == ("__debug__" : Str)) = false := by decide)
    (he : starEach (e :: es) X.env = (false, eval e X.env) :: starEach es X.env := by rfl) (hpl : (backTo pos (starEach es X.env)).any (·.1) = false := by rfl) :
    PE X (.Call (.Name x p) (e :: es) [] pos) (tCall sp [] E0 t) := by
  obtain ⟨f, fd, hm, hk, hb, F⟩ := C
  exact pe_call F hr hg hm hk hb .nil passL ha hdb he hpl
/-- called in a try -/
theorem pe_cT {W : WX} (C : CalX X.prog X.w X.K X.mg X.base x k ps sp) (hr : Room k X.A) (tk : Takes X W) (ha : PA X (e :: es) t) (hg : Gl X x := by rfl) (hdb : (x == ("__debug__" : Str)) = false := by decide)
    (he : starEach (e :: es) X.env = (false, eval e X.env) :: starEach es X.env := by rfl) (hpl : (backTo pos (starEach es X.env)).any (·.1) = false := by rfl) :
    PE X (.Call (.Name x p) (e :: es) [] pos) (tCallS sp (WE W) t) := by
  obtain ⟨f, fd, hm, hk, hb, F⟩ := C
  exact pe_callS F hr hg hm hk hb (fun σ => passAt tk σ) ha hdb he hpl
end
/-! ### in a try: readings that name K itself -/
theorem pe_isiK {X : Cx} {K : PySem.W.Frag} {e : Expr} {es : List Expr} {t : TA} {p pos : Pos} (hK : X.K = K) (hm : X.mg "isinstance" = none) (ha : PA X (e :: es) t) (hg : Gl X "isinstance" := by rfl)
    (he : starEach (e :: es) X.env = (false, eval e X.env) :: starEach es X.env := by rfl) (hpl : (backTo pos (starEach es X.env)).any (·.1) = false := by rfl) :
    PE X (.Call (.Name "isinstance" p) (e :: es) [] pos) (tCB (rIsi K) t) := by
  subst hK
  exact pe_callB call_isi hg hm (by decide +kernel) ha (he := he) (hpl := hpl)
theorem pe_fldK {X : Cx} {K : PySem.W.Frag} {e : Expr} {f : Str} {t : TE} {pos : Pos} (hK : X.K = K) (he : PE X e t) (hb : attributeBase e f X.env (eval e X.env) = eval e X.env) : PE X (.Attribute e f pos) (tFld K t f) := by
  subst hK
  exact pe_fld he hb
/-! ### errors without fields -/
def spPass : Sp := fun vs H Q _ => ∃ a : Addr, vs = [.ref a] ∧ Q .non H
abbrev s_kinit : Stmt := (inClass (top 8) 0)
theorem sc_kinit : FnScope ["self"] ["self"] (defScope s_kinit) := ⟨rfl, rfl, rfl, by decide +kernel, rfl, by decide +kernel, by decide +kernel⟩
theorem c_kinit {P w K mg base} {f : Addr} {fd : FuncData} (F : Fun K "__init__" "KindError.__init__" s_kinit f fd) : FnOk P w K mg base CX0 1 f fd ["self"] spPass := by
  refine F.ok sc_kinit (fun vs H Q E h => ?_) (fun cdv A outer st0 H vs Q E hr h => ?_)
  · obtain ⟨a, rfl, _⟩ := h
    rfl
  · obtain ⟨a, rfl, k⟩ := h
    exact ⟨_, (pss_one ps_pass), k⟩
/-- the class x at C, an error whose __init__ is KindError's -/
structure ExcAt (P : Program) (w : World) (K : PySem.W.Frag) (mg : Str → Option Value) (base : Heap) (x : Str) (C : Addr) : Prop where
  o : OexC K C
  g : mg x = some (.ref C)
  m : PySem.W.exmOne K (.ref C) (.ref C) = some true
  i : ∃ fI fd, PySem.W.findIn K (.ref C) "__init__" = some (some (.ref fI)) ∧ PySem.W.typeIn K (.ref fI) = some (.type "function") ∧ Binds K fd ["self"] [] ∧ FnOk P w K mg base CX0 1 fI fd ["self"] spPass
/-- what the text says of such a class -/
structure ExD (K : PySem.W.Frag) (mg : Str → Option Value) (x : Str) (C fk : Addr) : Prop where
  o : OexC K C
  g : mg x = some (.ref C)
  m : PySem.W.exmOne K (.ref C) (.ref C) = some true
  i : PySem.W.findIn K (.ref C) "__init__" = some (some (.ref fk))
  t : PySem.W.typeIn K (.ref fk) = some (.type "function")
theorem exm_ofE {K : PySem.W.Frag} {C : Addr} (b : PySem.W.subIn K (.ref C) (.type "BaseException") = some true) (i : PySem.W.isClsIn K C = true) (t : PySem.W.typeIn K (.ref C) = some (.type "type")) (s : PySem.W.subIn K (.ref C) (.ref C) = some true) : PySem.W.exmOne K (.ref C) (.ref C) = some true := by
  unfold PySem.W.exmOne PySem.W.kitCls
  have i' : (PySem.W.clsIn K C).isSome = true := i
  rw [b]
  show (if ((PySem.W.clsIn K C).isSome && PySem.W.typeIn K (.ref C) == some (.type "type")) = true then PySem.W.subIn K (.ref C) (.ref C) else none) = some true
  rw [t, i', s]
  decide +kernel
theorem exD_mk {K : PySem.W.Frag} {mg : Str → Option Value} {x : Str} {C fk : Addr} {nm q : Str} {N : Addr} {bs bm : List Value} {sn sub ab col dd k0 k1 k2 k3 k5} (g : mg x = some (.ref C)) (i : PySem.W.findIn K (.ref C) "__init__" = some (some (.ref fk)))
    (l : K.lookup C = some (excClassObj nm q C N bs bm true sn sub ab col dd k0 k1 k2 k3 k5 "ValueError.__new__")) (r : PySem.HandSPX.refsVE bm = true) (sa : PySem.W.findIn K (.ref C) "__setattr__" = some (some (.builtin "object.__setattr__")))
    (ex : PySem.W.subIn K (.ref C) (.type "BaseException") = some true) (ty : PySem.W.typeIn K (.ref C) = some (.type "type")) (kC : PySem.W.keepIn K (.ref C) = true) (m1 : PySem.W.isClsIn K C = true) (m : PySem.W.subIn K (.ref C) (.ref C) = some true) (t : PySem.W.typeIn K (.ref fk) = some (.type "function")) : ExD K mg x C fk :=
  ⟨⟨⟨nm, q, N, bs, bm, sn, sub, ab, col, dd, k0, k1, k2, k3, k5, l, r⟩, sa, ex, ty, kC⟩, g, exm_ofE ex m1 ty m, i, t⟩
theorem ExD.at {P : Program} {w : World} {K : PySem.W.Frag} {mg : Str → Option Value} {base : Heap} {x : Str} {C fk : Addr} {fdk : FuncData} (h : ExD K mg x C fk) (F : Fun K "__init__" "KindError.__init__" s_kinit fk fdk) : ExcAt P w K mg base x C :=
  ⟨h.o, h.g, h.m, fk, fdk, h.i, h.t, F.binds (ps := ["self"]) (fun _ _ _ _ _ _ us hl => match us, hl with | [_], _ => rfl), c_kinit F⟩
theorem del_upd {H : Hp} {a : Addr} {o : HO} (h : H a = none) : del (upd H a o) a = H := by
  funext b
  by_cases e : b = a
  · subst e; rw [del_same, h]
  · rw [del_ne e, upd_ne e]
theorem pmk_x {X : Cx} {x : Str} {C : Addr} {p pos : Pos} (EX : ExcAt X.prog X.w X.K X.mg X.base x C) (hr : Room 2 X.A) (hg : Gl X x := by rfl) (hdb : (x == ("__debug__" : Str)) = false := by decide) :
    PMk X (.Call (.Name x p) [] [] pos) (fun _ H Q => Q (.ref C) none H) := by
  obtain ⟨T, gC, _, fI, fd, iC, tI, hb, F⟩ := EX
  intro pins s σ H Q I h
  refine pmk_oex0 T iC tI F hr hb pass0 hg gC hdb pins s σ H Q I fun a ha => ⟨a, rfl, rfl, upd_same, ?_⟩
  rw [del_upd ha]
  exact h
end Kk

set_option maxHeartbeats 4000000
/-! own errors with one field: made, raised, and read where they are caught -/
namespace Kk
open PySem PySem.Spec PyProof.Rows L2
/-- what is asked of the class at C, its one field f -/
structure ExF (K : PySem.W.Frag) (mg : Str → Option Value) (x f : Str) (C : Addr) : Prop where
  o : OexC K C
  g : mg x = some (.ref C)
  m : PySem.W.exmOne K (.ref C) (.ref C) = some true
  ga : PySem.W.findIn K (.ref C) "__getattribute__" = some (some (.builtin "BaseException.__getattribute__"))
  gg : PySem.W.findIn K (.ref C) "__getattr__" = some none
  nf : PySem.W.findIn K (.ref C) f = some none
  hd : PySem.W.hasDictIn K C = true
theorem exf_mk {K : PySem.W.Frag} {mg : Str → Option Value} {x f : Str} {C : Addr} {nm q : Str} {N : Addr} {bs bm : List Value} {sn sub ab col dd k0 k1 k2 k3 k5} (g : mg x = some (.ref C))
    (l : K.lookup C = some (excClassObj nm q C N bs bm true sn sub ab col dd k0 k1 k2 k3 k5 "ValueError.__new__")) (r : PySem.HandSPX.refsVE bm = true) (sa : PySem.W.findIn K (.ref C) "__setattr__" = some (some (.builtin "object.__setattr__")))
    (ex : PySem.W.subIn K (.ref C) (.type "BaseException") = some true) (ty : PySem.W.typeIn K (.ref C) = some (.type "type")) (kC : PySem.W.keepIn K (.ref C) = true) (m1 : PySem.W.isClsIn K C = true) (m : PySem.W.subIn K (.ref C) (.ref C) = some true)
    (ga : PySem.W.findIn K (.ref C) "__getattribute__" = some (some (.builtin "BaseException.__getattribute__"))) (gg : PySem.W.findIn K (.ref C) "__getattr__" = some none) (nf : PySem.W.findIn K (.ref C) f = some none) (hd : PySem.W.hasDictIn K C = true) : ExF K mg x f C :=
  ⟨⟨⟨nm, q, N, bs, bm, sn, sub, ab, col, dd, k0, k1, k2, k3, k5, l, r⟩, sa, ex, ty, kC⟩, g, by
    unfold PySem.W.exmOne PySem.W.kitCls
    have i' : (PySem.W.clsIn K C).isSome = true := m1
    rw [ex]
    show (if ((PySem.W.clsIn K C).isSome && PySem.W.typeIn K (.ref C) == some (.type "type")) = true then PySem.W.subIn K (.ref C) (.ref C) else none) = some true
    rw [ty, i', m]
    decide +kernel, ga, gg, nf, hd⟩
/-- e.f, e the error that the suite holds -/
def tExF (C : Addr) (f : Str) (a : Addr) (cls : Value) (d : Option Addr) (te : TE) : TE := fun σ H Q => te σ H fun x H1 => x = .ref a ∧ cls = .ref C ∧ ∃ (dd : Addr) (v : V), d = some dd ∧ H1 dd = some (.xd [(f, v)]) ∧ Q v H1
theorem pe_exF {X : Cx} {C a : Addr} {x f : Str} {oe : Obj} {cls : Value} {d : Option Addr} {pn : List (Addr × Obj)} {e : Expr} {te : TE} {pos : Pos} (T : ExF X.K X.mg x f C) (hz : Zc cls d oe) (hf : ∃ vs, oe.data = .fields vs) (he : PE (X.suite a ((a, oe) :: pn)) e te)
    (hb : attributeBase e f X.env (eval e X.env) = eval e X.env := by rfl) :
    PE (X.suite a ((a, oe) :: pn)) (.Attribute e f pos) (tExF C f a cls d te) := by
  refine ⟨fun pins s σ H Q I h => ?_⟩
  refine attr_of hb (thn (he.run pins s σ H _ I h) fun u s1 hh => ?_)
  obtain ⟨y, H1, I1, ry, ey, ec, dd, v, ed, ea, q⟩ := hh
  subst ey
  obtain rfl : u = Value.ref a := ry
  subst ec
  subst ed
  obtain ⟨ha, _⟩ := I1.pin (a, oe) (List.mem_append_left _ List.mem_cons_self)
  obtain ⟨vs, hd⟩ := hf
  have hx : ObjOk X.prog X.w H1 s1.heap dd (.xd [(f, v)]) := I1.hok dd _ ea
  obtain ⟨mA, hns, hr⟩ := hx
  obtain ⟨od, ho, hl⟩ := lookIn_ns hns
  have l : List.lookup f [(f, v)] = some v := by simp [List.lookup]
  obtain ⟨u, hu, ru⟩ := RelO.some_of (v := v) (o := mA f) (by rw [← l]; exact hr f)
  have J : PySem.W.InstAt s1.heap a oe C (some od) := ⟨ha, hz.1, by unfold PySem.W.notCls; rw [hd] <;> rfl, by rw [hz.2]; exact ho⟩
  exact HandSPX.exc_get I1.kIn J T.ga T.gg T.o.exC (PySem.W.findObj_own T.hd T.nf rfl (by rw [hl, hu])) (handed_of ru) ⟨v, H1, I1.tok _, ru, q⟩
/-- an __init__ that keeps its one argument as the field f -/
def spExI (f : Str) (C : Addr) : Sp := fun vs H Q _ => ∃ (a : Addr) (v : V), vs = [.ref a, v] ∧ H a = some (exo a C none) ∧ ∀ dx, H dx = none → dx ≠ a → Q .non (upd (upd H dx (exd dx [(f, v)])) a (exo a C (some dx)))
theorem end_heap {H : Hp} {a dx : Addr} {o1 o2 o3 o4 : HO} (h : H a = none) (n : dx ≠ a) : upd (del (upd (upd (upd H a o1) dx o2) a o3) a) dx o4 = upd H dx o4 := by
  funext b
  by_cases e : b = dx
  · subst e; rw [upd_same, upd_same]
  · rw [upd_ne e, upd_ne e]
    by_cases ea : b = a
    · subst ea; rw [del_same, h]
    · rw [del_ne ea, upd_ne ea, upd_ne e, upd_ne ea]
/-- the class can be made with its field -/
structure ExFAt (P : Program) (w : World) (K : PySem.W.Frag) (mg : Str → Option Value) (base : Heap) (x f : Str) (C : Addr) : Prop where
  t : ExF K mg x f C
  i : ∃ fI fd, PySem.W.findIn K (.ref C) "__init__" = some (some (.ref fI)) ∧ PySem.W.typeIn K (.ref fI) = some (.type "function") ∧ Binds K fd ["self", f] [] ∧ FnOk P w K mg base CX0 1 fI fd ["self", f] (spExI f C)
theorem pmk_F {X : Cx} {x f : Str} {C : Addr} {e : Expr} {ta : TA} {p pos : Pos} (EX : ExFAt X.prog X.w X.K X.mg X.base x f C) (hr : Room 2 X.A) (ha : PA X [e] ta) (hg : Gl X x := by rfl) (hdb : (x == ("__debug__" : Str)) = false := by decide)
    (he : starEach [e] X.env = (false, eval e X.env) :: starEach [] X.env := by rfl) (hpl : (backTo pos (starEach [] X.env)).any (·.1) = false := by rfl) :
    PMk X (.Call (.Name x p) [e] [] pos) (tMkO C (spExI f C) [] ta) := by
  obtain ⟨T, fI, fd, iC, tI, hb, F⟩ := EX
  exact pmk_oex (dvs := []) T.o iC tI F hr hb .nil pass0 hg T.g ha hdb he hpl
theorem mkF_of {f : Str} {C : Addr} {v : V} {H1 : Hp} {Q : XK} (k : ∀ dx, H1 dx = none → Q (.ref C) (some dx) (upd H1 dx (.xd [(f, v)]))) :
    [v].length ≤ 1000 ∧ ∀ a, H1 a = none → spExI f C (.ref a :: ([v] ++ [])) (upd H1 a (exo a C none))
      (fun v' H2 => v' = .non ∧ ∃ (d : Addr) (fs : List (Str × V)), H2 a = some (exo a C (some d)) ∧ H2 d = some (exd d fs) ∧ H1 d = none ∧ Q (.ref C) (some d) (upd (del H2 a) d (.xd fs))) (fun _ _ _ => False) := by
  refine ⟨by show 1 ≤ 1000; decide, fun a na => ⟨a, v, rfl, upd_same, fun dx nd ne => ⟨rfl, dx, [(f, v)], upd_same, ?_, ?_, ?_⟩⟩⟩
  · rw [upd_ne ne, upd_same]
  · rw [upd_ne ne] at nd; exact nd
  · rw [end_heap na ne]
    exact k dx (by rw [upd_ne ne] at nd; exact nd)
end Kk
namespace Kk
open PySem PySem.Spec PyProof.Rows L2
/-! ### an instance made in a try -/
def tMakeE (C : Addr) (sp : Sp) (E : L2.St → XK) (t : TA) : TE := fun σ H Q => t σ H fun vs H1 => ∀ x dx, H1 x = none → H1 dx = none → dx ≠ x → sp (.ref x :: vs) (upd (upd H1 dx (.own x)) x (.ins C dx [])) (fun v H2 => v = .non ∧ Q (.ref x) H2) (E σ)
section
variable {X : Cx} {CX : CXT} {k : Nat} {f C : Addr} {fd : FuncData} {ps : List Str} {sp : Sp} {E : XK} {x : Str} {p pos : Pos} {e : Expr} {es : List Expr} {t : TA}
theorem run_makeS {pins : List (Addr × Obj)} {σ : L2.St} {H : Hp} {s : Shared} {Q : VK} {us : List Value} {vs : List V} (M : Mk X.K C f) (F : FnOk X.prog X.w X.K X.mg X.base CX k f fd ps sp) (hr : Room (k + 1) X.A) (hb : Binds X.K fd ps [])
    (hx : PassesAt CX X σ E) (I : Inv X pins σ H s) (r : Vals vs us)
    (h : ∀ x dx, H x = none → H dx = none → dx ≠ x → sp (.ref x :: vs) (upd (upd H dx (.own x)) x (.ins C dx [])) (fun v H2 => v = .non ∧ Q (.ref x) H2) E) :
    wpAny (model X.prog X.w) X.A (call (.ref C) us) (EP X pins σ Q) X.xe s := by
  have hq := h (s.heap.objs.size + 1) s.heap.objs.size (I.hok.fresh (Nat.le_succ _)) (I.hok.fresh (Nat.le_refl _)) (Nat.ne_of_lt (Nat.lt_succ_self _))
  have I2 := Inv.made (C := C) I
  have r2 : Vals (V.ref (s.heap.objs.size + 1) :: vs) (Value.ref (s.heap.objs.size + 1) :: us) := .cons rfl r
  have hl : (Value.ref (s.heap.objs.size + 1) :: us).length = ps.length := by
    have e := r2.length
    rw [F.len _ _ _ _ hq] at e
    exact e.symm
  refine wpAny_call (make_map (f := f) I.kIn M.makes M.init (beq_iff_eq.mp M.fn) (codeAny_mono (F.run _ X.stack _ _ ⟨Value.ref (s.heap.objs.size + 1) :: us, []⟩ (Value.ref (s.heap.objs.size + 1) :: us) _ _ E (hr.make C us [])
    (I2.env0.make C us []) (by
      have := hb _ (Value.ref (s.heap.objs.size + 1) :: us) I2.kIn (by rw [List.append_nil]; exact hl)
      rwa [List.append_nil] at this) r2 hq) fun r s' hq' => ?_))
  cases r with
  | error e => exact hx pins _ _ e s' I2 hq'
  | ok fl =>
    cases fl with
    | ret u =>
      obtain ⟨v, H', I3, rv, ev, q3⟩ := I2.after hq'
      subst ev
      exact ⟨rv, ⟨V.ref (s.heap.objs.size + 1), H', I3, rfl, q3⟩⟩
    | next => exact False.elim hq'
    | brk => exact False.elim hq'
    | cont => exact False.elim hq'
theorem pe_mkE {W : WX} (M : Mk X.K C f) (F : FnOk X.prog X.w X.K X.mg X.base (L2.CX X.prog X.w) k f fd ps sp) (hr : Room (k + 1) X.A) (hm : X.mg x = some (.ref C)) (hb : Binds X.K fd ps []) (tk : Takes X W)
    (ha : PA X (e :: es) t) (hg : Gl X x := by rfl) (hdb : (x == ("__debug__" : Str)) = false := by decide) (he : starEach (e :: es) X.env = (false, eval e X.env) :: starEach es X.env := by rfl) (hpl : (backTo pos (starEach es X.env)).any (·.1) = false := by rfl) :
    PE X (.Call (.Name x p) (e :: es) [] pos) (tMakeE C sp (WE W) t) := by
  refine ⟨fun pins s σ H Q I h => ?_⟩
  refine wpAny_Call_Name_kw (ld_glob I hg hm ?_ hdb)
  refine PySem.W.callWith_K (h₀ := X.base) I.ok.mod.kin M.kp (thn (ha.run pos pins s σ H _ I h) fun us s1 ⟨vs, H1, I1, r, q⟩ => ⟨I1.kIn, ?_⟩) he hpl
  exact run_makeS (E := WE W σ) M F hr hb (passAt tk σ) I1 r q
end
end Kk

set_option maxHeartbeats 4000000
/-! what the laws of steps ask -/
namespace Kk
open PySem PySem.Spec PyProof.Rows L2 Wd
section
variable {P : Program} {w : World} {K : PySem.W.Frag} {mg : Str → Option Value} {base : Heap}
/-- something nested deeply -/
def spDeep : Sp := fun vs H Q _ => vs = [] ∧ ∀ H' a xs, Same H H' → TupF H' a xs → (xs.length ≤ 1 ∧ ∀ x ∈ xs, ∃ b ys, x = .ref b ∧ TupF H' b ys) → Q (.ref a) H'
abbrev s_deep : Stmt := (top 41)
theorem sc_deep : FnScope ["_law_thing_here", "_law_turn"] [] (defScope s_deep) := ⟨rfl, rfl, rfl, by decide +kernel, rfl, by decide +kernel, by decide +kernel⟩
theorem c_deep (B : Bt mg) (D : DefAt K mg "_law_deep" s_deep) : Cal P w K mg base "_law_deep" 1 [] spDeep := by
  refine cal_of D sc_deep (fun _ _ _ _ _ _ us hl => match us, hl with | [], _ => rfl) (fun vs H Q E h => ?_) (fun fa cdv A outer st0 H vs Q E hr h => ?_)
  · obtain ⟨rfl, _⟩ := h
    rfl
  · obtain ⟨rfl, k⟩ := h
    refine ⟨_, (pss_cons (ps_set (i := 0) sc_deep.nd rfl (by first | exact Or.inl rfl | exact Or.inr rfl) (pe_tupF pa_nil))
      (pss_cons (ps_for PassesOwn.never rfl (pi_range1 (by rfl) B.b_range (pa_cons pe_int pa_nil)) (pg_name (i := 1) sc_deep.nd rfl (by first | exact Or.inl rfl | exact Or.inr rfl)) (pss_one (ps_set (i := 0) sc_deep.nd rfl (by first | exact Or.inl rfl | exact Or.inr rfl) (pe_tupF (pa_cons (pv 0) pa_nil)))))
      (pss_one (ps_ret (pv 0))))), ?_⟩
    refine ⟨Nat.zero_le _, fun r o nr ho => ?_⟩
    have S1 := same_upd (o := HO.frz o (.tup [])) nr
    have T1 : TupF (upd H r (.frz o (.tup []))) r ([] : List V) := TupF.new ho
    generalize upd H r (.frz o (.tup [])) = H1 at *
    refine ⟨_, rfl, by decide, by decide, for_range (lo := 0) (n := (36 : Int).toNat) (fun i σ H' => ∃ (t : Addr) (xs : List V) (v : Option V), σ = [some (.ref t), v] ∧ Same H H' ∧ TupF H' t xs ∧ (xs.length ≤ 1 ∧ ∀ x ∈ xs, ∃ b ys, x = .ref b ∧ TupF H' b ys)) ⟨r, [], none, rfl, S1, T1, Nat.zero_le _, fun _ h => nomatch h⟩ ?_ ?_⟩
    · rintro i σ H2 hi ⟨t, xs, v, rfl, S2, T2, _⟩
      refine ⟨_, rfl, (by show 1 ≤ sizeLine; decide), fun r2 o2 n2 d2 => ?_⟩
      exact ⟨r2, _, _, rfl, S2.trans (same_upd n2), TupF.new d2, Nat.le_refl 1, fun x hx => ⟨t, xs, List.mem_singleton.mp hx, T2.same (same_upd n2)⟩⟩
    · rintro σ H2 ⟨t, xs, v, rfl, S2, T2, N2⟩
      exact ⟨_, rfl, k H2 t xs S2 T2 N2⟩
/-- told as it is due -/
def spNumbersR (K : PySem.W.Frag) : Sp := fun vs H Q _ => ∃ (t d : Addr) (ns : List Nat), vs = [.ref t, .ref d] ∧ TupF H t (ns.map nv) ∧ H d = some (.lst (ns.map nv)) ∧ ns.length ≤ 4000 ∧ ∀ H', Same H H' → Q (.bl true) H'
/-- told as it is due, a tuple -/
def spNumbersT (K : PySem.W.Frag) : Sp := fun vs H Q _ => ∃ (t d : Addr) (ns : List Nat), vs = [.ref t, .ref d] ∧ TupF H t (ns.map nv) ∧ TupF H d (ns.map nv) ∧ ns.length ≤ 4000 ∧ ∀ H', Same H H' → Q (.bl true) H'
theorem kit_selfP {C : Addr} : PySem.W.kitOne K (.ref C) (.ref C) = some true := by
  unfold PySem.W.kitOne
  rw [if_pos (by simp)]
/-- the words are those that are due -/
def spIsWords (K : PySem.W.Frag) (C : Addr) : Sp := fun vs H Q _ => ∃ (x a b : Addr) (ws : List W), vs = [.ref x, .ref b] ∧ Pg C H x a ∧ TupF H a (ws.map wv) ∧ TupF H b (ws.map wv) ∧ (∀ v ∈ ws, wOk v) ∧ ws.length ≤ 4000 ∧ Q (.bl true) H
end
end Kk

set_option maxHeartbeats 2000000
/-! a list extended by a tuple -/
namespace Kk
open PySem PySem.Spec PyProof.Rows L2
theorem meets_extendT (l : Addr) (items : Array Value) (n : Nat) (b : Addr) (items2 : Array Value) (n2 : Nat) (dd : Option Addr) (sl : Array (Option Value)) (hs0 : ¬(!items.isEmpty && Builtin.List.listTooLong (items.size + items2.size)) = true) (hs1 : items.size ≤ sizeLine) (hs2 : items.size + items2.size ≤ sizeLine + 1 := by seq_fits) :
    Meets (Builtin.«list.extend» ⟨[.ref l, .ref b], []⟩) (fun _ R s => s.heap.get? l = some { cls := .type "list", dict := none, data := .seq items n, slots := #[] } ∧ s.heap.get? b = some { cls := .type "tuple", dict := dd, data := .seq items2 n2, slots := sl } ∧ R (.ok (.ret Value.none)) { s with heap := s.heap.update l (Obj.mapSeq fun x => x ++ items2), toks := s.toks }) :=
  .of_wp fun prog w A R s h => by
    obtain ⟨hp, g, d, tk, os⟩ := s; obtain ⟨hl, hb, h⟩ := h; have f1 := AutoSeq1.idx_int; have f2 := AutoSeq1.sub_tuple_tuple; have f3 := AutoSeq1.sub_list_list; have f4 := AutoSeq1.sub_tuple_list; have f5 := AutoSeq1.sub_list_tuple;
    have hz' : (items ++ items2).size ≤ sizeLine + 1 := by rw [Array.size_append]; exact hs2
    wp_walk using (wpAny_updateSeq hl rfl (hz := hs1) (_hz' := hz')), AutoSeq1.wpAny_loadPart' hl, AutoSeq1.wpAny_loadPart' hb; exact ⟨_, rfl, h⟩
section
variable {X : Cx}
def rExtendT (K : PySem.W.Frag) : V → List V → Hp → VK → Prop := fun x vs H Q => ∃ l b xs zs, x = .ref l ∧ vs = [.ref b] ∧ H l = some (.lst xs) ∧ SqT K H b zs ∧ xs.length + zs.length ≤ sizeLine ∧ Q .non (upd H l (.lst (xs ++ zs)))
theorem mt_extendT : MtM X "list.extend" (rExtendT X.K) := by
  intro pins s σ H x vs v us Q I rx rv h
  obtain ⟨l, b, xs, zs, rfl, rfl, hH, hB, hz, q⟩ := h
  cases rx
  obtain ⟨u, rfl, ru⟩ := rv.one
  cases ru
  obtain ⟨z, its, n, r, hl, e⟩ := I.lstM hH
  obtain ⟨its2, r2, pl, hz2⟩ := I.tuple hB
  obtain ⟨⟨cls, dd, dt, sl⟩, e2, hc, n2, hd⟩ := pl
  simp only at hc hd
  subst hc
  subst hd
  have l2 : its2.length = zs.length := r2.length.symm
  have hsz : its.toArray.size + its2.toArray.size ≤ sizeLine := by rw [List.size_toArray, List.size_toArray]; omega
  have hlong : ¬ (!its.toArray.isEmpty && Builtin.List.listTooLong (its.toArray.size + its2.toArray.size)) = true := by
    rw [notLongL hsz, Bool.and_false]
    exact Bool.false_ne_true
  refine call_meets F.slot_list_extend ⟨_, e, rfl⟩ F.entry_list_extend (F.args_list_extend_2 _ _)
    (meets_extendT l its.toArray n b its2.toArray n2 dd sl hlong (by rw [List.size_toArray]; omega) (by omega)) ⟨e, e2, ?_⟩
  refine ⟨.non, _, I.lset (its' := its ++ its2) hH e (by simp) (r.append r2) ?_, rfl, q⟩
  rw [List.length_append]
  omega
end
end Kk

set_option maxHeartbeats 2000000
/-! walks over dicts -/
namespace Kk
open PySem PySem.Spec PyProof.Rows L2
section
variable {d : Addr} {od : Obj} {kvs : List (Key × V)}
/-- for k in d -/
theorem for_keysK {g : TG} {tb : TS} {D : Ends} {σ : L2.St} {H : Hp} (Pv : Nat → L2.St → Hp → Prop) (h0 : Pv 0 σ H) (hl : ∀ i σ H, i ≤ kvs.length → Pv i σ H → H d = some (.frz od (.dK kvs)))
    (hs : ∀ i k v σ H, kvs[i]? = some (k, v) → Pv i σ H → g (kV k) σ H fun σ2 H2 => tb { D with nx := Pv (i + 1), ct := Pv (i + 1), bk := D.nx } σ2 H2) (hd : ∀ σ H, Pv kvs.length σ H → D.nx σ H) :
    ∃ W : Nat → Nat → L2.St → Hp → Prop, (∃ m, W 0 m σ H) ∧ ∀ i m σ H, W i m σ H →
      ((Itk d od kvs).stop i H ∧ D.nx σ H) ∨ ((Itk d od kvs).go i H ∧ ∃ N : L2.St → Hp → Prop, (∀ σ' H', N σ' H' → ∃ m', m' < m ∧ W (i + 1) m' σ' H') ∧ ∀ x H', (Itk d od kvs).yld i H x H' → g x σ H' fun σ2 H2 => tb { D with nx := N, ct := N, bk := D.nx } σ2 H2) := by
  refine ⟨fun i m σ H => m = kvs.length - i ∧ i ≤ kvs.length ∧ Pv i σ H, ⟨kvs.length, by simp, Nat.zero_le _, h0⟩, ?_⟩
  rintro i m σ H ⟨rfl, hi, p⟩
  have q := hl i σ H hi p
  by_cases hlt : i < kvs.length
  · refine .inr ⟨⟨q, hlt⟩, Pv (i + 1), fun σ' H' p' => ⟨kvs.length - (i + 1), by omega, rfl, hlt, p'⟩, fun x H' y => ?_⟩
    obtain ⟨rfl, k, v, hk, rfl⟩ := y
    exact hs i k v σ _ hk p
  · have e : i = kvs.length := by omega
    subst e
    exact .inl ⟨⟨q, Nat.le_refl _⟩, hd σ H p⟩
variable {g : TG} {tt : TT} {te tk tv : TE} {vs : List Nat} {σ : L2.St} {H1 : Hp} {D : Addr} {Qd : Hp → Prop}
/-- [.. for k in d] -/
theorem lc_keysK (Pv : Nat → Hp → Prop) (h0 : Pv 0 (upd H1 D (.lst []))) (hl : ∀ i H, i ≤ kvs.length → Pv i H → H d = some (.frz od (.dK kvs)))
    (hs : ∀ i k v H, kvs[i]? = some (k, v) → Pv i H → g (kV k) (wipe σ vs) H fun σ2 H2 => wipe σ2 vs = wipe σ vs ∧ tt σ2 H2 fun b H3 =>
      if b = true then te σ2 H3 fun y H4 => ∃ acc, H4 D = some (.lst acc) ∧ acc.length < sizeLine ∧ Pv (i + 1) (upd H4 D (.lst (acc ++ [y]))) else Pv (i + 1) H3) (hd : ∀ H, Pv kvs.length H → Qd H) :
    ∃ W : Nat → Nat → Hp → Prop, (∃ m, W 0 m (upd H1 D (.lst []))) ∧ ∀ i m H, W i m H →
      ((Itk d od kvs).stop i H ∧ Qd H) ∨ ((Itk d od kvs).go i H ∧ ∃ Nx : Hp → Prop, (∀ H', Nx H' → ∃ m', m' < m ∧ W (i + 1) m' H') ∧ ∀ x H', (Itk d od kvs).yld i H x H' → g x (wipe σ vs) H' fun σ2 H2 => wipe σ2 vs = wipe σ vs ∧ tt σ2 H2 fun b H3 =>
        if b = true then te σ2 H3 fun y H4 => ∃ acc, H4 D = some (.lst acc) ∧ acc.length < sizeLine ∧ Nx (upd H4 D (.lst (acc ++ [y]))) else Nx H3) := by
  refine ⟨fun i m H => m = kvs.length - i ∧ i ≤ kvs.length ∧ Pv i H, ⟨kvs.length, by simp, Nat.zero_le _, h0⟩, ?_⟩
  rintro i m H ⟨rfl, hi, p⟩
  have q := hl i H hi p
  by_cases hlt : i < kvs.length
  · refine .inr ⟨⟨q, hlt⟩, Pv (i + 1), fun H' p' => ⟨kvs.length - (i + 1), by omega, rfl, hlt, p'⟩, fun x H' y => ?_⟩
    obtain ⟨rfl, k, v, hk, rfl⟩ := y
    exact hs i k v _ hk p
  · have e : i = kvs.length := by omega
    subst e
    exact .inl ⟨⟨q, Nat.le_refl _⟩, hd H p⟩
/-- [.. for k, v in d.items()] -/
theorem lc_itemsK (Pv : Nat → Hp → Prop) (h0 : Pv 0 (upd H1 D (.lst []))) (hl : ∀ i H, i ≤ kvs.length → Pv i H → H d = some (.frz od (.dK kvs)))
    (hs : ∀ i k v T H, kvs[i]? = some (k, v) → Pv i H → H T = none → g (.ref T) (wipe σ vs) (upd H T (.tup [kV k, v])) fun σ2 H2 => wipe σ2 vs = wipe σ vs ∧ tt σ2 H2 fun b H3 =>
      if b = true then te σ2 H3 fun y H4 => ∃ acc, H4 D = some (.lst acc) ∧ acc.length < sizeLine ∧ Pv (i + 1) (upd H4 D (.lst (acc ++ [y]))) else Pv (i + 1) H3) (hd : ∀ H, Pv kvs.length H → Qd H) :
    ∃ W : Nat → Nat → Hp → Prop, (∃ m, W 0 m (upd H1 D (.lst []))) ∧ ∀ i m H, W i m H →
      ((Iti d od kvs).stop i H ∧ Qd H) ∨ ((Iti d od kvs).go i H ∧ ∃ Nx : Hp → Prop, (∀ H', Nx H' → ∃ m', m' < m ∧ W (i + 1) m' H') ∧ ∀ x H', (Iti d od kvs).yld i H x H' → g x (wipe σ vs) H' fun σ2 H2 => wipe σ2 vs = wipe σ vs ∧ tt σ2 H2 fun b H3 =>
        if b = true then te σ2 H3 fun y H4 => ∃ acc, H4 D = some (.lst acc) ∧ acc.length < sizeLine ∧ Nx (upd H4 D (.lst (acc ++ [y]))) else Nx H3) := by
  refine ⟨fun i m H => m = kvs.length - i ∧ i ≤ kvs.length ∧ Pv i H, ⟨kvs.length, by simp, Nat.zero_le _, h0⟩, ?_⟩
  rintro i m H ⟨rfl, hi, p⟩
  have q := hl i H hi p
  by_cases hlt : i < kvs.length
  · refine .inr ⟨⟨q, hlt⟩, Pv (i + 1), fun H' p' => ⟨kvs.length - (i + 1), by omega, rfl, hlt, p'⟩, fun x H' y => ?_⟩
    obtain ⟨T, k, v, hk, rfl, hT, rfl⟩ := y
    exact hs i k v T _ hk p hT
  · have e : i = kvs.length := by omega
    subst e
    exact .inl ⟨⟨q, Nat.le_refl _⟩, hd H p⟩
/-- {.. for k, v in d.items()} -/
theorem dc_itemsK (Pv : Nat → Hp → Prop) (h0 : Pv 0 (upd H1 D (.dK []))) (hl : ∀ i H, i ≤ kvs.length → Pv i H → H d = some (.frz od (.dK kvs)))
    (hs : ∀ i k v T H, kvs[i]? = some (k, v) → Pv i H → H T = none → g (.ref T) (wipe σ vs) (upd H T (.tup [kV k, v])) fun σ2 H2 => wipe σ2 vs = wipe σ vs ∧ tt σ2 H2 fun b H3 =>
      if b = true then tk σ2 H3 fun y H4 => tv σ2 H4 fun z H5 => ∃ kvs k, y = kV k ∧ H5 D = some (.dK kvs) ∧ kvs.length < sizeLine ∧ Pv (i + 1) (upd H5 D (.dK (putK kvs k z))) else Pv (i + 1) H3) (hd : ∀ H, Pv kvs.length H → Qd H) :
    ∃ W : Nat → Nat → Hp → Prop, (∃ m, W 0 m (upd H1 D (.dK []))) ∧ ∀ i m H, W i m H →
      ((Iti d od kvs).stop i H ∧ Qd H) ∨ ((Iti d od kvs).go i H ∧ ∃ Nx : Hp → Prop, (∀ H', Nx H' → ∃ m', m' < m ∧ W (i + 1) m' H') ∧ ∀ x H', (Iti d od kvs).yld i H x H' → g x (wipe σ vs) H' fun σ2 H2 => wipe σ2 vs = wipe σ vs ∧ tt σ2 H2 fun b H3 =>
        if b = true then tk σ2 H3 fun y H4 => tv σ2 H4 fun z H5 => ∃ kvs k, y = kV k ∧ H5 D = some (.dK kvs) ∧ kvs.length < sizeLine ∧ Nx (upd H5 D (.dK (putK kvs k z))) else Nx H3) := by
  refine ⟨fun i m H => m = kvs.length - i ∧ i ≤ kvs.length ∧ Pv i H, ⟨kvs.length, by simp, Nat.zero_le _, h0⟩, ?_⟩
  rintro i m H ⟨rfl, hi, p⟩
  have q := hl i H hi p
  by_cases hlt : i < kvs.length
  · refine .inr ⟨⟨q, hlt⟩, Pv (i + 1), fun H' p' => ⟨kvs.length - (i + 1), by omega, rfl, hlt, p'⟩, fun x H' y => ?_⟩
    obtain ⟨T, k, v, hk, rfl, hT, rfl⟩ := y
    exact hs i k v T _ hk p hT
  · have e : i = kvs.length := by omega
    subst e
    exact .inl ⟨⟨q, Nat.le_refl _⟩, hd H p⟩
end
def rLenQ (K : PySem.W.Frag) : List V → Hp → VK → Prop := fun xs H Q => ∃ p ys, xs = [.ref p] ∧ (SqL K H p ys ∨ SqT K H p ys) ∧ Q (.int ys.length) H
theorem call_lenQ {X : Cx} : CallR X (.builtin "len") (rLenQ X.K) := call_len_seq
end Kk

set_option maxHeartbeats 4000000
/-! kinds filled, fillings found -/
namespace Kk
open PySem PySem.Spec PyProof.Rows L2 Wd
/-! ### kinds' words compared -/
theorem plain_kv (ks : List KW) : ∀ x ∈ ks.map kv, Plain x := fun x hx => by
  obtain ⟨k, _, rfl⟩ := List.mem_map.mp hx
  cases k with
  | to => exact .inr ⟨_, rfl, by decide +kernel⟩
  | lt n => exact .inl ⟨_, rfl⟩
theorem eqv_kv : ∀ (ks us : List KW), PyData.eqvAll ((ks.map kv).map dV) ((us.map kv).map dV) = decide (ks = us)
  | [], [] => rfl
  | [], _ :: _ => rfl
  | _ :: _, [] => rfl
  | a :: ks, b :: us => by
    have ih := eqv_kv ks us
    show (PyData.eqv (dV (kv a)) (dV (kv b)) && PyData.eqvAll ((ks.map kv).map dV) ((us.map kv).map dV)) = _
    rw [ih]
    have e1 : PyData.eqv (dV (kv a)) (dV (kv b)) = decide (a = b) := by
      cases a with
      | to => cases b with
        | to => decide +kernel
        | lt n => rfl
      | lt n => cases b with
        | to => rfl
        | lt m =>
          show decide (((n : Nat) : Int) = ((m : Nat) : Int)) = _
          by_cases h : n = m
          · subst h; simp
          · rw [decide_eq_false (by omega), decide_eq_false (fun e => h (KW.lt.inj e))]
    rw [e1]
    by_cases e : a = b
    · subst e
      by_cases e2 : ks = us
      · subst e2; simp
      · simp [e2]
    · simp [e]
section
variable {K : PySem.W.Frag} {H : Hp} {p q : Addr} {ks us : List KW} {Q : VK}
theorem eqD_kv (hp : SqT K H p (ks.map kv)) (hq : SqT K H q (us.map kv)) (k : Q (.bl (decide (ks = us))) H) : rEqD K (.ref p) (.ref q) H Q := by
  refine ⟨_, _, .tup hp (dp_all (plain_kv ks)), .tup hq (dp_all (plain_kv us)), shaped_all (plain_kv ks), shaped_all (plain_kv us), ?_⟩
  rw [show PyData.eqv (.tuple ((ks.map kv).map dV)) (.tuple ((us.map kv).map dV)) = decide (ks = us) from eqv_kv ks us]
  exact k
theorem neD_kv (hp : SqT K H p (ks.map kv)) (hq : SqT K H q (us.map kv)) (k : Q (.bl (!decide (ks = us))) H) : rNeD K (.ref p) (.ref q) H Q := by
  refine ⟨_, _, .tup hp (dp_all (plain_kv ks)), .tup hq (dp_all (plain_kv us)), shaped_all (plain_kv ks), shaped_all (plain_kv us), ?_⟩
  rw [show PyData.eqv (.tuple ((ks.map kv).map dV)) (.tuple ((us.map kv).map dV)) = decide (ks = us) from eqv_kv ks us]
  exact k
end
/-! ### letters called -/
abbrev Rws := List (Nat × List KW)
def lkp : Rws → Nat → Option (List KW)
  | [], _ => none
  | (m, r) :: l, n => if m = n then some r else lkp l n
inductive DRel (R : Addr → List KW → Prop) : List (Key × V) → Rws → Prop
  | nil : DRel R [] []
  | cons {n : Nat} {a : Addr} {r : List KW} {kvs : List (Key × V)} {rows : Rws} : R a r → DRel R kvs rows → DRel R ((.inl (n : Int), .ref a) :: kvs) ((n, r) :: rows)
section
variable {R R' : Addr → List KW → Prop} {kvs : List (Key × V)} {rows : Rws}
theorem DRel.mono (h : DRel R kvs rows) (f : ∀ a r, R a r → R' a r) : DRel R' kvs rows := by
  induction h with
  | nil => exact .nil
  | cons x _ ih => exact .cons (f _ _ x) ih
theorem DRel.len (h : DRel R kvs rows) : kvs.length = rows.length := by
  induction h with
  | nil => rfl
  | cons _ _ ih => rw [List.length_cons, List.length_cons, ih]
theorem DRel.no (h : DRel R kvs rows) {n : Nat} (e : lkp rows n = none) : valV kvs (.inl (n : Int)) = none := by
  induction h with
  | nil => rfl
  | @cons m a r kvs rows _ _ ih =>
    unfold lkp at e
    split at e
    · cases e
    · rename_i q
      rw [valV_neg (fun z => q (by have := Sum.inl.inj z; omega))]
      exact ih e
theorem DRel.yes (h : DRel R kvs rows) {n : Nat} {r : List KW} (e : lkp rows n = some r) : ∃ a, valV kvs (.inl (n : Int)) = some (.ref a) ∧ R a r := by
  induction h with
  | nil => cases e
  | @cons m a r' kvs rows x _ ih =>
    unfold lkp at e
    split at e
    · rename_i q
      cases e
      subst q
      exact ⟨a, valV_pos rfl, x⟩
    · rename_i q
      rw [valV_neg (fun z => q (by have := Sum.inl.inj z; omega))]
      exact ih e
theorem DRel.str (h : DRel R kvs rows) (z : Str) : valV kvs (.inr z) = none := by
  induction h with
  | nil => rfl
  | @cons n a r kvs rows _ _ ih =>
    have e : ¬ (Sum.inl (n : Int) : Key) = Sum.inr z := fun e => by cases e
    rw [valV_neg (p := ((Sum.inl (n : Int) : Key), V.ref a)) e]
    exact ih
theorem DRel.snoc (h : DRel R kvs rows) {n : Nat} {a : Addr} {r : List KW} (x : R a r) : DRel R (kvs ++ [(.inl (n : Int), .ref a)]) (rows ++ [(n, r)]) := by
  induction h with
  | nil => exact .cons x .nil
  | cons y _ ih => exact .cons y ih
theorem DRel.get (h : DRel R kvs rows) : ∀ {i : Nat} {k : Key} {v : V}, kvs[i]? = some (k, v) → ∃ (n : Nat) (a : Addr) (r : List KW), k = .inl (n : Int) ∧ v = .ref a ∧ rows[i]? = some (n, r) ∧ R a r := by
  induction h with
  | nil => intro i k v e; cases e
  | @cons m a r kvs rows x _ ih =>
    intro i k v e
    cases i with
    | zero => cases e; exact ⟨m, a, r, rfl, rfl, rfl, x⟩
    | succ i => exact ih e
end
theorem putK_new {kvs : List (Key × V)} {k : Key} {v : V} (h : valV kvs k = none) : putK kvs k v = kvs ++ [(k, v)] := by
  unfold putK
  rw [valV_any, h]
  rfl
theorem lkp_mem : ∀ {rows : Rws} {n : Nat} {r : List KW}, lkp rows n = some r → (n, r) ∈ rows
  | (m, r') :: l, n, r, h => by
    unfold lkp at h
    split at h
    · rename_i q; cases h; subst q; exact List.mem_cons_self ..
    · exact List.mem_cons_of_mem _ (lkp_mem h)
theorem lkp_snoc {rows : Rws} {n m : Nat} {r : List KW} : lkp (rows ++ [(m, r)]) n = (match lkp rows n with | some x => some x | none => if m = n then some r else none) := by
  induction rows with
  | nil => rfl
  | cons p l ih =>
    obtain ⟨k, x⟩ := p
    show (if k = n then some x else lkp (l ++ [(m, r)]) n) = _
    show _ = (match (if k = n then some x else lkp l n) with | some x => some x | none => if m = n then some r else none)
    split
    · rfl
    · exact ih
theorem lkp_none : ∀ {rows : Rws} {n : Nat}, lkp rows n = none → n ∉ rows.map (·.1)
  | [], n, _ => by simp
  | (m, r) :: l, n, h => by
    unfold lkp at h
    split at h
    · cases h
    · rename_i q
      rw [List.map_cons]
      intro hm
      rcases List.mem_cons.mp hm with e | hm
      · exact q e.symm
      · exact lkp_none h hm
theorem lkp_nodup : ∀ {rows : Rws} {i n : Nat} {r : List KW}, (rows.map (·.1)).Nodup → rows[i]? = some (n, r) → lkp rows n = some r
  | (m, r') :: l, 0, n, r, _, h => by cases h; exact if_pos rfl
  | (m, r') :: l, i + 1, n, r, nd, h => by
    have nd' := List.nodup_cons.mp nd
    have hm : n ∈ l.map (·.1) := List.mem_map.mpr ⟨(n, r), List.mem_of_getElem? h, rfl⟩
    unfold lkp
    rw [if_neg fun e => nd'.1 (by rw [e]; exact hm)]
    exact lkp_nodup nd'.2 h
def subK (rows : Rws) : KW → List KW
  | .to => [.to]
  | .lt n => (lkp rows n).getD [.lt n]
def fillK (rows : Rws) (ks : List KW) : List KW := ks.flatMap (subK rows)
/-- what the one makes of the other: what its letters stand for -/
def mtch (us : List KW) : List KW → Nat → Rws → Option Rws
  | [], _, rows => some rows
  | .to :: ks, i, rows => if us[i]? = some .to then mtch us ks (i + 1) rows else none
  | .lt n :: ks, i, rows => match lkp rows n with
    | some r => if r = (us.drop i).take (endK us i - i) then mtch us ks (endK us i) rows else none
    | none => mtch us ks (endK us i) (rows ++ [(n, (us.drop i).take (endK us i - i))])
theorem row_at {us : List KW} {i : Nat} {t : KT} {r : List KW} (h : us.drop i = t.ks ++ r) : (us.drop i).take (endK us i - i) = t.ks := by
  rw [(endK_at h).1, Nat.add_sub_cancel_left, h, List.take_left]
theorem mtch_fill (us : List KW) : ∀ (ks : List KW) (c i : Nat) (rows rf : Rws), Wh c (ks.map sidesK) → Wh c ((us.drop i).map sidesK) → mtch us ks i rows = some rf → (∀ n r, lkp rows n = some r → lkp rf n = some r) ∧ fillK rf ks = us.drop i
  | [], c, i, rows, rf, h1, h2, hm => by
    cases h1
    have e : rows = rf := Option.some.inj hm
    subst e
    refine ⟨fun _ _ h => h, ?_⟩
    generalize us.drop i = l at h2
    cases l with
    | nil => rfl
    | cons a l => cases h2
  | .to :: ks, c, i, rows, rf, h1, h2, hm => by
    cases h1 with
    | @cons c n ns h1 =>
    have hm : (if us[i]? = some .to then mtch us ks (i + 1) rows else none) = some rf := hm
    split at hm
    · rename_i q
      rw [head_drop q] at h2
      cases h2 with
      | cons h2 =>
      obtain ⟨a, b⟩ := mtch_fill us ks _ (i + 1) rows rf h1 h2 hm
      refine ⟨a, ?_⟩
      rw [head_drop q]
      show [KW.to] ++ fillK rf ks = _
      rw [b]; rfl
    · cases hm
  | .lt n :: ks, c, i, rows, rf, h1, h2, hm => by
    cases h1 with
    | @cons c n' ns h1 =>
    obtain ⟨ts, e1, e2⟩ := wh_forest _ h2
    cases ts with
    | nil => simp at e1
    | cons t ts =>
    have hd : us.drop i = t.ks ++ ksL ts := e2.symm
    obtain ⟨q1, q2, q3⟩ := endK_at hd
    have hrow := row_at hd
    have h3 : Wh c ((us.drop (endK us i)).map sidesK) := by
      rw [q2]
      have : ts.length = c := by simpa using e1
      rw [← this]; exact forest_wh ts
    have fin : ∀ rows', mtch us ks (endK us i) rows' = some rf → lkp rows' n = some t.ks → (∀ m r, lkp rows' m = some r → lkp rf m = some r) ∧ fillK rf (.lt n :: ks) = us.drop i := fun rows' h l => by
      obtain ⟨a, b⟩ := mtch_fill us ks _ (endK us i) rows' rf h1 h3 h
      refine ⟨a, ?_⟩
      show (lkp rf n).getD [.lt n] ++ fillK rf ks = _
      rw [a n _ l, b, q2, hd]; rfl
    unfold mtch at hm
    split at hm
    · rename_i r hr
      split at hm
      · rename_i er
        rw [er, hrow] at hr
        exact fin rows hm hr
      · cases hm
    · rename_i hr
      rw [hrow] at hm
      obtain ⟨a, b⟩ := fin _ hm (by rw [lkp_snoc, hr]; exact if_pos rfl)
      refine ⟨fun m r h => a m r ?_, b⟩
      rw [lkp_snoc, h]
theorem mtch_nodup (us : List KW) : ∀ (ks : List KW) (i : Nat) (rows rf : Rws), (rows.map (·.1)).Nodup → mtch us ks i rows = some rf → (rf.map (·.1)).Nodup ∧ rf.length ≤ rows.length + ks.length
  | [], i, rows, rf, nd, h => by cases h; exact ⟨nd, by simp⟩
  | .to :: ks, i, rows, rf, nd, h => by
    have h : (if us[i]? = some .to then mtch us ks (i + 1) rows else none) = some rf := h
    split at h
    · have := mtch_nodup us ks _ _ _ nd h
      exact ⟨this.1, by rw [List.length_cons]; omega⟩
    · cases h
  | .lt n :: ks, i, rows, rf, nd, h => by
    unfold mtch at h
    split at h
    · split at h
      · have := mtch_nodup us ks _ _ _ nd h
        exact ⟨this.1, by rw [List.length_cons]; omega⟩
      · cases h
    · rename_i hr
      have nd2 : ((rows ++ [(n, (us.drop i).take (endK us i - i))]).map (·.1)).Nodup := by
        rw [List.map_append]
        refine List.nodup_append.mpr ⟨nd, by simp, fun a ha b hb e => ?_⟩
        have : b = n := by simpa using hb
        exact lkp_none hr (by rw [← this, ← e]; exact ha)
      have := mtch_nodup us ks _ _ _ nd2 h
      rw [List.length_append] at this
      exact ⟨this.1, by rw [List.length_cons]; simp at this; omega⟩
/-! ### what the program does -/
theorem kfs_put (a b : Addr) : putF "words" (.ref b) (kfs a) = kfs b := by
  show (if ("words" : Str) = "words" then [(("words" : Str), V.ref b)] else _) = kfs b
  rw [if_pos rfl]
  all_goals rfl
theorem Kd.keepP {C p g s x a : Addr} {H H' : Hp} (h : Kd C H x a) (P : PotAt H p g s) (k : Keep p g H H') : Kd C H' x a := by
  obtain ⟨dx, e⟩ := h
  obtain ⟨h1, h2⟩ := P.offs e (fun _ q => nomatch q)
  exact ⟨dx, k _ _ e h1 h2⟩
theorem kit_selfK {K : PySem.W.Frag} {C : Addr} : PySem.W.kitOne K (.ref C) (.ref C) = some true := by
  unfold PySem.W.kitOne
  rw [if_pos (by simp)]
section
variable {P : Program} {w : World} {K : PySem.W.Frag} {mg : Str → Option Value} {base : Heap}
def spKindOf (CK : Addr) : Sp := fun vs H Q _ => ∃ a : Addr, vs = [.ref a] ∧ ∀ H' y, Same H H' → H y = none → Kd CK H' y a → Q (.ref y) H'
theorem cut_partK {xs : List V} {i j : Nat} (hi : i ≤ xs.length) (hj : j ≤ xs.length) : cutV xs (some (i : Int)) (some (j : Int)) = (xs.drop i).take (j - i) := by
  unfold cutV
  rw [HT.sIx_nat, HT.sIx_nat, Nat.min_eq_left hi, Nat.min_eq_left hj]
def spKEnds (K : PySem.W.Frag) : Sp := fun vs H Q _ => ∃ (a : Addr) (ks : List KW) (c : Nat), vs = [.ref a] ∧ SqT K H a (ks.map kv) ∧ Wh c (ks.map sidesK) ∧ ks.length ≤ 100000 ∧ ∀ H' q, Same H H' → H q = none → TupF H' q (endsV ks.length (endK ks)) → Q (.ref q) H'
/-- at y stands a Kind with these words -/
def KdAt (CK : Addr) (H : Hp) (y : Addr) (r : List KW) : Prop := ∃ b, Kd CK H y b ∧ TupF H b (r.map kv)
theorem KdAt.same {CK y : Addr} {H H' : Hp} {r : List KW} (h : KdAt CK H y r) (k : Same H H') : KdAt CK H' y r := by
  obtain ⟨b, h1, h2⟩ := h
  exact ⟨b, h1.same k, h2.same k⟩
/-- what changes lists and dicts at one place leaves it -/
theorem KdAt.but {CK y d : Addr} {H H' : Hp} {r : List KW} {u : HO} (h : KdAt CK H y r) (hd : H d = some u) (nu : (∀ a b c, u ≠ .ins a b c) ∧ ∀ o v, u ≠ .frz o v) (k : ∀ b o, H b = some o → b ≠ d → H' b = some o) : KdAt CK H' y r := by
  obtain ⟨b, ⟨dx, h1⟩, ⟨o, h2, h3⟩⟩ := h
  exact ⟨b, ⟨dx, k _ _ h1 fun q => by rw [q, hd] at h1; exact nu.1 _ _ _ (Option.some.inj h1)⟩, o, k _ _ h2 (fun q => by rw [q, hd] at h2; exact nu.2 _ _ (Option.some.inj h2)), h3⟩
theorem tf_but {d a : Addr} {H H' : Hp} {xs : List V} {u : HO} (h : TupF H a xs) (hd : H d = some u) (nu : (∀ a b c, u ≠ .ins a b c) ∧ ∀ o v, u ≠ .frz o v) (k : ∀ b o, H b = some o → b ≠ d → H' b = some o) : TupF H' a xs := by
  obtain ⟨o, h2, h3⟩ := h
  exact ⟨o, k _ _ h2 (fun q => by rw [q, hd] at h2; exact nu.2 _ _ (Option.some.inj h2)), h3⟩
theorem nu_dK {kvs : List (Key × V)} : (∀ a b c, HO.dK kvs ≠ .ins a b c) ∧ ∀ o v, HO.dK kvs ≠ .frz o v := ⟨(fun _ _ _ e => nomatch e), (fun _ _ e => nomatch e)⟩
theorem nu_lst {xs : List V} : (∀ a b c, HO.lst xs ≠ .ins a b c) ∧ ∀ o v, HO.lst xs ≠ .frz o v := ⟨(fun _ _ _ e => nomatch e), (fun _ _ e => nomatch e)⟩
def spIsFill (CK : Addr) : Sp := fun vs H Q _ => ∃ (d : Addr) (kvs : List (Key × V)) (rows : Rws), vs = [.ref d] ∧ H d = some (.dK kvs) ∧ DRel (KdAt CK H) kvs rows ∧ rows.length ≤ 10000 ∧ ∀ H', Same H H' → Q (.bl true) H'
theorem lkp_take {rows : Rws} {i n : Nat} {r : List KW} (nd : (rows.map (·.1)).Nodup) (h : rows[i]? = some (n, r)) : lkp (rows.take i) n = none := by
  induction rows generalizing i with
  | nil => cases h
  | cons p l ih =>
    obtain ⟨m, x⟩ := p
    have nd' := List.nodup_cons.mp nd
    cases i with
    | zero => rfl
    | succ i =>
      have hm : n ∈ l.map (·.1) := List.mem_map.mpr ⟨(n, r), List.mem_of_getElem? h, rfl⟩
      show (if m = n then some x else lkp (l.take i) n) = none
      rw [if_neg fun e => nd'.1 (by rw [e]; exact hm)]
      exact ih nd'.2 h
theorem sum_len (f : KW → List KW) : ∀ ks : List KW, (ks.map fun u => (((f u).length : Nat) : Int)).sum = (((ks.flatMap f).length : Nat) : Int)
  | [] => rfl
  | k :: ks => by
    rw [List.map_cons, List.sum_cons, sum_len f ks, List.flatMap_cons, List.length_append]
    omega
theorem fillK_take {rows : Rws} {ks : List KW} {j : Nat} {u : KW} (h : ks[j]? = some u) : fillK rows (ks.take (j + 1)) = fillK rows (ks.take j) ++ subK rows u := by
  unfold fillK
  rw [List.take_add_one, h, List.flatMap_append]
  simp
theorem fillK_le {rows : Rws} (ks : List KW) (j : Nat) : (fillK rows (ks.take j)).length ≤ (fillK rows ks).length := by
  have e : fillK rows ks = fillK rows (ks.take j) ++ fillK rows (ks.drop j) := by
    unfold fillK
    rw [← List.flatMap_append, List.take_append_drop]
  rw [e, List.length_append]
  omega
/-- what rows.get(word, (word,)) tells -/
theorem get_row {H : Hp} {R : Addr} {kvs : List (Key × V)} {rows : Rws} {u : KW} {z : V} (hd : H R = some (.dK kvs)) (h : DRel (fun a r => TupF H a (r.map kv)) kvs rows) (hz : ∃ q, z = .ref q ∧ TupF H q [kv u]) : ∃ o, DGet H R (kv u) o ∧ ∃ q, o.getD z = .ref q ∧ TupF H q ((subK rows u).map kv) := by
  cases u with
  | to => exact ⟨_, .inl ⟨kvs, .inr ">", .inl hd, rfl, rfl⟩, by rw [h.str]; exact hz⟩
  | lt n =>
    refine ⟨_, .inl ⟨kvs, .inl (n : Int), .inl hd, rfl, rfl⟩, ?_⟩
    cases e : lkp rows n with
    | none =>
      rw [h.no e]
      show ∃ q, z = .ref q ∧ TupF H q (((lkp rows n).getD [.lt n]).map kv)
      rw [e]; exact hz
    | some r =>
      obtain ⟨a, e1, e2⟩ := h.yes e
      rw [e1]
      refine ⟨a, rfl, ?_⟩
      show TupF H a (((lkp rows n).getD [.lt n]).map kv)
      rw [e]; exact e2
def spFilled (CK : Addr) : Sp := fun vs H Q _ => ∃ (x a d : Addr) (ks : List KW) (kvs : List (Key × V)) (rows : Rws), vs = [.ref x, .ref d] ∧ Kd CK H x a ∧ TupF H a (ks.map kv) ∧ H d = some (.dK kvs) ∧ DRel (KdAt CK H) kvs rows ∧ (rows.map (·.1)).Nodup ∧ rows.length ≤ 10000 ∧ ks.length ≤ 10000 ∧ (fillK rows ks).length ≤ 100000 ∧
  ∀ H' y q, Same H H' → H y = none → Kd CK H' y q → TupF H' q ((fillK rows ks).map kv) → Q (.ref y) H'
/-- a filling, or None -/
def FillV (CK : Addr) (m : Option Rws) (H H' : Hp) (v : V) : Prop := match m with
  | none => v = .non
  | some rows => ∃ (d : Addr) (kvs : List (Key × V)), v = .ref d ∧ H d = none ∧ H' d = some (.dK kvs) ∧ DRel (KdAt CK H') kvs rows
def spFilling (CK : Addr) : Sp := fun vs H Q _ => ∃ (x y a b : Addr) (ks us : List KW), vs = [.ref x, .ref y] ∧ Kd CK H x a ∧ TupF H a (ks.map kv) ∧ Kd CK H y b ∧ TupF H b (us.map kv) ∧ Wh 1 (ks.map sidesK) ∧ Wh 1 (us.map sidesK) ∧ ks.length ≤ 10000 ∧ us.length ≤ 10000 ∧
  ∀ H' v, Same H H' → FillV CK (mtch us ks 0 []) H H' v → Q v H'
end
end Kk

set_option maxHeartbeats 4000000
/-! any thing asked to be a kind -/
namespace Kk
open PySem PySem.Spec PyProof.Rows L2 Wd
def isStrV : V → Bool
  | .str _ => true
  | _ => false
def goodV : V → Bool
  | .int i => decide (0 ≤ i)
  | .str s => decide (V.str s = V.str ">")
  | _ => false
def needV : V → Nat
  | .str _ => 2
  | _ => 0
theorem good_kv {x : V} (h : goodV x = true) : ∃ k : KW, x = kv k := by
  cases x with
  | int i =>
    have h2 : (0 : Int) ≤ i := of_decide_eq_true h
    refine ⟨.lt i.toNat, ?_⟩
    show _ = V.int _
    congr 1
    omega
  | str s => exact ⟨.to, of_decide_eq_true h⟩
  | _ => simp [goodV] at h
theorem kv_good (k : KW) : goodV (kv k) = true := by
  cases k with
  | to => exact decide_eq_true (show V.str ">" = V.str ">" from rfl)
  | lt n => exact decide_eq_true (show (0 : Int) ≤ ((n : Nat) : Int) by omega)
theorem need_kv (k : KW) : needV (kv k) = sidesK k := by cases k <;> rfl
theorem all_good : ∀ {xs : List V}, (∀ x ∈ xs, goodV x = true) → ∃ ks : List KW, xs = ks.map kv
  | [], _ => ⟨[], rfl⟩
  | x :: xs, h => by
    obtain ⟨k, rfl⟩ := good_kv (h x (by simp))
    obtain ⟨ks, rfl⟩ := all_good fun y hy => h y (List.mem_cons_of_mem _ hy)
    exact ⟨k :: ks, rfl⟩
/-- the first that is no word of a kind -/
def badF : List V → Nat → Option Nat
  | [], _ => none
  | x :: l, i => if goodV x = true then badF l (i + 1) else some i
theorem badF_drop {xs : List V} {i : Nat} {x : V} (h : xs[i]? = some x) : badF (xs.drop i) i = if goodV x = true then badF (xs.drop (i + 1)) (i + 1) else some i := by
  obtain ⟨h1, h2⟩ := List.getElem?_eq_some_iff.mp h
  rw [List.drop_eq_getElem_cons h1, h2]
  rfl
theorem badF_none : ∀ {xs : List V} {i : Nat}, badF xs i = none → ∀ x ∈ xs, goodV x = true
  | [], _, _, x, hx => absurd hx (by simp)
  | y :: l, i, h, x, hx => by
    unfold badF at h
    by_cases g : goodV y = true
    · rw [if_pos g] at h
      rcases List.mem_cons.mp hx with rfl | hx
      · exact g
      · exact badF_none h x hx
    · rw [if_neg g] at h
      cases h
theorem badF_good : ∀ {xs : List V} {i : Nat}, (∀ x ∈ xs, goodV x = true) → badF xs i = none
  | [], _, _ => rfl
  | y :: l, i, h => by
    unfold badF
    rw [if_pos (h y (by simp))]
    exact badF_good fun x hx => h x (List.mem_cons_of_mem _ hx)
theorem wh_mis : ∀ {ns : List Nat} {i c : Nat}, misF ns i c = none → Wh c ns
  | [], i, c, h => by
    unfold misF at h
    by_cases e : c = 0
    · subst e; exact .nil
    · rw [if_neg e] at h; cases h
  | n :: ns, i, c, h => by
    unfold misF at h
    by_cases e : c = 0
    · rw [if_pos e] at h; cases h
    · rw [if_neg e] at h
      obtain ⟨c', rfl⟩ : ∃ c', c = c' + 1 := ⟨c - 1, by omega⟩
      have h2 := wh_mis h
      rw [show c' + 1 + n - 1 = c' + n by omega] at h2
      exact .cons h2
def misD (xs : List V) : Option Int := (misF (xs.map needV) 0 1).map fun n => ((n : Nat) : Int)
/-- what the words' fault is -/
def kdue (xs : List V) : Option Int := if xs.length = 0 ∨ 4000 < xs.length then some (-1) else match badF xs 0 with
  | some i => some (i : Nat)
  | none => misD xs
def optI : Option Int → V
  | none => .non
  | some i => .int i
theorem optI_nat (o : Option Nat) : optI (o.map fun n => ((n : Nat) : Int)) = optV o := by cases o <;> rfl
/-- what isinstance tells of an item -/
structure KIt (K : PySem.W.Frag) (H : Hp) (x : V) : Prop where
  num : NumT K H x
  ex : ∃ t : Value, TyX K H x t ∧ PySem.W.kitOne K t (.type "str") = some (isStrV x)
section
variable {K : PySem.W.Frag} {H : Hp}
theorem KIt.int (i : Int) : KIt K H (.int i) := ⟨.int i, _, .base (.int i), kit_ty (show kitB "int" "str" = some false by decide +kernel)⟩
theorem KIt.bl (b : Bool) : KIt K H (.bl b) := ⟨.bl b, _, .base (.bl b), kit_ty (show kitB "bool" "str" = some false by decide +kernel)⟩
theorem KIt.non : KIt K H .non := ⟨.non, _, .base .non, kit_ty (by decide +kernel)⟩
theorem KIt.str (z : Str) : KIt K H (.str z) := ⟨.str z, _, .base (.str z), kit_ty (show kitB "str" "str" = some true by decide +kernel)⟩
theorem KIt.lst {a : Addr} {xs : List V} (h : H a = some (.lst xs)) : KIt K H (.ref a) := ⟨.lst h, _, .base (.lst h), kit_ty (show kitB "list" "str" = some false by decide +kernel)⟩
theorem KIt.dK {a : Addr} {kvs : List (Key × V)} (h : H a = some (.dK kvs)) : KIt K H (.ref a) := ⟨.dK h, _, .base (.dK h), kit_ty (show kitB "dict" "str" = some false by decide +kernel)⟩
theorem KIt.tF {a : Addr} {xs : List V} (h : TupF H a xs) : KIt K H (.ref a) := by
  refine ⟨.tF h, ?_⟩
  obtain ⟨o, h, _⟩ := h
  exact ⟨_, .fTuple h, kit_ty (show kitB "tuple" "str" = some false by decide +kernel)⟩
theorem KIt.same {H' : Hp} {x : V} (h : KIt K H x) (s : Same H H') : KIt K H' x := by
  obtain ⟨n, t, ty, e⟩ := h
  exact ⟨n.same s, t, tyx_mono ty (fun a o _ q => s _ _ q), e⟩
theorem KIt.kv (k : KW) : KIt K H (kv k) := by
  cases k with
  | to => exact .str _
  | lt n => exact .int _
end
/-- what isinstance tells of the classes -/
structure KqC (K : PySem.W.Frag) (C CK : Addr) : Prop where
  s1 : PySem.W.mroIn K C (.type "str") = some false
  s2 : PySem.W.mroIn K CK (.type "str") = some false
  t1 : PySem.W.mroIn K C (.type "tuple") = some false
  t2 : PySem.W.mroIn K CK (.type "tuple") = some false
  k : PySem.W.mroIn K C (.ref CK) = some false
  kk : PySem.W.mroIn K CK (.ref CK) = some true
  ty : PySem.W.typeIn K (.ref CK) = some (.type "type")
  is : PySem.W.isClsIn K CK = true
  ne : PySem.W.findIn K (.ref CK) "__ne__" = some (some (.builtin "object.__ne__"))
theorem kit_own {K : PySem.W.Frag} {C : Addr} {T : String} (hm : PySem.W.kitMeta T = true) (h : PySem.W.mroIn K C (.type T) = some false) : PySem.W.kitOne K (.ref C) (.type T) = some false := by
  unfold PySem.W.kitOne PySem.W.kitCls
  rw [if_neg (show ¬ (Value.ref C == Value.type T) = true from fun z => nomatch z)]
  show (if PySem.W.kitMeta T = true then PySem.W.mroIn K C (.type T) else none) = _
  rw [if_pos hm]
  exact h
theorem kit_noK {K : PySem.W.Frag} {C CK : Addr} {t : Value} (q : KqC K C CK) (n : (t == .ref CK) = false) (h : PySem.W.subIn K t (.ref CK) = some false) : PySem.W.kitOne K t (.ref CK) = some false := by
  unfold PySem.W.kitOne PySem.W.kitCls
  rw [n]
  show (if ((PySem.W.clsIn K CK).isSome && PySem.W.typeIn K (.ref CK) == some (.type "type")) = true then PySem.W.subIn K t (.ref CK) else none) = _
  have i' : (PySem.W.clsIn K CK).isSome = true := q.is
  rw [i', q.ty, if_pos (by decide +kernel)]
  exact h
theorem sub_ty {K : PySem.W.Frag} {CK : Addr} {T : String} (h : (PySem.fastBuiltinMro T).any (·.all fun v => match v with | .type _ => true | _ => false) = true) : PySem.W.subIn K (.type T) (.ref CK) = some false := by
  show (PySem.fastBuiltinMro T).map (·.contains (.ref CK)) = _
  cases e : PySem.fastBuiltinMro T with
  | none => rw [e] at h; cases h
  | some l =>
    rw [e] at h
    have h : l.all _ = true := h
    show some (l.contains (.ref CK)) = some false
    congr 1
    rw [Bool.eq_false_iff]
    intro z
    have z := List.contains_iff_exists_mem_beq.mp z
    obtain ⟨v, hv, e2⟩ := z
    have := List.all_eq_true.mp h v hv
    cases v with
    | type n => exact nomatch e2
    | _ => exact nomatch this
theorem KIt.inC {K : PySem.W.Frag} {mg : Str → Option Value} {H : Hp} {C CK x dx : Addr} {fs : List (Str × V)} (pc : PC K mg C) (q : KqC K C CK) (n : NiC K C) (h : H x = some (.ins C dx fs)) : KIt K H (.ref x) :=
  ⟨⟨_, false, false, .base (.ins h pc.cl pc.ha pc.hn pc.ht pc.hm), n.int, n.bool, .inr ⟨.inl rfl, rfl⟩⟩, _, .base (.ins h pc.cl pc.ha pc.hn pc.ht pc.hm), kit_own (by decide +kernel) q.s1⟩
theorem KIt.inK {K : PySem.W.Frag} {mg : Str → Option Value} {H : Hp} {C CK x dx : Addr} {fs : List (Str × V)} (pk : PK K mg CK) (q : KqC K C CK) (n : NiC K CK) (h : H x = some (.ins CK dx fs)) : KIt K H (.ref x) :=
  ⟨pk.numT n h, _, .base (.ins h pk.cl pk.ha pk.hn pk.ht pk.hm), kit_own (by decide +kernel) q.s2⟩
/-- a thing, and what its fault is -/
inductive ThV (K : PySem.W.Frag) (H : Hp) : V → Option Int → Prop where
  | no {v : V} {t : Value} (ty : TyX K H v t) (k : PySem.W.kitOne K t (.type "tuple") = some false) : ThV K H v (some (-1))
  | tup {a : Addr} {xs : List V} (h : SqT K H a xs) (i : ∀ x ∈ xs, KIt K H x) (l : xs.length ≤ 100000) : ThV K H (.ref a) (kdue xs)
theorem ThV.same {K : PySem.W.Frag} {H H' : Hp} {v : V} {d : Option Int} (h : ThV K H v d) (s : Same H H') : ThV K H' v d := by
  cases h with
  | no ty k => exact .no (tyx_mono ty (fun a o _ q => s _ _ q)) k
  | tup h i l => exact .tup (SqT.same h s) (fun x hx => (i x hx).same s) l
theorem kdue_ok {xs : List V} (h : kdue xs = none) : ∃ ks : List KW, xs = ks.map kv ∧ KOk ks := by
  unfold kdue at h
  by_cases c : xs.length = 0 ∨ 4000 < xs.length
  · rw [if_pos c] at h; cases h
  · rw [if_neg c] at h
    cases b : badF xs 0 with
    | some i => rw [b] at h; cases h
    | none =>
      rw [b] at h
      obtain ⟨ks, rfl⟩ := all_good (badF_none b)
      have h : misD (ks.map kv) = none := h
      unfold misD at h
      have e : (ks.map kv).map needV = ks.map sidesK := by rw [List.map_map]; congr 1; funext k; exact need_kv k
      rw [e] at h
      have h := Option.map_eq_none_iff.mp h
      rw [List.length_map] at c
      exact ⟨ks, rfl, wh_mis h, by omega⟩
section
variable {P : Program} {w : World} {K : PySem.W.Frag} {mg : Str → Option Value} {base : Heap}
def spKWordG (K : PySem.W.Frag) : Sp := fun vs H Q _ => ∃ x : V, vs = [x] ∧ KIt K H x ∧ Q (.bl (goodV x)) H
theorem c_is_kind_word__G (B : Bt mg) (D : DefAt K mg "is_kind_word" s_is_kind_word) (Cis_number : Cal P w K mg base "is_number" 1 ["thing"] (spNumG K)) : Cal P w K mg base "is_kind_word" 2 ["thing"] (spKWordG K) := by
  refine cal_of D sc_is_kind_word (fun _ _ _ _ _ _ us hl => match us, hl with | [_], _ => rfl) (fun vs H Q E h => ?_) (fun fa cdv A outer st0 H vs Q E hr h => ?_)
  · obtain ⟨z, rfl, _⟩ := h
    rfl
  · obtain ⟨x, rfl, it, k⟩ := h
    refine ⟨_, (pss_one (ps_ret (pe_or (pe_c Cis_number (hr.mono (by decide)) (pa_cons (pv 0) pa_nil)) (pe_one (pe_and (pe_callB call_isi (by rfl) B.b_isinstance (by decide +kernel) (pa_cons (pv 0) (pa_cons (pe_ty (n := "str") B.b_str (by decide +kernel)) pa_nil))) (pe_one (pe_cmpR op_eq (pv 0) (pe_gs B.m_INTO) (nomark _)))))))), ?_⟩
    refine ⟨_, rfl, x, rfl, it.num, ?_⟩
    obtain ⟨t, ty, hk⟩ := it.ex
    cases x with
    | str s =>
      refine ⟨_, rfl, iteF ⟨_, rfl, _, _, _, _, true, rfl, .ty _, ty, hk, _, rfl, iteT ?_⟩⟩
      exact ⟨_, rfl, rfl, k⟩
    | int i =>
      have k : Q (.bl (decide (0 ≤ i))) H := k
      rw [show isNumV (V.int i) = decide (0 ≤ i) from rfl]
      cases e : decide (0 ≤ i) with
      | true => rw [e] at k; exact ⟨_, rfl, iteT k⟩
      | false => rw [e] at k; exact ⟨_, rfl, iteF ⟨_, rfl, _, _, _, _, false, rfl, .ty _, ty, hk, _, rfl, iteF k⟩⟩
    | _ => exact ⟨_, rfl, iteF ⟨_, rfl, _, _, _, _, false, rfl, .ty _, ty, hk, _, rfl, iteF k⟩⟩
def spFaultK (K : PySem.W.Frag) : Sp := fun vs H Q _ => ∃ (v : V) (d : Option Int), vs = [v] ∧ ThV K H v d ∧ ∀ H', Same H H' → Q (optI d) H'
theorem c_fault_index_kinds__G (B : Bt mg) (D : DefAt K mg "fault_index_kinds" s_fault_index_kinds "fault_index") (Cis_kind_word : Cal P w K mg base "is_kind_word" 2 ["thing"] (spKWordG K)) (Csides_in : Cal P w K mg base "sides_in" 1 ["word"] spSides) (Cmisfit_index : Cal P w K mg base "misfit_index" 1 ["needs"] (spMisfit K)) :
    Cal P w K mg base "fault_index_kinds" 3 ["words"] (spFaultK K) := by
  refine cal_of D sc_fault_index_kinds (fun _ _ _ _ _ _ us hl => match us, hl with | [_], _ => rfl) (fun vs H Q E h => ?_) (fun fa cdv A outer st0 H vs Q E hr h => ?_)
  · obtain ⟨a, ks, rfl, _⟩ := h
    rfl
  · obtain ⟨v, d, rfl, th, k⟩ := h
    refine ⟨_, (pss_cons (ps_if (PW.pt (pw_or (pt_not (pt_val (pe_callB call_isi (by rfl) B.b_isinstance (by decide +kernel) (pa_cons (pv 0) (pa_cons (pe_ty (n := "tuple") B.b_tuple (by decide +kernel)) pa_nil))))) (pw_or1 (pt_not (pt_chain op_le op_le pe_int (pe_callB call_len_seq (by rfl) B.b_len (by decide +kernel) (pa_cons (pv 0) pa_nil)) (pe_gi B.m_MOST_WORDS_kinds)))))) (pss_one (ps_ret (pe_un un_neg pe_int))) pss_nil)
      (pss_cons (ps_for PassesOwn.never rfl (pi_enumT (by rfl) B.b_enumerate (pa_cons (pv 0) pa_nil)) (pg_tup (by rfl) (pgs_cons (pg_name (i := 1) sc_fault_index_kinds.nd rfl (by first | exact Or.inl rfl | exact Or.inr rfl)) (pgs_cons (pg_name (i := 2) sc_fault_index_kinds.nd rfl (by first | exact Or.inl rfl | exact Or.inr rfl)) pgs_nil))) (pss_one (ps_if (pt_not (pt_val (pe_c Cis_kind_word (hr.mono (by decide)) (pa_cons (pv 2) pa_nil)))) (pss_one (ps_ret (pv 1))) pss_nil)))
      (pss_one (ps_ret (pe_c Cmisfit_index (hr.mono (by decide)) (pa_cons (pe_lc (own := [("word", 2)]) (g := (gName 2)) (tt := tYes) rfl sc_fault_index_kinds.nd (pi_tup (pv 0)) (blkOk_by (own := [("word", 2)]) (N := ["words", "at", "word"]) (sc := defScope s_fault_index_kinds) (by decide +kernel)) (fun _ _ _ _ _ => (pg_name (i := 2) sc_fault_index_kinds.nd rfl (by first | exact Or.inl rfl | exact Or.inr rfl))) (fun _ _ _ _ _ => pts_nil) (fun _ _ _ _ _ => (pe_c Csides_in (hr.mono (by decide)) (pa_cons (pv 2) pa_nil)))) pa_nil)))))), ?_⟩
    cases th with
    | no ty hk =>
      refine ⟨_, rfl, _, _, _, _, false, rfl, .ty _, ty, hk, _, rfl, iteT ?_⟩
      exact ⟨_, rfl, k H (Same.refl H)⟩
    | @tup a xs hq it hl =>
    refine ⟨_, rfl, _, _, _, _, true, rfl, .ty _, tyx_tupk hq, kit_ty kitTTk, _, rfl, iteF ?_⟩
    refine ⟨_, rfl, _, _, rfl, .inr hq, _, _, rfl, rfl, _, rfl, ?_⟩
    unfold kdue at k
    by_cases h1 : xs.length = 0
    · rw [decide_eq_false (show ¬ (1 : Int) ≤ (xs.length : Nat) by omega)]
      rw [if_pos (.inl h1)] at k
      refine iteF ?_
      exact ⟨_, rfl, iteT ⟨_, rfl, k H (Same.refl H)⟩⟩
    rw [decide_eq_true (show (1 : Int) ≤ (xs.length : Nat) by omega)]
    refine iteT ⟨_, _, rfl, rfl, _, rfl, ?_⟩
    by_cases h2 : 4000 < xs.length
    · rw [decide_eq_false (show ¬ ((xs.length : Nat) : Int) ≤ 4000 by omega)]
      rw [if_pos (.inr h2)] at k
      exact iteT ⟨_, rfl, k H (Same.refl H)⟩
    rw [decide_eq_true (show ((xs.length : Nat) : Int) ≤ 4000 by omega)]
    rw [if_neg (by omega)] at k
    refine iteF ?_
    refine ⟨_, rfl, a, _, rfl, hq, for_enumT (K := K) (a := a) (xs := xs) (fun i σ H' => ∃ v1 v2 : Option V, σ = [some (.ref a), v1, v2] ∧ Same H H' ∧ badF xs 0 = badF (xs.drop i) i) ⟨none, none, rfl, Same.refl H, rfl⟩ (fun i σ H' _ ⟨_, _, _, s, _⟩ => SqT.same hq s) ?_ ?_⟩
    · rintro i x σ H' T hx ⟨v1, v2, rfl, S1, eb⟩ nT
      rw [badF_drop hx] at eb
      have S2 : Same H (upd H' T (.tup [.int (i : Nat), x])) := S1.trans (same_upd nT)
      refine ⟨T, _, rfl, SqT.of upd_same, rfl, _, _, rfl, _, _, rfl, rfl, ?_⟩
      refine ⟨_, rfl, x, rfl, (it x (List.mem_of_getElem? hx)).same S2, ?_⟩
      cases g : goodV x with
      | true =>
        rw [if_pos g] at eb
        exact ⟨_, rfl, iteF ⟨_, _, rfl, S2, eb⟩⟩
      | false =>
        rw [if_neg (by rw [g]; decide)] at eb
        rw [eb] at k
        exact ⟨_, rfl, iteT ⟨_, rfl, k _ S2⟩⟩
    · rintro σ H' ⟨v1, v2, rfl, S1, eb⟩
      rw [List.drop_length] at eb
      have eb : badF xs 0 = none := eb
      rw [eb] at k
      obtain ⟨ks, rfl⟩ := all_good (badF_none eb)
      have hlm : (ks.map kv).length = ks.length := List.length_map ..
      refine ⟨_, rfl, a, rfl, ⟨_, SqT.same hq S1⟩, fun Dl nDl => lc_fmT (f := kv) (r := fun u => some (nv (sidesK u))) (SqT.same hq S1) nDl (Nat.le_trans (show ks.length ≤ 10000 by omega) (by decide)) ?_ ?_⟩
      · rintro i u H2 Qy Qn hu S2 hy hn
        exact ⟨rfl, _, rfl, u, rfl, fun H3 S3 => hy _ _ S3 rfl⟩
      rintro H2 S2 L2
      rw [map_some'] at L2
      have e : ks.map (fun u => nv (sidesK u)) = (ks.map sidesK).map nv := by rw [List.map_map]; rfl
      rw [e] at L2
      refine ⟨Dl, ks.map sidesK, rfl, SqL.of L2, by rw [List.length_map]; omega, fun H3 S3 => ?_⟩
      have k := k H3 (S1.trans (S2.trans S3))
      have e2 : (ks.map kv).map needV = ks.map sidesK := by rw [List.map_map]; congr 1; funext k; exact need_kv k
      have k : Q (optI (misD (ks.map kv))) H3 := k
      unfold misD at k
      rw [e2, optI_nat] at k
      exact k
end
end Kk

set_option maxHeartbeats 4000000
/-! any thing asked to be a program -/
namespace Kk
open PySem PySem.Spec PyProof.Rows L2 Wd
theorem tl_cut1 (s : Str) : TL.tl (cutS s (some 1) none) = (TL.tl s).drop 1 := by
  unfold cutS
  rw [TL.tl_mk]
  have e1 : HT.sIx s.length 0 (some 1) = min 1 s.length := HT.sIx_nat _ _ 1
  rw [e1, HT.sIx_none]
  have e2 : s.length = (TL.tl s).length := TL.len_tl s
  show ((TL.tl s).drop (min 1 s.length)).take _ = _
  rw [e2]
  generalize TL.tl s = l
  cases l with
  | nil => rfl
  | cons c r =>
    rw [List.length_cons, Nat.min_eq_left (by omega)]
    simp
theorem tl_head (s : Str) : TL.tl (cutS s none (some 1)) = (TL.tl s).take 1 := by
  unfold cutS
  rw [TL.tl_mk]
  have e1 : HT.sIx s.length s.length (some 1) = min 1 s.length := HT.sIx_nat _ _ 1
  rw [e1, HT.sIx_none]
  have e2 : s.length = (TL.tl s).length := TL.len_tl s
  show ((TL.tl s).drop 0).take (min 1 s.length - 0) = _
  rw [e2]
  generalize TL.tl s = l
  cases l <;> simp
theorem len_cut1 (s : Str) : (cutS s (some 1) none).length ≤ s.length := by
  rw [TL.len_tl, TL.len_tl, tl_cut1, List.length_drop]
  omega
theorem starts_sl (s : Str) : Txt.startswith s "/" = decide (V.str (cutS s none (some 1)) = V.str "/") := by
  rw [starts_pre (by rw [slash]; simp), slash]
  have e := tl_head s
  cases h : TL.tl s with
  | nil =>
    rw [h] at e
    refine (decide_eq_false fun z => ?_).symm
    have := congrArg TL.tl (V.str.inj z)
    rw [e, slash] at this
    cases this
  | cons c r =>
    rw [h] at e
    by_cases hc : c = 47
    · subst hc
      rw [decide_eq_true (show V.str (cutS s none (some 1)) = V.str "/" from congrArg V.str (TL.ext_tl (by rw [e, slash]; rfl)))]
      simp [TL.pre]
    · rw [decide_eq_false fun z => ?_]
      · simp [TL.pre, hc]
      · have := congrArg TL.tl (V.str.inj z)
        rw [e, slash] at this
        simp at this
        exact hc this
/-- what is_word tells of a text -/
def wordB (s : Str) : Bool := decide (V.str s = V.str "@") || (nameB s || (Txt.startswith s "/" && nameB (cutS s (some 1) none)))
theorem name_nm {s : Str} (h : nameB s = true) : nmOk (TL.tl s) ∧ s = str (TL.tl s) := by
  unfold nameB at h
  rw [Bool.and_eq_true, Bool.and_eq_true, decide_eq_true_eq, decide_eq_true_eq, List.all_eq_true] at h
  have e : s.length = (TL.tl s).length := TL.len_tl s
  refine ⟨⟨by omega, by omega, fun c hc => of_decide_eq_true (h.2.2 c hc)⟩, TL.ext_tl (by rw [tl_str])⟩
theorem word_dec {s : Str} (h : wordB s = true) : ∃ w : W, wOk w ∧ V.str s = wv w := by
  unfold wordB at h
  rw [Bool.or_eq_true, Bool.or_eq_true, Bool.and_eq_true] at h
  rcases h with h | h | ⟨h1, h2⟩
  · refine ⟨.ap, trivial, ?_⟩
    rw [of_decide_eq_true h]
    exact (of_decide_eq_true (is_ap (w := .ap) trivial)).symm
  · obtain ⟨h1, h2⟩ := name_nm h
    exact ⟨.nm (TL.tl s), h1, congrArg V.str (h2.trans rfl)⟩
  · obtain ⟨h3, h4⟩ := name_nm h2
    refine ⟨.tk (TL.tl (cutS s (some 1) none)), h3, congrArg V.str (TL.ext_tl ?_)⟩
    rw [tl_enc]
    show _ = 47 :: _
    rw [tl_cut1]
    rw [starts_sl] at h1
    have h1 := congrArg TL.tl (V.str.inj (of_decide_eq_true h1))
    rw [tl_head, slash] at h1
    cases e : TL.tl s with
    | nil => rw [e] at h1; cases h1
    | cons c r =>
      rw [e] at h1
      have : c = 47 := by simpa using h1
      rw [this]; rfl
def goodW : V → Bool
  | .str s => wordB s
  | _ => false
theorem good_wv {x : V} (h : goodW x = true) : ∃ w : W, wOk w ∧ x = wv w := by
  cases x with
  | str s => exact word_dec h
  | _ => cases h
theorem all_goodW : ∀ {xs : List V}, (∀ x ∈ xs, goodW x = true) → ∃ ws : List W, (∀ w ∈ ws, wOk w) ∧ xs = ws.map wv
  | [], _ => ⟨[], by simp, rfl⟩
  | x :: xs, h => by
    obtain ⟨k, hk, rfl⟩ := good_wv (h x (by simp))
    obtain ⟨ks, hks, rfl⟩ := all_goodW fun y hy => h y (List.mem_cons_of_mem _ hy)
    exact ⟨k :: ks, fun w hw => by rcases List.mem_cons.mp hw with rfl | hw; exact hk; exact hks w hw, rfl⟩
/-- the first that is none -/
def badP (f : V → Bool) : List V → Nat → Option Nat
  | [], _ => none
  | x :: l, i => if f x = true then badP f l (i + 1) else some i
theorem badP_drop {f : V → Bool} {xs : List V} {i : Nat} {x : V} (h : xs[i]? = some x) : badP f (xs.drop i) i = if f x = true then badP f (xs.drop (i + 1)) (i + 1) else some i := by
  obtain ⟨h1, h2⟩ := List.getElem?_eq_some_iff.mp h
  rw [List.drop_eq_getElem_cons h1, h2]
  rfl
theorem badP_none {f : V → Bool} : ∀ {xs : List V} {i : Nat}, badP f xs i = none → ∀ x ∈ xs, f x = true
  | [], _, _, x, hx => absurd hx (by simp)
  | y :: l, i, h, x, hx => by
    unfold badP at h
    by_cases g : f y = true
    · rw [if_pos g] at h
      rcases List.mem_cons.mp hx with rfl | hx
      · exact g
      · exact badP_none h x hx
    · rw [if_neg g] at h
      cases h
/-- the first word, but a given, that stands before -/
def repW (seen : List W) : List W → Nat → Option Nat
  | [], _ => none
  | w :: l, i => if !isAp w && decide (w ∈ seen) then some i else repW (seen ++ [w]) l (i + 1)
theorem repW_drop {ws : List W} {i : Nat} {w : W} (h : ws[i]? = some w) : repW (ws.take i) (ws.drop i) i = if !isAp w && decide (w ∈ ws.take i) then some i else repW (ws.take (i + 1)) (ws.drop (i + 1)) (i + 1) := by
  obtain ⟨h1, h2⟩ := List.getElem?_eq_some_iff.mp h
  rw [List.drop_eq_getElem_cons h1, h2, List.take_add_one, h]
  rfl
/-- where a name stands -/
def posW (ws : List W) (n : Nm) : Int := match (List.range ws.length).find? (fun j => decide (ws[j]? = some (.nm n))) with
  | some j => (j : Nat)
  | none => -1
def unuOk (ws : List W) (E : Nat → Nat) (i : Nat) : W → Bool
  | .tk n => decide ((i : Int) < posW ws n) && decide (posW ws n < (E i : Nat))
  | _ => true
def unuW (ws : List W) (E : Nat → Nat) : List W → Nat → Option Nat
  | [], _ => none
  | w :: l, i => if unuOk ws E i w = true then unuW ws E l (i + 1) else some i
theorem unuW_drop {ws : List W} {E : Nat → Nat} {i : Nat} {w : W} (h : ws[i]? = some w) : unuW ws E (ws.drop i) i = if unuOk ws E i w = true then unuW ws E (ws.drop (i + 1)) (i + 1) else some i := by
  obtain ⟨h1, h2⟩ := List.getElem?_eq_some_iff.mp h
  rw [List.drop_eq_getElem_cons h1, h2]
  rfl
/-- words whose numbers of parts fit are a tree's -/
theorem wh_trees : ∀ (l : List W) {c : Nat}, Wh c (l.map needW) → ∃ ts : List T, ts.length = c ∧ ts.flatMap T.ws = l
  | [], c, h => by cases h; exact ⟨[], rfl, rfl⟩
  | w :: l, c, h => by
    cases h with
    | @cons c n ns h =>
      obtain ⟨ts, e1, e2⟩ := wh_trees l h
      cases w with
      | nm n =>
        have e1 : ts.length = c := e1
        exact ⟨.nm n :: ts, by rw [List.length_cons, e1], by rw [List.flatMap_cons, e2]; rfl⟩
      | tk n =>
        have e1 : ts.length = c + 1 := e1
        match ts, e1, e2 with
        | a :: ts, e1, e2 => exact ⟨.tk n a :: ts, by simp at e1 ⊢; omega, by rw [List.flatMap_cons] at e2 ⊢; show .tk n :: a.ws ++ _ = _; rw [← e2]; simp⟩
        | [], e1, _ => simp at e1
      | ap =>
        have e1 : ts.length = c + 2 := e1
        match ts, e1, e2 with
        | a :: b :: ts, e1, e2 => exact ⟨.ap a b :: ts, by simp at e1 ⊢; omega, by rw [List.flatMap_cons]; show .ap :: (a.ws ++ b.ws) ++ _ = _; rw [← e2, List.flatMap_cons, List.flatMap_cons]; simp⟩
        | [_], e1, _ => simp at e1
        | [], e1, _ => simp at e1
theorem wh_ends {ws : List W} (h : Wh 1 (ws.map needW)) : ∃ E, IsEnds ws E := by
  obtain ⟨ts, e1, e2⟩ := wh_trees ws h
  match ts, e1, e2 with
  | [t], _, e2 =>
    have : t.ws = ws := by rw [← e2]; simp
    exact ⟨t.e, this ▸ t.isEnds⟩
/-- what the fault of the words is, from the ends on -/
inductive WDue (ws : List W) : Option Nat → Prop where
  | mis {i : Nat} (h : misF (ws.map needW) 0 1 = some i) : WDue ws (some i)
  | rep {i : Nat} (h : misF (ws.map needW) 0 1 = none) (r : repW [] ws 0 = some i) : WDue ws (some i)
  | use (E : Nat → Nat) (h : misF (ws.map needW) 0 1 = none) (r : repW [] ws 0 = none) (e : IsEnds ws E) : WDue ws (unuW ws E ws 0)
inductive PDue (xs : List V) : Option Int → Prop where
  | size (h : xs.length = 0 ∨ 1000 < xs.length) : PDue xs (some (-1))
  | bad {i : Nat} (h : ¬ (xs.length = 0 ∨ 1000 < xs.length)) (b : badP goodW xs 0 = some i) : PDue xs (some (i : Nat))
  | words {ws : List W} {d : Option Nat} (h : ¬ (xs.length = 0 ∨ 1000 < xs.length)) (b : badP goodW xs 0 = none) (e : xs = ws.map wv) (o : ∀ w ∈ ws, wOk w) (w : WDue ws d) : PDue xs (d.map fun n => ((n : Nat) : Int))
theorem wdue_ex (ws : List W) : ∃ d, WDue ws d := by
  cases h : misF (ws.map needW) 0 1 with
  | some i => exact ⟨_, .mis h⟩
  | none =>
    cases r : repW [] ws 0 with
    | some i => exact ⟨_, .rep h r⟩
    | none =>
      obtain ⟨E, e⟩ := wh_ends (wh_mis h)
      exact ⟨_, .use E h r e⟩
theorem pdue_ex (xs : List V) : ∃ d, PDue xs d := by
  by_cases h : xs.length = 0 ∨ 1000 < xs.length
  · exact ⟨_, .size h⟩
  · cases b : badP goodW xs 0 with
    | some i => exact ⟨_, .bad h b⟩
    | none =>
      obtain ⟨ws, o, e⟩ := all_goodW (badP_none b)
      obtain ⟨d, w⟩ := wdue_ex ws
      exact ⟨_, .words h b e o w⟩
/-- an item: any thing, if a text no long one -/
structure WIt (K : PySem.W.Frag) (H : Hp) (x : V) : Prop where
  k : KIt K H x
  l : ∀ s, x = .str s → s.length ≤ 100
theorem WIt.same {K : PySem.W.Frag} {H H' : Hp} {x : V} (h : WIt K H x) (s : Same H H') : WIt K H' x := ⟨h.k.same s, h.l⟩
inductive ThP (K : PySem.W.Frag) (H : Hp) : V → Option Int → Prop where
  | no {v : V} {t : Value} (ty : TyX K H v t) (k : PySem.W.kitOne K t (.type "tuple") = some false) : ThP K H v (some (-1))
  | tup {a : Addr} {xs : List V} {d : Option Int} (h : SqT K H a xs) (i : ∀ x ∈ xs, WIt K H x) (l : xs.length ≤ 100000) (p : PDue xs d) : ThP K H (.ref a) d
theorem ThP.same {K : PySem.W.Frag} {H H' : Hp} {v : V} {d : Option Int} (h : ThP K H v d) (s : Same H H') : ThP K H' v d := by
  cases h with
  | no ty k => exact .no (tyx_mono ty (fun a o _ q => s _ _ q)) k
  | tup h i l p => exact .tup (SqT.same h s) (fun x hx => (i x hx).same s) l p
section
variable {P : Program} {w : World} {K : PySem.W.Frag} {mg : Str → Option Value} {base : Heap}
def spIsWordG (K : PySem.W.Frag) : Sp := fun vs H Q _ => ∃ x : V, vs = [x] ∧ WIt K H x ∧ ∀ H', Same H H' → Q (.bl (goodW x)) H'
theorem c_is_word__G (B : Bt mg) (D : DefAt K mg "is_word" s_is_word) (Cis_name : Cal P w K mg base "is_name" 1 ["thing"] spIsName) : Cal P w K mg base "is_word" 2 ["thing"] (spIsWordG K) := by
  refine cal_of D sc_is_word (fun _ _ _ _ _ _ us hl => match us, hl with | [_], _ => rfl) (fun vs H Q E h => ?_) (fun fa cdv A outer st0 H vs Q E hr h => ?_)
  · obtain ⟨z, rfl, _⟩ := h
    rfl
  · obtain ⟨x, rfl, it, k⟩ := h
    refine ⟨_, (pss_cons (ps_if (pt_not (pt_val (pe_callB call_isi (by rfl) B.b_isinstance (by decide +kernel) (pa_cons (pv 0) (pa_cons (pe_ty (n := "str") B.b_str (by decide +kernel)) pa_nil))))) (pss_one (ps_ret pe_bl)) pss_nil)
      (pss_one (ps_ret (pe_or (pe_cmpR op_eq (pv 0) (pe_gs B.m_GIVEN) (nomark _)) (pe_or (pe_c Cis_name (hr.mono (by decide)) (pa_cons (pv 0) pa_nil)) (pe_one (pe_and (pe_bm PySem.F.plainAttrs_str PySem.F.slot_str_startswith PySem.F.type_str_startswith mt_startswith (pv 0) (pa_cons (pe_gs B.m_TAKE) pa_nil)) (pe_one (pe_c Cis_name (hr.mono (by decide)) (pa_cons (pe_slice sl_str (pv 0) (po_some pe_int) po_none) pa_nil)))))))))), ?_⟩
    obtain ⟨t, ty, hk⟩ := it.k.ex
    refine ⟨_, rfl, _, _, _, _, _, rfl, .ty _, ty, hk, _, rfl, ?_⟩
    cases x with
    | str s =>
      have hl := it.l s rfl
      have k : ∀ H', Same H H' → Q (.bl (wordB s)) H' := k
      unfold wordB at k
      refine iteF ?_
      refine ⟨_, rfl, rfl, _, rfl, ?_⟩
      cases e1 : decide (V.str s = V.str "@") with
      | true => rw [e1] at k; exact iteT (k H (Same.refl H))
      | false =>
        rw [e1] at k
        refine iteF ⟨_, rfl, _, rfl, by omega, fun H1 S1 => ?_⟩
        cases e2 : nameB s with
        | true => rw [e2] at k; exact ⟨true, rfl, iteT (k H1 S1)⟩
        | false =>
          rw [e2] at k
          refine ⟨false, rfl, iteF ?_⟩
          refine ⟨_, rfl, rfl, _, _, rfl, rfl, ?_⟩
          cases e3 : Txt.startswith s "/" with
          | false => rw [e3] at k; exact ⟨false, rfl, iteF (k H1 S1)⟩
          | true =>
            rw [e3] at k
            refine ⟨true, rfl, iteT ?_⟩
            refine ⟨_, rfl, _, rfl, _, rfl, Nat.le_of_lt (small_lt (m := 100) hl (by decide)), ?_⟩
            refine ⟨_, rfl, ?_, fun H2 S2 => k H2 (S1.trans S2)⟩
            have := len_cut1 s
            omega
    | _ => exact iteT (k H (Same.refl H))
def spStrangerG (K : PySem.W.Frag) : Sp := fun vs H Q _ => ∃ (a : Addr) (xs : List V), vs = [.ref a] ∧ SqT K H a xs ∧ (∀ x ∈ xs, WIt K H x) ∧ ∀ H', Same H H' → Q (optV (badP goodW xs 0)) H'
theorem c_stranger_index__G (B : Bt mg) (D : DefAt K mg "stranger_index" s_stranger_index) (Cis_word : Cal P w K mg base "is_word" 2 ["thing"] (spIsWordG K)) : Cal P w K mg base "stranger_index" 3 ["things"] (spStrangerG K) := by
  refine cal_of D sc_stranger_index (fun _ _ _ _ _ _ us hl => match us, hl with | [_], _ => rfl) (fun vs H Q E h => ?_) (fun fa cdv A outer st0 H vs Q E hr h => ?_)
  · obtain ⟨a, ws, rfl, _⟩ := h
    rfl
  · obtain ⟨a, xs, rfl, hq, hi, k⟩ := h
    refine ⟨_, (pss_cons (ps_for PassesOwn.never rfl (pi_enumT (by rfl) B.b_enumerate (pa_cons (pv 0) pa_nil)) (pg_tup (by rfl) (pgs_cons (pg_name (i := 1) sc_stranger_index.nd rfl (by first | exact Or.inl rfl | exact Or.inr rfl)) (pgs_cons (pg_name (i := 2) sc_stranger_index.nd rfl (by first | exact Or.inl rfl | exact Or.inr rfl)) pgs_nil))) (pss_one (ps_if (pt_not (pt_val (pe_c Cis_word (hr.mono (by decide)) (pa_cons (pv 2) pa_nil)))) (pss_one (ps_ret (pv 1))) pss_nil)))
      (pss_one (ps_ret pe_non))), ?_⟩
    refine ⟨_, rfl, a, _, rfl, hq, for_enumT (K := K) (a := a) (xs := xs) (fun i σ H' => ∃ v1 v2 : Option V, σ = [some (.ref a), v1, v2] ∧ Same H H' ∧ badP goodW xs 0 = badP goodW (xs.drop i) i) ⟨none, none, rfl, Same.refl H, rfl⟩ (fun i σ H' _ ⟨_, _, _, s, _⟩ => SqT.same hq s) ?_ ?_⟩
    · rintro i x σ H' T hx ⟨v1, v2, rfl, S1, eb⟩ nT
      rw [badP_drop hx] at eb
      have S2 : Same H (upd H' T (.tup [.int (i : Nat), x])) := S1.trans (same_upd nT)
      refine ⟨T, _, rfl, SqT.of upd_same, rfl, _, _, rfl, _, _, rfl, rfl, ?_⟩
      refine ⟨_, rfl, x, rfl, (hi x (List.mem_of_getElem? hx)).same S2, fun H3 S3 => ?_⟩
      cases g : goodW x with
      | true =>
        rw [if_pos g] at eb
        exact ⟨true, rfl, iteF ⟨_, _, rfl, S2.trans S3, eb⟩⟩
      | false =>
        rw [if_neg (by rw [g]; decide)] at eb
        rw [eb] at k
        exact ⟨false, rfl, iteT ⟨_, rfl, k _ (S2.trans S3)⟩⟩
    · rintro σ H' ⟨v1, v2, rfl, S1, eb⟩
      rw [List.drop_length] at eb
      rw [eb] at k
      exact k H' S1
end
end Kk

set_option maxHeartbeats 4000000
/-! the faults of words -/
namespace Kk
open PySem PySem.Spec PyProof.Rows L2 Wd
theorem seenK_eq {ws : List W} (o : ∀ w ∈ ws, wOk w) {i : Nat} {w : W} (hw : ws[i]? = some w) : seenK ws i (Sum.inr (enc w)) = (!isAp w && decide (w ∈ ws.take i)) := by
  have ow := o w (List.mem_of_getElem? hw)
  unfold seenK
  rw [Bool.eq_iff_iff, List.any_eq_true, Bool.and_eq_true, decide_eq_true_eq]
  constructor
  · rintro ⟨u, hu, h⟩
    rw [Bool.and_eq_true, decide_eq_true_eq] at h
    have e : w = u := enc_inj ow (o u (List.mem_of_mem_take hu)) (Sum.inr.inj h.2)
    subst e
    exact ⟨h.1, hu⟩
  · rintro ⟨h1, h2⟩
    exact ⟨w, h2, by rw [h1, decide_eq_true rfl]; rfl⟩
theorem repW_none {ws : List W} (h : repW [] ws 0 = none) : ∀ i, i ≤ ws.length → repW (ws.take i) (ws.drop i) i = none
  | 0, _ => by rw [List.take_zero, List.drop_zero]; exact h
  | i + 1, hi => by
    have := repW_none h i (by omega)
    rw [repW_drop (List.getElem?_eq_getElem (show i < ws.length by omega))] at this
    split at this
    · cases this
    · exact this
theorem repW_once {ws : List W} (h : repW [] ws 0 = none) {i j : Nat} {w : W} (hi : ws[i]? = some w) (hj : ws[j]? = some w) (hw : isAp w = false) : i = j := by
  have key : ∀ {i j : Nat}, ws[i]? = some w → ws[j]? = some w → ¬ i < j := fun {i j} hi hj lt => by
    have hjl := (List.getElem?_eq_some_iff.mp hj).1
    have := repW_none h j (by omega)
    rw [repW_drop hj, hw] at this
    have m : w ∈ ws.take j := List.mem_iff_getElem?.mpr ⟨i, by rw [List.getElem?_take, if_pos lt]; exact hi⟩
    rw [decide_eq_true m] at this
    cases this
  have := key hi hj
  have := key hj hi
  omega
/-- where names stand, among the first i words, and which don't -/
structure PlacesG (ws : List W) (i : Nat) (kvs : List (Key × V)) : Prop where
  l : kvs.length ≤ i
  a : ∀ j n, j < i → ws[j]? = some (.nm n) → valV kvs (Sum.inr (str n)) = some (.int (j : Nat))
  b : ∀ n, nmOk n → (∀ j, j < i → ws[j]? ≠ some (.nm n)) → valV kvs (Sum.inr (str n)) = none
theorem PlacesG.put {ws : List W} (o : ∀ w ∈ ws, wOk w) (r : repW [] ws 0 = none) {i : Nat} {w : W} {kvs : List (Key × V)} (hw : ws[i]? = some w) (p : PlacesG ws i kvs) : PlacesG ws (i + 1) (putK kvs (Sum.inr (enc w)) (.int (i : Nat))) := by
  have ow := o w (List.mem_of_getElem? hw)
  refine ⟨by have := length_putK kvs (Sum.inr (enc w)) (.int (i : Nat)); have := p.l; omega, fun j n hj hn => ?_, fun n on hn => ?_⟩
  · rw [valV_put]
    by_cases e : (Sum.inr (str n) : Key) = Sum.inr (enc w)
    · rw [if_pos e]
      have e2 : W.nm n = w := enc_inj (o _ (List.mem_of_getElem? hn)) ow (Sum.inr.inj e)
      subst e2
      have := repW_once r hn hw rfl
      subst this
      rfl
    · rw [if_neg e]
      refine p.a j n ?_ hn
      have : j ≠ i := by
        rintro rfl
        rw [hw] at hn
        cases hn
        exact e rfl
      omega
  · rw [valV_put]
    by_cases e : (Sum.inr (str n) : Key) = Sum.inr (enc w)
    · have e2 : W.nm n = w := enc_inj (a := .nm n) on ow (Sum.inr.inj e)
      subst e2
      exact absurd hw (hn i (by omega))
    · rw [if_neg e]
      exact p.b n on fun j hj => hn j (by omega)
theorem PlacesG.pos {ws : List W} {kvs : List (Key × V)} (p : PlacesG ws ws.length kvs) {n : Nm} (on : nmOk n) : (valV kvs (Sum.inr (str n)) = some (.int (posW ws n))) ∨ (valV kvs (Sum.inr (str n)) = none ∧ posW ws n = -1) := by
  unfold posW
  cases e : (List.range ws.length).find? (fun j => decide (ws[j]? = some (.nm n))) with
  | some j =>
    have h0 := List.find?_some e
    have h : ws[j]? = some (W.nm n) := by simpa using h0
    exact .inl (p.a j n (List.getElem?_eq_some_iff.mp h).1 h)
  | none =>
    have h := List.find?_eq_none.mp e
    exact .inr ⟨p.b n on fun j hj => fun z => h j (List.mem_range.mpr hj) (decide_eq_true z), rfl⟩
section
variable {P : Program} {w : World} {K : PySem.W.Frag} {mg : Str → Option Value} {base : Heap}
def spRepG (K : PySem.W.Frag) : Sp := fun vs H Q _ => ∃ (a : Addr) (ws : List W), vs = [.ref a] ∧ SqT K H a (ws.map wv) ∧ (∀ w ∈ ws, wOk w) ∧ ws.length ≤ 1000 ∧ ∀ H', Same H H' → Q (optV (repW [] ws 0)) H'
theorem c_repeated_index__G (B : Bt mg) (D : DefAt K mg "repeated_index" s_repeated_index) : Cal P w K mg base "repeated_index" 1 ["words"] (spRepG K) := by
  refine cal_of D sc_repeated_index (fun _ _ _ _ _ _ us hl => match us, hl with | [_], _ => rfl) (fun vs H Q E h => ?_) (fun fa cdv A outer st0 H vs Q E hr h => ?_)
  · obtain ⟨a, ws, rfl, _⟩ := h
    rfl
  · obtain ⟨a, ws, rfl, hq, ok, hl, k⟩ := h
    refine ⟨_, (pss_cons (ps_set (i := 1) sc_repeated_index.nd rfl (by first | exact Or.inl rfl | exact Or.inr rfl) (pe_callTy0 cr_set0K (by rfl) B.b_set (by decide +kernel)))
      (pss_cons (ps_for PassesOwn.never rfl (pi_enumT (by rfl) B.b_enumerate (pa_cons (pv 0) pa_nil)) (pg_tup (by rfl) (pgs_cons (pg_name (i := 2) sc_repeated_index.nd rfl (by first | exact Or.inl rfl | exact Or.inr rfl)) (pgs_cons (pg_name (i := 3) sc_repeated_index.nd rfl (by first | exact Or.inl rfl | exact Or.inr rfl)) pgs_nil))) (pss_cons (ps_if (pt_cmpR or_sinK (pv 3) (pv 1) (by rfl)) (pss_one (ps_ret (pv 2))) pss_nil)
      (pss_one (ps_if (pt_cmpR op_ne (pv 3) (pe_gs B.m_GIVEN) (nomark _)) (pss_one (ps_expr (pe_saddK (pv 1) (pa_cons (pv 3) pa_nil)))) pss_nil))))
      (pss_one (ps_ret pe_non)))), ?_⟩
    refine ⟨rfl, fun S nS => ?_⟩
    refine ⟨_, rfl, a, _, rfl, SqT.same hq (same_upd nS), for_enumT (K := K) (a := a) (xs := ws.map wv) (fun i σ H' => ∃ (v1 v2 : Option V) (c : Nat), σ = [some (.ref a), some (.ref S), v1, v2] ∧ Same H H' ∧ c ≤ i ∧ H' S = some (SetK P w S (seenK ws i) c) ∧ repW [] ws 0 = repW (ws.take i) (ws.drop i) i)
      ⟨none, none, 0, rfl, same_upd nS, Nat.le_refl _, upd_same, rfl⟩ (fun i σ H' _ ⟨_, _, _, _, s, _⟩ => SqT.same hq s) ?_ ?_⟩
    · rintro i x σ H' T hx ⟨v1, v2, c, rfl, S1, hc, L1, er⟩ nT
      obtain ⟨w', hw, rfl⟩ := map_get hx
      have hi := Wd.T.lt_of_get hw
      have ow := ok w' (List.mem_of_getElem? hw)
      rw [repW_drop hw, ← seenK_eq ok hw] at er
      have S2 : Same H (upd H' T (.tup [.int (i : Nat), wv w'])) := S1.trans (same_upd nT)
      have L2 : upd H' T (.tup [.int (i : Nat), wv w']) S = _ := same_upd nT _ _ L1
      refine ⟨T, _, rfl, SqT.of upd_same, rfl, _, _, rfl, _, _, rfl, rfl, ?_⟩
      generalize upd H' T (.tup [.int (i : Nat), wv w']) = H2 at *
      refine ⟨_, rfl, _, rfl, Sum.inr (enc w'), S, _, c, rfl, rfl, L2, _, rfl, ?_⟩
      show if (seenK ws i (Sum.inr (enc w'))) = true then _ else _
      cases hsn : seenK ws i (Sum.inr (enc w')) with
      | true =>
        rw [if_pos hsn] at er
        rw [er] at k
        exact iteT ⟨_, rfl, k _ S2⟩
      | false =>
      rw [if_neg (by rw [hsn]; decide)] at er
      refine iteF ⟨_, rfl, rfl, _, rfl, ?_⟩
      rw [is_ap ow]
      have hst : seenK ws (i + 1) = fun k => (seenK ws i k || (!isAp w' && decide (k = Sum.inr (enc w')))) := funext (seenK_step hw)
      cases hap : isAp w' with
      | true =>
        refine iteF ?_
        refine ⟨_, _, c, rfl, S2, by omega, ?_, er⟩
        rw [hst, hap]
        have e : (fun k : Key => (seenK ws i k || (!true && decide (k = Sum.inr (enc w'))))) = seenK ws i := by funext k; simp
        rw [e]; exact L2
      | false =>
        refine iteT ?_
        refine ⟨_, rfl, ⟨_, _, _, rfl, L2⟩, _, rfl, S, Sum.inr (enc w'), _, c, rfl, rfl, L2, ?_, ?_⟩
        · show c + 1 < 4096; omega
        · have ns : ∀ b o, H b = some o → b ≠ S := fun b o hb => ne_of_none hb nS
          refine ⟨some (.int (i : Nat)), some (wv w'), if seenK ws i (Sum.inr (enc w')) = true then c else c + 1, rfl, fun b o hb => by rw [upd_ne (ns b o hb)]; exact S2 b o hb, ?_, ?_, er⟩
          · split <;> omega
          · rw [upd_same, hst, hap]
            have e : (fun k : Key => (seenK ws i k || (!false && decide (k = Sum.inr (enc w'))))) = fun j => seenK ws i j || decide (j = Sum.inr (enc w')) := by funext k; simp
            rw [e]
            rfl
    · rintro σ H' ⟨v1, v2, c, rfl, S1, _, _, er⟩
      rw [List.length_map, List.drop_length] at er
      have er : repW [] ws 0 = none := er
      rw [er] at k
      exact k H' S1
def spEndsG (K : PySem.W.Frag) : Sp := fun vs H Q _ => ∃ (a : Addr) (ws : List W) (E : Nat → Nat), vs = [.ref a] ∧ SqT K H a (ws.map wv) ∧ (∀ w ∈ ws, wOk w) ∧ IsEnds ws E ∧ ws.length ≤ 4000 ∧
  ∀ H' q, Same H H' → H q = none → TupF H' q (endsV ws.length E) → Q (.ref q) H'
theorem c_ends_of__G (B : Bt mg) (D : DefAt K mg "ends_of" s_ends_of) (Cparts_in : Cal P w K mg base "parts_in" 1 ["word"] spPartsIn) (Cends_by : Cal P w K mg base "ends_by" 1 ["needs"] (spEndsBy K)) : Cal P w K mg base "ends_of" 2 ["words"] (spEndsG K) := by
  refine cal_of D sc_ends_of (fun _ _ _ _ _ _ us hl => match us, hl with | [_], _ => rfl) (fun vs H Q E h => ?_) (fun fa cdv A outer st0 H vs Q E hr h => ?_)
  · obtain ⟨a, ws, E, rfl, _⟩ := h
    rfl
  · obtain ⟨a, ws, E, rfl, hq, ok, he, hl, k⟩ := h
    refine ⟨_, (pss_one (ps_ret (pe_c Cends_by (hr.mono (by decide)) (pa_cons (pe_lc (own := [("word", 1)]) (g := (gName 1)) (tt := tYes) rfl sc_ends_of.nd (pi_tup (pv 0)) (blkOk_by (own := [("word", 1)]) (N := ["words", "word"]) (sc := defScope s_ends_of) (by decide +kernel)) (fun _ _ _ _ _ => (pg_name (i := 1) sc_ends_of.nd rfl (by first | exact Or.inl rfl | exact Or.inr rfl))) (fun _ _ _ _ _ => pts_nil) (fun _ _ _ _ _ => (pe_c Cparts_in (hr.mono (by decide)) (pa_cons (pv 1) pa_nil)))) pa_nil)))), ?_⟩
    refine ⟨_, rfl, a, rfl, ⟨_, hq⟩, fun D nD => lc_fmT (f := wv) (r := fun w => some (nv (needW w))) hq nD (Nat.le_trans hl (by decide)) ?_ ?_⟩
    · rintro i w' H' Qy Qn hw S1 hy hn
      refine ⟨rfl, _, rfl, w', rfl, ok w' (List.mem_of_getElem? hw), fun H2 S2 => hy _ _ S2 rfl⟩
    · rintro H1 S1 L1
      rw [needs_map] at L1
      refine ⟨D, ws.map needW, E, rfl, SqL.of L1, he.needs, by rw [List.length_map]; exact Nat.le_trans hl (by decide), fun H2 q S2 n2 T2 => ?_⟩
      rw [List.length_map] at T2
      exact k H2 q (S1.trans S2) (S1.free n2) T2
def spUnuG (K : PySem.W.Frag) : Sp := fun vs H Q _ => ∃ (a : Addr) (ws : List W) (E : Nat → Nat), vs = [.ref a] ∧ SqT K H a (ws.map wv) ∧ (∀ w ∈ ws, wOk w) ∧ IsEnds ws E ∧ repW [] ws 0 = none ∧ ws.length ≤ 1000 ∧ ∀ H', Same H H' → Q (optV (unuW ws E ws 0)) H'
theorem c_unused_index__G (B : Bt mg) (D : DefAt K mg "unused_index" s_unused_index) (Cends_of : Cal P w K mg base "ends_of" 2 ["words"] (spEndsG K)) : Cal P w K mg base "unused_index" 3 ["words"] (spUnuG K) := by
  refine cal_of D sc_unused_index (fun _ _ _ _ _ _ us hl => match us, hl with | [_], _ => rfl) (fun vs H Q E h => ?_) (fun fa cdv A outer st0 H vs Q E hr h => ?_)
  · obtain ⟨a, ws, EE, rfl, _⟩ := h
    rfl
  · obtain ⟨a, ws, EE, rfl, hq, ok, he, r0, hl, k⟩ := h
    refine ⟨_, (pss_cons (ps_setDc (i := 1) (own := [("at", 2), ("word", 3)]) (g := (gTup K 2 (gCons (gName 2) (gCons (gName 3) gNil)))) (tt := tYes) rfl sc_unused_index.nd rfl rfl (sw_dict rfl rfl rfl (by decide +kernel)) (pi_enumT (by rfl) B.b_enumerate (pa_cons (pv 0) pa_nil)) (blkOk_by (own := [("at", 2), ("word", 3)]) (N := ["words", "places", "at", "word", "behind"]) (sc := defScope s_unused_index) (by decide +kernel)) (fun _ _ _ _ _ => by exact (pg_tup (by rfl) (pgs_cons (pg_name (i := 2) sc_unused_index.nd rfl (by first | exact Or.inl rfl | exact Or.inr rfl)) (pgs_cons (pg_name (i := 3) sc_unused_index.nd rfl (by first | exact Or.inl rfl | exact Or.inr rfl)) pgs_nil)))) (fun _ _ _ _ _ => pts_nil) (fun _ _ _ _ _ => by exact (pv 3)) (fun _ _ _ _ _ => by exact (pv 2)))
      (pss_cons (ps_set (i := 4) sc_unused_index.nd rfl (by first | exact Or.inl rfl | exact Or.inr rfl) (pe_c Cends_of (hr.mono (by decide)) (pa_cons (pv 0) pa_nil)))
      (pss_cons (ps_for PassesOwn.never rfl (pi_enumT (by rfl) B.b_enumerate (pa_cons (pv 0) pa_nil)) (pg_tup (by rfl) (pgs_cons (pg_name (i := 2) sc_unused_index.nd rfl (by first | exact Or.inl rfl | exact Or.inr rfl)) (pgs_cons (pg_name (i := 3) sc_unused_index.nd rfl (by first | exact Or.inl rfl | exact Or.inr rfl)) pgs_nil))) (pss_one (ps_if (PW.pt (pw_and (pt_val (pe_bm PySem.F.plainAttrs_str PySem.F.slot_str_startswith PySem.F.type_str_startswith mt_startswith (pv 3) (pa_cons (pe_gs B.m_TAKE) pa_nil))) (pw_and1 (pt_not (pt_chain op_lt op_lt (pv 2) (pe_dget2 (hu_of hr) (pv 1) (pe_slice sl_str (pv 3) (po_some pe_int) po_none) (pe_un un_neg pe_int) ⟨by rfl, by rfl, by rfl, by rfl⟩) (pe_ix ix_tup (pv 4) (pv 2) (fun _ _ => rfl))))))) (pss_one (ps_ret (pv 2))) pss_nil)))
      (pss_one (ps_ret pe_non))))), ?_⟩
    have hlm : (ws.map wv).length = ws.length := List.length_map ..
    refine ⟨_, rfl, a, _, rfl, hq, fun D nD => dc_enumT (K := K) (a := a) (xs := ws.map wv) (fun i H' => Same H H' ∧ ∃ kvs, H' D = some (.dK kvs) ∧ PlacesG ws i kvs)
      ⟨same_upd nD, [], upd_same, Nat.le_refl _, fun j n hj => absurd hj (by omega), fun n _ _ => rfl⟩ (fun i H' _ ⟨s, _⟩ => SqT.same hq s) ?_ ?_⟩
    · rintro i x H' T hx ⟨S1, kvs, L1, p⟩ nT
      obtain ⟨w', hw, rfl⟩ := map_get hx
      have hi := Wd.T.lt_of_get hw
      refine ⟨T, _, rfl, SqT.of upd_same, rfl, _, _, rfl, _, _, rfl, rfl, ?_⟩
      refine ⟨rfl, _, rfl, _, rfl, kvs, Sum.inr (enc w'), rfl, same_upd nT _ _ L1, ?_, ?_⟩
      · have := p.l
        exact small_lt (m := 1000) (by omega) (by decide)
      · have nd : ∀ b o, H b = some o → b ≠ D := fun b o hb => ne_of_none hb nD
        exact ⟨fun b o hb => by rw [upd_ne (nd b o hb)]; exact same_upd nT _ _ (S1 b o hb), _, upd_same, p.put ok r0 hw⟩
    · rintro H1 ⟨S1, kvs, L1, p⟩
      rw [hlm] at p
      refine ⟨_, rfl, a, ws, EE, rfl, SqT.same hq S1, ok, he, Nat.le_trans hl (by decide), fun H2 q S2 _ T2 => ?_⟩
      have L2 := S2 _ _ L1
      have S3 := S1.trans S2
      refine ⟨_, rfl, a, _, rfl, SqT.same hq S3, for_enumT (K := K) (a := a) (xs := ws.map wv) (fun i σ H' => ∃ v1 v2 : Option V, σ = [some (.ref a), some (.ref D), v1, v2, some (.ref q)] ∧ Same H2 H' ∧ unuW ws EE ws 0 = unuW ws EE (ws.drop i) i) ⟨_, _, rfl, Same.refl H2, rfl⟩ (fun i σ H' _ ⟨_, _, _, s, _⟩ => SqT.same hq (S3.trans s)) ?_ ?_⟩
      · rintro i x σ H' T hx ⟨v1, v2, rfl, S4, eu⟩ nT
        obtain ⟨w', hw, rfl⟩ := map_get hx
        have hi := Wd.T.lt_of_get hw
        have hk := ok w' (List.mem_of_getElem? hw)
        rw [unuW_drop hw] at eu
        have S5 : Same H2 (upd H' T (.tup [.int (i : Nat), wv w'])) := S4.trans (same_upd nT)
        refine ⟨T, _, rfl, SqT.of upd_same, rfl, _, _, rfl, _, _, rfl, rfl, ?_⟩
        generalize upd H' T (.tup [.int (i : Nat), wv w']) = H5 at *
        refine ⟨_, rfl, rfl, _, _, rfl, rfl, ?_⟩
        rw [starts_tk hk]
        refine ⟨_, rfl, ?_⟩
        cases w' with
        | ap => exact iteF (iteF ⟨_, _, rfl, S5, eu⟩)
        | nm n => exact iteF (iteF ⟨_, _, rfl, S5, eu⟩)
        | tk n =>
          have L5 := S5 _ _ L2
          refine iteT ?_
          refine ⟨_, rfl, _, rfl, D, rfl, .inl ⟨kvs, .inl L5⟩, _, rfl, _, rfl, _, rfl, Nat.le_of_lt (small_lt (m := 9) (len_enc hk) (by decide)), ?_⟩
          rw [cut1]
          have eu : unuW ws EE ws 0 = if (decide ((i : Int) < posW ws n) && decide (posW ws n < (EE i : Nat))) = true then unuW ws EE (ws.drop (i + 1)) (i + 1) else some i := eu
          have bad : (decide ((i : Int) < posW ws n) && decide (posW ws n < (EE i : Nat))) = false → Q (.int (i : Nat)) H5 := fun z => by
            rw [if_neg (by rw [z]; decide)] at eu
            rw [eu] at k
            exact k H5 (S3.trans S5)
          have good : (decide ((i : Int) < posW ws n) && decide (posW ws n < (EE i : Nat))) = true → unuW ws EE ws 0 = unuW ws EE (ws.drop (i + 1)) (i + 1) := fun z => by
            rw [if_pos z] at eu
            exact eu
          rcases p.pos hk with hv | ⟨hv, hp⟩
          · generalize posW ws n = u at *
            refine ⟨_, rfl, some (.int u), by rw [← hv]; exact DGet.k (k := Sum.inr (str n)) L5, ?_⟩
            refine ⟨_, _, rfl, rfl, _, rfl, ?_⟩
            cases d1 : decide ((i : Int) < u) with
            | false =>
              refine iteF ⟨_, rfl, iteT ⟨_, rfl, bad (by rw [d1]; rfl)⟩⟩
            | true =>
              refine iteT ⟨_, rfl, _, rfl, q, _, _, _, rfl, rfl, (T2.same S5).sq, atI_nat (endsV_get hi), _, _, rfl, rfl, ?_⟩
              cases d2 : decide (u < ((EE i : Nat) : Int)) with
              | true => exact ⟨true, congrArg V.bl d2, iteF ⟨_, _, rfl, S5, good (by rw [d1, d2]; rfl)⟩⟩
              | false => exact ⟨false, congrArg V.bl d2, iteT ⟨_, rfl, bad (by rw [d1, d2]; rfl)⟩⟩
          · refine ⟨_, rfl, none, by rw [← hv]; exact DGet.k (k := Sum.inr (str n)) L5, ?_⟩
            refine ⟨_, _, rfl, rfl, _, rfl, ?_⟩
            rw [decide_eq_false (show ¬ ((i : Nat) : Int) < -1 by omega)]
            refine iteF ⟨_, rfl, iteT ⟨_, rfl, bad ?_⟩⟩
            rw [hp, decide_eq_false (show ¬ ((i : Nat) : Int) < -1 by omega)]
            rfl
      · rintro σ H' ⟨v1, v2, rfl, S4, eu⟩
        rw [hlm, List.drop_length] at eu
        have eu : unuW ws EE ws 0 = none := eu
        rw [eu] at k
        exact k H' (S3.trans S4)
def spFaultP (K : PySem.W.Frag) : Sp := fun vs H Q _ => ∃ (v : V) (d : Option Int), vs = [v] ∧ ThP K H v d ∧ ∀ H', Same H H' → Q (optI d) H'
theorem c_fault_index_programs__G (B : Bt mg) (D : DefAt K mg "fault_index_programs" s_fault_index_programs "fault_index") (Cstranger_index : Cal P w K mg base "stranger_index" 3 ["things"] (spStrangerG K)) (Cparts_in : Cal P w K mg base "parts_in" 1 ["word"] spPartsIn) (Cmisfit_index : Cal P w K mg base "misfit_index" 1 ["needs"] (spMisfit K))
    (Crepeated_index : Cal P w K mg base "repeated_index" 1 ["words"] (spRepG K)) (Cunused_index : Cal P w K mg base "unused_index" 3 ["words"] (spUnuG K)) : Cal P w K mg base "fault_index_programs" 4 ["words"] (spFaultP K) := by
  refine cal_of D sc_fault_index_programs (fun _ _ _ _ _ _ us hl => match us, hl with | [_], _ => rfl) (fun vs H Q E h => ?_) (fun fa cdv A outer st0 H vs Q E hr h => ?_)
  · obtain ⟨v, d, rfl, _⟩ := h
    rfl
  · obtain ⟨v, d, rfl, th, k⟩ := h
    refine ⟨_, (pss_cons (ps_if (PW.pt (pw_or (pt_not (pt_val (pe_callB call_isi (by rfl) B.b_isinstance (by decide +kernel) (pa_cons (pv 0) (pa_cons (pe_ty (n := "tuple") B.b_tuple (by decide +kernel)) pa_nil))))) (pw_or1 (pt_not (pt_chain op_le op_le pe_int (pe_callB call_len_seq (by rfl) B.b_len (by decide +kernel) (pa_cons (pv 0) pa_nil)) (pe_gi B.m_MOST_WORDS_programs)))))) (pss_one (ps_ret (pe_un un_neg pe_int))) pss_nil)
      (pss_cons (ps_set (i := 1) sc_fault_index_programs.nd rfl (by first | exact Or.inl rfl | exact Or.inr rfl) (pe_c Cstranger_index (hr.mono (by decide)) (pa_cons (pv 0) pa_nil)))
      (pss_cons (ps_if (pt_cmpR op_isN (pv 1) pe_non (nomark _)) (pss_one (ps_set (i := 1) sc_fault_index_programs.nd rfl (by first | exact Or.inl rfl | exact Or.inr rfl) (pe_c Cmisfit_index (hr.mono (by decide)) (pa_cons (pe_lc (own := [("word", 2)]) (g := (gName 2)) (tt := tYes) rfl sc_fault_index_programs.nd (pi_tup (pv 0)) (blkOk_by (own := [("word", 2)]) (N := ["words", "index", "word"]) (sc := defScope s_fault_index_programs) (by decide +kernel)) (fun _ _ _ _ _ => (pg_name (i := 2) sc_fault_index_programs.nd rfl (by first | exact Or.inl rfl | exact Or.inr rfl))) (fun _ _ _ _ _ => pts_nil) (fun _ _ _ _ _ => (pe_c Cparts_in (hr.mono (by decide)) (pa_cons (pv 2) pa_nil)))) pa_nil)))) pss_nil)
      (pss_cons (ps_if (pt_cmpR op_isN (pv 1) pe_non (nomark _)) (pss_one (ps_set (i := 1) sc_fault_index_programs.nd rfl (by first | exact Or.inl rfl | exact Or.inr rfl) (pe_c Crepeated_index (hr.mono (by decide)) (pa_cons (pv 0) pa_nil)))) pss_nil)
      (pss_cons (ps_if (pt_cmpR op_isN (pv 1) pe_non (nomark _)) (pss_one (ps_set (i := 1) sc_fault_index_programs.nd rfl (by first | exact Or.inl rfl | exact Or.inr rfl) (pe_c Cunused_index (hr.mono (by decide)) (pa_cons (pv 0) pa_nil)))) pss_nil)
      (pss_one (ps_ret (pv 1)))))))), ?_⟩
    cases th with
    | no ty hk =>
      refine ⟨_, rfl, _, _, _, _, false, rfl, .ty _, ty, hk, _, rfl, iteT ?_⟩
      exact ⟨_, rfl, k H (Same.refl H)⟩
    | @tup a xs _ hq hi _ pd =>
    refine ⟨_, rfl, _, _, _, _, true, rfl, .ty _, tyx_tup hq, kit_ty kitTT, _, rfl, iteF ?_⟩
    refine ⟨_, rfl, _, _, rfl, .inr hq, _, _, rfl, rfl, _, rfl, ?_⟩
    have size : (xs.length = 0 ∨ 1000 < xs.length) → d = some (-1) := fun h => by
      cases pd with
      | size _ => rfl
      | bad z _ => exact absurd h z
      | words z _ _ _ _ => exact absurd h z
    by_cases h1 : xs.length = 0
    · rw [decide_eq_false (show ¬ (1 : Int) ≤ (xs.length : Nat) by omega)]
      rw [size (.inl h1)] at k
      refine iteF ?_
      exact ⟨_, rfl, iteT ⟨_, rfl, k H (Same.refl H)⟩⟩
    rw [decide_eq_true (show (1 : Int) ≤ (xs.length : Nat) by omega)]
    refine iteT ⟨_, _, rfl, rfl, _, rfl, ?_⟩
    by_cases h2 : 1000 < xs.length
    · rw [decide_eq_false (show ¬ ((xs.length : Nat) : Int) ≤ 1000 by omega)]
      rw [size (.inr h2)] at k
      exact iteT ⟨_, rfl, k H (Same.refl H)⟩
    rw [decide_eq_true (show ((xs.length : Nat) : Int) ≤ 1000 by omega)]
    refine iteF ?_
    refine ⟨_, rfl, a, xs, rfl, hq, hi, fun H1 S1 => ?_⟩
    cases pd with
    | size h => exact absurd h (by omega)
    | @bad i _ b =>
      rw [b]
      refine ⟨_, rfl, rfl, _, rfl, iteF ?_⟩
      refine ⟨_, rfl, rfl, _, rfl, iteF ?_⟩
      refine ⟨_, rfl, rfl, _, rfl, iteF ?_⟩
      exact ⟨_, rfl, k H1 S1⟩
    | @words ws d' _ b e ok wd =>
      subst e
      rw [b]
      have hlm : (ws.map wv).length = ws.length := List.length_map ..
      have hl : ws.length ≤ 1000 := by omega
      refine ⟨_, rfl, rfl, _, rfl, iteT ?_⟩
      refine ⟨_, rfl, a, rfl, ⟨_, SqT.same hq S1⟩, fun Dl nDl => lc_fmT (f := wv) (r := fun w => some (nv (needW w))) (SqT.same hq S1) nDl (Nat.le_trans hl (by decide)) ?_ ?_⟩
      · rintro i w' H' Qy Qn hw S1' hy hn
        refine ⟨rfl, _, rfl, w', rfl, ok w' (List.mem_of_getElem? hw), fun H2 S2 => hy _ _ S2 rfl⟩
      rintro H1' S1' L1'
      rw [needs_map] at L1'
      refine ⟨Dl, ws.map needW, rfl, SqL.of L1', by rw [List.length_map]; exact Nat.le_trans hl (by decide), fun H2 S2 => ?_⟩
      have S12 := S1.trans (S1'.trans S2)
      rw [optI_nat] at k
      cases wd with
      | @mis i h =>
        rw [h]
        refine ⟨_, rfl, rfl, _, rfl, iteF ?_⟩
        refine ⟨_, rfl, rfl, _, rfl, iteF ?_⟩
        exact ⟨_, rfl, k H2 S12⟩
      | @rep i h r =>
        rw [h]
        refine ⟨_, rfl, rfl, _, rfl, iteT ?_⟩
        refine ⟨_, rfl, a, ws, rfl, SqT.same hq S12, ok, hl, fun H3 S3 => ?_⟩
        rw [r]
        refine ⟨_, rfl, rfl, _, rfl, iteF ?_⟩
        exact ⟨_, rfl, k H3 (S12.trans S3)⟩
      | use E' h r e =>
        rw [h]
        refine ⟨_, rfl, rfl, _, rfl, iteT ?_⟩
        refine ⟨_, rfl, a, ws, rfl, SqT.same hq S12, ok, hl, fun H3 S3 => ?_⟩
        have S13 := S12.trans S3
        rw [r]
        refine ⟨_, rfl, rfl, _, rfl, iteT ?_⟩
        refine ⟨_, rfl, a, ws, E', rfl, SqT.same hq S13, ok, e, r, hl, fun H4 S4 => ?_⟩
        exact ⟨_, rfl, k H4 (S13.trans S4)⟩
end
end Kk

set_option maxHeartbeats 4000000
/-! programs made of any thing, and compared -/
namespace Kk
open PySem PySem.Spec PyProof.Rows L2 Wd
/-- a Kind at x, its words ks -/
def PgW (K : PySem.W.Frag) (C : Addr) (H : Hp) (x : Addr) (ks : List W) : Prop := ∃ a, Pg C H x a ∧ SqT K H a (ks.map wv) ∧ ∀ w ∈ ks, wOk w
theorem PgW.same {K : PySem.W.Frag} {C : Addr} {H H' : Hp} {x : Addr} {ks : List W} (h : PgW K C H x ks) (s : Same H H') : PgW K C H' x ks := by
  obtain ⟨a, h1, h2, h3⟩ := h
  exact ⟨a, h1.same s, SqT.same h2 s, h3⟩
/-- a thing and whether it is the kind of these words -/
inductive OthP (K : PySem.W.Frag) (C : Addr) (H : Hp) (ks : List W) : V → Bool → Prop where
  | kd {z : Addr} {us : List W} (h : PgW K C H z us) : OthP K C H ks (.ref z) (decide (ks = us))
  | no {y : V} {t : Value} (ty : TyX K H y t) (k : PySem.W.kitOne K t (.ref C) = some false) (n : PySem.W.notFirst K C t = true) : OthP K C H ks y false
def rEqPX (K : PySem.W.Frag) (C : Addr) : R2 := fun x y H Q => ∃ (a : Addr) (ks : List W) (b : Bool), x = .ref a ∧ PgW K C H a ks ∧ OthP K C H ks y b ∧ Q (.bl b) H
def rNePX (K : PySem.W.Frag) (C : Addr) : R2 := fun x y H Q => ∃ (a c : Addr) (ks us : List W), x = .ref a ∧ y = .ref c ∧ PgW K C H a ks ∧ PgW K C H c us ∧ Q (.bl (!decide (ks = us))) H
def spEqPX (K : PySem.W.Frag) (C : Addr) : Sp := fun vs H Q _ => ∃ (x : Addr) (y : V) (ks : List W) (b : Bool), vs = [.ref x, y] ∧ PgW K C H x ks ∧ OthP K C H ks y b ∧ Q (.bl b) H
structure EqrPX (P : Program) (w : World) (K : PySem.W.Frag) (mg : Str → Option Value) (base : Heap) (C : Addr) : Prop where
  ex : ∃ f fd, PySem.W.findIn K (.ref C) "__eq__" = some (some (.ref f)) ∧ PySem.W.isFn K (.ref f) = true ∧ Binds K fd ["self", "other"] [] ∧ FnOk P w K mg base CX0 1 f fd ["self", "other"] (spEqPX K C)
theorem oth_tyP {K : PySem.W.Frag} {mg : Str → Option Value} {C : Addr} {H : Hp} {ks : List W} {y : V} {b : Bool} (pc : PC K mg C) (h : OthP K C H ks y b) : ∃ t, TyX K H y t ∧ PySem.W.notFirst K C t = true := by
  cases h with
  | kd h =>
    obtain ⟨a, ⟨dx, e⟩, _⟩ := h
    exact ⟨_, .base (.ins e pc.cl pc.ha pc.hn pc.ht pc.hm), by simp [PySem.W.notFirst]⟩
  | no ty k n => exact ⟨_, ty, n⟩
theorem op_eqPX {X : Cx} {C : Addr} (pc : PC X.K X.mg C) (EQ : EqrPX X.prog X.w X.K X.mg X.base C) (hr : Room 1 X.A) : OpR X (compareOp .Eq) (rEqPX X.K C) := by
  obtain ⟨f, fd, hs, hf, hb, F⟩ := EQ
  intro pins s σ H x y v u Q I rx ry d
  obtain ⟨a, ks, b, rfl, hx, ho, q⟩ := d
  cases rx
  obtain ⟨t, ty, nf⟩ := oth_tyP pc ho
  obtain ⟨Pk, kx, hP, _⟩ := kit_of I ry ty
  obtain ⟨aw, ⟨dx, ha⟩, _⟩ := id hx
  obtain ⟨mA, J, _⟩ := ins_get I.hok ha
  obtain ⟨od, J, _⟩ := J.look
  obtain ⟨m, hF⟩ := I.fr
  show wpAny (model X.prog X.w) X.A (richCompare .Eq (.ref a) u) (EP X pins σ Q) X.xe s
  have hsp : spEqPX X.K C [.ref a, y] H (fun v H' => (∃ c, v = .bl c) ∧ Q v H') E0 := ⟨a, y, ks, b, rfl, hx, ho, ⟨_, rfl⟩, q⟩
  refine PySem.W.cmp_K (op := .Eq) (tb := t) hr.units0 hF I.ok.mod.kin J (kx.ty _ _ I.kIn hP) nf hs hf ?_
  have e0 : Env0 X.prog X.w X.K X.mg X.base X.A X.stack s H := I.env0
  have r2 : Vals [V.ref a, y] [Value.ref a, u] := .cons rfl (.cons ry .nil)
  refine wpAny_call (codeAny_mono (F.run X.A X.stack s H ⟨[.ref a, u], []⟩ [.ref a, u] [.ref a, y] _ E0 hr e0 (by
    have := hb s [.ref a, u] I.kIn rfl
    simpa using this) r2 hsp) fun r s' hq => ?_)
  cases r with
  | error e => exact pass0 pins σ H s e s' I hq
  | ok fl =>
    cases fl with
    | ret w =>
      obtain ⟨z, H', I', rz, ⟨c, ez⟩, ex⟩ := I.after hq
      subst ez
      cases rz
      exact ⟨.bl c, H', I', rfl, ex⟩
    | next => exact False.elim hq
    | brk => exact False.elim hq
    | cont => exact False.elim hq
theorem ifBound_BP {M : Model} {A : Around} {E : Value → Shared → Prop} {s : Shared} {K : PySem.W.Frag} {x C : Addr} {ox : Obj} {od : Option Obj} {name : Str} {id : String} {args : List Value} {Q : Option Value → Shared → Prop} (X : K.In s.heap) (I : PySem.W.InstAt s.heap x ox C od)
    (hs : PySem.W.findIn K (.ref C) name = some (some (.builtin id))) (hb : ∀ self, bindSpecial (.builtin id) self = pure (.builtin id, [self])) (h : wpAny M A (call (.builtin id) (.ref x :: args)) (fun v => Q (some v)) E s) : wpAny M A (callSpecialIfBound? (.ref x) name args) Q E s := by
  simp only [callSpecialIfBound?, bindSpecialIfBound?]
  refine wpAny_holding (wpAny_bind (wpAny_bind (wpAny_bind (I.type.here ((PySem.W.looks_findIn X hs).here ?_)))))
  refine wpAny_bind (wpAny_askSetting (wpAny_ite ?_))
  have fin : wpAny M A (call (.builtin id) ([.ref x] ++ args) >>= fun v => pure (some v)) Q E s := wpAny_bind (wpAny_mono h (fun v s' h' => wpAny_pure h') fun _ _ h' => h')
  split
  · exact wpAny_bind (wpAny_of_eq (hb _) (wpAny_pure (by exact fin)))
  · exact wpAny_tryCatch (wpAny_bind (wpAny_of_eq (hb _) (wpAny_pure (by exact fin))))
theorem op_nePX {X : Cx} {CK C : Addr} (pc : PC X.K X.mg C) (q : KqC X.K CK C) (EQ : EqrPX X.prog X.w X.K X.mg X.base C) (hr : Room 2 X.A) : OpR X (compareOp .NotEq) (rNePX X.K C) := by
  obtain ⟨f, fd, h1, h2, h3, F⟩ := EQ
  intro pins s σ H x y v u Q I rx ry d
  obtain ⟨a, b, ws, us, rfl, rfl, T, T2, q1⟩ := d
  obtain ⟨p, ⟨dx, e1⟩, t1, o1⟩ := id T
  obtain ⟨r, ⟨dy, e2⟩, t2, o2⟩ := id T2
  cases rx
  cases ry
  obtain ⟨mA, J, _⟩ := ins_get I.hok e1
  obtain ⟨mB, J', _⟩ := ins_get I.hok e2
  obtain ⟨od, J, _⟩ := J.look
  obtain ⟨od', J', _⟩ := J'.look
  show wpAny (model X.prog X.w) X.A (richCompare .NotEq (.ref a) (.ref b)) (EP X pins σ Q) X.xe s
  have one : wpAny (model X.prog X.w) X.A (tryCompare (.ref a) (cmpInfo .NotEq).2.1 (.ref b)) (fun r s' => ∃ v, r = some v ∧ EP X pins σ Q v s') X.xe s := by
    unfold tryCompare
    refine wpAny_bind (ifBound_BP I.kIn J q.ne PySem.F.cmp_object.ne.bind ?_)
    have sub : PySem.W.Looks (model X.prog X.w) s.heap (isInstance (.ref a) (.type "object")) true := J.type.andThen (PySem.W.looks_mroIn I.kIn pc.hm)
    refine wpAny_call (codeAny_call_builtin PySem.F.cmp_object.ne.plain PySem.F.cmpEntry_ne (PySem.W.check_slot PySem.F.cmpKind_ne PySem.F.cmpSplit_ne sub (PySem.F.cmpArgs_ne _ _) ?_))
    unfold Builtin.«object.__ne__»
    show wpAny _ X.A.in1 (slotArgs "__ne__" 1 ⟨[.ref a, .ref b], []⟩ >>= _) _ _ s
    unfold slotArgs
    refine wpAny_bind (wpAny_pure ?_)
    dsimp only
    refine wpAny_bind (wpAny_cRoomFor (by have := hr.units; show X.A.units + 1 < cLine; omega) ?_)
    have e0 : Env0 X.prog X.w X.K X.mg X.base X.A.in1 X.stack s H := I.env0.in1
    have hsp : spEqPX X.K C [V.ref a, V.ref b] H (fun v H' => (∃ c, v = .bl c) ∧ v = .bl (decide (ws = us)) ∧ H' = H) E0 := ⟨a, _, ws, _, rfl, T, .kd T2, ⟨_, rfl⟩, rfl, rfl⟩
    have r2 : Vals [V.ref a, V.ref b] [Value.ref a, Value.ref b] := .cons rfl (.cons rfl .nil)
    refine wpAny_bind (PySem.W.ifBound_K I.kIn J h1 h2 (wpAny_call (codeAny_mono (F.run X.A.in1 X.stack s H ⟨[.ref a, .ref b], []⟩ [.ref a, .ref b] [.ref a, .ref b] _ E0 hr.in1 e0 (by
      have := h3 s [.ref a, .ref b] I.kIn rfl
      simpa using this) r2 hsp) fun r s' hq => ?_)))
    cases r with
    | error e => exact pass0 pins σ H s e s' I hq
    | ok fl =>
      cases fl with
      | ret w =>
        obtain ⟨z, H', I', rz, _, ez, eH⟩ := I.after hq
        subst ez eH
        cases rz
        show wpAny _ X.A.in1 (truthy (.bool (decide (ws = us))) >>= _) _ _ s'
        refine wpAny_bind (wpAny_of_eq (a := decide (ws = us)) (by rfl) ?_)
        exact wpAny_pure (wpAny_pure ⟨_, rfl, .bl (!decide (ws = us)), _, I', rfl, q1⟩)
      | next => exact False.elim hq
      | brk => exact False.elim hq
      | cont => exact False.elim hq
  unfold richCompare
  simp only [oneThing_ref]
  refine wpAny_holding (wpAny_bind (wpAny_cRoomFor hr.units0 ?_))
  refine wpAny_bind (J.type.here (wpAny_bind (J'.type.here ?_)))
  refine wp_if_neg (by simp) ?_
  refine wpAny_bind (wpAny_pure ?_)
  refine wp_if_neg (by decide) ?_
  refine wpAny_bind (wpAny_mono one (fun r s' z => ?_) fun _ _ e => e)
  obtain ⟨v, rfl, hq⟩ := z
  exact wpAny_pure hq
section
variable {P : Program} {w : World} {K : PySem.W.Frag} {mg : Str → Option Value} {base : Heap}
abbrev s_eqX : Stmt := (inClass (top 15) 1)
theorem sc_eqX : FnScope ["self", "other"] ["self", "other"] (defScope s_eqX) := ⟨rfl, rfl, rfl, by decide +kernel, rfl, by decide +kernel, by decide +kernel⟩
theorem c_eqX {C f : Addr} {fd : FuncData} (B : Bt mg) (pc : PC K mg C) (F : Fun K "__eq__" "Program.__eq__" s_eqX f fd) : FnOk P w K mg base CX0 1 f fd ["self", "other"] (spEqPX K C) := by
  refine F.ok sc_eqX (fun vs H Q E h => ?_) (fun cdv A outer st0 H vs Q E hr h => ?_)
  · obtain ⟨x, y, ks, b, rfl, _⟩ := h
    rfl
  · obtain ⟨x, y, ks, b, rfl, ⟨a, ⟨dx, hx⟩, t1, o1⟩, ho, k⟩ := h
    have m_Program := pc.mg
    refine ⟨_, (pss_one (ps_ret (pe_and (pe_callB call_isi (by rfl) B.b_isinstance (by decide +kernel) (pa_cons (pv 1) (pa_cons (pe_gr m_Program) pa_nil))) (pe_one (pe_cmpR (op_eqD hr.units) (pe_fld (pv 0) rfl) (pe_fld (pv 1) rfl) (nomark _)))))), ?_⟩
    cases ho with
    | @kd z us h =>
      obtain ⟨b, ⟨dy, hy⟩, t2, o2⟩ := h
      refine ⟨_, rfl, _, _, _, _, true, rfl, .own C, .base (.ins hy pc.cl pc.ha pc.hn pc.ht pc.hm), kit_selfP, _, rfl, iteT ?_⟩
      refine ⟨_, rfl, x, C, dx, _, _, rfl, hx, pc.cl, pc.nw, pfs_get a, _, rfl, z, C, dy, _, _, rfl, hy, pc.cl, pc.nw, pfs_get b, ?_⟩
      exact eqD_ws t1 t2 o1 o2 k
    | no ty hk n =>
      exact ⟨_, rfl, _, _, _, _, false, rfl, .own C, ty, hk, _, rfl, iteF k⟩
/-! ### the error -/
abbrev s_badinitP : Stmt := (inClass (top 9) 0)
theorem sc_badinitP : FnScope ["self", "index"] ["self", "index"] (defScope s_badinitP) := ⟨rfl, rfl, rfl, by decide +kernel, rfl, by decide +kernel, by decide +kernel⟩
theorem bad_initP {CB f : Addr} {fd : FuncData} (T : ExF K mg "BadProgram" "index" CB) (F : Fun K "__init__" "BadProgram.__init__" s_badinitP f fd) : FnOk P w K mg base CX0 1 f fd ["self", "index"] (spExI "index" CB) := by
  refine F.ok sc_badinitP (fun vs H Q E h => ?_) (fun cdv A outer st0 H vs Q E hr h => ?_)
  · obtain ⟨a, v, rfl, _⟩ := h
    rfl
  · obtain ⟨a, v, rfl, ha, k⟩ := h
    refine ⟨_, pss_one (ps_ost (pv 0) (pv 1) rfl), ?_⟩
    refine ⟨_, rfl, _, rfl, a, CB, rfl, T.o, T.nf, .inl ⟨ha, fun dx n ne => k dx n ne⟩⟩
theorem bad_atP {CB f : Addr} {fd : FuncData} (T : ExF K mg "BadProgram" "index" CB) (iC : PySem.W.findIn K (.ref CB) "__init__" = some (some (.ref f))) (tI : PySem.W.typeIn K (.ref f) = some (.type "function")) (F : Fun K "__init__" "BadProgram.__init__" s_badinitP f fd) : ExFAt P w K mg base "BadProgram" "index" CB :=
  ⟨T, f, fd, iC, tI, F.binds (ps := ["self", "index"]) (fun _ _ _ _ _ _ us hl => match us, hl with | [_, _], _ => rfl), bad_initP T F⟩
/-! ### Kind(thing) -/
def spInitX (K : PySem.W.Frag) (C CB : Addr) : Sp := fun vs H Q E => ∃ (x dx : Addr) (v : V) (d : Option Int), vs = [.ref x, v] ∧ H x = some (.ins C dx []) ∧ ThP K H v d ∧
  (d = none → ∀ H' a, v = .ref a → But x H H' → Pg C H' x a → Q .non H') ∧ (∀ i, d = some i → ∀ H' dd, Same H H' → H' dd = some (.xd [("index", .int i)]) → E (.ref CB) (some dd) H')
theorem c_initX {C CB f : Addr} {fd : FuncData} (B : Bt mg) (pc : PC K mg C) (F : Fun K "__init__" "Program.__init__" s_init f fd) (EBadProgram : ExFAt P w K mg base "BadProgram" "index" CB) (Cfault_index_programs : Cal P w K mg base "fault_index_programs" 4 ["words"] (spFaultP K)) :
    FnOk P w K mg base (L2.CX P w) 5 f fd ["self", "words"] (spInitX K C CB) := by
  refine F.okX sc_init (fun vs H Q E h => ?_) (fun cdv A outer st0 H vs Q E hr h => ?_)
  · obtain ⟨x, dx, v, d, rfl, _⟩ := h
    rfl
  · obtain ⟨x, dx, v, d, rfl, hx, th, k, k2⟩ := h
    refine ⟨_, (pss_cons (ps_set (i := 2) sc_init.nd rfl (by first | exact Or.inl rfl | exact Or.inr rfl) (pe_c Cfault_index_programs (hr.mono (by decide)) (pa_cons (pv 1) pa_nil)))
      (pss_cons (ps_if (pt_cmpR op_notN (pv 2) pe_non (nomark _)) (pss_one (ps_raise rfl (takes_of rfl rfl rfl rfl) (pmk_F EBadProgram (hr.mono (by decide)) (pa_cons (pv 2) pa_nil)))) pss_nil)
      (pss_one (ps_fld (pv 0) (pv 1) rfl)))), ?_⟩
    refine ⟨_, rfl, v, d, rfl, th, fun H1 S1 => ?_⟩
    cases d with
    | none =>
      obtain ⟨a, rfl⟩ : ∃ a, v = .ref a := by
        generalize hd : (none : Option Int) = d at th
        cases th with
        | no _ _ => cases hd
        | tup _ _ _ => exact ⟨_, rfl⟩
      refine ⟨_, rfl, rfl, _, rfl, iteF ?_⟩
      refine ⟨_, rfl, _, rfl, x, C, dx, [], rfl, S1 _ _ hx, pc.cl, pc.nw, (by show 0 < 1000; decide), ?_⟩
      refine k rfl _ a rfl (fun b o hb hne => ?_) ⟨dx, upd_same⟩
      rw [upd_ne hne]
      exact S1 _ _ hb
    | some i =>
      refine ⟨_, rfl, rfl, _, rfl, iteT ?_⟩
      refine ⟨_, rfl, mkF_of fun dd nd => k2 i rfl _ dd (S1.trans (same_upd nd)) upd_same⟩
def spInitN (K : PySem.W.Frag) (C : Addr) : Sp := fun vs H Q _ => ∃ (x dx : Addr) (v : V), vs = [.ref x, v] ∧ H x = some (.ins C dx []) ∧ ThP K H v none ∧
  (∀ H' a, v = .ref a → But x H H' → Pg C H' x a → Q .non H')
theorem c_initN {C f : Addr} {fd : FuncData} (B : Bt mg) (pc : PC K mg C) (F : Fun K "__init__" "Program.__init__" s_init f fd) (Cfault_index_programs : Cal P w K mg base "fault_index_programs" 4 ["words"] (spFaultP K)) :
    FnOk P w K mg base CX0 5 f fd ["self", "words"] (spInitN K C) := by
  refine F.ok sc_init (fun vs H Q E h => ?_) (fun cdv A outer st0 H vs Q E hr h => ?_)
  · obtain ⟨x, dx, v, rfl, _⟩ := h
    rfl
  · obtain ⟨x, dx, v, rfl, hx, th, k⟩ := h
    obtain ⟨d, hd0⟩ : ∃ d : Option Int, d = none := ⟨_, rfl⟩
    rw [← hd0] at th
    refine ⟨_, (pss_cons (ps_set (i := 2) sc_init.nd rfl (by first | exact Or.inl rfl | exact Or.inr rfl) (pe_c Cfault_index_programs (hr.mono (by decide)) (pa_cons (pv 1) pa_nil)))
      (pss_cons (ps_if (pt_cmpR op_notN (pv 2) pe_non (nomark _)) (pss_one ps_never) pss_nil)
      (pss_one (ps_fld (pv 0) (pv 1) rfl)))), ?_⟩
    refine ⟨_, rfl, v, d, rfl, th, fun H1 S1 => ?_⟩
    cases d with
    | none =>
      obtain ⟨a, rfl⟩ : ∃ a, v = .ref a := by
        generalize hd : (none : Option Int) = d at th
        cases th with
        | no _ _ => cases hd
        | tup _ _ _ => exact ⟨_, rfl⟩
      refine ⟨_, rfl, rfl, _, rfl, iteF ?_⟩
      refine ⟨_, rfl, _, rfl, x, C, dx, [], rfl, S1 _ _ hx, pc.cl, pc.nw, (by show 0 < 1000; decide), ?_⟩
      refine k _ a rfl (fun b o hb hne => ?_) ⟨dx, upd_same⟩
      rw [upd_ne hne]
      exact S1 _ _ hb
    | some i => cases hd0
structure MkrPN (P : Program) (w : World) (K : PySem.W.Frag) (mg : Str → Option Value) (base : Heap) (C : Addr) : Prop where
  ex : ∃ f fd, Mk K C f ∧ mg "Program" = some (.ref C) ∧ Binds K fd ["self", "words"] [] ∧ FnOk P w K mg base CX0 5 f fd ["self", "words"] (spInitN K C)
theorem pe_mkN {X : Cx} {C : Addr} {e : Expr} {t : TA} {p pos : Pos} (M : MkrPN X.prog X.w X.K X.mg X.base C) (hr : Room 6 X.A) (ha : PA X [e] t) (hg : Gl X "Program" := by rfl)
    (he : starEach [e] X.env = (false, eval e X.env) :: starEach [] X.env := by rfl) (hpl : (backTo pos (starEach [] X.env)).any (·.1) = false := by rfl) :
    PE X (.Call (.Name "Program" p) [e] [] pos) (tMake C (spInitN X.K C) [] E0 t) := by
  obtain ⟨f, fd, M, hm, hb, F⟩ := M
  exact pe_make M F hr hg hm hb .nil pass0 ha (by decide) he hpl
structure MkrPX (P : Program) (w : World) (K : PySem.W.Frag) (mg : Str → Option Value) (base : Heap) (C CB : Addr) : Prop where
  ex : ∃ f fd, Mk K C f ∧ mg "Program" = some (.ref C) ∧ Binds K fd ["self", "words"] [] ∧ FnOk P w K mg base (L2.CX P w) 5 f fd ["self", "words"] (spInitX K C CB)
theorem pe_mkPX {X : Cx} {K : PySem.W.Frag} {W : WX} {C CB : Addr} {e : Expr} {t : TA} {p pos : Pos} (hK : X.K = K) (M : MkrPX X.prog X.w K X.mg X.base C CB) (hr : Room 6 X.A) (tk : Takes X W) (ha : PA X [e] t) (hg : Gl X "Program" := by rfl)
    (he : starEach [e] X.env = (false, eval e X.env) :: starEach [] X.env := by rfl) (hpl : (backTo pos (starEach [] X.env)).any (·.1) = false := by rfl) :
    PE X (.Call (.Name "Program" p) [e] [] pos) (tMakeE C (spInitX K C CB) (WE W) t) := by
  subst hK
  obtain ⟨f, fd, M, hm, hb, F⟩ := M
  exact pe_mkE M F hr hm hb tk ha hg (by decide) he hpl
end
end Kk

set_option maxHeartbeats 4000000
/-! the faults told by the law -/
namespace Kk
open PySem PySem.Spec PyProof.Rows L2 Wd
section
variable {P : Program} {w : World} {K : PySem.W.Frag} {mg : Str → Option Value} {base : Heap}
abbrev s_lisname : Stmt := (top 42)
theorem sc_lisname : FnScope ["_law_thing_here", "_law_sign"] ["_law_thing_here"] (defScope s_lisname) := ⟨rfl, rfl, rfl, by decide +kernel, rfl, by decide +kernel, by decide +kernel⟩
theorem c_lisname (B : Bt mg) (D : DefAt K mg "_law_is_name" s_lisname) : Cal P w K mg base "_law_is_name" 1 ["_law_thing_here"] spIsName := by
  refine cal_of D sc_lisname (fun _ _ _ _ _ _ us hl => match us, hl with | [_], _ => rfl) (fun vs H Q E h => ?_) (fun fa cdv A outer st0 H vs Q E hr h => ?_)
  · obtain ⟨z, rfl, _⟩ := h
    rfl
  · obtain ⟨z, rfl, hz, k⟩ := h
    refine ⟨_, (pss_cons (ps_if (PW.pt (pw_or (pt_not (pt_val (pe_callB call_isi (by rfl) B.b_isinstance (by decide +kernel) (pa_cons (pv 0) (pa_cons (pe_ty (n := "str") B.b_str (by decide +kernel)) pa_nil))))) (pw_or1 (pt_not (pt_chain op_le op_le pe_int (pe_callB call_len_str (by rfl) B.b_len (by decide +kernel) (pa_cons (pv 0) pa_nil)) pe_int))))) (pss_one (ps_ret pe_bl)) pss_nil)
      (pss_one (ps_ret (pe_callB (cr_all rfl) (by rfl) B.b_all (by decide +kernel) (pa_cons (pe_lc (own := [("_law_sign", 1)]) (g := (gName 1)) (tt := tYes) rfl sc_lisname.nd (pi_str (pv 0)) (blkOk_by (own := [("_law_sign", 1)]) (N := ["_law_thing_here", "_law_sign"]) (sc := defScope s_lisname) (by decide +kernel)) (fun _ _ _ _ _ => (pg_name (i := 1) sc_lisname.nd rfl (by first | exact Or.inl rfl | exact Or.inr rfl))) (fun _ _ _ _ _ => pts_nil) (fun _ _ _ _ _ => (pe_cmpR op_in_sign (pv 1) pe_str (by rfl)))) pa_nil))))), ?_⟩
    refine ⟨_, rfl, _, _, _, _, true, rfl, .ty _, .base (.str z), kit_ty kitSS, _, rfl, ?_⟩
    refine iteF ?_
    have hzl : z.length ≤ sizeLine := Nat.le_of_lt (small_lt hz (by decide))
    refine ⟨_, rfl, _, rfl, hzl, _, _, rfl, rfl, _, rfl, ?_⟩
    by_cases h1 : 1 ≤ z.length
    · rw [decide_eq_true (show (1 : Int) ≤ (z.length : Nat) by omega)]
      refine iteT ⟨_, _, rfl, rfl, _, rfl, ?_⟩
      by_cases h2 : z.length ≤ 8
      · rw [decide_eq_true (show ((z.length : Nat) : Int) ≤ 8 by omega)]
        refine iteF ?_
        refine ⟨_, rfl, z, rfl, fun D nD => lc_text (x := z) (fun i H' => H' = upd H D (.lst ((((TL.tl z).take i).map fun c => decide (97 ≤ c ∧ c ≤ 122)).map V.bl))) rfl ?_ ?_⟩
        · rintro i c H' hc e
          have hc' : (TL.tl z)[i]? = some c := by
            show z.cps.toList[i]? = _
            rw [Array.getElem?_toList]; exact hc
          refine ⟨rfl, _, rfl, c, _, rfl, rfl, ?_⟩
          rw [letters c]
          refine ⟨_, by rw [e]; exact upd_same, ?_, ?_⟩
          · rw [List.length_map, List.length_map, List.length_take]
            have : (TL.tl z).length = z.length := (TL.len_tl z).symm
            exact small_lt (m := 1000) (by omega) (by decide)
          · rw [upd_over e, List.take_add_one, hc']
            simp
        · rintro H' rfl
          have hl : (TL.tl z).take z.cps.size = TL.tl z := List.take_of_length_le (by rw [← TL.len_tl]; exact Nat.le_refl _)
          refine ⟨D, _, rfl, SqL.of upd_same, ?_⟩
          rw [hl]
          have ef : (((TL.tl z).map fun c => decide (97 ≤ c ∧ c ≤ 122)).all id) = nameB z := by
            unfold nameB
            rw [decide_eq_true h1, decide_eq_true h2, List.all_map]
            rfl
          rw [ef]
          exact k _ (same_upd nD)
      · rw [decide_eq_false (show ¬ ((z.length : Nat) : Int) ≤ 8 by omega)]
        refine iteT ?_
        have ef : nameB z = false := by unfold nameB; rw [decide_eq_false h2]; simp
        have := k H (Same.refl H)
        rw [ef] at this
        exact this
    · rw [decide_eq_false (show ¬ (1 : Int) ≤ (z.length : Nat) by omega)]
      refine iteF ⟨_, rfl, iteT ?_⟩
      have ef : nameB z = false := by unfold nameB; rw [decide_eq_false h1]; rfl
      have := k H (Same.refl H)
      rw [ef] at this
      exact this
abbrev s_lisword : Stmt := (top 43)
theorem sc_lisword : FnScope ["_law_thing_here"] ["_law_thing_here"] (defScope s_lisword) := ⟨rfl, rfl, rfl, by decide +kernel, rfl, by decide +kernel, by decide +kernel⟩
theorem c_lisword (B : Bt mg) (D : DefAt K mg "_law_is_word" s_lisword) (C_law_is_name : Cal P w K mg base "_law_is_name" 1 ["_law_thing_here"] spIsName) : Cal P w K mg base "_law_is_word" 2 ["_law_thing_here"] (spIsWordG K) := by
  refine cal_of D sc_lisword (fun _ _ _ _ _ _ us hl => match us, hl with | [_], _ => rfl) (fun vs H Q E h => ?_) (fun fa cdv A outer st0 H vs Q E hr h => ?_)
  · obtain ⟨z, rfl, _⟩ := h
    rfl
  · obtain ⟨x, rfl, it, k⟩ := h
    refine ⟨_, (pss_cons (ps_if (pt_not (pt_val (pe_callB call_isi (by rfl) B.b_isinstance (by decide +kernel) (pa_cons (pv 0) (pa_cons (pe_ty (n := "str") B.b_str (by decide +kernel)) pa_nil))))) (pss_one (ps_ret pe_bl)) pss_nil)
      (pss_one (ps_ret (pe_or (pe_cmpR op_eq (pv 0) pe_str (nomark _)) (pe_or (pe_c C_law_is_name (hr.mono (by decide)) (pa_cons (pv 0) pa_nil)) (pe_one (pe_and (pe_cmpR op_eq (pe_slice sl_str (pv 0) po_none (po_some pe_int)) pe_str (nomark _)) (pe_one (pe_c C_law_is_name (hr.mono (by decide)) (pa_cons (pe_slice sl_str (pv 0) (po_some pe_int) po_none) pa_nil)))))))))), ?_⟩
    obtain ⟨t, ty, hk⟩ := it.k.ex
    refine ⟨_, rfl, _, _, _, _, _, rfl, .ty _, ty, hk, _, rfl, ?_⟩
    cases x with
    | str s =>
      have hl := it.l s rfl
      have k : ∀ H', Same H H' → Q (.bl (wordB s)) H' := k
      unfold wordB at k
      refine iteF ?_
      refine ⟨_, rfl, rfl, _, rfl, ?_⟩
      cases e1 : decide (V.str s = V.str "@") with
      | true => rw [e1] at k; exact iteT (k H (Same.refl H))
      | false =>
        rw [e1] at k
        refine iteF ⟨_, rfl, _, rfl, by omega, fun H1 S1 => ?_⟩
        cases e2 : nameB s with
        | true => rw [e2] at k; exact ⟨true, rfl, iteT (k H1 S1)⟩
        | false =>
          rw [e2] at k
          refine ⟨false, rfl, iteF ?_⟩
          have ls : s.length ≤ sizeLine := Nat.le_of_lt (small_lt (m := 100) hl (by decide))
          refine ⟨_, rfl, _, rfl, _, rfl, ls, rfl, _, rfl, ?_⟩
          rw [← starts_sl]
          cases e3 : Txt.startswith s "/" with
          | false => rw [e3] at k; exact iteF (k H1 S1)
          | true =>
            rw [e3] at k
            refine iteT ?_
            refine ⟨_, rfl, _, rfl, _, rfl, ls, ?_⟩
            refine ⟨_, rfl, ?_, fun H2 S2 => k H2 (S1.trans S2)⟩
            have := len_cut1 s
            omega
    | _ => exact iteT (k H (Same.refl H))
def spMisG (K : PySem.W.Frag) : Sp := fun vs H Q _ => ∃ (a : Addr) (ws : List W), vs = [.ref a] ∧ SqT K H a (ws.map wv) ∧ (∀ w ∈ ws, wOk w) ∧ ws.length ≤ 1000 ∧ ∀ H', Same H H' → Q (optV (misF (ws.map needW) 0 1)) H'
abbrev s_lmis : Stmt := (top 44)
theorem sc_lmis : FnScope ["_law_words_here", "_law_asked", "_law_place"] ["_law_words_here"] (defScope s_lmis) := ⟨rfl, rfl, rfl, by decide +kernel, rfl, by decide +kernel, by decide +kernel⟩
theorem c_lmis (B : Bt mg) (D : DefAt K mg "_law_end_fault" s_lmis) : Cal P w K mg base "_law_end_fault" 1 ["_law_words_here"] (spMisG K) := by
  refine cal_of D sc_lmis (fun _ _ _ _ _ _ us hl => match us, hl with | [_], _ => rfl) (fun vs H Q E h => ?_) (fun fa cdv A outer st0 H vs Q E hr h => ?_)
  · obtain ⟨a, ks, rfl, _⟩ := h
    rfl
  · obtain ⟨a, ks, rfl, hq, ok, hl, k⟩ := h
    refine ⟨_, (pss_cons (ps_set (i := 1) sc_lmis.nd rfl (by first | exact Or.inl rfl | exact Or.inr rfl) pe_int)
      (pss_cons (ps_for PassesOwn.never rfl (pi_range1 (by rfl) B.b_range (pa_cons (pe_callB call_len_seq (by rfl) B.b_len (by decide +kernel) (pa_cons (pv 0) pa_nil)) pa_nil)) (pg_name (i := 2) sc_lmis.nd rfl (by first | exact Or.inl rfl | exact Or.inr rfl)) (pss_cons (ps_if (pt_cmpR op_eq (pv 1) pe_int (nomark _)) (pss_one (ps_ret (pv 2))) pss_nil)
      (pss_one (ps_if (pt_cmpR op_eq (pe_ix ix_tup (pv 0) (pv 2) (fun _ _ => rfl)) pe_str (nomark _)) (pss_one (ps_set (i := 1) sc_lmis.nd rfl (by first | exact Or.inl rfl | exact Or.inr rfl) (pe_op op_add (pv 1) pe_int))) (pss_one (ps_if (pt_cmpR op_ne (pe_slice sl_str (pe_ix ix_tup (pv 0) (pv 2) (fun _ _ => rfl)) po_none (po_some pe_int)) pe_str (nomark _)) (pss_one (ps_set (i := 1) sc_lmis.nd rfl (by first | exact Or.inl rfl | exact Or.inr rfl) (pe_op op_sub (pv 1) pe_int))) pss_nil))))))
      (pss_one (ps_ret (pe_ifExp (pt_cmpR op_eq (pv 1) pe_int (nomark _)) pe_non (pe_callB call_len_seq (by rfl) B.b_len (by decide +kernel) (pa_cons (pv 0) pa_nil))))))), ?_⟩
    have hlm : (ks.map wv).length = ks.length := List.length_map ..
    have en : (((ks.map wv).length : Nat) : Int).toNat = ks.length := by omega
    refine ⟨_, rfl, _, _, rfl, .inr hq, _, rfl, ?_, ?_, for_range (lo := 0) (n := (((ks.map wv).length : Nat) : Int).toNat) (fun i σ H2 => ∃ (v1 : Option V) (c : Nat), σ = [some (.ref a), some (.int (c : Nat)), v1] ∧ H2 = H ∧ misF (ks.map needW) 0 1 = misF ((ks.map needW).drop i) i c) ⟨none, 1, rfl, rfl, rfl⟩ ?_ ?_⟩
    · omega
    · omega
    · rintro i σ H2 hi ⟨v1, c, rfl, rfl, em⟩
      rw [en] at hi
      have hu : ks[i]? = some ks[i] := List.getElem?_eq_getElem hi
      have hk := ok ks[i] (List.getElem_mem hi)
      generalize ks[i] = u at hu hk
      have hn : (ks.map needW)[i]? = some (needW u) := by rw [List.getElem?_map, hu]; rfl
      have hx : (ks.map wv)[i]? = some (wv u) := by rw [List.getElem?_map, hu]; rfl
      rw [misF_drop hn] at em
      have ei : (0 : Int) + ((i : Nat) : Int) = ((i : Nat) : Int) := by omega
      rw [ei]
      refine ⟨_, rfl, rfl, _, rfl, ?_⟩
      rw [intz]
      by_cases hc : c = 0
      · rw [decide_eq_true hc]
        rw [if_pos hc] at em
        rw [em] at k
        exact iteT ⟨_, rfl, k _ (Same.refl _)⟩
      · rw [decide_eq_false hc]
        rw [if_neg hc] at em
        refine iteF ?_
        have ln : (enc u).length ≤ sizeLine := Nat.le_of_lt (small_lt (m := 9) (len_enc hk) (by decide))
        refine ⟨_, rfl, _, rfl, a, _, _, wv u, rfl, rfl, hq, atI_nat hx, rfl, _, rfl, ?_⟩
        rw [is_ap hk]
        cases u with
        | ap =>
          refine iteT ⟨_, rfl, _, _, rfl, rfl, ?_⟩
          refine ⟨some (.int (i : Nat)), c + 1, rfl, rfl, em⟩
        | tk n =>
          refine iteF ⟨_, rfl, _, rfl, a, _, _, wv (.tk n), rfl, rfl, hq, atI_nat hx, _, rfl, _, rfl, ln, rfl, _, rfl, ?_⟩
          rw [head_tk hk]
          refine iteF ⟨some (.int (i : Nat)), c, rfl, rfl, em⟩
        | nm n =>
          refine iteF ⟨_, rfl, _, rfl, a, _, _, wv (.nm n), rfl, rfl, hq, atI_nat hx, _, rfl, _, rfl, ln, rfl, _, rfl, ?_⟩
          rw [head_tk hk]
          refine iteT ⟨_, rfl, _, _, rfl, rfl, ?_⟩
          refine ⟨some (.int (i : Nat)), c - 1, ?_, rfl, em⟩
          rw [show (((c - 1 : Nat)) : Int) = (c : Int) - 1 by omega]
          rfl
    · rintro σ H2 ⟨v1, c, rfl, rfl, em⟩
      rw [en, ← List.length_map (f := needW), List.drop_length] at em
      have k := k _ (Same.refl _)
      rw [em] at k
      refine ⟨_, rfl, rfl, _, rfl, ?_⟩
      rw [intz]
      by_cases hc : c = 0
      · rw [decide_eq_true hc]
        rw [show misF [] (ks.map needW).length c = none by unfold misF; rw [if_pos hc]] at k
        exact iteT k
      · rw [decide_eq_false hc]
        rw [show misF [] (ks.map needW).length c = some (ks.map needW).length by unfold misF; rw [if_neg hc]] at k
        refine iteF ⟨_, rfl, _, _, rfl, .inr hq, ?_⟩
        rw [hlm]
        rw [List.length_map] at k
        exact k
end
end Kk

set_option maxHeartbeats 4000000
/-! the law's fault -/
namespace Kk
open PySem PySem.Spec PyProof.Rows L2 Wd
/-- the words that stand in the table, and where names do -/
structure StandsG (ws : List W) (i : Nat) (kvs : List (Key × V)) : Prop where
  l : kvs.length ≤ i
  m : ∀ w, wOk w → (valV kvs (Sum.inr (enc w))).isSome = decide (w ∈ ws.take i)
  p : repW [] ws 0 = none → PlacesG ws i kvs
theorem StandsG.put {ws : List W} (o : ∀ w ∈ ws, wOk w) {i : Nat} {w : W} {kvs : List (Key × V)} (hw : ws[i]? = some w) (p : StandsG ws i kvs) : StandsG ws (i + 1) (putK kvs (Sum.inr (enc w)) (.int (i : Nat))) := by
  have ow := o w (List.mem_of_getElem? hw)
  refine ⟨by have := length_putK kvs (Sum.inr (enc w)) (.int (i : Nat)); have := p.l; omega, fun u ou => ?_, fun r => (p.p r).put o r hw⟩
  rw [valV_put, List.take_add_one, hw]
  by_cases e : (Sum.inr (enc u) : Key) = Sum.inr (enc w)
  · have e2 : u = w := enc_inj ou ow (Sum.inr.inj e)
    subst e2
    rw [if_pos e, decide_eq_true (by simp)]
    rfl
  · have ne : u ≠ w := fun z => e (by rw [z])
    rw [if_neg e, p.m u ou]
    have : (u ∈ ws.take i ++ (some w).toList) ↔ u ∈ ws.take i := by simp [ne]
    exact (decide_eq_decide.mpr this).symm
section
variable {P : Program} {w : World} {K : PySem.W.Frag} {mg : Str → Option Value} {base : Heap}
abbrev s_lfault : Stmt := (top 45)
theorem sc_lfault : FnScope ["_law_words_here", "_law_place", "_law_wrong", "_law_stands", "_law_ends_here", "_law_use"] ["_law_words_here"] (defScope s_lfault) := ⟨rfl, rfl, rfl, by decide +kernel, rfl, by decide +kernel, by decide +kernel⟩
theorem c_lfault (B : Bt mg) (D : DefAt K mg "_law_fault" s_lfault) (C_law_is_word : Cal P w K mg base "_law_is_word" 2 ["_law_thing_here"] (spIsWordG K)) (C_law_end_fault : Cal P w K mg base "_law_end_fault" 1 ["_law_words_here"] (spMisG K)) (C_law_ends : Cal P w K mg base "_law_ends" 1 ["_law_words_here"] (spEndsR K)) : Cal P w K mg base "_law_fault" 3 ["_law_words_here"] (spFaultP K) := by
  refine cal_of D sc_lfault (fun _ _ _ _ _ _ us hl => match us, hl with | [_], _ => rfl) (fun vs H Q E h => ?_) (fun fa cdv A outer st0 H vs Q E hr h => ?_)
  · obtain ⟨a, ks, rfl, _⟩ := h
    rfl
  · obtain ⟨v, d, rfl, th, k⟩ := h
    refine ⟨_, (pss_cons (ps_if (PW.pt (pw_or (pt_not (pt_val (pe_callB call_isi (by rfl) B.b_isinstance (by decide +kernel) (pa_cons (pv 0) (pa_cons (pe_ty (n := "tuple") B.b_tuple (by decide +kernel)) pa_nil))))) (pw_or1 (pt_not (pt_chain op_le op_le pe_int (pe_callB call_len_seq (by rfl) B.b_len (by decide +kernel) (pa_cons (pv 0) pa_nil)) pe_int))))) (pss_one (ps_ret (pe_un un_neg pe_int))) pss_nil)
      (pss_cons (ps_for PassesOwn.never rfl (pi_range1 (by rfl) B.b_range (pa_cons (pe_callB call_len_seq (by rfl) B.b_len (by decide +kernel) (pa_cons (pv 0) pa_nil)) pa_nil)) (pg_name (i := 1) sc_lfault.nd rfl (by first | exact Or.inl rfl | exact Or.inr rfl)) (pss_one (ps_if (pt_not (pt_val (pe_c C_law_is_word (hr.mono (by decide)) (pa_cons (pe_ix ix_tup (pv 0) (pv 1) (fun _ _ => rfl)) pa_nil)))) (pss_one (ps_ret (pv 1))) pss_nil)))
      (pss_cons (ps_set (i := 2) sc_lfault.nd rfl (by first | exact Or.inl rfl | exact Or.inr rfl) (pe_c C_law_end_fault (hr.mono (by decide)) (pa_cons (pv 0) pa_nil)))
      (pss_cons (ps_if (pt_cmpR op_notN (pv 2) pe_non (nomark _)) (pss_one (ps_ret (pv 2))) pss_nil)
      (pss_cons (ps_set (i := 3) sc_lfault.nd rfl (by first | exact Or.inl rfl | exact Or.inr rfl) pe_dnewK)
      (pss_cons (ps_for PassesOwn.never rfl (pi_range1 (by rfl) B.b_range (pa_cons (pe_callB call_len_seq (by rfl) B.b_len (by decide +kernel) (pa_cons (pv 0) pa_nil)) pa_nil)) (pg_name (i := 1) sc_lfault.nd rfl (by first | exact Or.inl rfl | exact Or.inr rfl)) (pss_cons (ps_if (PW.pt (pw_and (pt_cmpR op_ne (pe_ix ix_tup (pv 0) (pv 1) (fun _ _ => rfl)) pe_str (nomark _)) (pw_and1 (pt_cmp (pc_din (hu_of hr) (pe_ix ix_tup (pv 0) (pv 1) (fun _ _ => rfl)) (pv 3)))))) (pss_one (ps_ret (pv 1))) pss_nil)
      (pss_one (ps_dput (hu_of hr) (pv 3) (pe_ix ix_tup (pv 0) (pv 1) (fun _ _ => rfl)) (pv 1) rfl))))
      (pss_cons (ps_set (i := 4) sc_lfault.nd rfl (by first | exact Or.inl rfl | exact Or.inr rfl) (pe_c C_law_ends (hr.mono (by decide)) (pa_cons (pv 0) pa_nil)))
      (pss_cons (ps_for PassesOwn.never rfl (pi_range1 (by rfl) B.b_range (pa_cons (pe_callB call_len_seq (by rfl) B.b_len (by decide +kernel) (pa_cons (pv 0) pa_nil)) pa_nil)) (pg_name (i := 1) sc_lfault.nd rfl (by first | exact Or.inl rfl | exact Or.inr rfl)) (pss_one (ps_if (pt_cmpR op_eq (pe_slice sl_str (pe_ix ix_tup (pv 0) (pv 1) (fun _ _ => rfl)) po_none (po_some pe_int)) pe_str (nomark _)) (pss_cons (ps_set (i := 5) sc_lfault.nd rfl (by first | exact Or.inl rfl | exact Or.inr rfl) (pe_dget2 (hu_of hr) (pv 3) (pe_slice sl_str (pe_ix ix_tup (pv 0) (pv 1) (fun _ _ => rfl)) (po_some pe_int) po_none) (pe_un un_neg pe_int) ⟨by rfl, by rfl, by rfl, by rfl⟩))
      (pss_one (ps_if (PW.pt (pw_or (pt_cmpR op_le (pv 5) (pv 1) (nomark _)) (pw_or1 (pt_cmpR op_ge (pv 5) (pe_ix ix_tup (pv 4) (pv 1) (fun _ _ => rfl)) (nomark _))))) (pss_one (ps_ret (pv 1))) pss_nil))) pss_nil)))
      (pss_one (ps_ret pe_non)))))))))), ?_⟩
    cases th with
    | no ty hk =>
      refine ⟨_, rfl, _, _, _, _, false, rfl, .ty _, ty, hk, _, rfl, iteT ?_⟩
      exact ⟨_, rfl, k H (Same.refl H)⟩
    | @tup a xs _ hq it _ pd =>
    refine ⟨_, rfl, _, _, _, _, true, rfl, .ty _, tyx_tup hq, kit_ty kitTT, _, rfl, iteF ?_⟩
    refine ⟨_, rfl, _, _, rfl, .inr hq, _, _, rfl, rfl, _, rfl, ?_⟩
    have size : (xs.length = 0 ∨ 1000 < xs.length) → d = some (-1) := fun h => by
      cases pd with
      | size _ => rfl
      | bad z _ => exact absurd h z
      | words z _ _ _ _ => exact absurd h z
    by_cases h1 : xs.length = 0
    · rw [decide_eq_false (show ¬ (1 : Int) ≤ (xs.length : Nat) by omega)]
      rw [size (.inl h1)] at k
      refine iteF ?_
      exact ⟨_, rfl, iteT ⟨_, rfl, k H (Same.refl H)⟩⟩
    rw [decide_eq_true (show (1 : Int) ≤ (xs.length : Nat) by omega)]
    refine iteT ⟨_, _, rfl, rfl, _, rfl, ?_⟩
    by_cases h2 : 1000 < xs.length
    · rw [decide_eq_false (show ¬ ((xs.length : Nat) : Int) ≤ 1000 by omega)]
      rw [size (.inr h2)] at k
      exact iteT ⟨_, rfl, k H (Same.refl H)⟩
    rw [decide_eq_true (show ((xs.length : Nat) : Int) ≤ 1000 by omega)]
    refine iteF ?_
    have en : ((xs.length : Nat) : Int).toNat = xs.length := by omega
    refine ⟨_, rfl, _, _, rfl, .inr hq, _, rfl, ?_, ?_, for_range (lo := 0) (n := ((xs.length : Nat) : Int).toNat) (fun i σ H' => ∃ v1 : Option V, σ = [some (.ref a), v1, none, none, none, none] ∧ Same H H' ∧ badP goodW xs 0 = badP goodW (xs.drop i) i) ⟨none, rfl, Same.refl H, rfl⟩ ?_ ?_⟩
    · omega
    · omega
    · rintro i σ H' hi ⟨v1, rfl, S1, eb⟩
      rw [en] at hi
      have hx : xs[i]? = some xs[i] := List.getElem?_eq_getElem hi
      have itx := it xs[i] (List.getElem_mem hi)
      generalize xs[i] = x at hx itx
      rw [badP_drop hx] at eb
      have ei : (0 : Int) + ((i : Nat) : Int) = ((i : Nat) : Int) := by omega
      rw [ei]
      refine ⟨_, rfl, _, rfl, a, _, _, x, rfl, rfl, SqT.same hq S1, atI_nat hx, x, rfl, itx.same S1, fun H2 S2 => ?_⟩
      cases g : goodW x with
      | true =>
        rw [if_pos g] at eb
        exact ⟨true, rfl, iteF ⟨_, rfl, S1.trans S2, eb⟩⟩
      | false =>
        rw [if_neg (by rw [g]; decide)] at eb
        refine ⟨false, rfl, iteT ⟨_, rfl, ?_⟩⟩
        have : d = some ((i : Nat) : Int) := by
          cases pd with
          | size h => exact absurd h (by omega)
          | bad _ b => rw [eb] at b; cases b; rfl
          | words _ b _ _ _ => rw [eb] at b; cases b
        rw [this] at k
        exact k H2 (S1.trans S2)
    · rintro σ H1 ⟨v1, rfl, S1, eb⟩
      rw [en, List.drop_length] at eb
      have eb : badP goodW xs 0 = none := eb
      cases pd with
      | size h => exact absurd h (by omega)
      | bad _ b => rw [eb] at b; cases b
      | @words ws d' _ _ e ok wd =>
      subst e
      have hlm : (ws.map wv).length = ws.length := List.length_map ..
      have hl : ws.length ≤ 1000 := by omega
      have pos : 0 < ws.length := by omega
      rw [optI_nat] at k
      refine ⟨_, rfl, a, ws, rfl, SqT.same hq S1, ok, hl, fun H2 S2 => ?_⟩
      have S02 := S1.trans S2
      have mis : ∀ i, misF (ws.map needW) 0 1 = some i → d' = some i := fun i h => by
        cases wd with
        | mis z => rw [h] at z; cases z; rfl
        | rep z _ => rw [h] at z; cases z
        | use _ z _ _ => rw [h] at z; cases z
      cases hm : misF (ws.map needW) 0 1 with
      | some i =>
        rw [mis i hm] at k
        refine ⟨_, rfl, rfl, _, rfl, iteT ⟨_, rfl, k H2 S02⟩⟩
      | none =>
      refine ⟨_, rfl, rfl, _, rfl, iteF ?_⟩
      refine fun D nD => ?_
      have SD : Same H2 (upd H2 D (.dK [])) := same_upd nD
      have noD : ∀ b o, H b = some o → b ≠ D := fun b o hb => ne_of_none (S02 b o hb) nD
      refine ⟨_, rfl, _, _, rfl, .inr (SqT.same hq (S02.trans SD)), _, rfl, ?_, ?_, for_range (lo := 0) (n := (((ws.map wv).length : Nat) : Int).toNat) (fun i σ H' => ∃ (v1 : Option V) (kvs : List (Key × V)), σ = [some (.ref a), v1, some .non, some (.ref D), none, none] ∧ Same H H' ∧ H' D = some (.dK kvs) ∧ StandsG ws i kvs ∧ repW [] ws 0 = repW (ws.take i) (ws.drop i) i)
        ⟨_, [], rfl, S02.trans SD, upd_same, ⟨Nat.le_refl _, fun w _ => by rw [List.take_zero]; rfl, fun _ => ⟨Nat.le_refl _, fun j n hj => absurd hj (by omega), fun n _ _ => rfl⟩⟩, rfl⟩ ?_ ?_⟩
      · omega
      · omega
      · rintro i σ H' hi ⟨v1, kvs, rfl, S3, L3, st, er⟩
        rw [en, hlm] at hi
        have hw : ws[i]? = some ws[i] := List.getElem?_eq_getElem hi
        have hk := ok ws[i] (List.getElem_mem hi)
        generalize ws[i] = u at hw hk
        have hx : (ws.map wv)[i]? = some (wv u) := by rw [List.getElem?_map, hw]; rfl
        rw [repW_drop hw] at er
        have ei : (0 : Int) + ((i : Nat) : Int) = ((i : Nat) : Int) := by omega
        rw [ei]
        have q3 := SqT.same hq S3
        have cont : (!isAp u && decide (u ∈ ws.take i)) = false → ∃ (v1 : Option V) (kvs' : List (Key × V)), [some (V.ref a), some (.int (i : Nat)), some .non, some (.ref D), none, none] = [some (.ref a), v1, some .non, some (.ref D), none, none] ∧ Same H (upd H' D (.dK (putK kvs (Sum.inr (enc u)) (.int (i : Nat))))) ∧ upd H' D (.dK (putK kvs (Sum.inr (enc u)) (.int (i : Nat)))) D = some (.dK kvs') ∧ StandsG ws (i + 1) kvs' ∧ repW [] ws 0 = repW (ws.take (i + 1)) (ws.drop (i + 1)) (i + 1) := fun z => by
          rw [if_neg (by rw [z]; decide)] at er
          exact ⟨_, _, rfl, fun b o hb => by rw [upd_ne (noD b o hb)]; exact S3 b o hb, upd_same, st.put ok hw, er⟩
        have lt : kvs.length < sizeLine := small_lt (m := 1000) (by have := st.l; omega) (by decide)
        refine ⟨_, rfl, _, rfl, a, _, _, wv u, rfl, rfl, q3, atI_nat hx, rfl, _, rfl, ?_⟩
        rw [is_ap hk]
        cases ha : isAp u with
        | true =>
          refine iteF ?_
          refine ⟨_, rfl, _, rfl, _, rfl, _, rfl, a, _, _, wv u, rfl, rfl, q3, atI_nat hx, D, _, rfl, DPut.k (k := Sum.inr (enc u)) L3 lt, ?_⟩
          exact cont (by rw [ha]; rfl)
        | false =>
          refine iteT ?_
          refine ⟨_, rfl, _, rfl, a, _, _, wv u, rfl, rfl, q3, atI_nat hx, _, rfl, D, _, rfl, DGet.k (k := Sum.inr (enc u)) L3, ?_⟩
          rw [st.m u hk]
          cases hu : decide (u ∈ ws.take i) with
          | true =>
            refine ⟨_, rfl, iteT ⟨_, rfl, ?_⟩⟩
            rw [if_pos (by rw [ha, hu]; rfl)] at er
            have : d' = some i := by
              cases wd with
              | mis z => rw [hm] at z; cases z
              | rep _ z => rw [er] at z; cases z; rfl
              | use _ _ z _ => rw [er] at z; cases z
            rw [this] at k
            exact k H' S3
          | false =>
            refine ⟨_, rfl, iteF ?_⟩
            refine ⟨_, rfl, _, rfl, _, rfl, _, rfl, a, _, _, wv u, rfl, rfl, q3, atI_nat hx, D, _, rfl, DPut.k (k := Sum.inr (enc u)) L3 lt, ?_⟩
            exact cont (by rw [ha, hu]; rfl)
      · rintro σ H3 ⟨v1, kvs, rfl, S3, L3, st, er⟩
        rw [en, hlm, List.drop_length] at er
        have r0 : repW [] ws 0 = none := er
        rw [en, hlm] at st
        have p := st.p r0
        obtain ⟨EE, he, hd⟩ : ∃ E, IsEnds ws E ∧ d' = unuW ws E ws 0 := by
          cases wd with
          | mis z => rw [hm] at z; cases z
          | rep _ z => rw [r0] at z; cases z
          | use E _ _ e => exact ⟨E, e, rfl⟩
        rw [hd] at k
        refine ⟨_, rfl, a, ws, EE, rfl, SqT.same hq S3, ok, he, by omega, fun H4 q S4 _ T4 => ?_⟩
        have L4 := S4 _ _ L3
        have S04 := S3.trans S4
        refine ⟨_, rfl, _, _, rfl, .inr (SqT.same hq S04), _, rfl, ?_, ?_, for_range (lo := 0) (n := (((ws.map wv).length : Nat) : Int).toNat) (fun i σ H' => ∃ v1 v5 : Option V, σ = [some (.ref a), v1, some .non, some (.ref D), some (.ref q), v5] ∧ H' = H4 ∧ unuW ws EE ws 0 = unuW ws EE (ws.drop i) i) ⟨_, _, rfl, rfl, rfl⟩ ?_ ?_⟩
        · omega
        · omega
        · rintro i σ H' hi ⟨v1, v5, rfl, rfl, eu⟩
          rw [en, hlm] at hi
          have hw : ws[i]? = some ws[i] := List.getElem?_eq_getElem hi
          have hk := ok ws[i] (List.getElem_mem hi)
          generalize ws[i] = u at hw hk
          have hx : (ws.map wv)[i]? = some (wv u) := by rw [List.getElem?_map, hw]; rfl
          rw [unuW_drop hw] at eu
          have ei : (0 : Int) + ((i : Nat) : Int) = ((i : Nat) : Int) := by omega
          rw [ei]
          have q4 := SqT.same hq S04
          have ln : (enc u).length ≤ sizeLine := Nat.le_of_lt (small_lt (m := 9) (len_enc hk) (by decide))
          refine ⟨_, rfl, _, rfl, a, _, _, wv u, rfl, rfl, q4, atI_nat hx, _, rfl, _, rfl, ln, rfl, _, rfl, ?_⟩
          rw [head_tk hk]
          cases u with
          | ap => exact iteF ⟨_, _, rfl, rfl, eu⟩
          | nm n => exact iteF ⟨_, _, rfl, rfl, eu⟩
          | tk n =>
            refine iteT ?_
            refine ⟨_, rfl, D, rfl, .inl ⟨kvs, .inl L4⟩, _, rfl, _, rfl, a, _, _, wv (.tk n), rfl, rfl, q4, atI_nat hx, _, rfl, _, rfl, ln, ?_⟩
            rw [cut1]
            have eu : unuW ws EE ws 0 = if (decide ((i : Int) < posW ws n) && decide (posW ws n < (EE i : Nat))) = true then unuW ws EE (ws.drop (i + 1)) (i + 1) else some i := eu
            have bad : (decide ((i : Int) < posW ws n) && decide (posW ws n < (EE i : Nat))) = false → Q (.int (i : Nat)) H' := fun z => by
              rw [if_neg (by rw [z]; decide)] at eu
              rw [eu] at k
              exact k H' S04
            have good : (decide ((i : Int) < posW ws n) && decide (posW ws n < (EE i : Nat))) = true → unuW ws EE ws 0 = unuW ws EE (ws.drop (i + 1)) (i + 1) := fun z => by
              rw [if_pos z] at eu
              exact eu
            rcases p.pos hk with hv | ⟨hv, hp⟩
            · generalize posW ws n = u at *
              refine ⟨_, rfl, some (.int u), by rw [← hv]; exact DGet.k (k := Sum.inr (str n)) L4, ?_⟩
              refine ⟨_, rfl, _, rfl, _, _, rfl, rfl, _, rfl, ?_⟩
              by_cases d1 : u ≤ (i : Int)
              · rw [decide_eq_true d1]
                exact iteT (iteT ⟨_, rfl, bad (by rw [decide_eq_false (show ¬ ((i : Nat) : Int) < u by omega)]; rfl)⟩)
              · rw [decide_eq_false d1]
                refine iteF ?_
                refine ⟨_, rfl, _, rfl, _, rfl, q, _, _, _, rfl, rfl, T4.sq, atI_nat (endsV_get hi), _, _, rfl, rfl, _, rfl, ?_⟩
                by_cases d2 : u < ((EE i : Nat) : Int)
                · rw [decide_eq_false (show ¬ ((EE i : Nat) : Int) ≤ u by omega)]
                  exact iteF ⟨_, _, rfl, rfl, good (by rw [decide_eq_true (show ((i : Nat) : Int) < u by omega), decide_eq_true d2]; rfl)⟩
                · rw [decide_eq_true (show ((EE i : Nat) : Int) ≤ u by omega)]
                  exact iteT ⟨_, rfl, bad (by rw [decide_eq_false d2]; simp)⟩
            · refine ⟨_, rfl, none, by rw [← hv]; exact DGet.k (k := Sum.inr (str n)) L4, ?_⟩
              refine ⟨_, rfl, _, rfl, _, _, rfl, rfl, _, rfl, ?_⟩
              rw [decide_eq_true (show (-1 : Int) ≤ ((i : Nat) : Int) by omega)]
              refine iteT (iteT ⟨_, rfl, bad ?_⟩)
              rw [hp, decide_eq_false (show ¬ ((i : Nat) : Int) < -1 by omega)]
              rfl
        · rintro σ H' ⟨v1, v5, rfl, rfl, eu⟩
          rw [en, hlm, List.drop_length] at eu
          have eu : unuW ws EE ws 0 = none := eu
          rw [eu] at k
          exact k H' S04
end
end Kk

set_option maxHeartbeats 4000000
/-! items drawn -/
namespace Kk
open PySem PySem.Spec PyProof.Rows L2 Wd
/-- an item, and stays one -/
def ItK (K : PySem.W.Frag) (p g : Addr) (H : Hp) (x : V) : Prop := ∀ H', Keep p g H H' → KIt K H' x
theorem ItK.keep {K : PySem.W.Frag} {p g : Addr} {H H' : Hp} {x : V} (h : ItK K p g H x) (k : Keep p g H H') : ItK K p g H' x := fun H2 k2 => h H2 (k.trans k2)
theorem ItK.same {K : PySem.W.Frag} {p g : Addr} {H H' : Hp} {x : V} (h : ItK K p g H x) (k : Same H H') : ItK K p g H' x := h.keep (Same.keep k)
theorem ItK.now {K : PySem.W.Frag} {p g : Addr} {H : Hp} {x : V} (h : ItK K p g H x) : KIt K H x := h H (Keep.refl _)
theorem ItK.at {K : PySem.W.Frag} {p g : Addr} {H : Hp} {a : Addr} {o : HO} (e : H a = some o) (h1 : a ≠ p) (h2 : a ≠ g) (h : ∀ H', H' a = some o → KIt K H' (.ref a)) : ItK K p g H (.ref a) := fun H' k => h H' (k _ _ e h1 h2)
theorem ItK.tF {K : PySem.W.Frag} {p g s : Addr} {H : Hp} {a : Addr} {xs : List V} (P : PotAt H p g s) (t : TupF H a xs) : ItK K p g H (.ref a) := fun H' k => .tF (t.keepP P k)
theorem KIt.tup {K : PySem.W.Frag} {H : Hp} {a : Addr} {xs : List V} (h : H a = some (.tup xs)) : KIt K H (.ref a) := ⟨.tup h, _, .base (.tup h), kit_ty (show kitB "tuple" "str" = some false by decide +kernel)⟩
/-- an item, its text no longer than b -/
structure ItW (K : PySem.W.Frag) (p g : Addr) (H : Hp) (b : Nat) (x : V) : Prop where
  i : ItK K p g H x
  l : ∀ s, x = .str s → s.length ≤ b
theorem ItW.keep {K : PySem.W.Frag} {p g : Addr} {H H' : Hp} {b : Nat} {x : V} (h : ItW K p g H b x) (k : Keep p g H H') : ItW K p g H' b x := ⟨h.i.keep k, h.l⟩
theorem ItW.same {K : PySem.W.Frag} {p g : Addr} {H H' : Hp} {b : Nat} {x : V} (h : ItW K p g H b x) (k : Same H H') : ItW K p g H' b x := ⟨h.i.same k, h.l⟩
theorem ItW.up {K : PySem.W.Frag} {p g : Addr} {H : Hp} {b c : Nat} {x : V} (h : ItW K p g H b x) (l : b ≤ c) : ItW K p g H c x := ⟨h.i, fun s e => Nat.le_trans (h.l s e) l⟩
theorem ItW.str {K : PySem.W.Frag} {p g : Addr} {H : Hp} {b : Nat} {s : Str} (h : s.length ≤ b) : ItW K p g H b (.str s) := ⟨fun _ _ => .str _, fun z e => by cases e; exact h⟩
theorem ItW.no {K : PySem.W.Frag} {p g : Addr} {H : Hp} {b : Nat} {x : V} (h : ItK K p g H x) (n : isStrV x = false) : ItW K p g H b x := ⟨h, fun z e => by rw [e] at n; cases n⟩
theorem ItW.ref {K : PySem.W.Frag} {p g : Addr} {H : Hp} {b : Nat} {a : Addr} (h : ItK K p g H (.ref a)) : ItW K p g H b (.ref a) := .no h rfl
theorem KIt.inP {K : PySem.W.Frag} {mg : Str → Option Value} {H : Hp} {C CK x dx : Addr} {fs : List (Str × V)} (pc : PC K mg C) (q : KqC K CK C) (n : NiC K C) (h : H x = some (.ins C dx fs)) : KIt K H (.ref x) :=
  ⟨⟨_, false, false, .base (.ins h pc.cl pc.ha pc.hn pc.ht pc.hm), n.int, n.bool, .inr ⟨.inl rfl, rfl⟩⟩, _, .base (.ins h pc.cl pc.ha pc.hn pc.ht pc.hm), kit_own (by decide +kernel) q.s2⟩
theorem KIt.inQ {K : PySem.W.Frag} {mg : Str → Option Value} {H : Hp} {C CK x dx : Addr} {fs : List (Str × V)} (pk : PK K mg CK) (q : KqC K CK C) (n : NiC K CK) (h : H x = some (.ins CK dx fs)) : KIt K H (.ref x) :=
  ⟨pk.numT n h, _, .base (.ins h pk.cl pk.ha pk.hn pk.ht pk.hm), kit_own (by decide +kernel) q.s1⟩
theorem len_lit (s : String) {n : Nat} (h : s.toList.length ≤ n) : (Str.ofString s).length ≤ n := by
  rw [TL.len_tl, TL.tl_ofString, List.length_map]
  exact h
theorem wv_x : V.str ("x" : Str) = wv (.nm [120]) := by
  refine congrArg V.str (TL.ext_tl ?_)
  rw [TL.tl_ofString]
  rfl
theorem vd_x : Vd [.nm [120]] := by
  refine ⟨⟨.nm [120], rfl, trivial, by decide, by decide⟩, fun w hw => ?_⟩
  have : w = .nm [120] := by simpa using hw
  subst this
  exact ⟨by decide, by decide, by decide⟩
theorem cutA_to {xs : List V} {j : Nat} (h : j ≤ xs.length) : cutV xs none (some (j : Int)) = xs.take j := by
  have := cutV_take (f := id) (l := xs) h
  simpa using this
theorem cutA_from {xs : List V} {j : Nat} (h : j ≤ xs.length) : cutV xs (some (j : Int)) none = xs.drop j := by
  have := cutV_drop (f := id) (l := xs) h
  simpa using this
section
variable {P : Program} {w : World} {K : PySem.W.Frag} {mg : Str → Option Value} {base : Heap}
def spAnyB : Sp := fun vs H Q _ => ∃ (p g s r : Addr) (xs : List V), vs = [.ref p, .ref r] ∧ PotAt H p g s ∧ ((H r = some (.lst xs) ∧ r ≠ p ∧ r ≠ g) ∨ TupF H r xs) ∧ 0 < xs.length ∧ xs.length ≤ 100000 ∧
  ∀ (H' : Hp) (v : V), v ∈ xs → PotAt H' p g s → Keep p g H H' → Q v H'
theorem c_any__B (B : Bt mg) (D : DefAt K mg "_law_any" s_anyV) (C_law_draw : Cal P w K mg base "_law_draw" 1 ["_law_pot_here", "_law_many"] spDraw) : Cal P w K mg base "_law_any" 2 ["_law_pot_here", "_law_items"] spAnyB := by
  refine cal_of D sc_anyV (fun _ _ _ _ _ _ us hl => match us, hl with | [_, _], _ => rfl) (fun vs H Q E h => ?_) (fun fa cdv A outer st0 H vs Q E hr h => ?_)
  · obtain ⟨p, g, s, r, ns, rfl, _⟩ := h
    rfl
  · obtain ⟨p, g, s, r, ns, rfl, PA, hR, pos, hl, k⟩ := h
    have big := bigN
    rcases hR with ⟨hR, rp, rg⟩ | hR
    · refine ⟨_, (pss_one (ps_ret (pe_ix ix_list (pv 1) (pe_c C_law_draw (hr.mono (by decide)) (pa_cons (pv 0) (pa_cons (pe_callB call_len_seq (by rfl) B.b_len (by decide +kernel) (pa_cons (pv 1) pa_nil)) pa_nil))) (fun _ _ => rfl)))), ?_⟩
      refine ⟨_, rfl, _, rfl, _, rfl, r, _, rfl, .inl (SqL.of hR), p, g, s, _, rfl, PA, by omega, by omega, fun H1 j P1 K1 j0 j1 => ?_⟩
      obtain ⟨j, rfl⟩ : ∃ n : Nat, j = (n : Int) := ⟨j.toNat, by omega⟩
      have hj : j < ns.length := by omega
      have hn : ns[j]? = some ns[j] := List.getElem?_eq_getElem hj
      exact ⟨r, _, _, _, rfl, rfl, SqL.of (K1 _ _ hR rp rg), atI_nat hn, k H1 ns[j] (List.getElem_mem hj) P1 K1⟩
    · refine ⟨_, (pss_one (ps_ret (pe_ix ix_tup (pv 1) (pe_c C_law_draw (hr.mono (by decide)) (pa_cons (pv 0) (pa_cons (pe_callB call_len_seq (by rfl) B.b_len (by decide +kernel) (pa_cons (pv 1) pa_nil)) pa_nil))) (fun _ _ => rfl)))), ?_⟩
      refine ⟨_, rfl, _, rfl, _, rfl, r, _, rfl, .inr hR.sq, p, g, s, _, rfl, PA, by omega, by omega, fun H1 j P1 K1 j0 j1 => ?_⟩
      obtain ⟨j, rfl⟩ : ∃ n : Nat, j = (n : Int) := ⟨j.toNat, by omega⟩
      have hj : j < ns.length := by omega
      have hn : ns[j]? = some ns[j] := List.getElem?_eq_getElem hj
      exact ⟨r, _, _, _, rfl, rfl, (hR.keepP PA K1).sq, atI_nat hn, k H1 ns[j] (List.getElem_mem hj) P1 K1⟩
def spItemP (K : PySem.W.Frag) : Sp := fun vs H Q _ => ∃ (p g s a : Addr) (xs : List V) (b : Nat), vs = [.ref p, .ref a] ∧ PotAt H p g s ∧ TupF H a xs ∧ 0 < xs.length ∧ xs.length ≤ 10000 ∧ 20 ≤ b ∧ b ≤ 50 ∧ (∀ x ∈ xs, ItW K p g H b x) ∧
  ∀ H' v, PotAt H' p g s → Keep p g H H' → ItW K p g H' (b + 1) v → Q v H'
abbrev s_item : Stmt := (top 46)
theorem sc_item : FnScope ["_law_pot_here", "_law_words_here", "_law_turn", "_law_odd", "_law_item_here"] ["_law_pot_here", "_law_words_here"] (defScope s_item) := ⟨rfl, rfl, rfl, by decide +kernel, rfl, by decide +kernel, by decide +kernel⟩
theorem c_item {C CK : Addr} (B : Bt mg) (pc : PC K mg C) (pk : PK K mg CK) (NI : NiC K C) (NIK : NiC K CK) (KQ : KqC K CK C) (D : DefAt K mg "_law_item" s_item) (MProgram : Mkr P w K mg base C) (MKind : MkrK P w K mg base CK) (C_law_draw : Cal P w K mg base "_law_draw" 1 ["_law_pot_here", "_law_many"] spDraw)
    (C_law_deep : Cal P w K mg base "_law_deep" 1 [] spDeep) (C_law_any : Cal P w K mg base "_law_any" 2 ["_law_pot_here", "_law_items"] spAnyB) : Cal P w K mg base "_law_item" 7 ["_law_pot_here", "_law_words_here"] (spItemP K) := by
  refine cal_of D sc_item (fun _ _ _ _ _ _ us hl => match us, hl with | [_, _], _ => rfl) (fun vs H Q E h => ?_) (fun fa cdv A outer st0 H vs Q E hr h => ?_)
  · obtain ⟨p, g, s, a, xs, b, rfl, _⟩ := h
    rfl
  · obtain ⟨p, g, s, a, xs, b, rfl, P0, T0, pos, hl, b1, b2, hi, k⟩ := h
    have big := bigN
    refine ⟨_, (pss_cons (ps_set (i := 2) sc_item.nd rfl (by first | exact Or.inl rfl | exact Or.inr rfl) (pe_c C_law_draw (hr.mono (by decide)) (pa_cons (pv 0) (pa_cons pe_int pa_nil))))
      (pss_cons (ps_if (pt_cmpR op_eq (pv 2) pe_int (nomark _)) (pss_cons (ps_set (i := 3) sc_item.nd rfl (by first | exact Or.inl rfl | exact Or.inr rfl) (pe_lst (pa_cons pe_str (pa_cons pe_str (pa_cons pe_str (pa_cons pe_str (pa_cons pe_str (pa_cons pe_str (pa_cons pe_str (pa_cons pe_str (pa_cons pe_int (pa_cons pe_non (pa_cons pe_bl (pa_cons (pe_tup (pa_cons pe_str pa_nil)) (pa_cons (pe_lst (pa_cons pe_str pa_nil)) (pa_cons (pe_c0 C_law_deep (hr.mono (by decide))) pa_nil))))))))))))))))
      (pss_one (ps_ret (pe_c C_law_any (hr.mono (by decide)) (pa_cons (pv 0) (pa_cons (pe_op op_cat (pv 3) (pe_lst (pa_cons (pe_mk1 MProgram (hr.mono (by decide)) (pa_cons (pe_tupF (pa_cons pe_str pa_nil)) pa_nil)) (pa_cons (pe_mkK MKind (hr.mono (by decide)) (pa_cons (pe_tupF (pa_cons pe_int pa_nil)) pa_nil)) (pa_cons pe_str (pa_cons pe_str (pa_cons pe_str (pa_cons pe_str pa_nil)))))))) pa_nil)))))) pss_nil)
      (pss_cons (ps_if (pt_cmpR op_eq (pv 2) pe_int (nomark _)) (pss_one (ps_ret (pe_c C_law_any (hr.mono (by decide)) (pa_cons (pv 0) (pa_cons (pe_lst (pa_cons pe_str (pa_cons pe_str (pa_cons pe_str (pa_cons pe_str (pa_cons pe_str pa_nil)))))) pa_nil))))) pss_nil)
      (pss_cons (ps_set (i := 4) sc_item.nd rfl (by first | exact Or.inl rfl | exact Or.inr rfl) (pe_c C_law_any (hr.mono (by decide)) (pa_cons (pv 0) (pa_cons (pv 1) pa_nil))))
      (pss_cons (ps_if (PW.pt (pw_and (pt_cmpR op_eq (pv 2) pe_int (nomark _)) (pw_and (pt_val (pe_callB call_isi (by rfl) B.b_isinstance (by decide +kernel) (pa_cons (pv 4) (pa_cons (pe_ty (n := "str") B.b_str (by decide +kernel)) pa_nil)))) (pw_and1 (pt_cmpR op_eq (pe_slice sl_str (pv 4) po_none (po_some pe_int)) pe_str (nomark _)))))) (pss_one (ps_ret (pe_slice sl_str (pv 4) (po_some pe_int) po_none))) pss_nil)
      (pss_one (ps_ret (pe_ifExp (PW.pt (pw_and (pt_cmpR op_eq (pv 2) pe_int (nomark _)) (pw_and (pt_val (pe_callB call_isi (by rfl) B.b_isinstance (by decide +kernel) (pa_cons (pv 4) (pa_cons (pe_ty (n := "str") B.b_str (by decide +kernel)) pa_nil)))) (pw_and1 (pt_cmpR op_ne (pv 4) pe_str (nomark _)))))) (pe_op op_add_str pe_str (pv 4)) (pv 4))))))))), ?_⟩
    refine ⟨_, rfl, p, g, s, 4, rfl, P0, by decide, by decide, fun H1 t P1 K1 t0 t1 => ?_⟩
    refine ⟨_, rfl, rfl, _, rfl, ite2 (fun _ => ?_) (fun _ => ?_)⟩
    · refine ⟨(by show 1 ≤ sizeLine; decide), fun a2 n2 => ⟨(by show 1 ≤ sizeLine; decide), fun a3 n3 => ?_⟩⟩
      obtain ⟨p2, g2, _⟩ := P1.freeNe n2
      have S2 := same_upd (o := HO.tup [.str "a"]) n2
      have O2 : ItK K p g (upd H1 a2 (.tup [.str "a"])) (.ref a2) := .at upd_same p2 g2 fun _ e => .tup e
      have P2 := P1.keep S2
      generalize upd H1 a2 (.tup [.str "a"]) = H2 at *
      obtain ⟨p3, g3, _⟩ := P2.freeNe n3
      have S3 := same_upd (o := HO.lst [.str "@"]) n3
      have O3 : ItK K p g (upd H2 a3 (.lst [.str "@"])) (.ref a3) := .at upd_same p3 g3 fun _ e => .lst e
      have P4 := P2.keep S3
      generalize upd H2 a3 (.lst [.str "@"]) = H4 at *
      refine ⟨rfl, fun H6 a6 xs6 S6 T6 _ => ?_⟩
      have P6 := P4.keep S6
      have O6 : ItK K p g H6 (.ref a6) := .tF P6 T6
      have S36 := S6
      have S26 := S3.trans S36
      have S16 := S2.trans S26
      have A6 : ∀ x' ∈ [V.str "", V.str "/", V.str "//a", V.str "A", V.str "a b", V.str "abcdefghi", V.str "/abcdefghi", V.str "@@", V.int 7, V.non, V.bl true, V.ref a2, V.ref a3, V.ref a6], ItW K p g H6 b x' := by
        intro x' hx'
        simp only [List.mem_cons, List.not_mem_nil, or_false] at hx'
        rcases hx' with h | h | h | h | h | h | h | h | h | h | h | h | h | h <;> subst h
        · exact .str (Nat.le_trans (len_lit _ (n := 20) (by decide)) b1)
        · exact .str (Nat.le_trans (len_lit _ (n := 20) (by decide)) b1)
        · exact .str (Nat.le_trans (len_lit _ (n := 20) (by decide)) b1)
        · exact .str (Nat.le_trans (len_lit _ (n := 20) (by decide)) b1)
        · exact .str (Nat.le_trans (len_lit _ (n := 20) (by decide)) b1)
        · exact .str (Nat.le_trans (len_lit _ (n := 20) (by decide)) b1)
        · exact .str (Nat.le_trans (len_lit _ (n := 20) (by decide)) b1)
        · exact .str (Nat.le_trans (len_lit _ (n := 20) (by decide)) b1)
        · exact .no (fun _ _ => .int _) rfl
        · exact .no (fun _ _ => .non) rfl
        · exact .no (fun _ _ => .bl _) rfl
        · exact .ref (O2.same S26)
        · exact .ref (O3.same S36)
        · exact .ref O6
      refine ⟨(by show 14 ≤ sizeLine; decide), fun l1 nl1 => ?_⟩
      generalize hxs1 : [V.str "", V.str "/", V.str "//a", V.str "A", V.str "a b", V.str "abcdefghi", V.str "/abcdefghi", V.str "@@", V.int 7, V.non, V.bl true, V.ref a2, V.ref a3, V.ref a6] = xs1 at *
      have ll1 : xs1.length = 14 := by rw [← hxs1]; rfl
      obtain ⟨lp, lg, _⟩ := P6.freeNe nl1
      have S7 := same_upd (o := HO.lst xs1) nl1
      have L7 : upd H6 l1 (.lst xs1) l1 = some (.lst xs1) := upd_same
      have P7 := P6.keep S7
      have A7 : ∀ x' ∈ xs1, ItW K p g (upd H6 l1 (.lst xs1)) b x' := fun x' hx' => (A6 x' hx').same S7
      have S17 := S16.trans S7
      generalize upd H6 l1 (.lst xs1) = H7 at *
      refine ⟨_, rfl, _, rfl, ?_⟩
      refine ⟨(by show 1 ≤ sizeLine; decide), fun r8 o8 n8 d8 => ?_⟩
      have S8 := same_upd (o := HO.frz o8 (.tup [V.str "x"])) n8
      have T8 : TupF (upd H7 r8 (.frz o8 (.tup [V.str "x"]))) r8 [V.str "x"] := TupF.new d8
      have P8 := P7.keep S8
      generalize upd H7 r8 (.frz o8 (.tup [V.str "x"])) = H8 at *
      refine fun x dx nx ndx nex => ?_
      have Sm := made_same (C := C) nx ndx
      refine ⟨x, dx, r8, [.nm [120]], rfl, upd_same, ?_, vd_x, by decide, fun H9 B9 PX9 => ⟨rfl, ?_⟩⟩
      · have := (T8.same Sm).sq (K := K)
        rw [wv_x] at this
        exact this
      have S9 := B9.same Sm nx
      have P9 := P8.keep S9
      obtain ⟨p9, g9, _⟩ := P8.freeNe nx
      obtain ⟨dx', hx9⟩ := id PX9
      have O9 : ItK K p g H9 (.ref x) := .at hx9 p9 g9 fun _ e => .inP pc KQ NI e
      clear Sm B9
      refine ⟨(by show 1 ≤ sizeLine; decide), fun r10 o10 n10 d10 => ?_⟩
      have S10 := same_upd (o := HO.frz o10 (.tup [.int 0])) n10
      have T10 : TupF (upd H9 r10 (.frz o10 (.tup [.int 0]))) r10 [V.int 0] := TupF.new d10
      have P10 := P9.keep S10
      generalize upd H9 r10 (.frz o10 (.tup [.int 0])) = H10 at *
      refine fun y dy ny ndy ney => ?_
      have Sm := madeK_same (C := CK) ny ndy
      refine ⟨y, dy, r10, [.lt 0], rfl, upd_same, (T10.same Sm).sq, ⟨.cons .nil, by decide⟩, fun H11 B11 PY11 => ⟨rfl, ?_⟩⟩
      have S11 := B11.same Sm ny
      have P11 := P10.keep S11
      obtain ⟨p11, g11, _⟩ := P10.freeNe ny
      obtain ⟨dy', hy11⟩ := id PY11
      have O11 : ItK K p g H11 (.ref y) := .at hy11 p11 g11 fun _ e => .inQ pk KQ NIK e
      clear Sm B11
      have S911 := S10.trans S11
      have S711 := S8.trans (S9.trans S911)
      refine ⟨(by show 6 ≤ sizeLine; decide), fun l2 nl2 => ?_⟩
      have B11 : ∀ x' ∈ [V.ref x, V.ref y, V.str "a\n", V.str "abcdefgh", V.str "/abcdefgh", V.str "ab@"], ItW K p g H11 b x' := by
        intro x' hx'
        simp only [List.mem_cons, List.not_mem_nil, or_false] at hx'
        rcases hx' with h | h | h | h | h | h <;> subst h
        · exact .ref (O9.same S911)
        · exact .ref O11
        · exact .str (Nat.le_trans (len_lit _ (n := 20) (by decide)) b1)
        · exact .str (Nat.le_trans (len_lit _ (n := 20) (by decide)) b1)
        · exact .str (Nat.le_trans (len_lit _ (n := 20) (by decide)) b1)
        · exact .str (Nat.le_trans (len_lit _ (n := 20) (by decide)) b1)
      show rCat (V.ref l1) (V.ref l2) (upd H11 l2 (.lst [V.ref x, V.ref y, V.str "a\n", V.str "abcdefgh", V.str "/abcdefgh", V.str "ab@"])) _
      generalize hxs2 : [V.ref x, V.ref y, V.str "a\n", V.str "abcdefgh", V.str "/abcdefgh", V.str "ab@"] = xs2 at *
      have ll2 : xs2.length = 6 := by rw [← hxs2]; rfl
      have S12 := same_upd (o := HO.lst xs2) nl2
      have L12 : upd H11 l2 (.lst xs2) l2 = some (.lst xs2) := upd_same
      have P12 := P11.keep S12
      refine ⟨l1, l2, _, _, rfl, rfl, S12 _ _ (S711 _ _ L7), L12, (by rw [ll1, ll2, sizeLine_eq]; decide), fun r nr => ?_⟩
      obtain ⟨rp, rg, _⟩ := P12.freeNe nr
      have S13 := same_upd (o := HO.lst (xs1 ++ xs2)) nr
      have P13 := P12.keep S13
      have A13 : ∀ x' ∈ xs1 ++ xs2, ItW K p g (upd (upd H11 l2 (.lst xs2)) r (.lst (xs1 ++ xs2))) b x' := fun x' hx' => by
        rcases List.mem_append.mp hx' with h | h
        · exact ((A7 x' h).same S711).same (S12.trans S13)
        · exact (B11 x' h).same (S12.trans S13)
      have S113 := S17.trans (S711.trans (S12.trans S13))
      refine ⟨p, g, s, r, _, rfl, P13, .inl ⟨upd_same, rp, rg⟩, by rw [List.length_append, ll1, ll2]; decide, by rw [List.length_append, ll1, ll2]; decide, fun H14 v hv P14 K14 => ?_⟩
      exact k H14 v P14 (K1.trans ((Same.keep S113).trans K14)) (((A13 v hv).keep K14).up (by omega))
    refine ⟨_, rfl, rfl, _, rfl, ite2 (fun _ => ?_) (fun _ => ?_)⟩
    · refine ⟨_, rfl, (by show 5 ≤ sizeLine; decide), fun l2 nl2 => ?_⟩
      have B2 : ∀ x' ∈ [V.str "@", V.str "/x", V.str "x", V.str "/y", V.str "y"], ItW K p g H1 b x' := by
        intro x' hx'
        simp only [List.mem_cons, List.not_mem_nil, or_false] at hx'
        rcases hx' with h | h | h | h | h <;> subst h
        all_goals exact .str (Nat.le_trans (len_lit _ (n := 20) (by decide)) b1)
      obtain ⟨lp, lg, _⟩ := P1.freeNe nl2
      generalize hxs2 : [V.str "@", V.str "/x", V.str "x", V.str "/y", V.str "y"] = xs2 at *
      have ll2 : xs2.length = 5 := by rw [← hxs2]; rfl
      have S3 := same_upd (o := HO.lst xs2) nl2
      refine ⟨p, g, s, l2, xs2, rfl, P1.keep S3, .inl ⟨upd_same, lp, lg⟩, by omega, by omega, fun H4 v4 hv4 P4 K4 => ?_⟩
      exact k H4 v4 P4 (K1.trans ((Same.keep S3).trans K4)) ((((B2 v4 hv4).same S3).keep K4).up (by omega))
    refine ⟨_, rfl, _, rfl, p, g, s, a, xs, rfl, P1, .inr (T0.keepP P0 K1), pos, by omega, fun H2 v hv P2 K2 => ?_⟩
    have iv := ((hi v hv).keep K1).keep K2
    have K02 := K1.trans K2
    obtain ⟨t', ty, hk⟩ := iv.i.now.ex
    have fin : Q v H2 := k H2 v P2 K02 (iv.up (by omega))
    have sl : ∀ z : Str, z.length ≤ 100 → z.length ≤ sizeLine := fun z h => Nat.le_of_lt (small_lt (m := 100) h (by decide))
    cases ht : decide (V.int t = V.int 2) with
    | false =>
      refine ⟨_, rfl, rfl, _, rfl, ?_⟩
      rw [ht]
      refine iteF (iteF ?_)
      refine ⟨_, rfl, rfl, _, rfl, ?_⟩
      rw [ht]
      exact iteF (iteF ⟨_, rfl, fin⟩)
    | true =>
      refine ⟨_, rfl, rfl, _, rfl, ?_⟩
      rw [ht]
      refine iteT ?_
      refine ⟨_, rfl, _, _, _, _, _, rfl, .ty _, ty, hk, _, rfl, ?_⟩
      cases v with
      | str z =>
        have lz := iv.l z rfl
        have ls := sl z (by omega)
        refine iteT ?_
        refine ⟨_, rfl, _, rfl, _, rfl, ls, rfl, _, rfl, ?_⟩
        cases h1 : decide (V.str (cutS z none (some 1)) = V.str "/") with
        | true =>
          refine iteT ?_
          refine ⟨_, rfl, _, rfl, _, rfl, ls, ?_⟩
          exact k H2 _ P2 K02 (.str (by have := len_cut1 z; omega))
        | false =>
          refine iteF ?_
          refine ⟨_, rfl, rfl, _, rfl, ?_⟩
          rw [ht]
          refine iteT ?_
          refine ⟨_, rfl, _, _, _, _, _, rfl, .ty _, ty, hk, _, rfl, iteT ?_⟩
          refine ⟨_, rfl, rfl, _, rfl, ?_⟩
          cases h2 : decide (V.str z = V.str "@") with
          | true => exact iteF ⟨_, rfl, fin⟩
          | false =>
            refine iteT ?_
            refine ⟨_, rfl, _, _, rfl, rfl, ?_, k H2 _ P2 K02 (.str ?_)⟩
            · have : (Str.ofString "/").length ≤ 1 := len_lit _ (by decide)
              have := sl z (by omega)
              exact Nat.le_of_lt (small_lt (m := 101) (by omega) (by decide))
            · rw [TL.len_tl, TL.tl_append, List.length_append, ← TL.len_tl, ← TL.len_tl]
              have : (Str.ofString "/").length ≤ 1 := len_lit _ (by decide)
              omega
      | _ =>
        refine iteF (iteF ?_)
        refine ⟨_, rfl, rfl, _, rfl, ?_⟩
        rw [ht]
        refine iteT ?_
        refine ⟨_, rfl, _, _, _, _, _, rfl, .ty _, ty, hk, _, rfl, ?_⟩
        exact iteF (iteF ⟨_, rfl, fin⟩)
end
end Kk

set_option maxHeartbeats 4000000
/-! things drawn -/
namespace Kk
open PySem PySem.Spec PyProof.Rows L2 Wd
section
variable {P : Program} {w : World} {K : PySem.W.Frag} {mg : Str → Option Value} {base : Heap}
def spSpoilP (K : PySem.W.Frag) : Sp := fun vs H Q _ => ∃ (p g s a : Addr) (xs : List V) (bd : Nat), vs = [.ref p, .ref a] ∧ PotAt H p g s ∧ TupF H a xs ∧ 0 < xs.length ∧ xs.length ≤ 9000 ∧ 20 ≤ bd ∧ bd ≤ 50 ∧ (∀ x ∈ xs, ItW K p g H bd x) ∧
  ∀ H' b ys, PotAt H' p g s → Keep p g H H' → TupF H' b ys → 0 < ys.length → ys.length ≤ xs.length + 1 → (∀ x ∈ ys, ItW K p g H' (bd + 1) x) → Q (.ref b) H'
abbrev s_spoil : Stmt := (top 47)
theorem sc_spoil : FnScope ["_law_pot_here", "_law_words_here", "_law_turn", "_law_at", "_law_rest", "_law_other"] ["_law_pot_here", "_law_words_here"] (defScope s_spoil) := ⟨rfl, rfl, rfl, by decide +kernel, rfl, by decide +kernel, by decide +kernel⟩
theorem c_spoil (B : Bt mg) (D : DefAt K mg "_law_spoiled" s_spoil) (C_law_draw : Cal P w K mg base "_law_draw" 1 ["_law_pot_here", "_law_many"] spDraw) (C_law_item : Cal P w K mg base "_law_item" 7 ["_law_pot_here", "_law_words_here"] (spItemP K)) : Cal P w K mg base "_law_spoiled" 8 ["_law_pot_here", "_law_words_here"] (spSpoilP K) := by
  refine cal_of D sc_spoil (fun _ _ _ _ _ _ us hl => match us, hl with | [_, _], _ => rfl) (fun vs H Q E h => ?_) (fun fa cdv A outer st0 H vs Q E hr h => ?_)
  · obtain ⟨p, g, s, a, xs, bd, rfl, _⟩ := h
    rfl
  · obtain ⟨p, g, s, a, xs, bd, rfl, P0, T0, pos, hl, bd1, bd2, hi0, k⟩ := h
    have hi : ∀ x ∈ xs, ItW K p g H (bd + 1) x := fun x hx => (hi0 x hx).up (by omega)
    have big := bigN
    refine ⟨_, (pss_cons (ps_set (i := 2) sc_spoil.nd rfl (by first | exact Or.inl rfl | exact Or.inr rfl) (pe_c C_law_draw (hr.mono (by decide)) (pa_cons (pv 0) (pa_cons pe_int pa_nil))))
      (pss_cons (ps_set (i := 3) sc_spoil.nd rfl (by first | exact Or.inl rfl | exact Or.inr rfl) (pe_c C_law_draw (hr.mono (by decide)) (pa_cons (pv 0) (pa_cons (pe_callB call_len_seq (by rfl) B.b_len (by decide +kernel) (pa_cons (pv 1) pa_nil)) pa_nil))))
      (pss_cons (ps_if (pt_cmpR op_eq (pv 2) pe_int (nomark _)) (pss_one (ps_ret (pe_op op_catF (pe_op op_catF (pe_slice sl_tupG (pv 1) po_none (po_some (pv 3))) (pe_tupF (pa_cons (pe_c C_law_item (hr.mono (by decide)) (pa_cons (pv 0) (pa_cons (pv 1) pa_nil))) pa_nil))) (pe_slice sl_tupG (pv 1) (po_some (pe_op op_add (pv 3) pe_int)) po_none)))) pss_nil)
      (pss_cons (ps_if (pt_cmpR op_eq (pv 2) pe_int (nomark _)) (pss_one (ps_ret (pe_ifExp (pt_cmpR op_gt (pe_callB call_len_seq (by rfl) B.b_len (by decide +kernel) (pa_cons (pv 1) pa_nil)) pe_int (nomark _)) (pe_op op_catF (pe_slice sl_tupG (pv 1) po_none (po_some (pv 3))) (pe_slice sl_tupG (pv 1) (po_some (pe_op op_add (pv 3) pe_int)) po_none)) (pv 1)))) pss_nil)
      (pss_cons (ps_if (pt_cmpR op_eq (pv 2) pe_int (nomark _)) (pss_one (ps_ret (pe_op op_catF (pe_op op_catF (pe_slice sl_tupG (pv 1) po_none (po_some (pv 3))) (pe_tupF (pa_cons (pe_c C_law_item (hr.mono (by decide)) (pa_cons (pv 0) (pa_cons (pv 1) pa_nil))) pa_nil))) (pe_slice sl_tupG (pv 1) (po_some (pv 3)) po_none)))) pss_nil)
      (pss_cons (ps_set (i := 4) sc_spoil.nd rfl (by first | exact Or.inl rfl | exact Or.inr rfl) (pe_op op_catF (pe_slice sl_tupG (pv 1) po_none (po_some (pv 3))) (pe_slice sl_tupG (pv 1) (po_some (pe_op op_add (pv 3) pe_int)) po_none)))
      (pss_cons (ps_set (i := 5) sc_spoil.nd rfl (by first | exact Or.inl rfl | exact Or.inr rfl) (pe_c C_law_draw (hr.mono (by decide)) (pa_cons (pv 0) (pa_cons (pe_callB call_len_seq (by rfl) B.b_len (by decide +kernel) (pa_cons (pv 1) pa_nil)) pa_nil))))
      (pss_one (ps_ret (pe_op op_catF (pe_op op_catF (pe_slice sl_tupG (pv 4) po_none (po_some (pv 5))) (pe_tupF (pa_cons (pe_ix ix_tup (pv 1) (pv 3) (fun _ _ => rfl)) pa_nil))) (pe_slice sl_tupG (pv 4) (po_some (pv 5)) po_none))))))))))), ?_⟩
    refine ⟨_, rfl, p, g, s, 4, rfl, P0, by decide, by decide, fun H1 t P1 K1 t0 t1 => ?_⟩
    have T1 := T0.keepP P0 K1
    refine ⟨_, rfl, _, rfl, a, _, rfl, .inr T1.sq, p, g, s, _, rfl, P1, by omega, by omega, fun H2 j P2 K2 j0 j1 => ?_⟩
    obtain ⟨j, rfl⟩ : ∃ n : Nat, j = (n : Int) := ⟨j.toNat, by omega⟩
    have T2 := T1.keepP P1 K2
    have K02 := K1.trans K2
    have I2 : ∀ x ∈ xs, ItW K p g H2 (bd + 1) x := fun x hx => (hi x hx).keep K02
    have J2 : ∀ x ∈ xs, ItW K p g H2 bd x := fun x hx => (hi0 x hx).keep K02
    have hj : j < xs.length := by omega
    have ej : ((j : Nat) : Int) + 1 = ((j + 1 : Nat) : Int) := by omega
    -- words[:at] + (item,) + words[m:]
    refine ⟨_, rfl, rfl, _, rfl, ite2 (fun _ => ?_) (fun _ => ?_)⟩
    · refine ⟨_, rfl, _, rfl, _, rfl, cutF_of T2 fun H3 b3 S3 U3 => ?_⟩
      rw [cutA_to (by omega)] at U3
      have P3 := P2.keep S3
      refine ⟨_, rfl, _, rfl, p, g, s, a, xs, bd, rfl, P3, T2.same S3, pos, by omega, bd1, bd2, fun x hx => (J2 x hx).same S3, fun H4 v P4 K4 I4 => ?_⟩
      refine ⟨(by show 1 ≤ sizeLine; decide), fun r5 o5 n5 d5 => ?_⟩
      have S5 := same_upd (o := HO.frz o5 (.tup [v])) n5
      have U5 : TupF (upd H4 r5 (.frz o5 (.tup [v]))) r5 [v] := TupF.new d5
      have P5 := P4.keep S5
      have I5 := I4.same S5
      generalize upd H4 r5 (.frz o5 (.tup [v])) = H5 at *
      have U35 := (U3.keepP P3 K4).same S5
      refine catF_of U35 U5 (by simp; omega) fun H6 b6 S6 U6 => ?_
      have T6 := ((((T2.same S3).keepP P3 K4).same S5).same S6)
      refine ⟨_, rfl, _, rfl, _, _, rfl, rfl, ((j + 1 : Nat) : Int), congrArg V.int ej, ?_⟩
      dsimp only [tNoPart]
      refine cutF_of T6 fun H7 b7 S7 U7 => ?_
      rw [cutA_from (by omega)] at U7
      refine catF_of (U6.same S7) U7 (by simp; omega) fun H8 b8 S8 U8 => ?_
      have S58 := S6.trans (S7.trans S8)
      have K28 : Keep p g H2 H8 := (Same.keep S3).trans (K4.trans (Same.keep (S5.trans S58)))
      refine k H8 b8 _ (P5.keep S58) (K02.trans K28) U8 (by simp; omega) (by simp; omega) fun x hx => ?_
      rcases List.mem_append.mp hx with hx | hx
      · rcases List.mem_append.mp hx with hx | hx
        · exact (I2 x (List.mem_of_mem_take hx)).keep K28
        · rw [List.mem_singleton.mp hx]; exact I5.same S58
      · exact (I2 x (List.mem_of_mem_drop hx)).keep K28
    refine ⟨_, rfl, rfl, _, rfl, ite2 (fun _ => ?_) (fun _ => ?_)⟩
    · refine ⟨_, rfl, _, _, rfl, .inr T2.sq, _, _, rfl, rfl, _, rfl, ite2 (fun h1 => ?_) (fun _ => ?_)⟩
      · have h1 : 1 < xs.length := by have := of_decide_eq_true h1; omega
        refine ⟨_, rfl, _, rfl, _, rfl, cutF_of T2 fun H3 b3 S3 U3 => ?_⟩
        rw [cutA_to (by omega)] at U3
        refine ⟨_, rfl, _, rfl, _, _, rfl, rfl, ((j + 1 : Nat) : Int), congrArg V.int ej, ?_⟩
        dsimp only [tNoPart]
        refine cutF_of (T2.same S3) fun H4 b4 S4 U4 => ?_
        rw [cutA_from (by omega)] at U4
        refine catF_of (U3.same S4) U4 (by simp; omega) fun H5 b5 S5 U5 => ?_
        have S25 := S3.trans (S4.trans S5)
        refine k H5 b5 _ (P2.keep S25) (K02.trans (Same.keep S25)) U5 (by simp; omega) (by simp; omega) fun x hx => ?_
        rcases List.mem_append.mp hx with hx | hx
        · exact (I2 x (List.mem_of_mem_take hx)).same S25
        · exact (I2 x (List.mem_of_mem_drop hx)).same S25
      · exact ⟨_, rfl, k H2 a xs P2 K02 T2 pos (by omega) I2⟩
    refine ⟨_, rfl, rfl, _, rfl, ite2 (fun _ => ?_) (fun _ => ?_)⟩
    · refine ⟨_, rfl, _, rfl, _, rfl, cutF_of T2 fun H3 b3 S3 U3 => ?_⟩
      rw [cutA_to (by omega)] at U3
      have P3 := P2.keep S3
      refine ⟨_, rfl, _, rfl, p, g, s, a, xs, bd, rfl, P3, T2.same S3, pos, by omega, bd1, bd2, fun x hx => (J2 x hx).same S3, fun H4 v P4 K4 I4 => ?_⟩
      refine ⟨(by show 1 ≤ sizeLine; decide), fun r5 o5 n5 d5 => ?_⟩
      have S5 := same_upd (o := HO.frz o5 (.tup [v])) n5
      have U5 : TupF (upd H4 r5 (.frz o5 (.tup [v]))) r5 [v] := TupF.new d5
      have P5 := P4.keep S5
      have I5 := I4.same S5
      generalize upd H4 r5 (.frz o5 (.tup [v])) = H5 at *
      have U35 := (U3.keepP P3 K4).same S5
      refine catF_of U35 U5 (by simp; omega) fun H6 b6 S6 U6 => ?_
      have T6 := ((((T2.same S3).keepP P3 K4).same S5).same S6)
      refine ⟨_, rfl, _, rfl, _, rfl, ?_⟩
      dsimp only [tNoPart]
      refine cutF_of T6 fun H7 b7 S7 U7 => ?_
      rw [cutA_from (by omega)] at U7
      refine catF_of (U6.same S7) U7 (by simp; omega) fun H8 b8 S8 U8 => ?_
      have S58 := S6.trans (S7.trans S8)
      have K28 : Keep p g H2 H8 := (Same.keep S3).trans (K4.trans (Same.keep (S5.trans S58)))
      refine k H8 b8 _ (P5.keep S58) (K02.trans K28) U8 (by simp; omega) (by simp; omega) fun x hx => ?_
      rcases List.mem_append.mp hx with hx | hx
      · rcases List.mem_append.mp hx with hx | hx
        · exact (I2 x (List.mem_of_mem_take hx)).keep K28
        · rw [List.mem_singleton.mp hx]; exact I5.same S58
      · exact (I2 x (List.mem_of_mem_drop hx)).keep K28
    · refine ⟨_, rfl, _, rfl, _, rfl, cutF_of T2 fun H3 b3 S3 U3 => ?_⟩
      rw [cutA_to (by omega)] at U3
      refine ⟨_, rfl, _, rfl, _, _, rfl, rfl, ((j + 1 : Nat) : Int), congrArg V.int ej, ?_⟩
      dsimp only [tNoPart]
      refine cutF_of (T2.same S3) fun H4 b4 S4 U4 => ?_
      rw [cutA_from (by omega)] at U4
      refine catF_of (U3.same S4) U4 (by simp; omega) fun H5 b5 S5 U5 => ?_
      have S25 := S3.trans (S4.trans S5)
      have T5 := T2.same S25
      have P5 := P2.keep S25
      refine ⟨_, rfl, _, rfl, a, _, rfl, .inr T5.sq, p, g, s, _, rfl, P5, by omega, by omega, fun H6 q P6 K6 q0 q1 => ?_⟩
      obtain ⟨q, rfl⟩ : ∃ n : Nat, q = (n : Int) := ⟨q.toNat, by omega⟩
      have U6 := U5.keepP P5 K6
      have T6 := T5.keepP P5 K6
      generalize hrs : List.take j xs ++ List.drop (j + 1) xs = rs at *
      have lrs : rs.length + 1 = xs.length := by rw [← hrs]; simp; omega
      have irs : ∀ x ∈ rs, x ∈ xs := fun x hx => by
        rw [← hrs] at hx
        rcases List.mem_append.mp hx with hx | hx
        · exact List.mem_of_mem_take hx
        · exact List.mem_of_mem_drop hx
      refine ⟨_, rfl, _, rfl, _, rfl, cutF_of U6 fun H7 b7 S7 U7 => ?_⟩
      rw [cutA_to (by omega)] at U7
      have hx : xs[j]? = some xs[j] := List.getElem?_eq_getElem hj
      refine ⟨_, rfl, _, rfl, a, _, _, _, rfl, rfl, (T6.same S7).sq, atI_nat hx, ?_⟩
      refine ⟨(by show 1 ≤ sizeLine; decide), fun r8 o8 n8 d8 => ?_⟩
      have S8 := same_upd (o := HO.frz o8 (.tup [xs[j]])) n8
      have U8 : TupF (upd H7 r8 (.frz o8 (.tup [xs[j]]))) r8 [xs[j]] := TupF.new d8
      have P8 := (P6.keep S7).keep S8
      generalize upd H7 r8 (.frz o8 (.tup [xs[j]])) = H8 at *
      refine catF_of (U7.same S8) U8 (by simp; omega) fun H9 b9 S9 U9 => ?_
      refine ⟨_, rfl, _, rfl, _, rfl, ?_⟩
      dsimp only [tNoPart]
      refine cutF_of (((U6.same S7).same S8).same S9) fun H10 b10 S10 U10 => ?_
      rw [cutA_from (by omega)] at U10
      refine catF_of (U9.same S10) U10 (by simp; omega) fun H11 b11 S11 U11 => ?_
      have S811 := S9.trans (S10.trans S11)
      have K211 : Keep p g H2 H11 := (Same.keep S25).trans (K6.trans (Same.keep (S7.trans (S8.trans S811))))
      refine k H11 b11 _ (P8.keep S811) (K02.trans K211) U11 (by simp; omega) (by simp; omega) fun x hx => ?_
      rcases List.mem_append.mp hx with hx | hx
      · rcases List.mem_append.mp hx with hx | hx
        · exact (I2 x (irs x (List.mem_of_mem_take hx))).keep K211
        · rw [List.mem_singleton.mp hx]; exact (I2 _ (List.getElem_mem hj)).keep K211
      · exact (I2 x (irs x (List.mem_of_mem_drop hx))).keep K211
end
/-- a thing, and stays one -/
def ThK (K : PySem.W.Frag) (p g : Addr) (H : Hp) (x : V) : Prop := ∀ H', Keep p g H H' → ∃ d, ThP K H' x d
theorem ThK.keep {K : PySem.W.Frag} {p g : Addr} {H H' : Hp} {x : V} (h : ThK K p g H x) (k : Keep p g H H') : ThK K p g H' x := fun H2 k2 => h H2 (k.trans k2)
theorem ThK.same {K : PySem.W.Frag} {p g : Addr} {H H' : Hp} {x : V} (h : ThK K p g H x) (k : Same H H') : ThK K p g H' x := h.keep (Same.keep k)
theorem ThK.tF {K : PySem.W.Frag} {p g s : Addr} {H : Hp} {a : Addr} {xs : List V} (P : PotAt H p g s) (t : TupF H a xs) (i : ∀ x ∈ xs, ItW K p g H 100 x) (l : xs.length ≤ 100000) : ThK K p g H (.ref a) := fun H' k => by
  obtain ⟨d, pd⟩ := pdue_ex xs
  exact ⟨d, .tup (t.keepP P k).sq (fun x hx => ⟨(i x hx).i H' k, (i x hx).l⟩) l pd⟩
theorem ThP.bt {K : PySem.W.Frag} {H : Hp} {v : V} {T : String} (ty : TyX K H v (.type T)) (h : kitB T "tuple" = some false) : ∃ d, ThP K H v d := ⟨_, .no ty (kit_ty h)⟩
theorem ThK.at {K : PySem.W.Frag} {p g : Addr} {H : Hp} {a : Addr} {o : HO} (e : H a = some o) (h1 : a ≠ p) (h2 : a ≠ g) (h : ∀ H', H' a = some o → ∃ d, ThP K H' (.ref a) d) : ThK K p g H (.ref a) := fun H' k => h H' (k _ _ e h1 h2)
theorem ThP.own {K : PySem.W.Frag} {H : Hp} {C x dx : Addr} {fs : List (Str × V)} (ty : TyX K H (.ref x) (.ref C)) (t : PySem.W.mroIn K C (.type "tuple") = some false) : ∃ d, ThP K H (.ref x) d := ⟨_, .no ty (kit_own (by decide +kernel) t)⟩
section
variable {P : Program} {w : World} {K : PySem.W.Frag} {mg : Str → Option Value} {base : Heap}
def spThingP (K : PySem.W.Frag) : Sp := fun vs H Q _ => ∃ (p g s : Addr), vs = [.ref p] ∧ PotAt H p g s ∧
  ∀ H' v, PotAt H' p g s → Keep p g H H' → ThK K p g H' v → Q v H'
abbrev s_thingP : Stmt := (top 48)
theorem sc_thingP : FnScope ["_law_pot_here", "_law_turn", "_law_givens", "_law_names", "_law_one", "_law_spoils", "_law_words_here"] ["_law_pot_here"] (defScope s_thingP) := ⟨rfl, rfl, rfl, by decide +kernel, rfl, by decide +kernel, by decide +kernel⟩
theorem c_thingP {C CK : Addr} (B : Bt mg) (pc : PC K mg C) (pk : PK K mg CK) (KQ : KqC K CK C) (D : DefAt K mg "_law_thing" s_thingP) (MProgram : Mkr P w K mg base C) (MKind : MkrK P w K mg base CK) (C_law_draw : Cal P w K mg base "_law_draw" 1 ["_law_pot_here", "_law_many"] spDraw)
    (C_law_deep : Cal P w K mg base "_law_deep" 1 [] spDeep) (C_law_any : Cal P w K mg base "_law_any" 2 ["_law_pot_here", "_law_items"] spAnyB) (C_law_fresh : Cal P w K mg base "_law_fresh" 2 ["_law_pot_here", "_law_used"] spFresh) (C_law_words : Cal P w K mg base "_law_words" 3 ["_law_pot_here", "_law_names", "_law_givens", "_law_used"] spWords) (C_law_spoiled : Cal P w K mg base "_law_spoiled" 8 ["_law_pot_here", "_law_words_here"] (spSpoilP K)) :
    Cal P w K mg base "_law_thing" 9 ["_law_pot_here"] (spThingP K) := by
  refine cal_of D sc_thingP (fun _ _ _ _ _ _ us hl => match us, hl with | [_], _ => rfl) (fun vs H Q E h => ?_) (fun fa cdv A outer st0 H vs Q E hr h => ?_)
  · obtain ⟨p, g, s, rfl, _⟩ := h
    rfl
  · obtain ⟨p, g, s, rfl, P0, k⟩ := h
    have big := bigN
    refine ⟨_, (pss_cons (ps_set (i := 1) sc_thingP.nd rfl (by first | exact Or.inl rfl | exact Or.inr rfl) (pe_c C_law_draw (hr.mono (by decide)) (pa_cons (pv 0) (pa_cons pe_int pa_nil))))
      (C8.pss_cut (ps_if (pt_cmpR op_eq (pv 1) pe_int (nomark _)) (pss_one (ps_ret (pe_c C_law_any (hr.mono (by decide)) (pa_cons (pv 0) (pa_cons (pe_lst (pa_cons (pe_tup pa_nil) (pa_cons (pe_lst pa_nil) (pa_cons (pe_lst (pa_cons pe_str pa_nil)) (pa_cons pe_str (pa_cons pe_non (pa_cons pe_int (pa_cons pe_bl (pa_cons (pe_disp (pps_cons pe_str pe_int pps_nil) rfl rfl (by simp) (by decide)) (pa_cons (pe_mk1 MProgram (hr.mono (by decide)) (pa_cons (pe_tupF (pa_cons pe_str pa_nil)) pa_nil)) (pa_cons (pe_mkK MKind (hr.mono (by decide)) (pa_cons (pe_tupF (pa_cons pe_int pa_nil)) pa_nil)) (pa_cons (pe_c0 C_law_deep (hr.mono (by decide))) pa_nil)))))))))))) pa_nil))))) pss_nil)
      (pss_cons (ps_set (i := 2) sc_thingP.nd rfl (by first | exact Or.inl rfl | exact Or.inr rfl) (pe_c C_law_draw (hr.mono (by decide)) (pa_cons (pv 0) (pa_cons pe_int pa_nil))))
      (C8.pss_cut (ps_if (pt_cmpR op_eq (pv 1) pe_int (nomark _)) (pss_one (ps_set (i := 2) sc_thingP.nd rfl (by first | exact Or.inl rfl | exact Or.inr rfl) (pe_op op_sub pe_int (pe_callTy call_int1 (by rfl) B.b_int (by decide +kernel) (pa_cons (pe_cmpR op_eq (pe_c C_law_draw (hr.mono (by decide)) (pa_cons (pv 0) (pa_cons pe_int pa_nil))) pe_int (nomark _)) pa_nil))))) pss_nil)
      (pss_cons (ps_set (i := 3) sc_thingP.nd rfl (by first | exact Or.inl rfl | exact Or.inr rfl) (pe_lst pa_nil))
      (pss_cons (ps_for PassesOwn.never rfl (pi_range1 (by rfl) B.b_range (pa_cons (pe_callB (call_min2 rfl) (by rfl) B.b_min (by decide +kernel) (pa_cons (pe_c C_law_draw (hr.mono (by decide)) (pa_cons (pv 0) (pa_cons pe_int pa_nil))) (pa_cons (pe_op op_add (pv 2) pe_int) pa_nil))) pa_nil)) (pg_name (i := 4) sc_thingP.nd rfl (by first | exact Or.inl rfl | exact Or.inr rfl)) (pss_one (ps_expr (pe_c C_law_fresh (hr.mono (by decide)) (pa_cons (pv 0) (pa_cons (pv 3) pa_nil))))))
      (pss_cons (ps_set (i := 5) sc_thingP.nd rfl (by first | exact Or.inl rfl | exact Or.inr rfl) (pe_callB (call_max2 rfl) (by rfl) B.b_max (by decide +kernel) (pa_cons pe_int (pa_cons (pe_op op_sub (pe_c C_law_draw (hr.mono (by decide)) (pa_cons (pv 0) (pa_cons pe_int pa_nil))) pe_int) pa_nil))))
      (pss_cons (ps_set (i := 6) sc_thingP.nd rfl (by first | exact Or.inl rfl | exact Or.inr rfl) (pe_c C_law_words (hr.mono (by decide)) (pa_cons (pv 0) (pa_cons (pe_callTy call_list_of (by rfl) B.b_list (by decide +kernel) (pa_cons (pv 3) pa_nil)) (pa_cons (pv 2) (pa_cons (pv 3) pa_nil))))))
      (pss_cons (ps_for PassesOwn.never rfl (pi_range1 (by rfl) B.b_range (pa_cons (pv 5) pa_nil)) (pg_name (i := 4) sc_thingP.nd rfl (by first | exact Or.inl rfl | exact Or.inr rfl)) (pss_one (ps_set (i := 6) sc_thingP.nd rfl (by first | exact Or.inl rfl | exact Or.inr rfl) (pe_c C_law_spoiled (hr.mono (by decide)) (pa_cons (pv 0) (pa_cons (pv 6) pa_nil))))))
      (pss_one (ps_ret (pv 6)))))))))))), ?_⟩
    refine ⟨_, rfl, p, g, s, 24, rfl, P0, by decide, by decide, fun H1 t P1 K1 t0 t1 => ?_⟩
    refine ⟨fun σ H' => σ = [some (.ref p), some (.int t), none, none, none, none, none] ∧ H' = H1, ?_, ?_⟩
    · refine ⟨_, rfl, rfl, _, rfl, ite2 (fun _ => ?_) (fun _ => ⟨rfl, rfl⟩)⟩
      refine ⟨_, rfl, ?_⟩
      refine ⟨Nat.zero_le _, fun a1 n1 => ⟨Nat.zero_le _, fun a2 n2 => ⟨(by show 1 ≤ sizeLine; decide), fun a3 n3 a4 n4 => ?_⟩⟩⟩
      obtain ⟨p1, g1, _⟩ := P1.freeNe n1
      have S1 := same_upd (o := HO.tup []) n1
      have O1 : ThK K p g (upd H1 a1 (.tup [])) (.ref a1) := .at upd_same p1 g1 fun _ e => (by obtain ⟨d, pd⟩ := pdue_ex []; exact ⟨d, .tup (SqT.of e) (fun x hx => absurd hx (by simp)) (Nat.zero_le _) pd⟩)
      have P1' := P1.keep S1
      generalize upd H1 a1 (.tup []) = H1' at *
      obtain ⟨p2, g2, _⟩ := P1'.freeNe n2
      have S2 := same_upd (o := HO.lst []) n2
      have O2 : ThK K p g (upd H1' a2 (.lst [])) (.ref a2) := .at upd_same p2 g2 fun _ e => ThP.bt (T := "list") (.base (.lst e)) (by decide +kernel)
      have P2 := P1'.keep S2
      generalize upd H1' a2 (.lst []) = H2 at *
      obtain ⟨p3, g3, _⟩ := P2.freeNe n3
      have S3 := same_upd (o := HO.lst [.str "x"]) n3
      have O3 : ThK K p g (upd H2 a3 (.lst [.str "x"])) (.ref a3) := .at upd_same p3 g3 fun _ e => ThP.bt (T := "list") (.base (.lst e)) (by decide +kernel)
      have P3 := P2.keep S3
      generalize upd H2 a3 (.lst [.str "x"]) = H3 at *
      obtain ⟨p4, g4, _⟩ := P3.freeNe n4
      refine ⟨upd_same, [(Sum.inr "x", .int 1)], rfl, by decide, ?_⟩
      have S4 : Same H3 (upd (upd H3 a4 (.dK [])) a4 (.dK (mergeK [] [(Sum.inr "x", .int 1)]))) := fun b o hb => by
        rw [upd_ne (ne_of_none hb n4), upd_ne (ne_of_none hb n4)]
        exact hb
      have O4 : ThK K p g (upd (upd H3 a4 (.dK [])) a4 (.dK (mergeK [] [(Sum.inr "x", .int 1)]))) (.ref a4) := .at upd_same p4 g4 fun _ e => ThP.bt (T := "dict") (.base (.dK e)) (by decide +kernel)
      have P4 := P3.keep S4
      generalize upd (upd H3 a4 (.dK [])) a4 (.dK (mergeK [] [(Sum.inr "x", .int 1)])) = H4 at *
      refine ⟨(by show 1 ≤ sizeLine; decide), fun r8 o8 n8 d8 => ?_⟩
      have S8 := same_upd (o := HO.frz o8 (.tup [V.str "x"])) n8
      have T8 : TupF (upd H4 r8 (.frz o8 (.tup [V.str "x"]))) r8 [V.str "x"] := TupF.new d8
      have P8 := P4.keep S8
      generalize upd H4 r8 (.frz o8 (.tup [V.str "x"])) = H8 at *
      refine fun x dx nx ndx nex => ?_
      have Sm := made_same (C := C) nx ndx
      refine ⟨x, dx, r8, [.nm [120]], rfl, upd_same, ?_, vd_x, by decide, fun H9 B9 PX9 => ⟨rfl, ?_⟩⟩
      · have := (T8.same Sm).sq (K := K)
        rw [wv_x] at this
        exact this
      have S9 := B9.same Sm nx
      have P9 := P8.keep S9
      obtain ⟨p9, g9, _⟩ := P8.freeNe nx
      obtain ⟨dx', hx9⟩ := id PX9
      have O9 : ThK K p g H9 (.ref x) := .at hx9 p9 g9 fun _ e => ThP.own (fs := []) (dx := 0) (.base (.ins e pc.cl pc.ha pc.hn pc.ht pc.hm)) KQ.t2
      clear Sm B9
      refine ⟨(by show 1 ≤ sizeLine; decide), fun r10 o10 n10 d10 => ?_⟩
      have S10 := same_upd (o := HO.frz o10 (.tup [.int 0])) n10
      have T10 : TupF (upd H9 r10 (.frz o10 (.tup [.int 0]))) r10 [V.int 0] := TupF.new d10
      have P10 := P9.keep S10
      generalize upd H9 r10 (.frz o10 (.tup [.int 0])) = H10 at *
      refine fun y dy ny ndy ney => ?_
      have Sm := madeK_same (C := CK) ny ndy
      refine ⟨y, dy, r10, [.lt 0], rfl, upd_same, (T10.same Sm).sq, ⟨.cons .nil, by decide⟩, fun H11 B11 PY11 => ⟨rfl, ?_⟩⟩
      have S11 := B11.same Sm ny
      have P11 := P10.keep S11
      obtain ⟨p11, g11, _⟩ := P10.freeNe ny
      obtain ⟨dy', hy11⟩ := id PY11
      have O11 : ThK K p g H11 (.ref y) := .at hy11 p11 g11 fun _ e => ThP.own (fs := []) (dx := 0) (.base (.ins e pk.cl pk.ha pk.hn pk.ht pk.hm)) KQ.t1
      clear Sm B11
      refine ⟨rfl, fun H6 a6 xs6 S6 T6 N6 => ?_⟩
      have P6 := P11.keep S6
      have O6 : ThK K p g H6 (.ref a6) := .tF P6 T6 (fun x hx => by
        obtain ⟨b, ys, rfl, tb⟩ := N6.2 x hx
        exact .ref (.tF P6 tb)) (Nat.le_trans N6.1 (by decide))
      have S96 := S10.trans (S11.trans S6)
      have S46 := S8.trans (S9.trans S96)
      have S36 := S4.trans S46
      have S26 := S3.trans S36
      have S16 := S2.trans S26
      refine ⟨(by show 11 ≤ sizeLine; decide), fun l1 nl1 => ?_⟩
      have A6 : ∀ x' ∈ [V.ref a1, V.ref a2, V.ref a3, V.str "x", V.non, V.int 7, V.bl true, V.ref a4, V.ref x, V.ref y, V.ref a6], ThK K p g H6 x' := by
        intro x' hx'
        simp only [List.mem_cons, List.not_mem_nil, or_false] at hx'
        rcases hx' with h | h | h | h | h | h | h | h | h | h | h <;> subst h
        · exact O1.same S16
        · exact O2.same S26
        · exact O3.same S36
        · exact fun _ _ => ThP.bt (T := "str") (.base (.str _)) (by decide +kernel)
        · exact fun _ _ => ThP.bt (T := "NoneType") (.base .non) (by decide +kernel)
        · exact fun _ _ => ThP.bt (T := "int") (.base (.int _)) (by decide +kernel)
        · exact fun _ _ => ThP.bt (T := "bool") (.base (.bl _)) (by decide +kernel)
        · exact O4.same S46
        · exact O9.same S96
        · exact O11.same S6
        · exact O6
      generalize hxs1 : [V.ref a1, V.ref a2, V.ref a3, V.str "x", V.non, V.int 7, V.bl true, V.ref a4, V.ref x, V.ref y, V.ref a6] = xs1 at *
      have ll1 : xs1.length = 11 := by rw [← hxs1]; rfl
      obtain ⟨lp, lg, _⟩ := P6.freeNe nl1
      have S7 := same_upd (o := HO.lst xs1) nl1
      have S17 := S1.trans (S16.trans S7)
      refine ⟨p, g, s, l1, xs1, rfl, P6.keep S7, .inl ⟨upd_same, lp, lg⟩, by omega, by omega, fun H14 v hv P14 K14 => ?_⟩
      exact k H14 v P14 (K1.trans ((Same.keep S17).trans K14)) (((A6 v hv).same S7).keep K14)
    · rintro σ H' ⟨rfl, rfl⟩
      refine ⟨_, rfl, p, g, s, 12, rfl, P1, by decide, by decide, fun H2 j P2 K2 j0 j1 => ?_⟩
      refine ⟨fun σ H3 => ∃ m : Nat, σ = [some (.ref p), some (.int t), some (.int (m : Nat)), none, none, none, none] ∧ m ≤ 333 ∧ PotAt H3 p g s ∧ Keep p g H H3, ?_, ?_⟩
      · refine ⟨_, rfl, rfl, _, rfl, ite2 (fun _ => ?_) (fun _ => ?_)⟩
        · refine ⟨_, rfl, p, g, s, 4, rfl, P2, by decide, by decide, fun H3 q P3 K3 q0 q1 => ⟨rfl, .inr ⟨_, rfl, _, _, rfl, rfl, ?_⟩⟩⟩
          have K03 := K1.trans (K2.trans K3)
          cases decide (V.int q = V.int 0) with
          | true => exact ⟨332, rfl, by decide, P3, K03⟩
          | false => exact ⟨333, rfl, by decide, P3, K03⟩
        · refine ⟨j.toNat, ?_, by omega, P2, K1.trans K2⟩
          rw [show ((j.toNat : Nat) : Int) = j by omega]
          rfl
      rintro σ H3 ⟨gv, rfl, hgv, P3, K3⟩
      refine ⟨Nat.zero_le _, fun u nu => ?_⟩
      obtain ⟨hup, hug, _⟩ := P3.freeNe nu
      have S4 : Same H3 (upd H3 u (.lst [])) := same_upd nu
      have U4 : upd H3 u (.lst []) u = some (.lst []) := upd_same
      have P4 := P3.keep S4
      have K4 : Keep p g H (upd H3 u (.lst [])) := K3.trans (Same.keep S4)
      have hu0 : ∀ b o, H b = some o → b ≠ p → b ≠ g → b ≠ u := fun b o hb b1 b2 => ne_of_none (K3 b o hb b1 b2) nu
      generalize upd H3 u (.lst []) = H4 at *
      refine ⟨_, rfl, p, g, s, 4, rfl, P4, by decide, by decide, fun H5 d P5 K5 d0 d1 => ?_⟩
      refine ⟨_, rfl, _, _, rfl, rfl, _, _, rfl, ?_⟩
      generalize hmi : (if ((gv : Nat) : Int) + 1 < d then ((gv : Nat) : Int) + 1 else d) = mi
      have mi1 : 0 ≤ mi ∧ mi ≤ gv + 1 ∧ mi ≤ 3 := by
        rw [← hmi]
        by_cases q : ((gv : Nat) : Int) + 1 < d
        · rw [if_pos q]; exact ⟨by omega, by omega, by omega⟩
        · rw [if_neg q]; exact ⟨by omega, by omega, by omega⟩
      clear hmi
      have U5 := K5 _ _ U4 hup hug
      refine ⟨_, rfl, by omega, by omega, for_range (lo := 0) (n := mi.toNat) (fun i σ H' => ∃ (ns : List Nm) (v : Option V), σ = [some (.ref p), some (.int t), some (.int (gv : Nat)), some (.ref u), v, none, none] ∧ PotAt H' p g s ∧ H' u = some (.lst (ns.map sv)) ∧ ns.length = i ∧ ns.Nodup ∧ (∀ n ∈ ns, nmOk n) ∧ Keep p g H H')
        ⟨[], none, rfl, P5, U5, rfl, List.nodup_nil, by simp, K4.trans K5⟩ ?_ ?_⟩
      · rintro i σ H' hi ⟨ns, v, rfl, P4, U4, hl, nd, ok, K4⟩
        refine ⟨_, rfl, _, rfl, p, g, s, u, ns, rfl, P4, U4, by omega, hup, hug, fun H5 n nok nin P5 U5 k5 => ?_⟩
        refine ⟨ns ++ [n], _, rfl, P5, U5, by rw [List.length_append, hl]; rfl, ?_, ?_, fun b o hb b1 b2 => k5 b o (K4 b o hb b1 b2) b1 b2 (hu0 b o hb b1 b2)⟩
        · refine List.nodup_append.mpr ⟨nd, by simp, fun a ha b hb e => ?_⟩
          have : b = n := by simpa using hb
          exact nin (by rw [← this, ← e]; exact ha)
        · intro x hx
          rcases List.mem_append.mp hx with hx | hx
          · exact ok x hx
          · have : x = n := by simpa using hx
            rw [this]; exact nok
      · rintro σ H' ⟨ns, v, rfl, P4, U4, hl, nd, ok, K4⟩
        refine ⟨_, rfl, p, g, s, 5, rfl, P4, by decide, by decide, fun H4 q P4' K4' q0 q1 => ⟨_, _, rfl, rfl, _, _, rfl, ?_⟩⟩
        have hq : 0 ≤ (if q - 1 > 0 then q - 1 else 0 : Int) ∧ (if q - 1 > 0 then q - 1 else 0 : Int) ≤ 4 := by split <;> omega
        generalize (if q - 1 > 0 then q - 1 else 0 : Int) = sp at hq
        have U4' := K4' _ _ U4 hup hug
        refine ⟨_, rfl, _, rfl, _, _, rfl, .inl (SqL.of U4'), fun m2 n2 => ?_⟩
        have S5 : Same H4 (upd H4 m2 (.lst (ns.map sv))) := same_upd n2
        have M5 : upd H4 m2 (.lst (ns.map sv)) m2 = some (.lst (ns.map sv)) := upd_same
        have P5 := P4'.keep S5
        have U5 := S5 _ _ U4'
        have K5 : Keep p g H (upd H4 m2 (.lst (ns.map sv))) := K4.trans (K4'.trans (Same.keep S5))
        obtain ⟨hmp, hmg, _⟩ := P4'.freeNe n2
        have hmu : m2 ≠ u := (ne_of_none U4' n2).symm
        generalize upd H4 m2 (.lst (ns.map sv)) = H5 at *
        refine ⟨_, rfl, _, rfl, p, g, s, m2, u, ns, gv, rfl, P5, M5, U5, hmp, hmg, hmu, hup, hug, hgv, by omega, by omega, nd, ok, fun H6 q6 ws G6 P6 U6 T6 k6 => ?_⟩
        have K6 : Keep p g H H6 := fun b o hb b1 b2 => k6 b o (K5 b o hb b1 b2) b1 b2 (hu0 b o hb b1 b2)
        have lw := G6.len
        have vd := G6.vd
        have pw := vd.pos
        refine ⟨_, rfl, _, rfl, ?_, ?_, for_range (lo := 0) (n := sp.toNat) (fun i σ H' => ∃ (a : Addr) (ys : List V) (v4 : Option V), σ = [some (.ref p), some (.int t), some (.int (gv : Nat)), some (.ref u), v4, some (.int sp), some (.ref a)] ∧ PotAt H' p g s ∧ Keep p g H H' ∧ TupF H' a ys ∧ 0 < ys.length ∧ ys.length ≤ 1001 + i ∧ ∀ x ∈ ys, ItW K p g H' (20 + i) x)
          ⟨q6, _, _, rfl, P6, K6, T6, by rw [List.length_map]; omega, by rw [List.length_map]; omega, fun x hx => ?_⟩ ?_ ?_⟩
        · omega
        · omega
        · obtain ⟨w', hw', rfl⟩ := List.mem_map.mp hx
          exact .str (by have := len_enc (vd.ok w' hw'); omega)
        · rintro i σ H8 hi ⟨a, ys, v5, rfl, P8, K8, T8, pos, ly, I8⟩
          refine ⟨_, rfl, _, rfl, p, g, s, a, ys, 20 + i, rfl, P8, T8, pos, by omega, by omega, by omega, I8, fun H9 b zs P9 K9 T9 pos9 l9 I9 => ?_⟩
          exact ⟨b, zs, _, rfl, P9, K8.trans K9, T9, pos9, by omega, I9⟩
        · rintro σ H8 ⟨a, ys, v5, rfl, P8, K8, T8, pos, ly, I8⟩
          exact ⟨_, rfl, k H8 _ P8 K8 (.tF P8 T8 (fun x hx => (I8 x hx).up (by omega)) (by omega))⟩
end
end Kk

set_option maxHeartbeats 4000000
/-! the law -/
namespace Kk
open PySem PySem.Spec PyProof.Rows L2 Wd
theorem th_okP {K : PySem.W.Frag} {H : Hp} {v : V} (h : ThP K H v none) : ∃ (a : Addr) (ws : List W), v = .ref a ∧ SqT K H a (ws.map wv) ∧ (∀ w ∈ ws, wOk w) ∧ 0 < ws.length ∧ ws.length ≤ 1000 ∧ PDue (ws.map wv) none := by
  generalize e : (none : Option Int) = d at h
  cases h with
  | no _ _ => cases e
  | @tup a xs _ h _ _ pd =>
    cases pd with
    | size _ => cases e
    | bad _ _ => cases e
    | @words ws d' z b ex o wd =>
      subst ex
      cases d' with
      | some i => cases e
      | none =>
        rw [List.length_map] at z
        refine ⟨_, ws, rfl, h, o, by omega, by omega, ?_⟩
        exact PDue.words (d := none) (by rw [List.length_map]; exact z) b rfl o wd
theorem wv_y : V.str ("y" : Str) = wv (.nm [121]) := by
  refine congrArg V.str (TL.ext_tl ?_)
  rw [TL.tl_ofString]
  rfl
theorem vd_3 : Vd [.ap, .nm [120], .nm [121]] := by
  refine ⟨⟨.ap (.nm [120]) (.nm [121]), rfl, ⟨trivial, trivial⟩, by decide, by decide⟩, fun w hw => ?_⟩
  simp only [List.mem_cons, List.not_mem_nil, or_false] at hw
  rcases hw with rfl | rfl | rfl
  · exact trivial
  · exact ⟨by decide, by decide, by decide⟩
  · exact ⟨by decide, by decide, by decide⟩
theorem items_ok {K : PySem.W.Frag} {H : Hp} {ws : List W} (o : ∀ w ∈ ws, wOk w) : ∀ x ∈ ws.map wv, WIt K H x := fun x hx => by
  obtain ⟨w, hw, rfl⟩ := List.mem_map.mp hx
  exact ⟨.str _, fun s e => by cases e; have := len_enc (o w hw); omega⟩
theorem nf_sub {K : PySem.W.Frag} {CK : Addr} {t : Value} (h : PySem.W.subIn K t (.ref CK) = some false) : PySem.W.notFirst K CK t = true := by
  unfold PySem.W.notFirst
  rw [h]
  simp
theorem oth_btP {K : PySem.W.Frag} {C CK : Addr} {H : Hp} {ks : List W} {y : V} {T : String} (q : KqC K CK C) (ty : TyX K H y (.type T)) (h : (PySem.fastBuiltinMro T).any (·.all fun v => match v with | .type _ => true | _ => false) = true) : OthP K C H ks y false :=
  .no ty (kit_noK q rfl (sub_ty h)) (nf_sub (sub_ty h))
theorem oth_pk {K : PySem.W.Frag} {mg : Str → Option Value} {C CK : Addr} {H : Hp} {ks : List W} {x dx : Addr} {fs : List (Str × V)} (pk : PK K mg CK) (q : KqC K CK C) (h : H x = some (.ins CK dx fs)) : OthP K C H ks (.ref x) false := by
  have ne : (Value.ref CK == Value.ref C) = false := by
    by_cases e : CK = C
    · have := q.k
      rw [e, q.kk] at this
      cases this
    · rw [Bool.eq_false_iff]
      intro z
      exact e (Value.ref.inj (beq_iff_eq.mp z))
  have s : PySem.W.subIn K (.ref CK) (.ref C) = some false := q.k
  exact .no (.base (.ins h pk.cl pk.ha pk.hn pk.ht pk.hm)) (kit_noK q ne s) (nf_sub s)
section
variable {P : Program} {w : World} {K : PySem.W.Frag} {mg : Str → Option Value} {base : Heap}
def spRightP (K : PySem.W.Frag) : Sp := fun vs H Q _ => ∃ (v : V) (d : Option Int), vs = [v] ∧ ThP K H v d ∧ ∀ H', Same H H' → Q (.bl true) H'
abbrev s_rightP : Stmt := (top 49)
theorem sc_rightP : FnScope ["_law_thing_here", "_law_due", "_law_told", "_law_program", "e", "_law_other"] ["_law_thing_here"] (defScope s_rightP) := ⟨rfl, rfl, rfl, by decide +kernel, rfl, by decide +kernel, by decide +kernel⟩
theorem c_rightP {C CK CB : Addr} (B : Bt mg) (pc : PC K mg C) (pk : PK K mg CK) (KQ : KqC K CK C) (D : DefAt K mg "_law_right" s_rightP) (MProgram : Mkr P w K mg base C) (MProgramN : MkrPN P w K mg base C) (MProgramX : MkrPX P w K mg base C CB) (MKind : MkrK P w K mg base CK) (EP : EqrPX P w K mg base C) (EBadProgram : ExFAt P w K mg base "BadProgram" "index" CB)
    (C_law_fault : Cal P w K mg base "_law_fault" 3 ["_law_words_here"] (spFaultP K)) : Cal P w K mg base "_law_right" 8 ["_law_thing_here"] (spRightP K) := by
  refine cal_of D sc_rightP (fun _ _ _ _ _ _ us hl => match us, hl with | [_], _ => rfl) (fun vs H Q E h => ?_) (fun fa cdv A outer st0 H vs Q E hr h => ?_)
  · obtain ⟨v, d, rfl, _⟩ := h
    rfl
  · obtain ⟨v, d, rfl, th, k⟩ := h
    have NBadProgram := EBadProgram.t.g
    refine ⟨_, (pss_cons (ps_set (i := 1) sc_rightP.nd rfl (by first | exact Or.inl rfl | exact Or.inr rfl) (pe_c C_law_fault (hr.mono (by decide)) (pa_cons (pv 0) pa_nil)))
      (pss_cons (ps_set (i := 2) sc_rightP.nd rfl (by first | exact Or.inl rfl | exact Or.inr rfl) pe_non)
      (pss_cons (ps_try_as (i := 4) rfl rfl sc_rightP.nd rfl rfl ⟨rfl, by decide, .inl NBadProgram⟩ takes0 (fun W pn xe tk _ => by exact (pss_one (ps_set (i := 3) sc_rightP.nd rfl (by first | exact Or.inl rfl | exact Or.inr rfl) (pe_mkPX (K := K) rfl MProgramX (hr.mono (by decide)) tk (pa_cons (pv 0) pa_nil))))) (fun a oe cls d pn hz hf => by exact (pss_cons (ps_set (i := 2) sc_rightP.nd rfl (by first | exact Or.inl rfl | exact Or.inr rfl) (pe_exF EBadProgram.t hz hf (pv 4) rfl))
      (pss_cons (ps_if (PW.pt (pw_or (pt_val (pe_isiK (K := K) rfl B.b_isinstance (pa_cons (pv 2) (pa_cons (pe_ty (n := "bool") B.b_bool (by decide +kernel)) pa_nil)))) (pw_or1 (pt_not (pt_val (pe_isiK (K := K) rfl B.b_isinstance (pa_cons (pv 2) (pa_cons (pe_ty (n := "int") B.b_int (by decide +kernel)) pa_nil)))))))) (pss_one (ps_ret pe_bl)) pss_nil)
      (pss_one (ps_set (i := 3) sc_rightP.nd rfl (by first | exact Or.inl rfl | exact Or.inr rfl) pe_non))))))
      (pss_cons (ps_if (PW.pt (pw_or (pt_cmpR op_notN (pv 1) pe_non (nomark _)) (pw_or1 (pt_cmpR op_isN (pv 3) pe_non (nomark _))))) (pss_one (ps_ret (pe_and (pe_cmpR op_isN (pv 3) pe_non (nomark _)) (pe_one (pe_cmpR op_eq (pv 2) (pv 1) (nomark _)))))) pss_nil)
      (pss_cons (ps_if (PW.pt (pw_or (pt_not (pt_val (pe_callB call_isi (by rfl) B.b_isinstance (by decide +kernel) (pa_cons (pe_fld (pv 3) rfl) (pa_cons (pe_ty (n := "tuple") B.b_tuple (by decide +kernel)) pa_nil))))) (pw_or (pt_cmpR (op_neD hr.units) (pe_fld (pv 3) rfl) (pv 0) (nomark _)) (pw_or1 (pt_cmpR (op_nePX pc KQ EP (hr.mono (by decide))) (pv 3) (pe_mkN MProgramN (hr.mono (by decide)) (pa_cons (pe_callTy call_tupleF (by rfl) B.b_tuple (by decide +kernel) (pa_cons (pe_callTy call_list_of (by rfl) B.b_list (by decide +kernel) (pa_cons (pv 0) pa_nil)) pa_nil)) pa_nil)) (nomark _)))))) (pss_one (ps_ret pe_bl)) pss_nil)
      (pss_cons (ps_set (i := 5) sc_rightP.nd rfl (by first | exact Or.inl rfl | exact Or.inr rfl) (pe_mk1 MProgram (hr.mono (by decide)) (pa_cons (pe_ifExp (pt_cmpR op_gt (pe_callB call_len_seq (by rfl) B.b_len (by decide +kernel) (pa_cons (pv 0) pa_nil)) pe_int (nomark _)) (pe_tupF (pa_cons pe_str pa_nil)) (pe_tupF (pa_cons pe_str (pa_cons pe_str (pa_cons pe_str pa_nil))))) pa_nil)))
      (pss_one (ps_ret (pe_and (pe_not (pe_cmpR (op_eqPX pc EP (hr.mono (by decide))) (pv 3) (pv 0) (nomark _))) (pe_and (pe_not (pe_cmpR (op_eqPX pc EP (hr.mono (by decide))) (pv 3) (pe_mkK MKind (hr.mono (by decide)) (pa_cons (pe_tupF (pa_cons pe_int pa_nil)) pa_nil)) (nomark _))) (pe_one (pe_not (pe_cmpR (op_eqPX pc EP (hr.mono (by decide))) (pv 3) (pv 5) (nomark _)))))))))))))), ?_⟩
    refine ⟨_, rfl, v, d, rfl, th, fun H1 S1 => ?_⟩
    have th1 := th.same S1
    cases d with
    | some i =>
      refine ⟨_, rfl, fun x dx nx ndx nex => ?_⟩
      have Sm := made_same (C := C) nx ndx
      refine ⟨x, dx, v, some i, rfl, upd_same, th1.same Sm, (fun h => nomatch h), fun i' hi' H2 dd S2 hdd => ?_⟩
      cases hi'
      refine ⟨true, EBadProgram.t.m, fun _ a na => ?_, fun h => nomatch h⟩
      refine ⟨_, rfl, rfl, rfl, dd, _, rfl, hdd, ?_⟩
      refine ⟨_, rfl, _, _, _, _, false, rfl, .ty _, .base (.int i), kit_ty kitIB, _, rfl, iteF ?_⟩
      refine ⟨_, rfl, _, _, _, _, true, rfl, .ty _, .base (.int i), kit_ty kitII, _, rfl, iteF ?_⟩
      refine ⟨_, rfl, rfl, _, rfl, iteT ?_⟩
      refine ⟨_, rfl, rfl, _, rfl, iteT ?_⟩
      refine ⟨_, rfl, _, rfl, rfl, ?_⟩
      rw [decide_eq_true (show V.int i = optI (some i) from rfl)]
      exact k H2 (S1.trans (Sm.trans S2))
    | none =>
      obtain ⟨a, ks, rfl, Sq1, ok, pos, lk, pd⟩ := th_okP th1
      have hlm : (ks.map wv).length = ks.length := List.length_map ..
      refine ⟨_, rfl, fun x dx nx ndx nex => ?_⟩
      have Sm := made_same (C := C) nx ndx
      refine ⟨x, dx, .ref a, none, rfl, upd_same, th1.same Sm, (fun _ H2 a' ea B2 PX => ⟨rfl, ?_⟩), fun i' hi' => nomatch hi'⟩
      cases ea
      have S2 := B2.same Sm nx
      have Sq2 := SqT.same Sq1 S2
      clear Sm B2
      obtain ⟨dx2, hx2⟩ := id PX
      have KX : PgW K C H2 x ks := ⟨a, PX, Sq2, ok⟩
      refine ⟨_, rfl, rfl, _, rfl, iteF ?_⟩
      refine ⟨_, rfl, rfl, _, rfl, iteF ?_⟩
      refine ⟨_, rfl, x, C, dx2, _, _, rfl, hx2, pc.cl, pc.nw, pfs_get a, ?_⟩
      refine ⟨_, _, _, _, true, rfl, .ty _, tyx_tup Sq2, kit_ty kitTT, _, rfl, iteF ?_⟩
      refine ⟨_, rfl, x, C, dx2, _, _, rfl, hx2, pc.cl, pc.nw, pfs_get a, _, rfl, neD_ws Sq2 Sq2 ok ok ?_⟩
      refine ⟨_, rfl, ?_⟩
      rw [decide_eq_true (show ks = ks from rfl)]
      refine iteF ?_
      refine ⟨_, rfl, _, rfl, a, _, rfl, .inr Sq2, fun l nl => ?_⟩
      have S3 := same_upd (o := HO.lst (ks.map wv)) nl
      have L3 : upd H2 l (.lst (ks.map wv)) l = some (.lst (ks.map wv)) := upd_same
      generalize upd H2 l (.lst (ks.map wv)) = H3 at *
      refine ⟨l, _, rfl, SqL.of L3, fun q o nq dq => ?_⟩
      have S4 := same_upd (o := HO.frz o (.tup (ks.map wv))) nq
      have T4 : TupF (upd H3 q (.frz o (.tup (ks.map wv)))) q (ks.map wv) := TupF.new dq
      generalize upd H3 q (.frz o (.tup (ks.map wv))) = H4 at *
      refine fun y dy ny ndy ney => ?_
      have Sm := made_same (C := C) ny ndy
      refine ⟨y, dy, .ref q, rfl, upd_same, .tup (T4.same Sm).sq (items_ok ok) (by omega) pd, fun H5 q' eq' B5 PY => ⟨rfl, ?_⟩⟩
      cases eq'
      have S5 := B5.same Sm ny
      clear Sm B5
      have S25 := S3.trans (S4.trans S5)
      have KX5 := KX.same S25
      refine ⟨x, y, ks, ks, rfl, rfl, KX5, ⟨q, PY, (T4.same S5).sq, ok⟩, ?_⟩
      refine ⟨_, rfl, ?_⟩
      rw [decide_eq_true (show ks = ks from rfl)]
      refine iteF ?_
      have Sq5 := SqT.same Sq2 S25
      refine ⟨_, rfl, _, _, rfl, .inr Sq5, _, _, rfl, rfl, _, rfl, ite2 (fun h1 => ?_) (fun h1 => ?_)⟩
      · have h1 := of_decide_eq_true h1
        refine ⟨(by show 1 ≤ sizeLine; decide), fun r6 o6 n6 d6 => ?_⟩
        have S6 := same_upd (o := HO.frz o6 (.tup [V.str "x"])) n6
        have T6 : TupF (upd H5 r6 (.frz o6 (.tup [V.str "x"]))) r6 ([W.nm [120]].map wv) := by
          have z : [V.str "x"] = [W.nm [120]].map wv := by rw [wv_x]; rfl
          rw [← z]
          exact TupF.new d6
        generalize upd H5 r6 (.frz o6 (.tup [V.str "x"])) = H6 at *
        refine fun z dz nz ndz nez => ?_
        have Sm := made_same (C := C) nz ndz
        refine ⟨z, dz, r6, [W.nm [120]], rfl, upd_same, (T6.same Sm).sq, vd_x, by decide, fun H7 B7 PZ => ⟨rfl, ?_⟩⟩
        have S7 := B7.same Sm nz
        have KZ : PgW K C H7 z [W.nm [120]] := ⟨r6, PZ, (T6.same S7).sq, vd_x.ok⟩
        have ne : ¬ ks = [W.nm [120]] := fun e => by rw [e] at h1; simp at h1
        have S57 := S6.trans S7
        generalize ([W.nm [120]] : List W) = us at KZ ne
        clear h1 S6 T6 Sm B7 PZ
        have KX7 := KX5.same S57
        have Sq7 := SqT.same Sq5 S57
        refine ⟨_, rfl, _, rfl, x, ks, false, rfl, KX7, oth_btP (T := "tuple") KQ (tyx_tup Sq7) (by decide +kernel), ?_⟩
        refine ⟨_, rfl, ⟨_, rfl, iteT ?_⟩⟩
        refine ⟨_, rfl, (by show 1 ≤ sizeLine; decide), fun r8 o8 n8 d8 => ?_⟩
        have S8 := same_upd (o := HO.frz o8 (.tup [V.int 0])) n8
        have T8 : TupF (upd H7 r8 (.frz o8 (.tup [V.int 0]))) r8 ([KW.lt 0].map kv) := TupF.new d8
        generalize upd H7 r8 (.frz o8 (.tup [V.int 0])) = H8 at *
        refine fun v dv nv ndv nev => ?_
        have Sm := madeK_same (C := CK) nv ndv
        refine ⟨v, dv, r8, [.lt 0], rfl, upd_same, (T8.same Sm).sq, ⟨.cons .nil, by decide⟩, fun H9 B9 PV => ⟨rfl, ?_⟩⟩
        have S9 := B9.same Sm nv
        have S79 := S8.trans S9
        obtain ⟨dv9, hv9⟩ := id PV
        have KX9 := KX7.same S79
        refine ⟨x, ks, false, rfl, KX9, oth_pk pk KQ hv9, ?_⟩
        refine ⟨_, rfl, ⟨_, rfl, iteT ?_⟩⟩
        refine ⟨_, rfl, _, rfl, x, ks, _, rfl, KX9, .kd (KZ.same S79), ?_⟩
        rw [decide_eq_false ne]
        exact ⟨_, rfl, k H9 (S1.trans (S2.trans (S25.trans (S57.trans S79))))⟩
      · have h1 := h1
        refine ⟨(by show 3 ≤ sizeLine; decide), fun r6 o6 n6 d6 => ?_⟩
        have S6 := same_upd (o := HO.frz o6 (.tup [V.str "@", V.str "x", V.str "y"])) n6
        have T6 : TupF (upd H5 r6 (.frz o6 (.tup [V.str "@", V.str "x", V.str "y"]))) r6 ([W.ap, W.nm [120], W.nm [121]].map wv) := by
          have z : [V.str "@", V.str "x", V.str "y"] = [W.ap, W.nm [120], W.nm [121]].map wv := by rw [wv_at, wv_x, wv_y]; rfl
          rw [← z]
          exact TupF.new d6
        generalize upd H5 r6 (.frz o6 (.tup [V.str "@", V.str "x", V.str "y"])) = H6 at *
        refine fun z dz nz ndz nez => ?_
        have Sm := made_same (C := C) nz ndz
        refine ⟨z, dz, r6, [W.ap, W.nm [120], W.nm [121]], rfl, upd_same, (T6.same Sm).sq, vd_3, by decide, fun H7 B7 PZ => ⟨rfl, ?_⟩⟩
        have S7 := B7.same Sm nz
        have KZ : PgW K C H7 z [W.ap, W.nm [120], W.nm [121]] := ⟨r6, PZ, (T6.same S7).sq, vd_3.ok⟩
        have ne : ¬ ks = [W.ap, W.nm [120], W.nm [121]] := fun e => by rw [e] at h1; simp at h1
        have S57 := S6.trans S7
        generalize ([W.ap, W.nm [120], W.nm [121]] : List W) = us at KZ ne
        clear h1 S6 T6 Sm B7 PZ
        have KX7 := KX5.same S57
        have Sq7 := SqT.same Sq5 S57
        refine ⟨_, rfl, _, rfl, x, ks, false, rfl, KX7, oth_btP (T := "tuple") KQ (tyx_tup Sq7) (by decide +kernel), ?_⟩
        refine ⟨_, rfl, ⟨_, rfl, iteT ?_⟩⟩
        refine ⟨_, rfl, (by show 1 ≤ sizeLine; decide), fun r8 o8 n8 d8 => ?_⟩
        have S8 := same_upd (o := HO.frz o8 (.tup [V.int 0])) n8
        have T8 : TupF (upd H7 r8 (.frz o8 (.tup [V.int 0]))) r8 ([KW.lt 0].map kv) := TupF.new d8
        generalize upd H7 r8 (.frz o8 (.tup [V.int 0])) = H8 at *
        refine fun v dv nv ndv nev => ?_
        have Sm := madeK_same (C := CK) nv ndv
        refine ⟨v, dv, r8, [.lt 0], rfl, upd_same, (T8.same Sm).sq, ⟨.cons .nil, by decide⟩, fun H9 B9 PV => ⟨rfl, ?_⟩⟩
        have S9 := B9.same Sm nv
        have S79 := S8.trans S9
        obtain ⟨dv9, hv9⟩ := id PV
        have KX9 := KX7.same S79
        refine ⟨x, ks, false, rfl, KX9, oth_pk pk KQ hv9, ?_⟩
        refine ⟨_, rfl, ⟨_, rfl, iteT ?_⟩⟩
        refine ⟨_, rfl, _, rfl, x, ks, _, rfl, KX9, .kd (KZ.same S79), ?_⟩
        rw [decide_eq_false ne]
        exact ⟨_, rfl, k H9 (S1.trans (S2.trans (S25.trans (S57.trans S79))))⟩
def spLaw (K : PySem.W.Frag) : Sp := fun vs H Q _ => ∃ (a : Addr) (ns : List Int), vs = [.ref a] ∧ SqL K H a (ns.map V.int) ∧ ns.length ≤ 63 ∧ ∀ H', Q (.bl true) H'
abbrev s_law : Stmt := (top 50)
theorem sc_law : FnScope ["_law_script", "_law_pot_here", "_law_turn"] ["_law_script"] (defScope s_law) := ⟨rfl, rfl, rfl, by decide +kernel, rfl, by decide +kernel, by decide +kernel⟩
theorem c_law {f0 : Addr} {fd : FuncData} (B : Bt mg) (F : Fun K "law" "law" s_law f0 fd) (C_law_pot : Cal P w K mg base "_law_pot" 1 ["_law_script"] (spPot K)) (C_law_thing : Cal P w K mg base "_law_thing" 9 ["_law_pot_here"] (spThingP K)) (C_law_right : Cal P w K mg base "_law_right" 8 ["_law_thing_here"] (spRightP K)) :
    FnOk P w K mg base CX0 10 f0 fd ["_law_script"] (spLaw K) := by
  refine F.ok sc_law (fun vs H Q E h => ?_) (fun cdv A outer st0 H vs Q E hr h => ?_)
  · obtain ⟨a, ns, rfl, _⟩ := h
    rfl
  · obtain ⟨a0, ns0, rfl, hS, hlen, k⟩ := h
    refine ⟨_, (pss_cons (ps_set (i := 1) sc_law.nd rfl (by first | exact Or.inl rfl | exact Or.inr rfl) (pe_c C_law_pot (hr.mono (by decide)) (pa_cons (pv 0) pa_nil)))
      (pss_cons (ps_for PassesOwn.never rfl (pi_range1 (by rfl) B.b_range (pa_cons (pe_op op_add pe_int (pe_op op_fdiv (pe_callB call_len_seq (by rfl) B.b_len (by decide +kernel) (pa_cons (pe_slice sl_list (pv 0) po_none (po_some pe_int)) pa_nil)) pe_int)) pa_nil)) (pg_name (i := 2) sc_law.nd rfl (by first | exact Or.inl rfl | exact Or.inr rfl)) (pss_one (ps_if (pt_not (pt_val (pe_c C_law_right (hr.mono (by decide)) (pa_cons (pe_c C_law_thing (hr.mono (by decide)) (pa_cons (pv 1) pa_nil)) pa_nil)))) (pss_one (ps_ret pe_bl)) pss_nil)))
      (pss_one (ps_ret pe_bl)))), ?_⟩
    refine ⟨_, rfl, a0, ns0, rfl, hS, hlen, fun H1 p g s P1 S1 np ng ns1 => ?_⟩
    refine ⟨_, rfl, _, rfl, a0, _, rfl, S1.seq hS, fun p2 n2 => ?_⟩
    rw [cut63 hlen]
    refine ⟨p2, _, rfl, .inl (SqL.of upd_same), _, _, rfl, rfl, ⟨by decide, by decide⟩, _, _, rfl, rfl, _, rfl, ?_, ?_, for_range (lo := 0) (n := ((4 : Int) + (((ns0.map V.int).length : Nat) : Int) / 8).toNat) (fun i σ H' => ∃ v2 : Option V, σ = [some (.ref a0), some (.ref p), v2] ∧ PotAt H' p g s)
      ⟨none, rfl, P1.keep (same_upd n2)⟩ ?_ ?_⟩
    · rw [List.length_map]; omega
    · rw [List.length_map]; omega
    · rintro i0 σ H2 hi ⟨v2, rfl, P2⟩
      clear hi
      generalize (0 : Int) + (i0 : Int) = turn
      refine ⟨_, rfl, p, g, s, rfl, P2, fun H3 v P3 K3 T3 => ?_⟩
      obtain ⟨d, th⟩ := T3 H3 (Keep.refl _)
      refine ⟨v, d, rfl, th, fun H4 S4 => ⟨_, rfl, iteF ?_⟩⟩
      exact ⟨_, rfl, P3.keep S4⟩
    · rintro σ H2 ⟨v2, rfl, P2⟩
      exact k H2
end
end Kk

/-! ### the end -/
namespace Kk
open PySem PySem.Spec PyProof.Rows L2
structure AllD (K : PySem.W.Frag) (mg : Str → Option Value) : Prop where
  d_law_draw : DefAt K mg "_law_draw" s_draw
  d_law_pot : DefAt K mg "_law_pot" s_pot
  d_law_letters : DefAt K mg "_law_letters" s_letters
  d_law_fresh : DefAt K mg "_law_fresh" s_fresh
  d_law_mixed : DefAt K mg "_law_mixed" s_mixed
  dmisfit_index : DefAt K mg "misfit_index" s_misfit_index
  dends_by : DefAt K mg "ends_by" s_ends_by
  d_law_words : DefAt K mg "_law_words" s_words
  dis_name : DefAt K mg "is_name" s_is_name
  dis_word : DefAt K mg "is_word" s_is_word
  dstranger_index : DefAt K mg "stranger_index" s_stranger_index
  dparts_in : DefAt K mg "parts_in" s_parts_in
  drepeated_index : DefAt K mg "repeated_index" s_repeated_index
  dends_of : DefAt K mg "ends_of" s_ends_of
  dunused_index : DefAt K mg "unused_index" s_unused_index
  dfault_index_programs : DefAt K mg "fault_index_programs" s_fault_index_programs "fault_index"
  d_law_ends : DefAt K mg "_law_ends" s_ends2
  d_law_any : DefAt K mg "_law_any" s_anyV
  dis_number : DefAt K mg "is_number" s_is_number
  dis_kind_word : DefAt K mg "is_kind_word" s_is_kind_word
  dsides_in : DefAt K mg "sides_in" s_sides_in
  dfault_index_kinds : DefAt K mg "fault_index_kinds" s_fault_index_kinds "fault_index"
  d_law_deep : DefAt K mg "_law_deep" s_deep
  d_law_is_name : DefAt K mg "_law_is_name" s_lisname
  d_law_is_word : DefAt K mg "_law_is_word" s_lisword
  d_law_end_fault : DefAt K mg "_law_end_fault" s_lmis
  d_law_fault : DefAt K mg "_law_fault" s_lfault
  d_law_item : DefAt K mg "_law_item" s_item
  d_law_spoiled : DefAt K mg "_law_spoiled" s_spoil
  d_law_thing : DefAt K mg "_law_thing" s_thingP
  d_law_right : DefAt K mg "_law_right" s_rightP
theorem law_ok {P : Program} {w : World} {K : PySem.W.Frag} {mg : Str → Option Value} {base : Heap} {C f fi : Addr} {CK fik : Addr} {fdik : FuncData} {CB fkq fib : Addr} {fdkq fdib : FuncData} {fd fdi : FuncData} (B : Bt mg) (pc : PC K mg C) (M : Mk K C fi) (FI : Fun K "__init__" "Program.__init__" s_init fi fdi) (pk : PK K mg CK) (MKk : Mk K CK fik) (FIK : Fun K "__init__" "Kind.__init__" s_kindinit fik fdik) (NIK : NiC K CK) (NI : NiC K C) (KQ : KqC K CK C) (KQe : PySem.W.findIn K (.ref C) "__eq__" = some (some (.ref fkq))) (KQi : PySem.W.isFn K (.ref fkq) = true) (FKQ : Fun K "__eq__" "Program.__eq__" s_eqX fkq fdkq) (TB : ExF K mg "BadProgram" "index" CB) (iCB : PySem.W.findIn K (.ref CB) "__init__" = some (some (.ref fib))) (tIB : PySem.W.typeIn K (.ref fib) = some (.type "function")) (FB : Fun K "__init__" "BadProgram.__init__" s_badinitP fib fdib) (a : AllD K mg) (F : Fun K "law" "law" s_law f fd) :
    FnOk P w K mg base CX0 10 f fd ["_law_script"] (spLaw K) := by
  have C_law_draw := c_draw (P := P) (w := w) (base := base) B (D := a.d_law_draw)
  have C_law_pot := c_pot (P := P) (w := w) (base := base) B (D := a.d_law_pot)
  have C_law_letters := c_letters (P := P) (w := w) (base := base) B (D := a.d_law_letters)
  have C_law_fresh := c_fresh (P := P) (w := w) (base := base) B (D := a.d_law_fresh) (C_law_draw := C_law_draw) (C_law_letters := C_law_letters)
  have C_law_mixed := c_mixed (P := P) (w := w) (base := base) B (D := a.d_law_mixed) (C_law_draw := C_law_draw)
  have C_law_mixed_N := c_mixed__N (P := P) (w := w) (base := base) (C_law_mixed := C_law_mixed)
  have Cmisfit_index := c_misfit_index (P := P) (w := w) (base := base) B (D := a.dmisfit_index)
  have Cends_by := c_ends_by (P := P) (w := w) (base := base) B (D := a.dends_by)
  have C_law_words := c_words (P := P) (w := w) (base := base) B (D := a.d_law_words) (C_law_draw := C_law_draw) (C_law_fresh := C_law_fresh) (C_law_mixed := C_law_mixed_N)
  have Cis_name := c_is_name (P := P) (w := w) (base := base) B (D := a.dis_name)
  have Cis_word := c_is_word (P := P) (w := w) (base := base) B (D := a.dis_word) (Cis_name := Cis_name)
  have Cstranger_index := c_stranger_index (P := P) (w := w) (base := base) B (D := a.dstranger_index) (Cis_word := Cis_word)
  have Cparts_in := c_parts_in (P := P) (w := w) (base := base) B (D := a.dparts_in)
  have Crepeated_index := c_repeated_index (P := P) (w := w) (base := base) B (D := a.drepeated_index)
  have Cends_of := c_ends_of (P := P) (w := w) (base := base) B (D := a.dends_of) (Cparts_in := Cparts_in) (Cends_by := Cends_by)
  have Cunused_index := c_unused_index (P := P) (w := w) (base := base) B (D := a.dunused_index) (Cends_of := Cends_of)
  have Cfault_index_programs := c_fault_index_programs (P := P) (w := w) (base := base) B (D := a.dfault_index_programs) (Cstranger_index := Cstranger_index) (Cparts_in := Cparts_in) (Cmisfit_index := Cmisfit_index) (Crepeated_index := Crepeated_index) (Cunused_index := Cunused_index)
  have MProgram : Mkr P w K mg base C := ⟨fi, fdi, M, pc.mg, FI.binds (ps := ["self", "words"]) (fun _ _ _ _ _ _ us hl => match us, hl with | [_, _], _ => rfl), c_init (P := P) (w := w) (base := base) B pc (F := FI) (Cfault_index_programs := Cfault_index_programs)⟩
  have C_law_ends := c_ends2 (P := P) (w := w) (base := base) B (D := a.d_law_ends)
  have C_law_any := c_anyV (P := P) (w := w) (base := base) B (D := a.d_law_any) (C_law_draw := C_law_draw)
  have Cis_number := c_is_number (P := P) (w := w) (base := base) B (D := a.dis_number)
  have Cis_kind_word := c_is_kind_word (P := P) (w := w) (base := base) B (D := a.dis_kind_word) (Cis_number := Cis_number)
  have Csides_in := c_sides_in (P := P) (w := w) (base := base) B (D := a.dsides_in)
  have Cfault_index_kinds := c_fault_index_kinds (P := P) (w := w) (base := base) B (D := a.dfault_index_kinds) (Cis_kind_word := Cis_kind_word) (Csides_in := Csides_in) (Cmisfit_index := Cmisfit_index)
  have MKind : MkrK P w K mg base CK := ⟨fik, fdik, MKk, pk.mg, FIK.binds (ps := ["self", "words"]) (fun _ _ _ _ _ _ us hl => match us, hl with | [_, _], _ => rfl), c_kindinit (P := P) (w := w) (base := base) B (pk := pk) (F := FIK) (Cfault_index_kinds := Cfault_index_kinds)⟩
  have C_law_deep := c_deep (P := P) (w := w) (base := base) B (D := a.d_law_deep)
  have Cis_word_G := c_is_word__G (P := P) (w := w) (base := base) B (D := a.dis_word) (Cis_name := Cis_name)
  have Cstranger_index_G := c_stranger_index__G (P := P) (w := w) (base := base) B (D := a.dstranger_index) (Cis_word := Cis_word_G)
  have Crepeated_index_G := c_repeated_index__G (P := P) (w := w) (base := base) B (D := a.drepeated_index)
  have Cends_of_G := c_ends_of__G (P := P) (w := w) (base := base) B (D := a.dends_of) (Cparts_in := Cparts_in) (Cends_by := Cends_by)
  have Cunused_index_G := c_unused_index__G (P := P) (w := w) (base := base) B (D := a.dunused_index) (Cends_of := Cends_of_G)
  have Cfault_index_programs_G := c_fault_index_programs__G (P := P) (w := w) (base := base) B (D := a.dfault_index_programs) (Cstranger_index := Cstranger_index_G) (Cparts_in := Cparts_in) (Cmisfit_index := Cmisfit_index) (Crepeated_index := Crepeated_index_G) (Cunused_index := Cunused_index_G)
  have EP : EqrPX P w K mg base C := ⟨fkq, fdkq, KQe, KQi, FKQ.binds (ps := ["self", "other"]) (fun _ _ _ _ _ _ us hl => match us, hl with | [_, _], _ => rfl), c_eqX (P := P) (w := w) (base := base) B pc (F := FKQ)⟩
  have EBadProgram : ExFAt P w K mg base "BadProgram" "index" CB := bad_atP (P := P) (w := w) (base := base) TB iCB tIB FB
  have MProgramX : MkrPX P w K mg base C CB := ⟨fi, fdi, M, pc.mg, FI.binds (ps := ["self", "words"]) (fun _ _ _ _ _ _ us hl => match us, hl with | [_, _], _ => rfl), c_initX (P := P) (w := w) (base := base) B pc (F := FI) (EBadProgram := EBadProgram) (Cfault_index_programs := Cfault_index_programs_G)⟩
  have MProgramN : MkrPN P w K mg base C := ⟨fi, fdi, M, pc.mg, FI.binds (ps := ["self", "words"]) (fun _ _ _ _ _ _ us hl => match us, hl with | [_, _], _ => rfl), c_initN (P := P) (w := w) (base := base) B pc (F := FI) (Cfault_index_programs := Cfault_index_programs_G)⟩
  have C_law_is_name := c_lisname (P := P) (w := w) (base := base) B (D := a.d_law_is_name)
  have C_law_is_word := c_lisword (P := P) (w := w) (base := base) B (D := a.d_law_is_word) (C_law_is_name := C_law_is_name)
  have C_law_end_fault := c_lmis (P := P) (w := w) (base := base) B (D := a.d_law_end_fault)
  have C_law_fault := c_lfault (P := P) (w := w) (base := base) B (D := a.d_law_fault) (C_law_is_word := C_law_is_word) (C_law_end_fault := C_law_end_fault) (C_law_ends := C_law_ends)
  have C_law_any_B := c_any__B (P := P) (w := w) (base := base) B (D := a.d_law_any) (C_law_draw := C_law_draw)
  have C_law_item := c_item (P := P) (w := w) (base := base) B pc (pk := pk) (NI := NI) (NIK := NIK) (KQ := KQ) (D := a.d_law_item) (MProgram := MProgram) (MKind := MKind) (C_law_draw := C_law_draw) (C_law_deep := C_law_deep) (C_law_any := C_law_any_B)
  have C_law_spoiled := c_spoil (P := P) (w := w) (base := base) B (D := a.d_law_spoiled) (C_law_draw := C_law_draw) (C_law_item := C_law_item)
  have C_law_thing := c_thingP (P := P) (w := w) (base := base) B pc (pk := pk) (KQ := KQ) (D := a.d_law_thing) (MProgram := MProgram) (MKind := MKind) (C_law_draw := C_law_draw) (C_law_deep := C_law_deep) (C_law_any := C_law_any_B) (C_law_fresh := C_law_fresh) (C_law_words := C_law_words) (C_law_spoiled := C_law_spoiled)
  have C_law_right := c_rightP (P := P) (w := w) (base := base) B pc (pk := pk) (KQ := KQ) (D := a.d_law_right) (MProgram := MProgram) (MProgramN := MProgramN) (MProgramX := MProgramX) (MKind := MKind) (EP := EP) (EBadProgram := EBadProgram) (C_law_fault := C_law_fault)
  exact c_law (P := P) (w := w) (base := base) B (F := F) (C_law_pot := C_law_pot) (C_law_thing := C_law_thing) (C_law_right := C_law_right)
theorem def_mk {K : PySem.W.Frag} {h : Heap} {mg : Str → Option Value} {x : Str} {st : Stmt} (X : K.In h) (G : h.Ns mainGlobals mg) {f : Addr} {od an : Option Addr} {sl : Array (Option Value)} {oc kV dc pm cd ct : Value} {nm : Str}
    (a : PySem.W.nsIn K mainGlobals x = some (some (.ref f))) (l : K.lookup f = some ⟨oc, od, .func (PySem.W.fnOf nm nm (defArgs st) (defBody st) (defScope st) .none kV dc pm an cd ct), sl⟩) (c : PySem.W.codeIn K cd nm = true) (k : PySem.W.keepIn K (.ref f) = true) : DefAt K mg x st nm :=
  ⟨f, _, fun_mk (st := st) l c k, PySem.W.mg_of X G a⟩
theorem glob_s {K : PySem.W.Frag} {h : Heap} {mg : Str → Option Value} {x z : Str} {t : Tok} (X : K.In h) (G : h.Ns mainGlobals mg) (a : PySem.W.nsIn K mainGlobals x = some (some (.str z t))) : ∃ t, mg x = some (.str z t) := ⟨t, PySem.W.mg_of X G a⟩
theorem glob_i {K : PySem.W.Frag} {h : Heap} {mg : Str → Option Value} {x : Str} {z : Int} {t : Tok} (X : K.In h) (G : h.Ns mainGlobals mg) (a : PySem.W.nsIn K mainGlobals x = some (some (.int z t))) : ∃ t, mg x = some (.int z t) := ⟨t, PySem.W.mg_of X G a⟩
theorem law_mk {l : PySem.W.OpenLaw} {w : World} {K : PySem.W.Frag} {h : Heap} {mg : Str → Option Value} {fa C fi f : Addr} (X : K.In h) (G : h.Ns mainGlobals mg) (hfa : mg "law" = some (.ref fa))
    {CK fik : Addr} {od7 an7 : Option Addr} {sl7 : Array (Option Value)} {oc7 kV7 dc7 pm7 cd7 ct7 : Value} {CB fkq fib : Addr} {odQ anQ : Option Addr} {slQ : Array (Option Value)} {ocQ kVQ dcQ pmQ cdQ ctQ : Value} {odB anB : Option Addr} {slB : Array (Option Value)} {ocB kVB dcB pmB cdB ctB : Value} {od1 an1 od4 an4 : Option Addr} {sl1 sl4 : Array (Option Value)} {oc1 kV1 dc1 pm1 cd1 ct1 oc4 kV4 dc4 pm4 cd4 ct4 : Value}
    (a1 : PySem.W.findIn K (.ref C) "__init__" = some (some (.ref fi))) (i1 : PySem.W.isFn K (.ref fi) = true) (l1 : K.lookup fi = some ⟨oc1, od1, .func (PySem.W.fnOf "__init__" "Program.__init__" (defArgs s_init) (defBody s_init) (defScope s_init) .none kV1 dc1 pm1 an1 cd1 ct1), sl1⟩) (c1 : PySem.W.codeIn K cd1 "Program.__init__" = true) (k1 : PySem.W.keepIn K (.ref fi) = true)
    (a4 : PySem.W.nsIn K mainGlobals "law" = some (some (.ref f))) (l4 : K.lookup f = some ⟨oc4, od4, .func (PySem.W.fnOf "law" "law" (defArgs s_law) (defBody s_law) (defScope s_law) .none kV4 dc4 pm4 an4 cd4 ct4), sl4⟩) (c4 : PySem.W.codeIn K cd4 "law" = true) (k4 : PySem.W.keepIn K (.ref f) = true)
    (a7 : PySem.W.findIn K (.ref CK) "__init__" = some (some (.ref fik))) (i7 : PySem.W.isFn K (.ref fik) = true) (l7 : K.lookup fik = some ⟨oc7, od7, .func (PySem.W.fnOf "__init__" "Kind.__init__" (defArgs s_kindinit) (defBody s_kindinit) (defScope s_kindinit) .none kV7 dc7 pm7 an7 cd7 ct7), sl7⟩) (c7 : PySem.W.codeIn K cd7 "Kind.__init__" = true) (k7 : PySem.W.keepIn K (.ref fik) = true) (mk7 : PySem.W.makesIn K CK = true) (kc7 : PySem.W.keepIn K (.ref CK) = true) (pk : PK K mg CK) (NIK : NiC K CK) (NI : NiC K C) (KQ : KqC K CK C) (aQ : PySem.W.findIn K (.ref C) "__eq__" = some (some (.ref fkq))) (iQ : PySem.W.isFn K (.ref fkq) = true) (lQ : K.lookup fkq = some ⟨ocQ, odQ, .func (PySem.W.fnOf "__eq__" "Program.__eq__" (defArgs s_eqX) (defBody s_eqX) (defScope s_eqX) .none kVQ dcQ pmQ anQ cdQ ctQ), slQ⟩) (cQ : PySem.W.codeIn K cdQ "Program.__eq__" = true) (kQ : PySem.W.keepIn K (.ref fkq) = true) (TB : ExF K mg "BadProgram" "index" CB) (iCB : PySem.W.findIn K (.ref CB) "__init__" = some (some (.ref fib))) (tIB : PySem.W.typeIn K (.ref fib) = some (.type "function")) (lB : K.lookup fib = some ⟨ocB, odB, .func (PySem.W.fnOf "__init__" "BadProgram.__init__" (defArgs s_badinitP) (defBody s_badinitP) (defScope s_badinitP) .none kVB dcB pmB anB cdB ctB), slB⟩) (cB : PySem.W.codeIn K cdB "BadProgram.__init__" = true) (kB : PySem.W.keepIn K (.ref fib) = true) (mk : PySem.W.makesIn K C = true) (kc : PySem.W.keepIn K (.ref C) = true)
    (B : Bt mg) (pc : PC K mg C) (a : AllD K mg) :
    ∃ fd : FuncData, (∀ (s : Shared) (v : Value), BindsTo s fd ⟨[v], []⟩ [("_law_script", v)]) ∧ ∀ base : Heap, K.In base → base.Ns mainGlobals mg → FnOk l.prog w K mg base CX0 10 fa fd ["_law_script"] (spLaw K) := by
  have e := hfa.symm.trans (PySem.W.mg_of X G a4)
  cases e
  exact ⟨PySem.W.fnOf "law" "law" (defArgs s_law) (defBody s_law) (defScope s_law) .none kV4 dc4 pm4 an4 cd4 ct4, fun s v => .of_eq rfl, fun base _ _ => law_ok B pc ⟨mk, a1, i1, kc⟩ (fun_mk (st := s_init) l1 c1 k1) pk ⟨mk7, a7, i7, kc7⟩ (fun_mk (st := s_kindinit) l7 c7 k7) NIK NI KQ aQ iQ (fun_mk (st := s_eqX) lQ cQ kQ) TB iCB tIB (fun_mk (st := s_badinitP) lB cB kB) a (fun_mk (st := s_law) l4 c4 k4)⟩
theorem walk {l : PySem.W.OpenLaw} {q : Program} {loose : List Str} {XP : (Str → Option Value) → Heap → Prop} {YP : World → Heap → Prop} {d : DefRec} {K : Params → PySem.W.Frag} (hn : l.most = some 63) (hdf : d.params.defaults = [])
    (hY : ∀ (w : World) (h : Heap), YP w h → (K w.params).In h)
    (F : ∀ (w : World) (mg : Str → Option Value) (fa : Addr) (h : Heap), (K w.params).In h → h.Ns mainGlobals mg → mg d.name = some (.ref fa) →
      ∃ fd : FuncData, (∀ (s : Shared) (u : Value), BindsTo s fd ⟨[u], []⟩ [("_law_script", u)]) ∧ ∀ base : Heap, (K w.params).In base → base.Ns mainGlobals mg → FnOk l.prog w (K w.params) mg base CX0 10 fa fd ["_law_script"] (spLaw (K w.params))) :
    PySem.W.WalkO q loose XP YP l.row.toRowW d [] (fun f vs => PySem.call f vs) :=
  L2.walk_of (n := 63) (k := 10) (x := "_law_script") (CX := fun _ => CX0) (sp := fun w => spLaw (K w.params)) hn (by decide) hdf ⟨rfl, by decide, by decide⟩ hY F (fun _ _ a ns hl _ hS => ⟨a, ns, rfl, hS, hl, fun _ => rfl⟩) fun _ _ _ _ _ z => z
end Kk
open PySem PySem.W PyProof.Rows
set_option maxRecDepth 100000 in
set_option maxHeartbeats 0 in
theorem PySem.Challenge.cw_oncekinds_k01_whole_programs_are_judged_holds : PySem.Challenge.rw_oncekinds_k01_whole_programs_are_judged.Holds := by
  w_on; o_law; k_head; (case hw => w_witness2)
  k_fill
  refine Kk.walk (l := PySem.Challenge.rw_oncekinds_k01_whole_programs_are_judged) rfl rfl (fun w h Y => PySem.W.kIn_of Y) ?F
  case F =>
    intro w mg fa h KX G hmg
    have b_len : mg "len" = none := by refine' PySem.W.mg_none_of KX G ?z <;> k_is
    have b_int : mg "int" = none := by refine' PySem.W.mg_none_of KX G ?z <;> k_is
    have b_bool : mg "bool" = none := by refine' PySem.W.mg_none_of KX G ?z <;> k_is
    have b_str : mg "str" = none := by refine' PySem.W.mg_none_of KX G ?z <;> k_is
    have b_abs : mg "abs" = none := by refine' PySem.W.mg_none_of KX G ?z <;> k_is
    have b_min : mg "min" = none := by refine' PySem.W.mg_none_of KX G ?z <;> k_is
    have b_max : mg "max" = none := by refine' PySem.W.mg_none_of KX G ?z <;> k_is
    have b_sum : mg "sum" = none := by refine' PySem.W.mg_none_of KX G ?z <;> k_is
    have b_list : mg "list" = none := by refine' PySem.W.mg_none_of KX G ?z <;> k_is
    have b_tuple : mg "tuple" = none := by refine' PySem.W.mg_none_of KX G ?z <;> k_is
    have b_all : mg "all" = none := by refine' PySem.W.mg_none_of KX G ?z <;> k_is
    have b_isinstance : mg "isinstance" = none := by refine' PySem.W.mg_none_of KX G ?z <;> k_is
    have b_set : mg "set" = none := by refine' PySem.W.mg_none_of KX G ?z <;> k_is
    have b_range : mg "range" = none := by refine' PySem.W.mg_none_of KX G ?z <;> k_is
    have b_enumerate : mg "enumerate" = none := by refine' PySem.W.mg_none_of KX G ?z <;> k_is
    have b_reversed : mg "reversed" = none := by refine' PySem.W.mg_none_of KX G ?z <;> k_is
    have b_zip : mg "zip" = none := by refine' PySem.W.mg_none_of KX G ?z <;> k_is
    have b_divmod : mg "divmod" = none := by refine' PySem.W.mg_none_of KX G ?z <;> k_is
    have b_dict : mg "dict" = none := by refine' PySem.W.mg_none_of KX G ?z <;> k_is
    have b_sorted : mg "sorted" = none := by refine' PySem.W.mg_none_of KX G ?z <;> k_is
    have m_INTO : ∃ t, mg "INTO" = some (.str ">" t) := by refine' Kk.glob_s KX G ?gINTO; (case gINTO => k_is)
    have m_GIVEN : ∃ t, mg "GIVEN" = some (.str "@" t) := by refine' Kk.glob_s KX G ?gGIVEN; (case gGIVEN => k_is)
    have m_TAKE : ∃ t, mg "TAKE" = some (.str "/" t) := by refine' Kk.glob_s KX G ?gTAKE; (case gTAKE => k_is)
    have m_LETTERS : ∃ t, mg "LETTERS" = some (.str "abcdefghijklmnopqrstuvwxyz" t) := by refine' Kk.glob_s KX G ?gLETTERS; (case gLETTERS => k_is)
    have m_MOST_LETTERS : ∃ t, mg "MOST_LETTERS" = some (.int 8 t) := by refine' Kk.glob_i KX G ?gMOST_LETTERS; (case gMOST_LETTERS => k_is)
    have m_MOST_WORDS_programs : ∃ t, mg "MOST_WORDS_programs" = some (.int 1000 t) := by refine' Kk.glob_i KX G ?gMOST_WORDS_programs; (case gMOST_WORDS_programs => k_is)
    have m_MOST_WORDS_kinds : ∃ t, mg "MOST_WORDS_kinds" = some (.int 4000 t) := by refine' Kk.glob_i KX G ?gMOST_WORDS_kinds; (case gMOST_WORDS_kinds => k_is)
    have B : Kk.Bt mg := ⟨b_len, b_int, b_bool, b_str, b_abs, b_min, b_max, b_sum, b_list, b_tuple, b_all, b_isinstance, b_set, b_range, b_enumerate, b_reversed, b_zip, b_divmod, b_dict, b_sorted, m_INTO, m_GIVEN, m_TAKE, m_LETTERS, m_MOST_LETTERS, m_MOST_WORDS_programs, m_MOST_WORDS_kinds⟩
    refine' Kk.law_mk KX G hmg ?a1 ?i1 ?l1 ?c1 ?k1 ?a4 ?l4 ?c4 ?k4 ?a7 ?i7 ?l7 ?c7 ?k7 ?mk7 ?kc7 ⟨⟨?pg7, ?hd7, ?po7, ?sa7⟩, ?nw7, PySem.W.mg_of KX G ?aC7, ?ha7, ?hn7, ?ht7, ?hm7⟩ ⟨?nk1, ?nk2⟩ ⟨?ni1, ?ni2⟩ ⟨?kq1, ?kq2, ?kq3, ?kq4, ?kq5, ?kq6, ?kq7, ?kq8, ?kq9⟩ ?aQ ?iQ ?lQ ?cQ ?kQ (Kk.exf_mk (PySem.W.mg_of KX G ?gB) ?xlB ?xrB ?xsaB ?xexB ?xtyB ?xkCB ?xm1B ?xmB ?xgaB ?xggB ?xnfB ?xhdB) ?iCB ?tIB ?lB ?cB ?kB ?mk ?kc B ⟨⟨?pg, ?hd, ?po, ?sa⟩, ?nw, PySem.W.mg_of KX G ?aC, ?ha, ?hn, ?ht, ?hm⟩ ⟨Kk.def_mk KX G ?a_law_draw ?l_law_draw ?c_law_draw ?k_law_draw, Kk.def_mk KX G ?a_law_pot ?l_law_pot ?c_law_pot ?k_law_pot, Kk.def_mk KX G ?a_law_letters ?l_law_letters ?c_law_letters ?k_law_letters, Kk.def_mk KX G ?a_law_fresh ?l_law_fresh ?c_law_fresh ?k_law_fresh, Kk.def_mk KX G ?a_law_mixed ?l_law_mixed ?c_law_mixed ?k_law_mixed, Kk.def_mk KX G ?amisfit_index ?lmisfit_index ?cmisfit_index ?kmisfit_index, Kk.def_mk KX G ?aends_by ?lends_by ?cends_by ?kends_by, Kk.def_mk KX G ?a_law_words ?l_law_words ?c_law_words ?k_law_words, Kk.def_mk KX G ?ais_name ?lis_name ?cis_name ?kis_name, Kk.def_mk KX G ?ais_word ?lis_word ?cis_word ?kis_word, Kk.def_mk KX G ?astranger_index ?lstranger_index ?cstranger_index ?kstranger_index, Kk.def_mk KX G ?aparts_in ?lparts_in ?cparts_in ?kparts_in, Kk.def_mk KX G ?arepeated_index ?lrepeated_index ?crepeated_index ?krepeated_index, Kk.def_mk KX G ?aends_of ?lends_of ?cends_of ?kends_of, Kk.def_mk KX G ?aunused_index ?lunused_index ?cunused_index ?kunused_index, Kk.def_mk KX G ?afault_index_programs ?lfault_index_programs ?cfault_index_programs ?kfault_index_programs, Kk.def_mk KX G ?a_law_ends ?l_law_ends ?c_law_ends ?k_law_ends, Kk.def_mk KX G ?a_law_any ?l_law_any ?c_law_any ?k_law_any, Kk.def_mk KX G ?ais_number ?lis_number ?cis_number ?kis_number, Kk.def_mk KX G ?ais_kind_word ?lis_kind_word ?cis_kind_word ?kis_kind_word, Kk.def_mk KX G ?asides_in ?lsides_in ?csides_in ?ksides_in, Kk.def_mk KX G ?afault_index_kinds ?lfault_index_kinds ?cfault_index_kinds ?kfault_index_kinds, Kk.def_mk KX G ?a_law_deep ?l_law_deep ?c_law_deep ?k_law_deep, Kk.def_mk KX G ?a_law_is_name ?l_law_is_name ?c_law_is_name ?k_law_is_name, Kk.def_mk KX G ?a_law_is_word ?l_law_is_word ?c_law_is_word ?k_law_is_word, Kk.def_mk KX G ?a_law_end_fault ?l_law_end_fault ?c_law_end_fault ?k_law_end_fault, Kk.def_mk KX G ?a_law_fault ?l_law_fault ?c_law_fault ?k_law_fault, Kk.def_mk KX G ?a_law_item ?l_law_item ?c_law_item ?k_law_item, Kk.def_mk KX G ?a_law_spoiled ?l_law_spoiled ?c_law_spoiled ?k_law_spoiled, Kk.def_mk KX G ?a_law_thing ?l_law_thing ?c_law_thing ?k_law_thing, Kk.def_mk KX G ?a_law_right ?l_law_right ?c_law_right ?k_law_right⟩
    (case aC => k_is)
    (case a1 => k_is)
    (case i1 => k_is)
    (case l1 => k_is)
    (case c1 => k_is)
    (case k1 => k_is)
    (case a4 => k_is)
    (case l4 => k_is)
    (case c4 => k_is)
    (case k4 => k_is)
    (case aC7 => k_is)
    (case a7 => k_is)
    (case i7 => k_is)
    (case l7 => k_is)
    (case c7 => k_is)
    (case k7 => k_is)
    (case mk7 => k_is)
    (case kc7 => k_is)
    (case pg7 => k_is)
    (case hd7 => k_is)
    (case po7 => k_is)
    (case sa7 => k_is)
    (case nw7 => unfold L2.NoAttr; k_is)
    (case ha7 => k_is)
    (case hn7 => k_is)
    (case ht7 => k_is)
    (case hm7 => k_is)
    (case nk1 => k_is)
    (case nk2 => k_is)
    (case ni1 => k_is)
    (case ni2 => k_is)
    (case kq1 => k_is)
    (case kq2 => k_is)
    (case kq3 => k_is)
    (case kq4 => k_is)
    (case kq5 => k_is)
    (case kq6 => k_is)
    (case kq7 => k_is)
    (case kq8 => k_is)
    (case kq9 => k_is)
    (case aQ => k_is)
    (case iQ => k_is)
    (case lQ => k_is)
    (case cQ => k_is)
    (case kQ => k_is)
    (case gB => k_is)
    (case xlB => k_is)
    (case xrB => decide +kernel)
    (case xsaB => k_is)
    (case xexB => k_is)
    (case xtyB => k_is)
    (case xkCB => k_is)
    (case xm1B => k_is)
    (case xmB => k_is)
    (case xgaB => k_is)
    (case xggB => k_is)
    (case xnfB => k_is)
    (case xhdB => k_is)
    (case iCB => k_is)
    (case tIB => k_is)
    (case lB => k_is)
    (case cB => k_is)
    (case kB => k_is)
    (case mk => k_is)
    (case kc => k_is)
    (case pg => k_is)
    (case hd => k_is)
    (case po => k_is)
    (case sa => k_is)
    (case nw => unfold L2.NoAttr; k_is)
    (case ha => k_is)
    (case hn => k_is)
    (case ht => k_is)
    (case hm => k_is)
    (case a_law_draw => k_is); (case l_law_draw => k_is); (case c_law_draw => k_is); (case k_law_draw => k_is)
    (case a_law_pot => k_is); (case l_law_pot => k_is); (case c_law_pot => k_is); (case k_law_pot => k_is)
    (case a_law_letters => k_is); (case l_law_letters => k_is); (case c_law_letters => k_is); (case k_law_letters => k_is)
    (case a_law_fresh => k_is); (case l_law_fresh => k_is); (case c_law_fresh => k_is); (case k_law_fresh => k_is)
    (case a_law_mixed => k_is); (case l_law_mixed => k_is); (case c_law_mixed => k_is); (case k_law_mixed => k_is)
    (case amisfit_index => k_is); (case lmisfit_index => k_is); (case cmisfit_index => k_is); (case kmisfit_index => k_is)
    (case aends_by => k_is); (case lends_by => k_is); (case cends_by => k_is); (case kends_by => k_is)
    (case a_law_words => k_is); (case l_law_words => k_is); (case c_law_words => k_is); (case k_law_words => k_is)
    (case ais_name => k_is); (case lis_name => k_is); (case cis_name => k_is); (case kis_name => k_is)
    (case ais_word => k_is); (case lis_word => k_is); (case cis_word => k_is); (case kis_word => k_is)
    (case astranger_index => k_is); (case lstranger_index => k_is); (case cstranger_index => k_is); (case kstranger_index => k_is)
    (case aparts_in => k_is); (case lparts_in => k_is); (case cparts_in => k_is); (case kparts_in => k_is)
    (case arepeated_index => k_is); (case lrepeated_index => k_is); (case crepeated_index => k_is); (case krepeated_index => k_is)
    (case aends_of => k_is); (case lends_of => k_is); (case cends_of => k_is); (case kends_of => k_is)
    (case aunused_index => k_is); (case lunused_index => k_is); (case cunused_index => k_is); (case kunused_index => k_is)
    (case afault_index_programs => k_is); (case lfault_index_programs => k_is); (case cfault_index_programs => k_is); (case kfault_index_programs => k_is)
    (case a_law_ends => k_is); (case l_law_ends => k_is); (case c_law_ends => k_is); (case k_law_ends => k_is)
    (case a_law_any => k_is); (case l_law_any => k_is); (case c_law_any => k_is); (case k_law_any => k_is)
    (case ais_number => k_is); (case lis_number => k_is); (case cis_number => k_is); (case kis_number => k_is)
    (case ais_kind_word => k_is); (case lis_kind_word => k_is); (case cis_kind_word => k_is); (case kis_kind_word => k_is)
    (case asides_in => k_is); (case lsides_in => k_is); (case csides_in => k_is); (case ksides_in => k_is)
    (case afault_index_kinds => k_is); (case lfault_index_kinds => k_is); (case cfault_index_kinds => k_is); (case kfault_index_kinds => k_is)
    (case a_law_deep => k_is); (case l_law_deep => k_is); (case c_law_deep => k_is); (case k_law_deep => k_is)
    (case a_law_is_name => k_is); (case l_law_is_name => k_is); (case c_law_is_name => k_is); (case k_law_is_name => k_is)
    (case a_law_is_word => k_is); (case l_law_is_word => k_is); (case c_law_is_word => k_is); (case k_law_is_word => k_is)
    (case a_law_end_fault => k_is); (case l_law_end_fault => k_is); (case c_law_end_fault => k_is); (case k_law_end_fault => k_is)
    (case a_law_fault => k_is); (case l_law_fault => k_is); (case c_law_fault => k_is); (case k_law_fault => k_is)
    (case a_law_item => k_is); (case l_law_item => k_is); (case c_law_item => k_is); (case k_law_item => k_is)
    (case a_law_spoiled => k_is); (case l_law_spoiled => k_is); (case c_law_spoiled => k_is); (case k_law_spoiled => k_is)
    (case a_law_thing => k_is); (case l_law_thing => k_is); (case c_law_thing => k_is); (case k_law_thing => k_is)
    (case a_law_right => k_is); (case l_law_right => k_is); (case c_law_right => k_is); (case k_law_right => k_is)
