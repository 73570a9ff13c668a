import PyProof.Rows.All
import Wide.All
import OpenK.AllK
import Wide.FinOn
import HandS.Text
import HandS.JoinGen
import KE.GoesMore
import HandS.ForMost
import HandS.SetKeys
import HandS.DictComp
import HandS.Codes
import HandS.IsInst
import HandS.Strs
import HandS.RevRange
import HandS.Conv
import HandS.Wide
import KE.GoesEnum
import KE.KDictZip
import KE.KDictList
import KE.KDictCopyH
import HandS.Exc
import HandS.ExcValue
import HandS.Sort
import PyProof.DictCopy
import PyProof.WalksMore
import PyProof.TupleIter
import HandS.TupAny
import PyProof.SeqIndex
import HandS.ExcInit
import HandS.WordsExc
import HandS.TryOnly
import HandS.ExcOwn
import HandS.Style
import PyProof.InstEq
import OpenK.KMake
import PySem.Challenge.RW_oncekinds_k11_whole_deep_programs
set_option Elab.async false
set_option linter.all false
set_option maxRecDepth 100000
set_option maxHeartbeats 4000000
/-! words of programs: plain mathematics -/
namespace Wd
open PySem

abbrev Nm := List Nat
def nmOk (n : Nm) : Prop := 1 ≤ n.length ∧ n.length ≤ 8 ∧ ∀ c ∈ n, 97 ≤ c ∧ c ≤ 122
inductive W where
  | ap
  | tk (n : Nm)
  | nm (n : Nm)
  deriving DecidableEq
def wOk : W → Prop
  | .ap => True
  | .tk n => nmOk n
  | .nm n => nmOk n
def code : W → List Nat
  | .ap => [64]
  | .tk n => 47 :: n
  | .nm n => n
def enc (w : W) : Str := ⟨(code w).toArray⟩
def str (n : Nm) : Str := ⟨n.toArray⟩
theorem str_inj {a b : Nm} (h : str a = str b) : a = b := by
  have := congrArg TL.tl h
  exact this
theorem tl_str (n : Nm) : TL.tl (str n) = n := rfl
theorem tl_enc (w : W) : TL.tl (enc w) = code w := rfl
theorem enc_nm (n : Nm) : enc (.nm n) = str n := rfl
theorem enc_tk (n : Nm) : enc (.tk n) = str (47 :: n) := rfl
theorem code_inj {a b : W} (ha : wOk a) (hb : wOk b) (h : code a = code b) : a = b := by
  cases a <;> cases b <;> simp [code] at h <;> try rfl
  · subst h; have := hb.2.2 64 (by simp); omega
  · subst h; rfl
  · subst h; have := hb.2.2 47 (by simp); omega
  · subst h; have := ha.2.2 64 (by simp); omega
  · subst h; have := ha.2.2 47 (by simp); omega
  · subst h; rfl
theorem enc_inj {a b : W} (ha : wOk a) (hb : wOk b) (h : enc a = enc b) : a = b :=
  code_inj ha hb (by have := congrArg TL.tl h; exact this)

/-! ### trees -/
inductive T where
  | nm (n : Nm)
  | ap (f a : T)
  | tk (n : Nm) (b : T)
namespace T
def ws : T → List W
  | .nm n => [.nm n]
  | .ap f a => .ap :: (f.ws ++ a.ws)
  | .tk n b => .tk n :: b.ws
def lv : T → List Nm
  | .nm n => [n]
  | .ap f a => f.lv ++ a.lv
  | .tk _ b => b.lv
def tks : T → List Nm
  | .nm _ => []
  | .ap f a => f.tks ++ a.tks
  | .tk n b => n :: b.tks
def sc : T → Prop
  | .nm _ => True
  | .ap f a => f.sc ∧ a.sc
  | .tk n b => n ∈ b.lv ∧ b.sc
def aps : T → Nat
  | .nm _ => 0
  | .ap f a => f.aps + a.aps + 1
  | .tk _ b => b.aps
/-- the index behind the part at i -/
def e : T → Nat → Nat
  | .nm _, _ => 1
  | .tk _ b, i => if i = 0 then 1 + b.ws.length else 1 + b.e (i - 1)
  | .ap f a, i => if i = 0 then 1 + f.ws.length + a.ws.length else if i < 1 + f.ws.length then 1 + f.e (i - 1) else 1 + f.ws.length + a.e (i - 1 - f.ws.length)
theorem pos : ∀ t : T, 0 < t.ws.length
  | .nm _ => by simp [ws]
  | .ap _ _ => by simp [ws]
  | .tk _ _ => by simp [ws]
theorem e0 : ∀ t : T, t.e 0 = t.ws.length
  | .nm _ => rfl
  | .ap f a => by simp [e, ws]; omega
  | .tk _ b => by simp [e, ws]; omega
theorem e_lt : ∀ (t : T) (i : Nat), i < t.ws.length → i < t.e i ∧ t.e i ≤ t.ws.length
  | .nm _, i, h => by simp [ws] at h; simp [e, ws]; omega
  | .tk _ b, i, h => by
    simp [ws] at h
    simp only [e, ws, List.length_cons]
    split
    · omega
    · have := e_lt b (i - 1) (by omega); omega
  | .ap f a, i, h => by
    simp [ws] at h
    simp only [e, ws, List.length_cons, List.length_append]
    split
    · omega
    · split
      · have := e_lt f (i - 1) (by omega); omega
      · have := e_lt a (i - 1 - f.ws.length) (by omega); omega
theorem get_tk {n : Nm} {b : T} {i : Nat} (h : i ≠ 0) : (T.tk n b).ws[i]? = b.ws[i - 1]? := by
  cases i with
  | zero => exact absurd rfl h
  | succ i => rfl
theorem get_ap1 {f a : T} {i : Nat} (h : i ≠ 0) (hi : i < 1 + f.ws.length) : (T.ap f a).ws[i]? = f.ws[i - 1]? := by
  cases i with
  | zero => exact absurd rfl h
  | succ i => show (f.ws ++ a.ws)[i]? = _; rw [List.getElem?_append_left (by omega)]; rfl
theorem get_ap2 {f a : T} {i : Nat} (hi : ¬ i < 1 + f.ws.length) : (T.ap f a).ws[i]? = a.ws[i - 1 - f.ws.length]? := by
  cases i with
  | zero => omega
  | succ i => show (f.ws ++ a.ws)[i]? = _; rw [List.getElem?_append_right (by omega)]; rfl
theorem e_nm : ∀ (t : T) (i : Nat) (n : Nm), t.ws[i]? = some (.nm n) → t.e i = i + 1
  | .nm _, i, n, h => by
    cases i with
    | zero => rfl
    | succ i => simp [ws] at h
  | .tk m b, i, n, h => by
    by_cases z : i = 0
    · subst z; simp [ws] at h
    · rw [get_tk z] at h
      have := e_nm b _ n h
      simp only [e]; rw [if_neg z]; omega
  | .ap f a, i, n, h => by
    by_cases z : i = 0
    · subst z; simp [ws] at h
    · by_cases y : i < 1 + f.ws.length
      · rw [get_ap1 z y] at h
        have := e_nm f _ n h
        simp only [e]; rw [if_neg z, if_pos y]; omega
      · rw [get_ap2 y] at h
        have := e_nm a _ n h
        simp only [e]; rw [if_neg z, if_neg y]; omega
theorem lt_of_get {α : Type} {l : List α} {i : Nat} {x : α} (h : l[i]? = some x) : i < l.length := (List.getElem?_eq_some_iff.mp h).1
theorem e_tk : ∀ (t : T) (i : Nat) (n : Nm), t.ws[i]? = some (.tk n) → i + 1 < t.ws.length ∧ t.e i = t.e (i + 1)
  | .nm _, i, n, h => by
    cases i with
    | zero => simp [ws] at h
    | succ i => simp [ws] at h
  | .tk m b, i, n, h => by
    by_cases z : i = 0
    · subst z
      have := pos b
      have := e0 b
      refine ⟨by simp [ws]; omega, ?_⟩
      simp [e]; omega
    · rw [get_tk z] at h
      have q := e_tk b _ n h
      have e1 : i - 1 + 1 = i := by omega
      rw [e1] at q
      refine ⟨by simp [ws]; omega, ?_⟩
      simp only [e]; rw [if_neg z, if_neg (by omega)]
      show _ = 1 + b.e i
      omega
  | .ap f a, i, n, h => by
    by_cases z : i = 0
    · subst z; simp [ws] at h
    · by_cases y : i < 1 + f.ws.length
      · rw [get_ap1 z y] at h
        have q := e_tk f _ n h
        have e1 : i - 1 + 1 = i := by omega
        rw [e1] at q
        refine ⟨by simp [ws]; omega, ?_⟩
        simp only [e]; rw [if_neg z, if_pos y, if_neg (by omega), if_pos (by omega)]
        show _ = 1 + f.e i
        omega
      · rw [get_ap2 y] at h
        have q := e_tk a _ n h
        have e1 : i - 1 - f.ws.length + 1 = i - f.ws.length := by omega
        rw [e1] at q
        refine ⟨by simp [ws]; omega, ?_⟩
        simp only [e]; rw [if_neg z, if_neg y, if_neg (by omega), if_neg (by omega)]
        have e2 : i + 1 - 1 - f.ws.length = i - f.ws.length := by omega
        rw [e2]
        omega
theorem e_ap : ∀ (t : T) (i : Nat), t.ws[i]? = some .ap → i + 1 < t.ws.length ∧ t.e (i + 1) < t.ws.length ∧ t.e i = t.e (t.e (i + 1))
  | .nm _, i, h => by
    cases i with
    | zero => simp [ws] at h
    | succ i => simp [ws] at h
  | .tk m b, i, h => by
    by_cases z : i = 0
    · subst z; simp [ws] at h
    · rw [get_tk z] at h
      have q := e_ap b _ h
      have e1 : i - 1 + 1 = i := by omega
      rw [e1] at q
      have e3 : (T.tk m b).e (i + 1) = 1 + b.e i := by simp only [e]; rw [if_neg (by omega)]; rfl
      have e4 : (T.tk m b).e (1 + b.e i) = 1 + b.e (b.e i) := by simp only [e]; rw [if_neg (by omega)]; rw [Nat.add_sub_cancel_left]
      rw [e3, e4]
      refine ⟨by simp [ws]; omega, by simp [ws]; omega, ?_⟩
      simp only [e]; rw [if_neg z]; omega
  | .ap f a, i, h => by
    by_cases z : i = 0
    · subst z
      have pf := pos f
      have pa := pos a
      have ef := e0 f
      have ea := e0 a
      have e3 : (T.ap f a).e (0 + 1) = 1 + f.ws.length := by simp only [e]; rw [if_neg (by omega), if_pos (by omega)]; simp; omega
      have e4 : (T.ap f a).e (1 + f.ws.length) = 1 + f.ws.length + a.ws.length := by
        simp only [e]; rw [if_neg (by omega), if_neg (by omega)]
        have : 1 + f.ws.length - 1 - f.ws.length = 0 := by omega
        rw [this]; omega
      rw [e3, e4]
      refine ⟨by simp [ws]; omega, by simp [ws]; omega, ?_⟩
      simp [e]
    · by_cases y : i < 1 + f.ws.length
      · rw [get_ap1 z y] at h
        have q := e_ap f _ h
        have e1 : i - 1 + 1 = i := by omega
        rw [e1] at q
        have e3 : (T.ap f a).e (i + 1) = 1 + f.e i := by simp only [e]; rw [if_neg (by omega), if_pos (by omega)]; rfl
        have e4 : (T.ap f a).e (1 + f.e i) = 1 + f.e (f.e i) := by
          simp only [e]; rw [if_neg (by omega), if_pos (by omega)]; rw [Nat.add_sub_cancel_left]
        rw [e3, e4]
        refine ⟨by simp [ws]; omega, by simp [ws]; omega, ?_⟩
        simp only [e]; rw [if_neg z, if_pos y]; omega
      · rw [get_ap2 y] at h
        have q := e_ap a _ h
        have e1 : i - 1 - f.ws.length + 1 = i - f.ws.length := by omega
        rw [e1] at q
        have e2 : i + 1 - 1 - f.ws.length = i - f.ws.length := by omega
        have e3 : (T.ap f a).e (i + 1) = 1 + f.ws.length + a.e (i - f.ws.length) := by simp only [e]; rw [if_neg (by omega), if_neg (by omega), e2]
        have e4 : (T.ap f a).e (1 + f.ws.length + a.e (i - f.ws.length)) = 1 + f.ws.length + a.e (a.e (i - f.ws.length)) := by
          simp only [e]; rw [if_neg (by omega), if_neg (by omega)]
          have : 1 + f.ws.length + a.e (i - f.ws.length) - 1 - f.ws.length = a.e (i - f.ws.length) := by omega
          rw [this]
        rw [e3, e4]
        refine ⟨by simp [ws]; omega, by simp [ws]; omega, ?_⟩
        simp only [e]; rw [if_neg z, if_neg y]; omega
/-- a name that is taken stands in the body -/
theorem used_lv : ∀ (t : T) (n : Nm), n ∈ t.lv → ∃ j : Nat, t.ws[j]? = some (W.nm n)
  | .nm m, n, h => by simp [lv] at h; subst h; exact ⟨0, rfl⟩
  | .tk m b, n, h => by
    obtain ⟨j, hj⟩ := used_lv b n h
    exact ⟨j + 1, by simpa [ws] using hj⟩
  | .ap f a, n, h => by
    rcases List.mem_append.mp h with h | h
    · obtain ⟨j, hj⟩ := used_lv f n h
      refine ⟨j + 1, ?_⟩
      rw [get_ap1 (by omega) (by have := lt_of_get hj; omega)]; simpa using hj
    · obtain ⟨j, hj⟩ := used_lv a n h
      refine ⟨1 + f.ws.length + j, ?_⟩
      rw [get_ap2 (by omega)]
      have : 1 + f.ws.length + j - 1 - f.ws.length = j := by omega
      rw [this]; exact hj
theorem used : ∀ (t : T) (i : Nat) (n : Nm), t.sc → t.ws[i]? = some (.tk n) → ∃ j : Nat, t.ws[j]? = some (W.nm n) ∧ i < j ∧ j < t.e i
  | .nm _, i, n, _, h => by
    cases i with
    | zero => simp [ws] at h
    | succ i => simp [ws] at h
  | .tk m b, i, n, s, h => by
    by_cases z : i = 0
    · subst z
      simp [ws] at h
      subst h
      obtain ⟨j, hj⟩ := used_lv b m s.1
      refine ⟨j + 1, by simpa [ws] using hj, by omega, ?_⟩
      have := lt_of_get hj
      simp [e]; omega
    · rw [get_tk z] at h
      obtain ⟨j, hj, h1, h2⟩ := used b _ n s.2 h
      refine ⟨j + 1, by simpa [ws] using hj, by omega, ?_⟩
      simp only [e]; rw [if_neg z]; omega
  | .ap f a, i, n, s, h => by
    by_cases z : i = 0
    · subst z; simp [ws] at h
    · by_cases y : i < 1 + f.ws.length
      · rw [get_ap1 z y] at h
        obtain ⟨j, hj, h1, h2⟩ := used f _ n s.1 h
        refine ⟨j + 1, ?_, by omega, ?_⟩
        · rw [get_ap1 (by omega) (by have := lt_of_get hj; omega)]; simpa using hj
        · simp only [e]; rw [if_neg z, if_pos y]; omega
      · rw [get_ap2 y] at h
        obtain ⟨j, hj, h1, h2⟩ := used a _ n s.2 h
        refine ⟨1 + f.ws.length + j, ?_, by omega, ?_⟩
        · rw [get_ap2 (by omega)]
          have : 1 + f.ws.length + j - 1 - f.ws.length = j := by omega
          rw [this]; exact hj
        · simp only [e]; rw [if_neg z, if_neg y]; omega
/-- the part at a place is a tree -/
theorem part : ∀ (t : T) (p : Nat), t.sc → p < t.ws.length → ∃ u : T, u.ws = (t.ws.drop p).take (t.e p - p) ∧ u.sc ∧ u.lv.Sublist t.lv ∧ u.tks.Sublist t.tks ∧ (∀ i, i < u.ws.length → u.e i + p = t.e (p + i))
  | .nm n, p, s, h => by
    simp [ws] at h
    subst h
    refine ⟨.nm n, rfl, s, List.Sublist.refl _, List.Sublist.refl _, fun i hi => rfl⟩
  | .tk m b, p, s, h => by
    by_cases z : p = 0
    · subst z
      refine ⟨.tk m b, ?_, s, List.Sublist.refl _, List.Sublist.refl _, fun i hi => by rw [Nat.zero_add]; rfl⟩
      rw [List.drop_zero, Nat.sub_zero, e0, List.take_length]
    · simp [ws] at h
      obtain ⟨u, h1, h2, h3, h4, h5⟩ := part b (p - 1) s.2 (by omega)
      have lt := e_lt b (p - 1) (by omega)
      refine ⟨u, ?_, h2, h3, h4.cons _, fun i hi => ?_⟩
      · rw [h1]
        obtain ⟨q, rfl⟩ : ∃ q, p = q + 1 := ⟨p - 1, by omega⟩
        show _ = (b.ws.drop q).take _
        congr 1
        simp only [e]; rw [if_neg z]; omega
      · have := h5 i hi
        simp only [e]; rw [if_neg (by omega)]
        have : p + i - 1 = p - 1 + i := by omega
        rw [this]; omega
  | .ap f a, p, s, h => by
    by_cases z : p = 0
    · subst z
      refine ⟨.ap f a, ?_, s, List.Sublist.refl _, List.Sublist.refl _, fun i hi => by rw [Nat.zero_add]; rfl⟩
      rw [List.drop_zero, Nat.sub_zero, e0, List.take_length]
    · simp [ws] at h
      by_cases y : p < 1 + f.ws.length
      · obtain ⟨u, h1, h2, h3, h4, h5⟩ := part f (p - 1) s.1 (by omega)
        have lt := e_lt f (p - 1) (by omega)
        have hul : u.ws.length = f.e (p - 1) - (p - 1) := by rw [h1, List.length_take, List.length_drop]; omega
        refine ⟨u, ?_, h2, h3.trans (List.sublist_append_left _ _), h4.trans (List.sublist_append_left _ _), fun i hi => ?_⟩
        · rw [h1]
          obtain ⟨q, rfl⟩ : ∃ q, p = q + 1 := ⟨p - 1, by omega⟩
          show _ = ((f.ws ++ a.ws).drop q).take _
          rw [List.drop_append_of_le_length (by omega), List.take_append_of_le_length]
          · congr 1
            simp only [e]; rw [if_neg z, if_pos y]; omega
          · rw [List.length_drop]
            simp only [e]; rw [if_neg z, if_pos y]
            have e1 : q + 1 - 1 = q := by omega
            rw [e1] at lt ⊢
            omega
        · have := h5 i hi
          simp only [e]; rw [if_neg (by omega), if_pos (by omega)]
          have : p + i - 1 = p - 1 + i := by omega
          rw [this]; omega
      · obtain ⟨u, h1, h2, h3, h4, h5⟩ := part a (p - 1 - f.ws.length) s.2 (by omega)
        have lt := e_lt a (p - 1 - f.ws.length) (by omega)
        refine ⟨u, ?_, h2, h3.trans (List.sublist_append_right _ _), h4.trans (List.sublist_append_right _ _), fun i hi => ?_⟩
        · rw [h1]
          obtain ⟨q, rfl⟩ : ∃ q, p = q + 1 := ⟨p - 1, by omega⟩
          show _ = ((f.ws ++ a.ws).drop q).take _
          have e1 : q + 1 - 1 - f.ws.length = q - f.ws.length := by omega
          rw [List.drop_append, List.drop_of_length_le (by omega : f.ws.length ≤ q), List.nil_append]
          rw [e1] at lt ⊢
          congr 1
          simp only [e]; rw [if_neg z, if_neg y, e1]; omega
        · have := h5 i hi
          simp only [e]; rw [if_neg (by omega), if_neg (by omega)]
          have : p + i - 1 - f.ws.length = p - 1 - f.ws.length + i := by omega
          rw [this]; omega
theorem tks_ws : ∀ t : T, t.tks = t.ws.filterMap (fun w => match w with | .tk n => some n | _ => none)
  | .nm _ => rfl
  | .tk m b => by simp only [tks, ws, List.filterMap_cons]; rw [tks_ws b]
  | .ap f a => by simp only [tks, ws, List.filterMap_cons, List.filterMap_append]; rw [tks_ws f, tks_ws a]
theorem lv_ws : ∀ t : T, t.lv = t.ws.filterMap (fun w => match w with | .nm n => some n | _ => none)
  | .nm _ => rfl
  | .tk m b => by simp only [lv, ws, List.filterMap_cons]; rw [lv_ws b]
  | .ap f a => by simp only [lv, ws, List.filterMap_cons, List.filterMap_append]; rw [lv_ws f, lv_ws a]
theorem lv_aps : ∀ t : T, t.lv.length = t.aps + 1
  | .nm _ => rfl
  | .tk m b => lv_aps b
  | .ap f a => by simp only [lv, aps, List.length_append]; rw [lv_aps f, lv_aps a]; omega
theorem aps_ws : ∀ t : T, t.aps = (t.ws.filter (fun w => decide (w = .ap))).length
  | .nm _ => rfl
  | .tk m b => by simp [aps, ws]; exact aps_ws b
  | .ap f a => by
    have h1 := aps_ws f
    have h2 := aps_ws a
    simp [aps, ws]; omega
theorem len_ws : ∀ t : T, t.ws.length = 2 * t.aps + 1 + t.tks.length
  | .nm _ => rfl
  | .tk m b => by have := len_ws b; simp [ws, aps, tks]; omega
  | .ap f a => by have := len_ws f; have := len_ws a; simp [ws, aps, tks]; omega
end T

/-! ### valid words -/
structure Vd (ws : List W) : Prop where
  tree : ∃ t : T, t.ws = ws ∧ t.sc ∧ t.lv.Nodup ∧ t.tks.Nodup
  ok : ∀ w ∈ ws, wOk w
structure IsEnds (ws : List W) (E : Nat → Nat) : Prop where
  lt : ∀ i, i < ws.length → i < E i ∧ E i ≤ ws.length
  all : E 0 = ws.length
  nm : ∀ i n, ws[i]? = some (.nm n) → E i = i + 1
  tk : ∀ i n, ws[i]? = some (.tk n) → i + 1 < ws.length ∧ E i = E (i + 1)
  ap : ∀ i, ws[i]? = some .ap → i + 1 < ws.length ∧ E (i + 1) < ws.length ∧ E i = E (E (i + 1))
theorem T.isEnds (t : T) : IsEnds t.ws t.e := ⟨t.e_lt, t.e0, t.e_nm, t.e_tk, t.e_ap⟩
/-- two such are alike -/
theorem IsEnds.uniq {ws : List W} {E F : Nat → Nat} (h : IsEnds ws E) (g : IsEnds ws F) : ∀ k i, ws.length - i = k → i < ws.length → E i = F i := by
  intro k
  induction k using Nat.strongRecOn with
  | _ k ih =>
    intro i hk hi
    cases hw : ws[i]? with
    | none => rw [List.getElem?_eq_none_iff] at hw; omega
    | some w =>
      cases w with
      | nm n => rw [h.nm i n hw, g.nm i n hw]
      | tk n =>
        obtain ⟨h1, h2⟩ := h.tk i n hw
        obtain ⟨g1, g2⟩ := g.tk i n hw
        rw [h2, g2]
        exact ih _ (by omega) (i + 1) rfl h1
      | ap =>
        obtain ⟨h1, h2, h3⟩ := h.ap i hw
        obtain ⟨g1, g2, g3⟩ := g.ap i hw
        have e1 := ih _ (by omega) (i + 1) rfl h1
        have l1 := (h.lt (i + 1) h1).1
        rw [h3, g3, ← e1]
        exact ih _ (by omega) (E (i + 1)) rfl h2
/-- the chain of ends from i on -/
def chain (E : Nat → Nat) (n : Nat) : Nat → Nat → List Nat
  | 0, _ => []
  | k + 1, i => if i < n then E i :: chain E n k (E i) else []
theorem chain_more {E : Nat → Nat} {n : Nat} (h : ∀ i, i < n → i < E i ∧ E i ≤ n) : ∀ (k j i : Nat), n - i ≤ k → n - i ≤ j → i ≤ n → chain E n k i = chain E n j i
  | 0, 0, i, _, _, _ => rfl
  | 0, j + 1, i, hk, _, hi => by
    unfold chain; rw [if_neg (by omega)]
  | k + 1, 0, i, _, hj, hi => by
    conv => lhs; unfold chain
    rw [if_neg (by omega)]; rfl
  | k + 1, j + 1, i, hk, hj, hi => by
    unfold chain
    by_cases c : i < n
    · rw [if_pos c, if_pos c, chain_more h k j (E i) (by have := h i c; omega) (by have := h i c; omega) (h i c).2]
    · rw [if_neg c, if_neg c]
def ch (E : Nat → Nat) (n i : Nat) : List Nat := chain E n n i
section
variable {ws : List W} {E : Nat → Nat}
theorem ch_end : ch E n n = [] := by
  unfold ch
  cases n with
  | zero => rfl
  | succ n => unfold chain; rw [if_neg (by omega)]
theorem ch_step (h : IsEnds ws E) {i : Nat} (hi : i < ws.length) : ch E ws.length i = E i :: ch E ws.length (E i) := by
  unfold ch
  obtain ⟨k, hk⟩ : ∃ k, ws.length = k + 1 := ⟨ws.length - 1, by omega⟩
  have l := h.lt i hi
  conv => lhs; rw [hk]; unfold chain
  rw [if_pos (by omega), ← hk, chain_more h.lt k ws.length (E i) (by omega) (by omega) l.2]
theorem ch_ne (h : IsEnds ws E) {i : Nat} (hi : i < ws.length) : 0 < (ch E ws.length i).length := by rw [ch_step h hi]; simp
theorem ch_nm (h : IsEnds ws E) {i : Nat} {n : Nm} (hw : ws[i]? = some (.nm n)) : ch E ws.length i = (i + 1) :: ch E ws.length (i + 1) := by
  rw [ch_step h (T.lt_of_get hw), h.nm i n hw]
theorem ch_tk (h : IsEnds ws E) {i : Nat} {n : Nm} (hw : ws[i]? = some (.tk n)) : ch E ws.length (i + 1) = E i :: ch E ws.length (E i) ∧ ch E ws.length i = E i :: ch E ws.length (E i) := by
  obtain ⟨h1, h2⟩ := h.tk i n hw
  exact ⟨by rw [ch_step h h1, h2], ch_step h (T.lt_of_get hw)⟩
theorem ch_ap (h : IsEnds ws E) {i : Nat} (hw : ws[i]? = some .ap) : ch E ws.length (i + 1) = E (i + 1) :: E i :: ch E ws.length (E i) ∧ ch E ws.length i = E i :: ch E ws.length (E i) := by
  obtain ⟨h1, h2, h3⟩ := h.ap i hw
  refine ⟨?_, ch_step h (T.lt_of_get hw)⟩
  rw [ch_step h h1, ch_step h h2, ← h3]
theorem ch_one (h : IsEnds ws E) (hp : 0 < ws.length) : ch E ws.length 0 = [ws.length] := by
  rw [ch_step h hp, h.all, ch_end]
end
end Wd

namespace Wd
open PySem
/-! ### the name with a number -/
def stp (s : Nat × Nm) : Nat × Nm := if 0 < s.1 then ((s.1 - 1) / 26, (97 + (s.1 - 1) % 26) :: s.2) else s
def itr : Nat → Nat × Nm → Nat × Nm
  | 0, s => s
  | k + 1, s => stp (itr k s)
def lett (n : Nat) : Nm := (itr 9 (n + 1, [])).2
def val : Nm → Nat
  | [] => 0
  | c :: l => (c - 96) * 26 ^ l.length + val l
def bd : Nat → Nat
  | 0 => 0
  | k + 1 => 26 * (bd k + 1)
structure LI (n i : Nat) (s : Nat × Nm) : Prop where
  v : val s.2 + s.1 * 26 ^ s.2.length = n
  l : s.2.length ≤ i
  c : ∀ x ∈ s.2, 97 ≤ x ∧ x ≤ 122
theorem LI.start (n : Nat) : LI n 0 (n, []) := ⟨by simp [val], Nat.le_refl _, by simp⟩
theorem LI.step {n i : Nat} {s : Nat × Nm} (h : LI n i s) : LI n (i + 1) (stp s) := by
  unfold stp
  split
  · rename_i hp
    refine ⟨?_, by have := h.l; simp; omega, ?_⟩
    · have hv := h.v
      simp only [val, List.length_cons, Nat.pow_succ]
      have e1 : 97 + (s.1 - 1) % 26 - 96 = (s.1 - 1) % 26 + 1 := by omega
      rw [e1]
      have e2 : (s.1 - 1) / 26 * (26 ^ s.2.length * 26) = (26 * ((s.1 - 1) / 26)) * 26 ^ s.2.length := by
        rw [Nat.mul_comm (26 ^ s.2.length) 26, ← Nat.mul_assoc, Nat.mul_comm ((s.1 - 1) / 26) 26]
      rw [e2]
      have e3 : ((s.1 - 1) % 26 + 1) * 26 ^ s.2.length + val s.2 + 26 * ((s.1 - 1) / 26) * 26 ^ s.2.length = val s.2 + ((s.1 - 1) % 26 + 1 + 26 * ((s.1 - 1) / 26)) * 26 ^ s.2.length := by
        rw [Nat.add_mul ((s.1 - 1) % 26 + 1)]; omega
      rw [e3]
      have e4 : (s.1 - 1) % 26 + 1 + 26 * ((s.1 - 1) / 26) = s.1 := by
        have := Nat.div_add_mod (s.1 - 1) 26
        omega
      rw [e4]; exact hv
    · intro x hx
      rcases List.mem_cons.mp hx with rfl | hx
      · have := Nat.mod_lt (s.1 - 1) (show 26 > 0 by decide); omega
      · exact h.c x hx
  · exact ⟨h.v, by have := h.l; omega, h.c⟩
theorem LI.itr (n : Nat) : ∀ i, LI n i (itr i (n, []))
  | 0 => LI.start n
  | i + 1 => (LI.itr n i).step
theorem itr_bd {n k : Nat} (h : n ≤ bd k) : ∀ i, i ≤ k → (itr i (n, [])).1 ≤ bd (k - i)
  | 0, _ => h
  | i + 1, hi => by
    have ih := itr_bd h i (by omega)
    have e : k - i = (k - (i + 1)) + 1 := by omega
    rw [e] at ih
    simp only [bd] at ih
    simp only [Wd.itr, stp]
    split
    · show ((itr i (n, [])).1 - 1) / 26 ≤ _
      omega
    · omega
theorem itr_done {n i : Nat} (h : (itr i (n, [])).1 = 0) : itr (i + 1) (n, []) = itr i (n, []) := by
  simp only [Wd.itr, stp]
  rw [h]; rfl
theorem lett_itr {n : Nat} (h : n + 1 ≤ 217180147158) : lett n = (itr 8 (n + 1, [])).2 ∧ (itr 8 (n + 1, [])).1 = 0 := by
  have b : bd 8 = 217180147158 := by decide
  have z := itr_bd (n := n + 1) (k := 8) (by rw [b]; exact h) 8 (Nat.le_refl _)
  have z0 : (itr 8 (n + 1, [])).1 = 0 := Nat.le_zero.mp z
  refine ⟨?_, z0⟩
  unfold lett
  rw [itr_done z0]
theorem lett_val {n : Nat} (h : n + 1 ≤ 217180147158) : val (lett n) = n + 1 := by
  obtain ⟨e, z⟩ := lett_itr h
  have v := (LI.itr (n + 1) 8).v
  rw [z, Nat.zero_mul, Nat.add_zero] at v
  rw [e]; exact v
theorem lett_ok {n : Nat} (h : n + 1 ≤ 217180147158) : nmOk (lett n) := by
  obtain ⟨e, z⟩ := lett_itr h
  have L := LI.itr (n + 1) 8
  refine ⟨?_, by rw [e]; exact L.l, by rw [e]; exact L.c⟩
  have v := lett_val h
  cases q : lett n with
  | nil => rw [q] at v; simp [val] at v
  | cons a l => simp
theorem lett_inj {n m : Nat} (h : n + 1 ≤ 217180147158) (g : m + 1 ≤ 217180147158) (e : lett n = lett m) : n = m := by
  have a := lett_val h
  have b := lett_val g
  rw [e] at a
  omega
theorem nodup_len {α : Type} [DecidableEq α] : ∀ {a b : List α}, a.Nodup → (∀ x ∈ a, x ∈ b) → a.length ≤ b.length
  | [], _, _, _ => Nat.zero_le _
  | x :: a, b, nd, h => by
    have hx := h x (List.mem_cons_self ..)
    have nd' := List.nodup_cons.mp nd
    have ih := nodup_len (a := a) (b := b.erase x) nd'.2 (fun y hy => by
      refine (List.mem_erase_of_ne ?_).mpr (h y (List.mem_cons_of_mem _ hy))
      rintro rfl
      exact nd'.1 hy)
    have := List.length_erase_of_mem hx
    have hp : 0 < b.length := List.length_pos_of_mem hx
    simp only [List.length_cons]
    omega
theorem pigeon {α : Type} [DecidableEq α] {l : List α} {f : Nat → α} (inj : ∀ i j, i ≤ l.length → j ≤ l.length → f i = f j → i = j) (h : ∀ i, i ≤ l.length → f i ∈ l) : False := by
  have nd : ((List.range (l.length + 1)).map f).Nodup := by
    refine List.pairwise_map.mpr ?_
    refine List.Pairwise.imp_of_mem ?_ List.nodup_range
    intro a b ha hb hne e
    exact hne (inj a b (by have := List.mem_range.mp ha; omega) (by have := List.mem_range.mp hb; omega) e)
  have := nodup_len nd (b := l) (fun x hx => by
    obtain ⟨i, hi, rfl⟩ := List.mem_map.mp hx
    exact h i (by have := List.mem_range.mp hi; omega))
  simp at this
  omega
theorem alpha (r : Nat) (h : r < 26) : (TL.tl (Str.ofString "abcdefghijklmnopqrstuvwxyz"))[r]? = some (97 + r) := by
  rw [TL.tl_ofString]
  revert r
  decide +kernel
end Wd

namespace Wd
open PySem
/-! ### words that are drawn -/
def Fits (e : List Nm × Nat) (t : T) : Prop := t.sc ∧ t.aps = e.2 ∧ t.lv.Perm (e.1 ++ t.tks)
inductive Mt : List (List Nm × Nat) → List T → Prop where
  | nil : Mt [] []
  | cons {e S t ts} : Fits e t → Mt S ts → Mt (e :: S) (t :: ts)
def Pre (e0 : List Nm × Nat) (F : List W) (S : List (List Nm × Nat)) : Prop := ∀ ts, Mt S ts → ∃ t, t.ws = F ++ (ts.map T.ws).flatten ∧ Fits e0 t
theorem Pre.start (e : List Nm × Nat) : Pre e [] [e] := fun ts h => by
  cases h with
  | cons h1 h2 =>
    cases h2
    exact ⟨_, by simp, h1⟩
theorem Pre.nm {e0 F S} {n : Nm} (h : Pre e0 F (([n], 0) :: S)) : Pre e0 (F ++ [.nm n]) S := fun ts m => by
  obtain ⟨t, h1, h2⟩ := h (T.nm n :: ts) (.cons ⟨trivial, rfl, List.Perm.refl _⟩ m)
  exact ⟨t, by rw [h1]; simp [T.ws], h2⟩
theorem Pre.tk {e0 F S} {n : Nm} {row : List Nm} {m : Nat} (h : Pre e0 F ((row, m) :: S)) : Pre e0 (F ++ [.tk n]) ((row ++ [n], m) :: S) := fun ts mt => by
  cases mt with
  | @cons _ _ b ts h1 h2 =>
    obtain ⟨s, a, p⟩ := h1
    obtain ⟨t, h3, h4⟩ := h (T.tk n b :: ts) (.cons ⟨⟨p.mem_iff.mpr (by simp), s⟩, a, by
      show b.lv.Perm (row ++ (n :: b.tks))
      have e : row ++ [n] ++ b.tks = row ++ (n :: b.tks) := by simp
      rw [← e]; exact p⟩ h2)
    exact ⟨t, by rw [h3]; simp [T.ws], h4⟩
theorem Pre.ap {e0 F S} {row r1 r2 : List Nm} {m m1 m2 : Nat} (h : Pre e0 F ((row, m) :: S)) (hr : (r1 ++ r2).Perm row) (hm : m1 + m2 + 1 = m) : Pre e0 (F ++ [.ap]) ((r1, m1) :: (r2, m2) :: S) := fun ts mt => by
  cases mt with
  | @cons _ _ f ts h1 h2 =>
    cases h2 with
    | @cons _ _ a ts h2 h3 =>
      obtain ⟨s1, a1, p1⟩ := h1
      obtain ⟨s2, a2, p2⟩ := h2
      obtain ⟨t, h4, h5⟩ := h (T.ap f a :: ts) (.cons ⟨⟨s1, s2⟩, by show f.aps + a.aps + 1 = m; rw [a1, a2]; exact hm, by
        show (f.lv ++ a.lv).Perm (row ++ (f.tks ++ a.tks))
        refine (p1.append p2).trans ?_
        show ((r1 ++ f.tks) ++ (r2 ++ a.tks)).Perm (row ++ (f.tks ++ a.tks))
        refine List.Perm.trans ?_ (hr.append_right _)
        rw [List.append_assoc, List.append_assoc]
        refine List.Perm.append_left _ ?_
        rw [← List.append_assoc, ← List.append_assoc]
        exact List.perm_append_comm.append_right _⟩ h3)
      exact ⟨t, by rw [h4]; simp [T.ws], h5⟩
def cost (e : List Nm × Nat) : Nat := 3 * e.2 + 2 - e.1.length
def costs : List (List Nm × Nat) → Nat
  | [] => 0
  | e :: S => cost e + costs S
def takesOf (F : List W) : List Nm := F.filterMap (fun w => match w with | .tk n => some n | _ => none)
theorem takesOf_app (F G : List W) : takesOf (F ++ G) = takesOf F ++ takesOf G := by simp [takesOf]
theorem takesOf_len (F : List W) : (takesOf F).length ≤ F.length := List.length_filterMap_le _ _
/-- what is drawn: names the open names, g the givens -/
structure Gen (names : List Nm) (g : Nat) (ws : List W) : Prop where
  tree : ∃ t : T, t.ws = ws ∧ Fits (names, g) t
  nd : (names ++ takesOf ws).Nodup
  ok : ∀ n ∈ names ++ takesOf ws, nmOk n
theorem takesOf_tree (t : T) : takesOf t.ws = t.tks := (T.tks_ws t).symm
theorem mem_tks_ws {t : T} {n : Nm} (h : W.tk n ∈ t.ws) : n ∈ t.tks := by
  rw [T.tks_ws]
  exact List.mem_filterMap.mpr ⟨_, h, rfl⟩
theorem mem_lv_ws {t : T} {n : Nm} (h : W.nm n ∈ t.ws) : n ∈ t.lv := by
  rw [T.lv_ws]
  exact List.mem_filterMap.mpr ⟨_, h, rfl⟩
theorem Gen.vd {names : List Nm} {g : Nat} {ws : List W} (h : Gen names g ws) : Vd ws := by
  obtain ⟨⟨t, rfl, s, a, p⟩, nd, ok⟩ := h
  rw [takesOf_tree] at nd ok
  refine ⟨⟨t, rfl, s, p.nodup_iff.mpr nd, (List.nodup_append.mp nd).2.1⟩, fun w hw => ?_⟩
  cases w with
  | ap => trivial
  | tk n => exact ok n (List.mem_append_right _ (mem_tks_ws hw))
  | nm n => exact ok n (p.mem_iff.mp (mem_lv_ws hw))
theorem Gen.len {names : List Nm} {g : Nat} {ws : List W} (h : Gen names g ws) : ws.length + names.length = 3 * g + 2 := by
  obtain ⟨⟨t, rfl, s, a, p⟩, nd, ok⟩ := h
  have l1 := p.length_eq
  have l2 := T.lv_aps t
  have l3 := T.len_ws t
  simp at l1 a
  omega
theorem swap_perm {α : Type} (l : List α) (i j : Nat) (hi : i < l.length) (hj : j < l.length) : ((l.set i l[j]).set j l[i]).Perm l := List.set_set_perm hi hj
end Wd

namespace Wd
open PySem L2
def isTk : W → Bool
  | .tk _ => true
  | _ => false
def isAp : W → Bool
  | .ap => true
  | _ => false
def isNm : W → Bool
  | .nm _ => true
  | _ => false
theorem starts_pre {x y : Str} (hy : TL.tl y ≠ []) : Txt.startswith x y = TL.pre (TL.tl y) (TL.tl x) := by
  have h := TL.at_iff (x := x) hy 0
  rw [List.drop_zero] at h
  have e : Txt.startswith x y = true ↔ PySem.StrLaws.At x y x.length 0 := by
    unfold Txt.startswith PySem.StrLaws.At
    rw [Bool.and_eq_true, decide_eq_true_eq]
  cases h1 : Txt.startswith x y with
  | true => exact (h.mp (e.mp h1)).symm
  | false =>
    cases h2 : TL.pre (TL.tl y) (TL.tl x) with
    | false => rfl
    | true => rw [e.mpr (h.mpr h2)] at h1; cases h1
theorem slash : TL.tl (Str.ofString "/") = [47] := by rw [TL.tl_ofString]; rfl
theorem at_sign : TL.tl (Str.ofString "@") = [64] := by rw [TL.tl_ofString]; rfl
theorem starts_tk {w : W} (h : wOk w) : Txt.startswith (enc w) "/" = isTk w := by
  rw [starts_pre (by rw [slash]; simp), slash, tl_enc]
  cases w with
  | ap => rfl
  | tk n => simp [code, TL.pre, isTk]
  | nm n =>
    cases n with
    | nil => rfl
    | cons c r =>
      have := h.2.2 c (by simp)
      have hc : c ≠ 47 := by omega
      simp [code, TL.pre, isTk, hc]
theorem cut1 (n : Nm) : cutS (enc (.tk n)) (some 1) none = str n := by
  apply TL.ext_tl
  unfold cutS
  rw [TL.tl_mk]
  have e1 : HT.sIx (enc (.tk n)).length 0 (some 1) = min 1 (enc (.tk n)).length := HT.sIx_nat _ _ 1
  have e2 : (enc (.tk n)).length = n.length + 1 := rfl
  rw [e1, e2, HT.sIx_none, Nat.min_eq_left (by omega)]
  show ((47 :: n).drop 1).take _ = n
  simp
theorem head1 (w : W) : cutS (enc w) none (some 1) = str ((code w).take 1) := by
  apply TL.ext_tl
  unfold cutS
  rw [TL.tl_mk]
  have e1 : HT.sIx (enc w).length (enc w).length (some 1) = min 1 (enc w).length := HT.sIx_nat _ _ 1
  rw [e1, HT.sIx_none]
  show ((code w).drop 0).take (min 1 (code w).length - 0) = (code w).take 1
  rw [List.drop_zero, Nat.sub_zero]
  cases code w <;> simp
theorem head_tk {w : W} (h : wOk w) : decide (V.str (cutS (enc w) none (some 1)) = V.str "/") = isTk w := by
  rw [head1]
  cases w with
  | ap =>
    refine decide_eq_false fun e => ?_
    have := congrArg TL.tl (V.str.inj e)
    rw [slash] at this
    simp [code, tl_str] at this
  | tk n =>
    refine decide_eq_true (congrArg V.str (TL.ext_tl ?_))
    rw [slash]; rfl
  | nm n =>
    refine decide_eq_false fun e => ?_
    have := congrArg TL.tl (V.str.inj e)
    rw [slash, tl_str] at this
    cases n with
    | nil => simp [code] at this
    | cons c r =>
      have := h.2.2 c (by simp)
      simp [code] at *
      omega
theorem is_ap {w : W} (h : wOk w) : decide (V.str (enc w) = V.str "@") = isAp w := by
  cases w with
  | ap =>
    refine decide_eq_true (congrArg V.str (TL.ext_tl ?_))
    rw [at_sign]; rfl
  | tk n =>
    refine decide_eq_false fun e => ?_
    have := congrArg TL.tl (V.str.inj e)
    rw [at_sign, tl_enc] at this
    simp [code] at this
  | nm n =>
    refine decide_eq_false fun e => ?_
    have := congrArg TL.tl (V.str.inj e)
    rw [at_sign, tl_enc] at this
    cases n with
    | nil => simp [code] at this
    | cons c r =>
      have := h.2.2 c (by simp)
      simp [code] at *
      omega
/-- what is_name tells -/
def nameB (z : Str) : Bool := decide (1 ≤ z.length) && (decide (z.length ≤ 8) && (TL.tl z).all fun c => decide (97 ≤ c ∧ c ≤ 122))
theorem nameB_ok {n : Nm} (h : nmOk n) : nameB (str n) = true := by
  unfold nameB
  have hl : (str n).length = n.length := by rw [TL.len_tl]; rfl
  rw [hl, decide_eq_true h.1, decide_eq_true h.2.1, tl_str]
  simp only [Bool.true_and, List.all_eq_true, decide_eq_true_eq]
  exact h.2.2
theorem nameB_tk (n : Nm) : nameB (enc (.tk n)) = false := by
  unfold nameB
  rw [tl_enc]
  simp [code]
theorem nameB_ap : nameB (enc .ap) = false := by
  unfold nameB
  rw [tl_enc]
  simp [code]
theorem letters (c : Nat) : decide (c ∈ (Str.ofString "abcdefghijklmnopqrstuvwxyz").cps.toList) = decide (97 ≤ c ∧ c ≤ 122) := by
  have e : (Str.ofString "abcdefghijklmnopqrstuvwxyz").cps.toList = (List.range 26).map (97 + ·) := by
    show TL.tl _ = _
    rw [TL.tl_ofString]; decide +kernel
  rw [e]
  by_cases h : 97 ≤ c ∧ c ≤ 122
  · rw [decide_eq_true h]
    refine decide_eq_true (List.mem_map.mpr ⟨c - 97, List.mem_range.mpr (by omega), by omega⟩)
  · rw [decide_eq_false h]
    refine decide_eq_false fun hm => ?_
    obtain ⟨k, hk, e⟩ := List.mem_map.mp hm
    have := List.mem_range.mp hk
    omega
end Wd

namespace Wd
open PySem L2
theorem filterMap_ix {α β : Type} {f : α → Option β} : ∀ {l : List α} {i j : Nat} {x y : α} {b : β}, (l.filterMap f).Nodup → l[i]? = some x → l[j]? = some y → f x = some b → f y = some b → i = j
  | [], i, j, x, y, b, _, h, _, _, _ => by simp at h
  | a :: l, i, j, x, y, b, nd, h1, h2, e1, e2 => by
    have tail : (l.filterMap f).Nodup := by
      cases h : f a with
      | none => rwa [List.filterMap_cons_none h] at nd
      | some c => rw [List.filterMap_cons_some h] at nd; exact (List.nodup_cons.mp nd).2
    cases i with
    | zero =>
      cases j with
      | zero => rfl
      | succ j =>
        simp at h1 h2
        subst h1
        rw [List.filterMap_cons_some e1] at nd
        exact absurd (List.mem_filterMap.mpr ⟨y, List.mem_of_getElem? h2, e2⟩) (List.nodup_cons.mp nd).1
    | succ i =>
      cases j with
      | zero =>
        simp at h1 h2
        subst h2
        rw [List.filterMap_cons_some e2] at nd
        exact absurd (List.mem_filterMap.mpr ⟨x, List.mem_of_getElem? h1, e1⟩) (List.nodup_cons.mp nd).1
      | succ j =>
        simp at h1 h2
        rw [filterMap_ix tail h1 h2 e1 e2]
/-- no word but "@" stands twice -/
theorem Vd.once {ws : List W} (h : Vd ws) {i j : Nat} {w : W} (hw : w ≠ .ap) (h1 : ws[i]? = some w) (h2 : ws[j]? = some w) : i = j := by
  obtain ⟨⟨t, rfl, s, nl, nt⟩, ok⟩ := h
  cases w with
  | ap => exact absurd rfl hw
  | tk n => rw [T.tks_ws] at nt; exact filterMap_ix nt h1 h2 rfl rfl
  | nm n => rw [T.lv_ws] at nl; exact filterMap_ix nl h1 h2 rfl rfl
theorem Vd.ends {ws : List W} (h : Vd ws) : ∃ E, IsEnds ws E := by
  obtain ⟨⟨t, rfl, s, nl, nt⟩, ok⟩ := h
  exact ⟨t.e, t.isEnds⟩
theorem Vd.pos {ws : List W} (h : Vd ws) : 0 < ws.length := by
  obtain ⟨⟨t, rfl, s, nl, nt⟩, ok⟩ := h
  exact t.pos
theorem Vd.okAt {ws : List W} (h : Vd ws) {i : Nat} {w : W} (hw : ws[i]? = some w) : wOk w := h.ok w (List.mem_of_getElem? hw)
/-- a taken name stands in the body -/
theorem Vd.used {ws : List W} (h : Vd ws) {E : Nat → Nat} (g : IsEnds ws E) {i : Nat} {n : Nm} (hw : ws[i]? = some (.tk n)) : ∃ j, ws[j]? = some (.nm n) ∧ i < j ∧ j < E i := by
  obtain ⟨⟨t, rfl, s, nl, nt⟩, ok⟩ := h
  obtain ⟨j, h1, h2, h3⟩ := T.used t i n s hw
  exact ⟨j, h1, h2, by rw [g.uniq t.isEnds _ i rfl (T.lt_of_get hw)]; exact h3⟩
/-- the part at a place -/
theorem Vd.part {ws : List W} (h : Vd ws) {E : Nat → Nat} (g : IsEnds ws E) {p : Nat} (hp : p < ws.length) :
    Vd ((ws.drop p).take (E p - p)) ∧ ∃ F, IsEnds ((ws.drop p).take (E p - p)) F ∧ ∀ i, i < ((ws.drop p).take (E p - p)).length → F i + p = E (p + i) := by
  obtain ⟨⟨t, rfl, s, nl, nt⟩, ok⟩ := h
  obtain ⟨u, h1, h2, h3, h4, h5⟩ := T.part t p s hp
  have ep : E p = t.e p := g.uniq t.isEnds _ p rfl hp
  rw [ep, ← h1]
  have hu : u.ws.length = t.e p - p := by
    have := T.e_lt t p hp
    rw [h1, List.length_take, List.length_drop]; omega
  refine ⟨⟨⟨u, rfl, h2, h3.nodup nl, h4.nodup nt⟩, fun w hw => ok w ?_⟩, u.e, u.isEnds, fun i hi => ?_⟩
  · rw [h1] at hw
    exact List.mem_of_mem_drop (List.mem_of_mem_take hw)
  · rw [h5 i hi]
    have := T.e_lt t p hp
    exact (g.uniq t.isEnds _ (p + i) rfl (by omega)).symm
end Wd

set_option maxHeartbeats 1000000
/-! names told anew: plain mathematics -/
namespace Wd
open PySem
theorem T.tk_lv : ∀ (t : T) (n : Nm), t.sc → n ∈ t.tks → n ∈ t.lv
  | .nm _, n, _, h => by simp [T.tks] at h
  | .ap f a, n, s, h => by
    rcases List.mem_append.mp h with h | h
    · exact List.mem_append_left _ (tk_lv f n s.1 h)
    · exact List.mem_append_right _ (tk_lv a n s.2 h)
  | .tk m b, n, s, h => by
    rcases List.mem_cons.mp h with rfl | h
    · exact s.1
    · exact tk_lv b n s.2 h
def nmsOf (ws : List W) : List Nm := ws.filterMap (fun w => match w with | .nm n => some n | _ => none)
theorem nmsOf_tree (t : T) : nmsOf t.ws = t.lv := (T.lv_ws t).symm
theorem nmsOf_app (F G : List W) : nmsOf (F ++ G) = nmsOf F ++ nmsOf G := by simp [nmsOf]
theorem nmsOf_len (F : List W) : (nmsOf F).length ≤ F.length := List.length_filterMap_le _ _
theorem mem_nms {ws : List W} {n : Nm} : n ∈ nmsOf ws ↔ W.nm n ∈ ws := by
  unfold nmsOf
  rw [List.mem_filterMap]
  constructor
  · rintro ⟨w, hw, e⟩
    cases w with
    | nm m => cases e; exact hw
    | ap => cases e
    | tk m => cases e
  · exact fun h => ⟨_, h, rfl⟩
theorem mem_tks {ws : List W} {n : Nm} : n ∈ takesOf ws ↔ W.tk n ∈ ws := by
  unfold takesOf
  rw [List.mem_filterMap]
  constructor
  · rintro ⟨w, hw, e⟩
    cases w with
    | tk m => cases e; exact hw
    | ap => cases e
    | nm m => cases e
  · exact fun h => ⟨_, h, rfl⟩
theorem Vd.nmsNd {ws : List W} (v : Vd ws) : (nmsOf ws).Nodup := by
  obtain ⟨⟨t, rfl, s, nl, nt⟩, ok⟩ := v
  rw [nmsOf_tree]; exact nl
theorem Vd.tksNd {ws : List W} (v : Vd ws) : (takesOf ws).Nodup := by
  obtain ⟨⟨t, rfl, s, nl, nt⟩, ok⟩ := v
  rw [takesOf_tree]; exact nt
theorem Vd.tkIn {ws : List W} (v : Vd ws) {n : Nm} (h : n ∈ takesOf ws) : n ∈ nmsOf ws := by
  obtain ⟨⟨t, rfl, s, nl, nt⟩, ok⟩ := v
  rw [takesOf_tree] at h
  rw [nmsOf_tree]
  exact t.tk_lv n s h
theorem Vd.nmOk {ws : List W} (v : Vd ws) {n : Nm} (h : n ∈ nmsOf ws) : nmOk n := v.ok _ (mem_nms.mp h)
theorem Vd.nmsNe {ws : List W} (v : Vd ws) : nmsOf ws ≠ [] := by
  obtain ⟨⟨t, rfl, s, nl, nt⟩, ok⟩ := v
  rw [nmsOf_tree]
  intro h
  have := T.lv_aps t
  rw [h] at this
  simp at this
def openN (ws : List W) : List Nm := (nmsOf ws).filter fun n => decide (n ∉ takesOf ws)
theorem mem_open {ws : List W} {n : Nm} : n ∈ openN ws ↔ n ∈ nmsOf ws ∧ n ∉ takesOf ws := by
  unfold openN
  rw [List.mem_filter]
  simp
/-! ### the words with names told anew -/
def renW (g : Nm → Nm) : W → W
  | .ap => .ap
  | .tk n => .tk (g n)
  | .nm n => .nm (g n)
theorem tks_ren (g : Nm → Nm) (ws : List W) : takesOf (ws.map (renW g)) = (takesOf ws).map g := by
  induction ws with
  | nil => rfl
  | cons w ws ih => cases w <;> simp_all [takesOf, renW]
theorem nms_ren (g : Nm → Nm) (ws : List W) : nmsOf (ws.map (renW g)) = (nmsOf ws).map g := by
  induction ws with
  | nil => rfl
  | cons w ws ih => cases w <;> simp_all [nmsOf, renW]
theorem ren_comp (g h : Nm → Nm) (ws : List W) : (ws.map (renW g)).map (renW h) = ws.map (renW fun n => h (g n)) := by
  rw [List.map_map]
  refine List.map_congr_left fun w _ => ?_
  cases w <;> rfl
theorem ren_id {g : Nm → Nm} {ws : List W} (h : ∀ n, (W.nm n ∈ ws ∨ W.tk n ∈ ws) → g n = n) : ws.map (renW g) = ws := by
  refine (List.map_congr_left fun w hw => ?_).trans (List.map_id _)
  cases w with
  | ap => rfl
  | tk n => show W.tk (g n) = _; rw [h n (.inr hw)]; rfl
  | nm n => show W.nm (g n) = _; rw [h n (.inl hw)]; rfl
theorem ren_congr {g h : Nm → Nm} {ws : List W} (e : ∀ n, (W.nm n ∈ ws ∨ W.tk n ∈ ws) → g n = h n) : ws.map (renW g) = ws.map (renW h) := by
  refine List.map_congr_left fun w hw => ?_
  cases w with
  | ap => rfl
  | tk n => show W.tk (g n) = W.tk (h n); rw [e n (.inr hw)]
  | nm n => show W.nm (g n) = W.nm (h n); rw [e n (.inl hw)]
namespace T
def ren (g : Nm → Nm) : T → T
  | .nm n => .nm (g n)
  | .ap f a => .ap (f.ren g) (a.ren g)
  | .tk n b => .tk (g n) (b.ren g)
theorem ren_ws (g : Nm → Nm) : ∀ t : T, (t.ren g).ws = t.ws.map (renW g)
  | .nm _ => rfl
  | .ap f a => by simp [ren, ws, renW, ren_ws g f, ren_ws g a]
  | .tk _ b => by simp [ren, ws, renW, ren_ws g b]
theorem ren_lv (g : Nm → Nm) : ∀ t : T, (t.ren g).lv = t.lv.map g
  | .nm _ => rfl
  | .ap f a => by simp [ren, lv, ren_lv g f, ren_lv g a]
  | .tk _ b => by simp [ren, lv, ren_lv g b]
theorem ren_tks (g : Nm → Nm) : ∀ t : T, (t.ren g).tks = t.tks.map g
  | .nm _ => rfl
  | .ap f a => by simp [ren, tks, ren_tks g f, ren_tks g a]
  | .tk _ b => by simp [ren, tks, ren_tks g b]
theorem ren_sc (g : Nm → Nm) : ∀ t : T, t.sc → (t.ren g).sc
  | .nm _, h => h
  | .ap f a, h => ⟨ren_sc g f h.1, ren_sc g a h.2⟩
  | .tk n b, h => ⟨by rw [ren_lv]; exact List.mem_map.mpr ⟨n, h.1, rfl⟩, ren_sc g b h.2⟩
end T
theorem nodup_map {α β : Type} {g : α → β} {l : List α} (nd : l.Nodup) (inj : ∀ a ∈ l, ∀ b ∈ l, g a = g b → a = b) : (l.map g).Nodup := by
  refine List.pairwise_map.mpr (List.Pairwise.imp_of_mem ?_ nd)
  intro a b ha hb hne e
  exact hne (inj a ha b hb e)
def InjOn (g : Nm → Nm) (l : List Nm) : Prop := ∀ a ∈ l, ∀ b ∈ l, g a = g b → a = b
theorem Vd.ren {ws : List W} (v : Vd ws) {g : Nm → Nm} (inj : InjOn g (nmsOf ws)) (gok : ∀ n ∈ nmsOf ws, Wd.nmOk (g n)) : Vd (ws.map (renW g)) := by
  have v' := v
  obtain ⟨⟨t, rfl, s, nl, nt⟩, ok⟩ := v
  refine ⟨⟨t.ren g, T.ren_ws g t, T.ren_sc g t s, ?_, ?_⟩, fun w hw => ?_⟩
  · rw [T.ren_lv]
    rw [nmsOf_tree] at inj
    exact nodup_map nl inj
  · rw [T.ren_tks]
    refine nodup_map nt fun a ha b hb e => inj a ?_ b ?_ e
    · rw [nmsOf_tree]; exact t.tk_lv a s ha
    · rw [nmsOf_tree]; exact t.tk_lv b s hb
  · obtain ⟨u, hu, rfl⟩ := List.mem_map.mp hw
    cases u with
    | ap => trivial
    | tk n => exact gok n (v'.tkIn (mem_tks.mpr hu))
    | nm n => exact gok n (mem_nms.mpr hu)
/-! ### the first names that are not held -/
def freshN (n : Nat) (held : List Nm) : List Nm := (((List.range (n + held.length)).map lett).filter fun x => decide (x ∉ held)).take n
theorem row_nodup {m : Nat} (h : m ≤ 217180147158) : ((List.range m).map lett).Nodup :=
  nodup_map List.nodup_range fun a ha b hb e => lett_inj (by have := List.mem_range.mp ha; omega) (by have := List.mem_range.mp hb; omega) e
theorem filter_split {α : Type} (p : α → Bool) (l : List α) : (l.filter p).length + (l.filter fun x => !p x).length = l.length := by
  induction l with
  | nil => rfl
  | cons a l ih =>
    cases h : p a <;> simp [h] <;> omega
theorem freshN_len {n : Nat} {held : List Nm} (h : n + held.length ≤ 217180147158) : (freshN n held).length = n := by
  unfold freshN
  rw [List.length_take]
  have nd := row_nodup h
  have s := filter_split (fun x => decide (x ∉ held)) ((List.range (n + held.length)).map lett)
  have l1 : (((List.range (n + held.length)).map lett).filter fun x => !decide (x ∉ held)).length ≤ held.length := by
    refine nodup_len (nd.sublist List.filter_sublist) fun x hx => ?_
    have := (List.mem_filter.mp hx).2
    simpa using this
  rw [List.length_map, List.length_range] at s
  omega
theorem freshN_nodup {n : Nat} {held : List Nm} (h : n + held.length ≤ 217180147158) : (freshN n held).Nodup :=
  ((row_nodup h).sublist List.filter_sublist).sublist (List.take_sublist _ _)
theorem freshN_mem {n : Nat} {held : List Nm} {x : Nm} (h : x ∈ freshN n held) : x ∉ held ∧ ∃ k, k < n + held.length ∧ x = lett k := by
  have h1 := List.mem_filter.mp (List.mem_of_mem_take h)
  obtain ⟨k, hk, rfl⟩ := List.mem_map.mp h1.1
  exact ⟨by simpa using h1.2, k, List.mem_range.mp hk, rfl⟩
theorem freshN_ok {n : Nat} {held : List Nm} (hl : n + held.length ≤ 217180147158) {x : Nm} (h : x ∈ freshN n held) : nmOk x := by
  obtain ⟨_, k, hk, rfl⟩ := freshN_mem h
  exact lett_ok (by omega)
/-! ### the table of the new names -/
abbrev Own := Nat × Nm
def tblF (ps : List (Own × Nm)) (o : Nat) (n : Nm) : Option Nm := ((ps.filter fun p => decide (p.1 = (o, n))).getLast?).map (·.2)
theorem tblF_snoc (ps : List (Own × Nm)) (p : Own × Nm) (o : Nat) (n : Nm) : tblF (ps ++ [p]) o n = if p.1 = (o, n) then some p.2 else tblF ps o n := by
  unfold tblF
  rw [List.filter_append]
  by_cases h : p.1 = (o, n)
  · rw [if_pos h]
    simp [h]
  · rw [if_neg h]
    simp [h]
theorem tblF_zip {as : List Own} {bs : List Nm} (nd : as.Nodup) {i : Nat} {o : Nat} {n m : Nm} (h1 : as[i]? = some (o, n)) (h2 : bs[i]? = some m) : tblF (as.zip bs) o n = some m := by
  have hz : (as.zip bs)[i]? = some ((o, n), m) := by rw [List.getElem?_zip_eq_some]; exact ⟨h1, h2⟩
  have all : ∀ p ∈ (as.zip bs).filter (fun p => decide (p.1 = (o, n))), p = ((o, n), m) := by
    intro p hp
    obtain ⟨hp1, hp2⟩ := List.mem_filter.mp hp
    have hp3 : p.1 = (o, n) := by simpa using hp2
    obtain ⟨j, hj⟩ := List.mem_iff_getElem?.mp hp1
    obtain ⟨g1, g2⟩ := List.getElem?_zip_eq_some.mp hj
    have : j = i := by
      obtain ⟨k1, e1⟩ := List.getElem?_eq_some_iff.mp g1
      obtain ⟨k2, e2⟩ := List.getElem?_eq_some_iff.mp h1
      exact (List.getElem_inj nd).mp (by rw [e1, e2, hp3])
    subst this
    rw [hz] at hj
    exact (Option.some.inj hj).symm
  have ne : (as.zip bs).filter (fun p => decide (p.1 = (o, n))) ≠ [] := by
    intro e
    have : ((o, n), m) ∈ (as.zip bs).filter (fun p => decide (p.1 = (o, n))) := List.mem_filter.mpr ⟨List.mem_of_getElem? hz, by simp⟩
    rw [e] at this
    cases this
  unfold tblF
  cases hq : ((as.zip bs).filter fun p => decide (p.1 = (o, n))).getLast? with
  | none => exact absurd (List.getLast?_eq_none_iff.mp hq) ne
  | some q =>
    rw [all q (List.mem_of_getLast? hq)]
    rfl
theorem tblF_none {as : List Own} {bs : List Nm} {o : Nat} {n : Nm} (h : (o, n) ∉ as) : tblF (as.zip bs) o n = none := by
  have : (as.zip bs).filter (fun p => decide (p.1 = (o, n))) = [] := by
    rw [List.filter_eq_nil_iff]
    intro p hp hc
    have hp3 : p.1 = (o, n) := by simpa using hc
    exact h (by rw [← hp3]; exact (List.of_mem_zip (a := p.1) (b := p.2) hp).1)
  unfold tblF
  rw [this]
  rfl
def re (f : Nm → Option Nm) (n : Nm) : Nm := (f n).getD n
def owned (ps : List (Nat × List W)) : List Own := ps.flatMap fun p => (takesOf p.2).map fun n => (p.1, n)
def frOf (ps : List (Nat × List W)) (held : List Nm) : List (Own × Nm) := (owned ps).zip (freshN (owned ps).length held)
def toldW (ps : List (Nat × List W)) (held : List Nm) : List W := ps.flatMap fun p => p.2.map (renW (re (tblF (frOf ps held) p.1)))
def stdW (ws : List W) : List W := toldW [(0, ws)] (openN ws)
def stdR (ws : List W) : Nm → Nm := re (tblF (frOf [(0, ws)] (openN ws)) 0)
theorem stdW_eq (ws : List W) : stdW ws = ws.map (renW (stdR ws)) := by
  unfold stdW toldW stdR
  simp
theorem owned_one (ws : List W) : owned [(0, ws)] = (takesOf ws).map fun n => (0, n) := by simp [owned]
theorem stdR_open {ws : List W} {n : Nm} (h : n ∉ takesOf ws) : stdR ws n = n := by
  unfold stdR re frOf
  rw [tblF_none]
  · rfl
  · rw [owned_one]
    intro hm
    obtain ⟨m, hm, e⟩ := List.mem_map.mp hm
    cases e
    exact h hm
theorem open_len (ws : List W) : (openN ws).length ≤ ws.length := Nat.le_trans (List.length_filter_le _ _) (nmsOf_len ws)
theorem bound {ws : List W} (hl : ws.length ≤ 100000000000) : (takesOf ws).length + (openN ws).length ≤ 217180147158 := by
  have := takesOf_len ws
  have := open_len ws
  omega
theorem stdR_take {ws : List W} (v : Vd ws) (hl : ws.length ≤ 100000000000) {i : Nat} {n : Nm} (h : (takesOf ws)[i]? = some n) : some (stdR ws n) = (freshN (takesOf ws).length (openN ws))[i]? := by
  have hlen : (freshN (takesOf ws).length (openN ws)).length = (takesOf ws).length := freshN_len (bound hl)
  have hi := (List.getElem?_eq_some_iff.mp h).1
  have e1 : (freshN (takesOf ws).length (openN ws))[i]? = some ((freshN (takesOf ws).length (openN ws))[i]'(by omega)) := List.getElem?_eq_getElem _
  rw [e1]
  refine congrArg some ?_
  unfold stdR re frOf
  rw [owned_one, List.length_map]
  rw [tblF_zip (i := i) (nodup_map v.tksNd fun a _ b _ e => by cases e; rfl) (by rw [List.getElem?_map, h]; rfl) e1]
  rfl
theorem stdR_ok {ws : List W} (v : Vd ws) (hl : ws.length ≤ 100000000000) {n : Nm} (h : n ∈ nmsOf ws) : Wd.nmOk (stdR ws n) := by
  by_cases ht : n ∈ takesOf ws
  · obtain ⟨i, hi⟩ := List.mem_iff_getElem?.mp ht
    exact freshN_ok (bound hl) (List.mem_of_getElem? (stdR_take v hl hi).symm)
  · rw [stdR_open ht]
    exact v.nmOk h
theorem stdW_ok {ws : List W} (v : Vd ws) (hl : ws.length ≤ 100000000000) : ∀ w ∈ stdW ws, wOk w := by
  rw [stdW_eq]
  intro w hw
  obtain ⟨u, hu, rfl⟩ := List.mem_map.mp hw
  cases u with
  | ap => trivial
  | tk n => exact stdR_ok v hl (v.tkIn (mem_tks.mpr hu))
  | nm n => exact stdR_ok v hl (mem_nms.mpr hu)
/-- the standard words are the same just if the open names are -/
theorem std_same {ws : List W} (v : Vd ws) (hl : ws.length ≤ 100000000000) {g : Nm → Nm} (inj : InjOn g (nmsOf ws)) : stdW (ws.map (renW g)) = stdW ws ↔ ∀ n ∈ openN ws, g n = n := by
  have tk' : ∀ n, n ∈ nmsOf ws → (g n ∈ (takesOf ws).map g ↔ n ∈ takesOf ws) := fun n hn => by
    constructor
    · intro h
      obtain ⟨m, hm, e⟩ := List.mem_map.mp h
      rw [← inj m (v.tkIn hm) n hn e]
      exact hm
    · exact fun h => List.mem_map.mpr ⟨n, h, rfl⟩
  have op' : openN (ws.map (renW g)) = (openN ws).map g := by
    unfold openN
    rw [nms_ren, tks_ren, List.filter_map]
    congr 1
    refine List.filter_congr fun n hn => ?_
    show decide (g n ∉ (takesOf ws).map g) = decide (n ∉ takesOf ws)
    rw [decide_eq_decide]
    exact not_congr (tk' n hn)
  rw [stdW_eq, stdW_eq, ren_comp]
  constructor
  · intro e n hn
    obtain ⟨h1, h2⟩ := mem_open.mp hn
    have e2 := (List.map_inj_left.mp e) (.nm n) (mem_nms.mp h1)
    have e3 : stdR (ws.map (renW g)) (g n) = stdR ws n := by simpa [renW] using e2
    rw [stdR_open h2, stdR_open (by rw [tks_ren]; exact fun h => h2 ((tk' n h1).mp h))] at e3
    exact e3
  · intro h
    have eo : openN (ws.map (renW g)) = openN ws := by
      rw [op']
      exact (List.map_congr_left h).trans (List.map_id _)
    have v0 : (takesOf (ws.map (renW g))).Nodup := by
      rw [tks_ren]
      exact nodup_map v.tksNd fun a ha b hb e => inj a (v.tkIn ha) b (v.tkIn hb) e
    refine ren_congr fun n hn => ?_
    have hn' : n ∈ nmsOf ws := hn.elim (fun h => mem_nms.mpr h) fun h => v.tkIn (mem_tks.mpr h)
    by_cases ht : n ∈ takesOf ws
    · obtain ⟨i, hi⟩ := List.mem_iff_getElem?.mp ht
      have a1 := stdR_take v hl hi
      have hlen : (freshN (takesOf ws).length (openN ws)).length = (takesOf ws).length := freshN_len (bound hl)
      have hi' := (List.getElem?_eq_some_iff.mp hi).1
      have e1 : (freshN (takesOf ws).length (openN ws))[i]? = some ((freshN (takesOf ws).length (openN ws))[i]'(by omega)) := List.getElem?_eq_getElem _
      have a2 : stdR (ws.map (renW g)) (g n) = (freshN (takesOf ws).length (openN ws))[i]'(by omega) := by
        unfold stdR re frOf
        rw [owned_one, List.length_map, tks_ren, List.length_map, eo]
        rw [tblF_zip (i := i) (nodup_map (by rw [← tks_ren]; exact v0) fun a _ b _ e => by cases e; rfl) (by rw [List.getElem?_map, List.getElem?_map, hi]; rfl) e1]
        rfl
      rw [a2]
      rw [e1] at a1
      exact (Option.some.inj a1).symm
    · rw [stdR_open ht, stdR_open (by rw [tks_ren]; exact fun h => ht ((tk' n hn').mp h))]
      exact h n (mem_open.mpr ⟨hn', ht⟩)
end Wd

set_option maxHeartbeats 1000000
/-! words whose names are told by who takes them: plain mathematics -/
namespace Wd
open PySem
inductive Im where
  | ap
  | op (n : Nm)
  | tk (o : Own)
  | nm (o : Own)
deriving DecidableEq
def takesI (is : List Im) : List Own := is.filterMap fun i => match i with | .tk o => some o | _ => none
def opensI (is : List Im) : List Nm := is.filterMap fun i => match i with | .op n => some n | _ => none
def rdO (ps : List (Own × Nm)) (o : Own) : Nm := re (tblF ps o.1) o.2
def outI (ps : List (Own × Nm)) : Im → W
  | .ap => .ap
  | .op n => .nm n
  | .tk o => .tk (rdO ps o)
  | .nm o => .nm (rdO ps o)
def frI (held : List Nm) (is : List Im) : List (Own × Nm) := (takesI is).zip (freshN (takesI is).length held)
def stdI (held : List Nm) (is : List Im) : List W := is.map (outI (frI held is))
def mkI (os : List Own) (o : Nat) : W → Im
  | .ap => .ap
  | .tk n => .tk (o, n)
  | .nm n => if (o, n) ∈ os then .nm (o, n) else .op n
def itemsP (ps : List (Nat × List W)) : List Im := ps.flatMap fun p => p.2.map (mkI (owned ps) p.1)
/-- one program's words, its names marked -/
def markI (o : Nat) (ws : List W) : List Im := ws.map (mkI (owned [(o, ws)]) o)
theorem owned_o (o : Nat) (ws : List W) : owned [(o, ws)] = (takesOf ws).map fun n => (o, n) := by simp [owned]
theorem mem_owned_o {o : Nat} {ws : List W} {n : Nm} : (o, n) ∈ owned [(o, ws)] ↔ n ∈ takesOf ws := by
  rw [owned_o]
  constructor
  · intro h
    obtain ⟨m, hm, e⟩ := List.mem_map.mp h
    cases e
    exact hm
  · exact fun h => List.mem_map.mpr ⟨n, h, rfl⟩
theorem takesI_app (is js : List Im) : takesI (is ++ js) = takesI is ++ takesI js := by simp [takesI]
theorem takesI_mk (os : List Own) (o : Nat) (ws : List W) : takesI (ws.map (mkI os o)) = (takesOf ws).map fun n => (o, n) := by
  induction ws with
  | nil => rfl
  | cons w ws ih =>
    cases w with
    | ap => simpa [takesI, mkI, takesOf] using ih
    | tk n => simpa [takesI, mkI, takesOf] using ih
    | nm n =>
      by_cases h : (o, n) ∈ os
      · simpa [takesI, mkI, takesOf, h] using ih
      · simpa [takesI, mkI, takesOf, h] using ih
theorem takesI_flat (os : List Own) (ps : List (Nat × List W)) : takesI (ps.flatMap fun p => p.2.map (mkI os p.1)) = owned ps := by
  induction ps with
  | nil => rfl
  | cons p ps ih =>
    rw [List.flatMap_cons, takesI_app, takesI_mk, ih]
    rfl
theorem takesI_items (ps : List (Nat × List W)) : takesI (itemsP ps) = owned ps := takesI_flat _ _
theorem takesI_mark (o : Nat) (ws : List W) : takesI (markI o ws) = (takesOf ws).map fun n => (o, n) := takesI_mk _ _ _
theorem told_std (ps : List (Nat × List W)) (held : List Nm) : toldW ps held = stdI held (itemsP ps) := by
  unfold stdI frI
  rw [takesI_items]
  unfold itemsP toldW frOf
  rw [List.map_flatMap]
  congr 1
  funext p
  rw [List.map_map]
  refine List.map_congr_left fun w _ => ?_
  cases w with
  | ap => rfl
  | tk n => rfl
  | nm n =>
    show W.nm _ = outI _ (if (p.1, n) ∈ owned ps then Im.nm (p.1, n) else .op n)
    by_cases h : (p.1, n) ∈ owned ps
    · rw [if_pos h]; rfl
    · rw [if_neg h]
      show W.nm (re _ n) = W.nm n
      unfold re
      rw [tblF_none h]
      rfl
theorem mem_takesI {is : List Im} {o : Own} : o ∈ takesI is ↔ Im.tk o ∈ is := by
  unfold takesI
  rw [List.mem_filterMap]
  constructor
  · rintro ⟨i, hi, e⟩
    cases i with
    | tk q => cases e; exact hi
    | ap => cases e
    | op n => cases e
    | nm q => cases e
  · exact fun h => ⟨_, h, rfl⟩
theorem mem_opensI {is : List Im} {n : Nm} : n ∈ opensI is ↔ Im.op n ∈ is := by
  unfold opensI
  rw [List.mem_filterMap]
  constructor
  · rintro ⟨i, hi, e⟩
    cases i with
    | op q => cases e; exact hi
    | ap => cases e
    | tk n => cases e
    | nm q => cases e
  · exact fun h => ⟨_, h, rfl⟩
/-- all that is said to be taken is taken, and once -/
structure Wl (is : List Im) : Prop where
  nd : (takesI is).Nodup
  all : ∀ o, Im.nm o ∈ is → o ∈ takesI is
/-! ### the first free names, whatever stands behind them -/
theorem freshN_big {n m : Nat} {held : List Nm} (hm : n + held.length ≤ m) (hb : m ≤ 217180147158) : freshN n held = (((List.range m).map lett).filter fun x => decide (x ∉ held)).take n := by
  obtain ⟨d, rfl⟩ : ∃ d, m = (n + held.length) + d := ⟨m - (n + held.length), by omega⟩
  have hl := freshN_len (n := n) (held := held) (by omega)
  unfold freshN at *
  have e : List.range (n + held.length + d) = List.range (n + held.length) ++ (List.range d).map fun x => n + held.length + x := List.range_add ..
  rw [e, List.map_append, List.filter_append]
  rw [List.length_take] at hl
  rw [List.take_append_of_le_length (by omega)]
theorem freshN_set {n : Nat} {held held' : List Nm} (h : ∀ k, lett k ∈ held ↔ lett k ∈ held') (b : n + held.length ≤ 217180147158) (b' : n + held'.length ≤ 217180147158) : freshN n held = freshN n held' := by
  have e1 := freshN_big (n := n) (m := max (n + held.length) (n + held'.length)) (held := held) (Nat.le_max_left _ _) (by omega)
  have e2 := freshN_big (n := n) (m := max (n + held.length) (n + held'.length)) (held := held') (Nat.le_max_right _ _) (by omega)
  rw [e1, e2]
  congr 1
  refine List.filter_congr fun x hx => ?_
  obtain ⟨k, _, rfl⟩ := List.mem_map.mp hx
  exact decide_eq_decide.mpr (not_congr (h k))
theorem stdI_held {is : List Im} {held held' : List Nm} (h : ∀ k, lett k ∈ held ↔ lett k ∈ held') (b : (takesI is).length + held.length ≤ 217180147158) (b' : (takesI is).length + held'.length ≤ 217180147158) : stdI held is = stdI held' is := by
  unfold stdI frI
  rw [freshN_set h b b']
/-! ### told by other marks -/
def relI (φ : Own → Own) : Im → Im
  | .ap => .ap
  | .op n => .op n
  | .tk o => .tk (φ o)
  | .nm o => .nm (φ o)
theorem takesI_rel (φ : Own → Own) (is : List Im) : takesI (is.map (relI φ)) = (takesI is).map φ := by
  induction is with
  | nil => rfl
  | cons i is ih => cases i <;> simpa [takesI, relI] using ih
def InjT (φ : Own → Own) (is : List Im) : Prop := ∀ a ∈ takesI is, ∀ b ∈ takesI is, φ a = φ b → a = b
theorem Wl.rel {is : List Im} (w : Wl is) {φ : Own → Own} (inj : InjT φ is) : Wl (is.map (relI φ)) := by
  refine ⟨by rw [takesI_rel]; exact nodup_map w.nd inj, fun o h => ?_⟩
  rw [takesI_rel]
  obtain ⟨i, hi, e⟩ := List.mem_map.mp h
  cases i with
  | nm q => cases e; exact List.mem_map.mpr ⟨q, w.all q hi, rfl⟩
  | ap => cases e
  | op n => cases e
  | tk q => cases e
theorem rdO_at {is : List Im} {held : List Nm} (nd : (takesI is).Nodup) (b : (takesI is).length + held.length ≤ 217180147158) {i : Nat} {o : Own} (h : (takesI is)[i]? = some o) : some (rdO (frI held is) o) = (freshN (takesI is).length held)[i]? := by
  have hlen : (freshN (takesI is).length held).length = (takesI is).length := freshN_len b
  have hi := (List.getElem?_eq_some_iff.mp h).1
  have e1 : (freshN (takesI is).length held)[i]? = some ((freshN (takesI is).length held)[i]'(by omega)) := List.getElem?_eq_getElem _
  rw [e1]
  unfold rdO re frI
  rw [tblF_zip nd (show (takesI is)[i]? = some (o.1, o.2) from h) e1]
  rfl
theorem std_rel {is : List Im} (w : Wl is) {φ : Own → Own} (inj : InjT φ is) {held : List Nm} (b : (takesI is).length + held.length ≤ 217180147158) : stdI held (is.map (relI φ)) = stdI held is := by
  unfold stdI
  rw [List.map_map]
  have key : ∀ o ∈ takesI is, rdO (frI held (is.map (relI φ))) (φ o) = rdO (frI held is) o := fun o ho => by
    obtain ⟨i, hi⟩ := List.mem_iff_getElem?.mp ho
    have a1 := rdO_at w.nd b hi
    have a2 := rdO_at (is := is.map (relI φ)) (held := held) (w.rel inj).nd (by rw [takesI_rel, List.length_map]; exact b) (i := i) (o := φ o) (by rw [takesI_rel, List.getElem?_map, hi]; rfl)
    rw [takesI_rel, List.length_map] at a2
    exact Option.some.inj (a2.trans a1.symm)
  refine List.map_congr_left fun i hi => ?_
  cases i with
  | ap => rfl
  | op n => rfl
  | tk o => exact congrArg W.tk (key o (mem_takesI.mpr hi))
  | nm o => exact congrArg W.nm (key o (w.all o hi))
/-- the new names: of those that are not held, each once -/
theorem rdO_fresh {is : List Im} {held : List Nm} (nd : (takesI is).Nodup) (b : (takesI is).length + held.length ≤ 217180147158) {o : Own} (h : o ∈ takesI is) : rdO (frI held is) o ∈ freshN (takesI is).length held := by
  obtain ⟨i, hi⟩ := List.mem_iff_getElem?.mp h
  exact List.mem_of_getElem? (rdO_at nd b hi).symm
theorem rdO_inj {is : List Im} {held : List Nm} (nd : (takesI is).Nodup) (b : (takesI is).length + held.length ≤ 217180147158) {o q : Own} (ho : o ∈ takesI is) (hq : q ∈ takesI is) (e : rdO (frI held is) o = rdO (frI held is) q) : o = q := by
  obtain ⟨i, hi⟩ := List.mem_iff_getElem?.mp ho
  obtain ⟨j, hj⟩ := List.mem_iff_getElem?.mp hq
  have a1 := (rdO_at (held := held) nd b hi).symm
  have a2 := (rdO_at (held := held) nd b hj).symm
  rw [e] at a1
  obtain ⟨l1, e1⟩ := List.getElem?_eq_some_iff.mp a1
  obtain ⟨l2, e2⟩ := List.getElem?_eq_some_iff.mp a2
  have := (List.getElem_inj (freshN_nodup b)).mp (e1.trans e2.symm)
  subst this
  rw [hi] at hj
  exact Option.some.inj hj
/-- what was told so, marked again -/
theorem mark_std {is : List Im} (w : Wl is) {held : List Nm} (b : (takesI is).length + held.length ≤ 217180147158) (ho : ∀ n ∈ opensI is, n ∈ held) (o' : Nat) :
    markI o' (stdI held is) = is.map (relI fun o => (o', rdO (frI held is) o)) := by
  unfold markI
  have tk : takesOf (stdI held is) = (takesI is).map (rdO (frI held is)) := by
    unfold stdI
    generalize frI held is = fr
    induction is with
    | nil => rfl
    | cons i is ih =>
      clear ih
      show takesOf ((i :: is).map (outI fr)) = _
      have : ∀ js : List Im, takesOf (js.map (outI fr)) = (takesI js).map (rdO fr) := fun js => by
        induction js with
        | nil => rfl
        | cons j js ih => cases j <;> simpa [takesOf, takesI, outI] using ih
      exact this _
  have mem : ∀ n, (o', n) ∈ owned [(o', stdI held is)] ↔ ∃ o ∈ takesI is, rdO (frI held is) o = n := fun n => by
    rw [mem_owned_o, tk, List.mem_map]
  generalize hos : owned [(o', stdI held is)] = os at *
  unfold stdI
  rw [List.map_map]
  refine List.map_congr_left fun i hi => ?_
  cases i with
  | ap => rfl
  | op n =>
    show (if (o', n) ∈ os then _ else _) = _
    rw [if_neg]
    · rfl
    · intro h
      obtain ⟨o, h1, h2⟩ := (mem n).mp h
      have := rdO_fresh w.nd b h1
      rw [h2] at this
      exact (freshN_mem this).1 (ho n (mem_opensI.mpr hi))
  | tk o => rfl
  | nm o =>
    show (if (o', rdO (frI held is) o) ∈ os then _ else _) = _
    rw [if_pos ((mem _).mpr ⟨o, w.all o hi, rfl⟩)]
    rfl
theorem markI_wl {ws : List W} (v : Vd ws) (o : Nat) : Wl (markI o ws) := by
  refine ⟨by rw [takesI_mark]; exact nodup_map v.tksNd fun a _ b _ e => by cases e; rfl, fun q h => ?_⟩
  rw [takesI_mark]
  obtain ⟨u, hu, e⟩ := List.mem_map.mp h
  cases u with
  | ap => cases e
  | tk n => cases e
  | nm n =>
    have e' : (if (o, n) ∈ owned [(o, ws)] then Im.nm (o, n) else .op n) = Im.nm q := e
    by_cases h2 : (o, n) ∈ owned [(o, ws)]
    · rw [if_pos h2] at e'
      cases e'
      exact List.mem_map.mpr ⟨n, mem_owned_o.mp h2, rfl⟩
    · rw [if_neg h2] at e'
      cases e'
theorem opens_mark (ws : List W) (o : Nat) : opensI (markI o ws) = openN ws := by
  unfold markI openN
  have : ∀ us : List W, opensI (us.map (mkI (owned [(o, ws)]) o)) = (nmsOf us).filter fun n => decide (n ∉ takesOf ws) := fun us => by
    induction us with
    | nil => rfl
    | cons u us ih =>
      cases u with
      | ap => simpa [opensI, mkI, nmsOf] using ih
      | tk n => simpa [opensI, mkI, nmsOf] using ih
      | nm n =>
        by_cases h : (o, n) ∈ owned [(o, ws)]
        · have h2 := mem_owned_o.mp h
          simpa [opensI, mkI, nmsOf, h, h2] using ih
        · have h2 : n ∉ takesOf ws := fun q => h (mem_owned_o.mpr q)
          simpa [opensI, mkI, nmsOf, h, h2] using ih
  exact this ws
theorem std_items (ws : List W) : stdW ws = stdI (openN ws) (markI 0 ws) := by
  unfold stdW
  rw [told_std]
  unfold itemsP markI
  simp
/-! ### one in the place of an open name -/
def subI (x : Nm) (is js : List Im) : List Im := is.flatMap fun i => if i = .op x then js else [i]
theorem subI_rel (x : Nm) (φ : Own → Own) (is js : List Im) : (subI x is js).map (relI φ) = subI x (is.map (relI φ)) (js.map (relI φ)) := by
  unfold subI
  rw [List.map_flatMap, List.flatMap_map]
  congr 1
  funext i
  by_cases h : i = .op x
  · subst h
    simp [relI]
  · rw [if_neg h, if_neg]
    · rfl
    · intro e
      cases i <;> simp_all [relI]
theorem subI_none {x : Nm} {is js : List Im} (h : x ∉ opensI is) : subI x is js = is := by
  unfold subI
  induction is with
  | nil => rfl
  | cons i is ih =>
    rw [List.flatMap_cons, if_neg (fun e => h (mem_opensI.mpr (by rw [e]; exact List.mem_cons_self ..))), ih (fun q => h (mem_opensI.mpr (List.mem_cons_of_mem _ (mem_opensI.mp q))))]
    rfl
theorem subI_app (x : Nm) (is js ks : List Im) : subI x (is ++ js) ks = subI x is ks ++ subI x js ks := by simp [subI]
/-- in either order -/
theorem subI_comm {x y : Nm} (hxy : x ≠ y) {is as bs : List Im} (ha : y ∉ opensI as) (hb : x ∉ opensI bs) : subI y (subI x is as) bs = subI x (subI y is bs) as := by
  induction is with
  | nil => rfl
  | cons i is ih =>
    have e1 : ∀ z ks, subI z (i :: is) ks = subI z [i] ks ++ subI z is ks := fun z ks => subI_app z [i] is ks
    rw [e1, e1, subI_app, subI_app, ih]
    congr 1
    by_cases h1 : i = .op x
    · subst h1
      have a1 : subI x [.op x] as = as := by simp [subI]
      have a2 : subI y [.op x] bs = [.op x] := by simp [subI, hxy]
      rw [a1, a2, a1, subI_none ha]
    · by_cases h2 : i = .op y
      · subst h2
        have a1 : subI y [.op y] bs = bs := by simp [subI]
        have a2 : subI x [.op y] as = [.op y] := by simp [subI, Ne.symm hxy]
        rw [a1, a2, a1, subI_none hb]
      · have a1 : subI x [i] as = [i] := by simp [subI, h1]
        have a2 : subI y [i] bs = [i] := by simp [subI, h2]
        rw [a1, a2, a1]
/-- ahead or behind -/
theorem subI_assoc {y z : Nm} {is bs cs : List Im} (h : z ∉ opensI is) : subI z (subI y is bs) cs = subI y is (subI z bs cs) := by
  induction is with
  | nil => rfl
  | cons i is ih =>
    have e1 : ∀ z ks, subI z (i :: is) ks = subI z [i] ks ++ subI z is ks := fun z ks => subI_app z [i] is ks
    have h1 : i ≠ .op z := fun e => h (mem_opensI.mpr (by rw [e]; exact List.mem_cons_self ..))
    rw [e1, e1, subI_app, ih (fun q => h (mem_opensI.mpr (List.mem_cons_of_mem _ (mem_opensI.mp q))))]
    congr 1
    by_cases h2 : i = .op y
    · subst h2
      have a1 : ∀ ks, subI y [.op y] ks = ks := fun ks => by simp [subI]
      rw [a1, a1]
    · have a1 : ∀ ks, subI y [i] ks = [i] := fun ks => by simp [subI, h2]
      rw [a1, a1]
      simp [subI, h1]
end Wd

set_option maxHeartbeats 1000000
/-! trees of marked words: plain mathematics -/
namespace Wd
open PySem
inductive TI where
  | op (n : Nm)
  | nm (o : Own)
  | ap (f a : TI)
  | tk (o : Own) (b : TI)
namespace TI
def is : TI → List Im
  | .op n => [.op n]
  | .nm o => [.nm o]
  | .ap f a => .ap :: (f.is ++ a.is)
  | .tk o b => .tk o :: b.is
def lv : TI → List (Nm ⊕ Own)
  | .op n => [.inl n]
  | .nm o => [.inr o]
  | .ap f a => f.lv ++ a.lv
  | .tk _ b => b.lv
def sc : TI → Prop
  | .op _ => True
  | .nm _ => True
  | .ap f a => f.sc ∧ a.sc
  | .tk o b => Sum.inr o ∈ b.lv ∧ b.sc
theorem mem_op : ∀ (t : TI) (n : Nm), Im.op n ∈ t.is ↔ Sum.inl n ∈ t.lv
  | .op m, n => by simp [is, lv]
  | .nm o, n => by simp [is, lv]
  | .ap f a, n => by simp [is, lv, mem_op f n, mem_op a n]
  | .tk o b, n => by simp [is, lv, mem_op b n]
theorem mem_nm : ∀ (t : TI) (o : Own), Im.nm o ∈ t.is ↔ Sum.inr o ∈ t.lv
  | .op m, n => by simp [is, lv]
  | .nm o, n => by simp [is, lv]
  | .ap f a, n => by simp [is, lv, mem_nm f n, mem_nm a n]
  | .tk o b, n => by simp [is, lv, mem_nm b n]
theorem opens_lv : ∀ t : TI, opensI t.is = t.lv.filterMap fun l => match l with | .inl n => some n | .inr _ => none
  | .op m => rfl
  | .nm o => rfl
  | .ap f a => by
    have h1 := opens_lv f
    have h2 := opens_lv a
    unfold opensI at *
    simp [is, lv, h1, h2]
  | .tk o b => by
    have h1 := opens_lv b
    unfold opensI at *
    simp [is, lv, h1]
/-- told -/
def out (g : Own → Nm) : TI → T
  | .op n => .nm n
  | .nm o => .nm (g o)
  | .ap f a => .ap (f.out g) (a.out g)
  | .tk o b => .tk (g o) (b.out g)
def outL (g : Own → Nm) : Nm ⊕ Own → Nm
  | .inl n => n
  | .inr o => g o
theorem out_ws (ps : List (Own × Nm)) : ∀ t : TI, (t.out (rdO ps)).ws = t.is.map (outI ps)
  | .op n => rfl
  | .nm o => rfl
  | .ap f a => by simp [out, T.ws, is, outI, out_ws ps f, out_ws ps a]
  | .tk o b => by simp [out, T.ws, is, outI, out_ws ps b]
theorem out_lv (g : Own → Nm) : ∀ t : TI, (t.out g).lv = t.lv.map (outL g)
  | .op n => rfl
  | .nm o => rfl
  | .ap f a => by simp [out, T.lv, lv, out_lv g f, out_lv g a]
  | .tk o b => by simp [out, T.lv, lv, out_lv g b]
theorem out_tks (g : Own → Nm) : ∀ t : TI, (t.out g).tks = (takesI t.is).map g
  | .op n => rfl
  | .nm o => rfl
  | .ap f a => by
    have h1 := out_tks g f
    have h2 := out_tks g a
    simp only [out, T.tks, is, h1, h2]
    simp [takesI]
  | .tk o b => by
    have h1 := out_tks g b
    simp only [out, T.tks, is, h1]
    simp [takesI]
theorem out_sc (g : Own → Nm) : ∀ t : TI, t.sc → (t.out g).sc
  | .op n, _ => trivial
  | .nm o, _ => trivial
  | .ap f a, h => ⟨out_sc g f h.1, out_sc g a h.2⟩
  | .tk o b, h => ⟨by rw [out_lv]; exact List.mem_map.mpr ⟨_, h.1, rfl⟩, out_sc g b h.2⟩
/-- one in the place of an open name -/
def sub (x : Nm) (s : TI) : TI → TI
  | .op n => if n = x then s else .op n
  | .nm o => .nm o
  | .ap f a => .ap (sub x s f) (sub x s a)
  | .tk o b => .tk o (sub x s b)
theorem sub_is (x : Nm) (s : TI) : ∀ t : TI, (sub x s t).is = subI x t.is s.is
  | .op n => by
    by_cases h : n = x
    · subst h; simp [sub, subI, is]
    · simp [sub, subI, is, h]
  | .nm o => by simp [sub, subI, is]
  | .ap f a => by
    have h1 := sub_is x s f
    have h2 := sub_is x s a
    show Im.ap :: _ = subI x (Im.ap :: (f.is ++ a.is)) s.is
    rw [h1, h2, ← subI_app]
    simp [subI]
  | .tk o b => by
    have h1 := sub_is x s b
    show Im.tk o :: _ = subI x (Im.tk o :: b.is) s.is
    rw [h1]
    simp [subI]
theorem sub_lv (x : Nm) (s : TI) : ∀ t : TI, (sub x s t).lv = t.lv.flatMap fun l => if l = .inl x then s.lv else [l]
  | .op n => by
    by_cases h : n = x
    · subst h; simp [sub, lv]
    · simp [sub, lv, h]
  | .nm o => by simp [sub, lv]
  | .ap f a => by simp [sub, lv, sub_lv x s f, sub_lv x s a]
  | .tk o b => by simp [sub, lv, sub_lv x s b]
theorem sub_sc (x : Nm) {s : TI} (hs : s.sc) : ∀ t : TI, t.sc → (sub x s t).sc
  | .op n, _ => by
    unfold sub
    by_cases h : n = x
    · rw [if_pos h]; exact hs
    · rw [if_neg h]; trivial
  | .nm o, _ => trivial
  | .ap f a, h => ⟨sub_sc x hs f h.1, sub_sc x hs a h.2⟩
  | .tk o b, h => ⟨by rw [sub_lv]; exact List.mem_flatMap.mpr ⟨_, h.1, by simp⟩, sub_sc x hs b h.2⟩
end TI
/-- a program, its names marked -/
structure Good (is : List Im) : Prop extends Wl is where
  ex : ∃ t : TI, is = t.is ∧ t.sc ∧ t.lv.Nodup
theorem Good.opNd {is : List Im} (g : Good is) : (opensI is).Nodup := by
  obtain ⟨t, rfl, sc, nd⟩ := g.ex
  rw [TI.opens_lv]
  refine List.Pairwise.filterMap _ (fun a b hne c h1 d h2 e => ?_) nd
  cases a <;> cases b <;> simp_all
theorem Good.std {is : List Im} (g : Good is) {held : List Nm} (b : (takesI is).length + held.length ≤ 217180147158) (ho : ∀ n ∈ opensI is, n ∈ held) (ok : ∀ n ∈ opensI is, nmOk n) : Vd (stdI held is) := by
  obtain ⟨t, e, sc, nd⟩ := g.ex
  have okT : ∀ o ∈ takesI is, nmOk (rdO (frI held is) o) := fun o h => freshN_ok b (rdO_fresh g.nd b h)
  refine ⟨⟨t.out (rdO (frI held is)), ?_, TI.out_sc _ t sc, ?_, ?_⟩, fun w hw => ?_⟩
  · rw [TI.out_ws, ← e]; rfl
  · rw [TI.out_lv]
    refine nodup_map nd fun l hl k hk q => ?_
    have mo : ∀ n, Sum.inl n ∈ t.lv → n ∈ held := fun n h => ho n (mem_opensI.mpr (by rw [e]; exact (TI.mem_op t n).mpr h))
    have mt : ∀ o, Sum.inr o ∈ t.lv → o ∈ takesI is := fun o h => g.all o (by rw [e]; exact (TI.mem_nm t o).mpr h)
    cases l with
    | inl n =>
      cases k with
      | inl m => exact congrArg Sum.inl q
      | inr o =>
        have q' : n = rdO (frI held is) o := q
        exact absurd (q' ▸ mo n hl) (freshN_mem (rdO_fresh g.nd b (mt o hk))).1
    | inr o =>
      cases k with
      | inl m =>
        have q' : rdO (frI held is) o = m := q
        exact absurd (q'.symm ▸ mo m hk) (freshN_mem (rdO_fresh g.nd b (mt o hl))).1
      | inr p => exact congrArg Sum.inr (rdO_inj g.nd b (mt o hl) (mt p hk) q)
  · rw [TI.out_tks, ← e]
    exact nodup_map g.nd fun a ha c hc q => rdO_inj g.nd b ha hc q
  · unfold stdI at hw
    obtain ⟨i, hi, rfl⟩ := List.mem_map.mp hw
    cases i with
    | ap => trivial
    | op n => exact ok n (mem_opensI.mpr hi)
    | tk o => exact okT o (mem_takesI.mpr hi)
    | nm o => exact okT o (g.all o hi)
/-- a program's words -/
def T.mk (os : List Own) (o : Nat) : T → TI
  | .nm n => if (o, n) ∈ os then .nm (o, n) else .op n
  | .ap f a => .ap (f.mk os o) (a.mk os o)
  | .tk n b => .tk (o, n) (b.mk os o)
theorem T.mk_is (os : List Own) (o : Nat) : ∀ t : T, (t.mk os o).is = t.ws.map (mkI os o)
  | .nm n => by
    by_cases h : (o, n) ∈ os <;> simp [T.mk, T.ws, mkI, h, TI.is]
  | .ap f a => by simp [T.mk, T.ws, mkI, TI.is, T.mk_is os o f, T.mk_is os o a]
  | .tk n b => by simp [T.mk, T.ws, mkI, TI.is, T.mk_is os o b]
theorem T.mk_lv (os : List Own) (o : Nat) : ∀ t : T, (t.mk os o).lv = t.lv.map fun n => if (o, n) ∈ os then Sum.inr (o, n) else Sum.inl n
  | .nm n => by
    by_cases h : (o, n) ∈ os <;> simp [T.mk, T.lv, h, TI.lv]
  | .ap f a => by simp [T.mk, T.lv, TI.lv, T.mk_lv os o f, T.mk_lv os o a]
  | .tk n b => by simp [T.mk, T.lv, TI.lv, T.mk_lv os o b]
theorem T.mk_sc (os : List Own) (o : Nat) : ∀ t : T, t.sc → (∀ n ∈ t.tks, (o, n) ∈ os) → (t.mk os o).sc
  | .nm n, _, _ => by
    unfold T.mk
    split <;> trivial
  | .ap f a, h, k => ⟨T.mk_sc os o f h.1 fun n hn => k n (List.mem_append_left _ hn), T.mk_sc os o a h.2 fun n hn => k n (List.mem_append_right _ hn)⟩
  | .tk n b, h, k => by
    refine ⟨?_, T.mk_sc os o b h.2 fun m hm => k m (List.mem_cons_of_mem _ hm)⟩
    rw [T.mk_lv]
    exact List.mem_map.mpr ⟨n, h.1, by rw [if_pos (k n (List.mem_cons_self ..))]⟩
theorem Vd.good {ws : List W} (v : Vd ws) (o : Nat) : Good (markI o ws) := by
  have wl := markI_wl v o
  obtain ⟨⟨t, rfl, s, nl, nt⟩, ok⟩ := v
  refine ⟨wl, t.mk _ o, (T.mk_is _ o t).symm, T.mk_sc _ o t s fun n hn => mem_owned_o.mpr (by rw [takesOf_tree]; exact hn), ?_⟩
  rw [T.mk_lv]
  refine nodup_map nl fun a _ b _ e => ?_
  by_cases h1 : (o, a) ∈ owned [(o, t.ws)]
  · by_cases h2 : (o, b) ∈ owned [(o, t.ws)]
    · rw [if_pos h1, if_pos h2] at e
      cases e
      rfl
    · rw [if_pos h1, if_neg h2] at e
      cases e
  · by_cases h2 : (o, b) ∈ owned [(o, t.ws)]
    · rw [if_neg h1, if_pos h2] at e
      cases e
    · rw [if_neg h1, if_neg h2] at e
      cases e
      rfl
/-- no mark and no open name is common -/
structure Apart (is js : List Im) : Prop where
  tk : ∀ o ∈ takesI is, o ∉ takesI js
  op : ∀ n ∈ opensI is, n ∉ opensI js
theorem Good.lvApart {is js : List Im} (g : Good is) (h : Good js) (a : Apart is js) {t s : TI} (e1 : is = t.is) (e2 : js = s.is) : ∀ l ∈ t.lv, l ∉ s.lv := by
  intro l hl hs
  cases l with
  | inl n => exact a.op n (mem_opensI.mpr (by rw [e1]; exact (TI.mem_op t n).mpr hl)) (mem_opensI.mpr (by rw [e2]; exact (TI.mem_op s n).mpr hs))
  | inr o => exact a.tk o (g.all o (by rw [e1]; exact (TI.mem_nm t o).mpr hl)) (h.all o (by rw [e2]; exact (TI.mem_nm s o).mpr hs))
theorem Good.ap {is js : List Im} (g : Good is) (h : Good js) (a : Apart is js) : Good (.ap :: (is ++ js)) := by
  have tk : takesI (.ap :: (is ++ js)) = takesI is ++ takesI js := by
    rw [← takesI_app]; rfl
  refine ⟨⟨?_, fun o ho => ?_⟩, ?_⟩
  · rw [tk]
    exact List.nodup_append.mpr ⟨g.nd, h.nd, fun p hp q hq e => a.tk p hp (e ▸ hq)⟩
  · rw [tk]
    rcases List.mem_append.mp ((List.mem_cons.mp ho).resolve_left (by simp)) with q | q
    · exact List.mem_append_left _ (g.all o q)
    · exact List.mem_append_right _ (h.all o q)
  · obtain ⟨t, e1, s1, n1⟩ := g.ex
    obtain ⟨s, e2, s2, n2⟩ := h.ex
    refine ⟨.ap t s, by rw [e1, e2]; rfl, ⟨s1, s2⟩, List.nodup_append.mpr ⟨n1, n2, fun p hp q hq e => ?_⟩⟩
    exact g.lvApart h a e1 e2 p hp (e ▸ hq)
theorem subI_split {x : Nm} {is js : List Im} (nd : (opensI is).Nodup) (hx : x ∈ opensI is) : ∃ a b, is = a ++ Im.op x :: b ∧ x ∉ opensI a ∧ x ∉ opensI b ∧ subI x is js = a ++ js ++ b := by
  obtain ⟨a, b, rfl⟩ := List.append_of_mem (mem_opensI.mp hx)
  have e : opensI (a ++ Im.op x :: b) = opensI a ++ x :: opensI b := by simp [opensI]
  rw [e] at nd
  have nd2 := List.nodup_append.mp nd
  have xa : x ∉ opensI a := fun h => nd2.2.2 x h x (List.mem_cons_self ..) rfl
  have xb : x ∉ opensI b := (List.nodup_cons.mp nd2.2.1).1
  refine ⟨a, b, rfl, xa, xb, ?_⟩
  have e2 : subI x (Im.op x :: b) js = js ++ subI x b js := by simp [subI]
  rw [subI_app, subI_none xa, e2, subI_none xb, List.append_assoc]
theorem takes_sub {x : Nm} {is js : List Im} (nd : (opensI is).Nodup) (hx : x ∈ opensI is) : (takesI (subI x is js)).Perm (takesI is ++ takesI js) := by
  obtain ⟨a, b, rfl, _, _, e⟩ := subI_split (js := js) nd hx
  rw [e, takesI_app, takesI_app]
  have e2 : takesI (a ++ Im.op x :: b) = takesI a ++ takesI b := by simp [takesI]
  rw [e2, List.append_assoc, List.append_assoc]
  exact List.Perm.append_left _ List.perm_append_comm
theorem opens_sub {x : Nm} {is js : List Im} {n : Nm} (hx : x ∈ opensI is) : n ∈ opensI (subI x is js) ↔ (n ∈ opensI is ∧ n ≠ x) ∨ n ∈ opensI js := by
  rw [mem_opensI, mem_opensI, mem_opensI]
  unfold subI
  rw [List.mem_flatMap]
  constructor
  · rintro ⟨i, hi, h⟩
    by_cases e : i = .op x
    · rw [if_pos e] at h
      exact .inr h
    · rw [if_neg e] at h
      have : Im.op n = i := by simpa using h
      subst this
      exact .inl ⟨hi, fun q => e (by rw [q])⟩
  · rintro (⟨h, e⟩ | h)
    · exact ⟨_, h, by simp [e]⟩
    · exact ⟨.op x, mem_opensI.mp hx, by simpa using h⟩
theorem Good.sub {x : Nm} {is js : List Im} (g : Good is) (h : Good js) (hx : x ∈ opensI is) (tk : ∀ o ∈ takesI is, o ∉ takesI js) (op : ∀ n ∈ opensI is, n ≠ x → n ∉ opensI js) : Good (subI x is js) := by
  have pm := takes_sub (js := js) g.opNd hx
  refine ⟨⟨?_, fun o ho => ?_⟩, ?_⟩
  · exact pm.nodup_iff.mpr (List.nodup_append.mpr ⟨g.nd, h.nd, fun p hp q hq e => tk p hp (e ▸ hq)⟩)
  · refine pm.mem_iff.mpr ?_
    unfold subI at ho
    obtain ⟨i, hi, e⟩ := List.mem_flatMap.mp ho
    by_cases q : i = .op x
    · rw [if_pos q] at e
      exact List.mem_append_right _ (h.all o e)
    · rw [if_neg q] at e
      have : Im.nm o = i := by simpa using e
      subst this
      exact List.mem_append_left _ (g.all o hi)
  · obtain ⟨t, e1, s1, n1⟩ := g.ex
    obtain ⟨s, e2, s2, n2⟩ := h.ex
    refine ⟨TI.sub x s t, by rw [TI.sub_is, e1, e2], TI.sub_sc x s2 t s1, ?_⟩
    rw [TI.sub_lv]
    have dis : ∀ l ∈ t.lv, l ≠ .inl x → l ∉ s.lv := fun l hl ne hs => by
      cases l with
      | inl n => exact op n (mem_opensI.mpr (by rw [e1]; exact (TI.mem_op t n).mpr hl)) (fun q => ne (by rw [q])) (mem_opensI.mpr (by rw [e2]; exact (TI.mem_op s n).mpr hs))
      | inr o => exact tk o (g.all o (by rw [e1]; exact (TI.mem_nm t o).mpr hl)) (h.all o (by rw [e2]; exact (TI.mem_nm s o).mpr hs))
    generalize t.lv = L at n1 dis
    clear pm e1 s1
    induction L with
    | nil => exact List.nodup_nil
    | cons l L ih =>
      have nd := List.nodup_cons.mp n1
      rw [List.flatMap_cons]
      refine List.nodup_append.mpr ⟨?_, ih nd.2 fun k hk => dis k (List.mem_cons_of_mem _ hk), fun p hp q hq e => ?_⟩
      · by_cases c : l = .inl x
        · rw [if_pos c]; exact n2
        · rw [if_neg c]; simp
      · subst e
        obtain ⟨k, hk, e⟩ := List.mem_flatMap.mp hq
        by_cases c : l = .inl x
        · rw [if_pos c] at hp
          have ck : k ≠ .inl x := fun z => nd.1 (by rw [c, ← z]; exact hk)
          rw [if_neg ck] at e
          have : p = k := by simpa using e
          subst this
          exact dis p (List.mem_cons_of_mem _ hk) ck hp
        · rw [if_neg c] at hp
          have : p = l := by simpa using hp
          subst this
          by_cases ck : k = .inl x
          · rw [if_pos ck] at e
            exact dis p (List.mem_cons_self ..) c e
          · rw [if_neg ck] at e
            have : p = k := by simpa using e
            subst this
            exact nd.1 hk
end Wd

set_option maxHeartbeats 1000000
/-! the row of free names, one behind another; shapes: plain mathematics -/
namespace Wd
open PySem
def cnt (B : List Nm) (p : Nat) : List Nm := ((List.range p).map lett).filter fun x => decide (x ∉ B)
theorem cnt_in {B : List Nm} {p : Nat} (h : lett p ∈ B) : cnt B (p + 1) = cnt B p := by
  unfold cnt
  rw [List.range_succ, List.map_append, List.filter_append]
  simp [h]
theorem cnt_out {B : List Nm} {p : Nat} (h : lett p ∉ B) : cnt B (p + 1) = cnt B p ++ [lett p] := by
  unfold cnt
  rw [List.range_succ, List.map_append, List.filter_append]
  simp [h]
theorem cnt_len {B : List Nm} {p : Nat} (hp : p ≤ 217180147158) : p ≤ (cnt B p).length + B.length := by
  have nd := row_nodup hp
  have s := filter_split (fun x => decide (x ∉ B)) ((List.range p).map lett)
  have l1 : (((List.range p).map lett).filter fun x => !decide (x ∉ B)).length ≤ B.length := by
    refine nodup_len (nd.sublist List.filter_sublist) fun x hx => ?_
    have := (List.mem_filter.mp hx).2
    simpa using this
  rw [List.length_map, List.length_range] at s
  unfold cnt
  omega
theorem cnt_fresh {B : List Nm} {p T : Nat} (h : (cnt B p).length = T) (hp : p ≤ 217180147158) (hT : T + B.length ≤ 217180147158) : cnt B p = freshN T B := by
  obtain ⟨d, hd⟩ : ∃ d, max p (T + B.length) = p + d := ⟨max p (T + B.length) - p, by omega⟩
  rw [freshN_big (m := max p (T + B.length)) (Nat.le_max_right _ _) (by omega), hd]
  have e : List.range (p + d) = List.range p ++ (List.range d).map fun x => p + x := List.range_add ..
  rw [e, List.map_append, List.filter_append]
  show cnt B p = List.take T (cnt B p ++ _)
  rw [List.take_append_of_le_length (by omega), List.take_of_length_le (by omega)]
def barN (is : List Im) : List Nm := is.filterMap fun i => match i with | .ap => some [64] | .op n => some n | _ => none
theorem barN_len (is : List Im) : (barN is).length ≤ is.length := List.length_filterMap_le _ _
theorem takesI_len (is : List Im) : (takesI is).length ≤ is.length := List.length_filterMap_le _ _
theorem opensI_len (is : List Im) : (opensI is).length ≤ is.length := List.length_filterMap_le _ _
theorem lett_ge (k : Nat) : ∀ c ∈ lett k, 97 ≤ c := fun c hc => ((LI.itr (k + 1) 9).c c hc).1
theorem lett_ne {k : Nat} : lett k ≠ [64] := fun h => by
  have h1 := lett_ge k
  rw [h] at h1
  have := h1 64 (by simp)
  omega
theorem mem_bar' {is : List Im} {x : Nm} (hx : x ≠ [64]) : x ∈ barN is ↔ x ∈ opensI is := by
  unfold barN
  rw [List.mem_filterMap, mem_opensI]
  constructor
  · rintro ⟨i, hi, e⟩
    cases i with
    | ap => exact absurd (Option.some.inj e).symm hx
    | op n => cases e; exact hi
    | tk o => cases e
    | nm o => cases e
  · exact fun h => ⟨_, h, rfl⟩
theorem mem_barN {is : List Im} {k : Nat} : lett k ∈ barN is ↔ lett k ∈ opensI is := mem_bar' lett_ne
theorem std_bar {is : List Im} (hl : is.length ≤ 100000000000) : stdI (barN is) is = stdI (opensI is) is :=
  stdI_held (fun k => mem_barN) (by have := barN_len is; have := takesI_len is; omega) (by have := opensI_len is; have := takesI_len is; omega)
end Wd

set_option maxHeartbeats 1000000
/-! shapes of marked words: plain mathematics -/
namespace Wd
open PySem
inductive Sh where
  | wd (n : Nm)
  | pl (j : Nat)
deriving DecidableEq
def ShI (is : List Im) (s : Sh) : Im → Prop
  | .ap => s = .wd [64]
  | .op n => s = .wd n
  | .tk _ => s = .wd [47]
  | .nm o => ∃ j, is[j]? = some (.tk o) ∧ s = .pl j
structure ShV (ss : List Sh) (is : List Im) : Prop where
  len : ss.length = is.length
  at_ : ∀ (i : Nat) x, is[i]? = some x → ∃ s, ss[i]? = some s ∧ ShI is s x
theorem take_place {is : List Im} (nd : (takesI is).Nodup) {o : Own} : ∀ {i j : Nat}, is[i]? = some (.tk o) → is[j]? = some (.tk o) → i = j := by
  induction is with
  | nil => intro i j h; simp at h
  | cons x is ih =>
    intro i j hi hj
    have e : takesI (x :: is) = takesI [x] ++ takesI is := takesI_app [x] is
    rw [e] at nd
    have nd2 := List.nodup_append.mp nd
    cases i with
    | zero =>
      cases j with
      | zero => rfl
      | succ j =>
        have hx : x = .tk o := Option.some.inj hi
        subst hx
        exact absurd rfl (nd2.2.2 o (List.mem_singleton.mpr rfl) o (mem_takesI.mpr (List.mem_of_getElem? hj)))
    | succ i =>
      cases j with
      | zero =>
        have hx : x = .tk o := Option.some.inj hj
        subst hx
        exact absurd rfl (nd2.2.2 o (List.mem_singleton.mpr rfl) o (mem_takesI.mpr (List.mem_of_getElem? hi)))
      | succ j => rw [ih nd2.2.1 (i := i) (j := j) hi hj]
theorem opensI_rel (φ : Own → Own) (is : List Im) : opensI (is.map (relI φ)) = opensI is := by
  induction is with
  | nil => rfl
  | cons i is ih => cases i <;> simpa [opensI, relI] using ih
theorem shape_std {ss : List Sh} {is js : List Im} (hs : ShV ss is) (ht : ShV ss js) (wi : Wl is) (wj : Wl js) (oi : ∀ n ∈ opensI is, nmOk n) (oj : ∀ n ∈ opensI js, nmOk n) (b : is.length ≤ 100000000000) : stdI (opensI js) js = stdI (opensI is) is := by
  have lt : ∀ {n : Nm}, nmOk n → n ≠ [64] ∧ n ≠ [47] := fun {n} h => ⟨fun e => by have := h.2.2 64 (by rw [e]; simp); omega, fun e => by have := h.2.2 47 (by rw [e]; simp); omega⟩
  let φ : Own → Own := fun o => match js[is.idxOf (.tk o)]? with
    | some (.tk p) => p
    | _ => o
  have hφ : ∀ {j : Nat} {o p : Own}, is[j]? = some (Im.tk o) → js[j]? = some (Im.tk p) → φ o = p := fun {j o p} h1 h2 => by
    have hm : Im.tk o ∈ is := List.mem_of_getElem? h1
    have hi : is[is.idxOf (Im.tk o)]? = some (Im.tk o) := by
      have l : is.idxOf (Im.tk o) < is.length := List.idxOf_lt_length_of_mem hm
      rw [List.getElem?_eq_getElem l, List.getElem_idxOf]
    have e := take_place wi.nd hi h1
    show (match js[is.idxOf (.tk o)]? with | some (.tk p) => p | _ => o) = p
    rw [e, h2]
  have tkj : ∀ {j : Nat} {o : Own}, is[j]? = some (Im.tk o) → ∃ p, js[j]? = some (Im.tk p) := fun {j o} h => by
    have hl : j < js.length := by rw [← ht.len, hs.len]; exact (List.getElem?_eq_some_iff.mp h).1
    obtain ⟨y, hy⟩ : ∃ y, js[j]? = some y := ⟨js[j], List.getElem?_eq_getElem hl⟩
    obtain ⟨s, e1, e2⟩ := hs.at_ j _ h
    obtain ⟨s', f1, f2⟩ := ht.at_ j _ hy
    rw [e1] at f1
    cases f1
    have e2' : s = .wd [47] := e2
    subst e2'
    cases y with
    | ap => have f : Sh.wd [47] = .wd [64] := f2; cases f
    | op n => have f : Sh.wd [47] = .wd n := f2; cases f; exact absurd rfl (lt (oj _ (mem_opensI.mpr (List.mem_of_getElem? hy)))).2
    | tk p => exact ⟨p, hy⟩
    | nm p => obtain ⟨k, _, f⟩ := f2; cases f
  have ej : js = is.map (relI φ) := by
    apply List.ext_getElem?
    intro j
    rw [List.getElem?_map]
    by_cases hl : j < is.length
    · have hl2 : j < js.length := by rw [← ht.len, hs.len]; exact hl
      obtain ⟨x, hx⟩ : ∃ x, is[j]? = some x := ⟨is[j], List.getElem?_eq_getElem hl⟩
      obtain ⟨y, hy⟩ : ∃ y, js[j]? = some y := ⟨js[j], List.getElem?_eq_getElem hl2⟩
      rw [hx, hy]
      show some y = some (relI φ x)
      obtain ⟨s, e1, e2⟩ := hs.at_ j _ hx
      obtain ⟨s', f1, f2⟩ := ht.at_ j _ hy
      rw [e1] at f1
      cases f1
      refine congrArg some ?_
      cases x with
      | ap =>
        have e2' : s = .wd [64] := e2
        subst e2'
        cases y with
        | ap => rfl
        | op n => have f : Sh.wd [64] = .wd n := f2; cases f; exact absurd rfl (lt (oj _ (mem_opensI.mpr (List.mem_of_getElem? hy)))).1
        | tk p => have f : Sh.wd [64] = .wd [47] := f2; cases f
        | nm p => obtain ⟨k, _, f⟩ := f2; cases f
      | op n =>
        have e2' : s = .wd n := e2
        subst e2'
        have hn := lt (oi _ (mem_opensI.mpr (List.mem_of_getElem? hx)))
        cases y with
        | ap => have f : Sh.wd n = .wd [64] := f2; cases f; exact absurd rfl hn.1
        | op m => have f : Sh.wd n = .wd m := f2; cases f; rfl
        | tk p => have f : Sh.wd n = .wd [47] := f2; cases f; exact absurd rfl hn.2
        | nm p => obtain ⟨k, _, f⟩ := f2; cases f
      | tk o =>
        obtain ⟨p, hp⟩ := tkj hx
        rw [hy] at hp
        cases hp
        show Im.tk p = Im.tk (φ o)
        rw [hφ hx hy]
      | nm o =>
        obtain ⟨k, hk, e⟩ := e2
        subst e
        cases y with
        | ap => have f : Sh.pl k = .wd [64] := f2; cases f
        | op m => have f : Sh.pl k = .wd m := f2; cases f
        | tk p => have f : Sh.pl k = .wd [47] := f2; cases f
        | nm p =>
          obtain ⟨k', hk', f⟩ := f2
          cases f
          show Im.nm p = Im.nm (φ o)
          rw [hφ hk hk']
    · rw [List.getElem?_eq_none (by rw [← ht.len, hs.len]; omega), List.getElem?_eq_none (by omega)]
      rfl
  have inj : InjT φ is := fun a ha c hc e => by
    obtain ⟨i, hi⟩ := List.mem_iff_getElem?.mp (mem_takesI.mp ha)
    obtain ⟨j, hj⟩ := List.mem_iff_getElem?.mp (mem_takesI.mp hc)
    obtain ⟨p, hp⟩ := tkj hi
    obtain ⟨q, hq⟩ := tkj hj
    rw [hφ hi hp, hφ hj hq] at e
    subst e
    have := take_place wj.nd hp hq
    subst this
    rw [hi] at hj
    cases hj
    rfl
  rw [ej, opensI_rel]
  exact std_rel wi inj (by have := takesI_len is; have := opensI_len is; omega)
theorem std_shape {ss tt : List Sh} {is js : List Im} (hs : ShV ss is) (ht : ShV tt js) (wi : Wl is) (wj : Wl js) (b : is.length ≤ 100000000000) (c : js.length ≤ 100000000000) (e : stdI (opensI is) is = stdI (opensI js) js) : ss = tt := by
  have bi : (takesI is).length + (opensI is).length ≤ 217180147158 := by have := takesI_len is; have := opensI_len is; omega
  have bj : (takesI js).length + (opensI js).length ≤ 217180147158 := by have := takesI_len js; have := opensI_len js; omega
  have hl : is.length = js.length := by
    have := congrArg List.length e
    unfold stdI at this
    rwa [List.length_map, List.length_map] at this
  have wd : ∀ {i : Nat} {x y : Im}, is[i]? = some x → js[i]? = some y → outI (frI (opensI is) is) x = outI (frI (opensI js) js) y := fun {i x y} h1 h2 => by
    have := congrArg (fun l : List W => l[i]?) e
    unfold stdI at this
    simp only [List.getElem?_map, h1, h2] at this
    exact Option.some.inj this
  have get : ∀ {i : Nat} {x : Im}, is[i]? = some x → ∃ y, js[i]? = some y := fun {i x} h => ⟨js[i]'(by rw [← hl]; exact (List.getElem?_eq_some_iff.mp h).1), List.getElem?_eq_getElem _⟩
  have get' : ∀ {i : Nat} {y : Im}, js[i]? = some y → ∃ x, is[i]? = some x := fun {i y} h => ⟨is[i]'(by rw [hl]; exact (List.getElem?_eq_some_iff.mp h).1), List.getElem?_eq_getElem _⟩
  have fi : ∀ {o : Own}, o ∈ takesI is → rdO (frI (opensI is) is) o ∉ opensI is := fun {o} h => (freshN_mem (rdO_fresh wi.nd bi h)).1
  have fj : ∀ {o : Own}, o ∈ takesI js → rdO (frI (opensI js) js) o ∉ opensI js := fun {o} h => (freshN_mem (rdO_fresh wj.nd bj h)).1
  apply List.ext_getElem?
  intro i
  by_cases h : i < is.length
  · obtain ⟨x, hx⟩ : ∃ x, is[i]? = some x := ⟨is[i], List.getElem?_eq_getElem h⟩
    obtain ⟨y, hy⟩ := get hx
    obtain ⟨s, e1, e2⟩ := hs.at_ i _ hx
    obtain ⟨t, f1, f2⟩ := ht.at_ i _ hy
    rw [e1, f1]
    refine congrArg some ?_
    have ew := wd hx hy
    cases x with
    | ap =>
      cases y with
      | ap => exact (show s = .wd [64] from e2).trans (show t = .wd [64] from f2).symm
      | op n => cases ew
      | tk p => cases ew
      | nm p => cases ew
    | tk o =>
      cases y with
      | ap => cases ew
      | op n => cases ew
      | tk p => exact (show s = .wd [47] from e2).trans (show t = .wd [47] from f2).symm
      | nm p => cases ew
    | op n =>
      cases y with
      | ap => cases ew
      | op m =>
        have : n = m := W.nm.inj ew
        subst this
        exact (show s = .wd n from e2).trans (show t = .wd n from f2).symm
      | tk p => cases ew
      | nm p =>
        have en : n = rdO (frI (opensI js) js) p := W.nm.inj ew
        have hp := wj.all p (List.mem_of_getElem? hy)
        obtain ⟨j, hj⟩ := List.mem_iff_getElem?.mp (mem_takesI.mp hp)
        obtain ⟨x, hx2⟩ := get' hj
        have ew2 := wd hx2 hj
        cases x with
        | ap => cases ew2
        | op _ => cases ew2
        | nm _ => cases ew2
        | tk o =>
          have eo : rdO (frI (opensI is) is) o = rdO (frI (opensI js) js) p := W.tk.inj ew2
          refine absurd ?_ (fi (o := o) (mem_takesI.mpr (List.mem_of_getElem? hx2)))
          rw [eo, ← en]
          exact mem_opensI.mpr (List.mem_of_getElem? hx)
    | nm o =>
      have ho := wi.all o (List.mem_of_getElem? hx)
      obtain ⟨k, hk, es⟩ := (show ∃ j, is[j]? = some (.tk o) ∧ s = .pl j from e2)
      cases y with
      | ap => cases ew
      | tk p => cases ew
      | op m =>
        have en : rdO (frI (opensI is) is) o = m := W.nm.inj ew
        obtain ⟨y, hy2⟩ := get hk
        have ew2 := wd hk hy2
        cases y with
        | ap => cases ew2
        | op _ => cases ew2
        | nm _ => cases ew2
        | tk p =>
          have eo : rdO (frI (opensI is) is) o = rdO (frI (opensI js) js) p := W.tk.inj ew2
          refine absurd ?_ (fj (o := p) (mem_takesI.mpr (List.mem_of_getElem? hy2)))
          rw [← eo, en]
          exact mem_opensI.mpr (List.mem_of_getElem? hy)
      | nm p =>
        obtain ⟨k', hk', et⟩ := (show ∃ j, js[j]? = some (.tk p) ∧ t = .pl j from f2)
        have en : rdO (frI (opensI is) is) o = rdO (frI (opensI js) js) p := W.nm.inj ew
        obtain ⟨x, hx2⟩ := get' hk'
        have ew2 := wd hx2 hk'
        cases x with
        | ap => cases ew2
        | op _ => cases ew2
        | nm _ => cases ew2
        | tk o2 =>
          have eo : rdO (frI (opensI is) is) o2 = rdO (frI (opensI js) js) p := W.tk.inj ew2
          have : o2 = o := rdO_inj wi.nd bi (mem_takesI.mpr (List.mem_of_getElem? hx2)) ho (eo.trans en.symm)
          subst this
          have := take_place wi.nd hk hx2
          subst this
          rw [es, et]
  · rw [List.getElem?_eq_none (by rw [hs.len]; omega), List.getElem?_eq_none (by rw [ht.len]; omega)]
end Wd

set_option maxHeartbeats 1000000
/-! standard words of standard words: plain mathematics -/
namespace Wd
open PySem
theorem std_mark {ws : List W} (v : Vd ws) (hl : ws.length ≤ 100000000000) (o : Nat) : stdI (opensI (markI o ws)) (markI o ws) = stdW ws := by
  have l0 : ∀ p, (takesI (markI p ws)).length + (openN ws).length ≤ 217180147158 := fun p => by
    rw [takesI_mark, List.length_map]
    exact bound hl
  have e : markI o ws = (markI 0 ws).map (relI fun q => (o, q.2)) := by
    unfold markI
    rw [List.map_map]
    refine List.map_congr_left fun w _ => ?_
    cases w with
    | ap => rfl
    | tk n => rfl
    | nm n =>
      by_cases h : n ∈ takesOf ws
      · have e1 : mkI (owned [(o, ws)]) o (.nm n) = .nm (o, n) := if_pos (mem_owned_o.mpr h)
        have e2 : mkI (owned [(0, ws)]) 0 (.nm n) = .nm (0, n) := if_pos (mem_owned_o.mpr h)
        show mkI _ o (.nm n) = relI _ (mkI _ 0 (.nm n))
        rw [e1, e2]
        rfl
      · have e1 : mkI (owned [(o, ws)]) o (.nm n) = .op n := if_neg fun q => h (mem_owned_o.mp q)
        have e2 : mkI (owned [(0, ws)]) 0 (.nm n) = .op n := if_neg fun q => h (mem_owned_o.mp q)
        show mkI _ o (.nm n) = relI _ (mkI _ 0 (.nm n))
        rw [e1, e2]
        rfl
  rw [opens_mark, std_items, e]
  refine std_rel (markI_wl v 0) (fun a ha b hb q => ?_) (l0 0)
  rw [takesI_mark] at ha hb
  obtain ⟨n, _, rfl⟩ := List.mem_map.mp ha
  obtain ⟨m, _, rfl⟩ := List.mem_map.mp hb
  cases q
  rfl
theorem stdW_len (ws : List W) : (stdW ws).length = ws.length := by
  rw [stdW_eq, List.length_map]
theorem markB {ws : List W} (hl : ws.length ≤ 100000000000) (o : Nat) : (takesI (markI o ws)).length + (openN ws).length ≤ 217180147158 := by
  rw [takesI_mark, List.length_map]
  exact bound hl
theorem stdW_vd {ws : List W} (v : Vd ws) (hl : ws.length ≤ 100000000000) : Vd (stdW ws) := by
  rw [std_items]
  refine (v.good 0).std (markB hl 0) (fun n h => by rwa [opens_mark] at h) fun n h => ?_
  rw [opens_mark] at h
  exact v.nmOk (mem_open.mp h).1
theorem std_std {ws : List W} (v : Vd ws) (hl : ws.length ≤ 100000000000) : stdW (stdW ws) = stdW ws := by
  have wl := markI_wl v 0
  have b := markB hl 0
  have em : markI 0 (stdW ws) = (markI 0 ws).map (relI fun o => (0, rdO (frI (openN ws) (markI 0 ws)) o)) := by
    rw [std_items]
    exact mark_std wl b (fun n h => by rwa [opens_mark] at h) 0
  have eo : openN (stdW ws) = openN ws := by
    rw [← opens_mark (stdW ws) 0, em, opensI_rel, opens_mark]
  rw [std_items (stdW ws), eo, em]
  rw [std_rel wl (fun a ha c hc q => rdO_inj wl.nd b ha hc (Prod.mk.inj q).2) b, ← std_items]
end Wd

set_option maxHeartbeats 1000000
/-! names exchanged: plain mathematics -/
namespace Wd
open PySem
def swN (n m k : Nm) : Nm := if k = n then m else if k = m then n else k
theorem swN_inv (n m k : Nm) : swN n m (swN n m k) = k := by
  unfold swN
  by_cases h1 : k = n
  · subst h1
    rw [if_pos rfl]
    by_cases h2 : m = k
    · rw [if_pos h2]; exact h2
    · rw [if_neg h2, if_pos rfl]
  · rw [if_neg h1]
    by_cases h2 : k = m
    · subst h2
      rw [if_pos rfl, if_pos rfl]
    · rw [if_neg h2, if_neg h1, if_neg h2]
theorem swN_inj {n m a b : Nm} (e : swN n m a = swN n m b) : a = b := by
  have := congrArg (swN n m) e
  rwa [swN_inv, swN_inv] at this
theorem swN_mem {n m k : Nm} {P : Nm → Prop} (hn : P n) (hm : P m) (hk : P k) : P (swN n m k) := by
  unfold swN
  split
  · exact hm
  · split
    · exact hn
    · exact hk
/-- only where it stands as a name -/
def lfW (g : Nm → Nm) : W → W
  | .nm k => .nm (g k)
  | w => w
namespace T
def lfm (g : Nm → Nm) : T → T
  | .nm n => .nm (g n)
  | .ap f a => .ap (f.lfm g) (a.lfm g)
  | .tk n b => .tk n (b.lfm g)
theorem lfm_ws (g : Nm → Nm) : ∀ t : T, (t.lfm g).ws = t.ws.map (lfW g)
  | .nm _ => rfl
  | .ap f a => by simp [lfm, ws, lfW, lfm_ws g f, lfm_ws g a]
  | .tk _ b => by simp [lfm, ws, lfW, lfm_ws g b]
theorem lfm_lv (g : Nm → Nm) : ∀ t : T, (t.lfm g).lv = t.lv.map g
  | .nm _ => rfl
  | .ap f a => by simp [lfm, lv, lfm_lv g f, lfm_lv g a]
  | .tk _ b => by simp [lfm, lv, lfm_lv g b]
theorem lfm_tks (g : Nm → Nm) : ∀ t : T, (t.lfm g).tks = t.tks
  | .nm _ => rfl
  | .ap f a => by simp [lfm, tks, lfm_tks g f, lfm_tks g a]
  | .tk _ b => by simp [lfm, tks, lfm_tks g b]
theorem sc_of : ∀ t : T, (∀ (i : Nat) n, t.ws[i]? = some (.tk n) → ∃ j, t.ws[j]? = some (.nm n) ∧ i < j ∧ j < t.e i) → t.sc
  | .nm _, _ => trivial
  | .ap f a, h => by
    refine ⟨sc_of f fun i n hi => ?_, sc_of a fun i n hi => ?_⟩
    · have hl := lt_of_get hi
      have hl2 := e_lt f i hl
      obtain ⟨j, h1, h2, h3⟩ := h (i + 1) n (by show (W.ap :: (f.ws ++ a.ws))[i + 1]? = _; rw [List.getElem?_cons_succ, List.getElem?_append_left hl]; exact hi)
      have e1 : (T.ap f a).e (i + 1) = 1 + f.e i := by
        show (if i + 1 = 0 then _ else if i + 1 < 1 + f.ws.length then 1 + f.e (i + 1 - 1) else _) = _
        rw [if_neg (by omega), if_pos (by omega)]
        rfl
      rw [e1] at h3
      refine ⟨j - 1, ?_, by omega, by omega⟩
      obtain ⟨k, rfl⟩ : ∃ k, j = k + 1 := ⟨j - 1, by omega⟩
      have h1' : (W.ap :: (f.ws ++ a.ws))[k + 1]? = some (.nm n) := h1
      rw [List.getElem?_cons_succ, List.getElem?_append_left (by omega)] at h1'
      exact h1'
    · have hl := lt_of_get hi
      have hl2 := e_lt a i hl
      obtain ⟨j, h1, h2, h3⟩ := h (1 + f.ws.length + i) n (by
        show (W.ap :: (f.ws ++ a.ws))[1 + f.ws.length + i]? = _
        have e0 : 1 + f.ws.length + i = (f.ws.length + i) + 1 := by omega
        rw [e0, List.getElem?_cons_succ, List.getElem?_append_right (by omega)]
        have e2 : f.ws.length + i - f.ws.length = i := by omega
        rw [e2]; exact hi)
      have e1 : (T.ap f a).e (1 + f.ws.length + i) = 1 + f.ws.length + a.e i := by
        show (if 1 + f.ws.length + i = 0 then _ else if 1 + f.ws.length + i < 1 + f.ws.length then _ else 1 + f.ws.length + a.e (1 + f.ws.length + i - 1 - f.ws.length)) = _
        rw [if_neg (by omega), if_neg (by omega)]
        have e2 : 1 + f.ws.length + i - 1 - f.ws.length = i := by omega
        rw [e2]
      rw [e1] at h3
      refine ⟨j - (1 + f.ws.length), ?_, by omega, by omega⟩
      obtain ⟨k, rfl⟩ : ∃ k, j = (f.ws.length + k) + 1 := ⟨j - (1 + f.ws.length), by omega⟩
      have h1' : (W.ap :: (f.ws ++ a.ws))[(f.ws.length + k) + 1]? = some (.nm n) := h1
      rw [List.getElem?_cons_succ, List.getElem?_append_right (by omega)] at h1'
      have e2 : f.ws.length + k + 1 - (1 + f.ws.length) = f.ws.length + k - f.ws.length := by omega
      rw [e2]
      exact h1'
  | .tk m b, h => by
    refine ⟨?_, sc_of b fun i n hi => ?_⟩
    · obtain ⟨j, h1, h2, h3⟩ := h 0 m rfl
      obtain ⟨k, rfl⟩ : ∃ k, j = k + 1 := ⟨j - 1, by omega⟩
      have h1' : (W.tk m :: b.ws)[k + 1]? = some (.nm m) := h1
      rw [List.getElem?_cons_succ] at h1'
      rw [← nmsOf_tree]
      exact mem_nms.mpr (List.mem_of_getElem? h1')
    · have hl := lt_of_get hi
      have hl2 := e_lt b i hl
      obtain ⟨j, h1, h2, h3⟩ := h (i + 1) n (by show (W.tk m :: b.ws)[i + 1]? = _; rw [List.getElem?_cons_succ]; exact hi)
      have e1 : (T.tk m b).e (i + 1) = 1 + b.e i := by
        show (if i + 1 = 0 then _ else 1 + b.e (i + 1 - 1)) = _
        rw [if_neg (by omega)]
        rfl
      rw [e1] at h3
      obtain ⟨k, rfl⟩ : ∃ k, j = k + 1 := ⟨j - 1, by omega⟩
      have h1' : (W.tk m :: b.ws)[k + 1]? = some (.nm n) := h1
      rw [List.getElem?_cons_succ] at h1'
      exact ⟨k, h1', by omega, by omega⟩
end T
/-- a tree of words, whatever its names -/
structure Raw (ws : List W) : Prop where
  ex : ∃ t : T, ws = t.ws
  ok : ∀ w ∈ ws, wOk w
theorem Vd.raw {ws : List W} (v : Vd ws) : Raw ws := by
  obtain ⟨⟨t, e, _⟩, ok⟩ := v
  exact ⟨⟨t, e.symm⟩, ok⟩
theorem Raw.ends {ws : List W} (r : Raw ws) : ∃ E, IsEnds ws E := by
  obtain ⟨⟨t, rfl⟩, _⟩ := r
  exact ⟨_, t.isEnds⟩
theorem Raw.pos {ws : List W} (r : Raw ws) : 0 < ws.length := by
  obtain ⟨⟨t, rfl⟩, _⟩ := r
  exact t.pos
theorem lf_raw {ws : List W} (v : Vd ws) {g : Nm → Nm} (gok : ∀ n ∈ nmsOf ws, nmOk (g n)) : Raw (ws.map (lfW g)) := by
  obtain ⟨⟨t, rfl, _⟩, ok⟩ := v
  refine ⟨⟨t.lfm g, (T.lfm_ws g t).symm⟩, fun w hw => ?_⟩
  obtain ⟨u, hu, rfl⟩ := List.mem_map.mp hw
  cases u with
  | ap => trivial
  | tk n => exact ok _ hu
  | nm n => exact gok n (mem_nms.mpr hu)
theorem lf_vd {ws : List W} (v : Vd ws) {g : Nm → Nm} (inj : InjOn g (nmsOf ws)) (gok : ∀ n ∈ nmsOf ws, nmOk (g n)) {E : Nat → Nat} (he : IsEnds (ws.map (lfW g)) E)
    (h : ∀ (i : Nat) n, (ws.map (lfW g))[i]? = some (.tk n) → ∃ j, (ws.map (lfW g))[j]? = some (.nm n) ∧ i < j ∧ j < E i) : Vd (ws.map (lfW g)) := by
  have r := lf_raw v gok
  obtain ⟨⟨t, rfl, s, nl, nt⟩, ok⟩ := v
  rw [← T.lfm_ws] at *
  refine ⟨⟨t.lfm g, rfl, T.sc_of _ fun i n hi => ?_, ?_, ?_⟩, r.ok⟩
  · obtain ⟨j, h1, h2, h3⟩ := h i n hi
    exact ⟨j, h1, h2, by rw [← he.uniq (t.lfm g).isEnds _ i rfl (T.lt_of_get hi)]; exact h3⟩
  · rw [T.lfm_lv]
    rw [nmsOf_tree] at inj
    exact nodup_map nl inj
  · rw [T.lfm_tks]
    exact nt
end Wd

namespace Wd
open PySem
/-! ### words that have parts behind them, by how many -/
def misF : List Nat → Nat → Nat → Option Nat
  | [], i, l => if l = 0 then none else some i
  | n :: ns, i, l => if l = 0 then some i else misF ns (i + 1) (l + n - 1)
inductive Wh : Nat → List Nat → Prop where
  | nil : Wh 0 []
  | cons {c n ns} : Wh (c + n) ns → Wh (c + 1) (n :: ns)
theorem Wh.mis {c : Nat} {ns : List Nat} (h : Wh c ns) : ∀ i, misF ns i c = none := by
  induction h with
  | nil => intro i; rfl
  | @cons c n ns h ih =>
    intro i
    unfold misF
    rw [if_neg (by omega), show c + 1 + n - 1 = c + n by omega]
    exact ih _
def needW : W → Nat
  | .ap => 2
  | .tk _ => 1
  | .nm _ => 0
theorem T.wh : ∀ (t : T) (c : Nat) (r : List Nat), Wh c r → Wh (c + 1) (t.ws.map needW ++ r)
  | .nm n, c, r, h => by exact Wh.cons h
  | .tk n b, c, r, h => by
    show Wh (c + 1) (1 :: (b.ws.map needW ++ r))
    exact Wh.cons (T.wh b c r h)
  | .ap f a, c, r, h => by
    have e : (T.ap f a).ws.map needW ++ r = 2 :: (f.ws.map needW ++ (a.ws.map needW ++ r)) := by simp [T.ws, needW]
    rw [e]
    exact Wh.cons (T.wh f (c + 1) _ (T.wh a c r h))
theorem Vd.wh {ws : List W} (h : Vd ws) : Wh 1 (ws.map needW) := by
  obtain ⟨⟨t, rfl, s, nl, nt⟩, ok⟩ := h
  have := T.wh t 0 [] .nil
  rwa [List.append_nil] at this
theorem needW_le (w : W) : needW w ≤ 2 := by cases w <;> simp [needW]
def itE (E : Nat → Nat) (i : Nat) : Nat → Nat
  | 0 => i + 1
  | j + 1 => E (itE E i j)
structure EndsN (ns : List Nat) (E : Nat → Nat) : Prop where
  ex : ∀ i n, ns[i]? = some n → (∀ j, j < n → i < itE E i j ∧ itE E i j < ns.length) ∧ E i = itE E i n
  le : ∀ n, n ∈ ns → n ≤ 2
theorem IsEnds.needs {ws : List W} {E : Nat → Nat} (h : IsEnds ws E) : EndsN (ws.map needW) E := by
  refine ⟨fun i n hn => ?_, fun n hn => ?_⟩
  · rw [List.getElem?_map] at hn
    rw [List.length_map]
    cases hw : ws[i]? with
    | none => rw [hw] at hn; cases hn
    | some w =>
      rw [hw] at hn
      cases w with
      | nm x => cases hn; exact ⟨fun j (hj : j < 0) => absurd hj (by omega), h.nm i x hw⟩
      | tk x =>
        cases hn
        obtain ⟨h1, h2⟩ := h.tk i x hw
        refine ⟨fun j (hj : j < 1) => ?_, h2⟩
        have : j = 0 := by omega
        subst this
        exact ⟨by show i < i + 1; omega, h1⟩
      | ap =>
        cases hn
        obtain ⟨h1, h2, h3⟩ := h.ap i hw
        refine ⟨fun j (hj : j < 2) => ?_, h3⟩
        have l := h.lt (i + 1) h1
        match j, hj with
        | 0, _ => exact ⟨by show i < i + 1; omega, h1⟩
        | 1, _ => exact ⟨by show i < E (i + 1); omega, h2⟩
  · obtain ⟨w, _, rfl⟩ := List.mem_map.mp hn
    exact needW_le w
end Wd

set_option maxHeartbeats 2000000
namespace Kk
open PySem PySem.Spec PyProof.Rows L2
/-- a def that can be called: where it stands, and what it promises -/
structure Cal (P : Program) (w : World) (K : PySem.W.Frag) (mg : Str → Option Value) (base : Heap) (x : Str) (k : Nat) (ps : List Str) (sp : Sp) : Prop where
  ex : ∃ f fd, mg x = some (.ref f) ∧ PySem.W.keepIn K (.ref f) = true ∧ Binds K fd ps [] ∧ FnOk P w K mg base CX0 k f fd ps sp
structure DefAt (K : PySem.W.Frag) (mg : Str → Option Value) (x : Str) (st : Stmt) : Prop where
  ex : ∃ f fd, Fun K x x st f fd ∧ mg x = some (.ref f)
theorem Cal.imp {P w K mg base x k ps} {sp sp' : Sp} (C : Cal P w K mg base x k ps sp) (h : ∀ vs H Q E, sp' vs H Q E → sp vs H Q E) : Cal P w K mg base x k ps sp' := by
  obtain ⟨f, fd, a, b, c, d⟩ := C
  exact ⟨f, fd, a, b, c, d.imp h⟩
section
variable {P : Program} {w : World} {K : PySem.W.Frag} {mg : Str → Option Value} {base : Heap}
theorem cal_of {x : Str} {st : Stmt} {N ps : List Str} {k : Nat} {sp : Sp} (D : DefAt K mg x st) (S : FnScope N ps (defScope st))
    (hb : ∀ (kV doc pm : Value) (an : Option Addr) (cdv ct : Value) (us : List Value), us.length = ps.length → bindArgs (PySem.W.fnOf x x (defArgs st) (defBody st) (defScope st) .none kV doc pm an cdv ct) ⟨us, []⟩ = pure (ps.zip us))
    (len : ∀ vs H Q E, sp vs H Q E → vs.length = ps.length)
    (hbody : ∀ (f : Addr) (cdv : Value) (A : Around) (outer : List Env) (s : Shared) (H : Hp) (vs : List V) (Q : VK) (E : XK), Room k (A.deeper (envOfC x (defScope st) s.heap.objs.size f cdv)) → sp vs H Q E →
      ∃ t, PSs (cxOf CX0 P w K mg base N x (defScope st) f cdv A outer s H E).nox (defBody st) t ∧ t { nx := fun _ H' => Q .non H', rt := Q } (start N vs) H) : Cal P w K mg base x (k + 1) ps sp := by
  obtain ⟨f, fd, F, m⟩ := D
  exact ⟨f, fd, m, F.kp, F.binds hb, F.ok S len fun cdv A outer s H vs Q E hr h => hbody f cdv A outer s H vs Q E hr h⟩
end
section
variable {X : Cx} {e : Expr} {es : List Expr} {t : TA} {x : Str} {k : Nat} {ps : List Str} {sp : Sp} {p pos : Pos}
theorem pe_c (C : Cal X.prog X.w X.K X.mg X.base x k ps sp) (hr : Room k X.A) (ha : PA X (e :: es) t) (hg : Gl X x := by rfl) (hdb : (x == ("__debug__" : Str)) = false := by decide)
    (he : starEach (e :: es) X.env = (false, eval e X.env) :: starEach es X.env := by rfl) (hpl : (backTo pos (starEach es X.env)).any (·.1) = false := by rfl) :
    PE X (.Call (.Name x p) (e :: es) [] pos) (tCall sp [] E0 t) := by
  obtain ⟨f, fd, hm, hk, hb, F⟩ := C
  exact pe_call F hr hg hm hk hb .nil pass0 ha hdb he hpl
theorem pe_c0 (C : Cal X.prog X.w X.K X.mg X.base x k ps sp) (hr : Room k X.A) (hg : Gl X x := by rfl) (hdb : (x == ("__debug__" : Str)) = false := by decide) :
    PE X (.Call (.Name x p) [] [] pos) (tCall sp [] E0 tNil) := by
  obtain ⟨f, fd, hm, hk, hb, F⟩ := C
  exact pe_call0 F hr hg hm hk hb .nil pass0 hdb
theorem pe_gs {z : Str} (hm : ∃ t, X.mg x = some (.str z t)) (hg : Gl X x := by rfl) (hd : (x == ("__debug__" : Str)) = false := by decide) : PE X (.Name x pos) (tC (.str z)) := by
  obtain ⟨t, h⟩ := hm
  exact pe_glob hg h ⟨t, rfl⟩ hd
theorem pe_gi {i : Int} (hm : ∃ t, X.mg x = some (.int i t)) (hg : Gl X x := by rfl) (hd : (x == ("__debug__" : Str)) = false := by decide) : PE X (.Name x pos) (tC (.int i)) := by
  obtain ⟨t, h⟩ := hm
  exact pe_glob hg h ⟨t, rfl⟩ hd
theorem pe_gr {a : Addr} (hm : X.mg x = some (.ref a)) (hg : Gl X x := by rfl) (hd : (x == ("__debug__" : Str)) = false := by decide) : PE X (.Name x pos) (tC (.ref a)) := pe_glob hg hm rfl hd
theorem pe_ty {n : String} (hm : X.mg x = none) (hv : bootBuiltins x = some (.type n)) (hg : Gl X x := by rfl) (hn : x ≠ "__name__" := by decide) (hd : (x == ("__debug__" : Str)) = false := by decide) : PE X (.Name x pos) (tC (.ty n)) := pe_bltn hg hm hv rfl hn hd
end
/-- the built-in names that the text does not hide -/
structure Bt (mg : Str → Option Value) : Prop where
  b_len : mg "len" = none
  b_int : mg "int" = none
  b_bool : mg "bool" = none
  b_str : mg "str" = none
  b_abs : mg "abs" = none
  b_min : mg "min" = none
  b_max : mg "max" = none
  b_sum : mg "sum" = none
  b_list : mg "list" = none
  b_tuple : mg "tuple" = none
  b_all : mg "all" = none
  b_isinstance : mg "isinstance" = none
  b_set : mg "set" = none
  b_range : mg "range" = none
  b_enumerate : mg "enumerate" = none
  b_reversed : mg "reversed" = none
  b_zip : mg "zip" = none
  b_divmod : mg "divmod" = none
  b_dict : mg "dict" = none
  b_sorted : mg "sorted" = none
  m_GIVEN : ∃ t, mg "GIVEN" = some (.str "@" t)
  m_TAKE : ∃ t, mg "TAKE" = some (.str "/" t)
  m_LETTERS : ∃ t, mg "LETTERS" = some (.str "abcdefghijklmnopqrstuvwxyz" t)
  m_MOST_LETTERS : ∃ t, mg "MOST_LETTERS" = some (.int 8 t)
  m_MOST_WORDS : ∃ t, mg "MOST_WORDS" = some (.int 1000 t)

/-! ### heaps -/
/-- all but p and g is as it was -/
def Keep (p g : Addr) (H H' : Hp) : Prop := ∀ b o, H b = some o → b ≠ p → b ≠ g → H' b = some o
theorem Keep.refl {p g : Addr} (H : Hp) : Keep p g H H := fun _ _ h _ _ => h
theorem Keep.trans {p g : Addr} {H H1 H2 : Hp} (a : Keep p g H H1) (b : Keep p g H1 H2) : Keep p g H H2 := fun c o h h1 h2 => b c o (a c o h h1 h2) h1 h2
theorem Same.keep {p g : Addr} {H H' : Hp} (a : Same H H') : Keep p g H H' := fun b o h _ _ => a b o h
theorem same_upd {H : Hp} {a : Addr} {o : HO} (h : H a = none) : Same H (upd H a o) := fun b u e => by
  rw [upd_ne (ne_of_none e h)]; exact e
theorem keep_upd {p g : Addr} {H : Hp} {o : HO} (h : True) : Keep p g H (upd H p o) := fun b u e h1 _ => by
  rw [upd_ne h1]; exact e
theorem keep_upd' {p g : Addr} {H : Hp} {o : HO} (h : True) : Keep p g H (upd H g o) := fun b u e _ h2 => by
  rw [upd_ne h2]; exact e
theorem SqL.keep {K : PySem.W.Frag} {p g a : Addr} {H H' : Hp} {xs : List V} (h : SqL K H a xs) (k : Keep p g H H') (h1 : a ≠ p) (h2 : a ≠ g) : SqL K H' a xs := by
  rcases h with (h | ⟨o, h⟩) | h
  · exact .inl (.inl (k _ _ h h1 h2))
  · exact .inl (.inr ⟨o, k _ _ h h1 h2⟩)
  · exact .inr h
theorem SqT.keep {K : PySem.W.Frag} {p g a : Addr} {H H' : Hp} {xs : List V} (h : SqT K H a xs) (k : Keep p g H H') (h1 : a ≠ p) (h2 : a ≠ g) : SqT K H' a xs := by
  rcases h with (h | ⟨o, h⟩) | h
  · exact .inl (.inl (k _ _ h h1 h2))
  · exact .inl (.inr ⟨o, k _ _ h h1 h2⟩)
  · exact .inr h
theorem SqT.same {K : PySem.W.Frag} {a : Addr} {H H' : Hp} {xs : List V} (h : SqT K H a xs) (k : Same H H') : SqT K H' a xs := by
  rcases h with (h | ⟨o, h⟩) | h
  · exact .inl (.inl (k _ _ h))
  · exact .inl (.inr ⟨o, k _ _ h⟩)
  · exact .inr h
theorem atI_int {α : Type} {xs : List α} {i : Int} {v : α} (h0 : 0 ≤ i) (h : xs[i.toNat]? = some v) : atI xs i = some v := by
  have e : i = ((i.toNat : Nat) : Int) := by omega
  rw [e]
  exact atI_nat h
theorem ixN_lt {n j : Nat} (h : j < n) : ixN n (j : Int) = some j := by
  unfold ixN
  rw [if_pos (by omega), if_pos (by omega)]
  rfl
theorem ixN_int {n : Nat} {i : Int} (h0 : 0 ≤ i) (h : i < n) : ixN n i = some i.toNat := by
  unfold ixN
  rw [if_pos h0, if_pos h]
theorem seq0 {n : Nat} (h : 0 < n) : seqIndex? 0 n = some 0 := (ixN_seq (ixN_lt (j := 0) h)).1
/-! ### the law's draws -/
structure PotAt (H : Hp) (p g s : Addr) : Prop where
  ex : ∃ (G S : List Int) (t r : Int), H p = some (.lst [.ref g, .ref s, .int t, .int r]) ∧ H g = some (.lst (G.map V.int)) ∧ H s = some (.lst (S.map V.int)) ∧ 0 < S.length
  pg : p ≠ g
  ps : p ≠ s
  gs : g ≠ s
theorem PotAt.keep {H H' : Hp} {p g s : Addr} (h : PotAt H p g s) (k : Same H H') : PotAt H' p g s := by
  obtain ⟨⟨G, S, t, r, h1, h2, h3, h4⟩, a, b, c⟩ := h
  exact ⟨⟨G, S, t, r, k _ _ h1, k _ _ h2, k _ _ h3, h4⟩, a, b, c⟩
theorem PotAt.off {H H' : Hp} {p g s : Addr} (h : PotAt H p g s) (k : ∀ b o, H b = some o → b = p ∨ b = g ∨ b = s → H' b = some o) : PotAt H' p g s := by
  obtain ⟨⟨G, S, t, r, h1, h2, h3, h4⟩, a, b, c⟩ := h
  exact ⟨⟨G, S, t, r, k _ _ h1 (.inl rfl), k _ _ h2 (.inr (.inl rfl)), k _ _ h3 (.inr (.inr rfl)), h4⟩, a, b, c⟩
def spPot (K : PySem.W.Frag) : Sp := fun vs H Q _ => ∃ (a : Addr) (ns : List Int), vs = [.ref a] ∧ SqL K H a (ns.map V.int) ∧ ns.length ≤ 63 ∧
  ∀ (H' : Hp) (p g s : Addr), PotAt H' p g s → Same H H' → H p = none → H g = none → H s = none → Q (.ref p) H'
def spDraw : Sp := fun vs H Q _ => ∃ (p g s : Addr) (m : Int), vs = [.ref p, .int m] ∧ PotAt H p g s ∧ 0 < m ∧ m.natAbs < 2 ^ 200 ∧
  ∀ (H' : Hp) (r : Int), PotAt H' p g s → Keep p g H H' → 0 ≤ r → r < m → Q (.int r) H'
end Kk

set_option maxHeartbeats 2000000
namespace Kk
open PySem PySem.Spec PyProof.Rows L2
def top (i : Nat) : Stmt := PySem.Challenge.pw_oncekinds_k11_whole_deep_programs.main.body.getD i (.Pass ⟨0, 0, 0, 0⟩)
abbrev s_draw : Stmt := (top 45)
theorem sc_draw : FnScope ["_law_pot_here", "_law_many", "_law_turn", "_law_number", "_law_seed"] ["_law_pot_here", "_law_many"] (defScope s_draw) := ⟨rfl, rfl, rfl, by decide +kernel, rfl, by decide +kernel, by decide +kernel⟩
theorem c_draw {P w K mg base} (B : Bt mg) (D : DefAt K mg "_law_draw" s_draw) : Cal P w K mg base "_law_draw" 1 ["_law_pot_here", "_law_many"] spDraw := by
  refine cal_of D sc_draw (fun _ _ _ _ _ _ us hl => match us, hl with | [_, _], _ => rfl) (fun vs H Q E h => ?_) (fun f cdv A outer st0 H vs Q E hr h => ?_)
  · obtain ⟨p, g, s, m, rfl, _⟩ := h
    rfl
  · obtain ⟨p, g, s, m, rfl, PA, hm, hm9, k⟩ := h
    obtain ⟨⟨G, S, t, r, h1, h2, h3, hS⟩, npg, nps, ngs⟩ := PA
    refine ⟨_, (pss_cons (ps_set (i := 2) sc_draw.nd rfl (by first | exact Or.inl rfl | exact Or.inr rfl) (pe_ix ix_list (pv 0) pe_int (fun _ _ => rfl)))
      (pss_cons (ps_asg (pe_op op_add (pv 2) pe_int) (pg_sub (pv 0) pe_int set_list))
      (pss_cons (ps_if (pt_cmpR op_gt (pe_callB call_len_seq (by rfl) B.b_len (by decide +kernel) (pa_cons (pe_ix ix_list (pv 0) pe_int (fun _ _ => rfl)) pa_nil)) pe_int (nomark _)) (pss_cons (ps_set (i := 3) sc_draw.nd rfl (by first | exact Or.inl rfl | exact Or.inr rfl) (pe_ix ix_list (pe_ix ix_list (pv 0) pe_int (fun _ _ => rfl)) pe_int (fun _ _ => rfl)))
      (pss_cons (ps_asg (pe_op op_fdivW (pv 3) (pv 1)) (pg_sub (pe_ix ix_list (pv 0) pe_int (fun _ _ => rfl)) pe_int set_list))
      (pss_cons (ps_if (pt_cmpR op_lt (pv 3) (pv 1) (nomark _)) (pss_one (ps_expr (pe_bm PySem.F.plainAttrs_list PySem.F.slot_list_pop PySem.F.type_list_pop mt_popAt (pe_ix ix_list (pv 0) pe_int (fun _ _ => rfl)) (pa_cons pe_int pa_nil)))) pss_nil)
      (pss_one (ps_ret (pe_op op_mod (pe_callTy call_int1 (by rfl) B.b_int (by decide +kernel) (pa_cons (pv 3) pa_nil)) (pv 1))))))) pss_nil)
      (pss_cons (ps_set (i := 4) sc_draw.nd rfl (by first | exact Or.inl rfl | exact Or.inr rfl) (pe_op op_add (pe_op op_add (pe_op op_mul (pe_ix ix_list (pe_ix ix_list (pv 0) pe_int (fun _ _ => rfl)) (pe_op op_mod (pe_callTy call_int1 (by rfl) B.b_int (by decide +kernel) (pa_cons (pv 2) pa_nil)) (pe_callB call_len_seq (by rfl) B.b_len (by decide +kernel) (pa_cons (pe_ix ix_list (pv 0) pe_int (fun _ _ => rfl)) pa_nil))) (fun _ _ => rfl)) pe_int) (pe_op op_mul pe_int (pv 2))) (pe_op op_mul (pe_ix ix_list (pv 0) pe_int (fun _ _ => rfl)) pe_int)))
      (pss_cons (ps_set (i := 3) sc_draw.nd rfl (by first | exact Or.inl rfl | exact Or.inr rfl) (pe_op op_mod (pe_callTy call_int1 (by rfl) B.b_int (by decide +kernel) (pa_cons (pe_op op_add (pe_op op_mul (pv 4) pe_int) pe_int) pa_nil)) pe_int))
      (pss_cons (ps_set (i := 3) sc_draw.nd rfl (by first | exact Or.inl rfl | exact Or.inr rfl) (pe_op op_mod (pe_callTy call_int1 (by rfl) B.b_int (by decide +kernel) (pa_cons (pe_op op_mul (pv 3) (pe_op op_add (pe_op op_fdivW (pv 3) pe_int) pe_int)) pa_nil)) pe_int))
      (pss_cons (ps_set (i := 3) sc_draw.nd rfl (by first | exact Or.inl rfl | exact Or.inr rfl) (pe_op op_mod (pe_callTy call_int1 (by rfl) B.b_int (by decide +kernel) (pa_cons (pe_op op_add (pe_op op_mul (pv 3) (pe_op op_add (pe_op op_fdivW (pv 3) pe_int) pe_int)) (pv 2)) pa_nil)) pe_int))
      (pss_one (ps_ret (pe_op op_mod (pe_callTy call_int1 (by rfl) B.b_int (by decide +kernel) (pa_cons (pe_op op_fdivW (pv 3) pe_int) pa_nil)) (pv 1))))))))))), ?_⟩
    -- turn = pot[2]; pot[2] = turn + 1
    refine ⟨_, rfl, p, _, _, _, rfl, rfl, SqL.of h1, rfl, ?_⟩
    refine ⟨_, rfl, _, _, rfl, rfl, _, rfl, p, _, _, _, rfl, rfl, h1, rfl, ?_⟩
    have h1' : upd H p (.lst [.ref g, .ref s, .int (t + 1), .int r]) p = some (.lst [.ref g, .ref s, .int (t + 1), .int r]) := upd_same
    have h2' : upd H p (.lst [.ref g, .ref s, .int (t + 1), .int r]) g = some (.lst (G.map V.int)) := by rw [upd_ne npg.symm]; exact h2
    have h3' : upd H p (.lst [.ref g, .ref s, .int (t + 1), .int r]) s = some (.lst (S.map V.int)) := by rw [upd_ne nps.symm]; exact h3
    have kp : Keep p g H (upd H p (.lst [.ref g, .ref s, .int (t + 1), .int r])) := keep_upd trivial
    have e0 : ([V.ref g, V.ref s, V.int t, V.int r].set 2 (V.int (t + 1))) = [.ref g, .ref s, .int (t + 1), .int r] := rfl
    show tSeq _ _ _ _ (upd H p (.lst [.ref g, .ref s, .int (t + 1), .int r]))
    generalize upd H p (.lst [.ref g, .ref s, .int (t + 1), .int r]) = H1 at *
    -- if len(pot[0]) > 0
    refine ⟨_, rfl, p, _, _, _, rfl, rfl, SqL.of h1', rfl, _, _, rfl, .inl (SqL.of h2'), _, _, rfl, rfl, _, rfl, ?_⟩
    refine ite2 (fun hc => ?_) (fun hc => ?_)
    · have hG : 0 < G.length := by
        rw [List.length_map] at hc
        have := of_decide_eq_true hc
        omega
      obtain ⟨z, G', rfl⟩ : ∃ z G', G = z :: G' := by
        cases G with
        | nil => simp at hG
        | cons z G' => exact ⟨z, G', rfl⟩
      -- number = pot[0][0]; pot[0][0] = number // many
      refine ⟨_, rfl, p, _, _, _, rfl, rfl, SqL.of h1', rfl, _, _, _, _, rfl, rfl, SqL.of h2', at_of (j := 0) rfl rfl, ?_⟩
      refine ⟨_, rfl, _, rfl, _, _, rfl, rfl, wide_div hm hm9 (by decide) (by decide), _, rfl, p, _, _, _, rfl, rfl, SqL.of h1', rfl, g, _, _, 0, rfl, rfl, h2', ixN_lt (j := 0) (by simp), ?_⟩
      have q1 : upd H1 g (.lst ((((z :: G').map V.int)).set 0 (V.int (z / m)))) p = some (.lst [.ref g, .ref s, .int (t + 1), .int r]) := by rw [upd_ne npg]; exact h1'
      have q2 : upd H1 g (.lst ((((z :: G').map V.int)).set 0 (V.int (z / m)))) g = some (.lst (((z / m) :: G').map V.int)) := upd_same
      have q3 : upd H1 g (.lst ((((z :: G').map V.int)).set 0 (V.int (z / m)))) s = some (.lst (S.map V.int)) := by rw [upd_ne ngs.symm]; exact h3'
      have kq : Keep p g H (upd H1 g (.lst ((((z :: G').map V.int)).set 0 (V.int (z / m))))) := kp.trans (keep_upd' trivial)
      show tSeq _ _ _ _ (upd H1 g (.lst ((((z :: G').map V.int)).set 0 (V.int (z / m)))))
      generalize upd H1 g (.lst ((((z :: G').map V.int)).set 0 (V.int (z / m)))) = H2 at *
      refine ⟨_, rfl, _, rfl, _, _, rfl, rfl, _, rfl, ?_⟩
      refine ite2 (fun _ => ?_) (fun _ => ?_)
      · -- pot[0].pop(0)
        refine ⟨_, rfl, p, _, _, _, rfl, rfl, SqL.of q1, rfl, .inl ⟨rfl, _, SqL.of q2⟩, g, _, 0, 0, _, rfl, rfl, q2, (by decide), (by decide), seq0 (by simp), rfl, ?_⟩
        have y1 : upd H2 g (.lst ((((z / m) :: G').map V.int).eraseIdx 0)) p = some (.lst [.ref g, .ref s, .int (t + 1), .int r]) := by rw [upd_ne npg]; exact q1
        have y2 : upd H2 g (.lst ((((z / m) :: G').map V.int).eraseIdx 0)) g = some (.lst (G'.map V.int)) := upd_same
        have y3 : upd H2 g (.lst ((((z / m) :: G').map V.int).eraseIdx 0)) s = some (.lst (S.map V.int)) := by rw [upd_ne ngs.symm]; exact q3
        refine ⟨_, rfl, .inl ⟨_, rfl, _, rfl, _, _, rfl, rfl, hm, ?_⟩⟩
        exact k _ _ ⟨⟨G', S, t + 1, r, y1, y2, y3, hS⟩, npg, nps, ngs⟩ (kq.trans (keep_upd' trivial)) (Int.emod_nonneg _ (by omega)) (Int.emod_lt_of_pos _ hm)
      · refine ⟨_, rfl, .inl ⟨_, rfl, _, rfl, _, _, rfl, rfl, hm, ?_⟩⟩
        exact k _ _ ⟨⟨(z / m) :: G', S, t + 1, r, q1, q2, q3, hS⟩, npg, nps, ngs⟩ kq (Int.emod_nonneg _ (by omega)) (Int.emod_lt_of_pos _ hm)
    · have hSl : (0 : Int) < ((S.map V.int).length : Int) := by rw [List.length_map]; omega
      have hlt : (t % ((S.map V.int).length : Int)).toNat < S.length := by
        have a1 := Int.emod_nonneg t (show ((S.map V.int).length : Int) ≠ 0 by omega)
        have a2 := Int.emod_lt_of_pos t hSl
        rw [List.length_map] at a1 a2 ⊢
        omega
      obtain ⟨sv, hat⟩ : ∃ sv, atI (S.map V.int) (t % ((S.map V.int).length : Int)) = some (V.int sv) := by
        refine ⟨S[(t % ((S.map V.int).length : Int)).toNat], ?_⟩
        refine atI_int (Int.emod_nonneg t (by omega)) ?_
        rw [List.getElem?_map, List.getElem?_eq_getElem hlt]
        rfl
      -- seed
      refine ⟨_, rfl, p, _, _, _, rfl, rfl, SqL.of h1', rfl, _, rfl, .inl ⟨_, rfl, _, rfl, p, _, _, _, rfl, rfl, SqL.of h1', rfl, _, _, rfl, .inl (SqL.of h3'), _, _, rfl, rfl, hSl, _, _, _, _, rfl, rfl, SqL.of h3', hat, ?_⟩⟩
      refine ⟨_, _, rfl, rfl, .inr ⟨by decide, by decide⟩, _, rfl, _, _, rfl, rfl, .inl ⟨by decide, by decide⟩, _, _, rfl, rfl, _, rfl, p, _, _, _, rfl, rfl, SqL.of h1', rfl, _, _, rfl, rfl, .inr ⟨by decide, by decide⟩, _, _, rfl, rfl, ?_⟩
      -- number = int(seed * 48271 + 11) % 2147483647
      refine ⟨_, rfl, _, _, rfl, rfl, .inr ⟨by decide, by decide⟩, _, _, rfl, rfl, .inl ⟨_, rfl, _, _, rfl, rfl, (show (0 : Int) < 2147483647 by decide), ?_⟩⟩
      generalize hy : ((sv * 7919 + 104729 * t + r * 31) * 48271 + 11) % 2147483647 = y1
      have y1a : 0 ≤ y1 := by rw [← hy]; exact Int.emod_nonneg _ (by decide)
      have y1b : y1 < 2147483647 := by rw [← hy]; exact Int.emod_lt_of_pos _ (by decide)
      refine ⟨_, rfl, _, rfl, _, _, rfl, rfl, wide_div (b := 30) (by decide) (by decide) (by decide) (by decide), _, _, rfl, rfl, _, _, rfl, rfl, .inl ⟨by omega, by omega⟩, .inl ⟨_, rfl, _, _, rfl, rfl, (show (0 : Int) < 2147483629 by decide), ?_⟩⟩
      generalize hy2 : (y1 * (y1 / 1009 + 69621)) % 2147483629 = y2
      have y2a : 0 ≤ y2 := by rw [← hy2]; exact Int.emod_nonneg _ (by decide)
      have y2b : y2 < 2147483629 := by rw [← hy2]; exact Int.emod_lt_of_pos _ (by decide)
      refine ⟨_, rfl, _, rfl, _, _, rfl, rfl, wide_div (b := 30) (by decide) (by decide) (by decide) (by decide), _, _, rfl, rfl, _, _, rfl, rfl, .inl ⟨by omega, by omega⟩, _, rfl, _, _, rfl, rfl, .inl ⟨_, rfl, _, _, rfl, rfl, (show (0 : Int) < 2147483399 by decide), ?_⟩⟩
      refine ⟨_, rfl, _, _, rfl, rfl, wide_div (b := 30) (by decide) (by decide) (by decide) (by decide), .inl ⟨_, rfl, _, rfl, _, _, rfl, rfl, hm, ?_⟩⟩
      exact k _ _ ⟨⟨G, S, t + 1, r, h1', h2', h3', hS⟩, npg, nps, ngs⟩ kp (Int.emod_nonneg _ (by omega)) (Int.emod_lt_of_pos _ hm)
end Kk

set_option maxHeartbeats 2000000
namespace Kk
open PySem PySem.Spec PyProof.Rows L2
theorem cut63 {ns : List Int} (h : ns.length ≤ 63) : cutV (ns.map V.int) none (some 63) = ns.map V.int := by
  have e : HT.sIx (ns.map V.int).length (ns.map V.int).length (some 63) = min 63 (ns.map V.int).length := HT.sIx_nat _ _ 63
  unfold cutV
  rw [e]
  show ((ns.map V.int).drop 0).take _ = _
  rw [List.drop_zero]
  exact List.take_of_length_le (by rw [List.length_map]; show _ ≤ min 63 ns.length - 0; omega)
theorem map_get {α : Type} {f : α → V} {l : List α} {i : Nat} {x : V} (h : (l.map f)[i]? = some x) : ∃ y, l[i]? = some y ∧ x = f y := by
  rw [List.getElem?_map] at h
  cases e : l[i]? with
  | none => rw [e] at h; cases h
  | some y => rw [e] at h; exact ⟨y, rfl, (Option.some.inj h).symm⟩
theorem small_lt {n m : Nat} (h : n ≤ m) (hm : m < 16777216) : n < sizeLine := by rw [sizeLine_eq]; omega
theorem upd_over {H H' : Hp} {D : Addr} {o u : HO} (e : H' = upd H D o) : upd H' D u = upd H D u := by rw [e]; exact upd_upd
abbrev s_pot : Stmt := (top 44)
theorem sc_pot : FnScope ["_law_script", "_law_cells", "_law_item", "_law_greats", "_law_smalls"] ["_law_script"] (defScope s_pot) := ⟨rfl, rfl, rfl, by decide +kernel, rfl, by decide +kernel, by decide +kernel⟩
theorem c_pot {P w K mg base} (B : Bt mg) (D : DefAt K mg "_law_pot" s_pot) : Cal P w K mg base "_law_pot" 1 ["_law_script"] (spPot K) := by
  refine cal_of D sc_pot (fun _ _ _ _ _ _ us hl => match us, hl with | [_], _ => rfl) (fun vs H Q E h => ?_) (fun f cdv A outer st0 H vs Q E hr h => ?_)
  · obtain ⟨a, ns, rfl, _⟩ := h
    rfl
  · obtain ⟨a, ns, rfl, hS, hlen, k⟩ := h
    refine ⟨_, (pss_cons (ps_setLc (i := 1) (own := [("_law_item", 2)]) (g := (gName 2)) (tt := tYes) rfl sc_pot.nd rfl rfl (sw_true rfl rfl rfl (by decide +kernel)) (pi_list (pe_slice sl_list (pv 0) po_none (po_some pe_int))) (blkOk_by (own := [("_law_item", 2)]) (N := ["_law_script", "_law_cells", "_law_item", "_law_greats", "_law_smalls"]) (sc := defScope s_pot) (by decide +kernel)) (fun _ _ _ _ _ => (pg_name (i := 2) sc_pot.nd rfl (by first | exact Or.inl rfl | exact Or.inr rfl))) (fun _ _ _ _ _ => pts_nil) (fun _ _ _ _ _ => (pe_callTy call_int1 (by rfl) B.b_int (by decide +kernel) (pa_cons (pv 2) pa_nil))))
      (pss_cons (ps_setLc (i := 3) (own := [("_law_item", 2)]) (g := (gName 2)) rfl sc_pot.nd rfl rfl (sw_true rfl rfl rfl (by decide +kernel)) (pi_list (pv 1)) (blkOk_by (own := [("_law_item", 2)]) (N := ["_law_script", "_law_cells", "_law_item", "_law_greats", "_law_smalls"]) (sc := defScope s_pot) (by decide +kernel)) (fun _ _ _ _ _ => (pg_name (i := 2) sc_pot.nd rfl (by first | exact Or.inl rfl | exact Or.inr rfl))) (fun _ _ _ _ _ => (pts_one (pt_cmpR op_ge (pe_callB call_abs (by rfl) B.b_abs (by decide +kernel) (pa_cons (pv 2) pa_nil)) (pe_op op_pow pe_int pe_int) (nomark _)))) (fun _ _ _ _ _ => (pe_callB call_abs (by rfl) B.b_abs (by decide +kernel) (pa_cons (pv 2) pa_nil))))
      (pss_cons (ps_set (i := 4) sc_pot.nd rfl (by first | exact Or.inl rfl | exact Or.inr rfl) (pe_op op_cat (pe_lc (own := [("_law_item", 2)]) (g := (gName 2)) rfl sc_pot.nd (pi_list (pv 1)) (blkOk_by (own := [("_law_item", 2)]) (N := ["_law_script", "_law_cells", "_law_item", "_law_greats", "_law_smalls"]) (sc := defScope s_pot) (by decide +kernel)) (fun _ _ _ _ _ => (pg_name (i := 2) sc_pot.nd rfl (by first | exact Or.inl rfl | exact Or.inr rfl))) (fun _ _ _ _ _ => (pts_one (pt_cmpR op_lt (pe_callB call_abs (by rfl) B.b_abs (by decide +kernel) (pa_cons (pv 2) pa_nil)) (pe_op op_pow pe_int pe_int) (nomark _)))) (fun _ _ _ _ _ => (pe_op op_mod (pe_callTy call_int1 (by rfl) B.b_int (by decide +kernel) (pa_cons (pv 2) pa_nil)) pe_int))) (pe_lst (pa_cons (pe_op op_add (pe_callB call_len_seq (by rfl) B.b_len (by decide +kernel) (pa_cons (pv 1) pa_nil)) pe_int) pa_nil))))
      (pss_one (ps_ret (pe_lst (pa_cons (pv 3) (pa_cons (pv 4) (pa_cons pe_int (pa_cons (pe_op op_mod (pe_callTy call_int1 (by rfl) B.b_int (by decide +kernel) (pa_cons (pe_callB (cr_sum rfl) (by rfl) B.b_sum (by decide +kernel) (pa_cons (pv 4) pa_nil)) pa_nil)) pe_int) pa_nil)))))))))), ?_⟩
    refine ⟨_, rfl, _, rfl, a, _, rfl, hS, fun p0 n0 => ?_⟩
    rw [cut63 hlen]
    have S0 : Same H (upd H p0 (.lst (ns.map V.int))) := same_upd n0
    have L0 : upd H p0 (.lst (ns.map V.int)) p0 = some (.lst (ns.map V.int)) := upd_same
    generalize upd H p0 (.lst (ns.map V.int)) = H0 at *
    refine ⟨p0, rfl, ⟨_, SqL.of L0⟩, fun D1 nD1 => lc_list (K := K) (a := p0) (xs := ns.map V.int) (fun i H' => ∃ acc : List Int, acc.length ≤ i ∧ H' = upd H0 D1 (.lst (acc.map V.int)))
      ⟨[], Nat.le_refl _, rfl⟩ (fun i H' _ ⟨_, _, e⟩ => SqL.of (by rw [e, upd_ne (ne_of_none L0 nD1)]; exact L0)) ?_ ?_⟩
    · rintro i y H' hi ⟨acc, hl, e⟩
      obtain ⟨z, hz, rfl⟩ := map_get hi
      have hi' := (List.getElem?_eq_some_iff.mp hz).1
      refine ⟨rfl, _, rfl, .inl ⟨_, rfl, ?_⟩⟩
      refine ⟨acc.map V.int, by rw [e, upd_same], by rw [List.length_map]; exact small_lt (Nat.le_trans hl (Nat.le_of_lt (Nat.lt_of_lt_of_le hi' hlen))) (by decide), acc ++ [z], by simp; omega, ?_⟩
      rw [upd_over e, List.map_append]
      rfl
    · rintro H' ⟨cs, hcl, e⟩
      rw [List.length_map] at hcl
      have S1 : Same H H' := S0.trans (by rw [e]; exact same_upd nD1)
      have L1 : H' D1 = some (.lst (cs.map V.int)) := by rw [e, upd_same]
      clear e
      refine ⟨_, rfl, D1, rfl, ⟨_, SqL.of L1⟩, fun D2 nD2 => lc_list (K := K) (a := D1) (xs := cs.map V.int) (fun i H2 => ∃ acc : List Int, acc.length ≤ i ∧ H2 = upd H' D2 (.lst (acc.map V.int)))
        ⟨[], Nat.le_refl _, rfl⟩ (fun i H2 _ ⟨_, _, e⟩ => SqL.of (by rw [e, upd_ne (ne_of_none L1 nD2)]; exact L1)) ?_ ?_⟩
      · rintro i y H2 hi ⟨acc, hl, e⟩
        obtain ⟨z, hz, rfl⟩ := map_get hi
        have hi' := (List.getElem?_eq_some_iff.mp hz).1
        refine ⟨rfl, ?_⟩
        refine ⟨_, rfl, _, rfl, _, _, rfl, rfl, ⟨by decide, by decide, by decide⟩, _, _, rfl, rfl, _, rfl, ?_⟩
        refine ite2 (fun _ => ?_) (fun _ => ?_)
        · refine ⟨_, rfl, _, rfl, ?_⟩
          refine ⟨acc.map V.int, by rw [e, upd_same], by rw [List.length_map]; exact small_lt (m := 63) (by omega) (by decide), acc ++ [if z < 0 then -z else z], by simp; omega, ?_⟩
          rw [upd_over e, List.map_append]
          rfl
        · exact ⟨acc, by omega, e⟩
      · rintro H2 ⟨gs, hgl, e⟩
        have S2 : Same H H2 := S1.trans (by rw [e]; exact same_upd nD2)
        have L12 : H2 D1 = some (.lst (cs.map V.int)) := by rw [e, upd_ne (ne_of_none L1 nD2)]; exact L1
        have L2' : H2 D2 = some (.lst (gs.map V.int)) := by rw [e, upd_same]
        have fD2 : H D2 = none := S1.free nD2
        clear e
        refine ⟨_, rfl, D1, rfl, ⟨_, SqL.of L12⟩, fun D3 nD3 => lc_list (K := K) (a := D1) (xs := cs.map V.int) (fun i H3 => ∃ acc : List Int, acc.length ≤ i ∧ H3 = upd H2 D3 (.lst (acc.map V.int)))
          ⟨[], Nat.le_refl _, rfl⟩ (fun i H3 _ ⟨_, _, e⟩ => SqL.of (by rw [e, upd_ne (ne_of_none L12 nD3)]; exact L12)) ?_ ?_⟩
        · rintro i y H3 hi ⟨acc, hl, e⟩
          obtain ⟨z, hz, rfl⟩ := map_get hi
          have hi' := (List.getElem?_eq_some_iff.mp hz).1
          refine ⟨rfl, ?_⟩
          refine ⟨_, rfl, _, rfl, _, _, rfl, rfl, ⟨by decide, by decide, by decide⟩, _, _, rfl, rfl, _, rfl, ?_⟩
          refine ite2 (fun _ => ?_) (fun _ => ?_)
          · refine ⟨_, rfl, .inl ⟨_, rfl, _, _, rfl, rfl, (show (0 : Int) < 1000000007 by decide), ?_⟩⟩
            refine ⟨acc.map V.int, by rw [e, upd_same], by rw [List.length_map]; exact small_lt (m := 63) (by omega) (by decide), acc ++ [z % 1000000007], by simp; omega, ?_⟩
            rw [upd_over e, List.map_append]
            rfl
          · exact ⟨acc, by omega, e⟩
        · rintro H3 ⟨ss, hsl, e⟩
          rw [List.length_map] at hsl
          have S3 : Same H2 H3 := by rw [e]; exact same_upd nD3
          have L3 : H3 D3 = some (.lst (ss.map V.int)) := by rw [e, upd_same]
          clear e
          -- + [len(cells) + 1]
          refine ⟨_, rfl, _, _, rfl, .inl (SqL.of (S3 _ _ L12)), _, _, rfl, rfl, (by show 1 ≤ sizeLine; decide), fun p4 n4 => ?_⟩
          have S4 : Same H3 (upd H3 p4 (.lst [V.int (((cs.map V.int).length : Nat) + 1)])) := same_upd n4
          have L4 : upd H3 p4 (.lst [V.int (((cs.map V.int).length : Nat) + 1)]) p4 = some (.lst [V.int (((cs.map V.int).length : Nat) + 1)]) := upd_same
          refine ⟨D3, p4, _, _, rfl, rfl, S4 _ _ L3, L4, by rw [List.length_map, sizeLine_eq]; simp; omega, fun p5 n5 => ?_⟩
          generalize upd H3 p4 (.lst [V.int (((cs.map V.int).length : Nat) + 1)]) = H4 at *
          have S5 : Same H4 (upd H4 p5 (.lst ((ss ++ [((cs.map V.int).length : Int) + 1]).map V.int))) := same_upd n5
          have L5 : upd H4 p5 (.lst ((ss ++ [((cs.map V.int).length : Int) + 1]).map V.int)) p5 = some (.lst ((ss ++ [((cs.map V.int).length : Int) + 1]).map V.int)) := upd_same
          have e5 : (ss.map V.int ++ [V.int (((cs.map V.int).length : Nat) + 1)]) = (ss ++ [((cs.map V.int).length : Int) + 1]).map V.int := by rw [List.map_append]; rfl
          rw [e5]
          generalize hss : ss ++ [((cs.map V.int).length : Int) + 1] = s5 at *
          have hs5 : 0 < s5.length := by rw [← hss]; simp
          generalize upd H4 p5 (.lst (s5.map V.int)) = H5 at *
          -- return [greats, smalls, 0, int(sum(smalls)) % 999983]
          refine ⟨_, rfl, _, rfl, _, rfl, _, s5, rfl, SqL.of L5, .inl ⟨_, rfl, _, _, rfl, rfl, (show (0 : Int) < 999983 by decide), (by show 4 ≤ sizeLine; decide), fun p6 n6 => ?_⟩⟩
          have S6 : Same H5 (upd H5 p6 (.lst [.ref D2, .ref p5, .int 0, .int (s5.sum % 999983)])) := same_upd n6
          have S25 : Same H2 H5 := (S3.trans S4).trans S5
          have L25 := S25 _ _ L2'
          have f5 : H p5 = none := ((S2.trans S3).trans S4).free n5
          have f6 : H p6 = none := (S2.trans S25).free n6
          refine k _ p6 D2 p5 ⟨⟨gs, s5, 0, s5.sum % 999983, upd_same, S6 _ _ L25, S6 _ _ L5, hs5⟩, ?_, ?_, ?_⟩ ((S2.trans S25).trans S6) f6 fD2 f5
          · exact (ne_of_none L25 n6).symm
          · exact (ne_of_none L5 n6).symm
          · exact ne_of_none ((S3.trans S4) _ _ L2') n5
end Kk

set_option maxHeartbeats 2000000
namespace Kk
open PySem PySem.Spec PyProof.Rows L2 Wd
abbrev sv (n : Nm) : V := .str (str n)
abbrev wv (w : W) : V := .str (enc w)
theorem str_cons (c : Nat) (n : Nm) : (⟨#[c]⟩ : Str) ++ str n = str (c :: n) := TL.ext_tl (by rw [TL.tl_append]; rfl)
theorem len_str (n : Nm) : (str n).length = n.length := by rw [TL.len_tl]; rfl
theorem flat_sv (us : List Nm) : (us.map sv).all flatV = true := by
  rw [List.all_eq_true]
  intro x hx
  obtain ⟨n, _, rfl⟩ := List.mem_map.mp hx
  rfl
theorem eq_sv (a b : Nm) : eqV (sv a) (sv b) = decide (a = b) := by
  show (str a == str b) = _
  by_cases h : a = b
  · subst h; simp
  · have h' : ¬ str a = str b := fun e => h (str_inj e)
    rw [decide_eq_false h]; exact beq_eq_false_iff_ne.mpr h'
theorem in_sv (n : Nm) (us : List Nm) : inV (sv n) (us.map sv) = decide (n ∈ us) := by
  unfold inV
  induction us with
  | nil => simp
  | cons a us ih =>
    rw [List.map_cons, List.any_cons, ih, eq_sv]
    by_cases h : a = n
    · subst h; simp
    · by_cases g : n ∈ us
      · simp [h, g]
      · simp [h, g, Ne.symm h]
def spLetters : Sp := fun vs H Q _ => ∃ n : Nat, vs = [.int (n : Int)] ∧ n + 1 ≤ 217180147158 ∧ Q (sv (lett n)) H
abbrev s_letters : Stmt := (top 46)
theorem sc_letters : FnScope ["_law_number", "_law_found", "_law_left", "_law_turn"] ["_law_number"] (defScope s_letters) := ⟨rfl, rfl, rfl, by decide +kernel, rfl, by decide +kernel, by decide +kernel⟩
theorem c_letters {P w K mg base} (B : Bt mg) (D : DefAt K mg "_law_letters" s_letters) : Cal P w K mg base "_law_letters" 1 ["_law_number"] spLetters := by
  refine cal_of D sc_letters (fun _ _ _ _ _ _ us hl => match us, hl with | [_], _ => rfl) (fun vs H Q E h => ?_) (fun f cdv A outer st0 H vs Q E hr h => ?_)
  · obtain ⟨n, rfl, _⟩ := h
    rfl
  · obtain ⟨n, rfl, hn, k⟩ := h
    refine ⟨_, (pss_cons (ps_set (i := 1) sc_letters.nd rfl (by first | exact Or.inl rfl | exact Or.inr rfl) pe_str)
      (pss_cons (ps_set (i := 2) sc_letters.nd rfl (by first | exact Or.inl rfl | exact Or.inr rfl) (pe_op op_add (pv 0) pe_int))
      (pss_cons (ps_for PassesOwn.never rfl (pi_range1 (by rfl) B.b_range (pa_cons pe_int pa_nil)) (pg_name (i := 3) sc_letters.nd rfl (by first | exact Or.inl rfl | exact Or.inr rfl)) (pss_one (ps_if (pt_cmpR op_gt (pv 2) pe_int (nomark _)) (pss_cons (ps_set (i := 2) sc_letters.nd rfl (by first | exact Or.inl rfl | exact Or.inr rfl) (pe_op op_sub (pv 2) pe_int))
      (pss_cons (ps_set (i := 1) sc_letters.nd rfl (by first | exact Or.inl rfl | exact Or.inr rfl) (pe_op op_add_str (pe_ix ix_str pe_str (pe_op op_mod (pe_callTy call_int1 (by rfl) B.b_int (by decide +kernel) (pa_cons (pv 2) pa_nil)) pe_int) (fun _ _ => rfl)) (pv 1)))
      (pss_one (ps_set (i := 2) sc_letters.nd rfl (by first | exact Or.inl rfl | exact Or.inr rfl) (pe_op op_fdiv (pv 2) pe_int))))) pss_nil)))
      (pss_one (ps_ret (pv 1)))))), ?_⟩
    refine ⟨_, rfl, _, _, rfl, rfl, 9, rfl, by decide, by decide, for_range (n := 9) (fun i σ H' => H' = H ∧ ∃ v : Option V, σ = [some (.int (n : Int)), some (sv (itr i (n + 1, [])).2), some (.int (((itr i (n + 1, [])).1 : Nat) : Int)), v])
      ⟨rfl, none, rfl⟩ ?_ ?_⟩
    · rintro i σ H' hi ⟨rfl, v, rfl⟩
      have L := LI.itr (n + 1) i
      have e : itr (i + 1) (n + 1, []) = stp (itr i (n + 1, [])) := rfl
      rw [e]
      generalize itr i (n + 1, []) = s at *
      refine ⟨_, rfl, _, _, rfl, rfl, _, rfl, ?_⟩
      refine ite2 (fun hc => ?_) (fun hc => ?_)
      · have hp : 0 < s.1 := by have := of_decide_eq_true hc; omega
        have e1 : stp s = ((s.1 - 1) / 26, (97 + (s.1 - 1) % 26) :: s.2) := if_pos hp
        have r1 : (s.1 - 1) % 26 < 26 := Nat.mod_lt _ (by decide)
        refine ⟨_, rfl, _, _, rfl, rfl, _, rfl, .inl ⟨_, rfl, _, _, rfl, rfl, (show (0 : Int) < 26 by decide), _, _, 97 + (s.1 - 1) % 26, rfl, rfl, ?_, ?_, ?_⟩⟩
        · rw [sizeLine_eq]; decide +kernel
        · refine atI_int (Int.emod_nonneg _ (by decide)) ?_
          have e2 : (((s.1 : Nat) : Int) - 1) % 26 = (((s.1 - 1) % 26 : Nat) : Int) := by omega
          rw [e2]
          exact alpha _ r1
        · refine ⟨_, rfl, _, _, rfl, rfl, ?_, ?_⟩
          · rw [len_str, sizeLine_eq]
            have := L.l
            show 1 + _ ≤ _
            omega
          · rw [str_cons]
            refine ⟨_, rfl, _, _, rfl, rfl, ⟨by decide, by decide⟩, rfl, some (.int ((0 : Int) + (i : Int))), ?_⟩
            rw [e1]
            have e3 : (((s.1 : Nat) : Int) - 1) / 26 = (((s.1 - 1) / 26 : Nat) : Int) := by omega
            show [some (V.int (n : Int)), some (sv _), some (V.int ((((s.1 : Nat) : Int) - 1) / 26)), some (V.int (0 + (i : Int)))] = _
            rw [e3]
      · have hz : ¬ 0 < s.1 := fun hp => hc (decide_eq_true (by omega))
        have e1 : stp s = s := if_neg hz
        exact ⟨rfl, some (.int ((0 : Int) + (i : Int))), by rw [e1]; rfl⟩
    · rintro σ H' ⟨rfl, v, rfl⟩
      exact ⟨_, rfl, k⟩
def spFresh : Sp := fun vs H Q _ => ∃ (p g s u : Addr) (us : List Nm), vs = [.ref p, .ref u] ∧ PotAt H p g s ∧ H u = some (.lst (us.map sv)) ∧ us.length ≤ 1100 ∧ u ≠ p ∧ u ≠ g ∧
  ∀ (H' : Hp) (n : Nm), nmOk n → n ∉ us → PotAt H' p g s → H' u = some (.lst ((us ++ [n]).map sv)) → (∀ b o, H b = some o → b ≠ p → b ≠ g → b ≠ u → H' b = some o) → Q (sv n) H'
abbrev s_fresh : Stmt := (top 47)
theorem sc_fresh : FnScope ["_law_pot_here", "_law_used", "_law_start", "_law_name", "_law_turn"] ["_law_pot_here", "_law_used"] (defScope s_fresh) := ⟨rfl, rfl, rfl, by decide +kernel, rfl, by decide +kernel, by decide +kernel⟩
theorem PotAt.su {H : Hp} {p g s u : Addr} (h : PotAt H p g s) {us : List Nm} (hu : H u = some (.lst (us.map sv))) : u ≠ s := by
  obtain ⟨⟨G, S, t, r, h1, h2, h3, h4⟩, _, _, _⟩ := h
  intro e
  rw [e, h3] at hu
  have := HO.lst.inj (Option.some.inj hu)
  cases S with
  | nil => simp at h4
  | cons a S => cases us <;> simp at this
theorem PotAt.wr {H : Hp} {p g s u : Addr} {o : HO} (h : PotAt H p g s) (h1 : u ≠ p) (h2 : u ≠ g) (h3 : u ≠ s) : PotAt (upd H u o) p g s :=
  h.off fun b x e hb => by
    rcases hb with rfl | rfl | rfl
    · rw [upd_ne h1.symm]; exact e
    · rw [upd_ne h2.symm]; exact e
    · rw [upd_ne h3.symm]; exact e
theorem c_fresh {P w K mg base} (B : Bt mg) (D : DefAt K mg "_law_fresh" s_fresh) (C_law_draw : Cal P w K mg base "_law_draw" 1 ["_law_pot_here", "_law_many"] spDraw) (C_law_letters : Cal P w K mg base "_law_letters" 1 ["_law_number"] spLetters) :
    Cal P w K mg base "_law_fresh" 2 ["_law_pot_here", "_law_used"] spFresh := by
  refine cal_of D sc_fresh (fun _ _ _ _ _ _ us hl => match us, hl with | [_, _], _ => rfl) (fun vs H Q E h => ?_) (fun f cdv A outer st0 H vs Q E hr h => ?_)
  · obtain ⟨p, g, s, u, us, rfl, _⟩ := h
    rfl
  · obtain ⟨p, g, s, u, us, rfl, PA, hu, hlen, hup, hug, k⟩ := h
    refine ⟨_, (pss_cons (ps_set (i := 2) sc_fresh.nd rfl (by first | exact Or.inl rfl | exact Or.inr rfl) (pe_c C_law_draw (hr.mono (by decide)) (pa_cons (pv 0) (pa_cons pe_int pa_nil))))
      (pss_cons (ps_if (pt_cmpR op_eq (pe_c C_law_draw (hr.mono (by decide)) (pa_cons (pv 0) (pa_cons pe_int pa_nil))) pe_int (nomark _)) (pss_one (ps_set (i := 2) sc_fresh.nd rfl (by first | exact Or.inl rfl | exact Or.inr rfl) (pe_c C_law_draw (hr.mono (by decide)) (pa_cons (pv 0) (pa_cons pe_int pa_nil))))) pss_nil)
      (pss_cons (ps_set (i := 3) sc_fresh.nd rfl (by first | exact Or.inl rfl | exact Or.inr rfl) pe_str)
      (pss_cons (ps_for PassesOwn.never rfl (pi_range1 (by rfl) B.b_range (pa_cons (pe_op op_add (pe_callB call_len_seq (by rfl) B.b_len (by decide +kernel) (pa_cons (pv 1) pa_nil)) pe_int) pa_nil)) (pg_name (i := 4) sc_fresh.nd rfl (by first | exact Or.inl rfl | exact Or.inr rfl)) (pss_cons (ps_set (i := 3) sc_fresh.nd rfl (by first | exact Or.inl rfl | exact Or.inr rfl) (pe_c C_law_letters (hr.mono (by decide)) (pa_cons (pe_op op_add (pv 2) (pv 4)) pa_nil)))
      (pss_one (ps_if (pt_cmpR op_notIn_seq (pv 3) (pv 1) (by rfl)) (pss_one ps_break) pss_nil))))
      (pss_cons (ps_expr (pe_bm PySem.F.plainAttrs_list PySem.F.slot_list_append PySem.F.type_list_append mt_append (pv 1) (pa_cons (pv 3) pa_nil)))
      (pss_one (ps_ret (pv 3)))))))), ?_⟩
    refine ⟨_, rfl, p, g, s, 30, rfl, PA, by decide, by decide, fun H1 z PA1 K1 z0 z1 => ?_⟩
    refine ⟨_, rfl, p, g, s, 2, rfl, PA1, by decide, by decide, fun H2 y PA2 K2 y0 y1 => ?_⟩
    refine ⟨rfl, _, rfl, ?_⟩
    refine ite2 (fun _ => ?ga) (fun _ => ?gb)
    case' ga =>
      refine ⟨_, rfl, p, g, s, 217180140000, rfl, PA2, by decide, by decide, fun H3 x PA3 K3 x0 x1 => ?_⟩
      have K03 : Keep p g H H3 := (K1.trans K2).trans K3
    case' gb =>
      have PA3 := PA2
      have K03 : Keep p g H H2 := K1.trans K2
      have x0 := z0
      have x1 : z < 217180140000 := by omega
      generalize H2 = H3 at *
      generalize z = x at *
    all_goals
      have hu3 := K03 _ _ hu hup hug
      obtain ⟨m, rfl⟩ : ∃ m : Nat, x = (m : Int) := ⟨x.toNat, by omega⟩
      have en : ((((us.map sv).length : Nat) : Int) + 1).toNat = us.length + 1 := by rw [List.length_map]; omega
      refine ⟨_, rfl, _, _, rfl, .inl (SqL.of hu3), _, _, rfl, rfl, _, rfl, ?_, ?_, for_range (lo := 0) (n := ((((us.map sv).length : Nat) : Int) + 1).toNat) (fun i σ H' => H' = H3 ∧ (∀ j, j < i → lett (m + j) ∈ us) ∧ ∃ (z : Str) (v : Option V), σ = [some (.ref p), some (.ref u), some (.int (m : Int)), some (.str z), v])
        ⟨rfl, fun j hj => absurd hj (Nat.not_lt_zero j), _, none, rfl⟩ ?_ ?_⟩
      · rw [List.length_map]; omega
      · rw [List.length_map]; omega
      · rintro i σ H' hi ⟨rfl, hin, zz, v, rfl⟩
        rw [en] at hi
        refine ⟨_, rfl, _, rfl, _, _, rfl, rfl, m + i, ?_, by omega, ?_⟩
        · show [V.int ((m : Int) + (0 + (i : Int)))] ++ [] = _
          have e : (m : Int) + (0 + (i : Int)) = ((m + i : Nat) : Int) := by omega
          rw [e]; rfl
        · refine ⟨_, rfl, _, rfl, u, _, rfl, .inl (SqL.of hu3), rfl, flat_sv us, ?_⟩
          rw [in_sv]
          refine ⟨_, rfl, ?_⟩
          by_cases hm : lett (m + i) ∈ us
          · rw [decide_eq_true hm]
            refine iteF ?_
            refine ⟨rfl, fun j hj => ?_, _, _, rfl⟩
            by_cases hj' : j = i
            · rw [hj']; exact hm
            · exact hin j (by omega)
          · rw [decide_eq_false hm]
            refine iteT ?_
            -- used.append(name); return name
            have hus := PA3.su hu3
            refine ⟨_, rfl, .inl ⟨rfl, _, SqL.of hu3⟩, _, rfl, u, _, _, rfl, rfl, hu3, ?_, ?_⟩
            · rw [List.length_map]; exact small_lt hlen (by decide)
            · refine ⟨_, rfl, ?_⟩
              refine k _ _ (lett_ok (by omega)) hm (PA3.wr hup hug hus) ?_ ?_
              · rw [upd_same, List.map_append]; rfl
              · intro b o hb b1 b2 b3
                rw [upd_ne b3]
                exact K03 b o hb b1 b2
      · rintro σ H' ⟨rfl, hin, _⟩
        rw [en] at hin
        refine (pigeon (l := us) (f := fun j => lett (m + j)) (fun i j hi hj e => ?_) (fun i hi => hin i (by omega))).elim
        have := lett_inj (n := m + i) (m := m + j) (by omega) (by omega) e
        omega
end Kk

set_option maxHeartbeats 2000000
namespace Kk
open PySem PySem.Spec PyProof.Rows L2 Wd
def spMixed : Sp := fun vs H Q _ => ∃ (p g s r : Addr) (xs : List V), vs = [.ref p, .ref r] ∧ PotAt H p g s ∧ H r = some (.lst xs) ∧ xs.length ≤ 2000 ∧ r ≠ p ∧ r ≠ g ∧
  ∀ (H' : Hp) (q : Addr) (ys : List V), ys.Perm xs → PotAt H' p g s → H q = none → H' q = some (.lst ys) → Keep p g H H' → Q (.ref q) H'
abbrev s_mixed : Stmt := (top 48)
theorem sc_mixed : FnScope ["_law_pot_here", "_law_items", "_law_line", "_law_at", "_law_other"] ["_law_pot_here", "_law_items"] (defScope s_mixed) := ⟨rfl, rfl, rfl, by decide +kernel, rfl, by decide +kernel, by decide +kernel⟩
theorem c_mixed {P w K mg base} (B : Bt mg) (D : DefAt K mg "_law_mixed" s_mixed) (C_law_draw : Cal P w K mg base "_law_draw" 1 ["_law_pot_here", "_law_many"] spDraw) :
    Cal P w K mg base "_law_mixed" 2 ["_law_pot_here", "_law_items"] spMixed := by
  refine cal_of D sc_mixed (fun _ _ _ _ _ _ us hl => match us, hl with | [_, _], _ => rfl) (fun vs H Q E h => ?_) (fun f cdv A outer st0 H vs Q E hr h => ?_)
  · obtain ⟨p, g, s, r, xs, rfl, _⟩ := h
    rfl
  · obtain ⟨p, g, s, r, xs, rfl, PA, hx, hlen, hrp, hrg, k⟩ := h
    refine ⟨_, (pss_cons (ps_set (i := 2) sc_mixed.nd rfl (by first | exact Or.inl rfl | exact Or.inr rfl) (pe_callTy call_list_of (by rfl) B.b_list (by decide +kernel) (pa_cons (pv 1) pa_nil)))
      (pss_cons (ps_for PassesOwn.never rfl (pi_range1 (by rfl) B.b_range (pa_cons (pe_callB call_len_seq (by rfl) B.b_len (by decide +kernel) (pa_cons (pv 2) pa_nil)) pa_nil)) (pg_name (i := 3) sc_mixed.nd rfl (by first | exact Or.inl rfl | exact Or.inr rfl)) (pss_cons (ps_set (i := 4) sc_mixed.nd rfl (by first | exact Or.inl rfl | exact Or.inr rfl) (pe_c C_law_draw (hr.mono (by decide)) (pa_cons (pv 0) (pa_cons (pe_callB call_len_seq (by rfl) B.b_len (by decide +kernel) (pa_cons (pv 2) pa_nil)) pa_nil))))
      (pss_one (ps_asg (pe_tup (pa_cons (pe_ix ix_list (pv 2) (pv 4) (fun _ _ => rfl)) (pa_cons (pe_ix ix_list (pv 2) (pv 3) (fun _ _ => rfl)) pa_nil))) (pg_tup (by rfl) (pgs_cons (pg_sub (pv 2) (pv 3) set_list) (pgs_cons (pg_sub (pv 2) (pv 4) set_list) pgs_nil)))))))
      (pss_one (ps_ret (pv 2))))), ?_⟩
    refine ⟨_, rfl, _, _, rfl, .inl (SqL.of hx), fun l nl => ?_⟩
    have S1 : Same H (upd H l (.lst xs)) := same_upd nl
    have L1 : upd H l (.lst xs) l = some (.lst xs) := upd_same
    have PA1 := PA.keep S1
    generalize upd H l (.lst xs) = H1 at *
    obtain ⟨⟨G, S, t, rr, z1, z2, z3, z4⟩, _, _, _⟩ := id PA
    have hlp : l ≠ p := (ne_of_none z1 nl).symm
    have hlg : l ≠ g := (ne_of_none z2 nl).symm
    have hls : l ≠ s := (ne_of_none z3 nl).symm
    have en : ((xs.length : Nat) : Int).toNat = xs.length := by omega
    refine ⟨_, rfl, _, _, rfl, .inl (SqL.of L1), _, rfl, ?_, ?_, for_range (lo := 0) (n := ((xs.length : Nat) : Int).toNat) (fun i σ H' => ∃ (ys : List V) (v1 v2 : Option V), σ = [some (.ref p), some (.ref r), some (.ref l), v1, v2] ∧ ys.Perm xs ∧ PotAt H' p g s ∧ H' l = some (.lst ys) ∧ Keep p g H H')
      ⟨xs, none, none, rfl, List.Perm.refl _, PA1, L1, Same.keep S1⟩ ?_ ?_⟩
    · omega
    · omega
    · rintro i σ H' hi ⟨ys, v1, v2, rfl, hp, PA2, L2', K2⟩
      rw [en] at hi
      have hyl := hp.length_eq
      have hlm : (ys.length : Int) = (xs.length : Int) := by rw [hyl]
      refine ⟨_, rfl, _, rfl, _, _, rfl, .inl (SqL.of L2'), p, g, s, _, rfl, PA2, ?_, ?_, fun H3 j PA3 K3 j0 j1 => ?_⟩
      · rw [hlm]; omega
      · rw [hlm]
        have : (2000 : Nat) < 2 ^ 200 := by decide +kernel
        omega
      · rw [hlm] at j1
        have L3 := K3 _ _ L2' hlp hlg
        have hjl : j.toNat < ys.length := by omega
        have hil : i < ys.length := by omega
        have aj : atI ys j = some ys[j.toNat] := atI_int j0 (List.getElem?_eq_getElem hjl)
        have ai : atI ys ((0 : Int) + (i : Int)) = some ys[i] := at_of (j := i) (by omega) (List.getElem?_eq_getElem hil)
        refine ⟨_, rfl, _, rfl, _, _, _, _, rfl, rfl, SqL.of L3, aj, _, rfl, _, rfl, _, _, _, _, rfl, rfl, SqL.of L3, ai, (by show 2 ≤ sizeLine; decide), fun T nT => ?_⟩
        have K4 : Keep p g H (upd H3 T (.tup [ys[j.toNat], ys[i]])) := K2.trans (K3.trans (Same.keep (same_upd nT)))
        have PA4 : PotAt (upd H3 T (.tup [ys[j.toNat], ys[i]])) p g s := PA3.keep (same_upd nT)
        have L4 : upd H3 T (.tup [ys[j.toNat], ys[i]]) l = some (.lst ys) := same_upd nT _ _ L3
        have T4 : upd H3 T (.tup [ys[j.toNat], ys[i]]) T = some (.tup [ys[j.toNat], ys[i]]) := upd_same
        generalize upd H3 T (.tup [ys[j.toNat], ys[i]]) = H4 at *
        refine ⟨T, _, rfl, SqT.of T4, rfl, _, _, rfl, ?_⟩
        refine ⟨_, rfl, _, rfl, l, _, _, i, rfl, rfl, L4, ?_, ?_⟩
        · have e : (0 : Int) + (i : Int) = (i : Int) := by omega
          rw [e]; exact ixN_lt hil
        · have L5 : upd H4 l (.lst (ys.set i ys[j.toNat])) l = some (.lst (ys.set i ys[j.toNat])) := upd_same
          refine ⟨_, _, rfl, _, rfl, _, rfl, l, _, _, j.toNat, rfl, rfl, L5, ?_, rfl, ?_⟩
          · rw [List.length_set]; exact ixN_int j0 (by omega)
          · refine ⟨(ys.set i ys[j.toNat]).set j.toNat ys[i], _, _, rfl, (swap_perm ys i j.toNat hil hjl).trans hp, (PA4.wr hlp hlg hls).wr hlp hlg hls, ?_, ?_⟩
            · exact upd_same
            · intro b o hb b1 b2
              have hbl : b ≠ l := ne_of_none hb nl
              rw [upd_ne hbl, upd_ne hbl]
              exact K4 b o hb b1 b2
    · rintro σ H' ⟨ys, v1, v2, rfl, hp, PA2, L2', K2⟩
      exact ⟨_, rfl, k _ l ys hp PA2 nl L2' K2⟩
/-- the same of names -/
def spMixedN : Sp := fun vs H Q _ => ∃ (p g s r : Addr) (xs : List Nm), vs = [.ref p, .ref r] ∧ PotAt H p g s ∧ H r = some (.lst (xs.map sv)) ∧ xs.length ≤ 2000 ∧ r ≠ p ∧ r ≠ g ∧
  ∀ (H' : Hp) (q : Addr) (ys : List Nm), ys.Perm xs → PotAt H' p g s → H q = none → H' q = some (.lst (ys.map sv)) → Keep p g H H' → Q (.ref q) H'
def svInv : V → Nm
  | .str z => TL.tl z
  | _ => []
theorem sv_back (xs : List Nm) : (xs.map sv).map svInv = xs := by
  rw [List.map_map]
  exact (List.map_congr_left (fun n _ => rfl)).trans (List.map_id _)
theorem perm_sv {ys : List V} {xs : List Nm} (h : ys.Perm (xs.map sv)) : ∃ ns : List Nm, ys = ns.map sv ∧ ns.Perm xs := by
  refine ⟨ys.map svInv, ?_, by have := h.map svInv; rwa [sv_back] at this⟩
  rw [List.map_map]
  refine ((List.map_congr_left fun y hy => ?_).trans (List.map_id _)).symm
  obtain ⟨n, _, rfl⟩ := List.mem_map.mp (h.mem_iff.mp hy)
  rfl
theorem c_mixed__N {P w K mg base} (C_law_mixed : Cal P w K mg base "_law_mixed" 2 ["_law_pot_here", "_law_items"] spMixed) : Cal P w K mg base "_law_mixed" 2 ["_law_pot_here", "_law_items"] spMixedN := by
  refine C_law_mixed.imp fun vs H Q E h => ?_
  obtain ⟨p, g, s, r, xs, rfl, P1, h1, hl, n1, n2, k⟩ := h
  refine ⟨p, g, s, r, xs.map sv, rfl, P1, h1, by rw [List.length_map]; exact hl, n1, n2, fun H' q ys hp P2 nq hq kp => ?_⟩
  obtain ⟨ns, rfl, hn⟩ := perm_sv hp
  exact k H' q ns hn P2 nq hq kp
end Kk

namespace PySem
open Sem (wp)
open AutoSeq1 (wpAny_loadPart')
set_option maxHeartbeats 1000000 in
theorem kk_meets_enum {v : Value} {o : Obj} {H : Heap → Prop} (B : Begins v o H) :
    Meets (Builtin.«enumerate.__new__» ⟨[.type "enumerate", v], []⟩) (fun _ R s => H s.heap ∧
      R (.ok (.ret (.ref (s.heap.push o).objs.size))) { s with heap := (s.heap.push o).push { cls := .type "enumerate", data := .fields #[.none, .bool false, .ref s.heap.objs.size, rawInt 0, .none, .none] } }) :=
  .of_wp fun prog w A R s h => by
    obtain ⟨hp, g, d, tk, os⟩ := s; obtain ⟨h1, h⟩ := h
    have hsub := sub_enumerate
    have q1 : ∀ {A' : Around} {E : Value → Shared → Prop} {Q : Value → Shared → Prop}, Q (.ref hp.objs.size) ⟨hp.push o, g, d, tk, os⟩ → wpAny (model prog w) A' (pyIter v) Q E ⟨hp, g, d, tk, os⟩ :=
      fun q => B.iter prog w _ _ ⟨hp, g, d, tk, os⟩ _ h1 q
    wp_walk using q1
    refine wpAny_stack_any fun st => wpAny_pure ?_
    split
    · rename_i c _ _ _ _ _
      cases (c == Value.type "enumerate")
      · wp_walk using q1
        exact ⟨_, rfl, h⟩
      · wp_walk using q1
        exact ⟨_, rfl, h⟩
    · wp_walk using q1
      exact ⟨_, rfl, h⟩
section
variable {prog : Program} {w : World} {A : Around} {E : Value → Shared → Prop} {s : Shared}
theorem kk_call_enum {v : Value} {o : Obj} {H : Heap → Prop} {Q : Value → Shared → Prop} (B : Begins v o H) (h1 : H s.heap)
    (h : ∀ h', IsEnum h' (s.heap.objs.size + 1) s.heap.objs.size 0 .none → h'.get? s.heap.objs.size = some o → h'.objs.size = s.heap.objs.size + 2 →
      (∀ b o, s.heap.get? b = some o → h'.get? b = some o) → Q (.ref (s.heap.objs.size + 1)) { s with heap := h' }) :
    wpAny (model prog w) A (call (.type "enumerate") [v]) Q E s := by
  refine callType_new F.called_enumerate (by decide) (F.typeCall_enumerate_1 _) (F.newCall_enumerate_1 _) (fun obj => F.args_object_init_2 obj _) F.entry_enumerate_new
    (kk_meets_enum B) ⟨h1, ?_⟩
  have hz : (s.heap.push o).objs.size = s.heap.objs.size + 1 := Heap.size_push ..
  show _ ∧ _
  rw [hz]
  have he : IsEnum ((s.heap.push o).push { cls := .type "enumerate", data := .fields #[.none, .bool false, .ref s.heap.objs.size, rawInt 0, .none, .none] }) (s.heap.objs.size + 1) s.heap.objs.size 0 .none := by
    have := Heap.get?_push_size (s.heap.push o) (o := { cls := .type "enumerate", data := .fields #[.none, .bool false, .ref s.heap.objs.size, rawInt 0, .none, .none] }) rfl
    rw [hz] at this; exact this
  refine ⟨⟨_, he, rfl⟩, h _ he (Heap.get?_push_of_some _ (Heap.get?_push_size _ B.free)) (by rw [Heap.size_push, hz]) fun b o x => Heap.get?_push_of_some _ (Heap.get?_push_of_some _ x)⟩
end
end PySem
namespace Kk
open PySem PySem.Spec PyProof.Rows L2
/-- the tuple at a, each item in a new pair -/
def IteT (K : PySem.W.Frag) (a : Addr) : It :=
  ⟨fun i H => ∃ (xs : List V) (x : V), SqT K H a xs ∧ xs[i]? = some x, fun i H v H' => ∃ T x, v = .ref T ∧ H T = none ∧ H' = upd H T (.tup [.int (i : Nat), x]) ∧ ∀ xs, SqT K H a xs → xs[i]? = some x, fun i H => ∃ xs : List V, SqT K H a xs ∧ xs.length ≤ i⟩
theorem turn_enumT {P : Program} {w : World} {K : PySem.W.Frag} {elts : List Expr} {kk : Nat} {tpos : Pos} (a e it : Addr) (hae : a ≠ e) (hai : a ≠ it) :
    Turn P w K (.Tuple elts kk tpos) (IteT K a) [e, it] e (fun i h => (∃ old, IsEnum h e it ((i : Nat) : Int) old) ∧ h.IsTupleIter it a i ∧ e ≠ it) where
  mem := by simp
  obj := fun i h st b hb => by
    obtain ⟨⟨old, he⟩, ⟨o, ho, hc, hd⟩, _⟩ := st
    have e' : b = e ∨ b = it := by simpa using hb
    rcases e' with z | z
    · rw [z]; exact ⟨_, he, fun v q => nomatch q⟩
    · rw [z]; exact ⟨o, ho, fun v q => by rw [hd] at q; cases q⟩
  keep := fun i h h' st k => let ⟨⟨old, he⟩, hi, hne⟩ := st; ⟨⟨old, k e (by simp) _ he⟩, hi.at fun o q => k it (by simp) o q, hne⟩
  item := by
    intro X hP hw hK hc i pins s σ H E I hf st hg
    subst hP hw hK
    obtain ⟨⟨old, he⟩, hit, hne⟩ := st
    obtain ⟨xs, x, hq, hx⟩ := hg
    obtain ⟨its, rv, p, hz⟩ := I.tuple hq
    obtain ⟨u, hu, ru⟩ := rv.get hx
    have hel : e < s.heap.objs.size := Heap.lt_size he
    have hil : it < s.heap.objs.size := by obtain ⟨_, q, _⟩ := hit; exact Heap.lt_size q
    have hlt : i < its.toArray.size := by
      have := (List.getElem?_eq_some_iff.mp hu).1
      simpa using this
    have D := Draws.tuple (prog := X.prog) (w := X.w) (A := X.A.in1) (I.ok.hd hc) it a hai its.toArray
    refine wpAny_pyNext_enum_itemD D he ⟨hit, p⟩ hlt hne (by simp [hne, hae.symm]) fun y h' tk hy ho hst hT hsz hk => ?_
    have ey : y = u := by
      have h2 : its[i]? = some y := by simpa using hy
      rw [hu] at h2; exact (Option.some.inj h2).symm
    subst ey
    refine ⟨_, rfl, wpAny_letOwnedTupleGo_enum (s := { s with heap := h', toks := tk + 1 }) ho fun h'' he' sb => ?_⟩
    have hT2 : h''.get? s.heap.objs.size = some { cls := .type "tuple", data := .seq #[.int i tk, y] } := (sb.2 _ (Nat.ne_of_gt hel)).trans hT
    have new : ObjOk X.prog X.w (upd H s.heap.objs.size (.tup [.int (i : Nat), x])) h'' s.heap.objs.size (.tup [.int (i : Nat), x]) :=
      ⟨by show 2 ≤ sizeLine; decide, [.int i tk, y], .cons ⟨_, rfl⟩ (.cons ru .nil), ⟨_, hT2, rfl, _, rfl⟩⟩
    have I1 : Inv X pins σ (upd H s.heap.objs.size (.tup [.int (i : Nat), x])) { s with heap := h'', toks := tk + 1 } :=
      I.turnedNew (ch := [e, it]) (fun b ob hb q => (sb.2 b (fun z => hb (by simp [z]))).trans (hk b ob (fun z => hb (by simp [z])) (fun z => hb (by simp [z])) q)) hf (Nat.le_refl _) new
    refine ⟨.ref s.heap.objs.size, _, I1, rfl, ⟨_, x, rfl, I.hok.fresh (Nat.le_refl _), rfl, fun ys hy' => by rw [I.tuple_inj hy' hq]; exact hx⟩, ⟨⟨y, ?_⟩, hst.1.at fun o q => (sb.2 it (Ne.symm hne)).trans q, hne⟩, fun b hb => ?_⟩
    · have e1 : ((i + 1 : Nat) : Int) = (i : Int) + 1 := by omega
      rw [e1]; exact he'
    · have hb' : b < s.heap.objs.size := by
        have e' : b = e ∨ b = it := by simpa using hb
        rcases e' with z | z
        · rw [z]; exact hel
        · rw [z]; exact hil
      rw [upd_ne (Nat.ne_of_lt hb')]
      exact (hf b hb).1
  done := by
    intro X hP hw hK hc i pins s σ H E I hf st hg
    subst hP hw hK
    obtain ⟨⟨old, he⟩, hit, hne⟩ := st
    obtain ⟨xs, hq, hx⟩ := hg
    obtain ⟨its, rv, p, hz⟩ := I.tuple hq
    obtain ⟨f0, f1, f2, f3, f4, f5⟩ := hf it (by simp)
    have hl := rv.length
    have hT : s.TypeIs (.ref e) "enumerate" := ⟨_, he, rfl⟩
    have D := Draws.tuple (prog := X.prog) (w := X.w) (A := X.A.in1) (I.ok.hd hc) it a hai its.toArray
    unfold pyNext
    refine wpAny_bind (wpAny_attempt (wpAny_callSpecial?_slot (name := Str.ofString "__next__") hT F.slot_enumerate_next
      (wpAny_call_entry F.slot_enumerate_next hT F.entry_enumerate_next ?_ (F.args_enumerate_next_1 _))))
    show wpAny _ _ (field (.ref e) 2 >>= _) _ _ _
    refine wpAny_bind (wpAny_field he rfl (x := .ref it) rfl ?_)
    refine wpAny_bind (wpAny_nextOf_tuple_end (I.ok.hd hc) hit p (by simp; omega) fun h' x he' hx' => ?_)
    obtain ⟨o, ho, hcs⟩ := hx'
    refine wpAny_bind (wpAny_isInstance (T := "StopIteration") (b := true) ⟨o, ho, hcs⟩ isSubtype_stop ?_)
    exact wpAny_pure ⟨rfl, I.turned (t' := s.toks) (fun b o hb q => he' b o hb q) f0 f1 f3 f4 f5⟩
  self := fun A i s Q E st h => let ⟨⟨_, he⟩, _⟩ := st; wpAny_pyIter_enum he h
def iEnumT (K : PySem.W.Frag) (ta : TA) : TI := fun σ H R => ta σ H fun vs H1 => ∃ a xs, vs = [.ref a] ∧ SqT K H1 a xs ∧ R (IteT K a) H1
theorem pi_enumT {X : Cx} {e : Expr} {ta : TA} {p pos tpos : Pos} {elts : List Expr} {kk : Nat} (hg : Gl X "enumerate") (hm : X.mg "enumerate" = none) (ha : PA X [e] ta) (hs : starEach [e] X.env = [(false, eval e X.env)] := by rfl) :
    PI X (.Tuple elts kk tpos) (.Call (.Name "enumerate" p) [e] [] pos) (iEnumT X.K ta) := by
  refine ⟨fun pins s σ H R I h => ?_⟩
  refine Call_ (ld_blt I hg hm boot_enumerate (PyProof.Rows.callWith_type1 (thn (ha.run pos pins s σ H _ I h) fun us s1 ⟨vs, H1, I1, r1, q1⟩ => ?_) hs rfl))
  obtain ⟨a, xs, ex, hq, q⟩ := q1
  subst ex
  cases r1 with
  | cons r rr =>
    cases rr
    cases r
    obtain ⟨its, rv, p', hz⟩ := I1.tuple hq
    have hal : a < s1.heap.objs.size := p'.lt
    refine kk_call_enum (begins_tuple a its.toArray) p' fun h' he hit hsz hk => wpAny_pyIter_enum he ?_
    have I2 : Inv X pins σ H1 { s1 with heap := h' } := I1.kept (t' := s1.toks) hk
    refine ⟨s1.heap.objs.size + 1, [s1.heap.objs.size + 1, s1.heap.objs.size], _, _, H1, rfl, I2, turn_enumT a (s1.heap.objs.size + 1) s1.heap.objs.size (Nat.ne_of_lt (Nat.lt_succ_of_lt hal)) (Nat.ne_of_lt hal), ⟨⟨.none, he⟩, ⟨_, hit, rfl, rfl⟩, Nat.succ_ne_self _⟩, fun b hb => ?_, q⟩
    have e' : b = s1.heap.objs.size + 1 ∨ b = s1.heap.objs.size := by simpa using hb
    have hle : s1.heap.objs.size ≤ b := by
      rcases e' with z | z
      · rw [z]; exact Nat.le_add_right _ _
      · rw [z]; exact Nat.le_refl _
    exact I1.fpOk hle (I1.hok.fresh hle)
/-- the form one uses -/
theorem for_enumT {K : PySem.W.Frag} {a : Addr} {xs : List V} {g : TG} {tb : TS} {D : Ends} {σ : L2.St} {H : Hp} (Pv : Nat → L2.St → Hp → Prop) (h0 : Pv 0 σ H) (hl : ∀ i σ H, i ≤ xs.length → Pv i σ H → SqT K H a xs)
    (hs : ∀ i x σ H T, xs[i]? = some x → Pv i σ H → H T = none → g (.ref T) σ (upd H T (.tup [.int (i : Nat), x])) fun σ2 H2 => tb { D with nx := Pv (i + 1), ct := Pv (i + 1), bk := D.nx } σ2 H2) (hd : ∀ σ H, Pv xs.length σ H → D.nx σ H) :
    ∃ W : Nat → Nat → L2.St → Hp → Prop, (∃ m, W 0 m σ H) ∧ ∀ i m σ H, W i m σ H →
      ((IteT K a).stop i H ∧ D.nx σ H) ∨ ((IteT K a).go i H ∧ ∃ N : L2.St → Hp → Prop, (∀ σ' H', N σ' H' → ∃ m', m' < m ∧ W (i + 1) m' σ' H') ∧ ∀ x H', (IteT K a).yld i H x H' → g x σ H' fun σ2 H2 => tb { D with nx := N, ct := N, bk := D.nx } σ2 H2) := by
  refine ⟨fun i m σ H => m = xs.length - i ∧ i ≤ xs.length ∧ Pv i σ H, ⟨xs.length, by simp, Nat.zero_le _, h0⟩, ?_⟩
  rintro i m σ H ⟨rfl, hi, p⟩
  have q := hl i σ H hi p
  by_cases hlt : i < xs.length
  · refine .inr ⟨⟨xs, xs[i], q, by simp [hlt]⟩, Pv (i + 1), fun σ' H' p' => ⟨xs.length - (i + 1), by omega, rfl, hlt, p'⟩, fun x H' y => ?_⟩
    obtain ⟨T, z, rfl, hT, rfl, hz⟩ := y
    exact hs i z σ H T (hz xs q) p hT
  · have e : i = xs.length := by omega
    subst e
    exact .inl ⟨⟨xs, q, Nat.le_refl _⟩, hd σ H p⟩
end Kk

/-! a set made of a list of texts -/
namespace Kk
open PySem PySem.Spec PyProof.Rows L2
section
variable {prog : Program} {w : World} {A : Around} {R : Result → Shared → Prop} {I : Addr} {fp wr : List Addr} {G : Array GenState → Array GenState → Prop} {n : Nat} {P : Nat → Value → Prop} {St : Nat → Shared → Prop}
/-- at a: the set of the first i texts -/
def SetUp (prog : Program) (w : World) (h : Heap) (a : Addr) (xs : List Str) (i : Nat) : Prop := ∃ c, (c ≤ i ∧ ((xs.take i).Nodup → c = i)) ∧ h.SetOf (mixKind prog w) a (fun k => (xs.take i).any fun x => decide (k = Sum.inr x)) c
theorem SetUp.move {h h' : Heap} {a : Addr} {xs : List Str} {i : Nat} (u : SetUp prog w h a xs i) (k : ∀ o, h.get? a = some o → h'.get? a = some o) : SetUp prog w h' a xs i := by
  obtain ⟨c, hc, z⟩ := u
  exact ⟨c, hc, setOf_at z k⟩
theorem take_any {xs : List Str} {i : Nat} {x : Str} (hx : xs[i]? = some x) (k : Key) : ((xs.take (i + 1)).any fun y => decide (k = Sum.inr y)) = (((xs.take i).any fun y => decide (k = Sum.inr y)) || decide (k = Sum.inr x)) := by
  rw [List.take_add_one, hx, List.any_append]
  simp
theorem update_texts (W : WalksS prog w A.in1 I fp wr G n P St) (S : Addr) (hSf : S ∉ fp) (xs : List Str) (hl : xs.length = n) (hn : n + 1 < scanBound)
    (hv : ∀ i v, P i v → ∃ x t, xs[i]? = some x ∧ v = .str x t) : ∀ (m i : Nat) (s : Shared), n - i = m → i ≤ n → St i s → SetUp prog w s.heap S xs i →
      (∀ s', Moved (S :: wr) G s s' → SetUp prog w s'.heap S xs n → R (.ok (.ret .none)) s') → codeAny (model prog w) A (.builtin "set.update.loop" ⟨[.ref S, .ref I], []⟩) R s := by
  have out : S ∉ wr := fun h => hSf (W.sub _ h)
  have more : ∀ b ∈ wr, b ∈ S :: wr := fun b hb => List.mem_cons_of_mem _ hb
  intro m
  induction m with
  | zero =>
    intro i s hm hi st U q
    obtain rfl : i = n := by omega
    refine codeAny_builtin PyProof.Rows.F.entry_set_update_loop ?_
    rw [Around.under_plainId PyProof.Rows.F.plain_set_update_loop _]
    show wpAny _ A.in1 (pyNext (.ref I) >>= _) _ _ s
    exact wpAny_bind (W.done s _ _ st fun s' hm' => wpAny_pure (q s' (hm'.mono more) (U.move fun o => hm'.heap S o out)))
  | succ m ih =>
    intro i s hm hi st U q
    have lt : i < n := by omega
    refine codeAny_builtin PyProof.Rows.F.entry_set_update_loop ?_
    rw [Around.under_plainId PyProof.Rows.F.plain_set_update_loop _]
    show wpAny _ A.in1 (pyNext (.ref I) >>= _) _ _ s
    refine wpAny_bind (W.item i s _ _ lt st fun v s' hP st' hm' => ?_)
    obtain ⟨x, t, hx, rfl⟩ := hv i v hP
    obtain ⟨c, hc, U'⟩ := U.move (h' := s'.heap) fun o => hm'.heap S o out
    show wpAny _ A.in1 (holding [Value.str x t] (setAdd S (.str x t)) >>= _) _ _ s'
    unfold setAdd
    refine wpAny_bind (wpAny_holding (wpAny_holding (wpAny_bind ((mixKind prog w).pyHash (k := Sum.inr x) (mixKind_str _ _ _ _) ?_))))
    refine wpAny_setAddHashed_of (knd := mixKind prog w) (s := { s' with toks := s'.toks + 1 }) (mixKind_str _ _ _ _) rfl U' (by have := hc.1; omega) fun h' sb U2 => ?_
    refine wpAny_pure ⟨plainId_quiet PyProof.Rows.F.plain_set_update_loop _, ih (i + 1) _ (by omega) lt (W.frame _ s' _ _ st' (Nat.le_succ _) fun b hb o e => (sb.2 b fun z => hSf (z ▸ hb)).trans e) ?_ fun s'' hm2 U3 => ?_⟩
    · have e : (fun k : Key => (xs.take (i + 1)).any fun y => decide (k = Sum.inr y)) = fun k => (((xs.take i).any fun y => decide (k = Sum.inr y)) || decide (k = Sum.inr x)) := funext (take_any hx)
      refine ⟨_, ⟨?_, fun nd => ?_⟩, by rw [e]; exact U2⟩
      · have := hc.1
        split <;> omega
      · have e9 : xs.take (i + 1) = xs.take i ++ [x] := by rw [List.take_add_one, hx]; rfl
        rw [e9] at nd
        have nd2 := List.nodup_append.mp nd
        have no : ((xs.take i).any fun y => decide ((Sum.inr x : Key) = Sum.inr y)) = false := by
          rw [List.any_eq_false]
          intro y hy q
          have q2 := of_decide_eq_true q
          exact nd2.2.2 y hy x (List.mem_singleton.mpr rfl) (Sum.inr.inj q2).symm
        rw [no, if_neg (by decide), hc.2 nd2.1]
    · exact q s'' (Moved.trans W.gtrans ((hm'.mono more).then_heap (Nat.le_succ _) fun b o hb e => (sb.2 b fun z => hb (by rw [z]; exact List.mem_cons_self)).trans e) hm2) U3
end
section
variable {prog : Program} {w : World} {A : Around} {E : Value → Shared → Prop} {s : Shared}
abbrev setOb (led : Bool) : Obj := { cls := .type "set", dict := none, data := .set #[] 0 (.fresh 0 0 led) }
set_option maxHeartbeats 3200000 in
theorem call_set_texts {l : Addr} {items : Array Value} {xs : List Str} {Q : Value → Shared → Prop} (hh : A.handled = none) (hl : s.heap.IsList l items) (hi : StrsAre items.toList xs) (hb : xs.length + 1 < scanBound)
    (h : ∀ (h' : Heap) (tk : Nat), SetUp prog w h' s.heap.objs.size xs xs.length → (∀ b o, s.heap.get? b = some o → h'.get? b = some o) → Q (.ref s.heap.objs.size) { s with heap := h', toks := tk }) :
    wpAny (model prog w) A (call (.type "set") [.ref l]) Q E s := by
  obtain ⟨c, tl, hmro⟩ := PySem.F.called_set.mro
  have hmade := PySem.F.called_set.made
  have hsub := PySem.F.called_set.sub
  have h1 := PySem.F.called_set.notType
  have h2 := PySem.F.called_set.canCreate
  have hct := PySem.F.typeCall_set_1 (.ref l)
  have hlen : items.size = xs.length := by rw [← Array.length_toList, StrsAre.len_eq hi]
  refine wpAny_call (codeAny_of_tree (wpAny_pure ⟨Code.quiet_builtin _ (by decide +kernel), codeAny_builtin PySem.F.entry_type_call ?_⟩))
  rw [Around.under_plain (weight_type_call_type "set" [.ref l] []) rfl]
  repeat (any_goals (first | assumption | wp_step))
  refine codeAny_mono (code_set_new_1 (.ref l) (E := E) (Q₁ := fun obj s₁ => ∃ led : Bool, obj = .ref s.heap.objs.size ∧ s₁ = { s with heap := s.heap.push { cls := .type "set", dict := none, data := .set #[] 0 (.fresh 0 0 led) } }) fun led => ⟨led, rfl, rfl⟩) fun r s₁ hr => ?_
  cases r with
  | error e => exact hr
  | ok fl =>
    cases fl with
    | next => exact hr.elim
    | brk => exact hr.elim
    | cont => exact hr.elim
    | ret obj =>
      obtain ⟨led, rfl, rfl⟩ := hr
      have hS : (s.heap.push (setOb led)).get? s.heap.objs.size = some (setOb led) := Heap.get?_push_size _ rfl
      have hT : Shared.TypeIs { s with heap := s.heap.push (setOb led) } (.ref s.heap.objs.size) "set" := ⟨_, hS, rfl⟩
      have hli := PySem.F.called_set.init.lookup
      have hbi := PySem.F.called_set.init.bind (.ref s.heap.objs.size)
      repeat (any_goals (first | assumption | wp_step))
      refine codeAny_mono (codeAny_call_builtin (R := wants (fun r s₂ => r = .none ∧ ∃ h' tk, s₂ = { s with heap := h', toks := tk } ∧ SetUp prog w h' s.heap.objs.size xs xs.length ∧ (∀ b o, s.heap.get? b = some o → h'.get? b = some o)) E)
        PySem.F.called_set.init.plain PySem.F.entry_set_init (check_set_init_1 hT ?_)) fun r₂ s₂ hr₂ => ?_
      · obtain ⟨ol, hol, hcl, nl, hdl⟩ := hl
        obtain ⟨ocls, odict, odata, oslots⟩ := ol
        simp only at hcl hdl
        subst hcl; subst hdl
        have hlS : l < s.heap.objs.size := Heap.lt_size hol
        have hol' := Heap.get?_push_of_some (h := s.heap) (setOb led) hol
        have hsls := PySem.F.sub_list_set
        have hslf := PySem.F.sub_list_frozenset
        have hne : (Value.type "list" == Value.type "dict") = false := by decide
        have hl1 : (s.heap.push (setOb led)).IsList l items := ⟨_, hol', rfl, nl, rfl⟩
        unfold Builtin.«set.__init__» noKeywords Builtin.Frozenset.updateFrom
        generalize hPI : pyIter = PI
        wp_walk
        subst hPI
        refine wpAny_pyIter_list (s := { s with heap := s.heap.push (setOb led) }) hl1 ?_
        refine wpAny_bind (wpAny_runValue ?_)
        have hneI : l ≠ (s.heap.push (setOb led)).objs.size := by rw [Heap.size_push]; exact Nat.ne_of_lt (Nat.lt_succ_of_lt hlS)
        have hSf : s.heap.objs.size ∉ [(s.heap.push (setOb led)).objs.size, l] := by
          rw [Heap.size_push]
          intro hm
          rcases List.mem_cons.mp hm with z | z
          · exact Nat.ne_of_lt (Nat.lt_succ_self _) z
          · exact Nat.ne_of_gt hlS (List.mem_singleton.mp z)
        have hval : ∀ (i : Nat) (v : Value), items[i]? = some v → ∃ x t, xs[i]? = some x ∧ v = .str x t := fun i v hv => by
          have hv' : items.toList[i]? = some v := by rw [Array.getElem?_toList]; exact hv
          obtain ⟨t, e⟩ := SS.strs_at hi i v hv'
          have lt : i < xs.length := by
            have := (List.getElem?_eq_some_iff.mp hv').1
            rw [Array.length_toList, hlen] at this; exact this
          exact ⟨xs[i], t, List.getElem?_eq_getElem lt, by rw [e, List.getD_eq_getElem?_getD, List.getElem?_eq_getElem lt]; rfl⟩
        have hS2 := Heap.get?_push_of_some (h := s.heap.push (setOb led)) { cls := .type "list_iterator", data := .fields #[.ref l, .int 0 0] } hS
        refine update_texts ((Walks.list (by simp [hh]) _ l hneI items).toS) s.heap.objs.size hSf xs hlen.symm (by omega) hval (items.size - 0) 0 _ rfl (Nat.zero_le _) ⟨⟨_, Heap.get?_push_size _ rfl, rfl, rfl⟩, hl1.push _⟩ ⟨0, ⟨Nat.le_refl _, fun _ => rfl⟩, ?_⟩ fun s' hm U => ?_
        · exact ⟨_, #[], 0, _, hS2, ⟨rfl, rfl, rfl⟩, rfl, (fun e he => by simp at he), (fun k => by simp), (by decide), (by rfl), rfl⟩
        · obtain ⟨h', g', d', tk', os'⟩ := s'
          obtain rfl : g' = s.gens := hm.gens
          obtain rfl : d' = s.drawn := hm.drawn
          obtain rfl : os' = s.os := hm.os
          refine wpAny_pure (wpAny_pure ⟨rfl, h', tk', rfl, by rw [← hlen]; exact U, fun b o e => ?_⟩)
          have hb' := Heap.lt_size e
          refine hm.heap b o (fun z => ?_) (Heap.get?_push_of_some _ (Heap.get?_push_of_some _ e))
          rw [Heap.size_push] at z
          rcases List.mem_cons.mp z with z | z
          · exact Nat.ne_of_lt hb' z
          · exact Nat.ne_of_lt (Nat.lt_succ_of_lt hb') (List.mem_singleton.mp z)
      · cases r₂ with
        | error e => exact hr₂
        | ok fl₂ =>
          cases fl₂ with
          | ret r =>
            obtain ⟨rfl, h', tk, rfl, U, hk'⟩ := hr₂
            repeat (any_goals (first | assumption | wp_step))
            exact h _ _ U hk'
          | next => exact hr₂.elim
          | brk => exact hr₂.elim
          | cont => exact hr₂.elim
end
/-- set(xs), xs a list of texts; how many there are where none stands twice -/
def rSetTxN (K : PySem.W.Frag) (P : Program) (w : World) : List V → Hp → VK → Prop := fun vs H Q => ∃ (l : Addr) (xs : List Str), vs = [.ref l] ∧ SqL K H l (xs.map V.str) ∧ xs.length ≤ 4000 ∧
  ∀ a c, H a = none → (xs.Nodup → c = xs.length) → Q (.ref a) (upd H a (SetK P w a (fun k => xs.any fun x => decide (k = Sum.inr x)) c))
theorem call_setTxN {X : Cx} (hc : X.calm = true) : CallR X (.type "set") (rSetTxN X.K X.prog X.w) := by
  intro pins s σ H vs us Q I r h
  obtain ⟨l, xs, rfl, hl, hn, q⟩ := h
  rw [Vals.ref1 r]
  obtain ⟨its, rv, pl, hz⟩ := I.list hl
  have fresh : H s.heap.objs.size = none := I.hok.fresh (Nat.le_refl _)
  refine call_set_texts (xs := xs) (I.ok.hd hc) pl.isList (by simpa using Vals.strs rv) (by unfold scanBound; omega) fun h' tk U k => ?_
  obtain ⟨c, hcn, U⟩ := U
  rw [List.take_length] at U hcn
  exact ⟨.ref s.heap.objs.size, _, I.laid (t' := tk) k (Nat.le_refl _) (setK_new U), rfl, q _ c fresh hcn.2⟩
/-- set(xs), xs a list of texts -/
def rSetTx (K : PySem.W.Frag) (P : Program) (w : World) : List V → Hp → VK → Prop := fun vs H Q => ∃ (l : Addr) (xs : List Str), vs = [.ref l] ∧ SqL K H l (xs.map V.str) ∧ xs.length ≤ 4000 ∧
  ∀ a c, H a = none → Q (.ref a) (upd H a (SetK P w a (fun k => xs.any fun x => decide (k = Sum.inr x)) c))
theorem call_setTx {X : Cx} (hc : X.calm = true) : CallR X (.type "set") (rSetTx X.K X.prog X.w) := by
  intro pins s σ H vs us Q I r h
  obtain ⟨l, xs, e, hl, hn, q⟩ := h
  exact call_setTxN hc pins s σ H vs us Q I r ⟨l, xs, e, hl, hn, fun a c na _ => q a c na⟩
end Kk

set_option maxHeartbeats 2000000
/-! tuples whose object is known to have no dict of its own: their methods can be called -/
namespace Kk
open PySem PySem.Spec PyProof.Rows L2
def TupF (H : Hp) (a : Addr) (xs : List V) : Prop := ∃ o, H a = some (.frz o (.tup xs)) ∧ o.dict = none
theorem TupF.sq {K : PySem.W.Frag} {H : Hp} {a : Addr} {xs : List V} (h : TupF H a xs) : SqT K H a xs := by
  obtain ⟨o, h, _⟩ := h
  exact .inl (.inr ⟨o, h⟩)
theorem TupF.same {H H' : Hp} {a : Addr} {xs : List V} (h : TupF H a xs) (k : Same H H') : TupF H' a xs := by
  obtain ⟨o, h, d⟩ := h
  exact ⟨o, k _ _ h, d⟩
theorem TupF.keep {p g : Addr} {H H' : Hp} {a : Addr} {xs : List V} (h : TupF H a xs) (k : Keep p g H H') (h1 : a ≠ p) (h2 : a ≠ g) : TupF H' a xs := by
  obtain ⟨o, h, d⟩ := h
  exact ⟨o, k _ _ h h1 h2, d⟩
theorem TupF.ne_lst {H : Hp} {a b : Addr} {xs ys : List V} (h : TupF H a xs) (g : H b = some (.lst ys)) : a ≠ b := by
  obtain ⟨o, h, _⟩ := h
  exact ne_of h g (by intro q; cases q)
theorem TupF.new {H : Hp} {o : Obj} {a : Addr} {xs : List V} (d : o.dict = none) : TupF (upd H a (.frz o (.tup xs))) a xs := ⟨o, upd_same, d⟩
section
variable {X : Cx}
/-- tuple(xs), xs a list -/
theorem call_tupleF : CallR X (.type "tuple") (fun xs H Q => ∃ p ys, xs = [.ref p] ∧ SqL X.K H p ys ∧ ∀ l o, H l = none → o.dict = none → Q (.ref l) (upd H l (.frz o (.tup ys)))) := by
  intro pins s σ H xs us Q I r h
  obtain ⟨p, ys, rfl, hq, q⟩ := h
  rw [Vals.ref1 r]
  obtain ⟨its, r', pl, hz⟩ := I.list hq
  have hlen := r'.length
  refine call_tuple_list pl.isList (fun h' kp => ?_) (by simp only [List.size_toArray] <;> omega)
  have I1 : Inv X pins σ H { s with heap := h' } := I.kept (t' := s.toks) kp
  exact ⟨.ref h'.objs.size, _, I1.laid (t' := s.toks) (o := .frz { cls := .type "tuple", data := .seq its.toArray } (.tup ys)) (fun b o e => Heap.get?_push_of_some _ e) (Nat.le_refl _) ⟨Heap.get?_push_size _ rfl, hz, its, r', IsTup.new _ _⟩, rfl, q _ _ (I1.hok.fresh (Nat.le_refl _)) rfl⟩
/-- a written tuple -/
def tTupF (t : TA) : TE := fun σ H Q => t σ H fun xs H1 => xs.length ≤ sizeLine ∧ ∀ p o, H1 p = none → o.dict = none → Q (.ref p) (upd H1 p (.frz o (.tup xs)))
theorem pe_tupF {es : List Expr} {t : TA} {x1} {pos : Pos} (h : PA X es t) : PE X (.Tuple es x1 pos) (tTupF t) := by
  refine ⟨fun pins s σ H Q I hq => ?_⟩
  refine wpAny_Tuple_spliced (thn (h.run pos pins s σ H _ I hq) fun us s1 ⟨xs, H1, I1, r, z, q⟩ => ⟨by rw [← r.length]; exact z, ?_⟩)
  exact ⟨.ref s1.heap.objs.size, _, I1.laid (t' := s1.toks) (o := .frz { cls := .type "tuple", data := .seq us.toArray } (.tup xs)) (fun b u e => Heap.get?_push_of_some _ e) (Nat.le_refl _) ⟨Heap.get?_push_size _ rfl, z, us, r, ⟨_, Heap.get?_push_size _ rfl, rfl, _, rfl⟩⟩, rfl, q _ _ (I1.hok.fresh (Nat.le_refl _)) rfl⟩
end
section
variable {prog : Program} {w : World} {A : Around} {E : Value → Shared → Prop} {s : Shared}
open HT in
/-- the whole of a tuple is the tuple itself -/
theorem tup_whole {t sl : Addr} {items : Array Value} {vl vu : Value} {lo hi : Option Int} {Q : Value → Shared → Prop} (ht : IsTup s.heap t items) (hs : s.heap.IsSliceOf sl vl vu .none) (pl : IsPart vl lo) (pu : IsPart vu hi)
    (hw : sIx items.size 0 lo = 0 ∧ sIx items.size items.size hi = items.size) (h : Q (.ref t) s) : wpAny (model prog w) A (getItem (.ref t) (.ref sl)) Q E s := by
  obtain ⟨os, hos, hcs, hds⟩ := id hs
  have hTs : s.TypeIs (.ref sl) "slice" := ⟨os, hos, hcs⟩
  obtain ⟨ot, hot, hct, nt, hdt⟩ := id ht
  have hTt : s.TypeIs (.ref t) "tuple" := ⟨ot, hot, hct⟩
  unfold getItem
  try with_reducible refine wpAny_holding ?_
  first | refine wpAny_bind (wpAny_pure ?_) | skip
  refine wpAny_bind (wpAny_sequenceKey ht.typeIs (by decide) ?_)
  refine wpAny_bind (wpAny_callSpecial?_slot (name := Str.ofString "__getitem__") ht.typeIs PyProof.Rows.slot_tuple_getitem
    (wpAny_call_entry PyProof.Rows.slot_tuple_getitem ht.typeIs entry_tuple_getitem ?_ (args_tuple_getitem _ _)))
  show wpAny _ _ (Builtin.Tuple.tupleItemsOf (.ref t) >>= _) _ _ s
  refine wpAny_bind (tupleItemsOf_ ht (wpAny_bind (wpAny_typeOf hTs ?_)))
  rw [if_pos (by decide)]
  refine wpAny_bind (sliceApplied_gen hs pl pu ?_)
  have yes : (((sIx items.size 0 lo : Nat) : Int) == 0 && (1 : Int) == 1 && (sIx items.size items.size hi - sIx items.size 0 lo) == items.size) = true := by
    rw [hw.1, hw.2]; simp
  show wpAny _ _ (if (((sIx items.size 0 lo : Nat) : Int) == 0 && (1 : Int) == 1 && (sIx items.size items.size hi - sIx items.size 0 lo) == items.size) = true then _ else _) _ _ s
  rw [if_pos yes]
  unfold Builtin.Tuple.tupleIsExact
  refine wpAny_bind (wpAny_bind (wpAny_typeOf hTt (wpAny_pure ?_)))
  rw [if_pos (by decide)]
  exact wpAny_bind (wpAny_rule (wpAny_pure ⟨_, rfl, wpAny_pure h⟩))
end
section
variable {X : Cx}
/-- t[lo:hi]: t itself where that is the whole -/
theorem sl_tupF : SlR X (fun x lo hi H Q => ∃ a xs, x = .ref a ∧ SqT X.K H a xs ∧ ((HT.sIx xs.length 0 lo = 0 ∧ HT.sIx xs.length xs.length hi = xs.length) → Q (.ref a) H) ∧
    (¬ (HT.sIx xs.length 0 lo = 0 ∧ HT.sIx xs.length xs.length hi = xs.length) → ∀ p o, H p = none → o.dict = none → Q (.ref p) (upd H p (.frz o (.tup (cutV xs lo hi)))))) := by
  intro pins s σ H x v vl vu lo hi sl Q I rx hs pl pu h
  obtain ⟨a, xs, rfl, hx, q1, q2⟩ := h
  cases rx
  obtain ⟨its, r, ht, hz⟩ := I.tuple hx
  have hlen : its.toArray.size = xs.length := by rw [List.size_toArray]; exact r.length.symm
  refine ⟨"tuple", _, PyProof.Rows.slot_tuple_getitem.lookup, ht.typeIs, ?_⟩
  by_cases hw : HT.sIx xs.length 0 lo = 0 ∧ HT.sIx xs.length xs.length hi = xs.length
  · exact tup_whole ht hs pl pu (by rw [hlen]; exact hw) ⟨.ref a, H, I, rfl, q1 hw⟩
  · refine HT.getItem_tuple_cut ht hs pl pu (by rw [hlen]; exact hw) ?_ (by rw [hlen]; exact hz)
    rw [hlen]
    refine ⟨.ref s.heap.objs.size, _, I.laid (t' := s.toks) (o := .frz { cls := .type "tuple", data := .seq ((its.drop (HT.sIx xs.length 0 lo)).take (HT.sIx xs.length xs.length hi - HT.sIx xs.length 0 lo)).toArray } (.tup (cutV xs lo hi)))
      (fun b ob q => Heap.get?_push_of_some _ q) (Nat.le_refl _) ⟨Heap.get?_push_size _ rfl, Nat.le_trans (cutV_length xs lo hi) hz, _, (r.drop (HT.sIx xs.length 0 lo)).take (HT.sIx xs.length xs.length hi - HT.sIx xs.length 0 lo), IsTup.new _ _⟩, rfl, q2 hw _ _ (I.hok.fresh (Nat.le_refl _)) rfl⟩
/-- t.m(e, ..), t such a tuple -/
def tTM (r : V → List V → Hp → VK → Prop) (to : TE) (t : TA) : TE := fun σ H Q => to σ H fun x H1 => (∃ a xs, x = .ref a ∧ TupF H1 a xs) ∧ t σ H1 fun xs H2 => r x xs H2 Q
theorem pe_tm {o e : Expr} {es : List Expr} {to : TE} {t : TA} {name : Str} {apos cpos : Pos} {id : String} {r : V → List V → Hp → VK → Prop} (slot : Slot "tuple" name id) (hty : typeOf (.builtin id) = pure (.type "method_descriptor")) (hm : MtR X id r) (ho : PE X o to) (ha : PA X (e :: es) t)
    (hbase : attributeBase o name X.env (eval o X.env) = eval o X.env := by rfl)
    (hfew : ((backTo cpos (starEach (e :: es) X.env)).all (fun x => !x.1) && (backToKw cpos (keywordEach [] X.env)).all (fun x => x.1.isSome)
      && decide ((e :: es).length + ([] : List Keyword).length + (if ([] : List Keyword).isEmpty then 0 else 1) < 30)) = true := by rfl)
    (hline : (apos.endLine == cpos.line) = true := by rfl) (hs : starEach (e :: es) X.env = (false, eval e X.env) :: starEach es X.env := by rfl) (hplain : (backTo cpos (starEach es X.env)).any (·.1) = false := by rfl) :
    PE X (.Call (.Attribute o name apos) (e :: es) [] cpos) (tTM r to t) := by
  refine ⟨fun pins s σ H Q I h => ?_⟩
  refine wpAny_Call_method_late hbase hfew hline rfl (thn (ho.run pins s σ H _ I h) fun v s1 ⟨x, H1, I1, r1, ty, q1⟩ => ?_)
  obtain ⟨a, xs, rfl, ob, hob, hd⟩ := ty
  obtain rfl : v = Value.ref a := r1
  have ok : ObjOk X.prog X.w H1 s1.heap a (.frz ob (.tup xs)) := I1.hok a _ hob
  obtain ⟨g1, _, its, rv, o2, g2, c2, d2⟩ := ok
  obtain rfl : ob = o2 := Option.some.inj (g1.symm.trans g2)
  refine ⟨"tuple", id, PySem.F.plainAttrs_tuple, slot, hty, ⟨ob, g1, c2⟩, fun b eb => ?_, ?_⟩
  · cases eb
    exact ⟨ob, g1, hd⟩
  have hA := ha.run cpos pins s1 σ H1 _ I1 q1
  rw [hs] at hA ⊢
  refine Calls.callWith_builtin (by show (false || (backTo cpos (starEach es X.env)).any (·.1)) = false; rw [hplain] <;> rfl) (Calls.evalArgs_plain ?_)
  exact thn hA fun us s2 ⟨vs, H2, I2, r2, q2⟩ => hm pins s2 σ H2 (.ref a) vs (.ref a) us Q I2 rfl r2 q2
/-- t.count(z), t a tuple of texts -/
theorem mt_tcount : MtR X "tuple.count" (fun x xs H Q => ∃ p, ∃ ys : List Str, ∃ z, x = .ref p ∧ xs = [.str z] ∧ SqT X.K H p (ys.map V.str) ∧ Q (.int ((ys.countP fun y => y == z : Nat) : Int)) H) := by
  intro pins s σ H x xs v us Q I rx rs h
  obtain ⟨p, ys, z, rfl, rfl, hq, q⟩ := h
  cases rx
  obtain ⟨u, rfl, t, rfl⟩ := vals1 rs
  obtain ⟨its, r, pl, hz⟩ := I.tuple hq
  obtain ⟨⟨cls, dd, dt, sl⟩, ho, hc, n, hd⟩ := pl
  simp only at hc hd
  subst hc
  subst hd
  have ec : its.countP (eqU (.str z)) = ys.countP fun y => y == z := by
    clear hq q hz ho
    induction ys generalizing its with
    | nil => cases r; rfl
    | cons y ys ih =>
      cases r with
      | cons r1 r2 =>
        obtain ⟨t', rfl⟩ := r1
        rw [List.countP_cons, List.countP_cons, ih _ r2]
        rfl
  refine call_meets PySem.F.slot_tuple_count ⟨_, ho, rfl⟩ PySem.F.entry_tuple_count (PySem.F.args_tuple_count_2 _ _) (SeqAt.tuple_countAt p its.toArray n dd sl (.str z t) (eqU (.str z)))
    ⟨ho, fun w hw => mem_eqAt (x := .str z) ⟨t, rfl⟩ rfl r (flat_strs ys) w (by simpa using hw), ?_⟩
  show EP X pins σ Q (.int ((its.countP (eqU (.str z)) : Nat) : Int) s.toks) { s with toks := s.toks + 1 }
  rw [ec]
  exact ⟨.int _, H, I.tok _, ⟨_, rfl⟩, q⟩
end
end Kk

set_option maxHeartbeats 2000000
namespace Kk
open PySem PySem.Spec PyProof.Rows L2 Wd
theorem for_enumL {K : PySem.W.Frag} {a : Addr} {xs : List V} {g : TG} {tb : TS} {D : Ends} {σ : L2.St} {H : Hp} (Pv : Nat → L2.St → Hp → Prop) (h0 : Pv 0 σ H) (hl : ∀ i σ H, i ≤ xs.length → Pv i σ H → SqL K H a xs)
    (hs : ∀ i x σ H T, xs[i]? = some x → Pv i σ H → H T = none → g (.ref T) σ (upd H T (.tup [.int (i : Nat), x])) fun σ2 H2 => tb { D with nx := Pv (i + 1), ct := Pv (i + 1), bk := D.nx } σ2 H2) (hd : ∀ σ H, Pv xs.length σ H → D.nx σ H) :
    ∃ W : Nat → Nat → L2.St → Hp → Prop, (∃ m, W 0 m σ H) ∧ ∀ i m σ H, W i m σ H →
      ((Ite K a).stop i H ∧ D.nx σ H) ∨ ((Ite K a).go i H ∧ ∃ N : L2.St → Hp → Prop, (∀ σ' H', N σ' H' → ∃ m', m' < m ∧ W (i + 1) m' σ' H') ∧ ∀ x H', (Ite K a).yld i H x H' → g x σ H' fun σ2 H2 => tb { D with nx := N, ct := N, bk := D.nx } σ2 H2) := by
  refine ⟨fun i m σ H => m = xs.length - i ∧ i ≤ xs.length ∧ Pv i σ H, ⟨xs.length, by simp, Nat.zero_le _, h0⟩, ?_⟩
  rintro i m σ H ⟨rfl, hi, p⟩
  have q := hl i σ H hi p
  by_cases hlt : i < xs.length
  · refine .inr ⟨⟨xs, xs[i], q, by simp [hlt]⟩, Pv (i + 1), fun σ' H' p' => ⟨xs.length - (i + 1), by omega, rfl, hlt, p'⟩, fun x H' y => ?_⟩
    obtain ⟨T, z, rfl, hT, rfl, hz⟩ := y
    exact hs i z σ H T (hz xs q) p hT
  · have e : i = xs.length := by omega
    subst e
    exact .inl ⟨⟨xs, q, Nat.le_refl _⟩, hd σ H p⟩
/-! ### numbers of parts -/
def nv (n : Nat) : V := .int (n : Nat)
def optV : Option Nat → V
  | none => .non
  | some i => .int (i : Nat)
def spMisfit (K : PySem.W.Frag) : Sp := fun vs H Q _ => ∃ (a : Addr) (ns : List Nat), vs = [.ref a] ∧ SqL K H a (ns.map nv) ∧ ns.length ≤ 200000 ∧ ∀ H', Same H H' → Q (optV (misF ns 0 1)) H'
abbrev s_misfit_index : Stmt := (top 6)
theorem sc_misfit_index : FnScope ["needs", "lacking", "at", "need"] ["needs"] (defScope s_misfit_index) := ⟨rfl, rfl, rfl, by decide +kernel, rfl, by decide +kernel, by decide +kernel⟩
theorem misF_drop {ns : List Nat} {i n : Nat} (h : ns[i]? = some n) (at' c : Nat) : misF (ns.drop i) at' c = if c = 0 then some at' else misF (ns.drop (i + 1)) (at' + 1) (c + n - 1) := by
  have hi : i < ns.length := by
    obtain ⟨h1, _⟩ := List.getElem?_eq_some_iff.mp h
    exact h1
  rw [List.drop_eq_getElem_cons hi]
  have : ns[i] = n := by
    obtain ⟨_, h2⟩ := List.getElem?_eq_some_iff.mp h
    exact h2
  rw [this]
  rfl
theorem mapN_get {ns : List Nat} {i : Nat} {x : V} (h : (ns.map nv)[i]? = some x) : ∃ n, ns[i]? = some n ∧ x = nv n := by
  rw [List.getElem?_map] at h
  cases hn : ns[i]? with
  | none => rw [hn] at h; cases h
  | some n => rw [hn] at h; exact ⟨n, rfl, (Option.some.inj h).symm⟩
theorem intz (c : Nat) : decide (V.int ((c : Nat) : Int) = V.int 0) = decide (c = 0) := by
  by_cases h : c = 0
  · subst h; exact (decide_eq_true rfl).trans (decide_eq_true rfl).symm
  · rw [decide_eq_false h]
    exact decide_eq_false fun e => h (by have := V.int.inj e; omega)
theorem c_misfit_index {P w K mg base} (B : Bt mg) (D : DefAt K mg "misfit_index" s_misfit_index) : Cal P w K mg base "misfit_index" 1 ["needs"] (spMisfit K) := by
  refine cal_of D sc_misfit_index (fun _ _ _ _ _ _ us hl => match us, hl with | [_], _ => rfl) (fun vs H Q E h => ?_) (fun fa cdv A outer st0 H vs Q E hr h => ?_)
  · obtain ⟨a, ws, rfl, _⟩ := h
    rfl
  · obtain ⟨a, ns, rfl, hq, hl, k⟩ := h
    refine ⟨_, (pss_cons (ps_set (i := 1) sc_misfit_index.nd rfl (by first | exact Or.inl rfl | exact Or.inr rfl) pe_int)
      (pss_cons (ps_for PassesOwn.never rfl (pi_enum (by rfl) B.b_enumerate (pa_cons (pv 0) pa_nil)) (pg_tup (by rfl) (pgs_cons (pg_name (i := 2) sc_misfit_index.nd rfl (by first | exact Or.inl rfl | exact Or.inr rfl)) (pgs_cons (pg_name (i := 3) sc_misfit_index.nd rfl (by first | exact Or.inl rfl | exact Or.inr rfl)) pgs_nil))) (pss_cons (ps_if (pt_cmpR op_eq (pv 1) pe_int (nomark _)) (pss_one (ps_ret (pv 2))) pss_nil)
      (pss_one (ps_aug (i := 1) sc_misfit_index.nd rfl (by first | exact Or.inl rfl | exact Or.inr rfl) (pe_op op_sub (pv 3) pe_int) ip_add))))
      (pss_one (ps_ret (pe_ifExp (pt_cmpR op_eq (pv 1) pe_int (nomark _)) pe_non (pe_callB call_len_seq (by rfl) B.b_len (by decide +kernel) (pa_cons (pv 0) pa_nil))))))), ?_⟩
    refine ⟨_, rfl, a, _, rfl, hq, for_enumL (K := K) (a := a) (xs := ns.map nv) (fun i σ H' => ∃ (v1 v2 : Option V) (c : Nat), σ = [some (.ref a), some (.int (c : Nat)), v1, v2] ∧ misF ns 0 1 = misF (ns.drop i) i c ∧ Same H H')
      ⟨none, none, 1, rfl, rfl, Same.refl H⟩ (fun i σ H' _ ⟨_, _, _, _, _, s⟩ => s.seq hq) ?_ ?_⟩
    · rintro i x σ H' T hx ⟨v1, v2, c, rfl, em, S1⟩ nT
      obtain ⟨n, hn, rfl⟩ := mapN_get hx
      have S2 : Same H (upd H' T (.tup [.int (i : Nat), nv n])) := S1.trans (same_upd nT)
      rw [misF_drop hn] at em
      refine ⟨T, _, rfl, SqT.of upd_same, rfl, _, _, rfl, _, _, rfl, rfl, ?_⟩
      refine ⟨_, rfl, rfl, _, rfl, ?_⟩
      rw [intz]
      by_cases hc : c = 0
      · rw [decide_eq_true hc]
        rw [if_pos hc] at em
        refine iteT ⟨_, rfl, ?_⟩
        have := k _ S2
        rw [em] at this
        exact this
      · rw [decide_eq_false hc]
        rw [if_neg hc] at em
        refine iteF ⟨_, rfl, _, rfl, _, _, rfl, rfl, _, _, rfl, rfl, ?_⟩
        refine ⟨some (.int (i : Nat)), some (nv n), c + n - 1, ?_, em, S2⟩
        rw [show (((c + n - 1 : Nat)) : Int) = (c : Int) + ((n : Int) - 1) by omega]
        rfl
    · rintro σ H' ⟨v1, v2, c, rfl, em, S1⟩
      rw [List.length_map, List.drop_length] at em
      have := k _ S1
      rw [em] at this
      refine ⟨_, rfl, rfl, _, rfl, ?_⟩
      rw [intz]
      by_cases hc : c = 0
      · rw [decide_eq_true hc]
        rw [show misF [] ns.length c = none by unfold misF; rw [if_pos hc]] at this
        exact iteT this
      · rw [decide_eq_false hc]
        rw [show misF [] ns.length c = some ns.length by unfold misF; rw [if_neg hc]] at this
        refine iteF ⟨_, rfl, _, _, rfl, .inl (S1.seq hq), ?_⟩
        rw [List.length_map]
        exact this
def endsV (n : Nat) (E : Nat → Nat) : List V := (List.range n).map fun i => V.int (E i : Nat)
theorem endsV_len (n : Nat) (E : Nat → Nat) : (endsV n E).length = n := by simp [endsV]
theorem endsV_get {n : Nat} {E : Nat → Nat} {i : Nat} (h : i < n) : (endsV n E)[i]? = some (.int (E i : Nat)) := by simp [endsV, h]
def spEndsBy (K : PySem.W.Frag) : Sp := fun vs H Q _ => ∃ (a : Addr) (ns : List Nat) (E : Nat → Nat), vs = [.ref a] ∧ SqL K H a (ns.map nv) ∧ EndsN ns E ∧ ns.length ≤ 200000 ∧
  ∀ H' q, Same H H' → H q = none → TupF H' q (endsV ns.length E) → Q (.ref q) H'
abbrev s_ends_by : Stmt := (top 7)
theorem sc_ends_by : FnScope ["needs", "behind", "at", "_"] ["needs"] (defScope s_ends_by) := ⟨rfl, rfl, rfl, by decide +kernel, rfl, by decide +kernel, by decide +kernel⟩
theorem c_ends_by {P w K mg base} (B : Bt mg) (D : DefAt K mg "ends_by" s_ends_by) : Cal P w K mg base "ends_by" 1 ["needs"] (spEndsBy K) := by
  refine cal_of D sc_ends_by (fun _ _ _ _ _ _ us hl => match us, hl with | [_], _ => rfl) (fun vs H Q E h => ?_) (fun fa cdv A outer st0 H vs Q E hr h => ?_)
  · obtain ⟨a, ws, E, rfl, _⟩ := h
    rfl
  · obtain ⟨a, ns, E, rfl, hq, he, hl, k⟩ := h
    refine ⟨_, (pss_cons (ps_set (i := 1) sc_ends_by.nd rfl (by first | exact Or.inl rfl | exact Or.inr rfl) (pe_op op_rep (pe_lst (pa_cons pe_int pa_nil)) (pe_callB call_len_seq (by rfl) B.b_len (by decide +kernel) (pa_cons (pv 0) pa_nil))))
      (pss_cons (ps_for PassesOwn.never rfl (pi_revR (by rfl) B.b_reversed (prg_1 (by rfl) B.b_range (pe_callB call_len_seq (by rfl) B.b_len (by decide +kernel) (pa_cons (pv 0) pa_nil)))) (pg_name (i := 2) sc_ends_by.nd rfl (by first | exact Or.inl rfl | exact Or.inr rfl)) (pss_cons (ps_asg (pe_op op_add (pv 2) pe_int) (pg_sub (pv 1) (pv 2) set_list))
      (pss_one (ps_for PassesOwn.never rfl (pi_range1 (by rfl) B.b_range (pa_cons (pe_ix ix_list (pv 0) (pv 2) (fun _ _ => rfl)) pa_nil)) (pg_name (i := 3) sc_ends_by.nd rfl (by first | exact Or.inl rfl | exact Or.inr rfl)) (pss_one (ps_asg (pe_ix ix_list (pv 1) (pe_ix ix_list (pv 1) (pv 2) (fun _ _ => rfl)) (fun _ _ => rfl)) (pg_sub (pv 1) (pv 2) set_list)))))))
      (pss_one (ps_ret (pe_callTy call_tupleF (by rfl) B.b_tuple (by decide +kernel) (pa_cons (pv 1) pa_nil)))))), ?_⟩
    have hlm : (ns.map nv).length = ns.length := List.length_map ..
    -- behind = [0] * len(words)
    refine ⟨(by show 1 ≤ sizeLine; decide), fun z nz => ?_⟩
    have Sz : Same H (upd H z (.lst [.int 0])) := same_upd nz
    have Lz : upd H z (.lst [.int 0]) z = some (.lst [.int 0]) := upd_same
    generalize upd H z (.lst [.int 0]) = H1 at *
    refine ⟨_, rfl, _, _, rfl, .inl (Sz.seq hq), z, _, _, rfl, rfl, Lz, by omega, by omega, ?_, fun b nb => ?_⟩
    · rw [hlm, sizeLine_eq]; show 1 * _ ≤ _; omega
    have eb : (List.replicate (((ns.map nv).length : Nat) : Int).toNat [V.int 0]).flatten = List.replicate ns.length (V.int 0) := by
      rw [hlm]
      show (List.replicate ns.length [V.int 0]).flatten = _
      induction ns.length with
      | zero => rfl
      | succ n ih => rw [List.replicate_succ, List.flatten_cons, ih, List.replicate_succ]; rfl
    rw [eb]
    have Sb : Same H (upd H1 b (.lst (List.replicate ns.length (V.int 0)))) := Sz.trans (same_upd nb)
    have Lb : upd H1 b (.lst (List.replicate ns.length (V.int 0))) b = some (.lst (List.replicate ns.length (V.int 0))) := upd_same
    have fb : H b = none := Sz.free nb
    generalize upd H1 b (.lst (List.replicate ns.length (V.int 0))) = H2 at *
    have en : ((((ns.map nv).length : Nat) : Int) - 0).toNat = ns.length := by rw [hlm]; omega
    refine ⟨_, rfl, _, _, rfl, .inl (Sb.seq hq), _, rfl, by decide, by decide, by omega, by omega, for_rangeC (lo := (0 : Int) + (((((ns.map nv).length : Nat) : Int) - 0).toNat : Nat) - 1) (c := -1) (n := ((((ns.map nv).length : Nat) : Int) - 0).toNat)
      (fun i σ H' => ∃ (v v2 : Option V) (L : List V), σ = [some (.ref a), some (.ref b), v, v2] ∧ Same H H' ∧ H' b = some (.lst L) ∧ L.length = ns.length ∧ ∀ j, ns.length ≤ j + i → j < ns.length → L[j]? = some (.int (E j : Nat)))
      ⟨none, none, _, rfl, Sb, Lb, List.length_replicate .., fun j h1 h2 => absurd h2 (by omega)⟩ ?_ ?_⟩
    · rintro i σ H' hi ⟨v, v2, L, rfl, S3, L3, hL, hE⟩
      rw [en] at hi
      obtain ⟨m, hm⟩ : ∃ m : Nat, m + i + 1 = ns.length := ⟨ns.length - 1 - i, by omega⟩
      have eat : ((0 : Int) + (((((ns.map nv).length : Nat) : Int) - 0).toNat : Nat) - 1) + (i : Nat) * (-1) = (m : Int) := by rw [en]; omega
      rw [eat]
      have hml : m < ns.length := by omega
      obtain ⟨n, hn⟩ : ∃ n, ns[m]? = some n := ⟨ns[m], List.getElem?_eq_getElem hml⟩
      have hnv : (ns.map nv)[m]? = some (nv n) := by rw [List.getElem?_map, hn]; rfl
      obtain ⟨hj, hEm⟩ := he.ex m n hn
      have hn2 := he.le n (List.mem_of_getElem? hn)
      have q3 := S3.seq hq
      have ixm : ixN L.length (m : Int) = some m := ixN_lt (by omega)
      refine ⟨_, rfl, _, _, rfl, rfl, _, rfl, _, rfl, b, _, _, m, rfl, rfl, L3, ixm, ?_⟩
      have off : ∀ c o, H c = some o → c ≠ b := fun c o hc => ne_of_none hc fb
      refine ⟨_, rfl, _, rfl, a, _, _, _, rfl, rfl, (show SqL K _ a _ from Same.seq (fun c o hc => by rw [upd_ne (off c o hc)]; exact S3 c o hc) hq), atI_nat hnv, n, rfl, by omega, by omega, for_range (lo := 0) (n := ((n : Nat) : Int).toNat)
        (fun j σ H' => ∃ (v2 : Option V) (L : List V), σ = [some (.ref a), some (.ref b), some (.int (m : Nat)), v2] ∧ Same H H' ∧ H' b = some (.lst L) ∧ L.length = ns.length ∧ L[m]? = some (.int (itE E m j : Nat)) ∧ ∀ j, m < j → j < ns.length → L[j]? = some (.int (E j : Nat))) ?_ ?_ ?_⟩
      · refine ⟨_, _, rfl, fun c o hc => by rw [upd_ne (off c o hc)]; exact S3 c o hc, upd_same, by rw [List.length_set]; exact hL, List.getElem?_set_self (by omega), fun j h1 h2 => ?_⟩
        rw [List.getElem?_set_ne (by omega)]
        exact hE j (by omega) h2
      · rintro j σ H4 hjn ⟨v2, L4, rfl, S4, L4h, hL4, hm4, hE4⟩
        obtain ⟨j1, j2⟩ := hj j (by omega)
        have ixm4 : ixN L4.length (m : Int) = some m := ixN_lt (by omega)
        refine ⟨_, rfl, _, rfl, _, rfl, b, _, _, _, rfl, rfl, SqL.of L4h, atI_nat hm4, b, _, _, _, rfl, rfl, SqL.of L4h, atI_nat (hE4 _ j1 j2), _, rfl, _, rfl, b, _, _, m, rfl, rfl, L4h, ixm4, ?_⟩
        refine ⟨_, _, rfl, fun c o hc => by rw [upd_ne (off c o hc)]; exact S4 c o hc, upd_same, by rw [List.length_set]; exact hL4, List.getElem?_set_self (by omega), fun j' h1 h2 => ?_⟩
        rw [List.getElem?_set_ne (by omega)]
        exact hE4 j' h1 h2
      · rintro σ H4 ⟨v2, L4, rfl, S4, L4h, hL4, hm4, hE4⟩
        refine ⟨_, _, _, rfl, S4, L4h, hL4, fun j h1 h2 => ?_⟩
        by_cases hjm : j = m
        · subst hjm
          rw [hm4, hEm]
          rfl
        · exact hE4 j (by omega) h2
    · rintro σ H' ⟨v, v2, L, rfl, S3, L3, hL, hE⟩
      rw [en] at hE
      have eL : L = endsV ns.length E := by
        apply List.ext_getElem?
        intro j
        by_cases hj : j < ns.length
        · rw [hE j (by omega) hj, endsV_get hj]
        · rw [List.getElem?_eq_none (by omega), List.getElem?_eq_none (by rw [endsV_len]; omega)]
      refine ⟨_, rfl, _, _, rfl, SqL.of L3, fun q o nq ho => ?_⟩
      rw [eL]
      exact k _ q (S3.trans (same_upd nq)) (S3.free nq) (TupF.new ho)
end Kk

set_option maxHeartbeats 2000000
namespace Kk
open PySem PySem.Spec PyProof.Rows L2
/-! ### comprehensions that keep or change each item by itself -/
section
variable {α : Type} {K : PySem.W.Frag} {a D : Addr} {ws : List α} {f : α → V} {r : α → Option V} {g : TG} {tt : TT} {te : TE} {vs : List Nat} {σ : L2.St} {H : Hp} {Qd : Hp → Prop}
theorem fm_step {w : α} {i : Nat} (hw : ws[i]? = some w) : (ws.take (i + 1)).filterMap r = (ws.take i).filterMap r ++ (match r w with | some y => [y] | none => []) := by
  rw [List.take_add_one, hw, List.filterMap_append]
  cases h : r w with
  | none => simp [h]
  | some y => simp [h]
theorem fm_len (i : Nat) : ((ws.take i).filterMap r).length ≤ ws.length := Nat.le_trans (List.length_filterMap_le _ _) (by rw [List.length_take]; exact Nat.min_le_right _ _)
theorem lc_fmT (hq : SqT K H a (ws.map f)) (nD : H D = none) (hl : ws.length ≤ 100000)
    (hs : ∀ (i : Nat) (w : α) (H' : Hp) (Qy : V → Hp → Prop) (Qn : Hp → Prop), ws[i]? = some w → Same H H' → (∀ y H4, Same H' H4 → r w = some y → Qy y H4) → (∀ H3, Same H' H3 → r w = none → Qn H3) →
      g (f w) (wipe σ vs) H' fun σ2 H2 => wipe σ2 vs = wipe σ vs ∧ tt σ2 H2 fun b H3 => if b = true then te σ2 H3 Qy else Qn H3)
    (hd : ∀ H', Same H H' → H' D = some (.lst (ws.filterMap r)) → Qd H') :
    ∃ W : Nat → Nat → Hp → Prop, (∃ m, W 0 m (upd H D (.lst []))) ∧ ∀ i m H, W i m H →
      ((Itt K a).stop i H ∧ Qd H) ∨ ((Itt K a).go i H ∧ ∃ Nx : Hp → Prop, (∀ H', Nx H' → ∃ m', m' < m ∧ W (i + 1) m' H') ∧ ∀ x H', (Itt K a).yld i H x H' → g x (wipe σ vs) H' fun σ2 H2 => wipe σ2 vs = wipe σ vs ∧ tt σ2 H2 fun b H3 =>
        if b = true then te σ2 H3 fun y H4 => ∃ acc, H4 D = some (.lst acc) ∧ acc.length < sizeLine ∧ Nx (upd H4 D (.lst (acc ++ [y]))) else Nx H3) := by
  have off : ∀ b o, H b = some o → b ≠ D := fun b o hb => ne_of_none hb nD
  refine lc_tup (K := K) (a := a) (xs := ws.map f) (fun i H' => Same H H' ∧ H' D = some (.lst ((ws.take i).filterMap r))) ⟨same_upd nD, upd_same⟩ (fun i H' _ s => SqT.same hq s.1) (fun i x H' hx s => ?_) (fun H' s => ?_)
  · obtain ⟨S1, L1⟩ := s
    obtain ⟨w, hw, rfl⟩ := map_get hx
    refine hs i w H' _ _ hw S1 (fun y H4 S4 hy => ⟨_, S4 _ _ L1, Nat.lt_of_le_of_lt (Nat.le_trans (fm_len i) hl) (by decide), fun b o hb => ?_, ?_⟩) (fun H3 S3 hn => ⟨S1.trans S3, ?_⟩)
    · rw [upd_ne (off b o hb)]
      exact S4 _ _ (S1 _ _ hb)
    · rw [upd_same, fm_step hw, hy]
    · rw [S3 _ _ L1, fm_step hw, hn, List.append_nil]
  · obtain ⟨S1, L1⟩ := s
    rw [List.length_map, List.take_length] at L1
    exact hd H' S1 L1
theorem lc_fmL (hq : SqL K H a (ws.map f)) (nD : H D = none) (hl : ws.length ≤ 100000)
    (hs : ∀ (i : Nat) (w : α) (H' : Hp) (Qy : V → Hp → Prop) (Qn : Hp → Prop), ws[i]? = some w → Same H H' → (∀ y H4, Same H' H4 → r w = some y → Qy y H4) → (∀ H3, Same H' H3 → r w = none → Qn H3) →
      g (f w) (wipe σ vs) H' fun σ2 H2 => wipe σ2 vs = wipe σ vs ∧ tt σ2 H2 fun b H3 => if b = true then te σ2 H3 Qy else Qn H3)
    (hd : ∀ H', Same H H' → H' D = some (.lst (ws.filterMap r)) → Qd H') :
    ∃ W : Nat → Nat → Hp → Prop, (∃ m, W 0 m (upd H D (.lst []))) ∧ ∀ i m H, W i m H →
      ((Itl K a).stop i H ∧ Qd H) ∨ ((Itl K a).go i H ∧ ∃ Nx : Hp → Prop, (∀ H', Nx H' → ∃ m', m' < m ∧ W (i + 1) m' H') ∧ ∀ x H', (Itl K a).yld i H x H' → g x (wipe σ vs) H' fun σ2 H2 => wipe σ2 vs = wipe σ vs ∧ tt σ2 H2 fun b H3 =>
        if b = true then te σ2 H3 fun y H4 => ∃ acc, H4 D = some (.lst acc) ∧ acc.length < sizeLine ∧ Nx (upd H4 D (.lst (acc ++ [y]))) else Nx H3) := by
  have off : ∀ b o, H b = some o → b ≠ D := fun b o hb => ne_of_none hb nD
  refine lc_list (K := K) (a := a) (xs := ws.map f) (fun i H' => Same H H' ∧ H' D = some (.lst ((ws.take i).filterMap r))) ⟨same_upd nD, upd_same⟩ (fun i H' _ s => s.1.seq hq) (fun i x H' hx s => ?_) (fun H' s => ?_)
  · obtain ⟨S1, L1⟩ := s
    obtain ⟨w, hw, rfl⟩ := map_get hx
    refine hs i w H' _ _ hw S1 (fun y H4 S4 hy => ⟨_, S4 _ _ L1, Nat.lt_of_le_of_lt (Nat.le_trans (fm_len i) hl) (by decide), fun b o hb => ?_, ?_⟩) (fun H3 S3 hn => ⟨S1.trans S3, ?_⟩)
    · rw [upd_ne (off b o hb)]
      exact S4 _ _ (S1 _ _ hb)
    · rw [upd_same, fm_step hw, hy]
    · rw [S3 _ _ L1, fm_step hw, hn, List.append_nil]
  · obtain ⟨S1, L1⟩ := s
    rw [List.length_map, List.take_length] at L1
    exact hd H' S1 L1
end
end Kk

set_option maxHeartbeats 4000000
namespace Kk
open PySem PySem.Spec PyProof.Rows L2 Wd
theorem cut_from {xs : List V} {c : Nat} : cutV xs (some (c : Int)) none = xs.drop c := by
  unfold cutV
  rw [HT.sIx_nat, HT.sIx_none]
  by_cases h : c ≤ xs.length
  · rw [Nat.min_eq_left h]
    exact List.take_of_length_le (by rw [List.length_drop]; exact Nat.le_refl _)
  · rw [Nat.min_eq_right (by omega), Nat.sub_self, List.take_zero, List.drop_of_length_le (by omega)]
theorem cut_to {xs : List V} {c : Nat} : cutV xs none (some (c : Int)) = xs.take c := by
  unfold cutV
  rw [HT.sIx_nat, HT.sIx_none, List.drop_zero, Nat.sub_zero]
  by_cases h : c ≤ xs.length
  · rw [Nat.min_eq_left h]
  · rw [Nat.min_eq_right (by omega), List.take_length, List.take_of_length_le (by omega)]
abbrev Entry := Addr × Addr × List Nm × Nat
def pyl (X : List Entry) : List V := X.reverse.map (fun x => V.ref x.1)
theorem pyl_cons (x : Entry) (X : List Entry) : pyl (x :: X) = pyl X ++ [.ref x.1] := by simp [pyl]
structure Off (p g u f w b : Addr) : Prop where
  p : b ≠ p
  g : b ≠ g
  u : b ≠ u
  f : b ≠ f
  w : b ≠ w
structure Ent (p g u f w : Addr) (H : Hp) (x : Entry) : Prop where
  t : H x.1 = some (.tup [.ref x.2.1, .int (x.2.2.2 : Nat)])
  r : H x.2.1 = some (.lst (x.2.2.1.map sv))
  ot : Off p g u f w x.1
  or : Off p g u f w x.2.1
  le : x.2.2.1.length ≤ x.2.2.2 + 1
/-- all that is off these is as it was -/
def Fro (p g u f w : Addr) (H H' : Hp) : Prop := ∀ b o, H b = some o → Off p g u f w b → H' b = some o
section
variable {p g u f w : Addr} {H H1 H2 : Hp}
theorem Fro.trans (a : Fro p g u f w H H1) (b : Fro p g u f w H1 H2) : Fro p g u f w H H2 := fun c o h k => b c o (a c o h k) k
theorem Fro.same (a : Same H H1) : Fro p g u f w H H1 := fun b o h _ => a b o h
theorem Fro.keep (a : Keep p g H H1) : Fro p g u f w H H1 := fun b o h k => a b o h k.p k.g
theorem Fro.updw {o : HO} : Fro p g u f w H (upd H w o) := fun b x h k => by rw [upd_ne k.w]; exact h
theorem Fro.updf {o : HO} : Fro p g u f w H (upd H f o) := fun b x h k => by rw [upd_ne k.f]; exact h
theorem Ent.fro {x : Entry} (a : Fro p g u f w H H1) (e : Ent p g u f w H x) : Ent p g u f w H1 x := ⟨a _ _ e.t e.ot, a _ _ e.r e.or, e.ot, e.or, e.le⟩
end
/-- the addresses that are written, apart -/
structure Apart (p g s u f w : Addr) (H0 : Hp) : Prop where
  fp : f ≠ p
  fg : f ≠ g
  fs : f ≠ s
  fu : f ≠ u
  fw : f ≠ w
  wp : w ≠ p
  wg : w ≠ g
  ws : w ≠ s
  wu : w ≠ u
  up : u ≠ p
  ug : u ≠ g
  us : u ≠ s
  nf : H0 f = none
  nw : H0 w = none
structure WI (p g s u f w : Addr) (names : List Nm) (gv : Nat) (H0 H : Hp) (i : Nat) (F : List W) (X : List Entry) : Prop where
  pot : PotAt H p g s
  hf : H f = some (.lst (F.map wv))
  hw : H w = some (.lst (pyl X))
  hu : H u = some (.lst ((names ++ takesOf F).map sv))
  ent : ∀ x ∈ X, Ent p g u f w H x
  nd : (names ++ takesOf F).Nodup
  ok : ∀ n ∈ names ++ takesOf F, nmOk n
  len : F.length = i
  cst : costs (X.map (·.2.2)) + i + names.length = 3 * gv + 2
  pre : Pre (names, gv) F (X.map (·.2.2))
  kp : ∀ b o, H0 b = some o → b ≠ p → b ≠ g → b ≠ u → H b = some o
theorem costs_app (a b : List (List Nm × Nat)) : costs (a ++ b) = costs a + costs b := by
  induction a with
  | nil => simp [costs]
  | cons x a ih => simp [costs, ih]; omega
theorem WI.next {p g s u f w : Addr} {names : List Nm} {gv : Nat} {H0 H H' : Hp} {i : Nat} {F F' : List W} {x : Entry} {X Y : List Entry} (A : Apart p g s u f w H0) (I : WI p g s u f w names gv H0 H i F (x :: X))
    (fr : Fro p g u f w H H') (pot : PotAt H' p g s) (hf : H' f = some (.lst (F'.map wv))) (hw : H' w = some (.lst (pyl (Y ++ X)))) (hu : H' u = some (.lst ((names ++ takesOf F').map sv)))
    (ey : ∀ y ∈ Y, Ent p g u f w H' y) (nd : (names ++ takesOf F').Nodup) (ok : ∀ n ∈ names ++ takesOf F', nmOk n) (len : F'.length = i + 1) (cst : costs (Y.map (·.2.2)) + 1 = cost x.2.2)
    (pre : Pre (names, gv) F' ((Y ++ X).map (·.2.2))) : WI p g s u f w names gv H0 H' (i + 1) F' (Y ++ X) where
  pot := pot
  hf := hf
  hw := hw
  hu := hu
  ent := fun y hy => by
    rcases List.mem_append.mp hy with h | h
    · exact ey y h
    · exact (I.ent y (List.mem_cons_of_mem _ h)).fro fr
  nd := nd
  ok := ok
  len := len
  cst := by
    have c := I.cst
    rw [List.map_append, costs_app]
    simp only [List.map_cons, costs] at c
    omega
  pre := pre
  kp := fun b o h b1 b2 b3 => fr b o (I.kp b o h b1 b2 b3) ⟨b1, b2, b3, ne_of_none h A.nf, ne_of_none h A.nw⟩
theorem WI.offNew {p g s u f w : Addr} {H' : Hp} {b : Addr} (PA : PotAt H' p g s) {uf wf uu : HO} (hf : H' f = some uf) (hw : H' w = some wf) (hu : H' u = some uu) (n : H' b = none) : Off p g u f w b := by
  obtain ⟨⟨G, S, t, r, z1, z2, z3, z4⟩, _, _, _⟩ := PA
  exact ⟨(ne_of_none z1 n).symm, (ne_of_none z2 n).symm, (ne_of_none hu n).symm, (ne_of_none hf n).symm, (ne_of_none hw n).symm⟩
/-- behind the pop -/
structure Mid (p g s u f w : Addr) (names : List Nm) (F : List W) (X : List Entry) (x : Entry) (H H' : Hp) : Prop where
  pot : PotAt H' p g s
  hf : H' f = some (.lst (F.map wv))
  hw : H' w = some (.lst (pyl X))
  hu : H' u = some (.lst ((names ++ takesOf F).map sv))
  e : Ent p g u f w H' x
  fr : Fro p g u f w H H'
theorem Mid.keep {p g s u f w : Addr} {names : List Nm} {F : List W} {X : List Entry} {x : Entry} {H H0 H' H'' : Hp} (A : Apart p g s u f w H0) (M : Mid p g s u f w names F X x H H') (P : PotAt H'' p g s) (k : Keep p g H' H'') : Mid p g s u f w names F X x H H'' :=
  ⟨P, k _ _ M.hf A.fp A.fg, k _ _ M.hw A.wp A.wg, k _ _ M.hu A.up A.ug, M.e.fro (Fro.keep k), M.fr.trans (Fro.keep k)⟩
theorem Mid.same {p g s u f w : Addr} {names : List Nm} {F : List W} {X : List Entry} {x : Entry} {H H' H'' : Hp} (M : Mid p g s u f w names F X x H H') (k : Same H' H'') : Mid p g s u f w names F X x H H'' :=
  ⟨M.pot.keep k, k _ _ M.hf, k _ _ M.hw, k _ _ M.hu, M.e.fro (Fro.same k), M.fr.trans (Fro.same k)⟩
theorem int0 (n : Nat) : decide (V.int (n : Int) = V.int 0) = decide (n = 0) := by
  by_cases h : n = 0
  · subst h; simp
  · rw [decide_eq_false h]
    exact decide_eq_false (fun e => h (by have := V.int.inj e; omega))
theorem int1 (n : Nat) : decide (V.int (n : Int) = V.int 1) = decide (n = 1) := by
  by_cases h : n = 1
  · subst h; simp
  · rw [decide_eq_false h]
    exact decide_eq_false (fun e => h (by have := V.int.inj e; omega))
def spWords : Sp := fun vs H Q _ => ∃ (p g s m u : Addr) (names : List Nm) (gv : Nat), vs = [.ref p, .ref m, .int (gv : Nat), .ref u] ∧ PotAt H p g s ∧ H m = some (.lst (names.map sv)) ∧ H u = some (.lst (names.map sv)) ∧ m ≠ p ∧ m ≠ g ∧ m ≠ u ∧ u ≠ p ∧ u ≠ g ∧ gv ≤ 333 ∧ names.length ≤ gv + 1 ∧ names.length ≤ 60 ∧ names.Nodup ∧ (∀ n ∈ names, nmOk n) ∧
  ∀ (H' : Hp) (q : Addr) (ws : List W), Gen names gv ws → PotAt H' p g s → H' u = some (.lst ((names ++ takesOf ws).map sv)) → TupF H' q (ws.map wv) → (∀ b o, H b = some o → b ≠ p → b ≠ g → b ≠ u → H' b = some o) → Q (.ref q) H'
theorem enc_ap : Str.ofString "@" = enc .ap := TL.ext_tl (by rw [TL.tl_ofString]; rfl)
theorem enc_tk' (n : Nm) : Str.ofString "/" ++ str n = enc (.tk n) := TL.ext_tl (by rw [TL.tl_append, TL.tl_ofString]; rfl)
theorem bigN : (2000 : Nat) < 2 ^ 200 := by decide +kernel
end Kk

set_option maxHeartbeats 2000000
namespace Kk
open PySem PySem.Spec PyProof.Rows L2 Wd
def spSize : Sp := fun vs H Q _ => ∃ (p g s : Addr) (m : Nat), vs = [.ref p, .int (m : Int)] ∧ PotAt H p g s ∧ m ≤ 333 ∧
  ∀ (H' : Hp) (n : Nat), n ≤ max m 9 → PotAt H' p g s → Keep p g H H' → Q (.int (n : Int)) H'
def spProgram : Sp := fun vs H Q _ => ∃ (p g s : Addr) (m k : Nat), vs = [.ref p, .int (m : Int), .int (k : Int)] ∧ PotAt H p g s ∧ m ≤ 333 ∧ k ≤ 50 ∧
  ∀ (H' : Hp) (q : Addr) (names : List Nm) (gv : Nat) (ws : List W), Gen names gv ws → gv ≤ max m 9 → names.length ≤ k → PotAt H' p g s → TupF H' q (ws.map wv) → Keep p g H H' → Q (.ref q) H'
end Kk

set_option maxHeartbeats 2000000
namespace Kk
open PySem PySem.Spec PyProof.Rows L2 Wd
theorem PotAt.offs {H : Hp} {p g s q : Addr} {o : HO} (h : PotAt H p g s) (e : H q = some o) (hn : ∀ xs, o ≠ .lst xs) : q ≠ p ∧ q ≠ g := by
  obtain ⟨⟨G, S, t, r, z1, z2, z3, z4⟩, _, _, _⟩ := h
  exact ⟨ne_of e z1 (hn _), ne_of e z2 (hn _)⟩
theorem PotAt.new {H : Hp} {p g s q : Addr} (h : PotAt H p g s) (e : H q = none) : q ≠ p ∧ q ≠ g ∧ q ≠ s := by
  obtain ⟨⟨G, S, t, r, z1, z2, z3, z4⟩, _, _, _⟩ := h
  exact ⟨(ne_of_none z1 e).symm, (ne_of_none z2 e).symm, (ne_of_none z3 e).symm⟩
theorem Keep.free {H H1 : Hp} {p g s q : Addr} (k : Keep p g H H1) (P : PotAt H1 p g s) (e : H1 q = none) : H q = none := by
  cases h : H q with
  | none => rfl
  | some o =>
    obtain ⟨n1, n2, _⟩ := P.new e
    rw [k q o h n1 n2] at e
    cases e
theorem Keep.nw {H H1 : Hp} {p g q : Addr} {o : HO} (k : Keep p g H H1) (e : H q = none) : Keep p g H (upd H1 q o) := fun b u hb h1 h2 => by
  rw [upd_ne (ne_of_none hb e)]
  exact k b u hb h1 h2
theorem Same.nw {H H1 : Hp} {q : Addr} {o : HO} (k : Same H H1) (e : H q = none) : Same H (upd H1 q o) := fun b u hb => by
  rw [upd_ne (ne_of_none hb e)]
  exact k b u hb
theorem TupF.keepP {H H' : Hp} {p g s a : Addr} {xs : List V} (h : TupF H a xs) (P : PotAt H p g s) (k : Keep p g H H') : TupF H' a xs := by
  obtain ⟨o, h2, d2⟩ := h
  obtain ⟨q1, q2⟩ := P.offs h2 (fun _ q => nomatch q)
  exact ⟨o, k _ _ h2 q1 q2, d2⟩
end Kk

set_option maxHeartbeats 2000000
namespace Kk
open PySem PySem.Spec PyProof.Rows L2 Wd
theorem lc_text {x : Str} {g : TG} {tt : TT} {te : TE} {vs : List Nat} {σ : L2.St} {H1 : Hp} {D : Addr} {Qd : Hp → Prop} (Pv : Nat → Hp → Prop) (h0 : Pv 0 (upd H1 D (.lst [])))
    (hs : ∀ i c H, x.cps[i]? = some c → Pv i H → g (.str ⟨#[c]⟩) (wipe σ vs) H fun σ2 H2 => wipe σ2 vs = wipe σ vs ∧ tt σ2 H2 fun b H3 =>
      if b = true then te σ2 H3 fun y H4 => ∃ acc, H4 D = some (.lst acc) ∧ acc.length < sizeLine ∧ Pv (i + 1) (upd H4 D (.lst (acc ++ [y]))) else Pv (i + 1) H3) (hd : ∀ H, Pv x.cps.size H → Qd H) :
    ∃ W : Nat → Nat → Hp → Prop, (∃ m, W 0 m (upd H1 D (.lst []))) ∧ ∀ i m H, W i m H →
      ((Its x).stop i H ∧ Qd H) ∨ ((Its x).go i H ∧ ∃ Nx : Hp → Prop, (∀ H', Nx H' → ∃ m', m' < m ∧ W (i + 1) m' H') ∧ ∀ v H', (Its x).yld i H v H' → g v (wipe σ vs) H' fun σ2 H2 => wipe σ2 vs = wipe σ vs ∧ tt σ2 H2 fun b H3 =>
        if b = true then te σ2 H3 fun y H4 => ∃ acc, H4 D = some (.lst acc) ∧ acc.length < sizeLine ∧ Nx (upd H4 D (.lst (acc ++ [y]))) else Nx H3) := by
  refine ⟨fun i m H => m = x.cps.size - i ∧ i ≤ x.cps.size ∧ Pv i H, ⟨x.cps.size, by simp, Nat.zero_le _, h0⟩, ?_⟩
  rintro i m H ⟨rfl, hi, p⟩
  by_cases hlt : i < x.cps.size
  · refine .inr ⟨hlt, Pv (i + 1), fun H' p' => ⟨x.cps.size - (i + 1), by omega, rfl, hlt, p'⟩, fun v H' y => ?_⟩
    obtain ⟨rfl, c, hc, rfl⟩ := y
    exact hs i c _ hc p
  · have e : i = x.cps.size := by omega
    subst e
    exact .inl ⟨Nat.le_refl _, hd H p⟩
def spIsName : Sp := fun vs H Q _ => ∃ z : Str, vs = [.str z] ∧ z.length ≤ 1000 ∧ ∀ H', Same H H' → Q (.bl (nameB z)) H'
abbrev s_is_name : Stmt := (top 4)
theorem sc_is_name : FnScope ["thing", "sign"] ["thing"] (defScope s_is_name) := ⟨rfl, rfl, rfl, by decide +kernel, rfl, by decide +kernel, by decide +kernel⟩
theorem kitSS : kitB "str" "str" = some true := by decide +kernel
theorem c_is_name {P w K mg base} (B : Bt mg) (D : DefAt K mg "is_name" s_is_name) : Cal P w K mg base "is_name" 1 ["thing"] spIsName := by
  refine cal_of D sc_is_name (fun _ _ _ _ _ _ us hl => match us, hl with | [_], _ => rfl) (fun vs H Q E h => ?_) (fun fa cdv A outer st0 H vs Q E hr h => ?_)
  · obtain ⟨z, rfl, _⟩ := h
    rfl
  · obtain ⟨z, rfl, hz, k⟩ := h
    refine ⟨_, (pss_cons (ps_if (PW.pt (pw_or (pt_not (pt_val (pe_callB call_isi (by rfl) B.b_isinstance (by decide +kernel) (pa_cons (pv 0) (pa_cons (pe_ty (n := "str") B.b_str (by decide +kernel)) pa_nil))))) (pw_or1 (pt_not (pt_chain op_le op_le pe_int (pe_callB call_len_str (by rfl) B.b_len (by decide +kernel) (pa_cons (pv 0) pa_nil)) (pe_gi B.m_MOST_LETTERS)))))) (pss_one (ps_ret pe_bl)) pss_nil)
      (pss_one (ps_ret (pe_callB (cr_all rfl) (by rfl) B.b_all (by decide +kernel) (pa_cons (pe_lc (own := [("sign", 1)]) (g := (gName 1)) (tt := tYes) rfl sc_is_name.nd (pi_str (pv 0)) (blkOk_by (own := [("sign", 1)]) (N := ["thing", "sign"]) (sc := defScope s_is_name) (by decide +kernel)) (fun _ _ _ _ _ => (pg_name (i := 1) sc_is_name.nd rfl (by first | exact Or.inl rfl | exact Or.inr rfl))) (fun _ _ _ _ _ => pts_nil) (fun _ _ _ _ _ => (pe_cmpR op_in_sign (pv 1) (pe_gs B.m_LETTERS) (by rfl)))) pa_nil))))), ?_⟩
    refine ⟨_, rfl, _, _, _, _, true, rfl, .ty _, .base (.str z), kit_ty kitSS, _, rfl, ?_⟩
    refine iteF ?_
    have hzl : z.length ≤ sizeLine := Nat.le_of_lt (small_lt hz (by decide))
    refine ⟨_, rfl, _, rfl, hzl, _, _, rfl, rfl, _, rfl, ?_⟩
    by_cases h1 : 1 ≤ z.length
    · rw [decide_eq_true (show (1 : Int) ≤ (z.length : Nat) by omega)]
      refine iteT ⟨_, _, rfl, rfl, _, rfl, ?_⟩
      by_cases h2 : z.length ≤ 8
      · rw [decide_eq_true (show ((z.length : Nat) : Int) ≤ 8 by omega)]
        refine iteF ?_
        refine ⟨_, rfl, z, rfl, fun D nD => lc_text (x := z) (fun i H' => H' = upd H D (.lst ((((TL.tl z).take i).map fun c => decide (97 ≤ c ∧ c ≤ 122)).map V.bl))) rfl ?_ ?_⟩
        · rintro i c H' hc e
          have hc' : (TL.tl z)[i]? = some c := by
            show z.cps.toList[i]? = _
            rw [Array.getElem?_toList]; exact hc
          refine ⟨rfl, _, rfl, c, _, rfl, rfl, ?_⟩
          rw [letters c]
          refine ⟨_, by rw [e]; exact upd_same, ?_, ?_⟩
          · rw [List.length_map, List.length_map, List.length_take]
            have : (TL.tl z).length = z.length := (TL.len_tl z).symm
            exact small_lt (m := 1000) (by omega) (by decide)
          · rw [upd_over e, List.take_add_one, hc']
            simp
        · rintro H' rfl
          have hl : (TL.tl z).take z.cps.size = TL.tl z := List.take_of_length_le (by rw [← TL.len_tl]; exact Nat.le_refl _)
          refine ⟨D, _, rfl, SqL.of upd_same, ?_⟩
          rw [hl]
          have ef : (((TL.tl z).map fun c => decide (97 ≤ c ∧ c ≤ 122)).all id) = nameB z := by
            unfold nameB
            rw [decide_eq_true h1, decide_eq_true h2, List.all_map]
            rfl
          rw [ef]
          exact k _ (same_upd nD)
      · rw [decide_eq_false (show ¬ ((z.length : Nat) : Int) ≤ 8 by omega)]
        refine iteT ?_
        have ef : nameB z = false := by unfold nameB; rw [decide_eq_false h2]; simp
        have := k H (Same.refl H)
        rw [ef] at this
        exact this
    · rw [decide_eq_false (show ¬ (1 : Int) ≤ (z.length : Nat) by omega)]
      refine iteF ⟨_, rfl, iteT ?_⟩
      have ef : nameB z = false := by unfold nameB; rw [decide_eq_false h1]; rfl
      have := k H (Same.refl H)
      rw [ef] at this
      exact this
/-- of a word that is one -/
def spIsWord : Sp := fun vs H Q _ => ∃ w : W, vs = [wv w] ∧ wOk w ∧ ∀ H', Same H H' → Q (.bl true) H'
theorem len_enc {w : W} (h : wOk w) : (enc w).length ≤ 9 := by
  have : (enc w).length = (code w).length := TL.len_tl _
  rw [this]
  cases w with
  | ap => decide
  | tk n => have := h.2.1; simp [Wd.code]; omega
  | nm n => have := h.2.1; simp [Wd.code]; omega
abbrev s_is_word : Stmt := (top 20)
theorem sc_is_word : FnScope ["thing"] ["thing"] (defScope s_is_word) := ⟨rfl, rfl, rfl, by decide +kernel, rfl, by decide +kernel, by decide +kernel⟩
theorem c_is_word {P w K mg base} (B : Bt mg) (D : DefAt K mg "is_word" s_is_word) (Cis_name : Cal P w K mg base "is_name" 1 ["thing"] spIsName) : Cal P w K mg base "is_word" 2 ["thing"] spIsWord := by
  refine cal_of D sc_is_word (fun _ _ _ _ _ _ us hl => match us, hl with | [_], _ => rfl) (fun vs H Q E h => ?_) (fun fa cdv A outer st0 H vs Q E hr h => ?_)
  · obtain ⟨z, rfl, _⟩ := h
    rfl
  · obtain ⟨z, rfl, hz, k⟩ := h
    refine ⟨_, (pss_cons (ps_if (pt_not (pt_val (pe_callB call_isi (by rfl) B.b_isinstance (by decide +kernel) (pa_cons (pv 0) (pa_cons (pe_ty (n := "str") B.b_str (by decide +kernel)) pa_nil))))) (pss_one (ps_ret pe_bl)) pss_nil)
      (pss_one (ps_ret (pe_or (pe_cmpR op_eq (pv 0) (pe_gs B.m_GIVEN) (nomark _)) (pe_or (pe_c Cis_name (hr.mono (by decide)) (pa_cons (pv 0) pa_nil)) (pe_one (pe_and (pe_bm PySem.F.plainAttrs_str PySem.F.slot_str_startswith PySem.F.type_str_startswith mt_startswith (pv 0) (pa_cons (pe_gs B.m_TAKE) pa_nil)) (pe_one (pe_c Cis_name (hr.mono (by decide)) (pa_cons (pe_slice sl_str (pv 0) (po_some pe_int) po_none) pa_nil)))))))))), ?_⟩
    refine ⟨_, rfl, _, _, _, _, true, rfl, .ty _, .base (.str _), kit_ty kitSS, _, rfl, ?_⟩
    refine iteF ?_
    have hl := len_enc hz
    refine ⟨_, rfl, rfl, _, rfl, ?_⟩
    rw [is_ap hz]
    cases z with
    | ap => exact iteT (k H (Same.refl H))
    | nm n =>
      refine iteF ⟨_, rfl, _, rfl, by omega, fun H1 S1 => ?_⟩
      rw [enc_nm, nameB_ok hz]
      exact ⟨true, rfl, iteT (k H1 S1)⟩
    | tk n =>
      refine iteF ⟨_, rfl, _, rfl, by omega, fun H1 S1 => ?_⟩
      rw [nameB_tk]
      refine ⟨false, rfl, iteF ?_⟩
      refine ⟨_, rfl, rfl, _, _, rfl, rfl, ?_⟩
      rw [starts_tk hz]
      refine ⟨true, rfl, iteT ?_⟩
      refine ⟨_, rfl, _, rfl, _, rfl, Nat.le_of_lt (small_lt (m := 9) hl (by decide)), ?_⟩
      rw [cut1]
      refine ⟨_, rfl, ?_, fun H2 S2 => ?_⟩
      · rw [len_str]; have := hz.2.1; omega
      · rw [nameB_ok hz]
        exact k H2 (S1.trans S2)
end Kk

set_option maxHeartbeats 2000000
namespace Kk
open PySem PySem.Spec PyProof.Rows L2 Wd
/-- a check of words that finds no fault -/
def spFine (K : PySem.W.Frag) : Sp := fun vs H Q _ => ∃ (a : Addr) (ws : List W), vs = [.ref a] ∧ SqT K H a (ws.map wv) ∧ Vd ws ∧ ws.length ≤ 1000 ∧ ∀ H', Same H H' → Q .non H'
abbrev s_stranger_index : Stmt := (top 21)
theorem sc_stranger_index : FnScope ["things", "at", "thing"] ["things"] (defScope s_stranger_index) := ⟨rfl, rfl, rfl, by decide +kernel, rfl, by decide +kernel, by decide +kernel⟩
theorem c_stranger_index {P w K mg base} (B : Bt mg) (D : DefAt K mg "stranger_index" s_stranger_index) (Cis_word : Cal P w K mg base "is_word" 2 ["thing"] spIsWord) : Cal P w K mg base "stranger_index" 3 ["things"] (spFine K) := by
  refine cal_of D sc_stranger_index (fun _ _ _ _ _ _ us hl => match us, hl with | [_], _ => rfl) (fun vs H Q E h => ?_) (fun fa cdv A outer st0 H vs Q E hr h => ?_)
  · obtain ⟨a, ws, rfl, _⟩ := h
    rfl
  · obtain ⟨a, ws, rfl, hq, vd, hl, k⟩ := h
    refine ⟨_, (pss_cons (ps_for PassesOwn.never rfl (pi_enumT (by rfl) B.b_enumerate (pa_cons (pv 0) pa_nil)) (pg_tup (by rfl) (pgs_cons (pg_name (i := 1) sc_stranger_index.nd rfl (by first | exact Or.inl rfl | exact Or.inr rfl)) (pgs_cons (pg_name (i := 2) sc_stranger_index.nd rfl (by first | exact Or.inl rfl | exact Or.inr rfl)) pgs_nil))) (pss_one (ps_if (pt_not (pt_val (pe_c Cis_word (hr.mono (by decide)) (pa_cons (pv 2) pa_nil)))) (pss_one (ps_ret (pv 1))) pss_nil)))
      (pss_one (ps_ret pe_non))), ?_⟩
    refine ⟨_, rfl, a, _, rfl, hq, for_enumT (K := K) (a := a) (xs := ws.map wv) (fun i σ H' => ∃ v1 v2 : Option V, σ = [some (.ref a), v1, v2] ∧ Same H H') ⟨none, none, rfl, Same.refl H⟩ (fun i σ H' _ ⟨_, _, _, s⟩ => SqT.same hq s) ?_ ?_⟩
    · rintro i x σ H' T hx ⟨v1, v2, rfl, S1⟩ nT
      obtain ⟨w, hw, rfl⟩ := map_get hx
      have S2 : Same H (upd H' T (.tup [.int (i : Nat), wv w])) := S1.trans (same_upd nT)
      refine ⟨T, _, rfl, SqT.of upd_same, rfl, _, _, rfl, _, _, rfl, rfl, ?_⟩
      refine ⟨_, rfl, w, rfl, vd.okAt hw, fun H3 S3 => ⟨true, rfl, iteF ?_⟩⟩
      exact ⟨_, _, rfl, S2.trans S3⟩
    · rintro σ H' ⟨v1, v2, rfl, S1⟩
      exact k H' S1
/-- how many parts belong to a word -/
def spPartsIn : Sp := fun vs H Q _ => ∃ w : W, vs = [wv w] ∧ wOk w ∧ ∀ H', Same H H' → Q (nv (needW w)) H'
abbrev s_parts_in : Stmt := (top 22)
theorem sc_parts_in : FnScope ["word"] ["word"] (defScope s_parts_in) := ⟨rfl, rfl, rfl, by decide +kernel, rfl, by decide +kernel, by decide +kernel⟩
theorem c_parts_in {P w K mg base} (B : Bt mg) (D : DefAt K mg "parts_in" s_parts_in) : Cal P w K mg base "parts_in" 1 ["word"] spPartsIn := by
  refine cal_of D sc_parts_in (fun _ _ _ _ _ _ us hl => match us, hl with | [_], _ => rfl) (fun vs H Q E h => ?_) (fun fa cdv A outer st0 H vs Q E hr h => ?_)
  · obtain ⟨z, rfl, _⟩ := h
    rfl
  · obtain ⟨z, rfl, hz, k⟩ := h
    refine ⟨_, (pss_cons (ps_if (pt_cmpR op_eq (pv 0) (pe_gs B.m_GIVEN) (nomark _)) (pss_one (ps_ret pe_int)) pss_nil)
      (pss_one (ps_ret (pe_ifExp (pt_val (pe_bm PySem.F.plainAttrs_str PySem.F.slot_str_startswith PySem.F.type_str_startswith mt_startswith (pv 0) (pa_cons (pe_gs B.m_TAKE) pa_nil))) pe_int pe_int)))), ?_⟩
    have kk := k H (Same.refl H)
    refine ⟨_, rfl, rfl, _, rfl, ?_⟩
    rw [is_ap hz]
    cases z with
    | ap => exact iteT kk
    | tk n =>
      refine iteF ⟨_, rfl, rfl, _, _, rfl, rfl, ?_⟩
      rw [starts_tk hz]
      exact ⟨true, rfl, iteT kk⟩
    | nm n =>
      refine iteF ⟨_, rfl, rfl, _, _, rfl, rfl, ?_⟩
      rw [starts_tk hz]
      exact ⟨false, rfl, iteF kk⟩
abbrev s_repeated_index : Stmt := (top 23)
theorem sc_repeated_index : FnScope ["words", "seen", "at", "word"] ["words"] (defScope s_repeated_index) := ⟨rfl, rfl, rfl, by decide +kernel, rfl, by decide +kernel, by decide +kernel⟩
def seenK (ws : List W) (i : Nat) (k : Key) : Bool := (ws.take i).any fun w => !isAp w && decide (k = Sum.inr (enc w))
theorem seenK_new {ws : List W} (vd : Vd ws) {i : Nat} {w : W} (hw : ws[i]? = some w) : seenK ws i (Sum.inr (enc w)) = false := by
  unfold seenK
  rw [List.any_eq_false]
  intro u hu hc
  rw [Bool.and_eq_true, decide_eq_true_eq] at hc
  obtain ⟨h1, h2⟩ := hc
  have e : w = u := enc_inj (vd.okAt hw) (vd.ok u (List.mem_of_mem_take hu)) (Sum.inr.inj h2)
  subst e
  obtain ⟨j, hj, e⟩ := List.mem_iff_getElem.mp hu
  rw [List.length_take] at hj
  have hj' : ws[j]? = some w := by
    rw [List.getElem?_eq_getElem (by omega)]
    rw [List.getElem_take] at e
    rw [e]
  have hne : w ≠ .ap := by rintro rfl; cases h1
  have := vd.once hne hw hj'
  omega
theorem seenK_step {ws : List W} {i : Nat} {w : W} (hw : ws[i]? = some w) (k : Key) : seenK ws (i + 1) k = (seenK ws i k || (!isAp w && decide (k = Sum.inr (enc w)))) := by
  unfold seenK
  rw [List.take_add_one, hw, List.any_append]
  simp
theorem c_repeated_index {P w K mg base} (B : Bt mg) (D : DefAt K mg "repeated_index" s_repeated_index) : Cal P w K mg base "repeated_index" 1 ["words"] (spFine K) := by
  refine cal_of D sc_repeated_index (fun _ _ _ _ _ _ us hl => match us, hl with | [_], _ => rfl) (fun vs H Q E h => ?_) (fun fa cdv A outer st0 H vs Q E hr h => ?_)
  · obtain ⟨a, ws, rfl, _⟩ := h
    rfl
  · obtain ⟨a, ws, rfl, hq, vd, hl, k⟩ := h
    refine ⟨_, (pss_cons (ps_set (i := 1) sc_repeated_index.nd rfl (by first | exact Or.inl rfl | exact Or.inr rfl) (pe_callTy0 cr_set0K (by rfl) B.b_set (by decide +kernel)))
      (pss_cons (ps_for PassesOwn.never rfl (pi_enumT (by rfl) B.b_enumerate (pa_cons (pv 0) pa_nil)) (pg_tup (by rfl) (pgs_cons (pg_name (i := 2) sc_repeated_index.nd rfl (by first | exact Or.inl rfl | exact Or.inr rfl)) (pgs_cons (pg_name (i := 3) sc_repeated_index.nd rfl (by first | exact Or.inl rfl | exact Or.inr rfl)) pgs_nil))) (pss_cons (ps_if (pt_cmpR or_sinK (pv 3) (pv 1) (by rfl)) (pss_one (ps_ret (pv 2))) pss_nil)
      (pss_one (ps_if (pt_cmpR op_ne (pv 3) (pe_gs B.m_GIVEN) (nomark _)) (pss_one (ps_expr (pe_saddK (pv 1) (pa_cons (pv 3) pa_nil)))) pss_nil))))
      (pss_one (ps_ret pe_non)))), ?_⟩
    refine ⟨rfl, fun S nS => ?_⟩
    refine ⟨_, rfl, a, _, rfl, SqT.same hq (same_upd nS), for_enumT (K := K) (a := a) (xs := ws.map wv) (fun i σ H' => ∃ (v1 v2 : Option V) (c : Nat), σ = [some (.ref a), some (.ref S), v1, v2] ∧ Same H H' ∧ c ≤ i ∧ H' S = some (SetK P w S (seenK ws i) c))
      ⟨none, none, 0, rfl, same_upd nS, Nat.le_refl _, upd_same⟩ (fun i σ H' _ ⟨_, _, _, _, s, _⟩ => SqT.same hq s) ?_ ?_⟩
    · rintro i x σ H' T hx ⟨v1, v2, c, rfl, S1, hc, L1⟩ nT
      obtain ⟨w', hw, rfl⟩ := map_get hx
      have hi := Wd.T.lt_of_get hw
      have S2 : Same H (upd H' T (.tup [.int (i : Nat), wv w'])) := S1.trans (same_upd nT)
      have L2 : upd H' T (.tup [.int (i : Nat), wv w']) S = _ := same_upd nT _ _ L1
      refine ⟨T, _, rfl, SqT.of upd_same, rfl, _, _, rfl, _, _, rfl, rfl, ?_⟩
      generalize upd H' T (.tup [.int (i : Nat), wv w']) = H2 at *
      refine ⟨_, rfl, _, rfl, Sum.inr (enc w'), S, _, c, rfl, rfl, L2, _, rfl, ?_⟩
      show if (seenK ws i (Sum.inr (enc w'))) = true then _ else _
      rw [seenK_new vd hw]
      refine iteF ⟨_, rfl, rfl, _, rfl, ?_⟩
      rw [is_ap (vd.okAt hw)]
      have hst : seenK ws (i + 1) = fun k => (seenK ws i k || (!isAp w' && decide (k = Sum.inr (enc w')))) := funext (seenK_step hw)
      cases hap : isAp w' with
      | true =>
        refine iteF ?_
        refine ⟨_, _, c, rfl, S2, by omega, ?_⟩
        rw [hst, hap]
        have e : (fun k : Key => (seenK ws i k || (!true && decide (k = Sum.inr (enc w'))))) = seenK ws i := by funext k; simp
        rw [e]; exact L2
      | false =>
        refine iteT ?_
        refine ⟨_, rfl, ⟨_, _, _, rfl, L2⟩, _, rfl, S, Sum.inr (enc w'), _, c, rfl, rfl, L2, ?_, ?_⟩
        · show c + 1 < 4096; omega
        · have ns : ∀ b o, H b = some o → b ≠ S := fun b o hb => ne_of_none hb nS
          refine ⟨some (.int (i : Nat)), some (wv w'), if seenK ws i (Sum.inr (enc w')) = true then c else c + 1, rfl, fun b o hb => by rw [upd_ne (ns b o hb)]; exact S2 b o hb, ?_, ?_⟩
          · split <;> omega
          · rw [upd_same, hst, hap]
            have e : (fun k : Key => (seenK ws i k || (!false && decide (k = Sum.inr (enc w'))))) = fun j => seenK ws i j || decide (j = Sum.inr (enc w')) := by funext k; simp
            rw [e]
            rfl
    · rintro σ H' ⟨v1, v2, c, rfl, S1, _⟩
      exact k H' S1
def spEndsOf (K : PySem.W.Frag) : Sp := fun vs H Q _ => ∃ (a : Addr) (ws : List W) (E : Nat → Nat), vs = [.ref a] ∧ SqT K H a (ws.map wv) ∧ Vd ws ∧ IsEnds ws E ∧ ws.length ≤ 4000 ∧
  ∀ H' q, Same H H' → H q = none → TupF H' q (endsV ws.length E) → Q (.ref q) H'
abbrev s_ends_of : Stmt := (top 25)
theorem sc_ends_of : FnScope ["words", "word"] ["words"] (defScope s_ends_of) := ⟨rfl, rfl, rfl, by decide +kernel, rfl, by decide +kernel, by decide +kernel⟩
theorem needs_map (ws : List W) : ws.filterMap (fun w => some (nv (needW w))) = (ws.map needW).map nv := by
  rw [List.map_map, ← List.filterMap_eq_map]
  rfl
theorem c_ends_of {P w K mg base} (B : Bt mg) (D : DefAt K mg "ends_of" s_ends_of) (Cparts_in : Cal P w K mg base "parts_in" 1 ["word"] spPartsIn) (Cends_by : Cal P w K mg base "ends_by" 1 ["needs"] (spEndsBy K)) : Cal P w K mg base "ends_of" 2 ["words"] (spEndsOf K) := by
  refine cal_of D sc_ends_of (fun _ _ _ _ _ _ us hl => match us, hl with | [_], _ => rfl) (fun vs H Q E h => ?_) (fun fa cdv A outer st0 H vs Q E hr h => ?_)
  · obtain ⟨a, ws, E, rfl, _⟩ := h
    rfl
  · obtain ⟨a, ws, E, rfl, hq, vd, he, hl, k⟩ := h
    refine ⟨_, (pss_one (ps_ret (pe_c Cends_by (hr.mono (by decide)) (pa_cons (pe_lc (own := [("word", 1)]) (g := (gName 1)) (tt := tYes) rfl sc_ends_of.nd (pi_tup (pv 0)) (blkOk_by (own := [("word", 1)]) (N := ["words", "word"]) (sc := defScope s_ends_of) (by decide +kernel)) (fun _ _ _ _ _ => (pg_name (i := 1) sc_ends_of.nd rfl (by first | exact Or.inl rfl | exact Or.inr rfl))) (fun _ _ _ _ _ => pts_nil) (fun _ _ _ _ _ => (pe_c Cparts_in (hr.mono (by decide)) (pa_cons (pv 1) pa_nil)))) pa_nil)))), ?_⟩
    refine ⟨_, rfl, a, rfl, ⟨_, hq⟩, fun D nD => lc_fmT (f := wv) (r := fun w => some (nv (needW w))) hq nD (Nat.le_trans hl (by decide)) ?_ ?_⟩
    · rintro i w' H' Qy Qn hw S1 hy hn
      refine ⟨rfl, _, rfl, w', rfl, vd.okAt hw, fun H2 S2 => hy _ _ S2 rfl⟩
    · rintro H1 S1 L1
      rw [needs_map] at L1
      refine ⟨D, ws.map needW, E, rfl, SqL.of L1, he.needs, by rw [List.length_map]; exact Nat.le_trans hl (by decide), fun H2 q S2 n2 T2 => ?_⟩
      rw [List.length_map] at T2
      exact k H2 q (S1.trans S2) (S1.free n2) T2
end Kk

set_option maxHeartbeats 2000000
/-! a dict comprehension stored to a local's name -/
namespace Kk
open PySem PySem.Spec PyProof.Rows L2
section
variable {X : Cx}
theorem sw_dict {ke ve : Expr} {gs : List Comprehension} {scope : Scope} {pos py : Pos} {y : Str} {l : Nat} {env : Env} (hk : env.scope.kind = .function) (hy : env.scope.names.lookup y = some .local) (hl : (py.line == pos.line) = true)
    (ha : (scope.names.any fun (n, k) => n == y && (k == .local || k == .cell)) = false) : swapsWith (.DictComp ke ve gs scope pos) (some (.Name y py)) l env = pure true := by
  have e1 : env.kindOf y = some .local := hy
  have e2 : env.blockKind = .function := by unfold Env.blockKind; rw [hk]; rfl
  unfold swapsWith
  simp only [e1, e2, ha, Expr.pos, hl]
  rfl
theorem ps_setDc {i : Nat} {y : Str} {py : Pos} {ke ve tg iter : Expr} {ifs : List Expr} {scope : Scope} {own : List (Str × Nat)} {pos spos : Pos} {wi : TI} {g : TG} {tt : TT} {tk tv : TE} (hc : X.calm = true) (hN : X.N.Nodup) (hy : X.N[i]? = some y) (hyl : X.env.scope.names.lookup y = some .local)
    (hsw : swapsWith (.DictComp ke ve [⟨tg, iter, ifs, 0⟩] scope pos) (some (.Name y py)) spos.line X.env = pure true) (hi : PI X tg iter wi) (ok : BlkOk X.N X.env.scope scope own)
    (hg : ∀ (s : Shared) (H : Hp) (C : Addr) (cl : List (Str × Addr)) (fp : List Addr), PG (X.blk s H scope (compEnvC scope cl C X.env) fp) tg g) (ht : ∀ (s : Shared) (H : Hp) (C : Addr) (cl : List (Str × Addr)) (fp : List Addr), PTs (X.blk s H scope (compEnvC scope cl C X.env) fp) ifs tt)
    (hk : ∀ (s : Shared) (H : Hp) (C : Addr) (cl : List (Str × Addr)) (fp : List Addr), PE (X.blk s H scope (compEnvC scope cl C X.env) fp) ke tk)
    (he : ∀ (s : Shared) (H : Hp) (C : Addr) (cl : List (Str × Addr)) (fp : List Addr), PE (X.blk s H scope (compEnvC scope cl C X.env) fp) ve tv) (hs : ∀ x, foldedSetIterable iter X.env x = pure x := by intro _; rfl) :
    PS X (.Assign [.Name y py] (.DictComp ke ve [⟨tg, iter, ifs, 0⟩] scope pos) spos) (tAsg (tDc wi g tt tk tv (own.map (·.2))) (gName i)) := by
  refine ⟨fun pins s σ H D I h => ?_⟩
  rw [exec_Assign_Name_used _ _ _ _ hsw]
  refine wpAny_bind (wpAny_standAt (wpAny_bind ?_))
  show wpAny _ X.A (do let _ ← comprehension (.DictComp ke ve [⟨tg, iter, ifs, 0⟩] scope pos) scope X.env (firstIterPos [⟨tg, iter, ifs, 0⟩] pos) newDict false (eval iter X.env) (some (assign (.Name y py) X.env))) _ _ s
  have h : tDc wi g tt tk tv (own.map (·.2)) σ H (fun x H1 => gName i x σ H1 D.nx) := h
  refine wpAny_bind (thn (dc_core (Qf := fun _ s' => SP X pins D .next s') hc hN I hi ok hg ht hk he hs h fun L C s' m H' I' q hn f => ?_) fun _ s' hq => wpAny_pure (wpAny_pure hq))
  show wpAny _ _ (assign (.Name y py) X.env (.ref L)) _ _ _
  refine wpAny_assign_Name (store_ok2 (v := V.ref L) I' hN hy (.inl hyl) rfl (fun s2 I2 ⟨a, sb, ha⟩ => ?_) (.inr hyl))
  obtain ⟨f0, f1, f2, f3, f4, f5⟩ := f
  have haC : C ≠ a := by
    rcases ha with z | z
    · rw [z]; exact f1
    · exact fun e => f4 y a z e.symm
  refine ⟨m, hn.sameBut sb haC, fun h3 sb3 => ?_⟩
  exact ⟨_, H', I2.turned (t' := s2.toks) (fun b o hb e => (sb3.2 b hb).trans e) f0 f1 f3 f4 f5, q⟩
end
end Kk

set_option maxHeartbeats 2000000
namespace Kk
open PySem PySem.Spec PyProof.Rows L2 Wd
theorem dc_enumT {K : PySem.W.Frag} {a : Addr} {xs : List V} {g : TG} {tt : TT} {tk tv : TE} {vs : List Nat} {σ : L2.St} {H1 : Hp} {D : Addr} {Qd : Hp → Prop} (Pv : Nat → Hp → Prop) (h0 : Pv 0 (upd H1 D (.dK []))) (hl : ∀ i H, i ≤ xs.length → Pv i H → SqT K H a xs)
    (hs : ∀ i x H T, xs[i]? = some x → Pv i H → H T = none → g (.ref T) (wipe σ vs) (upd H T (.tup [.int (i : Nat), x])) fun σ2 H2 => wipe σ2 vs = wipe σ vs ∧ tt σ2 H2 fun b H3 =>
      if b = true then tk σ2 H3 fun y H4 => tv σ2 H4 fun z H5 => ∃ kvs k, y = kV k ∧ H5 D = some (.dK kvs) ∧ kvs.length < sizeLine ∧ Pv (i + 1) (upd H5 D (.dK (putK kvs k z))) else Pv (i + 1) H3) (hd : ∀ H, Pv xs.length H → Qd H) :
    ∃ W : Nat → Nat → Hp → Prop, (∃ m, W 0 m (upd H1 D (.dK []))) ∧ ∀ i m H, W i m H →
      ((IteT K a).stop i H ∧ Qd H) ∨ ((IteT K a).go i H ∧ ∃ Nx : Hp → Prop, (∀ H', Nx H' → ∃ m', m' < m ∧ W (i + 1) m' H') ∧ ∀ x H', (IteT K a).yld i H x H' → g x (wipe σ vs) H' fun σ2 H2 => wipe σ2 vs = wipe σ vs ∧ tt σ2 H2 fun b H3 =>
        if b = true then tk σ2 H3 fun y H4 => tv σ2 H4 fun z H5 => ∃ kvs k, y = kV k ∧ H5 D = some (.dK kvs) ∧ kvs.length < sizeLine ∧ Nx (upd H5 D (.dK (putK kvs k z))) else Nx H3) := by
  refine ⟨fun i m H => m = xs.length - i ∧ i ≤ xs.length ∧ Pv i H, ⟨xs.length, by simp, Nat.zero_le _, h0⟩, ?_⟩
  rintro i m H ⟨rfl, hi, p⟩
  have q := hl i H hi p
  by_cases hlt : i < xs.length
  · refine .inr ⟨⟨xs, xs[i], q, by simp [hlt]⟩, Pv (i + 1), fun H' p' => ⟨xs.length - (i + 1), by omega, rfl, hlt, p'⟩, fun x H' y => ?_⟩
    obtain ⟨T, z, rfl, hT, rfl, hz⟩ := y
    exact hs i z H T (hz xs q) p hT
  · have e : i = xs.length := by omega
    subst e
    exact .inl ⟨⟨xs, q, Nat.le_refl _⟩, hd H p⟩
abbrev s_unused_index : Stmt := (top 24)
theorem sc_unused_index : FnScope ["words", "places", "at", "word", "behind"] ["words"] (defScope s_unused_index) := ⟨rfl, rfl, rfl, by decide +kernel, rfl, by decide +kernel, by decide +kernel⟩
/-- where names stand, among the first i words -/
def Places (ws : List W) (i : Nat) (kvs : List (Key × V)) : Prop := kvs.length ≤ i ∧ ∀ j n, j < i → ws[j]? = some (.nm n) → valV kvs (Sum.inr (str n)) = some (.int (j : Nat))
theorem Places.put {ws : List W} (vd : Vd ws) {i : Nat} {w : W} {kvs : List (Key × V)} (hw : ws[i]? = some w) (p : Places ws i kvs) : Places ws (i + 1) (putK kvs (Sum.inr (enc w)) (.int (i : Nat))) := by
  refine ⟨by have := length_putK kvs (Sum.inr (enc w)) (.int (i : Nat)); have := p.1; omega, fun j n hj hn => ?_⟩
  rw [valV_put]
  by_cases e : (Sum.inr (str n) : Key) = Sum.inr (enc w)
  · rw [if_pos e]
    have e2 : W.nm n = w := enc_inj (vd.okAt hn) (vd.okAt hw) (Sum.inr.inj e)
    subst e2
    have := vd.once (by simp) hn hw
    subst this
    rfl
  · rw [if_neg e]
    refine p.2 j n ?_ hn
    have : j ≠ i := by
      rintro rfl
      rw [hw] at hn
      cases hn
      exact e rfl
    omega
theorem c_unused_index {P w K mg base} (B : Bt mg) (D : DefAt K mg "unused_index" s_unused_index) (Cends_of : Cal P w K mg base "ends_of" 2 ["words"] (spEndsOf K)) : Cal P w K mg base "unused_index" 3 ["words"] (spFine K) := by
  refine cal_of D sc_unused_index (fun _ _ _ _ _ _ us hl => match us, hl with | [_], _ => rfl) (fun vs H Q E h => ?_) (fun fa cdv A outer st0 H vs Q E hr h => ?_)
  · obtain ⟨a, ws, rfl, _⟩ := h
    rfl
  · obtain ⟨a, ws, rfl, hq, vd, hl, k⟩ := h
    obtain ⟨EE, he⟩ := vd.ends
    refine ⟨_, (pss_cons (ps_setDc (i := 1) (own := [("at", 2), ("word", 3)]) (g := (gTup K 2 (gCons (gName 2) (gCons (gName 3) gNil)))) (tt := tYes) rfl sc_unused_index.nd rfl rfl (sw_dict rfl rfl rfl (by decide +kernel)) (pi_enumT (by rfl) B.b_enumerate (pa_cons (pv 0) pa_nil)) (blkOk_by (own := [("at", 2), ("word", 3)]) (N := ["words", "places", "at", "word", "behind"]) (sc := defScope s_unused_index) (by decide +kernel)) (fun _ _ _ _ _ => by exact (pg_tup (by rfl) (pgs_cons (pg_name (i := 2) sc_unused_index.nd rfl (by first | exact Or.inl rfl | exact Or.inr rfl)) (pgs_cons (pg_name (i := 3) sc_unused_index.nd rfl (by first | exact Or.inl rfl | exact Or.inr rfl)) pgs_nil)))) (fun _ _ _ _ _ => pts_nil) (fun _ _ _ _ _ => by exact (pv 3)) (fun _ _ _ _ _ => by exact (pv 2)))
      (pss_cons (ps_set (i := 4) sc_unused_index.nd rfl (by first | exact Or.inl rfl | exact Or.inr rfl) (pe_c Cends_of (hr.mono (by decide)) (pa_cons (pv 0) pa_nil)))
      (pss_cons (ps_for PassesOwn.never rfl (pi_enumT (by rfl) B.b_enumerate (pa_cons (pv 0) pa_nil)) (pg_tup (by rfl) (pgs_cons (pg_name (i := 2) sc_unused_index.nd rfl (by first | exact Or.inl rfl | exact Or.inr rfl)) (pgs_cons (pg_name (i := 3) sc_unused_index.nd rfl (by first | exact Or.inl rfl | exact Or.inr rfl)) pgs_nil))) (pss_one (ps_if (PW.pt (pw_and (pt_val (pe_bm PySem.F.plainAttrs_str PySem.F.slot_str_startswith PySem.F.type_str_startswith mt_startswith (pv 3) (pa_cons (pe_gs B.m_TAKE) pa_nil))) (pw_and1 (pt_not (pt_chain op_lt op_lt (pv 2) (pe_dget2 (hu_of hr) (pv 1) (pe_slice sl_str (pv 3) (po_some pe_int) po_none) (pe_un un_neg pe_int) ⟨by rfl, by rfl, by rfl, by rfl⟩) (pe_ix ix_tup (pv 4) (pv 2) (fun _ _ => rfl))))))) (pss_one (ps_ret (pv 2))) pss_nil)))
      (pss_one (ps_ret pe_non))))), ?_⟩
    have hlm : (ws.map wv).length = ws.length := List.length_map ..
    refine ⟨_, rfl, a, _, rfl, hq, fun D nD => dc_enumT (K := K) (a := a) (xs := ws.map wv) (fun i H' => Same H H' ∧ ∃ kvs, H' D = some (.dK kvs) ∧ Places ws i kvs)
      ⟨same_upd nD, [], upd_same, Nat.le_refl _, fun j n hj => absurd hj (by omega)⟩ (fun i H' _ ⟨s, _⟩ => SqT.same hq s) ?_ ?_⟩
    · rintro i x H' T hx ⟨S1, kvs, L1, p⟩ nT
      obtain ⟨w', hw, rfl⟩ := map_get hx
      have hi := Wd.T.lt_of_get hw
      refine ⟨T, _, rfl, SqT.of upd_same, rfl, _, _, rfl, _, _, rfl, rfl, ?_⟩
      refine ⟨rfl, _, rfl, _, rfl, kvs, Sum.inr (enc w'), rfl, same_upd nT _ _ L1, ?_, ?_⟩
      · have := p.1
        exact small_lt (m := 1000) (by omega) (by decide)
      · have nd : ∀ b o, H b = some o → b ≠ D := fun b o hb => ne_of_none hb nD
        exact ⟨fun b o hb => by rw [upd_ne (nd b o hb)]; exact same_upd nT _ _ (S1 b o hb), _, upd_same, p.put vd hw⟩
    · rintro H1 ⟨S1, kvs, L1, p⟩
      rw [hlm] at p
      refine ⟨_, rfl, a, ws, EE, rfl, SqT.same hq S1, vd, he, Nat.le_trans hl (by decide), fun H2 q S2 _ T2 => ?_⟩
      have L2 := S2 _ _ L1
      have S3 := S1.trans S2
      refine ⟨_, rfl, a, _, rfl, SqT.same hq S3, for_enumT (K := K) (a := a) (xs := ws.map wv) (fun i σ H' => ∃ v1 v2 : Option V, σ = [some (.ref a), some (.ref D), v1, v2, some (.ref q)] ∧ Same H2 H') ⟨_, _, rfl, Same.refl H2⟩ (fun i σ H' _ ⟨_, _, _, s⟩ => SqT.same hq (S3.trans s)) ?_ ?_⟩
      · rintro i x σ H' T hx ⟨v1, v2, rfl, S4⟩ nT
        obtain ⟨w', hw, rfl⟩ := map_get hx
        have hi := Wd.T.lt_of_get hw
        have hk := vd.okAt hw
        have S5 : Same H2 (upd H' T (.tup [.int (i : Nat), wv w'])) := S4.trans (same_upd nT)
        refine ⟨T, _, rfl, SqT.of upd_same, rfl, _, _, rfl, _, _, rfl, rfl, ?_⟩
        generalize upd H' T (.tup [.int (i : Nat), wv w']) = H5 at *
        refine ⟨_, rfl, rfl, _, _, rfl, rfl, ?_⟩
        rw [starts_tk hk]
        refine ⟨_, rfl, ?_⟩
        cases w' with
        | ap => exact iteF (iteF ⟨_, _, rfl, S5⟩)
        | nm n => exact iteF (iteF ⟨_, _, rfl, S5⟩)
        | tk n =>
          obtain ⟨j, hj, h1, h2⟩ := vd.used he hw
          have hjl := Wd.T.lt_of_get hj
          have hv := p.2 j n hjl hj
          have L5 := S5 _ _ L2
          refine iteT ?_
          refine ⟨_, rfl, _, rfl, D, rfl, .inl ⟨kvs, .inl L5⟩, _, rfl, _, rfl, _, rfl, Nat.le_of_lt (small_lt (m := 9) (len_enc hk) (by decide)), ?_⟩
          rw [cut1]
          refine ⟨_, rfl, some (.int (j : Nat)), by rw [← hv]; exact DGet.k (k := Sum.inr (str n)) L5, ?_⟩
          refine ⟨_, _, rfl, rfl, _, rfl, ?_⟩
          rw [decide_eq_true (show ((i : Nat) : Int) < ((j : Nat) : Int) by omega)]
          refine iteT ⟨_, rfl, _, rfl, q, _, _, _, rfl, rfl, (T2.same S5).sq, atI_nat (endsV_get hi), _, _, rfl, rfl, ?_⟩
          refine ⟨true, congrArg V.bl (decide_eq_true (show ((j : Nat) : Int) < ((EE i : Nat) : Int) by omega)), iteF ?_⟩
          exact ⟨_, _, rfl, S5⟩
      · rintro σ H' ⟨v1, v2, rfl, S4⟩
        exact k H' (S3.trans S4)
abbrev s_fault_index : Stmt := (top 19)
theorem sc_fault_index : FnScope ["words", "index", "word"] ["words"] (defScope s_fault_index) := ⟨rfl, rfl, rfl, by decide +kernel, rfl, by decide +kernel, by decide +kernel⟩
theorem tyx_tup {K : PySem.W.Frag} {H : Hp} {a : Addr} {xs : List V} (h : SqT K H a xs) : TyX K H (.ref a) (.type "tuple") := by
  rcases h with (h | ⟨o, h⟩) | ⟨o, its, n, h1, h2, _⟩
  · exact .base (.tup h)
  · exact .fTuple h
  · exact .kTuple h1 h2
theorem kitTT : kitB "tuple" "tuple" = some true := by decide +kernel
theorem c_fault_index {P w K mg base} (B : Bt mg) (D : DefAt K mg "fault_index" s_fault_index) (Cstranger_index : Cal P w K mg base "stranger_index" 3 ["things"] (spFine K)) (Cparts_in : Cal P w K mg base "parts_in" 1 ["word"] spPartsIn) (Cmisfit_index : Cal P w K mg base "misfit_index" 1 ["needs"] (spMisfit K))
    (Crepeated_index : Cal P w K mg base "repeated_index" 1 ["words"] (spFine K)) (Cunused_index : Cal P w K mg base "unused_index" 3 ["words"] (spFine K)) : Cal P w K mg base "fault_index" 4 ["words"] (spFine K) := by
  refine cal_of D sc_fault_index (fun _ _ _ _ _ _ us hl => match us, hl with | [_], _ => rfl) (fun vs H Q E h => ?_) (fun fa cdv A outer st0 H vs Q E hr h => ?_)
  · obtain ⟨a, ws, rfl, _⟩ := h
    rfl
  · obtain ⟨a, ws, rfl, hq, vd, hl, k⟩ := h
    refine ⟨_, (pss_cons (ps_if (PW.pt (pw_or (pt_not (pt_val (pe_callB call_isi (by rfl) B.b_isinstance (by decide +kernel) (pa_cons (pv 0) (pa_cons (pe_ty (n := "tuple") B.b_tuple (by decide +kernel)) pa_nil))))) (pw_or1 (pt_not (pt_chain op_le op_le pe_int (pe_callB call_len_seq (by rfl) B.b_len (by decide +kernel) (pa_cons (pv 0) pa_nil)) (pe_gi B.m_MOST_WORDS)))))) (pss_one (ps_ret (pe_un un_neg pe_int))) pss_nil)
      (pss_cons (ps_set (i := 1) sc_fault_index.nd rfl (by first | exact Or.inl rfl | exact Or.inr rfl) (pe_c Cstranger_index (hr.mono (by decide)) (pa_cons (pv 0) pa_nil)))
      (pss_cons (ps_if (pt_cmpR op_isN (pv 1) pe_non (nomark _)) (pss_one (ps_set (i := 1) sc_fault_index.nd rfl (by first | exact Or.inl rfl | exact Or.inr rfl) (pe_c Cmisfit_index (hr.mono (by decide)) (pa_cons (pe_lc (own := [("word", 2)]) (g := (gName 2)) (tt := tYes) rfl sc_fault_index.nd (pi_tup (pv 0)) (blkOk_by (own := [("word", 2)]) (N := ["words", "index", "word"]) (sc := defScope s_fault_index) (by decide +kernel)) (fun _ _ _ _ _ => (pg_name (i := 2) sc_fault_index.nd rfl (by first | exact Or.inl rfl | exact Or.inr rfl))) (fun _ _ _ _ _ => pts_nil) (fun _ _ _ _ _ => (pe_c Cparts_in (hr.mono (by decide)) (pa_cons (pv 2) pa_nil)))) pa_nil)))) pss_nil)
      (pss_cons (ps_if (pt_cmpR op_isN (pv 1) pe_non (nomark _)) (pss_one (ps_set (i := 1) sc_fault_index.nd rfl (by first | exact Or.inl rfl | exact Or.inr rfl) (pe_c Crepeated_index (hr.mono (by decide)) (pa_cons (pv 0) pa_nil)))) pss_nil)
      (pss_cons (ps_if (pt_cmpR op_isN (pv 1) pe_non (nomark _)) (pss_one (ps_set (i := 1) sc_fault_index.nd rfl (by first | exact Or.inl rfl | exact Or.inr rfl) (pe_c Cunused_index (hr.mono (by decide)) (pa_cons (pv 0) pa_nil)))) pss_nil)
      (pss_one (ps_ret (pv 1)))))))), ?_⟩
    have hlm : (ws.map wv).length = ws.length := List.length_map ..
    have pos := vd.pos
    refine ⟨_, rfl, _, _, _, _, true, rfl, .ty _, tyx_tup hq, kit_ty kitTT, _, rfl, iteF ?_⟩
    refine ⟨_, rfl, _, _, rfl, .inr hq, _, _, rfl, rfl, _, rfl, ?_⟩
    rw [hlm, decide_eq_true (show (1 : Int) ≤ (ws.length : Nat) by omega)]
    refine iteT ⟨_, _, rfl, rfl, _, rfl, ?_⟩
    rw [decide_eq_true (show ((ws.length : Nat) : Int) ≤ 1000 by omega)]
    refine iteF ?_
    refine ⟨_, rfl, a, ws, rfl, hq, vd, Nat.le_trans hl (by decide), fun H1 S1 => ?_⟩
    refine ⟨_, rfl, rfl, _, rfl, iteT ?_⟩
    refine ⟨_, rfl, a, rfl, ⟨_, SqT.same hq S1⟩, fun Dl nDl => lc_fmT (f := wv) (r := fun w => some (nv (needW w))) (SqT.same hq S1) nDl (Nat.le_trans hl (by decide)) ?_ ?_⟩
    · rintro i w' H' Qy Qn hw S1' hy hn
      refine ⟨rfl, _, rfl, w', rfl, vd.okAt hw, fun H2 S2 => hy _ _ S2 rfl⟩
    rintro H1' S1' L1'
    rw [needs_map] at L1'
    refine ⟨Dl, ws.map needW, rfl, SqL.of L1', by rw [List.length_map]; exact Nat.le_trans hl (by decide), fun H2 S2 => ?_⟩
    have S12 := S1.trans (S1'.trans S2)
    rw [vd.wh.mis 0]
    refine ⟨_, rfl, rfl, _, rfl, iteT ?_⟩
    refine ⟨_, rfl, a, ws, rfl, SqT.same hq S12, vd, Nat.le_trans hl (by decide), fun H3 S3 => ?_⟩
    have S13 := S12.trans S3
    refine ⟨_, rfl, rfl, _, rfl, iteT ?_⟩
    refine ⟨_, rfl, a, ws, rfl, SqT.same hq S13, vd, Nat.le_trans hl (by decide), fun H4 S4 => ?_⟩
    exact ⟨_, rfl, k H4 (S13.trans S4)⟩
end Kk

set_option maxHeartbeats 2000000
namespace Kk
open PySem PySem.Spec PyProof.Rows L2 Wd
/-! ### the class -/
structure PC (K : PySem.W.Frag) (mg : Str → Option Value) (C : Addr) : Prop where
  cl : Cls K C
  nw : NoAttr K C "words"
  mg : mg "Program" = some (.ref C)
  ha : PySem.W.findIn K (.ref C) "__class__" = some (some (.builtin "object.__class__"))
  hn : PySem.W.specialIn K (.builtin "object.__class__") "__get__" = some (some (.builtin "getset_descriptor.__get__"))
  ht : PySem.W.takesIn K (.builtin "object.__class__") = some true
  hm : PySem.W.mroIn K C (.type "object") = some true
def pfs (a : Addr) : List (Str × V) := putF "words" (.ref a) []
theorem pfs_get (a : Addr) : (pfs a).lookup ("words" : Str) = some (.ref a) := by unfold pfs; rw [lookup_putF, if_pos rfl]
theorem pfs_put (a b : Addr) : putF "words" (.ref b) (pfs a) = pfs b := by
  show (if ("words" : Str) = "words" then [(("words" : Str), V.ref b)] else _) = pfs b
  rw [if_pos rfl]
  all_goals rfl
/-- at x stands a Program, its words at a -/
def Pg (C : Addr) (H : Hp) (x a : Addr) : Prop := ∃ dx, H x = some (.ins C dx (pfs a))
theorem Pg.same {C : Addr} {H H' : Hp} {x a : Addr} (h : Pg C H x a) (k : Same H H') : Pg C H' x a := by
  obtain ⟨dx, h⟩ := h
  exact ⟨dx, k _ _ h⟩
theorem Pg.keep {C p g : Addr} {H H' : Hp} {x a : Addr} (h : Pg C H x a) (k : Keep p g H H') (h1 : x ≠ p) (h2 : x ≠ g) : Pg C H' x a := by
  obtain ⟨dx, h⟩ := h
  exact ⟨dx, k _ _ h h1 h2⟩
/-- all but x is as it was -/
def But (x : Addr) (H H' : Hp) : Prop := ∀ b o, H b = some o → b ≠ x → H' b = some o
def spInit (K : PySem.W.Frag) (C : Addr) : Sp := fun vs H Q _ => ∃ (x dx a : Addr) (ws : List W), vs = [.ref x, .ref a] ∧ H x = some (.ins C dx []) ∧ SqT K H a (ws.map wv) ∧ Vd ws ∧ ws.length ≤ 1000 ∧
  ∀ H', But x H H' → Pg C H' x a → Q .non H'
abbrev s_init : Stmt := (inClass (top 17) 0)
theorem sc_init : FnScope ["self", "words", "index"] ["self", "words"] (defScope s_init) := ⟨rfl, rfl, rfl, by decide +kernel, rfl, by decide +kernel, by decide +kernel⟩
theorem c_init {P w K mg base} {C f : Addr} {fd : FuncData} (B : Bt mg) (pc : PC K mg C) (F : Fun K "__init__" "Program.__init__" s_init f fd) (Cfault_index : Cal P w K mg base "fault_index" 4 ["words"] (spFine K)) :
    FnOk P w K mg base CX0 5 f fd ["self", "words"] (spInit K C) := by
  refine F.ok sc_init (fun vs H Q E h => ?_) (fun cdv A outer st0 H vs Q E hr h => ?_)
  · obtain ⟨x, dx, a, ws, rfl, _⟩ := h
    rfl
  · obtain ⟨x, dx, a, ws, rfl, hx, hq, vd, hl, k⟩ := h
    refine ⟨_, (pss_cons (ps_set (i := 2) sc_init.nd rfl (by first | exact Or.inl rfl | exact Or.inr rfl) (pe_c Cfault_index (hr.mono (by decide)) (pa_cons (pv 1) pa_nil)))
      (pss_cons (ps_if (pt_cmpR op_notN (pv 2) pe_non (nomark _)) (pss_one ps_never) pss_nil)
      (pss_one (ps_fld (pv 0) (pv 1) rfl)))), ?_⟩
    refine ⟨_, rfl, a, ws, rfl, hq, vd, hl, fun H1 S1 => ?_⟩
    refine ⟨_, rfl, rfl, _, rfl, iteF ?_⟩
    refine ⟨_, rfl, _, rfl, x, C, dx, [], rfl, S1 _ _ hx, pc.cl, pc.nw, (by show 0 < 1000; decide), ?_⟩
    refine k _ (fun b o hb hne => ?_) ⟨dx, upd_same⟩
    rw [upd_ne hne]
    exact S1 _ _ hb
end Kk

set_option maxHeartbeats 2000000
namespace Kk
open PySem PySem.Spec PyProof.Rows L2 Wd
/-! ### what the words hold -/
def tkN : W → Option Nm
  | .tk n => some n
  | _ => none
def nmN : W → Option Nm
  | .nm n => some n
  | _ => none
def namesOf (ws : List W) : List Nm := ws.filterMap nmN
theorem takesOf_eq (ws : List W) : takesOf ws = ws.filterMap tkN := by
  unfold takesOf
  congr 1
def apsOf (ws : List W) : Nat := ws.countP isAp
def openR (ws : List W) (n : Nm) : Option V := if n ∈ takesOf ws then none else some (sv n)
def openV (ws : List W) : List V := (namesOf ws).filterMap (openR ws)
theorem tk_map (ws : List W) : ws.filterMap (fun w => (tkN w).map sv) = (takesOf ws).map sv := by rw [takesOf_eq, List.map_filterMap]
theorem nm_map (ws : List W) : ws.filterMap (fun w => (nmN w).map sv) = (namesOf ws).map sv := by unfold namesOf; rw [List.map_filterMap]
theorem enc_map (ws : List W) : (ws.map enc).map V.str = ws.map wv := by rw [List.map_map]; rfl
theorem str_map (ns : List Nm) : (ns.map str).map V.str = ns.map sv := by rw [List.map_map]; rfl
theorem beq_ap {w : W} (h : wOk w) : (enc w == ("@" : Str)) = isAp w := by
  rw [← is_ap h]
  by_cases e : enc w = ("@" : Str)
  · rw [e]; simp
  · rw [decide_eq_false (fun q => e (V.str.inj q))]
    simp [e]
theorem count_ap {ws : List W} (ok : ∀ w ∈ ws, wOk w) : (ws.map enc).countP (fun y => y == ("@" : Str)) = apsOf ws := by
  unfold apsOf
  rw [List.countP_map]
  refine List.countP_congr fun w hw => ?_
  show (enc w == ("@" : Str)) = true ↔ _
  rw [beq_ap (ok w hw)]
theorem any_str (n : Nm) (ns : List Nm) : ((ns.map str).any fun x => decide ((Sum.inr (str n) : Key) = Sum.inr x)) = decide (n ∈ ns) := by
  induction ns with
  | nil => rfl
  | cons a ns ih =>
    rw [List.map_cons, List.any_cons, ih]
    by_cases e : n = a
    · subst e; simp
    · have : ¬ (str n = str a) := fun q => e (str_inj q)
      simp [this, e]
section
variable {P : Program} {w : World} {K : PySem.W.Frag} {mg : Str → Option Value} {base : Heap}
def spNum : Sp := fun vs H Q _ => ∃ i : Int, vs = [.int i] ∧ 0 ≤ i ∧ ∀ H', Same H H' → Q (.bl true) H'
theorem kitII : kitB "int" "int" = some true := by decide +kernel
theorem kitIB : kitB "int" "bool" = some false := by decide +kernel
abbrev s_is_number : Stmt := (top 3)
theorem sc_is_number : FnScope ["thing"] ["thing"] (defScope s_is_number) := ⟨rfl, rfl, rfl, by decide +kernel, rfl, by decide +kernel, by decide +kernel⟩
theorem c_is_number (B : Bt mg) (D : DefAt K mg "is_number" s_is_number) : Cal P w K mg base "is_number" 1 ["thing"] spNum := by
  refine cal_of D sc_is_number (fun _ _ _ _ _ _ us hl => match us, hl with | [_], _ => rfl) (fun vs H Q E h => ?_) (fun fa cdv A outer st0 H vs Q E hr h => ?_)
  · obtain ⟨i, rfl, _⟩ := h
    rfl
  · obtain ⟨i, rfl, hi, k⟩ := h
    refine ⟨_, (pss_one (ps_ret (pe_and (pe_callB call_isi (by rfl) B.b_isinstance (by decide +kernel) (pa_cons (pv 0) (pa_cons (pe_ty (n := "int") B.b_int (by decide +kernel)) pa_nil))) (pe_and (pe_not (pe_callB call_isi (by rfl) B.b_isinstance (by decide +kernel) (pa_cons (pv 0) (pa_cons (pe_ty (n := "bool") B.b_bool (by decide +kernel)) pa_nil)))) (pe_one (pe_cmpR op_ge (pv 0) pe_int (nomark _))))))), ?_⟩
    refine ⟨_, rfl, _, _, _, _, true, rfl, .ty _, .base (.int i), kit_ty kitII, _, rfl, iteT ?_⟩
    refine ⟨_, rfl, _, _, _, _, false, rfl, .ty _, .base (.int i), kit_ty kitIB, _, rfl, _, rfl, iteT ?_⟩
    refine ⟨_, rfl, _, _, rfl, rfl, ?_⟩
    have := k H (Same.refl H)
    rw [← decide_eq_true (show (0 : Int) ≤ i from hi)] at this
    exact this
def spStands : Sp := fun vs H Q _ => ∃ v : W, vs = [wv v] ∧ wOk v ∧ ∀ H', Same H H' → Q (.bl (isNm v)) H'
abbrev s_stands_as_name : Stmt := (top 28)
theorem sc_stands_as_name : FnScope ["word"] ["word"] (defScope s_stands_as_name) := ⟨rfl, rfl, rfl, by decide +kernel, rfl, by decide +kernel, by decide +kernel⟩
theorem c_stands_as_name (B : Bt mg) (D : DefAt K mg "stands_as_name" s_stands_as_name) : Cal P w K mg base "stands_as_name" 1 ["word"] spStands := by
  refine cal_of D sc_stands_as_name (fun _ _ _ _ _ _ us hl => match us, hl with | [_], _ => rfl) (fun vs H Q E h => ?_) (fun fa cdv A outer st0 H vs Q E hr h => ?_)
  · obtain ⟨v, rfl, _⟩ := h
    rfl
  · obtain ⟨v, rfl, hv, k⟩ := h
    refine ⟨_, (pss_one (ps_ret (pe_and (pe_cmpR op_ne (pv 0) (pe_gs B.m_GIVEN) (nomark _)) (pe_one (pe_not (pe_bm PySem.F.plainAttrs_str PySem.F.slot_str_startswith PySem.F.type_str_startswith mt_startswith (pv 0) (pa_cons (pe_gs B.m_TAKE) pa_nil))))))), ?_⟩
    refine ⟨_, rfl, rfl, _, rfl, ?_⟩
    rw [is_ap hv]
    cases v with
    | ap => exact iteF (k H (Same.refl H))
    | tk n =>
      refine iteT ⟨_, rfl, rfl, _, _, rfl, rfl, ?_⟩
      rw [starts_tk hv]
      exact ⟨_, rfl, k H (Same.refl H)⟩
    | nm n =>
      refine iteT ⟨_, rfl, rfl, _, _, rfl, rfl, ?_⟩
      rw [starts_tk hv]
      exact ⟨_, rfl, k H (Same.refl H)⟩
/-- of a Program whose words are there -/
def spOfP (K : PySem.W.Frag) (C : Addr) (R : List W → Hp → Hp → V → Prop) : Sp := fun vs H Q _ => ∃ (x a : Addr) (ws : List W), vs = [.ref x] ∧ Pg C H x a ∧ TupF H a (ws.map wv) ∧ Vd ws ∧ ws.length ≤ 4000 ∧
  ∀ H' v, Same H H' → R ws H H' v → Q v H'
def rTaken : List W → Hp → Hp → V → Prop := fun ws H H' v => ∃ q, v = .ref q ∧ H q = none ∧ H' q = some (.lst ((takesOf ws).map sv))
def rStand : List W → Hp → Hp → V → Prop := fun ws H H' v => ∃ q, v = .ref q ∧ H q = none ∧ H' q = some (.lst ((namesOf ws).map sv))
abbrev s_taken_names : Stmt := (top 26)
theorem sc_taken_names : FnScope ["program", "word"] ["program"] (defScope s_taken_names) := ⟨rfl, rfl, rfl, by decide +kernel, rfl, by decide +kernel, by decide +kernel⟩
theorem c_taken_names {C : Addr} (B : Bt mg) (pc : PC K mg C) (D : DefAt K mg "taken_names" s_taken_names) : Cal P w K mg base "taken_names" 1 ["program"] (spOfP K C rTaken) := by
  refine cal_of D sc_taken_names (fun _ _ _ _ _ _ us hl => match us, hl with | [_], _ => rfl) (fun vs H Q E h => ?_) (fun fa cdv A outer st0 H vs Q E hr h => ?_)
  · obtain ⟨x, a, ws, rfl, _⟩ := h
    rfl
  · obtain ⟨x, a, ws, rfl, ⟨dx, hx⟩, ht, vd, hl, k⟩ := h
    refine ⟨_, (pss_one (ps_ret (pe_lc (own := [("word", 1)]) (g := (gName 1)) (tt := (tB (tBM K "str" _ _ _))) rfl sc_taken_names.nd (pi_tup (pe_fld (pv 0) rfl)) (blkOk_by (own := [("word", 1)]) (N := ["program", "word"]) (sc := defScope s_taken_names) (by decide +kernel)) (fun _ _ _ _ _ => (pg_name (i := 1) sc_taken_names.nd rfl (by first | exact Or.inl rfl | exact Or.inr rfl))) (fun _ _ _ _ _ => (pts_one (pt_val (pe_bm PySem.F.plainAttrs_str PySem.F.slot_str_startswith PySem.F.type_str_startswith mt_startswith (pv 1) (pa_cons (pe_gs B.m_TAKE) pa_nil))))) (fun _ _ _ _ _ => (pe_slice sl_str (pv 1) (po_some pe_int) po_none))))), ?_⟩
    refine ⟨_, rfl, x, C, dx, _, _, rfl, hx, pc.cl, pc.nw, pfs_get a, a, rfl, ⟨_, ht.sq⟩, fun q nq => lc_fmT (r := fun w => (tkN w).map sv) ht.sq nq (by omega) (fun i v H' Qy Qn hv S1 gy gn => ?_) (fun H' S1 L1 => ?_)⟩
    · have hk := vd.okAt hv
      refine ⟨rfl, _, rfl, rfl, _, _, rfl, rfl, ?_⟩
      rw [starts_tk hk]
      refine ⟨_, rfl, ?_⟩
      cases v with
      | ap => exact iteF (gn _ (Same.refl _) rfl)
      | nm n => exact iteF (gn _ (Same.refl _) rfl)
      | tk n =>
        refine iteT ⟨_, rfl, _, rfl, _, rfl, Nat.le_of_lt (small_lt (m := 9) (len_enc hk) (by decide)), ?_⟩
        rw [cut1]
        exact gy _ _ (Same.refl _) rfl
    · rw [tk_map] at L1
      exact k H' _ S1 ⟨q, rfl, nq, L1⟩
abbrev s_standing_names : Stmt := (top 27)
theorem sc_standing_names : FnScope ["program", "word"] ["program"] (defScope s_standing_names) := ⟨rfl, rfl, rfl, by decide +kernel, rfl, by decide +kernel, by decide +kernel⟩
theorem c_standing_names {C : Addr} (B : Bt mg) (pc : PC K mg C) (D : DefAt K mg "standing_names" s_standing_names) (Cstands_as_name : Cal P w K mg base "stands_as_name" 1 ["word"] spStands) : Cal P w K mg base "standing_names" 2 ["program"] (spOfP K C rStand) := by
  refine cal_of D sc_standing_names (fun _ _ _ _ _ _ us hl => match us, hl with | [_], _ => rfl) (fun vs H Q E h => ?_) (fun fa cdv A outer st0 H vs Q E hr h => ?_)
  · obtain ⟨x, a, ws, rfl, _⟩ := h
    rfl
  · obtain ⟨x, a, ws, rfl, ⟨dx, hx⟩, ht, vd, hl, k⟩ := h
    refine ⟨_, (pss_one (ps_ret (pe_lc (own := [("word", 1)]) (g := (gName 1)) rfl sc_standing_names.nd (pi_tup (pe_fld (pv 0) rfl)) (blkOk_by (own := [("word", 1)]) (N := ["program", "word"]) (sc := defScope s_standing_names) (by decide +kernel)) (fun _ _ _ _ _ => (pg_name (i := 1) sc_standing_names.nd rfl (by first | exact Or.inl rfl | exact Or.inr rfl))) (fun _ _ _ _ _ => (pts_one (pt_val (pe_c Cstands_as_name (hr.mono (by decide)) (pa_cons (pv 1) pa_nil))))) (fun _ _ _ _ _ => (pv 1))))), ?_⟩
    refine ⟨_, rfl, x, C, dx, _, _, rfl, hx, pc.cl, pc.nw, pfs_get a, a, rfl, ⟨_, ht.sq⟩, fun q nq => lc_fmT (r := fun w => (nmN w).map sv) ht.sq nq (by omega) (fun i v H' Qy Qn hv S1 gy gn => ?_) (fun H' S1 L1 => ?_)⟩
    · have hk := vd.okAt hv
      refine ⟨rfl, _, rfl, v, rfl, hk, fun H2 S2 => ⟨_, rfl, ?_⟩⟩
      cases v with
      | ap => exact iteF (gn _ S2 rfl)
      | tk n => exact iteF (gn _ S2 rfl)
      | nm n => exact iteT ⟨_, rfl, gy _ _ S2 rfl⟩
    · rw [nm_map] at L1
      exact k H' _ S1 ⟨q, rfl, nq, L1⟩
def rOpen : List W → Hp → Hp → V → Prop := fun ws H H' v => ∃ q, v = .ref q ∧ H q = none ∧ TupF H' q (openV ws)
theorem takes_le (ws : List W) : (takesOf ws).length ≤ ws.length := takesOf_len ws
theorem names_le (ws : List W) : (namesOf ws).length ≤ ws.length := List.length_filterMap_le _ _
abbrev s_open_names : Stmt := (top 30)
theorem sc_open_names : FnScope ["program", "taken", "name"] ["program"] (defScope s_open_names) := ⟨rfl, rfl, rfl, by decide +kernel, rfl, by decide +kernel, by decide +kernel⟩
theorem c_open_names {C : Addr} (B : Bt mg) (pc : PC K mg C) (D : DefAt K mg "open_names" s_open_names) (Ctaken_names : Cal P w K mg base "taken_names" 1 ["program"] (spOfP K C rTaken)) (Cstanding_names : Cal P w K mg base "standing_names" 2 ["program"] (spOfP K C rStand)) :
    Cal P w K mg base "open_names" 3 ["program"] (spOfP K C rOpen) := by
  refine cal_of D sc_open_names (fun _ _ _ _ _ _ us hl => match us, hl with | [_], _ => rfl) (fun vs H Q E h => ?_) (fun fa cdv A outer st0 H vs Q E hr h => ?_)
  · obtain ⟨x, a, ws, rfl, _⟩ := h
    rfl
  · obtain ⟨x, a, ws, rfl, hx, ht, vd, hl, k⟩ := h
    refine ⟨_, (pss_cons (ps_set (i := 1) sc_open_names.nd rfl (by first | exact Or.inl rfl | exact Or.inr rfl) (pe_callTy (call_setTx rfl) (by rfl) B.b_set (by decide +kernel) (pa_cons (pe_c Ctaken_names (hr.mono (by decide)) (pa_cons (pv 0) pa_nil)) pa_nil)))
      (pss_one (ps_ret (pe_callTy call_tupleF (by rfl) B.b_tuple (by decide +kernel) (pa_cons (pe_lc (own := [("name", 2)]) (g := (gName 2)) (tt := (tTest (tOp (rSInK P w true) _ _))) rfl sc_open_names.nd (pi_list (pe_c Cstanding_names (hr.mono (by decide)) (pa_cons (pv 0) pa_nil))) (blkOk_by (own := [("name", 2)]) (N := ["program", "taken", "name"]) (sc := defScope s_open_names) (by decide +kernel)) (fun _ _ _ _ _ => (pg_name (i := 2) sc_open_names.nd rfl (by first | exact Or.inl rfl | exact Or.inr rfl))) (fun _ _ _ _ _ => (pts_one (pt_cmpR or_snotinK (pv 2) (pv 1) (by rfl)))) (fun _ _ _ _ _ => (pv 2))) pa_nil))))), ?_⟩
    have tl := takes_le ws
    have nl := names_le ws
    refine ⟨_, rfl, x, a, ws, rfl, hx, ht, vd, hl, fun H1 v1 S1 ⟨q1, e1, n1, L1⟩ => ?_⟩
    subst e1
    refine ⟨q1, (takesOf ws).map str, rfl, SqL.of (by rw [str_map]; exact L1), by rw [List.length_map]; omega, fun t c nt => ?_⟩
    have S2 : Same H1 (upd H1 t (SetK P w t (fun k => ((takesOf ws).map str).any fun x => decide (k = Sum.inr x)) c)) := same_upd nt
    have L2 : upd H1 t (SetK P w t (fun k => ((takesOf ws).map str).any fun x => decide (k = Sum.inr x)) c) t = some (SetK P w t (fun k => ((takesOf ws).map str).any fun x => decide (k = Sum.inr x)) c) := upd_same
    have S12 := S1.trans S2
    refine ⟨_, rfl, x, a, ws, rfl, hx.same S12, ht.same S12, vd, hl, fun H3 v3 S3 ⟨q3, e3, n3, L3⟩ => ?_⟩
    subst e3
    refine ⟨q3, rfl, ⟨_, SqL.of L3⟩, fun q nq => lc_fmL (r := openR ws) (SqL.of L3) nq (by omega) (fun i n H' Qy Qn hv S4 gy gn => ?_) (fun H' S4 L4 => ?_)⟩
    · refine ⟨rfl, _, rfl, _, rfl, Sum.inr (str n), t, _, c, rfl, rfl, S4 _ _ (S3 _ _ L2), ?_⟩
      refine ⟨_, rfl, ?_⟩
      show if (!(((takesOf ws).map str).any fun x => decide ((Sum.inr (str n) : Key) = Sum.inr x))) = true then _ else _
      rw [any_str]
      by_cases hm : n ∈ takesOf ws
      · rw [decide_eq_true hm]
        exact iteF (gn _ (Same.refl _) (by unfold openR; rw [if_pos hm]))
      · rw [decide_eq_false hm]
        exact iteT ⟨_, rfl, gy _ _ (Same.refl _) (by unfold openR; rw [if_neg hm])⟩
    · refine ⟨_, _, rfl, SqL.of L4, fun r o nr ho => ?_⟩
      have S14 := (S12.trans S3).trans S4
      exact k _ _ (S14.trans (same_upd nr)) ⟨r, rfl, S14.free nr, TupF.new ho⟩
end
end Kk

set_option maxHeartbeats 2000000
namespace Kk
open PySem PySem.Spec PyProof.Rows L2 Wd
section
variable {P : Program} {w : World} {K : PySem.W.Frag} {mg : Str → Option Value} {base : Heap}
def rGivens : List W → Hp → Hp → V → Prop := fun ws _ _ v => v = .int (apsOf ws : Nat)
def rTakes : List W → Hp → Hp → V → Prop := fun ws _ _ v => v = .int ((takesOf ws).length : Nat)
def rEnds : List W → Hp → Hp → V → Prop := fun ws H H' v => ∃ q E, v = .ref q ∧ IsEnds ws E ∧ H q = none ∧ TupF H' q (endsV ws.length E)
abbrev s_givens : Stmt := (top 31)
theorem sc_givens : FnScope ["program"] ["program"] (defScope s_givens) := ⟨rfl, rfl, rfl, by decide +kernel, rfl, by decide +kernel, by decide +kernel⟩
theorem c_givens {C : Addr} (B : Bt mg) (pc : PC K mg C) (D : DefAt K mg "givens" s_givens) : Cal P w K mg base "givens" 1 ["program"] (spOfP K C rGivens) := by
  refine cal_of D sc_givens (fun _ _ _ _ _ _ us hl => match us, hl with | [_], _ => rfl) (fun vs H Q E h => ?_) (fun fa cdv A outer st0 H vs Q E hr h => ?_)
  · obtain ⟨x, a, ws, rfl, _⟩ := h
    rfl
  · obtain ⟨x, a, ws, rfl, ⟨dx, hx⟩, ht, vd, hl, k⟩ := h
    refine ⟨_, (pss_one (ps_ret (pe_tm PySem.F.slot_tuple_count PySem.F.type_tuple_count mt_tcount (pe_fld (pv 0) rfl) (pa_cons (pe_gs B.m_GIVEN) pa_nil)))), ?_⟩
    refine ⟨_, rfl, x, C, dx, _, _, rfl, hx, pc.cl, pc.nw, pfs_get a, ⟨a, _, rfl, ht⟩, a, ws.map enc, "@", rfl, rfl, by rw [enc_map]; exact ht.sq, ?_⟩
    rw [count_ap vd.ok]
    exact k H _ (Same.refl H) rfl
abbrev s_takes : Stmt := (top 32)
theorem sc_takes : FnScope ["program"] ["program"] (defScope s_takes) := ⟨rfl, rfl, rfl, by decide +kernel, rfl, by decide +kernel, by decide +kernel⟩
theorem c_takes {C : Addr} (B : Bt mg) (D : DefAt K mg "takes" s_takes) (Ctaken_names : Cal P w K mg base "taken_names" 1 ["program"] (spOfP K C rTaken)) : Cal P w K mg base "takes" 2 ["program"] (spOfP K C rTakes) := by
  refine cal_of D sc_takes (fun _ _ _ _ _ _ us hl => match us, hl with | [_], _ => rfl) (fun vs H Q E h => ?_) (fun fa cdv A outer st0 H vs Q E hr h => ?_)
  · obtain ⟨x, a, ws, rfl, _⟩ := h
    rfl
  · obtain ⟨x, a, ws, rfl, hx, ht, vd, hl, k⟩ := h
    refine ⟨_, (pss_one (ps_ret (pe_callB call_len_seq (by rfl) B.b_len (by decide +kernel) (pa_cons (pe_c Ctaken_names (hr.mono (by decide)) (pa_cons (pv 0) pa_nil)) pa_nil)))), ?_⟩
    refine ⟨_, rfl, x, a, ws, rfl, hx, ht, vd, hl, fun H1 v1 S1 ⟨q1, e1, n1, L1⟩ => ?_⟩
    subst e1
    refine ⟨q1, _, rfl, .inl (SqL.of L1), ?_⟩
    rw [List.length_map]
    exact k H1 _ S1 rfl
abbrev s_ends : Stmt := (top 33)
theorem sc_ends : FnScope ["program"] ["program"] (defScope s_ends) := ⟨rfl, rfl, rfl, by decide +kernel, rfl, by decide +kernel, by decide +kernel⟩
theorem c_ends {C : Addr} (B : Bt mg) (pc : PC K mg C) (D : DefAt K mg "ends" s_ends) (Cends_of : Cal P w K mg base "ends_of" 2 ["words"] (spEndsOf K)) : Cal P w K mg base "ends" 3 ["program"] (spOfP K C rEnds) := by
  refine cal_of D sc_ends (fun _ _ _ _ _ _ us hl => match us, hl with | [_], _ => rfl) (fun vs H Q E h => ?_) (fun fa cdv A outer st0 H vs Q E hr h => ?_)
  · obtain ⟨x, a, ws, rfl, _⟩ := h
    rfl
  · obtain ⟨x, a, ws, rfl, ⟨dx, hx⟩, ht, vd, hl, k⟩ := h
    obtain ⟨EE, he⟩ := vd.ends
    refine ⟨_, (pss_one (ps_ret (pe_c Cends_of (hr.mono (by decide)) (pa_cons (pe_fld (pv 0) rfl) pa_nil)))), ?_⟩
    refine ⟨_, rfl, x, C, dx, _, _, rfl, hx, pc.cl, pc.nw, pfs_get a, a, ws, EE, rfl, ht.sq, vd, he, hl, fun H1 q S1 n1 T1 => ?_⟩
    exact k H1 _ S1 ⟨q, EE, rfl, he, n1, T1⟩
/-- of a Program and one of its places -/
def spAtP (K : PySem.W.Frag) (C : Addr) (R : List W → Nat → Addr → Hp → Hp → V → Prop) : Sp := fun vs H Q _ => ∃ (x a : Addr) (ws : List W) (i : Nat), vs = [.ref x, .int (i : Int)] ∧ Pg C H x a ∧ TupF H a (ws.map wv) ∧ Vd ws ∧ ws.length ≤ 1000 ∧ i < ws.length ∧
  ∀ H' v, Same H H' → R ws i a H H' v → Q v H'
def rNone : List W → Nat → Addr → Hp → Hp → V → Prop := fun _ _ _ _ _ v => v = .non
abbrev s_check_place : Stmt := (top 29)
theorem sc_check_place : FnScope ["program", "place"] ["program", "place"] (defScope s_check_place) := ⟨rfl, rfl, rfl, by decide +kernel, rfl, by decide +kernel, by decide +kernel⟩
theorem c_check_place {C : Addr} (B : Bt mg) (pc : PC K mg C) (D : DefAt K mg "check_place" s_check_place) (Cis_number : Cal P w K mg base "is_number" 1 ["thing"] spNum) : Cal P w K mg base "check_place" 2 ["program", "place"] (spAtP K C rNone) := by
  refine cal_of D sc_check_place (fun _ _ _ _ _ _ us hl => match us, hl with | [_, _], _ => rfl) (fun vs H Q E h => ?_) (fun fa cdv A outer st0 H vs Q E hr h => ?_)
  · obtain ⟨x, a, ws, i, rfl, _⟩ := h
    rfl
  · obtain ⟨x, a, ws, i, rfl, ⟨dx, hx⟩, ht, vd, hl, hi, k⟩ := h
    refine ⟨_, (pss_one (ps_if (PW.pt (pw_or (pt_not (pt_val (pe_c Cis_number (hr.mono (by decide)) (pa_cons (pv 1) pa_nil)))) (pw_or1 (pt_cmpR op_ge (pv 1) (pe_callB call_len_seq (by rfl) B.b_len (by decide +kernel) (pa_cons (pe_fld (pv 0) rfl) pa_nil)) (nomark _))))) (pss_one ps_never) pss_nil)), ?_⟩
    refine ⟨_, rfl, (i : Int), rfl, by omega, fun H1 S1 => ⟨_, rfl, iteF ?_⟩⟩
    refine ⟨_, rfl, _, rfl, x, C, dx, _, _, rfl, S1 _ _ hx, pc.cl, pc.nw, pfs_get a, a, _, rfl, .inr (SqT.same ht.sq S1), _, _, rfl, rfl, false, ?_, iteF ?_⟩
    · rw [List.length_map]
      exact congrArg V.bl (decide_eq_false (show ¬ ((ws.length : Nat) : Int) ≤ (i : Int) by omega))
    · exact k H1 _ S1 rfl
/-- the class can be made -/
structure Mkr (P : Program) (w : World) (K : PySem.W.Frag) (mg : Str → Option Value) (base : Heap) (C : Addr) : Prop where
  ex : ∃ f fd, Mk K C f ∧ mg "Program" = some (.ref C) ∧ Binds K fd ["self", "words"] [] ∧ FnOk P w K mg base CX0 5 f fd ["self", "words"] (spInit K C)
theorem pe_mk1 {X : Cx} {C : Addr} {e : Expr} {t : TA} {p pos : Pos} (M : Mkr X.prog X.w X.K X.mg X.base C) (hr : Room 6 X.A) (ha : PA X [e] t) (hg : Gl X "Program" := by rfl)
    (he : starEach [e] X.env = (false, eval e X.env) :: starEach [] X.env := by rfl) (hpl : (backTo pos (starEach [] X.env)).any (·.1) = false := by rfl) :
    PE X (.Call (.Name "Program" p) [e] [] pos) (tMake C (spInit X.K C) [] E0 t) := by
  obtain ⟨f, fd, M, hm, hb, F⟩ := M
  exact pe_make M F hr hg hm hb .nil pass0 ha (by decide) he hpl
theorem made_same {H : Hp} {x dx C : Addr} (nx : H x = none) (ndx : H dx = none) : Same H (upd (upd H dx (.own x)) x (.ins C dx [])) := fun b o e => by
  rw [upd_ne (ne_of_none e nx), upd_ne (ne_of_none e ndx)]
  exact e
theorem But.same {x : Addr} {H H1 H2 : Hp} (h : But x H1 H2) (s : Same H H1) (n : H x = none) : Same H H2 := fun b o e => h _ _ (s _ _ e) (ne_of_none e n)
def spBuilt (K : PySem.W.Frag) (C : Addr) : Sp := fun vs H Q _ => ∃ (a : Addr) (ws : List W), vs = [.ref a] ∧ TupF H a (ws.map wv) ∧ ∀ H' x, Same H H' → H x = none → Pg C H' x a → Q (.ref x) H'
theorem wv_a : V.str ("a" : Str) = wv (.nm [97]) := by
  refine congrArg V.str (TL.ext_tl ?_)
  rw [TL.tl_ofString]
  rfl
theorem vd_a : Vd [.nm [97]] := by
  refine ⟨⟨.nm [97], rfl, trivial, by decide, by decide⟩, fun w hw => ?_⟩
  have : w = .nm [97] := by simpa using hw
  subst this
  exact ⟨by decide, by decide, by decide⟩
abbrev s_built : Stmt := (top 18)
theorem sc_built : FnScope ["words", "program"] ["words"] (defScope s_built) := ⟨rfl, rfl, rfl, by decide +kernel, rfl, by decide +kernel, by decide +kernel⟩
theorem c_built {C : Addr} (B : Bt mg) (pc : PC K mg C) (D : DefAt K mg "built" s_built) (MProgram : Mkr P w K mg base C) : Cal P w K mg base "built" 7 ["words"] (spBuilt K C) := by
  refine cal_of D sc_built (fun _ _ _ _ _ _ us hl => match us, hl with | [_], _ => rfl) (fun vs H Q E h => ?_) (fun fa cdv A outer st0 H vs Q E hr h => ?_)
  · obtain ⟨a, ws, rfl, _⟩ := h
    rfl
  · obtain ⟨a, ws, rfl, ht, k⟩ := h
    refine ⟨_, (pss_cons (ps_set (i := 1) sc_built.nd rfl (by first | exact Or.inl rfl | exact Or.inr rfl) (pe_mk1 MProgram (hr.mono (by decide)) (pa_cons (pe_tupF (pa_cons pe_str pa_nil)) pa_nil)))
      (pss_cons (ps_fld (pv 1) (pv 0) rfl)
      (pss_one (ps_ret (pv 1))))), ?_⟩
    refine ⟨(by show 1 ≤ sizeLine; decide), fun t o nt ho x dx nx ndx nex => ?_⟩
    have S1 : Same H (upd H t (.frz o (.tup [V.str "a"]))) := same_upd nt
    have T1 : TupF (upd H t (.frz o (.tup [V.str "a"]))) t [V.str "a"] := TupF.new ho
    rw [wv_a] at T1
    have S2 := made_same (C := C) nx ndx
    refine ⟨x, dx, t, [.nm [97]], rfl, upd_same, (T1.same S2).sq, vd_a, by decide, fun H3 B3 ⟨dx3, P3⟩ => ⟨rfl, ?_⟩⟩
    have S3 := S1.trans (B3.same S2 nx)
    refine ⟨_, rfl, _, rfl, x, C, dx3, _, rfl, P3, pc.cl, pc.nw, (by show 1 < 1000; decide), _, rfl, ?_⟩
    rw [pfs_put]
    have n0 : H x = none := S1.free nx
    exact k _ x (fun b o hb => by rw [upd_ne (ne_of_none hb n0)]; exact S3 _ _ hb) n0 ⟨dx3, upd_same⟩
end
end Kk

set_option maxHeartbeats 2000000
/-! list(zip(a, b)), a and b lists -/
namespace Kk
open PySem PySem.Spec PyProof.Rows L2
section
variable {prog : Program} {w : World} {A : Around} {E : Value → Shared → Prop} {s : Shared}
theorem zip_no_len : typeLookup (.type "zip") "__len__" = pure none := am_miss_of_fast (by decide +kernel)
theorem zip_no_hint : typeLookup (.type "zip") "__length_hint__" = pure none := am_miss_of_fast (by decide +kernel)
theorem hint_zip {r : Addr} {Q : Bool → Shared → Prop} (hT : s.TypeIs (.ref r) "zip") (h : Q true s) : wpAny (model prog w) A (Builtin.List.listLengthHint (.ref r)) Q E s := by
  unfold Builtin.List.listLengthHint
  refine wpAny_bind (wpAny_specialOf hT zip_no_len ?_)
  refine wpAny_ite_split (fun hab => absurd hab (by decide)) (fun _ => ?_)
  refine wpAny_ite_split (fun hab => absurd hab (by decide)) (fun _ => ?_)
  refine wpAny_bind (wpAny_specialOf hT zip_no_hint ?_)
  exact wpAny_pure h
/-- where a zip stands that has given i pairs; all that it owns lies below B, but the pair that it gave last -/
structure ZSt (z TI TO i1 i2 l1 l2 : Addr) (xs ys : Array Value) (B : Nat) (i : Nat) (h : Heap) : Prop where
  ti : IsPair h TI (.ref i1) (.ref i2)
  h1 : h.IsListIter i1 l1 i
  h2 : h.IsListIter i2 l2 i
  a1 : h.IsList l1 xs
  a2 : h.IsList l2 ys
  zz : (IsZip h z TI TO .none ∧ ∃ a b, IsPair h TO a b) ∨ ∃ T f oT, IsZipHeld h z TI TO T f ∧ h.get? T = some oT ∧ B ≤ T
/-- the pairs given so far -/
def Prs (xs ys : Array Value) (B : Nat) (h : Heap) (Ts : List Addr) : Prop := ∀ (j : Nat) T, Ts[j]? = some T → B ≤ T ∧ T < h.objs.size ∧ ∃ x y, xs[j]? = some x ∧ ys[j]? = some y ∧ IsPair h T x y
def refsOf (Ts : List Addr) : Array Value := (Ts.map Value.ref).toArray
theorem nea {a b B : Nat} (h1 : a < B) (h2 : B ≤ b) : b ≠ a := Nat.ne_of_gt (Nat.lt_of_lt_of_le h1 h2)
theorem zip_loop {R : Result → Shared → Prop} {S z TI TO i1 i2 l1 l2 : Addr} {B n : Nat} {xs ys : Array Value} (D : ZipApart z TI TO i1 i2 l1 l2) (hx : xs.size = n) (hy : ys.size = n) (hn : n ≤ sizeLine) (hh : A.handled = none) (res : Value)
    (bz : z < B) (bTI : TI < B) (bTO : TO < B) (b1 : i1 < B) (b2 : i2 < B) (bl1 : l1 < B) (bl2 : l2 < B) (bS : S < B) (nz : S ≠ z) (nTI : S ≠ TI) (nTO : S ≠ TO) (n1 : S ≠ i1) (n2 : S ≠ i2) (nl1 : S ≠ l1) (nl2 : S ≠ l2) :
    ∀ (m i : Nat) (s : Shared) (Ts : List Addr) (c : Nat), n - i = m → i ≤ n → ZSt z TI TO i1 i2 l1 l2 xs ys B i s.heap → B ≤ s.heap.objs.size → s.heap.get? S = some { cls := .type "list", data := .seq (refsOf Ts) c } → Ts.length = i → Ts.Pairwise (· < ·) → Prs xs ys B s.heap Ts →
      (∀ h' tk Ts' c', (∀ b o, b < B → b ≠ S → b ≠ z → b ≠ TO → b ≠ i1 → b ≠ i2 → s.heap.get? b = some o → h'.get? b = some o) → h'.get? S = some { cls := .type "list", data := .seq (refsOf Ts') c' } → Ts'.length = n → Ts'.Pairwise (· < ·) → Prs xs ys B h' Ts' → R (.ok (.ret res)) { s with heap := h', toks := tk }) →
      codeAny (model prog w) A (.builtin "list.extend.loop" ⟨[.ref S, .ref z, res], []⟩) R s := by
  intro m
  induction m with
  | zero =>
    intro i s Ts c hm hi st hB hS hl hp hP hR
    obtain rfl : i = n := by omega
    refine codeAny_builtin F.entry_extend_loop ?_
    rw [Around.under_plainId F.plain_extend_loop _]
    show wpAny _ A.in1 (pyNext (.ref z) >>= _) _ _ s
    have hA : A.in1.handled = none := hh
    have hend : xs[i]? = none ∨ ys[i]? = none := .inl (Array.getElem?_eq_none (by omega))
    have fin : ∀ h', (∀ c o, c ≠ z → c ≠ TO → c ≠ i1 → c ≠ i2 → s.heap.get? c = some o → h'.get? c = some o) → R (.ok (.ret res)) { s with heap := h' } := by
      intro h' hk
      refine hR h' s.toks Ts c (fun b o hb _ c1 c2 c3 c4 e => hk b o c1 c2 c3 c4 e) (hk S _ nz nTO n1 n2 hS) hl hp fun j T hj => ?_
      obtain ⟨p1, p2, x, y, q1, q2, q3⟩ := hP j T hj
      have q4 := hk T _ (nea bz p1) (nea bTO p1) (nea b1 p1) (nea b2 p1) q3
      exact ⟨p1, Heap.lt_size q4, x, y, q1, q2, q4⟩
    rcases st.zz with ⟨hz, a, b, hTO⟩ | ⟨T, f, oT, hz, hT, r1⟩
    · exact wpAny_bind (wpAny_pyNext_zip_end hA D hz st.ti hTO st.h1 st.h2 st.a1 st.a2 hend fun h' hk => wpAny_pure (fin h' hk))
    · exact wpAny_bind (wpAny_pyNext_zip_end_held hA D hz hT st.ti st.h1 st.h2 st.a1 st.a2 hend fun h' hk => wpAny_pure (fin h' fun c o c1 c2 c3 c4 e => hk c o c1 c3 c4 e))
  | succ m ih =>
    intro i s Ts c hm hi st hB hS hl hp hP hR
    have lt : i < n := by omega
    refine codeAny_builtin F.entry_extend_loop ?_
    rw [Around.under_plainId F.plain_extend_loop _]
    show wpAny _ A.in1 (pyNext (.ref z) >>= _) _ _ s
    have ex := Array.getElem?_eq_getElem (xs := xs) (i := i) (by omega)
    have ey := Array.getElem?_eq_getElem (xs := ys) (i := i) (by omega)
    generalize xs[i]'(by omega) = x at ex
    generalize ys[i]'(by omega) = y at ey
    have step : ∀ h', (∀ c o, c ≠ z → c ≠ TO → c ≠ i1 → c ≠ i2 → s.heap.get? c = some o → h'.get? c = some o) → h'.IsListIter i1 l1 (i + 1) → h'.IsListIter i2 l2 (i + 1) → IsPair h' s.heap.objs.size x y → h'.objs.size = s.heap.objs.size + 1 →
        ((IsZip h' z TI TO .none ∧ ∃ a b, IsPair h' TO a b) ∨ ∃ T f oT, IsZipHeld h' z TI TO T f ∧ h'.get? T = some oT ∧ B ≤ T) →
        wpAny (model prog w) A.in1 (updateSeq S (·.push (.ref s.heap.objs.size)) >>= fun _ => again (.builtin "list.extend.loop" ⟨[.ref S, .ref z, res], []⟩)) (fun fin s' => match fin with | .done f => R (.ok f) s' | .again c' => c'.quiet = true ∧ codeAny (model prog w) A c' R s') (fun e s' => R (.error e) s') { s with heap := h' } := by
      intro h' hk g1 g2 g3 g4 g5
      have hS' := hk S _ nz nTO n1 n2 hS
      refine wpAny_bind ?_
      have ne : ∀ {c : Addr}, c ≠ S → ∀ {o}, h'.get? c = some o → (h'.update S (Obj.mapSeq (·.push (Value.ref s.heap.objs.size)))).get? c = some o := fun hc _ e => (Heap.get?_update_other _ _ (Ne.symm hc)).trans e
      have sz : (h'.update S (Obj.mapSeq (·.push (Value.ref s.heap.objs.size)))).objs.size = h'.objs.size := Heap.size_update ..
      have bT : s.heap.objs.size ≠ S := nea bS hB
      have e1 : (refsOf Ts).push (.ref s.heap.objs.size) = refsOf (Ts ++ [s.heap.objs.size]) := by
        apply Array.toList_inj.mp
        simp [refsOf]
      refine wpAny_updateSeq hS' rfl (wpAny_pure ⟨plainId_quiet F.plain_extend_loop _, ih (i + 1) _ (Ts ++ [s.heap.objs.size]) _ (by omega) lt ?_ ?_ ((Heap.get?_update_self _ hS' rfl).trans (by rw [← e1]; rfl)) (by simp [hl]) ?_ ?_ ?_⟩)
        (by simp [refsOf, hl]; omega) (by simp [refsOf, hl]; omega)
      · refine ⟨ne (Ne.symm nTI) (hk _ _ D.TIz D.TITO D.TIi1 D.TIi2 st.ti), g1.at fun o e => ne (Ne.symm n1) e, g2.at fun o e => ne (Ne.symm n2) e, (st.a1.at fun o e => hk _ o D.l1z D.l1TO D.l1i1 D.l1i2 e).at fun o e => ne (Ne.symm nl1) e, (st.a2.at fun o e => hk _ o D.l2z D.l2TO D.l2i1 D.l2i2 e).at fun o e => ne (Ne.symm nl2) e, ?_⟩
        rcases g5 with ⟨hz, a, b, hTO⟩ | ⟨T, f, oT, hz, hT, r1⟩
        · exact .inl ⟨ne (Ne.symm nz) hz, a, b, ne (Ne.symm nTO) hTO⟩
        · exact .inr ⟨T, f, oT, ne (Ne.symm nz) hz, ne (nea bS r1) hT, r1⟩
      · show B ≤ (h'.update _ _).objs.size
        rw [sz]; omega
      · refine List.pairwise_append.mpr ⟨hp, List.pairwise_singleton .., fun a ha b hb => ?_⟩
        obtain rfl : b = s.heap.objs.size := by simpa using hb
        obtain ⟨j, hj⟩ := List.mem_iff_getElem?.mp ha
        exact (hP j a hj).2.1
      · intro j T hj
        by_cases q : j < Ts.length
        · rw [List.getElem?_append_left q] at hj
          obtain ⟨p1, p2, x', y', q1, q2, q3⟩ := hP j T hj
          exact ⟨p1, Nat.lt_of_lt_of_le p2 (by show _ ≤ (h'.update _ _).objs.size; rw [sz]; omega), x', y', q1, q2, ne (nea bS p1) (hk T _ (nea bz p1) (nea bTO p1) (nea b1 p1) (nea b2 p1) q3)⟩
        · rw [List.getElem?_append_right (by omega)] at hj
          have hj0 : j - Ts.length = 0 := by
            cases h0 : j - Ts.length with
            | zero => rfl
            | succ k => rw [h0] at hj; simp at hj
          rw [hj0] at hj
          obtain rfl : s.heap.objs.size = T := by simpa using hj
          obtain rfl : j = i := by omega
          exact ⟨hB, by show _ < (h'.update _ _).objs.size; rw [sz]; omega, x, y, ex, ey, ne bT g3⟩
      · intro h'' tk Ts' c' hk2 hS2 hl2 hp2 hP2
        exact hR h'' tk Ts' c' (fun b o hb c0 c1 c2 c3 c4 e => hk2 b o hb c0 c1 c2 c3 c4 (ne c0 (hk b o c1 c2 c3 c4 e))) hS2 hl2 hp2 hP2
    rcases st.zz with ⟨hz, a, b, hTO⟩ | ⟨T, f, oT, hz, hT, r1⟩
    · refine wpAny_bind (wpAny_pyNext_zip_item D hz st.ti hTO st.h1 st.h2 st.a1 st.a2 ex ey fun h' a1 a2 a3 a4 a5 a6 hk => ?_)
      exact step h' hk a3 a4 a5 a6 (.inr ⟨_, _, _, a1, a5, hB⟩)
    · refine wpAny_bind (wpAny_pyNext_zip_item_held D hz hT st.ti st.h1 st.h2 st.a1 st.a2 ex ey fun h' a1 a3 a4 a5 a6 hk => ?_)
      exact step h' (fun c o c1 c2 c3 c4 e => hk c o c1 c3 c4 e) a3 a4 a5 a6 (.inr ⟨_, _, _, a1, hk T _ (nea bz r1) (nea b1 r1) (nea b2 r1) hT, r1⟩)
end
end Kk
namespace Kk
open PySem PySem.Spec PyProof.Rows L2
section
variable {prog : Program} {w : World} {A : Around} {E : Value → Shared → Prop} {s : Shared}
structure ZNew (z TI TO i1 i2 l1 l2 : Addr) (xs ys : Array Value) (h : Heap) : Prop where
  zz : IsZip h z TI TO .none
  ti : IsPair h TI (.ref i1) (.ref i2)
  to : ∃ a b, IsPair h TO a b
  h1 : h.IsListIter i1 l1 0
  h2 : h.IsListIter i2 l2 0
  a1 : h.IsList l1 xs
  a2 : h.IsList l2 ys
theorem ZNew.keep {z TI TO i1 i2 l1 l2 : Addr} {xs ys : Array Value} {h h' : Heap} (Z : ZNew z TI TO i1 i2 l1 l2 xs ys h) (k : ∀ b o, h.get? b = some o → h'.get? b = some o) : ZNew z TI TO i1 i2 l1 l2 xs ys h' := by
  obtain ⟨a, b, ⟨x, y, c⟩, d, e, f, g⟩ := Z
  exact ⟨k _ _ a, k _ _ b, ⟨x, y, k _ _ c⟩, d.at fun o e => k _ o e, e.at fun o e => k _ o e, f.at fun o e => k _ o e, g.at fun o e => k _ o e⟩
structure ZLow (z TI TO i1 i2 l1 l2 : Addr) (S : Addr) : Prop where
  z : z < S
  ti : TI < S
  to : TO < S
  i1 : i1 < S
  i2 : i2 < S
  l1 : l1 < S
  l2 : l2 < S
theorem ZNew.low {z TI TO i1 i2 l1 l2 : Addr} {xs ys : Array Value} {h : Heap} (Z : ZNew z TI TO i1 i2 l1 l2 xs ys h) : ZLow z TI TO i1 i2 l1 l2 h.objs.size := by
  obtain ⟨a, b, ⟨x, y, c⟩, ⟨_, d, _⟩, ⟨_, e, _⟩, ⟨_, f, _⟩, ⟨_, g, _⟩⟩ := Z
  exact ⟨Heap.lt_size a, Heap.lt_size b, Heap.lt_size c, Heap.lt_size d, Heap.lt_size e, Heap.lt_size f, Heap.lt_size g⟩
theorem zip_extend {R : Result → Shared → Prop} {z TI TO i1 i2 l1 l2 : Addr} {n : Nat} {xs ys : Array Value} (D : ZipApart z TI TO i1 i2 l1 l2) (hx : xs.size = n) (hy : ys.size = n) (hn : n ≤ sizeLine) (hh : A.handled = none)
    (Z : ZNew z TI TO i1 i2 l1 l2 xs ys s.heap) (S : Addr) (lo : ZLow z TI TO i1 i2 l1 l2 S) (hB : s.heap.objs.size = S + 1) (res : Value) (c₀ : Nat) (hS : s.heap.get? S = some { cls := .type "list", data := .seq #[] c₀ })
    (hR : ∀ h' tk Ts' c', (∀ b o, b < S → b ≠ z → b ≠ TO → b ≠ i1 → b ≠ i2 → s.heap.get? b = some o → h'.get? b = some o) → h'.get? S = some { cls := .type "list", data := .seq (refsOf Ts') c' } → Ts'.length = n → Ts'.Pairwise (· < ·) → Prs xs ys (S + 1) h' Ts' → R (.ok (.ret res)) { s with heap := h', toks := tk }) :
    wpAny (model prog w) A.in1 (Builtin.List.listExtendWith (.ref S) (.ref z) res)
      (fun fin s' => match fin with | .done f => R (.ok f) s' | .again c' => c'.quiet = true ∧ codeAny (model prog w) A c' R s') (fun e s' => R (.error e) s') s := by
  have hT : s.TypeIs (.ref z) "zip" := ⟨_, Z.zz, rfl⟩
  have ne : ∀ {a : Addr}, a < S → S ≠ a := fun h => Nat.ne_of_gt h
  have up : ∀ {a : Addr}, a < S → a < S + 1 := fun h => Nat.lt_succ_of_lt h
  have key : ∀ (h : Heap) (c₁ tk : Nat), (∀ b o, b ≠ S → s.heap.get? b = some o → h.get? b = some o) → h.objs.size = s.heap.objs.size →
      h.get? S = some { cls := .type "list", data := .seq #[] c₁ } → codeAny (model prog w) A (.builtin "list.extend.loop" ⟨[.ref S, .ref z, res], []⟩) R { s with heap := h, toks := tk } := by
    intro h c₁ tk hk hsz hS₁
    obtain ⟨ta, tb, hTO⟩ := Z.to
    refine zip_loop (S := S) (B := S + 1) D hx hy hn hh res (up lo.z) (up lo.ti) (up lo.to) (up lo.i1) (up lo.i2) (up lo.l1) (up lo.l2) (Nat.lt_succ_self _) (ne lo.z) (ne lo.ti) (ne lo.to) (ne lo.i1) (ne lo.i2) (ne lo.l1) (ne lo.l2) n 0 _ [] c₁ rfl (Nat.zero_le _)
      ⟨hk _ _ (ne lo.ti).symm Z.ti, Z.h1.at fun o e => hk _ o (ne lo.i1).symm e, Z.h2.at fun o e => hk _ o (ne lo.i2).symm e, Z.a1.at fun o e => hk _ o (ne lo.l1).symm e, Z.a2.at fun o e => hk _ o (ne lo.l2).symm e, .inl ⟨hk _ _ (ne lo.z).symm Z.zz, ta, tb, hk _ _ (ne lo.to).symm hTO⟩⟩
      (Nat.le_of_eq (hsz.trans hB).symm) hS₁ rfl List.Pairwise.nil (fun j T hj => by simp at hj) fun h' tk Ts' c' hk2 hS' hl hp hP => ?_
    exact hR h' tk Ts' c' (fun b o hb c1 c2 c3 c4 e => hk2 b o (up hb) (Nat.ne_of_lt hb) c1 c2 c3 c4 (hk b o (Nat.ne_of_lt hb) e)) hS' hl hp hP
  unfold Builtin.List.listExtendWith
  refine wpAny_bind (wpAny_typeOf hT ?_)
  have h1 : Builtin.List.listSameRef (.ref S) (.ref z) = false := by simp [Builtin.List.listSameRef, ne lo.z]
  have e2 : (Value.type "zip" == Value.type "list") = false := by decide
  have e3 : (Value.type "zip" == Value.type "tuple") = false := by decide
  simp only [h1, e2, e3, Bool.or_false, Bool.false_eq_true, if_false]
  refine wpAny_bind (wpAny_pyIter_zip Z.zz ?_)
  refine wpAny_bind (wpAny_holding (hint_zip hT ?_))
  refine wpAny_ite_split (fun _ => ?_) (fun _ => wpAny_pure ⟨plainId_quiet PySem.F.plain_extend_loop _, key _ c₀ _ (fun b o _ e => e) rfl hS⟩)
  refine wpAny_bind (wpAny_rule ?_)
  refine wpAny_bind ?_
  show wpAny _ _ (updateSeq S (·.push .none) >>= fun _ => updateSeq S (·.pop)) _ _ _
  refine wpAny_bind (wpAny_updateSeq hS rfl ?_)
  have hS₂ := Heap.get?_update_self (Obj.mapSeq (·.push Value.none)) hS rfl
  refine wpAny_updateSeq (hz := by seq_fits) hS₂ rfl ?_
  have hS₃ := Heap.get?_update_self (Obj.mapSeq (·.pop)) hS₂ rfl
  refine wpAny_pure ⟨plainId_quiet PySem.F.plain_extend_loop _, key _ _ _ (fun b o hb e => ?_) ?_ hS₃⟩
  · exact (Heap.get?_update_other _ _ (Ne.symm hb)).trans ((Heap.get?_update_other _ _ (Ne.symm hb)).trans e)
  · rw [Heap.size_update, Heap.size_update]
theorem zip_init {R : Result → Shared → Prop} {z TI TO i1 i2 l1 l2 : Addr} {n : Nat} {xs ys : Array Value} (D : ZipApart z TI TO i1 i2 l1 l2) (hx : xs.size = n) (hy : ys.size = n) (hn : n ≤ sizeLine) (hh : A.handled = none)
    (Z : ZNew z TI TO i1 i2 l1 l2 xs ys s.heap) (S : Addr) (lo : ZLow z TI TO i1 i2 l1 l2 S) (hB : s.heap.objs.size = S + 1) (hS : s.heap.get? S = some { cls := .type "list", data := .seq #[] })
    (hR : ∀ h' tk Ts' c', (∀ b o, b < S → b ≠ z → b ≠ TO → b ≠ i1 → b ≠ i2 → s.heap.get? b = some o → h'.get? b = some o) → h'.get? S = some { cls := .type "list", data := .seq (refsOf Ts') c' } → Ts'.length = n → Ts'.Pairwise (· < ·) → Prs xs ys (S + 1) h' Ts' → R (.ok (.ret .none)) { s with heap := h', toks := tk }) :
    wpAny (model prog w) A.in1 (Builtin.«list.__init__» ⟨[.ref S, .ref z], []⟩)
      (fun fin s' => match fin with | .done f => R (.ok f) s' | .again c' => c'.quiet = true ∧ codeAny (model prog w) A c' R s') (fun e s' => R (.error e) s') s := by
  show wpAny _ _ (do let old ← Builtin.List.listItems (.ref S); Builtin.List.listUpdate (.ref S) (fun _ => #[]); letGo old.toList.reverse; Builtin.List.listExtendWith (.ref S) (.ref z) .none) _ _ s
  refine wpAny_bind ?_
  unfold Builtin.List.listItems
  refine wpAny_bind (wpAny_seqItems hS rfl (wpAny_pure ?_))
  show wpAny _ _ (updateSeq S (fun _ => #[]) >>= fun _ => letGo (#[] : Array Value).toList.reverse >>= fun _ => Builtin.List.listExtendWith (.ref S) (.ref z) .none) _ _ s
  refine wpAny_bind (wpAny_updateSeq hS rfl ?_)
  have hS₂ := Heap.get?_update_self (Obj.mapSeq (fun _ => (#[] : Array Value))) hS rfl
  have oth : ∀ b o, b < S → s.heap.get? b = some o → (s.heap.update S (Obj.mapSeq (fun _ => (#[] : Array Value)))).get? b = some o :=
    fun b o hb e => (Heap.get?_update_other _ _ (Nat.ne_of_gt hb)).trans e
  refine wpAny_bind (wpAny_letGo ?_)
  obtain ⟨ta, tb, hTO⟩ := Z.to
  refine zip_extend D hx hy hn hh ⟨oth _ _ lo.z Z.zz, oth _ _ lo.ti Z.ti, ⟨ta, tb, oth _ _ lo.to hTO⟩, Z.h1.at fun o e => oth _ o lo.i1 e, Z.h2.at fun o e => oth _ o lo.i2 e, Z.a1.at fun o e => oth _ o lo.l1 e, Z.a2.at fun o e => oth _ o lo.l2 e⟩ S lo ?_ .none _ hS₂ (fun h' tk Ts' c' hk hS' hl hp hP => ?_)
  · show (s.heap.update _ _).objs.size = _
    rw [Heap.size_update]; exact hB
  · exact hR h' tk Ts' c' (fun b o hb c1 c2 c3 c4 e => hk b o hb c1 c2 c3 c4 (oth b o hb e)) hS' hl hp hP
/-- list(z), z a new zip of two lists -/
theorem call_zip_list {z TI TO i1 i2 l1 l2 : Addr} {n : Nat} {xs ys : Array Value} {Q : Value → Shared → Prop} (D : ZipApart z TI TO i1 i2 l1 l2) (hx : xs.size = n) (hy : ys.size = n) (hn : n ≤ sizeLine) (hh : A.handled = none)
    (Z : ZNew z TI TO i1 i2 l1 l2 xs ys s.heap)
    (hQ : ∀ h' tk Ts' c', (∀ b o, b ≠ z → b ≠ TO → b ≠ i1 → b ≠ i2 → s.heap.get? b = some o → h'.get? b = some o) → h'.get? s.heap.objs.size = some { cls := .type "list", data := .seq (refsOf Ts') c' } → Ts'.length = n → Ts'.Pairwise (· < ·) → Prs xs ys (s.heap.objs.size + 1) h' Ts' → Q (.ref s.heap.objs.size) { s with heap := h', toks := tk }) :
    wpAny (model prog w) A (call (.type "list") [.ref z]) Q E s := by
  refine callType_codes (Q₁ := fun obj s₁ => obj = .ref s.heap.objs.size ∧ s₁ = { s with heap := s.heap.push { cls := .type "list", data := .seq #[] } }) PySem.F.called_list (PySem.F.typeCall_list_1 _) PySem.F.entry_list_init
    (code_list_new _ ⟨rfl, rfl⟩) fun obj s₁ h₁ => ?_
  obtain ⟨rfl, rfl⟩ := h₁
  have hS : (s.heap.push { cls := .type "list", data := .seq #[] }).get? s.heap.objs.size = some { cls := .type "list", data := .seq #[] } := Heap.get?_push_size _ rfl
  refine ⟨⟨_, hS, rfl⟩, PySem.F.args_list_init_2 _ _, zip_init (A := A.in1) D hx hy hn hh (Z.keep fun b o e => Heap.get?_push_of_some _ e) s.heap.objs.size Z.low (Heap.size_push _ _) hS (fun h' tk Ts' c' hk hS' hl hp hP => ?_)⟩
  exact ⟨rfl, hQ h' tk Ts' c' (fun b o c1 c2 c3 c4 e => hk b o (Heap.lt_size e) c1 c2 c3 c4 (Heap.get?_push_of_some _ e)) hS' hl hp hP⟩
end
end Kk

set_option maxHeartbeats 2000000
namespace Kk
open PySem PySem.Spec PyProof.Rows L2
section
variable {X : Cx} {pins : List (Addr × Obj)} {σ : L2.St}
def lay (H : Hp) (os : List (Addr × HO)) : Hp := os.foldl (fun H p => upd H p.1 p.2) H
theorem lay_off : ∀ {os : List (Addr × HO)} {H : Hp} {a : Addr}, a ∉ os.map (·.1) → lay H os a = H a
  | [], _, _, _ => rfl
  | p :: os, H, a, h => by
    have h1 : a ≠ p.1 := fun e => h (by rw [e]; exact List.mem_cons_self ..)
    have h2 : a ∉ os.map (·.1) := fun e => h (List.mem_cons_of_mem _ e)
    show lay (upd H p.1 p.2) os a = _
    rw [lay_off h2, upd_ne h1]
theorem lay_at : ∀ {os : List (Addr × HO)} {H : Hp} {a : Addr} {o : HO}, (os.map (·.1)).Nodup → (a, o) ∈ os → lay H os a = some o
  | [], _, _, _, _, h => by cases h
  | p :: os, H, a, o, nd, h => by
    have nd' := List.nodup_cons.mp nd
    show lay (upd H p.1 p.2) os a = _
    rcases List.mem_cons.mp h with e | h
    · subst e
      rw [lay_off nd'.1, upd_same]
    · exact lay_at nd'.2 h
/-- many new objects, tracked at once; what is said of each hangs on its own address alone -/
theorem laid_many : ∀ (os : List (Addr × HO)) {H : Hp} {s : Shared} {h' : Heap} {t' : Nat}, Inv X pins σ H s → (∀ b u, s.heap.get? b = some u → h'.get? b = some u) → (os.map (·.1)).Nodup →
    (∀ p ∈ os, s.heap.get? p.1 = none ∧ H p.1 = none ∧ ∀ (H2 : Hp) (G : Heap), G.get? p.1 = h'.get? p.1 → ObjOk X.prog X.w H2 G p.1 p.2) → Inv X pins σ (lay H os) { s with heap := h', toks := t' }
  | [], H, s, h', t', I, k, _, _ => I.kept k
  | p :: os, H, s, h', t', I, k, nd, ok => by
    have nd' := List.nodup_cons.mp nd
    obtain ⟨G, g1, g2⟩ := restrict h' fun b => decide (b ∉ os.map (·.1))
    obtain ⟨o1, o2, o3⟩ := ok p (List.mem_cons_self ..)
    have I1 : Inv X pins σ (upd H p.1 p.2) { s with heap := G, toks := t' } := by
      refine Inv.laidN I (fun b u e => ?_) o1 o2 (o3 _ _ (g1 _ (decide_eq_true nd'.1)))
      rw [g1 b (decide_eq_true fun hm => ?_)]
      · exact k b u e
      · obtain ⟨q, hq, eq⟩ := List.mem_map.mp hm
        have := (ok q (List.mem_cons_of_mem _ hq)).1
        rw [eq, e] at this
        cases this
    refine laid_many os (s := { s with heap := G, toks := t' }) I1 (fun b u e => ?_) nd'.2 fun q hq => ?_
    · by_cases hm : b ∈ os.map (·.1)
      · rw [g2 b (decide_eq_false fun z => z hm)] at e
        cases e
      · rw [← g1 b (decide_eq_true hm)]
        exact e
    · obtain ⟨q1, q2, q3⟩ := ok q (List.mem_cons_of_mem _ hq)
      have hm : q.1 ∈ os.map (·.1) := List.mem_map.mpr ⟨q, hq, rfl⟩
      exact ⟨g2 _ (decide_eq_false fun z => z hm), (upd_ne (fun e => nd'.1 (by show p.1 ∈ _; rw [← e]; exact hm))).trans q2, q3⟩
end
section
variable {X : Cx} {e e2 : Expr} {ta : TA} {p pz pos zpos : Pos}
/-- list(zip(a, b)), a and b lists of one length -/
def tListZip (K : PySem.W.Frag) (ta : TA) : TE := fun σ H Q => ta σ H fun vs H1 => ∃ a b xs ys, vs = [.ref a, .ref b] ∧ SqL K H1 a xs ∧ SqL K H1 b ys ∧ xs.length = ys.length ∧ ∀ (q : Addr) (Ts : List Addr) (H' : Hp), Same H1 H' → H1 q = none → H' q = some (.lst (Ts.map V.ref)) → Ts.length = xs.length →
  (∀ (j : Nat) T, Ts[j]? = some T → ∃ x y, xs[j]? = some x ∧ ys[j]? = some y ∧ H' T = some (.tup [x, y])) → Q (.ref q) H'
theorem pair_vals {xs ys : List V} {us vs : List Value} (r : Vals xs us) (q : Vals ys vs) {j : Nat} {u v : Value} (hu : us.toArray[j]? = some u) (hv : vs.toArray[j]? = some v) : ∃ x y, xs[j]? = some x ∧ ys[j]? = some y ∧ Vals [x, y] [u, v] := by
  have hu' : us[j]? = some u := by simpa using hu
  have hv' : vs[j]? = some v := by simpa using hv
  have l1 := r.length
  have l2 := q.length
  have h1 := (List.getElem?_eq_some_iff.mp hu').1
  have h2 := (List.getElem?_eq_some_iff.mp hv').1
  have e1 : xs[j]? = some (xs[j]'(by omega)) := List.getElem?_eq_getElem _
  have e2 : ys[j]? = some (ys[j]'(by omega)) := List.getElem?_eq_getElem _
  obtain ⟨u', g1, g2⟩ := r.get e1
  obtain ⟨v', g3, g4⟩ := q.get e2
  rw [hu'] at g1
  rw [hv'] at g3
  cases g1
  cases g3
  exact ⟨_, _, e1, e2, .cons g2 (.cons g4 .nil)⟩
theorem pe_listZip (hc : X.calm = true) (hg : Gl X "list") (hm : X.mg "list" = none) (hgz : Gl X "zip") (hmz : X.mg "zip" = none) (ha : PA X [e, e2] ta)
    (na : starEach [Expr.Call (.Name "zip" pz) [e, e2] [] zpos] X.env = (false, eval (Expr.Call (.Name "zip" pz) [e, e2] [] zpos) X.env) :: starEach [] X.env := by rfl)
    (hs : starEach [e, e2] X.env = (false, eval e X.env) :: starEach [e2] X.env := by rfl) (hpl : (backTo zpos (starEach [e2] X.env)).any (·.1) = false := by rfl) :
    PE X (.Call (.Name "list" p) [.Call (.Name "zip" pz) [e, e2] [] zpos] [] pos) (tListZip X.K ta) := by
  refine ⟨fun pins s σ H Q I h => ?_⟩
  refine Call_ (ld_blt I hg hm boot_list (PyProof.Rows.callWith_type1 (args_cons (Call_ (ld_blt I hgz hmz PyProof.Rows.boot_zip (PyProof.Rows.callWith_type1 (thn (ha.run zpos pins s σ H _ I h) fun us s1 ⟨vs, H1, I1, r1, q1⟩ => ?_) hs hpl))) na) na))
  obtain ⟨a, b, xs, ys, ex, hqx, hqy, hlen, q⟩ := q1
  subst ex
  cases r1 with
  | cons r rr =>
    cases rr with
    | cons r' rr =>
      cases rr
      cases r
      cases r'
      obtain ⟨its, rv, p1, z1⟩ := I1.list hqx
      obtain ⟨its2, rv2, p2, z2⟩ := I1.list hqy
      have la : a < s1.heap.objs.size := p1.lt
      have lb : b < s1.heap.objs.size := p2.lt
      have l1 := rv.length
      have l2 := rv2.length
      refine call_zip_2 p1.isList p2.isList fun h' hz hTI hTO h1 h2 hsz hk => args_nil ?_
      have D := PySem.W.ktu_apart s1.heap.objs.size a b la lb
      refine call_zip_list (n := xs.length) D (by simp; omega) (by simp; omega) z1 (I1.ok.hd hc) ⟨hz, hTI, ⟨_, _, hTO⟩, h1, h2, p1.isList.at fun o e => hk _ o e, p2.isList.at fun o e => hk _ o e⟩ fun h'' tk Ts c hk2 hS hl hp hP => ?_
      show EP X pins σ Q (.ref h'.objs.size) { s1 with heap := h'', toks := tk }
      have hlow : ∀ {c : Addr} {o : Obj}, s1.heap.get? c = some o → c < s1.heap.objs.size := fun e => Heap.lt_size e
      have kk : ∀ c o, s1.heap.get? c = some o → h''.get? c = some o := fun c o e => by
        have hc0 := hlow e
        refine hk2 c o ?_ ?_ ?_ ?_ (hk c o e)
        · exact Nat.ne_of_lt (Nat.lt_of_lt_of_le hc0 (Nat.le_add_right _ 4))
        · exact Nat.ne_of_lt (Nat.lt_of_lt_of_le hc0 (Nat.le_add_right _ 3))
        · exact Nat.ne_of_lt hc0
        · exact Nat.ne_of_lt (Nat.lt_of_lt_of_le hc0 (Nat.le_add_right _ 1))
      have hle : s1.heap.objs.size ≤ h'.objs.size := by rw [hsz]; exact Nat.le_add_right _ _
      -- the new objects
      have tup : ∀ (j : Nat) T, Ts[j]? = some T → ∃ x y, xs[j]? = some x ∧ ys[j]? = some y ∧ s1.heap.objs.size ≤ T ∧ T ≠ h'.objs.size ∧ ∀ (H2 : Hp) (G : Heap), G.get? T = h''.get? T → ObjOk X.prog X.w H2 G T (.tup [x, y]) := by
        intro j T hj
        obtain ⟨p1, p2, u, v, q1, q2, q3⟩ := hP j T hj
        obtain ⟨x, y, e1, e2, rr⟩ := pair_vals rv rv2 q1 q2
        exact ⟨x, y, e1, e2, Nat.le_trans hle (Nat.le_trans (Nat.le_succ _) p1), Nat.ne_of_gt p1, fun H2 G hG => ⟨(by show 2 ≤ sizeLine; decide), [u, v], rr, ⟨_, hG.trans q3, rfl, _, rfl⟩⟩⟩
      have mk : ∀ (Ts : List Addr) (k : Nat), (∀ (j : Nat) T, Ts[j]? = some T → ∃ x y, xs[k + j]? = some x ∧ ys[k + j]? = some y ∧ s1.heap.objs.size ≤ T ∧ T ≠ h'.objs.size ∧ ∀ (H2 : Hp) (G : Heap), G.get? T = h''.get? T → ObjOk X.prog X.w H2 G T (.tup [x, y])) →
          ∃ os : List (Addr × HO), os.map (·.1) = Ts ∧ (∀ p ∈ os, s1.heap.objs.size ≤ p.1 ∧ p.1 ≠ h'.objs.size ∧ ∀ (H2 : Hp) (G : Heap), G.get? p.1 = h''.get? p.1 → ObjOk X.prog X.w H2 G p.1 p.2) ∧ ∀ (j : Nat) T, Ts[j]? = some T → ∃ x y, xs[k + j]? = some x ∧ ys[k + j]? = some y ∧ (T, HO.tup [x, y]) ∈ os := by
        intro Ts
        induction Ts with
        | nil => exact fun k _ => ⟨[], rfl, fun p hp => (List.not_mem_nil hp).elim, fun j T hj => by simp at hj⟩
        | cons T Ts ih =>
          intro k h0
          obtain ⟨os, o1, o2, o3⟩ := ih (k + 1) fun j T' hj => by
            obtain ⟨x, y, g⟩ := h0 (j + 1) T' (by simpa using hj)
            have e : k + (j + 1) = k + 1 + j := by omega
            rw [e] at g
            exact ⟨x, y, g⟩
          obtain ⟨x, y, g1, g2, g3, g4, g5⟩ := h0 0 T rfl
          refine ⟨(T, .tup [x, y]) :: os, by rw [List.map_cons, o1], fun p hp => ?_, fun j T' hj => ?_⟩
          · rcases List.mem_cons.mp hp with rfl | hp
            · exact ⟨g3, g4, g5⟩
            · exact o2 p hp
          · cases j with
            | zero =>
              simp at hj
              subst hj
              exact ⟨x, y, g1, g2, List.mem_cons_self ..⟩
            | succ j =>
              obtain ⟨x', y', f1, f2, f3⟩ := o3 j T' (by simpa using hj)
              have e : k + (j + 1) = k + 1 + j := by omega
              rw [e]
              exact ⟨x', y', f1, f2, List.mem_cons_of_mem _ f3⟩
      obtain ⟨os, o1, o2, o3⟩ := mk Ts 0 fun j T hj => by rw [Nat.zero_add]; exact tup j T hj
      have nS : h'.objs.size ∉ os.map (·.1) := fun hm => by
        obtain ⟨p, hp', e⟩ := List.mem_map.mp hm
        exact (o2 p hp').2.1 e
      have nd : (((h'.objs.size, HO.lst (Ts.map V.ref)) :: os).map (·.1)).Nodup := by
        rw [List.map_cons]
        refine List.nodup_cons.mpr ⟨nS, ?_⟩
        rw [o1]
        exact hp.imp fun h => Nat.ne_of_lt h
      have I2 : Inv X pins σ (lay H1 ((h'.objs.size, HO.lst (Ts.map V.ref)) :: os)) { s1 with heap := h'', toks := tk } := by
        refine laid_many _ I1 kk nd fun p hp' => ?_
        rcases List.mem_cons.mp hp' with rfl | hp'
        · refine ⟨Heap.get?_none_of_le hle, I1.hok.fresh hle, fun H2 G hG => ⟨?_, Ts.map Value.ref, c, ?_, hG.trans hS⟩⟩
          · show (Ts.map V.ref).length ≤ sizeLine
            rw [List.length_map, hl]
            exact Nat.le_trans (by omega) z1
          · refine vals_of_at (by rw [List.length_map, List.length_map]) fun j x u h1 h2 => ?_
            rw [List.getElem?_map] at h1 h2
            cases hT : Ts[j]? with
            | none => rw [hT] at h1; cases h1
            | some T =>
              rw [hT] at h1 h2
              cases h1
              cases h2
              exact rfl
        · obtain ⟨g1, g2, g3⟩ := o2 p hp'
          exact ⟨Heap.get?_none_of_le g1, I1.hok.fresh g1, g3⟩
      refine ⟨.ref h'.objs.size, _, I2, rfl, q h'.objs.size Ts _ (fun b o e => ?_) (I1.hok.fresh hle) (lay_at nd (List.mem_cons_self ..)) hl fun j T hj => ?_⟩
      · rw [lay_off]
        · exact e
        · intro hm
          obtain ⟨p, hp', ep⟩ := List.mem_map.mp hm
          rcases List.mem_cons.mp hp' with rfl | hp'
          · rw [← ep, I1.hok.fresh hle] at e
            cases e
          · rw [← ep, I1.hok.fresh (o2 p hp').1] at e
            cases e
      · obtain ⟨x, y, e1, e2, e3⟩ := o3 j T hj
        rw [Nat.zero_add] at e1 e2
        exact ⟨x, y, e1, e2, lay_at nd (List.mem_cons_of_mem _ e3)⟩
end
end Kk
namespace Kk
open PySem PySem.Spec PyProof.Rows L2
section
variable {X : Cx} {o : Expr} {p pos apos mpos : Pos} {td : TE}
/-- list(d.values()) -/
def tListVals (td : TE) : TE := fun σ H Q => td σ H fun x H1 => ∃ a kvs, x = V.ref a ∧ H1 a = some (.dK kvs) ∧ ∀ q, H1 q = none → Q (.ref q) (upd H1 q (.lst (kvs.map (·.2))))
theorem pe_listVals (hc : X.calm = true) (hg : Gl X "list") (hm : X.mg "list" = none) (hd : PE X o td) (hbase : attributeBase o "values" X.env (eval o X.env) = eval o X.env := by rfl) (hline : (apos.endLine == mpos.line) = true := by rfl)
    (na : starEach [Expr.Call (.Attribute o "values" apos) [] [] mpos] X.env = (false, eval (Expr.Call (.Attribute o "values" apos) [] [] mpos) X.env) :: starEach [] X.env := by rfl) :
    PE X (.Call (.Name "list" p) [.Call (.Attribute o "values" apos) [] [] mpos] [] pos) (tListVals td) := by
  refine ⟨fun pins s σ H Q I h => ?_⟩
  refine Call_ (ld_blt I hg hm boot_list (PyProof.Rows.callWith_type1 (args_cons (wpAny_Call_method0_late hbase hline (thn (hd.run pins s σ H _ I h) fun v s1 ⟨x, H1, I1, r1, a, kvs, ex, ha, q⟩ => ?_)) na) na))
  subst ex
  obtain rfl : v = Value.ref a := r1
  obtain ⟨hlen, hsys, vs, rel, dof⟩ := dk_of I1.hok ha
  obtain ⟨ep, dat⟩ := dof.dictAt
  have dat' := dat
  obtain ⟨ob, es, ho, ex, hdat, hko, hpr, hnd⟩ := dat'
  refine ⟨"dict", "dict.values", F.plainAttrs_dict, F.slot_dict_values, F.type_dict_values, ⟨ob, ho, ex.1⟩, fun b e => ?_, Calls.callWith_builtin rfl (PySem.evalArgs_none ?_)⟩
  · cases e
    exact ⟨ob, ho, ex.2.1⟩
  refine call_meetsIn F.slot_dict_values ⟨ob, ho, ex.1⟩ F.entry_dict_values (F.args_dict_values_1 _) (meets_dict_values (mixKind X.prog X.w) a hsys) ⟨⟨vs, dof⟩, args_nil ?_⟩
  have k1 : ∀ b u, s1.heap.get? b = some u → (s1.heap.push { cls := .type "dict_values", data := .fields #[.ref a] }).get? b = some u := fun b u e => Heap.get?_push_of_some _ e
  have hl : kvs.length = vs.length := KV.length rel
  refine PySem.W.kdl_call (s := { s1 with heap := s1.heap.push { cls := .type "dict_values", data := .fields #[.ref a] } }) (PySem.W.kdl_values (knd := mixKind X.prog X.w) (kvs := vs) (ep := ep)) (I1.ok.hd hc) ⟨⟨_, Heap.get?_push_size _ rfl, rfl, rfl⟩, dat.keep k1⟩ (by rw [← hl]; exact hlen) fun h' tk acc' c' hkeep hS hacc => ?_
  have hle : s1.heap.objs.size ≤ (s1.heap.push { cls := .type "dict_values", data := .fields #[.ref a] }).objs.size := by rw [Heap.size_push]; exact Nat.le_succ _
  refine ⟨.ref _, _, I1.laid (t' := tk) (fun b u e => hkeep b u (k1 b u e)) hle (show ObjOk X.prog X.w _ _ _ (.lst (kvs.map (·.2))) from ⟨?_, acc'.toList, c', ?_, ?_⟩), rfl, q _ (I1.hok.fresh hle)⟩
  · rw [List.length_map]; exact hlen
  · have el : acc'.toList.length = acc'.size := by simp
    refine vals_of_at (by rw [List.length_map, el, hacc.1, hl]) fun j x w h1 h2 => ?_
    obtain ⟨k, hk⟩ := hacc.2 j w (by rw [← Array.getElem?_toList]; exact h2)
    obtain ⟨y, e1, e2⟩ := KV.at' rel hk
    rw [List.getElem?_map, e1] at h1
    cases h1
    exact e2
  · rw [Array.toArray_toList]; exact hS
/-- d.copy() -/
def rDCopy : V → List V → Hp → VK → Prop := fun x xs H Q => ∃ a kvs, x = .ref a ∧ xs = [] ∧ H a = some (.dK kvs) ∧ ∀ q, H q = none → Q (.ref q) (upd H q (.dK kvs))
theorem mt_copy : MtR X "dict.copy" rDCopy := by
  intro pins s σ H x xs v us Q I rx rs h
  obtain ⟨a, kvs, rfl, rfl, ha, q⟩ := h
  cases rx
  cases rs
  obtain ⟨hlen, hsys, vs, rel, dof⟩ := dk_of I.hok ha
  have hl : kvs.length = vs.length := KV.length rel
  obtain ⟨ob, es, ep, ho, ex, r⟩ := id dof
  refine call_meetsIn F.slot_dict_copy ⟨ob, ho, ex.1⟩ F.entry_dict_copy (F.args_dict_copy_1 _) (meets_dict_copy (mixKind X.prog X.w) a hsys) ⟨vs, dof, by omega, fun h' d1 d2 k => ?_⟩
  exact ⟨.ref s.heap.objs.size, _, I.laid (t' := s.toks) k (Nat.le_refl _) (show ObjOk X.prog X.w _ _ _ (.dK kvs) from ⟨hlen, by
    have n0 : (s.heap.objs.size == sysModules) = false := beq_eq_false_iff_ne.mpr (Nat.ne_of_gt I.big)
    exact n0, vs, rel, d1⟩), rfl, q _ (I.hok.fresh (Nat.le_refl _))⟩
end
end Kk
namespace Kk
open PySem PySem.Spec PyProof.Rows L2
/-- len(s), s a set of ints and texts -/
def rLenK (P : Program) (w : World) : List V → Hp → VK → Prop := fun xs H Q => ∃ a S n, xs = [V.ref a] ∧ H a = some (SetK P w a S n) ∧ n < 2 ^ 62 ∧ Q (.int (n : Nat)) H
theorem call_lenK {X : Cx} : CallR X (.builtin "len") (rLenK X.prog X.w) := by
  intro pins s σ H xs us Q I r h
  obtain ⟨a, S, n, rfl, ha, hn, q⟩ := h
  rw [Vals.ref1 r]
  have ok : ObjOk X.prog X.w H s.heap a (SetK X.prog X.w a S n) := I.hok a _ ha
  have so : s.heap.SetOf (mixKind X.prog X.w) a S n := ok.1
  obtain ⟨o, es, ep, t, ho, r1, r2, r3, r4, r5, r6, rfl⟩ := so
  exact PySem.call_len_set ho r1 r2 r6 (by omega) ⟨.int _, H, I.tok _, ⟨_, rfl⟩, q⟩
end Kk

/-! a set made of a tuple of texts -/
namespace Kk
open PySem PySem.Spec PyProof.Rows L2
section
variable {prog : Program} {w : World} {A : Around} {E : Value → Shared → Prop} {s : Shared}
set_option maxHeartbeats 3200000 in
theorem call_set_textsT {l : Addr} {items : Array Value} {xs : List Str} {Q : Value → Shared → Prop} (hh : A.handled = none) (hl : s.heap.IsTuple l items) (hi : StrsAre items.toList xs) (hb : xs.length + 1 < scanBound)
    (h : ∀ (h' : Heap) (tk : Nat), SetUp prog w h' s.heap.objs.size xs xs.length → (∀ b o, s.heap.get? b = some o → h'.get? b = some o) → Q (.ref s.heap.objs.size) { s with heap := h', toks := tk }) :
    wpAny (model prog w) A (call (.type "set") [.ref l]) Q E s := by
  obtain ⟨c, tl, hmro⟩ := PySem.F.called_set.mro
  have hmade := PySem.F.called_set.made
  have hsub := PySem.F.called_set.sub
  have h1 := PySem.F.called_set.notType
  have h2 := PySem.F.called_set.canCreate
  have hct := PySem.F.typeCall_set_1 (.ref l)
  have hlen : items.size = xs.length := by rw [← Array.length_toList, StrsAre.len_eq hi]
  refine wpAny_call (codeAny_of_tree (wpAny_pure ⟨Code.quiet_builtin _ (by decide +kernel), codeAny_builtin PySem.F.entry_type_call ?_⟩))
  rw [Around.under_plain (weight_type_call_type "set" [.ref l] []) rfl]
  repeat (any_goals (first | assumption | wp_step))
  refine codeAny_mono (code_set_new_1 (.ref l) (E := E) (Q₁ := fun obj s₁ => ∃ led : Bool, obj = .ref s.heap.objs.size ∧ s₁ = { s with heap := s.heap.push { cls := .type "set", dict := none, data := .set #[] 0 (.fresh 0 0 led) } }) fun led => ⟨led, rfl, rfl⟩) fun r s₁ hr => ?_
  cases r with
  | error e => exact hr
  | ok fl =>
    cases fl with
    | next => exact hr.elim
    | brk => exact hr.elim
    | cont => exact hr.elim
    | ret obj =>
      obtain ⟨led, rfl, rfl⟩ := hr
      have hS : (s.heap.push (setOb led)).get? s.heap.objs.size = some (setOb led) := Heap.get?_push_size _ rfl
      have hT : Shared.TypeIs { s with heap := s.heap.push (setOb led) } (.ref s.heap.objs.size) "set" := ⟨_, hS, rfl⟩
      have hli := PySem.F.called_set.init.lookup
      have hbi := PySem.F.called_set.init.bind (.ref s.heap.objs.size)
      repeat (any_goals (first | assumption | wp_step))
      refine codeAny_mono (codeAny_call_builtin (R := wants (fun r s₂ => r = .none ∧ ∃ h' tk, s₂ = { s with heap := h', toks := tk } ∧ SetUp prog w h' s.heap.objs.size xs xs.length ∧ (∀ b o, s.heap.get? b = some o → h'.get? b = some o)) E)
        PySem.F.called_set.init.plain PySem.F.entry_set_init (check_set_init_1 hT ?_)) fun r₂ s₂ hr₂ => ?_
      · obtain ⟨ol, hol, hcl, nl, hdl⟩ := hl
        obtain ⟨ocls, odict, odata, oslots⟩ := ol
        simp only at hcl hdl
        subst hcl; subst hdl
        have hlS : l < s.heap.objs.size := Heap.lt_size hol
        have hol' := Heap.get?_push_of_some (h := s.heap) (setOb led) hol
        have hsls := PySem.F.sub_tuple_set
        have hslf := PySem.F.sub_tuple_frozenset
        have hne : (Value.type "tuple" == Value.type "dict") = false := by decide
        have hl1 : (s.heap.push (setOb led)).IsTuple l items := ⟨_, hol', rfl, nl, rfl⟩
        unfold Builtin.«set.__init__» noKeywords Builtin.Frozenset.updateFrom
        generalize hPI : pyIter = PI
        wp_walk
        subst hPI
        refine wpAny_pyIter_tuple (s := { s with heap := s.heap.push (setOb led) }) hl1 ?_
        refine wpAny_bind (wpAny_runValue ?_)
        have hneI : l ≠ (s.heap.push (setOb led)).objs.size := by rw [Heap.size_push]; exact Nat.ne_of_lt (Nat.lt_succ_of_lt hlS)
        have hSf : s.heap.objs.size ∉ [(s.heap.push (setOb led)).objs.size, l] := by
          rw [Heap.size_push]
          intro hm
          rcases List.mem_cons.mp hm with z | z
          · exact Nat.ne_of_lt (Nat.lt_succ_self _) z
          · exact Nat.ne_of_gt hlS (List.mem_singleton.mp z)
        have hval : ∀ (i : Nat) (v : Value), items[i]? = some v → ∃ x t, xs[i]? = some x ∧ v = .str x t := fun i v hv => by
          have hv' : items.toList[i]? = some v := by rw [Array.getElem?_toList]; exact hv
          obtain ⟨t, e⟩ := SS.strs_at hi i v hv'
          have lt : i < xs.length := by
            have := (List.getElem?_eq_some_iff.mp hv').1
            rw [Array.length_toList, hlen] at this; exact this
          exact ⟨xs[i], t, List.getElem?_eq_getElem lt, by rw [e, List.getD_eq_getElem?_getD, List.getElem?_eq_getElem lt]; rfl⟩
        have hS2 := Heap.get?_push_of_some (h := s.heap.push (setOb led)) { cls := .type "tuple_iterator", data := .fields #[.ref l, .int 0 0] } hS
        refine update_texts ((Walks.tuple (by simp [hh]) _ l hneI items).toS) s.heap.objs.size hSf xs hlen.symm (by omega) hval (items.size - 0) 0 _ rfl (Nat.zero_le _) ⟨⟨_, Heap.get?_push_size _ rfl, rfl, rfl⟩, hl1.push _⟩ ⟨0, ⟨Nat.le_refl _, fun _ => rfl⟩, ?_⟩ fun s' hm U => ?_
        · exact ⟨_, #[], 0, _, hS2, ⟨rfl, rfl, rfl⟩, rfl, (fun e he => by simp at he), (fun k => by simp), (by decide), (by rfl), rfl⟩
        · obtain ⟨h', g', d', tk', os'⟩ := s'
          obtain rfl : g' = s.gens := hm.gens
          obtain rfl : d' = s.drawn := hm.drawn
          obtain rfl : os' = s.os := hm.os
          refine wpAny_pure (wpAny_pure ⟨rfl, h', tk', rfl, by rw [← hlen]; exact U, fun b o e => ?_⟩)
          have hb' := Heap.lt_size e
          refine hm.heap b o (fun z => ?_) (Heap.get?_push_of_some _ (Heap.get?_push_of_some _ e))
          rw [Heap.size_push] at z
          rcases List.mem_cons.mp z with z | z
          · exact Nat.ne_of_lt hb' z
          · exact Nat.ne_of_lt (Nat.lt_succ_of_lt hb') (List.mem_singleton.mp z)
      · cases r₂ with
        | error e => exact hr₂
        | ok fl₂ =>
          cases fl₂ with
          | ret r =>
            obtain ⟨rfl, h', tk, rfl, U, hk'⟩ := hr₂
            repeat (any_goals (first | assumption | wp_step))
            exact h _ _ U hk'
          | next => exact hr₂.elim
          | brk => exact hr₂.elim
          | cont => exact hr₂.elim
end
/-- set(xs), xs a list or a tuple of texts -/
def rSetLT (K : PySem.W.Frag) (P : Program) (w : World) : List V → Hp → VK → Prop := fun vs H Q => ∃ (l : Addr) (xs : List Str), vs = [.ref l] ∧ (SqL K H l (xs.map V.str) ∨ SqT K H l (xs.map V.str)) ∧ xs.length ≤ 4000 ∧
  ∀ a c, H a = none → (xs.Nodup → c = xs.length) → Q (.ref a) (upd H a (SetK P w a (fun k => xs.any fun x => decide (k = Sum.inr x)) c))
theorem call_setLT {X : Cx} (hc : X.calm = true) : CallR X (.type "set") (rSetLT X.K X.prog X.w) := by
  intro pins s σ H vs us Q I r h
  obtain ⟨l, xs, e, hl, hn, q⟩ := h
  rcases hl with hl | hl
  · exact call_setTxN hc pins s σ H vs us Q I r ⟨l, xs, e, hl, hn, q⟩
  · subst e
    rw [Vals.ref1 r]
    obtain ⟨its, rv, pl, hz⟩ := I.tuple hl
    have fresh : H s.heap.objs.size = none := I.hok.fresh (Nat.le_refl _)
    refine call_set_textsT (xs := xs) (I.ok.hd hc) pl (by simpa using Vals.strs rv) (by unfold scanBound; omega) fun h' tk U k => ?_
    obtain ⟨c, hcn, U⟩ := U
    rw [List.take_length] at U hcn
    exact ⟨.ref s.heap.objs.size, _, I.laid (t' := tk) k (Nat.le_refl _) (setK_new U), rfl, q _ c fresh hcn.2⟩
end Kk

set_option maxHeartbeats 2000000
/-! the & of two sets of texts -/
namespace Kk
open PySem PySem.Spec PyProof.Rows L2
theorem Inv.draws {X : Cx} {pins : List (Addr × Obj)} {σ : L2.St} {H : Hp} {s : Shared} (I : Inv X pins σ H s) (d : Drawn) : Inv X pins σ H { s with drawn := d } :=
  Inv.step (h' := s.heap) (H' := H) (g' := s.gens) (t' := s.toks) (d' := d) (ch := []) I (fun _ z => nomatch z) (fun b o _ _ _ q _ => q) (fun b o _ _ _ q _ => ⟨o.slots, q⟩)
    (fun b o _ _ z => z) (fun b o _ q => ⟨o, q⟩) (fun b xs q => q) (fun b o u q => q) (fun b ps q => ⟨#[], by rw [q]; simp⟩) (fun m h => h) I.hok I.bare
theorem entry_set_and : entryFor table "set.__and__" = some Builtin.«frozenset.__and__» :=
  entryFor_alias (id' := "frozenset.__and__") (by kernel_rfl) rfl (by decide +kernel) (by kernel_rfl)
section
variable {prog : Program} {w : World} {A : Around} {E : Value → Shared → Prop} {s : Shared}
theorem anySet_set {a : Addr} {Q : Bool → Shared → Prop} (h : s.TypeIs (.ref a) "set") (q : Q true s) : wpAny (model prog w) A (Builtin.Frozenset.isAnySet (.ref a)) Q E s := by
  unfold Builtin.Frozenset.isAnySet
  refine wpAny_bind (wpAny_isInstance h PySem.F.sub_set_set ?_)
  exact wpAny_pure q
theorem setOf_type {P : Program} {h : Shared} {a : Addr} {S : Key → Bool} {n : Nat} (R : h.heap.SetOf (mixKind P w) a S n) : h.TypeIs (.ref a) "set" := by
  obtain ⟨o, _, _, _, ho, hx, _⟩ := R
  exact ⟨o, ho, hx.1⟩
theorem sizeOf_set {a : Addr} {S : Key → Bool} {n : Nat} {Q : Nat → Shared → Prop} (R : s.heap.SetOf (mixKind prog w) a S n) (q : Q n s) : wpAny (model prog w) A (Builtin.Frozenset.sizeOf a) Q E s := by
  obtain ⟨o, es, ep, t, ho, _, hd, _, _, _, hf, hn⟩ := R
  unfold Builtin.Frozenset.sizeOf
  refine wpAny_bind (wpAny_setEntries_of ho hd hf (wpAny_pure ?_))
  rw [hn]
  exact q
/-- the entries of a set, as they are walked -/
def WalkOf (P : Program) (w : World) (S : Key → Bool) (es : List (Int × Value)) : Prop := ElemsOf (mixKind P w) es ∧ ∀ k, S k = true ↔ ∃ e ∈ es, (mixKind P w).is k e.2 = true
theorem WalkOf.perm {P : Program} {S : Key → Bool} {es es' : List (Int × Value)} (h : WalkOf P w S es) (p : es'.Perm es) : WalkOf P w S es' :=
  ⟨h.1.perm p, fun k => (h.2 k).trans ⟨fun ⟨e, m, i⟩ => ⟨e, p.mem_iff.mpr m, i⟩, fun ⟨e, m, i⟩ => ⟨e, p.mem_iff.mp m, i⟩⟩⟩
theorem walk_set {a : Addr} {es : Array (Int × Value)} {ep : Nat} {t : SetTable} {o : Obj} {Q : Array (Int × Value) → Shared → Prop} (ho : s.heap.get? a = some o) (hd : o.data = .set es ep t) (hf : t.fits es.size = true)
    (hl : w.params.followText "set-order" = true ∨ (t.led = true ∨ es.size ≤ 1) ) (q : ∀ (es' : Array (Int × Value)) (d : Drawn), es'.toList.Perm es.toList → Q es' { s with drawn := d }) : wpAny (model prog w) A (setWalk a) Q E s := by
  unfold setWalk
  refine wpAny_bind (wpAny_setState_of ho hd hf ?_)
  dsimp only
  refine wpAny_bind (wpAny_byText ?_)
  by_cases hbt : w.params.followText "set-order" = true
  · refine wp_if_pos hbt ?_
    exact wpAny_bind (wpAny_askSetting (wpAny_pure (q _ s.drawn (pick_perm _ _))))
  · refine wp_if_neg hbt ?_
    try refine wpAny_bind (wpAny_pure ?_)
    by_cases hdr : (!t.plain && decide (es.size > 1)) = true
    · refine wp_if_pos hdr ?_
      refine wpAny_bind (drawOrder_at es.size es.toList s _ (by simp) fun ys d p => wpAny_pure (q _ d ?_))
      simpa using p
    · refine wp_if_neg hdr ?_
      try refine wpAny_bind (wpAny_pure ?_)
      refine wpAny_bind (wpAny_of_eq (a := ()) ?_ ?_)
      · show (if (!t.led && decide (es.size > 1)) = true then unsupported "set:maker-not-led" else pure ()) = pure ()
        rcases hl with z | z | z
        · exact absurd z hbt
        · rw [z]; rfl
        · rw [show decide (es.size > 1) = false from decide_eq_false (by omega)]
          rw [Bool.and_false]; rfl
      · exact wpAny_pure (q es s.drawn (List.Perm.refl _))
theorem quiet_sets (l : List Addr) {Q : Bool → Shared → Prop} (hl : ∀ a ∈ l, ∃ S n, s.heap.SetOf (mixKind prog w) a S n) (q : Q true s) : wpAny (model prog w) A (setsQuiet l) Q E s := by
  unfold setsQuiet
  refine wpAny_bind (wpAny_forIn_list _ (fun rest b s' => b.1 = none ∧ s' = s ∧ ∀ a ∈ rest, ∃ S n, s.heap.SetOf (mixKind prog w) a S n) _ ?turn ?fin _ _ ⟨rfl, rfl, hl⟩)
  case turn =>
    rintro a rest b s' ⟨hb, rfl, hr⟩
    obtain ⟨S, n, o, es, ep, t, ho, _, hd, hel, _, _, hf, _⟩ := hr a (List.mem_cons_self ..)
    refine wpAny_bind (wpAny_setEntries_of ho hd hf ?_)
    refine wpAny_bind (MeetsSeq2.wpAny_forIn_array _ (fun rest b s2 => b.1 = none ∧ s2 = s' ∧ ElemsOf (mixKind prog w) rest) _ ?turn2 ?fin2 _ _ ⟨rfl, rfl, hel⟩)
    case turn2 =>
      rintro ⟨h, x⟩ rest2 b2 s2 ⟨hb2, rfl, he⟩
      have sc := he.head.2
      have ht := he.tail
      cases x with
      | ref y => simp [Value.scannable] at sc
      | _ => exact wpAny_pure ⟨rfl, rfl, ht⟩
    case fin2 =>
      rintro ⟨b1, b2⟩ s2 ⟨hb2, rfl, _⟩
      simp only at hb2
      subst hb2
      exact wpAny_pure ⟨rfl, rfl, fun x hx => hr x (List.mem_cons_of_mem _ hx)⟩
  case fin =>
    rintro ⟨b1, b2⟩ s' ⟨hb, rfl, _⟩
    simp only at hb
    subst hb
    exact wpAny_pure q
/-- the walk of a set, for one that is filled meanwhile (an empty one yet) -/
theorem unseen {a b r : Addr} {S T : Key → Bool} {n m : Nat} {Q : Array (Int × Value) → Shared → Prop} (ha : s.heap.SetOf (mixKind prog w) a S n) (hb : s.heap.SetOf (mixKind prog w) b T m) (hr : s.heap.SetOf (mixKind prog w) r (fun _ => false) 0)
    (q : ∀ (es : Array (Int × Value)) (h' : Heap) (d : Drawn), WalkOf prog w S es.toList → es.size = n → Heap.SameBut r s.heap h' → h'.SetOf (mixKind prog w) r (fun _ => false) 0 → Q es { s with heap := h', drawn := d }) :
    wpAny (model prog w) A (setWalkUnseen a [b, r] (some r)) Q E s := by
  have ha' := ha
  have hr' := hr
  obtain ⟨o, es, ep, t, ho, _, hd, hel, hmem, _, hf, hn⟩ := ha
  obtain ⟨o2, es2, ep2, t2, ho2, hx2, hd2, hel2, hmem2, hb2, hf2, hn2⟩ := hr
  have wo : WalkOf prog w S es.toList := ⟨hel, hmem⟩
  have fin : ∀ (es' : Array (Int × Value)) (d : Drawn), es'.toList.Perm es.toList → Q es' { s with drawn := d } := fun es' d p =>
    q es' s.heap d (wo.perm p) (by rw [← hn, ← Array.length_toList, p.length_eq, Array.length_toList]) (Heap.SameBut.refl r s.heap) hr'
  unfold setWalkUnseen
  refine wpAny_bind (wpAny_setState_of ho hd hf ?_)
  dsimp only
  refine wpAny_bind (wpAny_byText ?_)
  by_cases hc : (w.params.followText "set-order" || t.led && t.plain || decide (es.size ≤ 1)) = true
  · refine wp_if_pos hc ?_
    refine walk_set ho hd hf ?_ fin
    rw [Bool.or_eq_true, Bool.or_eq_true, Bool.and_eq_true, decide_eq_true_eq] at hc
    rcases hc with (h | h) | h
    · exact .inl h
    · exact .inr (.inl h.1)
    · exact .inr (.inr h)
  · refine wp_if_neg hc ?_
    refine wpAny_bind (quiet_sets _ (fun x hx => ?_) ?_)
    · rcases List.mem_cons.mp hx with rfl | hx
      · exact ⟨_, _, ha'⟩
      rcases List.mem_cons.mp hx with rfl | hx
      · exact ⟨_, _, hb⟩
      · rw [List.mem_singleton.mp hx]; exact ⟨_, _, hr'⟩
    refine wp_if_neg (by decide) ?_
    refine wpAny_bind (wpAny_rule ?_)
    refine wpAny_bind (wpAny_setState_of ho2 hd2 hf2 ?_)
    dsimp only
    have z2 : es2.size ≤ sizeLine := fits_of_scanBound hb2
    split
    · refine wpAny_bind (wpAny_storeSet_of ho2 hd2 ?_ z2)
      have hq := SetOf_store (knd := mixKind prog w) (es' := es2) (t' := { mask := t2.mask, place := t2.place, dummies := t2.dummies, finger := t2.finger, led := t2.led && t.led, moves := t2.moves, plain := t2.plain && t.plain }) ho2 hx2 hd2 hel2 hmem2 hb2 hf2
      rw [hn2] at hq
      exact wpAny_pure (q es _ s.drawn wo hn (Heap.SameBut.update s.heap r _) hq.2)
    · exact wpAny_pure (fin es s.drawn (List.Perm.refl _))
theorem or_step {es : List (Int × Value)} {k k' : Key} {x : Value} (hk : (mixKind prog w).is k x = true) : ((mixKind prog w).is k' x = true) ↔ k' = k :=
  ⟨fun h => (mixKind prog w).inj x k' k h hk, fun h => h ▸ hk⟩
theorem and_loop {id : String} {a b r : Addr} {S T : Key → Bool} {n m : Nat} {Q : Unit → Shared → Prop} (har : a ≠ r) (hbr : b ≠ r) (ha : s.heap.SetOf (mixKind prog w) a S n) (hb : s.heap.SetOf (mixKind prog w) b T m) (hr : s.heap.SetOf (mixKind prog w) r (fun _ => false) 0) (hn : n + 1 < scanBound)
    (q : ∀ (h' : Heap) (d : Drawn) (c : Nat), Heap.SameBut r s.heap h' → h'.SetOf (mixKind prog w) r (fun k => S k && T k) c → Q () { s with heap := h', drawn := d }) :
    wpAny (model prog w) A (do
      let was ← setEpoch a
      let es ← setWalkUnseen a [b, r] (some r)
      forIn es PUnit.unit fun x __s =>
          match x with
          | (h, x) => do
            holding [x] do
                let __do_lift ← setFind b x h
                if __do_lift.isSome = true then do
                    let _ ← setAddHashed r x h
                    pure ()
                  else pure ()
            Builtin.Frozenset.unchanged id a was
            pure (ForInStep.yield PUnit.unit)
      pure ()) Q E s := by
  have ha' := ha
  obtain ⟨o, es0, ep, t, ho, hx, hd, hel, hmem, hbd, hf, hes⟩ := ha
  refine wpAny_bind (wpAny_setEpoch_of ho hd hf ?_)
  refine wpAny_bind (unseen ha' hb hr fun es h1 d wk hsz sb1 hr1 => ?_)
  have ho1 : h1.get? a = some o := by rw [← ho]; exact sb1.2 a har
  obtain ⟨wk1, wk2⟩ := wk
  have hb1 : h1.SetOf (mixKind prog w) b T m := setOf_at hb fun o2 e => by rw [← e]; exact sb1.2 b hbr
  refine wpAny_bind (MeetsSeq2.wpAny_forIn_array _ (fun rest _ s' => ∃ (dn : List (Int × Value)) (h' : Heap) (c : Nat), es.toList = dn ++ rest ∧ s' = { s with heap := h', drawn := d } ∧ Heap.SameBut r h1 h' ∧
    h'.SetOf (mixKind prog w) r (fun k => T k && dn.any fun e => (mixKind prog w).is k e.2) c ∧ c ≤ dn.length) _ ?turn ?fin es PUnit.unit ⟨[], h1, 0, rfl, rfl, Heap.SameBut.refl r h1, by simpa using hr1, Nat.le_refl _⟩)
  case turn =>
    rintro ⟨h, x⟩ rest b' s' ⟨dn, h', c, ed, rfl, sb, hS, hc⟩
    obtain ⟨⟨k, hk, hh⟩, sc⟩ := wk1 (h, x) (by rw [ed]; exact List.mem_append_right _ (List.mem_cons_self ..))
    simp only at hh hk sc
    subst hh
    have hb' : h'.SetOf (mixKind prog w) b T m := setOf_at hb1 fun o2 e => by rw [← e]; exact sb.2 b hbr
    have ho' : h'.get? a = some o := by rw [← ho1]; exact sb.2 a har
    have eany : ∀ k', ((dn ++ [((mixKind prog w).hash k, x)]).any fun e => (mixKind prog w).is k' e.2) = ((dn.any fun e => (mixKind prog w).is k' e.2) || decide (k' = k)) := fun k' => by
      rw [List.any_append]
      congr 1
      show ((mixKind prog w).is k' x || false) = _
      rw [Bool.or_false]
      exact KeyKind.is_eq_decide hk k'
    have hlen : dn.length + 1 ≤ n := by
      have : es.toList.length = n := by rw [Array.length_toList]; exact hsz
      rw [ed, List.length_append, List.length_cons] at this
      omega
    refine wpAny_bind (wpAny_holding (wpAny_bind (wpAny_setFind_of hk sc hb' fun res hres => ?_)))
    have back : ∀ (h2 : Heap) (R : ForInStep PUnit → Shared → Prop), Heap.SameBut r h1 h2 → R (.yield ⟨⟩) { s with heap := h2, drawn := d } → wpAny (model prog w) A (do
          Builtin.Frozenset.unchanged id a ep
          pure (ForInStep.yield PUnit.unit)) R E { s with heap := h2, drawn := d } := fun h2 R sb2 hR => by
      unfold Builtin.Frozenset.unchanged
      have ho2 : h2.get? a = some o := by rw [← ho1]; exact sb2.2 a har
      refine wpAny_bind (wpAny_bind (wpAny_setEpoch_of (s := { s with heap := h2, drawn := d }) ho2 hd hf ?_))
      refine wp_if_neg (by simp) ?_
      exact wpAny_pure (wpAny_pure hR)
    cases hT : T k with
    | true =>
      rw [hT] at hres
      rw [hres]
      refine wp_if_pos rfl ?_
      refine wpAny_bind (wpAny_setAddHashed_of (s := { s with heap := h', drawn := d }) hk sc hS (by omega) fun h2 sb2 hS2 => wpAny_pure ?_)
      refine back h2 _ (sb.trans sb2) ⟨dn ++ [((mixKind prog w).hash k, x)], h2, _, by rw [ed]; simp, rfl, sb.trans sb2, cast (congrArg (fun f => h2.SetOf (mixKind prog w) r f _) (funext fun k' => ?_)) hS2, by rw [List.length_append]; show _ ≤ dn.length + 1; split <;> omega⟩
      rw [eany k']
      by_cases e : k' = k
      · subst e
        simp [hT]
      · simp [e]
    | false =>
      rw [hT] at hres
      rw [hres]
      refine wp_if_neg (by decide) (wpAny_pure ?_)
      refine back h' _ sb ⟨dn ++ [((mixKind prog w).hash k, x)], h', c, by rw [ed]; simp, rfl, sb, cast (congrArg (fun f => h'.SetOf (mixKind prog w) r f c) (funext fun k' => ?_)) hS, by rw [List.length_append]; show _ ≤ dn.length + 1; omega⟩
      rw [eany k']
      by_cases e : k' = k
      · subst e
        simp [hT]
      · simp [e]
  case fin =>
    rintro b' s' ⟨dn, h', c, ed, rfl, sb, hS, hc⟩
    rw [List.append_nil] at ed
    refine wpAny_pure (q h' d c (sb1.trans sb) (cast (congrArg (fun f => h'.SetOf (mixKind prog w) r f c) (funext fun k' => ?_)) hS))
    rw [← ed]
    have := wk2 k'
    cases hS' : S k' with
    | true =>
      obtain ⟨e, he, hi⟩ := this.mp hS'
      rw [List.any_eq_true.mpr ⟨e, he, hi⟩, Bool.and_true, Bool.true_and]
    | false =>
      have : (es.toList.any fun e => (mixKind prog w).is k' e.2) = false := by
        rw [List.any_eq_false]
        intro e he hi
        rw [this.mpr ⟨e, he, hi⟩] at hS'
        cases hS'
      rw [this, Bool.and_false, Bool.false_and]
theorem set_and {a b : Addr} {S T : Key → Bool} {n m : Nat} {Q : Value → Shared → Prop} (hab : a ≠ b) (ha : s.heap.SetOf (mixKind prog w) a S n) (hb : s.heap.SetOf (mixKind prog w) b T m) (hn : n + 1 < scanBound) (hm : m + 1 < scanBound)
    (q : ∀ (h' : Heap) (d : Drawn) (c : Nat), (∀ x o, s.heap.get? x = some o → h'.get? x = some o) → h'.SetOf (mixKind prog w) s.heap.objs.size (fun k => S k && T k) c → Q (.ref s.heap.objs.size) { s with heap := h', drawn := d }) :
    wpAny (model prog w) A (call (.builtin "set.__and__") [.ref a, .ref b]) Q E s := by
  have Ta := setOf_type (h := s) ha
  refine wpAny_call_entry PySem.F.slot_set_and Ta entry_set_and ?_ (PySem.F.args_set_and_2 _ _)
  unfold Builtin.«frozenset.__and__»
  show wpAny _ _ (Builtin.Frozenset.slot1 "__and__" ⟨[.ref a, .ref b], []⟩ >>= _) _ _ s
  unfold Builtin.Frozenset.slot1 slotArgs
  refine wpAny_bind (wpAny_bind (wpAny_pure (wpAny_pure ?_)))
  dsimp only
  refine wpAny_bind (wpAny_bind (anySet_set Ta (anySet_set (setOf_type (h := s) hb) ?_)))
  refine wp_if_neg (by decide) ?_
  refine wpAny_bind (wpAny_pure ?_)
  refine wpAny_bind (m := Builtin.Frozenset.intersection _ a (.ref b)) ?_
  unfold Builtin.Frozenset.intersection
  have hba : (Value.ref b == Value.ref a) = false := by
    rw [beq_eq_false_iff_ne]
    intro e
    exact hab (Value.ref.inj e).symm
  refine wp_if_neg (by rw [hba]; decide) ?_
  refine wpAny_bind (m := Builtin.Frozenset.baseOf a) ?_
  unfold Builtin.Frozenset.baseOf
  refine wpAny_bind (wpAny_isInstance Ta PySem.F.sub_set_set (wpAny_pure ?_))
  refine wpAny_bind (wpAny_newSet_of (knd := mixKind prog w) fun led hnew => ?_)
  have hla : a < s.heap.objs.size := by obtain ⟨o, _, _, _, ho, _⟩ := ha; exact Heap.lt_size ho
  have hlb : b < s.heap.objs.size := by obtain ⟨o, _, _, _, ho, _⟩ := hb; exact Heap.lt_size ho
  have nar : a ≠ s.heap.objs.size := Nat.ne_of_lt hla
  have nbr : b ≠ s.heap.objs.size := Nat.ne_of_lt hlb
  have ha2 := setOf_at ha fun o e => Heap.get?_push_of_some { cls := .type "set", dict := none, data := .set #[] 0 (.fresh 0 0 led) } e
  have hb2 := setOf_at hb fun o e => Heap.get?_push_of_some { cls := .type "set", dict := none, data := .set #[] 0 (.fresh 0 0 led) } e
  have hk : ∀ x o, s.heap.get? x = some o → (s.heap.push { cls := .type "set", dict := none, data := .set #[] 0 (.fresh 0 0 led) }).get? x = some o := fun x o e => Heap.get?_push_of_some _ e
  generalize s.heap.push { cls := .type "set", dict := none, data := .set #[] 0 (.fresh 0 0 led) } = h1 at *
  refine wpAny_bind (wpAny_pure ?_)
  refine wpAny_bind (wpAny_holding (wpAny_bind (anySet_set (setOf_type (h := { s with heap := h1 }) hb2) ?_)))
  refine wp_if_pos rfl ?_
  refine wpAny_bind (wpAny_pure ?_)
  refine wpAny_bind (sizeOf_set (s := { s with heap := h1 }) hb2 ?_)
  refine wpAny_bind (sizeOf_set (s := { s with heap := h1 }) ha2 ?_)
  have fin : ∀ (h' : Heap) (d : Drawn) (c : Nat), Heap.SameBut s.heap.objs.size h1 h' → h'.SetOf (mixKind prog w) s.heap.objs.size (fun k => S k && T k) c →
      wpAny (model prog w) A.in1 (pure (Value.ref s.heap.objs.size)) (fun a s' => wpAny (model prog w) A.in1 (ret a) (fun fin s' => ∃ v, fin = Fin.done (Flow.ret v) ∧ Q v s') E s') E { s with heap := h', drawn := d } := fun h' d c sb hS =>
    wpAny_pure (wpAny_pure ⟨_, rfl, q h' d c (fun x o e => by
      have hx := Heap.lt_size e
      rw [← hk x o e]
      exact sb.2 x (Nat.ne_of_lt hx)) hS⟩)
  split
  rename_i asked walked hw
  by_cases hmn : m > n
  · rw [if_pos hmn] at hw
    cases hw
    exact and_loop (s := { s with heap := h1 }) nar nbr ha2 hb2 hnew hn fun h' d c sb hS => fin h' d c sb hS
  · rw [if_neg hmn] at hw
    cases hw
    exact and_loop (s := { s with heap := h1 }) nbr nar hb2 ha2 hnew hm fun h' d c sb hS => fin h' d c sb (cast (congrArg (fun f => h'.SetOf (mixKind prog w) s.heap.objs.size f c) (funext fun k' => Bool.and_comm _ _)) hS)
end
/-- a & b, sets of texts -/
def rAndK (P : Program) (w : World) : R2 := fun x y H Q => ∃ (a b : Addr) (S T : Key → Bool) (n m : Nat), x = .ref a ∧ y = .ref b ∧ a ≠ b ∧ H a = some (SetK P w a S n) ∧ H b = some (SetK P w b T m) ∧ n + 1 < scanBound ∧ m + 1 < scanBound ∧
  ∀ r c, H r = none → c < scanBound → (0 < c ↔ ∃ k, S k = true ∧ T k = true) → Q (.ref r) (upd H r (SetK P w r (fun k => S k && T k) c))
theorem setOf_pos {P : Program} {w : World} {h : Heap} {a : Addr} {S : Key → Bool} {c : Nat} (R : h.SetOf (mixKind P w) a S c) : 0 < c ↔ ∃ k, S k = true := by
  obtain ⟨o, es, ep, t, ho, _, hd, hel, hmem, _, hf, rfl⟩ := R
  constructor
  · intro hp
    have hl : 0 < es.toList.length := by rw [Array.length_toList]; exact hp
    have hm : es.toList[0] ∈ es.toList := List.getElem_mem hl
    obtain ⟨⟨k, hk, _⟩, _⟩ := hel _ hm
    exact ⟨k, (hmem k).mpr ⟨_, hm, hk⟩⟩
  · rintro ⟨k, hk⟩
    obtain ⟨e, he, _⟩ := (hmem k).mp hk
    have := List.length_pos_of_mem he
    rwa [Array.length_toList] at this
theorem op_andK {X : Cx} : OpR X (binaryOp .BitAnd) (rAndK X.prog X.w) := by
  intro pins s σ H x y v u Q I rx ry h
  obtain ⟨a, b, S, T, n, m, rfl, rfl, hab, ha, hb, hn, hm, q⟩ := h
  cases rx
  cases ry
  have Sa := setK_get I ha
  have Sb := setK_get I hb
  refine wpAny_binaryOp_same (op := .BitAnd) (T := "set") (setOf_type (h := s) Sa) (setOf_type (h := s) Sb) PySem.F.fills_set_and PySem.F.slot_set_and (set_and hab Sa Sb hn hm fun h' d c k hS => ⟨by simp, ?_⟩)
  have J := (Inv.draws I d).laid (t' := s.toks) k (Nat.le_refl _) (setK_new hS)
  refine ⟨.ref s.heap.objs.size, _, J, rfl, q _ c (I.hok.fresh (Nat.le_refl _)) (by obtain ⟨_, _, _, _, _, _, _, _, _, hb, _, rfl⟩ := hS; exact hb) ?_⟩
  rw [setOf_pos hS]
  simp
end Kk

set_option maxHeartbeats 2000000
/-! t.index(x, start), and tuples put together or cut, whose objects have no dict of their own -/
namespace Kk
open PySem PySem.Spec PyProof.Rows L2
section
variable {X : Cx}
/-- t.index(z, i): the first place from i on -/
theorem mt_tup_index3 : MtR X "tuple.index" (fun x xs H Q => ∃ p, ∃ ys : List Str, ∃ z, ∃ i j : Nat, x = .ref p ∧ xs = [.str z, .int (i : Nat)] ∧ SqT X.K H p (ys.map V.str) ∧ i ≤ j ∧ ys[j]? = some z ∧ (∀ m, i ≤ m → m < j → ys[m]? ≠ some z) ∧ Q (.int (j : Nat)) H) := by
  intro pins s σ H x xs v us Q I rx rs h
  obtain ⟨p, ys, z, i, j, rfl, rfl, hq, hij, hy, hno, q⟩ := h
  cases rx
  cases rs with
  | cons r1 rs =>
  cases rs with
  | cons r2 rs =>
  cases rs
  obtain ⟨t, rfl⟩ := r1
  obtain ⟨t2, rfl⟩ := r2
  obtain ⟨its, r, pl, hz⟩ := I.tuple hq
  obtain ⟨⟨cls, dd, dt, sl⟩, ho, hc, n, hd⟩ := pl
  simp only at hc hd
  subst hc
  subst hd
  have hl : its.toArray.size = ys.length := by rw [List.size_toArray, ← r.length, List.length_map]
  have hj : j < its.toArray.size := by rw [hl]; exact (List.getElem?_eq_some_iff.mp hy).1
  have at' : ∀ (m : Nat) (hm : m < its.toArray.size), ∃ y t', ys[m]? = some y ∧ its.toArray[m] = Value.str y t' := fun m hm => by
    have hm' : m < ys.length := by rw [← hl]; exact hm
    obtain ⟨w, hw, t', hw'⟩ := r.get (i := m) (x := .str ys[m]) (by simp [hm'])
    refine ⟨ys[m], t', List.getElem?_eq_getElem hm', ?_⟩
    have e := (List.getElem?_eq_some_iff.mp hw).2
    rw [← hw', ← e]
    simp
  refine call_meets PySem.F.slot_tuple_index ⟨_, ho, rfl⟩ PySem.F.entry_tuple_index (PySem.F.args_tuple_index_3 _ _ _) (PySem.SeqAt.tuple_index3_found p its.toArray n dd sl (.str z t) (fun m => match its.toArray[m]? with | some w => eqU (.str z) w | none => false) (i : Int) t2 j hj (by rw [PySem.SeqAt.searchFrom_nat]; exact hij) hj ?_ ?_)
    ⟨ho, fun m hm => ?_, ⟨.int (j : Nat), H, I.tok _, ⟨_, rfl⟩, q⟩⟩
  · obtain ⟨y, t', h1, h2⟩ := at' j hj
    rw [hy] at h1
    cases h1
    show (match its.toArray[j]? with | some w => eqU (.str z) w | none => false) = true
    rw [Array.getElem?_eq_getElem hj, h2]
    show (z == z) = true
    exact beq_self_eq_true z
  · intro m hm hi hmj
    rw [PySem.SeqAt.searchFrom_nat] at hi
    obtain ⟨y, t', h1, h2⟩ := at' m hm
    show (match its.toArray[m]? with | some w => eqU (.str z) w | none => false) = false
    rw [Array.getElem?_eq_getElem hm, h2]
    show (y == z) = false
    exact beq_eq_false_iff_ne.mpr fun e => hno m hi hmj (e ▸ h1)
  · show PySem.SeqAt.EqAt _ _ its.toArray[m] (.str z t) (match its.toArray[m]? with | some w => eqU (.str z) w | none => false)
    rw [Array.getElem?_eq_getElem hm]
    exact mem_eqAt (x := .str z) ⟨t, rfl⟩ rfl r (flat_strs ys) _ (by simp)
/-- t + u -/
def rCatF (K : PySem.W.Frag) : R2 := fun x y H Q => ∃ a b xs ys, x = .ref a ∧ y = .ref b ∧ SqT K H a xs ∧ SqT K H b ys ∧ xs.length + ys.length ≤ sizeLine ∧
  (xs = [] → Q (.ref b) H) ∧ (xs ≠ [] → ys = [] → Q (.ref a) H) ∧ (xs ≠ [] → ys ≠ [] → ∀ p o, H p = none → o.dict = none → Q (.ref p) (upd H p (.frz o (.tup (xs ++ ys)))))
theorem op_catF : OpR X (binaryOp .Add) (rCatF X.K) := by
  intro pins s σ H x y v u Q I rx ry h
  obtain ⟨a, b, xs, ys, rfl, rfl, ha, hb, hz, q0, q1, q2⟩ := h
  cases rx
  cases ry
  obtain ⟨its, r1, p1, _⟩ := I.tuple ha
  obtain ⟨its2, r2, p2, _⟩ := I.tuple hb
  by_cases hx : xs = []
  · subst hx
    cases r1
    exact cat_tup0 p1 p2 ⟨.ref b, H, I, rfl, q0 rfl⟩
  · refine HT.cat_tup p1 p2 (fun z => hx (r1.nil_iff.mp z)) (fun z => ⟨.ref a, H, I, rfl, q1 hx (r2.nil_iff.mp z)⟩) (fun z => ?_) (by rw [← r1.length, ← r2.length]; exact hz)
    refine ⟨.ref s.heap.objs.size, _, I.laid (t' := s.toks) (o := .frz { cls := .type "tuple", data := .seq (its ++ its2).toArray } (.tup (xs ++ ys))) (fun b ob q => Heap.get?_push_of_some _ q) (Nat.le_refl _) ?_, rfl, q2 hx (fun w => z (r2.nil_iff.mpr w)) _ _ (I.hok.fresh (Nat.le_refl _)) rfl⟩
    exact ⟨Heap.get?_push_size _ rfl, by rw [List.length_append]; exact hz, _, r1.append r2, IsTup.new _ _⟩
theorem catF_of {K : PySem.W.Frag} {H : Hp} {a b : Addr} {xs ys : List V} {Q : VK} (ha : TupF H a xs) (hb : TupF H b ys) (hl : xs.length + ys.length ≤ 100000) (k : ∀ H' r, Same H H' → TupF H' r (xs ++ ys) → Q (.ref r) H') : rCatF K (.ref a) (.ref b) H Q := by
  refine ⟨a, b, xs, ys, rfl, rfl, ha.sq, hb.sq, Nat.le_trans hl (by decide), fun e => ?_, fun _ e => ?_, fun _ _ p o np ho => k _ p (same_upd np) (TupF.new ho)⟩
  · exact k H b (Same.refl H) (by rw [e]; exact hb)
  · exact k H a (Same.refl H) (by rw [e, List.append_nil]; exact ha)
def rSlF (K : PySem.W.Frag) : V → Option Int → Option Int → Hp → VK → Prop := fun x lo hi H Q => ∃ a xs, x = .ref a ∧ SqT K H a xs ∧ ((HT.sIx xs.length 0 lo = 0 ∧ HT.sIx xs.length xs.length hi = xs.length) → Q (.ref a) H) ∧
    (¬ (HT.sIx xs.length 0 lo = 0 ∧ HT.sIx xs.length xs.length hi = xs.length) → ∀ p o, H p = none → o.dict = none → Q (.ref p) (upd H p (.frz o (.tup (cutV xs lo hi)))))
theorem sl_tupG : SlR X (rSlF X.K) := sl_tupF
theorem cutF_of {K : PySem.W.Frag} {H : Hp} {a : Addr} {xs : List V} {lo hi : Option Int} {Q : VK} (ha : TupF H a xs) (k : ∀ H' r, Same H H' → TupF H' r (cutV xs lo hi) → Q (.ref r) H') : rSlF K (.ref a) lo hi H Q := by
  refine ⟨a, xs, rfl, ha.sq, fun w => k H a (Same.refl H) ?_, fun _ p o np ho => k _ p (same_upd np) (TupF.new ho)⟩
  have e : cutV xs lo hi = xs := by
    unfold cutV
    rw [w.1, w.2, List.drop_zero, Nat.sub_zero, List.take_length]
  rw [e]
  exact ha
end
end Kk

set_option maxHeartbeats 4000000
/-! C(), an own exception class whose __init__ is another own class's: def __init__(self): pass -/
namespace Kk
open PySem PySem.Spec PyProof.Rows L2
theorem mk_end00 {X : Cx} {pins : List (Addr × Obj)} {σ : L2.St} {H1 H2 : Hp} {hp hp2 h2 : Heap} {g1 g2 : Array GenState} {d1 d2 : Drawn} {t1 t2 : Nat} {os1 os2 : OsState} {a C : Addr} (I1 : Inv X pins σ H1 ⟨hp, g1, d1, t1, os1⟩)
    (ha : hp.objs.size ≤ a) (k : ∀ b o, hp.get? b = some o → hp2.get? b = some o) (un : Un (frs X.stack) [] (upd H1 a (exo a C none)) H2 hp2 h2) (hok : HOk X.prog X.w H2 h2) (ho : os2 = os1) (hb : AllBare g2)
    (ea : H2 a = some (exo a C none)) :
    ∃ (t0 : Addr) (G : Heap), Inv X pins σ (del H2 a) ⟨G, g2, d2, t2, os2⟩ ∧ (∀ b o, G.get? b = some o → h2.get? b = some o) ∧ G.get? a = none ∧
      h2.get? a = some ({ cls := .ref C, dict := none, data := .fields #[.ref t0, .none, .none, .none, .bool false, .none] } : Obj) := by
  obtain ⟨t0, hoe⟩ := exo_at hok ea
  have hn : H1 a = none := I1.hok.fresh ha
  obtain ⟨G, g1', g2'⟩ := restrict h2 fun b => decide (b ≠ a)
  have gk : ∀ b, b ≠ a → G.get? b = h2.get? b := fun b hb => g1' b (decide_eq_true hb)
  have ge : G.get? a = none := g2' a (by simp)
  have nha : ∀ {b : Addr} {o : Obj}, hp.get? b = some o → b ≠ a := fun {b o} z => Nat.ne_of_lt (Nat.lt_of_lt_of_le (Heap.lt_size z) ha)
  have up : ∀ {b : Addr}, b ≠ a → H1 b = none → upd H1 a (exo a C none) b = none := fun {b} hb n => by rw [upd_ne hb]; exact n
  have U : Un (frs X.stack) [] H1 (del H2 a) hp G := {
    keep := fun b o z n hf hx => by
      rw [gk b (nha z)]
      exact un.keep b o (k b o z) (up (nha z) n) hf hx
    slot := fun b o z n hf hx => by
      rw [gk b (nha z)]
      exact un.slot b o (k b o z) (up (nha z) n) hf hx
    free := fun b o z n hx => by
      rw [del_ne (nha z)]
      exact un.free b o (k b o z) (up (nha z) n) hx
    there := fun b o z hx => by
      rw [gk b (nha z)]
      exact un.there b o (k b o z) hx
    tups := fun b xs z => by
      rw [del_ne (ne_of_none z hn)]
      exact un.tups b xs (by rw [upd_ne (ne_of_none z hn)]; exact z)
    frzs := fun b o v z => by
      rw [del_ne (ne_of_none z hn)]
      exact un.frzs b o v (by rw [upd_ne (ne_of_none z hn)]; exact z)
    tbls := fun b ps z => by
      rw [del_ne (ne_of_none z hn)]
      exact un.tbls b ps (by rw [upd_ne (ne_of_none z hn)]; exact z) }
  have hok3 : HOk X.prog X.w (del H2 a) G := fun b o z => by
    have hba : b ≠ a := fun e => by
      rw [e, del_same] at z
      cases z
    rw [del_ne hba] at z
    have noa : ∀ {c : Addr}, H2 c = some (.own b) → c ≠ a := fun {c} hc => at_ne ea hc exo_own
    exact (hok b o z).stay (fun c v hc y => by
        have hca : c ≠ a := by
          rcases hc with hc | hc
          · rw [hc]
            exact hba
          · exact noa hc
        rw [gk c hca]
        exact y)
      (fun c hc => by rw [del_ne (noa hc)]; exact hc) (fun c xs hc => by rw [del_ne (at_ne ea hc exo_tup)]; exact hc)
  have J : Inv X pins σ (del H2 a) ⟨G, g2, d2, t2, os2⟩ := I1.call' (ch := []) ho U hok3 hb (fun b z => absurd z (by simp))
  refine ⟨t0, G, J, fun b o z => ?_, ge, hoe⟩
  by_cases hba : b = a
  · rw [hba, ge] at z
    cases z
  · exact (gk b hba).symm.trans z
/-- C(), its __init__ keeping sp -/
def tMkO0 (C : Addr) (sp : Sp) : L2.St → Hp → XK → Prop := fun σ H Q => ∀ a, H a = none → sp [.ref a] (upd H a (exo a C none)) (fun v H2 => v = .non ∧ H2 a = some (exo a C none) ∧ Q (.ref C) none (del H2 a)) (fun _ _ _ => False)
theorem pmk_oex0 {X : Cx} {p pos : Pos} {CX : CXT} {x : Str} {C fI : Addr} {k : Nat} {fd : FuncData} {ps : List Str} {sp : Sp} (T : OexC X.K C) (iC : PySem.W.findIn X.K (.ref C) "__init__" = some (some (.ref fI))) (tI : PySem.W.typeIn X.K (.ref fI) = some (.type "function"))
    (F1 : FnOk X.prog X.w X.K X.mg X.base CX k fI fd ps sp) (hr : Room (k + 1) X.A) (hb : Binds X.K fd ps []) (hx : Passes CX X (fun _ _ _ => False)) (hg : Gl X x) (hm : X.mg x = some (.ref C))
    (hdb : (x == ("__debug__" : Str)) = false := by decide) :
    PMk X (.Call (.Name x p) [] [] pos) (tMkO0 C sp) := by
  intro pins s σ H Q I h
  obtain ⟨nm, q, N, bs, bm, sn, sub, ab, col, dd, k0, k1, k2, k3, k5, hC, hbm⟩ := T.cls
  refine wpAny_Call_Name_kw (ld_glob I hg hm ?_ hdb)
  refine PySem.W.callWith_K0 I.kIn T.kC ?_
  show wpAny _ _ (call (.ref C) []) _ _ _
  obtain ⟨hp, g, dr, tk, os⟩ := s
  have hsz : hp.objs.size ≤ hp.objs.size + 1 := Nat.le_succ _
  have hn : H (hp.objs.size + 1) = none := I.hok.fresh hsz
  have hq := h (hp.objs.size + 1) hn
  have kk : ∀ b o, hp.get? b = some o → ((hp.push (PySem.W.kdv_tup [])).push (PySem.HandSPX.excO C hp.objs.size)).get? b = some o := fun b o e => Heap.get?_push_of_some _ (Heap.get?_push_of_some _ e)
  have hget : ((hp.push (PySem.W.kdv_tup [])).push (PySem.HandSPX.excO C hp.objs.size)).get? (hp.objs.size + 1) = some (PySem.HandSPX.excO C hp.objs.size) := by heap_get
  have I2 : Inv X pins σ (upd H (hp.objs.size + 1) (exo (hp.objs.size + 1) C none)) ⟨(hp.push (PySem.W.kdv_tup [])).push (PySem.HandSPX.excO C hp.objs.size), g, dr, tk, os⟩ :=
    I.laid (t' := tk) (a := hp.objs.size + 1) (o := exo (hp.objs.size + 1) C none) (h' := (hp.push (PySem.W.kdv_tup [])).push (PySem.HandSPX.excO C hp.objs.size)) kk hsz (exo_ok hget)
  have r2 : Vals [V.ref (hp.objs.size + 1)] [Value.ref (hp.objs.size + 1)] := .cons rfl .nil
  have hl : ([Value.ref (hp.objs.size + 1)] ++ ([] : List Value)).length = ps.length := by
    have e := F1.len _ _ _ _ hq
    simpa using e
  refine wpAny_call (PySem.HandSPX.call_own F.excBase_ValueError (fun Y => PySem.HandSPX.refsVE_contains Y bm hbm) (I.kIn _ _ hC) (PySem.W.looks_findIn I.kIn iC) (fun self => PySem.W.bind_fn I.kIn self tI) (Nat.zero_le _)
    (codeAny_mono (F1.run _ X.stack _ _ ⟨[Value.ref (hp.objs.size + 1)], []⟩ [Value.ref (hp.objs.size + 1)] _ _ (fun _ _ _ => False) (hr.make C [] []) (I2.env0.make C [] []) (by have := hb { heap := (hp.push (PySem.W.kdv_tup [])).push (PySem.HandSPX.excO C hp.objs.size), gens := g, drawn := dr, toks := tk, os := os } [Value.ref (hp.objs.size + 1)] I2.kIn hl; simpa using this) r2 hq) fun r s' hq' => ?_))
  cases r with
  | error er => exact hx pins σ _ _ er s' I2 hq'
  | ok fl =>
    cases fl with
    | ret u =>
      obtain ⟨v, H2, os2, bare2, un2, hok2, rv, ev, ea, q2⟩ := hq'
      subst ev
      obtain ⟨h2, g2, d2, t2, os'⟩ := s'
      obtain ⟨t0, G, J, kG, ge, hoe⟩ := mk_end00 (d2 := d2) (t2 := t2) I hsz kk un2 hok2 os2 bare2 ea
      exact ⟨rv, _, _, _, ⟨G, g2, d2, t2, os'⟩, _, .ref C, none, rfl, J, kG, ge, hoe, ⟨rfl, rfl⟩, rfl, rfl, del_same, rfl, bare2, raises_own T.exC T.tyC, q2⟩
    | next => exact False.elim hq'
    | brk => exact False.elim hq'
    | cont => exact False.elim hq'
end Kk

set_option maxHeartbeats 4000000
namespace Kk
open PySem PySem.Spec PyProof.Rows L2
/-- as rSetLT, and how many there are at most -/
def rSetLTc (K : PySem.W.Frag) (P : Program) (w : World) : List V → Hp → VK → Prop := fun vs H Q => ∃ (l : Addr) (xs : List Str), vs = [.ref l] ∧ (SqL K H l (xs.map V.str) ∨ SqT K H l (xs.map V.str)) ∧ xs.length ≤ 4000 ∧
  ∀ H' a c, Same H H' → H a = none → H' a = some (SetK P w a (fun k => xs.any fun x => decide (k = Sum.inr x)) c) → c ≤ xs.length → Q (.ref a) H'
theorem call_setLTc {X : Cx} (hc : X.calm = true) : CallR X (.type "set") (rSetLTc X.K X.prog X.w) := by
  intro pins s σ H vs us Q I r h
  obtain ⟨l, xs, e, hl, hn, q⟩ := h
  subst e
  rw [Vals.ref1 r]
  have fresh : H s.heap.objs.size = none := I.hok.fresh (Nat.le_refl _)
  rcases hl with hl | hl
  · obtain ⟨its, rv, pl, hz⟩ := I.list hl
    refine call_set_texts (xs := xs) (I.ok.hd hc) pl.isList (by simpa using Vals.strs rv) (by unfold scanBound; omega) fun h' tk U k => ?_
    obtain ⟨c, hcn, U⟩ := U
    rw [List.take_length] at U
    exact ⟨.ref s.heap.objs.size, _, I.laid (t' := tk) k (Nat.le_refl _) (setK_new U), rfl, q _ _ c (same_upd fresh) fresh upd_same hcn.1⟩
  · obtain ⟨its, rv, pl, hz⟩ := I.tuple hl
    refine call_set_textsT (xs := xs) (I.ok.hd hc) pl (by simpa using Vals.strs rv) (by unfold scanBound; omega) fun h' tk U k => ?_
    obtain ⟨c, hcn, U⟩ := U
    rw [List.take_length] at U
    exact ⟨.ref s.heap.objs.size, _, I.laid (t' := tk) k (Nat.le_refl _) (setK_new U), rfl, q _ _ c (same_upd fresh) fresh upd_same hcn.1⟩
/-! ### defs that may raise -/
structure CalX (P : Program) (w : World) (K : PySem.W.Frag) (mg : Str → Option Value) (base : Heap) (x : Str) (k : Nat) (ps : List Str) (sp : Sp) : Prop where
  ex : ∃ f fd, mg x = some (.ref f) ∧ PySem.W.keepIn K (.ref f) = true ∧ Binds K fd ps [] ∧ FnOk P w K mg base (L2.CX P w) k f fd ps sp
section
variable {P : Program} {w : World} {K : PySem.W.Frag} {mg : Str → Option Value} {base : Heap}
theorem cal_ofX {x : Str} {st : Stmt} {N ps : List Str} {k : Nat} {sp : Sp} (D : DefAt K mg x st) (S : FnScope N ps (defScope st))
    (hb : ∀ (kV doc pm : Value) (an : Option Addr) (cdv ct : Value) (us : List Value), us.length = ps.length → bindArgs (PySem.W.fnOf x x (defArgs st) (defBody st) (defScope st) .none kV doc pm an cdv ct) ⟨us, []⟩ = pure (ps.zip us))
    (len : ∀ vs H Q E, sp vs H Q E → vs.length = ps.length)
    (hbody : ∀ (f : Addr) (cdv : Value) (A : Around) (outer : List Env) (s : Shared) (H : Hp) (vs : List V) (Q : VK) (E : XK), Room k (A.deeper (envOfC x (defScope st) s.heap.objs.size f cdv)) → sp vs H Q E →
      ∃ t, PSs (cxOf (L2.CX P w) P w K mg base N x (defScope st) f cdv A outer s H E) (defBody st) t ∧ t { nx := fun _ H' => Q .non H', rt := Q } (start N vs) H) : CalX P w K mg base x (k + 1) ps sp := by
  obtain ⟨f, fd, F, m⟩ := D
  exact ⟨f, fd, m, F.kp, F.binds hb, F.okX S len fun cdv A outer s H vs Q E hr h => hbody f cdv A outer s H vs Q E hr h⟩
end
section
variable {X : Cx} {e : Expr} {es : List Expr} {t : TA} {x : Str} {k : Nat} {ps : List Str} {sp : Sp} {p pos : Pos}
/-- called where nothing is raised -/
theorem pe_cX (C : CalX X.prog X.w X.K X.mg X.base x k ps sp) (hr : Room k X.A) (ha : PA X (e :: es) t) (hg : Gl X x := by rfl) (hdb : (x == ("__debug__" : Str)) = false := by decide)
    (he : starEach (e :: es) X.env = (false, eval e X.env) :: starEach es X.env := by rfl) (hpl : (backTo pos (starEach es X.env)).any (·.1) = false := by rfl) :
    PE X (.Call (.Name x p) (e :: es) [] pos) (tCall sp [] E0 t) := by
  obtain ⟨f, fd, hm, hk, hb, F⟩ := C
  exact pe_call F hr hg hm hk hb .nil passL ha hdb he hpl
/-- called in a try -/
theorem pe_cT {W : WX} (C : CalX X.prog X.w X.K X.mg X.base x k ps sp) (hr : Room k X.A) (tk : Takes X W) (ha : PA X (e :: es) t) (hg : Gl X x := by rfl) (hdb : (x == ("__debug__" : Str)) = false := by decide)
    (he : starEach (e :: es) X.env = (false, eval e X.env) :: starEach es X.env := by rfl) (hpl : (backTo pos (starEach es X.env)).any (·.1) = false := by rfl) :
    PE X (.Call (.Name x p) (e :: es) [] pos) (tCallS sp (WE W) t) := by
  obtain ⟨f, fd, hm, hk, hb, F⟩ := C
  exact pe_callS F hr hg hm hk hb (fun σ => passAt tk σ) ha hdb he hpl
end
/-! ### in a try: readings that name K itself -/
theorem pe_isiK {X : Cx} {K : PySem.W.Frag} {e : Expr} {es : List Expr} {t : TA} {p pos : Pos} (hK : X.K = K) (hm : X.mg "isinstance" = none) (ha : PA X (e :: es) t) (hg : Gl X "isinstance" := by rfl)
    (he : starEach (e :: es) X.env = (false, eval e X.env) :: starEach es X.env := by rfl) (hpl : (backTo pos (starEach es X.env)).any (·.1) = false := by rfl) :
    PE X (.Call (.Name "isinstance" p) (e :: es) [] pos) (tCB (rIsi K) t) := by
  subst hK
  exact pe_callB call_isi hg hm (by decide +kernel) ha (he := he) (hpl := hpl)
theorem pe_fldK {X : Cx} {K : PySem.W.Frag} {e : Expr} {f : Str} {t : TE} {pos : Pos} (hK : X.K = K) (he : PE X e t) (hb : attributeBase e f X.env (eval e X.env) = eval e X.env) : PE X (.Attribute e f pos) (tFld K t f) := by
  subst hK
  exact pe_fld he hb
/-! ### errors without fields -/
def spPass : Sp := fun vs H Q _ => ∃ a : Addr, vs = [.ref a] ∧ Q .non H
abbrev s_kinit : Stmt := (inClass (top 9) 0)
theorem sc_kinit : FnScope ["self"] ["self"] (defScope s_kinit) := ⟨rfl, rfl, rfl, by decide +kernel, rfl, by decide +kernel, by decide +kernel⟩
theorem c_kinit {P w K mg base} {f : Addr} {fd : FuncData} (F : Fun K "__init__" "KindError.__init__" s_kinit f fd) : FnOk P w K mg base CX0 1 f fd ["self"] spPass := by
  refine F.ok sc_kinit (fun vs H Q E h => ?_) (fun cdv A outer st0 H vs Q E hr h => ?_)
  · obtain ⟨a, rfl, _⟩ := h
    rfl
  · obtain ⟨a, rfl, k⟩ := h
    exact ⟨_, (pss_one ps_pass), k⟩
/-- the class x at C, an error whose __init__ is KindError's -/
structure ExcAt (P : Program) (w : World) (K : PySem.W.Frag) (mg : Str → Option Value) (base : Heap) (x : Str) (C : Addr) : Prop where
  o : OexC K C
  g : mg x = some (.ref C)
  m : PySem.W.exmOne K (.ref C) (.ref C) = some true
  i : ∃ fI fd, PySem.W.findIn K (.ref C) "__init__" = some (some (.ref fI)) ∧ PySem.W.typeIn K (.ref fI) = some (.type "function") ∧ Binds K fd ["self"] [] ∧ FnOk P w K mg base CX0 1 fI fd ["self"] spPass
/-- what the text says of such a class -/
structure ExD (K : PySem.W.Frag) (mg : Str → Option Value) (x : Str) (C fk : Addr) : Prop where
  o : OexC K C
  g : mg x = some (.ref C)
  m : PySem.W.exmOne K (.ref C) (.ref C) = some true
  i : PySem.W.findIn K (.ref C) "__init__" = some (some (.ref fk))
  t : PySem.W.typeIn K (.ref fk) = some (.type "function")
theorem exm_ofE {K : PySem.W.Frag} {C : Addr} (b : PySem.W.subIn K (.ref C) (.type "BaseException") = some true) (i : PySem.W.isClsIn K C = true) (t : PySem.W.typeIn K (.ref C) = some (.type "type")) (s : PySem.W.subIn K (.ref C) (.ref C) = some true) : PySem.W.exmOne K (.ref C) (.ref C) = some true := by
  unfold PySem.W.exmOne PySem.W.kitCls
  have i' : (PySem.W.clsIn K C).isSome = true := i
  rw [b]
  show (if ((PySem.W.clsIn K C).isSome && PySem.W.typeIn K (.ref C) == some (.type "type")) = true then PySem.W.subIn K (.ref C) (.ref C) else none) = some true
  rw [t, i', s]
  decide +kernel
theorem exD_mk {K : PySem.W.Frag} {mg : Str → Option Value} {x : Str} {C fk : Addr} {nm q : Str} {N : Addr} {bs bm : List Value} {sn sub ab col dd k0 k1 k2 k3 k5} (g : mg x = some (.ref C)) (i : PySem.W.findIn K (.ref C) "__init__" = some (some (.ref fk)))
    (l : K.lookup C = some (excClassObj nm q C N bs bm true sn sub ab col dd k0 k1 k2 k3 k5 "ValueError.__new__")) (r : PySem.HandSPX.refsVE bm = true) (sa : PySem.W.findIn K (.ref C) "__setattr__" = some (some (.builtin "object.__setattr__")))
    (ex : PySem.W.subIn K (.ref C) (.type "BaseException") = some true) (ty : PySem.W.typeIn K (.ref C) = some (.type "type")) (kC : PySem.W.keepIn K (.ref C) = true) (m1 : PySem.W.isClsIn K C = true) (m : PySem.W.subIn K (.ref C) (.ref C) = some true) (t : PySem.W.typeIn K (.ref fk) = some (.type "function")) : ExD K mg x C fk :=
  ⟨⟨⟨nm, q, N, bs, bm, sn, sub, ab, col, dd, k0, k1, k2, k3, k5, l, r⟩, sa, ex, ty, kC⟩, g, exm_ofE ex m1 ty m, i, t⟩
theorem ExD.at {P : Program} {w : World} {K : PySem.W.Frag} {mg : Str → Option Value} {base : Heap} {x : Str} {C fk : Addr} {fdk : FuncData} (h : ExD K mg x C fk) (F : Fun K "__init__" "KindError.__init__" s_kinit fk fdk) : ExcAt P w K mg base x C :=
  ⟨h.o, h.g, h.m, fk, fdk, h.i, h.t, F.binds (ps := ["self"]) (fun _ _ _ _ _ _ us hl => match us, hl with | [_], _ => rfl), c_kinit F⟩
theorem del_upd {H : Hp} {a : Addr} {o : HO} (h : H a = none) : del (upd H a o) a = H := by
  funext b
  by_cases e : b = a
  · subst e; rw [del_same, h]
  · rw [del_ne e, upd_ne e]
theorem pmk_x {X : Cx} {x : Str} {C : Addr} {p pos : Pos} (EX : ExcAt X.prog X.w X.K X.mg X.base x C) (hr : Room 2 X.A) (hg : Gl X x := by rfl) (hdb : (x == ("__debug__" : Str)) = false := by decide) :
    PMk X (.Call (.Name x p) [] [] pos) (fun _ H Q => Q (.ref C) none H) := by
  obtain ⟨T, gC, _, fI, fd, iC, tI, hb, F⟩ := EX
  intro pins s σ H Q I h
  refine pmk_oex0 T iC tI F hr hb pass0 hg gC hdb pins s σ H Q I fun a ha => ⟨a, rfl, rfl, upd_same, ?_⟩
  rw [del_upd ha]
  exact h
end Kk

set_option maxHeartbeats 2000000
namespace Wd
theorem itr_add (s : Nat × Nm) (i : Nat) (h : (itr i s).1 = 0) : ∀ k, itr (i + k) s = itr i s
  | 0 => rfl
  | k + 1 => by
    show stp (itr (i + k) s) = _
    rw [itr_add s i h k]
    unfold stp
    rw [h]; rfl
theorem itr_end {n i : Nat} (hn : n + 1 ≤ 217180147158) (hi : i ≤ 8) (h : (itr i (n + 1, [])).1 = 0) : (itr i (n + 1, [])).2 = lett n := by
  have e := itr_add (n + 1, []) i h (9 - i)
  have e2 : i + (9 - i) = 9 := by omega
  rw [e2] at e
  unfold lett
  rw [e]
end Wd
namespace Kk
open PySem PySem.Spec PyProof.Rows L2 Wd
section
variable {P : Program} {w : World} {K : PySem.W.Frag} {mg : Str → Option Value} {base : Heap}
theorem len26 : (Str.ofString "abcdefghijklmnopqrstuvwxyz").length = 26 := by decide +kernel
def spLettered : Sp := fun vs H Q _ => ∃ n : Nat, vs = [.int (n : Int)] ∧ n + 1 ≤ 217180147158 ∧ ∀ H', Same H H' → Q (sv (lett n)) H'
abbrev s_lettered : Stmt := (top 5)
theorem sc_lettered : FnScope ["number", "text", "rest", "last"] ["number"] (defScope s_lettered) := ⟨rfl, rfl, rfl, by decide +kernel, rfl, by decide +kernel, by decide +kernel⟩
theorem c_lettered (B : Bt mg) (D : DefAt K mg "lettered" s_lettered) : Cal P w K mg base "lettered" 1 ["number"] spLettered := by
  refine cal_of D sc_lettered (fun _ _ _ _ _ _ us hl => match us, hl with | [_], _ => rfl) (fun vs H Q E h => ?_) (fun fa cdv A outer st0 H vs Q E hr h => ?_)
  · obtain ⟨n, rfl, _⟩ := h
    rfl
  · obtain ⟨n, rfl, hn, k⟩ := h
    refine ⟨_, (pss_cons (ps_set (i := 1) sc_lettered.nd rfl (by first | exact Or.inl rfl | exact Or.inr rfl) pe_str)
      (pss_cons (ps_set (i := 2) sc_lettered.nd rfl (by first | exact Or.inl rfl | exact Or.inr rfl) (pe_op op_add (pv 0) pe_int))
      (pss_cons (ps_while PassesOwn.never (pt_cmpR op_gt (pv 2) pe_int (nomark _)) (pss_cons (ps_asg (pe_callB call_divmod (by rfl) B.b_divmod (by decide +kernel) (pa_cons (pe_op op_sub (pv 2) pe_int) (pa_cons (pe_callB call_len_str (by rfl) B.b_len (by decide +kernel) (pa_cons (pe_gs B.m_LETTERS) pa_nil)) pa_nil))) (pg_tup (by rfl) (pgs_cons (pg_name (i := 2) sc_lettered.nd rfl (by first | exact Or.inl rfl | exact Or.inr rfl)) (pgs_cons (pg_name (i := 3) sc_lettered.nd rfl (by first | exact Or.inl rfl | exact Or.inr rfl)) pgs_nil))))
      (pss_one (ps_set (i := 1) sc_lettered.nd rfl (by first | exact Or.inl rfl | exact Or.inr rfl) (pe_op op_add_str (pe_ix ix_str (pe_gs B.m_LETTERS) (pv 3) (fun _ _ => rfl)) (pv 1))))))
      (pss_one (ps_ret (pv 1)))))), ?_⟩
    refine ⟨_, rfl, _, _, rfl, rfl, ?_⟩
    refine ⟨fun m σ H' => ∃ i, i ≤ 8 ∧ m = (itr i (n + 1, [])).1 ∧ Same H H' ∧ ∃ v, σ = [some (.int (n : Int)), some (sv (itr i (n + 1, [])).2), some (.int (((itr i (n + 1, [])).1 : Nat) : Int)), v], ⟨_, 0, by decide, rfl, Same.refl H, none, rfl⟩, ?_⟩
    rintro m σ H1 ⟨i, hi, rfl, S1, v, rfl⟩
    refine ⟨_, rfl, _, _, rfl, rfl, _, rfl, ?_⟩
    have L := LI.itr (n + 1) i
    refine ite2 (fun hc => ?_) (fun hc => ?_)
    · have hp : 0 < (itr i (n + 1, [])).1 := by have := of_decide_eq_true hc; omega
      have h8 : i ≠ 8 := by
        rintro rfl
        have := (lett_itr hn).2
        omega
      have e : itr (i + 1) (n + 1, []) = stp (itr i (n + 1, [])) := rfl
      refine ⟨fun σ' H' => (∃ v, σ' = [some (.int (n : Int)), some (sv (itr (i + 1) (n + 1, [])).2), some (.int (((itr (i + 1) (n + 1, [])).1 : Nat) : Int)), v]) ∧ Same H H', ?_, ?_⟩
      · rintro σ' H' ⟨⟨v', rfl⟩, S'⟩
        refine ⟨_, ?_, i + 1, by omega, rfl, S', v', rfl⟩
        rw [e]
        have e1 : stp (itr i (n + 1, [])) = (((itr i (n + 1, [])).1 - 1) / 26, (97 + ((itr i (n + 1, [])).1 - 1) % 26) :: (itr i (n + 1, [])).2) := if_pos hp
        rw [e1]
        show ((itr i (n + 1, [])).1 - 1) / 26 < _
        omega
      · rw [e]
        generalize itr i (n + 1, []) = s at *
        have e1 : stp s = ((s.1 - 1) / 26, (97 + (s.1 - 1) % 26) :: s.2) := if_pos hp
        have r1 : (s.1 - 1) % 26 < 26 := Nat.mod_lt _ (by decide)
        rw [e1]
        refine ⟨_, rfl, _, _, rfl, rfl, _, rfl, (by rw [len26, sizeLine_eq]; decide), _, _, rfl, ?_, fun T nT => ?_⟩
        · rw [len26]; exact ⟨by decide, by decide⟩
        · have eq1 : (((s.1 : Nat) : Int) - 1) / (((Str.ofString "abcdefghijklmnopqrstuvwxyz").length : Nat) : Int) = (((s.1 - 1) / 26 : Nat) : Int) := by rw [len26]; omega
          have eq2 : (((s.1 : Nat) : Int) - 1) % (((Str.ofString "abcdefghijklmnopqrstuvwxyz").length : Nat) : Int) = (((s.1 - 1) % 26 : Nat) : Int) := by rw [len26]; omega
          rw [eq1, eq2]
          refine ⟨T, _, rfl, SqT.of upd_same, rfl, _, _, rfl, _, _, rfl, rfl, ?_⟩
          refine ⟨_, rfl, _, _, 97 + (s.1 - 1) % 26, rfl, rfl, (by rw [sizeLine_eq]; decide +kernel), ?_, ?_⟩
          · exact atI_nat (alpha _ r1)
          · refine ⟨_, rfl, _, _, rfl, rfl, ?_, ?_⟩
            · rw [len_str, sizeLine_eq]
              have := L.l
              show 1 + _ ≤ _
              omega
            · rw [str_cons]
              exact ⟨⟨_, rfl⟩, S1.trans (same_upd nT)⟩
    · have hz : (itr i (n + 1, [])).1 = 0 := by
        have : ¬ (0 : Int) < (((itr i (n + 1, [])).1 : Nat) : Int) := fun q => hc (decide_eq_true q)
        omega
      refine ⟨_, rfl, ?_⟩
      rw [itr_end hn hi hz]
      exact k H1 S1
end
end Kk

set_option maxHeartbeats 2000000
namespace Kk
open PySem PySem.Spec PyProof.Rows L2 Wd
theorem namesOf_nms (ws : List W) : namesOf ws = nmsOf ws := by
  unfold namesOf nmsOf
  congr 1
theorem openV_eq (ws : List W) : openV ws = (openN ws).map sv := by
  unfold openV openN
  rw [namesOf_nms]
  induction nmsOf ws with
  | nil => rfl
  | cons n ns ih =>
    unfold openR at *
    by_cases h : n ∈ takesOf ws
    · simp [h] at ih ⊢
      exact ih
    · simp [h] at ih ⊢
      exact ih
def freshR (held : List Nm) (n : Nm) : Option V := if n ∈ held then none else some (sv n)
theorem freshR_map (held row : List Nm) : row.filterMap (freshR held) = (row.filter fun x => decide (x ∉ held)).map sv := by
  induction row with
  | nil => rfl
  | cons n ns ih =>
    by_cases h : n ∈ held
    · simp [freshR, h] at ih ⊢
      exact ih
    · simp [freshR, h] at ih ⊢
      exact ih
section
variable {P : Program} {w : World} {K : PySem.W.Frag} {mg : Str → Option Value} {base : Heap}
theorem lett_ok8 {n : Nat} (h : n + 1 ≤ 217180147158) : (lett n).length ≤ 8 := (lett_ok h).2.1
def spFreshN (K : PySem.W.Frag) : Sp := fun vs H Q _ => ∃ (n : Nat) (a : Addr) (held : List Nm), vs = [.int (n : Int), .ref a] ∧ SqT K H a (held.map sv) ∧ n + held.length ≤ 10000 ∧ held.length ≤ 4000 ∧
  ∀ H' q, Same H H' → H q = none → H' q = some (.lst ((freshN n held).map sv)) → Q (.ref q) H'
abbrev s_fresh_names : Stmt := (top 39)
theorem sc_fresh_names : FnScope ["many", "held", "barred", "row", "number", "name"] ["many", "held"] (defScope s_fresh_names) := ⟨rfl, rfl, rfl, by decide +kernel, rfl, by decide +kernel, by decide +kernel⟩
theorem c_fresh_names (B : Bt mg) (D : DefAt K mg "fresh_names" s_fresh_names) (Clettered : Cal P w K mg base "lettered" 1 ["number"] spLettered) : Cal P w K mg base "fresh_names" 2 ["many", "held"] (spFreshN K) := by
  refine cal_of D sc_fresh_names (fun _ _ _ _ _ _ us hl => match us, hl with | [_, _], _ => rfl) (fun vs H Q E h => ?_) (fun fa cdv A outer st0 H vs Q E hr h => ?_)
  · obtain ⟨n, a, held, rfl, _⟩ := h
    rfl
  · obtain ⟨n, a, held, rfl, hq, hl, hl4, k⟩ := h
    refine ⟨_, (pss_cons (ps_set (i := 2) sc_fresh_names.nd rfl (by first | exact Or.inl rfl | exact Or.inr rfl) (pe_callTy (call_setLT rfl) (by rfl) B.b_set (by decide +kernel) (pa_cons (pv 1) pa_nil)))
      (pss_cons (ps_setLc (i := 3) (own := [("number", 4)]) (g := (gName 4)) (tt := tYes) rfl sc_fresh_names.nd rfl rfl (sw_true rfl rfl rfl (by decide +kernel)) (pi_range1 (by rfl) B.b_range (pa_cons (pe_op op_add (pv 0) (pe_callB call_len_seq (by rfl) B.b_len (by decide +kernel) (pa_cons (pv 1) pa_nil))) pa_nil)) (blkOk_by (own := [("number", 4)]) (N := ["many", "held", "barred", "row", "number", "name"]) (sc := defScope s_fresh_names) (by decide +kernel)) (fun _ _ _ _ _ => (pg_name (i := 4) sc_fresh_names.nd rfl (by first | exact Or.inl rfl | exact Or.inr rfl))) (fun _ _ _ _ _ => pts_nil) (fun _ _ _ _ _ => (pe_c Clettered (hr.mono (by decide)) (pa_cons (pv 4) pa_nil))))
      (pss_one (ps_ret (pe_slice sl_list (pe_lc (own := [("name", 5)]) (g := (gName 5)) (tt := (tTest (tOp (rSInK P w true) _ _))) rfl sc_fresh_names.nd (pi_list (pv 3)) (blkOk_by (own := [("name", 5)]) (N := ["many", "held", "barred", "row", "number", "name"]) (sc := defScope s_fresh_names) (by decide +kernel)) (fun _ _ _ _ _ => (pg_name (i := 5) sc_fresh_names.nd rfl (by first | exact Or.inl rfl | exact Or.inr rfl))) (fun _ _ _ _ _ => (pts_one (pt_cmpR or_snotinK (pv 5) (pv 2) (by rfl)))) (fun _ _ _ _ _ => (pv 5))) po_none (po_some (pv 0))))))), ?_⟩
    have hlm : (held.map sv).length = held.length := List.length_map ..
    refine ⟨_, rfl, a, held.map str, rfl, .inr (by rw [str_map]; exact hq), by rw [List.length_map]; omega, fun t c nt _ => ?_⟩
    have S1 : Same H (upd H t (SetK P w t (fun k => (held.map str).any fun x => decide (k = Sum.inr x)) c)) := same_upd nt
    have L1 : upd H t (SetK P w t (fun k => (held.map str).any fun x => decide (k = Sum.inr x)) c) t = some (SetK P w t (fun k => (held.map str).any fun x => decide (k = Sum.inr x)) c) := upd_same
    refine ⟨_, rfl, _, rfl, _, _, rfl, .inr (SqT.same hq S1), _, _, rfl, rfl, _, rfl, by omega, by omega, fun D nD => ?_⟩
    have en : (((n : Nat) : Int) + (((held.map sv).length : Nat) : Int)).toNat = n + held.length := by rw [hlm]; omega
    have offD : ∀ b o, H b = some o → b ≠ D := fun b o hb => ne_of_none hb (S1.free nD)
    have tD : t ≠ D := ne_of_none L1 nD
    refine lc_range (lo := 0) (n := (((n : Nat) : Int) + (((held.map sv).length : Nat) : Int)).toNat) (fun i H' => Same H H' ∧ H' t = some (SetK P w t (fun k => (held.map str).any fun x => decide (k = Sum.inr x)) c) ∧ H' D = some (.lst (((List.range i).map lett).map sv))) ⟨S1.trans (same_upd nD), same_upd nD _ _ L1, upd_same⟩ ?_ ?_
    · rintro i H' hi ⟨S2, L2t, L2⟩
      rw [en] at hi
      refine ⟨rfl, _, rfl, i, ?_, by omega, fun H3 S3 => ?_⟩
      · show [V.int ((0 : Int) + (i : Int))] ++ [] = _
        rw [Int.zero_add]; rfl
      · refine ⟨_, S3 _ _ L2, ?_, fun b o hb => ?_, ?_, ?_⟩
        · rw [List.length_map, List.length_map, List.length_range]
          exact small_lt (m := 10000) (by omega) (by decide)
        · rw [upd_ne (offD b o hb)]
          exact S3 _ _ (S2 _ _ hb)
        · rw [upd_ne tD]; exact S3 _ _ L2t
        · rw [upd_same, List.range_succ, List.map_append, List.map_append]; rfl
    · rintro H2 ⟨S2, L2t, L2⟩
      rw [en] at L2
      generalize hrow : (List.range (n + held.length)).map lett = row at *
      have rl : row.length = n + held.length := by rw [← hrow, List.length_map, List.length_range]
      refine ⟨_, rfl, D, rfl, ⟨_, SqL.of L2⟩, fun q nq => lc_fmL (r := freshR held) (SqL.of L2) nq (by omega) (fun i m H' Qy Qn hv S4 gy gn => ?_) (fun H4 S4 L4 => ?_)⟩
      · refine ⟨rfl, _, rfl, _, rfl, Sum.inr (str m), t, _, c, rfl, rfl, S4 _ _ L2t, ?_⟩
        refine ⟨_, rfl, ?_⟩
        show if (!((held.map str).any fun x => decide ((Sum.inr (str m) : Key) = Sum.inr x))) = true then _ else _
        rw [any_str]
        by_cases hm : m ∈ held
        · rw [decide_eq_true hm]
          exact iteF (gn _ (Same.refl _) (by unfold freshR; rw [if_pos hm]))
        · rw [decide_eq_false hm]
          exact iteT ⟨_, rfl, gy _ _ (Same.refl _) (by unfold freshR; rw [if_neg hm])⟩
      · rw [freshR_map] at L4
        refine ⟨_, rfl, _, rfl, q, _, rfl, SqL.of L4, fun r nr => ?_⟩
        have S14 := S2.trans S4
        refine k _ r (S14.trans (same_upd nr)) (S14.free nr) ?_
        rw [upd_same, cut_to, ← List.map_take]
        unfold freshN
        rw [hrow]
/-! ### one word told anew -/
/-- what a table says of the names -/
structure Tbl (kvs : List (Key × V)) (f : Nm → Option Nm) : Prop where
  at_ : ∀ n, nmOk n → valV kvs (Sum.inr (str n)) = (f n).map sv
  ap : valV kvs (Sum.inr "@") = none
  ok : ∀ n m, f n = some m → nmOk m
def spRespell : Sp := fun vs H Q _ => ∃ (v : W) (d : Addr) (kvs : List (Key × V)) (f : Nm → Option Nm), vs = [wv v, .ref d] ∧ wOk v ∧ H d = some (.dK kvs) ∧ Tbl kvs f ∧ Q (wv (renW (re f) v)) H
abbrev s_respelled : Stmt := (top 36)
theorem sc_respelled : FnScope ["word", "table"] ["word", "table"] (defScope s_respelled) := ⟨rfl, rfl, rfl, by decide +kernel, rfl, by decide +kernel, by decide +kernel⟩
theorem enc_ap2 : enc .ap = ("@" : Str) := TL.ext_tl (by rw [at_sign]; rfl)
theorem re_get {f : Nm → Option Nm} (n : Nm) : ((f n).map sv).getD (sv n) = sv (re f n) := by
  unfold re
  cases f n <;> rfl
theorem re_ok {kvs : List (Key × V)} {f : Nm → Option Nm} (T : Tbl kvs f) {n : Nm} (h : nmOk n) : nmOk (re f n) := by
  unfold re
  cases e : f n with
  | none => exact h
  | some m => exact T.ok n m e
theorem take_str (m : Nm) : ("/" : Str) ++ str m = enc (.tk m) := TL.ext_tl (by rw [TL.tl_append, slash]; rfl)
theorem c_respelled (B : Bt mg) (D : DefAt K mg "respelled" s_respelled) : Cal P w K mg base "respelled" 1 ["word", "table"] spRespell := by
  refine cal_of D sc_respelled (fun _ _ _ _ _ _ us hl => match us, hl with | [_, _], _ => rfl) (fun vs H Q E h => ?_) (fun fa cdv A outer st0 H vs Q E hr h => ?_)
  · obtain ⟨v, d, kvs, f, rfl, _⟩ := h
    rfl
  · obtain ⟨v, d, kvs, f, rfl, hk, hd, T, k⟩ := h
    refine ⟨_, (pss_cons (ps_if (pt_val (pe_bm PySem.F.plainAttrs_str PySem.F.slot_str_startswith PySem.F.type_str_startswith mt_startswith (pv 0) (pa_cons (pe_gs B.m_TAKE) pa_nil))) (pss_one (ps_ret (pe_op op_add_str (pe_gs B.m_TAKE) (pe_dget2 (hu_of hr) (pv 1) (pe_slice sl_str (pv 0) (po_some pe_int) po_none) (pe_slice sl_str (pv 0) (po_some pe_int) po_none) ⟨by rfl, by rfl, by rfl, by rfl⟩)))) pss_nil)
      (pss_one (ps_ret (pe_dget2 (hu_of hr) (pv 1) (pv 0) (pv 0) ⟨by rfl, by rfl, by rfl, by rfl⟩)))), ?_⟩
    refine ⟨_, rfl, rfl, _, _, rfl, rfl, ?_⟩
    rw [starts_tk hk]
    refine ⟨_, rfl, ?_⟩
    cases v with
    | ap =>
      refine iteF ?_
      refine ⟨_, rfl, d, rfl, .inl ⟨kvs, .inl hd⟩, _, rfl, _, rfl, none, by rw [← T.ap, ← enc_ap2]; exact DGet.k (k := Sum.inr (enc .ap)) hd, ?_⟩
      exact k
    | nm n =>
      refine iteF ?_
      refine ⟨_, rfl, d, rfl, .inl ⟨kvs, .inl hd⟩, _, rfl, _, rfl, (f n).map sv, by rw [← T.at_ n hk]; exact DGet.k (k := Sum.inr (str n)) hd, ?_⟩
      show Q (((f n).map sv).getD (sv n)) H
      rw [re_get]
      exact k
    | tk n =>
      have hle := Nat.le_of_lt (small_lt (m := 9) (len_enc hk) (by decide))
      refine iteT ⟨_, rfl, d, rfl, .inl ⟨kvs, .inl hd⟩, _, rfl, _, rfl, _, rfl, hle, ?_⟩
      rw [cut1]
      refine ⟨_, rfl, _, rfl, _, rfl, hle, ?_⟩
      rw [cut1]
      refine ⟨(f n).map sv, by rw [← T.at_ n hk]; exact DGet.k (k := Sum.inr (str n)) hd, ?_⟩
      rw [re_get]
      have hok := re_ok T (n := n) hk
      refine ⟨_, _, rfl, rfl, ?_, ?_⟩
      · rw [len_str, TL.len_tl, slash]
        exact Nat.le_of_lt (small_lt (m := 10) (by have := hok.2.1; simp; omega) (by decide))
      · rw [take_str]
        exact k
end
end Kk

set_option maxHeartbeats 4000000
namespace Kk
open PySem PySem.Spec PyProof.Rows L2 Wd
/-! ### loops in comprehensions -/
theorem lc2_inner {K : PySem.W.Frag} {b : Addr} {ys : List V} {g1 : TG} {tt1 : TT} {te : TE} {σ2 : L2.St} {vs1 : List Nat} {D : Addr} {H4 : Hp} {Nx : Hp → Prop} (Pw : Nat → Hp → Prop) (h0 : Pw 0 H4) (hl : ∀ j H, j ≤ ys.length → Pw j H → SqT K H b ys)
    (hs : ∀ j y H, ys[j]? = some y → Pw j H → g1 y (wipe σ2 vs1) H fun σ3 H5 => wipe σ3 vs1 = wipe σ2 vs1 ∧ tt1 σ3 H5 fun b H6 => if b = true then te σ3 H6 fun y H7 => ∃ acc, H7 D = some (.lst acc) ∧ acc.length < sizeLine ∧ Pw (j + 1) (upd H7 D (.lst (acc ++ [y]))) else Pw (j + 1) H6)
    (hd : ∀ H, Pw ys.length H → Nx H) :
    ∃ W1 : Nat → Nat → Hp → Prop, (∃ m, W1 0 m H4) ∧ ∀ j k H, W1 j k H →
      ((Itt K b).stop j H ∧ Nx H) ∨ ((Itt K b).go j H ∧ ∃ Nx1 : Hp → Prop, (∀ H', Nx1 H' → ∃ k', k' < k ∧ W1 (j + 1) k' H') ∧ ∀ x H', (Itt K b).yld j H x H' → g1 x (wipe σ2 vs1) H' fun σ3 H5 => wipe σ3 vs1 = wipe σ2 vs1 ∧ tt1 σ3 H5 fun b H6 =>
        if b = true then te σ3 H6 fun y H7 => ∃ acc, H7 D = some (.lst acc) ∧ acc.length < sizeLine ∧ Nx1 (upd H7 D (.lst (acc ++ [y]))) else Nx1 H6) := by
  refine ⟨fun i m H => m = ys.length - i ∧ i ≤ ys.length ∧ Pw i H, ⟨ys.length, by simp, Nat.zero_le _, h0⟩, ?_⟩
  rintro i m H ⟨rfl, hi, p⟩
  have q := hl i H hi p
  by_cases hlt : i < ys.length
  · refine .inr ⟨⟨ys, ys[i], q, by simp [hlt]⟩, Pw (i + 1), fun H' p' => ⟨ys.length - (i + 1), by omega, rfl, hlt, p'⟩, fun x H' y => ?_⟩
    obtain ⟨e, y⟩ := y
    subst e
    exact hs i x _ (y ys q) p
  · have e : i = ys.length := by omega
    subst e
    exact .inl ⟨⟨ys, q, Nat.le_refl _⟩, hd H p⟩
theorem dc_list {K : PySem.W.Frag} {a : Addr} {xs : List V} {g : TG} {tt : TT} {tk tv : TE} {vs : List Nat} {σ : L2.St} {H1 : Hp} {D : Addr} {Qd : Hp → Prop} (Pv : Nat → Hp → Prop) (h0 : Pv 0 (upd H1 D (.dK []))) (hl : ∀ i H, i ≤ xs.length → Pv i H → SqL K H a xs)
    (hs : ∀ i x H, xs[i]? = some x → Pv i H → g x (wipe σ vs) H fun σ2 H2 => wipe σ2 vs = wipe σ vs ∧ tt σ2 H2 fun b H3 =>
      if b = true then tk σ2 H3 fun y H4 => tv σ2 H4 fun z H5 => ∃ kvs k, y = kV k ∧ H5 D = some (.dK kvs) ∧ kvs.length < sizeLine ∧ Pv (i + 1) (upd H5 D (.dK (putK kvs k z))) else Pv (i + 1) H3) (hd : ∀ H, Pv xs.length H → Qd H) :
    ∃ W : Nat → Nat → Hp → Prop, (∃ m, W 0 m (upd H1 D (.dK []))) ∧ ∀ i m H, W i m H →
      ((Itl K a).stop i H ∧ Qd H) ∨ ((Itl K a).go i H ∧ ∃ Nx : Hp → Prop, (∀ H', Nx H' → ∃ m', m' < m ∧ W (i + 1) m' H') ∧ ∀ x H', (Itl K a).yld i H x H' → g x (wipe σ vs) H' fun σ2 H2 => wipe σ2 vs = wipe σ vs ∧ tt σ2 H2 fun b H3 =>
        if b = true then tk σ2 H3 fun y H4 => tv σ2 H4 fun z H5 => ∃ kvs k, y = kV k ∧ H5 D = some (.dK kvs) ∧ kvs.length < sizeLine ∧ Nx (upd H5 D (.dK (putK kvs k z))) else Nx H3) := by
  refine ⟨fun i m H => m = xs.length - i ∧ i ≤ xs.length ∧ Pv i H, ⟨xs.length, by simp, Nat.zero_le _, h0⟩, ?_⟩
  rintro i m H ⟨rfl, hi, p⟩
  have q := hl i H hi p
  by_cases hlt : i < xs.length
  · refine .inr ⟨⟨xs, xs[i], q, by simp [hlt]⟩, Pv (i + 1), fun H' p' => ⟨xs.length - (i + 1), by omega, rfl, hlt, p'⟩, fun x H' y => ?_⟩
    obtain ⟨e, y⟩ := y
    subst e
    exact hs i x _ (y xs q) p
  · have e : i = xs.length := by omega
    subst e
    exact .inl ⟨⟨xs, q, Nat.le_refl _⟩, hd H p⟩
/-! ### pieces of words -/
structure Pcs (K : PySem.W.Frag) (H : Hp) (ap : Addr) (ps : List (Nat × List W)) : Prop where
  ex : ∃ ts : List Addr, SqL K H ap (ts.map V.ref) ∧ ts.length = ps.length ∧ ∀ (i : Nat) o ws, ps[i]? = some (o, ws) → ∃ t a, ts[i]? = some t ∧ SqT K H t [.int (o : Nat), .ref a] ∧ SqT K H a (ws.map wv)
theorem Pcs.same {K : PySem.W.Frag} {H H' : Hp} {ap : Addr} {ps : List (Nat × List W)} (h : Pcs K H ap ps) (s : Same H H') : Pcs K H' ap ps := by
  obtain ⟨ts, h1, h2, h3⟩ := h
  refine ⟨ts, s.seq h1, h2, fun i o ws hi => ?_⟩
  obtain ⟨t, a, g1, g2, g3⟩ := h3 i o ws hi
  exact ⟨t, a, g1, SqT.same g2 s, SqT.same g3 s⟩
/-- at D: a new list of the pairs of these owners and names -/
def Owns (H : Hp) (D : Addr) (os : List Own) : Prop := ∃ ts : List Addr, H D = some (.lst (ts.map V.ref)) ∧ ts.length = os.length ∧ ∀ (i : Nat) p, os[i]? = some p → ∃ t, ts[i]? = some t ∧ H t = some (.tup [.int (p.1 : Nat), sv p.2])
theorem Owns.same {H H' : Hp} {D : Addr} {os : List Own} (h : Owns H D os) (s : Same H H') : Owns H' D os := by
  obtain ⟨ts, h1, h2, h3⟩ := h
  refine ⟨ts, s _ _ h1, h2, fun i p hi => ?_⟩
  obtain ⟨t, g1, g2⟩ := h3 i p hi
  exact ⟨t, g1, s _ _ g2⟩
theorem Owns.snoc {H H2 : Hp} {D t : Addr} {os : List Own} {o : Nat} {n : Nm} (h : Owns H D os) (s : Same H H2) (ht : H2 t = some (.tup [.int (o : Nat), sv n])) :
    ∃ acc, H2 D = some (.lst acc) ∧ acc.length = os.length ∧ Owns (upd H2 D (.lst (acc ++ [V.ref t]))) D (os ++ [(o, n)]) := by
  obtain ⟨ts, h1, h2, h3⟩ := h
  have hD := s _ _ h1
  refine ⟨_, hD, by rw [List.length_map, h2], ts ++ [t], by rw [upd_same, List.map_append]; rfl, by simp [h2], fun i p hi => ?_⟩
  have tup : ∀ {c : Addr} {xs : List V}, H2 c = some (.tup xs) → upd H2 D (.lst (ts.map V.ref ++ [V.ref t])) c = some (.tup xs) := fun hc => by
    rw [upd_ne (ne_of hc hD (fun q => nomatch q))]
    exact hc
  by_cases q : i < os.length
  · rw [List.getElem?_append_left q] at hi
    obtain ⟨t', g1, g2⟩ := h3 i p hi
    exact ⟨t', by rw [List.getElem?_append_left (by omega)]; exact g1, tup (s _ _ g2)⟩
  · rw [List.getElem?_append_right (by omega)] at hi
    have e0 : i - os.length = 0 := by
      cases h0 : i - os.length with
      | zero => rfl
      | succ k => rw [h0] at hi; simp at hi
    rw [e0] at hi
    obtain rfl : (o, n) = p := by simpa using hi
    have ei : i = ts.length := by omega
    subst ei
    exact ⟨t, by simp, tup ht⟩
/-- at F: a list of the pairs of the table -/
def Frs (H : Hp) (F : Addr) (fr : List (Own × Nm)) : Prop := ∃ Ts : List Addr, H F = some (.lst (Ts.map V.ref)) ∧ Ts.length = fr.length ∧ ∀ (i : Nat) p, fr[i]? = some p → ∃ T t, Ts[i]? = some T ∧ H T = some (.tup [.ref t, sv p.2]) ∧ H t = some (.tup [.int (p.1.1 : Nat), sv p.1.2])
theorem Frs.same {H H' : Hp} {F : Addr} {fr : List (Own × Nm)} (h : Frs H F fr) (s : Same H H') : Frs H' F fr := by
  obtain ⟨Ts, h1, h2, h3⟩ := h
  refine ⟨Ts, s _ _ h1, h2, fun i p hi => ?_⟩
  obtain ⟨T, t, g1, g2, g3⟩ := h3 i p hi
  exact ⟨T, t, g1, s _ _ g2, s _ _ g3⟩
/-- a table as it grows -/
structure TblP (kvs : List (Key × V)) (i : Nat) (f : Nm → Option Nm) : Prop where
  len : kvs.length ≤ i
  at_ : ∀ n, valV kvs (Sum.inr (str n)) = (f n).map sv
theorem TblP.nil {o : Nat} : TblP [] 0 (tblF [] o) := ⟨Nat.le_refl _, fun n => rfl⟩
theorem TblP.put {kvs : List (Key × V)} {fr : List (Own × Nm)} {i o : Nat} {p : Own × Nm} (T : TblP kvs i (tblF (fr.take i) o)) (hp : fr[i]? = some p) (ho : p.1.1 = o) : TblP (putK kvs (Sum.inr (str p.1.2)) (sv p.2)) (i + 1) (tblF (fr.take (i + 1)) o) := by
  refine ⟨by have := length_putK kvs (Sum.inr (str p.1.2)) (sv p.2); have := T.len; omega, fun n => ?_⟩
  have e : fr.take (i + 1) = fr.take i ++ [p] := by rw [List.take_add_one, hp]; rfl
  rw [e, tblF_snoc, valV_put]
  by_cases h : n = p.1.2
  · subst h
    rw [if_pos rfl, if_pos (by rw [← ho])]
    rfl
  · rw [if_neg (fun q => h (str_inj (Sum.inr.inj q))), if_neg (fun q => h (by rw [q])), T.at_ n]
theorem TblP.skip {kvs : List (Key × V)} {fr : List (Own × Nm)} {i o : Nat} {p : Own × Nm} (T : TblP kvs i (tblF (fr.take i) o)) (hp : fr[i]? = some p) (ho : ¬ p.1.1 = o) : TblP kvs (i + 1) (tblF (fr.take (i + 1)) o) := by
  refine ⟨Nat.le_succ_of_le T.len, fun n => ?_⟩
  have e : fr.take (i + 1) = fr.take i ++ [p] := by rw [List.take_add_one, hp]; rfl
  rw [e, tblF_snoc, T.at_ n, if_neg (fun q => ho (by rw [q]))]
theorem ap_str : ("@" : Str) = str [64] := TL.ext_tl (by rw [at_sign]; rfl)
theorem tblF_mem {fr : List (Own × Nm)} {o : Nat} {n m : Nm} (h : tblF fr o n = some m) : ((o, n), m) ∈ fr := by
  unfold tblF at h
  obtain ⟨p, hp, rfl⟩ := Option.map_eq_some_iff.mp h
  have h1 := List.mem_filter.mp (List.mem_of_getLast? hp)
  have h2 : p.1 = (o, n) := by simpa using h1.2
  rw [← h2]
  exact h1.1
theorem TblP.tbl {kvs : List (Key × V)} {ps : List (Nat × List W)} {held : List Nm} {i o : Nat} (T : TblP kvs i (tblF (frOf ps held) o)) (ok : ∀ p ∈ ps, ∀ v ∈ p.2, wOk v) (hl : (owned ps).length + held.length ≤ 217180147158) : Tbl kvs (tblF (frOf ps held) o) := by
  refine ⟨fun n _ => T.at_ n, ?_, fun n m h => ?_⟩
  · rw [ap_str, T.at_ [64]]
    cases h : tblF (frOf ps held) o [64] with
    | none => rfl
    | some m =>
      have h1 := (List.of_mem_zip (tblF_mem h)).1
      obtain ⟨p, hp, h2⟩ := List.mem_flatMap.mp h1
      obtain ⟨n, hn, e⟩ := List.mem_map.mp h2
      cases e
      have := ok p hp _ (mem_tks.mp hn)
      have := this.2.2 64 (by simp)
      omega
  · exact freshN_ok hl (List.of_mem_zip (tblF_mem h)).2
theorem owned_snoc (ps : List (Nat × List W)) (i : Nat) {o : Nat} {ws : List W} (h : ps[i]? = some (o, ws)) : owned (ps.take (i + 1)) = owned (ps.take i) ++ (takesOf ws).map fun n => (o, n) := by
  rw [List.take_add_one, h]
  unfold owned
  rw [List.flatMap_append]
  simp
theorem takes_snoc {ws : List W} {j : Nat} {v : W} (h : ws[j]? = some v) : takesOf (ws.take (j + 1)) = takesOf (ws.take j) ++ (tkN v).toList := by
  rw [List.take_add_one, h, takesOf_app]
  cases v <;> rfl
theorem owned_le (ps : List (Nat × List W)) (i : Nat) : (owned (ps.take i)).length ≤ (owned ps).length := by
  have e : owned ps = owned (ps.take i) ++ owned (ps.drop i) := by
    unfold owned
    rw [← List.flatMap_append, List.take_append_drop]
  rw [e, List.length_append]
  omega
theorem takes_take_le (ws : List W) (j : Nat) : (takesOf (ws.take j)).length ≤ (takesOf ws).length := by
  have e : takesOf ws = takesOf (ws.take j) ++ takesOf (ws.drop j) := by rw [← takesOf_app, List.take_append_drop]
  rw [e, List.length_append]
  omega
theorem frs_mk {H : Hp} {D q F : Addr} {ps : List (Nat × List W)} {held : List Nm} {Ts : List Addr} {ts : List Addr} (O : Owns H D (owned ps)) (ht : H D = some (.lst (ts.map V.ref))) (hF : H F = some (.lst (Ts.map V.ref))) (hl : Ts.length = (owned ps).length) (hb : (owned ps).length + held.length ≤ 217180147158)
    (h : ∀ (j : Nat) T, Ts[j]? = some T → ∃ x y, (ts.map V.ref)[j]? = some x ∧ ((freshN (owned ps).length held).map sv)[j]? = some y ∧ H T = some (.tup [x, y])) : Frs H F (frOf ps held) := by
  obtain ⟨ts', h1, h2, h3⟩ := O
  rw [ht] at h1
  have e1 : ts.map V.ref = ts'.map V.ref := HO.lst.inj (Option.some.inj h1)
  have fl := freshN_len hb
  refine ⟨Ts, hF, by unfold frOf; rw [List.length_zip, fl, hl, Nat.min_self], fun i p hp => ?_⟩
  obtain ⟨g1, g2⟩ := List.getElem?_zip_eq_some.mp hp
  have hi := (List.getElem?_eq_some_iff.mp g1).1
  have hT : Ts[i]? = some (Ts[i]'(by omega)) := List.getElem?_eq_getElem _
  obtain ⟨x, y, f1, f2, f3⟩ := h i _ hT
  obtain ⟨t, k1, k2⟩ := h3 i p.1 g1
  rw [e1, List.getElem?_map, k1] at f1
  rw [List.getElem?_map, g2] at f2
  cases f1
  cases f2
  exact ⟨_, t, hT, f3, k2⟩
def toldPre (ps : List (Nat × List W)) (fr : List (Own × Nm)) (i : Nat) : List W := (ps.take i).flatMap fun p => p.2.map (renW (re (tblF fr p.1)))
theorem toldPre_snoc {ps : List (Nat × List W)} {fr : List (Own × Nm)} {i o : Nat} {ws : List W} (h : ps[i]? = some (o, ws)) : toldPre ps fr (i + 1) = toldPre ps fr i ++ ws.map (renW (re (tblF fr o))) := by
  unfold toldPre
  rw [List.take_add_one, h, List.flatMap_append]
  simp
theorem toldPre_len {ps : List (Nat × List W)} {fr : List (Own × Nm)} (h : ∀ p ∈ ps, p.2.length ≤ 4500) : ∀ i, (toldPre ps fr i).length ≤ 4500 * i
  | 0 => by simp [toldPre]
  | i + 1 => by
    have ih := toldPre_len (fr := fr) h i
    cases e : ps[i]? with
    | none =>
      have : toldPre ps fr (i + 1) = toldPre ps fr i := by unfold toldPre; rw [List.take_add_one, e]; simp
      rw [this]; omega
    | some p =>
      obtain ⟨o, ws⟩ := p
      rw [toldPre_snoc e, List.length_append, List.length_map]
      have := h _ (List.mem_of_getElem? e)
      simp only at this
      omega
section
variable {P : Program} {w : World} {K : PySem.W.Frag} {mg : Str → Option Value} {base : Heap}
def spTold (K : PySem.W.Frag) (C : Addr) : Sp := fun vs H Q _ => ∃ (ap ah : Addr) (ps : List (Nat × List W)) (held : List Nm), vs = [.ref ap, .ref ah] ∧ Pcs K H ap ps ∧ SqT K H ah (held.map sv) ∧ (∀ p ∈ ps, ∀ v ∈ p.2, wOk v) ∧ (∀ p ∈ ps, p.2.length ≤ 4500) ∧ ps.length ≤ 10 ∧ (owned ps).length + held.length ≤ 10000 ∧ held.length ≤ 4000 ∧
  ∀ H' x a, Same H H' → H x = none → Pg C H' x a → TupF H' a ((toldW ps held).map wv) → Q (.ref x) H'
abbrev s_told_anew : Stmt := (top 38)
theorem sc_told_anew : FnScope ["pieces", "held", "taken", "owner", "words", "word", "fresh", "told", "table", "whose", "name", "new"] ["pieces", "held"] (defScope s_told_anew) := ⟨rfl, rfl, rfl, by decide +kernel, rfl, by decide +kernel, by decide +kernel⟩
theorem c_told_anew {C : Addr} (B : Bt mg) (pc : PC K mg C) (D : DefAt K mg "told_anew" s_told_anew) (Cfresh_names : Cal P w K mg base "fresh_names" 2 ["many", "held"] (spFreshN K)) (Crespelled : Cal P w K mg base "respelled" 1 ["word", "table"] spRespell)
    (Cbuilt : Cal P w K mg base "built" 7 ["words"] (spBuilt K C)) : Cal P w K mg base "told_anew" 8 ["pieces", "held"] (spTold K C) := by
  refine cal_of D sc_told_anew (fun _ _ _ _ _ _ us hl => match us, hl with | [_, _], _ => rfl) (fun vs H Q E h => ?_) (fun fa cdv A outer st0 H vs Q E hr h => ?_)
  · obtain ⟨ap, ah, ps, held, rfl, _⟩ := h
    rfl
  · obtain ⟨ap, ah, ps, held, rfl, hP, hh, ok, hl1, hl2, hl3, hl4, k⟩ := h
    refine ⟨_, (pss_cons (ps_setLc2 (i := 2) (own := [("owner", 3), ("words", 4), ("word", 5)]) (vs1 := [5]) (wi1 := iTup K (tVar 4)) (g := (gTup K 2 (gCons (gName 3) (gCons (gName 4) gNil)))) (g1 := (gName 5)) (tt := tYes) (tt1 := (tB (tBM K "str" _ _ _))) rfl sc_told_anew.nd rfl rfl (sw_true rfl rfl rfl (by decide +kernel)) (pi_list (pv 0)) (blkOk_by (own := [("owner", 3), ("words", 4), ("word", 5)]) (N := ["pieces", "held", "taken", "owner", "words", "word", "fresh", "told", "table", "whose", "name", "new"]) (sc := defScope s_told_anew) (by decide +kernel)) (by decide) (fun _ _ _ _ _ => (pg_tup (by rfl) (pgs_cons (pg_name (i := 3) sc_told_anew.nd rfl (by first | exact Or.inl rfl | exact Or.inr rfl)) (pgs_cons (pg_name (i := 4) sc_told_anew.nd rfl (by first | exact Or.inl rfl | exact Or.inr rfl)) pgs_nil)))) (fun _ _ _ _ _ => pts_nil) (fun _ _ _ _ _ => by exact (pi_tup (pv 4))) (fun _ _ _ _ _ => (pg_name (i := 5) sc_told_anew.nd rfl (by first | exact Or.inl rfl | exact Or.inr rfl))) (fun _ _ _ _ _ => (pts_one (pt_val (pe_bm PySem.F.plainAttrs_str PySem.F.slot_str_startswith PySem.F.type_str_startswith mt_startswith (pv 5) (pa_cons (pe_gs B.m_TAKE) pa_nil))))) (fun _ _ _ _ _ => (pe_tup (pa_cons (pv 3) (pa_cons (pe_slice sl_str (pv 5) (po_some pe_int) po_none) pa_nil)))))
      (pss_cons (ps_set (i := 6) sc_told_anew.nd rfl (by first | exact Or.inl rfl | exact Or.inr rfl) (pe_listZip rfl (by rfl) B.b_list (by rfl) B.b_zip (pa_cons (pv 2) (pa_cons (pe_c Cfresh_names (hr.mono (by decide)) (pa_cons (pe_callB call_len_seq (by rfl) B.b_len (by decide +kernel) (pa_cons (pv 2) pa_nil)) (pa_cons (pv 1) pa_nil))) pa_nil))))
      (pss_cons (ps_set (i := 7) sc_told_anew.nd rfl (by first | exact Or.inl rfl | exact Or.inr rfl) (pe_lst pa_nil))
      (pss_cons (ps_for PassesOwn.never rfl (pi_list (pv 0)) (pg_tup (by rfl) (pgs_cons (pg_name (i := 3) sc_told_anew.nd rfl (by first | exact Or.inl rfl | exact Or.inr rfl)) (pgs_cons (pg_name (i := 4) sc_told_anew.nd rfl (by first | exact Or.inl rfl | exact Or.inr rfl)) pgs_nil))) (pss_cons (ps_set (i := 8) sc_told_anew.nd rfl (by first | exact Or.inl rfl | exact Or.inr rfl) (pe_dc (own := [("new", 11), ("whose", 9), ("name", 10)]) (g := (gTup K 2 (gCons (gTup K 2 (gCons (gName 9) (gCons (gName 10) gNil))) (gCons (gName 11) gNil)))) rfl sc_told_anew.nd (pi_list (pv 6)) (blkOk_by (own := [("new", 11), ("whose", 9), ("name", 10)]) (N := ["pieces", "held", "taken", "owner", "words", "word", "fresh", "told", "table", "whose", "name", "new"]) (sc := defScope s_told_anew) (by decide +kernel)) (fun _ _ _ _ _ => by exact (pg_tup (by rfl) (pgs_cons (pg_tup (by rfl) (pgs_cons (pg_name (i := 9) sc_told_anew.nd rfl (by first | exact Or.inl rfl | exact Or.inr rfl)) (pgs_cons (pg_name (i := 10) sc_told_anew.nd rfl (by first | exact Or.inl rfl | exact Or.inr rfl)) pgs_nil))) (pgs_cons (pg_name (i := 11) sc_told_anew.nd rfl (by first | exact Or.inl rfl | exact Or.inr rfl)) pgs_nil)))) (fun _ _ _ _ _ => pts_one (pt_cmpR op_eq (pv 9) (pv 3) (nomark _))) (fun _ _ _ _ _ => by exact (pv 10)) (fun _ _ _ _ _ => by exact (pv 11))))
      (pss_one (ps_expr (pe_bm PySem.F.plainAttrs_list PySem.F.slot_list_extend PySem.F.type_list_extend mt_extend (pv 7) (pa_cons (pe_lc (own := [("word", 5)]) (g := (gName 5)) (tt := tYes) rfl sc_told_anew.nd (pi_tup (pv 4)) (blkOk_by (own := [("word", 5)]) (N := ["pieces", "held", "taken", "owner", "words", "word", "fresh", "told", "table", "whose", "name", "new"]) (sc := defScope s_told_anew) (by decide +kernel)) (fun _ _ _ _ _ => (pg_name (i := 5) sc_told_anew.nd rfl (by first | exact Or.inl rfl | exact Or.inr rfl))) (fun _ _ _ _ _ => pts_nil) (fun _ _ _ _ _ => (pe_c Crespelled (hr.mono (by decide)) (pa_cons (pv 5) (pa_cons (pv 8) pa_nil))))) pa_nil))))))
      (pss_one (ps_ret (pe_c Cbuilt (hr.mono (by decide)) (pa_cons (pe_callTy call_tupleF (by rfl) B.b_tuple (by decide +kernel) (pa_cons (pv 7) pa_nil)) pa_nil)))))))), ?_⟩
    have hP' := hP
    obtain ⟨ts, hts, htl, hpc⟩ := hP.ex
    have big : (owned ps).length + held.length ≤ 217180147158 := by omega
    -- taken
    refine ⟨_, rfl, ap, rfl, ⟨_, hts⟩, fun D nD => ?_⟩
    refine ⟨fun i m H' => m = ps.length - i ∧ i ≤ ps.length ∧ Same H H' ∧ Owns H' D (owned (ps.take i)), ⟨_, rfl, Nat.zero_le _, same_upd nD, [], upd_same, rfl, fun i p hi => by simp [owned] at hi⟩, ?_⟩
    rintro i m H1 ⟨rfl, hi, S1, O1⟩
    have offD : ∀ b o, H b = some o → b ≠ D := fun b o hb => ne_of_none hb nD
    by_cases hlt : i < ps.length
    · obtain ⟨⟨o, ws⟩, hp⟩ : ∃ p, ps[i]? = some p := ⟨ps[i], List.getElem?_eq_getElem hlt⟩
      obtain ⟨t, a, g1, g2, g3⟩ := hpc i o ws hp
      have hx0 : (ts.map V.ref)[i]? = some (.ref t) := by rw [List.getElem?_map, g1]; rfl
      refine .inr ⟨⟨_, _, S1.seq hts, hx0⟩, fun H' => Same H H' ∧ Owns H' D (owned (ps.take (i + 1))), fun H' ⟨s, o⟩ => ⟨_, (by omega : ps.length - (i + 1) < ps.length - i), rfl, hlt, s, o⟩, fun x H' y => ?_⟩
      obtain ⟨rfl, hy⟩ := y
      have hx := hy _ (S1.seq hts)
      rw [hx0] at hx
      cases hx
      have hwl : ws.length ≤ 4500 := hl1 _ (List.mem_of_getElem? hp)
      refine ⟨t, _, rfl, SqT.same g2 S1, rfl, _, _, rfl, _, _, rfl, rfl, rfl, _, rfl, a, rfl, ⟨_, SqT.same g3 S1⟩, lc2_inner (K := K) (b := a) (ys := ws.map wv) (fun j H' => Same H H' ∧ Owns H' D (owned (ps.take i) ++ (takesOf (ws.take j)).map fun n => (o, n)))
        ⟨S1, by simpa [takesOf] using O1⟩ (fun j H' _ s => SqT.same g3 s.1) ?_ ?_⟩
      · rintro j y H2 hj ⟨S2, O2⟩
        obtain ⟨v, hv, rfl⟩ := map_get hj
        have hk := ok _ (List.mem_of_getElem? hp) v (List.mem_of_getElem? hv)
        refine ⟨rfl, _, rfl, rfl, _, _, rfl, rfl, ?_⟩
        rw [starts_tk hk]
        refine ⟨_, rfl, ?_⟩
        cases v with
        | ap => exact iteF ⟨S2, by rw [takes_snoc hv]; simpa [tkN] using O2⟩
        | nm n => exact iteF ⟨S2, by rw [takes_snoc hv]; simpa [tkN] using O2⟩
        | tk n =>
          refine iteT ⟨_, rfl, _, rfl, _, rfl, _, rfl, Nat.le_of_lt (small_lt (m := 9) (len_enc hk) (by decide)), ?_⟩
          rw [cut1]
          refine ⟨(by show 2 ≤ sizeLine; decide), fun t' nt' => ?_⟩
          obtain ⟨acc, ha, hal, hO⟩ := O2.snoc (o := o) (n := n) (same_upd nt') upd_same
          refine ⟨acc, ha, ?_, fun b u hb => ?_, ?_⟩
          · rw [hal, List.length_append, List.length_map]
            have q1 := owned_le ps i
            have q2 := takes_take_le ws j
            have q3 := takesOf_len ws
            exact small_lt (m := 20000) (by omega) (by decide)
          · rw [upd_ne (offD b u hb), upd_ne (ne_of_none (S2 _ _ hb) nt')]
            exact S2 _ _ hb
          · rw [takes_snoc hv]
            simpa [tkN] using hO
      · rintro H2 ⟨S2, O2⟩
        rw [List.length_map, List.take_length] at O2
        exact ⟨S2, by rw [owned_snoc ps i hp]; exact O2⟩
    · obtain rfl : i = ps.length := by omega
      rw [List.take_length] at O1
      refine .inl ⟨⟨_, S1.seq hts, by rw [List.length_map, htl]; exact Nat.le_refl _⟩, ?_⟩
      obtain ⟨ts2, hD, htl2, hown⟩ := id O1
      have hlm2 : (ts2.map V.ref).length = (owned ps).length := by rw [List.length_map, htl2]
      -- fresh
      refine ⟨_, rfl, _, rfl, D, _, rfl, .inl (SqL.of hD), _, rfl, (ts2.map V.ref).length, ah, held, rfl, SqT.same hh S1, by rw [hlm2]; exact hl3, hl4, fun H2 q S2 nq L2 => ?_⟩
      rw [hlm2] at L2
      have fl := freshN_len big
      refine ⟨D, q, _, _, rfl, SqL.of (S2 _ _ hD), SqL.of L2, by rw [hlm2, List.length_map, fl], fun F Ts H3 S3 nF LF hTl hTs => ?_⟩
      have S23 := S2.trans S3
      have FR : Frs H3 F (frOf ps held) := frs_mk (q := q) (O1.same S23) (S23 _ _ hD) LF (by rw [hTl, hlm2]) big hTs
      have S13 := S1.trans S23
      clear hTs L2 hown
      -- told
      refine ⟨Nat.zero_le _, fun E' nE => ?_⟩
      have S4 : Same H3 (upd H3 E' (.lst [])) := same_upd nE
      have E4 : upd H3 E' (.lst []) E' = some (.lst []) := upd_same
      have offE : ∀ b o, H3 b = some o → b ≠ E' := fun b o hb => ne_of_none hb nE
      refine ⟨_, rfl, ap, rfl, ⟨_, (S13.trans S4).seq hts⟩, for_list (K := K) (a := ap) (xs := ts.map V.ref) (fun i σ H' => ∃ v3 v4 v5 v8 v9 v10 v11 : Option V, σ = [some (.ref ap), some (.ref ah), some (.ref D), v3, v4, v5, some (.ref F), some (.ref E'), v8, v9, v10, v11] ∧ Same H3 H' ∧ H' E' = some (.lst ((toldPre ps (frOf ps held) i).map wv)))
        ⟨_, _, _, _, _, _, _, rfl, S4, E4⟩ (fun i σ H' _ ⟨_, _, _, _, _, _, _, _, s, _⟩ => (S13.trans s).seq hts) ?_ ?_⟩
      · rintro i x σ H4 hx ⟨v3, v4, v5, v8, v9, v10, v11, rfl, S5, LE⟩
        obtain ⟨t, hti, rfl⟩ := map_get hx
        have hip : i < ps.length := by
          have := (List.getElem?_eq_some_iff.mp hti).1
          omega
        obtain ⟨⟨o, ws⟩, hp⟩ : ∃ p, ps[i]? = some p := ⟨ps[i], List.getElem?_eq_getElem hip⟩
        obtain ⟨t', a, g1, g2, g3⟩ := hpc i o ws hp
        rw [hti] at g1
        cases g1
        have hwl : ws.length ≤ 4500 := hl1 _ (List.mem_of_getElem? hp)
        have S14 := S13.trans S5
        refine ⟨t, _, rfl, SqT.same g2 S14, rfl, _, _, rfl, _, _, rfl, rfl, ?_⟩
        -- table
        obtain ⟨Ts', f1, f2, f3⟩ := FR.same S5
        refine ⟨_, rfl, F, rfl, ⟨_, SqL.of f1⟩, fun G nG => dc_list (K := K) (a := F) (xs := Ts'.map V.ref) (fun j H' => Same H4 H' ∧ ∃ kvs, H' G = some (.dK kvs) ∧ TblP kvs j (tblF ((frOf ps held).take j) o))
          ⟨same_upd nG, [], upd_same, TblP.nil⟩ (fun j H' _ s => SqL.of (s.1 _ _ f1)) ?_ ?_⟩
        · rintro j y H5 hj ⟨S6, kvs, LG, TP⟩
          obtain ⟨T, hT, rfl⟩ := map_get hj
          have hjl : j < (frOf ps held).length := by
            have := (List.getElem?_eq_some_iff.mp hT).1
            omega
          obtain ⟨p, hpj⟩ : ∃ p, (frOf ps held)[j]? = some p := ⟨_, List.getElem?_eq_getElem hjl⟩
          obtain ⟨T', t2, k1, k2, k3⟩ := f3 j p hpj
          rw [hT] at k1
          cases k1
          refine ⟨T, _, rfl, SqT.of (S6 _ _ k2), rfl, _, _, rfl, ⟨t2, _, rfl, SqT.of (S6 _ _ k3), rfl, _, _, rfl, _, _, rfl, rfl, _, _, rfl, rfl, rfl, _, rfl, _, rfl, rfl, _, rfl, ?_⟩⟩
          by_cases ho : p.1.1 = o
          · have e : decide (V.int (p.1.1 : Nat) = V.int (o : Nat)) = true := decide_eq_true (by rw [ho])
            rw [e]
            refine iteT ⟨_, rfl, _, rfl, kvs, Sum.inr (str p.1.2), rfl, LG, ?_, ?_⟩
            · have := TP.len
              have q1 : (frOf ps held).length ≤ (owned ps).length := by unfold frOf; rw [List.length_zip]; exact Nat.min_le_left _ _
              exact small_lt (m := 10000) (by omega) (by decide)
            · exact ⟨fun b u hb => by rw [upd_ne (ne_of_none hb nG)]; exact S6 _ _ hb, _, upd_same, TP.put hpj ho⟩
          · have e : decide (V.int (p.1.1 : Nat) = V.int (o : Nat)) = false := decide_eq_false (fun q => ho (by have := V.int.inj q; omega))
            rw [e]
            exact iteF ⟨S6, kvs, LG, TP.skip hpj ho⟩
        · rintro H5 ⟨S6, kvs, LG, TP⟩
          rw [List.length_map, f2, List.take_length] at TP
          have TB := TP.tbl ok big
          -- told.extend
          have LE5 := S6 _ _ LE
          have gE : G ≠ E' := (ne_of_none LE nG).symm
          refine ⟨_, rfl, .inl ⟨rfl, _, SqL.of LE5⟩, _, rfl, a, rfl, ⟨_, SqT.same g3 (S14.trans S6)⟩, fun r nr => lc_fmT (r := fun v => some (wv (renW (re (tblF (frOf ps held) o)) v))) (SqT.same g3 (S14.trans S6)) nr (by omega) (fun j v H' Qy Qn hv S7 gy gn => ?_) (fun H7 S7 L7 => ?_)⟩
          · have hk := ok _ (List.mem_of_getElem? hp) v (List.mem_of_getElem? hv)
            exact ⟨rfl, _, rfl, _, rfl, v, G, kvs, _, rfl, hk, S7 _ _ LG, TB, gy _ _ (Same.refl _) rfl⟩
          · have er : (ws.filterMap fun v => some (wv (renW (re (tblF (frOf ps held) o)) v))) = (ws.map (renW (re (tblF (frOf ps held) o)))).map wv := by
              rw [List.filterMap_eq_map', List.map_map]
              rfl
            rw [er] at L7
            refine ⟨E', r, _, _, rfl, rfl, S7 _ _ LE5, L7, ?_, ?_⟩
            · rw [List.length_map, List.length_map, List.length_map, sizeLine_eq]
              have q1 := toldPre_len (fr := frOf ps held) hl1 i
              omega
            · refine ⟨_, _, _, _, _, _, _, rfl, fun b u hb => ?_, ?_⟩
              · rw [upd_ne (offE b u hb)]
                exact S7 _ _ (S6 _ _ (S5 _ _ hb))
              · rw [upd_same, ← List.map_append, toldPre_snoc hp]
      · rintro σ H4 ⟨v3, v4, v5, v8, v9, v10, v11, rfl, S5, LE⟩
        have e : toldPre ps (frOf ps held) (ts.map V.ref).length = toldW ps held := by
          rw [List.length_map, htl]
          unfold toldPre toldW
          rw [List.take_length]
        rw [e] at LE
        refine ⟨_, rfl, E', _, rfl, SqL.of LE, fun r o nr ho => ⟨r, toldW ps held, rfl, TupF.new ho, fun H6 x6 S6 n6 P6 => ?_⟩⟩
        have S16 := (S13.trans S5).trans (same_upd (o := .frz o (.tup ((toldW ps held).map wv))) nr)
        exact k H6 x6 r (S16.trans S6) (S16.free n6) P6 ((TupF.new ho).same S6)
end
end Kk

set_option maxHeartbeats 4000000
namespace Kk
open PySem PySem.Spec PyProof.Rows L2 Wd
theorem Pg.keepP {C : Addr} {H H' : Hp} {p g s x a : Addr} (h : Pg C H x a) (P : PotAt H p g s) (k : Keep p g H H') : Pg C H' x a := by
  obtain ⟨d, h2⟩ := h
  obtain ⟨q1, q2⟩ := P.offs h2 (fun _ q => nomatch q)
  exact ⟨d, k _ _ h2 q1 q2⟩
/-! ### pieces of two programs -/
theorem mem_owned {ps : List (Nat × List W)} {o : Nat} {n : Nm} : (o, n) ∈ owned ps ↔ ∃ p ∈ ps, p.1 = o ∧ n ∈ takesOf p.2 := by
  unfold owned
  rw [List.mem_flatMap]
  constructor
  · rintro ⟨p, hp, h⟩
    obtain ⟨m, hm, e⟩ := List.mem_map.mp h
    cases e
    exact ⟨p, hp, rfl, hm⟩
  · rintro ⟨p, hp, rfl, h⟩
    exact ⟨p, hp, List.mem_map.mpr ⟨n, h, rfl⟩⟩
theorem mkI_iff {os os' : List Own} {o : Nat} (h : ∀ n, (o, n) ∈ os ↔ (o, n) ∈ os') (v : W) : mkI os o v = mkI os' o v := by
  cases v with
  | ap => rfl
  | tk n => rfl
  | nm n =>
    show (if (o, n) ∈ os then Im.nm (o, n) else Im.op n) = (if (o, n) ∈ os' then Im.nm (o, n) else Im.op n)
    by_cases e : (o, n) ∈ os
    · rw [if_pos e, if_pos ((h n).mp e)]
    · rw [if_neg e, if_neg fun q => e ((h n).mpr q)]
/-- the words of a program given another one, standard -/
def apI (ws us : List W) : List Im := .ap :: (markI 0 ws ++ markI 1 us)
def apW (ws us : List W) : List W := stdI (openN ws ++ openN us) (apI ws us)
theorem items_ap (ws us : List W) : itemsP [(0, .ap :: ws), (1, us)] = apI ws us := by
  unfold itemsP apI markI
  have e0 : ∀ v, mkI (owned [(0, W.ap :: ws), (1, us)]) 0 v = mkI (owned [(0, ws)]) 0 v := fun v => mkI_iff (fun n => by
    rw [mem_owned, mem_owned]
    simp [takesOf]) v
  have e1 : ∀ v, mkI (owned [(0, W.ap :: ws), (1, us)]) 1 v = mkI (owned [(1, us)]) 1 v := fun v => mkI_iff (fun n => by
    rw [mem_owned, mem_owned]
    simp [takesOf]) v
  show (W.ap :: ws).map _ ++ (us.map _ ++ []) = _
  rw [List.append_nil, List.map_cons, List.map_congr_left (fun v _ => e0 v), List.map_congr_left (fun v _ => e1 v)]
  rfl
theorem told_ap (ws us : List W) (held : List Nm) : toldW [(0, .ap :: ws), (1, us)] held = stdI held (apI ws us) := by rw [told_std, items_ap]
section
variable {P : Program} {w : World} {K : PySem.W.Frag} {mg : Str → Option Value} {base : Heap}
def spCommon (K : PySem.W.Frag) : Sp := fun vs H Q _ => ∃ (p q : Addr) (ns ms : List Nm), vs = [.ref p, .ref q] ∧ SqT K H p (ns.map sv) ∧ SqT K H q (ms.map sv) ∧ ns.length ≤ 4000 ∧ ms.length ≤ 4000 ∧
  ∀ H' b, Same H H' → (b = true ↔ ∃ n ∈ ns, n ∈ ms) → Q (.bl b) H'
abbrev s_have_common : Stmt := (top 41)
theorem sc_have_common : FnScope ["names", "others"] ["names", "others"] (defScope s_have_common) := ⟨rfl, rfl, rfl, by decide +kernel, rfl, by decide +kernel, by decide +kernel⟩
theorem c_have_common (B : Bt mg) (D : DefAt K mg "have_common" s_have_common) : Cal P w K mg base "have_common" 1 ["names", "others"] (spCommon K) := by
  refine cal_of D sc_have_common (fun _ _ _ _ _ _ us hl => match us, hl with | [_, _], _ => rfl) (fun vs H Q E h => ?_) (fun fa cdv A outer st0 H vs Q E hr h => ?_)
  · obtain ⟨p, q, ns, ms, rfl, _⟩ := h
    rfl
  · obtain ⟨p, q, ns, ms, rfl, hp, hq, hn, hm, k⟩ := h
    refine ⟨_, (pss_one (ps_ret (pe_cmpR op_gt (pe_callB call_lenK (by rfl) B.b_len (by decide +kernel) (pa_cons (pe_op op_andK (pe_callTy (call_setLTc rfl) (by rfl) B.b_set (by decide +kernel) (pa_cons (pv 0) pa_nil)) (pe_callTy (call_setLTc rfl) (by rfl) B.b_set (by decide +kernel) (pa_cons (pv 1) pa_nil))) pa_nil)) pe_int (nomark _)))), ?_⟩
    have e1 : ns.map sv = (ns.map str).map V.str := by rw [List.map_map]; rfl
    have e2 : ms.map sv = (ms.map str).map V.str := by rw [List.map_map]; rfl
    rw [e1] at hp
    rw [e2] at hq
    refine ⟨_, rfl, p, _, rfl, .inr hp, by rw [List.length_map]; exact hn, fun H1 a c S1 na L1 hc => ?_⟩
    rw [List.length_map] at hc
    refine ⟨_, rfl, q, _, rfl, .inr (SqT.same hq S1), by rw [List.length_map]; exact hm, fun H2 b d S2 nb L2 hd => ?_⟩
    rw [List.length_map] at hd
    have hab : a ≠ b := ne_of_none L1 nb
    refine ⟨a, b, _, _, c, d, rfl, rfl, hab, S2 _ _ L1, L2, by unfold scanBound; omega, by unfold scanBound; omega, fun r n nr hn' hr' => ?_⟩
    have hn62 : n < 2 ^ 62 := Nat.lt_of_lt_of_le hn' (by unfold scanBound; decide)
    refine ⟨r, _, n, rfl, upd_same, hn62, _, _, rfl, rfl, ?_⟩
    refine k _ _ ((S1.trans S2).trans (same_upd nr)) ?_
    rw [decide_eq_true_eq]
    have e0 : (0 : Int) < (n : Int) ↔ 0 < n := by omega
    rw [e0, hr']
    constructor
    · rintro ⟨k, h1, h2⟩
      obtain ⟨x1, m1, i1⟩ := List.any_eq_true.mp h1
      obtain ⟨x2, m2, i2⟩ := List.any_eq_true.mp h2
      obtain ⟨n1, g1, rfl⟩ := List.mem_map.mp m1
      obtain ⟨n2, g2, rfl⟩ := List.mem_map.mp m2
      have z1 := of_decide_eq_true i1
      have z2 := of_decide_eq_true i2
      have : n1 = n2 := str_inj (Sum.inr.inj (z1.symm.trans z2))
      subst this
      exact ⟨n1, g1, g2⟩
    · rintro ⟨m, h1, h2⟩
      exact ⟨Sum.inr (str m), List.any_eq_true.mpr ⟨str m, List.mem_map.mpr ⟨m, h1, rfl⟩, decide_eq_true rfl⟩, List.any_eq_true.mpr ⟨str m, List.mem_map.mpr ⟨m, h2, rfl⟩, decide_eq_true rfl⟩⟩
/-- of two Programs, which may have an open name in common: the error's class is at C2 -/
def spApplied (K : PySem.W.Frag) (C C2 : Addr) : Sp := fun vs H Q E => ∃ (x y a b : Addr) (ws us : List W), vs = [.ref x, .ref y] ∧ Pg C H x a ∧ TupF H a (ws.map wv) ∧ Vd ws ∧ Pg C H y b ∧ TupF H b (us.map wv) ∧ Vd us ∧ ws.length + us.length ≤ 3990 ∧
  ((∀ n ∈ openN ws, n ∉ openN us) → ∀ H' z c, Same H H' → H z = none → Pg C H' z c → TupF H' c ((apW ws us).map wv) → Q (.ref z) H') ∧ ((∃ n ∈ openN ws, n ∈ openN us) → ∀ H', Same H H' → E (.ref C2) none H')
abbrev s_applied : Stmt := (top 42)
theorem sc_applied : FnScope ["program", "other", "held", "more"] ["program", "other"] (defScope s_applied) := ⟨rfl, rfl, rfl, by decide +kernel, rfl, by decide +kernel, by decide +kernel⟩
theorem c_applied {C C2 : Addr} (B : Bt mg) (pc : PC K mg C) (D : DefAt K mg "applied" s_applied) (ESharedNames : ExcAt P w K mg base "SharedNames" C2) (Ctold_anew : Cal P w K mg base "told_anew" 8 ["pieces", "held"] (spTold K C)) (Copen_names : Cal P w K mg base "open_names" 3 ["program"] (spOfP K C rOpen))
    (Chave_common : Cal P w K mg base "have_common" 1 ["names", "others"] (spCommon K)) : CalX P w K mg base "applied" 9 ["program", "other"] (spApplied K C C2) := by
  refine cal_ofX D sc_applied (fun _ _ _ _ _ _ us hl => match us, hl with | [_, _], _ => rfl) (fun vs H Q E h => ?_) (fun fa cdv A outer st0 H vs Q E hr h => ?_)
  · obtain ⟨x, y, a, b, ws, us, rfl, _⟩ := h
    rfl
  · obtain ⟨x, y, a, b, ws, us, rfl, hx, ha, va, hy, hb, vb, hl, k1, k2⟩ := h
    refine ⟨_, (pss_cons (ps_set (i := 2) sc_applied.nd rfl (by first | exact Or.inl rfl | exact Or.inr rfl) (pe_c Copen_names (hr.mono (by decide)) (pa_cons (pv 0) pa_nil)))
      (pss_cons (ps_set (i := 3) sc_applied.nd rfl (by first | exact Or.inl rfl | exact Or.inr rfl) (pe_c Copen_names (hr.mono (by decide)) (pa_cons (pv 1) pa_nil)))
      (pss_cons (ps_if (pt_val (pe_c Chave_common (hr.mono (by decide)) (pa_cons (pv 2) (pa_cons (pv 3) pa_nil)))) (pss_one (ps_raise rfl (takes_of rfl rfl rfl rfl) (pmk_x ESharedNames (hr.mono (by decide))))) pss_nil)
      (pss_one (ps_ret (pe_c Ctold_anew (hr.mono (by decide)) (pa_cons (pe_lst (pa_cons (pe_tup (pa_cons pe_int (pa_cons (pe_op op_catA (pe_tup (pa_cons (pe_gs B.m_GIVEN) pa_nil)) (pe_fld (pv 0) rfl)) pa_nil))) (pa_cons (pe_tup (pa_cons pe_int (pa_cons (pe_fld (pv 1) rfl) pa_nil))) pa_nil))) (pa_cons (pe_op op_catA (pv 2) (pv 3)) pa_nil)))))))), ?_⟩
    refine ⟨_, rfl, x, a, ws, rfl, hx, ha, va, by omega, fun H1 v1 S1 ⟨r1, e1, n1, T1⟩ => ?_⟩
    subst e1
    rw [openV_eq] at T1
    refine ⟨_, rfl, y, b, us, rfl, hy.same S1, hb.same S1, vb, by omega, fun H2 v2 S2 ⟨r2, e2, n2, T2⟩ => ?_⟩
    subst e2
    rw [openV_eq] at T2
    have S12 := S1.trans S2
    have o1 := open_len ws
    have o2 := open_len us
    refine ⟨_, rfl, _, rfl, r1, r2, _, _, rfl, (T1.same S2).sq, T2.sq, by omega, by omega, fun H3 c S3 hc => ?_⟩
    have S13 := S12.trans S3
    refine ⟨_, rfl, ?_⟩
    cases c with
    | true => exact iteT (k2 (hc.mp rfl) H3 S13)
    | false =>
      have ap : ∀ n ∈ openN ws, n ∉ openN us := fun n h1 h2 => by have := hc.mpr ⟨n, h1, h2⟩; cases this
      refine iteF ?_
      obtain ⟨dx, hx0⟩ := hx.same S13
      obtain ⟨dy, hy0⟩ := hy.same S13
      have a3 := ha.same S13
      have b3 := hb.same S13
      have T13 := T1.same (S2.trans S3)
      have T23 := T2.same S3
      have lw : ∀ vs : List W, (vs.map wv).length = vs.length := fun vs => List.length_map ..
      -- ("@",)
      refine ⟨(by show 1 ≤ sizeLine; decide), fun t nt => ?_⟩
      have S4 : Same H3 (upd H3 t (.tup [V.str "@"])) := same_upd nt
      have L4 : upd H3 t (.tup [V.str "@"]) t = some (.tup [V.str "@"]) := upd_same
      generalize upd H3 t (.tup [V.str "@"]) = H4 at *
      refine ⟨_, rfl, x, C, dx, _, _, rfl, S4 _ _ hx0, pc.cl, pc.nw, pfs_get a, t, a, _, _, rfl, rfl, SqT.of L4, (a3.same S4).sq, ?_, fun z => absurd z (by simp), fun _ z => ?_, fun _ _ q nq => ?_⟩
      · rw [lw, sizeLine_eq]; show 1 + _ ≤ _; omega
      · have := va.pos
        have := congrArg List.length z
        rw [lw] at this
        have z0 : ws.length = 0 := this
        omega
      have ecat : [V.str "@"] ++ ws.map wv = (W.ap :: ws).map wv := rfl
      rw [ecat]
      have S5 : Same H4 (upd H4 q (.tup ((W.ap :: ws).map wv))) := same_upd nq
      have L5 : upd H4 q (.tup ((W.ap :: ws).map wv)) q = some (.tup ((W.ap :: ws).map wv)) := upd_same
      generalize upd H4 q (.tup ((W.ap :: ws).map wv)) = H5 at *
      refine ⟨(by show 2 ≤ sizeLine; decide), fun t1 nt1 => ?_⟩
      have S6 : Same H5 (upd H5 t1 (.tup [.int 0, .ref q])) := same_upd nt1
      have L6 : upd H5 t1 (.tup [.int 0, .ref q]) t1 = some (.tup [.int 0, .ref q]) := upd_same
      generalize upd H5 t1 (.tup [.int 0, .ref q]) = H6 at *
      have S46 := S4.trans (S5.trans S6)
      refine ⟨_, rfl, y, C, dy, _, _, rfl, S46 _ _ hy0, pc.cl, pc.nw, pfs_get b, (by show 2 ≤ sizeLine; decide), fun t2 nt2 => ?_⟩
      have S7 : Same H6 (upd H6 t2 (.tup [.int 1, .ref b])) := same_upd nt2
      have L7 : upd H6 t2 (.tup [.int 1, .ref b]) t2 = some (.tup [.int 1, .ref b]) := upd_same
      generalize upd H6 t2 (.tup [.int 1, .ref b]) = H7 at *
      refine ⟨(by show 2 ≤ sizeLine; decide), fun l nl => ?_⟩
      have S8 : Same H7 (upd H7 l (.lst [.ref t1, .ref t2])) := same_upd nl
      have L8 : upd H7 l (.lst [.ref t1, .ref t2]) l = some (.lst [.ref t1, .ref t2]) := upd_same
      generalize upd H7 l (.lst [.ref t1, .ref t2]) = H8 at *
      have S48 := S46.trans (S7.trans S8)
      -- held + more
      have fin : ∀ (H9 : Hp) (h : Addr), Same H8 H9 → SqT K H9 h ((openN ws ++ openN us).map sv) → spTold K C [V.ref l, V.ref h] H9 Q E0 := fun H9 h S9 T9 => by
        have S89 := S8.trans S9
        have l1 := takesOf_len (W.ap :: ws)
        have l2 := takesOf_len us
        have l3 : (W.ap :: ws).length = ws.length + 1 := rfl
        refine ⟨l, h, [(0, .ap :: ws), (1, us)], openN ws ++ openN us, rfl, ⟨[t1, t2], SqL.of (S9 _ _ L8), rfl, fun i o vs hi => ?_⟩, T9, fun p hp v hv => ?_, fun p hp => ?_, by simp, ?_, ?_, fun H' z c S10 nz P10 T10 => ?_⟩
        · match i, hi with
          | 0, hi =>
            cases hi
            exact ⟨t1, q, rfl, SqT.of (S89 _ _ (S7 _ _ L6)), SqT.of (S89 _ _ (S7 _ _ (S6 _ _ L5)))⟩
          | 1, hi =>
            cases hi
            exact ⟨t2, b, rfl, SqT.of (S89 _ _ L7), ((b3.same S48).same S9).sq⟩
          | i + 2, hi => simp at hi
        · rcases List.mem_cons.mp hp with rfl | hp
          · rcases List.mem_cons.mp hv with rfl | hv
            · trivial
            · exact va.ok v hv
          · obtain rfl : p = (1, us) := by simpa using hp
            exact vb.ok v hv
        · rcases List.mem_cons.mp hp with rfl | hp
          · show (W.ap :: ws).length ≤ 4500
            omega
          · obtain rfl : p = (1, us) := by simpa using hp
            show us.length ≤ 4500
            omega
        · rw [List.length_append]
          have : (owned [(0, W.ap :: ws), (1, us)]).length = (takesOf (W.ap :: ws)).length + (takesOf us).length := by simp [owned]
          omega
        · rw [List.length_append]; omega
        · rw [told_ap] at T10
          have S310 := S48.trans (S9.trans S10)
          exact k1 ap H' z c (S13.trans S310) ((S13.trans (S48.trans S9)).free nz) P10 T10
      have T18 := T13.same S48
      have T28 := T23.same S48
      refine ⟨_, rfl, _, rfl, r1, r2, _, _, rfl, rfl, T18.sq, T28.sq, ?_, fun z => ?_, fun z1 z2 => ?_, fun z1 z2 h nh => ?_⟩
      · rw [List.length_map, List.length_map, sizeLine_eq]; omega
      · have e : openN ws = [] := by cases h : openN ws with
          | nil => rfl
          | cons a l => rw [h] at z; simp at z
        refine fin H8 r2 (Same.refl _) ?_
        rw [e]; exact T28.sq
      · have e : openN us = [] := by cases h : openN us with
          | nil => rfl
          | cons a l => rw [h] at z2; simp at z2
        refine fin H8 r1 (Same.refl _) ?_
        rw [e, List.append_nil]; exact T18.sq
      · refine fin _ h (same_upd nh) ?_
        rw [List.map_append]
        exact SqT.of upd_same
end
end Kk

set_option maxHeartbeats 2000000
namespace Kk
open PySem PySem.Spec PyProof.Rows L2 Wd
/-! ### tuples of plain things compared -/
def Plain (x : V) : Prop := (∃ i, x = .int i) ∨ ∃ z : Str, x = .str z ∧ PyData.strOk z = true
def dV : V → PyData
  | .int i => .int i
  | .str z => .str z
  | _ => .none
theorem dp_all {K : PySem.W.Frag} {H : Hp} : ∀ {xs : List V}, (∀ x ∈ xs, Plain x) → DpAll K H xs (xs.map dV)
  | [], _ => .nil
  | x :: xs, h => by
    refine .cons ?_ (dp_all fun y hy => h y (List.mem_cons_of_mem _ hy))
    rcases h x (List.mem_cons_self ..) with ⟨i, rfl⟩ | ⟨z, rfl, _⟩
    · exact .int i
    · exact .str z
theorem can_all : ∀ {xs : List V}, (∀ x ∈ xs, Plain x) → PyData.canLayAll0 (xs.map dV) = true
  | [], _ => rfl
  | x :: xs, h => by
    have ih := can_all fun y hy => h y (List.mem_cons_of_mem x hy)
    rw [List.map_cons, PyData.canLayAll0, ih, Bool.and_true]
    rcases h x (List.mem_cons_self ..) with ⟨i, rfl⟩ | ⟨z, rfl, hz⟩
    · rfl
    · exact hz
theorem depth_all : ∀ {xs : List V}, (∀ x ∈ xs, Plain x) → PyData.depthAll (xs.map dV) = 0
  | [], _ => rfl
  | x :: xs, h => by
    have ih := depth_all fun y hy => h y (List.mem_cons_of_mem x hy)
    rw [List.map_cons, PyData.depthAll, ih]
    rcases h x (List.mem_cons_self ..) with ⟨i, rfl⟩ | ⟨z, rfl, hz⟩
    · rfl
    · rfl
theorem shaped_all {xs : List V} (h : ∀ x ∈ xs, Plain x) : SeqAt.shaped (.tuple (xs.map dV)) = true := by
  unfold SeqAt.shaped
  rw [PyData.canLay0, can_all h, PyData.depth, depth_all h]
  rfl
section
variable {K : PySem.W.Frag} {H : Hp} {p q : Addr} {xs : List V} {Q : VK}
theorem eqD_same (hp : SqT K H p xs) (hq : SqT K H q xs) (ok : ∀ x ∈ xs, Plain x) (k : Q (.bl true) H) : rEqD K (.ref p) (.ref q) H Q := by
  refine ⟨_, _, .tup hp (dp_all ok), .tup hq (dp_all ok), shaped_all ok, shaped_all ok, ?_⟩
  rw [SeqAt.eqv_refl _ (by rw [PyData.canLay0]; exact can_all ok)]
  exact k
theorem neD_same (hp : SqT K H p xs) (hq : SqT K H q xs) (ok : ∀ x ∈ xs, Plain x) (k : Q (.bl false) H) : rNeD K (.ref p) (.ref q) H Q := by
  refine ⟨_, _, .tup hp (dp_all ok), .tup hq (dp_all ok), shaped_all ok, shaped_all ok, ?_⟩
  rw [SeqAt.eqv_refl _ (by rw [PyData.canLay0]; exact can_all ok)]
  exact k
end
theorem ok_str {n : Nm} (h : nmOk n) : PyData.strOk (str n) = true := by
  unfold PyData.strOk
  show (n.toArray).all _ = true
  rw [List.all_toArray, List.all_eq_true]
  intro c hc
  have := h.2.2 c hc
  exact decide_eq_true (by omega)
theorem ok_enc {v : W} (h : wOk v) : PyData.strOk (enc v) = true := by
  cases v with
  | ap => decide +kernel
  | nm n => exact ok_str h
  | tk n =>
    unfold PyData.strOk
    show ((47 :: n).toArray).all _ = true
    rw [List.all_toArray, List.all_eq_true]
    intro c hc
    rcases List.mem_cons.mp hc with rfl | hc
    · decide
    · have := h.2.2 c hc
      exact decide_eq_true (by omega)
theorem plain_ws {ws : List W} (ok : ∀ v ∈ ws, wOk v) : ∀ x ∈ ws.map wv, Plain x := fun x hx => by
  obtain ⟨v, hv, rfl⟩ := List.mem_map.mp hx
  exact .inr ⟨_, rfl, ok_enc (ok v hv)⟩
end Kk

set_option maxHeartbeats 2000000
namespace Kk
open PySem PySem.Spec PyProof.Rows L2 Wd
/-! ### tuples of words compared -/
theorem beq_enc {a b : W} (ha : wOk a) (hb : wOk b) : (enc a == enc b) = decide (a = b) := by
  by_cases h : a = b
  · subst h; simp
  · rw [decide_eq_false h]
    exact beq_eq_false_iff_ne.mpr fun e => h (enc_inj ha hb e)
theorem eqv_words : ∀ {ws us : List W}, (∀ v ∈ ws, wOk v) → (∀ v ∈ us, wOk v) → PyData.eqvAll ((ws.map wv).map dV) ((us.map wv).map dV) = decide (ws = us)
  | [], [], _, _ => rfl
  | [], _ :: _, _, _ => rfl
  | _ :: _, [], _, _ => rfl
  | a :: ws, b :: us, h1, h2 => by
    have ih := eqv_words (ws := ws) (us := us) (fun v hv => h1 v (List.mem_cons_of_mem _ hv)) (fun v hv => h2 v (List.mem_cons_of_mem _ hv))
    show (PyData.eqv (.str (enc a)) (.str (enc b)) && PyData.eqvAll ((ws.map wv).map dV) ((us.map wv).map dV)) = _
    rw [ih]
    show ((enc a == enc b) && _) = _
    rw [beq_enc (h1 a (List.mem_cons_self ..)) (h2 b (List.mem_cons_self ..))]
    by_cases e : a = b
    · subst e
      by_cases e2 : ws = us
      · subst e2; simp
      · simp [e2]
    · simp [e]
theorem eqv_tups {ws us : List W} (h1 : ∀ v ∈ ws, wOk v) (h2 : ∀ v ∈ us, wOk v) : PyData.eqv (.tuple ((ws.map wv).map dV)) (.tuple ((us.map wv).map dV)) = decide (ws = us) := by
  show PyData.eqvAll _ _ = _
  exact eqv_words h1 h2
section
variable {K : PySem.W.Frag} {H : Hp} {p q : Addr} {ws us : List W} {Q : VK}
theorem eqD_ws (hp : SqT K H p (ws.map wv)) (hq : SqT K H q (us.map wv)) (h1 : ∀ v ∈ ws, wOk v) (h2 : ∀ v ∈ us, wOk v) (k : Q (.bl (decide (ws = us))) H) : rEqD K (.ref p) (.ref q) H Q := by
  refine ⟨_, _, .tup hp (dp_all (plain_ws h1)), .tup hq (dp_all (plain_ws h2)), shaped_all (plain_ws h1), shaped_all (plain_ws h2), ?_⟩
  rw [eqv_tups h1 h2]
  exact k
theorem neD_ws (hp : SqT K H p (ws.map wv)) (hq : SqT K H q (us.map wv)) (h1 : ∀ v ∈ ws, wOk v) (h2 : ∀ v ∈ us, wOk v) (k : Q (.bl (!decide (ws = us))) H) : rNeD K (.ref p) (.ref q) H Q := by
  refine ⟨_, _, .tup hp (dp_all (plain_ws h1)), .tup hq (dp_all (plain_ws h2)), shaped_all (plain_ws h1), shaped_all (plain_ws h2), ?_⟩
  rw [eqv_tups h1 h2]
  exact k
end
/-! ### programs compared -/
/-- two Programs stand at x and y, their words well spelled -/
structure Two (K : PySem.W.Frag) (C : Addr) (H : Hp) (x y : Addr) (ws us : List W) : Prop where
  ex : ∃ a b, Pg C H x a ∧ Pg C H y b ∧ SqT K H a (ws.map wv) ∧ SqT K H b (us.map wv)
  o1 : ∀ v ∈ ws, wOk v
  o2 : ∀ v ∈ us, wOk v
def spEqP (K : PySem.W.Frag) (C : Addr) : Sp := fun vs H Q _ => ∃ (x y : Addr) (ws us : List W), vs = [.ref x, .ref y] ∧ Two K C H x y ws us ∧ Q (.bl (decide (ws = us))) H
def rEqP (K : PySem.W.Frag) (C : Addr) : R2 := fun x y H Q => ∃ (a b : Addr) (ws us : List W), x = .ref a ∧ y = .ref b ∧ Two K C H a b ws us ∧ Q (.bl (decide (ws = us))) H
theorem op_eqIns {X : Cx} {n : Nat} {CX : CXT} {C f : Addr} {fd : FuncData} {ps : List Str} {E : XK} {sp : Sp} (F : FnOk X.prog X.w X.K X.mg X.base CX n f fd ps sp) (hr : Room n X.A)
    (hs : PySem.W.findIn X.K (.ref C) "__eq__" = some (some (.ref f))) (hf : PySem.W.isFn X.K (.ref f) = true) (hb : Binds X.K fd ps []) (hx : Passes CX X E) :
    OpR X (compareOp .Eq) (fun x y H Q => ∃ a b dx dy fs gs, x = .ref a ∧ y = .ref b ∧ H a = some (.ins C dx fs) ∧ H b = some (.ins C dy gs) ∧ sp [.ref a, .ref b] H (fun v H' => (∃ c, v = .bl c) ∧ Q v H') E) := by
  intro pins s σ H x y v u Q I rx ry d
  obtain ⟨a, b, dx, dy, fs, gs, rfl, rfl, ha, hb', hsp⟩ := d
  cases rx
  cases ry
  obtain ⟨mA, J, _⟩ := ins_get I.hok ha
  obtain ⟨mB, J', _⟩ := ins_get I.hok hb'
  obtain ⟨od, J, _⟩ := J.look
  obtain ⟨od', J', _⟩ := J'.look
  obtain ⟨m, hF⟩ := I.fr
  show wpAny (model X.prog X.w) X.A (richCompare .Eq (.ref a) (.ref b)) (EP X pins σ Q) X.xe s
  refine PySem.W.cmp_K (op := .Eq) (tb := .ref C) hr.units0 hF I.ok.mod.kin J J'.type (by simp [PySem.W.notFirst]) hs hf ?_
  have e0 : Env0 X.prog X.w X.K X.mg X.base X.A X.stack s H := I.env0
  have hl := F.len _ _ _ _ hsp
  have r2 : Vals [V.ref a, V.ref b] [Value.ref a, Value.ref b] := .cons rfl (.cons rfl .nil)
  refine wpAny_call (codeAny_mono (F.run X.A X.stack s H ⟨[.ref a, .ref b], []⟩ [.ref a, .ref b] [.ref a, .ref b] _ E hr e0 (by
    have := hb s [.ref a, .ref b] I.kIn (by simpa using hl)
    simpa using this) r2 hsp) fun r s' hq => ?_)
  cases r with
  | error e => exact hx pins σ H s e s' I hq
  | ok fl =>
    cases fl with
    | ret w =>
      obtain ⟨z, H', I', rz, ⟨c, ez⟩, ex⟩ := I.after hq
      subst ez
      cases rz
      exact ⟨.bl c, H', I', rfl, ex⟩
    | next => exact False.elim hq
    | brk => exact False.elim hq
    | cont => exact False.elim hq
structure Eqr (P : Program) (w : World) (K : PySem.W.Frag) (mg : Str → Option Value) (base : Heap) (C : Addr) : Prop where
  ex : ∃ f fd, PySem.W.findIn K (.ref C) "__eq__" = some (some (.ref f)) ∧ PySem.W.isFn K (.ref f) = true ∧ Binds K fd ["self", "other"] [] ∧ FnOk P w K mg base CX0 1 f fd ["self", "other"] (spEqP K C)
theorem op_eqP {X : Cx} {C : Addr} (EQ : Eqr X.prog X.w X.K X.mg X.base C) (hr : Room 1 X.A) : OpR X (compareOp .Eq) (rEqP X.K C) := by
  obtain ⟨f, fd, h1, h2, h3, F⟩ := EQ
  intro pins s σ H x y v u Q I rx ry d
  obtain ⟨a, b, ws, us, rfl, rfl, T, q⟩ := d
  obtain ⟨⟨p, r, ⟨dx, e1⟩, ⟨dy, e2⟩, t1, t2⟩, o1, o2⟩ := id T
  exact op_eqIns F hr h1 h2 h3 pass0 pins s σ H _ _ v u Q I rx ry ⟨a, b, dx, dy, _, _, rfl, rfl, e1, e2, a, b, ws, us, rfl, T, ⟨_, rfl⟩, q⟩
section
variable {P : Program} {w : World} {K : PySem.W.Frag} {mg : Str → Option Value} {base : Heap}
abbrev s_eq : Stmt := (inClass (top 17) 1)
theorem sc_eq : FnScope ["self", "other"] ["self", "other"] (defScope s_eq) := ⟨rfl, rfl, rfl, by decide +kernel, rfl, by decide +kernel, by decide +kernel⟩
theorem kit_self {C : Addr} : PySem.W.kitOne K (.ref C) (.ref C) = some true := by
  unfold PySem.W.kitOne
  rw [if_pos (by simp)]
theorem c_eq {C f : Addr} {fd : FuncData} (B : Bt mg) (pc : PC K mg C) (F : Fun K "__eq__" "Program.__eq__" s_eq f fd) : FnOk P w K mg base CX0 1 f fd ["self", "other"] (spEqP K C) := by
  refine F.ok sc_eq (fun vs H Q E h => ?_) (fun cdv A outer st0 H vs Q E hr h => ?_)
  · obtain ⟨x, y, ws, us, rfl, _⟩ := h
    rfl
  · obtain ⟨x, y, ws, us, rfl, ⟨⟨a, b, ⟨dx, hx⟩, ⟨dy, hy⟩, t1, t2⟩, o1, o2⟩, k⟩ := h
    have m_Program := pc.mg
    refine ⟨_, (pss_one (ps_ret (pe_and (pe_callB call_isi (by rfl) B.b_isinstance (by decide +kernel) (pa_cons (pv 1) (pa_cons (pe_gr m_Program) pa_nil))) (pe_one (pe_cmpR (op_eqD hr.units) (pe_fld (pv 0) rfl) (pe_fld (pv 1) rfl) (nomark _)))))), ?_⟩
    refine ⟨_, rfl, _, _, _, _, true, rfl, .own C, .base (.ins hy pc.cl pc.ha pc.hn pc.ht pc.hm), kit_self, _, rfl, iteT ?_⟩
    refine ⟨_, rfl, x, C, dx, _, _, rfl, hx, pc.cl, pc.nw, pfs_get a, _, rfl, y, C, dy, _, _, rfl, hy, pc.cl, pc.nw, pfs_get b, ?_⟩
    exact eqD_ws t1 t2 o1 o2 k
end
end Kk

set_option maxHeartbeats 2000000
namespace Kk
open PySem PySem.Spec PyProof.Rows L2 Wd
/-- what a dict of new names holds -/
structure RD (ws : List W) (kvs : List (Key × V)) (g : Nm → Nm) : Prop where
  len : kvs.length = (nmsOf ws).length
  at_ : ∀ n ∈ nmsOf ws, valV kvs (Sum.inr (str n)) = some (sv (g n))
  no : ∀ n, n ∉ nmsOf ws → valV kvs (Sum.inr (str n)) = none
  ap : valV kvs (Sum.inr "@") = none
  vals : ∃ vs : List Nm, kvs.map (·.2) = vs.map sv ∧ vs.Nodup ∧ ∀ m ∈ vs, nmOk m
  ok : ∀ n ∈ nmsOf ws, nmOk (g n)
theorem RD.tbl {ws : List W} {kvs : List (Key × V)} {g : Nm → Nm} (r : RD ws kvs g) : Tbl kvs (fun n => if n ∈ nmsOf ws then some (g n) else none) := by
  refine ⟨fun n _ => ?_, r.ap, fun n m h => ?_⟩
  · by_cases h : n ∈ nmsOf ws
    · rw [r.at_ n h, if_pos h]; rfl
    · rw [r.no n h, if_neg h]; rfl
  · by_cases h2 : n ∈ nmsOf ws
    · simp only [if_pos h2] at h
      cases h
      exact r.ok n h2
    · simp only [if_neg h2] at h
      cases h
theorem RD.ren {ws : List W} (vd : Vd ws) {g : Nm → Nm} {v : W} (hv : v ∈ ws) : renW (re fun n => if n ∈ nmsOf ws then some (g n) else none) v = renW g v := by
  have key : ∀ n, n ∈ nmsOf ws → re (fun n => if n ∈ nmsOf ws then some (g n) else none) n = g n := fun n hn => by
    show ((if n ∈ nmsOf ws then some (g n) else none).getD n) = g n
    rw [if_pos hn]; rfl
  cases v with
  | ap => rfl
  | tk n => show W.tk _ = W.tk _; rw [key n (vd.tkIn (mem_tks.mpr hv))]
  | nm n => show W.nm _ = W.nm _; rw [key n (mem_nms.mpr hv)]
theorem nd_str {vs : List Nm} (h : vs.Nodup) : (vs.map str).Nodup := List.pairwise_map.mpr (h.imp fun hne e => hne (str_inj e))
section
variable {P : Program} {w : World} {K : PySem.W.Frag} {mg : Str → Option Value} {base : Heap}
def rStd (C : Addr) : List W → Hp → Hp → V → Prop := fun ws H H' v => ∃ x' a', v = .ref x' ∧ H x' = none ∧ Pg C H' x' a' ∧ TupF H' a' ((stdW ws).map wv)
abbrev s_standard : Stmt := (top 37)
theorem sc_standard : FnScope ["program"] ["program"] (defScope s_standard) := ⟨rfl, rfl, rfl, by decide +kernel, rfl, by decide +kernel, by decide +kernel⟩
theorem c_standard {C : Addr} (B : Bt mg) (pc : PC K mg C) (D : DefAt K mg "standard" s_standard) (Ctold_anew : Cal P w K mg base "told_anew" 8 ["pieces", "held"] (spTold K C)) (Copen_names : Cal P w K mg base "open_names" 3 ["program"] (spOfP K C rOpen)) :
    Cal P w K mg base "standard" 9 ["program"] (spOfP K C (rStd C)) := by
  refine cal_of D sc_standard (fun _ _ _ _ _ _ us hl => match us, hl with | [_], _ => rfl) (fun vs H Q E h => ?_) (fun fa cdv A outer st0 H vs Q E hr h => ?_)
  · obtain ⟨x, a, ws, rfl, _⟩ := h
    rfl
  · obtain ⟨x, a, ws, rfl, hx, ht, vd, hl, k⟩ := h
    refine ⟨_, (pss_one (ps_ret (pe_c Ctold_anew (hr.mono (by decide)) (pa_cons (pe_lst (pa_cons (pe_tup (pa_cons pe_int (pa_cons (pe_fld (pv 0) rfl) pa_nil))) pa_nil)) (pa_cons (pe_c Copen_names (hr.mono (by decide)) (pa_cons (pv 0) pa_nil)) pa_nil))))), ?_⟩
    obtain ⟨dx, hx0⟩ := hx
    refine ⟨_, rfl, x, C, dx, _, _, rfl, hx0, pc.cl, pc.nw, pfs_get a, (by show 2 ≤ sizeLine; decide), fun t nt => ?_⟩
    have S1 : Same H (upd H t (.tup [.int 0, .ref a])) := same_upd nt
    have T1 : upd H t (.tup [.int 0, .ref a]) t = some (.tup [.int 0, .ref a]) := upd_same
    generalize upd H t (.tup [.int 0, .ref a]) = H1 at *
    refine ⟨(by show 1 ≤ sizeLine; decide), fun l nl => ?_⟩
    have S2 : Same H1 (upd H1 l (.lst [.ref t])) := same_upd nl
    have L2 : upd H1 l (.lst [.ref t]) l = some (.lst [.ref t]) := upd_same
    generalize upd H1 l (.lst [.ref t]) = H2 at *
    have S12 := S1.trans S2
    have hx2 : Pg C H x a := ⟨dx, hx0⟩
    refine ⟨_, rfl, x, a, ws, rfl, hx2.same S12, ht.same S12, vd, Nat.le_trans hl (by decide), fun H3 v3 S3 ⟨r, e3, n3, T3⟩ => ?_⟩
    subst e3
    rw [openV_eq] at T3
    have S13 := S12.trans S3
    have lt := takesOf_len ws
    have lo := open_len ws
    refine ⟨l, r, [(0, ws)], openN ws, rfl, ⟨[t], SqL.of (S3 _ _ L2), rfl, fun i o us hi => ?_⟩, T3.sq, fun p hp v hv => ?_, fun p hp => ?_, by simp, ?_, by omega, fun H4 x4 a4 S4 n4 P4 T4 => ?_⟩
    · cases i with
      | zero =>
        cases hi
        exact ⟨t, a, rfl, SqT.of (S3 _ _ (S2 _ _ T1)), (ht.same S13).sq⟩
      | succ i => simp at hi
    · obtain rfl : p = (0, ws) := by simpa using hp
      exact vd.ok v hv
    · obtain rfl : p = (0, ws) := by simpa using hp
      show ws.length ≤ 4500
      omega
    · rw [owned_one, List.length_map]; omega
    · exact k H4 _ (S13.trans S4) ⟨x4, a4, rfl, S13.free n4, P4, T4⟩
def spSame (K : PySem.W.Frag) (C : Addr) : Sp := fun vs H Q _ => ∃ (x y a b : Addr) (ws us : List W), vs = [.ref x, .ref y] ∧ Pg C H x a ∧ TupF H a (ws.map wv) ∧ Vd ws ∧ ws.length ≤ 1000 ∧ Pg C H y b ∧ TupF H b (us.map wv) ∧ Vd us ∧ us.length ≤ 1000 ∧
  ∀ H', Same H H' → Q (.bl (decide (stdW ws = stdW us))) H'
abbrev s_same : Stmt := (top 40)
theorem sc_same : FnScope ["program", "other"] ["program", "other"] (defScope s_same) := ⟨rfl, rfl, rfl, by decide +kernel, rfl, by decide +kernel, by decide +kernel⟩
theorem c_same {C : Addr} (B : Bt mg) (EQ : Eqr P w K mg base C) (D : DefAt K mg "same" s_same) (Cstandard : Cal P w K mg base "standard" 9 ["program"] (spOfP K C (rStd C))) : Cal P w K mg base "same" 10 ["program", "other"] (spSame K C) := by
  refine cal_of D sc_same (fun _ _ _ _ _ _ us hl => match us, hl with | [_, _], _ => rfl) (fun vs H Q E h => ?_) (fun fa cdv A outer st0 H vs Q E hr h => ?_)
  · obtain ⟨x, y, a, b, ws, us, rfl, _⟩ := h
    rfl
  · obtain ⟨x, y, a, b, ws, us, rfl, hx, ht, vd, hl, hy, hu, vu, hlu, k⟩ := h
    refine ⟨_, (pss_one (ps_ret (pe_cmpR (op_eqP EQ (hr.mono (by decide))) (pe_c Cstandard (hr.mono (by decide)) (pa_cons (pv 0) pa_nil)) (pe_c Cstandard (hr.mono (by decide)) (pa_cons (pv 1) pa_nil)) (nomark _)))), ?_⟩
    refine ⟨_, rfl, x, a, ws, rfl, hx, ht, vd, Nat.le_trans hl (by decide), fun H1 v1 S1 ⟨x1, a1, e1, n1, P1, T1⟩ => ?_⟩
    subst e1
    refine ⟨_, rfl, y, b, us, rfl, hy.same S1, hu.same S1, vu, Nat.le_trans hlu (by decide), fun H2 v2 S2 ⟨x2, a2, e2, n2, P2, T2⟩ => ?_⟩
    subst e2
    exact ⟨x1, x2, stdW ws, stdW us, rfl, rfl, ⟨⟨a1, a2, P1.same S2, P2, (T1.same S2).sq, T2.sq⟩, stdW_ok vd (by omega), stdW_ok vu (by omega)⟩, k H2 (S1.trans S2)⟩
def spIsRen (K : PySem.W.Frag) (C : Addr) : Sp := fun vs H Q _ => ∃ (x a d : Addr) (ws : List W) (kvs : List (Key × V)) (g : Nm → Nm), vs = [.ref x, .ref d] ∧ Pg C H x a ∧ TupF H a (ws.map wv) ∧ Vd ws ∧ ws.length ≤ 1000 ∧ H d = some (.dK kvs) ∧ RD ws kvs g ∧ ∀ H', Same H H' → Q (.bl true) H'
theorem kitDD : kitB "dict" "dict" = some true := by decide +kernel
def spRenamed (K : PySem.W.Frag) (C : Addr) : Sp := fun vs H Q _ => ∃ (x a d : Addr) (ws : List W) (kvs : List (Key × V)) (g : Nm → Nm), vs = [.ref x, .ref d] ∧ Pg C H x a ∧ TupF H a (ws.map wv) ∧ Vd ws ∧ ws.length ≤ 1000 ∧ H d = some (.dK kvs) ∧ RD ws kvs g ∧
  ∀ H' x' a', Same H H' → H x' = none → Pg C H' x' a' → TupF H' a' ((ws.map (renW g)).map wv) → Q (.ref x') H'
end
end Kk

set_option maxHeartbeats 2000000
namespace Kk
open PySem PySem.Spec PyProof.Rows L2 Wd
section
variable {P : Program} {w : World} {K : PySem.W.Frag} {mg : Str → Option Value} {base : Heap}
def rPart (C : Addr) : List W → Nat → Addr → Hp → Hp → V → Prop := fun ws i a H H' v => ∃ x' a' E, v = .ref x' ∧ H x' = none ∧ IsEnds ws E ∧ Pg C H' x' a' ∧ TupF H' a' (((ws.drop i).take (E i - i)).map wv)
theorem cut_part {xs : List V} {i j : Nat} (hi : i ≤ xs.length) (hj : j ≤ xs.length) : cutV xs (some (i : Int)) (some (j : Int)) = (xs.drop i).take (j - i) := by
  unfold cutV
  rw [HT.sIx_nat, HT.sIx_nat, Nat.min_eq_left hi, Nat.min_eq_left hj]
abbrev s_part : Stmt := (top 34)
theorem sc_part : FnScope ["program", "place"] ["program", "place"] (defScope s_part) := ⟨rfl, rfl, rfl, by decide +kernel, rfl, by decide +kernel, by decide +kernel⟩
theorem c_part {C : Addr} (B : Bt mg) (pc : PC K mg C) (D : DefAt K mg "part" s_part) (Ccheck_place : Cal P w K mg base "check_place" 2 ["program", "place"] (spAtP K C rNone)) (Cends_of : Cal P w K mg base "ends_of" 2 ["words"] (spEndsOf K))
    (Cbuilt : Cal P w K mg base "built" 7 ["words"] (spBuilt K C)) : Cal P w K mg base "part" 8 ["program", "place"] (spAtP K C (rPart C)) := by
  refine cal_of D sc_part (fun _ _ _ _ _ _ us hl => match us, hl with | [_, _], _ => rfl) (fun vs H Q E h => ?_) (fun fa cdv A outer st0 H vs Q E hr h => ?_)
  · obtain ⟨x, a, ws, i, rfl, _⟩ := h
    rfl
  · obtain ⟨x, a, ws, i, rfl, hx, ht, vd, hl, hi, k⟩ := h
    obtain ⟨EE, he⟩ := vd.ends
    refine ⟨_, (pss_cons (ps_expr (pe_c Ccheck_place (hr.mono (by decide)) (pa_cons (pv 0) (pa_cons (pv 1) pa_nil))))
      (pss_one (ps_ret (pe_c Cbuilt (hr.mono (by decide)) (pa_cons (pe_slice sl_tupF (pe_fld (pv 0) rfl) (po_some (pv 1)) (po_some (pe_ix ix_tup (pe_c Cends_of (hr.mono (by decide)) (pa_cons (pe_fld (pv 0) rfl) pa_nil)) (pv 1) (fun _ _ => rfl)))) pa_nil))))), ?_⟩
    refine ⟨_, rfl, _, rfl, x, a, ws, i, rfl, hx, ht, vd, Nat.le_trans hl (by decide), hi, fun H1 v1 S1 e1 => ?_⟩
    clear e1
    obtain ⟨dx, hx1⟩ := hx.same S1
    refine ⟨_, rfl, x, C, dx, _, _, rfl, hx1, pc.cl, pc.nw, pfs_get a, _, rfl, _, rfl, _, rfl, x, C, dx, _, _, rfl, hx1, pc.cl, pc.nw, pfs_get a, a, ws, EE, rfl, SqT.same ht.sq S1, vd, he, Nat.le_trans hl (by decide), fun H2 q S2 n2 T2 => ?_⟩
    have hE := he.lt i hi
    have hlm : (ws.map wv).length = ws.length := List.length_map ..
    have ht2 := (ht.same S1).same S2
    refine ⟨_, rfl, q, _, _, _, rfl, rfl, T2.sq, atI_nat (endsV_get hi), _, rfl, a, _, rfl, ht2.sq, fun hw => ?_, fun hw p o np ho => ?_⟩
    · have e1 : min i (ws.map wv).length = 0 := by have := hw.1; rwa [HT.sIx_nat] at this
      have e2 : min (EE i) (ws.map wv).length = (ws.map wv).length := by have := hw.2; rwa [HT.sIx_nat] at this
      have ei : i = 0 := by omega
      have eE : EE i = ws.length := by omega
      refine ⟨a, ws, rfl, ht2, fun H3 x3 S3 n3 P3 => ?_⟩
      refine k H3 _ ((S1.trans S2).trans S3) ⟨x3, a, EE, rfl, (S1.trans S2).free n3, he, P3, ?_⟩
      rw [eE, ei, List.drop_zero, Nat.sub_zero, List.take_length]
      exact ht2.same S3
    · rw [cut_part (by omega) (by omega), ← List.map_drop, ← List.map_take]
      refine ⟨p, (ws.drop i).take (EE i - i), rfl, TupF.new ho, fun H3 x3 S3 n3 P3 => ?_⟩
      have S2' := S2.trans (same_upd (o := .frz o (.tup (((ws.drop i).take (EE i - i)).map wv))) np)
      exact k H3 _ ((S1.trans S2').trans S3) ⟨x3, p, EE, rfl, (S1.trans S2').free n3, he, P3, (TupF.new ho).same S3⟩
def rTakenAt : List W → Nat → Addr → Hp → Hp → V → Prop := fun ws i _ _ _ v => (∀ n j, ws[i]? = some (.nm n) → ws[j]? = some (.tk n) → v = .int (j : Nat)) ∧ ((∀ n, ws[i]? = some (.nm n) → W.tk n ∉ ws) → v = .non)
theorem in_wv (z : Str) (ws : List W) : inV (.str z) (ws.map wv) = decide (z ∈ ws.map enc) := by
  unfold inV
  induction ws with
  | nil => simp
  | cons a us ih =>
    rw [List.map_cons, List.any_cons, ih]
    show (decide (enc a = z) || _) = _
    by_cases e : z = enc a
    · subst e; simp
    · have : ¬ enc a = z := fun q => e q.symm
      simp [this, e]
theorem flat_wv (us : List W) : (us.map wv).all flatV = true := by
  rw [List.all_eq_true]
  intro x hx
  obtain ⟨n, _, rfl⟩ := List.mem_map.mp hx
  rfl
theorem tl_take (v : W) : TL.tl (("/" : Str) ++ enc v) = 47 :: code v := by
  rw [TL.tl_append, slash]
  rfl
theorem take_nm (n : Nm) : (("/" : Str) ++ enc (.nm n)) = enc (.tk n) := TL.ext_tl (by rw [tl_take]; rfl)
theorem no_take {ws : List W} (ok : ∀ u ∈ ws, wOk u) {v : W} (h : ∀ n, v ≠ .nm n) : (("/" : Str) ++ enc v) ∉ ws.map enc := fun hm => by
  obtain ⟨u, hu, e⟩ := List.mem_map.mp hm
  have e2 := congrArg TL.tl e
  rw [tl_take, tl_enc] at e2
  have hk := ok u hu
  cases u with
  | ap => simp [Wd.code] at e2
  | tk n =>
    simp [Wd.code] at e2
    cases v with
    | ap => subst e2; have := hk.2.2 64 (by simp [Wd.code]); omega
    | tk m => subst e2; have := hk.2.2 47 (by simp [Wd.code]); omega
    | nm m => exact h m rfl
  | nm n =>
    simp [Wd.code] at e2
    subst e2
    have := hk.2.2 47 (by simp); omega
end
end Kk

set_option maxHeartbeats 2000000
namespace Kk
open PySem PySem.Spec PyProof.Rows L2 Wd
section
variable {P : Program} {w : World} {K : PySem.W.Frag} {mg : Str → Option Value} {base : Heap}
def iv (n : Nat) : V := .int (n : Int)
def stk (L : List Nat) : List V := L.reverse.map iv
def endAt (L : List Nat) (z t : Nat) : Nat := if t = 0 then z else L.getD (t - 1) 0
theorem stk_cons (z : Nat) (L : List Nat) : stk (z :: L) = stk L ++ [iv z] := by simp [stk]
theorem stk_last (z : Nat) (L : List Nat) : (stk (z :: L))[(stk (z :: L)).length - 1]? = some (iv z) := by rw [stk_cons]; simp
theorem stk_pop (z : Nat) (L : List Nat) : (stk (z :: L)).dropLast = stk L := by rw [stk_cons]; simp
theorem drop_at {L : List Nat} {i : Nat} (h : i < L.length) : ∃ z, L.drop i = z :: L.drop (i + 1) ∧ endAt L 0 (i + 1) = z ∧ ∀ y, endAt L y (i + 1) = z := by
  refine ⟨L[i], List.drop_eq_getElem_cons h, ?_, fun y => ?_⟩
  · unfold endAt; rw [if_neg (by omega)]; simp [h]
  · unfold endAt; rw [if_neg (by omega)]; simp [h]
theorem chain_len (E : Nat → Nat) (n : Nat) : ∀ k i, (chain E n k i).length ≤ k
  | 0, _ => Nat.le_refl _
  | k + 1, i => by
    unfold chain
    by_cases h : i < n
    · rw [if_pos h, List.length_cons]; have := chain_len E n k (E i); omega
    · rw [if_neg h]; exact Nat.zero_le _
abbrev s_ends2 : Stmt := (top 49)
theorem sc_ends2 : FnScope ["_law_words", "_law_found", "_law_whole", "_law_place", "_law_end", "_law_turn"] ["_law_words"] (defScope s_ends2) := ⟨rfl, rfl, rfl, by decide +kernel, rfl, by decide +kernel, by decide +kernel⟩
def spEndsR (K : PySem.W.Frag) : Sp := fun vs H Q _ => ∃ (a : Addr) (ws : List W) (E : Nat → Nat), vs = [.ref a] ∧ SqT K H a (ws.map wv) ∧ (∀ v ∈ ws, wOk v) ∧ IsEnds ws E ∧ ws.length ≤ 4000 ∧
  ∀ H' q, Same H H' → H q = none → TupF H' q (endsV ws.length E) → Q (.ref q) H'
theorem c_ends2 (B : Bt mg) (D : DefAt K mg "_law_ends" s_ends2) : Cal P w K mg base "_law_ends" 1 ["_law_words"] (spEndsR K) := by
  refine cal_of D sc_ends2 (fun _ _ _ _ _ _ us hl => match us, hl with | [_], _ => rfl) (fun vs H Q E h => ?_) (fun fa cdv A outer st0 H vs Q E hr h => ?_)
  · obtain ⟨a, ws, E, rfl, _⟩ := h
    rfl
  · obtain ⟨a, ws, E, rfl, hq, vd, he, hl, k⟩ := h
    refine ⟨_, (pss_cons (ps_set (i := 1) sc_ends2.nd rfl (by first | exact Or.inl rfl | exact Or.inr rfl) (pe_op op_rep (pe_lst (pa_cons pe_int pa_nil)) (pe_callB call_len_seq (by rfl) B.b_len (by decide +kernel) (pa_cons (pv 0) pa_nil))))
      (pss_cons (ps_set (i := 2) sc_ends2.nd rfl (by first | exact Or.inl rfl | exact Or.inr rfl) (pe_lst pa_nil))
      (pss_cons (ps_for PassesOwn.never rfl (pi_range3 (by rfl) B.b_range (pa_cons (pe_op op_sub (pe_callB call_len_seq (by rfl) B.b_len (by decide +kernel) (pa_cons (pv 0) pa_nil)) pe_int) (pa_cons (pe_un un_neg pe_int) (pa_cons (pe_un un_neg pe_int) pa_nil)))) (pg_name (i := 3) sc_ends2.nd rfl (by first | exact Or.inl rfl | exact Or.inr rfl)) (pss_cons (ps_set (i := 4) sc_ends2.nd rfl (by first | exact Or.inl rfl | exact Or.inr rfl) (pe_op op_add (pv 3) pe_int))
      (pss_cons (ps_for PassesOwn.never rfl (pi_range1 (by rfl) B.b_range (pa_cons (pe_ifExp (pt_cmpR op_eq (pe_ix ix_tup (pv 0) (pv 3) (fun _ _ => rfl)) pe_str (nomark _)) pe_int (pe_callTy call_int1 (by rfl) B.b_int (by decide +kernel) (pa_cons (pe_cmpR op_eq (pe_slice sl_str (pe_ix ix_tup (pv 0) (pv 3) (fun _ _ => rfl)) po_none (po_some pe_int)) pe_str (nomark _)) pa_nil))) pa_nil)) (pg_name (i := 5) sc_ends2.nd rfl (by first | exact Or.inl rfl | exact Or.inr rfl)) (pss_one (ps_set (i := 4) sc_ends2.nd rfl (by first | exact Or.inl rfl | exact Or.inr rfl) (pe_bm0 PySem.F.plainAttrs_list PySem.F.slot_list_pop PySem.F.type_list_pop mt_pop (pv 2)))))
      (pss_cons (ps_asg (pv 4) (pg_sub (pv 1) (pv 3) set_list))
      (pss_one (ps_expr (pe_bm PySem.F.plainAttrs_list PySem.F.slot_list_append PySem.F.type_list_append mt_append (pv 2) (pa_cons (pv 4) pa_nil))))))))
      (pss_one (ps_ret (pe_callTy call_tupleF (by rfl) B.b_tuple (by decide +kernel) (pa_cons (pv 1) pa_nil))))))), ?_⟩
    have hlm : (ws.map wv).length = ws.length := List.length_map ..
    -- found = [0] * len(words)
    refine ⟨(by show 1 ≤ sizeLine; decide), fun z nz => ?_⟩
    have Sz : Same H (upd H z (.lst [.int 0])) := same_upd nz
    have Lz : upd H z (.lst [.int 0]) z = some (.lst [.int 0]) := upd_same
    generalize upd H z (.lst [.int 0]) = H1 at *
    refine ⟨_, rfl, _, _, rfl, .inr (SqT.same hq Sz), z, _, _, rfl, rfl, Lz, by omega, by omega, ?_, fun b nb => ?_⟩
    · rw [hlm, sizeLine_eq]; show 1 * _ ≤ _; omega
    have eb : (List.replicate (((ws.map wv).length : Nat) : Int).toNat [V.int 0]).flatten = List.replicate ws.length (V.int 0) := by
      rw [hlm]
      show (List.replicate ws.length [V.int 0]).flatten = _
      induction ws.length with
      | zero => rfl
      | succ n ih => rw [List.replicate_succ, List.flatten_cons, ih, List.replicate_succ]; rfl
    rw [eb]
    have Sb : Same H (upd H1 b (.lst (List.replicate ws.length (V.int 0)))) := Sz.trans (same_upd nb)
    have Lb : upd H1 b (.lst (List.replicate ws.length (V.int 0))) b = some (.lst (List.replicate ws.length (V.int 0))) := upd_same
    have fb : H b = none := Sz.free nb
    generalize upd H1 b (.lst (List.replicate ws.length (V.int 0))) = H2 at *
    refine ⟨Nat.zero_le _, fun c nc => ?_⟩
    have Sc : Same H (upd H2 c (.lst [])) := Sb.trans (same_upd nc)
    have Lc : upd H2 c (.lst []) c = some (.lst []) := upd_same
    have nbc : b ≠ c := ne_of_none Lb nc
    have Lb2 : upd H2 c (.lst []) b = some (.lst (List.replicate ws.length (V.int 0))) := by rw [upd_ne nbc]; exact Lb
    have fc : H c = none := Sb.free nc
    generalize upd H2 c (.lst []) = H3 at *
    have en : ((((ws.map wv).length : Nat) : Int) - 1 - -1).toNat = ws.length := by rw [hlm]; omega
    have big : (4000 : Int) < 2 ^ 62 := by decide
    refine ⟨_, rfl, _, _, rfl, .inr (SqT.same hq Sc), _, _, rfl, rfl, _, rfl, _, rfl, _, _, _, _, rfl, RgC.neg (i := (((ws.map wv).length : Nat) : Int) - 1) (j := -1) (by omega) (by omega) (by omega) (by omega),
      for_rangeC (lo := (((ws.map wv).length : Nat) : Int) - 1) (c := -1) (n := ((((ws.map wv).length : Nat) : Int) - 1 - -1).toNat)
      (fun i σ H' => ∃ (v1 v2 v3 : Option V) (L : List V), σ = [some (.ref a), some (.ref b), some (.ref c), v1, v2, v3] ∧ Same H H' ∧ H' b = some (.lst L) ∧ L.length = ws.length ∧ (∀ j, ws.length ≤ j + i → j < ws.length → L[j]? = some (.int (E j : Nat))) ∧ H' c = some (.lst (stk (ch E ws.length (ws.length - i)))))
      ⟨none, none, none, _, rfl, Sc, Lb2, List.length_replicate .., fun j h1 h2 => absurd h2 (by omega), by rw [Nat.sub_zero, ch_end]; exact Lc⟩ ?_ ?_⟩
    · rintro i σ H' hi ⟨v1, v2, v3, L, rfl, S3, L3, hL, hE, C3⟩
      rw [en] at hi
      obtain ⟨m, hm⟩ : ∃ m : Nat, m + i + 1 = ws.length := ⟨ws.length - 1 - i, by omega⟩
      have eat : ((((ws.map wv).length : Nat) : Int) - 1) + (i : Nat) * (-1) = (m : Int) := by rw [hlm]; omega
      rw [eat]
      have eni : ws.length - i = m + 1 := by omega
      rw [eni] at C3
      have hml : m < ws.length := by omega
      obtain ⟨w', hw⟩ : ∃ w', ws[m]? = some w' := ⟨ws[m], List.getElem?_eq_getElem hml⟩
      have hk := vd _ (List.mem_of_getElem? hw)
      have hwv : (ws.map wv)[m]? = some (wv w') := by rw [List.getElem?_map, hw]; rfl
      have q3 := SqT.same hq S3
      refine ⟨_, rfl, _, _, rfl, rfl, ?_⟩
      refine ⟨_, rfl, _, rfl, a, _, _, _, rfl, rfl, q3, atI_nat hwv, rfl, _, rfl, ?_⟩
      rw [is_ap hk]
      have chl : ∀ j, (ch E ws.length j).length ≤ ws.length := fun j => chain_len E ws.length ws.length j
      cases w'
      case' ap =>
        obtain ⟨c1, c2⟩ := ch_ap he hw
        have f1 : (2 : Int).toNat ≤ (ch E ws.length (m + 1)).length := by rw [c1]; simp
        have f2 : (ch E ws.length (m + 1)).drop (2 : Int).toNat = ch E ws.length (E m) := by rw [c1]; rfl
        have f3 : endAt (ch E ws.length (m + 1)) (m + 1) (2 : Int).toNat = E m := by rw [c1]; rfl
        refine iteT ?_
      case' tk n =>
        obtain ⟨c1, c2⟩ := ch_tk he hw
        have f1 : (if true = true then (1 : Int) else 0).toNat ≤ (ch E ws.length (m + 1)).length := by rw [c1]; simp
        have f2 : (ch E ws.length (m + 1)).drop (if true = true then (1 : Int) else 0).toNat = ch E ws.length (E m) := by rw [c1]; rfl
        have f3 : endAt (ch E ws.length (m + 1)) (m + 1) (if true = true then (1 : Int) else 0).toNat = E m := by rw [c1]; rfl
        refine iteF ⟨_, rfl, _, rfl, a, _, _, _, rfl, rfl, q3, atI_nat hwv, _, rfl, _, rfl, Nat.le_of_lt (small_lt (m := 9) (len_enc hk) (by decide)), rfl, ?_⟩
        rw [head_tk hk, show isTk (W.tk n) = true from rfl]
        refine .inr ⟨_, rfl, ?_⟩
      case' nm n =>
        have c1 := ch_nm he hw
        have a1 := he.nm m n hw
        have f1 : (if false = true then (1 : Int) else 0).toNat ≤ (ch E ws.length (m + 1)).length := Nat.zero_le _
        have f2 : (ch E ws.length (m + 1)).drop (if false = true then (1 : Int) else 0).toNat = ch E ws.length (E m) := by rw [a1]; rfl
        have f3 : endAt (ch E ws.length (m + 1)) (m + 1) (if false = true then (1 : Int) else 0).toNat = E m := a1.symm
        refine iteF ⟨_, rfl, _, rfl, a, _, _, _, rfl, rfl, q3, atI_nat hwv, _, rfl, _, rfl, Nat.le_of_lt (small_lt (m := 9) (len_enc hk) (by decide)), rfl, ?_⟩
        rw [head_tk hk, show isTk (W.nm n) = false from rfl]
        refine .inr ⟨_, rfl, ?_⟩
      all_goals
        refine ⟨_, rfl, by decide, by decide, for_range (lo := 0) (fun t σ H2 => ∃ (v : Option V), σ = [some (.ref a), some (.ref b), some (.ref c), some (.int (m : Int)), some (iv (endAt (ch E ws.length (m + 1)) (m + 1) t)), v] ∧ Same H H2 ∧ H2 b = some (.lst L) ∧ H2 c = some (.lst (stk ((ch E ws.length (m + 1)).drop t))))
          ⟨_, rfl, S3, L3, C3⟩ ?_ ?_⟩
        · rintro t σ H2 ht ⟨v, rfl, S4, L4, C4⟩
          have ht' : t < (ch E ws.length (m + 1)).length := Nat.lt_of_lt_of_le ht f1
          obtain ⟨z, d1, d2, d3⟩ := drop_at ht'
          rw [d1] at C4
          refine ⟨_, rfl, .inl ⟨rfl, _, SqL.of C4⟩, c, _, iv z, rfl, rfl, C4, stk_last _ _, ?_⟩
          rw [stk_pop]
          exact ⟨_, by rw [d3]; rfl, fun x o hx => by rw [upd_ne (ne_of_none hx fc)]; exact S4 _ _ hx, by rw [upd_ne nbc]; exact L4, upd_same⟩
        · rintro σ H2 ⟨v, rfl, S4, L4, C4⟩
          have C5 : H2 c = some (.lst (stk (ch E ws.length (E m)))) := by rw [← f2]; exact C4
          have ixm : ixN L.length (m : Int) = some m := ixN_lt (by omega)
          rw [f3]
          refine ⟨_, rfl, _, rfl, _, rfl, b, _, _, m, rfl, rfl, L4, ixm, ?_⟩
          have C6 : upd H2 b (.lst (L.set m (iv (E m)))) c = some (.lst (stk (ch E ws.length (E m)))) := by rw [upd_ne nbc.symm]; exact C5
          refine ⟨_, rfl, .inl ⟨rfl, _, SqL.of C6⟩, _, rfl, c, _, _, rfl, rfl, C6, ?_, ?_⟩
          · have := chl (E m)
            unfold stk
            rw [List.length_map, List.length_reverse]
            exact small_lt (m := 4000) (by omega) (by decide)
          · refine ⟨_, _, _, L.set m (iv (E m)), rfl, fun x o hx => ?_, ?_, ?_, fun j h1 h2 => ?_, ?_⟩
            · rw [upd_ne (ne_of_none hx fc), upd_ne (ne_of_none hx fb)]
              exact S4 _ _ hx
            · rw [upd_ne nbc, upd_same]
            · rw [List.length_set]; exact hL
            · by_cases hj : j = m
              · subst hj
                rw [List.getElem?_set_self (by omega)]
                rfl
              · rw [List.getElem?_set_ne (Ne.symm hj)]
                exact hE j (by omega) h2
            · rw [upd_same, show ws.length - (i + 1) = m by omega, ch_step he hml, stk_cons]
    · rintro σ H' ⟨v1, v2, v3, L, rfl, S3, L3, hL, hE, C3⟩
      rw [en] at hE
      have eL : L = endsV ws.length E := by
        apply List.ext_getElem?
        intro j
        by_cases hj : j < ws.length
        · rw [hE j (by omega) hj, endsV_get hj]
        · rw [List.getElem?_eq_none (by omega), List.getElem?_eq_none (by rw [endsV_len]; omega)]
      refine ⟨_, rfl, _, _, rfl, SqL.of L3, fun q o nq ho => ?_⟩
      rw [eL]
      exact k _ q (S3.trans (same_upd nq)) (S3.free nq) (TupF.new ho)
theorem c_ends2__V (C_law_ends : Cal P w K mg base "_law_ends" 1 ["_law_words"] (spEndsR K)) : Cal P w K mg base "_law_ends" 1 ["_law_words"] (spEndsOf K) := by
  exact C_law_ends.imp fun vs H Q E ⟨a, ws, EE, e, hq, vd, he, hl, k⟩ => ⟨a, ws, EE, e, hq, vd.ok, he, hl, k⟩
end
end Kk

set_option maxHeartbeats 2000000
namespace Kk
open PySem PySem.Spec PyProof.Rows L2 Wd
section
variable {P : Program} {w : World} {K : PySem.W.Frag} {mg : Str → Option Value} {base : Heap}
/-- where takes stand, among the first i words -/
structure Tks (ws : List W) (i : Nat) (f : Nm → Nat → V → Prop) (kvs : List (Key × V)) : Prop where
  len : kvs.length ≤ i
  yes : ∀ n j, j < i → ws[j]? = some (.tk n) → ∃ v, valV kvs (Sum.inr (str n)) = some v ∧ f n j v
  no : ∀ n, (∀ j, j < i → ws[j]? ≠ some (.tk n)) → valV kvs (Sum.inr (str n)) = none
theorem Tks.skip {ws : List W} {i : Nat} {f : Nm → Nat → V → Prop} {kvs : List (Key × V)} {v : W} (t : Tks ws i f kvs) (hw : ws[i]? = some v) (h : ∀ n, v ≠ .tk n) : Tks ws (i + 1) f kvs := by
  refine ⟨Nat.le_succ_of_le t.len, fun n j hj hn => t.yes n j ?_ hn, fun n hn => t.no n fun j hj => hn j (by omega)⟩
  have : j ≠ i := by
    rintro rfl
    rw [hw] at hn
    cases hn
    exact h n rfl
  omega
theorem Tks.put {ws : List W} (vd : Vd ws) {i : Nat} {f : Nm → Nat → V → Prop} {kvs : List (Key × V)} {m : Nm} {y : V} (t : Tks ws i f kvs) (hw : ws[i]? = some (.tk m)) (hf : f m i y) : Tks ws (i + 1) f (putK kvs (Sum.inr (str m)) y) := by
  refine ⟨by have := length_putK kvs (Sum.inr (str m)) y; have := t.len; omega, fun n j hj hn => ?_, fun n hn => ?_⟩
  · rw [valV_put]
    by_cases e : (Sum.inr (str n) : Key) = Sum.inr (str m)
    · have e2 := str_inj (Sum.inr.inj e)
      subst e2
      have := vd.once (by simp) hn hw
      subst this
      rw [if_pos rfl]
      exact ⟨y, rfl, hf⟩
    · rw [if_neg e]
      refine t.yes n j ?_ hn
      have : j ≠ i := by
        rintro rfl
        rw [hw] at hn
        cases hn
        exact e rfl
      omega
  · rw [valV_put]
    by_cases e : (Sum.inr (str n) : Key) = Sum.inr (str m)
    · have e2 := str_inj (Sum.inr.inj e)
      subst e2
      exact absurd hw (hn i (by omega))
    · rw [if_neg e]
      exact t.no n fun j hj => hn j (by omega)
theorem Tks.all {ws : List W} {f : Nm → Nat → V → Prop} {kvs : List (Key × V)} (t : Tks ws ws.length f kvs) (n : Nm) : (valV kvs (Sum.inr (str n))).isSome = decide (n ∈ takesOf ws) := by
  by_cases h : n ∈ takesOf ws
  · rw [decide_eq_true h]
    rw [takesOf_eq] at h
    obtain ⟨u, hu, e⟩ := List.mem_filterMap.mp h
    cases u with
    | ap => cases e
    | nm m => cases e
    | tk m =>
      cases e
      obtain ⟨j, hj⟩ := List.mem_iff_getElem?.mp hu
      obtain ⟨v, hv, _⟩ := t.yes n j (Wd.T.lt_of_get hj) hj
      rw [hv]
      rfl
  · rw [decide_eq_false h, t.no n fun j hj e => h ?_]
    · rfl
    · rw [takesOf_eq]
      exact List.mem_filterMap.mpr ⟨_, List.mem_of_getElem? e, rfl⟩
def spOpen2 (K : PySem.W.Frag) : Sp := fun vs H Q _ => ∃ (a : Addr) (ws : List W), vs = [.ref a] ∧ SqT K H a (ws.map wv) ∧ Vd ws ∧ ws.length ≤ 4000 ∧ ∀ H' q, Same H H' → H q = none → H' q = some (.lst (openV ws)) → Q (.ref q) H'
def open2R (ws : List W) (v : W) : Option V := match v with
  | .nm n => openR ws n
  | _ => none
theorem open2_map (ws us : List W) : us.filterMap (open2R ws) = (namesOf us).filterMap (openR ws) := by
  unfold namesOf
  rw [List.filterMap_filterMap]
  congr 1
  funext v
  cases v <;> rfl
theorem one_in (x : V) : True := trivial
abbrev s_open2 : Stmt := (top 50)
theorem sc_open2 : FnScope ["_law_words", "_law_known", "_law_word"] ["_law_words"] (defScope s_open2) := ⟨rfl, rfl, rfl, by decide +kernel, rfl, by decide +kernel, by decide +kernel⟩
theorem c_open2 (B : Bt mg) (D : DefAt K mg "_law_open" s_open2) : Cal P w K mg base "_law_open" 1 ["_law_words"] (spOpen2 K) := by
  refine cal_of D sc_open2 (fun _ _ _ _ _ _ us hl => match us, hl with | [_], _ => rfl) (fun vs H Q E h => ?_) (fun fa cdv A outer st0 H vs Q E hr h => ?_)
  · obtain ⟨a, ws, rfl, _⟩ := h
    rfl
  · obtain ⟨a, ws, rfl, hq, vd, hl, k⟩ := h
    refine ⟨_, (pss_cons (ps_set (i := 1) sc_open2.nd rfl (by first | exact Or.inl rfl | exact Or.inr rfl) pe_dnewK)
      (pss_cons (ps_for PassesOwn.never rfl (pi_tup (pv 0)) (pg_name (i := 2) sc_open2.nd rfl (by first | exact Or.inl rfl | exact Or.inr rfl)) (pss_one (ps_if (pt_cmpR op_eq (pe_slice sl_str (pv 2) po_none (po_some pe_int)) pe_str (nomark _)) (pss_one (ps_dput (hu_of hr) (pv 1) (pe_slice sl_str (pv 2) (po_some pe_int) po_none) pe_bl rfl)) pss_nil)))
      (pss_one (ps_ret (pe_lc (own := [("_law_word", 2)]) (g := (gName 2)) (tt := (tAnd _ (tAnd _ _))) rfl sc_open2.nd (pi_tup (pv 0)) (blkOk_by (own := [("_law_word", 2)]) (N := ["_law_words", "_law_known", "_law_word"]) (sc := defScope s_open2) (by decide +kernel)) (fun _ _ _ _ _ => (pg_name (i := 2) sc_open2.nd rfl (by first | exact Or.inl rfl | exact Or.inr rfl))) (fun _ _ _ _ _ => (pts_one (PW.pt (pw_and (pt_cmpR op_ne (pv 2) pe_str (nomark _)) (pw_and (pt_cmpR op_ne (pe_slice sl_str (pv 2) po_none (po_some pe_int)) pe_str (nomark _)) (pw_and1 (pt_cmp (pc_dnotin (hu_of hr) (pv 2) (pv 1))))))))) (fun _ _ _ _ _ => (pv 2))))))), ?_⟩
    have hlm : (ws.map wv).length = ws.length := List.length_map ..
    refine fun D nD => ?_
    have S0 : Same H (upd H D (.dK [])) := same_upd nD
    refine ⟨_, rfl, a, rfl, ⟨_, SqT.same hq S0⟩, for_tup (K := K) (a := a) (xs := ws.map wv) (fun i σ H' => ∃ (v1 v2 : Option V) (kvs : List (Key × V)), σ = [some (.ref a), some (.ref D), v1] ∧ Same H H' ∧ H' D = some (.dK kvs) ∧ Tks ws i (fun _ _ _ => True) kvs)
      ⟨none, none, [], rfl, S0, upd_same, Nat.le_refl _, fun n j hj => absurd hj (by omega), fun _ _ => rfl⟩ (fun i σ H' _ ⟨_, _, _, _, s, _⟩ => SqT.same hq s) ?_ ?_⟩
    · rintro i x σ H' hx ⟨v1, v2, kvs, rfl, S1, L1, t⟩
      obtain ⟨w', hw, rfl⟩ := map_get hx
      have hk := vd.okAt hw
      have hi := Wd.T.lt_of_get hw
      refine ⟨_, rfl, _, rfl, _, rfl, Nat.le_of_lt (small_lt (m := 9) (len_enc hk) (by decide)), rfl, _, rfl, ?_⟩
      rw [head_tk hk]
      cases w' with
      | ap => exact iteF ⟨_, none, kvs, rfl, S1, L1, t.skip hw (by simp)⟩
      | nm n => exact iteF ⟨_, none, kvs, rfl, S1, L1, t.skip hw (by simp)⟩
      | tk n =>
        refine iteT ?_
        refine ⟨_, rfl, _, rfl, _, rfl, _, rfl, Nat.le_of_lt (small_lt (m := 9) (len_enc hk) (by decide)), ?_⟩
        rw [cut1]
        refine ⟨D, _, rfl, DPut.k (k := Sum.inr (str n)) L1 (small_lt (m := 4000) (by have := t.len; omega) (by decide)), ?_⟩
        exact ⟨_, none, _, rfl, fun b o hb => by rw [upd_ne (ne_of_none hb nD)]; exact S1 _ _ hb, upd_same, t.put vd hw trivial⟩
    · rintro σ H1 ⟨v1, v2, kvs, rfl, S1, L1, t⟩
      rw [hlm] at t
      refine ⟨_, rfl, a, rfl, ⟨_, SqT.same hq S1⟩, fun q nq => lc_fmT (r := open2R ws) (SqT.same hq S1) nq (by omega) (fun i v H' Qy Qn hv S2 gy gn => ?_) (fun H' S2 L2 => ?_)⟩
      · have hk := vd.okAt hv
        refine ⟨rfl, _, rfl, rfl, _, rfl, ?_⟩
        rw [is_ap hk]
        cases v with
        | ap => exact iteF (iteF (gn _ (Same.refl _) rfl))
        | tk n =>
          refine iteT ⟨_, rfl, _, rfl, _, rfl, Nat.le_of_lt (small_lt (m := 9) (len_enc hk) (by decide)), rfl, _, rfl, ?_⟩
          rw [head_tk hk]
          exact iteF (iteF (gn _ (Same.refl _) rfl))
        | nm n =>
          refine iteT ⟨_, rfl, _, rfl, _, rfl, Nat.le_of_lt (small_lt (m := 9) (len_enc hk) (by decide)), rfl, _, rfl, ?_⟩
          rw [head_tk hk]
          refine iteT ⟨_, rfl, _, rfl, D, _, rfl, DGet.k (k := Sum.inr (str n)) (S2 _ _ L1), ?_⟩
          rw [t.all]
          by_cases hm : n ∈ takesOf ws
          · rw [decide_eq_true hm]
            exact ⟨_, rfl, iteF (gn _ (Same.refl _) (by show openR ws n = none; unfold openR; rw [if_pos hm]))⟩
          · rw [decide_eq_false hm]
            exact ⟨_, rfl, iteT ⟨_, rfl, gy _ _ (Same.refl _) (by show openR ws n = some _; unfold openR; rw [if_neg hm]; rfl)⟩⟩
      · rw [open2_map] at L2
        exact k H' q (S1.trans S2) (S1.free nq) L2
def spInt : Sp := fun vs H Q _ => ∃ i : Int, vs = [.int i] ∧ Q (.bl true) H
/-- the dict of takes -/
def spTakes2 (K : PySem.W.Frag) : Sp := fun vs H Q _ => ∃ (a : Addr) (ws : List W), vs = [.ref a] ∧ SqT K H a (ws.map wv) ∧ Vd ws ∧ ws.length ≤ 4000 ∧
  ∀ H' q kvs, Same H H' → H q = none → H' q = some (.dK kvs) → Tks ws ws.length (fun _ j v => v = .int (j : Nat)) kvs → Q (.ref q) H'
end
end Kk

set_option maxHeartbeats 2000000
namespace Kk
open PySem PySem.Spec PyProof.Rows L2 Wd
def kvsG (g : Nm → Nm) (qs : List Nm) : List (Key × V) := qs.map fun n => ((Sum.inr (str n) : Key), sv (g n))
theorem valV_kvsG (g : Nm → Nm) (qs : List Nm) (n : Nm) : valV (kvsG g qs) (Sum.inr (str n)) = if n ∈ qs then some (sv (g n)) else none := by
  induction qs with
  | nil => rfl
  | cons m qs ih =>
    unfold valV kvsG at *
    rw [List.map_cons, List.find?_cons]
    by_cases h : m = n
    · subst h
      simp
    · have h1 : ¬ ((Sum.inr (str m) : Key) = Sum.inr (str n)) := fun e => h (str_inj (Sum.inr.inj e))
      rw [decide_eq_false h1]
      show Option.map _ (List.find? _ (List.map _ qs)) = _
      rw [ih]
      have e : (n ∈ m :: qs) ↔ n ∈ qs := by simp [Ne.symm h, List.mem_cons, show ¬ n = m from fun q => h q.symm]
      by_cases h2 : n ∈ qs
      · rw [if_pos h2, if_pos (e.mpr h2)]
      · rw [if_neg h2, if_neg (fun q => h2 (e.mp q))]
theorem kvsG_put {g : Nm → Nm} {qs : List Nm} {n : Nm} (h : n ∉ qs) : putK (kvsG g qs) (Sum.inr (str n)) (sv (g n)) = kvsG g (qs ++ [n]) := by
  rw [putK_new _ (by rw [valV_kvsG, if_neg h])]
  unfold kvsG
  rw [List.map_append]
  rfl
theorem kvsG_len (g : Nm → Nm) (qs : List Nm) : (kvsG g qs).length = qs.length := List.length_map ..
theorem kvsG_keys (g : Nm → Nm) (qs : List Nm) : ((kvsG g qs).map fun kv => kV kv.1) = qs.map sv := by
  unfold kvsG
  rw [List.map_map]
  rfl
theorem kvsG_vals (g : Nm → Nm) (qs : List Nm) : (kvsG g qs).map (·.2) = (qs.map g).map sv := by
  unfold kvsG
  rw [List.map_map, List.map_map]
  rfl
theorem RD.of {ws : List W} (vd : Vd ws) {g : Nm → Nm} {qs : List Nm} (hp : qs.Perm (nmsOf ws)) (inj : InjOn g (nmsOf ws)) (ok : ∀ n ∈ nmsOf ws, nmOk (g n)) : RD ws (kvsG g qs) g := by
  refine ⟨by rw [kvsG_len, hp.length_eq], fun n hn => by rw [valV_kvsG, if_pos (hp.mem_iff.mpr hn)], fun n hn => by rw [valV_kvsG, if_neg (fun h => hn (hp.mem_iff.mp h))], ?_, ⟨qs.map g, kvsG_vals g qs, ?_, fun m hm => ?_⟩, ok⟩
  · rw [ap_str, valV_kvsG, if_neg]
    intro h
    have := (vd.nmOk (hp.mem_iff.mp h)).2.2 64 (by simp)
    omega
  · exact nodup_map (hp.nodup_iff.mpr vd.nmsNd) fun a ha b hb e => inj a (hp.mem_iff.mp ha) b (hp.mem_iff.mp hb) e
  · obtain ⟨n, hn, rfl⟩ := List.mem_map.mp hm
    exact ok n (hp.mem_iff.mp hn)
/-- from names to others, place by place -/
def toF (ns ms : List Nm) : Nm → Nm := re (tblF ((ns.map fun n => (0, n)).zip ms) 0)
theorem toF_at {ns ms : List Nm} (nd : ns.Nodup) {i : Nat} {n m : Nm} (h1 : ns[i]? = some n) (h2 : ms[i]? = some m) : toF ns ms n = m := by
  unfold toF re
  rw [tblF_zip (i := i) (nodup_map nd fun a _ b _ e => by cases e; rfl) (by rw [List.getElem?_map, h1]; rfl) h2]
  rfl
theorem toF_inj {ns ms : List Nm} (nd : ns.Nodup) (md : ms.Nodup) (hl : ms.length = ns.length) : InjOn (toF ns ms) ns := by
  intro a ha b hb e
  obtain ⟨i, hi⟩ := List.mem_iff_getElem?.mp ha
  obtain ⟨j, hj⟩ := List.mem_iff_getElem?.mp hb
  have li := (List.getElem?_eq_some_iff.mp hi).1
  have lj := (List.getElem?_eq_some_iff.mp hj).1
  have mi : ms[i]? = some (ms[i]'(by omega)) := List.getElem?_eq_getElem _
  have mj : ms[j]? = some (ms[j]'(by omega)) := List.getElem?_eq_getElem _
  rw [toF_at nd hi mi, toF_at nd hj mj] at e
  have := (List.getElem_inj md).mp e
  subst this
  rw [hi] at hj
  exact Option.some.inj hj
theorem toF_mem {ns ms : List Nm} (nd : ns.Nodup) (hl : ms.length = ns.length) {n : Nm} (h : n ∈ ns) : toF ns ms n ∈ ms := by
  obtain ⟨i, hi⟩ := List.mem_iff_getElem?.mp h
  have li := (List.getElem?_eq_some_iff.mp hi).1
  have mi : ms[i]? = some (ms[i]'(by omega)) := List.getElem?_eq_getElem _
  rw [toF_at nd hi mi]
  exact List.getElem_mem _
theorem toF_back {ns ms : List Nm} (nd : ns.Nodup) (md : ms.Nodup) (hl : ms.length = ns.length) {n : Nm} (h : n ∈ ns) : toF ms ns (toF ns ms n) = n := by
  obtain ⟨i, hi⟩ := List.mem_iff_getElem?.mp h
  have li := (List.getElem?_eq_some_iff.mp hi).1
  have mi : ms[i]? = some (ms[i]'(by omega)) := List.getElem?_eq_getElem _
  rw [toF_at nd hi mi]
  exact toF_at md mi hi
def ivInv : V → Nat
  | .int i => i.toNat
  | _ => 0
theorem perm_iv {ys : List V} {xs : List Nat} (h : ys.Perm (xs.map iv)) : ∃ js : List Nat, ys = js.map iv ∧ js.Perm xs := by
  have back : (xs.map iv).map ivInv = xs := by
    rw [List.map_map]
    exact (List.map_congr_left (fun n _ => by show ((n : Int)).toNat = n; omega)).trans (List.map_id _)
  refine ⟨ys.map ivInv, ?_, by have := h.map ivInv; rwa [back] at this⟩
  rw [List.map_map]
  refine ((List.map_congr_left fun y hy => ?_).trans (List.map_id _)).symm
  obtain ⟨n, _, rfl⟩ := List.mem_map.mp (h.mem_iff.mp hy)
  show V.int (((n : Int).toNat : Nat) : Int) = V.int (n : Int)
  rw [Int.toNat_natCast]
theorem names_perm {ns : List Nm} {js : List Nat} (h : js.Perm (List.range ns.length)) : (js.map fun j => ns.getD j []).Perm ns := by
  have h2 := h.map fun j => ns.getD j []
  have e : ((List.range ns.length).map fun j => ns.getD j []) = ns := by
    apply List.ext_getElem?
    intro i
    rw [List.getElem?_map]
    by_cases hi : i < ns.length
    · rw [List.getElem?_range hi, List.getElem?_eq_getElem hi]
      simp [List.getD_eq_getElem?_getD, hi]
    · rw [List.getElem?_eq_none (by rw [List.length_range]; omega), List.getElem?_eq_none (by omega)]
      rfl
  rw [e] at h2
  exact h2
/-- over the keys of a locked dict -/
theorem for_keys {d : Addr} {od : Obj} {kvs : List (Key × V)} {g : TG} {tb : TS} {D : Ends} {σ : L2.St} {H : Hp} (Pv : Nat → L2.St → Hp → Prop) (h0 : Pv 0 σ H) (hl : ∀ i σ H, i ≤ kvs.length → Pv i σ H → H d = some (.frz od (.dK kvs)))
    (hs : ∀ i k v σ H, kvs[i]? = some (k, v) → Pv i σ H → g (kV k) σ H fun σ2 H2 => tb { D with nx := Pv (i + 1), ct := Pv (i + 1), bk := D.nx } σ2 H2) (hd : ∀ σ H, Pv kvs.length σ H → D.nx σ H) :
    ∃ W : Nat → Nat → L2.St → Hp → Prop, (∃ m, W 0 m σ H) ∧ ∀ i m σ H, W i m σ H →
      ((Itk d od kvs).stop i H ∧ D.nx σ H) ∨ ((Itk d od kvs).go i H ∧ ∃ N : L2.St → Hp → Prop, (∀ σ' H', N σ' H' → ∃ m', m' < m ∧ W (i + 1) m' σ' H') ∧ ∀ x H', (Itk d od kvs).yld i H x H' → g x σ H' fun σ2 H2 => tb { D with nx := N, ct := N, bk := D.nx } σ2 H2) := by
  refine ⟨fun i m σ H => m = kvs.length - i ∧ i ≤ kvs.length ∧ Pv i σ H, ⟨kvs.length, by simp, Nat.zero_le _, h0⟩, ?_⟩
  rintro i m σ H ⟨rfl, hi, p⟩
  have q := hl i σ H hi p
  by_cases hlt : i < kvs.length
  · refine .inr ⟨⟨q, hlt⟩, Pv (i + 1), fun σ' H' p' => ⟨kvs.length - (i + 1), by omega, rfl, hlt, p'⟩, fun x H' y => ?_⟩
    obtain ⟨rfl, k, v, hk, rfl⟩ := y
    exact hs i k v σ _ hk p
  · have e : i = kvs.length := by omega
    subst e
    exact .inl ⟨⟨q, Nat.le_refl _⟩, hd σ H p⟩
/-- lists of names compared -/
theorem neL_same {K : PySem.W.Frag} {H : Hp} {p q : Addr} {xs : List V} {Q : VK} (hp : SqL K H p xs) (hq : SqL K H q xs) (ok : ∀ x ∈ xs, Plain x) (k : Q (.bl false) H) : rNeD K (.ref p) (.ref q) H Q := by
  have sh : SeqAt.shaped (.list (xs.map dV)) = true := by
    unfold SeqAt.shaped
    rw [PyData.canLay0, can_all ok, PyData.depth, depth_all ok]
    rfl
  refine ⟨_, _, .lst hp (dp_all ok), .lst hq (dp_all ok), sh, sh, ?_⟩
  rw [SeqAt.eqv_refl _ (by rw [PyData.canLay0]; exact can_all ok)]
  exact k
theorem plain_nms {ns : List Nm} (ok : ∀ n ∈ ns, nmOk n) : ∀ x ∈ ns.map sv, Plain x := fun x hx => by
  obtain ⟨n, hn, rfl⟩ := List.mem_map.mp hx
  exact .inr ⟨_, rfl, ok_str (ok n hn)⟩
end Kk

set_option maxHeartbeats 2000000
namespace Kk
open PySem PySem.Spec PyProof.Rows L2 Wd
/-! ### words whose names are told by who takes them, in the heap -/
def mkS (o : Nat) : Str := if o = 0 then "one" else "two"
theorem mkS_inj {o p : Nat} (ho : o < 2) (hp : p < 2) (e : mkS o = mkS p) : o = p := by
  have h : ("one" : Str) ≠ "two" := by decide +kernel
  unfold mkS at e
  by_cases a : o = 0
  · by_cases b : p = 0
    · omega
    · rw [if_pos a, if_neg b] at e
      exact absurd e h
  · by_cases b : p = 0
    · rw [if_neg a, if_pos b] at e
      exact absurd e.symm h
    · omega
def IsI (H : Hp) (v : V) : Im → Prop
  | .ap => v = wv .ap
  | .op n => v = sv n
  | .tk o => ∃ t, v = .ref t ∧ H t = some (.tup [.str "/", .str (mkS o.1), sv o.2])
  | .nm o => ∃ t, v = .ref t ∧ H t = some (.tup [.str (mkS o.1), sv o.2])
structure ItV (H : Hp) (vs : List V) (is : List Im) : Prop where
  len : vs.length = is.length
  at_ : ∀ (i : Nat) x, is[i]? = some x → ∃ v, vs[i]? = some v ∧ IsI H v x
theorem IsI.keep {H H' : Hp} {v : V} {i : Im} (h : IsI H v i) (k : ∀ t xs, H t = some (.tup xs) → H' t = some (.tup xs)) : IsI H' v i := by
  cases i with
  | ap => exact h
  | op n => exact h
  | tk o => obtain ⟨t, e, ht⟩ := h; exact ⟨t, e, k _ _ ht⟩
  | nm o => obtain ⟨t, e, ht⟩ := h; exact ⟨t, e, k _ _ ht⟩
theorem ItV.keep {H H' : Hp} {vs : List V} {is : List Im} (h : ItV H vs is) (k : ∀ t xs, H t = some (.tup xs) → H' t = some (.tup xs)) : ItV H' vs is :=
  ⟨h.len, fun i x hx => let ⟨v, a, b⟩ := h.at_ i x hx; ⟨v, a, b.keep k⟩⟩
theorem ItV.same {H H' : Hp} {vs : List V} {is : List Im} (h : ItV H vs is) (s : Same H H') : ItV H' vs is := h.keep fun t xs e => s _ _ e
theorem tup_wr {H : Hp} {F : Addr} {o u : HO} (h : H F = some u) (hu : ∀ xs, u ≠ .tup xs) : ∀ t xs, H t = some (.tup xs) → upd H F o t = some (.tup xs) := fun t xs e => by
  rw [upd_ne (ne_of e h (hu xs).symm)]
  exact e
theorem ItV.nil (H : Hp) : ItV H [] [] := ⟨rfl, fun i x h => by simp at h⟩
theorem ItV.snoc {H : Hp} {vs : List V} {is : List Im} {v : V} {i : Im} (h : ItV H vs is) (hv : IsI H v i) : ItV H (vs ++ [v]) (is ++ [i]) := by
  refine ⟨by simp [h.len], fun j x hx => ?_⟩
  by_cases hj : j < is.length
  · rw [List.getElem?_append_left hj] at hx
    obtain ⟨u, a, b⟩ := h.at_ j x hx
    exact ⟨u, by rw [List.getElem?_append_left (by rw [h.len]; exact hj)]; exact a, b⟩
  · have hl := (List.getElem?_eq_some_iff.mp hx).1
    rw [List.length_append, List.length_singleton] at hl
    have e : j = is.length := by omega
    subst e
    simp at hx
    subst hx
    exact ⟨v, by rw [← h.len]; simp, hv⟩
theorem ItV.app {H : Hp} {vs us : List V} {is js : List Im} (h : ItV H vs is) (g : ItV H us js) : ItV H (vs ++ us) (is ++ js) := by
  refine ⟨by simp [h.len, g.len], fun j x hx => ?_⟩
  by_cases hj : j < is.length
  · rw [List.getElem?_append_left hj] at hx
    obtain ⟨u, a, b⟩ := h.at_ j x hx
    exact ⟨u, by rw [List.getElem?_append_left (by rw [h.len]; exact hj)]; exact a, b⟩
  · rw [List.getElem?_append_right (by omega)] at hx
    obtain ⟨u, a, b⟩ := g.at_ _ x hx
    exact ⟨u, by rw [List.getElem?_append_right (by rw [h.len]; omega), h.len]; exact a, b⟩
theorem take_mk {os : List Own} {o : Nat} {ws : List W} {i : Nat} {w : W} (h : ws[i]? = some w) : (ws.take (i + 1)).map (mkI os o) = (ws.take i).map (mkI os o) ++ [mkI os o w] := by
  rw [List.take_add_one, h, List.map_append]
  rfl
theorem mkI_nm1 {o : Nat} {ws : List W} {n : Nm} (h : n ∈ takesOf ws) : mkI (owned [(o, ws)]) o (.nm n) = .nm (o, n) := if_pos (mem_owned_o.mpr h)
theorem mkI_nm0 {o : Nat} {ws : List W} {n : Nm} (h : n ∉ takesOf ws) : mkI (owned [(o, ws)]) o (.nm n) = .op n := if_neg (fun q => h (mem_owned_o.mp q))
section
variable {P : Program} {w : World} {K : PySem.W.Frag} {mg : Str → Option Value} {base : Heap}
def spMarked (K : PySem.W.Frag) : Sp := fun vs H Q _ => ∃ (a : Addr) (o : Nat) (ws : List W), vs = [.ref a, .str (mkS o)] ∧ SqT K H a (ws.map wv) ∧ Vd ws ∧ ws.length ≤ 4000 ∧
  ∀ H' q us, Same H H' → H q = none → H' q = some (.lst us) → ItV H' us (markI o ws) → Q (.ref q) H'
abbrev s_marked : Stmt := (top 51)
theorem sc_marked : FnScope ["_law_words", "_law_mark", "_law_known", "_law_word", "_law_found"] ["_law_words", "_law_mark"] (defScope s_marked) := ⟨rfl, rfl, rfl, by decide +kernel, rfl, by decide +kernel, by decide +kernel⟩
theorem c_marked (B : Bt mg) (D : DefAt K mg "_law_marked" s_marked) : Cal P w K mg base "_law_marked" 1 ["_law_words", "_law_mark"] (spMarked K) := by
  refine cal_of D sc_marked (fun _ _ _ _ _ _ us hl => match us, hl with | [_, _], _ => rfl) (fun vs H Q E h => ?_) (fun fa cdv A outer st0 H vs Q E hr h => ?_)
  · obtain ⟨a, o, ws, rfl, _⟩ := h
    rfl
  · obtain ⟨a, o, ws, rfl, hq, vd, hl, k⟩ := h
    refine ⟨_, (pss_cons (ps_set (i := 2) sc_marked.nd rfl (by first | exact Or.inl rfl | exact Or.inr rfl) pe_dnewK)
      (pss_cons (ps_for PassesOwn.never rfl (pi_tup (pv 0)) (pg_name (i := 3) sc_marked.nd rfl (by first | exact Or.inl rfl | exact Or.inr rfl)) (pss_one (ps_if (pt_cmpR op_eq (pe_slice sl_str (pv 3) po_none (po_some pe_int)) pe_str (nomark _)) (pss_one (ps_dput (hu_of hr) (pv 2) (pe_slice sl_str (pv 3) (po_some pe_int) po_none) pe_bl rfl)) pss_nil)))
      (pss_cons (ps_set (i := 4) sc_marked.nd rfl (by first | exact Or.inl rfl | exact Or.inr rfl) (pe_lst pa_nil))
      (pss_cons (ps_for PassesOwn.never rfl (pi_tup (pv 0)) (pg_name (i := 3) sc_marked.nd rfl (by first | exact Or.inl rfl | exact Or.inr rfl)) (pss_one (ps_if (pt_cmpR op_eq (pe_slice sl_str (pv 3) po_none (po_some pe_int)) pe_str (nomark _)) (pss_one (ps_expr (pe_bm PySem.F.plainAttrs_list PySem.F.slot_list_append PySem.F.type_list_append mt_append (pv 4) (pa_cons (pe_tup (pa_cons pe_str (pa_cons (pv 1) (pa_cons (pe_slice sl_str (pv 3) (po_some pe_int) po_none) pa_nil)))) pa_nil)))) (pss_one (ps_expr (pe_bm PySem.F.plainAttrs_list PySem.F.slot_list_append PySem.F.type_list_append mt_append (pv 4) (pa_cons (pe_ifExp (pt_cmp (pc_din (hu_of hr) (pv 3) (pv 2))) (pe_tup (pa_cons (pv 1) (pa_cons (pv 3) pa_nil))) (pv 3)) pa_nil)))))))
      (pss_one (ps_ret (pv 4))))))), ?_⟩
    have hlm : (ws.map wv).length = ws.length := List.length_map ..
    refine fun D nD => ?_
    have S0 : Same H (upd H D (.dK [])) := same_upd nD
    refine ⟨_, rfl, a, rfl, ⟨_, SqT.same hq S0⟩, for_tup (K := K) (a := a) (xs := ws.map wv) (fun i σ H' => ∃ (v1 v2 : Option V) (kvs : List (Key × V)), σ = [some (.ref a), some (.str (mkS o)), some (.ref D), v1, v2] ∧ Same H H' ∧ H' D = some (.dK kvs) ∧ Tks ws i (fun _ _ _ => True) kvs)
      ⟨none, none, [], rfl, S0, upd_same, Nat.le_refl _, fun n j hj => absurd hj (by omega), fun _ _ => rfl⟩ (fun i σ H' _ ⟨_, _, _, _, s, _⟩ => SqT.same hq s) ?_ ?_⟩
    · rintro i x σ H' hx ⟨v1, v2, kvs, rfl, S1, L1, t⟩
      obtain ⟨w', hw, rfl⟩ := map_get hx
      have hk := vd.okAt hw
      have hi := Wd.T.lt_of_get hw
      refine ⟨_, rfl, _, rfl, _, rfl, Nat.le_of_lt (small_lt (m := 9) (len_enc hk) (by decide)), rfl, _, rfl, ?_⟩
      rw [head_tk hk]
      cases w' with
      | ap => exact iteF ⟨_, v2, kvs, rfl, S1, L1, t.skip hw (by simp)⟩
      | nm n => exact iteF ⟨_, v2, kvs, rfl, S1, L1, t.skip hw (by simp)⟩
      | tk n =>
        refine iteT ?_
        refine ⟨_, rfl, _, rfl, _, rfl, _, rfl, Nat.le_of_lt (small_lt (m := 9) (len_enc hk) (by decide)), ?_⟩
        rw [cut1]
        refine ⟨D, _, rfl, DPut.k (k := Sum.inr (str n)) L1 (small_lt (m := 4000) (by have := t.len; omega) (by decide)), ?_⟩
        exact ⟨_, v2, _, rfl, fun b o hb => by rw [upd_ne (ne_of_none hb nD)]; exact S1 _ _ hb, upd_same, t.put vd hw trivial⟩
    · rintro σ H1 ⟨v1, v2, kvs, rfl, S1, L1, t⟩
      rw [hlm] at t
      refine ⟨Nat.zero_le _, fun F nF => ?_⟩
      have S2 : Same H1 (upd H1 F (.lst [])) := same_upd nF
      have U2 : upd H1 F (.lst []) F = some (.lst []) := upd_same
      generalize upd H1 F (.lst []) = H2 at *
      refine ⟨_, rfl, a, rfl, ⟨_, SqT.same (SqT.same hq S1) S2⟩, for_tup (K := K) (a := a) (xs := ws.map wv) (fun i σ H' => ∃ (v1 : Option V) (us : List V), σ = [some (.ref a), some (.str (mkS o)), some (.ref D), v1, some (.ref F)] ∧ Same H1 H' ∧ H' F = some (.lst us) ∧ ItV H' us ((ws.take i).map (mkI (owned [(o, ws)]) o)))
        ⟨v1, [], rfl, S2, U2, ItV.nil _⟩ (fun i σ H' _ ⟨_, _, _, s, _⟩ => SqT.same (SqT.same hq S1) s) ?_ ?_⟩
      · rintro i x σ H3 hx ⟨v3, us, rfl, S3, L3, I3⟩
        obtain ⟨w', hw, rfl⟩ := map_get hx
        have hk := vd.okAt hw
        have hi := Wd.T.lt_of_get hw
        have ul : us.length < sizeLine := by
          rw [I3.len, List.length_map, List.length_take]
          exact small_lt (m := 4000) (by omega) (by decide)
        have hle := Nat.le_of_lt (small_lt (m := 9) (len_enc hk) (by decide))
        have fin : ∀ H4 y, Same H3 H4 → IsI H4 y (mkI (owned [(o, ws)]) o w') → ∃ (v1 : Option V) (us' : List V), [some (V.ref a), some (V.str (mkS o)), some (V.ref D), some (wv w'), some (V.ref F)] = [some (V.ref a), some (V.str (mkS o)), some (V.ref D), v1, some (V.ref F)] ∧ Same H1 (upd H4 F (.lst (us ++ [y]))) ∧ upd H4 F (.lst (us ++ [y])) F = some (.lst us') ∧ ItV (upd H4 F (.lst (us ++ [y]))) us' ((ws.take (i + 1)).map (mkI (owned [(o, ws)]) o)) := by
          intro H4 y S4 hy
          have L4 := S4 _ _ L3
          refine ⟨_, us ++ [y], rfl, fun b u hb => by rw [upd_ne (ne_of_none hb nF)]; exact S4 _ _ (S3 _ _ hb), upd_same, ?_⟩
          rw [take_mk hw]
          exact (((I3.same S4).keep (tup_wr L4 (fun _ q => nomatch q))).snoc (hy.keep (tup_wr L4 (fun _ q => nomatch q))))
        refine ⟨_, rfl, _, rfl, _, rfl, hle, rfl, _, rfl, ?_⟩
        rw [head_tk hk]
        cases w' with
        | ap =>
          refine iteF ⟨_, rfl, .inl ⟨rfl, _, SqL.of L3⟩, _, rfl, _, rfl, D, _, rfl, DGet.k (k := Sum.inr (str [64])) (S3 _ _ L1), ?_⟩
          rw [t.all, decide_eq_false (fun h => by have := (vd.nmOk (vd.tkIn h)).2.2 64 (by simp); omega)]
          exact ⟨_, rfl, iteF ⟨_, rfl, F, _, _, rfl, rfl, L3, ul, fin _ _ (Same.refl _) rfl⟩⟩
        | nm n =>
          refine iteF ⟨_, rfl, .inl ⟨rfl, _, SqL.of L3⟩, _, rfl, _, rfl, D, _, rfl, DGet.k (k := Sum.inr (str n)) (S3 _ _ L1), ?_⟩
          rw [t.all]
          by_cases hm : n ∈ takesOf ws
          · rw [decide_eq_true hm]
            refine ⟨_, rfl, iteT ⟨_, rfl, _, rfl, (by show 2 ≤ sizeLine; decide), fun t nt => ?_⟩⟩
            have S4 : Same H3 (upd H3 t (.tup [.str (mkS o), sv n])) := same_upd nt
            refine ⟨F, _, _, rfl, rfl, S4 _ _ L3, ul, fin _ _ S4 ?_⟩
            rw [mkI_nm1 hm]
            exact ⟨t, rfl, upd_same⟩
          · rw [decide_eq_false hm]
            refine ⟨_, rfl, iteF ⟨_, rfl, F, _, _, rfl, rfl, L3, ul, fin _ _ (Same.refl _) ?_⟩⟩
            rw [mkI_nm0 hm]
            rfl
        | tk n =>
          refine iteT ⟨_, rfl, .inl ⟨rfl, _, SqL.of L3⟩, _, rfl, _, rfl, _, rfl, _, rfl, hle, ?_⟩
          rw [cut1]
          refine ⟨(by show 3 ≤ sizeLine; decide), fun t nt => ?_⟩
          have S4 : Same H3 (upd H3 t (.tup [.str "/", .str (mkS o), sv n])) := same_upd nt
          exact ⟨F, _, _, rfl, rfl, S4 _ _ L3, ul, fin _ _ S4 ⟨t, rfl, upd_same⟩⟩
      · rintro σ H3 ⟨v3, us, rfl, S3, L3, I3⟩
        rw [hlm, List.take_length] at I3
        exact ⟨_, rfl, k H3 F us (S1.trans S3) (S1.free nF) L3 I3⟩
end
end Kk

set_option maxHeartbeats 4000000
namespace Kk
open PySem PySem.Spec PyProof.Rows L2 Wd
theorem ItV.uncons {H : Hp} {v : V} {vs : List V} {i : Im} {is : List Im} (h : ItV H (v :: vs) (i :: is)) : IsI H v i ∧ ItV H vs is := by
  refine ⟨?_, by simpa using h.len, fun j x hx => ?_⟩
  · obtain ⟨u, a, b⟩ := h.at_ 0 i rfl
    cases a
    exact b
  · exact h.at_ (j + 1) x hx
def strV : V → Option V
  | .str z => some (.str z)
  | _ => none
theorem bar_of {H : Hp} : ∀ {vs : List V} {is : List Im}, ItV H vs is → vs.filterMap strV = (barN is).map sv
  | [], [], _ => rfl
  | [], i :: is, h => by have := h.len; simp at this
  | v :: vs, [], h => by have := h.len; simp at this
  | v :: vs, i :: is, h => by
    obtain ⟨a, b⟩ := h.uncons
    have ih := bar_of b
    cases i with
    | ap =>
      have e : v = sv [64] := by
        have : v = V.str ("@" : Str) := a
        rw [this, ap_str]
      subst e
      show sv [64] :: _ = sv [64] :: _
      rw [ih]
      rfl
    | op n =>
      have e : v = sv n := a
      subst e
      show sv n :: _ = sv n :: _
      rw [ih]
      rfl
    | tk o =>
      obtain ⟨t, e, _⟩ := a
      subst e
      exact ih
    | nm o =>
      obtain ⟨t, e, _⟩ := a
      subst e
      exact ih
theorem kitST : kitB "str" "tuple" = some false := by decide +kernel
theorem kitTS : kitB "tuple" "str" = some false := by decide +kernel
def keyO (o : Own) : List Key := [Sum.inr (mkS o.1), Sum.inr (str o.2)]
theorem keyO_inj {o p : Own} (ho : o.1 < 2) (hp : p.1 < 2) (e : keyO o = keyO p) : o = p := by
  have h1 := (List.cons.inj e).1
  have h2 := (List.cons.inj (List.cons.inj e).2).1
  exact Prod.ext (mkS_inj ho hp (Sum.inr.inj h1)) (str_inj (Sum.inr.inj h2))
/-- what is called how -/
structure Cld (kvs : List (List Key × V)) (os : List Own) (ms : List Nm) : Prop where
  len : kvs.length ≤ os.length
  at_ : ∀ (i : Nat) o m, os[i]? = some o → ms[i]? = some m → valV kvs (keyO o) = some (sv m)
theorem Cld.put {kvs : List (List Key × V)} {os : List Own} {ms : List Nm} {o : Own} {m : Nm} (c : Cld kvs os ms) (hl : ms.length = os.length) (b : ∀ p ∈ os, p.1 < 2) (hb : o.1 < 2) (no : o ∉ os) : Cld (putK kvs (keyO o) (sv m)) (os ++ [o]) (ms ++ [m]) := by
  refine ⟨?_, fun i p n hp hn => ?_⟩
  · have := length_putK kvs (keyO o) (sv m)
    have := c.len
    rw [List.length_append, List.length_singleton]
    omega
  · rw [valV_put]
    by_cases hi : i < os.length
    · rw [List.getElem?_append_left hi] at hp
      rw [List.getElem?_append_left (by omega)] at hn
      have hm := List.mem_of_getElem? hp
      rw [if_neg (fun e => no (by rw [← keyO_inj (b p hm) hb e]; exact hm))]
      exact c.at_ i p n hp hn
    · have hl2 := (List.getElem?_eq_some_iff.mp hp).1
      rw [List.length_append, List.length_singleton] at hl2
      have e : i = os.length := by omega
      subst e
      have e1 : p = o := by simpa using hp.symm
      have e2 : n = m := by rw [← hl] at hn; simpa using hn.symm
      rw [e1, e2, if_pos rfl]
def tkL : Im → List Own
  | .tk o => [o]
  | _ => []
theorem takesI_snoc {is : List Im} {i : Nat} {x : Im} (h : is[i]? = some x) : takesI (is.take (i + 1)) = takesI (is.take i) ++ tkL x := by
  rw [List.take_add_one, h, takesI_app]
  cases x <;> rfl
theorem cnt_le (B : List Nm) (p : Nat) : (cnt B p).length ≤ p := Nat.le_trans (List.length_filter_le _ _) (by rw [List.length_map, List.length_range]; exact Nat.le_refl _)
theorem iteD {c : Prop} [Decidable c] {A B : Prop} (h : c) (a : A) : if decide c = true then A else B := by
  rw [decide_eq_true h, if_pos rfl]
  exact a
theorem iteN {c : Prop} [Decidable c] {A B : Prop} (h : ¬ c) (b : B) : if decide c = true then A else B := by
  rw [decide_eq_false h, if_neg Bool.false_ne_true]
  exact b
theorem for_range_brk {lo : Int} {n : Nat} {g : TG} {tb : TS} {D : Ends} {σ : L2.St} {H : Hp} (R : L2.St → Hp → Prop) (Pv : Nat → L2.St → Hp → Prop) (h0 : Pv 0 σ H)
    (hs : (∀ σ H, R σ H → D.nx σ H) → ∀ i σ H, i < n → Pv i σ H → g (.int (lo + i)) σ H fun σ2 H2 => tb { D with nx := Pv (i + 1), ct := Pv (i + 1), bk := D.nx } σ2 H2) (he : ∀ σ H, Pv n σ H → R σ H) (hd : ∀ σ H, R σ H → D.nx σ H) :
    ∃ W : Nat → Nat → L2.St → Hp → Prop, (∃ m, W 0 m σ H) ∧ ∀ i m σ H, W i m σ H →
      ((Itr lo n).stop i H ∧ D.nx σ H) ∨ ((Itr lo n).go i H ∧ ∃ N : L2.St → Hp → Prop, (∀ σ' H', N σ' H' → ∃ m', m' < m ∧ W (i + 1) m' σ' H') ∧ ∀ x H', (Itr lo n).yld i H x H' → g x σ H' fun σ2 H2 => tb { D with nx := N, ct := N, bk := D.nx } σ2 H2) :=
  for_range Pv h0 (hs hd) fun σ H p => hd σ H (he σ H p)
section
variable {P : Program} {w : World} {K : PySem.W.Frag} {mg : Str → Option Value} {base : Heap}
def spStdI (K : PySem.W.Frag) : Sp := fun vs H Q _ => ∃ (q : Addr) (us : List V) (is : List Im), vs = [.ref q] ∧ H q = some (.lst us) ∧ ItV H us is ∧ Wl is ∧ (∀ o ∈ takesI is, o.1 < 2) ∧ (∀ n ∈ opensI is, nmOk n) ∧ is.length ≤ 4000 ∧
  ∀ H' r, Same H H' → H r = none → TupF H' r ((stdI (opensI is) is).map wv) → Q (.ref r) H'
abbrev s_standard2 : Stmt := (top 53)
theorem sc_standard2 : FnScope ["_law_items", "_law_barred", "_law_item", "_law_called", "_law_number", "_law_turn", "_law_name", "_law_found"] ["_law_items"] (defScope s_standard2) := ⟨rfl, rfl, rfl, by decide +kernel, rfl, by decide +kernel, by decide +kernel⟩
theorem c_standard2 (B : Bt mg) (D : DefAt K mg "_law_standard" s_standard2) (C_law_letters : Cal P w K mg base "_law_letters" 1 ["_law_number"] spLetters) : Cal P w K mg base "_law_standard" 2 ["_law_items"] (spStdI K) := by
  refine cal_of D sc_standard2 (fun _ _ _ _ _ _ us hl => match us, hl with | [_], _ => rfl) (fun vs H Q E h => ?_) (fun fa cdv A outer st0 H vs Q E hr h => ?_)
  · obtain ⟨q, us, is, rfl, _⟩ := h
    rfl
  · obtain ⟨q, us, is, rfl, hq, I0, wl, lt2, ok, hl, k⟩ := h
    refine ⟨_, (pss_cons (ps_setLc (i := 1) (own := [("_law_item", 2)]) (g := (gName 2)) (tt := (tB (tCB (rIsi K) _))) rfl sc_standard2.nd rfl rfl (sw_true rfl rfl rfl (by decide +kernel)) (pi_list (pv 0)) (blkOk_by (own := [("_law_item", 2)]) (N := ["_law_items", "_law_barred", "_law_item", "_law_called", "_law_number", "_law_turn", "_law_name", "_law_found"]) (sc := defScope s_standard2) (by decide +kernel)) (fun _ _ _ _ _ => (pg_name (i := 2) sc_standard2.nd rfl (by first | exact Or.inl rfl | exact Or.inr rfl))) (fun _ _ _ _ _ => (pts_one (pt_val (pe_callB call_isi (by rfl) B.b_isinstance (by decide +kernel) (pa_cons (pv 2) (pa_cons (pe_ty (n := "str") B.b_str (by decide +kernel)) pa_nil)))))) (fun _ _ _ _ _ => (pv 2)))
      (pss_cons (ps_set (i := 3) sc_standard2.nd rfl (by first | exact Or.inl rfl | exact Or.inr rfl) pe_dnewT)
      (pss_cons (ps_set (i := 4) sc_standard2.nd rfl (by first | exact Or.inl rfl | exact Or.inr rfl) pe_int)
      (pss_cons (ps_for PassesOwn.never rfl (pi_list (pv 0)) (pg_name (i := 2) sc_standard2.nd rfl (by first | exact Or.inl rfl | exact Or.inr rfl)) (pss_one (ps_if (PW.pt (pw_and (pt_val (pe_callB call_isi (by rfl) B.b_isinstance (by decide +kernel) (pa_cons (pv 2) (pa_cons (pe_ty (n := "tuple") B.b_tuple (by decide +kernel)) pa_nil)))) (pw_and1 (pt_cmpR op_eq (pe_callB call_len_seq (by rfl) B.b_len (by decide +kernel) (pa_cons (pv 2) pa_nil)) pe_int (nomark _))))) (pss_cons (ps_for PassesOwn.never rfl (pi_range1 (by rfl) B.b_range (pa_cons (pe_op op_add (pe_callB call_len_seq (by rfl) B.b_len (by decide +kernel) (pa_cons (pv 1) pa_nil)) pe_int) pa_nil)) (pg_name (i := 5) sc_standard2.nd rfl (by first | exact Or.inl rfl | exact Or.inr rfl)) (pss_cons (ps_set (i := 6) sc_standard2.nd rfl (by first | exact Or.inl rfl | exact Or.inr rfl) (pe_c C_law_letters (hr.mono (by decide)) (pa_cons (pv 4) pa_nil)))
      (pss_cons (ps_set (i := 4) sc_standard2.nd rfl (by first | exact Or.inl rfl | exact Or.inr rfl) (pe_op op_add (pv 4) pe_int))
      (pss_one (ps_if (pt_cmpR op_notIn_seq (pv 6) (pv 1) (by rfl)) (pss_one ps_break) pss_nil)))))
      (pss_one (ps_dput (hu_of hr) (pv 3) (pe_tup (pa_cons (pe_ix ix_tup (pv 2) pe_int (fun _ _ => rfl)) (pa_cons (pe_ix ix_tup (pv 2) pe_int (fun _ _ => rfl)) pa_nil))) (pv 6) rfl))) pss_nil)))
      (pss_cons (ps_set (i := 7) sc_standard2.nd rfl (by first | exact Or.inl rfl | exact Or.inr rfl) (pe_lst pa_nil))
      (pss_cons (ps_for PassesOwn.never rfl (pi_list (pv 0)) (pg_name (i := 2) sc_standard2.nd rfl (by first | exact Or.inl rfl | exact Or.inr rfl)) (pss_one (ps_if (pt_val (pe_callB call_isi (by rfl) B.b_isinstance (by decide +kernel) (pa_cons (pv 2) (pa_cons (pe_ty (n := "str") B.b_str (by decide +kernel)) pa_nil)))) (pss_one (ps_expr (pe_bm PySem.F.plainAttrs_list PySem.F.slot_list_append PySem.F.type_list_append mt_append (pv 7) (pa_cons (pv 2) pa_nil)))) (pss_one (ps_expr (pe_bm PySem.F.plainAttrs_list PySem.F.slot_list_append PySem.F.type_list_append mt_append (pv 7) (pa_cons (pe_ifExp (pt_cmpR op_eq (pe_callB call_len_seq (by rfl) B.b_len (by decide +kernel) (pa_cons (pv 2) pa_nil)) pe_int (nomark _)) (pe_op op_add_str pe_str (pe_dget (hu_of hr) (pv 3) (pe_tup (pa_cons (pe_ix ix_tup (pv 2) pe_int (fun _ _ => rfl)) (pa_cons (pe_ix ix_tup (pv 2) pe_int (fun _ _ => rfl)) pa_nil))) (fun _ _ => rfl))) (pe_dget (hu_of hr) (pv 3) (pv 2) (fun _ _ => rfl))) pa_nil)))))))
      (pss_one (ps_ret (pe_callTy call_tupleF (by rfl) B.b_tuple (by decide +kernel) (pa_cons (pv 7) pa_nil)))))))))), ?_⟩
    have hul : us.length = is.length := I0.len
    -- barred
    have hq0 : SqL K H q (us.map fun v => v) := by rw [List.map_id']; exact SqL.of hq
    refine ⟨_, rfl, q, rfl, ⟨_, hq0⟩, fun Bq nB => lc_fmL (f := fun v => v) (r := strV) hq0 nB (by omega) (fun i v H' Qy Qn hv S1 gy gn => ?_) (fun H1 S1 L1 => ?_)⟩
    · obtain ⟨x, hx⟩ : ∃ x, is[i]? = some x := ⟨is[i]'(by rw [← hul]; exact (List.getElem?_eq_some_iff.mp hv).1), List.getElem?_eq_getElem _⟩
      obtain ⟨v', hv', iv⟩ := I0.at_ i x hx
      rw [hv] at hv'
      cases hv'
      cases x with
      | ap =>
        have e : v = wv .ap := iv
        subst e
        exact ⟨rfl, _, rfl, _, _, _, _, true, rfl, .ty _, .base (.str _), kit_ty kitSS, _, rfl, iteT ⟨_, rfl, gy _ _ (Same.refl _) rfl⟩⟩
      | op n =>
        have e : v = sv n := iv
        subst e
        exact ⟨rfl, _, rfl, _, _, _, _, true, rfl, .ty _, .base (.str _), kit_ty kitSS, _, rfl, iteT ⟨_, rfl, gy _ _ (Same.refl _) rfl⟩⟩
      | tk o =>
        obtain ⟨t, e, ht⟩ := iv
        subst e
        exact ⟨rfl, _, rfl, _, _, _, _, false, rfl, .ty _, .base (.tup (S1 _ _ ht)), kit_ty kitTS, _, rfl, iteF (gn _ (Same.refl _) rfl)⟩
      | nm o =>
        obtain ⟨t, e, ht⟩ := iv
        subst e
        exact ⟨rfl, _, rfl, _, _, _, _, false, rfl, .ty _, .base (.tup (S1 _ _ ht)), kit_ty kitTS, _, rfl, iteF (gn _ (Same.refl _) rfl)⟩
    · rw [bar_of I0] at L1
      have I1 := I0.same S1
      have hq1 := S1 _ _ hq
      obtain ⟨b, hb⟩ : ∃ b, b = (barN is).length := ⟨_, rfl⟩
      have hb4 : b ≤ 4000 := by rw [hb]; exact Nat.le_trans (barN_len is) hl
      have ht4 : (takesI is).length ≤ 4000 := Nat.le_trans (takesI_len is) hl
      refine fun D nD => ?_
      have S2 : Same H1 (upd H1 D (.dT [])) := same_upd nD
      have D2 : upd H1 D (.dT []) D = some (.dT []) := upd_same
      generalize upd H1 D (.dT []) = H2 at *
      refine ⟨_, rfl, q, rfl, ⟨_, SqL.of (S2 _ _ hq1)⟩, for_list (K := K) (a := q) (xs := us) (fun i σ H' => ∃ (v2 v5 v6 : Option V) (p : Nat) (kvs : List (List Key × V)), σ = [some (.ref q), some (.ref Bq), v2, some (.ref D), some (.int (p : Int)), v5, v6, none] ∧ Same H1 H' ∧ H' D = some (.dT kvs) ∧ p ≤ (takesI (is.take i)).length + b ∧ (cnt (barN is) p).length = (takesI (is.take i)).length ∧ Cld kvs (takesI (is.take i)) (cnt (barN is) p))
        ⟨none, none, none, 0, [], rfl, S2, D2, Nat.zero_le _, rfl, ⟨Nat.zero_le _, fun i o m h _ => by simp [takesI] at h⟩⟩ (fun i σ H' _ ⟨_, _, _, _, _, _, s, _⟩ => SqL.of (s _ _ hq1)) ?_ ?_⟩
      · rintro i v σ H3 hv ⟨v2, v5, v6, p, kvs, rfl, S3, D3, hp, hc, cl⟩
        obtain ⟨x, hx⟩ : ∃ x, is[i]? = some x := ⟨is[i]'(by rw [← hul]; exact (List.getElem?_eq_some_iff.mp hv).1), List.getElem?_eq_getElem _⟩
        obtain ⟨v', hv', iv⟩ := I1.at_ i x hx
        rw [hv] at hv'
        cases hv'
        have sn := takesI_snoc hx
        cases x with
        | ap =>
          have e : v = wv .ap := iv
          subst e
          rw [show takesI (is.take (i + 1)) = takesI (is.take i) by rw [sn]; exact List.append_nil _]
          exact ⟨_, rfl, _, _, _, _, false, rfl, .ty _, .base (.str _), kit_ty kitST, _, rfl, iteF (iteF ⟨_, v5, v6, p, kvs, rfl, S3, D3, hp, hc, cl⟩)⟩
        | op n =>
          have e : v = sv n := iv
          subst e
          rw [show takesI (is.take (i + 1)) = takesI (is.take i) by rw [sn]; exact List.append_nil _]
          exact ⟨_, rfl, _, _, _, _, false, rfl, .ty _, .base (.str _), kit_ty kitST, _, rfl, iteF (iteF ⟨_, v5, v6, p, kvs, rfl, S3, D3, hp, hc, cl⟩)⟩
        | nm o =>
          obtain ⟨t, e, ht⟩ := iv
          subst e
          rw [show takesI (is.take (i + 1)) = takesI (is.take i) by rw [sn]; exact List.append_nil _]
          refine ⟨_, rfl, _, _, _, _, true, rfl, .ty _, .base (.tup (S3 _ _ ht)), kit_ty kitTT, _, rfl, iteT ⟨_, rfl, t, _, rfl, .inr (SqT.of (S3 _ _ ht)), rfl, _, rfl, ?_⟩⟩
          exact iteN (fun e => by have := V.int.inj e; simp at this) ⟨_, v5, v6, p, kvs, rfl, S3, D3, hp, hc, cl⟩
        | tk o =>
          obtain ⟨t, e, ht⟩ := iv
          subst e
          have sn2 : takesI (is.take (i + 1)) = takesI (is.take i) ++ [o] := sn
          have ho : o ∈ takesI is := mem_takesI.mpr (List.mem_of_getElem? hx)
          have nd1 : (takesI (is.take (i + 1))).Nodup := wl.nd.sublist ((List.take_sublist _ _).filterMap _)
          have no : o ∉ takesI (is.take i) := fun h => by
            rw [sn2] at nd1
            exact (List.nodup_append.mp nd1).2.2 o h o (List.mem_singleton.mpr rfl) rfl
          have tl : (takesI (is.take i)).length ≤ 4000 := Nat.le_trans (takesI_len _) (by rw [List.length_take]; omega)
          have hT := cnt_le (barN is) p
          refine ⟨_, rfl, _, _, _, _, true, rfl, .ty _, .base (.tup (S3 _ _ ht)), kit_ty kitTT, _, rfl, iteT ⟨_, rfl, t, _, rfl, .inr (SqT.of (S3 _ _ ht)), rfl, _, rfl, ?_⟩⟩
          refine iteD rfl ?_
          have en : ((((barN is).map sv).length : Nat) + 1 : Int).toNat = b + 1 := by rw [List.length_map]; omega
          refine ⟨_, rfl, _, _, rfl, .inl (SqL.of (S3 _ _ L1)), _, _, rfl, rfl, _, rfl, ?_, ?_, for_range_brk (lo := 0) (n := ((((barN is).map sv).length : Nat) + 1 : Int).toNat)
            (fun σ H' => ∃ (v5 : Option V) (p' : Nat) (m : Nm), σ = [some (.ref q), some (.ref Bq), some (.ref t), some (.ref D), some (.int (p' : Int)), v5, some (sv m), none] ∧ H' = H3 ∧ cnt (barN is) p' = cnt (barN is) p ++ [m] ∧ p' ≤ (takesI (is.take i)).length + 1 + b)
            (fun j σ H' => ∃ (v5 v6 : Option V), σ = [some (.ref q), some (.ref Bq), some (.ref t), some (.ref D), some (.int ((p + j : Nat) : Int)), v5, v6, none] ∧ H' = H3 ∧ cnt (barN is) (p + j) = cnt (barN is) p)
            ⟨v5, v6, rfl, rfl, rfl⟩ ?_ ?_ ?_⟩
          · rw [List.length_map]; omega
          · rw [List.length_map]; omega
          · rintro kb j σ H' hj ⟨v5, v6, rfl, rfl, hcj⟩
            rw [en] at hj
            have cl2 := cnt_len (B := barN is) (p := p + j) (by omega)
            rw [hcj, hc, ← hb] at cl2
            refine ⟨_, rfl, p + j, rfl, by omega, ?_⟩
            refine ⟨_, rfl, _, _, rfl, rfl, ?_⟩
            refine ⟨_, rfl, _, rfl, Bq, _, rfl, .inl (SqL.of (S3 _ _ L1)), rfl, flat_sv _, ?_⟩
            rw [in_sv]
            refine ⟨_, rfl, ?_⟩
            have e1 : (((p + j : Nat) : Int) + 1) = ((p + j + 1 : Nat) : Int) := by omega
            by_cases hm : lett (p + j) ∈ barN is
            · rw [decide_eq_true hm]
              refine iteF ⟨some (.int (0 + (j : Nat))), some (sv (lett (p + j))), rfl, rfl, ?_⟩
              show cnt (barN is) (p + j + 1) = _
              rw [cnt_in hm, hcj]
            · rw [decide_eq_false hm]
              refine iteT (kb _ _ ⟨_, p + j + 1, lett (p + j), rfl, rfl, ?_, ?_⟩)
              · rw [cnt_out hm, hcj]
              · omega
          · rintro σ H' ⟨v5, v6, rfl, rfl, hcj⟩
            rw [en] at hcj
            have cl2 := cnt_len (B := barN is) (p := p + (b + 1)) (by omega)
            rw [hcj, hc, ← hb] at cl2
            omega
          · rintro σ H' ⟨v5, p', m, rfl, rfl, hcm, hp'⟩
            have ht3 := S3 _ _ ht
            refine ⟨_, rfl, _, rfl, _, rfl, t, _, _, _, rfl, rfl, SqT.of ht3, atI_nat (j := 1) (v := .str (mkS o.1)) rfl, _, rfl, t, _, _, _, rfl, rfl, SqT.of ht3, atI_nat (j := 2) (v := sv o.2) rfl, (by show 2 ≤ sizeLine; decide), fun tk ntk => ?_⟩
            have S4 : Same H' (upd H' tk (.tup [.str (mkS o.1), sv o.2])) := same_upd ntk
            have K4 : upd H' tk (.tup [.str (mkS o.1), sv o.2]) tk = some (.tup ((keyO o).map kV)) := upd_same
            have D4 := S4 _ _ D3
            have kl : kvs.length < sizeLine := small_lt (m := 4000) (by have := cl.len; omega) (by decide)
            refine ⟨D, _, rfl, DPut.t (k := keyO o) D4 K4 kl, ?_⟩
            refine ⟨_, v5, _, p', _, rfl, fun b' u hb' => ?_, upd_same, ?_, ?_, ?_⟩
            · rw [upd_ne (ne_of_none hb' nD)]
              exact S4 _ _ (S3 _ _ hb')
            · rw [sn2, List.length_append, List.length_singleton]; omega
            · rw [hcm, sn2, List.length_append, List.length_append, hc]; rfl
            · rw [hcm, sn2]
              exact cl.put hc (fun o' h => lt2 o' (((List.take_sublist i is).filterMap _).subset h)) (lt2 o ho) no
      · rintro σ H3 ⟨v2, v5, v6, p, kvs, rfl, S3, D3, hp, hc, cl⟩
        rw [hul, List.take_length] at hp hc cl
        have cf := cnt_fresh (B := barN is) hc (by omega) (by omega)
        have bnd : (takesI is).length + (barN is).length ≤ 217180147158 := by omega
        obtain ⟨fr, hfr⟩ : ∃ fr, fr = frI (barN is) is := ⟨_, rfl⟩
        have hval : ∀ o ∈ takesI is, valV kvs (keyO o) = some (sv (rdO fr o)) := fun o h => by
          obtain ⟨i, hi⟩ := List.mem_iff_getElem?.mp h
          have e := rdO_at (held := barN is) wl.nd bnd hi
          rw [← cf] at e
          rw [hfr]
          exact cl.at_ i o _ hi e.symm
        have hlen : ∀ o ∈ takesI is, nmOk (rdO fr o) := fun o h => by
          rw [hfr]
          exact freshN_ok bnd (rdO_fresh wl.nd bnd h)
        refine ⟨Nat.zero_le _, fun F nF => ?_⟩
        have S4 : Same H3 (upd H3 F (.lst [])) := same_upd nF
        have U4 : upd H3 F (.lst []) F = some (.lst []) := upd_same
        generalize upd H3 F (.lst []) = H4 at *
        have I3 := I1.same S3
        have hq3 := S3 _ _ hq1
        refine ⟨_, rfl, q, rfl, ⟨_, SqL.of (S4 _ _ hq3)⟩, for_list (K := K) (a := q) (xs := us) (fun i σ H' => ∃ (v2 : Option V), σ = [some (.ref q), some (.ref Bq), v2, some (.ref D), some (.int (p : Int)), v5, v6, some (.ref F)] ∧ Same H3 H' ∧ H' F = some (.lst (((is.take i).map (outI fr)).map wv)))
          ⟨v2, rfl, S4, U4⟩ (fun i σ H' _ ⟨_, _, s, _⟩ => SqL.of (s _ _ hq3)) ?_ ?_⟩
        · rintro i v σ H5 hv ⟨v2, rfl, S5, U5⟩
          obtain ⟨x, hx⟩ : ∃ x, is[i]? = some x := ⟨is[i]'(by rw [← hul]; exact (List.getElem?_eq_some_iff.mp hv).1), List.getElem?_eq_getElem _⟩
          obtain ⟨v', hv', iv⟩ := I3.at_ i x hx
          rw [hv] at hv'
          cases hv'
          have D5 := S5 _ _ D3
          have ul : (((is.take i).map (outI fr)).map wv).length < sizeLine := by
            rw [List.length_map, List.length_map, List.length_take]
            exact small_lt (m := 4000) (by omega) (by decide)
          have fin : ∀ H6 y, Same H5 H6 → y = wv (outI fr x) → ∃ v2 : Option V, [some (V.ref q), some (V.ref Bq), some v, some (V.ref D), some (V.int (p : Int)), v5, v6, some (V.ref F)] = [some (V.ref q), some (V.ref Bq), v2, some (V.ref D), some (V.int (p : Int)), v5, v6, some (V.ref F)] ∧ Same H3 (upd H6 F (.lst (((is.take i).map (outI fr)).map wv ++ [y]))) ∧ upd H6 F (.lst (((is.take i).map (outI fr)).map wv ++ [y])) F = some (.lst (((is.take (i + 1)).map (outI fr)).map wv)) := by
            intro H6 y S6 hy
            refine ⟨_, rfl, fun b' u hb' => by rw [upd_ne (ne_of_none hb' nF)]; exact S6 _ _ (S5 _ _ hb'), ?_⟩
            rw [upd_same, List.take_add_one, hx, List.map_append, List.map_append, hy]
            rfl
          cases x with
          | ap =>
            have e : v = wv .ap := iv
            subst e
            exact ⟨_, rfl, _, _, _, _, true, rfl, .ty _, .base (.str _), kit_ty kitSS, _, rfl, iteT ⟨_, rfl, .inl ⟨rfl, _, SqL.of U5⟩, _, rfl, F, _, _, rfl, rfl, U5, ul, fin _ _ (Same.refl _) rfl⟩⟩
          | op n =>
            have e : v = sv n := iv
            subst e
            exact ⟨_, rfl, _, _, _, _, true, rfl, .ty _, .base (.str _), kit_ty kitSS, _, rfl, iteT ⟨_, rfl, .inl ⟨rfl, _, SqL.of U5⟩, _, rfl, F, _, _, rfl, rfl, U5, ul, fin _ _ (Same.refl _) rfl⟩⟩
          | tk o =>
            obtain ⟨t, e, ht⟩ := iv
            subst e
            have ho : o ∈ takesI is := mem_takesI.mpr (List.mem_of_getElem? hx)
            have ht5 := S5 _ _ ht
            refine ⟨_, rfl, _, _, _, _, false, rfl, .ty _, .base (.tup ht5), kit_ty kitTS, _, rfl, iteF ⟨_, rfl, .inl ⟨rfl, _, SqL.of U5⟩, _, rfl, t, _, rfl, .inr (SqT.of ht5), rfl, _, rfl, ?_⟩⟩
            refine iteD rfl ?_
            refine ⟨_, rfl, _, rfl, t, _, _, _, rfl, rfl, SqT.of ht5, atI_nat (j := 1) (v := .str (mkS o.1)) rfl, _, rfl, t, _, _, _, rfl, rfl, SqT.of ht5, atI_nat (j := 2) (v := sv o.2) rfl, (by show 2 ≤ sizeLine; decide), fun tk ntk => ?_⟩
            have S6 : Same H5 (upd H5 tk (.tup [.str (mkS o.1), sv o.2])) := same_upd ntk
            have K6 : upd H5 tk (.tup [.str (mkS o.1), sv o.2]) tk = some (.tup ((keyO o).map kV)) := upd_same
            have dg := DGet.t (k := keyO o) (S6 _ _ D5) K6
            rw [hval o ho] at dg
            refine ⟨D, _, rfl, dg, _, _, rfl, rfl, ?_, ?_⟩
            · rw [len_str, TL.len_tl, slash]
              exact Nat.le_of_lt (small_lt (m := 10) (by have := (hlen o ho).2.1; simp; omega) (by decide))
            · rw [take_str]
              exact ⟨F, _, _, rfl, rfl, S6 _ _ U5, ul, fin _ _ S6 rfl⟩
          | nm o =>
            obtain ⟨t, e, ht⟩ := iv
            subst e
            have ho : o ∈ takesI is := wl.all o (List.mem_of_getElem? hx)
            have ht5 := S5 _ _ ht
            refine ⟨_, rfl, _, _, _, _, false, rfl, .ty _, .base (.tup ht5), kit_ty kitTS, _, rfl, iteF ⟨_, rfl, .inl ⟨rfl, _, SqL.of U5⟩, _, rfl, t, _, rfl, .inr (SqT.of ht5), rfl, _, rfl, ?_⟩⟩
            refine iteN (fun e => by have := V.int.inj e; simp at this) ?_
            have dg := DGet.t (k := keyO o) D5 (b := t) (by exact ht5)
            rw [hval o ho] at dg
            exact ⟨_, rfl, _, rfl, D, _, rfl, dg, F, _, _, rfl, rfl, U5, ul, fin _ _ (Same.refl _) rfl⟩
        · rintro σ H5 ⟨v2, rfl, S5, U5⟩
          rw [hul, List.take_length] at U5
          have es : is.map (outI fr) = stdI (opensI is) is := by
            rw [← std_bar (by omega), hfr]
            rfl
          rw [es] at U5
          refine ⟨_, rfl, F, _, rfl, SqL.of U5, fun r o nr ho => ?_⟩
          have S15 := (S1.trans S3).trans S5
          exact k _ r (S15.trans (same_upd nr)) (S15.free nr) (TupF.new ho)
end
end Kk

set_option maxHeartbeats 2000000
/-! != of two Programs: object's own, which asks their __eq__ -/
namespace Kk
open PySem PySem.Spec PyProof.Rows L2 Wd
theorem ifBound_B {M : Model} {A : Around} {E : Value → Shared → Prop} {s : Shared} {K : PySem.W.Frag} {x C : Addr} {ox : Obj} {od : Option Obj} {name : Str} {id : String} {args : List Value} {Q : Option Value → Shared → Prop} (X : K.In s.heap) (I : PySem.W.InstAt s.heap x ox C od)
    (hs : PySem.W.findIn K (.ref C) name = some (some (.builtin id))) (hb : ∀ self, bindSpecial (.builtin id) self = pure (.builtin id, [self])) (h : wpAny M A (call (.builtin id) (.ref x :: args)) (fun v => Q (some v)) E s) : wpAny M A (callSpecialIfBound? (.ref x) name args) Q E s := by
  simp only [callSpecialIfBound?, bindSpecialIfBound?]
  refine wpAny_holding (wpAny_bind (wpAny_bind (wpAny_bind (I.type.here ((PySem.W.looks_findIn X hs).here ?_)))))
  refine wpAny_bind (wpAny_askSetting (wpAny_ite ?_))
  have fin : wpAny M A (call (.builtin id) ([.ref x] ++ args) >>= fun v => pure (some v)) Q E s := wpAny_bind (wpAny_mono h (fun v s' h' => wpAny_pure h') fun _ _ h' => h')
  split
  · exact wpAny_bind (wpAny_of_eq (hb _) (wpAny_pure (by exact fin)))
  · exact wpAny_tryCatch (wpAny_bind (wpAny_of_eq (hb _) (wpAny_pure (by exact fin))))
def rNeP (K : PySem.W.Frag) (C : Addr) : R2 := fun x y H Q => ∃ (a b : Addr) (ws us : List W), x = .ref a ∧ y = .ref b ∧ Two K C H a b ws us ∧ Q (.bl (!decide (ws = us))) H
/-- the class has object's != -/
structure NeC (K : PySem.W.Frag) (C : Addr) : Prop where
  n : PySem.W.findIn K (.ref C) "__ne__" = some (some (.builtin "object.__ne__"))
  o : PySem.W.mroIn K C (.type "object") = some true
theorem op_neP {X : Cx} {C : Addr} (EQ : Eqr X.prog X.w X.K X.mg X.base C) (NC : NeC X.K C) (hr : Room 2 X.A) : OpR X (compareOp .NotEq) (rNeP X.K C) := by
  obtain ⟨f, fd, h1, h2, h3, F⟩ := EQ
  intro pins s σ H x y v u Q I rx ry d
  obtain ⟨a, b, ws, us, rfl, rfl, T, q⟩ := d
  obtain ⟨⟨p, r, ⟨dx, e1⟩, ⟨dy, e2⟩, t1, t2⟩, o1, o2⟩ := id T
  cases rx
  cases ry
  obtain ⟨mA, J, _⟩ := ins_get I.hok e1
  obtain ⟨mB, J', _⟩ := ins_get I.hok e2
  obtain ⟨od, J, _⟩ := J.look
  obtain ⟨od', J', _⟩ := J'.look
  show wpAny (model X.prog X.w) X.A (richCompare .NotEq (.ref a) (.ref b)) (EP X pins σ Q) X.xe s
  have one : wpAny (model X.prog X.w) X.A (tryCompare (.ref a) (cmpInfo .NotEq).2.1 (.ref b)) (fun r s' => ∃ v, r = some v ∧ EP X pins σ Q v s') X.xe s := by
    unfold tryCompare
    refine wpAny_bind (ifBound_B I.kIn J NC.n PySem.F.cmp_object.ne.bind ?_)
    have sub : PySem.W.Looks (model X.prog X.w) s.heap (isInstance (.ref a) (.type "object")) true := J.type.andThen (PySem.W.looks_mroIn I.kIn NC.o)
    refine wpAny_call (codeAny_call_builtin PySem.F.cmp_object.ne.plain PySem.F.cmpEntry_ne (PySem.W.check_slot PySem.F.cmpKind_ne PySem.F.cmpSplit_ne sub (PySem.F.cmpArgs_ne _ _) ?_))
    unfold Builtin.«object.__ne__»
    show wpAny _ X.A.in1 (slotArgs "__ne__" 1 ⟨[.ref a, .ref b], []⟩ >>= _) _ _ s
    unfold slotArgs
    refine wpAny_bind (wpAny_pure ?_)
    dsimp only
    refine wpAny_bind (wpAny_cRoomFor (by have := hr.units; show X.A.units + 1 < cLine; omega) ?_)
    have e0 : Env0 X.prog X.w X.K X.mg X.base X.A.in1 X.stack s H := I.env0.in1
    have hsp : spEqP X.K C [V.ref a, V.ref b] H (fun v H' => (∃ c, v = .bl c) ∧ v = .bl (decide (ws = us)) ∧ H' = H) E0 := ⟨a, b, ws, us, rfl, T, ⟨_, rfl⟩, rfl, rfl⟩
    have r2 : Vals [V.ref a, V.ref b] [Value.ref a, Value.ref b] := .cons rfl (.cons rfl .nil)
    refine wpAny_bind (PySem.W.ifBound_K I.kIn J h1 h2 (wpAny_call (codeAny_mono (F.run X.A.in1 X.stack s H ⟨[.ref a, .ref b], []⟩ [.ref a, .ref b] [.ref a, .ref b] _ E0 hr.in1 e0 (by
      have := h3 s [.ref a, .ref b] I.kIn rfl
      simpa using this) r2 hsp) fun r s' hq => ?_)))
    cases r with
    | error e => exact pass0 pins σ H s e s' I hq
    | ok fl =>
      cases fl with
      | ret w =>
        obtain ⟨z, H', I', rz, _, ez, eH⟩ := I.after hq
        subst ez eH
        cases rz
        show wpAny _ X.A.in1 (truthy (.bool (decide (ws = us))) >>= _) _ _ s'
        refine wpAny_bind (wpAny_of_eq (a := decide (ws = us)) (by rfl) ?_)
        exact wpAny_pure (wpAny_pure ⟨_, rfl, .bl (!decide (ws = us)), _, I', rfl, q⟩)
      | next => exact False.elim hq
      | brk => exact False.elim hq
      | cont => exact False.elim hq
  unfold richCompare
  simp only [oneThing_ref]
  refine wpAny_holding (wpAny_bind (wpAny_cRoomFor hr.units0 ?_))
  refine wpAny_bind (J.type.here (wpAny_bind (J'.type.here ?_)))
  refine wp_if_neg (by simp) ?_
  refine wpAny_bind (wpAny_pure ?_)
  refine wp_if_neg (by decide) ?_
  refine wpAny_bind (wpAny_mono one (fun r s' z => ?_) fun _ _ e => e)
  obtain ⟨v, rfl, hq⟩ := z
  exact wpAny_pure hq
end Kk

set_option maxHeartbeats 4000000
namespace Kk
open PySem PySem.Spec PyProof.Rows L2 Wd
/-! programs one within another -/
def combT : List Nm → List Bool → Nm → T
  | n :: ns, b :: bs, l => if b = true then .ap (combT ns bs l) (.nm n) else .ap (.nm n) (combT ns bs l)
  | _, _, l => .nm l
def chainT : List Nm → Nm → T
  | [], l => .tk l (.nm l)
  | n :: ns, l => .tk n (.ap (.nm n) (chainT ns l))
def tksT : List Nm → T → T
  | [], t => t
  | n :: ns, t => .tk n (tksT ns t)
theorem comb_lv : ∀ (ns : List Nm) (bs : List Bool) (l : Nm), bs.length = ns.length → (combT ns bs l).lv.Perm (ns ++ [l]) ∧ (combT ns bs l).sc ∧ (combT ns bs l).tks = [] ∧ (combT ns bs l).aps = ns.length
  | [], [], l, _ => ⟨List.Perm.refl _, trivial, rfl, rfl⟩
  | n :: ns, b :: bs, l, h => by
    obtain ⟨h1, h2, h3, h4⟩ := comb_lv ns bs l (by simpa using h)
    unfold combT
    cases b with
    | true =>
      refine ⟨?_, ⟨h2, trivial⟩, by show _ ++ _ = _; rw [h3]; rfl, by show _ = _; simp [T.aps, h4]⟩
      show ((combT ns bs l).lv ++ [n]).Perm _
      exact (List.perm_append_comm).trans (h1.cons n)
    | false =>
      refine ⟨?_, ⟨trivial, h2⟩, by show _ ++ _ = _; rw [h3]; rfl, by show _ = _; simp [T.aps, h4]⟩
      show ([n] ++ (combT ns bs l).lv).Perm _
      exact h1.cons n
theorem tks_ws : ∀ (ns : List Nm) (t : T), (tksT ns t).ws = ns.map W.tk ++ t.ws
  | [], t => rfl
  | n :: ns, t => by show W.tk n :: (tksT ns t).ws = _; rw [tks_ws ns t]; rfl
theorem tks_lv : ∀ (ns : List Nm) (t : T), (tksT ns t).lv = t.lv ∧ (tksT ns t).tks = ns ++ t.tks ∧ (t.sc → (∀ n ∈ ns, n ∈ t.lv) → (tksT ns t).sc)
  | [], t => ⟨rfl, rfl, fun h _ => h⟩
  | n :: ns, t => by
    obtain ⟨h1, h2, h3⟩ := tks_lv ns t
    refine ⟨h1, by show n :: _ = _; rw [h2]; rfl, fun h k => ⟨by rw [h1]; exact k n (List.mem_cons_self ..), h3 h fun m hm => k m (List.mem_cons_of_mem _ hm)⟩⟩
theorem vd_tree {t : T} (s : t.sc) (nl : t.lv.Nodup) (nt : t.tks.Nodup) (ok : ∀ n ∈ t.lv, nmOk n) : Vd t.ws := by
  refine ⟨⟨t, rfl, s, nl, nt⟩, fun w hw => ?_⟩
  cases w with
  | ap => trivial
  | nm n => exact ok n (mem_lv_ws hw)
  | tk n => exact ok n (T.tk_lv t n s (mem_tks_ws hw))
theorem nested_vd {ns ks : List Nm} {bs : List Bool} {l : Nm} (h : bs.length = ns.length) (nd : (ns ++ [l]).Nodup) (ok : ∀ n ∈ ns ++ [l], nmOk n) (kn : ks.Nodup) (kin : ∀ n ∈ ks, n ∈ ns ++ [l]) : Vd (ks.map W.tk ++ (combT ns bs l).ws) := by
  obtain ⟨h1, h2, h3, _⟩ := comb_lv ns bs l h
  obtain ⟨e1, e2, e3⟩ := tks_lv ks (combT ns bs l)
  rw [← tks_ws]
  refine vd_tree (e3 h2 fun n hn => h1.mem_iff.mpr (kin n hn)) (by rw [e1]; exact h1.nodup_iff.mpr nd) (by rw [e2, h3, List.append_nil]; exact kn) fun n hn => ?_
  rw [e1] at hn
  exact ok n (h1.mem_iff.mp hn)
theorem chain_lv : ∀ (ns : List Nm) (l : Nm), (chainT ns l).lv = ns ++ [l] ∧ (chainT ns l).tks = ns ++ [l] ∧ (chainT ns l).sc ∧ (chainT ns l).aps = ns.length
  | [], l => ⟨rfl, rfl, ⟨by simp [T.lv], trivial⟩, rfl⟩
  | n :: ns, l => by
    obtain ⟨h1, h2, h3, h4⟩ := chain_lv ns l
    refine ⟨?_, ?_, ⟨by simp [T.lv], trivial, h3⟩, ?_⟩
    · show [n] ++ (chainT ns l).lv = _; rw [h1]; rfl
    · show n :: ([] ++ (chainT ns l).tks) = _; rw [h2]; rfl
    · simp [chainT, T.aps, h4]
theorem chain_ws (n : Nm) (ns : List Nm) (l : Nm) : (chainT (n :: ns) l).ws = [.tk n, .ap, .nm n] ++ (chainT ns l).ws := rfl
theorem last_at {ns : List Nm} {l : Nm} : atI ((ns ++ [l]).map sv) (-1) = some (sv l) := by
  unfold atI ixN
  rw [if_neg (by decide), if_pos (by simp; omega)]
  have e : ((-1 : Int) + (((ns ++ [l]).map sv).length : Nat)).toNat = ns.length := by simp; omega
  rw [e]
  simp
theorem cut_last {ns : List Nm} {l : Nm} : cutV ((ns ++ [l]).map sv) none (some (-1)) = ns.map sv := by
  unfold cutV
  have e : HT.sIx ((ns ++ [l]).map sv).length ((ns ++ [l]).map sv).length (some (-1)) = ns.length := by
    simp [HT.sIx]
    omega
  rw [HT.sIx_none, e, List.drop_zero, Nat.sub_zero, List.map_append, List.take_left' (by simp)]
end Kk

set_option maxHeartbeats 4000000
namespace Kk
open PySem PySem.Spec PyProof.Rows L2 Wd
section
variable {P : Program} {w : World} {K : PySem.W.Frag} {mg : Str → Option Value} {base : Heap}
theorem rep_flat : ∀ (m : Nat) (b : Bool), (List.replicate m [V.bl b]).flatten = (List.replicate m b).map V.bl
  | 0, _ => rfl
  | n + 1, b => by rw [List.replicate_succ, List.flatten_cons, rep_flat n b, List.replicate_succ]; rfl
def spSides : Sp := fun vs H Q _ => ∃ (p g s : Addr) (m : Nat), vs = [.ref p, .int (m : Nat)] ∧ PotAt H p g s ∧ m ≤ 400 ∧
  ∀ (H' : Hp) (q : Addr) (bs : List Bool), bs.length = m → PotAt H' p g s → H' q = some (.lst (bs.map V.bl)) → q ≠ p → q ≠ g → Keep p g H H' → Q (.ref q) H'
abbrev s_sides : Stmt := (top 54)
theorem sc_sides : FnScope ["_law_pot_here", "_law_many", "_law_turn", "_law_at"] ["_law_pot_here", "_law_many"] (defScope s_sides) := ⟨rfl, rfl, rfl, by decide +kernel, rfl, by decide +kernel, by decide +kernel⟩
theorem c_sides (B : Bt mg) (D : DefAt K mg "_law_sides" s_sides) (C_law_draw : Cal P w K mg base "_law_draw" 1 ["_law_pot_here", "_law_many"] spDraw) : Cal P w K mg base "_law_sides" 2 ["_law_pot_here", "_law_many"] spSides := by
  refine cal_of D sc_sides (fun _ _ _ _ _ _ us hl => match us, hl with | [_, _], _ => rfl) (fun vs H Q E h => ?_) (fun fa cdv A outer st0 H vs Q E hr h => ?_)
  · obtain ⟨p, g, s, m, rfl, _⟩ := h
    rfl
  · obtain ⟨p, g, s, m, rfl, PA, hm, k⟩ := h
    refine ⟨_, (pss_cons (ps_set (i := 2) sc_sides.nd rfl (by first | exact Or.inl rfl | exact Or.inr rfl) (pe_c C_law_draw (hr.mono (by decide)) (pa_cons (pv 0) (pa_cons pe_int pa_nil))))
      (pss_cons (ps_if (pt_cmpR op_lt (pv 2) pe_int (nomark _)) (pss_one (ps_ret (pe_op op_rep (pe_lst (pa_cons (pe_cmpR op_eq (pv 2) pe_int (nomark _)) pa_nil)) (pv 1)))) pss_nil)
      (pss_cons (ps_if (pt_cmpR op_eq (pv 2) pe_int (nomark _)) (pss_one (ps_ret (pe_lc (own := [("_law_at", 3)]) (g := (gName 3)) (tt := tYes) rfl sc_sides.nd (pi_range1 (by rfl) B.b_range (pa_cons (pv 1) pa_nil)) (blkOk_by (own := [("_law_at", 3)]) (N := ["_law_pot_here", "_law_many", "_law_turn", "_law_at"]) (sc := defScope s_sides) (by decide +kernel)) (fun _ _ _ _ _ => (pg_name (i := 3) sc_sides.nd rfl (by first | exact Or.inl rfl | exact Or.inr rfl))) (fun _ _ _ _ _ => pts_nil) (fun _ _ _ _ _ => (pe_cmpR op_eq (pe_op op_mod (pe_callTy call_int1 (by rfl) B.b_int (by decide +kernel) (pa_cons (pv 3) pa_nil)) pe_int) pe_int (nomark _)))))) pss_nil)
      (pss_one (ps_ret (pe_lc (own := [("_law_at", 3)]) (g := (gName 3)) (tt := tYes) rfl sc_sides.nd (pi_range1 (by rfl) B.b_range (pa_cons (pv 1) pa_nil)) (blkOk_by (own := [("_law_at", 3)]) (N := ["_law_pot_here", "_law_many", "_law_turn", "_law_at"]) (sc := defScope s_sides) (by decide +kernel)) (fun _ _ _ _ _ => (pg_name (i := 3) sc_sides.nd rfl (by first | exact Or.inl rfl | exact Or.inr rfl))) (fun _ _ _ _ _ => pts_nil) (fun _ _ _ _ _ => (pe_cmpR op_eq (pe_c C_law_draw (hr.mono (by decide)) (pa_cons (pv 0) (pa_cons pe_int pa_nil))) pe_int (nomark _))))))))), ?_⟩
    refine ⟨_, rfl, p, g, s, 4, rfl, PA, by decide, by decide, fun H1 t P1 K1 t0 t1 => ?_⟩
    have em : ((m : Nat) : Int).toNat = m := Int.toNat_natCast m
    refine ⟨_, rfl, _, _, rfl, rfl, _, rfl, ?_⟩
    refine ite2 (fun _ => ?_) (fun _ => ?_)
    · refine ⟨_, rfl, rfl, (by show 1 ≤ sizeLine; decide), fun z nz => ?_⟩
      generalize hb : decide (V.int t = V.int 0) = b0
      have Lz : upd H1 z (.lst [V.bl b0]) z = some (.lst [V.bl b0]) := upd_same
      have Sz : Same H1 (upd H1 z (.lst [V.bl b0])) := same_upd nz
      have Pz := P1.keep Sz
      generalize upd H1 z (.lst [V.bl b0]) = H2 at *
      refine ⟨_, rfl, z, _, _, rfl, rfl, Lz, by omega, by omega, ?_, fun b nb => ?_⟩
      · rw [em, sizeLine_eq]; show 1 * _ ≤ _; omega
      have eb : (List.replicate ((m : Nat) : Int).toNat [V.bl b0]).flatten = (List.replicate m b0).map V.bl := by
        rw [em]; exact rep_flat m b0
      rw [eb]
      obtain ⟨bp, bg, _⟩ := Pz.new nb
      exact k _ b _ (by simp) (Pz.keep (same_upd nb)) upd_same bp bg fun x o hx x1 x2 => same_upd nb _ _ (Sz _ _ (K1 x o hx x1 x2))
    · refine ⟨_, rfl, rfl, _, rfl, ?_⟩
      refine ite2 (fun _ => ?_) (fun _ => ?_)
      · refine ⟨_, rfl, _, rfl, by omega, by omega, fun D nD => ?_⟩
        refine lc_range (lo := 0) (n := ((m : Nat) : Int).toNat) (fun i H' => Same H1 H' ∧ ∃ bs : List Bool, bs.length = i ∧ H' D = some (.lst (bs.map V.bl))) ⟨same_upd nD, [], rfl, upd_same⟩ ?_ ?_
        · rintro i H' hi ⟨S2, bs, lb, L2⟩
          rw [em] at hi
          refine ⟨rfl, _, rfl, .inl ⟨_, rfl, _, _, rfl, rfl, (show (0 : Int) < 2 by decide), rfl, ?_⟩⟩
          refine ⟨_, L2, ?_, fun x o hx => ?_, bs ++ [decide (V.int (((0 : Int) + (i : Int)) % 2) = V.int 0)], by rw [List.length_append, lb]; rfl, ?_⟩
          · rw [List.length_map]
            exact small_lt (m := 10000) (by omega) (by decide)
          · rw [upd_ne (ne_of_none hx nD)]
            exact S2 _ _ hx
          · rw [upd_same, List.map_append]; rfl
        · rintro H' ⟨S2, bs, lb, L2⟩
          obtain ⟨Dp, Dg, _⟩ := P1.new nD
          exact k _ D bs (lb.trans em) (P1.keep S2) L2 Dp Dg fun x o hx x1 x2 => S2 _ _ (K1 x o hx x1 x2)
      · refine ⟨_, rfl, _, rfl, by omega, by omega, fun D nD => ?_⟩
        obtain ⟨Dp, Dg, Ds⟩ := P1.new nD
        have nDH : ∀ x o, H x = some o → x ≠ p → x ≠ g → x ≠ D := fun x o hx x1 x2 => ne_of_none (K1 x o hx x1 x2) nD
        refine lc_range (lo := 0) (n := ((m : Nat) : Int).toNat) (fun i H' => PotAt H' p g s ∧ Keep p g H H' ∧ ∃ bs : List Bool, bs.length = i ∧ H' D = some (.lst (bs.map V.bl))) ⟨P1.keep (same_upd nD), fun x o hx x1 x2 => same_upd nD _ _ (K1 x o hx x1 x2), [], rfl, upd_same⟩ ?_ ?_
        · rintro i H' hi ⟨P2, K2, bs, lb, L2⟩
          rw [em] at hi
          refine ⟨rfl, _, rfl, p, g, s, 2, rfl, P2, by decide, by decide, fun H3 r P3 K3 r0 r1 => ⟨rfl, ?_⟩⟩
          have L3 := K3 _ _ L2 Dp Dg
          refine ⟨_, L3, ?_, P3.wr Dp Dg Ds, fun x o hx x1 x2 => ?_, bs ++ [decide (V.int r = V.int 0)], by rw [List.length_append, lb]; rfl, ?_⟩
          · rw [List.length_map]
            exact small_lt (m := 10000) (by omega) (by decide)
          · rw [upd_ne (nDH x o hx x1 x2)]
            exact K3 _ _ (K2 x o hx x1 x2) x1 x2
          · rw [upd_same, List.map_append]; rfl
        · rintro H' ⟨P2, K2, bs, lb, L2⟩
          exact k _ D bs (lb.trans em) P2 L2 Dp Dg K2
def spComb (K : PySem.W.Frag) : Sp := fun vs H Q _ => ∃ (q r : Addr) (ns : List Nm) (l : Nm) (bs : List Bool), vs = [.ref q, .ref r] ∧ H q = some (.lst ((ns ++ [l]).map sv)) ∧ H r = some (.lst (bs.map V.bl)) ∧ bs.length = ns.length ∧ ns.length ≤ 400 ∧
  ∀ H' t, Same H H' → TupF H' t ((combT ns bs l).ws.map wv) → Q (.ref t) H'
abbrev s_comb : Stmt := (top 55)
theorem sc_comb : FnScope ["_law_names", "_law_sides_here", "_law_head", "_law_tail", "_law_at"] ["_law_names", "_law_sides_here"] (defScope s_comb) := ⟨rfl, rfl, rfl, by decide +kernel, rfl, by decide +kernel, by decide +kernel⟩
theorem comb_len : ∀ (ns : List Nm) (bs : List Bool) (l : Nm), (combT ns bs l).ws.length ≤ 2 * ns.length + 1
  | [], bs, l => by cases bs <;> simp [combT, T.ws]
  | n :: ns, [], l => by simp [combT, T.ws]
  | n :: ns, b :: bs, l => by
    have := comb_len ns bs l
    unfold combT
    cases b <;> simp [T.ws] <;> omega
theorem c_comb (B : Bt mg) (D : DefAt K mg "_law_comb" s_comb) : Cal P w K mg base "_law_comb" 1 ["_law_names", "_law_sides_here"] (spComb K) := by
  refine cal_of D sc_comb (fun _ _ _ _ _ _ us hl => match us, hl with | [_, _], _ => rfl) (fun vs H Q E h => ?_) (fun fa cdv A outer st0 H vs Q E hr h => ?_)
  · obtain ⟨q, r, ns, l, bs, rfl, _⟩ := h
    rfl
  · obtain ⟨q, r, ns, l, bs, rfl, hq, hr', lb, ln, k⟩ := h
    refine ⟨_, (pss_cons (ps_set (i := 2) sc_comb.nd rfl (by first | exact Or.inl rfl | exact Or.inr rfl) (pe_tupF pa_nil))
      (pss_cons (ps_set (i := 3) sc_comb.nd rfl (by first | exact Or.inl rfl | exact Or.inr rfl) (pe_tupF pa_nil))
      (pss_cons (ps_for PassesOwn.never rfl (pi_range1 (by rfl) B.b_range (pa_cons (pe_callB call_len_seq (by rfl) B.b_len (by decide +kernel) (pa_cons (pv 1) pa_nil)) pa_nil)) (pg_name (i := 4) sc_comb.nd rfl (by first | exact Or.inl rfl | exact Or.inr rfl)) (pss_one (ps_if (pt_val (pe_ix ix_list (pv 1) (pv 4) (fun _ _ => rfl))) (pss_cons (ps_set (i := 2) sc_comb.nd rfl (by first | exact Or.inl rfl | exact Or.inr rfl) (pe_op op_catF (pv 2) (pe_tupF (pa_cons pe_str pa_nil))))
      (pss_one (ps_set (i := 3) sc_comb.nd rfl (by first | exact Or.inl rfl | exact Or.inr rfl) (pe_op op_catF (pe_tupF (pa_cons (pe_ix ix_list (pv 0) (pv 4) (fun _ _ => rfl)) pa_nil)) (pv 3))))) (pss_one (ps_set (i := 2) sc_comb.nd rfl (by first | exact Or.inl rfl | exact Or.inr rfl) (pe_op op_catF (pv 2) (pe_tupF (pa_cons pe_str (pa_cons (pe_ix ix_list (pv 0) (pv 4) (fun _ _ => rfl)) pa_nil)))))))))
      (pss_one (ps_ret (pe_op op_catF (pe_op op_catF (pv 2) (pe_tupF (pa_cons (pe_ix ix_list (pv 0) (pe_un un_neg pe_int) (fun _ _ => rfl)) pa_nil))) (pv 3))))))), ?_⟩
    have ll : ∀ vs : List W, (vs.map wv).length = vs.length := fun vs => List.length_map ..
    refine ⟨(by show 0 ≤ sizeLine; decide), fun t1 o1 n1 h1 => ?_⟩
    have S1 := same_upd (o := .frz o1 (.tup [])) n1
    have T1 : TupF (upd H t1 (.frz o1 (.tup []))) t1 ([] : List V) := TupF.new h1
    generalize upd H t1 (.frz o1 (.tup [])) = H1 at *
    refine ⟨(by show 0 ≤ sizeLine; decide), fun t2 o2 n2 h2 => ?_⟩
    have S2 := same_upd (o := .frz o2 (.tup [])) n2
    have T2 : TupF (upd H1 t2 (.frz o2 (.tup []))) t2 ([] : List V) := TupF.new h2
    generalize upd H1 t2 (.frz o2 (.tup [])) = H2 at *
    have S02 := S1.trans S2
    have lbm : (bs.map V.bl).length = bs.length := List.length_map ..
    refine ⟨_, rfl, _, _, rfl, .inl (SqL.of (S02 _ _ hr')), _, rfl, by omega, by omega, for_range (lo := 0) (n := (((bs.map V.bl).length : Nat) : Int).toNat) (fun i σ H' => ∃ (h t : Addr) (v4 : Option V) (hd tl : List W), σ = [some (.ref q), some (.ref r), some (.ref h), some (.ref t), v4] ∧ Same H H' ∧ TupF H' h (hd.map wv) ∧ TupF H' t (tl.map wv) ∧ (combT ns bs l).ws = hd ++ (combT (ns.drop i) (bs.drop i) l).ws ++ tl ∧ hd.length ≤ 2 * i ∧ tl.length ≤ i)
      ⟨t1, t2, none, [], [], rfl, S02, T1.same S2, T2, by simp, by simp, by simp⟩ ?_ ?_⟩
    · rintro i σ H' hi ⟨h, t, v4, hd, tl, rfl, S3, Th, Tt, ew, lh, lt⟩
      have hib : i < bs.length := by rw [lbm] at hi; omega
      have hin : i < ns.length := by omega
      have e0 : (0 : Int) + (i : Int) = (i : Int) := Int.zero_add _
      rw [e0]
      have gb : (bs.map V.bl)[i]? = some (V.bl bs[i]) := by rw [List.getElem?_map, List.getElem?_eq_getElem hib]; rfl
      have gn : ((ns ++ [l]).map sv)[i]? = some (sv ns[i]) := by rw [List.getElem?_map, List.getElem?_append_left hin, List.getElem?_eq_getElem hin]; rfl
      have dn : ns.drop i = ns[i] :: ns.drop (i + 1) := List.drop_eq_getElem_cons hin
      have db : bs.drop i = bs[i] :: bs.drop (i + 1) := List.drop_eq_getElem_cons hib
      rw [dn, db] at ew
      generalize ns[i] = n0 at *
      generalize bs[i] = b0 at *
      refine ⟨_, rfl, _, rfl, r, _, _, _, rfl, rfl, SqL.of (S3 _ _ hr'), atI_nat gb, b0, rfl, ?_⟩
      cases b0 with
      | true =>
        refine iteT ?_
        refine ⟨_, rfl, (by show 1 ≤ sizeLine; decide), fun t3 o3 n3 h3 => ?_⟩
        have S4 := same_upd (o := .frz o3 (.tup [V.str "@"])) n3
        have T3 : TupF (upd H' t3 (.frz o3 (.tup [V.str "@"]))) t3 [wv .ap] := TupF.new h3
        generalize upd H' t3 (.frz o3 (.tup [V.str "@"])) = H4 at *
        refine catF_of (Th.same S4) T3 (by rw [ll, List.length_singleton]; omega) fun H5 h5 S5 U5 => ?_
        have S35 := S3.trans (S4.trans S5)
        refine ⟨_, rfl, _, rfl, q, _, _, _, rfl, rfl, SqL.of (S35 _ _ hq), atI_nat gn, (by show 1 ≤ sizeLine; decide), fun t4 o4 n4 h4 => ?_⟩
        have S6 := same_upd (o := .frz o4 (.tup [sv n0])) n4
        have T4 : TupF (upd H5 t4 (.frz o4 (.tup [sv n0]))) t4 [wv (.nm n0)] := TupF.new h4
        generalize upd H5 t4 (.frz o4 (.tup [sv n0])) = H6 at *
        refine ⟨_, rfl, catF_of T4 (Tt.same (S4.trans (S5.trans S6))) (by rw [ll, List.length_singleton]; omega) fun H7 t7 S7 U7 => ?_⟩
        refine ⟨h5, t7, _, hd ++ [.ap], .nm n0 :: tl, rfl, S35.trans (S6.trans S7), ?_, U7, ?_, by rw [List.length_append, List.length_singleton]; omega, by rw [List.length_cons]; omega⟩
        · have := U5.same (S6.trans S7)
          rw [List.map_append]
          exact this
        · rw [ew]
          simp [combT, T.ws]
      | false =>
        refine iteF ?_
        refine ⟨_, rfl, _, rfl, _, rfl, q, _, _, _, rfl, rfl, SqL.of (S3 _ _ hq), atI_nat gn, (by show 2 ≤ sizeLine; decide), fun t3 o3 n3 h3 => ?_⟩
        have S4 := same_upd (o := .frz o3 (.tup [V.str "@", sv n0])) n3
        have T3 : TupF (upd H' t3 (.frz o3 (.tup [V.str "@", sv n0]))) t3 [wv .ap, wv (.nm n0)] := TupF.new h3
        generalize upd H' t3 (.frz o3 (.tup [V.str "@", sv n0])) = H4 at *
        refine catF_of (Th.same S4) T3 (by rw [ll]; simp; omega) fun H5 h5 S5 U5 => ?_
        refine ⟨h5, t, _, hd ++ [.ap, .nm n0], tl, rfl, S3.trans (S4.trans S5), ?_, Tt.same (S4.trans S5), ?_, by rw [List.length_append]; simp; omega, by omega⟩
        · rw [List.map_append]
          exact U5
        · rw [ew]
          simp [combT, T.ws]
    · rintro σ H' ⟨h, t, v4, hd, tl, rfl, S3, Th, Tt, ew, lh, lt⟩
      rw [lbm, Int.toNat_natCast] at ew lh lt
      rw [List.drop_of_length_le (by omega : bs.length ≥ ns.length), List.drop_of_length_le (Nat.le_refl _)] at ew
      refine ⟨_, rfl, _, rfl, _, rfl, q, _, _, _, rfl, rfl, SqL.of (S3 _ _ hq), last_at, (by show 1 ≤ sizeLine; decide), fun t3 o3 n3 h3 => ?_⟩
      have S4 := same_upd (o := .frz o3 (.tup [sv l])) n3
      have T3 : TupF (upd H' t3 (.frz o3 (.tup [sv l]))) t3 [wv (.nm l)] := TupF.new h3
      generalize upd H' t3 (.frz o3 (.tup [sv l])) = H4 at *
      refine catF_of (Th.same S4) T3 (by rw [ll, List.length_singleton]; omega) fun H5 h5 S5 U5 => ?_
      refine ⟨_, rfl, catF_of U5 (Tt.same (S4.trans S5)) (by rw [List.length_append, ll, ll, List.length_singleton]; omega) fun H6 h6 S6 U6 => ?_⟩
      have ee : hd.map wv ++ [wv (.nm l)] ++ tl.map wv = (combT ns bs l).ws.map wv := by rw [ew]; simp [combT, T.ws]
      rw [ee] at U6
      exact k H6 h6 (S3.trans (S4.trans (S5.trans S6))) U6
end
end Kk

set_option maxHeartbeats 4000000
namespace Kk
open PySem PySem.Spec PyProof.Rows L2 Wd
/-- a program of givens one within another -/
structure Deep (m : Nat) (ws : List W) : Prop where
  v : Vd ws
  l : ws.length ≤ 3 * m + 2
  a : apsOf ws = m
theorem aps_app (ws us : List W) : apsOf (ws ++ us) = apsOf ws + apsOf us := List.countP_append
theorem aps_tree (t : T) : apsOf t.ws = t.aps := by
  unfold apsOf
  rw [T.aps_ws, List.countP_eq_length_filter]
  congr 1
  refine List.filter_congr fun w _ => ?_
  cases w <;> simp [isAp]
theorem tl_slash (n : Nm) : V.str (("/" : Str) ++ str n) = wv (.tk n) := congrArg V.str (take_nm n)
theorem names_split {ns : List Nm} {m : Nat} (h : ns.length = m + 1) : ∃ as l, ns = as ++ [l] ∧ as.length = m := by
  refine ⟨ns.dropLast, ns.getLast (fun e => by rw [e] at h; simp at h), (List.dropLast_concat_getLast _).symm, by simp [h]⟩
section
variable {P : Program} {w : World} {K : PySem.W.Frag} {mg : Str → Option Value} {base : Heap}
def spDeep : Sp := fun vs H Q _ => ∃ (p g s : Addr) (m : Nat), vs = [.ref p, .int (m : Nat)] ∧ PotAt H p g s ∧ m ≤ 330 ∧
  ∀ (H' : Hp) (q : Addr) (ws : List W), Deep m ws → PotAt H' p g s → TupF H' q (ws.map wv) → Q (.ref q) H'
abbrev s_chain : Stmt := (top 57)
theorem sc_chain : FnScope ["_law_pot_here", "_law_many", "_law_names", "_law_one", "_law_head", "_law_name"] ["_law_pot_here", "_law_many"] (defScope s_chain) := ⟨rfl, rfl, rfl, by decide +kernel, rfl, by decide +kernel, by decide +kernel⟩
theorem c_chain (B : Bt mg) (D : DefAt K mg "_law_chain" s_chain) (C_law_fresh : Cal P w K mg base "_law_fresh" 2 ["_law_pot_here", "_law_used"] spFresh) : Cal P w K mg base "_law_chain" 3 ["_law_pot_here", "_law_many"] spDeep := by
  refine cal_of D sc_chain (fun _ _ _ _ _ _ us hl => match us, hl with | [_, _], _ => rfl) (fun vs H Q E h => ?_) (fun fa cdv A outer st0 H vs Q E hr h => ?_)
  · obtain ⟨p, g, s, m, rfl, _⟩ := h
    rfl
  · obtain ⟨p, g, s, m, rfl, PA, hm, k⟩ := h
    refine ⟨_, (pss_cons (ps_set (i := 2) sc_chain.nd rfl (by first | exact Or.inl rfl | exact Or.inr rfl) (pe_lst pa_nil))
      (pss_cons (ps_for PassesOwn.never rfl (pi_range1 (by rfl) B.b_range (pa_cons (pe_op op_add (pv 1) pe_int) pa_nil)) (pg_name (i := 3) sc_chain.nd rfl (by first | exact Or.inl rfl | exact Or.inr rfl)) (pss_one (ps_expr (pe_c C_law_fresh (hr.mono (by decide)) (pa_cons (pv 0) (pa_cons (pv 2) pa_nil))))))
      (pss_cons (ps_set (i := 4) sc_chain.nd rfl (by first | exact Or.inl rfl | exact Or.inr rfl) (pe_tupF pa_nil))
      (pss_cons (ps_for PassesOwn.never rfl (pi_list (pe_slice sl_list (pv 2) po_none (po_some (pe_un un_neg pe_int)))) (pg_name (i := 5) sc_chain.nd rfl (by first | exact Or.inl rfl | exact Or.inr rfl)) (pss_one (ps_set (i := 4) sc_chain.nd rfl (by first | exact Or.inl rfl | exact Or.inr rfl) (pe_op op_catF (pv 4) (pe_tupF (pa_cons (pe_op op_add_str pe_str (pv 5)) (pa_cons pe_str (pa_cons (pv 5) pa_nil))))))))
      (pss_one (ps_ret (pe_op op_catF (pv 4) (pe_tupF (pa_cons (pe_op op_add_str pe_str (pe_ix ix_list (pv 2) (pe_un un_neg pe_int) (fun _ _ => rfl))) (pa_cons (pe_ix ix_list (pv 2) (pe_un un_neg pe_int) (fun _ _ => rfl)) pa_nil)))))))))), ?_⟩
    have ll : ∀ vs : List W, (vs.map wv).length = vs.length := fun vs => List.length_map ..
    refine ⟨Nat.zero_le _, fun u nu => ?_⟩
    obtain ⟨up, ug, us0⟩ := PA.new nu
    refine ⟨_, rfl, _, _, rfl, rfl, _, rfl, by omega, by omega, for_range (lo := 0) (n := (((m : Nat) : Int) + 1).toNat) (fun i σ H' => ∃ (ns : List Nm) (v3 v4 v5 : Option V), σ = [some (.ref p), some (.int (m : Nat)), some (.ref u), v3, v4, v5] ∧ PotAt H' p g s ∧ H' u = some (.lst (ns.map sv)) ∧ ns.length = i ∧ ns.Nodup ∧ (∀ n ∈ ns, nmOk n))
      ⟨[], none, none, none, rfl, PA.keep (same_upd nu), upd_same, rfl, List.nodup_nil, by simp⟩ ?_ ?_⟩
    · rintro i σ H' hi ⟨ns, v3, v4, v5, rfl, P4, U4, hl, nd, ok⟩
      refine ⟨_, rfl, _, rfl, p, g, s, u, ns, rfl, P4, U4, by omega, up, ug, fun H5 n nok nin P5 U5 k5 => ?_⟩
      refine ⟨ns ++ [n], _, _, _, rfl, P5, U5, by rw [List.length_append, hl]; rfl, ?_, ?_⟩
      · refine List.nodup_append.mpr ⟨nd, by simp, fun a ha b hb e => ?_⟩
        have : b = n := by simpa using hb
        exact nin (by rw [← this, ← e]; exact ha)
      · intro x hx
        rcases List.mem_append.mp hx with hx | hx
        · exact ok x hx
        · have : x = n := by simpa using hx
          rw [this]; exact nok
    · rintro σ H1 ⟨ns0, v3, v4, v5, rfl, P1, U1, hl, nd, ok⟩
      have hl' : ns0.length = m + 1 := by omega
      obtain ⟨ns, l, rfl, ln⟩ := names_split hl'
      refine ⟨(by show 0 ≤ sizeLine; decide), fun t1 o1 n1 h1 => ?_⟩
      have S1 := same_upd (o := .frz o1 (.tup [])) n1
      have T1 : TupF (upd H1 t1 (.frz o1 (.tup []))) t1 (([] : List W).map wv) := TupF.new h1
      generalize upd H1 t1 (.frz o1 (.tup [])) = H2 at *
      refine ⟨_, rfl, _, rfl, _, rfl, u, _, rfl, SqL.of (S1 _ _ U1), fun q nq => ?_⟩
      rw [cut_last]
      have S2 := same_upd (o := .lst (ns.map sv)) nq
      have Q2 : upd H2 q (.lst (ns.map sv)) q = some (.lst (ns.map sv)) := upd_same
      generalize upd H2 q (.lst (ns.map sv)) = H3 at *
      have S13 := S1.trans S2
      refine ⟨q, rfl, ⟨_, SqL.of Q2⟩, for_list (K := K) (a := q) (xs := ns.map sv) (fun i σ H' => ∃ (h : Addr) (v3 v5 : Option V) (hd : List W), σ = [some (.ref p), some (.int (m : Nat)), some (.ref u), v3, some (.ref h), v5] ∧ Same H3 H' ∧ TupF H' h (hd.map wv) ∧ (chainT ns l).ws = hd ++ (chainT (ns.drop i) l).ws ∧ hd.length = 3 * i)
        ⟨t1, _, _, [], rfl, Same.refl _, T1.same S2, by simp, rfl⟩ (fun i σ H' _ ⟨_, _, _, _, _, s, _⟩ => SqL.of (s _ _ Q2)) ?_ ?_⟩
      · rintro i x σ H' hx ⟨h, v3, v5, hd, rfl, S4, Th, ew, lh⟩
        obtain ⟨n, hn, rfl⟩ := map_get hx
        obtain ⟨hi, hni⟩ := List.getElem?_eq_some_iff.mp hn
        have dn : ns.drop i = n :: ns.drop (i + 1) := by rw [List.drop_eq_getElem_cons hi, hni]
        rw [dn, chain_ws] at ew
        have okn := ok n (List.mem_append_left _ (List.mem_of_getElem? hn))
        have lnn : (str n).length = n.length := by rw [TL.len_tl]; rfl
        refine ⟨_, rfl, _, rfl, _, _, rfl, rfl, ?_, _, rfl, (by show 3 ≤ sizeLine; decide), fun t3 o3 n3 h3 => ?_⟩
        · rw [lnn, TL.len_tl, slash]
          exact Nat.le_of_lt (small_lt (m := 10) (by have := okn.2.1; simp; omega) (by decide))
        rw [tl_slash]
        have S5 := same_upd (o := .frz o3 (.tup [wv (.tk n), V.str "@", sv n])) n3
        have T3 : TupF (upd H' t3 (.frz o3 (.tup [wv (.tk n), V.str "@", sv n]))) t3 [wv (.tk n), wv .ap, wv (.nm n)] := TupF.new h3
        generalize upd H' t3 (.frz o3 (.tup [wv (.tk n), V.str "@", sv n])) = H5 at *
        refine catF_of (Th.same S5) T3 (by rw [ll]; simp; omega) fun H6 h6 S6 U6 => ?_
        refine ⟨h6, _, _, hd ++ [.tk n, .ap, .nm n], rfl, S4.trans (S5.trans S6), ?_, by rw [ew]; simp, by rw [List.length_append]; simp; omega⟩
        rw [List.map_append]
        exact U6
      · rintro σ H' ⟨h, v3, v5, hd, rfl, S4, Th, ew, lh⟩
        rw [List.length_map] at ew lh
        rw [List.drop_of_length_le (Nat.le_refl _)] at ew
        have S14 := S13.trans S4
        have Lu := S14 _ _ U1
        have okl := ok l (List.mem_append_right _ (List.mem_singleton.mpr rfl))
        have lnn : (str l).length = l.length := by rw [TL.len_tl]; rfl
        refine ⟨_, rfl, _, rfl, _, rfl, u, _, _, _, rfl, rfl, SqL.of Lu, last_at, _, _, rfl, rfl, ?_, _, rfl, _, rfl, u, _, _, _, rfl, rfl, SqL.of Lu, last_at, (by show 2 ≤ sizeLine; decide), fun t3 o3 n3 h3 => ?_⟩
        · rw [lnn, TL.len_tl, slash]
          exact Nat.le_of_lt (small_lt (m := 10) (by have := okl.2.1; simp; omega) (by decide))
        rw [tl_slash]
        have S5 := same_upd (o := .frz o3 (.tup [wv (.tk l), sv l])) n3
        have T3 : TupF (upd H' t3 (.frz o3 (.tup [wv (.tk l), sv l]))) t3 [wv (.tk l), wv (.nm l)] := TupF.new h3
        generalize upd H' t3 (.frz o3 (.tup [wv (.tk l), sv l])) = H5 at *
        refine catF_of (Th.same S5) T3 (by rw [ll]; simp; omega) fun H6 h6 S6 U6 => ?_
        have ee : hd.map wv ++ [wv (.tk l), wv (.nm l)] = (chainT ns l).ws.map wv := by rw [ew]; simp [chainT, T.ws]
        rw [ee] at U6
        obtain ⟨c1, c2, c3, c4⟩ := chain_lv ns l
        refine k H6 h6 _ ⟨vd_tree c3 (by rw [c1]; exact nd) (by rw [c2]; exact nd) (by rw [c1]; exact ok), ?_, by rw [aps_tree, c4, ln]⟩ (P1.keep (S14.trans (S5.trans S6))) U6
        rw [ew, List.length_append, lh, ln]
        simp [chainT, T.ws]
end
end Kk

set_option maxHeartbeats 4000000
namespace Kk
open PySem PySem.Spec PyProof.Rows L2 Wd
theorem aps_tks (ks : List Nm) : apsOf (ks.map W.tk) = 0 := by
  induction ks with
  | nil => rfl
  | cons k ks ih =>
    show apsOf (W.tk k :: ks.map W.tk) = 0
    unfold apsOf at *
    rw [List.countP_cons_of_neg (by simp [isAp]), ih]
theorem nested_deep {ns ks : List Nm} {bs : List Bool} {l : Nm} {m : Nat} (hm : ns.length = m) (h : bs.length = ns.length) (nd : (ns ++ [l]).Nodup) (ok : ∀ n ∈ ns ++ [l], nmOk n) (kn : ks.Nodup) (kin : ∀ n ∈ ks, n ∈ ns ++ [l]) : Deep m (ks.map W.tk ++ (combT ns bs l).ws) := by
  have lk := nodup_len kn kin
  have lc := comb_len ns bs l
  refine ⟨nested_vd h nd ok kn kin, ?_, ?_⟩
  · rw [List.length_append, List.length_map]
    rw [List.length_append, List.length_singleton] at lk
    omega
  · rw [aps_app, aps_tks, aps_tree, (comb_lv ns bs l h).2.2.2, hm]
    omega
section
variable {P : Program} {w : World} {K : PySem.W.Frag} {mg : Str → Option Value} {base : Heap}
abbrev s_nested : Stmt := (top 56)
theorem sc_nested : FnScope ["_law_pot_here", "_law_many", "_law_names", "_law_one", "_law_words", "_law_kept", "_law_taken", "_law_name"] ["_law_pot_here", "_law_many"] (defScope s_nested) := ⟨rfl, rfl, rfl, by decide +kernel, rfl, by decide +kernel, by decide +kernel⟩
theorem c_nested (B : Bt mg) (D : DefAt K mg "_law_nested" s_nested) (C_law_draw : Cal P w K mg base "_law_draw" 1 ["_law_pot_here", "_law_many"] spDraw) (C_law_fresh : Cal P w K mg base "_law_fresh" 2 ["_law_pot_here", "_law_used"] spFresh) (C_law_mixed : Cal P w K mg base "_law_mixed" 2 ["_law_pot_here", "_law_items"] spMixedN)
    (C_law_sides : Cal P w K mg base "_law_sides" 2 ["_law_pot_here", "_law_many"] spSides) (C_law_comb : Cal P w K mg base "_law_comb" 1 ["_law_names", "_law_sides_here"] (spComb K)) : Cal P w K mg base "_law_nested" 3 ["_law_pot_here", "_law_many"] spDeep := by
  refine cal_of D sc_nested (fun _ _ _ _ _ _ us hl => match us, hl with | [_, _], _ => rfl) (fun vs H Q E h => ?_) (fun fa cdv A outer st0 H vs Q E hr h => ?_)
  · obtain ⟨p, g, s, m, rfl, _⟩ := h
    rfl
  · obtain ⟨p, g, s, m, rfl, PA, hm, k⟩ := h
    refine ⟨_, (pss_cons (ps_set (i := 2) sc_nested.nd rfl (by first | exact Or.inl rfl | exact Or.inr rfl) (pe_lst pa_nil))
      (pss_cons (ps_for PassesOwn.never rfl (pi_range1 (by rfl) B.b_range (pa_cons (pe_op op_add (pv 1) pe_int) pa_nil)) (pg_name (i := 3) sc_nested.nd rfl (by first | exact Or.inl rfl | exact Or.inr rfl)) (pss_one (ps_expr (pe_c C_law_fresh (hr.mono (by decide)) (pa_cons (pv 0) (pa_cons (pv 2) pa_nil))))))
      (pss_cons (ps_set (i := 4) sc_nested.nd rfl (by first | exact Or.inl rfl | exact Or.inr rfl) (pe_c C_law_comb (hr.mono (by decide)) (pa_cons (pe_c C_law_mixed (hr.mono (by decide)) (pa_cons (pv 0) (pa_cons (pv 2) pa_nil))) (pa_cons (pe_c C_law_sides (hr.mono (by decide)) (pa_cons (pv 0) (pa_cons (pv 1) pa_nil))) pa_nil))))
      (pss_cons (ps_set (i := 5) sc_nested.nd rfl (by first | exact Or.inl rfl | exact Or.inr rfl) (pe_slice sl_list (pv 2) po_none (po_some (pe_c C_law_draw (hr.mono (by decide)) (pa_cons (pv 0) (pa_cons pe_int pa_nil))))))
      (pss_cons (ps_set (i := 6) sc_nested.nd rfl (by first | exact Or.inl rfl | exact Or.inr rfl) (pe_c C_law_mixed (hr.mono (by decide)) (pa_cons (pv 0) (pa_cons (pe_lc (own := [("_law_name", 7)]) (g := (gName 7)) (tt := (tTest (tOp (rIn K true) _ _))) rfl sc_nested.nd (pi_list (pv 2)) (blkOk_by (own := [("_law_name", 7)]) (N := ["_law_pot_here", "_law_many", "_law_names", "_law_one", "_law_words", "_law_kept", "_law_taken", "_law_name"]) (sc := defScope s_nested) (by decide +kernel)) (fun _ _ _ _ _ => (pg_name (i := 7) sc_nested.nd rfl (by first | exact Or.inl rfl | exact Or.inr rfl))) (fun _ _ _ _ _ => (pts_one (pt_cmpR op_notIn_seq (pv 7) (pv 5) (by rfl)))) (fun _ _ _ _ _ => (pv 7))) pa_nil))))
      (pss_one (ps_ret (pe_op op_catF (pe_callTy call_tupleF (by rfl) B.b_tuple (by decide +kernel) (pa_cons (pe_lc (own := [("_law_name", 7)]) (g := (gName 7)) (tt := tYes) rfl sc_nested.nd (pi_list (pv 6)) (blkOk_by (own := [("_law_name", 7)]) (N := ["_law_pot_here", "_law_many", "_law_names", "_law_one", "_law_words", "_law_kept", "_law_taken", "_law_name"]) (sc := defScope s_nested) (by decide +kernel)) (fun _ _ _ _ _ => (pg_name (i := 7) sc_nested.nd rfl (by first | exact Or.inl rfl | exact Or.inr rfl))) (fun _ _ _ _ _ => pts_nil) (fun _ _ _ _ _ => (pe_op op_add_str pe_str (pv 7)))) pa_nil)) (pv 4))))))))), ?_⟩
    have ll : ∀ vs : List W, (vs.map wv).length = vs.length := fun vs => List.length_map ..
    refine ⟨Nat.zero_le _, fun u nu => ?_⟩
    obtain ⟨up, ug, us0⟩ := PA.new nu
    refine ⟨_, rfl, _, _, rfl, rfl, _, rfl, by omega, by omega, for_range (lo := 0) (n := (((m : Nat) : Int) + 1).toNat) (fun i σ H' => ∃ (ns : List Nm) (v3 v4 v5 v6 v7 : Option V), σ = [some (.ref p), some (.int (m : Nat)), some (.ref u), v3, v4, v5, v6, v7] ∧ PotAt H' p g s ∧ H' u = some (.lst (ns.map sv)) ∧ ns.length = i ∧ ns.Nodup ∧ (∀ n ∈ ns, nmOk n))
      ⟨[], none, none, none, none, none, rfl, PA.keep (same_upd nu), upd_same, rfl, List.nodup_nil, by simp⟩ ?_ ?_⟩
    · rintro i σ H' hi ⟨ns, v3, v4, v5, v6, v7, rfl, P4, U4, hl, nd, ok⟩
      refine ⟨_, rfl, _, rfl, p, g, s, u, ns, rfl, P4, U4, by omega, up, ug, fun H5 n nok nin P5 U5 k5 => ?_⟩
      refine ⟨ns ++ [n], _, _, _, _, _, rfl, P5, U5, by rw [List.length_append, hl]; rfl, ?_, ?_⟩
      · refine List.nodup_append.mpr ⟨nd, by simp, fun a ha b hb e => ?_⟩
        have : b = n := by simpa using hb
        exact nin (by rw [← this, ← e]; exact ha)
      · intro x hx
        rcases List.mem_append.mp hx with hx | hx
        · exact ok x hx
        · have : x = n := by simpa using hx
          rw [this]; exact nok
    · rintro σ H1 ⟨ns0, v3, v4, v5, v6, v7, rfl, P1, U1, hl, nd, ok⟩
      have hl' : ns0.length = m + 1 := by omega
      -- words
      refine ⟨_, rfl, _, rfl, p, g, s, u, ns0, rfl, P1, U1, by omega, up, ug, fun H2 q ys hp P2 nq L2 K2 => ?_⟩
      have U2 := K2 _ _ U1 up ug
      obtain ⟨qp, qg, _⟩ := P1.new nq
      have ly : ys.length = m + 1 := by rw [hp.length_eq, hl']
      obtain ⟨ns, l, rfl, ln⟩ := names_split ly
      refine ⟨_, rfl, _, rfl, p, g, s, m, rfl, P2, by omega, fun H3 r bs lb P3 R3 rp rg K3 => ?_⟩
      have L3 := K3 _ _ L2 qp qg
      have U3 := K3 _ _ U2 up ug
      refine ⟨q, r, ns, l, bs, rfl, L3, R3, by omega, by omega, fun H4 t S4 T4 => ?_⟩
      have P4 := P3.keep S4
      have U4 := S4 _ _ U3
      have T4l := comb_len ns bs l
      -- kept
      refine ⟨_, rfl, _, rfl, p, g, s, 3, rfl, P4, by decide, by decide, fun H5 d P5 K5 d0 d1 => ⟨_, rfl, u, _, rfl, SqL.of (K5 _ _ U4 up ug), fun q2 nq2 => ?_⟩⟩
      obtain ⟨d, rfl⟩ : ∃ n : Nat, d = (n : Int) := ⟨d.toNat, by omega⟩
      have ec : cutV (ns0.map sv) none (some (d : Int)) = (ns0.take d).map sv := by
        unfold cutV
        rw [HT.sIx_none, HT.sIx_nat, List.length_map, List.drop_zero, Nat.sub_zero, ← List.map_take]
        by_cases h : d ≤ ns0.length
        · rw [Nat.min_eq_left h]
        · rw [Nat.min_eq_right (by omega), List.take_length, List.take_of_length_le (by omega)]
      rw [ec]
      have U5 := K5 _ _ U4 up ug
      have T5 := T4.keepP P4 K5
      have S6 := same_upd (o := .lst ((ns0.take d).map sv)) nq2
      have Q6 : upd H5 q2 (.lst ((ns0.take d).map sv)) q2 = some (.lst ((ns0.take d).map sv)) := upd_same
      generalize upd H5 q2 (.lst ((ns0.take d).map sv)) = H6 at *
      generalize ns0.take d = kp at *
      -- taken
      refine ⟨_, rfl, _, rfl, u, rfl, ⟨_, SqL.of (S6 _ _ U5)⟩, fun D6 nD6 => lc_fmL (f := sv) (r := fun n => if n ∈ kp then none else some (sv n)) (SqL.of (S6 _ _ U5)) nD6 (by omega) ?_ ?_⟩
      · rintro i n H' Qy Qn hn S7 gy gn
        refine ⟨rfl, _, rfl, _, rfl, q2, _, rfl, .inl (SqL.of (S7 _ _ Q6)), rfl, flat_sv _, ?_⟩
        rw [in_sv]
        refine ⟨_, rfl, ?_⟩
        by_cases e : n ∈ kp
        · rw [decide_eq_true e]
          exact iteF (gn _ (Same.refl _) (if_pos e))
        · rw [decide_eq_false e]
          exact iteT ⟨_, rfl, gy _ _ (Same.refl _) (if_neg e)⟩
      rintro H7 S7 L7
      have eh : ∀ L : List Nm, L.filterMap (fun n => if n ∈ kp then none else some (sv n)) = (L.filter fun n => decide (n ∉ kp)).map sv := fun L => by
        induction L with
        | nil => rfl
        | cons n l ih =>
          by_cases e : n ∈ kp
          · rw [List.filterMap_cons_none (by simp [e]), ih, List.filter_cons_of_neg (by simp [e])]
          · rw [List.filterMap_cons_some (b := sv n) (by simp [e]), ih, List.filter_cons_of_pos (by simp [e])]; rfl
      rw [eh] at L7
      have P6 := P5.keep S6
      obtain ⟨Dp, Dg, _⟩ := P6.new nD6
      have P7 := P6.keep S7
      have fl : (ns0.filter fun n => decide (n ∉ kp)).length ≤ ns0.length := List.length_filter_le _ _
      refine ⟨p, g, s, D6, _, rfl, P7, L7, by omega, Dp, Dg, fun H8 q8 ks hks P8 nq8 L8 K8 => ?_⟩
      have kn : ks.Nodup := hks.nodup_iff.mpr (nd.filter _)
      have kin : ∀ n ∈ ks, n ∈ ns ++ [l] := fun n hn => hp.mem_iff.mpr (List.mem_filter.mp (hks.mem_iff.mp hn)).1
      have okn : ∀ n ∈ ns ++ [l], nmOk n := fun n hn => ok n (hp.mem_iff.mp hn)
      have lk : ks.length ≤ ns0.length := by rw [hks.length_eq]; exact fl
      have T8 := (T5.same (S6.trans S7)).keepP P7 K8
      -- the takes
      refine ⟨_, rfl, q8, rfl, ⟨_, SqL.of L8⟩, fun D8 nD8 => lc_fmL (f := sv) (r := fun n => some (wv (.tk n))) (SqL.of L8) nD8 (by omega) ?_ ?_⟩
      · rintro i n H' Qy Qn hn S9 gy gn
        have on := okn n (kin n (List.mem_of_getElem? hn))
        have lnn : (str n).length = n.length := by rw [TL.len_tl]; rfl
        refine ⟨rfl, _, rfl, _, _, rfl, rfl, ?_, ?_⟩
        · rw [lnn, TL.len_tl, slash]
          exact Nat.le_of_lt (small_lt (m := 10) (by have := on.2.1; simp; omega) (by decide))
        · rw [tl_slash]
          exact gy _ _ (Same.refl _) rfl
      rintro H9 S9 L9
      have et : ks.filterMap (fun n => some (wv (.tk n))) = (ks.map W.tk).map wv := by
        rw [List.filterMap_eq_map', List.map_map]
        rfl
      rw [et] at L9
      refine ⟨D8, _, rfl, SqL.of L9, fun q9 o9 nq9 ho9 => ?_⟩
      have S10 := same_upd (o := .frz o9 (.tup ((ks.map W.tk).map wv))) nq9
      have T10 : TupF (upd H9 q9 (.frz o9 (.tup ((ks.map W.tk).map wv)))) q9 ((ks.map W.tk).map wv) := TupF.new ho9
      generalize upd H9 q9 (.frz o9 (.tup ((ks.map W.tk).map wv))) = H10 at *
      refine ⟨_, rfl, catF_of T10 (T8.same (S9.trans S10)) (by rw [ll, ll, List.length_map]; omega) fun H11 h11 S11 U11 => ?_⟩
      rw [← List.map_append] at U11
      exact k H11 h11 _ (nested_deep ln (by omega) (hp.nodup_iff.mpr nd) okn kn kin) (P8.keep (S9.trans (S10.trans S11))) U11
end
end Kk

set_option maxHeartbeats 8000000
namespace Kk
open PySem PySem.Spec PyProof.Rows L2 Wd
theorem te_pickV {b : Prop} [Decidable b] {u v : TE} {σ : L2.St} {H : Hp} {Q : VK} (S : V → Hp → Prop) (h1 : b → ∀ Q' : VK, (∀ x H, S x H → Q' x H) → u σ H Q') (h2 : ¬ b → ∀ Q' : VK, (∀ x H, S x H → Q' x H) → v σ H Q') (h : ∀ x H, S x H → Q x H) : if b then u σ H Q else v σ H Q := by
  split
  · exact h1 ‹_› Q h
  · exact h2 ‹_› Q h
theorem plain_ends (n : Nat) (E : Nat → Nat) : ∀ x ∈ endsV n E, Plain x := fun x hx => by
  unfold endsV at hx
  obtain ⟨i, _, rfl⟩ := List.mem_map.mp hx
  exact .inl ⟨_, rfl⟩
theorem ends_uniq {ws : List W} {E F : Nat → Nat} (h : IsEnds ws E) (g : IsEnds ws F) : endsV ws.length E = endsV ws.length F := by
  unfold endsV
  refine List.map_congr_left fun i hi => ?_
  rw [h.uniq g _ i rfl (List.mem_range.mp hi)]
theorem names_count {ws : List W} (v : Vd ws) : (openN ws).length + (takesOf ws).length = apsOf ws + 1 := by
  have h1 : ((nmsOf ws).filter fun n => decide (n ∈ takesOf ws)).Perm (takesOf ws) := by
    refine (List.perm_ext_iff_of_nodup (v.nmsNd.filter _) v.tksNd).mpr fun n => ?_
    rw [List.mem_filter, decide_eq_true_eq]
    exact ⟨fun h => h.2, fun h => ⟨v.tkIn h, h⟩⟩
  have h2 := filter_split (fun n => decide (n ∈ takesOf ws)) (nmsOf ws)
  have h3 : openN ws = (nmsOf ws).filter fun x => !decide (x ∈ takesOf ws) := by
    unfold openN
    refine List.filter_congr fun n _ => ?_
    by_cases h : n ∈ takesOf ws <;> simp [h]
  rw [← h3, h1.length_eq] at h2
  have h4 : (nmsOf ws).length = apsOf ws + 1 := by
    obtain ⟨⟨t, rfl, _⟩, _⟩ := v
    rw [nmsOf_tree, T.lv_aps, aps_tree]
  omega
def xN : Nm := [120]
theorem sv_x : V.str ("x" : Str) = sv xN := congrArg V.str (TL.ext_tl (by rw [TL.tl_ofString]; rfl))
theorem wv_x : V.str ("/x" : Str) = wv (.tk xN) := congrArg V.str (TL.ext_tl (by rw [TL.tl_ofString]; rfl))
theorem ok_x : nmOk xN := ⟨by decide, by decide, by decide⟩
def idW : List W := [.tk xN, .nm xN]
theorem vd_idW : Vd idW := by
  refine ⟨⟨.tk xN (.nm xN), rfl, ⟨by simp [T.lv], trivial⟩, by simp [T.lv], by simp [T.tks]⟩, fun w hw => ?_⟩
  rcases List.mem_cons.mp hw with rfl | hw
  · exact ok_x
  · rw [List.mem_singleton.mp hw]; exact ok_x
theorem open_idW : openN idW = [] := by decide
theorem mark_idW : markI 1 idW = [.tk (1, xN), .nm (1, xN)] := by decide
theorem id_good {ws : List W} (v : Vd ws) : Good (apI ws idW) := by
  refine (v.good 0).ap (vd_idW.good 1) ⟨fun o ho h1 => ?_, fun n hn h1 => ?_⟩
  · rw [takesI_mark] at ho h1
    obtain ⟨a, _, rfl⟩ := List.mem_map.mp ho
    obtain ⟨b, _, e⟩ := List.mem_map.mp h1
    cases e
  · rw [opens_mark, open_idW] at h1
    simp at h1
theorem id_opens (ws : List W) : opensI (apI ws idW) = openN ws ++ openN idW := by
  have : opensI (apI ws idW) = opensI (markI 0 ws) ++ opensI (markI 1 idW) := by simp [apI, opensI]
  rw [this, opens_mark, opens_mark]
theorem id_takes {ws : List W} : ∀ o ∈ takesI (apI ws idW), o.1 < 2 := fun o ho => by
  have : takesI (apI ws idW) = takesI (markI 0 ws) ++ takesI (markI 1 idW) := by simp [apI, takesI]
  rw [this, takesI_mark, takesI_mark] at ho
  rcases List.mem_append.mp ho with h | h
  · obtain ⟨a, _, rfl⟩ := List.mem_map.mp h; show _ < 2; simp
  · obtain ⟨a, _, rfl⟩ := List.mem_map.mp h; show _ < 2; simp
theorem id_len (ws : List W) : (apI ws idW).length = ws.length + 3 := by simp [apI, markI, idW]
theorem id_ok {ws : List W} (v : Vd ws) : ∀ n ∈ opensI (apI ws idW), nmOk n := fun n hn => by
  rw [id_opens, open_idW, List.append_nil] at hn
  exact v.nmOk (mem_open.mp hn).1
def spLaw (K : PySem.W.Frag) : Sp := fun vs H Q _ => ∃ (a : Addr) (ns : List Int), vs = [.ref a] ∧ SqL K H a (ns.map V.int) ∧ ns.length ≤ 63 ∧ ∀ H', Q (.bl true) H'
section
variable {P : Program} {w : World} {K : PySem.W.Frag} {mg : Str → Option Value} {base : Heap}
abbrev s_law : Stmt := (top 58)
theorem sc_law : FnScope ["_law_script", "_law_pot_here", "_law_many", "_law_words", "_law_program", "_law_due", "_law_turn", "_law_place", "_law_called", "_law_whole"] ["_law_script"] (defScope s_law) := ⟨rfl, rfl, rfl, by decide +kernel, rfl, by decide +kernel, by decide +kernel⟩
theorem c_law {C C2 f0 : Addr} {fd : FuncData} (B : Bt mg) (pc : PC K mg C) (F : Fun K "law" "law" s_law f0 fd) (MProgram : Mkr P w K mg base C)
    (C_law_pot : Cal P w K mg base "_law_pot" 1 ["_law_script"] (spPot K)) (C_law_draw : Cal P w K mg base "_law_draw" 1 ["_law_pot_here", "_law_many"] spDraw) (C_law_nested : Cal P w K mg base "_law_nested" 3 ["_law_pot_here", "_law_many"] spDeep) (C_law_chain : Cal P w K mg base "_law_chain" 3 ["_law_pot_here", "_law_many"] spDeep)
    (C_law_ends : Cal P w K mg base "_law_ends" 1 ["_law_words"] (spEndsR K)) (C_law_open : Cal P w K mg base "_law_open" 1 ["_law_words"] (spOpen2 K)) (C_law_marked : Cal P w K mg base "_law_marked" 1 ["_law_words", "_law_mark"] (spMarked K)) (C_law_standard : Cal P w K mg base "_law_standard" 2 ["_law_items"] (spStdI K))
    (Cends : Cal P w K mg base "ends" 3 ["program"] (spOfP K C rEnds)) (Cgivens : Cal P w K mg base "givens" 1 ["program"] (spOfP K C rGivens)) (Copen_names : Cal P w K mg base "open_names" 3 ["program"] (spOfP K C rOpen)) (Ctakes : Cal P w K mg base "takes" 2 ["program"] (spOfP K C rTakes))
    (Cpart : Cal P w K mg base "part" 8 ["program", "place"] (spAtP K C (rPart C))) (Cstandard : Cal P w K mg base "standard" 9 ["program"] (spOfP K C (rStd C))) (Csame : Cal P w K mg base "same" 10 ["program", "other"] (spSame K C)) (Capplied : CalX P w K mg base "applied" 9 ["program", "other"] (spApplied K C C2)) :
    FnOk P w K mg base CX0 11 f0 fd ["_law_script"] (spLaw K) := by
  refine F.ok sc_law (fun vs H Q E h => ?_) (fun cdv A outer st0 H vs Q E hr h => ?_)
  · obtain ⟨a, ns, rfl, _⟩ := h
    rfl
  · obtain ⟨a0, ns0, rfl, hS, hlen, k⟩ := h
    have m_Program := pc.mg
    refine ⟨_, (pss_cons (ps_set (i := 1) sc_law.nd rfl (by first | exact Or.inl rfl | exact Or.inr rfl) (pe_c C_law_pot (hr.mono (by decide)) (pa_cons (pv 0) pa_nil)))
      (pss_cons (ps_set (i := 2) sc_law.nd rfl (by first | exact Or.inl rfl | exact Or.inr rfl) (pe_ifExp (pt_cmpR op_eq (pe_c C_law_draw (hr.mono (by decide)) (pa_cons (pv 1) (pa_cons pe_int pa_nil))) pe_int (nomark _)) pe_int (pe_c C_law_draw (hr.mono (by decide)) (pa_cons (pv 1) (pa_cons pe_int pa_nil)))))
      (pss_cons (ps_set (i := 3) sc_law.nd rfl (by first | exact Or.inl rfl | exact Or.inr rfl) (pe_ifExp (pt_cmpR op_gt (pe_c C_law_draw (hr.mono (by decide)) (pa_cons (pv 1) (pa_cons pe_int pa_nil))) pe_int (nomark _)) (pe_c C_law_nested (hr.mono (by decide)) (pa_cons (pv 1) (pa_cons (pv 2) pa_nil))) (pe_c C_law_chain (hr.mono (by decide)) (pa_cons (pv 1) (pa_cons (pv 2) pa_nil)))))
      (pss_cons (ps_set (i := 4) sc_law.nd rfl (by first | exact Or.inl rfl | exact Or.inr rfl) (pe_mk1 MProgram (hr.mono (by decide)) (pa_cons (pv 3) pa_nil)))
      (pss_cons (ps_set (i := 5) sc_law.nd rfl (by first | exact Or.inl rfl | exact Or.inr rfl) (pe_c C_law_ends (hr.mono (by decide)) (pa_cons (pv 3) pa_nil)))
      (pss_cons (ps_if (PW.pt (pw_or (pt_cmpR (op_neD hr.units) (pe_c Cends (hr.mono (by decide)) (pa_cons (pv 4) pa_nil)) (pv 5) (nomark _)) (pw_or (pt_cmpR op_ne (pe_c Cgivens (hr.mono (by decide)) (pa_cons (pv 4) pa_nil)) (pv 2) (nomark _)) (pw_or1 (pt_cmpR (op_neD hr.units) (pe_callTy call_list_of (by rfl) B.b_list (by decide +kernel) (pa_cons (pe_c Copen_names (hr.mono (by decide)) (pa_cons (pv 4) pa_nil)) pa_nil)) (pe_c C_law_open (hr.mono (by decide)) (pa_cons (pv 3) pa_nil)) (nomark _)))))) (pss_one (ps_ret pe_bl)) pss_nil)
      (pss_cons (ps_if (pt_cmpR op_ne (pe_c Ctakes (hr.mono (by decide)) (pa_cons (pv 4) pa_nil)) (pe_op op_sub (pe_op op_add (pv 2) pe_int) (pe_callB call_len_seq (by rfl) B.b_len (by decide +kernel) (pa_cons (pe_c C_law_open (hr.mono (by decide)) (pa_cons (pv 3) pa_nil)) pa_nil))) (nomark _)) (pss_one (ps_ret pe_bl)) pss_nil)
      (pss_cons (ps_for PassesOwn.never rfl (pi_range1 (by rfl) B.b_range (pa_cons pe_int pa_nil)) (pg_name (i := 6) sc_law.nd rfl (by first | exact Or.inl rfl | exact Or.inr rfl)) (pss_cons (ps_set (i := 7) sc_law.nd rfl (by first | exact Or.inl rfl | exact Or.inr rfl) (pe_op op_sub (pe_op op_sub (pe_callB call_len_seq (by rfl) B.b_len (by decide +kernel) (pa_cons (pv 3) pa_nil)) pe_int) (pe_op op_fdiv (pe_c C_law_draw (hr.mono (by decide)) (pa_cons (pv 1) (pa_cons (pe_callB call_len_seq (by rfl) B.b_len (by decide +kernel) (pa_cons (pv 3) pa_nil)) pa_nil))) (pe_op op_add pe_int (pv 6)))))
      (pss_one (ps_if (pt_cmpR (op_neD hr.units) (pe_fld (pe_c Cpart (hr.mono (by decide)) (pa_cons (pv 4) (pa_cons (pv 7) pa_nil))) rfl) (pe_slice sl_tupG (pv 3) (po_some (pv 7)) (po_some (pe_ix ix_tup (pv 5) (pv 7) (fun _ _ => rfl)))) (nomark _)) (pss_one (ps_ret pe_bl)) pss_nil))))
      (pss_cons (ps_set (i := 8) sc_law.nd rfl (by first | exact Or.inl rfl | exact Or.inr rfl) (pe_c Cstandard (hr.mono (by decide)) (pa_cons (pv 4) pa_nil)))
      (pss_cons (ps_if (PW.pt (pw_or (pt_cmpR (op_neD hr.units) (pe_fld (pv 8) rfl) (pe_c C_law_standard (hr.mono (by decide)) (pa_cons (pe_c C_law_marked (hr.mono (by decide)) (pa_cons (pv 3) (pa_cons pe_str pa_nil))) pa_nil)) (nomark _)) (pw_or1 (pt_cmpR op_notBl (pe_c Csame (hr.mono (by decide)) (pa_cons (pv 4) (pa_cons (pv 8) pa_nil))) pe_bl (nomark _))))) (pss_one (ps_ret pe_bl)) pss_nil)
      (pss_cons (ps_set (i := 9) sc_law.nd rfl (by first | exact Or.inl rfl | exact Or.inr rfl) (pe_cX Capplied (hr.mono (by decide)) (pa_cons (pv 4) (pa_cons (pe_mk1 MProgram (hr.mono (by decide)) (pa_cons (pe_tupF (pa_cons pe_str (pa_cons pe_str pa_nil))) pa_nil)) pa_nil))))
      (pss_one (ps_ret (pe_cmpR (op_eqD hr.units) (pe_fld (pv 9) rfl) (pe_c C_law_standard (hr.mono (by decide)) (pa_cons (pe_op op_cat (pe_op op_cat (pe_lst (pa_cons pe_str pa_nil)) (pe_c C_law_marked (hr.mono (by decide)) (pa_cons (pv 3) (pa_cons pe_str pa_nil)))) (pe_lst (pa_cons (pe_tup (pa_cons pe_str (pa_cons pe_str (pa_cons pe_str pa_nil)))) (pa_cons (pe_tup (pa_cons pe_str (pa_cons pe_str pa_nil))) pa_nil)))) pa_nil)) (nomark _))))))))))))))), ?_⟩
    have ll : ∀ vs : List W, (vs.map wv).length = vs.length := fun vs => List.length_map ..
    refine ⟨_, rfl, a0, ns0, rfl, hS, hlen, fun H1 p g s P1 S1 np ng ns1 => ?_⟩
    -- many
    refine ⟨_, rfl, p, g, s, 8, rfl, P1, by decide, by decide, fun H2 t P2 K2 t0 t1 => ⟨rfl, _, rfl, ?_⟩⟩
    refine te_pickV (fun v H' => ∃ m : Nat, v = .int (m : Nat) ∧ m ≤ 330 ∧ PotAt H' p g s) (fun _ Q' h => h _ _ ⟨330, rfl, by decide, P2⟩) (fun _ Q' h => ⟨_, rfl, p, g, s, 40, rfl, P2, by decide, by decide, fun H3 t P3 K3 t0 t1 => ?_⟩) ?_
    · obtain ⟨n, rfl⟩ : ∃ n : Nat, t = (n : Int) := ⟨t.toNat, by omega⟩
      exact h _ _ ⟨n, rfl, by omega, P3⟩
    rintro v H3 ⟨m, rfl, hm, P3⟩
    -- words
    refine ⟨_, rfl, p, g, s, 4, rfl, P3, by decide, by decide, fun H4 t P4 K4 t0 t1 => ⟨_, _, rfl, rfl, _, rfl, ?_⟩⟩
    refine te_pickV (fun v H' => ∃ (a : Addr) (ws : List W), v = .ref a ∧ Deep m ws ∧ PotAt H' p g s ∧ TupF H' a (ws.map wv)) (fun _ Q' h => ⟨_, rfl, _, rfl, p, g, s, m, rfl, P4, hm, fun H' q ws D P T => h _ _ ⟨q, ws, rfl, D, P, T⟩⟩) (fun _ Q' h => ⟨_, rfl, _, rfl, p, g, s, m, rfl, P4, hm, fun H' q ws D P T => h _ _ ⟨q, ws, rfl, D, P, T⟩⟩) ?_
    rintro v H5 ⟨a, ws, rfl, DW, P5, T5⟩
    have vw := DW.v
    have hw : ws.length ≤ 992 := by have := DW.l; omega
    obtain ⟨EE, he⟩ := vw.ends
    -- program
    refine ⟨_, rfl, fun x0 dx0 nx0 ndx0 nex0 => ?_⟩
    have Sm := made_same (C := C) nx0 ndx0
    refine ⟨x0, dx0, a, ws, rfl, upd_same, (T5.same Sm).sq, vw, by omega, fun H6 B6 PX => ⟨rfl, ?_⟩⟩
    have S6 := B6.same Sm nx0
    clear Sm B6
    have T6 := T5.same S6
    have P6 := P5.keep S6
    -- due
    refine ⟨_, rfl, a, ws, EE, rfl, T6.sq, vw.ok, he, by omega, fun H7 qe S7 nqe TE7 => ?_⟩
    have bun : ∀ H', Same H7 H' → PotAt H' p g s ∧ Pg C H' x0 a ∧ TupF H' a (ws.map wv) ∧ TupF H' qe (endsV ws.length EE) := fun H' S => ⟨P6.keep (S7.trans S), PX.same (S7.trans S), T6.same (S7.trans S), TE7.same S⟩
    have b7 := bun H7 (Same.refl _)
    -- ends, givens, open names
    refine ⟨_, rfl, x0, a, ws, rfl, b7.2.1, b7.2.2.1, vw, by omega, fun H8 v8 S8 ⟨q8, E8, e8, he8, nq8, TQ8⟩ => ?_⟩
    subst e8
    rw [ends_uniq he8 he] at TQ8
    have b8 := bun H8 S8
    refine ⟨_, rfl, neD_same TQ8.sq b8.2.2.2.sq (plain_ends _ _) ⟨false, rfl, iteF ?_⟩⟩
    refine ⟨_, rfl, x0, a, ws, rfl, b8.2.1, b8.2.2.1, vw, by omega, fun H9 v9 S9 e9 => ?_⟩
    have e9' : v9 = .int (apsOf ws : Nat) := e9
    subst e9'
    refine ⟨_, rfl, rfl, false, ?_, iteF ?_⟩
    · rw [DW.a]
      exact congrArg V.bl (by simp)
    have S79 := S8.trans S9
    have b9 := bun H9 S79
    refine ⟨_, rfl, x0, a, ws, rfl, b9.2.1, b9.2.2.1, vw, by omega, fun H10 v10 S10 ⟨q10, e10, nq10, TQ10⟩ => ?_⟩
    subst e10
    refine ⟨q10, _, rfl, .inr TQ10.sq, fun l10 nl10 => ?_⟩
    have S11 := same_upd (o := .lst (openV ws)) nl10
    have L11 : upd H10 l10 (.lst (openV ws)) l10 = some (.lst (openV ws)) := upd_same
    generalize upd H10 l10 (.lst (openV ws)) = H11 at *
    have S711 := S79.trans (S10.trans S11)
    have b11 := bun H11 S711
    refine ⟨_, rfl, a, ws, rfl, b11.2.2.1.sq, vw, by omega, fun H12 q12 S12 nq12 L12 => ?_⟩
    have po : ∀ x ∈ openV ws, Plain x := by rw [openV_eq]; exact plain_nms fun n hn => vw.nmOk (mem_open.mp hn).1
    refine neL_same (SqL.of (S12 _ _ L11)) (SqL.of L12) po ⟨false, rfl, iteF ?_⟩
    have S712 := S711.trans S12
    have b12 := bun H12 S712
    -- takes
    refine ⟨_, rfl, x0, a, ws, rfl, b12.2.1, b12.2.2.1, vw, by omega, fun H13 v13 S13 e13 => ?_⟩
    have e13' : v13 = .int ((takesOf ws).length : Nat) := e13
    subst e13'
    have S713 := S712.trans S13
    have b13 := bun H13 S713
    refine ⟨_, rfl, _, _, rfl, rfl, _, rfl, a, ws, rfl, b13.2.2.1.sq, vw, by omega, fun H14 q14 S14 nq14 L14 => ⟨_, _, rfl, .inl (SqL.of L14), _, _, rfl, rfl, rfl, false, ?_, iteF ?_⟩⟩
    · rw [openV_eq, List.length_map]
      have nc := names_count vw
      rw [DW.a] at nc
      have e : ((takesOf ws).length : Int) = (m : Int) + 1 - ((openN ws).length : Nat) := by omega
      exact congrArg V.bl (by simp [e])
    have S714 := S713.trans S14
    have b14 := bun H14 S714
    have wpos := vw.pos
    -- parts
    refine ⟨_, rfl, by decide, by decide, for_range (lo := 0) (n := (6 : Int).toNat) (fun i σ H' => ∃ v6 v7 v8 v9 : Option V, σ = [some (.ref a0), some (.ref p), some (.int (m : Nat)), some (.ref a), some (.ref x0), some (.ref qe), v6, v7, v8, v9] ∧ PotAt H' p g s ∧ Pg C H' x0 a ∧ TupF H' a (ws.map wv) ∧ TupF H' qe (endsV ws.length EE))
      ⟨_, _, _, _, rfl, b14⟩ ?_ ?_⟩
    · rintro i σ H15 hi ⟨v6, v7, v8, v9, rfl, P15, X15, T15, TE15⟩
      have hi6 : i < 6 := hi
      refine ⟨_, rfl, _, _, rfl, .inr T15.sq, _, _, rfl, rfl, _, rfl, _, rfl, _, _, rfl, .inr T15.sq, p, g, s, _, rfl, P15, by rw [ll]; omega, by rw [ll]; exact Nat.lt_of_le_of_lt (Nat.le_trans (show ((ws.length : Nat) : Int).natAbs ≤ 2000 by omega) (Nat.le_refl _)) bigN, fun H16 d P16 K16 d0 d1 => ⟨_, rfl, _, _, rfl, rfl, ?_⟩⟩
      rw [ll] at d1 ⊢
      obtain ⟨dn, rfl⟩ : ∃ n : Nat, d = (n : Int) := ⟨d.toNat, by omega⟩
      have dq : ((dn : Nat) : Int) / (1 + ((0 : Int) + (i : Int))) = ((dn / (1 + i) : Nat) : Int) := by
        rw [Int.zero_add]
        exact (Int.natCast_ediv dn (1 + i)).symm
      have dle : dn / (1 + i) ≤ dn := Nat.div_le_self _ _
      generalize dn / (1 + i) = qd at *
      obtain ⟨j, hj⟩ : ∃ j : Nat, j + 1 + qd = ws.length := ⟨ws.length - 1 - qd, by omega⟩
      have X16 := X15.keepP P15 K16
      have T16 := T15.keepP P15 K16
      have TE16 := TE15.keepP P15 K16
      refine ⟨_, _, rfl, rfl, ⟨by omega, by omega⟩, _, _, rfl, rfl, ?_⟩
      have ej : ((ws.length : Nat) : Int) - 1 - (dn : Int) / (1 + ((0 : Int) + (i : Int))) = (j : Int) := by rw [dq]; omega
      dsimp only
      rw [ej]
      have hjl : j < ws.length := by omega
      have hE := he.lt j hjl
      refine ⟨_, rfl, _, rfl, x0, a, ws, j, rfl, X16, T16, vw, by omega, hjl, fun H17 v17 S17 ⟨xi, ai, E', e17, nxi, he', PI, TIn⟩ => ?_⟩
      subst e17
      rw [he'.uniq he _ j rfl hjl] at TIn
      obtain ⟨di, hi2⟩ := id PI
      refine ⟨xi, C, di, _, _, rfl, hi2, pc.cl, pc.nw, pfs_get ai, _, rfl, _, rfl, _, rfl, _, rfl, _, rfl, qe, _, _, _, rfl, rfl, (TE16.same S17).sq, atI_nat (endsV_get hjl), _, rfl, cutF_of (T16.same S17) fun H18 r18 S18 T18 => ?_⟩
      rw [cut_part (by rw [ll]; omega) (by rw [ll]; omega), ← List.map_drop, ← List.map_take] at T18
      refine neD_same (TIn.same S18).sq T18.sq (plain_ws fun w hw => vw.ok w (List.drop_subset _ _ (List.take_subset _ _ hw))) ⟨false, rfl, iteF ?_⟩
      exact ⟨_, _, _, _, rfl, P16.keep (S17.trans S18), X16.same (S17.trans S18), T16.same (S17.trans S18), TE16.same (S17.trans S18)⟩
    · rintro σ H15 ⟨v6, v7, v8, v9, rfl, P15, X15, T15, TE15⟩
      have vS : Vd (stdW ws) := stdW_vd vw (by omega)
      have lS : (stdW ws).length = ws.length := stdW_len ws
      -- called
      refine ⟨_, rfl, x0, a, ws, rfl, X15, T15, vw, by omega, fun H16 v16 S16 ⟨c8, a8, e16, nc8, PC8, TC8⟩ => ?_⟩
      subst e16
      obtain ⟨d8, h8⟩ := id PC8
      refine ⟨_, rfl, c8, C, d8, _, _, rfl, h8, pc.cl, pc.nw, pfs_get a8, _, rfl, a, 0, ws, rfl, (T15.same S16).sq, vw, by omega, fun H17 q17 us17 S17 nq17 L17 I17 => ⟨q17, us17, markI 0 ws, rfl, L17, I17, (vw.good 0).toWl, fun o ho => ?_, fun n hn => ?_, by unfold markI; rw [List.length_map]; omega, fun H18 r18 S18 nr18 T18 => ?_⟩⟩
      · rw [takesI_mark] at ho
        obtain ⟨m, _, rfl⟩ := List.mem_map.mp ho
        show 0 < 2
        decide
      · rw [opens_mark] at hn
        exact vw.nmOk (mem_open.mp hn).1
      rw [std_mark vw (by omega)] at T18
      have S1618 := S17.trans S18
      refine neD_same (TC8.same S1618).sq T18.sq (plain_ws vS.ok) ⟨false, rfl, iteF ?_⟩
      have S1518 := S16.trans S1618
      refine ⟨_, rfl, _, rfl, x0, c8, a, a8, ws, stdW ws, rfl, X15.same S1518, T15.same S1518, vw, by omega, PC8.same S1618, TC8.same S1618, vS, by omega, fun H19 S19 => ?_⟩
      have eqt : decide (stdW ws = stdW ws) = true := decide_eq_true rfl
      rw [std_std vw (by omega), eqt]
      refine ⟨_, _, rfl, rfl, _, rfl, iteF ?_⟩
      have S1519 := S1518.trans S19
      -- whole
      refine ⟨_, rfl, (by show 2 ≤ sizeLine; decide), fun t o nt ho => ?_⟩
      rw [wv_x, sv_x]
      have S20 := same_upd (o := .frz o (.tup [wv (.tk xN), sv xN])) nt
      have Tt : TupF (upd H19 t (.frz o (.tup [wv (.tk xN), sv xN]))) t (idW.map wv) := TupF.new ho
      generalize upd H19 t (.frz o (.tup [wv (.tk xN), sv xN])) = H20 at *
      refine fun w1 dw1 nw1 ndw1 new1 => ?_
      have Sm := made_same (C := C) nw1 ndw1
      refine ⟨w1, dw1, t, idW, rfl, upd_same, (Tt.same Sm).sq, vd_idW, by decide, fun H21 B21 PW => ⟨rfl, ?_⟩⟩
      have S21 := B21.same Sm nw1
      clear Sm B21
      have S1521 := S1519.trans (S20.trans S21)
      refine ⟨x0, w1, a, t, ws, idW, rfl, X15.same S1521, T15.same S1521, vw, PW, Tt.same S21, vd_idW, by show ws.length + 2 ≤ 3990; omega, fun _ H22 z cz S22 nz PZ TZ => ?_, fun ⟨n, _, n2⟩ => absurd n2 (by rw [open_idW]; simp)⟩
      have S1522 := S1521.trans S22
      have T22 := T15.same S1522
      obtain ⟨dz, hz⟩ := id PZ
      refine ⟨_, rfl, z, C, dz, _, _, rfl, hz, pc.cl, pc.nw, pfs_get cz, (by show 1 ≤ sizeLine; decide), fun l nl => ?_⟩
      have S3 : Same H22 (upd H22 l (.lst [V.str "@"])) := same_upd nl
      have L3 : upd H22 l (.lst [V.str "@"]) l = some (.lst [V.str "@"]) := upd_same
      generalize upd H22 l (.lst [V.str "@"]) = H23 at *
      refine ⟨_, rfl, a, 0, ws, rfl, (T22.same S3).sq, vw, by omega, fun H24 q1 xs S4 n4 L4 I4 => ?_⟩
      have ln4 : xs.length = ws.length := by rw [I4.len]; exact List.length_map ..
      refine ⟨l, q1, _, _, rfl, rfl, S4 _ _ L3, L4, ?_, fun p1 np1 => ?_⟩
      · rw [sizeLine_eq, ln4]; show 1 + _ ≤ _; omega
      have S5 : Same H24 (upd H24 p1 (.lst ([V.str "@"] ++ xs))) := same_upd np1
      have L5 : upd H24 p1 (.lst ([V.str "@"] ++ xs)) p1 = some (.lst ([V.str "@"] ++ xs)) := upd_same
      have I5 : ItV (upd H24 p1 (.lst ([V.str "@"] ++ xs))) ([V.str "@"] ++ xs) ([Im.ap] ++ markI 0 ws) := ItV.app ((ItV.nil _).snoc (v := V.str "@") (i := Im.ap) rfl) (I4.same S5)
      generalize upd H24 p1 (.lst ([V.str "@"] ++ xs)) = H25 at *
      have S2225 := S3.trans (S4.trans S5)
      refine ⟨(by show 3 ≤ sizeLine; decide), fun t1 nt1 => ?_⟩
      have S6' := same_upd (o := .tup [V.str "/", V.str "two", sv xN]) nt1
      have M6 : upd H25 t1 (.tup [V.str "/", V.str "two", sv xN]) t1 = some (.tup [V.str "/", V.str "two", sv xN]) := upd_same
      generalize upd H25 t1 (.tup [V.str "/", V.str "two", sv xN]) = H26 at *
      refine ⟨(by show 2 ≤ sizeLine; decide), fun t2 nt2 => ?_⟩
      have S7' := same_upd (o := .tup [V.str "two", sv xN]) nt2
      have M7 : upd H26 t2 (.tup [V.str "two", sv xN]) t2 = some (.tup [V.str "two", sv xN]) := upd_same
      generalize upd H26 t2 (.tup [V.str "two", sv xN]) = H27 at *
      refine ⟨(by show 2 ≤ sizeLine; decide), fun l2 nl2 => ?_⟩
      have S8' := same_upd (o := .lst [V.ref t1, V.ref t2]) nl2
      have L8 : upd H27 l2 (.lst [V.ref t1, V.ref t2]) l2 = some (.lst [V.ref t1, V.ref t2]) := upd_same
      generalize upd H27 l2 (.lst [V.ref t1, V.ref t2]) = H28 at *
      have S2528 := S6'.trans (S7'.trans S8')
      refine ⟨p1, l2, _, _, rfl, rfl, S2528 _ _ L5, L8, ?_, fun p2 np2 => ?_⟩
      · rw [sizeLine_eq, List.length_append, ln4]; show 1 + _ + 2 ≤ _; omega
      have S9' : Same H28 (upd H28 p2 (.lst ([V.str "@"] ++ xs ++ [V.ref t1, V.ref t2]))) := same_upd np2
      have L9 : upd H28 p2 (.lst ([V.str "@"] ++ xs ++ [V.ref t1, V.ref t2])) p2 = some (.lst ([V.str "@"] ++ xs ++ [V.ref t1, V.ref t2])) := upd_same
      have I9 : ItV (upd H28 p2 (.lst ([V.str "@"] ++ xs ++ [V.ref t1, V.ref t2]))) ([V.str "@"] ++ xs ++ [V.ref t1, V.ref t2]) ([Im.ap] ++ markI 0 ws ++ [.tk (1, xN), .nm (1, xN)]) := by
        refine ItV.app (I5.same (S2528.trans S9')) ?_
        refine ItV.snoc (vs := [V.ref t1]) (is := [.tk (1, xN)]) (ItV.snoc (vs := []) (is := []) (ItV.nil _) ?_) ?_
        · exact ⟨t1, rfl, by exact (S7'.trans (S8'.trans S9')) _ _ M6⟩
        · exact ⟨t2, rfl, by exact (S8'.trans S9') _ _ M7⟩
      generalize upd H28 p2 (.lst ([V.str "@"] ++ xs ++ [V.ref t1, V.ref t2])) = H29 at *
      have eI : [Im.ap] ++ markI 0 ws ++ [.tk (1, xN), .nm (1, xN)] = apI ws idW := by simp [apI, mark_idW]
      rw [eI] at I9
      refine ⟨p2, _, apI ws idW, rfl, L9, I9, (id_good vw).toWl, id_takes, id_ok vw, by rw [id_len]; omega, fun H30 r30 S30 n30 T30 => ?_⟩
      have e : stdI (opensI (apI ws idW)) (apI ws idW) = apW ws idW := by rw [id_opens]; rfl
      rw [e] at T30
      have okW : Vd (apW ws idW) := by
        rw [← e]
        refine (id_good vw).std ?_ (fun n hn => hn) (id_ok vw)
        have h1 : (takesI (apI ws idW)).length ≤ (apI ws idW).length := List.length_filterMap_le _ _
        have h2 : (opensI (apI ws idW)).length ≤ (apI ws idW).length := List.length_filterMap_le _ _
        rw [id_len] at h1 h2
        omega
      refine eqD_same (TZ.same (S2225.trans (S2528.trans (S9'.trans S30)))).sq T30.sq (plain_ws okW.ok) ?_
      exact k _
end
end Kk

/-! ### the end -/
namespace Kk
open PySem PySem.Spec PyProof.Rows L2
structure AllD (K : PySem.W.Frag) (mg : Str → Option Value) : Prop where
  d_law_draw : DefAt K mg "_law_draw" s_draw
  d_law_pot : DefAt K mg "_law_pot" s_pot
  d_law_letters : DefAt K mg "_law_letters" s_letters
  d_law_fresh : DefAt K mg "_law_fresh" s_fresh
  d_law_mixed : DefAt K mg "_law_mixed" s_mixed
  dmisfit_index : DefAt K mg "misfit_index" s_misfit_index
  dends_by : DefAt K mg "ends_by" s_ends_by
  dis_name : DefAt K mg "is_name" s_is_name
  dis_word : DefAt K mg "is_word" s_is_word
  dstranger_index : DefAt K mg "stranger_index" s_stranger_index
  dparts_in : DefAt K mg "parts_in" s_parts_in
  drepeated_index : DefAt K mg "repeated_index" s_repeated_index
  dends_of : DefAt K mg "ends_of" s_ends_of
  dunused_index : DefAt K mg "unused_index" s_unused_index
  dfault_index : DefAt K mg "fault_index" s_fault_index
  dis_number : DefAt K mg "is_number" s_is_number
  dstands_as_name : DefAt K mg "stands_as_name" s_stands_as_name
  dtaken_names : DefAt K mg "taken_names" s_taken_names
  dstanding_names : DefAt K mg "standing_names" s_standing_names
  dopen_names : DefAt K mg "open_names" s_open_names
  dgivens : DefAt K mg "givens" s_givens
  dtakes : DefAt K mg "takes" s_takes
  dends : DefAt K mg "ends" s_ends
  dcheck_place : DefAt K mg "check_place" s_check_place
  dbuilt : DefAt K mg "built" s_built
  dlettered : DefAt K mg "lettered" s_lettered
  dfresh_names : DefAt K mg "fresh_names" s_fresh_names
  drespelled : DefAt K mg "respelled" s_respelled
  dtold_anew : DefAt K mg "told_anew" s_told_anew
  dhave_common : DefAt K mg "have_common" s_have_common
  dapplied : DefAt K mg "applied" s_applied
  dstandard : DefAt K mg "standard" s_standard
  dsame : DefAt K mg "same" s_same
  dpart : DefAt K mg "part" s_part
  d_law_ends : DefAt K mg "_law_ends" s_ends2
  d_law_open : DefAt K mg "_law_open" s_open2
  d_law_marked : DefAt K mg "_law_marked" s_marked
  d_law_standard : DefAt K mg "_law_standard" s_standard2
  d_law_sides : DefAt K mg "_law_sides" s_sides
  d_law_comb : DefAt K mg "_law_comb" s_comb
  d_law_chain : DefAt K mg "_law_chain" s_chain
  d_law_nested : DefAt K mg "_law_nested" s_nested
theorem law_ok {P : Program} {w : World} {K : PySem.W.Frag} {mg : Str → Option Value} {base : Heap} {C f fi : Addr} {fk CSharedNames : Addr} {fd fdi fdk : FuncData} (B : Bt mg) (pc : PC K mg C) (M : Mk K C fi) (FI : Fun K "__init__" "Program.__init__" s_init fi fdi) (EQs : PySem.W.findIn K (.ref C) "__eq__" = some (some (.ref fq))) (EQi : PySem.W.isFn K (.ref fq) = true) (FQ : Fun K "__eq__" "Program.__eq__" s_eq fq fdq) (xSharedNames : ExD K mg "SharedNames" CSharedNames fk) (FK : Fun K "__init__" "KindError.__init__" s_kinit fk fdk) (a : AllD K mg) (F : Fun K "law" "law" s_law f fd) :
    FnOk P w K mg base CX0 11 f fd ["_law_script"] (spLaw K) := by
  have C_law_draw := c_draw (P := P) (w := w) (base := base) B (D := a.d_law_draw)
  have C_law_pot := c_pot (P := P) (w := w) (base := base) B (D := a.d_law_pot)
  have C_law_letters := c_letters (P := P) (w := w) (base := base) B (D := a.d_law_letters)
  have C_law_fresh := c_fresh (P := P) (w := w) (base := base) B (D := a.d_law_fresh) (C_law_draw := C_law_draw) (C_law_letters := C_law_letters)
  have C_law_mixed := c_mixed (P := P) (w := w) (base := base) B (D := a.d_law_mixed) (C_law_draw := C_law_draw)
  have C_law_mixed_N := c_mixed__N (P := P) (w := w) (base := base) (C_law_mixed := C_law_mixed)
  have Cmisfit_index := c_misfit_index (P := P) (w := w) (base := base) B (D := a.dmisfit_index)
  have Cends_by := c_ends_by (P := P) (w := w) (base := base) B (D := a.dends_by)
  have Cis_name := c_is_name (P := P) (w := w) (base := base) B (D := a.dis_name)
  have Cis_word := c_is_word (P := P) (w := w) (base := base) B (D := a.dis_word) (Cis_name := Cis_name)
  have Cstranger_index := c_stranger_index (P := P) (w := w) (base := base) B (D := a.dstranger_index) (Cis_word := Cis_word)
  have Cparts_in := c_parts_in (P := P) (w := w) (base := base) B (D := a.dparts_in)
  have Crepeated_index := c_repeated_index (P := P) (w := w) (base := base) B (D := a.drepeated_index)
  have Cends_of := c_ends_of (P := P) (w := w) (base := base) B (D := a.dends_of) (Cparts_in := Cparts_in) (Cends_by := Cends_by)
  have Cunused_index := c_unused_index (P := P) (w := w) (base := base) B (D := a.dunused_index) (Cends_of := Cends_of)
  have Cfault_index := c_fault_index (P := P) (w := w) (base := base) B (D := a.dfault_index) (Cstranger_index := Cstranger_index) (Cparts_in := Cparts_in) (Cmisfit_index := Cmisfit_index) (Crepeated_index := Crepeated_index) (Cunused_index := Cunused_index)
  have MProgram : Mkr P w K mg base C := ⟨fi, fdi, M, pc.mg, FI.binds (ps := ["self", "words"]) (fun _ _ _ _ _ _ us hl => match us, hl with | [_, _], _ => rfl), c_init (P := P) (w := w) (base := base) B pc (F := FI) (Cfault_index := Cfault_index)⟩
  have Cis_number := c_is_number (P := P) (w := w) (base := base) B (D := a.dis_number)
  have Cstands_as_name := c_stands_as_name (P := P) (w := w) (base := base) B (D := a.dstands_as_name)
  have Ctaken_names := c_taken_names (P := P) (w := w) (base := base) B pc (D := a.dtaken_names)
  have Cstanding_names := c_standing_names (P := P) (w := w) (base := base) B pc (D := a.dstanding_names) (Cstands_as_name := Cstands_as_name)
  have Copen_names := c_open_names (P := P) (w := w) (base := base) B pc (D := a.dopen_names) (Ctaken_names := Ctaken_names) (Cstanding_names := Cstanding_names)
  have Cgivens := c_givens (P := P) (w := w) (base := base) B pc (D := a.dgivens)
  have Ctakes := c_takes (P := P) (w := w) (base := base) B (D := a.dtakes) (Ctaken_names := Ctaken_names)
  have Cends := c_ends (P := P) (w := w) (base := base) B pc (D := a.dends) (Cends_of := Cends_of)
  have Ccheck_place := c_check_place (P := P) (w := w) (base := base) B pc (D := a.dcheck_place) (Cis_number := Cis_number)
  have Cbuilt := c_built (P := P) (w := w) (base := base) B pc (D := a.dbuilt) (MProgram := MProgram)
  have Clettered := c_lettered (P := P) (w := w) (base := base) B (D := a.dlettered)
  have Cfresh_names := c_fresh_names (P := P) (w := w) (base := base) B (D := a.dfresh_names) (Clettered := Clettered)
  have Crespelled := c_respelled (P := P) (w := w) (base := base) B (D := a.drespelled)
  have Ctold_anew := c_told_anew (P := P) (w := w) (base := base) B pc (D := a.dtold_anew) (Cfresh_names := Cfresh_names) (Crespelled := Crespelled) (Cbuilt := Cbuilt)
  have Chave_common := c_have_common (P := P) (w := w) (base := base) B (D := a.dhave_common)
  have Capplied := c_applied (P := P) (w := w) (base := base) B pc (D := a.dapplied) (ESharedNames := xSharedNames.at FK) (Ctold_anew := Ctold_anew) (Copen_names := Copen_names) (Chave_common := Chave_common)
  have EQ : Eqr P w K mg base C := ⟨fq, fdq, EQs, EQi, FQ.binds (ps := ["self", "other"]) (fun _ _ _ _ _ _ us hl => match us, hl with | [_, _], _ => rfl), c_eq (P := P) (w := w) (base := base) B pc (F := FQ)⟩
  have Cstandard := c_standard (P := P) (w := w) (base := base) B pc (D := a.dstandard) (Ctold_anew := Ctold_anew) (Copen_names := Copen_names)
  have Csame := c_same (P := P) (w := w) (base := base) B (EQ := EQ) (D := a.dsame) (Cstandard := Cstandard)
  have Cpart := c_part (P := P) (w := w) (base := base) B pc (D := a.dpart) (Ccheck_place := Ccheck_place) (Cends_of := Cends_of) (Cbuilt := Cbuilt)
  have C_law_ends := c_ends2 (P := P) (w := w) (base := base) B (D := a.d_law_ends)
  have C_law_ends_V := c_ends2__V (P := P) (w := w) (base := base) (C_law_ends := C_law_ends)
  have C_law_open := c_open2 (P := P) (w := w) (base := base) B (D := a.d_law_open)
  have C_law_marked := c_marked (P := P) (w := w) (base := base) B (D := a.d_law_marked)
  have C_law_standard := c_standard2 (P := P) (w := w) (base := base) B (D := a.d_law_standard) (C_law_letters := C_law_letters)
  have C_law_sides := c_sides (P := P) (w := w) (base := base) B (D := a.d_law_sides) (C_law_draw := C_law_draw)
  have C_law_comb := c_comb (P := P) (w := w) (base := base) B (D := a.d_law_comb)
  have C_law_chain := c_chain (P := P) (w := w) (base := base) B (D := a.d_law_chain) (C_law_fresh := C_law_fresh)
  have C_law_nested := c_nested (P := P) (w := w) (base := base) B (D := a.d_law_nested) (C_law_draw := C_law_draw) (C_law_fresh := C_law_fresh) (C_law_mixed := C_law_mixed_N) (C_law_sides := C_law_sides) (C_law_comb := C_law_comb)
  exact c_law (P := P) (w := w) (base := base) B pc (F := F) (MProgram := MProgram) (C_law_pot := C_law_pot) (C_law_draw := C_law_draw) (C_law_nested := C_law_nested) (C_law_chain := C_law_chain) (C_law_ends := C_law_ends) (C_law_open := C_law_open) (C_law_marked := C_law_marked) (C_law_standard := C_law_standard) (Cends := Cends) (Cgivens := Cgivens) (Copen_names := Copen_names) (Ctakes := Ctakes) (Cpart := Cpart) (Cstandard := Cstandard) (Csame := Csame) (Capplied := Capplied)
theorem def_mk {K : PySem.W.Frag} {h : Heap} {mg : Str → Option Value} {x : Str} {st : Stmt} (X : K.In h) (G : h.Ns mainGlobals mg) {f : Addr} {od an : Option Addr} {sl : Array (Option Value)} {oc kV dc pm cd ct : Value}
    (a : PySem.W.nsIn K mainGlobals x = some (some (.ref f))) (l : K.lookup f = some ⟨oc, od, .func (PySem.W.fnOf x x (defArgs st) (defBody st) (defScope st) .none kV dc pm an cd ct), sl⟩) (c : PySem.W.codeIn K cd x = true) (k : PySem.W.keepIn K (.ref f) = true) : DefAt K mg x st :=
  ⟨f, _, fun_mk (st := st) l c k, PySem.W.mg_of X G a⟩
theorem glob_s {K : PySem.W.Frag} {h : Heap} {mg : Str → Option Value} {x z : Str} {t : Tok} (X : K.In h) (G : h.Ns mainGlobals mg) (a : PySem.W.nsIn K mainGlobals x = some (some (.str z t))) : ∃ t, mg x = some (.str z t) := ⟨t, PySem.W.mg_of X G a⟩
theorem glob_i {K : PySem.W.Frag} {h : Heap} {mg : Str → Option Value} {x : Str} {z : Int} {t : Tok} (X : K.In h) (G : h.Ns mainGlobals mg) (a : PySem.W.nsIn K mainGlobals x = some (some (.int z t))) : ∃ t, mg x = some (.int z t) := ⟨t, PySem.W.mg_of X G a⟩
theorem law_mk {l : PySem.W.OpenLaw} {w : World} {K : PySem.W.Frag} {h : Heap} {mg : Str → Option Value} {fa C fi f : Addr} (X : K.In h) (G : h.Ns mainGlobals mg) (hfa : mg "law" = some (.ref fa))
    {fq : Addr} {od5 an5 : Option Addr} {sl5 : Array (Option Value)} {oc5 kV5 dc5 pm5 cd5 ct5 : Value} {fk CSharedNames : Addr} {od6 an6 : Option Addr} {sl6 : Array (Option Value)} {oc6 kV6 dc6 pm6 cd6 ct6 : Value} {od1 an1 od4 an4 : Option Addr} {sl1 sl4 : Array (Option Value)} {oc1 kV1 dc1 pm1 cd1 ct1 oc4 kV4 dc4 pm4 cd4 ct4 : Value}
    (a1 : PySem.W.findIn K (.ref C) "__init__" = some (some (.ref fi))) (i1 : PySem.W.isFn K (.ref fi) = true) (l1 : K.lookup fi = some ⟨oc1, od1, .func (PySem.W.fnOf "__init__" "Program.__init__" (defArgs s_init) (defBody s_init) (defScope s_init) .none kV1 dc1 pm1 an1 cd1 ct1), sl1⟩) (c1 : PySem.W.codeIn K cd1 "Program.__init__" = true) (k1 : PySem.W.keepIn K (.ref fi) = true)
    (a4 : PySem.W.nsIn K mainGlobals "law" = some (some (.ref f))) (l4 : K.lookup f = some ⟨oc4, od4, .func (PySem.W.fnOf "law" "law" (defArgs s_law) (defBody s_law) (defScope s_law) .none kV4 dc4 pm4 an4 cd4 ct4), sl4⟩) (c4 : PySem.W.codeIn K cd4 "law" = true) (k4 : PySem.W.keepIn K (.ref f) = true)
    (a5 : PySem.W.findIn K (.ref C) "__eq__" = some (some (.ref fq))) (i5 : PySem.W.isFn K (.ref fq) = true) (l5 : K.lookup fq = some ⟨oc5, od5, .func (PySem.W.fnOf "__eq__" "Program.__eq__" (defArgs s_eq) (defBody s_eq) (defScope s_eq) .none kV5 dc5 pm5 an5 cd5 ct5), sl5⟩) (c5 : PySem.W.codeIn K cd5 "Program.__eq__" = true) (k5 : PySem.W.keepIn K (.ref fq) = true) (xSharedNames : ExD K mg "SharedNames" CSharedNames fk) (l6 : K.lookup fk = some ⟨oc6, od6, .func (PySem.W.fnOf "__init__" "KindError.__init__" (defArgs s_kinit) (defBody s_kinit) (defScope s_kinit) .none kV6 dc6 pm6 an6 cd6 ct6), sl6⟩) (c6 : PySem.W.codeIn K cd6 "KindError.__init__" = true) (k6 : PySem.W.keepIn K (.ref fk) = true) (mk : PySem.W.makesIn K C = true) (kc : PySem.W.keepIn K (.ref C) = true)
    (B : Bt mg) (pc : PC K mg C) (a : AllD K mg) :
    ∃ fd : FuncData, (∀ (s : Shared) (v : Value), BindsTo s fd ⟨[v], []⟩ [("_law_script", v)]) ∧ ∀ base : Heap, K.In base → base.Ns mainGlobals mg → FnOk l.prog w K mg base CX0 11 fa fd ["_law_script"] (spLaw K) := by
  have e := hfa.symm.trans (PySem.W.mg_of X G a4)
  cases e
  exact ⟨PySem.W.fnOf "law" "law" (defArgs s_law) (defBody s_law) (defScope s_law) .none kV4 dc4 pm4 an4 cd4 ct4, fun s v => .of_eq rfl, fun base _ _ => law_ok B pc ⟨mk, a1, i1, kc⟩ (fun_mk (st := s_init) l1 c1 k1) a5 i5 (fun_mk (st := s_eq) l5 c5 k5) xSharedNames (fun_mk (st := s_kinit) l6 c6 k6) a (fun_mk (st := s_law) l4 c4 k4)⟩
theorem walk {l : PySem.W.OpenLaw} {q : Program} {loose : List Str} {XP : (Str → Option Value) → Heap → Prop} {YP : World → Heap → Prop} {d : DefRec} {K : Params → PySem.W.Frag} (hn : l.most = some 63) (hdf : d.params.defaults = [])
    (hY : ∀ (w : World) (h : Heap), YP w h → (K w.params).In h)
    (F : ∀ (w : World) (mg : Str → Option Value) (fa : Addr) (h : Heap), (K w.params).In h → h.Ns mainGlobals mg → mg d.name = some (.ref fa) →
      ∃ fd : FuncData, (∀ (s : Shared) (u : Value), BindsTo s fd ⟨[u], []⟩ [("_law_script", u)]) ∧ ∀ base : Heap, (K w.params).In base → base.Ns mainGlobals mg → FnOk l.prog w (K w.params) mg base CX0 11 fa fd ["_law_script"] (spLaw (K w.params))) :
    PySem.W.WalkO q loose XP YP l.row.toRowW d [] (fun f vs => PySem.call f vs) :=
  L2.walk_of (n := 63) (k := 11) (x := "_law_script") (CX := fun _ => CX0) (sp := fun w => spLaw (K w.params)) hn (by decide) hdf ⟨rfl, by decide, by decide⟩ hY F (fun _ _ a ns hl _ hS => ⟨a, ns, rfl, hS, hl, fun _ => rfl⟩) fun _ _ _ _ _ z => z
end Kk
open PySem PySem.W PyProof.Rows
set_option maxRecDepth 100000 in
set_option maxHeartbeats 0 in
theorem PySem.Challenge.cw_oncekinds_k11_whole_deep_programs_holds : PySem.Challenge.rw_oncekinds_k11_whole_deep_programs.Holds := by
  w_on; o_law; k_head; (case hw => w_witness2)
  k_fill
  refine Kk.walk (l := PySem.Challenge.rw_oncekinds_k11_whole_deep_programs) rfl rfl (fun w h Y => PySem.W.kIn_of Y) ?F
  case F =>
    intro w mg fa h KX G hmg
    have b_len : mg "len" = none := by refine' PySem.W.mg_none_of KX G ?z <;> k_is
    have b_int : mg "int" = none := by refine' PySem.W.mg_none_of KX G ?z <;> k_is
    have b_bool : mg "bool" = none := by refine' PySem.W.mg_none_of KX G ?z <;> k_is
    have b_str : mg "str" = none := by refine' PySem.W.mg_none_of KX G ?z <;> k_is
    have b_abs : mg "abs" = none := by refine' PySem.W.mg_none_of KX G ?z <;> k_is
    have b_min : mg "min" = none := by refine' PySem.W.mg_none_of KX G ?z <;> k_is
    have b_max : mg "max" = none := by refine' PySem.W.mg_none_of KX G ?z <;> k_is
    have b_sum : mg "sum" = none := by refine' PySem.W.mg_none_of KX G ?z <;> k_is
    have b_list : mg "list" = none := by refine' PySem.W.mg_none_of KX G ?z <;> k_is
    have b_tuple : mg "tuple" = none := by refine' PySem.W.mg_none_of KX G ?z <;> k_is
    have b_all : mg "all" = none := by refine' PySem.W.mg_none_of KX G ?z <;> k_is
    have b_isinstance : mg "isinstance" = none := by refine' PySem.W.mg_none_of KX G ?z <;> k_is
    have b_set : mg "set" = none := by refine' PySem.W.mg_none_of KX G ?z <;> k_is
    have b_range : mg "range" = none := by refine' PySem.W.mg_none_of KX G ?z <;> k_is
    have b_enumerate : mg "enumerate" = none := by refine' PySem.W.mg_none_of KX G ?z <;> k_is
    have b_reversed : mg "reversed" = none := by refine' PySem.W.mg_none_of KX G ?z <;> k_is
    have b_zip : mg "zip" = none := by refine' PySem.W.mg_none_of KX G ?z <;> k_is
    have b_divmod : mg "divmod" = none := by refine' PySem.W.mg_none_of KX G ?z <;> k_is
    have b_dict : mg "dict" = none := by refine' PySem.W.mg_none_of KX G ?z <;> k_is
    have b_sorted : mg "sorted" = none := by refine' PySem.W.mg_none_of KX G ?z <;> k_is
    have m_GIVEN : ∃ t, mg "GIVEN" = some (.str "@" t) := by refine' Kk.glob_s KX G ?gGIVEN; (case gGIVEN => k_is)
    have m_TAKE : ∃ t, mg "TAKE" = some (.str "/" t) := by refine' Kk.glob_s KX G ?gTAKE; (case gTAKE => k_is)
    have m_LETTERS : ∃ t, mg "LETTERS" = some (.str "abcdefghijklmnopqrstuvwxyz" t) := by refine' Kk.glob_s KX G ?gLETTERS; (case gLETTERS => k_is)
    have m_MOST_LETTERS : ∃ t, mg "MOST_LETTERS" = some (.int 8 t) := by refine' Kk.glob_i KX G ?gMOST_LETTERS; (case gMOST_LETTERS => k_is)
    have m_MOST_WORDS : ∃ t, mg "MOST_WORDS" = some (.int 1000 t) := by refine' Kk.glob_i KX G ?gMOST_WORDS; (case gMOST_WORDS => k_is)
    have B : Kk.Bt mg := ⟨b_len, b_int, b_bool, b_str, b_abs, b_min, b_max, b_sum, b_list, b_tuple, b_all, b_isinstance, b_set, b_range, b_enumerate, b_reversed, b_zip, b_divmod, b_dict, b_sorted, m_GIVEN, m_TAKE, m_LETTERS, m_MOST_LETTERS, m_MOST_WORDS⟩
    refine' Kk.law_mk KX G hmg ?a1 ?i1 ?l1 ?c1 ?k1 ?a4 ?l4 ?c4 ?k4 ?a5 ?i5 ?l5 ?c5 ?k5 (Kk.exD_mk (PySem.W.mg_of KX G ?gSharedNames) ?iSharedNames ?lSharedNames ?rSharedNames ?saSharedNames ?exSharedNames ?tySharedNames ?kCSharedNames ?nSharedNames ?mSharedNames ?tSharedNames) ?l6 ?c6 ?k6 ?mk ?kc B ⟨⟨?pg, ?hd, ?po, ?sa⟩, ?nw, PySem.W.mg_of KX G ?aC, ?ha, ?hn, ?ht, ?hm⟩ ⟨Kk.def_mk KX G ?a_law_draw ?l_law_draw ?c_law_draw ?k_law_draw, Kk.def_mk KX G ?a_law_pot ?l_law_pot ?c_law_pot ?k_law_pot, Kk.def_mk KX G ?a_law_letters ?l_law_letters ?c_law_letters ?k_law_letters, Kk.def_mk KX G ?a_law_fresh ?l_law_fresh ?c_law_fresh ?k_law_fresh, Kk.def_mk KX G ?a_law_mixed ?l_law_mixed ?c_law_mixed ?k_law_mixed, Kk.def_mk KX G ?amisfit_index ?lmisfit_index ?cmisfit_index ?kmisfit_index, Kk.def_mk KX G ?aends_by ?lends_by ?cends_by ?kends_by, Kk.def_mk KX G ?ais_name ?lis_name ?cis_name ?kis_name, Kk.def_mk KX G ?ais_word ?lis_word ?cis_word ?kis_word, Kk.def_mk KX G ?astranger_index ?lstranger_index ?cstranger_index ?kstranger_index, Kk.def_mk KX G ?aparts_in ?lparts_in ?cparts_in ?kparts_in, Kk.def_mk KX G ?arepeated_index ?lrepeated_index ?crepeated_index ?krepeated_index, Kk.def_mk KX G ?aends_of ?lends_of ?cends_of ?kends_of, Kk.def_mk KX G ?aunused_index ?lunused_index ?cunused_index ?kunused_index, Kk.def_mk KX G ?afault_index ?lfault_index ?cfault_index ?kfault_index, Kk.def_mk KX G ?ais_number ?lis_number ?cis_number ?kis_number, Kk.def_mk KX G ?astands_as_name ?lstands_as_name ?cstands_as_name ?kstands_as_name, Kk.def_mk KX G ?ataken_names ?ltaken_names ?ctaken_names ?ktaken_names, Kk.def_mk KX G ?astanding_names ?lstanding_names ?cstanding_names ?kstanding_names, Kk.def_mk KX G ?aopen_names ?lopen_names ?copen_names ?kopen_names, Kk.def_mk KX G ?agivens ?lgivens ?cgivens ?kgivens, Kk.def_mk KX G ?atakes ?ltakes ?ctakes ?ktakes, Kk.def_mk KX G ?aends ?lends ?cends ?kends, Kk.def_mk KX G ?acheck_place ?lcheck_place ?ccheck_place ?kcheck_place, Kk.def_mk KX G ?abuilt ?lbuilt ?cbuilt ?kbuilt, Kk.def_mk KX G ?alettered ?llettered ?clettered ?klettered, Kk.def_mk KX G ?afresh_names ?lfresh_names ?cfresh_names ?kfresh_names, Kk.def_mk KX G ?arespelled ?lrespelled ?crespelled ?krespelled, Kk.def_mk KX G ?atold_anew ?ltold_anew ?ctold_anew ?ktold_anew, Kk.def_mk KX G ?ahave_common ?lhave_common ?chave_common ?khave_common, Kk.def_mk KX G ?aapplied ?lapplied ?capplied ?kapplied, Kk.def_mk KX G ?astandard ?lstandard ?cstandard ?kstandard, Kk.def_mk KX G ?asame ?lsame ?csame ?ksame, Kk.def_mk KX G ?apart ?lpart ?cpart ?kpart, Kk.def_mk KX G ?a_law_ends ?l_law_ends ?c_law_ends ?k_law_ends, Kk.def_mk KX G ?a_law_open ?l_law_open ?c_law_open ?k_law_open, Kk.def_mk KX G ?a_law_marked ?l_law_marked ?c_law_marked ?k_law_marked, Kk.def_mk KX G ?a_law_standard ?l_law_standard ?c_law_standard ?k_law_standard, Kk.def_mk KX G ?a_law_sides ?l_law_sides ?c_law_sides ?k_law_sides, Kk.def_mk KX G ?a_law_comb ?l_law_comb ?c_law_comb ?k_law_comb, Kk.def_mk KX G ?a_law_chain ?l_law_chain ?c_law_chain ?k_law_chain, Kk.def_mk KX G ?a_law_nested ?l_law_nested ?c_law_nested ?k_law_nested⟩
    (case aC => k_is)
    (case a1 => k_is)
    (case i1 => k_is)
    (case l1 => k_is)
    (case c1 => k_is)
    (case k1 => k_is)
    (case a4 => k_is)
    (case l4 => k_is)
    (case c4 => k_is)
    (case k4 => k_is)
    (case a5 => k_is)
    (case i5 => k_is)
    (case l5 => k_is)
    (case c5 => k_is)
    (case k5 => k_is)
    (case gSharedNames => k_is)
    (case iSharedNames => k_is)
    (case lSharedNames => k_is)
    (case rSharedNames => decide +kernel)
    (case saSharedNames => k_is)
    (case exSharedNames => k_is)
    (case tySharedNames => k_is)
    (case kCSharedNames => k_is)
    (case nSharedNames => k_is)
    (case mSharedNames => k_is)
    (case tSharedNames => k_is)
    (case l6 => k_is)
    (case c6 => k_is)
    (case k6 => k_is)
    (case mk => k_is)
    (case kc => k_is)
    (case pg => k_is)
    (case hd => k_is)
    (case po => k_is)
    (case sa => k_is)
    (case nw => unfold L2.NoAttr; k_is)
    (case ha => k_is)
    (case hn => k_is)
    (case ht => k_is)
    (case hm => k_is)
    (case a_law_draw => k_is); (case l_law_draw => k_is); (case c_law_draw => k_is); (case k_law_draw => k_is)
    (case a_law_pot => k_is); (case l_law_pot => k_is); (case c_law_pot => k_is); (case k_law_pot => k_is)
    (case a_law_letters => k_is); (case l_law_letters => k_is); (case c_law_letters => k_is); (case k_law_letters => k_is)
    (case a_law_fresh => k_is); (case l_law_fresh => k_is); (case c_law_fresh => k_is); (case k_law_fresh => k_is)
    (case a_law_mixed => k_is); (case l_law_mixed => k_is); (case c_law_mixed => k_is); (case k_law_mixed => k_is)
    (case amisfit_index => k_is); (case lmisfit_index => k_is); (case cmisfit_index => k_is); (case kmisfit_index => k_is)
    (case aends_by => k_is); (case lends_by => k_is); (case cends_by => k_is); (case kends_by => k_is)
    (case ais_name => k_is); (case lis_name => k_is); (case cis_name => k_is); (case kis_name => k_is)
    (case ais_word => k_is); (case lis_word => k_is); (case cis_word => k_is); (case kis_word => k_is)
    (case astranger_index => k_is); (case lstranger_index => k_is); (case cstranger_index => k_is); (case kstranger_index => k_is)
    (case aparts_in => k_is); (case lparts_in => k_is); (case cparts_in => k_is); (case kparts_in => k_is)
    (case arepeated_index => k_is); (case lrepeated_index => k_is); (case crepeated_index => k_is); (case krepeated_index => k_is)
    (case aends_of => k_is); (case lends_of => k_is); (case cends_of => k_is); (case kends_of => k_is)
    (case aunused_index => k_is); (case lunused_index => k_is); (case cunused_index => k_is); (case kunused_index => k_is)
    (case afault_index => k_is); (case lfault_index => k_is); (case cfault_index => k_is); (case kfault_index => k_is)
    (case ais_number => k_is); (case lis_number => k_is); (case cis_number => k_is); (case kis_number => k_is)
    (case astands_as_name => k_is); (case lstands_as_name => k_is); (case cstands_as_name => k_is); (case kstands_as_name => k_is)
    (case ataken_names => k_is); (case ltaken_names => k_is); (case ctaken_names => k_is); (case ktaken_names => k_is)
    (case astanding_names => k_is); (case lstanding_names => k_is); (case cstanding_names => k_is); (case kstanding_names => k_is)
    (case aopen_names => k_is); (case lopen_names => k_is); (case copen_names => k_is); (case kopen_names => k_is)
    (case agivens => k_is); (case lgivens => k_is); (case cgivens => k_is); (case kgivens => k_is)
    (case atakes => k_is); (case ltakes => k_is); (case ctakes => k_is); (case ktakes => k_is)
    (case aends => k_is); (case lends => k_is); (case cends => k_is); (case kends => k_is)
    (case acheck_place => k_is); (case lcheck_place => k_is); (case ccheck_place => k_is); (case kcheck_place => k_is)
    (case abuilt => k_is); (case lbuilt => k_is); (case cbuilt => k_is); (case kbuilt => k_is)
    (case alettered => k_is); (case llettered => k_is); (case clettered => k_is); (case klettered => k_is)
    (case afresh_names => k_is); (case lfresh_names => k_is); (case cfresh_names => k_is); (case kfresh_names => k_is)
    (case arespelled => k_is); (case lrespelled => k_is); (case crespelled => k_is); (case krespelled => k_is)
    (case atold_anew => k_is); (case ltold_anew => k_is); (case ctold_anew => k_is); (case ktold_anew => k_is)
    (case ahave_common => k_is); (case lhave_common => k_is); (case chave_common => k_is); (case khave_common => k_is)
    (case aapplied => k_is); (case lapplied => k_is); (case capplied => k_is); (case kapplied => k_is)
    (case astandard => k_is); (case lstandard => k_is); (case cstandard => k_is); (case kstandard => k_is)
    (case asame => k_is); (case lsame => k_is); (case csame => k_is); (case ksame => k_is)
    (case apart => k_is); (case lpart => k_is); (case cpart => k_is); (case kpart => k_is)
    (case a_law_ends => k_is); (case l_law_ends => k_is); (case c_law_ends => k_is); (case k_law_ends => k_is)
    (case a_law_open => k_is); (case l_law_open => k_is); (case c_law_open => k_is); (case k_law_open => k_is)
    (case a_law_marked => k_is); (case l_law_marked => k_is); (case c_law_marked => k_is); (case k_law_marked => k_is)
    (case a_law_standard => k_is); (case l_law_standard => k_is); (case c_law_standard => k_is); (case k_law_standard => k_is)
    (case a_law_sides => k_is); (case l_law_sides => k_is); (case c_law_sides => k_is); (case k_law_sides => k_is)
    (case a_law_comb => k_is); (case l_law_comb => k_is); (case c_law_comb => k_is); (case k_law_comb => k_is)
    (case a_law_chain => k_is); (case l_law_chain => k_is); (case c_law_chain => k_is); (case k_law_chain => k_is)
    (case a_law_nested => k_is); (case l_law_nested => k_is); (case c_law_nested => k_is); (case k_law_nested => k_is)
