import PyProof.Rows.All
import Wide.All
import OpenK.AllK
import Wide.FinOn
import HandS.Text
import HandS.JoinGen
import KE.GoesMore
import HandS.ForMost
import HandS.SetKeys
import HandS.DictComp
import HandS.Codes
import HandS.IsInst
import HandS.Strs
import HandS.RevRange
import HandS.Conv
import HandS.Wide
import KE.GoesEnum
import HandS.Gcd
import HandS.CallLocal
import KE.KMathGC
import HandS.WordsList
import PySem.Challenge.RW_oncekinds_k46_whole_counts_by_closed_for
set_option Elab.async false
set_option linter.all false
set_option maxRecDepth 100000
set_option maxHeartbeats 4000000
namespace Ct
abbrev g (l : List Nat) (i : Nat) : Nat := l.getD i 0
abbrev gg (l : List (List Nat)) (i : Nat) : List Nat := l.getD i []
/-! ### what the program does -/
def splits (F R : List Nat) (n : Nat) : List Nat :=
  List.replicate (n + 1 - R.length) 0 ++ ((List.range (min (n + 1) F.length - (n + 1 - R.length))).map fun i => g F (n + 1 - R.length + i) * g R (n - (n + 1 - R.length + i))) ++ List.replicate (n + 1 - max (n + 1 - R.length) (min (n + 1) F.length)) 0
theorem g_out {l : List Nat} {i : Nat} (h : l.length ≤ i) : g l i = 0 := by
  unfold g
  rw [List.getD_eq_getElem?_getD, List.getElem?_eq_none h]; rfl
theorem g_in {l : List Nat} {i : Nat} (h : i < l.length) : l[i]? = some (g l i) := by
  unfold g
  rw [List.getD_eq_getElem?_getD, List.getElem?_eq_getElem h]; rfl
theorem g_some {l : List Nat} {i x : Nat} (h : l[i]? = some x) : g l i = x := by
  unfold g
  rw [List.getD_eq_getElem?_getD, h]; rfl
theorem splits_eq (F R : List Nat) (n : Nat) : splits F R n = (List.range (n + 1)).map fun i => g F i * g R (n - i) := by
  apply List.ext_getElem?
  intro i
  unfold splits
  generalize hL : n + 1 - R.length = L
  generalize hM : min (n + 1) F.length = M
  rw [List.getElem?_map]
  by_cases h1 : i < L
  · rw [List.append_assoc, List.getElem?_append_left (by simpa using h1), List.getElem?_replicate, if_pos h1, List.getElem?_range (by omega)]
    show some 0 = some (g F i * g R (n - i))
    rw [g_out (l := R) (by omega), Nat.mul_zero]
  · by_cases h2 : i < M
    · rw [List.getElem?_append_left (by simp; omega), List.getElem?_append_right (by simpa using h1), List.getElem?_map, List.length_replicate, List.getElem?_range (by omega), List.getElem?_range (by omega)]
      show some _ = some _
      have e : L + (i - L) = i := by omega
      simp only [e]
    · rw [List.getElem?_append_right (by simp; omega)]
      by_cases h3 : i < n + 1
      · rw [List.getElem?_replicate, if_pos (by simp; omega), List.getElem?_range h3]
        show some 0 = some (g F i * g R (n - i))
        rw [g_out (l := F) (by omega), Nat.zero_mul]
      · rw [List.getElem?_replicate, if_neg (by simp; omega), List.getElem?_eq_none (l := List.range (n + 1)) (by simp; omega)]
        rfl
theorem splits_len (F R : List Nat) (n : Nat) : (splits F R n).length = n + 1 := by rw [splits_eq]; simp
/-- the products that are summed -/
def wl (ch : Nat → Nat → Nat) (n : Nat) (ws : List Nat) : List Nat := (List.range ws.length).filterMap fun i => if 0 < g ws i then some (ch n i * g ws i) else none
def wsum (ch : Nat → Nat → Nat) (n : Nat) (ws : List Nat) : Nat := (wl ch n ws).sum
theorem sum_filter {α : Type} (l : List α) (p : α → Nat) (c : α → Nat) : (l.filterMap fun i => if 0 < p i then some (c i * p i) else none).sum = (l.map fun i => c i * p i).sum := by
  induction l with
  | nil => rfl
  | cons a l ih =>
    rw [List.filterMap_cons, List.map_cons, List.sum_cons, ← ih]
    by_cases h : 0 < p a
    · rw [if_pos h]; rfl
    · rw [if_neg h, show p a = 0 by omega]; simp
theorem wsum_eq (ch : Nat → Nat → Nat) (F R : List Nat) (n : Nat) : wsum ch n (splits F R n) = ((List.range (n + 1)).map fun i => ch n i * (g F i * g R (n - i))).sum := by
  unfold wsum wl
  rw [sum_filter, splits_len]
  congr 1
  refine List.map_congr_left fun i hi => ?_
  have := List.mem_range.mp hi
  congr 1
  refine g_some ?_
  rw [splits_eq, List.getElem?_map, List.getElem?_range this]
  rfl
def giving (ch : Nat → Nat → Nat) (F R : List (List Nat)) (n : Nat) : Nat :=
  ((List.range R.length).map fun l => wsum ch n (splits (gg F l) (gg R (R.length - 1 - l)) n)).sum
def sufs : List Nat → List Nat
  | [] => []
  | x :: xs => (x + g (sufs xs) 0) :: sufs xs
def rowOf (ch : Nat → Nat → Nat) (F R : List (List Nat)) (k : Nat) : List Nat :=
  if k = 0 then ((List.range (k + 2)).map (giving ch F R)).set 1 1 else (List.range (k + 2)).map (giving ch F R)
/-- firsts and rows ahead of k givens -/
def rows (ch : Nat → Nat → Nat) (rests : Bool) : Nat → List (List Nat) × List (List Nat)
  | 0 => ([], [])
  | k + 1 => ((rows ch rests k).1 ++ [if rests then rowOf ch (rows ch rests k).1 (rows ch rests k).2 k else sufs (rowOf ch (rows ch rests k).1 (rows ch rests k).2 k)], (rows ch rests k).2 ++ [sufs (rowOf ch (rows ch rests k).1 (rows ch rests k).2 k)])
theorem rows_len (ch : Nat → Nat → Nat) (rests : Bool) (k : Nat) : (rows ch rests k).1.length = k ∧ (rows ch rests k).2.length = k := by
  induction k with
  | zero => exact ⟨rfl, rfl⟩
  | succ k ih => simp [rows, ih.1, ih.2]
theorem rows_pre (ch : Nat → Nat → Nat) (rests : Bool) {j k i : Nat} (h : j ≤ k) (hi : i < j) : (rows ch rests j).1[i]? = (rows ch rests k).1[i]? ∧ (rows ch rests j).2[i]? = (rows ch rests k).2[i]? := by
  induction h with
  | refl => exact ⟨rfl, rfl⟩
  | @step m h ih =>
    have l := rows_len ch rests m
    have h' : j ≤ m := h
    refine ⟨ih.1.trans ?_, ih.2.trans ?_⟩
    · simp only [rows]; rw [List.getElem?_append_left (by omega)]
    · simp only [rows]; rw [List.getElem?_append_left (by omega)]
/-! ### the same, quick to reckon -/
def cv : List Nat → List Nat → List Nat → Nat
  | c :: cs, f :: fs, r :: rs => c * (f * r) + cv cs fs rs
  | _, _, _ => 0
def cvs : List (List Nat) → List Nat → List Nat → List Nat → List Nat
  | [], _, _, _ => []
  | c :: cs, F, R, rev => cv c F (R.headD 0 :: rev) :: cvs cs F R.tail (R.headD 0 :: rev)
def addl : List Nat → List Nat → List Nat
  | a :: as, b :: bs => (a + b) :: addl as bs
  | _, _ => []
def givs (P : List (List Nat)) : List (List Nat) → List (List Nat) → List Nat → List Nat
  | F :: Fs, R :: Rs, acc => givs P Fs Rs (addl acc (cvs P F R []))
  | _, _, acc => acc
def rowF (P : List (List Nat)) (F R : List (List Nat)) (k : Nat) : List Nat :=
  if k = 0 then (givs (P.take (k + 2)) F R.reverse (List.replicate (k + 2) 0)).set 1 1 else givs (P.take (k + 2)) F R.reverse (List.replicate (k + 2) 0)
def sufF : List Nat → List Nat
  | [] => []
  | x :: xs => match sufF xs with
    | [] => [x]
    | y :: ys => (x + y) :: y :: ys
def stepF (rests : Bool) (r : List Nat) (F R : List (List Nat)) : List (List Nat) × List (List Nat) := (F ++ [if rests then r else sufF r], R ++ [sufF r])
def rowsF (P : List (List Nat)) (rests : Bool) : Nat → List (List Nat) × List (List Nat)
  | 0 => ([], [])
  | k + 1 => match rowsF P rests k with
    | (F, R) => stepF rests (rowF P F R k) F R
def pasc : Nat → List (List Nat)
  | 0 => [[1]]
  | n + 1 => pasc n ++ [1 :: addl ((pasc n).getD n []) (((pasc n).getD n []).tail ++ [0])]
def onesP (n : Nat) : List (List Nat) := (List.range (n + 1)).map fun i => List.replicate (i + 1) 1
/-! ### both are the same -/
theorem sum_range_succ (n : Nat) (f : Nat → Nat) : ((List.range (n + 1)).map f).sum = f 0 + ((List.range n).map fun i => f (i + 1)).sum := by
  rw [List.range_succ_eq_map, List.map_cons, List.sum_cons, List.map_map]
  rfl
theorem g_zero (x : Nat) (xs : List Nat) : g (x :: xs) 0 = x := rfl
theorem g_succ (x : Nat) (xs : List Nat) (i : Nat) : g (x :: xs) (i + 1) = g xs i := rfl
theorem g_nil (i : Nat) : g [] i = 0 := g_out (by simp)
theorem cv_eq : ∀ (cs F rs : List Nat), rs.length ≤ cs.length → cv cs F rs = ((List.range rs.length).map fun i => g cs i * (g F i * g rs i)).sum
  | cs, F, [], _ => by cases cs <;> cases F <;> rfl
  | [], F, r :: rs, h => by simp at h
  | c :: cs, [], r :: rs, h => by
    have : ((List.range (r :: rs).length).map fun i => g (c :: cs) i * (g ([] : List Nat) i * g (r :: rs) i)) = (List.range (r :: rs).length).map fun _ => 0 := List.map_congr_left fun i _ => by rw [g_nil]; simp
    rw [this]
    have z : ∀ n, ((List.range n).map fun _ => 0).sum = 0 := fun n => by
      induction n with
      | zero => rfl
      | succ n ih => rw [sum_range_succ, ih]
    rw [z]; rfl
  | c :: cs, f :: F, r :: rs, h => by
    show c * (f * r) + cv cs F rs = _
    rw [List.length_cons, sum_range_succ, cv_eq cs F rs (by simpa using h)]
    rfl
theorem g_tail (R : List Nat) (i : Nat) : g R.tail i = g R (i + 1) := by cases R with
  | nil => rw [g_nil]; exact g_nil _
  | cons a l => rfl
theorem headD_g (R : List Nat) : R.headD 0 = g R 0 := by cases R <;> rfl
theorem cvs_get : ∀ (C : List (List Nat)) (F R rev : List Nat) (j : Nat) (c : List Nat), C[j]? = some c → (cvs C F R rev)[j]? = some (cv c F (((List.range (j + 1)).map fun i => g R (j - i)) ++ rev))
  | [], F, R, rev, j, c, h => by simp at h
  | c0 :: cs, F, R, rev, 0, c, h => by
    cases h
    show some (cv c0 F (R.headD 0 :: rev)) = _
    rw [headD_g]; rfl
  | c0 :: cs, F, R, rev, j + 1, c, h => by
    show (cvs cs F R.tail (R.headD 0 :: rev))[j]? = _
    rw [cvs_get cs F R.tail _ j c (by simpa using h), headD_g]
    have e : (List.range (j + 1 + 1)).map (fun i => g R (j + 1 - i)) = (List.range (j + 1)).map (fun i => g R.tail (j - i)) ++ [g R 0] := by
      rw [List.range_succ, List.map_append]
      congr 1
      · refine List.map_congr_left fun i hi => ?_
        have := List.mem_range.mp hi
        rw [g_tail]
        congr 1; omega
      · simp
    rw [e]
    simp
theorem cvs_len : ∀ (C : List (List Nat)) (F R rev : List Nat), (cvs C F R rev).length = C.length
  | [], _, _, _ => rfl
  | c :: cs, F, R, rev => by simp [cvs, cvs_len cs]
theorem addl_len : ∀ (a b : List Nat), a.length = b.length → (addl a b).length = a.length
  | [], [], _ => rfl
  | [], _ :: _, h => by simp at h
  | _ :: _, [], h => by simp at h
  | a :: as, b :: bs, h => by simp [addl, addl_len as bs (by simpa using h)]
theorem addl_g : ∀ (a b : List Nat) (i : Nat), a.length = b.length → g (addl a b) i = g a i + g b i
  | [], [], i, _ => by show g [] i = g [] i + g [] i; rw [g_nil]
  | [], _ :: _, _, h => by simp at h
  | _ :: _, [], _, h => by simp at h
  | a :: as, b :: bs, 0, _ => rfl
  | a :: as, b :: bs, i + 1, h => addl_g as bs i (by simpa using h)
theorem givs_len (P : List (List Nat)) : ∀ (F R : List (List Nat)) (acc : List Nat), acc.length = P.length → (givs P F R acc).length = P.length
  | [], R, acc, h => by cases R <;> exact h
  | _ :: _, [], acc, h => h
  | F :: Fs, R :: Rs, acc, h => givs_len P Fs Rs _ (by rw [addl_len _ _ (by rw [cvs_len]; exact h)]; exact h)
theorem givs_g (P : List (List Nat)) (n : Nat) : ∀ (F R : List (List Nat)) (acc : List Nat), acc.length = P.length → F.length = R.length → g (givs P F R acc) n = g acc n + ((List.range F.length).map fun l => g (cvs P (gg F l) (gg R l) []) n).sum
  | [], [], acc, _, _ => rfl
  | [], _ :: _, acc, _, h => by simp at h
  | _ :: _, [], acc, _, h => by simp at h
  | F :: Fs, R :: Rs, acc, h, h2 => by
    have hl : acc.length = (cvs P F R []).length := by rw [cvs_len]; exact h
    show g (givs P Fs Rs (addl acc (cvs P F R []))) n = _
    rw [givs_g P n Fs Rs _ (by rw [addl_len _ _ hl]; exact h) (by simpa using h2), addl_g _ _ _ hl, List.length_cons, sum_range_succ, Nat.add_assoc]
    rfl
theorem gg_rev (R : List (List Nat)) (l : Nat) (h : l < R.length) : gg R.reverse l = gg R (R.length - 1 - l) := by
  unfold gg
  rw [List.getD_eq_getElem?_getD, List.getD_eq_getElem?_getD, List.getElem?_reverse h]
/-- the rows tell the choices -/
def Tells (P : List (List Nat)) (ch : Nat → Nat → Nat) : Prop := ∀ n, n < P.length → ∃ c, P[n]? = some c ∧ n + 1 ≤ c.length ∧ ∀ i, i ≤ n → g c i = ch n i
theorem giving_eq {P : List (List Nat)} {ch : Nat → Nat → Nat} (T : Tells P ch) {F R : List (List Nat)} (hl : F.length = R.length) {m n : Nat} (hm : m ≤ P.length) (hn : n < m) : g (givs (P.take m) F R.reverse (List.replicate m 0)) n = giving ch F R n := by
  have hlm : (P.take m).length = m := by rw [List.length_take]; omega
  rw [givs_g _ n F R.reverse _ (by rw [hlm]; simp) (by simpa using hl)]
  rw [show g (List.replicate m 0) n = 0 from g_some (by rw [List.getElem?_replicate, if_pos hn]), Nat.zero_add, hl]
  unfold giving
  congr 1
  refine List.map_congr_left fun l hlr => ?_
  have hlr := List.mem_range.mp hlr
  obtain ⟨c, hc, hcl, hcc⟩ := T n (by omega)
  rw [gg_rev R l hlr, wsum_eq]
  refine (g_some (cvs_get _ _ _ [] n c (by rw [List.getElem?_take_of_lt hn]; exact hc))).trans ?_
  rw [List.append_nil, cv_eq _ _ _ (by simpa using hcl)]
  simp only [List.length_map, List.length_range]
  congr 1
  refine List.map_congr_left fun i hi => ?_
  have hi := List.mem_range.mp hi
  rw [hcc i (by omega)]
  congr 2
  refine g_some ?_
  rw [List.getElem?_map, List.getElem?_range hi]
  rfl
theorem ext_g {a b : List Nat} (hl : a.length = b.length) (h : ∀ i, i < b.length → g a i = g b i) : a = b := by
  apply List.ext_getElem?
  intro i
  by_cases hi : i < b.length
  · rw [g_in hi, g_in (l := a) (by omega), h i hi]
  · rw [List.getElem?_eq_none (by omega), List.getElem?_eq_none (by omega)]
theorem rowF_eq {P : List (List Nat)} {ch : Nat → Nat → Nat} (T : Tells P ch) {F R : List (List Nat)} (hl : F.length = R.length) {k : Nat} (hk : k + 2 ≤ P.length) : rowF P F R k = rowOf ch F R k := by
  have e : givs (P.take (k + 2)) F R.reverse (List.replicate (k + 2) 0) = (List.range (k + 2)).map (giving ch F R) := by
    have hlm : (P.take (k + 2)).length = k + 2 := by rw [List.length_take]; omega
    refine ext_g ?_ fun i hi => ?_
    · rw [givs_len _ _ _ _ (by rw [hlm]; simp), hlm]; simp
    · simp at hi
      rw [giving_eq T hl hk hi]
      exact (g_some (by rw [List.getElem?_map, List.getElem?_range hi]; rfl)).symm
  unfold rowF rowOf
  rw [e]
theorem sufF_eq : ∀ l, sufF l = sufs l
  | [] => rfl
  | x :: xs => by
    show (match sufF xs with | [] => [x] | y :: ys => (x + y) :: y :: ys) = _
    rw [sufF_eq xs]
    show _ = (x + g (sufs xs) 0) :: sufs xs
    cases sufs xs <;> rfl
theorem rowsF_eq {P : List (List Nat)} {ch : Nat → Nat → Nat} (T : Tells P ch) (rests : Bool) : ∀ k, k + 1 ≤ P.length → rowsF P rests k = rows ch rests k
  | 0, _ => rfl
  | k + 1, h => by
    have ih := rowsF_eq T rests k (by omega)
    show (match rowsF P rests k with | (F, R) => stepF rests (rowF P F R k) F R) = _
    rw [ih]
    have l := rows_len ch rests k
    show stepF rests (rowF P (rows ch rests k).1 (rows ch rests k).2 k) (rows ch rests k).1 (rows ch rests k).2 = _
    rw [rowF_eq T (by rw [l.1, l.2]) (by omega)]
    unfold stepF
    rw [sufF_eq]
    rfl
/-! ### by recursors: quicker yet -/
noncomputable def cvR (cs : List Nat) : List Nat → List Nat → Nat :=
  List.rec (motive := fun _ => List Nat → List Nat → Nat) (fun _ _ => 0) (fun c _ ih F rs => List.rec (motive := fun _ => Nat) 0 (fun f fs _ => List.rec (motive := fun _ => Nat) 0 (fun r rs' _ => Nat.add (Nat.mul c (Nat.mul f r)) (ih fs rs')) rs) F) cs
noncomputable def cvsR (C : List (List Nat)) (F : List Nat) : List Nat → List Nat → List Nat :=
  List.rec (motive := fun _ => List Nat → List Nat → List Nat) (fun _ _ => []) (fun c _ ih R rev => List.rec (motive := fun _ => List Nat) (cvR c F (0 :: rev) :: ih [] (0 :: rev)) (fun r R' _ => cvR c F (r :: rev) :: ih R' (r :: rev)) R) C
noncomputable def addR (a : List Nat) : List Nat → List Nat :=
  List.rec (motive := fun _ => List Nat → List Nat) (fun _ => []) (fun x _ ih b => List.rec (motive := fun _ => List Nat) [] (fun y b' _ => Nat.add x y :: ih b') b) a
noncomputable def givR (P : List (List Nat)) (F : List (List Nat)) : List (List Nat) → List Nat → List Nat :=
  List.rec (motive := fun _ => List (List Nat) → List Nat → List Nat) (fun _ acc => acc) (fun f _ ih R acc => List.rec (motive := fun _ => List Nat) acc (fun r R' _ => ih R' (addR acc (cvsR P f r []))) R) F
noncomputable def rowR (P : List (List Nat)) (F R : List (List Nat)) (k : Nat) : List Nat :=
  if k = 0 then (givR (P.take (k + 2)) F R.reverse (List.replicate (k + 2) 0)).set 1 1 else givR (P.take (k + 2)) F R.reverse (List.replicate (k + 2) 0)
noncomputable def rowsR (P : List (List Nat)) (rests : Bool) (k : Nat) : List (List Nat) × List (List Nat) :=
  Nat.rec (motive := fun _ => List (List Nat) × List (List Nat)) ([], []) (fun k p => Prod.rec (motive := fun _ => List (List Nat) × List (List Nat)) (fun F R => stepF rests (rowR P F R k) F R) p) k
theorem cvR_eq : ∀ cs F rs, cvR cs F rs = cv cs F rs
  | [], F, rs => by cases F <;> cases rs <;> rfl
  | c :: cs, [], rs => rfl
  | c :: cs, f :: F, [] => rfl
  | c :: cs, f :: F, r :: rs => by
    show c * (f * r) + cvR cs F rs = c * (f * r) + cv cs F rs
    rw [cvR_eq cs F rs]
theorem cvsR_eq : ∀ C F R rev, cvsR C F R rev = cvs C F R rev
  | [], F, R, rev => rfl
  | c :: cs, F, [], rev => by
    show cvR c F (0 :: rev) :: cvsR cs F [] (0 :: rev) = cv c F (0 :: rev) :: cvs cs F [] (0 :: rev)
    rw [cvR_eq, cvsR_eq cs]
  | c :: cs, F, r :: R, rev => by
    show cvR c F (r :: rev) :: cvsR cs F R (r :: rev) = cv c F (r :: rev) :: cvs cs F R (r :: rev)
    rw [cvR_eq, cvsR_eq cs]
theorem addR_eq : ∀ a b, addR a b = addl a b
  | [], b => by cases b <;> rfl
  | x :: a, [] => rfl
  | x :: a, y :: b => by
    show (x + y) :: addR a b = (x + y) :: addl a b
    rw [addR_eq a b]
theorem givR_eq (P : List (List Nat)) : ∀ F R acc, givR P F R acc = givs P F R acc
  | [], R, acc => by cases R <;> rfl
  | f :: F, [], acc => rfl
  | f :: F, r :: R, acc => by
    show givR P F R (addR acc (cvsR P f r [])) = givs P F R (addl acc (cvs P f r []))
    rw [givR_eq P F R, addR_eq, cvsR_eq]
theorem rowR_eq (P F R : List (List Nat)) (k : Nat) : rowR P F R k = rowF P F R k := by unfold rowR rowF; rw [givR_eq]
theorem rowsR_eq (P : List (List Nat)) (rests : Bool) : ∀ k, rowsR P rests k = rowsF P rests k
  | 0 => rfl
  | k + 1 => by
    have ih := rowsR_eq P rests k
    show Prod.rec (motive := fun _ => List (List Nat) × List (List Nat)) (fun F R => stepF rests (rowR P F R k) F R) (rowsR P rests k) = (match rowsF P rests k with | (F, R) => stepF rests (rowF P F R k) F R)
    rw [ih]
    cases rowsF P rests k with
    | mk F R => show stepF rests (rowR P F R k) F R = stepF rests (rowF P F R k) F R; rw [rowR_eq]
end Ct

/-! words of programs: plain mathematics -/
namespace Wd
open PySem

abbrev Nm := List Nat
def nmOk (n : Nm) : Prop := 1 ≤ n.length ∧ n.length ≤ 8 ∧ ∀ c ∈ n, 97 ≤ c ∧ c ≤ 122
inductive W where
  | ap
  | tk (n : Nm)
  | nm (n : Nm)
  deriving DecidableEq
def wOk : W → Prop
  | .ap => True
  | .tk n => nmOk n
  | .nm n => nmOk n
def code : W → List Nat
  | .ap => [64]
  | .tk n => 47 :: n
  | .nm n => n
def enc (w : W) : Str := ⟨(code w).toArray⟩
def str (n : Nm) : Str := ⟨n.toArray⟩
theorem str_inj {a b : Nm} (h : str a = str b) : a = b := by
  have := congrArg TL.tl h
  exact this
theorem tl_str (n : Nm) : TL.tl (str n) = n := rfl
theorem tl_enc (w : W) : TL.tl (enc w) = code w := rfl
theorem enc_nm (n : Nm) : enc (.nm n) = str n := rfl
theorem enc_tk (n : Nm) : enc (.tk n) = str (47 :: n) := rfl
theorem code_inj {a b : W} (ha : wOk a) (hb : wOk b) (h : code a = code b) : a = b := by
  cases a <;> cases b <;> simp [code] at h <;> try rfl
  · subst h; have := hb.2.2 64 (by simp); omega
  · subst h; rfl
  · subst h; have := hb.2.2 47 (by simp); omega
  · subst h; have := ha.2.2 64 (by simp); omega
  · subst h; have := ha.2.2 47 (by simp); omega
  · subst h; rfl
theorem enc_inj {a b : W} (ha : wOk a) (hb : wOk b) (h : enc a = enc b) : a = b :=
  code_inj ha hb (by have := congrArg TL.tl h; exact this)

/-! ### trees -/
inductive T where
  | nm (n : Nm)
  | ap (f a : T)
  | tk (n : Nm) (b : T)
namespace T
def ws : T → List W
  | .nm n => [.nm n]
  | .ap f a => .ap :: (f.ws ++ a.ws)
  | .tk n b => .tk n :: b.ws
def lv : T → List Nm
  | .nm n => [n]
  | .ap f a => f.lv ++ a.lv
  | .tk _ b => b.lv
def tks : T → List Nm
  | .nm _ => []
  | .ap f a => f.tks ++ a.tks
  | .tk n b => n :: b.tks
def sc : T → Prop
  | .nm _ => True
  | .ap f a => f.sc ∧ a.sc
  | .tk n b => n ∈ b.lv ∧ b.sc
def aps : T → Nat
  | .nm _ => 0
  | .ap f a => f.aps + a.aps + 1
  | .tk _ b => b.aps
/-- the index behind the part at i -/
def e : T → Nat → Nat
  | .nm _, _ => 1
  | .tk _ b, i => if i = 0 then 1 + b.ws.length else 1 + b.e (i - 1)
  | .ap f a, i => if i = 0 then 1 + f.ws.length + a.ws.length else if i < 1 + f.ws.length then 1 + f.e (i - 1) else 1 + f.ws.length + a.e (i - 1 - f.ws.length)
theorem pos : ∀ t : T, 0 < t.ws.length
  | .nm _ => by simp [ws]
  | .ap _ _ => by simp [ws]
  | .tk _ _ => by simp [ws]
theorem e0 : ∀ t : T, t.e 0 = t.ws.length
  | .nm _ => rfl
  | .ap f a => by simp [e, ws]; omega
  | .tk _ b => by simp [e, ws]; omega
theorem e_lt : ∀ (t : T) (i : Nat), i < t.ws.length → i < t.e i ∧ t.e i ≤ t.ws.length
  | .nm _, i, h => by simp [ws] at h; simp [e, ws]; omega
  | .tk _ b, i, h => by
    simp [ws] at h
    simp only [e, ws, List.length_cons]
    split
    · omega
    · have := e_lt b (i - 1) (by omega); omega
  | .ap f a, i, h => by
    simp [ws] at h
    simp only [e, ws, List.length_cons, List.length_append]
    split
    · omega
    · split
      · have := e_lt f (i - 1) (by omega); omega
      · have := e_lt a (i - 1 - f.ws.length) (by omega); omega
theorem get_tk {n : Nm} {b : T} {i : Nat} (h : i ≠ 0) : (T.tk n b).ws[i]? = b.ws[i - 1]? := by
  cases i with
  | zero => exact absurd rfl h
  | succ i => rfl
theorem get_ap1 {f a : T} {i : Nat} (h : i ≠ 0) (hi : i < 1 + f.ws.length) : (T.ap f a).ws[i]? = f.ws[i - 1]? := by
  cases i with
  | zero => exact absurd rfl h
  | succ i => show (f.ws ++ a.ws)[i]? = _; rw [List.getElem?_append_left (by omega)]; rfl
theorem get_ap2 {f a : T} {i : Nat} (hi : ¬ i < 1 + f.ws.length) : (T.ap f a).ws[i]? = a.ws[i - 1 - f.ws.length]? := by
  cases i with
  | zero => omega
  | succ i => show (f.ws ++ a.ws)[i]? = _; rw [List.getElem?_append_right (by omega)]; rfl
theorem e_nm : ∀ (t : T) (i : Nat) (n : Nm), t.ws[i]? = some (.nm n) → t.e i = i + 1
  | .nm _, i, n, h => by
    cases i with
    | zero => rfl
    | succ i => simp [ws] at h
  | .tk m b, i, n, h => by
    by_cases z : i = 0
    · subst z; simp [ws] at h
    · rw [get_tk z] at h
      have := e_nm b _ n h
      simp only [e]; rw [if_neg z]; omega
  | .ap f a, i, n, h => by
    by_cases z : i = 0
    · subst z; simp [ws] at h
    · by_cases y : i < 1 + f.ws.length
      · rw [get_ap1 z y] at h
        have := e_nm f _ n h
        simp only [e]; rw [if_neg z, if_pos y]; omega
      · rw [get_ap2 y] at h
        have := e_nm a _ n h
        simp only [e]; rw [if_neg z, if_neg y]; omega
theorem lt_of_get {α : Type} {l : List α} {i : Nat} {x : α} (h : l[i]? = some x) : i < l.length := (List.getElem?_eq_some_iff.mp h).1
theorem e_tk : ∀ (t : T) (i : Nat) (n : Nm), t.ws[i]? = some (.tk n) → i + 1 < t.ws.length ∧ t.e i = t.e (i + 1)
  | .nm _, i, n, h => by
    cases i with
    | zero => simp [ws] at h
    | succ i => simp [ws] at h
  | .tk m b, i, n, h => by
    by_cases z : i = 0
    · subst z
      have := pos b
      have := e0 b
      refine ⟨by simp [ws]; omega, ?_⟩
      simp [e]; omega
    · rw [get_tk z] at h
      have q := e_tk b _ n h
      have e1 : i - 1 + 1 = i := by omega
      rw [e1] at q
      refine ⟨by simp [ws]; omega, ?_⟩
      simp only [e]; rw [if_neg z, if_neg (by omega)]
      show _ = 1 + b.e i
      omega
  | .ap f a, i, n, h => by
    by_cases z : i = 0
    · subst z; simp [ws] at h
    · by_cases y : i < 1 + f.ws.length
      · rw [get_ap1 z y] at h
        have q := e_tk f _ n h
        have e1 : i - 1 + 1 = i := by omega
        rw [e1] at q
        refine ⟨by simp [ws]; omega, ?_⟩
        simp only [e]; rw [if_neg z, if_pos y, if_neg (by omega), if_pos (by omega)]
        show _ = 1 + f.e i
        omega
      · rw [get_ap2 y] at h
        have q := e_tk a _ n h
        have e1 : i - 1 - f.ws.length + 1 = i - f.ws.length := by omega
        rw [e1] at q
        refine ⟨by simp [ws]; omega, ?_⟩
        simp only [e]; rw [if_neg z, if_neg y, if_neg (by omega), if_neg (by omega)]
        have e2 : i + 1 - 1 - f.ws.length = i - f.ws.length := by omega
        rw [e2]
        omega
theorem e_ap : ∀ (t : T) (i : Nat), t.ws[i]? = some .ap → i + 1 < t.ws.length ∧ t.e (i + 1) < t.ws.length ∧ t.e i = t.e (t.e (i + 1))
  | .nm _, i, h => by
    cases i with
    | zero => simp [ws] at h
    | succ i => simp [ws] at h
  | .tk m b, i, h => by
    by_cases z : i = 0
    · subst z; simp [ws] at h
    · rw [get_tk z] at h
      have q := e_ap b _ h
      have e1 : i - 1 + 1 = i := by omega
      rw [e1] at q
      have e3 : (T.tk m b).e (i + 1) = 1 + b.e i := by simp only [e]; rw [if_neg (by omega)]; rfl
      have e4 : (T.tk m b).e (1 + b.e i) = 1 + b.e (b.e i) := by simp only [e]; rw [if_neg (by omega)]; rw [Nat.add_sub_cancel_left]
      rw [e3, e4]
      refine ⟨by simp [ws]; omega, by simp [ws]; omega, ?_⟩
      simp only [e]; rw [if_neg z]; omega
  | .ap f a, i, h => by
    by_cases z : i = 0
    · subst z
      have pf := pos f
      have pa := pos a
      have ef := e0 f
      have ea := e0 a
      have e3 : (T.ap f a).e (0 + 1) = 1 + f.ws.length := by simp only [e]; rw [if_neg (by omega), if_pos (by omega)]; simp; omega
      have e4 : (T.ap f a).e (1 + f.ws.length) = 1 + f.ws.length + a.ws.length := by
        simp only [e]; rw [if_neg (by omega), if_neg (by omega)]
        have : 1 + f.ws.length - 1 - f.ws.length = 0 := by omega
        rw [this]; omega
      rw [e3, e4]
      refine ⟨by simp [ws]; omega, by simp [ws]; omega, ?_⟩
      simp [e]
    · by_cases y : i < 1 + f.ws.length
      · rw [get_ap1 z y] at h
        have q := e_ap f _ h
        have e1 : i - 1 + 1 = i := by omega
        rw [e1] at q
        have e3 : (T.ap f a).e (i + 1) = 1 + f.e i := by simp only [e]; rw [if_neg (by omega), if_pos (by omega)]; rfl
        have e4 : (T.ap f a).e (1 + f.e i) = 1 + f.e (f.e i) := by
          simp only [e]; rw [if_neg (by omega), if_pos (by omega)]; rw [Nat.add_sub_cancel_left]
        rw [e3, e4]
        refine ⟨by simp [ws]; omega, by simp [ws]; omega, ?_⟩
        simp only [e]; rw [if_neg z, if_pos y]; omega
      · rw [get_ap2 y] at h
        have q := e_ap a _ h
        have e1 : i - 1 - f.ws.length + 1 = i - f.ws.length := by omega
        rw [e1] at q
        have e2 : i + 1 - 1 - f.ws.length = i - f.ws.length := by omega
        have e3 : (T.ap f a).e (i + 1) = 1 + f.ws.length + a.e (i - f.ws.length) := by simp only [e]; rw [if_neg (by omega), if_neg (by omega), e2]
        have e4 : (T.ap f a).e (1 + f.ws.length + a.e (i - f.ws.length)) = 1 + f.ws.length + a.e (a.e (i - f.ws.length)) := by
          simp only [e]; rw [if_neg (by omega), if_neg (by omega)]
          have : 1 + f.ws.length + a.e (i - f.ws.length) - 1 - f.ws.length = a.e (i - f.ws.length) := by omega
          rw [this]
        rw [e3, e4]
        refine ⟨by simp [ws]; omega, by simp [ws]; omega, ?_⟩
        simp only [e]; rw [if_neg z, if_neg y]; omega
/-- a name that is taken stands in the body -/
theorem used_lv : ∀ (t : T) (n : Nm), n ∈ t.lv → ∃ j : Nat, t.ws[j]? = some (W.nm n)
  | .nm m, n, h => by simp [lv] at h; subst h; exact ⟨0, rfl⟩
  | .tk m b, n, h => by
    obtain ⟨j, hj⟩ := used_lv b n h
    exact ⟨j + 1, by simpa [ws] using hj⟩
  | .ap f a, n, h => by
    rcases List.mem_append.mp h with h | h
    · obtain ⟨j, hj⟩ := used_lv f n h
      refine ⟨j + 1, ?_⟩
      rw [get_ap1 (by omega) (by have := lt_of_get hj; omega)]; simpa using hj
    · obtain ⟨j, hj⟩ := used_lv a n h
      refine ⟨1 + f.ws.length + j, ?_⟩
      rw [get_ap2 (by omega)]
      have : 1 + f.ws.length + j - 1 - f.ws.length = j := by omega
      rw [this]; exact hj
theorem used : ∀ (t : T) (i : Nat) (n : Nm), t.sc → t.ws[i]? = some (.tk n) → ∃ j : Nat, t.ws[j]? = some (W.nm n) ∧ i < j ∧ j < t.e i
  | .nm _, i, n, _, h => by
    cases i with
    | zero => simp [ws] at h
    | succ i => simp [ws] at h
  | .tk m b, i, n, s, h => by
    by_cases z : i = 0
    · subst z
      simp [ws] at h
      subst h
      obtain ⟨j, hj⟩ := used_lv b m s.1
      refine ⟨j + 1, by simpa [ws] using hj, by omega, ?_⟩
      have := lt_of_get hj
      simp [e]; omega
    · rw [get_tk z] at h
      obtain ⟨j, hj, h1, h2⟩ := used b _ n s.2 h
      refine ⟨j + 1, by simpa [ws] using hj, by omega, ?_⟩
      simp only [e]; rw [if_neg z]; omega
  | .ap f a, i, n, s, h => by
    by_cases z : i = 0
    · subst z; simp [ws] at h
    · by_cases y : i < 1 + f.ws.length
      · rw [get_ap1 z y] at h
        obtain ⟨j, hj, h1, h2⟩ := used f _ n s.1 h
        refine ⟨j + 1, ?_, by omega, ?_⟩
        · rw [get_ap1 (by omega) (by have := lt_of_get hj; omega)]; simpa using hj
        · simp only [e]; rw [if_neg z, if_pos y]; omega
      · rw [get_ap2 y] at h
        obtain ⟨j, hj, h1, h2⟩ := used a _ n s.2 h
        refine ⟨1 + f.ws.length + j, ?_, by omega, ?_⟩
        · rw [get_ap2 (by omega)]
          have : 1 + f.ws.length + j - 1 - f.ws.length = j := by omega
          rw [this]; exact hj
        · simp only [e]; rw [if_neg z, if_neg y]; omega
/-- the part at a place is a tree -/
theorem part : ∀ (t : T) (p : Nat), t.sc → p < t.ws.length → ∃ u : T, u.ws = (t.ws.drop p).take (t.e p - p) ∧ u.sc ∧ u.lv.Sublist t.lv ∧ u.tks.Sublist t.tks ∧ (∀ i, i < u.ws.length → u.e i + p = t.e (p + i))
  | .nm n, p, s, h => by
    simp [ws] at h
    subst h
    refine ⟨.nm n, rfl, s, List.Sublist.refl _, List.Sublist.refl _, fun i hi => rfl⟩
  | .tk m b, p, s, h => by
    by_cases z : p = 0
    · subst z
      refine ⟨.tk m b, ?_, s, List.Sublist.refl _, List.Sublist.refl _, fun i hi => by rw [Nat.zero_add]; rfl⟩
      rw [List.drop_zero, Nat.sub_zero, e0, List.take_length]
    · simp [ws] at h
      obtain ⟨u, h1, h2, h3, h4, h5⟩ := part b (p - 1) s.2 (by omega)
      have lt := e_lt b (p - 1) (by omega)
      refine ⟨u, ?_, h2, h3, h4.cons _, fun i hi => ?_⟩
      · rw [h1]
        obtain ⟨q, rfl⟩ : ∃ q, p = q + 1 := ⟨p - 1, by omega⟩
        show _ = (b.ws.drop q).take _
        congr 1
        simp only [e]; rw [if_neg z]; omega
      · have := h5 i hi
        simp only [e]; rw [if_neg (by omega)]
        have : p + i - 1 = p - 1 + i := by omega
        rw [this]; omega
  | .ap f a, p, s, h => by
    by_cases z : p = 0
    · subst z
      refine ⟨.ap f a, ?_, s, List.Sublist.refl _, List.Sublist.refl _, fun i hi => by rw [Nat.zero_add]; rfl⟩
      rw [List.drop_zero, Nat.sub_zero, e0, List.take_length]
    · simp [ws] at h
      by_cases y : p < 1 + f.ws.length
      · obtain ⟨u, h1, h2, h3, h4, h5⟩ := part f (p - 1) s.1 (by omega)
        have lt := e_lt f (p - 1) (by omega)
        have hul : u.ws.length = f.e (p - 1) - (p - 1) := by rw [h1, List.length_take, List.length_drop]; omega
        refine ⟨u, ?_, h2, h3.trans (List.sublist_append_left _ _), h4.trans (List.sublist_append_left _ _), fun i hi => ?_⟩
        · rw [h1]
          obtain ⟨q, rfl⟩ : ∃ q, p = q + 1 := ⟨p - 1, by omega⟩
          show _ = ((f.ws ++ a.ws).drop q).take _
          rw [List.drop_append_of_le_length (by omega), List.take_append_of_le_length]
          · congr 1
            simp only [e]; rw [if_neg z, if_pos y]; omega
          · rw [List.length_drop]
            simp only [e]; rw [if_neg z, if_pos y]
            have e1 : q + 1 - 1 = q := by omega
            rw [e1] at lt ⊢
            omega
        · have := h5 i hi
          simp only [e]; rw [if_neg (by omega), if_pos (by omega)]
          have : p + i - 1 = p - 1 + i := by omega
          rw [this]; omega
      · obtain ⟨u, h1, h2, h3, h4, h5⟩ := part a (p - 1 - f.ws.length) s.2 (by omega)
        have lt := e_lt a (p - 1 - f.ws.length) (by omega)
        refine ⟨u, ?_, h2, h3.trans (List.sublist_append_right _ _), h4.trans (List.sublist_append_right _ _), fun i hi => ?_⟩
        · rw [h1]
          obtain ⟨q, rfl⟩ : ∃ q, p = q + 1 := ⟨p - 1, by omega⟩
          show _ = ((f.ws ++ a.ws).drop q).take _
          have e1 : q + 1 - 1 - f.ws.length = q - f.ws.length := by omega
          rw [List.drop_append, List.drop_of_length_le (by omega : f.ws.length ≤ q), List.nil_append]
          rw [e1] at lt ⊢
          congr 1
          simp only [e]; rw [if_neg z, if_neg y, e1]; omega
        · have := h5 i hi
          simp only [e]; rw [if_neg (by omega), if_neg (by omega)]
          have : p + i - 1 - f.ws.length = p - 1 - f.ws.length + i := by omega
          rw [this]; omega
theorem tks_ws : ∀ t : T, t.tks = t.ws.filterMap (fun w => match w with | .tk n => some n | _ => none)
  | .nm _ => rfl
  | .tk m b => by simp only [tks, ws, List.filterMap_cons]; rw [tks_ws b]
  | .ap f a => by simp only [tks, ws, List.filterMap_cons, List.filterMap_append]; rw [tks_ws f, tks_ws a]
theorem lv_ws : ∀ t : T, t.lv = t.ws.filterMap (fun w => match w with | .nm n => some n | _ => none)
  | .nm _ => rfl
  | .tk m b => by simp only [lv, ws, List.filterMap_cons]; rw [lv_ws b]
  | .ap f a => by simp only [lv, ws, List.filterMap_cons, List.filterMap_append]; rw [lv_ws f, lv_ws a]
theorem lv_aps : ∀ t : T, t.lv.length = t.aps + 1
  | .nm _ => rfl
  | .tk m b => lv_aps b
  | .ap f a => by simp only [lv, aps, List.length_append]; rw [lv_aps f, lv_aps a]; omega
theorem aps_ws : ∀ t : T, t.aps = (t.ws.filter (fun w => decide (w = .ap))).length
  | .nm _ => rfl
  | .tk m b => by simp [aps, ws]; exact aps_ws b
  | .ap f a => by
    have h1 := aps_ws f
    have h2 := aps_ws a
    simp [aps, ws]; omega
theorem len_ws : ∀ t : T, t.ws.length = 2 * t.aps + 1 + t.tks.length
  | .nm _ => rfl
  | .tk m b => by have := len_ws b; simp [ws, aps, tks]; omega
  | .ap f a => by have := len_ws f; have := len_ws a; simp [ws, aps, tks]; omega
end T

/-! ### valid words -/
structure Vd (ws : List W) : Prop where
  tree : ∃ t : T, t.ws = ws ∧ t.sc ∧ t.lv.Nodup ∧ t.tks.Nodup
  ok : ∀ w ∈ ws, wOk w
structure IsEnds (ws : List W) (E : Nat → Nat) : Prop where
  lt : ∀ i, i < ws.length → i < E i ∧ E i ≤ ws.length
  all : E 0 = ws.length
  nm : ∀ i n, ws[i]? = some (.nm n) → E i = i + 1
  tk : ∀ i n, ws[i]? = some (.tk n) → i + 1 < ws.length ∧ E i = E (i + 1)
  ap : ∀ i, ws[i]? = some .ap → i + 1 < ws.length ∧ E (i + 1) < ws.length ∧ E i = E (E (i + 1))
theorem T.isEnds (t : T) : IsEnds t.ws t.e := ⟨t.e_lt, t.e0, t.e_nm, t.e_tk, t.e_ap⟩
/-- two such are alike -/
theorem IsEnds.uniq {ws : List W} {E F : Nat → Nat} (h : IsEnds ws E) (g : IsEnds ws F) : ∀ k i, ws.length - i = k → i < ws.length → E i = F i := by
  intro k
  induction k using Nat.strongRecOn with
  | _ k ih =>
    intro i hk hi
    cases hw : ws[i]? with
    | none => rw [List.getElem?_eq_none_iff] at hw; omega
    | some w =>
      cases w with
      | nm n => rw [h.nm i n hw, g.nm i n hw]
      | tk n =>
        obtain ⟨h1, h2⟩ := h.tk i n hw
        obtain ⟨g1, g2⟩ := g.tk i n hw
        rw [h2, g2]
        exact ih _ (by omega) (i + 1) rfl h1
      | ap =>
        obtain ⟨h1, h2, h3⟩ := h.ap i hw
        obtain ⟨g1, g2, g3⟩ := g.ap i hw
        have e1 := ih _ (by omega) (i + 1) rfl h1
        have l1 := (h.lt (i + 1) h1).1
        rw [h3, g3, ← e1]
        exact ih _ (by omega) (E (i + 1)) rfl h2
/-- the chain of ends from i on -/
def chain (E : Nat → Nat) (n : Nat) : Nat → Nat → List Nat
  | 0, _ => []
  | k + 1, i => if i < n then E i :: chain E n k (E i) else []
theorem chain_more {E : Nat → Nat} {n : Nat} (h : ∀ i, i < n → i < E i ∧ E i ≤ n) : ∀ (k j i : Nat), n - i ≤ k → n - i ≤ j → i ≤ n → chain E n k i = chain E n j i
  | 0, 0, i, _, _, _ => rfl
  | 0, j + 1, i, hk, _, hi => by
    unfold chain; rw [if_neg (by omega)]
  | k + 1, 0, i, _, hj, hi => by
    conv => lhs; unfold chain
    rw [if_neg (by omega)]; rfl
  | k + 1, j + 1, i, hk, hj, hi => by
    unfold chain
    by_cases c : i < n
    · rw [if_pos c, if_pos c, chain_more h k j (E i) (by have := h i c; omega) (by have := h i c; omega) (h i c).2]
    · rw [if_neg c, if_neg c]
def ch (E : Nat → Nat) (n i : Nat) : List Nat := chain E n n i
section
variable {ws : List W} {E : Nat → Nat}
theorem ch_end : ch E n n = [] := by
  unfold ch
  cases n with
  | zero => rfl
  | succ n => unfold chain; rw [if_neg (by omega)]
theorem ch_step (h : IsEnds ws E) {i : Nat} (hi : i < ws.length) : ch E ws.length i = E i :: ch E ws.length (E i) := by
  unfold ch
  obtain ⟨k, hk⟩ : ∃ k, ws.length = k + 1 := ⟨ws.length - 1, by omega⟩
  have l := h.lt i hi
  conv => lhs; rw [hk]; unfold chain
  rw [if_pos (by omega), ← hk, chain_more h.lt k ws.length (E i) (by omega) (by omega) l.2]
theorem ch_ne (h : IsEnds ws E) {i : Nat} (hi : i < ws.length) : 0 < (ch E ws.length i).length := by rw [ch_step h hi]; simp
theorem ch_nm (h : IsEnds ws E) {i : Nat} {n : Nm} (hw : ws[i]? = some (.nm n)) : ch E ws.length i = (i + 1) :: ch E ws.length (i + 1) := by
  rw [ch_step h (T.lt_of_get hw), h.nm i n hw]
theorem ch_tk (h : IsEnds ws E) {i : Nat} {n : Nm} (hw : ws[i]? = some (.tk n)) : ch E ws.length (i + 1) = E i :: ch E ws.length (E i) ∧ ch E ws.length i = E i :: ch E ws.length (E i) := by
  obtain ⟨h1, h2⟩ := h.tk i n hw
  exact ⟨by rw [ch_step h h1, h2], ch_step h (T.lt_of_get hw)⟩
theorem ch_ap (h : IsEnds ws E) {i : Nat} (hw : ws[i]? = some .ap) : ch E ws.length (i + 1) = E (i + 1) :: E i :: ch E ws.length (E i) ∧ ch E ws.length i = E i :: ch E ws.length (E i) := by
  obtain ⟨h1, h2, h3⟩ := h.ap i hw
  refine ⟨?_, ch_step h (T.lt_of_get hw)⟩
  rw [ch_step h h1, ch_step h h2, ← h3]
theorem ch_one (h : IsEnds ws E) (hp : 0 < ws.length) : ch E ws.length 0 = [ws.length] := by
  rw [ch_step h hp, h.all, ch_end]
end
end Wd

namespace Wd
open PySem
/-! ### the name with a number -/
def stp (s : Nat × Nm) : Nat × Nm := if 0 < s.1 then ((s.1 - 1) / 26, (97 + (s.1 - 1) % 26) :: s.2) else s
def itr : Nat → Nat × Nm → Nat × Nm
  | 0, s => s
  | k + 1, s => stp (itr k s)
def lett (n : Nat) : Nm := (itr 9 (n + 1, [])).2
def val : Nm → Nat
  | [] => 0
  | c :: l => (c - 96) * 26 ^ l.length + val l
def bd : Nat → Nat
  | 0 => 0
  | k + 1 => 26 * (bd k + 1)
structure LI (n i : Nat) (s : Nat × Nm) : Prop where
  v : val s.2 + s.1 * 26 ^ s.2.length = n
  l : s.2.length ≤ i
  c : ∀ x ∈ s.2, 97 ≤ x ∧ x ≤ 122
theorem LI.start (n : Nat) : LI n 0 (n, []) := ⟨by simp [val], Nat.le_refl _, by simp⟩
theorem LI.step {n i : Nat} {s : Nat × Nm} (h : LI n i s) : LI n (i + 1) (stp s) := by
  unfold stp
  split
  · rename_i hp
    refine ⟨?_, by have := h.l; simp; omega, ?_⟩
    · have hv := h.v
      simp only [val, List.length_cons, Nat.pow_succ]
      have e1 : 97 + (s.1 - 1) % 26 - 96 = (s.1 - 1) % 26 + 1 := by omega
      rw [e1]
      have e2 : (s.1 - 1) / 26 * (26 ^ s.2.length * 26) = (26 * ((s.1 - 1) / 26)) * 26 ^ s.2.length := by
        rw [Nat.mul_comm (26 ^ s.2.length) 26, ← Nat.mul_assoc, Nat.mul_comm ((s.1 - 1) / 26) 26]
      rw [e2]
      have e3 : ((s.1 - 1) % 26 + 1) * 26 ^ s.2.length + val s.2 + 26 * ((s.1 - 1) / 26) * 26 ^ s.2.length = val s.2 + ((s.1 - 1) % 26 + 1 + 26 * ((s.1 - 1) / 26)) * 26 ^ s.2.length := by
        rw [Nat.add_mul ((s.1 - 1) % 26 + 1)]; omega
      rw [e3]
      have e4 : (s.1 - 1) % 26 + 1 + 26 * ((s.1 - 1) / 26) = s.1 := by
        have := Nat.div_add_mod (s.1 - 1) 26
        omega
      rw [e4]; exact hv
    · intro x hx
      rcases List.mem_cons.mp hx with rfl | hx
      · have := Nat.mod_lt (s.1 - 1) (show 26 > 0 by decide); omega
      · exact h.c x hx
  · exact ⟨h.v, by have := h.l; omega, h.c⟩
theorem LI.itr (n : Nat) : ∀ i, LI n i (itr i (n, []))
  | 0 => LI.start n
  | i + 1 => (LI.itr n i).step
theorem itr_bd {n k : Nat} (h : n ≤ bd k) : ∀ i, i ≤ k → (itr i (n, [])).1 ≤ bd (k - i)
  | 0, _ => h
  | i + 1, hi => by
    have ih := itr_bd h i (by omega)
    have e : k - i = (k - (i + 1)) + 1 := by omega
    rw [e] at ih
    simp only [bd] at ih
    simp only [Wd.itr, stp]
    split
    · show ((itr i (n, [])).1 - 1) / 26 ≤ _
      omega
    · omega
theorem itr_done {n i : Nat} (h : (itr i (n, [])).1 = 0) : itr (i + 1) (n, []) = itr i (n, []) := by
  simp only [Wd.itr, stp]
  rw [h]; rfl
theorem lett_itr {n : Nat} (h : n + 1 ≤ 217180147158) : lett n = (itr 8 (n + 1, [])).2 ∧ (itr 8 (n + 1, [])).1 = 0 := by
  have b : bd 8 = 217180147158 := by decide
  have z := itr_bd (n := n + 1) (k := 8) (by rw [b]; exact h) 8 (Nat.le_refl _)
  have z0 : (itr 8 (n + 1, [])).1 = 0 := Nat.le_zero.mp z
  refine ⟨?_, z0⟩
  unfold lett
  rw [itr_done z0]
theorem lett_val {n : Nat} (h : n + 1 ≤ 217180147158) : val (lett n) = n + 1 := by
  obtain ⟨e, z⟩ := lett_itr h
  have v := (LI.itr (n + 1) 8).v
  rw [z, Nat.zero_mul, Nat.add_zero] at v
  rw [e]; exact v
theorem lett_ok {n : Nat} (h : n + 1 ≤ 217180147158) : nmOk (lett n) := by
  obtain ⟨e, z⟩ := lett_itr h
  have L := LI.itr (n + 1) 8
  refine ⟨?_, by rw [e]; exact L.l, by rw [e]; exact L.c⟩
  have v := lett_val h
  cases q : lett n with
  | nil => rw [q] at v; simp [val] at v
  | cons a l => simp
theorem lett_inj {n m : Nat} (h : n + 1 ≤ 217180147158) (g : m + 1 ≤ 217180147158) (e : lett n = lett m) : n = m := by
  have a := lett_val h
  have b := lett_val g
  rw [e] at a
  omega
theorem nodup_len {α : Type} [DecidableEq α] : ∀ {a b : List α}, a.Nodup → (∀ x ∈ a, x ∈ b) → a.length ≤ b.length
  | [], _, _, _ => Nat.zero_le _
  | x :: a, b, nd, h => by
    have hx := h x (List.mem_cons_self ..)
    have nd' := List.nodup_cons.mp nd
    have ih := nodup_len (a := a) (b := b.erase x) nd'.2 (fun y hy => by
      refine (List.mem_erase_of_ne ?_).mpr (h y (List.mem_cons_of_mem _ hy))
      rintro rfl
      exact nd'.1 hy)
    have := List.length_erase_of_mem hx
    have hp : 0 < b.length := List.length_pos_of_mem hx
    simp only [List.length_cons]
    omega
theorem pigeon {α : Type} [DecidableEq α] {l : List α} {f : Nat → α} (inj : ∀ i j, i ≤ l.length → j ≤ l.length → f i = f j → i = j) (h : ∀ i, i ≤ l.length → f i ∈ l) : False := by
  have nd : ((List.range (l.length + 1)).map f).Nodup := by
    refine List.pairwise_map.mpr ?_
    refine List.Pairwise.imp_of_mem ?_ List.nodup_range
    intro a b ha hb hne e
    exact hne (inj a b (by have := List.mem_range.mp ha; omega) (by have := List.mem_range.mp hb; omega) e)
  have := nodup_len nd (b := l) (fun x hx => by
    obtain ⟨i, hi, rfl⟩ := List.mem_map.mp hx
    exact h i (by have := List.mem_range.mp hi; omega))
  simp at this
  omega
theorem alpha (r : Nat) (h : r < 26) : (TL.tl (Str.ofString "abcdefghijklmnopqrstuvwxyz"))[r]? = some (97 + r) := by
  rw [TL.tl_ofString]
  revert r
  decide +kernel
end Wd

namespace Wd
open PySem
/-! ### words that are drawn -/
def Fits (e : List Nm × Nat) (t : T) : Prop := t.sc ∧ t.aps = e.2 ∧ t.lv.Perm (e.1 ++ t.tks)
inductive Mt : List (List Nm × Nat) → List T → Prop where
  | nil : Mt [] []
  | cons {e S t ts} : Fits e t → Mt S ts → Mt (e :: S) (t :: ts)
def Pre (e0 : List Nm × Nat) (F : List W) (S : List (List Nm × Nat)) : Prop := ∀ ts, Mt S ts → ∃ t, t.ws = F ++ (ts.map T.ws).flatten ∧ Fits e0 t
theorem Pre.start (e : List Nm × Nat) : Pre e [] [e] := fun ts h => by
  cases h with
  | cons h1 h2 =>
    cases h2
    exact ⟨_, by simp, h1⟩
theorem Pre.nm {e0 F S} {n : Nm} (h : Pre e0 F (([n], 0) :: S)) : Pre e0 (F ++ [.nm n]) S := fun ts m => by
  obtain ⟨t, h1, h2⟩ := h (T.nm n :: ts) (.cons ⟨trivial, rfl, List.Perm.refl _⟩ m)
  exact ⟨t, by rw [h1]; simp [T.ws], h2⟩
theorem Pre.tk {e0 F S} {n : Nm} {row : List Nm} {m : Nat} (h : Pre e0 F ((row, m) :: S)) : Pre e0 (F ++ [.tk n]) ((row ++ [n], m) :: S) := fun ts mt => by
  cases mt with
  | @cons _ _ b ts h1 h2 =>
    obtain ⟨s, a, p⟩ := h1
    obtain ⟨t, h3, h4⟩ := h (T.tk n b :: ts) (.cons ⟨⟨p.mem_iff.mpr (by simp), s⟩, a, by
      show b.lv.Perm (row ++ (n :: b.tks))
      have e : row ++ [n] ++ b.tks = row ++ (n :: b.tks) := by simp
      rw [← e]; exact p⟩ h2)
    exact ⟨t, by rw [h3]; simp [T.ws], h4⟩
theorem Pre.ap {e0 F S} {row r1 r2 : List Nm} {m m1 m2 : Nat} (h : Pre e0 F ((row, m) :: S)) (hr : (r1 ++ r2).Perm row) (hm : m1 + m2 + 1 = m) : Pre e0 (F ++ [.ap]) ((r1, m1) :: (r2, m2) :: S) := fun ts mt => by
  cases mt with
  | @cons _ _ f ts h1 h2 =>
    cases h2 with
    | @cons _ _ a ts h2 h3 =>
      obtain ⟨s1, a1, p1⟩ := h1
      obtain ⟨s2, a2, p2⟩ := h2
      obtain ⟨t, h4, h5⟩ := h (T.ap f a :: ts) (.cons ⟨⟨s1, s2⟩, by show f.aps + a.aps + 1 = m; rw [a1, a2]; exact hm, by
        show (f.lv ++ a.lv).Perm (row ++ (f.tks ++ a.tks))
        refine (p1.append p2).trans ?_
        show ((r1 ++ f.tks) ++ (r2 ++ a.tks)).Perm (row ++ (f.tks ++ a.tks))
        refine List.Perm.trans ?_ (hr.append_right _)
        rw [List.append_assoc, List.append_assoc]
        refine List.Perm.append_left _ ?_
        rw [← List.append_assoc, ← List.append_assoc]
        exact List.perm_append_comm.append_right _⟩ h3)
      exact ⟨t, by rw [h4]; simp [T.ws], h5⟩
def cost (e : List Nm × Nat) : Nat := 3 * e.2 + 2 - e.1.length
def costs : List (List Nm × Nat) → Nat
  | [] => 0
  | e :: S => cost e + costs S
def takesOf (F : List W) : List Nm := F.filterMap (fun w => match w with | .tk n => some n | _ => none)
theorem takesOf_app (F G : List W) : takesOf (F ++ G) = takesOf F ++ takesOf G := by simp [takesOf]
theorem takesOf_len (F : List W) : (takesOf F).length ≤ F.length := List.length_filterMap_le _ _
/-- what is drawn: names the open names, g the givens -/
structure Gen (names : List Nm) (g : Nat) (ws : List W) : Prop where
  tree : ∃ t : T, t.ws = ws ∧ Fits (names, g) t
  nd : (names ++ takesOf ws).Nodup
  ok : ∀ n ∈ names ++ takesOf ws, nmOk n
theorem takesOf_tree (t : T) : takesOf t.ws = t.tks := (T.tks_ws t).symm
theorem mem_tks_ws {t : T} {n : Nm} (h : W.tk n ∈ t.ws) : n ∈ t.tks := by
  rw [T.tks_ws]
  exact List.mem_filterMap.mpr ⟨_, h, rfl⟩
theorem mem_lv_ws {t : T} {n : Nm} (h : W.nm n ∈ t.ws) : n ∈ t.lv := by
  rw [T.lv_ws]
  exact List.mem_filterMap.mpr ⟨_, h, rfl⟩
theorem Gen.vd {names : List Nm} {g : Nat} {ws : List W} (h : Gen names g ws) : Vd ws := by
  obtain ⟨⟨t, rfl, s, a, p⟩, nd, ok⟩ := h
  rw [takesOf_tree] at nd ok
  refine ⟨⟨t, rfl, s, p.nodup_iff.mpr nd, (List.nodup_append.mp nd).2.1⟩, fun w hw => ?_⟩
  cases w with
  | ap => trivial
  | tk n => exact ok n (List.mem_append_right _ (mem_tks_ws hw))
  | nm n => exact ok n (p.mem_iff.mp (mem_lv_ws hw))
theorem Gen.len {names : List Nm} {g : Nat} {ws : List W} (h : Gen names g ws) : ws.length + names.length = 3 * g + 2 := by
  obtain ⟨⟨t, rfl, s, a, p⟩, nd, ok⟩ := h
  have l1 := p.length_eq
  have l2 := T.lv_aps t
  have l3 := T.len_ws t
  simp at l1 a
  omega
theorem swap_perm {α : Type} (l : List α) (i j : Nat) (hi : i < l.length) (hj : j < l.length) : ((l.set i l[j]).set j l[i]).Perm l := List.set_set_perm hi hj
end Wd

namespace Wd
open PySem L2
def isTk : W → Bool
  | .tk _ => true
  | _ => false
def isAp : W → Bool
  | .ap => true
  | _ => false
def isNm : W → Bool
  | .nm _ => true
  | _ => false
theorem starts_pre {x y : Str} (hy : TL.tl y ≠ []) : Txt.startswith x y = TL.pre (TL.tl y) (TL.tl x) := by
  have h := TL.at_iff (x := x) hy 0
  rw [List.drop_zero] at h
  have e : Txt.startswith x y = true ↔ PySem.StrLaws.At x y x.length 0 := by
    unfold Txt.startswith PySem.StrLaws.At
    rw [Bool.and_eq_true, decide_eq_true_eq]
  cases h1 : Txt.startswith x y with
  | true => exact (h.mp (e.mp h1)).symm
  | false =>
    cases h2 : TL.pre (TL.tl y) (TL.tl x) with
    | false => rfl
    | true => rw [e.mpr (h.mpr h2)] at h1; cases h1
theorem slash : TL.tl (Str.ofString "/") = [47] := by rw [TL.tl_ofString]; rfl
theorem at_sign : TL.tl (Str.ofString "@") = [64] := by rw [TL.tl_ofString]; rfl
theorem starts_tk {w : W} (h : wOk w) : Txt.startswith (enc w) "/" = isTk w := by
  rw [starts_pre (by rw [slash]; simp), slash, tl_enc]
  cases w with
  | ap => rfl
  | tk n => simp [code, TL.pre, isTk]
  | nm n =>
    cases n with
    | nil => rfl
    | cons c r =>
      have := h.2.2 c (by simp)
      have hc : c ≠ 47 := by omega
      simp [code, TL.pre, isTk, hc]
theorem cut1 (n : Nm) : cutS (enc (.tk n)) (some 1) none = str n := by
  apply TL.ext_tl
  unfold cutS
  rw [TL.tl_mk]
  have e1 : HT.sIx (enc (.tk n)).length 0 (some 1) = min 1 (enc (.tk n)).length := HT.sIx_nat _ _ 1
  have e2 : (enc (.tk n)).length = n.length + 1 := rfl
  rw [e1, e2, HT.sIx_none, Nat.min_eq_left (by omega)]
  show ((47 :: n).drop 1).take _ = n
  simp
theorem head1 (w : W) : cutS (enc w) none (some 1) = str ((code w).take 1) := by
  apply TL.ext_tl
  unfold cutS
  rw [TL.tl_mk]
  have e1 : HT.sIx (enc w).length (enc w).length (some 1) = min 1 (enc w).length := HT.sIx_nat _ _ 1
  rw [e1, HT.sIx_none]
  show ((code w).drop 0).take (min 1 (code w).length - 0) = (code w).take 1
  rw [List.drop_zero, Nat.sub_zero]
  cases code w <;> simp
theorem head_tk {w : W} (h : wOk w) : decide (V.str (cutS (enc w) none (some 1)) = V.str "/") = isTk w := by
  rw [head1]
  cases w with
  | ap =>
    refine decide_eq_false fun e => ?_
    have := congrArg TL.tl (V.str.inj e)
    rw [slash] at this
    simp [code, tl_str] at this
  | tk n =>
    refine decide_eq_true (congrArg V.str (TL.ext_tl ?_))
    rw [slash]; rfl
  | nm n =>
    refine decide_eq_false fun e => ?_
    have := congrArg TL.tl (V.str.inj e)
    rw [slash, tl_str] at this
    cases n with
    | nil => simp [code] at this
    | cons c r =>
      have := h.2.2 c (by simp)
      simp [code] at *
      omega
theorem is_ap {w : W} (h : wOk w) : decide (V.str (enc w) = V.str "@") = isAp w := by
  cases w with
  | ap =>
    refine decide_eq_true (congrArg V.str (TL.ext_tl ?_))
    rw [at_sign]; rfl
  | tk n =>
    refine decide_eq_false fun e => ?_
    have := congrArg TL.tl (V.str.inj e)
    rw [at_sign, tl_enc] at this
    simp [code] at this
  | nm n =>
    refine decide_eq_false fun e => ?_
    have := congrArg TL.tl (V.str.inj e)
    rw [at_sign, tl_enc] at this
    cases n with
    | nil => simp [code] at this
    | cons c r =>
      have := h.2.2 c (by simp)
      simp [code] at *
      omega
/-- what is_name tells -/
def nameB (z : Str) : Bool := decide (1 ≤ z.length) && (decide (z.length ≤ 8) && (TL.tl z).all fun c => decide (97 ≤ c ∧ c ≤ 122))
theorem nameB_ok {n : Nm} (h : nmOk n) : nameB (str n) = true := by
  unfold nameB
  have hl : (str n).length = n.length := by rw [TL.len_tl]; rfl
  rw [hl, decide_eq_true h.1, decide_eq_true h.2.1, tl_str]
  simp only [Bool.true_and, List.all_eq_true, decide_eq_true_eq]
  exact h.2.2
theorem nameB_tk (n : Nm) : nameB (enc (.tk n)) = false := by
  unfold nameB
  rw [tl_enc]
  simp [code]
theorem nameB_ap : nameB (enc .ap) = false := by
  unfold nameB
  rw [tl_enc]
  simp [code]
theorem letters (c : Nat) : decide (c ∈ (Str.ofString "abcdefghijklmnopqrstuvwxyz").cps.toList) = decide (97 ≤ c ∧ c ≤ 122) := by
  have e : (Str.ofString "abcdefghijklmnopqrstuvwxyz").cps.toList = (List.range 26).map (97 + ·) := by
    show TL.tl _ = _
    rw [TL.tl_ofString]; decide +kernel
  rw [e]
  by_cases h : 97 ≤ c ∧ c ≤ 122
  · rw [decide_eq_true h]
    refine decide_eq_true (List.mem_map.mpr ⟨c - 97, List.mem_range.mpr (by omega), by omega⟩)
  · rw [decide_eq_false h]
    refine decide_eq_false fun hm => ?_
    obtain ⟨k, hk, e⟩ := List.mem_map.mp hm
    have := List.mem_range.mp hk
    omega
end Wd

namespace Wd
open PySem L2
theorem filterMap_ix {α β : Type} {f : α → Option β} : ∀ {l : List α} {i j : Nat} {x y : α} {b : β}, (l.filterMap f).Nodup → l[i]? = some x → l[j]? = some y → f x = some b → f y = some b → i = j
  | [], i, j, x, y, b, _, h, _, _, _ => by simp at h
  | a :: l, i, j, x, y, b, nd, h1, h2, e1, e2 => by
    have tail : (l.filterMap f).Nodup := by
      cases h : f a with
      | none => rwa [List.filterMap_cons_none h] at nd
      | some c => rw [List.filterMap_cons_some h] at nd; exact (List.nodup_cons.mp nd).2
    cases i with
    | zero =>
      cases j with
      | zero => rfl
      | succ j =>
        simp at h1 h2
        subst h1
        rw [List.filterMap_cons_some e1] at nd
        exact absurd (List.mem_filterMap.mpr ⟨y, List.mem_of_getElem? h2, e2⟩) (List.nodup_cons.mp nd).1
    | succ i =>
      cases j with
      | zero =>
        simp at h1 h2
        subst h2
        rw [List.filterMap_cons_some e2] at nd
        exact absurd (List.mem_filterMap.mpr ⟨x, List.mem_of_getElem? h1, e1⟩) (List.nodup_cons.mp nd).1
      | succ j =>
        simp at h1 h2
        rw [filterMap_ix tail h1 h2 e1 e2]
/-- no word but "@" stands twice -/
theorem Vd.once {ws : List W} (h : Vd ws) {i j : Nat} {w : W} (hw : w ≠ .ap) (h1 : ws[i]? = some w) (h2 : ws[j]? = some w) : i = j := by
  obtain ⟨⟨t, rfl, s, nl, nt⟩, ok⟩ := h
  cases w with
  | ap => exact absurd rfl hw
  | tk n => rw [T.tks_ws] at nt; exact filterMap_ix nt h1 h2 rfl rfl
  | nm n => rw [T.lv_ws] at nl; exact filterMap_ix nl h1 h2 rfl rfl
theorem Vd.ends {ws : List W} (h : Vd ws) : ∃ E, IsEnds ws E := by
  obtain ⟨⟨t, rfl, s, nl, nt⟩, ok⟩ := h
  exact ⟨t.e, t.isEnds⟩
theorem Vd.pos {ws : List W} (h : Vd ws) : 0 < ws.length := by
  obtain ⟨⟨t, rfl, s, nl, nt⟩, ok⟩ := h
  exact t.pos
theorem Vd.okAt {ws : List W} (h : Vd ws) {i : Nat} {w : W} (hw : ws[i]? = some w) : wOk w := h.ok w (List.mem_of_getElem? hw)
/-- a taken name stands in the body -/
theorem Vd.used {ws : List W} (h : Vd ws) {E : Nat → Nat} (g : IsEnds ws E) {i : Nat} {n : Nm} (hw : ws[i]? = some (.tk n)) : ∃ j, ws[j]? = some (.nm n) ∧ i < j ∧ j < E i := by
  obtain ⟨⟨t, rfl, s, nl, nt⟩, ok⟩ := h
  obtain ⟨j, h1, h2, h3⟩ := T.used t i n s hw
  exact ⟨j, h1, h2, by rw [g.uniq t.isEnds _ i rfl (T.lt_of_get hw)]; exact h3⟩
/-- the part at a place -/
theorem Vd.part {ws : List W} (h : Vd ws) {E : Nat → Nat} (g : IsEnds ws E) {p : Nat} (hp : p < ws.length) :
    Vd ((ws.drop p).take (E p - p)) ∧ ∃ F, IsEnds ((ws.drop p).take (E p - p)) F ∧ ∀ i, i < ((ws.drop p).take (E p - p)).length → F i + p = E (p + i) := by
  obtain ⟨⟨t, rfl, s, nl, nt⟩, ok⟩ := h
  obtain ⟨u, h1, h2, h3, h4, h5⟩ := T.part t p s hp
  have ep : E p = t.e p := g.uniq t.isEnds _ p rfl hp
  rw [ep, ← h1]
  have hu : u.ws.length = t.e p - p := by
    have := T.e_lt t p hp
    rw [h1, List.length_take, List.length_drop]; omega
  refine ⟨⟨⟨u, rfl, h2, h3.nodup nl, h4.nodup nt⟩, fun w hw => ok w ?_⟩, u.e, u.isEnds, fun i hi => ?_⟩
  · rw [h1] at hw
    exact List.mem_of_mem_drop (List.mem_of_mem_take hw)
  · rw [h5 i hi]
    have := T.e_lt t p hp
    exact (g.uniq t.isEnds _ (p + i) rfl (by omega)).symm
end Wd

namespace Wd
open PySem
/-! ### words that have parts behind them, by how many -/
def misF : List Nat → Nat → Nat → Option Nat
  | [], i, l => if l = 0 then none else some i
  | n :: ns, i, l => if l = 0 then some i else misF ns (i + 1) (l + n - 1)
inductive Wh : Nat → List Nat → Prop where
  | nil : Wh 0 []
  | cons {c n ns} : Wh (c + n) ns → Wh (c + 1) (n :: ns)
theorem Wh.mis {c : Nat} {ns : List Nat} (h : Wh c ns) : ∀ i, misF ns i c = none := by
  induction h with
  | nil => intro i; rfl
  | @cons c n ns h ih =>
    intro i
    unfold misF
    rw [if_neg (by omega), show c + 1 + n - 1 = c + n by omega]
    exact ih _
def needW : W → Nat
  | .ap => 2
  | .tk _ => 1
  | .nm _ => 0
theorem T.wh : ∀ (t : T) (c : Nat) (r : List Nat), Wh c r → Wh (c + 1) (t.ws.map needW ++ r)
  | .nm n, c, r, h => by exact Wh.cons h
  | .tk n b, c, r, h => by
    show Wh (c + 1) (1 :: (b.ws.map needW ++ r))
    exact Wh.cons (T.wh b c r h)
  | .ap f a, c, r, h => by
    have e : (T.ap f a).ws.map needW ++ r = 2 :: (f.ws.map needW ++ (a.ws.map needW ++ r)) := by simp [T.ws, needW]
    rw [e]
    exact Wh.cons (T.wh f (c + 1) _ (T.wh a c r h))
theorem Vd.wh {ws : List W} (h : Vd ws) : Wh 1 (ws.map needW) := by
  obtain ⟨⟨t, rfl, s, nl, nt⟩, ok⟩ := h
  have := T.wh t 0 [] .nil
  rwa [List.append_nil] at this
theorem needW_le (w : W) : needW w ≤ 2 := by cases w <;> simp [needW]
def itE (E : Nat → Nat) (i : Nat) : Nat → Nat
  | 0 => i + 1
  | j + 1 => E (itE E i j)
structure EndsN (ns : List Nat) (E : Nat → Nat) : Prop where
  ex : ∀ i n, ns[i]? = some n → (∀ j, j < n → i < itE E i j ∧ itE E i j < ns.length) ∧ E i = itE E i n
  le : ∀ n, n ∈ ns → n ≤ 2
theorem IsEnds.needs {ws : List W} {E : Nat → Nat} (h : IsEnds ws E) : EndsN (ws.map needW) E := by
  refine ⟨fun i n hn => ?_, fun n hn => ?_⟩
  · rw [List.getElem?_map] at hn
    rw [List.length_map]
    cases hw : ws[i]? with
    | none => rw [hw] at hn; cases hn
    | some w =>
      rw [hw] at hn
      cases w with
      | nm x => cases hn; exact ⟨fun j (hj : j < 0) => absurd hj (by omega), h.nm i x hw⟩
      | tk x =>
        cases hn
        obtain ⟨h1, h2⟩ := h.tk i x hw
        refine ⟨fun j (hj : j < 1) => ?_, h2⟩
        have : j = 0 := by omega
        subst this
        exact ⟨by show i < i + 1; omega, h1⟩
      | ap =>
        cases hn
        obtain ⟨h1, h2, h3⟩ := h.ap i hw
        refine ⟨fun j (hj : j < 2) => ?_, h3⟩
        have l := h.lt (i + 1) h1
        match j, hj with
        | 0, _ => exact ⟨by show i < i + 1; omega, h1⟩
        | 1, _ => exact ⟨by show i < E (i + 1); omega, h2⟩
  · obtain ⟨w, _, rfl⟩ := List.mem_map.mp hn
    exact needW_le w
end Wd

set_option maxHeartbeats 2000000
namespace Kk
open PySem PySem.Spec PyProof.Rows L2
/-- a def that can be called: where it stands, and what it promises -/
structure Cal (P : Program) (w : World) (K : PySem.W.Frag) (mg : Str → Option Value) (base : Heap) (x : Str) (k : Nat) (ps : List Str) (sp : Sp) : Prop where
  ex : ∃ f fd, mg x = some (.ref f) ∧ PySem.W.keepIn K (.ref f) = true ∧ Binds K fd ps [] ∧ FnOk P w K mg base CX0 k f fd ps sp
structure DefAt (K : PySem.W.Frag) (mg : Str → Option Value) (x : Str) (st : Stmt) (nm : Str := x) : Prop where
  ex : ∃ f fd, Fun K nm nm st f fd ∧ mg x = some (.ref f)
theorem Cal.imp {P w K mg base x k ps} {sp sp' : Sp} (C : Cal P w K mg base x k ps sp) (h : ∀ vs H Q E, sp' vs H Q E → sp vs H Q E) : Cal P w K mg base x k ps sp' := by
  obtain ⟨f, fd, a, b, c, d⟩ := C
  exact ⟨f, fd, a, b, c, d.imp h⟩
section
variable {P : Program} {w : World} {K : PySem.W.Frag} {mg : Str → Option Value} {base : Heap}
theorem cal_of {x nm : Str} {st : Stmt} {N ps : List Str} {k : Nat} {sp : Sp} (D : DefAt K mg x st nm) (S : FnScope N ps (defScope st))
    (hb : ∀ (kV doc pm : Value) (an : Option Addr) (cdv ct : Value) (us : List Value), us.length = ps.length → bindArgs (PySem.W.fnOf nm nm (defArgs st) (defBody st) (defScope st) .none kV doc pm an cdv ct) ⟨us, []⟩ = pure (ps.zip us))
    (len : ∀ vs H Q E, sp vs H Q E → vs.length = ps.length)
    (hbody : ∀ (f : Addr) (cdv : Value) (A : Around) (outer : List Env) (s : Shared) (H : Hp) (vs : List V) (Q : VK) (E : XK), Room k (A.deeper (envOfC nm (defScope st) s.heap.objs.size f cdv)) → sp vs H Q E →
      ∃ t, PSs (cxOf CX0 P w K mg base N nm (defScope st) f cdv A outer s H E).nox (defBody st) t ∧ t { nx := fun _ H' => Q .non H', rt := Q } (start N vs) H) : Cal P w K mg base x (k + 1) ps sp := by
  obtain ⟨f, fd, F, m⟩ := D
  exact ⟨f, fd, m, F.kp, F.binds hb, F.ok S len fun cdv A outer s H vs Q E hr h => hbody f cdv A outer s H vs Q E hr h⟩
end
section
variable {X : Cx} {e : Expr} {es : List Expr} {t : TA} {x : Str} {k : Nat} {ps : List Str} {sp : Sp} {p pos : Pos}
theorem pe_c (C : Cal X.prog X.w X.K X.mg X.base x k ps sp) (hr : Room k X.A) (ha : PA X (e :: es) t) (hg : Gl X x := by rfl) (hdb : (x == ("__debug__" : Str)) = false := by decide)
    (he : starEach (e :: es) X.env = (false, eval e X.env) :: starEach es X.env := by rfl) (hpl : (backTo pos (starEach es X.env)).any (·.1) = false := by rfl) :
    PE X (.Call (.Name x p) (e :: es) [] pos) (tCall sp [] E0 t) := by
  obtain ⟨f, fd, hm, hk, hb, F⟩ := C
  exact pe_call F hr hg hm hk hb .nil pass0 ha hdb he hpl
theorem pe_c0 (C : Cal X.prog X.w X.K X.mg X.base x k ps sp) (hr : Room k X.A) (hg : Gl X x := by rfl) (hdb : (x == ("__debug__" : Str)) = false := by decide) :
    PE X (.Call (.Name x p) [] [] pos) (tCall sp [] E0 tNil) := by
  obtain ⟨f, fd, hm, hk, hb, F⟩ := C
  exact pe_call0 F hr hg hm hk hb .nil pass0 hdb
theorem pe_gs {z : Str} (hm : ∃ t, X.mg x = some (.str z t)) (hg : Gl X x := by rfl) (hd : (x == ("__debug__" : Str)) = false := by decide) : PE X (.Name x pos) (tC (.str z)) := by
  obtain ⟨t, h⟩ := hm
  exact pe_glob hg h ⟨t, rfl⟩ hd
theorem pe_gi {i : Int} (hm : ∃ t, X.mg x = some (.int i t)) (hg : Gl X x := by rfl) (hd : (x == ("__debug__" : Str)) = false := by decide) : PE X (.Name x pos) (tC (.int i)) := by
  obtain ⟨t, h⟩ := hm
  exact pe_glob hg h ⟨t, rfl⟩ hd
theorem pe_gr {a : Addr} (hm : X.mg x = some (.ref a)) (hg : Gl X x := by rfl) (hd : (x == ("__debug__" : Str)) = false := by decide) : PE X (.Name x pos) (tC (.ref a)) := pe_glob hg hm rfl hd
theorem pe_ty {n : String} (hm : X.mg x = none) (hv : bootBuiltins x = some (.type n)) (hg : Gl X x := by rfl) (hn : x ≠ "__name__" := by decide) (hd : (x == ("__debug__" : Str)) = false := by decide) : PE X (.Name x pos) (tC (.ty n)) := pe_bltn hg hm hv rfl hn hd
end
/-- the built-in names that the text does not hide -/
structure Bt (mg : Str → Option Value) : Prop where
  b_len : mg "len" = none
  b_int : mg "int" = none
  b_bool : mg "bool" = none
  b_str : mg "str" = none
  b_abs : mg "abs" = none
  b_min : mg "min" = none
  b_max : mg "max" = none
  b_sum : mg "sum" = none
  b_list : mg "list" = none
  b_tuple : mg "tuple" = none
  b_all : mg "all" = none
  b_isinstance : mg "isinstance" = none
  b_set : mg "set" = none
  b_range : mg "range" = none
  b_enumerate : mg "enumerate" = none
  b_reversed : mg "reversed" = none
  b_zip : mg "zip" = none
  b_divmod : mg "divmod" = none
  b_dict : mg "dict" = none
  b_sorted : mg "sorted" = none
  m_MOST_COUNTED : ∃ t, mg "MOST_COUNTED" = some (.int 40 t)
  m_comb : mg "comb" = some (.builtin "math.comb")

/-! ### heaps -/
/-- all but p and g is as it was -/
def Keep (p g : Addr) (H H' : Hp) : Prop := ∀ b o, H b = some o → b ≠ p → b ≠ g → H' b = some o
theorem Keep.refl {p g : Addr} (H : Hp) : Keep p g H H := fun _ _ h _ _ => h
theorem Keep.trans {p g : Addr} {H H1 H2 : Hp} (a : Keep p g H H1) (b : Keep p g H1 H2) : Keep p g H H2 := fun c o h h1 h2 => b c o (a c o h h1 h2) h1 h2
theorem Same.keep {p g : Addr} {H H' : Hp} (a : Same H H') : Keep p g H H' := fun b o h _ _ => a b o h
theorem same_upd {H : Hp} {a : Addr} {o : HO} (h : H a = none) : Same H (upd H a o) := fun b u e => by
  rw [upd_ne (ne_of_none e h)]; exact e
theorem keep_upd {p g : Addr} {H : Hp} {o : HO} (h : True) : Keep p g H (upd H p o) := fun b u e h1 _ => by
  rw [upd_ne h1]; exact e
theorem keep_upd' {p g : Addr} {H : Hp} {o : HO} (h : True) : Keep p g H (upd H g o) := fun b u e _ h2 => by
  rw [upd_ne h2]; exact e
theorem SqL.keep {K : PySem.W.Frag} {p g a : Addr} {H H' : Hp} {xs : List V} (h : SqL K H a xs) (k : Keep p g H H') (h1 : a ≠ p) (h2 : a ≠ g) : SqL K H' a xs := by
  rcases h with (h | ⟨o, h⟩) | h
  · exact .inl (.inl (k _ _ h h1 h2))
  · exact .inl (.inr ⟨o, k _ _ h h1 h2⟩)
  · exact .inr h
theorem SqT.keep {K : PySem.W.Frag} {p g a : Addr} {H H' : Hp} {xs : List V} (h : SqT K H a xs) (k : Keep p g H H') (h1 : a ≠ p) (h2 : a ≠ g) : SqT K H' a xs := by
  rcases h with (h | ⟨o, h⟩) | h
  · exact .inl (.inl (k _ _ h h1 h2))
  · exact .inl (.inr ⟨o, k _ _ h h1 h2⟩)
  · exact .inr h
theorem SqT.same {K : PySem.W.Frag} {a : Addr} {H H' : Hp} {xs : List V} (h : SqT K H a xs) (k : Same H H') : SqT K H' a xs := by
  rcases h with (h | ⟨o, h⟩) | h
  · exact .inl (.inl (k _ _ h))
  · exact .inl (.inr ⟨o, k _ _ h⟩)
  · exact .inr h
theorem atI_int {α : Type} {xs : List α} {i : Int} {v : α} (h0 : 0 ≤ i) (h : xs[i.toNat]? = some v) : atI xs i = some v := by
  have e : i = ((i.toNat : Nat) : Int) := by omega
  rw [e]
  exact atI_nat h
theorem ixN_lt {n j : Nat} (h : j < n) : ixN n (j : Int) = some j := by
  unfold ixN
  rw [if_pos (by omega), if_pos (by omega)]
  rfl
theorem ixN_int {n : Nat} {i : Int} (h0 : 0 ≤ i) (h : i < n) : ixN n i = some i.toNat := by
  unfold ixN
  rw [if_pos h0, if_pos h]
theorem seq0 {n : Nat} (h : 0 < n) : seqIndex? 0 n = some 0 := (ixN_seq (ixN_lt (j := 0) h)).1
/-! ### the law's draws -/
structure PotAt (H : Hp) (p g s : Addr) : Prop where
  ex : ∃ (G S : List Int) (t r : Int), H p = some (.lst [.ref g, .ref s, .int t, .int r]) ∧ H g = some (.lst (G.map V.int)) ∧ H s = some (.lst (S.map V.int)) ∧ 0 < S.length
  pg : p ≠ g
  ps : p ≠ s
  gs : g ≠ s
theorem PotAt.keep {H H' : Hp} {p g s : Addr} (h : PotAt H p g s) (k : Same H H') : PotAt H' p g s := by
  obtain ⟨⟨G, S, t, r, h1, h2, h3, h4⟩, a, b, c⟩ := h
  exact ⟨⟨G, S, t, r, k _ _ h1, k _ _ h2, k _ _ h3, h4⟩, a, b, c⟩
theorem PotAt.off {H H' : Hp} {p g s : Addr} (h : PotAt H p g s) (k : ∀ b o, H b = some o → b = p ∨ b = g ∨ b = s → H' b = some o) : PotAt H' p g s := by
  obtain ⟨⟨G, S, t, r, h1, h2, h3, h4⟩, a, b, c⟩ := h
  exact ⟨⟨G, S, t, r, k _ _ h1 (.inl rfl), k _ _ h2 (.inr (.inl rfl)), k _ _ h3 (.inr (.inr rfl)), h4⟩, a, b, c⟩
def spPot (K : PySem.W.Frag) : Sp := fun vs H Q _ => ∃ (a : Addr) (ns : List Int), vs = [.ref a] ∧ SqL K H a (ns.map V.int) ∧ ns.length ≤ 63 ∧
  ∀ (H' : Hp) (p g s : Addr), PotAt H' p g s → Same H H' → H p = none → H g = none → H s = none → Q (.ref p) H'
def spDraw : Sp := fun vs H Q _ => ∃ (p g s : Addr) (m : Int), vs = [.ref p, .int m] ∧ PotAt H p g s ∧ 0 < m ∧ m.natAbs < 2 ^ 200 ∧
  ∀ (H' : Hp) (r : Int), PotAt H' p g s → Keep p g H H' → 0 ≤ r → r < m → Q (.int r) H'
end Kk

set_option maxHeartbeats 2000000
namespace Kk
open PySem PySem.Spec PyProof.Rows L2
def top (i : Nat) : Stmt := PySem.Challenge.pw_oncekinds_k46_whole_counts_by_closed_for.main.body.getD i (.Pass ⟨0, 0, 0, 0⟩)
abbrev s_draw : Stmt := (top 20)
theorem sc_draw : FnScope ["_law_pot_here", "_law_limit", "_law_turn", "_law_number", "_law_seed"] ["_law_pot_here", "_law_limit"] (defScope s_draw) := ⟨rfl, rfl, rfl, by decide +kernel, rfl, by decide +kernel, by decide +kernel⟩
theorem c_draw {P w K mg base} (B : Bt mg) (D : DefAt K mg "_law_draw" s_draw) : Cal P w K mg base "_law_draw" 1 ["_law_pot_here", "_law_limit"] spDraw := by
  refine cal_of D sc_draw (fun _ _ _ _ _ _ us hl => match us, hl with | [_, _], _ => rfl) (fun vs H Q E h => ?_) (fun f cdv A outer st0 H vs Q E hr h => ?_)
  · obtain ⟨p, g, s, m, rfl, _⟩ := h
    rfl
  · obtain ⟨p, g, s, m, rfl, PA, hm, hm9, k⟩ := h
    obtain ⟨⟨G, S, t, r, h1, h2, h3, hS⟩, npg, nps, ngs⟩ := PA
    refine ⟨_, (pss_cons (ps_set (i := 2) sc_draw.nd rfl (by first | exact Or.inl rfl | exact Or.inr rfl) (pe_ix ix_list (pv 0) pe_int (fun _ _ => rfl)))
      (pss_cons (ps_asg (pe_op op_add (pv 2) pe_int) (pg_sub (pv 0) pe_int set_list))
      (pss_cons (ps_if (pt_cmpR op_gt (pe_callB call_len_seq (by rfl) B.b_len (by decide +kernel) (pa_cons (pe_ix ix_list (pv 0) pe_int (fun _ _ => rfl)) pa_nil)) pe_int (nomark _)) (pss_cons (ps_set (i := 3) sc_draw.nd rfl (by first | exact Or.inl rfl | exact Or.inr rfl) (pe_ix ix_list (pe_ix ix_list (pv 0) pe_int (fun _ _ => rfl)) pe_int (fun _ _ => rfl)))
      (pss_cons (ps_asg (pe_op op_fdivW (pv 3) (pv 1)) (pg_sub (pe_ix ix_list (pv 0) pe_int (fun _ _ => rfl)) pe_int set_list))
      (pss_cons (ps_if (pt_cmpR op_lt (pv 3) (pv 1) (nomark _)) (pss_one (ps_expr (pe_bm PySem.F.plainAttrs_list PySem.F.slot_list_pop PySem.F.type_list_pop mt_popAt (pe_ix ix_list (pv 0) pe_int (fun _ _ => rfl)) (pa_cons pe_int pa_nil)))) pss_nil)
      (pss_one (ps_ret (pe_op op_mod (pe_callTy call_int1 (by rfl) B.b_int (by decide +kernel) (pa_cons (pv 3) pa_nil)) (pv 1))))))) pss_nil)
      (pss_cons (ps_set (i := 4) sc_draw.nd rfl (by first | exact Or.inl rfl | exact Or.inr rfl) (pe_op op_add (pe_op op_add (pe_op op_mul (pe_ix ix_list (pe_ix ix_list (pv 0) pe_int (fun _ _ => rfl)) (pe_op op_mod (pe_callTy call_int1 (by rfl) B.b_int (by decide +kernel) (pa_cons (pv 2) pa_nil)) (pe_callB call_len_seq (by rfl) B.b_len (by decide +kernel) (pa_cons (pe_ix ix_list (pv 0) pe_int (fun _ _ => rfl)) pa_nil))) (fun _ _ => rfl)) pe_int) (pe_op op_mul pe_int (pv 2))) (pe_op op_mul (pe_ix ix_list (pv 0) pe_int (fun _ _ => rfl)) pe_int)))
      (pss_cons (ps_set (i := 3) sc_draw.nd rfl (by first | exact Or.inl rfl | exact Or.inr rfl) (pe_op op_mod (pe_callTy call_int1 (by rfl) B.b_int (by decide +kernel) (pa_cons (pe_op op_add (pe_op op_mul (pv 4) pe_int) pe_int) pa_nil)) pe_int))
      (pss_cons (ps_set (i := 3) sc_draw.nd rfl (by first | exact Or.inl rfl | exact Or.inr rfl) (pe_op op_mod (pe_callTy call_int1 (by rfl) B.b_int (by decide +kernel) (pa_cons (pe_op op_mul (pv 3) (pe_op op_add (pe_op op_fdivW (pv 3) pe_int) pe_int)) pa_nil)) pe_int))
      (pss_cons (ps_set (i := 3) sc_draw.nd rfl (by first | exact Or.inl rfl | exact Or.inr rfl) (pe_op op_mod (pe_callTy call_int1 (by rfl) B.b_int (by decide +kernel) (pa_cons (pe_op op_add (pe_op op_mul (pv 3) (pe_op op_add (pe_op op_fdivW (pv 3) pe_int) pe_int)) (pv 2)) pa_nil)) pe_int))
      (pss_one (ps_ret (pe_op op_mod (pe_callTy call_int1 (by rfl) B.b_int (by decide +kernel) (pa_cons (pe_op op_fdivW (pv 3) pe_int) pa_nil)) (pv 1))))))))))), ?_⟩
    -- turn = pot[2]; pot[2] = turn + 1
    refine ⟨_, rfl, p, _, _, _, rfl, rfl, SqL.of h1, rfl, ?_⟩
    refine ⟨_, rfl, _, _, rfl, rfl, _, rfl, p, _, _, _, rfl, rfl, h1, rfl, ?_⟩
    have h1' : upd H p (.lst [.ref g, .ref s, .int (t + 1), .int r]) p = some (.lst [.ref g, .ref s, .int (t + 1), .int r]) := upd_same
    have h2' : upd H p (.lst [.ref g, .ref s, .int (t + 1), .int r]) g = some (.lst (G.map V.int)) := by rw [upd_ne npg.symm]; exact h2
    have h3' : upd H p (.lst [.ref g, .ref s, .int (t + 1), .int r]) s = some (.lst (S.map V.int)) := by rw [upd_ne nps.symm]; exact h3
    have kp : Keep p g H (upd H p (.lst [.ref g, .ref s, .int (t + 1), .int r])) := keep_upd trivial
    have e0 : ([V.ref g, V.ref s, V.int t, V.int r].set 2 (V.int (t + 1))) = [.ref g, .ref s, .int (t + 1), .int r] := rfl
    show tSeq _ _ _ _ (upd H p (.lst [.ref g, .ref s, .int (t + 1), .int r]))
    generalize upd H p (.lst [.ref g, .ref s, .int (t + 1), .int r]) = H1 at *
    -- if len(pot[0]) > 0
    refine ⟨_, rfl, p, _, _, _, rfl, rfl, SqL.of h1', rfl, _, _, rfl, .inl (SqL.of h2'), _, _, rfl, rfl, _, rfl, ?_⟩
    refine ite2 (fun hc => ?_) (fun hc => ?_)
    · have hG : 0 < G.length := by
        rw [List.length_map] at hc
        have := of_decide_eq_true hc
        omega
      obtain ⟨z, G', rfl⟩ : ∃ z G', G = z :: G' := by
        cases G with
        | nil => simp at hG
        | cons z G' => exact ⟨z, G', rfl⟩
      -- number = pot[0][0]; pot[0][0] = number // many
      refine ⟨_, rfl, p, _, _, _, rfl, rfl, SqL.of h1', rfl, _, _, _, _, rfl, rfl, SqL.of h2', at_of (j := 0) rfl rfl, ?_⟩
      refine ⟨_, rfl, _, rfl, _, _, rfl, rfl, wide_div hm hm9 (by decide) (by decide), _, rfl, p, _, _, _, rfl, rfl, SqL.of h1', rfl, g, _, _, 0, rfl, rfl, h2', ixN_lt (j := 0) (by simp), ?_⟩
      have q1 : upd H1 g (.lst ((((z :: G').map V.int)).set 0 (V.int (z / m)))) p = some (.lst [.ref g, .ref s, .int (t + 1), .int r]) := by rw [upd_ne npg]; exact h1'
      have q2 : upd H1 g (.lst ((((z :: G').map V.int)).set 0 (V.int (z / m)))) g = some (.lst (((z / m) :: G').map V.int)) := upd_same
      have q3 : upd H1 g (.lst ((((z :: G').map V.int)).set 0 (V.int (z / m)))) s = some (.lst (S.map V.int)) := by rw [upd_ne ngs.symm]; exact h3'
      have kq : Keep p g H (upd H1 g (.lst ((((z :: G').map V.int)).set 0 (V.int (z / m))))) := kp.trans (keep_upd' trivial)
      show tSeq _ _ _ _ (upd H1 g (.lst ((((z :: G').map V.int)).set 0 (V.int (z / m)))))
      generalize upd H1 g (.lst ((((z :: G').map V.int)).set 0 (V.int (z / m)))) = H2 at *
      refine ⟨_, rfl, _, rfl, _, _, rfl, rfl, _, rfl, ?_⟩
      refine ite2 (fun _ => ?_) (fun _ => ?_)
      · -- pot[0].pop(0)
        refine ⟨_, rfl, p, _, _, _, rfl, rfl, SqL.of q1, rfl, .inl ⟨rfl, _, SqL.of q2⟩, g, _, 0, 0, _, rfl, rfl, q2, (by decide), (by decide), seq0 (by simp), rfl, ?_⟩
        have y1 : upd H2 g (.lst ((((z / m) :: G').map V.int).eraseIdx 0)) p = some (.lst [.ref g, .ref s, .int (t + 1), .int r]) := by rw [upd_ne npg]; exact q1
        have y2 : upd H2 g (.lst ((((z / m) :: G').map V.int).eraseIdx 0)) g = some (.lst (G'.map V.int)) := upd_same
        have y3 : upd H2 g (.lst ((((z / m) :: G').map V.int).eraseIdx 0)) s = some (.lst (S.map V.int)) := by rw [upd_ne ngs.symm]; exact q3
        refine ⟨_, rfl, .inl ⟨_, rfl, _, rfl, _, _, rfl, rfl, hm, ?_⟩⟩
        exact k _ _ ⟨⟨G', S, t + 1, r, y1, y2, y3, hS⟩, npg, nps, ngs⟩ (kq.trans (keep_upd' trivial)) (Int.emod_nonneg _ (by omega)) (Int.emod_lt_of_pos _ hm)
      · refine ⟨_, rfl, .inl ⟨_, rfl, _, rfl, _, _, rfl, rfl, hm, ?_⟩⟩
        exact k _ _ ⟨⟨(z / m) :: G', S, t + 1, r, q1, q2, q3, hS⟩, npg, nps, ngs⟩ kq (Int.emod_nonneg _ (by omega)) (Int.emod_lt_of_pos _ hm)
    · have hSl : (0 : Int) < ((S.map V.int).length : Int) := by rw [List.length_map]; omega
      have hlt : (t % ((S.map V.int).length : Int)).toNat < S.length := by
        have a1 := Int.emod_nonneg t (show ((S.map V.int).length : Int) ≠ 0 by omega)
        have a2 := Int.emod_lt_of_pos t hSl
        rw [List.length_map] at a1 a2 ⊢
        omega
      obtain ⟨sv, hat⟩ : ∃ sv, atI (S.map V.int) (t % ((S.map V.int).length : Int)) = some (V.int sv) := by
        refine ⟨S[(t % ((S.map V.int).length : Int)).toNat], ?_⟩
        refine atI_int (Int.emod_nonneg t (by omega)) ?_
        rw [List.getElem?_map, List.getElem?_eq_getElem hlt]
        rfl
      -- seed
      refine ⟨_, rfl, p, _, _, _, rfl, rfl, SqL.of h1', rfl, _, rfl, .inl ⟨_, rfl, _, rfl, p, _, _, _, rfl, rfl, SqL.of h1', rfl, _, _, rfl, .inl (SqL.of h3'), _, _, rfl, rfl, hSl, _, _, _, _, rfl, rfl, SqL.of h3', hat, ?_⟩⟩
      refine ⟨_, _, rfl, rfl, .inr ⟨by decide, by decide⟩, _, rfl, _, _, rfl, rfl, .inl ⟨by decide, by decide⟩, _, _, rfl, rfl, _, rfl, p, _, _, _, rfl, rfl, SqL.of h1', rfl, _, _, rfl, rfl, .inr ⟨by decide, by decide⟩, _, _, rfl, rfl, ?_⟩
      -- number = int(seed * 48271 + 11) % 2147483647
      refine ⟨_, rfl, _, _, rfl, rfl, .inr ⟨by decide, by decide⟩, _, _, rfl, rfl, .inl ⟨_, rfl, _, _, rfl, rfl, (show (0 : Int) < 2147483647 by decide), ?_⟩⟩
      generalize hy : ((sv * 7919 + 104729 * t + r * 31) * 48271 + 11) % 2147483647 = y1
      have y1a : 0 ≤ y1 := by rw [← hy]; exact Int.emod_nonneg _ (by decide)
      have y1b : y1 < 2147483647 := by rw [← hy]; exact Int.emod_lt_of_pos _ (by decide)
      refine ⟨_, rfl, _, rfl, _, _, rfl, rfl, wide_div (b := 30) (by decide) (by decide) (by decide) (by decide), _, _, rfl, rfl, _, _, rfl, rfl, .inl ⟨by omega, by omega⟩, .inl ⟨_, rfl, _, _, rfl, rfl, (show (0 : Int) < 2147483629 by decide), ?_⟩⟩
      generalize hy2 : (y1 * (y1 / 1009 + 69621)) % 2147483629 = y2
      have y2a : 0 ≤ y2 := by rw [← hy2]; exact Int.emod_nonneg _ (by decide)
      have y2b : y2 < 2147483629 := by rw [← hy2]; exact Int.emod_lt_of_pos _ (by decide)
      refine ⟨_, rfl, _, rfl, _, _, rfl, rfl, wide_div (b := 30) (by decide) (by decide) (by decide) (by decide), _, _, rfl, rfl, _, _, rfl, rfl, .inl ⟨by omega, by omega⟩, _, rfl, _, _, rfl, rfl, .inl ⟨_, rfl, _, _, rfl, rfl, (show (0 : Int) < 2147483399 by decide), ?_⟩⟩
      refine ⟨_, rfl, _, _, rfl, rfl, wide_div (b := 30) (by decide) (by decide) (by decide) (by decide), .inl ⟨_, rfl, _, rfl, _, _, rfl, rfl, hm, ?_⟩⟩
      exact k _ _ ⟨⟨G, S, t + 1, r, h1', h2', h3', hS⟩, npg, nps, ngs⟩ kp (Int.emod_nonneg _ (by omega)) (Int.emod_lt_of_pos _ hm)
end Kk

set_option maxHeartbeats 2000000
namespace Kk
open PySem PySem.Spec PyProof.Rows L2
theorem cut63 {ns : List Int} (h : ns.length ≤ 63) : cutV (ns.map V.int) none (some 63) = ns.map V.int := by
  have e : HT.sIx (ns.map V.int).length (ns.map V.int).length (some 63) = min 63 (ns.map V.int).length := HT.sIx_nat _ _ 63
  unfold cutV
  rw [e]
  show ((ns.map V.int).drop 0).take _ = _
  rw [List.drop_zero]
  exact List.take_of_length_le (by rw [List.length_map]; show _ ≤ min 63 ns.length - 0; omega)
theorem map_get {α : Type} {f : α → V} {l : List α} {i : Nat} {x : V} (h : (l.map f)[i]? = some x) : ∃ y, l[i]? = some y ∧ x = f y := by
  rw [List.getElem?_map] at h
  cases e : l[i]? with
  | none => rw [e] at h; cases h
  | some y => rw [e] at h; exact ⟨y, rfl, (Option.some.inj h).symm⟩
theorem small_lt {n m : Nat} (h : n ≤ m) (hm : m < 16777216) : n < sizeLine := by rw [sizeLine_eq]; omega
theorem upd_over {H H' : Hp} {D : Addr} {o u : HO} (e : H' = upd H D o) : upd H' D u = upd H D u := by rw [e]; exact upd_upd
abbrev s_pot : Stmt := (top 19)
theorem sc_pot : FnScope ["_law_script", "_law_cells", "_law_item", "_law_greats", "_law_smalls"] ["_law_script"] (defScope s_pot) := ⟨rfl, rfl, rfl, by decide +kernel, rfl, by decide +kernel, by decide +kernel⟩
theorem c_pot {P w K mg base} (B : Bt mg) (D : DefAt K mg "_law_pot" s_pot) : Cal P w K mg base "_law_pot" 1 ["_law_script"] (spPot K) := by
  refine cal_of D sc_pot (fun _ _ _ _ _ _ us hl => match us, hl with | [_], _ => rfl) (fun vs H Q E h => ?_) (fun f cdv A outer st0 H vs Q E hr h => ?_)
  · obtain ⟨a, ns, rfl, _⟩ := h
    rfl
  · obtain ⟨a, ns, rfl, hS, hlen, k⟩ := h
    refine ⟨_, (pss_cons (ps_setLc (i := 1) (own := [("_law_item", 2)]) (g := (gName 2)) (tt := tYes) rfl sc_pot.nd rfl rfl (sw_true rfl rfl rfl (by decide +kernel)) (pi_list (pe_slice sl_list (pv 0) po_none (po_some pe_int))) (blkOk_by (own := [("_law_item", 2)]) (N := ["_law_script", "_law_cells", "_law_item", "_law_greats", "_law_smalls"]) (sc := defScope s_pot) (by decide +kernel)) (fun _ _ _ _ _ => (pg_name (i := 2) sc_pot.nd rfl (by first | exact Or.inl rfl | exact Or.inr rfl))) (fun _ _ _ _ _ => pts_nil) (fun _ _ _ _ _ => (pe_callTy call_int1 (by rfl) B.b_int (by decide +kernel) (pa_cons (pv 2) pa_nil))))
      (pss_cons (ps_setLc (i := 3) (own := [("_law_item", 2)]) (g := (gName 2)) rfl sc_pot.nd rfl rfl (sw_true rfl rfl rfl (by decide +kernel)) (pi_list (pv 1)) (blkOk_by (own := [("_law_item", 2)]) (N := ["_law_script", "_law_cells", "_law_item", "_law_greats", "_law_smalls"]) (sc := defScope s_pot) (by decide +kernel)) (fun _ _ _ _ _ => (pg_name (i := 2) sc_pot.nd rfl (by first | exact Or.inl rfl | exact Or.inr rfl))) (fun _ _ _ _ _ => (pts_one (pt_cmpR op_ge (pe_callB call_abs (by rfl) B.b_abs (by decide +kernel) (pa_cons (pv 2) pa_nil)) (pe_op op_pow pe_int pe_int) (nomark _)))) (fun _ _ _ _ _ => (pe_callB call_abs (by rfl) B.b_abs (by decide +kernel) (pa_cons (pv 2) pa_nil))))
      (pss_cons (ps_set (i := 4) sc_pot.nd rfl (by first | exact Or.inl rfl | exact Or.inr rfl) (pe_op op_cat (pe_lc (own := [("_law_item", 2)]) (g := (gName 2)) rfl sc_pot.nd (pi_list (pv 1)) (blkOk_by (own := [("_law_item", 2)]) (N := ["_law_script", "_law_cells", "_law_item", "_law_greats", "_law_smalls"]) (sc := defScope s_pot) (by decide +kernel)) (fun _ _ _ _ _ => (pg_name (i := 2) sc_pot.nd rfl (by first | exact Or.inl rfl | exact Or.inr rfl))) (fun _ _ _ _ _ => (pts_one (pt_cmpR op_lt (pe_callB call_abs (by rfl) B.b_abs (by decide +kernel) (pa_cons (pv 2) pa_nil)) (pe_op op_pow pe_int pe_int) (nomark _)))) (fun _ _ _ _ _ => (pe_op op_mod (pe_callTy call_int1 (by rfl) B.b_int (by decide +kernel) (pa_cons (pv 2) pa_nil)) pe_int))) (pe_lst (pa_cons (pe_op op_add (pe_callB call_len_seq (by rfl) B.b_len (by decide +kernel) (pa_cons (pv 1) pa_nil)) pe_int) pa_nil))))
      (pss_one (ps_ret (pe_lst (pa_cons (pv 3) (pa_cons (pv 4) (pa_cons pe_int (pa_cons (pe_op op_mod (pe_callTy call_int1 (by rfl) B.b_int (by decide +kernel) (pa_cons (pe_callB (cr_sum rfl) (by rfl) B.b_sum (by decide +kernel) (pa_cons (pv 4) pa_nil)) pa_nil)) pe_int) pa_nil)))))))))), ?_⟩
    refine ⟨_, rfl, _, rfl, a, _, rfl, hS, fun p0 n0 => ?_⟩
    rw [cut63 hlen]
    have S0 : Same H (upd H p0 (.lst (ns.map V.int))) := same_upd n0
    have L0 : upd H p0 (.lst (ns.map V.int)) p0 = some (.lst (ns.map V.int)) := upd_same
    generalize upd H p0 (.lst (ns.map V.int)) = H0 at *
    refine ⟨p0, rfl, ⟨_, SqL.of L0⟩, fun D1 nD1 => lc_list (K := K) (a := p0) (xs := ns.map V.int) (fun i H' => ∃ acc : List Int, acc.length ≤ i ∧ H' = upd H0 D1 (.lst (acc.map V.int)))
      ⟨[], Nat.le_refl _, rfl⟩ (fun i H' _ ⟨_, _, e⟩ => SqL.of (by rw [e, upd_ne (ne_of_none L0 nD1)]; exact L0)) ?_ ?_⟩
    · rintro i y H' hi ⟨acc, hl, e⟩
      obtain ⟨z, hz, rfl⟩ := map_get hi
      have hi' := (List.getElem?_eq_some_iff.mp hz).1
      refine ⟨rfl, _, rfl, .inl ⟨_, rfl, ?_⟩⟩
      refine ⟨acc.map V.int, by rw [e, upd_same], by rw [List.length_map]; exact small_lt (Nat.le_trans hl (Nat.le_of_lt (Nat.lt_of_lt_of_le hi' hlen))) (by decide), acc ++ [z], by simp; omega, ?_⟩
      rw [upd_over e, List.map_append]
      rfl
    · rintro H' ⟨cs, hcl, e⟩
      rw [List.length_map] at hcl
      have S1 : Same H H' := S0.trans (by rw [e]; exact same_upd nD1)
      have L1 : H' D1 = some (.lst (cs.map V.int)) := by rw [e, upd_same]
      clear e
      refine ⟨_, rfl, D1, rfl, ⟨_, SqL.of L1⟩, fun D2 nD2 => lc_list (K := K) (a := D1) (xs := cs.map V.int) (fun i H2 => ∃ acc : List Int, acc.length ≤ i ∧ H2 = upd H' D2 (.lst (acc.map V.int)))
        ⟨[], Nat.le_refl _, rfl⟩ (fun i H2 _ ⟨_, _, e⟩ => SqL.of (by rw [e, upd_ne (ne_of_none L1 nD2)]; exact L1)) ?_ ?_⟩
      · rintro i y H2 hi ⟨acc, hl, e⟩
        obtain ⟨z, hz, rfl⟩ := map_get hi
        have hi' := (List.getElem?_eq_some_iff.mp hz).1
        refine ⟨rfl, ?_⟩
        refine ⟨_, rfl, _, rfl, _, _, rfl, rfl, ⟨by decide, by decide, by decide⟩, _, _, rfl, rfl, _, rfl, ?_⟩
        refine ite2 (fun _ => ?_) (fun _ => ?_)
        · refine ⟨_, rfl, _, rfl, ?_⟩
          refine ⟨acc.map V.int, by rw [e, upd_same], by rw [List.length_map]; exact small_lt (m := 63) (by omega) (by decide), acc ++ [if z < 0 then -z else z], by simp; omega, ?_⟩
          rw [upd_over e, List.map_append]
          rfl
        · exact ⟨acc, by omega, e⟩
      · rintro H2 ⟨gs, hgl, e⟩
        have S2 : Same H H2 := S1.trans (by rw [e]; exact same_upd nD2)
        have L12 : H2 D1 = some (.lst (cs.map V.int)) := by rw [e, upd_ne (ne_of_none L1 nD2)]; exact L1
        have L2' : H2 D2 = some (.lst (gs.map V.int)) := by rw [e, upd_same]
        have fD2 : H D2 = none := S1.free nD2
        clear e
        refine ⟨_, rfl, D1, rfl, ⟨_, SqL.of L12⟩, fun D3 nD3 => lc_list (K := K) (a := D1) (xs := cs.map V.int) (fun i H3 => ∃ acc : List Int, acc.length ≤ i ∧ H3 = upd H2 D3 (.lst (acc.map V.int)))
          ⟨[], Nat.le_refl _, rfl⟩ (fun i H3 _ ⟨_, _, e⟩ => SqL.of (by rw [e, upd_ne (ne_of_none L12 nD3)]; exact L12)) ?_ ?_⟩
        · rintro i y H3 hi ⟨acc, hl, e⟩
          obtain ⟨z, hz, rfl⟩ := map_get hi
          have hi' := (List.getElem?_eq_some_iff.mp hz).1
          refine ⟨rfl, ?_⟩
          refine ⟨_, rfl, _, rfl, _, _, rfl, rfl, ⟨by decide, by decide, by decide⟩, _, _, rfl, rfl, _, rfl, ?_⟩
          refine ite2 (fun _ => ?_) (fun _ => ?_)
          · refine ⟨_, rfl, .inl ⟨_, rfl, _, _, rfl, rfl, (show (0 : Int) < 1000000007 by decide), ?_⟩⟩
            refine ⟨acc.map V.int, by rw [e, upd_same], by rw [List.length_map]; exact small_lt (m := 63) (by omega) (by decide), acc ++ [z % 1000000007], by simp; omega, ?_⟩
            rw [upd_over e, List.map_append]
            rfl
          · exact ⟨acc, by omega, e⟩
        · rintro H3 ⟨ss, hsl, e⟩
          rw [List.length_map] at hsl
          have S3 : Same H2 H3 := by rw [e]; exact same_upd nD3
          have L3 : H3 D3 = some (.lst (ss.map V.int)) := by rw [e, upd_same]
          clear e
          -- + [len(cells) + 1]
          refine ⟨_, rfl, _, _, rfl, .inl (SqL.of (S3 _ _ L12)), _, _, rfl, rfl, (by show 1 ≤ sizeLine; decide), fun p4 n4 => ?_⟩
          have S4 : Same H3 (upd H3 p4 (.lst [V.int (((cs.map V.int).length : Nat) + 1)])) := same_upd n4
          have L4 : upd H3 p4 (.lst [V.int (((cs.map V.int).length : Nat) + 1)]) p4 = some (.lst [V.int (((cs.map V.int).length : Nat) + 1)]) := upd_same
          refine ⟨D3, p4, _, _, rfl, rfl, S4 _ _ L3, L4, by rw [List.length_map, sizeLine_eq]; simp; omega, fun p5 n5 => ?_⟩
          generalize upd H3 p4 (.lst [V.int (((cs.map V.int).length : Nat) + 1)]) = H4 at *
          have S5 : Same H4 (upd H4 p5 (.lst ((ss ++ [((cs.map V.int).length : Int) + 1]).map V.int))) := same_upd n5
          have L5 : upd H4 p5 (.lst ((ss ++ [((cs.map V.int).length : Int) + 1]).map V.int)) p5 = some (.lst ((ss ++ [((cs.map V.int).length : Int) + 1]).map V.int)) := upd_same
          have e5 : (ss.map V.int ++ [V.int (((cs.map V.int).length : Nat) + 1)]) = (ss ++ [((cs.map V.int).length : Int) + 1]).map V.int := by rw [List.map_append]; rfl
          rw [e5]
          generalize hss : ss ++ [((cs.map V.int).length : Int) + 1] = s5 at *
          have hs5 : 0 < s5.length := by rw [← hss]; simp
          generalize upd H4 p5 (.lst (s5.map V.int)) = H5 at *
          -- return [greats, smalls, 0, int(sum(smalls)) % 999983]
          refine ⟨_, rfl, _, rfl, _, rfl, _, s5, rfl, SqL.of L5, .inl ⟨_, rfl, _, _, rfl, rfl, (show (0 : Int) < 999983 by decide), (by show 4 ≤ sizeLine; decide), fun p6 n6 => ?_⟩⟩
          have S6 : Same H5 (upd H5 p6 (.lst [.ref D2, .ref p5, .int 0, .int (s5.sum % 999983)])) := same_upd n6
          have S25 : Same H2 H5 := (S3.trans S4).trans S5
          have L25 := S25 _ _ L2'
          have f5 : H p5 = none := ((S2.trans S3).trans S4).free n5
          have f6 : H p6 = none := (S2.trans S25).free n6
          refine k _ p6 D2 p5 ⟨⟨gs, s5, 0, s5.sum % 999983, upd_same, S6 _ _ L25, S6 _ _ L5, hs5⟩, ?_, ?_, ?_⟩ ((S2.trans S25).trans S6) f6 fD2 f5
          · exact (ne_of_none L25 n6).symm
          · exact (ne_of_none L5 n6).symm
          · exact ne_of_none ((S3.trans S4) _ _ L2') n5
end Kk

namespace PySem
open Sem (wp)
open AutoSeq1 (wpAny_loadPart')
set_option maxHeartbeats 1000000 in
theorem kk_meets_enum {v : Value} {o : Obj} {H : Heap → Prop} (B : Begins v o H) :
    Meets (Builtin.«enumerate.__new__» ⟨[.type "enumerate", v], []⟩) (fun _ R s => H s.heap ∧
      R (.ok (.ret (.ref (s.heap.push o).objs.size))) { s with heap := (s.heap.push o).push { cls := .type "enumerate", data := .fields #[.none, .bool false, .ref s.heap.objs.size, rawInt 0, .none, .none] } }) :=
  .of_wp fun prog w A R s h => by
    obtain ⟨hp, g, d, tk, os⟩ := s; obtain ⟨h1, h⟩ := h
    have hsub := sub_enumerate
    have q1 : ∀ {A' : Around} {E : Value → Shared → Prop} {Q : Value → Shared → Prop}, Q (.ref hp.objs.size) ⟨hp.push o, g, d, tk, os⟩ → wpAny (model prog w) A' (pyIter v) Q E ⟨hp, g, d, tk, os⟩ :=
      fun q => B.iter prog w _ _ ⟨hp, g, d, tk, os⟩ _ h1 q
    wp_walk using q1
    refine wpAny_stack_any fun st => wpAny_pure ?_
    split
    · rename_i c _ _ _ _ _
      cases (c == Value.type "enumerate")
      · wp_walk using q1
        exact ⟨_, rfl, h⟩
      · wp_walk using q1
        exact ⟨_, rfl, h⟩
    · wp_walk using q1
      exact ⟨_, rfl, h⟩
section
variable {prog : Program} {w : World} {A : Around} {E : Value → Shared → Prop} {s : Shared}
theorem kk_call_enum {v : Value} {o : Obj} {H : Heap → Prop} {Q : Value → Shared → Prop} (B : Begins v o H) (h1 : H s.heap)
    (h : ∀ h', IsEnum h' (s.heap.objs.size + 1) s.heap.objs.size 0 .none → h'.get? s.heap.objs.size = some o → h'.objs.size = s.heap.objs.size + 2 →
      (∀ b o, s.heap.get? b = some o → h'.get? b = some o) → Q (.ref (s.heap.objs.size + 1)) { s with heap := h' }) :
    wpAny (model prog w) A (call (.type "enumerate") [v]) Q E s := by
  refine callType_new F.called_enumerate (by decide) (F.typeCall_enumerate_1 _) (F.newCall_enumerate_1 _) (fun obj => F.args_object_init_2 obj _) F.entry_enumerate_new
    (kk_meets_enum B) ⟨h1, ?_⟩
  have hz : (s.heap.push o).objs.size = s.heap.objs.size + 1 := Heap.size_push ..
  show _ ∧ _
  rw [hz]
  have he : IsEnum ((s.heap.push o).push { cls := .type "enumerate", data := .fields #[.none, .bool false, .ref s.heap.objs.size, rawInt 0, .none, .none] }) (s.heap.objs.size + 1) s.heap.objs.size 0 .none := by
    have := Heap.get?_push_size (s.heap.push o) (o := { cls := .type "enumerate", data := .fields #[.none, .bool false, .ref s.heap.objs.size, rawInt 0, .none, .none] }) rfl
    rw [hz] at this; exact this
  refine ⟨⟨_, he, rfl⟩, h _ he (Heap.get?_push_of_some _ (Heap.get?_push_size _ B.free)) (by rw [Heap.size_push, hz]) fun b o x => Heap.get?_push_of_some _ (Heap.get?_push_of_some _ x)⟩
end
end PySem
namespace Kk
open PySem PySem.Spec PyProof.Rows L2
/-- the tuple at a, each item in a new pair -/
def IteT (K : PySem.W.Frag) (a : Addr) : It :=
  ⟨fun i H => ∃ (xs : List V) (x : V), SqT K H a xs ∧ xs[i]? = some x, fun i H v H' => ∃ T x, v = .ref T ∧ H T = none ∧ H' = upd H T (.tup [.int (i : Nat), x]) ∧ ∀ xs, SqT K H a xs → xs[i]? = some x, fun i H => ∃ xs : List V, SqT K H a xs ∧ xs.length ≤ i⟩
theorem turn_enumT {P : Program} {w : World} {K : PySem.W.Frag} {elts : List Expr} {kk : Nat} {tpos : Pos} (a e it : Addr) (hae : a ≠ e) (hai : a ≠ it) :
    Turn P w K (.Tuple elts kk tpos) (IteT K a) [e, it] e (fun i h => (∃ old, IsEnum h e it ((i : Nat) : Int) old) ∧ h.IsTupleIter it a i ∧ e ≠ it) where
  mem := by simp
  obj := fun i h st b hb => by
    obtain ⟨⟨old, he⟩, ⟨o, ho, hc, hd⟩, _⟩ := st
    have e' : b = e ∨ b = it := by simpa using hb
    rcases e' with z | z
    · rw [z]; exact ⟨_, he, fun v q => nomatch q⟩
    · rw [z]; exact ⟨o, ho, fun v q => by rw [hd] at q; cases q⟩
  keep := fun i h h' st k => let ⟨⟨old, he⟩, hi, hne⟩ := st; ⟨⟨old, k e (by simp) _ he⟩, hi.at fun o q => k it (by simp) o q, hne⟩
  item := by
    intro X hP hw hK hc i pins s σ H E I hf st hg
    subst hP hw hK
    obtain ⟨⟨old, he⟩, hit, hne⟩ := st
    obtain ⟨xs, x, hq, hx⟩ := hg
    obtain ⟨its, rv, p, hz⟩ := I.tuple hq
    obtain ⟨u, hu, ru⟩ := rv.get hx
    have hel : e < s.heap.objs.size := Heap.lt_size he
    have hil : it < s.heap.objs.size := by obtain ⟨_, q, _⟩ := hit; exact Heap.lt_size q
    have hlt : i < its.toArray.size := by
      have := (List.getElem?_eq_some_iff.mp hu).1
      simpa using this
    have D := Draws.tuple (prog := X.prog) (w := X.w) (A := X.A.in1) (I.ok.hd hc) it a hai its.toArray
    refine wpAny_pyNext_enum_itemD D he ⟨hit, p⟩ hlt hne (by simp [hne, hae.symm]) fun y h' tk hy ho hst hT hsz hk => ?_
    have ey : y = u := by
      have h2 : its[i]? = some y := by simpa using hy
      rw [hu] at h2; exact (Option.some.inj h2).symm
    subst ey
    refine ⟨_, rfl, wpAny_letOwnedTupleGo_enum (s := { s with heap := h', toks := tk + 1 }) ho fun h'' he' sb => ?_⟩
    have hT2 : h''.get? s.heap.objs.size = some { cls := .type "tuple", data := .seq #[.int i tk, y] } := (sb.2 _ (Nat.ne_of_gt hel)).trans hT
    have new : ObjOk X.prog X.w (upd H s.heap.objs.size (.tup [.int (i : Nat), x])) h'' s.heap.objs.size (.tup [.int (i : Nat), x]) :=
      ⟨by show 2 ≤ sizeLine; decide, [.int i tk, y], .cons ⟨_, rfl⟩ (.cons ru .nil), ⟨_, hT2, rfl, _, rfl⟩⟩
    have I1 : Inv X pins σ (upd H s.heap.objs.size (.tup [.int (i : Nat), x])) { s with heap := h'', toks := tk + 1 } :=
      I.turnedNew (ch := [e, it]) (fun b ob hb q => (sb.2 b (fun z => hb (by simp [z]))).trans (hk b ob (fun z => hb (by simp [z])) (fun z => hb (by simp [z])) q)) hf (Nat.le_refl _) new
    refine ⟨.ref s.heap.objs.size, _, I1, rfl, ⟨_, x, rfl, I.hok.fresh (Nat.le_refl _), rfl, fun ys hy' => by rw [I.tuple_inj hy' hq]; exact hx⟩, ⟨⟨y, ?_⟩, hst.1.at fun o q => (sb.2 it (Ne.symm hne)).trans q, hne⟩, fun b hb => ?_⟩
    · have e1 : ((i + 1 : Nat) : Int) = (i : Int) + 1 := by omega
      rw [e1]; exact he'
    · have hb' : b < s.heap.objs.size := by
        have e' : b = e ∨ b = it := by simpa using hb
        rcases e' with z | z
        · rw [z]; exact hel
        · rw [z]; exact hil
      rw [upd_ne (Nat.ne_of_lt hb')]
      exact (hf b hb).1
  done := by
    intro X hP hw hK hc i pins s σ H E I hf st hg
    subst hP hw hK
    obtain ⟨⟨old, he⟩, hit, hne⟩ := st
    obtain ⟨xs, hq, hx⟩ := hg
    obtain ⟨its, rv, p, hz⟩ := I.tuple hq
    obtain ⟨f0, f1, f2, f3, f4, f5⟩ := hf it (by simp)
    have hl := rv.length
    have hT : s.TypeIs (.ref e) "enumerate" := ⟨_, he, rfl⟩
    have D := Draws.tuple (prog := X.prog) (w := X.w) (A := X.A.in1) (I.ok.hd hc) it a hai its.toArray
    unfold pyNext
    refine wpAny_bind (wpAny_attempt (wpAny_callSpecial?_slot (name := Str.ofString "__next__") hT F.slot_enumerate_next
      (wpAny_call_entry F.slot_enumerate_next hT F.entry_enumerate_next ?_ (F.args_enumerate_next_1 _))))
    show wpAny _ _ (field (.ref e) 2 >>= _) _ _ _
    refine wpAny_bind (wpAny_field he rfl (x := .ref it) rfl ?_)
    refine wpAny_bind (wpAny_nextOf_tuple_end (I.ok.hd hc) hit p (by simp; omega) fun h' x he' hx' => ?_)
    obtain ⟨o, ho, hcs⟩ := hx'
    refine wpAny_bind (wpAny_isInstance (T := "StopIteration") (b := true) ⟨o, ho, hcs⟩ isSubtype_stop ?_)
    exact wpAny_pure ⟨rfl, I.turned (t' := s.toks) (fun b o hb q => he' b o hb q) f0 f1 f3 f4 f5⟩
  self := fun A i s Q E st h => let ⟨⟨_, he⟩, _⟩ := st; wpAny_pyIter_enum he h
def iEnumT (K : PySem.W.Frag) (ta : TA) : TI := fun σ H R => ta σ H fun vs H1 => ∃ a xs, vs = [.ref a] ∧ SqT K H1 a xs ∧ R (IteT K a) H1
theorem pi_enumT {X : Cx} {e : Expr} {ta : TA} {p pos tpos : Pos} {elts : List Expr} {kk : Nat} (hg : Gl X "enumerate") (hm : X.mg "enumerate" = none) (ha : PA X [e] ta) (hs : starEach [e] X.env = [(false, eval e X.env)] := by rfl) :
    PI X (.Tuple elts kk tpos) (.Call (.Name "enumerate" p) [e] [] pos) (iEnumT X.K ta) := by
  refine ⟨fun pins s σ H R I h => ?_⟩
  refine Call_ (ld_blt I hg hm boot_enumerate (PyProof.Rows.callWith_type1 (thn (ha.run pos pins s σ H _ I h) fun us s1 ⟨vs, H1, I1, r1, q1⟩ => ?_) hs rfl))
  obtain ⟨a, xs, ex, hq, q⟩ := q1
  subst ex
  cases r1 with
  | cons r rr =>
    cases rr
    cases r
    obtain ⟨its, rv, p', hz⟩ := I1.tuple hq
    have hal : a < s1.heap.objs.size := p'.lt
    refine kk_call_enum (begins_tuple a its.toArray) p' fun h' he hit hsz hk => wpAny_pyIter_enum he ?_
    have I2 : Inv X pins σ H1 { s1 with heap := h' } := I1.kept (t' := s1.toks) hk
    refine ⟨s1.heap.objs.size + 1, [s1.heap.objs.size + 1, s1.heap.objs.size], _, _, H1, rfl, I2, turn_enumT a (s1.heap.objs.size + 1) s1.heap.objs.size (Nat.ne_of_lt (Nat.lt_succ_of_lt hal)) (Nat.ne_of_lt hal), ⟨⟨.none, he⟩, ⟨_, hit, rfl, rfl⟩, Nat.succ_ne_self _⟩, fun b hb => ?_, q⟩
    have e' : b = s1.heap.objs.size + 1 ∨ b = s1.heap.objs.size := by simpa using hb
    have hle : s1.heap.objs.size ≤ b := by
      rcases e' with z | z
      · rw [z]; exact Nat.le_add_right _ _
      · rw [z]; exact Nat.le_refl _
    exact I1.fpOk hle (I1.hok.fresh hle)
/-- the form one uses -/
theorem for_enumT {K : PySem.W.Frag} {a : Addr} {xs : List V} {g : TG} {tb : TS} {D : Ends} {σ : L2.St} {H : Hp} (Pv : Nat → L2.St → Hp → Prop) (h0 : Pv 0 σ H) (hl : ∀ i σ H, i ≤ xs.length → Pv i σ H → SqT K H a xs)
    (hs : ∀ i x σ H T, xs[i]? = some x → Pv i σ H → H T = none → g (.ref T) σ (upd H T (.tup [.int (i : Nat), x])) fun σ2 H2 => tb { D with nx := Pv (i + 1), ct := Pv (i + 1), bk := D.nx } σ2 H2) (hd : ∀ σ H, Pv xs.length σ H → D.nx σ H) :
    ∃ W : Nat → Nat → L2.St → Hp → Prop, (∃ m, W 0 m σ H) ∧ ∀ i m σ H, W i m σ H →
      ((IteT K a).stop i H ∧ D.nx σ H) ∨ ((IteT K a).go i H ∧ ∃ N : L2.St → Hp → Prop, (∀ σ' H', N σ' H' → ∃ m', m' < m ∧ W (i + 1) m' σ' H') ∧ ∀ x H', (IteT K a).yld i H x H' → g x σ H' fun σ2 H2 => tb { D with nx := N, ct := N, bk := D.nx } σ2 H2) := by
  refine ⟨fun i m σ H => m = xs.length - i ∧ i ≤ xs.length ∧ Pv i σ H, ⟨xs.length, by simp, Nat.zero_le _, h0⟩, ?_⟩
  rintro i m σ H ⟨rfl, hi, p⟩
  have q := hl i σ H hi p
  by_cases hlt : i < xs.length
  · refine .inr ⟨⟨xs, xs[i], q, by simp [hlt]⟩, Pv (i + 1), fun σ' H' p' => ⟨xs.length - (i + 1), by omega, rfl, hlt, p'⟩, fun x H' y => ?_⟩
    obtain ⟨T, z, rfl, hT, rfl, hz⟩ := y
    exact hs i z σ H T (hz xs q) p hT
  · have e : i = xs.length := by omega
    subst e
    exact .inl ⟨⟨xs, q, Nat.le_refl _⟩, hd σ H p⟩
end Kk

/-! a set made of a list of texts -/
namespace Kk
open PySem PySem.Spec PyProof.Rows L2
section
variable {prog : Program} {w : World} {A : Around} {R : Result → Shared → Prop} {I : Addr} {fp wr : List Addr} {G : Array GenState → Array GenState → Prop} {n : Nat} {P : Nat → Value → Prop} {St : Nat → Shared → Prop}
/-- at a: the set of the first i texts -/
def SetUp (prog : Program) (w : World) (h : Heap) (a : Addr) (xs : List Str) (i : Nat) : Prop := ∃ c, (c ≤ i ∧ ((xs.take i).Nodup → c = i)) ∧ h.SetOf (mixKind prog w) a (fun k => (xs.take i).any fun x => decide (k = Sum.inr x)) c
theorem SetUp.move {h h' : Heap} {a : Addr} {xs : List Str} {i : Nat} (u : SetUp prog w h a xs i) (k : ∀ o, h.get? a = some o → h'.get? a = some o) : SetUp prog w h' a xs i := by
  obtain ⟨c, hc, z⟩ := u
  exact ⟨c, hc, setOf_at z k⟩
theorem take_any {xs : List Str} {i : Nat} {x : Str} (hx : xs[i]? = some x) (k : Key) : ((xs.take (i + 1)).any fun y => decide (k = Sum.inr y)) = (((xs.take i).any fun y => decide (k = Sum.inr y)) || decide (k = Sum.inr x)) := by
  rw [List.take_add_one, hx, List.any_append]
  simp
theorem update_texts (W : WalksS prog w A.in1 I fp wr G n P St) (S : Addr) (hSf : S ∉ fp) (xs : List Str) (hl : xs.length = n) (hn : n + 1 < scanBound)
    (hv : ∀ i v, P i v → ∃ x t, xs[i]? = some x ∧ v = .str x t) : ∀ (m i : Nat) (s : Shared), n - i = m → i ≤ n → St i s → SetUp prog w s.heap S xs i →
      (∀ s', Moved (S :: wr) G s s' → SetUp prog w s'.heap S xs n → R (.ok (.ret .none)) s') → codeAny (model prog w) A (.builtin "set.update.loop" ⟨[.ref S, .ref I], []⟩) R s := by
  have out : S ∉ wr := fun h => hSf (W.sub _ h)
  have more : ∀ b ∈ wr, b ∈ S :: wr := fun b hb => List.mem_cons_of_mem _ hb
  intro m
  induction m with
  | zero =>
    intro i s hm hi st U q
    obtain rfl : i = n := by omega
    refine codeAny_builtin PyProof.Rows.F.entry_set_update_loop ?_
    rw [Around.under_plainId PyProof.Rows.F.plain_set_update_loop _]
    show wpAny _ A.in1 (pyNext (.ref I) >>= _) _ _ s
    exact wpAny_bind (W.done s _ _ st fun s' hm' => wpAny_pure (q s' (hm'.mono more) (U.move fun o => hm'.heap S o out)))
  | succ m ih =>
    intro i s hm hi st U q
    have lt : i < n := by omega
    refine codeAny_builtin PyProof.Rows.F.entry_set_update_loop ?_
    rw [Around.under_plainId PyProof.Rows.F.plain_set_update_loop _]
    show wpAny _ A.in1 (pyNext (.ref I) >>= _) _ _ s
    refine wpAny_bind (W.item i s _ _ lt st fun v s' hP st' hm' => ?_)
    obtain ⟨x, t, hx, rfl⟩ := hv i v hP
    obtain ⟨c, hc, U'⟩ := U.move (h' := s'.heap) fun o => hm'.heap S o out
    show wpAny _ A.in1 (holding [Value.str x t] (setAdd S (.str x t)) >>= _) _ _ s'
    unfold setAdd
    refine wpAny_bind (wpAny_holding (wpAny_holding (wpAny_bind ((mixKind prog w).pyHash (k := Sum.inr x) (mixKind_str _ _ _ _) ?_))))
    refine wpAny_setAddHashed_of (knd := mixKind prog w) (s := { s' with toks := s'.toks + 1 }) (mixKind_str _ _ _ _) rfl U' (by have := hc.1; omega) fun h' sb U2 => ?_
    refine wpAny_pure ⟨plainId_quiet PyProof.Rows.F.plain_set_update_loop _, ih (i + 1) _ (by omega) lt (W.frame _ s' _ _ st' (Nat.le_succ _) fun b hb o e => (sb.2 b fun z => hSf (z ▸ hb)).trans e) ?_ fun s'' hm2 U3 => ?_⟩
    · have e : (fun k : Key => (xs.take (i + 1)).any fun y => decide (k = Sum.inr y)) = fun k => (((xs.take i).any fun y => decide (k = Sum.inr y)) || decide (k = Sum.inr x)) := funext (take_any hx)
      refine ⟨_, ⟨?_, fun nd => ?_⟩, by rw [e]; exact U2⟩
      · have := hc.1
        split <;> omega
      · have e9 : xs.take (i + 1) = xs.take i ++ [x] := by rw [List.take_add_one, hx]; rfl
        rw [e9] at nd
        have nd2 := List.nodup_append.mp nd
        have no : ((xs.take i).any fun y => decide ((Sum.inr x : Key) = Sum.inr y)) = false := by
          rw [List.any_eq_false]
          intro y hy q
          have q2 := of_decide_eq_true q
          exact nd2.2.2 y hy x (List.mem_singleton.mpr rfl) (Sum.inr.inj q2).symm
        rw [no, if_neg (by decide), hc.2 nd2.1]
    · exact q s'' (Moved.trans W.gtrans ((hm'.mono more).then_heap (Nat.le_succ _) fun b o hb e => (sb.2 b fun z => hb (by rw [z]; exact List.mem_cons_self)).trans e) hm2) U3
end
section
variable {prog : Program} {w : World} {A : Around} {E : Value → Shared → Prop} {s : Shared}
abbrev setOb (led : Bool) : Obj := { cls := .type "set", dict := none, data := .set #[] 0 (.fresh 0 0 led) }
set_option maxHeartbeats 3200000 in
theorem call_set_texts {l : Addr} {items : Array Value} {xs : List Str} {Q : Value → Shared → Prop} (hh : A.handled = none) (hl : s.heap.IsList l items) (hi : StrsAre items.toList xs) (hb : xs.length + 1 < scanBound)
    (h : ∀ (h' : Heap) (tk : Nat), SetUp prog w h' s.heap.objs.size xs xs.length → (∀ b o, s.heap.get? b = some o → h'.get? b = some o) → Q (.ref s.heap.objs.size) { s with heap := h', toks := tk }) :
    wpAny (model prog w) A (call (.type "set") [.ref l]) Q E s := by
  obtain ⟨c, tl, hmro⟩ := PySem.F.called_set.mro
  have hmade := PySem.F.called_set.made
  have hsub := PySem.F.called_set.sub
  have h1 := PySem.F.called_set.notType
  have h2 := PySem.F.called_set.canCreate
  have hct := PySem.F.typeCall_set_1 (.ref l)
  have hlen : items.size = xs.length := by rw [← Array.length_toList, StrsAre.len_eq hi]
  refine wpAny_call (codeAny_of_tree (wpAny_pure ⟨Code.quiet_builtin _ (by decide +kernel), codeAny_builtin PySem.F.entry_type_call ?_⟩))
  rw [Around.under_plain (weight_type_call_type "set" [.ref l] []) rfl]
  repeat (any_goals (first | assumption | wp_step))
  refine codeAny_mono (code_set_new_1 (.ref l) (E := E) (Q₁ := fun obj s₁ => ∃ led : Bool, obj = .ref s.heap.objs.size ∧ s₁ = { s with heap := s.heap.push { cls := .type "set", dict := none, data := .set #[] 0 (.fresh 0 0 led) } }) fun led => ⟨led, rfl, rfl⟩) fun r s₁ hr => ?_
  cases r with
  | error e => exact hr
  | ok fl =>
    cases fl with
    | next => exact hr.elim
    | brk => exact hr.elim
    | cont => exact hr.elim
    | ret obj =>
      obtain ⟨led, rfl, rfl⟩ := hr
      have hS : (s.heap.push (setOb led)).get? s.heap.objs.size = some (setOb led) := Heap.get?_push_size _ rfl
      have hT : Shared.TypeIs { s with heap := s.heap.push (setOb led) } (.ref s.heap.objs.size) "set" := ⟨_, hS, rfl⟩
      have hli := PySem.F.called_set.init.lookup
      have hbi := PySem.F.called_set.init.bind (.ref s.heap.objs.size)
      repeat (any_goals (first | assumption | wp_step))
      refine codeAny_mono (codeAny_call_builtin (R := wants (fun r s₂ => r = .none ∧ ∃ h' tk, s₂ = { s with heap := h', toks := tk } ∧ SetUp prog w h' s.heap.objs.size xs xs.length ∧ (∀ b o, s.heap.get? b = some o → h'.get? b = some o)) E)
        PySem.F.called_set.init.plain PySem.F.entry_set_init (check_set_init_1 hT ?_)) fun r₂ s₂ hr₂ => ?_
      · obtain ⟨ol, hol, hcl, nl, hdl⟩ := hl
        obtain ⟨ocls, odict, odata, oslots⟩ := ol
        simp only at hcl hdl
        subst hcl; subst hdl
        have hlS : l < s.heap.objs.size := Heap.lt_size hol
        have hol' := Heap.get?_push_of_some (h := s.heap) (setOb led) hol
        have hsls := PySem.F.sub_list_set
        have hslf := PySem.F.sub_list_frozenset
        have hne : (Value.type "list" == Value.type "dict") = false := by decide
        have hl1 : (s.heap.push (setOb led)).IsList l items := ⟨_, hol', rfl, nl, rfl⟩
        unfold Builtin.«set.__init__» noKeywords Builtin.Frozenset.updateFrom
        generalize hPI : pyIter = PI
        wp_walk
        subst hPI
        refine wpAny_pyIter_list (s := { s with heap := s.heap.push (setOb led) }) hl1 ?_
        refine wpAny_bind (wpAny_runValue ?_)
        have hneI : l ≠ (s.heap.push (setOb led)).objs.size := by rw [Heap.size_push]; exact Nat.ne_of_lt (Nat.lt_succ_of_lt hlS)
        have hSf : s.heap.objs.size ∉ [(s.heap.push (setOb led)).objs.size, l] := by
          rw [Heap.size_push]
          intro hm
          rcases List.mem_cons.mp hm with z | z
          · exact Nat.ne_of_lt (Nat.lt_succ_self _) z
          · exact Nat.ne_of_gt hlS (List.mem_singleton.mp z)
        have hval : ∀ (i : Nat) (v : Value), items[i]? = some v → ∃ x t, xs[i]? = some x ∧ v = .str x t := fun i v hv => by
          have hv' : items.toList[i]? = some v := by rw [Array.getElem?_toList]; exact hv
          obtain ⟨t, e⟩ := SS.strs_at hi i v hv'
          have lt : i < xs.length := by
            have := (List.getElem?_eq_some_iff.mp hv').1
            rw [Array.length_toList, hlen] at this; exact this
          exact ⟨xs[i], t, List.getElem?_eq_getElem lt, by rw [e, List.getD_eq_getElem?_getD, List.getElem?_eq_getElem lt]; rfl⟩
        have hS2 := Heap.get?_push_of_some (h := s.heap.push (setOb led)) { cls := .type "list_iterator", data := .fields #[.ref l, .int 0 0] } hS
        refine update_texts ((Walks.list (by simp [hh]) _ l hneI items).toS) s.heap.objs.size hSf xs hlen.symm (by omega) hval (items.size - 0) 0 _ rfl (Nat.zero_le _) ⟨⟨_, Heap.get?_push_size _ rfl, rfl, rfl⟩, hl1.push _⟩ ⟨0, ⟨Nat.le_refl _, fun _ => rfl⟩, ?_⟩ fun s' hm U => ?_
        · exact ⟨_, #[], 0, _, hS2, ⟨rfl, rfl, rfl⟩, rfl, (fun e he => by simp at he), (fun k => by simp), (by decide), (by rfl), rfl⟩
        · obtain ⟨h', g', d', tk', os'⟩ := s'
          obtain rfl : g' = s.gens := hm.gens
          obtain rfl : d' = s.drawn := hm.drawn
          obtain rfl : os' = s.os := hm.os
          refine wpAny_pure (wpAny_pure ⟨rfl, h', tk', rfl, by rw [← hlen]; exact U, fun b o e => ?_⟩)
          have hb' := Heap.lt_size e
          refine hm.heap b o (fun z => ?_) (Heap.get?_push_of_some _ (Heap.get?_push_of_some _ e))
          rw [Heap.size_push] at z
          rcases List.mem_cons.mp z with z | z
          · exact Nat.ne_of_lt hb' z
          · exact Nat.ne_of_lt (Nat.lt_succ_of_lt hb') (List.mem_singleton.mp z)
      · cases r₂ with
        | error e => exact hr₂
        | ok fl₂ =>
          cases fl₂ with
          | ret r =>
            obtain ⟨rfl, h', tk, rfl, U, hk'⟩ := hr₂
            repeat (any_goals (first | assumption | wp_step))
            exact h _ _ U hk'
          | next => exact hr₂.elim
          | brk => exact hr₂.elim
          | cont => exact hr₂.elim
end
/-- set(xs), xs a list of texts; how many there are where none stands twice -/
def rSetTxN (K : PySem.W.Frag) (P : Program) (w : World) : List V → Hp → VK → Prop := fun vs H Q => ∃ (l : Addr) (xs : List Str), vs = [.ref l] ∧ SqL K H l (xs.map V.str) ∧ xs.length ≤ 4000 ∧
  ∀ a c, H a = none → (xs.Nodup → c = xs.length) → Q (.ref a) (upd H a (SetK P w a (fun k => xs.any fun x => decide (k = Sum.inr x)) c))
theorem call_setTxN {X : Cx} (hc : X.calm = true) : CallR X (.type "set") (rSetTxN X.K X.prog X.w) := by
  intro pins s σ H vs us Q I r h
  obtain ⟨l, xs, rfl, hl, hn, q⟩ := h
  rw [Vals.ref1 r]
  obtain ⟨its, rv, pl, hz⟩ := I.list hl
  have fresh : H s.heap.objs.size = none := I.hok.fresh (Nat.le_refl _)
  refine call_set_texts (xs := xs) (I.ok.hd hc) pl.isList (by simpa using Vals.strs rv) (by unfold scanBound; omega) fun h' tk U k => ?_
  obtain ⟨c, hcn, U⟩ := U
  rw [List.take_length] at U hcn
  exact ⟨.ref s.heap.objs.size, _, I.laid (t' := tk) k (Nat.le_refl _) (setK_new U), rfl, q _ c fresh hcn.2⟩
/-- set(xs), xs a list of texts -/
def rSetTx (K : PySem.W.Frag) (P : Program) (w : World) : List V → Hp → VK → Prop := fun vs H Q => ∃ (l : Addr) (xs : List Str), vs = [.ref l] ∧ SqL K H l (xs.map V.str) ∧ xs.length ≤ 4000 ∧
  ∀ a c, H a = none → Q (.ref a) (upd H a (SetK P w a (fun k => xs.any fun x => decide (k = Sum.inr x)) c))
theorem call_setTx {X : Cx} (hc : X.calm = true) : CallR X (.type "set") (rSetTx X.K X.prog X.w) := by
  intro pins s σ H vs us Q I r h
  obtain ⟨l, xs, e, hl, hn, q⟩ := h
  exact call_setTxN hc pins s σ H vs us Q I r ⟨l, xs, e, hl, hn, fun a c na _ => q a c na⟩
end Kk

set_option maxHeartbeats 2000000
/-! tuples whose object is known to have no dict of its own: their methods can be called -/
namespace Kk
open PySem PySem.Spec PyProof.Rows L2
def TupF (H : Hp) (a : Addr) (xs : List V) : Prop := ∃ o, H a = some (.frz o (.tup xs)) ∧ o.dict = none
theorem TupF.sq {K : PySem.W.Frag} {H : Hp} {a : Addr} {xs : List V} (h : TupF H a xs) : SqT K H a xs := by
  obtain ⟨o, h, _⟩ := h
  exact .inl (.inr ⟨o, h⟩)
theorem TupF.same {H H' : Hp} {a : Addr} {xs : List V} (h : TupF H a xs) (k : Same H H') : TupF H' a xs := by
  obtain ⟨o, h, d⟩ := h
  exact ⟨o, k _ _ h, d⟩
theorem TupF.keep {p g : Addr} {H H' : Hp} {a : Addr} {xs : List V} (h : TupF H a xs) (k : Keep p g H H') (h1 : a ≠ p) (h2 : a ≠ g) : TupF H' a xs := by
  obtain ⟨o, h, d⟩ := h
  exact ⟨o, k _ _ h h1 h2, d⟩
theorem TupF.ne_lst {H : Hp} {a b : Addr} {xs ys : List V} (h : TupF H a xs) (g : H b = some (.lst ys)) : a ≠ b := by
  obtain ⟨o, h, _⟩ := h
  exact ne_of h g (by intro q; cases q)
theorem TupF.new {H : Hp} {o : Obj} {a : Addr} {xs : List V} (d : o.dict = none) : TupF (upd H a (.frz o (.tup xs))) a xs := ⟨o, upd_same, d⟩
section
variable {X : Cx}
/-- tuple(xs), xs a list -/
theorem call_tupleF : CallR X (.type "tuple") (fun xs H Q => ∃ p ys, xs = [.ref p] ∧ SqL X.K H p ys ∧ ∀ l o, H l = none → o.dict = none → Q (.ref l) (upd H l (.frz o (.tup ys)))) := by
  intro pins s σ H xs us Q I r h
  obtain ⟨p, ys, rfl, hq, q⟩ := h
  rw [Vals.ref1 r]
  obtain ⟨its, r', pl, hz⟩ := I.list hq
  have hlen := r'.length
  refine call_tuple_list pl.isList (fun h' kp => ?_) (by simp only [List.size_toArray] <;> omega)
  have I1 : Inv X pins σ H { s with heap := h' } := I.kept (t' := s.toks) kp
  exact ⟨.ref h'.objs.size, _, I1.laid (t' := s.toks) (o := .frz { cls := .type "tuple", data := .seq its.toArray } (.tup ys)) (fun b o e => Heap.get?_push_of_some _ e) (Nat.le_refl _) ⟨Heap.get?_push_size _ rfl, hz, its, r', IsTup.new _ _⟩, rfl, q _ _ (I1.hok.fresh (Nat.le_refl _)) rfl⟩
/-- a written tuple -/
def tTupF (t : TA) : TE := fun σ H Q => t σ H fun xs H1 => xs.length ≤ sizeLine ∧ ∀ p o, H1 p = none → o.dict = none → Q (.ref p) (upd H1 p (.frz o (.tup xs)))
theorem pe_tupF {es : List Expr} {t : TA} {x1} {pos : Pos} (h : PA X es t) : PE X (.Tuple es x1 pos) (tTupF t) := by
  refine ⟨fun pins s σ H Q I hq => ?_⟩
  refine wpAny_Tuple_spliced (thn (h.run pos pins s σ H _ I hq) fun us s1 ⟨xs, H1, I1, r, z, q⟩ => ⟨by rw [← r.length]; exact z, ?_⟩)
  exact ⟨.ref s1.heap.objs.size, _, I1.laid (t' := s1.toks) (o := .frz { cls := .type "tuple", data := .seq us.toArray } (.tup xs)) (fun b u e => Heap.get?_push_of_some _ e) (Nat.le_refl _) ⟨Heap.get?_push_size _ rfl, z, us, r, ⟨_, Heap.get?_push_size _ rfl, rfl, _, rfl⟩⟩, rfl, q _ _ (I1.hok.fresh (Nat.le_refl _)) rfl⟩
end
section
variable {prog : Program} {w : World} {A : Around} {E : Value → Shared → Prop} {s : Shared}
open HT in
/-- the whole of a tuple is the tuple itself -/
theorem tup_whole {t sl : Addr} {items : Array Value} {vl vu : Value} {lo hi : Option Int} {Q : Value → Shared → Prop} (ht : IsTup s.heap t items) (hs : s.heap.IsSliceOf sl vl vu .none) (pl : IsPart vl lo) (pu : IsPart vu hi)
    (hw : sIx items.size 0 lo = 0 ∧ sIx items.size items.size hi = items.size) (h : Q (.ref t) s) : wpAny (model prog w) A (getItem (.ref t) (.ref sl)) Q E s := by
  obtain ⟨os, hos, hcs, hds⟩ := id hs
  have hTs : s.TypeIs (.ref sl) "slice" := ⟨os, hos, hcs⟩
  obtain ⟨ot, hot, hct, nt, hdt⟩ := id ht
  have hTt : s.TypeIs (.ref t) "tuple" := ⟨ot, hot, hct⟩
  unfold getItem
  try with_reducible refine wpAny_holding ?_
  first | refine wpAny_bind (wpAny_pure ?_) | skip
  refine wpAny_bind (wpAny_sequenceKey ht.typeIs (by decide) ?_)
  refine wpAny_bind (wpAny_callSpecial?_slot (name := Str.ofString "__getitem__") ht.typeIs PyProof.Rows.slot_tuple_getitem
    (wpAny_call_entry PyProof.Rows.slot_tuple_getitem ht.typeIs entry_tuple_getitem ?_ (args_tuple_getitem _ _)))
  show wpAny _ _ (Builtin.Tuple.tupleItemsOf (.ref t) >>= _) _ _ s
  refine wpAny_bind (tupleItemsOf_ ht (wpAny_bind (wpAny_typeOf hTs ?_)))
  rw [if_pos (by decide)]
  refine wpAny_bind (sliceApplied_gen hs pl pu ?_)
  have yes : (((sIx items.size 0 lo : Nat) : Int) == 0 && (1 : Int) == 1 && (sIx items.size items.size hi - sIx items.size 0 lo) == items.size) = true := by
    rw [hw.1, hw.2]; simp
  show wpAny _ _ (if (((sIx items.size 0 lo : Nat) : Int) == 0 && (1 : Int) == 1 && (sIx items.size items.size hi - sIx items.size 0 lo) == items.size) = true then _ else _) _ _ s
  rw [if_pos yes]
  unfold Builtin.Tuple.tupleIsExact
  refine wpAny_bind (wpAny_bind (wpAny_typeOf hTt (wpAny_pure ?_)))
  rw [if_pos (by decide)]
  exact wpAny_bind (wpAny_rule (wpAny_pure ⟨_, rfl, wpAny_pure h⟩))
end
section
variable {X : Cx}
/-- t[lo:hi]: t itself where that is the whole -/
theorem sl_tupF : SlR X (fun x lo hi H Q => ∃ a xs, x = .ref a ∧ SqT X.K H a xs ∧ ((HT.sIx xs.length 0 lo = 0 ∧ HT.sIx xs.length xs.length hi = xs.length) → Q (.ref a) H) ∧
    (¬ (HT.sIx xs.length 0 lo = 0 ∧ HT.sIx xs.length xs.length hi = xs.length) → ∀ p o, H p = none → o.dict = none → Q (.ref p) (upd H p (.frz o (.tup (cutV xs lo hi)))))) := by
  intro pins s σ H x v vl vu lo hi sl Q I rx hs pl pu h
  obtain ⟨a, xs, rfl, hx, q1, q2⟩ := h
  cases rx
  obtain ⟨its, r, ht, hz⟩ := I.tuple hx
  have hlen : its.toArray.size = xs.length := by rw [List.size_toArray]; exact r.length.symm
  refine ⟨"tuple", _, PyProof.Rows.slot_tuple_getitem.lookup, ht.typeIs, ?_⟩
  by_cases hw : HT.sIx xs.length 0 lo = 0 ∧ HT.sIx xs.length xs.length hi = xs.length
  · exact tup_whole ht hs pl pu (by rw [hlen]; exact hw) ⟨.ref a, H, I, rfl, q1 hw⟩
  · refine HT.getItem_tuple_cut ht hs pl pu (by rw [hlen]; exact hw) ?_ (by rw [hlen]; exact hz)
    rw [hlen]
    refine ⟨.ref s.heap.objs.size, _, I.laid (t' := s.toks) (o := .frz { cls := .type "tuple", data := .seq ((its.drop (HT.sIx xs.length 0 lo)).take (HT.sIx xs.length xs.length hi - HT.sIx xs.length 0 lo)).toArray } (.tup (cutV xs lo hi)))
      (fun b ob q => Heap.get?_push_of_some _ q) (Nat.le_refl _) ⟨Heap.get?_push_size _ rfl, Nat.le_trans (cutV_length xs lo hi) hz, _, (r.drop (HT.sIx xs.length 0 lo)).take (HT.sIx xs.length xs.length hi - HT.sIx xs.length 0 lo), IsTup.new _ _⟩, rfl, q2 hw _ _ (I.hok.fresh (Nat.le_refl _)) rfl⟩
/-- t.m(e, ..), t such a tuple -/
def tTM (r : V → List V → Hp → VK → Prop) (to : TE) (t : TA) : TE := fun σ H Q => to σ H fun x H1 => (∃ a xs, x = .ref a ∧ TupF H1 a xs) ∧ t σ H1 fun xs H2 => r x xs H2 Q
theorem pe_tm {o e : Expr} {es : List Expr} {to : TE} {t : TA} {name : Str} {apos cpos : Pos} {id : String} {r : V → List V → Hp → VK → Prop} (slot : Slot "tuple" name id) (hty : typeOf (.builtin id) = pure (.type "method_descriptor")) (hm : MtR X id r) (ho : PE X o to) (ha : PA X (e :: es) t)
    (hbase : attributeBase o name X.env (eval o X.env) = eval o X.env := by rfl)
    (hfew : ((backTo cpos (starEach (e :: es) X.env)).all (fun x => !x.1) && (backToKw cpos (keywordEach [] X.env)).all (fun x => x.1.isSome)
      && decide ((e :: es).length + ([] : List Keyword).length + (if ([] : List Keyword).isEmpty then 0 else 1) < 30)) = true := by rfl)
    (hline : (apos.endLine == cpos.line) = true := by rfl) (hs : starEach (e :: es) X.env = (false, eval e X.env) :: starEach es X.env := by rfl) (hplain : (backTo cpos (starEach es X.env)).any (·.1) = false := by rfl) :
    PE X (.Call (.Attribute o name apos) (e :: es) [] cpos) (tTM r to t) := by
  refine ⟨fun pins s σ H Q I h => ?_⟩
  refine wpAny_Call_method_late hbase hfew hline rfl (thn (ho.run pins s σ H _ I h) fun v s1 ⟨x, H1, I1, r1, ty, q1⟩ => ?_)
  obtain ⟨a, xs, rfl, ob, hob, hd⟩ := ty
  obtain rfl : v = Value.ref a := r1
  have ok : ObjOk X.prog X.w H1 s1.heap a (.frz ob (.tup xs)) := I1.hok a _ hob
  obtain ⟨g1, _, its, rv, o2, g2, c2, d2⟩ := ok
  obtain rfl : ob = o2 := Option.some.inj (g1.symm.trans g2)
  refine ⟨"tuple", id, PySem.F.plainAttrs_tuple, slot, hty, ⟨ob, g1, c2⟩, fun b eb => ?_, ?_⟩
  · cases eb
    exact ⟨ob, g1, hd⟩
  have hA := ha.run cpos pins s1 σ H1 _ I1 q1
  rw [hs] at hA ⊢
  refine Calls.callWith_builtin (by show (false || (backTo cpos (starEach es X.env)).any (·.1)) = false; rw [hplain] <;> rfl) (Calls.evalArgs_plain ?_)
  exact thn hA fun us s2 ⟨vs, H2, I2, r2, q2⟩ => hm pins s2 σ H2 (.ref a) vs (.ref a) us Q I2 rfl r2 q2
/-- t.count(z), t a tuple of texts -/
theorem mt_tcount : MtR X "tuple.count" (fun x xs H Q => ∃ p, ∃ ys : List Str, ∃ z, x = .ref p ∧ xs = [.str z] ∧ SqT X.K H p (ys.map V.str) ∧ Q (.int ((ys.countP fun y => y == z : Nat) : Int)) H) := by
  intro pins s σ H x xs v us Q I rx rs h
  obtain ⟨p, ys, z, rfl, rfl, hq, q⟩ := h
  cases rx
  obtain ⟨u, rfl, t, rfl⟩ := vals1 rs
  obtain ⟨its, r, pl, hz⟩ := I.tuple hq
  obtain ⟨⟨cls, dd, dt, sl⟩, ho, hc, n, hd⟩ := pl
  simp only at hc hd
  subst hc
  subst hd
  have ec : its.countP (eqU (.str z)) = ys.countP fun y => y == z := by
    clear hq q hz ho
    induction ys generalizing its with
    | nil => cases r; rfl
    | cons y ys ih =>
      cases r with
      | cons r1 r2 =>
        obtain ⟨t', rfl⟩ := r1
        rw [List.countP_cons, List.countP_cons, ih _ r2]
        rfl
  refine call_meets PySem.F.slot_tuple_count ⟨_, ho, rfl⟩ PySem.F.entry_tuple_count (PySem.F.args_tuple_count_2 _ _) (SeqAt.tuple_countAt p its.toArray n dd sl (.str z t) (eqU (.str z)))
    ⟨ho, fun w hw => mem_eqAt (x := .str z) ⟨t, rfl⟩ rfl r (flat_strs ys) w (by simpa using hw), ?_⟩
  show EP X pins σ Q (.int ((its.countP (eqU (.str z)) : Nat) : Int) s.toks) { s with toks := s.toks + 1 }
  rw [ec]
  exact ⟨.int _, H, I.tok _, ⟨_, rfl⟩, q⟩
end
end Kk

set_option maxHeartbeats 2000000
namespace Kk
open PySem PySem.Spec PyProof.Rows L2 Wd
theorem for_enumL {K : PySem.W.Frag} {a : Addr} {xs : List V} {g : TG} {tb : TS} {D : Ends} {σ : L2.St} {H : Hp} (Pv : Nat → L2.St → Hp → Prop) (h0 : Pv 0 σ H) (hl : ∀ i σ H, i ≤ xs.length → Pv i σ H → SqL K H a xs)
    (hs : ∀ i x σ H T, xs[i]? = some x → Pv i σ H → H T = none → g (.ref T) σ (upd H T (.tup [.int (i : Nat), x])) fun σ2 H2 => tb { D with nx := Pv (i + 1), ct := Pv (i + 1), bk := D.nx } σ2 H2) (hd : ∀ σ H, Pv xs.length σ H → D.nx σ H) :
    ∃ W : Nat → Nat → L2.St → Hp → Prop, (∃ m, W 0 m σ H) ∧ ∀ i m σ H, W i m σ H →
      ((Ite K a).stop i H ∧ D.nx σ H) ∨ ((Ite K a).go i H ∧ ∃ N : L2.St → Hp → Prop, (∀ σ' H', N σ' H' → ∃ m', m' < m ∧ W (i + 1) m' σ' H') ∧ ∀ x H', (Ite K a).yld i H x H' → g x σ H' fun σ2 H2 => tb { D with nx := N, ct := N, bk := D.nx } σ2 H2) := by
  refine ⟨fun i m σ H => m = xs.length - i ∧ i ≤ xs.length ∧ Pv i σ H, ⟨xs.length, by simp, Nat.zero_le _, h0⟩, ?_⟩
  rintro i m σ H ⟨rfl, hi, p⟩
  have q := hl i σ H hi p
  by_cases hlt : i < xs.length
  · refine .inr ⟨⟨xs, xs[i], q, by simp [hlt]⟩, Pv (i + 1), fun σ' H' p' => ⟨xs.length - (i + 1), by omega, rfl, hlt, p'⟩, fun x H' y => ?_⟩
    obtain ⟨T, z, rfl, hT, rfl, hz⟩ := y
    exact hs i z σ H T (hz xs q) p hT
  · have e : i = xs.length := by omega
    subst e
    exact .inl ⟨⟨xs, q, Nat.le_refl _⟩, hd σ H p⟩
/-! ### numbers of parts -/
def nv (n : Nat) : V := .int (n : Nat)
def optV : Option Nat → V
  | none => .non
  | some i => .int (i : Nat)
def spMisfit (K : PySem.W.Frag) : Sp := fun vs H Q _ => ∃ (a : Addr) (ns : List Nat), vs = [.ref a] ∧ SqL K H a (ns.map nv) ∧ ns.length ≤ 200000 ∧ ∀ H', Same H H' → Q (optV (misF ns 0 1)) H'
theorem misF_drop {ns : List Nat} {i n : Nat} (h : ns[i]? = some n) (at' c : Nat) : misF (ns.drop i) at' c = if c = 0 then some at' else misF (ns.drop (i + 1)) (at' + 1) (c + n - 1) := by
  have hi : i < ns.length := by
    obtain ⟨h1, _⟩ := List.getElem?_eq_some_iff.mp h
    exact h1
  rw [List.drop_eq_getElem_cons hi]
  have : ns[i] = n := by
    obtain ⟨_, h2⟩ := List.getElem?_eq_some_iff.mp h
    exact h2
  rw [this]
  rfl
theorem mapN_get {ns : List Nat} {i : Nat} {x : V} (h : (ns.map nv)[i]? = some x) : ∃ n, ns[i]? = some n ∧ x = nv n := by
  rw [List.getElem?_map] at h
  cases hn : ns[i]? with
  | none => rw [hn] at h; cases h
  | some n => rw [hn] at h; exact ⟨n, rfl, (Option.some.inj h).symm⟩
theorem intz (c : Nat) : decide (V.int ((c : Nat) : Int) = V.int 0) = decide (c = 0) := by
  by_cases h : c = 0
  · subst h; exact (decide_eq_true rfl).trans (decide_eq_true rfl).symm
  · rw [decide_eq_false h]
    exact decide_eq_false fun e => h (by have := V.int.inj e; omega)
def endsV (n : Nat) (E : Nat → Nat) : List V := (List.range n).map fun i => V.int (E i : Nat)
theorem endsV_len (n : Nat) (E : Nat → Nat) : (endsV n E).length = n := by simp [endsV]
theorem endsV_get {n : Nat} {E : Nat → Nat} {i : Nat} (h : i < n) : (endsV n E)[i]? = some (.int (E i : Nat)) := by simp [endsV, h]
def spEndsBy (K : PySem.W.Frag) : Sp := fun vs H Q _ => ∃ (a : Addr) (ns : List Nat) (E : Nat → Nat), vs = [.ref a] ∧ SqL K H a (ns.map nv) ∧ EndsN ns E ∧ ns.length ≤ 200000 ∧
  ∀ H' q, Same H H' → H q = none → TupF H' q (endsV ns.length E) → Q (.ref q) H'
end Kk

set_option maxHeartbeats 2000000
/-! what a number is, of any thing -/
namespace Kk
open PySem PySem.Spec PyProof.Rows L2
def isNumV : V → Bool
  | .int i => decide (0 ≤ i)
  | _ => false
def isIntV : V → Bool
  | .int _ => true
  | _ => false
theorem num_of_int {x : V} (h : isIntV x = false) : isNumV x = false := by
  cases x <;> first | rfl | exact absurd h (by simp [isIntV])
theorem isNum_int {i : Int} (h : 0 ≤ i) : isNumV (.int i) = true := by
  show decide (0 ≤ i) = true
  exact decide_eq_true h
/-- what isinstance tells of a thing: whether it is an int, a bool -/
structure NumT (K : PySem.W.Frag) (H : Hp) (x : V) : Prop where
  ex : ∃ (t : Value) (bi bb : Bool), TyX K H x t ∧ PySem.W.kitOne K t (.type "int") = some bi ∧ PySem.W.kitOne K t (.type "bool") = some bb ∧ ((bi = true ∧ bb = false ∧ ∃ i, x = .int i) ∨ ((bi = false ∨ bb = true) ∧ isIntV x = false))
section
variable {K : PySem.W.Frag} {H : Hp}
theorem kitII : kitB "int" "int" = some true := by decide +kernel
theorem kitIB : kitB "int" "bool" = some false := by decide +kernel
theorem NumT.int (i : Int) : NumT K H (.int i) := ⟨_, true, false, .base (.int i), kit_ty kitII, kit_ty kitIB, .inl ⟨rfl, rfl, i, rfl⟩⟩
theorem NumT.bl (b : Bool) : NumT K H (.bl b) := ⟨_, true, true, .base (.bl b), kit_ty (by decide +kernel), kit_ty (by decide +kernel), .inr ⟨.inr rfl, rfl⟩⟩
theorem NumT.non : NumT K H .non := ⟨_, false, false, .base .non, kit_ty (by decide +kernel), kit_ty (by decide +kernel), .inr ⟨.inl rfl, rfl⟩⟩
theorem NumT.str (z : Str) : NumT K H (.str z) := ⟨_, false, false, .base (.str z), kit_ty (by decide +kernel), kit_ty (by decide +kernel), .inr ⟨.inl rfl, rfl⟩⟩
theorem NumT.lst {a : Addr} {xs : List V} (h : H a = some (.lst xs)) : NumT K H (.ref a) := ⟨_, false, false, .base (.lst h), kit_ty (by decide +kernel), kit_ty (by decide +kernel), .inr ⟨.inl rfl, rfl⟩⟩
theorem NumT.tup {a : Addr} {xs : List V} (h : H a = some (.tup xs)) : NumT K H (.ref a) := ⟨_, false, false, .base (.tup h), kit_ty (by decide +kernel), kit_ty (by decide +kernel), .inr ⟨.inl rfl, rfl⟩⟩
theorem NumT.tupF {a : Addr} {o : Obj} {xs : List V} (h : H a = some (.frz o (.tup xs))) : NumT K H (.ref a) := ⟨_, false, false, .fTuple h, kit_ty (by decide +kernel), kit_ty (by decide +kernel), .inr ⟨.inl rfl, rfl⟩⟩
theorem NumT.dK {a : Addr} {kvs : List (Key × V)} (h : H a = some (.dK kvs)) : NumT K H (.ref a) := ⟨_, false, false, .base (.dK h), kit_ty (by decide +kernel), kit_ty (by decide +kernel), .inr ⟨.inl rfl, rfl⟩⟩
end
/-- of any thing -/
def spNumG (K : PySem.W.Frag) : Sp := fun vs H Q _ => ∃ x : V, vs = [x] ∧ NumT K H x ∧ Q (.bl (isNumV x)) H
abbrev s_is_number : Stmt := (top 2)
theorem sc_is_number : FnScope ["thing"] ["thing"] (defScope s_is_number) := ⟨rfl, rfl, rfl, by decide +kernel, rfl, by decide +kernel, by decide +kernel⟩
theorem c_is_number {P w K mg base} (B : Bt mg) (D : DefAt K mg "is_number" s_is_number) : Cal P w K mg base "is_number" 1 ["thing"] (spNumG K) := by
  refine cal_of D sc_is_number (fun _ _ _ _ _ _ us hl => match us, hl with | [_], _ => rfl) (fun vs H Q E h => ?_) (fun fa cdv A outer st0 H vs Q E hr h => ?_)
  · obtain ⟨i, rfl, _⟩ := h
    rfl
  · obtain ⟨x, rfl, ⟨t, bi, bb, ty, h1, h2, h3⟩, k⟩ := h
    refine ⟨_, (pss_one (ps_ret (pe_and (pe_callB call_isi (by rfl) B.b_isinstance (by decide +kernel) (pa_cons (pv 0) (pa_cons (pe_ty (n := "int") B.b_int (by decide +kernel)) pa_nil))) (pe_and (pe_not (pe_callB call_isi (by rfl) B.b_isinstance (by decide +kernel) (pa_cons (pv 0) (pa_cons (pe_ty (n := "bool") B.b_bool (by decide +kernel)) pa_nil)))) (pe_one (pe_cmpR op_ge (pv 0) pe_int (nomark _))))))), ?_⟩
    refine ⟨_, rfl, _, _, _, _, bi, rfl, .ty _, ty, h1, _, rfl, ?_⟩
    rcases h3 with ⟨rfl, rfl, i, rfl⟩ | ⟨h3, h4⟩
    · refine iteT ⟨_, rfl, _, _, _, _, false, rfl, .ty _, ty, h2, _, rfl, _, rfl, iteT ?_⟩
      exact ⟨_, rfl, _, _, rfl, rfl, k⟩
    · rw [num_of_int h4] at k
      cases bi with
      | false => exact iteF k
      | true =>
        have : bb = true := h3.resolve_left (by simp)
        subst this
        exact iteT ⟨_, rfl, _, _, _, _, true, rfl, .ty _, ty, h2, _, rfl, _, rfl, iteF k⟩
/-- of any thing: whether it is an integer -/
def spIntG (K : PySem.W.Frag) : Sp := fun vs H Q _ => ∃ x : V, vs = [x] ∧ NumT K H x ∧ Q (.bl (isIntV x)) H
abbrev s_lnumber : Stmt := (top 22)
theorem sc_lnumber : FnScope ["_law_thing"] ["_law_thing"] (defScope s_lnumber) := ⟨rfl, rfl, rfl, by decide +kernel, rfl, by decide +kernel, by decide +kernel⟩
theorem c_lnumber {P w K mg base} (B : Bt mg) (D : DefAt K mg "_law_is_number" s_lnumber) : Cal P w K mg base "_law_is_number" 1 ["_law_thing"] (spIntG K) := by
  refine cal_of D sc_lnumber (fun _ _ _ _ _ _ us hl => match us, hl with | [_], _ => rfl) (fun vs H Q E h => ?_) (fun fa cdv A outer st0 H vs Q E hr h => ?_)
  · obtain ⟨i, rfl, _⟩ := h
    rfl
  · obtain ⟨x, rfl, ⟨t, bi, bb, ty, h1, h2, h3⟩, k⟩ := h
    refine ⟨_, (pss_one (ps_ret (pe_and (pe_callB call_isi (by rfl) B.b_isinstance (by decide +kernel) (pa_cons (pv 0) (pa_cons (pe_ty (n := "int") B.b_int (by decide +kernel)) pa_nil))) (pe_one (pe_not (pe_callB call_isi (by rfl) B.b_isinstance (by decide +kernel) (pa_cons (pv 0) (pa_cons (pe_ty (n := "bool") B.b_bool (by decide +kernel)) pa_nil)))))))), ?_⟩
    refine ⟨_, rfl, _, _, _, _, bi, rfl, .ty _, ty, h1, _, rfl, ?_⟩
    rcases h3 with ⟨rfl, rfl, i, rfl⟩ | ⟨h3, h4⟩
    · exact iteT ⟨_, rfl, _, _, _, _, false, rfl, .ty _, ty, h2, _, rfl, k⟩
    · rw [h4] at k
      cases bi with
      | false => exact iteF k
      | true =>
        have : bb = true := h3.resolve_left (by simp)
        subst this
        exact iteT ⟨_, rfl, _, _, _, _, true, rfl, .ty _, ty, h2, _, rfl, k⟩
end Kk

set_option maxHeartbeats 2000000
namespace Kk
open PySem PySem.Spec PyProof.Rows L2
/-! ### comprehensions that keep or change each item by itself -/
section
variable {α : Type} {K : PySem.W.Frag} {a D : Addr} {ws : List α} {f : α → V} {r : α → Option V} {g : TG} {tt : TT} {te : TE} {vs : List Nat} {σ : L2.St} {H : Hp} {Qd : Hp → Prop}
theorem fm_step {w : α} {i : Nat} (hw : ws[i]? = some w) : (ws.take (i + 1)).filterMap r = (ws.take i).filterMap r ++ (match r w with | some y => [y] | none => []) := by
  rw [List.take_add_one, hw, List.filterMap_append]
  cases h : r w with
  | none => simp [h]
  | some y => simp [h]
theorem fm_len (i : Nat) : ((ws.take i).filterMap r).length ≤ ws.length := Nat.le_trans (List.length_filterMap_le _ _) (by rw [List.length_take]; exact Nat.min_le_right _ _)
theorem lc_fmT (hq : SqT K H a (ws.map f)) (nD : H D = none) (hl : ws.length ≤ 100000)
    (hs : ∀ (i : Nat) (w : α) (H' : Hp) (Qy : V → Hp → Prop) (Qn : Hp → Prop), ws[i]? = some w → Same H H' → (∀ y H4, Same H' H4 → r w = some y → Qy y H4) → (∀ H3, Same H' H3 → r w = none → Qn H3) →
      g (f w) (wipe σ vs) H' fun σ2 H2 => wipe σ2 vs = wipe σ vs ∧ tt σ2 H2 fun b H3 => if b = true then te σ2 H3 Qy else Qn H3)
    (hd : ∀ H', Same H H' → H' D = some (.lst (ws.filterMap r)) → Qd H') :
    ∃ W : Nat → Nat → Hp → Prop, (∃ m, W 0 m (upd H D (.lst []))) ∧ ∀ i m H, W i m H →
      ((Itt K a).stop i H ∧ Qd H) ∨ ((Itt K a).go i H ∧ ∃ Nx : Hp → Prop, (∀ H', Nx H' → ∃ m', m' < m ∧ W (i + 1) m' H') ∧ ∀ x H', (Itt K a).yld i H x H' → g x (wipe σ vs) H' fun σ2 H2 => wipe σ2 vs = wipe σ vs ∧ tt σ2 H2 fun b H3 =>
        if b = true then te σ2 H3 fun y H4 => ∃ acc, H4 D = some (.lst acc) ∧ acc.length < sizeLine ∧ Nx (upd H4 D (.lst (acc ++ [y]))) else Nx H3) := by
  have off : ∀ b o, H b = some o → b ≠ D := fun b o hb => ne_of_none hb nD
  refine lc_tup (K := K) (a := a) (xs := ws.map f) (fun i H' => Same H H' ∧ H' D = some (.lst ((ws.take i).filterMap r))) ⟨same_upd nD, upd_same⟩ (fun i H' _ s => SqT.same hq s.1) (fun i x H' hx s => ?_) (fun H' s => ?_)
  · obtain ⟨S1, L1⟩ := s
    obtain ⟨w, hw, rfl⟩ := map_get hx
    refine hs i w H' _ _ hw S1 (fun y H4 S4 hy => ⟨_, S4 _ _ L1, Nat.lt_of_le_of_lt (Nat.le_trans (fm_len i) hl) (by decide), fun b o hb => ?_, ?_⟩) (fun H3 S3 hn => ⟨S1.trans S3, ?_⟩)
    · rw [upd_ne (off b o hb)]
      exact S4 _ _ (S1 _ _ hb)
    · rw [upd_same, fm_step hw, hy]
    · rw [S3 _ _ L1, fm_step hw, hn, List.append_nil]
  · obtain ⟨S1, L1⟩ := s
    rw [List.length_map, List.take_length] at L1
    exact hd H' S1 L1
theorem lc_fmL (hq : SqL K H a (ws.map f)) (nD : H D = none) (hl : ws.length ≤ 100000)
    (hs : ∀ (i : Nat) (w : α) (H' : Hp) (Qy : V → Hp → Prop) (Qn : Hp → Prop), ws[i]? = some w → Same H H' → (∀ y H4, Same H' H4 → r w = some y → Qy y H4) → (∀ H3, Same H' H3 → r w = none → Qn H3) →
      g (f w) (wipe σ vs) H' fun σ2 H2 => wipe σ2 vs = wipe σ vs ∧ tt σ2 H2 fun b H3 => if b = true then te σ2 H3 Qy else Qn H3)
    (hd : ∀ H', Same H H' → H' D = some (.lst (ws.filterMap r)) → Qd H') :
    ∃ W : Nat → Nat → Hp → Prop, (∃ m, W 0 m (upd H D (.lst []))) ∧ ∀ i m H, W i m H →
      ((Itl K a).stop i H ∧ Qd H) ∨ ((Itl K a).go i H ∧ ∃ Nx : Hp → Prop, (∀ H', Nx H' → ∃ m', m' < m ∧ W (i + 1) m' H') ∧ ∀ x H', (Itl K a).yld i H x H' → g x (wipe σ vs) H' fun σ2 H2 => wipe σ2 vs = wipe σ vs ∧ tt σ2 H2 fun b H3 =>
        if b = true then te σ2 H3 fun y H4 => ∃ acc, H4 D = some (.lst acc) ∧ acc.length < sizeLine ∧ Nx (upd H4 D (.lst (acc ++ [y]))) else Nx H3) := by
  have off : ∀ b o, H b = some o → b ≠ D := fun b o hb => ne_of_none hb nD
  refine lc_list (K := K) (a := a) (xs := ws.map f) (fun i H' => Same H H' ∧ H' D = some (.lst ((ws.take i).filterMap r))) ⟨same_upd nD, upd_same⟩ (fun i H' _ s => s.1.seq hq) (fun i x H' hx s => ?_) (fun H' s => ?_)
  · obtain ⟨S1, L1⟩ := s
    obtain ⟨w, hw, rfl⟩ := map_get hx
    refine hs i w H' _ _ hw S1 (fun y H4 S4 hy => ⟨_, S4 _ _ L1, Nat.lt_of_le_of_lt (Nat.le_trans (fm_len i) hl) (by decide), fun b o hb => ?_, ?_⟩) (fun H3 S3 hn => ⟨S1.trans S3, ?_⟩)
    · rw [upd_ne (off b o hb)]
      exact S4 _ _ (S1 _ _ hb)
    · rw [upd_same, fm_step hw, hy]
    · rw [S3 _ _ L1, fm_step hw, hn, List.append_nil]
  · obtain ⟨S1, L1⟩ := s
    rw [List.length_map, List.take_length] at L1
    exact hd H' S1 L1
end
end Kk

set_option maxHeartbeats 2000000
/-! math.comb; xs[i] read for an augmented store; a held def called; a walk over an enumerated list in a comprehension -/
namespace Kk
open PySem PySem.Spec PyProof.Rows L2
section
variable {X : Cx}
def rComb : List V → Hp → VK → Prop := fun vs H Q => ∃ a b : Int, vs = [.int a, .int b] ∧ 0 ≤ a ∧ 0 ≤ b ∧ a ≤ 18000 ∧ Q (.int (PySem.W.mcComb a b)) H
theorem cr_comb : CallR X (.builtin "math.comb") rComb := by
  intro pins s σ H vs us Q I r h
  obtain ⟨a, b, rfl, ha, hb, h2, q⟩ := h
  obtain ⟨t, u, rfl⟩ := Vals.int2 r
  exact PySem.W.mc_comb ha hb (by omega) (.inr h2) fun _ => ⟨.int _, H, I.tok _, ⟨_, rfl⟩, q⟩
/-- xs[i], 0 ≤ i, for an augmented store -/
def rGetL (K : PySem.W.Frag) : V → V → Hp → VK → Prop := fun x y H Q => ∃ p xs v, ∃ i : Nat, x = .ref p ∧ y = .int (i : Nat) ∧ SqL K H p xs ∧ xs[i]? = some v ∧ Q v H
theorem pget_list : PGet X (rGetL X.K) := by
  intro pins s σ H o i ov iv Q I rx ry h
  obtain ⟨p, xs, v, j, rfl, rfl, hq, he, q⟩ := h
  cases rx
  obtain ⟨t, rfl⟩ := ry
  obtain ⟨its, r, pl, hz⟩ := I.list hq
  obtain ⟨w, ew, rw'⟩ := r.get he
  have hl := r.length
  have hn := line63
  have hj : j < its.length := by
    have := (List.getElem?_eq_some_iff.mp ew).1
    simpa using this
  exact wpAny_getItem_list pl.isList (by omega) (by rw [sizeLine_eq] at hz; omega) (by simpa using ew) ⟨v, H, I, rw', q⟩
/-- f(e, ..), f a local name that holds a def -/
theorem pe_hL {k i : Nat} {f : Addr} {sp : Sp} {x : Str} {p pos : Pos} {e : Expr} {es : List Expr} {t : TA} (A : Held X.prog X.w X.K X.mg X.base k f sp) (hr : Room k X.A) (hN : X.N[i]? = some x) (hv : Vis X.env.scope x) (ha : PA X (e :: es) t)
    (hdb : (x == ("__debug__" : Str)) = false := by decide) (hcd : (x == ("__classdict__" : Str)) = false := by decide)
    (he : starEach (e :: es) X.env = (false, eval e X.env) :: starEach es X.env := by rfl) (hpl : (backTo pos (starEach es X.env)).any (·.1) = false := by rfl) : PE X (.Call (.Name x p) (e :: es) [] pos) (tCallL i f sp [] E0 t) := by
  obtain ⟨fd, ps, F, hk, hb⟩ := A.ex
  exact pe_callL F hr hN hv hk hb .nil pass0 ha hdb hcd he hpl
/-- e(..), e some expression that tells a def -/
def tCallE (te : TE) (S : Addr → Sp → Prop) (t : TA) : TE := fun σ H Q => te σ H fun v H1 => ∃ f sp, v = .ref f ∧ S f sp ∧ t σ H1 fun vs H2 => sp vs H2 Q E0
theorem pe_callSX {k : Nat} {S : Addr → Sp → Prop} {fe : Expr} {te : TE} {pos : Pos} {e : Expr} {es : List Expr} {t : TA} (A : ∀ f sp, S f sp → Held X.prog X.w X.K X.mg X.base k f sp) (hr : Room k X.A) (hf : PE X fe te) (ha : PA X (e :: es) t)
    (ht : eval (.Call fe (e :: es) [] pos) X.env = (do callWith pos (← eval fe X.env) [] (backTo pos (starEach (e :: es) X.env)) (backToKw pos (keywordEach [] X.env))) := by rfl)
    (he : starEach (e :: es) X.env = (false, eval e X.env) :: starEach es X.env := by rfl) (hpl : (backTo pos (starEach es X.env)).any (·.1) = false := by rfl) : PE X (.Call fe (e :: es) [] pos) (tCallE te S t) := by
  refine ⟨fun pins s σ H Q I h => ?_⟩
  rw [ht]
  refine wpAny_bind (thn (hf.run pins s σ H _ I h) fun u s1 ⟨v, H1, I1, r1, f, sp, ev, hS, q1⟩ => ?_)
  subst ev
  cases r1
  obtain ⟨fd, ps, F, hk, hb⟩ := (A f sp hS).ex
  refine PySem.W.callWith_K (h₀ := X.base) I.ok.mod.kin hk (thn (ha.run pos pins s1 σ _ _ I1 q1) fun us s2 ⟨vs, H2, I2, r, q⟩ => ⟨I2.kIn, ?_⟩) he hpl
  exact run_fn F hr hb (dvs := []) .nil pass0 I2 r (by rw [List.append_nil]; exact q)
end
/-- over an enumerated list that the block leaves as it is -/
theorem lc_enumL {K : PySem.W.Frag} {a : Addr} {xs : List V} {g : TG} {tt : TT} {te : TE} {vs : List Nat} {σ : L2.St} {H1 : Hp} {D : Addr} {Qd : Hp → Prop} (Pv : Nat → Hp → Prop) (h0 : Pv 0 (upd H1 D (.lst []))) (hl : ∀ i H, i ≤ xs.length → Pv i H → SqL K H a xs)
    (hs : ∀ i x H T, xs[i]? = some x → Pv i H → H T = none → g (.ref T) (wipe σ vs) (upd H T (.tup [.int (i : Nat), x])) fun σ2 H2 => wipe σ2 vs = wipe σ vs ∧ tt σ2 H2 fun b H3 =>
      if b = true then te σ2 H3 fun y H4 => ∃ acc, H4 D = some (.lst acc) ∧ acc.length < sizeLine ∧ Pv (i + 1) (upd H4 D (.lst (acc ++ [y]))) else Pv (i + 1) H3) (hd : ∀ H, Pv xs.length H → Qd H) :
    ∃ W : Nat → Nat → Hp → Prop, (∃ m, W 0 m (upd H1 D (.lst []))) ∧ ∀ i m H, W i m H →
      ((Ite K a).stop i H ∧ Qd H) ∨ ((Ite K a).go i H ∧ ∃ Nx : Hp → Prop, (∀ H', Nx H' → ∃ m', m' < m ∧ W (i + 1) m' H') ∧ ∀ x H', (Ite K a).yld i H x H' → g x (wipe σ vs) H' fun σ2 H2 => wipe σ2 vs = wipe σ vs ∧ tt σ2 H2 fun b H3 =>
        if b = true then te σ2 H3 fun y H4 => ∃ acc, H4 D = some (.lst acc) ∧ acc.length < sizeLine ∧ Nx (upd H4 D (.lst (acc ++ [y]))) else Nx H3) := by
  refine ⟨fun i m H => m = xs.length - i ∧ i ≤ xs.length ∧ Pv i H, ⟨xs.length, by simp, Nat.zero_le _, h0⟩, ?_⟩
  rintro i m H ⟨rfl, hi, p⟩
  have q := hl i H hi p
  by_cases hlt : i < xs.length
  · refine .inr ⟨⟨xs, xs[i], q, by simp [hlt]⟩, Pv (i + 1), fun H' p' => ⟨xs.length - (i + 1), by omega, rfl, hlt, p'⟩, fun x H' y => ?_⟩
    obtain ⟨T, z, rfl, hT, rfl, hz⟩ := y
    exact hs i z H T (hz xs q) p hT
  · have e : i = xs.length := by omega
    subst e
    exact .inl ⟨⟨xs, q, Nat.le_refl _⟩, hd H p⟩
end Kk

set_option maxHeartbeats 2000000
/-! counts: lists of numbers, lists of such, choices -/
namespace Kk
open PySem PySem.Spec PyProof.Rows L2
/-- at a: a list of lists of numbers -/
def LL (H : Hp) (a : Addr) (rs : List (List Nat)) : Prop := ∃ as : List Addr, as.length = rs.length ∧ H a = some (.lst (as.map V.ref)) ∧ ∀ i b, as[i]? = some b → H b = some (.lst ((Ct.gg rs i).map nv))
theorem LL.same {H H' : Hp} {a : Addr} {rs : List (List Nat)} (h : LL H a rs) (k : Same H H') : LL H' a rs := by
  obtain ⟨as, h1, h2, h3⟩ := h
  exact ⟨as, h1, k _ _ h2, fun i b hb => k _ _ (h3 i b hb)⟩
theorem LL.get {H : Hp} {a : Addr} {rs : List (List Nat)} (h : LL H a rs) {i : Nat} (hi : i < rs.length) : ∃ (xs : List V) (b : Addr), H a = some (.lst xs) ∧ xs.length = rs.length ∧ xs[i]? = some (.ref b) ∧ H b = some (.lst ((Ct.gg rs i).map nv)) := by
  obtain ⟨as, h1, h2, h3⟩ := h
  have : as[i]? = some as[i] := List.getElem?_eq_getElem (by omega)
  exact ⟨_, as[i], h2, by rw [List.length_map, h1], by rw [List.getElem?_map, this]; rfl, h3 i _ this⟩
theorem nv_get {l : List Nat} {i : Nat} (h : i < l.length) : (l.map nv)[i]? = some (nv (Ct.g l i)) := by rw [List.getElem?_map, Ct.g_in h]; rfl
theorem nv_get0 {l : List Nat} {i x : Nat} (h : l[i]? = some x) : (l.map nv)[i]? = some (nv x) := by rw [List.getElem?_map, h]; rfl
def Bd (l : List Nat) : Prop := ∀ x ∈ l, x < 2 ^ 1000
def BdL (rs : List (List Nat)) : Prop := ∀ l ∈ rs, Bd l
theorem Bd.g {l : List Nat} (h : Bd l) (i : Nat) : Ct.g l i < 2 ^ 1000 := by
  by_cases hi : i < l.length
  · exact h _ (List.mem_of_getElem? (Ct.g_in hi))
  · rw [Ct.g_out (by omega)]; exact Nat.two_pow_pos _
theorem BdL.gg {rs : List (List Nat)} (h : BdL rs) (i : Nat) : Bd (Ct.gg rs i) := by
  by_cases hi : i < rs.length
  · refine h _ ?_
    have : rs[i]? = some (Ct.gg rs i) := by unfold Ct.gg; rw [List.getD_eq_getElem?_getD, List.getElem?_eq_getElem hi]; rfl
    exact List.mem_of_getElem? this
  · unfold Ct.gg
    rw [List.getD_eq_getElem?_getD, List.getElem?_eq_none (by omega)]
    intro x hx; simp at hx
theorem nat_wide {a b : Nat} {m n : Nat} (ha : a < 2 ^ m) (hb : b < 2 ^ n) (h0 : 0 < m) (h1 : 0 < n) (h : m + n ≤ 1000000) : CMulW (a : Int) (b : Int) := wide_mul (a := m) (b := n) (by simpa using ha) (by simpa using hb) h0 h1 h
section
variable {P : Program} {w : World} {K : PySem.W.Frag} {mg : Str → Option Value} {base : Heap}
/-- a def that tells choices -/
def spChoice (ch : Nat → Nat → Nat) : Sp := fun vs H Q _ => ∃ n k : Nat, vs = [.int (n : Nat), .int (k : Nat)] ∧ n ≤ 42 ∧ Q (.int (ch n k : Nat)) H
def chA (n k : Nat) : Nat := (PySem.W.mcComb n k).toNat
def chE (n k : Nat) : Nat := 1
theorem chA_eq (n k : Nat) : PySem.W.mcComb n k = (chA n k : Nat) := by
  have := (PySem.W.mc_comb_known (a := n) (b := k) (by omega) (by omega)).1
  unfold chA
  omega
abbrev s_all_choices : Stmt := (top 12)
theorem sc_all_choices : FnScope ["names", "own"] ["names", "own"] (defScope s_all_choices) := ⟨rfl, rfl, rfl, by decide +kernel, rfl, by decide +kernel, by decide +kernel⟩
theorem c_all_choices (B : Bt mg) (D : DefAt K mg "all_choices" s_all_choices) : Cal P w K mg base "all_choices" 1 ["names", "own"] (spChoice chA) := by
  refine cal_of D sc_all_choices (fun _ _ _ _ _ _ us hl => match us, hl with | [_, _], _ => rfl) (fun vs H Q E h => ?_) (fun fa cdv A outer st0 H vs Q E hr h => ?_)
  · obtain ⟨n, k, rfl, _⟩ := h
    rfl
  · obtain ⟨n, k, rfl, hn, kk⟩ := h
    refine ⟨_, (pss_one (ps_ret (pe_callBfun cr_comb (by rfl) B.m_comb (pa_cons (pv 0) (pa_cons (pv 1) pa_nil))))), ?_⟩
    refine ⟨_, rfl, _, rfl, _, _, rfl, by omega, by omega, by omega, ?_⟩
    rw [chA_eq]
    exact kk
abbrev s_eldest_choice : Stmt := (top 13)
theorem sc_eldest_choice : FnScope ["names", "own"] ["names", "own"] (defScope s_eldest_choice) := ⟨rfl, rfl, rfl, by decide +kernel, rfl, by decide +kernel, by decide +kernel⟩
theorem c_eldest_choice (B : Bt mg) (D : DefAt K mg "eldest_choice" s_eldest_choice) : Cal P w K mg base "eldest_choice" 1 ["names", "own"] (spChoice chE) := by
  refine cal_of D sc_eldest_choice (fun _ _ _ _ _ _ us hl => match us, hl with | [_, _], _ => rfl) (fun vs H Q E h => ?_) (fun fa cdv A outer st0 H vs Q E hr h => ?_)
  · obtain ⟨n, k, rfl, _⟩ := h
    rfl
  · obtain ⟨n, k, rfl, hn, kk⟩ := h
    exact ⟨_, (pss_one (ps_ret pe_int)), kk⟩
/-! ### check_counts -/
def spCheckCounts : Sp := fun vs H Q _ => ∃ m n : Nat, vs = [.int (m : Nat), .int (n : Nat)] ∧ m ≤ 40 ∧ n ≤ 40 ∧ ∀ H', Same H H' → Q .non H'
abbrev s_check_counts : Stmt := (top 11)
theorem sc_check_counts : FnScope ["givens", "names", "thing"] ["givens", "names"] (defScope s_check_counts) := ⟨rfl, rfl, rfl, by decide +kernel, rfl, by decide +kernel, by decide +kernel⟩
theorem c_check_counts (B : Bt mg) (D : DefAt K mg "check_counts" s_check_counts) (Cis_number : Cal P w K mg base "is_number" 1 ["thing"] (spNumG K)) : Cal P w K mg base "check_counts" 2 ["givens", "names"] spCheckCounts := by
  refine cal_of D sc_check_counts (fun _ _ _ _ _ _ us hl => match us, hl with | [_, _], _ => rfl) (fun vs H Q E h => ?_) (fun fa cdv A outer st0 H vs Q E hr h => ?_)
  · obtain ⟨n, k, rfl, _⟩ := h
    rfl
  · obtain ⟨m, n, rfl, hm, hn, k⟩ := h
    refine ⟨_, (pss_one (ps_for PassesOwn.never rfl (pi_tup (pe_tup (pa_cons (pv 0) (pa_cons (pv 1) pa_nil)))) (pg_name (i := 2) sc_check_counts.nd rfl (by first | exact Or.inl rfl | exact Or.inr rfl)) (pss_one (ps_if (PW.pt (pw_or (pt_not (pt_val (pe_c Cis_number (hr.mono (by decide)) (pa_cons (pv 2) pa_nil)))) (pw_or1 (pt_cmpR op_gt (pv 2) (pe_gi B.m_MOST_COUNTED) (nomark _))))) (pss_one ps_never) pss_nil)))), ?_⟩
    refine ⟨_, rfl, _, rfl, (by show 2 ≤ sizeLine; decide), fun p np => ?_⟩
    have S1 : Same H (upd H p (.tup [.int (m : Nat), .int (n : Nat)])) := same_upd np
    have L1 : upd H p (.tup [.int (m : Nat), .int (n : Nat)]) p = some (.tup [.int (m : Nat), .int (n : Nat)]) := upd_same
    generalize upd H p (.tup [.int (m : Nat), .int (n : Nat)]) = H1 at *
    refine ⟨p, rfl, ⟨_, SqT.of L1⟩, for_tup (K := K) (a := p) (xs := [.int (m : Nat), .int (n : Nat)]) (fun i σ H' => ∃ v, σ = [some (.int (m : Nat)), some (.int (n : Nat)), v] ∧ Same H1 H') ⟨_, rfl, Same.refl _⟩ (fun i σ H' _ ⟨_, _, s⟩ => SqT.same (SqT.of L1) s) ?_ ?_⟩
    · rintro i x σ H' hx ⟨v, rfl, S2⟩
      have : ∃ j : Nat, x = .int (j : Nat) ∧ j ≤ 40 := by
        match i, hx with
        | 0, hx => exact ⟨m, by simpa using hx.symm, hm⟩
        | 1, hx => exact ⟨n, by simpa using hx.symm, hn⟩
      obtain ⟨j, rfl, hj⟩ := this
      refine ⟨_, rfl, _, rfl, NumT.int _, ⟨_, rfl, ?_⟩⟩
      rw [isNum_int (by omega)]
      refine iteF ⟨_, rfl, _, _, rfl, rfl, _, rfl, ?_⟩
      rw [decide_eq_false (show ¬ (40 : Int) < (j : Nat) by omega)]
      exact iteF ⟨_, rfl, S2⟩
    · rintro σ H' ⟨v, rfl, S2⟩
      exact k H' (S1.trans S2)
end
end Kk

set_option maxHeartbeats 4000000
namespace Kk
open PySem PySem.Spec PyProof.Rows L2
theorem nv_mul (a b : Nat) : V.int ((a : Int) * (b : Int)) = nv (a * b) := congrArg V.int (Int.natCast_mul a b).symm
theorem nv_add (a b : Nat) : V.int ((a : Int) + (b : Int)) = nv (a + b) := congrArg V.int (Int.natCast_add a b).symm
theorem rep_nv (n : Nat) : (List.replicate n [V.int 0]).flatten = (List.replicate n 0).map nv := by
  induction n with
  | zero => rfl
  | succ n ih => rw [List.replicate_succ, List.flatten_cons, ih, List.replicate_succ]; rfl
section
variable {P : Program} {w : World} {K : PySem.W.Frag} {mg : Str → Option Value} {base : Heap}
def spSplits : Sp := fun vs H Q _ => ∃ (a b : Addr) (F R : List Nat) (n : Nat), vs = [.ref a, .ref b, .int (n : Nat)] ∧ H a = some (.lst (F.map nv)) ∧ H b = some (.lst (R.map nv)) ∧ F.length ≤ 100 ∧ R.length ≤ 100 ∧ n ≤ 100 ∧ Bd F ∧ Bd R ∧
  ∀ H' q, Same H H' → H q = none → H' q = some (.lst ((Ct.splits F R n).map nv)) → Q (.ref q) H'
abbrev s_splits : Stmt := (top 16)
theorem sc_splits : FnScope ["firsts", "rows", "names", "least", "most", "pairs", "own"] ["firsts", "rows", "names"] (defScope s_splits) := ⟨rfl, rfl, rfl, by decide +kernel, rfl, by decide +kernel, by decide +kernel⟩
theorem c_splits (B : Bt mg) (D : DefAt K mg "splits" s_splits) : Cal P w K mg base "splits" 1 ["firsts", "rows", "names"] spSplits := by
  refine cal_of D sc_splits (fun _ _ _ _ _ _ us hl => match us, hl with | [_, _, _], _ => rfl) (fun vs H Q E h => ?_) (fun fa cdv A outer st0 H vs Q E hr h => ?_)
  · obtain ⟨a, b, F, R, n, rfl, _⟩ := h
    rfl
  · obtain ⟨a, b, F, R, n, rfl, hF, hR, lF, lR, ln, bF, bR, k⟩ := h
    refine ⟨_, (pss_cons (ps_set (i := 3) sc_splits.nd rfl (by first | exact Or.inl rfl | exact Or.inr rfl) (pe_callB (call_max2 rfl) (by rfl) B.b_max (by decide +kernel) (pa_cons pe_int (pa_cons (pe_op op_sub (pe_op op_add (pv 2) pe_int) (pe_callB call_len_seq (by rfl) B.b_len (by decide +kernel) (pa_cons (pv 1) pa_nil))) pa_nil))))
      (pss_cons (ps_set (i := 4) sc_splits.nd rfl (by first | exact Or.inl rfl | exact Or.inr rfl) (pe_callB (call_min2 rfl) (by rfl) B.b_min (by decide +kernel) (pa_cons (pe_op op_add (pv 2) pe_int) (pa_cons (pe_callB call_len_seq (by rfl) B.b_len (by decide +kernel) (pa_cons (pv 0) pa_nil)) pa_nil))))
      (pss_cons (ps_setLc (i := 5) (own := [("own", 6)]) (g := (gName 6)) (tt := tYes) (te := (tOp _ (tOp (rIxL K) _ _) (tOp (rIxL K) _ _))) rfl sc_splits.nd rfl rfl (sw_true rfl rfl rfl (by decide +kernel)) (pi_range2 (by rfl) B.b_range (pa_cons (pv 3) (pa_cons (pv 4) pa_nil))) (blkOk_by (own := [("own", 6)]) (N := ["firsts", "rows", "names", "least", "most", "pairs", "own"]) (sc := defScope s_splits) (by decide +kernel)) (fun _ _ _ _ _ => (pg_name (i := 6) sc_splits.nd rfl (by first | exact Or.inl rfl | exact Or.inr rfl))) (fun _ _ _ _ _ => pts_nil) (fun _ _ _ _ _ => (pe_op op_mulW (pe_ix ix_list (pv 0) (pv 6) (fun _ _ => rfl)) (pe_ix ix_list (pv 1) (pe_op op_sub (pv 2) (pv 6)) (fun _ _ => rfl)))))
      (pss_one (ps_ret (pe_op op_cat (pe_op op_cat (pe_op op_rep (pe_lst (pa_cons pe_int pa_nil)) (pv 3)) (pv 5)) (pe_op op_rep (pe_lst (pa_cons pe_int pa_nil)) (pe_op op_sub (pe_op op_add (pv 2) pe_int) (pe_callB (call_max2 rfl) (by rfl) B.b_max (by decide +kernel) (pa_cons (pv 3) (pa_cons (pv 4) pa_nil))))))))))), ?_⟩
    have hFl : (F.map nv).length = F.length := List.length_map ..
    have hRl : (R.map nv).length = R.length := List.length_map ..
    -- least
    refine ⟨_, rfl, _, _, rfl, rfl, _, rfl, _, _, rfl, .inl (SqL.of hR), _, _, rfl, rfl, _, _, rfl, ?_⟩
    rw [hRl]
    have e1 : (if ((n : Nat) : Int) + 1 - ((R.length : Nat) : Int) > 0 then ((n : Nat) : Int) + 1 - ((R.length : Nat) : Int) else 0) = ((n + 1 - R.length : Nat) : Int) := by split <;> omega
    rw [e1]
    generalize hL : n + 1 - R.length = L
    -- most
    refine ⟨_, rfl, _, _, rfl, rfl, _, rfl, _, _, rfl, .inl (SqL.of hF), _, _, rfl, ?_⟩
    rw [hFl]
    have e2 : (if ((F.length : Nat) : Int) < ((n : Nat) : Int) + 1 then ((F.length : Nat) : Int) else ((n : Nat) : Int) + 1) = ((min (n + 1) F.length : Nat) : Int) := by split <;> omega
    rw [e2]
    generalize hM : min (n + 1) F.length = M
    -- pairs
    refine ⟨_, rfl, _, rfl, _, _, rfl, ⟨by omega, by omega, by omega, by omega⟩, fun D nD => ?_⟩
    have offD : ∀ c o, H c = some o → c ≠ D := fun c o hc => ne_of_none hc nD
    have en : (((M : Nat) : Int) - ((L : Nat) : Int)).toNat = M - L := by omega
    rw [en]
    refine lc_range (lo := ((L : Nat) : Int)) (n := M - L) (fun i H' => Same H H' ∧ H' D = some (.lst (((List.range i).map fun j => Ct.g F (L + j) * Ct.g R (n - (L + j))).map nv))) ⟨same_upd nD, upd_same⟩ ?_ ?_
    · rintro i H' hi ⟨S1, L1⟩
      have x1 : (((L : Nat) : Int) + ((i : Nat) : Int)) = ((L + i : Nat) : Int) := by omega
      have x2 : ((n : Nat) : Int) - ((L + i : Nat) : Int) = ((n - (L + i) : Nat) : Int) := by omega
      rw [x1]
      refine ⟨rfl, ?_⟩
      refine ⟨_, rfl, _, rfl, a, _, _, _, rfl, rfl, SqL.of (S1 _ _ hF), atI_nat (nv_get (by omega)), _, rfl, _, rfl, _, rfl, _, _, rfl, rfl, ?_⟩
      dsimp only
      rw [x2]
      refine ⟨b, _, _, _, rfl, rfl, SqL.of (S1 _ _ hR), atI_nat (nv_get (by omega)), _, _, rfl, rfl, nat_wide (bF.g _) (bR.g _) (by decide) (by decide) (by decide), ?_⟩
      refine ⟨_, L1, by simp; exact small_lt (m := 1000) (by omega) (by decide), fun c o hc => by rw [upd_ne (offD c o hc)]; exact S1 _ _ hc, ?_⟩
      rw [upd_same, List.range_succ, List.map_append, List.map_append]
      exact congrArg (fun v => some (HO.lst (_ ++ [v]))) (nv_mul _ _)
    · rintro H1 ⟨S1, L1⟩
      have fD : H D = none := nD
      -- [0] * least
      refine ⟨(by show 1 ≤ sizeLine; decide), fun z nz => ?_⟩
      have Sz := same_upd (o := HO.lst [V.int 0]) nz
      have Lz : upd H1 z (.lst [V.int 0]) z = some (.lst [V.int 0]) := upd_same
      generalize upd H1 z (.lst [V.int 0]) = H2 at *
      refine ⟨_, rfl, z, _, _, rfl, rfl, Lz, by omega, by omega, (by rw [sizeLine_eq]; show 1 * _ ≤ _; omega), fun p1 n1 => ?_⟩
      rw [show (((L : Nat) : Int)).toNat = L by omega, rep_nv]
      have S3 := same_upd (o := HO.lst ((List.replicate L 0).map nv)) n1
      have L3 : upd H2 p1 (.lst ((List.replicate L 0).map nv)) p1 = some (.lst ((List.replicate L 0).map nv)) := upd_same
      generalize upd H2 p1 (.lst ((List.replicate L 0).map nv)) = H3 at *
      -- + pairs
      have LD := (Sz.trans S3) _ _ L1
      refine ⟨_, rfl, p1, D, _, _, rfl, rfl, L3, LD, (by rw [sizeLine_eq]; simp; omega), fun p2 n2 => ?_⟩
      rw [← List.map_append]
      generalize hA : (List.replicate L 0 ++ (List.range (M - L)).map fun j => Ct.g F (L + j) * Ct.g R (n - (L + j))) = AA
      have lA : AA.length ≤ 1000 := by rw [← hA]; simp; omega
      have S4 := same_upd (o := HO.lst (AA.map nv)) n2
      have L4 : upd H3 p2 (.lst (AA.map nv)) p2 = some (.lst (AA.map nv)) := upd_same
      generalize upd H3 p2 (.lst (AA.map nv)) = H4 at *
      -- [0] * (names + 1 - max(least, most))
      refine ⟨(by show 1 ≤ sizeLine; decide), fun z2 nz2 => ?_⟩
      have Sz2 := same_upd (o := HO.lst [V.int 0]) nz2
      have Lz2 : upd H4 z2 (.lst [V.int 0]) z2 = some (.lst [V.int 0]) := upd_same
      generalize upd H4 z2 (.lst [V.int 0]) = H5 at *
      refine ⟨_, rfl, _, _, rfl, rfl, _, rfl, _, rfl, _, _, rfl, _, _, rfl, rfl, ?_⟩
      have e3 : ((n : Nat) : Int) + 1 - (if ((M : Nat) : Int) > ((L : Nat) : Int) then ((M : Nat) : Int) else ((L : Nat) : Int)) = ((n + 1 - max L M : Nat) : Int) := by split <;> omega
      dsimp only
      rw [e3]
      refine ⟨z2, _, _, rfl, rfl, Lz2, by omega, by omega, (by rw [sizeLine_eq]; show 1 * _ ≤ _; omega), fun p3 n3 => ?_⟩
      rw [show (((n + 1 - max L M : Nat) : Int)).toNat = n + 1 - max L M by omega, rep_nv]
      have S6 := same_upd (o := HO.lst ((List.replicate (n + 1 - max L M) 0).map nv)) n3
      have L6 : upd H5 p3 (.lst ((List.replicate (n + 1 - max L M) 0).map nv)) p3 = some (.lst ((List.replicate (n + 1 - max L M) 0).map nv)) := upd_same
      generalize upd H5 p3 (.lst ((List.replicate (n + 1 - max L M) 0).map nv)) = H6 at *
      refine ⟨p2, p3, _, _, rfl, rfl, (Sz2.trans S6) _ _ L4, L6, (by rw [sizeLine_eq]; simp; omega), fun p4 n4 => ?_⟩
      rw [← List.map_append]
      have S07 := S1.trans (Sz.trans (S3.trans (S4.trans (Sz2.trans S6))))
      refine k _ p4 (S07.trans (same_upd n4)) (S07.free n4) ?_
      rw [upd_same, ← hA]
      subst hL hM
      rfl
end
end Kk

set_option maxHeartbeats 4000000
namespace Kk
open PySem PySem.Spec PyProof.Rows L2
theorem sum_nat (l : List Nat) : (l.map fun (x : Nat) => (x : Int)).sum = ((l.sum : Nat) : Int) := by
  induction l with
  | nil => rfl
  | cons a l ih => rw [List.map_cons, List.sum_cons, List.sum_cons, ih]; omega
theorem map_nv_int (l : List Nat) : l.map nv = (l.map fun (x : Nat) => (x : Int)).map V.int := by rw [List.map_map]; rfl
theorem splits_g (F R : List Nat) (n i : Nat) (h : i ≤ n) : Ct.g (Ct.splits F R n) i = Ct.g F i * Ct.g R (n - i) := by
  refine Ct.g_some ?_
  rw [Ct.splits_eq, List.getElem?_map, List.getElem?_range (by omega)]
  rfl
def Bch (ch : Nat → Nat → Nat) : Prop := ∀ n k, n ≤ 42 → ch n k < 2 ^ 1000
theorem wl_step (ch : Nat → Nat → Nat) (n : Nat) (ws : List Nat) (i : Nat) : ((List.range (i + 1)).filterMap fun i => if 0 < Ct.g ws i then some (ch n i * Ct.g ws i) else none) = ((List.range i).filterMap fun i => if 0 < Ct.g ws i then some (ch n i * Ct.g ws i) else none) ++ (if 0 < Ct.g ws i then [ch n i * Ct.g ws i] else []) := by
  rw [List.range_succ, List.filterMap_append]
  congr 1
  by_cases h : 0 < Ct.g ws i
  · simp only [List.filterMap_cons, if_pos h, List.filterMap_nil]
  · simp only [List.filterMap_cons, if_neg h, List.filterMap_nil]
section
variable {P : Program} {w : World} {K : PySem.W.Frag} {mg : Str → Option Value} {base : Heap}
def spGiving (P : Program) (w : World) (K : PySem.W.Frag) (mg : Str → Option Value) (base : Heap) : Sp := fun vs H Q _ => ∃ (a b f : Addr) (F R : List (List Nat)) (n : Nat) (ch : Nat → Nat → Nat), vs = [.ref a, .ref b, .int (n : Nat), .ref f] ∧ Held P w K mg base 1 f (spChoice ch) ∧ Bch ch ∧ LL H a F ∧ LL H b R ∧
  F.length = R.length ∧ R.length ≤ 41 ∧ n ≤ 42 ∧ BdL F ∧ BdL R ∧ (∀ l ∈ F, l.length ≤ 100) ∧ (∀ l ∈ R, l.length ≤ 100) ∧ ∀ H', Same H H' → Q (.int (Ct.giving ch F R n : Nat)) H'
theorem gg_len {rs : List (List Nat)} {m : Nat} (h : ∀ l ∈ rs, l.length ≤ m) (i : Nat) : (Ct.gg rs i).length ≤ m := by
  by_cases hi : i < rs.length
  · refine h _ ?_
    have : rs[i]? = some (Ct.gg rs i) := by unfold Ct.gg; rw [List.getD_eq_getElem?_getD, List.getElem?_eq_getElem hi]; rfl
    exact List.mem_of_getElem? this
  · unfold Ct.gg
    rw [List.getD_eq_getElem?_getD, List.getElem?_eq_none (by omega)]
    exact Nat.zero_le _
abbrev s_giving : Stmt := (top 15)
theorem sc_giving : FnScope ["firsts", "rows", "names", "choices", "found", "less", "worths", "own", "worth"] ["firsts", "rows", "names", "choices"] (defScope s_giving) := ⟨rfl, rfl, rfl, by decide +kernel, rfl, by decide +kernel, by decide +kernel⟩
theorem c_giving (B : Bt mg) (D : DefAt K mg "giving" s_giving) (Csplits : Cal P w K mg base "splits" 1 ["firsts", "rows", "names"] spSplits) : Cal P w K mg base "giving" 2 ["firsts", "rows", "names", "choices"] (spGiving P w K mg base) := by
  refine cal_of D sc_giving (fun _ _ _ _ _ _ us hl => match us, hl with | [_, _, _, _], _ => rfl) (fun vs H Q E h => ?_) (fun fa cdv A outer st0 H vs Q E hr h => ?_)
  · obtain ⟨a, b, f, F, R, n, ch, rfl, _⟩ := h
    rfl
  · obtain ⟨a, b, f, F, R, n, ch, rfl, HD, bch, hF, hR, lFR, lR, ln, bF, bR, mF, mR, k⟩ := h
    refine ⟨_, (pss_cons (ps_set (i := 4) sc_giving.nd rfl (by first | exact Or.inl rfl | exact Or.inr rfl) pe_int)
      (pss_cons (ps_for PassesOwn.never rfl (pi_range1 (by rfl) B.b_range (pa_cons (pe_callB call_len_seq (by rfl) B.b_len (by decide +kernel) (pa_cons (pv 1) pa_nil)) pa_nil)) (pg_name (i := 5) sc_giving.nd rfl (by first | exact Or.inl rfl | exact Or.inr rfl)) (pss_cons (ps_set (i := 6) sc_giving.nd rfl (by first | exact Or.inl rfl | exact Or.inr rfl) (pe_c Csplits (hr.mono (by decide)) (pa_cons (pe_ix ix_list (pv 0) (pv 5) (fun _ _ => rfl)) (pa_cons (pe_ix ix_list (pv 1) (pe_op op_sub (pe_op op_sub (pe_callB call_len_seq (by rfl) B.b_len (by decide +kernel) (pa_cons (pv 1) pa_nil)) pe_int) (pv 5)) (fun _ _ => rfl)) (pa_cons (pv 2) pa_nil)))))
      (pss_one (ps_aug (i := 4) sc_giving.nd rfl (by first | exact Or.inl rfl | exact Or.inr rfl) (pe_callB (cr_sum rfl) (by rfl) B.b_sum (by decide +kernel) (pa_cons (pe_lc (own := [("own", 7), ("worth", 8)]) (g := (gTup K 2 (gCons (gName 7) (gCons (gName 8) gNil)))) rfl sc_giving.nd (pi_enum (by rfl) B.b_enumerate (pa_cons (pv 6) pa_nil)) (blkOk_by (own := [("own", 7), ("worth", 8)]) (N := ["firsts", "rows", "names", "choices", "found", "less", "worths", "own", "worth"]) (sc := defScope s_giving) (by decide +kernel)) (fun _ _ _ _ _ => (pg_tup (by rfl) (pgs_cons (pg_name (i := 7) sc_giving.nd rfl (by first | exact Or.inl rfl | exact Or.inr rfl)) (pgs_cons (pg_name (i := 8) sc_giving.nd rfl (by first | exact Or.inl rfl | exact Or.inr rfl)) pgs_nil)))) (fun _ _ _ _ _ => (pts_one (pt_cmpR op_gt (pv 8) pe_int (nomark _)))) (fun _ _ _ _ _ => (pe_op op_mulW (pe_hL (i := 3) HD (hr.mono (by decide)) rfl (by first | exact Or.inl rfl | exact Or.inr (Or.inl rfl) | exact Or.inr (Or.inr rfl)) (pa_cons (pv 2) (pa_cons (pv 7) pa_nil))) (pv 8)))) pa_nil)) ip_add))))
      (pss_one (ps_ret (pv 4))))), ?_⟩
    obtain ⟨bs, hb1, hb2, hb3⟩ := id hR
    have lb : (bs.map V.ref).length = R.length := by rw [List.length_map, hb1]
    -- for less in range(len(rows))
    refine ⟨_, rfl, _, _, rfl, .inl (SqL.of hb2), _, rfl, by omega, by omega, ?_⟩
    rw [lb, show (((R.length : Nat) : Int)).toNat = R.length by omega]
    refine for_range (lo := 0) (n := R.length) (fun i σ H' => ∃ (v1 v2 v3 v4 : Option V), σ = [some (.ref a), some (.ref b), some (.int (n : Nat)), some (.ref f), some (nv (((List.range i).map fun l => Ct.wsum ch n (Ct.splits (Ct.gg F l) (Ct.gg R (R.length - 1 - l)) n)).sum)), v1, v2, v3, v4] ∧ Same H H')
      ⟨none, none, none, none, rfl, Same.refl H⟩ ?_ ?_
    · rintro i σ H1 hi ⟨v1, v2, v3, v4, rfl, S1⟩
      obtain ⟨xs, b1, e1, e2, e3, e4⟩ := (hF.same S1).get (i := i) (by omega)
      obtain ⟨ys, b2, e5, e6, e7, e8⟩ := (hR.same S1).get (i := R.length - 1 - i) (by omega)
      rw [Int.zero_add]
      -- worths = splits(firsts[less], rows[len(rows) - 1 - less], names)
      refine ⟨_, rfl, _, rfl, a, _, _, _, rfl, rfl, SqL.of e1, atI_nat e3, _, rfl, _, rfl, _, _, rfl, .inl (SqL.of e5), _, _, rfl, rfl, _, rfl, _, _, rfl, rfl, ?_⟩
      dsimp only
      rw [e6, show ((R.length : Nat) : Int) - 1 - ((i : Nat) : Int) = ((R.length - 1 - i : Nat) : Int) by omega]
      refine ⟨b, _, _, _, rfl, rfl, SqL.of e5, atI_nat e7, _, rfl, b1, b2, Ct.gg F i, Ct.gg R (R.length - 1 - i), n, rfl, e4, e8, gg_len mF _, gg_len mR _, by omega, bF.gg _, bR.gg _, fun H2 q S2 nq Lq => ?_⟩
      have S02 := S1.trans S2
      generalize hws : Ct.splits (Ct.gg F i) (Ct.gg R (R.length - 1 - i)) n = ws at *
      have hwl : ws.length = n + 1 := by rw [← hws, Ct.splits_len]
      have hwg : ∀ j, j ≤ n → Ct.g ws j < 2 ^ 2000 := fun j hj => by
        rw [← hws, splits_g _ _ _ _ hj]
        have x1 := (bF.gg i).g j
        have x2 := (bR.gg (R.length - 1 - i)).g (n - j)
        exact Nat.lt_of_lt_of_eq (Nat.mul_lt_mul'' x1 x2) (Nat.pow_add 2 1000 1000).symm
      -- found += sum([...])
      refine ⟨_, rfl, ?_⟩
      refine ⟨_, rfl, q, _, rfl, SqL.of Lq, fun D nD => ?_⟩
      have offD : ∀ c o, H2 c = some o → c ≠ D := fun c o hc => ne_of_none hc nD
      refine lc_enumL (K := K) (a := q) (xs := ws.map nv) (fun i H' => Same H2 H' ∧ H' D = some (.lst (((List.range i).filterMap fun i => if 0 < Ct.g ws i then some (ch n i * Ct.g ws i) else none).map nv))) ⟨same_upd nD, upd_same⟩ (fun i H' _ s => SqL.of (s.1 _ _ Lq)) ?_ ?_
      · rintro j x H3 T hx ⟨S3, L3⟩ nT
        obtain ⟨y, hy, rfl⟩ := map_get hx
        have hjl : j < ws.length := (List.getElem?_eq_some_iff.mp hy).1
        have ey : Ct.g ws j = y := Ct.g_some hy
        have ST := S3.trans (same_upd (o := .tup [.int (j : Nat), nv y]) nT)
        have LT := same_upd (o := .tup [.int (j : Nat), nv y]) nT _ _ L3
        refine ⟨T, _, rfl, SqT.of upd_same, rfl, _, _, rfl, _, _, rfl, rfl, rfl, ?_⟩
        generalize upd H3 T (.tup [.int (j : Nat), nv y]) = H4 at *
        refine ⟨_, rfl, _, _, rfl, rfl, _, rfl, ?_⟩
        by_cases hp : 0 < y
        · rw [decide_eq_true (show (0 : Int) < ((y : Nat) : Int) by omega)]
          refine iteT ⟨rfl, _, rfl, _, rfl, n, j, rfl, ln, _, rfl, _, _, rfl, rfl, nat_wide (bch n j ln) (ey ▸ hwg j (by omega)) (by decide) (by decide) (by decide), ?_⟩
          refine ⟨_, LT, ?_, fun c o hc => by rw [upd_ne (offD c o hc)]; exact ST _ _ hc, ?_⟩
          · rw [List.length_map]
            exact small_lt (m := 100) (Nat.le_trans (List.length_filterMap_le _ _) (by rw [List.length_range]; omega)) (by decide)
          · rw [upd_same, wl_step, ey, if_pos hp, List.map_append]
            exact congrArg (fun v => some (HO.lst (_ ++ [v]))) (nv_mul _ _)
        · rw [decide_eq_false (show ¬ (0 : Int) < ((y : Nat) : Int) by omega)]
          refine iteF ⟨ST, ?_⟩
          rw [LT, wl_step, ey, if_neg hp, List.append_nil]
      · rintro H3 ⟨S3, L3⟩
        rw [List.length_map] at L3
        refine ⟨D, (Ct.wl ch n ws).map fun (x : Nat) => (x : Int), rfl, ?_, ?_⟩
        · rw [← map_nv_int]
          exact SqL.of L3
        · rw [sum_nat]
          refine ⟨_, _, rfl, rfl, ?_⟩
          refine ⟨some (.int (i : Nat)), some (.ref q), v3, v4, ?_, S02.trans S3⟩
          have e : nv (((List.range (i + 1)).map fun l => Ct.wsum ch n (Ct.splits (Ct.gg F l) (Ct.gg R (R.length - 1 - l)) n)).sum) = V.int (((((List.range i).map fun l => Ct.wsum ch n (Ct.splits (Ct.gg F l) (Ct.gg R (R.length - 1 - l)) n)).sum : Nat) : Int) + (((Ct.wl ch n ws).sum : Nat) : Int)) := by
            rw [List.range_succ, List.map_append, List.sum_append, nv_add, ← hws]
            simp [Ct.wsum]
          rw [e]
          rfl
    · rintro σ H1 ⟨v1, v2, v3, v4, rfl, S1⟩
      exact ⟨_, rfl, k H1 S1⟩
end
end Kk

set_option maxHeartbeats 4000000
namespace Kk
open PySem PySem.Spec PyProof.Rows L2
/-- as LL, no list of it at p or q -/
def LN (H : Hp) (a : Addr) (rs : List (List Nat)) (p q : Addr) : Prop := ∃ as : List Addr, as.length = rs.length ∧ H a = some (.lst (as.map V.ref)) ∧ (∀ i b, as[i]? = some b → H b = some (.lst ((Ct.gg rs i).map nv))) ∧ ∀ b ∈ as, b ≠ p ∧ b ≠ q
theorem LN.ll {H : Hp} {a p q : Addr} {rs : List (List Nat)} (h : LN H a rs p q) : LL H a rs := by
  obtain ⟨as, h1, h2, h3, _⟩ := h
  exact ⟨as, h1, h2, h3⟩
theorem LN.ne {H : Hp} {a p q c : Addr} {rs : List (List Nat)} (h : LN H a rs p q) (hc : H c = none) : c ≠ a := fun e => by
  obtain ⟨_, _, g, _⟩ := h
  rw [← e, hc] at g
  cases g
theorem LN.same {H H' : Hp} {a p q : Addr} {rs : List (List Nat)} (h : LN H a rs p q) (k : Same H H') : LN H' a rs p q := by
  obtain ⟨as, h1, h2, h3, h4⟩ := h
  exact ⟨as, h1, k _ _ h2, fun i b hb => k _ _ (h3 i b hb), h4⟩
theorem gg_app {rs : List (List Nat)} {r : List Nat} {i : Nat} : Ct.gg (rs ++ [r]) i = if i < rs.length then Ct.gg rs i else if i = rs.length then r else [] := by
  unfold Ct.gg
  rw [List.getD_eq_getElem?_getD]
  by_cases h : i < rs.length
  · rw [if_pos h, List.getElem?_append_left h, List.getD_eq_getElem?_getD]
  · rw [if_neg h, List.getElem?_append_right (by omega)]
    by_cases h2 : i = rs.length
    · rw [if_pos h2, h2, Nat.sub_self]; rfl
    · rw [if_neg h2, List.getElem?_eq_none (by simp; omega)]; rfl
theorem LN.push {H : Hp} {a p q b : Addr} {rs : List (List Nat)} {r : List Nat} (h : LN H a rs p q) (ha : a = p ∨ a = q) (hb : H b = some (.lst (r.map nv))) (h1 : b ≠ p) (h2 : b ≠ q) {xs : List V} (hx : H a = some (.lst xs)) : LN (upd H a (.lst (xs ++ [.ref b]))) a (rs ++ [r]) p q := by
  obtain ⟨as, g1, g2, g3, g4⟩ := h
  have ex : xs = as.map V.ref := by rw [g2] at hx; cases hx; rfl
  have off : ∀ c, c ≠ p ∧ c ≠ q → c ≠ a := fun c hc e => by
    subst e
    rcases ha with z | z
    · exact hc.1 z
    · exact hc.2 z
  refine ⟨as ++ [b], by simp [g1], by rw [upd_same, ex]; simp, fun i c hc => ?_, fun c hc => ?_⟩
  · rw [gg_app]
    by_cases hi : i < as.length
    · rw [List.getElem?_append_left hi] at hc
      rw [if_pos (by omega), upd_ne (off c (g4 c (List.mem_of_getElem? hc)))]
      exact g3 i c hc
    · rw [List.getElem?_append_right (by omega)] at hc
      have hi2 : i = as.length := by
        have := (List.getElem?_eq_some_iff.mp hc).1
        simp at this; omega
      subst hi2
      rw [Nat.sub_self] at hc
      cases hc
      rw [if_neg (by omega), if_pos g1, upd_ne (off b ⟨h1, h2⟩)]
      exact hb
  · rcases List.mem_append.mp hc with hc | hc
    · exact g4 c hc
    · have : c = b := by simpa using hc
      rw [this]; exact ⟨h1, h2⟩
theorem LN.off {H : Hp} {a p q c : Addr} {rs : List (List Nat)} {o : HO} (h : LN H a rs p q) (hc : c = p ∨ c = q) (hac : a ≠ c) : LN (upd H c o) a rs p q := by
  obtain ⟨as, g1, g2, g3, g4⟩ := h
  refine ⟨as, g1, by rw [upd_ne hac]; exact g2, fun i b hb => ?_, g4⟩
  have := g4 b (List.mem_of_getElem? hb)
  have hbc : b ≠ c := by rcases hc with z | z <;> (subst z); exact this.1; exact this.2
  rw [upd_ne hbc]
  exact g3 i b hb
theorem sufs_len : ∀ l, (Ct.sufs l).length = l.length
  | [] => rfl
  | x :: xs => by show (Ct.sufs xs).length + 1 = _; rw [sufs_len xs]; rfl
theorem sufs_g : ∀ (l : List Nat) (i : Nat), i < l.length → Ct.g (Ct.sufs l) i = Ct.g l i + Ct.g (Ct.sufs l) (i + 1)
  | [], i, h => by simp at h
  | x :: xs, 0, _ => rfl
  | x :: xs, i + 1, h => sufs_g xs i (by simpa using h)
theorem row_len (ch : Nat → Nat → Nat) (F R : List (List Nat)) (k : Nat) : (Ct.rowOf ch F R k).length = k + 2 := by
  unfold Ct.rowOf
  split <;> simp
theorem rows_lens (ch : Nat → Nat → Nat) (rests : Bool) : ∀ k, (∀ l ∈ (Ct.rows ch rests k).1, l.length ≤ k + 1) ∧ (∀ l ∈ (Ct.rows ch rests k).2, l.length ≤ k + 1)
  | 0 => ⟨fun l h => by simp [Ct.rows] at h, fun l h => by simp [Ct.rows] at h⟩
  | k + 1 => by
    obtain ⟨h1, h2⟩ := rows_lens ch rests k
    simp only [Ct.rows]
    refine ⟨fun l h => ?_, fun l h => ?_⟩
    · rcases List.mem_append.mp h with h | h
      · have := h1 l h; omega
      · have e : l = if rests then Ct.rowOf ch (Ct.rows ch rests k).1 (Ct.rows ch rests k).2 k else Ct.sufs (Ct.rowOf ch (Ct.rows ch rests k).1 (Ct.rows ch rests k).2 k) := by simpa using h
        rw [e]
        split
        · rw [row_len]; omega
        · rw [sufs_len, row_len]; omega
    · rcases List.mem_append.mp h with h | h
      · have := h2 l h; omega
      · have e : l = Ct.sufs (Ct.rowOf ch (Ct.rows ch rests k).1 (Ct.rows ch rests k).2 k) := by simpa using h
        rw [e, sufs_len, row_len]; omega
theorem set_nv (l : List Nat) (i x : Nat) : (l.map nv).set i (nv x) = (l.set i x).map nv := by rw [List.map_set]
section
variable {P : Program} {w : World} {K : PySem.W.Frag} {mg : Str → Option Value} {base : Heap}
def spRowsTo (P : Program) (w : World) (K : PySem.W.Frag) (mg : Str → Option Value) (base : Heap) : Sp := fun vs H Q _ => ∃ (f : Addr) (m : Nat) (ch : Nat → Nat → Nat) (rests : Bool), vs = [.int (m : Nat), .ref f, .bl rests] ∧ Held P w K mg base 1 f (spChoice ch) ∧ Bch ch ∧ m ≤ 40 ∧
  (∀ j, j ≤ m → BdL (Ct.rows ch rests j).1 ∧ BdL (Ct.rows ch rests j).2) ∧ ∀ H' a, Same H H' → LL H' a (Ct.rows ch rests (m + 1)).2 → Q (.ref a) H'
abbrev s_rows_to : Stmt := (top 14)
theorem sc_rows_to : FnScope ["most", "choices", "rests", "firsts", "rows", "givens", "row", "names", "whole"] ["most", "choices", "rests"] (defScope s_rows_to) := ⟨rfl, rfl, rfl, by decide +kernel, rfl, by decide +kernel, by decide +kernel⟩
theorem c_rows_to (B : Bt mg) (D : DefAt K mg "rows_to" s_rows_to) (Cgiving : Cal P w K mg base "giving" 2 ["firsts", "rows", "names", "choices"] (spGiving P w K mg base)) : Cal P w K mg base "rows_to" 3 ["most", "choices", "rests"] (spRowsTo P w K mg base) := by
  refine cal_of D sc_rows_to (fun _ _ _ _ _ _ us hl => match us, hl with | [_, _, _], _ => rfl) (fun vs H Q E h => ?_) (fun fa cdv A outer st0 H vs Q E hr h => ?_)
  · obtain ⟨f, m, ch, rests, rfl, _⟩ := h
    rfl
  · obtain ⟨f, m, ch, rests, rfl, HD, bch, hm, hb, k⟩ := h
    refine ⟨_, (pss_cons (ps_set (i := 3) sc_rows_to.nd rfl (by first | exact Or.inl rfl | exact Or.inr rfl) (pe_lst pa_nil))
      (pss_cons (ps_set (i := 4) sc_rows_to.nd rfl (by first | exact Or.inl rfl | exact Or.inr rfl) (pe_lst pa_nil))
      (pss_cons (ps_for PassesOwn.never rfl (pi_range1 (by rfl) B.b_range (pa_cons (pe_op op_add (pv 0) pe_int) pa_nil)) (pg_name (i := 5) sc_rows_to.nd rfl (by first | exact Or.inl rfl | exact Or.inr rfl)) (pss_cons (ps_setLc (i := 6) (own := [("names", 7)]) (g := (gName 7)) (tt := tYes) rfl sc_rows_to.nd rfl rfl (sw_true rfl rfl rfl (by decide +kernel)) (pi_range1 (by rfl) B.b_range (pa_cons (pe_op op_add (pv 5) pe_int) pa_nil)) (blkOk_by (own := [("names", 7)]) (N := ["most", "choices", "rests", "firsts", "rows", "givens", "row", "names", "whole"]) (sc := defScope s_rows_to) (by decide +kernel)) (fun _ _ _ _ _ => (pg_name (i := 7) sc_rows_to.nd rfl (by first | exact Or.inl rfl | exact Or.inr rfl))) (fun _ _ _ _ _ => pts_nil) (fun _ _ _ _ _ => (pe_c Cgiving (hr.mono (by decide)) (pa_cons (pv 3) (pa_cons (pv 4) (pa_cons (pv 7) (pa_cons (pv 1) pa_nil)))))))
      (C8.pss_cut (ps_if (pt_cmpR op_eq (pv 5) pe_int (nomark _)) (pss_one (ps_asg pe_int (pg_sub (pv 6) pe_int set_list))) pss_nil)
      (pss_cons (ps_set (i := 8) sc_rows_to.nd rfl (by first | exact Or.inl rfl | exact Or.inr rfl) (pe_callTy call_list_of (by rfl) B.b_list (by decide +kernel) (pa_cons (pv 6) pa_nil)))
      (pss_cons (ps_for PassesOwn.never rfl (pi_revR (by rfl) B.b_reversed (prg_1 (by rfl) B.b_range (pe_op op_add (pv 5) pe_int))) (pg_name (i := 7) sc_rows_to.nd rfl (by first | exact Or.inl rfl | exact Or.inr rfl)) (pss_one (ps_augS (pv 8) (pv 7) pget_list (pe_ix ix_list (pv 8) (pe_op op_add (pv 7) pe_int) (fun _ _ => rfl)) ip_add set_list)))
      (pss_cons (ps_expr (pe_bm PySem.F.plainAttrs_list PySem.F.slot_list_append PySem.F.type_list_append mt_append (pv 4) (pa_cons (pv 8) pa_nil)))
      (pss_one (ps_expr (pe_bm PySem.F.plainAttrs_list PySem.F.slot_list_append PySem.F.type_list_append mt_append (pv 3) (pa_cons (pe_ifExp (pt_val (pv 2)) (pv 6) (pv 8)) pa_nil))))))))))
      (pss_one (ps_ret (pv 4)))))), ?_⟩
    refine ⟨Nat.zero_le _, fun pF nF => ?_⟩
    have SF := same_upd (o := HO.lst []) nF
    have LF : upd H pF (.lst []) pF = some (.lst []) := upd_same
    generalize upd H pF (.lst []) = H1 at *
    refine ⟨Nat.zero_le _, fun pR nR => ?_⟩
    have SR := same_upd (o := HO.lst []) nR
    have LF2 := SR _ _ LF
    have LR : upd H1 pR (.lst []) pR = some (.lst []) := upd_same
    generalize upd H1 pR (.lst []) = H2 at *
    have hFR : pF ≠ pR := ne_of_none LF nR
    have fF : H pF = none := nF
    have fR : H pR = none := SF.free nR
    have off : ∀ b o, H b = some o → b ≠ pF ∧ b ≠ pR := fun b o hbo => ⟨ne_of_none hbo fF, ne_of_none hbo fR⟩
    refine ⟨_, rfl, _, _, rfl, rfl, _, rfl, by omega, by omega, ?_⟩
    rw [show (((m : Nat) : Int) + 1).toNat = m + 1 by omega]
    refine for_range (lo := 0) (n := m + 1) (fun i σ H' => ∃ (v1 v2 v3 v4 : Option V), σ = [some (.int (m : Nat)), some (.ref f), some (.bl rests), some (.ref pF), some (.ref pR), v1, v2, v3, v4] ∧ Same H H' ∧ LN H' pF (Ct.rows ch rests i).1 pF pR ∧ LN H' pR (Ct.rows ch rests i).2 pF pR)
      ⟨none, none, none, none, rfl, SF.trans SR, ⟨[], rfl, LF2, fun i c h => by simp at h, fun c h => by simp at h⟩, ⟨[], rfl, LR, fun i c h => by simp at h, fun c h => by simp at h⟩⟩ ?_ ?_
    · rintro i σ H3 hi ⟨v1, v2, v3, v4, rfl, S3, NF, NR⟩
      rw [Int.zero_add]
      obtain ⟨bF, bR⟩ := hb i (by omega)
      obtain ⟨mF, mR⟩ := rows_lens ch rests i
      obtain ⟨rl1, rl2⟩ := Ct.rows_len ch rests i
      -- row = [giving(..) for names in range(givens + 2)]
      refine ⟨_, rfl, _, _, rfl, rfl, _, rfl, by omega, by omega, fun D nD => ?_⟩
      rw [show (((i : Nat) : Int) + 2).toNat = i + 2 by omega]
      have offD : ∀ c o, H3 c = some o → c ≠ D := fun c o hc => ne_of_none hc nD
      have nDp : D ≠ pF ∧ D ≠ pR := ⟨NF.ne nD, NR.ne nD⟩
      refine lc_range (lo := 0) (n := i + 2) (fun j H' => Same H3 H' ∧ H' D = some (.lst (((List.range j).map (Ct.giving ch (Ct.rows ch rests i).1 (Ct.rows ch rests i).2)).map nv))) ⟨same_upd nD, upd_same⟩ ?_ ?_
      · rintro j H' hj ⟨S4, L4⟩
        rw [Int.zero_add]
        refine ⟨rfl, _, rfl, _, rfl, _, rfl, _, rfl, pF, pR, f, _, _, j, ch, rfl, HD, bch, (NF.same S4).ll, (NR.same S4).ll, by omega, by omega, by omega, bF, bR, fun l hl => Nat.le_trans (mF l hl) (by omega), fun l hl => Nat.le_trans (mR l hl) (by omega), fun H5 S5 => ?_⟩
        refine ⟨_, S5 _ _ L4, by simp; exact small_lt (m := 1000) (by omega) (by decide), fun c o hc => by rw [upd_ne (offD c o hc)]; exact (S4.trans S5) _ _ hc, ?_⟩
        rw [upd_same, List.range_succ, List.map_append, List.map_append]
        rfl
      · rintro H4 ⟨S4, L4⟩
        have NF4 := NF.same S4
        have NR4 := NR.same S4
        have S04 := S3.trans S4
        have fD : H D = none := S3.free nD
        -- if givens == 0: row[1] = 1
        refine ⟨fun σ' H' => ∃ v7, σ' = [some (.int (m : Nat)), some (.ref f), some (.bl rests), some (.ref pF), some (.ref pR), some (.int (i : Nat)), some (.ref D), v7, v4] ∧ Same H H' ∧ LN H' pF (Ct.rows ch rests i).1 pF pR ∧ LN H' pR (Ct.rows ch rests i).2 pF pR ∧ H' D = some (.lst ((Ct.rowOf ch (Ct.rows ch rests i).1 (Ct.rows ch rests i).2 i).map nv)), ?_, ?_⟩
        · refine ⟨_, rfl, rfl, _, rfl, ?_⟩
          rw [intz]
          by_cases hc : i = 0
          · rw [decide_eq_true hc]
            have S5 : ∀ o, Same H3 (upd H4 D o) := fun o c u hcu => by rw [upd_ne (offD c u hcu)]; exact S4 _ _ hcu
            refine iteT ⟨_, rfl, D, _, _, 1, rfl, rfl, L4, ixN_lt (j := 1) (by simp), v3, rfl, S3.trans (S5 _), NF.same (S5 _), NR.same (S5 _), ?_⟩
            rw [upd_same]
            unfold Ct.rowOf
            rw [if_pos hc, show V.int 1 = nv 1 from rfl, set_nv]
          · rw [decide_eq_false hc]
            refine iteF ⟨v3, rfl, S04, NF4, NR4, ?_⟩
            unfold Ct.rowOf
            rw [if_neg hc]
            exact L4
        · rintro σ' H5 ⟨v7, rfl, S5, NF5, NR5, L5⟩
          generalize hrow : Ct.rowOf ch (Ct.rows ch rests i).1 (Ct.rows ch rests i).2 i = row at *
          have hrl : row.length = i + 2 := by rw [← hrow, row_len]
          -- whole = list(row)
          refine ⟨_, rfl, D, _, rfl, .inl (SqL.of L5), fun W nW => ?_⟩
          have S6 := same_upd (o := HO.lst (row.map nv)) nW
          have NF6 := NF5.same S6
          have NR6 := NR5.same S6
          have L6 := S6 _ _ L5
          have LW : upd H5 W (.lst (row.map nv)) W = some (.lst (row.map nv)) := upd_same
          have nWD : W ≠ D := (ne_of_none L5 nW).symm
          have nWp : W ≠ pF ∧ W ≠ pR := ⟨NF5.ne nW, NR5.ne nW⟩
          have fW : H W = none := S5.free nW
          have S06 := S5.trans S6
          generalize upd H5 W (.lst (row.map nv)) = H6 at *
          -- for names in reversed(range(givens + 1))
          have en : (((i : Nat) : Int) + 1 - 0).toNat = i + 1 := by omega
          refine ⟨_, rfl, _, _, rfl, rfl, _, rfl, by decide, by decide, by omega, by omega, for_rangeC (lo := (0 : Int) + ((((i : Nat) : Int) + 1 - 0).toNat : Nat) - 1) (c := -1) (n := (((i : Nat) : Int) + 1 - 0).toNat)
            (fun j σ H' => ∃ (v7 : Option V) (L : List Nat), σ = [some (.int (m : Nat)), some (.ref f), some (.bl rests), some (.ref pF), some (.ref pR), some (.int (i : Nat)), some (.ref D), v7, some (.ref W)] ∧ Same H5 H' ∧ H' W = some (.lst (L.map nv)) ∧ L.length = i + 2 ∧ ∀ t, t < i + 2 → Ct.g L t = if i + 1 - j ≤ t then Ct.g (Ct.sufs row) t else Ct.g row t)
            ⟨v7, row, rfl, S6, LW, hrl, fun t ht => ?_⟩ ?_ ?_⟩
          · by_cases h : i + 1 - 0 ≤ t
            · rw [if_pos h]
              have : t = i + 1 := by omega
              subst this
              rw [sufs_g row (i + 1) (by omega), Ct.g_out (l := Ct.sufs row) (by rw [sufs_len]; omega)]
              rfl
            · rw [if_neg h]
          · rintro j σ H7 hj ⟨v7, L, rfl, S7, L7, hL, hg⟩
            rw [en] at hj
            obtain ⟨t, ht⟩ : ∃ t : Nat, t + j = i := ⟨i - j, by omega⟩
            have eat : ((0 : Int) + ((((i : Nat) : Int) + 1 - 0).toNat : Nat) - 1) + (j : Nat) * (-1) = (t : Int) := by rw [en]; omega
            rw [eat]
            have et : ((t : Nat) : Int) + 1 = ((t + 1 : Nat) : Int) := by omega
            refine ⟨_, rfl, _, rfl, W, _, _, t, rfl, rfl, SqL.of L7, nv_get (by omega), _, rfl, _, rfl, _, _, rfl, rfl, ?_⟩
            dsimp only
            rw [et]
            refine ⟨W, _, _, _, rfl, rfl, SqL.of L7, atI_nat (nv_get (by omega)), _, _, rfl, rfl, W, _, _, t, rfl, rfl, L7, ixN_lt (by rw [List.length_map]; omega), ?_⟩
            refine ⟨_, L.set t (Ct.g L t + Ct.g L (t + 1)), rfl, fun c o hc => by rw [upd_ne (ne_of_none hc nW)]; exact S7 _ _ hc, ?_, by rw [List.length_set]; exact hL, fun t' ht' => ?_⟩
            · rw [upd_same, ← set_nv, ← nv_add]
            · by_cases e : t' = t
              · subst e
                rw [if_pos (by omega), sufs_g row t' (by omega)]
                have h1 := hg t' (by omega)
                have h2 := hg (t' + 1) (by omega)
                rw [if_neg (by omega)] at h1
                rw [if_pos (by omega)] at h2
                rw [← h1, ← h2]
                exact Ct.g_some (List.getElem?_set_self (by omega))
              · have e1 : Ct.g (L.set t (Ct.g L t + Ct.g L (t + 1))) t' = Ct.g L t' := by
                  refine Ct.g_some ?_
                  rw [List.getElem?_set_ne (by omega)]
                  exact Ct.g_in (by omega)
                rw [e1, hg t' ht']
                by_cases h : i + 1 - j ≤ t'
                · rw [if_pos h, if_pos (by omega)]
                · rw [if_neg h, if_neg (by omega)]
          · rintro σ H7 ⟨v7, L, rfl, S7, L7, hL, hg⟩
            rw [en] at hg
            have eL : L = Ct.sufs row := Ct.ext_g (by rw [sufs_len]; omega) fun t ht => by
              rw [sufs_len] at ht
              rw [hg t (by omega), if_pos (by omega)]
            subst eL
            have NF7 := NF5.same S7
            have NR7 := NR5.same S7
            have L57 := S7 _ _ L5
            obtain ⟨as1, q1, q2, _⟩ := id NF7
            obtain ⟨as2, q3, q4, _⟩ := id NR7
            -- rows.append(whole)
            refine ⟨_, rfl, .inl ⟨rfl, _, SqL.of q4⟩, _, rfl, pR, _, _, rfl, rfl, q4, (by rw [List.length_map, q3, rl2]; exact small_lt (m := 100) (by omega) (by decide)), ?_⟩
            have NR8 := NR7.push (.inr rfl) L7 nWp.1 nWp.2 q4
            have NF8 := NF7.off (o := .lst (as2.map V.ref ++ [V.ref W])) (.inr rfl) hFR
            have LW8 : upd H7 pR (.lst (as2.map V.ref ++ [V.ref W])) W = some (.lst ((Ct.sufs row).map nv)) := by rw [upd_ne nWp.2]; exact L7
            have LD8 : upd H7 pR (.lst (as2.map V.ref ++ [V.ref W])) D = some (.lst (row.map nv)) := by rw [upd_ne nDp.2]; exact L57
            have S8 : Same H (upd H7 pR (.lst (as2.map V.ref ++ [V.ref W]))) := fun c o hc => by rw [upd_ne (off c o hc).2]; exact S7 _ _ (S5 _ _ hc)
            have q28 : upd H7 pR (.lst (as2.map V.ref ++ [V.ref W])) pF = some (.lst (as1.map V.ref)) := by rw [upd_ne hFR]; exact q2
            generalize upd H7 pR (.lst (as2.map V.ref ++ [V.ref W])) = H8 at *
            -- firsts.append(row if rests else whole)
            have fin : ∀ Z r, H8 Z = some (.lst (r.map nv)) → Z ≠ pF → Z ≠ pR → r = (if rests then row else Ct.sufs row) → (∃ v1 v2 v3 v4, [some (.int (m : Nat)), some (.ref f), some (.bl rests), some (.ref pF), some (.ref pR), some (.int (i : Nat)), some (.ref D), v7, some (.ref W)] = [some (.int (m : Nat)), some (.ref f), some (.bl rests), some (.ref pF), some (.ref pR), v1, v2, v3, v4] ∧ Same H (upd H8 pF (.lst (as1.map V.ref ++ [V.ref Z]))) ∧
                LN (upd H8 pF (.lst (as1.map V.ref ++ [V.ref Z]))) pF (Ct.rows ch rests (i + 1)).1 pF pR ∧ LN (upd H8 pF (.lst (as1.map V.ref ++ [V.ref Z]))) pR (Ct.rows ch rests (i + 1)).2 pF pR) := by
              intro Z r hZ z1 z2 hr'
              refine ⟨_, _, _, _, rfl, fun c o hc => by rw [upd_ne (off c o hc).1]; exact S8 _ _ hc, ?_, ?_⟩
              · have := NF8.push (.inl rfl) hZ z1 z2 q28
                show LN _ _ ((Ct.rows ch rests i).1 ++ [_]) _ _
                rw [hrow, ← hr']
                exact this
              · show LN _ _ ((Ct.rows ch rests i).2 ++ [_]) _ _
                rw [hrow]
                exact NR8.off (.inl rfl) hFR.symm
            refine ⟨_, rfl, .inl ⟨rfl, _, SqL.of q28⟩, _, rfl, ⟨_, rfl, ?_⟩⟩
            cases rests with
            | true =>
              refine iteT ⟨_, rfl, pF, _, _, rfl, rfl, q28, (by rw [List.length_map, q1, rl1]; exact small_lt (m := 100) (by omega) (by decide)), ?_⟩
              exact fin D row LD8 nDp.1 nDp.2 rfl
            | false =>
              refine iteF ⟨_, rfl, pF, _, _, rfl, rfl, q28, (by rw [List.length_map, q1, rl1]; exact small_lt (m := 100) (by omega) (by decide)), ?_⟩
              exact fin W _ LW8 nWp.1 nWp.2 rfl
    · rintro σ H3 ⟨v1, v2, v3, v4, rfl, S3, NF, NR⟩
      exact ⟨_, rfl, k H3 pR S3 NR.ll⟩
end
end Kk

set_option maxHeartbeats 4000000
namespace Kk
open PySem PySem.Spec PyProof.Rows L2
/-! ### what is reckoned: counts to MX givens -/
def MX : Nat := 40
def tellsB (P : List (List Nat)) (ch : Nat → Nat → Nat) : Bool := (List.range P.length).all fun n => decide (n + 1 ≤ (Ct.gg P n).length) && (List.range (n + 1)).all fun i => Ct.g (Ct.gg P n) i == ch n i
theorem tells_of {P : List (List Nat)} {ch : Nat → Nat → Nat} (h : tellsB P ch = true) : Ct.Tells P ch := fun n hn => by
  have := List.all_eq_true.mp h n (List.mem_range.mpr hn)
  rw [Bool.and_eq_true, decide_eq_true_eq] at this
  refine ⟨Ct.gg P n, ?_, this.1, fun i hi => ?_⟩
  · unfold Ct.gg; rw [List.getD_eq_getElem?_getD, List.getElem?_eq_getElem hn]; rfl
  · have := List.all_eq_true.mp this.2 i (List.mem_range.mpr (by omega))
    exact eq_of_beq this
theorem tellsA : Ct.Tells (Ct.pasc (MX + 2)) chA := tells_of (by decide +kernel)
theorem tellsE : Ct.Tells (Ct.onesP (MX + 2)) chE := tells_of (by decide +kernel)
theorem bchA : Bch chA := fun n k hn => by
  by_cases h : k ≤ n
  · have : ((List.range 43).all fun n => (List.range 43).all fun k => decide (chA n k < 2 ^ 1000)) = true := by decide +kernel
    have := List.all_eq_true.mp (List.all_eq_true.mp this n (List.mem_range.mpr (by omega))) k (List.mem_range.mpr (by omega))
    exact of_decide_eq_true this
  · have e : PySem.W.mcComb n k = 0 := PySem.W.mcComb_above (by omega)
    unfold chA
    rw [e]
    exact Nat.two_pow_pos _
theorem bchE : Bch chE := fun n k hn => by show 1 < _; exact Nat.one_lt_two_pow (by decide)
/-- all numbers are small -/
def smB (p : List (List Nat) × List (List Nat)) : Bool := p.1.all (fun r => r.all fun x => decide (x < 2 ^ 1000)) && p.2.all (fun r => r.all fun x => decide (x < 2 ^ 1000))
theorem bdl_of {l : List (List Nat)} (h : (l.all fun r => r.all fun x => decide (x < 2 ^ 1000)) = true) : BdL l := fun r hr x hx => of_decide_eq_true (List.all_eq_true.mp (List.all_eq_true.mp h r hr) x hx)
theorem bd_of {P : List (List Nat)} {ch : Nat → Nat → Nat} {rests : Bool} (T : Ct.Tells P ch) (hl : MX + 2 ≤ P.length) (h : smB (Ct.rowsR P rests (MX + 1)) = true) (j : Nat) (hj : j ≤ MX + 1) : BdL (Ct.rows ch rests j).1 ∧ BdL (Ct.rows ch rests j).2 := by
  rw [Ct.rowsR_eq, Ct.rowsF_eq T rests (MX + 1) (by omega)] at h
  unfold smB at h
  rw [Bool.and_eq_true] at h
  obtain ⟨l1, l2⟩ := Ct.rows_len ch rests j
  refine ⟨fun r hr => ?_, fun r hr => ?_⟩
  · obtain ⟨i, hi, e⟩ := List.mem_iff_getElem.mp hr
    have q := (Ct.rows_pre ch rests hj (i := i) (by omega)).1
    rw [List.getElem?_eq_getElem hi, e] at q
    exact bdl_of h.1 r (List.mem_of_getElem? q.symm)
  · obtain ⟨i, hi, e⟩ := List.mem_iff_getElem.mp hr
    have q := (Ct.rows_pre ch rests hj (i := i) (by omega)).2
    rw [List.getElem?_eq_getElem hi, e] at q
    exact bdl_of h.2 r (List.mem_of_getElem? q.symm)
theorem bdA (j : Nat) (hj : j ≤ MX + 1) : BdL (Ct.rows chA false j).1 ∧ BdL (Ct.rows chA false j).2 := bd_of tellsA (by decide +kernel) (by decide +kernel) j hj
theorem bdR (j : Nat) (hj : j ≤ MX + 1) : BdL (Ct.rows chA true j).1 ∧ BdL (Ct.rows chA true j).2 := bd_of tellsA (by decide +kernel) (by decide +kernel) j hj
theorem bdE (j : Nat) (hj : j ≤ MX + 1) : BdL (Ct.rows chE false j).1 ∧ BdL (Ct.rows chE false j).2 := bd_of tellsE (by decide +kernel) (by decide +kernel) j hj
end Kk

set_option maxHeartbeats 4000000
namespace Kk
open PySem PySem.Spec PyProof.Rows L2
section
variable {P : Program} {w : World} {K : PySem.W.Frag} {mg : Str → Option Value} {base : Heap}
def spCountAt : Sp := fun vs H Q _ => ∃ (a : Addr) (R : List (List Nat)) (k n : Nat), vs = [.ref a, .int (k : Nat), .int (n : Nat)] ∧ LL H a R ∧ k < R.length ∧ Q (nv (Ct.g (Ct.gg R k) n)) H
abbrev s_count_at : Stmt := (top 17)
theorem sc_count_at : FnScope ["rows", "givens", "names"] ["rows", "givens", "names"] (defScope s_count_at) := ⟨rfl, rfl, rfl, by decide +kernel, rfl, by decide +kernel, by decide +kernel⟩
theorem c_count_at (B : Bt mg) (D : DefAt K mg "count_at" s_count_at) : Cal P w K mg base "count_at" 1 ["rows", "givens", "names"] spCountAt := by
  refine cal_of D sc_count_at (fun _ _ _ _ _ _ us hl => match us, hl with | [_, _, _], _ => rfl) (fun vs H Q E h => ?_) (fun fa cdv A outer st0 H vs Q E hr h => ?_)
  · obtain ⟨a, R, k, n, rfl, _⟩ := h
    rfl
  · obtain ⟨a, R, k, n, rfl, hR, hk, kk⟩ := h
    refine ⟨_, (pss_one (ps_ret (pe_ifExp (pt_cmpR op_lt (pv 2) (pe_callB call_len_seq (by rfl) B.b_len (by decide +kernel) (pa_cons (pe_ix ix_list (pv 0) (pv 1) (fun _ _ => rfl)) pa_nil)) (nomark _)) (pe_ix ix_list (pe_ix ix_list (pv 0) (pv 1) (fun _ _ => rfl)) (pv 2) (fun _ _ => rfl)) pe_int))), ?_⟩
    obtain ⟨xs, b, e1, e2, e3, e4⟩ := hR.get hk
    refine ⟨_, rfl, _, rfl, _, rfl, a, _, _, _, rfl, rfl, SqL.of e1, atI_nat e3, _, _, rfl, .inl (SqL.of e4), _, _, rfl, rfl, _, rfl, ?_⟩
    rw [List.length_map]
    by_cases h : n < (Ct.gg R k).length
    · rw [decide_eq_true (show ((n : Nat) : Int) < (((Ct.gg R k).length : Nat) : Int) by omega)]
      refine iteT ⟨_, rfl, _, rfl, a, _, _, _, rfl, rfl, SqL.of e1, atI_nat e3, _, rfl, b, _, _, _, rfl, rfl, SqL.of e4, atI_nat (nv_get h), kk⟩
    · rw [decide_eq_false (show ¬ ((n : Nat) : Int) < (((Ct.gg R k).length : Nat) : Int) by omega)]
      rw [Ct.g_out (by omega)] at kk
      exact iteF kk
/-- how many there are with k givens, n names -/
def cnt (ch : Nat → Nat → Nat) (rests : Bool) (k n : Nat) : Nat := Ct.g (Ct.gg (Ct.rows ch rests (k + 1)).2 k) n
def spMany (ch : Nat → Nat → Nat) (rests : Bool) : Sp := fun vs H Q _ => ∃ k n : Nat, vs = [.int (k : Nat), .int (n : Nat)] ∧ k ≤ MX ∧ n ≤ 40 ∧ ∀ H', Same H H' → Q (nv (cnt ch rests k n)) H'
abbrev s_many : Stmt := (top 8)
theorem sc_many : FnScope ["givens", "names"] ["givens", "names"] (defScope s_many) := ⟨rfl, rfl, rfl, by decide +kernel, rfl, by decide +kernel, by decide +kernel⟩
theorem c_many (B : Bt mg) (D : DefAt K mg "many" s_many) (Ccheck_counts : Cal P w K mg base "check_counts" 2 ["givens", "names"] spCheckCounts) (Crows_to : Cal P w K mg base "rows_to" 3 ["most", "choices", "rests"] (spRowsTo P w K mg base)) (Ccount_at : Cal P w K mg base "count_at" 1 ["rows", "givens", "names"] spCountAt)
    (Call_choices : Cal P w K mg base "all_choices" 1 ["names", "own"] (spChoice chA)) : Cal P w K mg base "many" 4 ["givens", "names"] (spMany chA false) := by
  refine cal_of D sc_many (fun _ _ _ _ _ _ us hl => match us, hl with | [_, _], _ => rfl) (fun vs H Q E h => ?_) (fun fa cdv A outer st0 H vs Q E hr h => ?_)
  · obtain ⟨k, n, rfl, _⟩ := h
    rfl
  · obtain ⟨k, n, rfl, hk, hn, kk⟩ := h
    obtain ⟨f, fd, m_all_choices, hkp, hbi, F⟩ := Call_choices.ex
    refine ⟨_, (pss_cons (ps_expr (pe_c Ccheck_counts (hr.mono (by decide)) (pa_cons (pv 0) (pa_cons (pv 1) pa_nil))))
      (pss_one (ps_ret (pe_c Ccount_at (hr.mono (by decide)) (pa_cons (pe_c Crows_to (hr.mono (by decide)) (pa_cons (pv 0) (pa_cons (pe_gr m_all_choices) (pa_cons pe_bl pa_nil)))) (pa_cons (pv 0) (pa_cons (pv 1) pa_nil))))))), ?_⟩
    have hM : MX ≤ 40 := by decide
    refine ⟨_, rfl, _, rfl, k, n, rfl, by omega, hn, fun H1 S1 => ?_⟩
    refine ⟨_, rfl, f, k, chA, false, rfl, ⟨fd, _, F, hkp, hbi⟩, bchA, by omega, fun j hj => bdA j (by omega), fun H2 a S2 hR => ?_⟩
    refine ⟨_, rfl, _, rfl, a, _, k, n, rfl, hR, ?_, ?_⟩
    · rw [(Ct.rows_len _ _ _).2]; omega
    · exact kk H2 (S1.trans S2)
abbrev s_many_rests : Stmt := (top 9)
theorem sc_many_rests : FnScope ["givens", "names"] ["givens", "names"] (defScope s_many_rests) := ⟨rfl, rfl, rfl, by decide +kernel, rfl, by decide +kernel, by decide +kernel⟩
theorem c_many_rests (B : Bt mg) (D : DefAt K mg "many_rests" s_many_rests) (Ccheck_counts : Cal P w K mg base "check_counts" 2 ["givens", "names"] spCheckCounts) (Crows_to : Cal P w K mg base "rows_to" 3 ["most", "choices", "rests"] (spRowsTo P w K mg base)) (Ccount_at : Cal P w K mg base "count_at" 1 ["rows", "givens", "names"] spCountAt)
    (Call_choices : Cal P w K mg base "all_choices" 1 ["names", "own"] (spChoice chA)) : Cal P w K mg base "many_rests" 4 ["givens", "names"] (spMany chA true) := by
  refine cal_of D sc_many_rests (fun _ _ _ _ _ _ us hl => match us, hl with | [_, _], _ => rfl) (fun vs H Q E h => ?_) (fun fa cdv A outer st0 H vs Q E hr h => ?_)
  · obtain ⟨k, n, rfl, _⟩ := h
    rfl
  · obtain ⟨k, n, rfl, hk, hn, kk⟩ := h
    obtain ⟨f, fd, m_all_choices, hkp, hbi, F⟩ := Call_choices.ex
    refine ⟨_, (pss_cons (ps_expr (pe_c Ccheck_counts (hr.mono (by decide)) (pa_cons (pv 0) (pa_cons (pv 1) pa_nil))))
      (pss_one (ps_ret (pe_c Ccount_at (hr.mono (by decide)) (pa_cons (pe_c Crows_to (hr.mono (by decide)) (pa_cons (pv 0) (pa_cons (pe_gr m_all_choices) (pa_cons pe_bl pa_nil)))) (pa_cons (pv 0) (pa_cons (pv 1) pa_nil))))))), ?_⟩
    have hM : MX ≤ 40 := by decide
    refine ⟨_, rfl, _, rfl, k, n, rfl, by omega, hn, fun H1 S1 => ?_⟩
    refine ⟨_, rfl, f, k, chA, true, rfl, ⟨fd, _, F, hkp, hbi⟩, bchA, by omega, fun j hj => bdR j (by omega), fun H2 a S2 hR => ?_⟩
    refine ⟨_, rfl, _, rfl, a, _, k, n, rfl, hR, ?_, ?_⟩
    · rw [(Ct.rows_len _ _ _).2]; omega
    · exact kk H2 (S1.trans S2)
abbrev s_many_in_order : Stmt := (top 10)
theorem sc_many_in_order : FnScope ["givens", "names"] ["givens", "names"] (defScope s_many_in_order) := ⟨rfl, rfl, rfl, by decide +kernel, rfl, by decide +kernel, by decide +kernel⟩
theorem c_many_in_order (B : Bt mg) (D : DefAt K mg "many_in_order" s_many_in_order) (Ccheck_counts : Cal P w K mg base "check_counts" 2 ["givens", "names"] spCheckCounts) (Crows_to : Cal P w K mg base "rows_to" 3 ["most", "choices", "rests"] (spRowsTo P w K mg base)) (Ccount_at : Cal P w K mg base "count_at" 1 ["rows", "givens", "names"] spCountAt)
    (Celdest_choice : Cal P w K mg base "eldest_choice" 1 ["names", "own"] (spChoice chE)) : Cal P w K mg base "many_in_order" 4 ["givens", "names"] (spMany chE false) := by
  refine cal_of D sc_many_in_order (fun _ _ _ _ _ _ us hl => match us, hl with | [_, _], _ => rfl) (fun vs H Q E h => ?_) (fun fa cdv A outer st0 H vs Q E hr h => ?_)
  · obtain ⟨k, n, rfl, _⟩ := h
    rfl
  · obtain ⟨k, n, rfl, hk, hn, kk⟩ := h
    obtain ⟨f, fd, m_eldest_choice, hkp, hbi, F⟩ := Celdest_choice.ex
    refine ⟨_, (pss_cons (ps_expr (pe_c Ccheck_counts (hr.mono (by decide)) (pa_cons (pv 0) (pa_cons (pv 1) pa_nil))))
      (pss_one (ps_ret (pe_c Ccount_at (hr.mono (by decide)) (pa_cons (pe_c Crows_to (hr.mono (by decide)) (pa_cons (pv 0) (pa_cons (pe_gr m_eldest_choice) (pa_cons pe_bl pa_nil)))) (pa_cons (pv 0) (pa_cons (pv 1) pa_nil))))))), ?_⟩
    have hM : MX ≤ 40 := by decide
    refine ⟨_, rfl, _, rfl, k, n, rfl, by omega, hn, fun H1 S1 => ?_⟩
    refine ⟨_, rfl, f, k, chE, false, rfl, ⟨fd, _, F, hkp, hbi⟩, bchE, by omega, fun j hj => bdE j (by omega), fun H2 a S2 hR => ?_⟩
    refine ⟨_, rfl, _, rfl, a, _, k, n, rfl, hR, ?_, ?_⟩
    · rw [(Ct.rows_len _ _ _).2]; omega
    · exact kk H2 (S1.trans S2)
end
end Kk

set_option maxHeartbeats 4000000
namespace Kk
open PySem PySem.Spec PyProof.Rows L2
theorem atI_last {α : Type} {xs : List α} {j : Nat} {v : α} (h : xs[j]? = some v) (hl : xs.length = j + 1) : atI xs (-1) = some v := by
  unfold atI ixN
  rw [if_neg (by decide), if_pos (by omega)]
  show xs[_]? = _
  rw [show ((-1 : Int) + (xs.length : Int)).toNat = j by omega]
  exact h
/-- the counts that the law makes -/
def aL : Nat → List Nat
  | 0 => [1, 5]
  | t + 1 => aL t ++ [6 * (t + 2) * Ct.g (aL t) (t + 1) + ((List.range t).map fun k => Ct.g (aL t) (k + 1) * Ct.g (aL t) (t - k)).sum]
theorem aL_len (t : Nat) : (aL t).length = t + 2 := by
  induction t with
  | zero => rfl
  | succ t ih => simp [aL, ih]
theorem aL_pre {s t i : Nat} (h : s ≤ t) (hi : i < s + 2) : Ct.g (aL s) i = Ct.g (aL t) i := by
  induction h with
  | refl => rfl
  | @step m h ih =>
    have h' : s ≤ m := h
    rw [ih]
    have := aL_len m
    refine (Ct.g_some ?_).symm
    show (aL m ++ [_])[i]? = _
    rw [List.getElem?_append_left (by omega)]
    exact Ct.g_in (by omega)
theorem bdaL : Bd (aL 40) := fun x hx => by
  have : ((aL 40).all fun x => decide (x < 2 ^ 1000)) = true := by decide +kernel
  exact of_decide_eq_true (List.all_eq_true.mp this x hx)
theorem bd_aL {t : Nat} (ht : t ≤ 40) (i : Nat) : Ct.g (aL t) i < 2 ^ 1000 := by
  by_cases hi : i < t + 2
  · rw [aL_pre ht hi]; exact bdaL.g i
  · rw [Ct.g_out (by rw [aL_len]; omega)]; exact Nat.two_pow_pos _
def prP (c m : Nat) : Nat → Nat
  | 0 => 1
  | j + 1 => prP c m j * (m - c * j)
theorem prP_lt (c m : Nat) (hm : m ≤ 130) : ∀ j, prP c m j < 2 ^ (8 * j + 1)
  | 0 => by show 1 < _; decide
  | j + 1 => by
    have ih := prP_lt c m hm j
    show prP c m j * (m - c * j) < _
    rw [show 8 * (j + 1) + 1 = (8 * j + 1) + 8 by omega, Nat.pow_add]
    exact Nat.mul_lt_mul'' ih (by omega)
def prK (c m : Nat) : Nat := if c = 1 then m - 1 else m / 2
def prN (c m : Nat) : Nat := prP c m (prK c m)
def rgB (i j c : Int) (n : Nat) : Bool := decide (c ≠ 0) && (decide (c.natAbs < 1073741824) && (Builtin.Range.small i j c && Builtin.Range.rangeSize i j c == n))
theorem rg_of {i j c : Int} {n : Nat} (h : rgB i j c n = true) : RgC i j c n := by
  unfold rgB at h
  simp only [Bool.and_eq_true, decide_eq_true_eq, beq_iff_eq] at h
  exact ⟨h.1, h.2.1, h.2.2.1, h.2.2.2⟩
theorem rgc (m c : Nat) (hm : m ≤ 130) (hc : c = 1 ∨ c = 2) : RgC (m : Int) 1 (-(c : Int)) (prK c m) := by
  have : ((List.range 131).all fun m => rgB (m : Int) 1 (-((1 : Nat) : Int)) (prK 1 m) && rgB (m : Int) 1 (-((2 : Nat) : Int)) (prK 2 m)) = true := by decide +kernel
  have := List.all_eq_true.mp this m (List.mem_range.mpr (by omega))
  rw [Bool.and_eq_true] at this
  rcases hc with rfl | rfl
  · exact rg_of this.1
  · exact rg_of this.2
section
variable {P : Program} {w : World} {K : PySem.W.Frag} {mg : Str → Option Value} {base : Heap}
def spCounts : Sp := fun vs H Q _ => ∃ t : Nat, vs = [.int ((t + 1 : Nat) : Int)] ∧ t ≤ 40 ∧ ∀ H' a, Same H H' → H' a = some (.lst ((aL t).map nv)) → Q (.ref a) H'
abbrev s_counts : Stmt := (top 23)
theorem sc_counts : FnScope ["_law_most", "_law_found", "_law_limit", "_law_k"] ["_law_most"] (defScope s_counts) := ⟨rfl, rfl, rfl, by decide +kernel, rfl, by decide +kernel, by decide +kernel⟩
theorem c_counts (B : Bt mg) (D : DefAt K mg "_law_counts" s_counts) : Cal P w K mg base "_law_counts" 1 ["_law_most"] spCounts := by
  refine cal_of D sc_counts (fun _ _ _ _ _ _ us hl => match us, hl with | [_], _ => rfl) (fun vs H Q E h => ?_) (fun fa cdv A outer st0 H vs Q E hr h => ?_)
  · obtain ⟨t, rfl, _⟩ := h
    rfl
  · obtain ⟨t, rfl, ht, k⟩ := h
    refine ⟨_, (pss_cons (ps_set (i := 1) sc_counts.nd rfl (by first | exact Or.inl rfl | exact Or.inr rfl) (pe_lst (pa_cons pe_int (pa_cons pe_int pa_nil))))
      (pss_cons (ps_for PassesOwn.never rfl (pi_range2 (by rfl) B.b_range (pa_cons pe_int (pa_cons (pe_op op_add (pv 0) pe_int) pa_nil))) (pg_name (i := 2) sc_counts.nd rfl (by first | exact Or.inl rfl | exact Or.inr rfl)) (pss_one (ps_expr (pe_bm PySem.F.plainAttrs_list PySem.F.slot_list_append PySem.F.type_list_append mt_append (pv 1) (pa_cons (pe_op op_add (pe_op op_mulW (pe_op op_mulW pe_int (pv 2)) (pe_ix ix_list (pv 1) (pe_un un_neg pe_int) (fun _ _ => rfl))) (pe_callB (cr_sum rfl) (by rfl) B.b_sum (by decide +kernel) (pa_cons (pe_lc (own := [("_law_k", 3)]) (g := (gName 3)) (tt := tYes) (te := (tOp _ (tOp (rIxL K) _ _) (tOp (rIxL K) _ _))) rfl sc_counts.nd (pi_range2 (by rfl) B.b_range (pa_cons pe_int (pa_cons (pe_op op_sub (pv 2) pe_int) pa_nil))) (blkOk_by (own := [("_law_k", 3)]) (N := ["_law_most", "_law_found", "_law_limit", "_law_k"]) (sc := defScope s_counts) (by decide +kernel)) (fun _ _ _ _ _ => (pg_name (i := 3) sc_counts.nd rfl (by first | exact Or.inl rfl | exact Or.inr rfl))) (fun _ _ _ _ _ => pts_nil) (fun _ _ _ _ _ => (pe_op op_mulW (pe_ix ix_list (pv 1) (pv 3) (fun _ _ => rfl)) (pe_ix ix_list (pv 1) (pe_op op_sub (pe_op op_sub (pv 2) pe_int) (pv 3)) (fun _ _ => rfl))))) pa_nil))) pa_nil)))))
      (pss_one (ps_ret (pv 1))))), ?_⟩
    refine ⟨(by show 2 ≤ sizeLine; decide), fun a na => ?_⟩
    have S1 := same_upd (o := HO.lst [V.int 1, V.int 5]) na
    have L1 : upd H a (.lst [V.int 1, V.int 5]) a = some (.lst ((aL 0).map nv)) := upd_same
    generalize upd H a (.lst [V.int 1, V.int 5]) = H1 at *
    refine ⟨_, rfl, _, _, rfl, rfl, _, _, rfl, ⟨by omega, by omega, by omega, by omega⟩, ?_⟩
    rw [show (((t + 1 : Nat) : Int) + 1 - 2).toNat = t by omega]
    refine for_range (lo := 2) (n := t) (fun i σ H' => ∃ (v1 v2 : Option V), σ = [some (.int ((t + 1 : Nat) : Int)), some (.ref a), v1, v2] ∧ Same H H' ∧ H' a = some (.lst ((aL i).map nv))) ⟨_, _, rfl, S1, L1⟩ ?_ ?_
    · rintro i σ H2 hi ⟨v1, v2, rfl, S2, L2⟩
      have la := aL_len i
      have bd := bd_aL (t := i) (by omega)
      have lm : ((aL i).map nv).length = i + 2 := by rw [List.length_map, la]
      -- found.append(6 * limit * found[-1] + sum(..))
      refine ⟨_, rfl, .inl ⟨rfl, _, SqL.of L2⟩, _, rfl, _, _, rfl, rfl, wide_mul (a := 3) (b := 62) (by decide) (by omega) (by decide) (by decide) (by decide), ?_⟩
      refine ⟨_, rfl, _, rfl, a, _, _, _, rfl, rfl, SqL.of L2, atI_last (nv_get (i := i + 1) (by omega)) lm, _, _, rfl, rfl, ?_, ?_⟩
      · rw [show (6 : Int) * (2 + (i : Nat)) = ((6 * (i + 2) : Nat) : Int) by omega]
        exact nat_wide (m := 62) (n := 1000) (by omega) (bd _) (by decide) (by decide) (by decide)
      refine ⟨_, rfl, _, _, rfl, rfl, _, _, rfl, ⟨by omega, by omega, by omega, by omega⟩, fun D nD => ?_⟩
      rw [show ((2 : Int) + (i : Nat) - 1 - 1).toNat = i by omega]
      have offD : ∀ c o, H2 c = some o → c ≠ D := fun c o hc => ne_of_none hc nD
      refine lc_range (lo := 1) (n := i) (fun j H' => Same H2 H' ∧ H' D = some (.lst (((List.range j).map fun k => Ct.g (aL i) (k + 1) * Ct.g (aL i) (i - k)).map nv))) ⟨same_upd nD, upd_same⟩ ?_ ?_
      · rintro j H' hj ⟨S3, L3⟩
        have La := S3 _ _ L2
        refine ⟨rfl, _, rfl, _, rfl, a, _, _, _, rfl, rfl, SqL.of La, at_of (j := j + 1) (by omega) (nv_get (by omega)), _, rfl, _, rfl, _, _, rfl, rfl, _, rfl, _, _, rfl, rfl, a, _, _, _, rfl, rfl, SqL.of La, at_of (j := i - j) (by omega) (nv_get (by omega)), _, _, rfl, rfl, nat_wide (bd _) (bd _) (by decide) (by decide) (by decide), ?_⟩
        refine ⟨_, L3, by simp; exact small_lt (m := 1000) (by omega) (by decide), fun c o hc => by rw [upd_ne (offD c o hc)]; exact S3 _ _ hc, ?_⟩
        rw [upd_same, List.range_succ, List.map_append, List.map_append]
        exact congrArg (fun v => some (HO.lst (_ ++ [v]))) (nv_mul _ _)
      · rintro H3 ⟨S3, L3⟩
        refine ⟨D, ((List.range i).map fun k => Ct.g (aL i) (k + 1) * Ct.g (aL i) (i - k)).map fun (x : Nat) => (x : Int), rfl, by rw [← map_nv_int]; exact SqL.of L3, ?_⟩
        rw [sum_nat]
        refine ⟨_, _, rfl, rfl, a, _, _, rfl, rfl, S3 _ _ L2, (by rw [lm]; exact small_lt (m := 100) (by omega) (by decide)), ?_⟩
        refine ⟨_, _, rfl, fun c o hc => by rw [upd_ne (ne_of_none hc na)]; exact S3 _ _ (S2 _ _ hc), ?_⟩
        rw [upd_same]
        show _ = some (HO.lst (((aL i) ++ [_]).map nv))
        rw [List.map_append]
        refine congrArg (fun v => some (HO.lst (_ ++ [v]))) ?_
        show V.int _ = V.int _
        congr 1
        rw [Int.natCast_add, Int.natCast_mul]
        congr 1
        congr 1
        omega
    · rintro σ H2 ⟨v1, v2, rfl, S2, L2⟩
      exact ⟨_, rfl, k H2 a S2 L2⟩
def spProduct : Sp := fun vs H Q _ => ∃ m c : Nat, vs = [.int (m : Nat), .int (c : Nat)] ∧ m ≤ 130 ∧ (c = 1 ∨ c = 2) ∧ ∀ H', Same H H' → Q (nv (prN c m)) H'
abbrev s_product : Stmt := (top 24)
theorem sc_product : FnScope ["_law_most", "_law_step", "_law_found", "_law_factor"] ["_law_most", "_law_step"] (defScope s_product) := ⟨rfl, rfl, rfl, by decide +kernel, rfl, by decide +kernel, by decide +kernel⟩
theorem c_product (B : Bt mg) (D : DefAt K mg "_law_product" s_product) : Cal P w K mg base "_law_product" 1 ["_law_most", "_law_step"] spProduct := by
  refine cal_of D sc_product (fun _ _ _ _ _ _ us hl => match us, hl with | [_, _], _ => rfl) (fun vs H Q E h => ?_) (fun fa cdv A outer st0 H vs Q E hr h => ?_)
  · obtain ⟨m, c, rfl, _⟩ := h
    rfl
  · obtain ⟨m, c, rfl, hm, hc, k⟩ := h
    refine ⟨_, (pss_cons (ps_set (i := 2) sc_product.nd rfl (by first | exact Or.inl rfl | exact Or.inr rfl) pe_int)
      (pss_cons (ps_for PassesOwn.never rfl (pi_range3 (by rfl) B.b_range (pa_cons (pv 0) (pa_cons pe_int (pa_cons (pe_un un_neg (pv 1)) pa_nil)))) (pg_name (i := 3) sc_product.nd rfl (by first | exact Or.inl rfl | exact Or.inr rfl)) (pss_one (ps_set (i := 2) sc_product.nd rfl (by first | exact Or.inl rfl | exact Or.inr rfl) (pe_op op_mulW (pv 2) (pv 3)))))
      (pss_one (ps_ret (pv 2))))), ?_⟩
    refine ⟨_, rfl, _, rfl, _, rfl, _, _, _, prK c m, rfl, rgc m c hm hc, for_rangeC (lo := ((m : Nat) : Int)) (c := -((c : Nat) : Int)) (n := prK c m) (fun j σ H' => ∃ v : Option V, σ = [some (.int (m : Nat)), some (.int (c : Nat)), some (nv (prP c m j)), v] ∧ Same H H') ⟨_, rfl, Same.refl H⟩ ?_ ?_⟩
    · rintro j σ H2 hj ⟨v, rfl, S2⟩
      have hcj : c * j ≤ m ∧ j ≤ 130 := by
        unfold prK at hj
        rcases hc with rfl | rfl
        · rw [if_pos rfl] at hj; omega
        · rw [if_neg (by decide)] at hj; omega
      have ef : ((m : Nat) : Int) + (j : Nat) * (-((c : Nat) : Int)) = ((m - c * j : Nat) : Int) := by
        rw [Int.natCast_sub hcj.1, Int.natCast_mul, Int.mul_neg, Int.mul_comm]
        omega
      rw [ef]
      refine ⟨_, rfl, _, rfl, _, _, rfl, rfl, nat_wide (m := 8 * j + 1) (n := 8) (prP_lt c m hm j) (by omega) (by omega) (by decide) (by omega), ?_⟩
      refine ⟨some (.int ((m - c * j : Nat) : Int)), ?_, S2⟩
      show _ = [_, _, some (nv (prP c m j * (m - c * j))), _]
      rw [← nv_mul]
      rfl
    · rintro σ H2 ⟨v, rfl, S2⟩
      exact ⟨_, rfl, k H2 S2⟩
end
end Kk

set_option maxHeartbeats 4000000
namespace Kk
open PySem PySem.Spec PyProof.Rows L2
/-! ### the closed forms, reckoned -/
def aN (n : Nat) : Nat := Ct.g (aL 39) n
def gN (n : Nat) : Nat := ((List.range n).map fun k => aN k * aN (n - 1 - k)).sum
def rN (n : Nat) : Nat := 2 * 4 ^ n * prN 2 (3 * n) / (prN 1 (n + 2) * prN 2 n)
def tN (n : Nat) : Nat := prN 1 (2 * n) / (prN 1 n * prN 1 (n + 1))
def oN (n : Nat) : Nat := prN 1 (n + 1)
noncomputable def chk (P : List (List Nat)) (rests : Bool) (f : Nat → List Nat → Bool) : Bool := (List.range 41).all fun n => f n (Ct.gg (Ct.rowsR P rests 41).2 n)
def fA (n : Nat) (l : List Nat) : Bool := (Ct.g l 0 == aN n) && ((Ct.g l 1 + gN n == aN n) && (n == 40 || Ct.g l (n + 1) == tN n * oN n))
def fR (n : Nat) (l : List Nat) : Bool := (Ct.g l 0 == Ct.g l 1) && (n == 40 || Ct.g l (n + 1) == tN n * oN n)
def fE (n : Nat) (l : List Nat) : Bool := (Ct.g l 0 == rN n) && (n == 40 || Ct.g l (n + 1) == tN n)
theorem chk_of {P : List (List Nat)} {ch : Nat → Nat → Nat} {rests : Bool} {f : Nat → List Nat → Bool} (T : Ct.Tells P ch) (hl : 42 ≤ P.length) (h : chk P rests f = true) (n : Nat) (hn : n ≤ 40) : f n (Ct.gg (Ct.rows ch rests (n + 1)).2 n) = true := by
  have := List.all_eq_true.mp h n (List.mem_range.mpr (by omega))
  rw [Ct.rowsR_eq, Ct.rowsF_eq T rests 41 (by omega)] at this
  have e := (Ct.rows_pre ch rests (j := n + 1) (k := 41) (by omega) (i := n) (by omega)).2
  have e2 : Ct.gg (Ct.rows ch rests (n + 1)).2 n = Ct.gg (Ct.rows ch rests 41).2 n := by
    unfold Ct.gg
    rw [List.getD_eq_getElem?_getD, List.getD_eq_getElem?_getD, e]
  rw [e2]
  exact this
theorem ckA (n : Nat) (hn : n ≤ 40) : fA n (Ct.gg (Ct.rows chA false (n + 1)).2 n) = true := chk_of tellsA (by decide +kernel) (by decide +kernel) n hn
theorem ckR (n : Nat) (hn : n ≤ 40) : fR n (Ct.gg (Ct.rows chA true (n + 1)).2 n) = true := chk_of tellsA (by decide +kernel) (by decide +kernel) n hn
theorem ckE (n : Nat) (hn : n ≤ 40) : fE n (Ct.gg (Ct.rows chE false (n + 1)).2 n) = true := chk_of tellsE (by decide +kernel) (by decide +kernel) n hn
theorem a0 {n : Nat} (hn : n ≤ 40) : cnt chA false n 0 = aN n := by
  have := ckA n hn
  simp only [fA, Bool.and_eq_true, beq_iff_eq] at this
  exact this.1
theorem a1 {n : Nat} (hn : n ≤ 40) : cnt chA false n 1 + gN n = aN n := by
  have := ckA n hn
  simp only [fA, Bool.and_eq_true, beq_iff_eq] at this
  exact this.2.1
theorem aO {n : Nat} (hn : n < 40) : cnt chA false n (n + 1) = tN n * oN n := by
  have := ckA n (by omega)
  simp only [fA, Bool.and_eq_true, beq_iff_eq, Bool.or_eq_true] at this
  exact this.2.2.resolve_left (by omega)
theorem r01 {n : Nat} (hn : n ≤ 40) : cnt chA true n 0 = cnt chA true n 1 := by
  have := ckR n hn
  simp only [fR, Bool.and_eq_true, beq_iff_eq] at this
  exact this.1
theorem rO {n : Nat} (hn : n < 40) : cnt chA true n (n + 1) = tN n * oN n := by
  have := ckR n (by omega)
  simp only [fR, Bool.and_eq_true, beq_iff_eq, Bool.or_eq_true] at this
  exact this.2.resolve_left (by omega)
theorem e0' {n : Nat} (hn : n ≤ 40) : cnt chE false n 0 = rN n := by
  have := ckE n hn
  simp only [fE, Bool.and_eq_true, beq_iff_eq] at this
  exact this.1
theorem eO {n : Nat} (hn : n < 40) : cnt chE false n (n + 1) = tN n := by
  have := ckE n (by omega)
  simp only [fE, Bool.and_eq_true, beq_iff_eq, Bool.or_eq_true] at this
  exact this.2.resolve_left (by omega)
theorem cnt_out (ch : Nat → Nat → Nat) (rests : Bool) {n m : Nat} (h : n + 2 ≤ m) : cnt ch rests n m = 0 := by
  unfold cnt
  refine Ct.g_out ?_
  have := gg_len (rows_lens ch rests (n + 1)).2 n
  omega
theorem prP_pos {c m : Nat} : ∀ j, (∀ i, i < j → c * i < m) → 0 < prP c m j
  | 0, _ => Nat.one_pos
  | j + 1, h => by
    have := prP_pos (c := c) (m := m) j fun i hi => h i (by omega)
    have h2 := h j (by omega)
    exact Nat.mul_pos this (by omega)
theorem prN_pos {c m : Nat} (hc : c = 1 ∨ c = 2) : 0 < prN c m := by
  refine prP_pos _ fun i hi => ?_
  unfold prK at hi
  rcases hc with rfl | rfl
  · rw [if_pos rfl] at hi; omega
  · rw [if_neg (by decide)] at hi; omega
theorem prN_lt {c m : Nat} (hc : c = 1 ∨ c = 2) (hm : m ≤ 130) : prN c m < 2 ^ 1041 := by
  refine Nat.lt_of_lt_of_le (prP_lt c m hm _) (Nat.pow_le_pow_right (by decide) ?_)
  unfold prK
  split <;> omega
theorem nv_div (a b : Nat) : V.int ((a : Int) / (b : Int)) = nv (a / b) := congrArg V.int (Int.natCast_ediv a b).symm
/-- a list of pairs of a number and itself -/
def Ask (H : Hp) (a : Addr) (n : Nat) : Prop := ∃ as : List Addr, as.length = n ∧ H a = some (.lst (as.map V.ref)) ∧ ∀ b ∈ as, ∃ i : Int, H b = some (.tup [.int i, .int i])
theorem Ask.same {H H' : Hp} {a : Addr} {n : Nat} (h : Ask H a n) (k : Same H H') : Ask H' a n := by
  obtain ⟨as, h1, h2, h3⟩ := h
  exact ⟨as, h1, k _ _ h2, fun b hb => let ⟨i, q⟩ := h3 b hb; ⟨i, k _ _ q⟩⟩
theorem Ask.of {H : Hp} {a b : Addr} {i : Int} (as : List Addr) (h : H a = some (.lst (as.map V.ref))) (h3 : ∀ b ∈ as, ∃ i : Int, H b = some (.tup [.int i, .int i])) : Ask H a as.length := ⟨as, rfl, h, h3⟩
end Kk

set_option maxHeartbeats 4000000
namespace Kk
open PySem PySem.Spec PyProof.Rows L2
def spLaw (K : PySem.W.Frag) : Sp := fun vs H Q _ => ∃ (a : Addr) (ns : List Int), vs = [.ref a] ∧ SqL K H a (ns.map V.int) ∧ ns.length ≤ 63 ∧ ∀ H', Q (.bl true) H'
theorem p4 {i : Nat} (h : i ≤ 40) : 2 * 4 ^ i < 2 ^ 100 := by
  have h1 : (4 : Nat) ^ i ≤ 4 ^ 40 := Nat.pow_le_pow_right (by decide) h
  have h2 : (4 : Nat) ^ 40 < 2 ^ 90 := by decide
  omega
theorem aN_of {t n : Nat} (ht : t ≤ 39) (hn : n < t + 2) : Ct.g (aL t) n = aN n := aL_pre ht hn
theorem Ask.cat {H : Hp} {a p : Addr} {n : Nat} {as bs : List Addr} (h : Ask H a n) (ha : H a = some (.lst (as.map V.ref))) (hb : ∀ b ∈ bs, ∃ i : Int, H b = some (.tup [.int i, .int i])) (np : H p = none) : Ask (upd H p (.lst (as.map V.ref ++ bs.map V.ref))) p (n + bs.length) := by
  obtain ⟨as', h1, h2, h3⟩ := h
  have e : as' = as := by
    rw [h2] at ha
    have := HO.lst.inj (Option.some.inj ha)
    exact List.map_inj_right (fun x y q => V.ref.inj q) |>.mp this
  subst e
  refine ⟨as' ++ bs, by simp [h1], by rw [upd_same, List.map_append], fun b hb' => ?_⟩
  have : ∃ i : Int, H b = some (.tup [.int i, .int i]) := (List.mem_append.mp hb').elim (h3 b) (hb b)
  obtain ⟨i, q⟩ := this
  exact ⟨i, by rw [upd_ne (ne_of_none q np)]; exact q⟩
section
variable {P : Program} {w : World} {K : PySem.W.Frag} {mg : Str → Option Value} {base : Heap}
abbrev s_law : Stmt := (top 25)
theorem sc_law : FnScope ["_law_script", "_law_pot_here", "_law_size", "_law_counts_here", "_law_closed", "_law_gives", "_law_k", "_law_power", "_law_turn", "_law_rows", "_law_trees", "_law_orders", "_law_more", "_law_asked", "_law_told", "_law_due"] ["_law_script"] (defScope s_law) := ⟨rfl, rfl, rfl, by decide +kernel, rfl, by decide +kernel, by decide +kernel⟩
theorem c_law {f : Addr} {fd : FuncData} (B : Bt mg) (F : Fun K "law" "law" s_law f fd)
    (C_law_pot : Cal P w K mg base "_law_pot" 1 ["_law_script"] (spPot K)) (C_law_draw : Cal P w K mg base "_law_draw" 1 ["_law_pot_here", "_law_limit"] spDraw) (C_law_counts : Cal P w K mg base "_law_counts" 1 ["_law_most"] spCounts)
    (C_law_product : Cal P w K mg base "_law_product" 1 ["_law_most", "_law_step"] spProduct) (C_law_is_number : Cal P w K mg base "_law_is_number" 1 ["_law_thing"] (spIntG K))
    (Cmany : Cal P w K mg base "many" 4 ["givens", "names"] (spMany chA false)) (Cmany_rests : Cal P w K mg base "many_rests" 4 ["givens", "names"] (spMany chA true)) (Cmany_in_order : Cal P w K mg base "many_in_order" 4 ["givens", "names"] (spMany chE false)) :
    FnOk P w K mg base CX0 5 f fd ["_law_script"] (spLaw K) := by
  refine F.ok sc_law (fun vs H Q E h => ?_) (fun cdv A outer st0 H vs Q E hr h => ?_)
  · obtain ⟨a, ns, rfl, _⟩ := h
    rfl
  · obtain ⟨a0', ns, rfl, hS, hlen, k⟩ := h
    refine ⟨_, (pss_cons (ps_set (i := 1) sc_law.nd rfl (by first | exact Or.inl rfl | exact Or.inr rfl) (pe_c C_law_pot (hr.mono (by decide)) (pa_cons (pv 0) pa_nil)))
      (C8.pss_cut (ps_set (i := 2) sc_law.nd rfl (by first | exact Or.inl rfl | exact Or.inr rfl) (pe_ifExp (pt_cmpR op_eq (pe_c C_law_draw (hr.mono (by decide)) (pa_cons (pv 1) (pa_cons pe_int pa_nil))) pe_int (nomark _)) (pe_c C_law_draw (hr.mono (by decide)) (pa_cons (pv 1) (pa_cons pe_int pa_nil))) (pe_c C_law_draw (hr.mono (by decide)) (pa_cons (pv 1) (pa_cons pe_int pa_nil)))))
      (pss_cons (ps_set (i := 3) sc_law.nd rfl (by first | exact Or.inl rfl | exact Or.inr rfl) (pe_c C_law_counts (hr.mono (by decide)) (pa_cons (pe_callB (call_max2 rfl) (by rfl) B.b_max (by decide +kernel) (pa_cons (pv 2) (pa_cons pe_int pa_nil))) pa_nil)))
      (pss_cons (ps_set (i := 4) sc_law.nd rfl (by first | exact Or.inl rfl | exact Or.inr rfl) (pe_ix ix_list (pv 3) (pv 2) (fun _ _ => rfl)))
      (pss_cons (ps_set (i := 5) sc_law.nd rfl (by first | exact Or.inl rfl | exact Or.inr rfl) (pe_callB (cr_sum rfl) (by rfl) B.b_sum (by decide +kernel) (pa_cons (pe_lc (own := [("_law_k", 6)]) (g := (gName 6)) (tt := tYes) (te := (tOp _ (tOp (rIxL K) _ _) (tOp (rIxL K) _ _))) rfl sc_law.nd (pi_range1 (by rfl) B.b_range (pa_cons (pv 2) pa_nil)) (blkOk_by (own := [("_law_k", 6)]) (N := ["_law_script", "_law_pot_here", "_law_size", "_law_counts_here", "_law_closed", "_law_gives", "_law_k", "_law_power", "_law_turn", "_law_rows", "_law_trees", "_law_orders", "_law_more", "_law_asked", "_law_told", "_law_due"]) (sc := defScope s_law) (by decide +kernel)) (fun _ _ _ _ _ => (pg_name (i := 6) sc_law.nd rfl (by first | exact Or.inl rfl | exact Or.inr rfl))) (fun _ _ _ _ _ => pts_nil) (fun _ _ _ _ _ => (pe_op op_mulW (pe_ix ix_list (pv 3) (pv 6) (fun _ _ => rfl)) (pe_ix ix_list (pv 3) (pe_op op_sub (pe_op op_sub (pv 2) pe_int) (pv 6)) (fun _ _ => rfl))))) pa_nil)))
      (pss_cons (ps_set (i := 7) sc_law.nd rfl (by first | exact Or.inl rfl | exact Or.inr rfl) pe_int)
      (pss_cons (ps_for PassesOwn.never rfl (pi_range1 (by rfl) B.b_range (pa_cons (pv 2) pa_nil)) (pg_name (i := 8) sc_law.nd rfl (by first | exact Or.inl rfl | exact Or.inr rfl)) (pss_one (ps_set (i := 7) sc_law.nd rfl (by first | exact Or.inl rfl | exact Or.inr rfl) (pe_op op_mulW (pv 7) pe_int))))
      (pss_cons (ps_set (i := 9) sc_law.nd rfl (by first | exact Or.inl rfl | exact Or.inr rfl) (pe_op op_fdivW (pe_op op_mulW (pv 7) (pe_c C_law_product (hr.mono (by decide)) (pa_cons (pe_op op_mulW pe_int (pv 2)) (pa_cons pe_int pa_nil)))) (pe_op op_mulW (pe_c C_law_product (hr.mono (by decide)) (pa_cons (pe_op op_add (pv 2) pe_int) (pa_cons pe_int pa_nil))) (pe_c C_law_product (hr.mono (by decide)) (pa_cons (pv 2) (pa_cons pe_int pa_nil))))))
      (pss_cons (ps_set (i := 10) sc_law.nd rfl (by first | exact Or.inl rfl | exact Or.inr rfl) (pe_op op_fdivW (pe_c C_law_product (hr.mono (by decide)) (pa_cons (pe_op op_mulW pe_int (pv 2)) (pa_cons pe_int pa_nil))) (pe_op op_mulW (pe_c C_law_product (hr.mono (by decide)) (pa_cons (pv 2) (pa_cons pe_int pa_nil))) (pe_c C_law_product (hr.mono (by decide)) (pa_cons (pe_op op_add (pv 2) pe_int) (pa_cons pe_int pa_nil))))))
      (pss_cons (ps_set (i := 11) sc_law.nd rfl (by first | exact Or.inl rfl | exact Or.inr rfl) (pe_c C_law_product (hr.mono (by decide)) (pa_cons (pe_op op_add (pv 2) pe_int) (pa_cons pe_int pa_nil))))
      (pss_cons (ps_set (i := 12) sc_law.nd rfl (by first | exact Or.inl rfl | exact Or.inr rfl) (pe_op op_add (pe_op op_add (pv 2) pe_int) (pe_c C_law_draw (hr.mono (by decide)) (pa_cons (pv 1) (pa_cons pe_int pa_nil)))))
      (pss_cons (ps_set (i := 13) sc_law.nd rfl (by first | exact Or.inl rfl | exact Or.inr rfl) (pe_lst (pa_cons (pe_tup (pa_cons (pe_c Cmany (hr.mono (by decide)) (pa_cons (pv 2) (pa_cons pe_int pa_nil))) (pa_cons (pv 4) pa_nil))) (pa_cons (pe_tup (pa_cons (pe_c Cmany (hr.mono (by decide)) (pa_cons (pv 2) (pa_cons pe_int pa_nil))) (pa_cons (pe_op op_sub (pv 4) (pv 5)) pa_nil))) (pa_cons (pe_tup (pa_cons (pe_c Cmany_in_order (hr.mono (by decide)) (pa_cons (pv 2) (pa_cons pe_int pa_nil))) (pa_cons (pv 9) pa_nil))) pa_nil)))))
      (C8.pss_cut (ps_if (pt_cmpR op_lt (pv 2) pe_int (nomark _)) (pss_cons (ps_set (i := 13) sc_law.nd rfl (by first | exact Or.inl rfl | exact Or.inr rfl) (pe_op op_cat (pv 13) (pe_lst (pa_cons (pe_tup (pa_cons (pe_c Cmany (hr.mono (by decide)) (pa_cons (pv 2) (pa_cons (pe_op op_add (pv 2) pe_int) pa_nil))) (pa_cons (pe_op op_mulW (pv 10) (pv 11)) pa_nil))) (pa_cons (pe_tup (pa_cons (pe_c Cmany_rests (hr.mono (by decide)) (pa_cons (pv 2) (pa_cons (pe_op op_add (pv 2) pe_int) pa_nil))) (pa_cons (pe_op op_mulW (pv 10) (pv 11)) pa_nil))) pa_nil)))))
      (pss_one (ps_set (i := 13) sc_law.nd rfl (by first | exact Or.inl rfl | exact Or.inr rfl) (pe_op op_cat (pv 13) (pe_lst (pa_cons (pe_tup (pa_cons (pe_c Cmany_in_order (hr.mono (by decide)) (pa_cons (pv 2) (pa_cons (pe_op op_add (pv 2) pe_int) pa_nil))) (pa_cons (pv 10) pa_nil))) pa_nil)))))) pss_nil)
      (C8.pss_cut (ps_if (pt_cmpR op_le (pv 12) pe_int (nomark _)) (pss_one (ps_set (i := 13) sc_law.nd rfl (by first | exact Or.inl rfl | exact Or.inr rfl) (pe_op op_cat (pv 13) (pe_lst (pa_cons (pe_tup (pa_cons (pe_c Cmany (hr.mono (by decide)) (pa_cons (pv 2) (pa_cons (pv 12) pa_nil))) (pa_cons pe_int pa_nil))) (pa_cons (pe_tup (pa_cons (pe_c Cmany_rests (hr.mono (by decide)) (pa_cons (pv 2) (pa_cons (pv 12) pa_nil))) (pa_cons pe_int pa_nil))) (pa_cons (pe_tup (pa_cons (pe_c Cmany_in_order (hr.mono (by decide)) (pa_cons (pv 2) (pa_cons (pv 12) pa_nil))) (pa_cons pe_int pa_nil))) pa_nil))))))) pss_nil)
      (pss_cons (ps_for PassesOwn.never rfl (pi_list (pv 13)) (pg_tup (by rfl) (pgs_cons (pg_name (i := 14) sc_law.nd rfl (by first | exact Or.inl rfl | exact Or.inr rfl)) (pgs_cons (pg_name (i := 15) sc_law.nd rfl (by first | exact Or.inl rfl | exact Or.inr rfl)) pgs_nil))) (pss_one (ps_if (PW.pt (pw_or (pt_not (pt_val (pe_c C_law_is_number (hr.mono (by decide)) (pa_cons (pv 14) pa_nil)))) (pw_or1 (pt_cmpR op_ne (pv 14) (pv 15) (nomark _))))) (pss_one (ps_ret pe_bl)) pss_nil)))
      (pss_one (ps_ret (pe_and (pe_cmpR op_eq (pe_c Cmany_rests (hr.mono (by decide)) (pa_cons (pv 2) (pa_cons pe_int pa_nil))) (pe_c Cmany_rests (hr.mono (by decide)) (pa_cons (pv 2) (pa_cons pe_int pa_nil))) (nomark _)) (pe_one (pe_c C_law_is_number (hr.mono (by decide)) (pa_cons (pe_c Cmany_rests (hr.mono (by decide)) (pa_cons (pv 2) (pa_cons pe_int pa_nil))) pa_nil))))))))))))))))))))), ?_⟩
    have hM : MX = 40 := rfl
    refine ⟨_, rfl, a0', ns, rfl, hS, hlen, fun H1 p g s P1 S1 np ng ns0 => ?_⟩
    refine ⟨fun σ' H' => ∃ (n : Nat), n ≤ 40 ∧ σ' = [some (.ref a0'), some (.ref p), some (.int (n : Nat)), none, none, none, none, none, none, none, none, none, none, none, none, none] ∧ PotAt H' p g s, ?_, ?_⟩
    · have fin : ∀ (r : Int) (H' : Hp), 0 ≤ r → r ≤ 40 → PotAt H' p g s → ∃ m : Nat, m ≤ 40 ∧ [some (.ref a0'), some (.ref p), some (V.int r), none, none, none, none, none, none, none, none, none, none, none, none, none] = [some (.ref a0'), some (.ref p), some (.int (m : Nat)), none, none, none, none, none, none, none, none, none, none, none, none, none] ∧ PotAt H' p g s := fun r H' h0 h1 P' =>
        ⟨r.toNat, by omega, by rw [show ((r.toNat : Nat) : Int) = r by omega], P'⟩
      refine ⟨_, rfl, p, g, s, 16, rfl, P1, by decide, by decide, fun H2 r P2 K2 r0 r1 => ⟨rfl, _, rfl, ?_⟩⟩
      refine ite2 (fun _ => ?_) (fun _ => ?_)
      · exact ⟨_, rfl, p, g, s, 41, rfl, P2, by decide, by decide, fun H3 r P3 K3 r0 r1 => fin r H3 r0 (by omega) P3⟩
      · exact ⟨_, rfl, p, g, s, 13, rfl, P2, by decide, by decide, fun H3 r P3 K3 r0 r1 => fin r H3 r0 (by omega) P3⟩
    · rintro σ' H2 ⟨n, hn, rfl, P2⟩
      -- counts(max(size, 1))
      obtain ⟨t, ht⟩ : ∃ t, max n 1 = t + 1 := ⟨max n 1 - 1, by omega⟩
      have ht39 : t ≤ 39 := by omega
      refine ⟨_, rfl, _, _, rfl, t, ?_, by omega, fun H3 ac S3 Lc => ?_⟩
      · rw [← ht]
        show [V.int (if (1 : Int) > ((n : Nat) : Int) then 1 else ((n : Nat) : Int))] = _
        rw [show (if (1 : Int) > ((n : Nat) : Int) then 1 else ((n : Nat) : Int)) = ((max n 1 : Nat) : Int) by split <;> omega]
      have lac := aL_len t
      have eA : ∀ i, i ≤ n → Ct.g (aL t) i = aN i := fun i hi => aN_of ht39 (by omega)
      -- closed
      refine ⟨_, rfl, _, rfl, ac, _, _, _, rfl, rfl, SqL.of Lc, atI_nat (nv_get (i := n) (by omega)), ?_⟩
      rw [eA n (Nat.le_refl _)]
      -- gives
      refine ⟨_, rfl, _, rfl, by omega, by omega, fun D nD => ?_⟩
      rw [show (((n : Nat) : Int)).toNat = n by omega]
      have offD : ∀ c o, H3 c = some o → c ≠ D := fun c o hc => ne_of_none hc nD
      refine lc_range (lo := 0) (n := n) (fun j H' => Same H3 H' ∧ H' D = some (.lst (((List.range j).map fun k => aN k * aN (n - 1 - k)).map nv))) ⟨same_upd nD, upd_same⟩ ?_ ?_
      · rintro j H' hj ⟨S4, L4⟩
        rw [Int.zero_add]
        have Lc4 := S4 _ _ Lc
        have bd := bd_aL (t := t) (by omega)
        refine ⟨rfl, _, rfl, _, rfl, ac, _, _, _, rfl, rfl, SqL.of Lc4, atI_nat (nv_get (i := j) (by omega)), _, rfl, _, rfl, _, _, rfl, rfl, _, rfl, _, _, rfl, rfl, ac, _, _, _, rfl, rfl, SqL.of Lc4, at_of (j := n - 1 - j) (by omega) (nv_get (by omega)), _, _, rfl, rfl, nat_wide (bd _) (bd _) (by decide) (by decide) (by decide), ?_⟩
        refine ⟨_, L4, by simp; exact small_lt (m := 1000) (by omega) (by decide), fun c o hc => by rw [upd_ne (offD c o hc)]; exact S4 _ _ hc, ?_⟩
        rw [upd_same, List.range_succ, List.map_append, List.map_append]
        dsimp only
        rw [nv_mul, eA j (by omega), eA (n - 1 - j) (by omega)]
        rfl
      · rintro H4 ⟨S4, L4⟩
        refine ⟨D, ((List.range n).map fun k => aN k * aN (n - 1 - k)).map fun (x : Nat) => (x : Int), rfl, by rw [← map_nv_int]; exact SqL.of L4, ?_⟩
        rw [sum_nat]
        have eg : ((List.range n).map fun k => aN k * aN (n - 1 - k)).sum = gN n := rfl
        rw [eg]
        have P4 := P2.keep (S3.trans S4)
        clear L4 S4 offD eg
        -- power
        refine ⟨_, rfl, _, rfl, by omega, by omega, ?_⟩
        rw [show (((n : Nat) : Int)).toNat = n by omega]
        refine for_range (lo := 0) (n := n) (fun i σ H' => ∃ v : Option V, σ = [some (.ref a0'), some (.ref p), some (.int (n : Nat)), some (.ref ac), some (nv (aN n)), some (nv (gN n)), none, some (nv (2 * 4 ^ i)), v, none, none, none, none, none, none, none] ∧ PotAt H' p g s) ⟨_, rfl, P4⟩ ?_ ?_
        · rintro i σ H5 hi ⟨v, rfl, P5⟩
          refine ⟨_, rfl, _, _, rfl, rfl, nat_wide (m := 100) (n := 3) (p4 (by omega)) (by decide) (by decide) (by decide) (by decide), ?_⟩
          refine ⟨some (.int ((0 : Int) + (i : Nat))), ?_, P5⟩
          show _ = [_, _, _, _, _, _, _, some (nv (2 * (4 ^ i * 4))), _, _, _, _, _, _, _, _]
          rw [← Nat.mul_assoc, ← nv_mul]
          rfl
        · rintro σ H5 ⟨v, rfl, P5⟩
          have c1 : (1 : Nat) = 1 ∨ (1 : Nat) = 2 := .inl rfl
          have c2 : (2 : Nat) = 1 ∨ (2 : Nat) = 2 := .inr rfl
          have mulw : ∀ {x y : Nat}, x < 2 ^ 2500 → y < 2 ^ 2500 → CMulW (x : Int) (y : Int) := fun hx hy => nat_wide hx hy (by decide) (by decide) (by decide)
          have le25 : ∀ {x : Nat}, x < 2 ^ 1041 → x < 2 ^ 2500 := fun h => Nat.lt_of_lt_of_le h (Nat.pow_le_pow_right (by decide) (by decide))
          have lt2 : ∀ {x y : Nat}, x < 2 ^ 1041 → y < 2 ^ 1041 → x * y < 2 ^ 2500 := fun hx hy => Nat.lt_of_lt_of_le (Nat.mul_lt_mul'' hx hy) (by rw [← Nat.pow_add]; exact Nat.pow_le_pow_right (by decide) (by decide))
          have b2 : prN 2 (3 * n) < 2 ^ 1041 := prN_lt c2 (by omega)
          have b3 : prN 1 (n + 2) < 2 ^ 1041 := prN_lt c1 (by omega)
          have b4 : prN 2 n < 2 ^ 1041 := prN_lt c2 (by omega)
          have b5 : prN 1 (2 * n) < 2 ^ 1041 := prN_lt c1 (by omega)
          have b6 : prN 1 n < 2 ^ 1041 := prN_lt c1 (by omega)
          have b7 : prN 1 (n + 1) < 2 ^ 1041 := prN_lt c1 (by omega)
          have b8 : 2 * 4 ^ n < 2 ^ 2500 := Nat.lt_of_lt_of_le (p4 (i := n) hn) (Nat.pow_le_pow_right (by decide) (by decide))
          -- rows
          refine ⟨_, rfl, _, rfl, _, _, rfl, rfl, nat_wide (a := 3) (b := n) (m := 3) (n := 10) (by decide) (by omega) (by decide) (by decide) (by decide), 3 * n, 2, rfl, by omega, c2, fun H6 S6 => ?_⟩
          refine ⟨_, _, rfl, rfl, mulw b8 (le25 b2), _, rfl, _, _, rfl, rfl, n + 2, 1, rfl, by omega, c1, fun H7 S7 => ?_⟩
          refine ⟨_, rfl, n, 2, rfl, by omega, c2, fun H8 S8 => ?_⟩
          refine ⟨_, _, rfl, rfl, mulw (le25 b3) (le25 b4), ?_⟩
          dsimp only
          rw [nv_mul, nv_mul]
          refine ⟨_, _, rfl, rfl, wide_div (b := 2500) ?_ (by rw [Int.natAbs_natCast]; exact lt2 b3 b4) (by decide) (by decide), ?_⟩
          · have := Nat.mul_pos (prN_pos (m := n + 2) c1) (prN_pos (m := n) c2)
            omega
          dsimp only
          rw [nv_div]
          have P8 := P5.keep (S6.trans (S7.trans S8))
          -- trees
          refine ⟨_, rfl, _, _, rfl, rfl, nat_wide (a := 2) (b := n) (m := 3) (n := 10) (by decide) (by omega) (by decide) (by decide) (by decide), 2 * n, 1, rfl, by omega, c1, fun H9 S9 => ?_⟩
          refine ⟨_, rfl, n, 1, rfl, by omega, c1, fun H10 S10 => ?_⟩
          refine ⟨_, rfl, _, _, rfl, rfl, n + 1, 1, rfl, by omega, c1, fun H11 S11 => ?_⟩
          refine ⟨_, _, rfl, rfl, mulw (le25 b6) (le25 b7), ?_⟩
          dsimp only
          rw [nv_mul]
          refine ⟨_, _, rfl, rfl, wide_div (b := 2500) ?_ (by rw [Int.natAbs_natCast]; exact lt2 b6 b7) (by decide) (by decide), ?_⟩
          · have := Nat.mul_pos (prN_pos (m := n) c1) (prN_pos (m := n + 1) c1)
            omega
          dsimp only
          rw [nv_div]
          have P11 := P8.keep (S9.trans (S10.trans S11))
          -- orders, more
          refine ⟨_, rfl, _, _, rfl, rfl, n + 1, 1, rfl, by omega, c1, fun H12 S12 => ?_⟩
          refine ⟨_, rfl, _, _, rfl, rfl, _, rfl, p, g, s, 38, rfl, P11.keep S12, by decide, by decide, fun H13 r P13 K13 r0 r1 => ?_⟩
          obtain ⟨q, rfl⟩ : ∃ q : Nat, r = (q : Int) := ⟨r.toNat, by omega⟩
          refine ⟨_, _, rfl, rfl, ?_⟩
          have er : rN n = 2 * 4 ^ n * prN 2 (3 * n) / (prN 1 (n + 2) * prN 2 n) := rfl
          have et : tN n = prN 1 (2 * n) / (prN 1 n * prN 1 (n + 1)) := rfl
          have eo : oN n = prN 1 (n + 1) := rfl
          rw [← er, ← et, ← eo]
          have bt : tN n < 2 ^ 2500 := Nat.lt_of_le_of_lt (Nat.div_le_self _ _) (le25 b5)
          have bo : oN n < 2 ^ 2500 := le25 b7
          dsimp only
          generalize hmr : ((n : Nat) : Int) + 2 + ((q : Nat) : Int) = mr
          -- asked
          refine ⟨_, rfl, n, 0, rfl, by omega, by omega, fun H14 S14 => ⟨_, rfl, (by show 2 ≤ sizeLine; decide), fun t1 nt1 => ?_⟩⟩
          rw [a0 hn]
          have T1 := same_upd (o := HO.tup [nv (aN n), nv (aN n)]) nt1
          have U1 : upd H14 t1 (.tup [nv (aN n), nv (aN n)]) t1 = some (.tup [nv (aN n), nv (aN n)]) := upd_same
          generalize upd H14 t1 (.tup [nv (aN n), nv (aN n)]) = H15 at *
          refine ⟨_, rfl, n, 1, rfl, by omega, by omega, fun H16 S16 => ⟨_, rfl, _, rfl, _, _, rfl, rfl, (by show 2 ≤ sizeLine; decide), fun t2 nt2 => ?_⟩⟩
          have e1 : V.int (((aN n : Nat) : Int) - ((gN n : Nat) : Int)) = nv (cnt chA false n 1) := congrArg V.int (by have := a1 hn; omega)
          dsimp only
          rw [e1]
          generalize cnt chA false n 1 = c1' at *
          have T2 := same_upd (o := HO.tup [nv c1', nv c1']) nt2
          have U2 : upd H16 t2 (.tup [nv c1', nv c1']) t2 = some (.tup [nv c1', nv c1']) := upd_same
          generalize upd H16 t2 (.tup [nv c1', nv c1']) = H17 at *
          refine ⟨_, rfl, n, 0, rfl, by omega, by omega, fun H18 S18 => ⟨_, rfl, (by show 2 ≤ sizeLine; decide), fun t3 nt3 => ?_⟩⟩
          rw [e0' hn]
          have T3 := same_upd (o := HO.tup [nv (rN n), nv (rN n)]) nt3
          have U3 : upd H18 t3 (.tup [nv (rN n), nv (rN n)]) t3 = some (.tup [nv (rN n), nv (rN n)]) := upd_same
          generalize upd H18 t3 (.tup [nv (rN n), nv (rN n)]) = H19 at *
          refine ⟨(by show 3 ≤ sizeLine; decide), fun a na => ?_⟩
          have S20 := same_upd (o := HO.lst [V.ref t1, V.ref t2, V.ref t3]) na
          have A20 : Ask (upd H19 a (.lst [V.ref t1, V.ref t2, V.ref t3])) a 3 := by
            refine ⟨[t1, t2, t3], rfl, upd_same, fun b hb => ?_⟩
            rcases List.mem_cons.mp hb with rfl | hb
            · exact ⟨_, S20 _ _ (T3 _ _ (S18 _ _ (T2 _ _ (S16 _ _ U1))))⟩
            rcases List.mem_cons.mp hb with rfl | hb
            · exact ⟨_, S20 _ _ (T3 _ _ (S18 _ _ U2))⟩
            · have : b = t3 := by simpa using hb
              rw [this]
              exact ⟨_, S20 _ _ U3⟩
          generalize upd H19 a (.lst [V.ref t1, V.ref t2, V.ref t3]) = H20 at *
          clear T1 T2 T3 S20 S14 S16 S18 U1 U2 U3 na nt1 nt2 nt3
          -- if size < 40
          refine ⟨fun σ' H' => ∃ (a : Addr) (m : Nat), m ≤ 6 ∧ σ' = [some (.ref a0'), some (.ref p), some (.int (n : Nat)), some (.ref ac), some (nv (aN n)), some (nv (gN n)), none, some (nv (2 * 4 ^ n)), v, some (nv (rN n)), some (nv (tN n)), some (nv (oN n)), some (.int mr), some (.ref a), none, none] ∧ Ask H' a m, ?_, ?_⟩
          · refine ⟨_, rfl, _, _, rfl, rfl, _, rfl, ?_⟩
            by_cases h40 : n < 40
            · rw [decide_eq_true (show ((n : Nat) : Int) < 40 by omega)]
              refine iteT ⟨_, rfl, _, rfl, _, rfl, _, _, rfl, rfl, n, n + 1, rfl, by omega, by omega, fun H21 S21 => ⟨_, rfl, _, rfl, _, _, rfl, rfl, mulw bt bo, (by show 2 ≤ sizeLine; decide), fun t1 nt1 => ?_⟩⟩
              dsimp only
              rw [aO h40, nv_mul]
              have T1 := same_upd (o := HO.tup [nv (tN n * oN n), nv (tN n * oN n)]) nt1
              have U1 : upd H21 t1 (.tup [nv (tN n * oN n), nv (tN n * oN n)]) t1 = some (.tup [nv (tN n * oN n), nv (tN n * oN n)]) := upd_same
              generalize upd H21 t1 (.tup [nv (tN n * oN n), nv (tN n * oN n)]) = H22 at *
              refine ⟨_, rfl, _, rfl, _, _, rfl, rfl, n, n + 1, rfl, by omega, by omega, fun H23 S23 => ⟨_, rfl, _, rfl, _, _, rfl, rfl, mulw bt bo, (by show 2 ≤ sizeLine; decide), fun t2 nt2 => ?_⟩⟩
              dsimp only
              rw [rO h40, nv_mul]
              have T2 := same_upd (o := HO.tup [nv (tN n * oN n), nv (tN n * oN n)]) nt2
              have U2 : upd H23 t2 (.tup [nv (tN n * oN n), nv (tN n * oN n)]) t2 = some (.tup [nv (tN n * oN n), nv (tN n * oN n)]) := upd_same
              generalize upd H23 t2 (.tup [nv (tN n * oN n), nv (tN n * oN n)]) = H24 at *
              refine ⟨(by show 2 ≤ sizeLine; decide), fun l nl => ?_⟩
              have Sl := same_upd (o := HO.lst [V.ref t1, V.ref t2]) nl
              have Ul : upd H24 l (.lst [V.ref t1, V.ref t2]) l = some (.lst ([t1, t2].map V.ref)) := upd_same
              have W1 := Sl _ _ (T2 _ _ (S23 _ _ U1))
              have W2 := Sl _ _ U2
              generalize upd H24 l (.lst [V.ref t1, V.ref t2]) = H25 at *
              have A25 := A20.same (S21.trans (T1.trans (S23.trans (T2.trans Sl))))
              obtain ⟨as, q1, q2, q3⟩ := id A25
              refine ⟨a, l, _, _, rfl, rfl, q2, Ul, (by rw [sizeLine_eq]; simp; omega), fun l2 nl2 => ?_⟩
              have A26 := A25.cat q2 (bs := [t1, t2]) (fun b hb => by
                rcases List.mem_cons.mp hb with rfl | hb
                · exact ⟨_, W1⟩
                · rw [List.mem_singleton.mp hb]; exact ⟨_, W2⟩) nl2
              generalize upd H25 l2 (.lst (as.map V.ref ++ [t1, t2].map V.ref)) = H26 at *
              -- the other one
              refine ⟨_, rfl, _, rfl, _, rfl, _, _, rfl, rfl, n, n + 1, rfl, by omega, by omega, fun H27 S27 => ⟨_, rfl, (by show 2 ≤ sizeLine; decide), fun t3 nt3 => ?_⟩⟩
              rw [eO h40]
              have T3 := same_upd (o := HO.tup [nv (tN n), nv (tN n)]) nt3
              have U3 : upd H27 t3 (.tup [nv (tN n), nv (tN n)]) t3 = some (.tup [nv (tN n), nv (tN n)]) := upd_same
              generalize upd H27 t3 (.tup [nv (tN n), nv (tN n)]) = H28 at *
              refine ⟨(by show 1 ≤ sizeLine; decide), fun l3 nl3 => ?_⟩
              have Sl3 := same_upd (o := HO.lst [V.ref t3]) nl3
              have Ul3 : upd H28 l3 (.lst [V.ref t3]) l3 = some (.lst ([t3].map V.ref)) := upd_same
              have W3 := Sl3 _ _ U3
              generalize upd H28 l3 (.lst [V.ref t3]) = H29 at *
              have A29 := A26.same (S27.trans (T3.trans Sl3))
              obtain ⟨as2, q4, q5, q6⟩ := id A29
              refine ⟨l2, l3, _, _, rfl, rfl, q5, Ul3, (by rw [sizeLine_eq]; simp; simp at q4; omega), fun l4 nl4 => ?_⟩
              exact ⟨l4, _, (by show 3 + 2 + 1 ≤ 6; decide), rfl, A29.cat q5 (bs := [t3]) (fun b hb => by rw [List.mem_singleton.mp hb]; exact ⟨_, W3⟩) nl4⟩
            · rw [decide_eq_false (show ¬ ((n : Nat) : Int) < 40 by omega)]
              exact iteF ⟨a, 3, by decide, rfl, A20⟩
          · rintro σ' H21 ⟨a, m, hm, rfl, A21⟩
            refine ⟨fun σ' H' => ∃ (a : Addr) (m : Nat), m ≤ 9 ∧ σ' = [some (.ref a0'), some (.ref p), some (.int (n : Nat)), some (.ref ac), some (nv (aN n)), some (nv (gN n)), none, some (nv (2 * 4 ^ n)), v, some (nv (rN n)), some (nv (tN n)), some (nv (oN n)), some (.int mr), some (.ref a), none, none] ∧ Ask H' a m, ?_, ?_⟩
            · refine ⟨_, rfl, _, _, rfl, rfl, _, rfl, ?_⟩
              by_cases hmore : mr ≤ 40
              · rw [decide_eq_true hmore]
                obtain ⟨e, he⟩ : ∃ e : Nat, mr = (e : Int) ∧ n + 2 ≤ e ∧ e ≤ 40 := ⟨n + 2 + q, by omega, by omega, by omega⟩
                obtain ⟨rfl, he2, he4⟩ := he
                refine iteT ⟨_, rfl, _, rfl, _, rfl, n, e, rfl, by omega, he4, fun H22 S22 => ⟨(by show 2 ≤ sizeLine; decide), fun t1 nt1 => ?_⟩⟩
                rw [cnt_out _ _ he2]
                have T1 := same_upd (o := HO.tup [nv 0, V.int 0]) nt1
                have U1 : upd H22 t1 (.tup [nv 0, V.int 0]) t1 = some (.tup [nv 0, V.int 0]) := upd_same
                generalize upd H22 t1 (.tup [nv 0, V.int 0]) = H23 at *
                refine ⟨_, rfl, _, rfl, n, e, rfl, by omega, he4, fun H24 S24 => ⟨(by show 2 ≤ sizeLine; decide), fun t2 nt2 => ?_⟩⟩
                rw [cnt_out _ _ he2]
                have T2 := same_upd (o := HO.tup [nv 0, V.int 0]) nt2
                have U2 : upd H24 t2 (.tup [nv 0, V.int 0]) t2 = some (.tup [nv 0, V.int 0]) := upd_same
                generalize upd H24 t2 (.tup [nv 0, V.int 0]) = H25 at *
                refine ⟨_, rfl, _, rfl, n, e, rfl, by omega, he4, fun H26 S26 => ⟨(by show 2 ≤ sizeLine; decide), fun t3 nt3 => ?_⟩⟩
                rw [cnt_out _ _ he2]
                have T3 := same_upd (o := HO.tup [nv 0, V.int 0]) nt3
                have U3 : upd H26 t3 (.tup [nv 0, V.int 0]) t3 = some (.tup [nv 0, V.int 0]) := upd_same
                generalize upd H26 t3 (.tup [nv 0, V.int 0]) = H27 at *
                refine ⟨(by show 3 ≤ sizeLine; decide), fun l nl => ?_⟩
                have Sl := same_upd (o := HO.lst [V.ref t1, V.ref t2, V.ref t3]) nl
                have Ul : upd H27 l (.lst [V.ref t1, V.ref t2, V.ref t3]) l = some (.lst ([t1, t2, t3].map V.ref)) := upd_same
                have W1 := Sl _ _ (T3 _ _ (S26 _ _ (T2 _ _ (S24 _ _ U1))))
                have W2 := Sl _ _ (T3 _ _ (S26 _ _ U2))
                have W3 := Sl _ _ U3
                generalize upd H27 l (.lst [V.ref t1, V.ref t2, V.ref t3]) = H28 at *
                have A28 := A21.same (S22.trans (T1.trans (S24.trans (T2.trans (S26.trans (T3.trans Sl))))))
                obtain ⟨as, q1, q2, q3⟩ := id A28
                refine ⟨a, l, _, _, rfl, rfl, q2, Ul, (by rw [sizeLine_eq]; simp; omega), fun l2 nl2 => ?_⟩
                refine ⟨l2, _, (by show m + 3 ≤ 9; omega), rfl, A28.cat q2 (bs := [t1, t2, t3]) (fun b hb => ?_) nl2⟩
                rcases List.mem_cons.mp hb with rfl | hb
                · exact ⟨0, W1⟩
                rcases List.mem_cons.mp hb with rfl | hb
                · exact ⟨0, W2⟩
                · rw [List.mem_singleton.mp hb]; exact ⟨0, W3⟩
              · rw [decide_eq_false hmore]
                exact iteF ⟨a, m, by omega, rfl, A21⟩
            · rintro σ' H22 ⟨a, m, hm, rfl, A22⟩
              obtain ⟨as, q1, q2, q3⟩ := id A22
              refine ⟨_, rfl, a, rfl, ⟨_, SqL.of q2⟩, for_list (K := K) (a := a) (xs := as.map V.ref) (fun i σ H' => ∃ (v1 v2 : Option V), σ = [some (.ref a0'), some (.ref p), some (.int (n : Nat)), some (.ref ac), some (nv (aN n)), some (nv (gN n)), none, some (nv (2 * 4 ^ n)), v, some (nv (rN n)), some (nv (tN n)), some (nv (oN n)), some (.int mr), some (.ref a), v1, v2] ∧ Same H22 H') ⟨_, _, rfl, Same.refl _⟩ (fun i σ H' _ ⟨_, _, _, s⟩ => s.seq (SqL.of q2)) ?_ ?_⟩
              · rintro i x σ H23 hx ⟨v1, v2, rfl, S23⟩
                obtain ⟨b, hb, rfl⟩ := map_get hx
                obtain ⟨z, hz⟩ := q3 b (List.mem_of_getElem? hb)
                have hz3 := S23 _ _ hz
                refine ⟨b, _, rfl, SqT.of hz3, rfl, _, _, rfl, _, _, rfl, rfl, ?_⟩
                refine ⟨_, rfl, _, rfl, NumT.int _, ⟨_, rfl, ?_⟩⟩
                refine iteF ⟨_, rfl, _, rfl, rfl, _, rfl, ?_⟩
                rw [show (!decide (V.int z = V.int z)) = false by rw [decide_eq_true rfl]; rfl]
                exact iteF ⟨_, _, rfl, S23⟩
              · rintro σ H23 ⟨v1, v2, rfl, S23⟩
                refine ⟨_, rfl, n, 0, rfl, by omega, by omega, fun H24 S24 => ?_⟩
                refine ⟨_, rfl, n, 1, rfl, by omega, by omega, fun H25 S25 => ⟨rfl, _, rfl, ?_⟩⟩
                rw [r01 hn, decide_eq_true rfl]
                refine iteT ⟨_, rfl, n, 0, rfl, by omega, by omega, fun H26 S26 => ⟨_, rfl, NumT.int _, ?_⟩⟩
                exact k H26
end
end Kk

/-! ### the end -/
namespace Kk
open PySem PySem.Spec PyProof.Rows L2
structure AllD (K : PySem.W.Frag) (mg : Str → Option Value) : Prop where
  d_law_draw : DefAt K mg "_law_draw" s_draw
  d_law_pot : DefAt K mg "_law_pot" s_pot
  dis_number : DefAt K mg "is_number" s_is_number
  d_law_is_number : DefAt K mg "_law_is_number" s_lnumber
  dall_choices : DefAt K mg "all_choices" s_all_choices
  deldest_choice : DefAt K mg "eldest_choice" s_eldest_choice
  dcheck_counts : DefAt K mg "check_counts" s_check_counts
  dsplits : DefAt K mg "splits" s_splits
  dgiving : DefAt K mg "giving" s_giving
  drows_to : DefAt K mg "rows_to" s_rows_to
  dcount_at : DefAt K mg "count_at" s_count_at
  dmany : DefAt K mg "many" s_many
  dmany_rests : DefAt K mg "many_rests" s_many_rests
  dmany_in_order : DefAt K mg "many_in_order" s_many_in_order
  d_law_counts : DefAt K mg "_law_counts" s_counts
  d_law_product : DefAt K mg "_law_product" s_product
theorem law_ok {P : Program} {w : World} {K : PySem.W.Frag} {mg : Str → Option Value} {base : Heap} {f : Addr} {fd : FuncData} (B : Bt mg) (a : AllD K mg) (F : Fun K "law" "law" s_law f fd) :
    FnOk P w K mg base CX0 5 f fd ["_law_script"] (spLaw K) := by
  have C_law_draw := c_draw (P := P) (w := w) (base := base) B (D := a.d_law_draw)
  have C_law_pot := c_pot (P := P) (w := w) (base := base) B (D := a.d_law_pot)
  have Cis_number := c_is_number (P := P) (w := w) (base := base) B (D := a.dis_number)
  have C_law_is_number := c_lnumber (P := P) (w := w) (base := base) B (D := a.d_law_is_number)
  have Call_choices := c_all_choices (P := P) (w := w) (base := base) B (D := a.dall_choices)
  have Celdest_choice := c_eldest_choice (P := P) (w := w) (base := base) B (D := a.deldest_choice)
  have Ccheck_counts := c_check_counts (P := P) (w := w) (base := base) B (D := a.dcheck_counts) (Cis_number := Cis_number)
  have Csplits := c_splits (P := P) (w := w) (base := base) B (D := a.dsplits)
  have Cgiving := c_giving (P := P) (w := w) (base := base) B (D := a.dgiving) (Csplits := Csplits)
  have Crows_to := c_rows_to (P := P) (w := w) (base := base) B (D := a.drows_to) (Cgiving := Cgiving)
  have Ccount_at := c_count_at (P := P) (w := w) (base := base) B (D := a.dcount_at)
  have Cmany := c_many (P := P) (w := w) (base := base) B (D := a.dmany) (Ccheck_counts := Ccheck_counts) (Crows_to := Crows_to) (Ccount_at := Ccount_at) (Call_choices := Call_choices)
  have Cmany_rests := c_many_rests (P := P) (w := w) (base := base) B (D := a.dmany_rests) (Ccheck_counts := Ccheck_counts) (Crows_to := Crows_to) (Ccount_at := Ccount_at) (Call_choices := Call_choices)
  have Cmany_in_order := c_many_in_order (P := P) (w := w) (base := base) B (D := a.dmany_in_order) (Ccheck_counts := Ccheck_counts) (Crows_to := Crows_to) (Ccount_at := Ccount_at) (Celdest_choice := Celdest_choice)
  have C_law_counts := c_counts (P := P) (w := w) (base := base) B (D := a.d_law_counts)
  have C_law_product := c_product (P := P) (w := w) (base := base) B (D := a.d_law_product)
  exact c_law (P := P) (w := w) (base := base) B (F := F) (C_law_pot := C_law_pot) (C_law_draw := C_law_draw) (C_law_counts := C_law_counts) (C_law_product := C_law_product) (C_law_is_number := C_law_is_number) (Cmany := Cmany) (Cmany_rests := Cmany_rests) (Cmany_in_order := Cmany_in_order)
theorem def_mk {K : PySem.W.Frag} {h : Heap} {mg : Str → Option Value} {x : Str} {st : Stmt} (X : K.In h) (G : h.Ns mainGlobals mg) {f : Addr} {od an : Option Addr} {sl : Array (Option Value)} {oc kV dc pm cd ct : Value} {nm : Str}
    (a : PySem.W.nsIn K mainGlobals x = some (some (.ref f))) (l : K.lookup f = some ⟨oc, od, .func (PySem.W.fnOf nm nm (defArgs st) (defBody st) (defScope st) .none kV dc pm an cd ct), sl⟩) (c : PySem.W.codeIn K cd nm = true) (k : PySem.W.keepIn K (.ref f) = true) : DefAt K mg x st nm :=
  ⟨f, _, fun_mk (st := st) l c k, PySem.W.mg_of X G a⟩
theorem glob_s {K : PySem.W.Frag} {h : Heap} {mg : Str → Option Value} {x z : Str} {t : Tok} (X : K.In h) (G : h.Ns mainGlobals mg) (a : PySem.W.nsIn K mainGlobals x = some (some (.str z t))) : ∃ t, mg x = some (.str z t) := ⟨t, PySem.W.mg_of X G a⟩
theorem glob_i {K : PySem.W.Frag} {h : Heap} {mg : Str → Option Value} {x : Str} {z : Int} {t : Tok} (X : K.In h) (G : h.Ns mainGlobals mg) (a : PySem.W.nsIn K mainGlobals x = some (some (.int z t))) : ∃ t, mg x = some (.int z t) := ⟨t, PySem.W.mg_of X G a⟩
theorem law_mk {l : PySem.W.OpenLaw} {w : World} {K : PySem.W.Frag} {h : Heap} {mg : Str → Option Value} {fa f : Addr} (X : K.In h) (G : h.Ns mainGlobals mg) (hfa : mg "law" = some (.ref fa))
    {od4 an4 : Option Addr} {sl4 : Array (Option Value)} {oc4 kV4 dc4 pm4 cd4 ct4 : Value}
    (a4 : PySem.W.nsIn K mainGlobals "law" = some (some (.ref f))) (l4 : K.lookup f = some ⟨oc4, od4, .func (PySem.W.fnOf "law" "law" (defArgs s_law) (defBody s_law) (defScope s_law) .none kV4 dc4 pm4 an4 cd4 ct4), sl4⟩) (c4 : PySem.W.codeIn K cd4 "law" = true) (k4 : PySem.W.keepIn K (.ref f) = true)
    
    (B : Bt mg) (a : AllD K mg) :
    ∃ fd : FuncData, (∀ (s : Shared) (v : Value), BindsTo s fd ⟨[v], []⟩ [("_law_script", v)]) ∧ ∀ base : Heap, K.In base → base.Ns mainGlobals mg → FnOk l.prog w K mg base CX0 5 fa fd ["_law_script"] (spLaw K) := by
  have e := hfa.symm.trans (PySem.W.mg_of X G a4)
  cases e
  exact ⟨PySem.W.fnOf "law" "law" (defArgs s_law) (defBody s_law) (defScope s_law) .none kV4 dc4 pm4 an4 cd4 ct4, fun s v => .of_eq rfl, fun base _ _ => law_ok B a (fun_mk (st := s_law) l4 c4 k4)⟩
theorem walk {l : PySem.W.OpenLaw} {q : Program} {loose : List Str} {XP : (Str → Option Value) → Heap → Prop} {YP : World → Heap → Prop} {d : DefRec} {K : Params → PySem.W.Frag} (hn : l.most = some 63) (hdf : d.params.defaults = [])
    (hY : ∀ (w : World) (h : Heap), YP w h → (K w.params).In h)
    (F : ∀ (w : World) (mg : Str → Option Value) (fa : Addr) (h : Heap), (K w.params).In h → h.Ns mainGlobals mg → mg d.name = some (.ref fa) →
      ∃ fd : FuncData, (∀ (s : Shared) (u : Value), BindsTo s fd ⟨[u], []⟩ [("_law_script", u)]) ∧ ∀ base : Heap, (K w.params).In base → base.Ns mainGlobals mg → FnOk l.prog w (K w.params) mg base CX0 5 fa fd ["_law_script"] (spLaw (K w.params))) :
    PySem.W.WalkO q loose XP YP l.row.toRowW d [] (fun f vs => PySem.call f vs) :=
  L2.walk_of (n := 63) (k := 5) (x := "_law_script") (CX := fun _ => CX0) (sp := fun w => spLaw (K w.params)) hn (by decide) hdf ⟨rfl, by decide, by decide⟩ hY F (fun _ _ a ns hl _ hS => ⟨a, ns, rfl, hS, hl, fun _ => rfl⟩) fun _ _ _ _ _ z => z
end Kk
open PySem PySem.W PyProof.Rows
set_option maxRecDepth 100000 in
set_option maxHeartbeats 0 in
theorem PySem.Challenge.cw_oncekinds_k46_whole_counts_by_closed_for_holds : PySem.Challenge.rw_oncekinds_k46_whole_counts_by_closed_for.Holds := by
  w_on; o_law; k_head; (case hw => w_witness2)
  k_fill
  refine Kk.walk (l := PySem.Challenge.rw_oncekinds_k46_whole_counts_by_closed_for) rfl rfl (fun w h Y => PySem.W.kIn_of Y) ?F
  case F =>
    intro w mg fa h KX G hmg
    have b_len : mg "len" = none := by refine' PySem.W.mg_none_of KX G ?z <;> k_is
    have b_int : mg "int" = none := by refine' PySem.W.mg_none_of KX G ?z <;> k_is
    have b_bool : mg "bool" = none := by refine' PySem.W.mg_none_of KX G ?z <;> k_is
    have b_str : mg "str" = none := by refine' PySem.W.mg_none_of KX G ?z <;> k_is
    have b_abs : mg "abs" = none := by refine' PySem.W.mg_none_of KX G ?z <;> k_is
    have b_min : mg "min" = none := by refine' PySem.W.mg_none_of KX G ?z <;> k_is
    have b_max : mg "max" = none := by refine' PySem.W.mg_none_of KX G ?z <;> k_is
    have b_sum : mg "sum" = none := by refine' PySem.W.mg_none_of KX G ?z <;> k_is
    have b_list : mg "list" = none := by refine' PySem.W.mg_none_of KX G ?z <;> k_is
    have b_tuple : mg "tuple" = none := by refine' PySem.W.mg_none_of KX G ?z <;> k_is
    have b_all : mg "all" = none := by refine' PySem.W.mg_none_of KX G ?z <;> k_is
    have b_isinstance : mg "isinstance" = none := by refine' PySem.W.mg_none_of KX G ?z <;> k_is
    have b_set : mg "set" = none := by refine' PySem.W.mg_none_of KX G ?z <;> k_is
    have b_range : mg "range" = none := by refine' PySem.W.mg_none_of KX G ?z <;> k_is
    have b_enumerate : mg "enumerate" = none := by refine' PySem.W.mg_none_of KX G ?z <;> k_is
    have b_reversed : mg "reversed" = none := by refine' PySem.W.mg_none_of KX G ?z <;> k_is
    have b_zip : mg "zip" = none := by refine' PySem.W.mg_none_of KX G ?z <;> k_is
    have b_divmod : mg "divmod" = none := by refine' PySem.W.mg_none_of KX G ?z <;> k_is
    have b_dict : mg "dict" = none := by refine' PySem.W.mg_none_of KX G ?z <;> k_is
    have b_sorted : mg "sorted" = none := by refine' PySem.W.mg_none_of KX G ?z <;> k_is
    have m_MOST_COUNTED : ∃ t, mg "MOST_COUNTED" = some (.int 40 t) := by refine' Kk.glob_i KX G ?gMOST_COUNTED; (case gMOST_COUNTED => k_is)
    have m_comb : mg "comb" = some (.builtin "math.comb") := by refine' PySem.W.mg_of KX G ?gcomb; (case gcomb => k_is)
    have B : Kk.Bt mg := ⟨b_len, b_int, b_bool, b_str, b_abs, b_min, b_max, b_sum, b_list, b_tuple, b_all, b_isinstance, b_set, b_range, b_enumerate, b_reversed, b_zip, b_divmod, b_dict, b_sorted, m_MOST_COUNTED, m_comb⟩
    refine' Kk.law_mk KX G hmg ?a4 ?l4 ?c4 ?k4 B ⟨Kk.def_mk KX G ?a_law_draw ?l_law_draw ?c_law_draw ?k_law_draw, Kk.def_mk KX G ?a_law_pot ?l_law_pot ?c_law_pot ?k_law_pot, Kk.def_mk KX G ?ais_number ?lis_number ?cis_number ?kis_number, Kk.def_mk KX G ?a_law_is_number ?l_law_is_number ?c_law_is_number ?k_law_is_number, Kk.def_mk KX G ?aall_choices ?lall_choices ?call_choices ?kall_choices, Kk.def_mk KX G ?aeldest_choice ?leldest_choice ?celdest_choice ?keldest_choice, Kk.def_mk KX G ?acheck_counts ?lcheck_counts ?ccheck_counts ?kcheck_counts, Kk.def_mk KX G ?asplits ?lsplits ?csplits ?ksplits, Kk.def_mk KX G ?agiving ?lgiving ?cgiving ?kgiving, Kk.def_mk KX G ?arows_to ?lrows_to ?crows_to ?krows_to, Kk.def_mk KX G ?acount_at ?lcount_at ?ccount_at ?kcount_at, Kk.def_mk KX G ?amany ?lmany ?cmany ?kmany, Kk.def_mk KX G ?amany_rests ?lmany_rests ?cmany_rests ?kmany_rests, Kk.def_mk KX G ?amany_in_order ?lmany_in_order ?cmany_in_order ?kmany_in_order, Kk.def_mk KX G ?a_law_counts ?l_law_counts ?c_law_counts ?k_law_counts, Kk.def_mk KX G ?a_law_product ?l_law_product ?c_law_product ?k_law_product⟩
    (case a4 => k_is)
    (case l4 => k_is)
    (case c4 => k_is)
    (case k4 => k_is)
    (case a_law_draw => k_is); (case l_law_draw => k_is); (case c_law_draw => k_is); (case k_law_draw => k_is)
    (case a_law_pot => k_is); (case l_law_pot => k_is); (case c_law_pot => k_is); (case k_law_pot => k_is)
    (case ais_number => k_is); (case lis_number => k_is); (case cis_number => k_is); (case kis_number => k_is)
    (case a_law_is_number => k_is); (case l_law_is_number => k_is); (case c_law_is_number => k_is); (case k_law_is_number => k_is)
    (case aall_choices => k_is); (case lall_choices => k_is); (case call_choices => k_is); (case kall_choices => k_is)
    (case aeldest_choice => k_is); (case leldest_choice => k_is); (case celdest_choice => k_is); (case keldest_choice => k_is)
    (case acheck_counts => k_is); (case lcheck_counts => k_is); (case ccheck_counts => k_is); (case kcheck_counts => k_is)
    (case asplits => k_is); (case lsplits => k_is); (case csplits => k_is); (case ksplits => k_is)
    (case agiving => k_is); (case lgiving => k_is); (case cgiving => k_is); (case kgiving => k_is)
    (case arows_to => k_is); (case lrows_to => k_is); (case crows_to => k_is); (case krows_to => k_is)
    (case acount_at => k_is); (case lcount_at => k_is); (case ccount_at => k_is); (case kcount_at => k_is)
    (case amany => k_is); (case lmany => k_is); (case cmany => k_is); (case kmany => k_is)
    (case amany_rests => k_is); (case lmany_rests => k_is); (case cmany_rests => k_is); (case kmany_rests => k_is)
    (case amany_in_order => k_is); (case lmany_in_order => k_is); (case cmany_in_order => k_is); (case kmany_in_order => k_is)
    (case a_law_counts => k_is); (case l_law_counts => k_is); (case c_law_counts => k_is); (case k_law_counts => k_is)
    (case a_law_product => k_is); (case l_law_product => k_is); (case c_law_product => k_is); (case k_law_product => k_is)
