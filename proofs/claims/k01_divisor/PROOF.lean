import PyProof.Rows.All
import Wide.All
import OpenK.AllK
import Wide.FinOn
import PySem.Challenge.RW_quotatree_k01_divisor
set_option Elab.async false
set_option maxHeartbeats 4000000
namespace My
@[irreducible] def gcdI (a b : Int) : Int := ((Int.gcd a b : Nat) : Int)
theorem gcd_step (g s : Int) (hs : 0 < s) : Int.gcd s (Int.fmod g s) = Int.gcd g s := by
  rw [Int.fmod_eq_emod_of_nonneg g (Int.le_of_lt hs)]
  have e : g = s * (g / s) + g % s := (Int.mul_ediv_add_emod g s).symm
  apply Nat.dvd_antisymm
  · have h1 : ((Int.gcd s (g % s) : Nat) : Int) ∣ s := Int.gcd_dvd_left _ _
    have h2 : ((Int.gcd s (g % s) : Nat) : Int) ∣ g % s := Int.gcd_dvd_right _ _
    have h3 : ((Int.gcd s (g % s) : Nat) : Int) ∣ g := by
      have := Int.dvd_add (Int.dvd_trans h1 (Int.dvd_mul_right s (g / s))) h2
      rw [← e] at this
      exact this
    exact Int.ofNat_dvd.mp (Int.dvd_coe_gcd h3 h1)
  · have h1 : ((Int.gcd g s : Nat) : Int) ∣ g := Int.gcd_dvd_left _ _
    have h2 : ((Int.gcd g s : Nat) : Int) ∣ s := Int.gcd_dvd_right _ _
    have h3 : ((Int.gcd g s : Nat) : Int) ∣ g % s := by
      have := Int.dvd_sub h1 (Int.dvd_trans h2 (Int.dvd_mul_right s (g / s)))
      have e2 : g - s * (g / s) = g % s := by omega
      rw [e2] at this
      exact this
    exact Int.ofNat_dvd.mp (Int.dvd_coe_gcd h2 h3)
theorem gcd_abs (a b : Int) : Int.gcd (if a < 0 then -a else a) (if b < 0 then -b else b) = Int.gcd a b := by
  have ea : (if a < 0 then -a else a).natAbs = a.natAbs := by split <;> omega
  have eb : (if b < 0 then -b else b).natAbs = b.natAbs := by split <;> omega
  unfold Int.gcd
  rw [ea, eb]
structure Inv (g0 s0 g s : Int) : Prop where
  is : Int.gcd g s = Int.gcd g0 s0
theorem start {g s : Int} (hg : 0 ≤ g) (hs : 0 ≤ s) : 0 ≤ g ∧ 0 ≤ s ∧ Inv g s g s := ⟨hg, hs, ⟨rfl⟩⟩
theorem turn {g0 s0 g s r : Int} (e : r = Int.fmod g s) (h : Inv g0 s0 g s) (hs : 0 < s) : 0 ≤ s ∧ 0 ≤ r ∧ Inv g0 s0 s r := by
  subst e
  exact ⟨Int.le_of_lt hs, Int.fmod_nonneg_of_pos g hs, ⟨(gcd_step g s hs).trans h.is⟩⟩
theorem out {a b g s : Int} (h : Inv (if a < 0 then -a else a) (if b < 0 then -b else b) g s) (hg : 0 ≤ g) (h0 : 0 ≤ s) (h1 : ¬ 0 < s) : g = gcdI a b := by
  have e : s = 0 := by omega
  have i := h.is
  rw [gcd_abs, e, Int.gcd_zero_right] at i
  unfold gcdI
  rw [← i]
  omega
theorem nonneg (a b : Int) : 0 ≤ gcdI a b := by unfold gcdI; exact Int.natCast_nonneg _
theorem zero {a b : Int} (h : gcdI a b = 0) : a = 0 ∧ b = 0 := by
  unfold gcdI at h
  exact Int.gcd_eq_zero_iff.mp (by omega)
theorem fmod_zero {x d : Int} (hd : 0 ≤ d) (h : d ∣ x) : Int.fmod x d = 0 := by
  rw [Int.fmod_eq_emod_of_nonneg x hd]
  exact Int.emod_eq_zero_of_dvd h
theorem left (a b : Int) : Int.fmod a (gcdI a b) = 0 := fmod_zero (nonneg a b) (by unfold gcdI; exact Int.gcd_dvd_left a b)
theorem right (a b : Int) : Int.fmod b (gcdI a b) = 0 := fmod_zero (nonneg a b) (by unfold gcdI; exact Int.gcd_dvd_right a b)
theorem shared {c a b : Int} (hc : 0 ≤ c) (ha : c ∣ a) (hb : c ∣ b) : Int.fmod (gcdI a b) c = 0 := fmod_zero hc (by unfold gcdI; exact Int.dvd_coe_gcd ha hb)
end My
namespace My
open PySem PySem.W PySem.Calls PyProof.Rows
variable {prog : Program} {w : World} {A : Around} {E : Value → Shared → Prop} {s : Shared} {x y : Int} {t u : Tok} {Q : Value → Shared → Prop}
theorem step_mod (hy : 0 < y) (h : ∀ r, r = Int.fmod x y → 0 ≤ r → r < y → Q (.int r s.toks) { s with toks := s.toks + 1 }) :
    wpAny (model prog w) A (binaryOp .Mod (.int x t) (.int y u)) Q E s :=
  PyProof.Rows.mod_int (by omega) (h _ rfl (Int.fmod_nonneg_of_pos x hy) (Int.fmod_lt_of_pos x hy))
theorem menu3 {r : Int} (h0 : 0 ≤ r) (h1 : r < 3) : 1 ≤ [1, 40, (10 : Int) ^ Int.toNat 30].getD r.toNat 0 ∧ [1, 40, (10 : Int) ^ Int.toNat 30].getD r.toNat 0 ≤ 10 ^ 30 := by
  rcases (show r = 0 ∨ r = 1 ∨ r = 2 by omega) with e | e | e <;> subst e <;> decide +kernel
theorem menu2 {r : Int} (h0 : 0 ≤ r) (h1 : r < 2) : 40 ≤ [40, (10 : Int) ^ Int.toNat 30].getD r.toNat 0 ∧ [40, (10 : Int) ^ Int.toNat 30].getD r.toNat 0 ≤ 10 ^ 30 := by
  rcases (show r = 0 ∨ r = 1 by omega) with e | e <;> subst e <;> decide +kernel
theorem step_mod3 (h : ∀ r, 0 ≤ r → r < 3 → 1 ≤ [1, 40, (10 : Int) ^ Int.toNat 30].getD r.toNat 0 ∧ [1, 40, (10 : Int) ^ Int.toNat 30].getD r.toNat 0 ≤ 10 ^ 30 → Q (.int r s.toks) { s with toks := s.toks + 1 }) :
    wpAny (model prog w) A (binaryOp .Mod (.int x t) (.int 3 u)) Q E s :=
  step_mod (by decide) fun r _ h0 h1 => h r h0 h1 (menu3 h0 h1)
theorem step_mod2 (h : ∀ r, 0 ≤ r → r < 2 → 40 ≤ [40, (10 : Int) ^ Int.toNat 30].getD r.toNat 0 ∧ [40, (10 : Int) ^ Int.toNat 30].getD r.toNat 0 ≤ 10 ^ 30 → Q (.int r s.toks) { s with toks := s.toks + 1 }) :
    wpAny (model prog w) A (binaryOp .Mod (.int x t) (.int 2 u)) Q E s :=
  step_mod (by decide) fun r _ h0 h1 => h r h0 h1 (menu2 h0 h1)
set_option exponentiation.threshold 400 in
theorem bits {k : Int} (h1 : -(10 ^ 90) ≤ k) (h2 : k ≤ 10 ^ 90) : Builtin.Int.intBits k ≤ 2 ^ 20 := by
  refine Nat.le_trans (PyProof.Rows.intBits_le (k := 300) ?_) (by decide)
  have e : ((10 : Int) ^ 90) < 2 ^ 300 := by decide +kernel
  have e2 : ((2 ^ 300 : Nat) : Int) = (2 : Int) ^ 300 := by simp
  omega
theorem step_mul (l1 : -(10 ^ 90) ≤ x) (h1 : x ≤ 10 ^ 90) (l2 : -(10 ^ 90) ≤ y) (h2 : y ≤ 10 ^ 90) (h : Q (.int (x * y) s.toks) { s with toks := s.toks + 1 }) :
    wpAny (model prog w) A (binaryOp .Mult (.int x t) (.int y u)) Q E s :=
  PyProof.Rows.mul_int h (PySem.IntMulOk.of_bits (bits l1 h1) (bits l2 h2))
theorem step_eq (e : x = y) (h : Q (.bool true) s) : wpAny (model prog w) A (compareOp .Eq (.int x t) (.int y u)) Q E s := by
  refine PyProof.Rows.eq_int ?_
  have d : (x == y) = true := beq_iff_eq.mpr e
  rw [d]
  exact h
theorem step_twice (h : Q (.int (2 * y) s.toks) { s with toks := s.toks + 1 }) :
    wpAny (model prog w) A (binaryOp .Mult (.int 2 t) (.int y u)) Q E s :=
  PyProof.Rows.mul_int h (PySem.IntMulOk.of_left (by decide))
theorem step_mulD (l1 : -(10 ^ 90) ≤ x) (h1 : x ≤ 10 ^ 90) (l2 : -(10 ^ 90) ≤ y) (h2 : y ≤ 10 ^ 90) (h : ∀ p, x ∣ p → Q (.int p s.toks) { s with toks := s.toks + 1 }) :
    wpAny (model prog w) A (binaryOp .Mult (.int x t) (.int y u)) Q E s :=
  PyProof.Rows.mul_int (h _ (Int.dvd_mul_right x y)) (PySem.IntMulOk.of_bits (bits l1 h1) (bits l2 h2))
end My
open PySem PySem.W PyProof.Rows
local macro_rules | `(tactic| walk_at "binaryOp Mod int int") => `(tactic| (k_here; first | ((with_reducible refine' My.step_mod3 ?_); intro r' hr0 hr1 hr2) | ((with_reducible refine' My.step_mod2 ?_); intro r' hr0 hr1 hr2) | ((with_reducible refine' My.step_mod ?k1 ?_); (case k1 => k_dflt omega); intro r' e' hr0 hr1)))
local macro_rules | `(tactic| walk_at "binaryOp Mult int int") => `(tactic| (k_here; first | (with_reducible refine' My.step_twice ?_) | ((with_reducible refine' My.step_mulD ?k1 ?k2 ?k3 ?k4 ?_); (case k1 => k_dflt omega); (case k2 => k_dflt omega); (case k3 => k_dflt omega); (case k4 => k_dflt omega); intro p' hp')))
local macro_rules | `(tactic| walk_at "compareOp Eq int int") => `(tactic| (k_here; (with_reducible refine' My.step_eq ?k1 ?_); (case k1 => k_dflt (first
  | exact Eq.trans (by assumption) (My.left _ _)
  | exact Eq.trans (by assumption) (My.right _ _)
  | exact Eq.trans (by assumption) (My.shared (by omega) (by first | exact Int.dvd_zero _ | assumption) (by first | exact Int.dvd_zero _ | assumption))
  | exact (My.zero (by assumption)).1
  | exact (My.zero (by assumption)).2))))
set_option maxRecDepth 100000 in
set_option maxHeartbeats 8000000 in
theorem PySem.Challenge.cw_quotatree_k01_divisor_holds : PySem.Challenge.rw_quotatree_k01_divisor.Holds := by
  k_with "call ref" => k_call_by "divisor" My.gcdI
  k_with "fact divisor" => exact My.nonneg
  k_with "tree" => exact My.out (by assumption) (by omega) (by omega) (by omega)
  k_with "state" => first
    | exact My.turn (by assumption) (by assumption) (by omega)
    | exact My.start (by split <;> omega) (by split <;> omega)
    | exact My.start (by omega) (by omega)
  k_with "exec While Compare cons nil" => k_while_given ["great!", "small!"] (fun g0 s0 _ g s => 0 ≤ g ∧ 0 ≤ s ∧ My.Inv g0 s0 g s) (fun _ _ _ _ s => s.toNat) "great" "small"
  open_k
#print axioms PySem.Challenge.cw_quotatree_k01_divisor_holds
