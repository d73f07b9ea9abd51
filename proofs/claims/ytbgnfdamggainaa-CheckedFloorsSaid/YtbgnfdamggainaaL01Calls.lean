/- What the functions of layer 1 and those of its reference return, as one plain function of their arguments each. Conditions: the arguments are numbers of 64 bits. -/
import Derived.Test.YtbgnfdamggainaaProg
import Derived.Test.YtbgnfdamggainaaPlain
import Derived.Deep.QuietTactic
import Derived.BigQuiet
namespace Go.Proofs.Ytbgnfdamggainaa
open Go Go.RowKit

def I64 (a : Int) : Prop := -9223372036854775808 ≤ a ∧ a ≤ 9223372036854775807
def U64 (a : Int) : Prop := 0 ≤ a ∧ a ≤ 18446744073709551615
def inR (a : Int) : Bool := decide (-9223372036854775808 ≤ a ∧ a ≤ 9223372036854775807)
def orZ (a : Int) : Int := if -9223372036854775808 ≤ a ∧ a ≤ 9223372036854775807 then a else 0
def distV (a b : Int) : Int := if a < b then b - a else a - b
def diffV (a b : Int) : Int := (a - b) % 18446744073709551616
def applyV (a d : Int) : Int := wrap64 (a + d)
def midV (a b : Int) : Int := (a + b) / 2
def nearV (a b e : Int) : Bool := decide (0 ≤ e ∧ distV a b ≤ e)
def divOk (a b : Int) : Bool := decide (¬ (b = 0 ∨ (a = -9223372036854775808 ∧ b = -1)))
def floorV (a b : Int) : Int := if b = 0 ∨ (a = -9223372036854775808 ∧ b = -1) then 0 else if a.tmod b ≠ 0 ∧ ¬ (a < 0 ↔ b < 0) then a.tdiv b - 1 else a.tdiv b
def ceilV (a b : Int) : Int := if b = 0 ∨ (a = -9223372036854775808 ∧ b = -1) then 0 else if a.tmod b ≠ 0 ∧ (a < 0 ↔ b < 0) then a.tdiv b + 1 else a.tdiv b
def modOk (b : Int) : Bool := decide (b ≠ 0)
def modV (a b : Int) : Int := if b = 0 then 0 else if a.tmod b ≠ 0 ∧ ¬ (a.tmod b < 0 ↔ b < 0) then a.tmod b + b else a.tmod b

theorem rb1 {k : IntKind} {a a' : Int} (h1 : a = a') : Ending.returned (Value.int k a) = .returned (.int k a') := by rw [h1]
theorem rbb {b b' : Bool} (h2 : b = b') : Ending.returned (Value.bool b) = .returned (.bool b') := by rw [h2]
theorem rb2 {k : IntKind} {a a' : Int} {b b' : Bool} (h1 : a = a') (h2 : b = b') : Ending.returned (Value.tuple #[.int k a, .bool b]) = .returned (.tuple #[.int k a', .bool b']) := by rw [h1, h2]
theorem wrap_u64' (n : Int) : IntKind.u64.wrap n = n % 18446744073709551616 := by simp [IntKind.wrap, IntKind.bits, IntKind.signed]

theorem c_add (a : Int) (b : Int) (w : World) (ha : I64 a) (hb : I64 b) :
    Calls Try.prog 24 #[.int .i64 a, .int .i64 b] w fun e w' => e = .returned (.tuple #[.int .i64 (orZ (a + b)), .bool (inR (a + b))]) ∧ w = w' := by
  obtain ⟨a1, a2⟩ := ha
  obtain ⟨b1, b2⟩ := hb
  go_enter Try.func24, Try.ntmps24
  go_wp2
  all_goals (first | go_ret2 | (exfalso; simp_all; done))
  all_goals exact ⟨rb2 (by grind [orZ, wrap64]) (by grind [inR, wrap64]), rfl⟩

theorem c_sub (a : Int) (b : Int) (w : World) (ha : I64 a) (hb : I64 b) :
    Calls Try.prog 26 #[.int .i64 a, .int .i64 b] w fun e w' => e = .returned (.tuple #[.int .i64 (orZ (a - b)), .bool (inR (a - b))]) ∧ w = w' := by
  obtain ⟨a1, a2⟩ := ha
  obtain ⟨b1, b2⟩ := hb
  go_enter Try.func26, Try.ntmps26
  go_wp2
  all_goals (first | go_ret2 | (exfalso; simp_all; done))
  all_goals exact ⟨rb2 (by grind [orZ, wrap64]) (by grind [inR, wrap64]), rfl⟩

theorem c_diff (a : Int) (b : Int) (w : World) (ha : I64 a) (hb : I64 b) :
    Calls Try.prog 18 #[.int .i64 a, .int .i64 b] w fun e w' => e = .returned (.int .u64 (diffV a b)) ∧ w = w' := by
  obtain ⟨a1, a2⟩ := ha
  obtain ⟨b1, b2⟩ := hb
  go_enter Try.func18, Try.ntmps18
  go_wp2
  all_goals (first | go_ret | (exfalso; simp_all; done))
  all_goals exact ⟨rb1 (by simp only [diffV, wrap_u64']; omega), rfl⟩

theorem c_dist (a : Int) (b : Int) (w : World) (ha : I64 a) (hb : I64 b) :
    Calls Try.prog 22 #[.int .i64 a, .int .i64 b] w fun e w' => e = .returned (.int .u64 (distV a b)) ∧ w = w' := by
  obtain ⟨a1, a2⟩ := ha
  obtain ⟨b1, b2⟩ := hb
  go_enter Try.func22, Try.ntmps22
  go_wp2
  all_goals (first | go_ret | (exfalso; simp_all; done))
  all_goals exact ⟨rb1 (by simp only [distV, wrap_u64']; grind), rfl⟩

theorem c_apply (a : Int) (d : Int) (w : World) (ha : I64 a) (hd : U64 d) :
    Calls Try.prog 16 #[.int .i64 a, .int .u64 d] w fun e w' => e = .returned (.int .i64 (applyV a d)) ∧ w = w' := by
  obtain ⟨a1, a2⟩ := ha
  obtain ⟨d1, d2⟩ := hd
  go_enter Try.func16, Try.ntmps16
  go_wp2
  all_goals (first | go_ret | (exfalso; simp_all; done))
  all_goals exact ⟨rb1 (by simp only [applyV, wrap_u64', wrap64]; omega), rfl⟩

theorem c_near (a : Int) (b : Int) (p : Int) (w : World) (ha : I64 a) (hb : I64 b) (hp : I64 p) :
    Calls Try.prog 14 #[.int .i64 a, .int .i64 b, .int .i64 p] w fun e w' => e = .returned (.bool (nearV a b p)) ∧ w = w' := by
  obtain ⟨a1, a2⟩ := ha
  obtain ⟨b1, b2⟩ := hb
  obtain ⟨p1, p2⟩ := hp
  go_enter Try.func14, Try.ntmps14
  go_wp2
  all_goals (first | go_ret | (exfalso; simp_all; done))
  all_goals exact ⟨rbb (by simp only [nearV, distV, wrap_u64'] at *; grind), rfl⟩

theorem c_mid (a : Int) (b : Int) (w : World) (ha : I64 a) (hb : I64 b) :
    Calls Try.prog 23 #[.int .i64 a, .int .i64 b] w fun e w' => e = .returned (.int .i64 (midV a b)) ∧ w = w' := by
  obtain ⟨a1, a2⟩ := ha
  obtain ⟨b1, b2⟩ := hb
  go_enter Try.func23, Try.ntmps23
  go_wp2
  all_goals (first | go_ret | (exfalso; simp_all; done))
  exact ⟨rb1 (mid_bits a b a1 a2 b1 b2), rfl⟩

theorem c_floor (a : Int) (b : Int) (w : World) (ha : I64 a) (hb : I64 b) :
    Calls Try.prog 19 #[.int .i64 a, .int .i64 b] w fun e w' => e = .returned (.tuple #[.int .i64 (floorV a b), .bool (divOk a b)]) ∧ w = w' := by
  obtain ⟨a1, a2⟩ := ha
  obtain ⟨b1, b2⟩ := hb
  have hm : (a == -9223372036854775808) = true ∧ a ≤ -9223372036854775808 ∨ (a == -9223372036854775808) = false ∧ -9223372036854775808 < a := by simp; omega
  rcases hm with ⟨hm, hm'⟩ | ⟨hm, hm'⟩
  all_goals go_enter Try.func19, Try.ntmps19
  all_goals go_wp2
  all_goals (first | go_ret2 | (exfalso; simp_all; done))
  all_goals exact ⟨rb2 (by have ht := tq a b; grind [floorV, wrap64]) (by grind [divOk]), rfl⟩

theorem c_ceil (a : Int) (b : Int) (w : World) (ha : I64 a) (hb : I64 b) :
    Calls Try.prog 21 #[.int .i64 a, .int .i64 b] w fun e w' => e = .returned (.tuple #[.int .i64 (ceilV a b), .bool (divOk a b)]) ∧ w = w' := by
  obtain ⟨a1, a2⟩ := ha
  obtain ⟨b1, b2⟩ := hb
  have hm : (a == -9223372036854775808) = true ∧ a ≤ -9223372036854775808 ∨ (a == -9223372036854775808) = false ∧ -9223372036854775808 < a := by simp; omega
  rcases hm with ⟨hm, hm'⟩ | ⟨hm, hm'⟩
  all_goals go_enter Try.func21, Try.ntmps21
  all_goals go_wp2
  all_goals (first | go_ret2 | (exfalso; simp_all; done))
  all_goals exact ⟨rb2 (by have ht := tq a b; grind [ceilV, wrap64]) (by grind [divOk]), rfl⟩

theorem c_mod (a : Int) (b : Int) (w : World) (ha : I64 a) (hb : I64 b) :
    Calls Try.prog 20 #[.int .i64 a, .int .i64 b] w fun e w' => e = .returned (.tuple #[.int .i64 (modV a b), .bool (modOk b)]) ∧ w = w' := by
  obtain ⟨a1, a2⟩ := ha
  obtain ⟨b1, b2⟩ := hb
  have hm : (a == -9223372036854775808) = true ∧ a ≤ -9223372036854775808 ∨ (a == -9223372036854775808) = false ∧ -9223372036854775808 < a := by simp; omega
  rcases hm with ⟨hm, hm'⟩ | ⟨hm, hm'⟩
  all_goals go_enter Try.func20, Try.ntmps20
  all_goals go_wp2
  all_goals (first | go_ret2 | (exfalso; simp_all; done))
  all_goals exact ⟨rb2 (by have ht := tq a b; grind [modV, wrap64]) (by grind [modOk]), rfl⟩

theorem r_add (a : Int) (b : Int) (w : World) (ha : I64 a) (hb : I64 b) :
    Calls Try.prog 25 #[.int .i64 a, .int .i64 b] w fun e w' => e = .returned (.tuple #[.int .i64 (orZ (a + b)), .bool (inR (a + b))]) ∧ w = w' := by
  obtain ⟨a1, a2⟩ := ha
  obtain ⟨b1, b2⟩ := hb
  go_enter Try.func25, Try.ntmps25
  go_wp2
  all_goals (first | go_ret2 | (exfalso; simp_all; done))
  all_goals exact ⟨rb2 (by grind [orZ, wrap64]) (by grind [inR, wrap64]), rfl⟩

theorem r_sub (a : Int) (b : Int) (w : World) (ha : I64 a) (hb : I64 b) :
    Calls Try.prog 27 #[.int .i64 a, .int .i64 b] w fun e w' => e = .returned (.tuple #[.int .i64 (orZ (a - b)), .bool (inR (a - b))]) ∧ w = w' := by
  obtain ⟨a1, a2⟩ := ha
  obtain ⟨b1, b2⟩ := hb
  go_enter Try.func27, Try.ntmps27
  go_wp2
  all_goals (first | go_ret2 | (exfalso; simp_all; done))
  all_goals exact ⟨rb2 (by grind [orZ, wrap64]) (by grind [inR, wrap64]), rfl⟩

theorem r_diff (a : Int) (b : Int) (w : World) (ha : I64 a) (hb : I64 b) :
    Calls Try.prog 31 #[.int .i64 a, .int .i64 b] w fun e w' => e = .returned (.int .u64 (diffV a b)) ∧ w = w' := by
  obtain ⟨a1, a2⟩ := ha
  obtain ⟨b1, b2⟩ := hb
  go_enter Try.func31, Try.ntmps31
  go_wp2
  all_goals (first | go_ret | (exfalso; simp_all; done))
  all_goals exact ⟨rb1 (by simp only [diffV, wrap_u64']; omega), rfl⟩

theorem r_dist (a : Int) (b : Int) (w : World) (ha : I64 a) (hb : I64 b) :
    Calls Try.prog 30 #[.int .i64 a, .int .i64 b] w fun e w' => e = .returned (.int .u64 (distV a b)) ∧ w = w' := by
  obtain ⟨a1, a2⟩ := ha
  obtain ⟨b1, b2⟩ := hb
  go_enter Try.func30, Try.ntmps30
  go_wp2
  all_goals (first | go_ret | (exfalso; simp_all; done))
  all_goals exact ⟨rb1 (by simp only [distV, wrap_u64']; grind), rfl⟩

theorem r_apply (a : Int) (d : Int) (w : World) (ha : I64 a) (hd : U64 d) :
    Calls Try.prog 17 #[.int .i64 a, .int .u64 d] w fun e w' => e = .returned (.int .i64 (applyV a d)) ∧ w = w' := by
  obtain ⟨a1, a2⟩ := ha
  obtain ⟨d1, d2⟩ := hd
  go_enter Try.func17, Try.ntmps17
  go_wp2
  all_goals (first | go_ret | (exfalso; simp_all; done))
  all_goals exact ⟨rb1 (by simp only [applyV, wrap_u64', wrap64]; omega), rfl⟩

theorem r_near (a : Int) (b : Int) (p : Int) (w : World) (ha : I64 a) (hb : I64 b) (hp : I64 p) :
    Calls Try.prog 15 #[.int .i64 a, .int .i64 b, .int .i64 p] w fun e w' => e = .returned (.bool (nearV a b p)) ∧ w = w' := by
  obtain ⟨a1, a2⟩ := ha
  obtain ⟨b1, b2⟩ := hb
  obtain ⟨p1, p2⟩ := hp
  go_enter Try.func15, Try.ntmps15
  go_wp2
  all_goals (first | go_ret | (exfalso; simp_all; done))
  all_goals exact ⟨rbb (by simp only [nearV, distV, wrap_u64'] at *; grind), rfl⟩

theorem r_mid (a : Int) (b : Int) (w : World) (ha : I64 a) (hb : I64 b) :
    Calls Try.prog 32 #[.int .i64 a, .int .i64 b] w fun e w' => e = .returned (.int .i64 (midV a b)) ∧ w = w' := by
  obtain ⟨a1, a2⟩ := ha
  obtain ⟨b1, b2⟩ := hb
  go_enter Try.func32, Try.ntmps32
  go_wp2
  all_goals (first | go_ret | (exfalso; simp_all; done))
  all_goals exact ⟨rb1 (by have q : ∀ x : Int, (x % 18446744073709551616).tdiv 2 = x % 18446744073709551616 / 2 := fun x => Int.tdiv_eq_ediv_of_nonneg (by omega)
                           simp only [midV, wrap_u64', wrap64, q] at *; omega), rfl⟩

theorem r_floor (a : Int) (b : Int) (w : World) (ha : I64 a) (hb : I64 b) :
    Calls Try.prog 34 #[.int .i64 a, .int .i64 b] w fun e w' => e = .returned (.tuple #[.int .i64 (floorV a b), .bool (divOk a b)]) ∧ w = w' := by
  obtain ⟨a1, a2⟩ := ha
  obtain ⟨b1, b2⟩ := hb
  have hm : (a == -9223372036854775808) = true ∧ a ≤ -9223372036854775808 ∨ (a == -9223372036854775808) = false ∧ -9223372036854775808 < a := by simp; omega
  rcases hm with ⟨hm, hm'⟩ | ⟨hm, hm'⟩
  all_goals go_enter Try.func34, Try.ntmps34
  all_goals go_wp2
  all_goals (first | go_ret2 | (exfalso; simp_all; done))
  all_goals exact ⟨rb2 (by have ht := tq a b; grind [floorV, wrap64]) (by grind [divOk]), rfl⟩

theorem r_ceil (a : Int) (b : Int) (w : World) (ha : I64 a) (hb : I64 b) :
    Calls Try.prog 35 #[.int .i64 a, .int .i64 b] w fun e w' => e = .returned (.tuple #[.int .i64 (ceilV a b), .bool (divOk a b)]) ∧ w = w' := by
  obtain ⟨a1, a2⟩ := ha
  obtain ⟨b1, b2⟩ := hb
  have hm : (a == -9223372036854775808) = true ∧ a ≤ -9223372036854775808 ∨ (a == -9223372036854775808) = false ∧ -9223372036854775808 < a := by simp; omega
  rcases hm with ⟨hm, hm'⟩ | ⟨hm, hm'⟩
  all_goals go_enter Try.func35, Try.ntmps35
  all_goals go_wp2
  all_goals (first | go_ret2 | (exfalso; simp_all; done))
  all_goals exact ⟨rb2 (by have ht := tq a b; grind [ceilV, wrap64]) (by grind [divOk]), rfl⟩

theorem r_mod (a : Int) (b : Int) (w : World) (ha : I64 a) (hb : I64 b) :
    Calls Try.prog 36 #[.int .i64 a, .int .i64 b] w fun e w' => e = .returned (.tuple #[.int .i64 (modV a b), .bool (modOk b)]) ∧ w = w' := by
  obtain ⟨a1, a2⟩ := ha
  obtain ⟨b1, b2⟩ := hb
  have hm : (a == -9223372036854775808) = true ∧ a ≤ -9223372036854775808 ∨ (a == -9223372036854775808) = false ∧ -9223372036854775808 < a := by simp; omega
  rcases hm with ⟨hm, hm'⟩ | ⟨hm, hm'⟩
  all_goals go_enter Try.func36, Try.ntmps36
  all_goals go_wp2
  all_goals (first | go_ret2 | (exfalso; simp_all; done))
  all_goals exact ⟨rb2 (by have ht := tq a b; grind [modV, wrap64]) (by grind [modOk]), rfl⟩

end Go.Proofs.Ytbgnfdamggainaa
