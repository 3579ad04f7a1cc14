/- Layer 16: the laws' config. -/
import Derived.Test.YtcdkcaahmjchjaaSenderAlive
import Derived.Deep.DeepCutAuto
namespace Go.Proofs.Ytcdkcaahmjchjaa
open Go.RowKit

def kOf (x : Int) : Int := IntKind.u64.wrap x % 1048576
theorem kOf_range (x : Int) : 0 ≤ kOf x ∧ kOf x ≤ 1048575 := by
  unfold kOf
  omega
theorem config1 (x : Int) (w : World) : Calls Try.prog 47 #[.int .i64 x] w fun e w' => e = .returned (.int .i64 (kOf x)) ∧ w = w' := by
  have h0 : (0 : Int) ≤ IntKind.u64.wrap x := wrap_u64_nonneg x
  go_enter Try.func47, Try.ntmps47
  go_wp2
  go_ret
  exact ⟨rfl, rfl⟩

/-- the laws' config of three numbers and a factor's bits -/
abbrev cfgOf (a b c : Int) (bits : Nat) : Value := cfg 0 (kOf a) (kOf b) (1 + kOf c) bits

set_option maxRecDepth 100000 in
set_option maxHeartbeats 4000000 in
theorem configAny (a b c : Int) (bits : Nat) (w : World) : Calls Try.prog 14 #[.agg #[.int .i64 a, .int .i64 b, .int .i64 c], .int .u64 (bits : Int)] w fun e w' => e = .returned (cfgOf a b c bits) ∧ Below w.heap.size w w' := by
  have hfb : ∀ w, (callFunc 33 #[.int .u64 (bits : Int)]).run Try.prog w = .ok (.value (.float .f64 bits)) w := fun w => by have := fromBits (bits : Int) w; simpa using this
  have hc := kOf_range c
  have hw : IntKind.i64.wrap (1 + kOf c) = 1 + kOf c := IntWalk.i64_in _ (by omega)
  clear hc
  go_enter Try.func14, Try.ntmps14
  go_wp2_with (fail)
  have C1 := Lib.hid config1
  have hst := fun A m W => run_store Try.prog W A (.float .f64 bits) m rfl
  go_region_held3 (fun w' => w'.cell? ⟨w.heap.size, 0, none⟩ = some (.int .i64 a) ∧ w'.cell? ⟨w.heap.size, 1, none⟩ = some (.int .i64 b) ∧ w'.cell? ⟨w.heap.size, 2, none⟩ = some (.int .i64 c)) (go_keep)
    (first
    | (go_at_call 47; refine (C1.out _ _).mono ?_; rintro e w' ⟨rfl, rfl⟩))
  all_goals
    go_wp2
    exact bodyPost_ret (v := .agg #[.int .i64 0, .int .i64 (kOf a), .int .i64 (kOf b), .int .i64 (1 + kOf c), .float .f64 bits]) (by simp [results, Try.results14, go_sem]) rfl ⟨rfl, (((Below.refl _ w).alloc (Nat.le_refl _) _).alloc (by simp) _).drew⟩
end Go.Proofs.Ytcdkcaahmjchjaa
