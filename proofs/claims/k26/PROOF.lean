import PyProof.Rows.All
import Wide.All
import OpenK.AllK
import Wide.FinOn
import Lean
import PyProof.EqAt
import PyProof.EqKinds
import PyProof.TupleCall
import PySem.Challenge.RW_nextbyrule_k26_where_rows_part
set_option Elab.async false
set_option linter.all false
set_option maxRecDepth 100000
namespace OmL
theorem om0 {x0 : Nat} {x1 : Nat} {x2 : Nat} (h0 : (x0 ≤ x1)) (h1 : (x2 = x0)) : (x2 ≤ x1) := by omega
theorem om1 {x0 : Nat} {x1 : Nat} {x2 : Nat} (h0 : (x0 ≤ x1)) (h1 : (x0 = x2)) : (x2 ≤ x1) := by omega
theorem om2 {x0 : Nat} {x1 : Nat} (h0 : (x0 ≤ x1)) : ((((x0 : Nat) : Int) - ((x1 : Nat) : Int)) ≤ (0 : Int)) := by omega
theorem om3 : ((-((2 : Int) ^ (62 : Nat))) ≤ (0 : Int)) := by omega
theorem om4 : ((0 : Int) < ((2 : Int) ^ (62 : Nat))) := by omega
theorem om5 {x0 : Nat} {x1 : Nat} (h0 : (x0 < x1)) : ((x1 - (x0 + (1 : Nat))) < (x1 - x0)) := by omega
theorem om6 {x0 : Nat} {x1 : Nat} (h0 : (x0 ≤ x1)) (h1 : (¬ (x0 < x1))) : (x0 = x1) := by omega
theorem om7 {x0 : Int} (h0 : ((0 : Int) < x0)) (h1 : (x0 < (1073741824 : Int))) : (x0 ≠ (0 : Int)) := by omega
theorem om8 {x0 : Int} (h0 : ((0 : Int) < x0)) (h1 : (x0 < (1073741824 : Int))) : ((0 : Int) ≤ x0) := by omega
theorem om9 {x0 : Int} (h0 : ((0 : Int) < x0)) (h1 : (x0 < (1073741824 : Int))) : ((Int.natAbs x0) < (1073741824 : Nat)) := by omega
theorem om10 {x0 : Int} (h0 : ((0 : Int) < x0)) : (x0 ≠ (0 : Int)) := by omega
theorem om11 {x0 : Int} (h0 : ((0 : Int) < x0)) : ((0 : Int) ≤ x0) := by omega
theorem om12 {x0 : Nat} {x1 : Nat} (h0 : (x0 = (16777216 : Nat))) (h1 : (x1 ≤ x0)) : (¬ (((x1 : Nat) : Int) ≥ ((2 : Int) ^ (63 : Nat)))) := by omega
theorem om13 {x0 : Nat} {x1 : Nat} (h0 : (x0 = (16777216 : Nat))) (h1 : (x1 ≤ x0)) : (x1 ≤ (1099511627776 : Nat)) := by omega
theorem om14 {x0 : Nat} {x1 : Nat} {x2 : Nat} (h0 : (x0 = (16777216 : Nat))) (h1 : (x1 ≤ x0)) (h2 : (x1 = x2)) : (((x2 : Nat) : Int) < ((2 : Int) ^ (63 : Nat))) := by omega
theorem om15 {x0 : Nat} {x1 : Nat} {x2 : Nat} {x3 : Nat} (h0 : (x0 ≤ x1)) (h1 : (((x2 + ((3 : Nat) * x1)) + (5 : Nat)) < x3)) : (((x2 + ((3 : Nat) * x0)) + (5 : Nat)) < x3) := by omega
theorem om16 {x0 : Nat} {x1 : Nat} {x2 : Nat} {x3 : Nat} (h0 : (x0 ≤ x1)) (h1 : (((x2 + ((16 : Nat) * x1)) + (200 : Nat)) < x3)) : (((x2 + ((16 : Nat) * x0)) + (200 : Nat)) < x3) := by omega
theorem om17 {x0 : Nat} {x1 : Nat} {x2 : Nat} (h0 : (((x0 + ((3 : Nat) * (x1 + (1 : Nat)))) + (5 : Nat)) < x2)) : ((((x0 + (1 : Nat)) + ((3 : Nat) * x1)) + (5 : Nat)) < x2) := by omega
theorem om18 {x0 : Nat} {x1 : Nat} {x2 : Nat} (h0 : (((x0 + ((16 : Nat) * (x1 + (1 : Nat)))) + (200 : Nat)) < x2)) : ((((x0 + (3 : Nat)) + ((16 : Nat) * x1)) + (200 : Nat)) < x2) := by omega
theorem om19 {x0 : Nat} {x1 : Nat} {x2 : Nat} (h0 : (((x0 + ((3 : Nat) * x1)) + (5 : Nat)) < x2)) : (x0 < x2) := by omega
theorem om20 {x0 : Nat} {x1 : Nat} {x2 : Nat} (h0 : (((x0 + ((16 : Nat) * x1)) + (200 : Nat)) < x2)) : ((x0 + (64 : Nat)) < x2) := by omega
theorem om21 {x0 : Nat} {x1 : Nat} {x2 : Nat} (h0 : (((x0 + ((16 : Nat) * x1)) + (200 : Nat)) < x2)) : (x0 < x2) := by omega
theorem om22 {x0 : Nat} {x1 : Nat} (h0 : ((min x0 x1) = x0)) : (x0 ≤ x1) := by omega
theorem om23 {x0 : Nat} {x1 : Nat} {x2 : Nat} (h0 : (x0 = x1)) (h1 : (x2 < x0)) : (x2 < x1) := by omega
theorem om24 {x0 : Nat} {x1 : Nat} {x2 : Nat} (h0 : (x0 = x1)) (h1 : (x1 ≤ x2)) : ((x0 + (x2 - x0)) = x2) := by omega
theorem om25 {x0 : Nat} : (¬ (((x0 : Nat) : Int) < (0 : Int))) := by omega
theorem om26 {x0 : Nat} {x1 : Nat} {x2 : Int} (h0 : (x0 ≤ x1)) (h1 : (x2 < (0 : Int))) : ((Int.toNat (x2 + ((x1 : Nat) : Int))) ≤ x1) := by omega
theorem om27 {x0 : Int} {x1 : Nat} : ((max (x0 + ((x1 : Nat) : Int)) (0 : Int)) = (((Int.toNat (x0 + ((x1 : Nat) : Int))) : Nat) : Int)) := by omega
theorem om28 {x0 : Int} {x1 : Nat} (h0 : (¬ (x0 < (0 : Int)))) : ((min x0 ((x1 : Nat) : Int)) = (((min (Int.toNat x0) x1) : Nat) : Int)) := by omega
theorem om29 : (¬ ((1 : Int) < (0 : Int))) := by omega
theorem om30 : ((1 : Int) > (0 : Int)) := by omega
theorem om31 {x0 : Nat} {x1 : Nat} : ((Int.toNat (((x0 : Nat) : Int) + (((x1 : Nat) : Int) * (1 : Int)))) = (x0 + x1)) := by omega
theorem om32 {x0 : Nat} {x1 : Nat} {x2 : Nat} {x3 : Nat} (h0 : (x0 ≤ x1)) : ((min (x2 - x3) (x0 - x3)) ≤ x1) := by omega
theorem om33 {x0 : Nat} (h0 : (((x0 : Nat) : Int) = (0 : Int))) : (x0 = (0 : Nat)) := by omega
theorem om34 {x0 : Nat} {x1 : Nat} {x2 : Nat} (h0 : (x0 ≤ x1)) (h1 : (((x2 : Nat) : Int) = (0 : Int))) (h2 : ((x0 - x2) = x1)) : (x0 = x1) := by omega
theorem om35 {x0 : Nat} {x1 : Nat} {x2 : Nat} : ((min (x0 - x1) (x2 - x1)) ≤ x2) := by omega
theorem om36 {x0 : Int} {x1 : Nat} {x2 : Nat} (h0 : ((0 : Int) ≤ x0)) (h1 : (x0 < ((x1 : Nat) : Int))) (h2 : ((Int.toNat x0) = x2)) : (x2 < x1) := by omega
theorem om37 {x0 : Int} {x1 : Nat} (h0 : ((0 : Int) ≤ x0)) : ((-((x1 : Nat) : Int)) ≤ x0) := by omega
theorem om38 {x0 : Int} (h0 : (¬ ((0 : Int) ≤ x0))) : (x0 < (0 : Int)) := by omega
theorem om39 {x0 : Int} {x1 : Nat} {x2 : Nat} (h0 : (¬ ((0 : Int) ≤ x0))) (h1 : ((-((x1 : Nat) : Int)) ≤ x0)) (h2 : ((Int.toNat (x0 + ((x1 : Nat) : Int))) = x2)) : (x2 < x1) := by omega
theorem om40 {x0 : Int} {x1 : Nat} (h0 : (¬ ((0 : Int) ≤ x0))) (h1 : ((-((x1 : Nat) : Int)) ≤ x0)) : (x0 < ((x1 : Nat) : Int)) := by omega
theorem om41 {x0 : Nat} : ((0 : Int) ≤ ((x0 : Nat) : Int)) := by omega
theorem om42 {x0 : Nat} {x1 : Nat} (h0 : (x0 < x1)) : (((x0 : Nat) : Int) < ((x1 : Nat) : Int)) := by omega
theorem om43 {x0 : Nat} {x1 : Nat} {x2 : Int} {x3 : Nat} (h0 : (x0 ≤ x1)) (h1 : (x2 < ((x0 : Nat) : Int))) (h2 : (x0 = x3)) (h3 : (x1 < ((2 : Nat) ^ (63 : Nat)))) : (x2 < ((2 : Int) ^ (63 : Nat))) := by omega
theorem om44 {x0 : Nat} {x1 : Int} {x2 : Nat} (h0 : ((-((x0 : Nat) : Int)) ≤ x1)) (h1 : (x0 = x2)) : ((-((x2 : Nat) : Int)) ≤ x1) := by omega
theorem om45 {x0 : Nat} {x1 : Nat} {x2 : Int} {x3 : Nat} (h0 : (x0 ≤ x1)) (h1 : ((-((x0 : Nat) : Int)) ≤ x2)) (h2 : (x0 = x3)) (h3 : (x1 < ((2 : Nat) ^ (63 : Nat)))) : ((-((2 : Int) ^ (63 : Nat))) ≤ x2) := by omega
theorem om46 {x0 : Nat} {x1 : Nat} {x2 : Nat} {x3 : Int} {x4 : Nat} (h0 : (x0 ≤ x1)) (h1 : (x2 < x0)) (h2 : ((-((x0 : Nat) : Int)) ≤ x3)) (h3 : (x0 = x4)) (h4 : (x1 < ((2 : Nat) ^ (63 : Nat)))) : ((-((2 : Int) ^ (63 : Nat))) ≤ x3) := by omega
theorem om47 {x0 : Nat} {x1 : Nat} {x2 : Nat} {x3 : Int} {x4 : Nat} (h0 : (x0 ≤ x1)) (h1 : (x2 < x0)) (h2 : (x3 < ((x0 : Nat) : Int))) (h3 : (x0 = x4)) (h4 : (x1 < ((2 : Nat) ^ (63 : Nat)))) : (x3 < ((2 : Int) ^ (63 : Nat))) := by omega
theorem om48 {x0 : Nat} {x1 : Nat} {x2 : Int} {x3 : Nat} (h0 : (x0 ≤ x1)) (h1 : ((-((x0 : Nat) : Int)) ≤ x2)) (h2 : (x3 = x0)) (h3 : (x1 < ((2 : Nat) ^ (63 : Nat)))) : (¬ (x2 < (-((2 : Int) ^ (63 : Nat))))) := by omega
theorem om49 {x0 : Nat} {x1 : Nat} {x2 : Int} {x3 : Nat} (h0 : (x0 ≤ x1)) (h1 : (x2 < ((x0 : Nat) : Int))) (h2 : (x3 = x0)) (h3 : (x1 < ((2 : Nat) ^ (63 : Nat)))) : (¬ (x2 ≥ ((2 : Int) ^ (63 : Nat)))) := by omega
theorem om50 {x0 : Int} {x1 : Nat} (h0 : (x0 < (0 : Int))) : ((max (0 : Int) (min (x0 + ((x1 : Nat) : Int)) ((x1 : Nat) : Int))) = (((Int.toNat (x0 + ((x1 : Nat) : Int))) : Nat) : Int)) := by omega
theorem om51 {x0 : Int} {x1 : Nat} (h0 : (¬ (x0 < (0 : Int)))) : ((max (0 : Int) (min x0 ((x1 : Nat) : Int))) = (((min (Int.toNat x0) x1) : Nat) : Int)) := by omega
theorem om52 {x0 : Nat} {x1 : Nat} (h0 : (x0 ≤ x1)) : (¬ (x0 > x1)) := by omega
theorem om53 {x0 : Nat} {x1 : Nat} {x2 : Nat} (h0 : (x0 < x1)) (h1 : (x0 = x2)) : (x2 ≤ x1) := by omega
theorem om54 {x0 : Nat} {x1 : Nat} {x2 : Nat} (h0 : (x0 < x1)) (h1 : (x0 = x2)) : ((x0 + (1 : Nat)) ≤ x1) := by omega
theorem om55 {x0 : Nat} {x1 : Nat} {x2 : Nat} {x3 : Nat} {x4 : Nat} (h0 : ((x0 + x1) ≤ x2)) (h1 : (x0 = x3)) (h2 : (x1 = x4)) : ((x3 + x4) ≤ x2) := by omega
theorem om56 {x0 : Nat} {x1 : Nat} {x2 : Nat} (h0 : ((x0 + x1) ≤ x2)) : ((x0 + x1) ≤ x2) := by omega
theorem om57 {x0 : Nat} {x1 : Nat} (h0 : (x0 ≤ x1)) (h1 : (x1 ≤ ((((2 : Nat) ^ (63 : Nat)) - (1 : Nat)) / (8 : Nat)))) : (¬ (x0 > ((((2 : Nat) ^ (63 : Nat)) - (1 : Nat)) / (8 : Nat)))) := by omega
theorem om58 {x0 : Nat} {x1 : Nat} (h0 : (x0 < x1)) : ((min x0 x1) ≤ x0) := by omega
theorem om59 {x0 : Nat} {x1 : Nat} {x2 : Nat} {x3 : Nat} (h0 : (x0 ≤ x1)) (h1 : (x2 < x0)) (h2 : (x3 ≤ x2)) : (x3 < x1) := by omega
theorem om60 {x0 : Nat} {x1 : Nat} (h0 : (¬ (x0 < x1))) : (x1 ≤ x0) := by omega
theorem om61 {x0 : Nat} {x1 : Nat} {x2 : Nat} (h0 : (x0 = x1)) (h1 : (x0 ≤ x2)) : (x1 ≤ x2) := by omega
theorem om62 {x0 : Nat} {x1 : Nat} {x2 : Nat} (h0 : ((x0 < x1) ∧ (x0 < x2))) : ((x1 - (x0 + (1 : Nat))) < (x1 - x0)) := by omega
theorem om63 {x0 : Nat} {x1 : Nat} {x2 : Nat} (h0 : (x0 ≤ (min x1 x2))) (h1 : ((x0 < x1) ∧ (x0 < x2))) : ((x0 + (1 : Nat)) ≤ (min x1 x2)) := by omega
theorem om64 {x0 : Nat} {x1 : Nat} {x2 : Nat} {x3 : Nat} {x4 : Nat} (h0 : (x0 ≤ x1)) (h1 : ((x2 < x0) ∧ (x2 < x3))) : ((min x2 x4) < x1) := by omega
theorem om65 {x0 : Nat} {x1 : Nat} {x2 : Nat} (h0 : (¬ ((x0 < x1) ∧ (x0 < x2)))) : ((x2 ≤ x0) ∨ (x1 ≤ x0)) := by omega
theorem om66 {x0 : Nat} {x1 : Nat} {x2 : Nat} (h0 : (¬ ((x0 < x1) ∧ (x0 < x2)))) : ((min x1 x2) ≤ x0) := by omega
theorem om67 {x0 : Nat} {x1 : Nat} (h0 : (x0 < x1)) : ((x0 + (1 : Nat)) ≤ x1) := by omega
theorem om68 {x0 : Nat} {x1 : Nat} {x2 : Nat} (h0 : (x0 ≤ x1)) (h1 : (x2 < x0)) : ((min x2 x0) < x1) := by omega
theorem om69 {x0 : Nat} {x1 : Nat} (h0 : (x0 ≤ x1)) (h1 : (¬ (x0 < x1))) : (x1 ≤ x0) := by omega
theorem om70 {x0 : Nat} {x1 : Nat} {x2 : Nat} (h0 : (x0 = x1)) (h1 : (x2 < x0)) : ((x0 - (x2 + (1 : Nat))) < (x0 - x2)) := by omega
theorem om71 {x0 : Nat} {x1 : Nat} {x2 : Nat} (h0 : (x0 = x1)) (h1 : (x2 < x0)) : ((x2 + (1 : Nat)) ≤ x0) := by omega
theorem om72 {x0 : Nat} {x1 : Nat} {x2 : Nat} (h0 : (x0 = x1)) (h1 : (x2 ≤ x0)) (h2 : (¬ (x2 < x0))) : (x2 = x0) := by omega
theorem om73 {x0 : Nat} {x1 : Nat} {x2 : Nat} (h0 : (x0 = x1)) (h1 : (x2 ≤ x0)) (h2 : (¬ (x2 < x0))) : (x0 ≤ x2) := by omega
theorem om74 {x0 : Nat} {x1 : Nat} (h0 : (x0 < x1)) : (x0 < (x1 + (1 : Nat))) := by omega
theorem om75 {x0 : Nat} : (x0 < (x0 + (1 : Nat))) := by omega
theorem om76 {x0 : Nat} {x1 : Nat} (h0 : (x0 < (x1 + (1 : Nat)))) (h1 : (¬ (x0 = x1))) : (x0 < x1) := by omega
theorem om77 {x0 : Nat} {x1 : Nat} {x2 : Nat} (h0 : (x0 < x1)) (h1 : (x2 = x1)) : (x0 < x2) := by omega
theorem om78 {x0 : Nat} {x1 : Nat} (h0 : (x0 = x1)) : (x0 ≤ x1) := by omega
theorem om79 {x0 : Nat} {x1 : Nat} (h0 : (x0 ≤ x1)) : (¬ (x1 < x0)) := by omega
theorem om80 {x0 : Nat} {x1 : Nat} {x2 : Nat} {x3 : Nat} (h0 : (x0 = x1)) (h1 : (x1 ≤ x2)) (h2 : (x3 < x0)) : (((x2 - (1 : Nat)) - x3) < x2) := by omega
theorem om81 {x0 : Nat} {x1 : Nat} {x2 : Nat} {x3 : Nat} (h0 : (x0 = x1)) (h1 : (¬ (x2 < x1))) (h2 : (x3 < x0)) : (((x2 - (1 : Nat)) - x3) < x2) := by omega
theorem om82 {x0 : Nat} {x1 : Nat} (h0 : ((x0 + (1 : Nat)) ≤ x1)) : (x0 ≤ x1) := by omega
theorem om83 {x0 : Nat} {x1 : Nat} (h0 : ((x0 + (1 : Nat)) ≤ x1)) : (x0 < x1) := by omega
theorem om84 {x0 : Int} {x1 : Nat} {x2 : Int} (h0 : ((Int.natAbs x0) < x1)) (h1 : ((Int.natAbs x2) < x1)) (h2 : ((Int.natAbs (x0 + x2)) ≤ ((Int.natAbs x0) + (Int.natAbs x2)))) : ((Int.natAbs (x0 + x2)) < (x1 * (2 : Nat))) := by omega
theorem om85 {x0 : Int} {x1 : Int} {x2 : Nat} (h0 : ((-x0) < x1)) (h1 : (x1 < x0)) (h2 : (((x2 : Nat) : Int) = x0)) : ((Int.natAbs x1) < x2) := by omega
theorem om86 {x0 : Nat} {x1 : Nat} {x2 : Nat} : ((x0 + x1) ≤ ((x0 + x1) + x2)) := by omega
theorem om87 {x0 : Nat} {x1 : Nat} : (x0 ≤ (x0 + x1)) := by omega
theorem om88 {x0 : Nat} {x1 : Nat} {x2 : Nat} (h0 : (x0 = x1)) (h1 : (¬ (x2 < x1))) (h2 : (¬ (x0 = (0 : Nat)))) : ((0 : Nat) < x2) := by omega
theorem om89 {x0 : Nat} {x1 : Nat} (h0 : ((0 : Nat) < x0)) : (((x0 - (1 : Nat)) - x1) ≤ (x0 - (1 : Nat))) := by omega
theorem om90 {x0 : Nat} {x1 : Nat} {x2 : Nat} (h0 : (x0 ≤ x1)) : ((x2 + x0) ≤ (x2 + x1)) := by omega
theorem om91 {x0 : Nat} (h0 : ((0 : Nat) < x0)) : (x0 = ((x0 - (1 : Nat)) + (1 : Nat))) := by omega
theorem om92 {x0 : Nat} {x1 : Nat} {x2 : Nat} {x3 : Nat} {x4 : Nat} {x5 : Nat} (h0 : (x0 = x1)) (h1 : (x2 = (x3 + (x4 + x0)))) : (x5 ≤ (x5 + x2)) := by omega
theorem om93 {x0 : Nat} {x1 : Nat} {x2 : Nat} {x3 : Nat} {x4 : Nat} {x5 : Nat} (h0 : (x0 = x1)) (h1 : (x2 = (x3 + (x4 + x0)))) : (((x4 + (x5 + x3)) + x0) ≤ (x5 + x2)) := by omega
theorem om94 {x0 : Int} {x1 : Int} {x2 : Int} {x3 : Int} : (((x0 + x1) + (x2 + x3)) = ((x0 + x2) + (x1 + x3))) := by omega
theorem om95 {x0 : Int} (h0 : ((0 : Int) ≤ x0)) : (x0 = (((Int.toNat x0) : Nat) : Int)) := by omega
theorem om96 {x0 : Int} {x1 : Nat} (h0 : (x0 < ((x1 : Nat) : Int))) (h1 : (x0 = (((Int.toNat x0) : Nat) : Int))) : ((Int.toNat x0) < x1) := by omega
theorem om97 {x0 : Int} (h0 : ((0 : Int) ≤ x0)) : ((-((2 : Int) ^ (10 : Nat))) < x0) := by omega
theorem om98 {x0 : Int} (h0 : (x0 < (1000 : Int))) : (x0 < ((2 : Int) ^ (10 : Nat))) := by omega
theorem om99 {x0 : Nat} (h0 : (x0 ≤ (12 : Nat))) : (((200 : Nat) + x0) ≤ (212 : Nat)) := by omega
theorem om100 {x0 : Nat} (h0 : (x0 ≤ ((1000 : Nat) * (212 : Nat)))) : (((1000 : Nat) + x0) ≤ (300000 : Nat)) := by omega
theorem om101 {x0 : Nat} {x1 : Nat} (h0 : (x0 ≤ (1000 : Nat))) (h1 : (x1 < x0)) : (x1 ≤ (1000 : Nat)) := by omega
theorem om102 {x0 : Nat} {x1 : Nat} : ((x0 - x1) ≤ (x0 - x1)) := by omega
theorem om103 {x0 : Nat} {x1 : Nat} (h0 : (¬ (x0 ≤ x1))) : (x1 ≤ x0) := by omega
theorem om104 {x0 : Nat} : ((Int.toNat ((0 : Int) + ((x0 : Nat) : Int))) = x0) := by omega
theorem om105 {x0 : Int} {x1 : Nat} {x2 : Nat} (h0 : (x0 < (0 : Int))) (h1 : ((x0 + ((x1 : Nat) : Int)) = ((x2 : Nat) : Int))) : (x2 < x1) := by omega
theorem om106 {x0 : Int} {x1 : Nat} {x2 : Nat} (h0 : (x0 < (0 : Int))) (h1 : ((x0 + ((x1 : Nat) : Int)) = ((x2 : Nat) : Int))) : (¬ ((0 : Int) ≤ x0)) := by omega
theorem om107 {x0 : Int} {x1 : Nat} {x2 : Nat} (h0 : ((x0 + ((x1 : Nat) : Int)) = ((x2 : Nat) : Int))) : ((-((x1 : Nat) : Int)) ≤ x0) := by omega
theorem om108 {x0 : Int} {x1 : Nat} {x2 : Nat} (h0 : ((x0 + ((x1 : Nat) : Int)) = ((x2 : Nat) : Int))) : ((Int.toNat (x0 + ((x1 : Nat) : Int))) = x2) := by omega
theorem om109 {x0 : Nat} (h0 : (((2 : Nat) ≤ x0) ∧ (x0 < (1000 : Nat)))) : (((0 : Int) ≤ ((x0 : Nat) : Int)) ∧ ((((x0 : Nat) : Int) < (1000 : Int)) ∧ (((x0 : Nat) : Int) ≠ (1 : Int)))) := by omega
theorem om110 {x0 : Int} (h0 : ((0 : Int) ≤ (x0 % (8 : Int)))) : ((Int.toNat (x0 % (8 : Int))) < (8 : Nat)) := by omega
theorem om111 {x0 : Int} (h0 : ((0 : Int) ≤ x0)) : ((-((2 : Int) ^ (45 : Nat))) < x0) := by omega
theorem om112 {x0 : Int} (h0 : ((0 : Int) ≤ (x0 % (7 : Int)))) : ((-((2 : Int) ^ (45 : Nat))) < ((x0 % (7 : Int)) - (3 : Int))) := by omega
theorem om113 {x0 : Int} (h0 : ((0 : Int) ≤ (x0 % (201 : Int)))) : ((-((2 : Int) ^ (45 : Nat))) < ((x0 % (201 : Int)) - (100 : Int))) := by omega
theorem om114 {x0 : Int} (h0 : ((0 : Int) ≤ x0)) (h1 : (x0 < (((2 : Int) * ((10 : Int) ^ (12 : Nat))) - (1 : Int)))) : ((-((2 : Int) ^ (45 : Nat))) < ((x0 - ((10 : Int) ^ (12 : Nat))) + (1 : Int))) := by omega
theorem om115 {x0 : Int} {x1 : Int} (h0 : (x0 < (1000 : Int))) (h1 : (x0 > (0 : Int))) (h2 : (x1 < x0)) : (x1 < ((2 : Int) ^ (45 : Nat))) := by omega
theorem om116 {x0 : Int} (h0 : ((0 : Int) ≤ (x0 % (7 : Int)))) : (((x0 % (7 : Int)) - (3 : Int)) < ((2 : Int) ^ (45 : Nat))) := by omega
theorem om117 {x0 : Int} (h0 : ((0 : Int) ≤ (x0 % (201 : Int)))) : (((x0 % (201 : Int)) - (100 : Int)) < ((2 : Int) ^ (45 : Nat))) := by omega
theorem om118 {x0 : Int} (h0 : ((0 : Int) ≤ x0)) (h1 : (x0 < (((2 : Int) * ((10 : Int) ^ (12 : Nat))) - (1 : Int)))) : (((x0 - ((10 : Int) ^ (12 : Nat))) + (1 : Int)) < ((2 : Int) ^ (45 : Nat))) := by omega
theorem om119 {x0 : Nat} {x1 : Nat} (h0 : (x0 ≤ (12 : Nat))) (h1 : (x1 ≤ x0)) : (x1 ≤ (12 : Nat)) := by omega
theorem om120 {x0 : Nat} : (¬ ((x0 + (1 : Nat)) = (0 : Nat))) := by omega
theorem om121 {x0 : Nat} : ((min ((x0 + (1 : Nat)) + (1 : Nat)) ((1 : Nat) + (x0 + (1 : Nat)))) = (x0 + (2 : Nat))) := by omega
theorem om122 {x0 : Nat} : (((1 : Nat) + (x0 + (1 : Nat))) = (x0 + (2 : Nat))) := by omega
theorem om123 {x0 : Nat} {x1 : Nat} {x2 : Nat} {x3 : Nat} (h0 : (x0 < (x1 + (1 : Nat)))) (h1 : (x2 = (x1 + (2 : Nat)))) (h2 : (x3 = (x1 + (2 : Nat)))) : ((x0 + (1 : Nat)) < x2) := by omega
theorem om124 {x0 : Nat} {x1 : Nat} {x2 : Nat} {x3 : Nat} (h0 : (x0 < (x1 + (1 : Nat)))) (h1 : (x2 = (x1 + (2 : Nat)))) (h2 : (x3 = (x1 + (2 : Nat)))) : ((x0 + (1 : Nat)) < x3) := by omega
theorem om125 {x0 : Nat} : (¬ ((x0 + (1 : Nat)) < (1 : Nat))) := by omega
theorem om126 {x0 : Nat} {x1 : Nat} {x2 : Nat} {x3 : Nat} (h0 : (x0 = (x1 + (2 : Nat)))) (h1 : (x2 = (x1 + (2 : Nat)))) (h2 : (x3 < x1)) : ((x3 + (1 : Nat)) < (x1 + (1 : Nat))) := by omega
theorem om127 {x0 : Nat} {x1 : Nat} {x2 : Nat} {x3 : Nat} (h0 : (x0 < (x1 + (1 : Nat)))) (h1 : (x2 = (x1 + (2 : Nat)))) (h2 : (x3 = (x1 + (2 : Nat)))) (h3 : (¬ (x0 < x1))) : (¬ ((x0 + (1 : Nat)) < (x1 + (1 : Nat)))) := by omega
theorem om128 {x0 : Nat} {x1 : Nat} {x2 : Nat} {x3 : Nat} (h0 : (x0 < (x1 + (1 : Nat)))) (h1 : (x2 = (x1 + (2 : Nat)))) (h2 : (x3 = (x1 + (2 : Nat)))) (h3 : (¬ (x0 < x1))) : (((x0 + (1 : Nat)) - (x1 + (1 : Nat))) = (0 : Nat)) := by omega
theorem om129 {x0 : Nat} : (((x0 + (2 : Nat)) - (1 : Nat)) = (x0 + (1 : Nat))) := by omega
theorem om130 {x0 : Nat} {x1 : Nat} (h0 : (¬ (x0 < (x1 + (1 : Nat))))) : ((x1 + (2 : Nat)) ≤ (x0 + (1 : Nat))) := by omega
theorem om131 {x0 : Nat} {x1 : Nat} {x2 : Nat} (h0 : (x0 = x1)) (h1 : ((x0 + (1 : Nat)) ≤ x2)) : (x1 ≤ x2) := by omega
theorem om132 {x0 : Int} {x1 : Int} : (((0 : Int) - (((0 : Int) - x0) - x1)) = (x0 + x1)) := by omega
theorem om133 {x0 : Int} : (((0 : Int) - ((0 : Int) - x0)) = x0) := by omega
theorem om137 {x0 : Nat} {x1 : Nat} {x2 : Nat} (h0 : (x0 = x1)) (h1 : ((x0 + (1 : Nat)) ≤ x2)) : (x1 ≤ (x2 - (1 : Nat))) := by omega
theorem om139 {x0 : Int} (h0 : (¬ (x0 = (0 : Int)))) (h1 : ((0 : Int) ≤ x0)) : ((0 : Int) < x0) := by omega
theorem om140 {x0 : Int} {x1 : Int} (h0 : ((0 : Int) ≤ x0)) (h1 : (x0 < (1000 : Int))) (h2 : (x1 = x0)) : ((0 : Int) ≤ x1) := by omega
theorem om141 {x0 : Int} {x1 : Int} (h0 : ((0 : Int) ≤ x0)) (h1 : (x0 < (1000 : Int))) (h2 : (x1 = x0)) : ((-((2 : Int) ^ (10 : Nat))) < x1) := by omega
theorem om142 {x0 : Int} {x1 : Int} (h0 : ((0 : Int) ≤ x0)) (h1 : (x0 < (1000 : Int))) (h2 : (x1 = x0)) : (x1 < ((2 : Int) ^ (10 : Nat))) := by omega
theorem om143 {x0 : Nat} (h0 : (x0 ≤ (6 : Nat))) : (((45 : Nat) + x0) ≤ (51 : Nat)) := by omega
theorem om144 {x0 : Nat} (h0 : (x0 ≤ ((12 : Nat) * (51 : Nat)))) : (((45 : Nat) + x0) ≤ (657 : Nat)) := by omega
theorem om145 {x0 : Nat} {x1 : Nat} {x2 : Nat} {x3 : Nat} (h0 : (x0 ≤ (5 : Nat))) (h1 : (x1 ≤ (6 : Nat))) (h2 : (x2 = (x1 + x0))) (h3 : (x2 = x3)) : (x2 ≤ (12 : Nat)) := by omega
theorem om146 {x0 : Int} {x1 : Int} (h0 : ((0 : Int) ≤ x0)) (h1 : (x0 < (1000 : Int))) (h2 : (x1 = x0)) : (x1 < (1000 : Int)) := by omega
theorem om147 {x0 : Nat} {x1 : Nat} {x2 : Nat} {x3 : Nat} (h0 : (x0 ≤ (5 : Nat))) (h1 : (x1 = (x2 + x0))) (h2 : (x1 = x3)) : (((45 : Nat) + ((4 : Nat) * x0)) ≤ (200 : Nat)) := by omega
theorem om148 {x0 : Nat} {x1 : Nat} {x2 : Nat} {x3 : Nat} {x4 : Nat} (h0 : (x0 ≤ (5 : Nat))) (h1 : (x1 ≤ (6 : Nat))) (h2 : (x2 = (x1 + x0))) (h3 : (x2 = x3)) (h4 : (x4 < x3)) : (x4 ≤ (12 : Nat)) := by omega
theorem om149 {x0 : Nat} (h0 : (x0 ≤ (4 : Nat))) : (x0 ≤ (5 : Nat)) := by omega
theorem om150 {x0 : Nat} {x1 : Nat} : (((x0 + x1) + (1 : Nat)) = (x0 + (x1 + (1 : Nat)))) := by omega
theorem om151 {x0 : Int} {x1 : Int} (h0 : ((0 : Int) ≤ x0)) (h1 : (x0 < (1000 : Int))) (h2 : (x1 = x0)) (h3 : (¬ (x0 = (0 : Int)))) : ((0 : Int) < x0) := by omega
theorem om152 {x0 : Int} (h0 : ((-(4 : Int)) ≤ x0)) (h1 : (x0 ≤ (4 : Int))) : ((-((2 : Int) ^ (3 : Nat))) < x0) := by omega
theorem om153 {x0 : Int} (h0 : ((-(4 : Int)) ≤ x0)) (h1 : (x0 ≤ (4 : Int))) : (x0 < ((2 : Int) ^ (3 : Nat))) := by omega
theorem om154 {x0 : Nat} : (((45 : Nat) + ((4 : Nat) * x0)) ≤ (((45 : Nat) + ((4 : Nat) * x0)) + (1 : Nat))) := by omega
theorem om155 {x0 : Nat} (h0 : (x0 ≤ (4 : Nat))) : ((1 : Nat) ≤ ((45 : Nat) + ((4 : Nat) * x0))) := by omega
theorem om156 {x0 : Nat} : ((((45 : Nat) + ((4 : Nat) * x0)) + (1 : Nat)) ≤ ((3 : Nat) + ((45 : Nat) + ((4 : Nat) * x0)))) := by omega
theorem om157 {x0 : Nat} : ((((3 : Nat) + ((45 : Nat) + ((4 : Nat) * x0))) + (1 : Nat)) ≤ ((45 : Nat) + ((4 : Nat) * (x0 + (1 : Nat))))) := by omega
theorem om158 {x0 : Int} {x1 : Int} (h0 : ((0 : Int) ≤ x0)) (h1 : (x0 < (1000 : Int))) (h2 : (x1 = x0)) : ((-((2 : Int) ^ (10 : Nat))) < x0) := by omega
theorem om159 {x0 : Int} {x1 : Int} (h0 : ((0 : Int) ≤ x0)) (h1 : (x0 < (1000 : Int))) (h2 : (x1 = x0)) : (x0 < ((2 : Int) ^ (10 : Nat))) := by omega
theorem om160 {x0 : Nat} (h0 : (x0 ≤ (4 : Nat))) : ((10 : Nat) ≤ ((45 : Nat) + ((4 : Nat) * (x0 + (1 : Nat))))) := by omega
theorem om161 {x0 : Int} (h0 : (x0 = (0 : Int))) : (¬ (x0 > (0 : Int))) := by omega
theorem om162 {x0 : Int} (h0 : ((0 : Int) ≤ (x0 % (7 : Int)))) : (((-(4 : Int)) ≤ ((x0 % (7 : Int)) - (3 : Int))) ∧ (((x0 % (7 : Int)) - (3 : Int)) ≤ (4 : Int))) := by omega
theorem om163 {x0 : Int} {x1 : Int} (h0 : ((0 : Int) ≤ x0)) (h1 : (x0 < x1)) (h2 : (x1 ≤ (1000 : Int))) : (((-((2 : Int) ^ (62 : Nat))) ≤ x0) ∧ (x0 < ((2 : Int) ^ (62 : Nat)))) := by omega
theorem om164 {x0 : Nat} (h0 : (x0 ≤ (1000 : Nat))) : (((-((2 : Int) ^ (62 : Nat))) ≤ ((x0 : Nat) : Int)) ∧ (((x0 : Nat) : Int) < ((2 : Int) ^ (62 : Nat)))) := by omega
theorem om165 {x0 : Nat} {x1 : Nat} (h0 : (x0 < x1)) (h1 : (x1 ≤ (1000 : Nat))) : (((0 : Int) ≤ ((0 : Int) + ((x0 : Nat) : Int))) ∧ (((0 : Int) + ((x0 : Nat) : Int)) ≤ (1000 : Int))) := by omega
theorem om166 {x0 : Nat} {x1 : Nat} {x2 : Nat} (h0 : (x0 < x1)) (h1 : (x2 = x1)) : (((0 : Int) ≤ ((0 : Int) + ((x0 : Nat) : Int))) ∧ (((0 : Int) + ((x0 : Nat) : Int)) < ((x2 : Nat) : Int))) := by omega
theorem om167 {x0 : Nat} (h0 : (x0 ≤ (24 : Nat))) : (((0 : Int) ≤ ((x0 : Nat) : Int)) ∧ (((x0 : Nat) : Int) ≤ (900 : Int))) := by omega
theorem om168 {x0 : Int} (h0 : ((0 : Int) ≤ x0)) (h1 : (x0 < (12 : Int))) : (((1 : Int) + x0) = (((Int.toNat ((1 : Int) + x0)) : Nat) : Int)) := by omega
theorem om169 {x0 : Int} (h0 : ((0 : Int) ≤ x0)) (h1 : (x0 < (12 : Int))) : ((1 : Nat) ≤ (Int.toNat ((1 : Int) + x0))) := by omega
theorem om170 {x0 : Int} (h0 : ((0 : Int) ≤ x0)) (h1 : (x0 < (12 : Int))) : ((Int.toNat ((1 : Int) + x0)) ≤ (12 : Nat)) := by omega
theorem om171 {x0 : Nat} {x1 : Nat} (h0 : (x0 = x1)) (h1 : ((1 : Nat) ≤ x1)) : (((-(1 : Int)) + ((x0 : Nat) : Int)) = (((x1 - (1 : Nat)) : Nat) : Int)) := by omega
theorem om172 {x0 : Nat} (h0 : (x0 ≤ (12 : Nat))) : (((-((2 : Int) ^ (63 : Nat))) ≤ (((x0 : Nat) : Int) - (1 : Int))) ∧ ((((x0 : Nat) : Int) - (1 : Int)) < ((2 : Int) ^ (63 : Nat)))) := by omega
theorem om173 {x0 : Nat} (h0 : ((1 : Nat) ≤ x0)) : ((Int.toNat (((x0 : Nat) : Int) - (1 : Int))) = (x0 - (1 : Nat))) := by omega
theorem om174 {x0 : Nat} {x1 : Nat} (h0 : (x0 ≤ (12 : Nat))) (h1 : (x1 ≤ x0)) : (((-((2 : Int) ^ (63 : Nat))) ≤ (((x0 : Nat) : Int) - ((x1 : Nat) : Int))) ∧ (((((x0 : Nat) : Int) - ((x1 : Nat) : Int)) < ((2 : Int) ^ (63 : Nat))) ∧ ((Int.toNat (((x0 : Nat) : Int) - ((x1 : Nat) : Int))) = (x0 - x1)))) := by omega
theorem om175 {x0 : Int} {x1 : Nat} (h0 : ((0 : Int) ≤ x0)) (h1 : (x1 ≤ (9 : Nat))) : ((((x1 : Nat) : Int) + x0) = (((Int.toNat (((x1 : Nat) : Int) + x0)) : Nat) : Int)) := by omega
theorem om176 {x0 : Nat} {x1 : Int} (h0 : ((((x0 : Nat) : Int) + x1) < (12 : Int))) : ((Int.toNat (((x0 : Nat) : Int) + x1)) ≤ (12 : Nat)) := by omega
theorem om177 {x0 : Int} {x1 : Nat} (h0 : ((0 : Int) ≤ x0)) (h1 : (x1 ≤ (9 : Nat))) : (x1 ≤ (Int.toNat (((x1 : Nat) : Int) + x0))) := by omega
theorem om178 {x0 : Nat} (h0 : (x0 ≤ (9 : Nat))) : (x0 ≤ (12 : Nat)) := by omega
theorem om179 {x0 : Nat} {x1 : Nat} {x2 : Nat} (h0 : (x0 = (x1 + x2))) (h1 : (x1 ≤ (12 : Nat))) (h2 : (x2 ≤ (12 : Nat))) : (x0 ≤ (24 : Nat)) := by omega
theorem om180 {x0 : Nat} {x1 : Nat} {x2 : Nat} (h0 : (x0 = (x1 + x2))) : ((((x1 : Nat) : Int) + ((x2 : Nat) : Int)) = ((x0 : Nat) : Int)) := by omega
theorem om181 {x0 : Nat} {x1 : Int} {x2 : Int} (h0 : (x0 < (Int.toNat x1))) (h1 : (x1 < x2)) (h2 : (x2 ≤ (1000 : Int))) : (((0 : Int) ≤ ((0 : Int) + ((x0 : Nat) : Int))) ∧ (((0 : Int) + ((x0 : Nat) : Int)) ≤ (1000 : Int))) := by omega
theorem om182 {x0 : Nat} {x1 : Nat} {x2 : Nat} (h0 : (x0 = (x1 + x2))) (h1 : (x1 ≤ (6 : Nat))) (h2 : (x2 ≤ (3 : Nat))) : ((x0 < (12 : Nat)) ∧ (x0 ≤ (9 : Nat))) := by omega
theorem om183 {x0 : Int} {x1 : Nat} (h0 : (x0 < (4 : Int))) (h1 : (x1 < (Int.toNat x0))) : ((x1 ≤ (3 : Nat)) ∧ ((x1 ≤ (4 : Nat)) ∧ (x1 ≤ (5 : Nat)))) := by omega
theorem om184 {x0 : Int} (h0 : (x0 < (4 : Int))) : ((Int.toNat x0) ≤ (3 : Nat)) := by omega
theorem om185 {x0 : Int} (h0 : ((0 : Int) ≤ x0)) (h1 : (¬ (x0 = (0 : Int)))) : ((0 : Int) < x0) := by omega
theorem om186 {x0 : Nat} (h0 : ((0 : Nat) < x0)) : ((Int.toNat ((-(1 : Int)) + ((x0 : Nat) : Int))) = (x0 - (1 : Nat))) := by omega
theorem om187 {x0 : Int} (h0 : ((0 : Int) ≤ x0)) (h1 : (x0 < (4 : Int))) : ((Int.toNat x0) < (4 : Nat)) := by omega
theorem om188 {x0 : Nat} {x1 : Nat} (h0 : (x0 ≤ (12 : Nat))) (h1 : (x1 = x0)) : ((-((2 : Int) ^ (62 : Nat))) ≤ ((x0 : Nat) : Int)) := by omega
theorem om189 {x0 : Nat} {x1 : Nat} (h0 : (x0 ≤ (12 : Nat))) (h1 : (x1 = x0)) : (((x0 : Nat) : Int) < ((2 : Int) ^ (62 : Nat))) := by omega
theorem om190 {x0 : Nat} {x1 : Nat} {x2 : Nat} (h0 : (x0 = x1)) (h1 : (x2 < (Int.toNat ((x1 : Nat) : Int)))) : (x2 < x1) := by omega
theorem om191 {x0 : Nat} : (((0 : Int) + ((x0 : Nat) : Int)) = ((x0 : Nat) : Int)) := by omega
theorem om192 {x0 : Nat} {x1 : Nat} {x2 : Nat} {x3 : Nat} {x4 : Nat} (h0 : (x0 ≤ x1)) (h1 : (x2 = x0)) (h2 : (x3 = x1)) (h3 : (x4 < x0)) : (((((x1 : Nat) : Int) - (1 : Int)) - ((0 : Int) + ((x4 : Nat) : Int))) = ((((x1 - (1 : Nat)) - x4) : Nat) : Int)) := by omega
theorem om193 {x0 : Nat} : ((0 : Int) ≤ ((0 : Int) + ((x0 : Nat) : Int))) := by omega
theorem om194 {x0 : Nat} {x1 : Nat} {x2 : Nat} (h0 : (x0 = x1)) (h1 : (x2 < x1)) : (((0 : Int) + ((x2 : Nat) : Int)) < ((x1 : Nat) : Int)) := by omega
theorem om195 {x0 : Nat} {x1 : Nat} {x2 : Nat} (h0 : (x0 = x1)) (h1 : (((((x1 : Nat) : Int) - (1 : Int)) - ((0 : Int) + ((x2 : Nat) : Int))) = ((((x1 - (1 : Nat)) - x2) : Nat) : Int))) : ((0 : Int) ≤ ((((x1 : Nat) : Int) - (1 : Int)) - ((0 : Int) + ((x2 : Nat) : Int)))) := by omega
theorem om196 {x0 : Nat} {x1 : Nat} : (((((x0 : Nat) : Int) - (1 : Int)) - ((0 : Int) + ((x1 : Nat) : Int))) < ((x0 : Nat) : Int)) := by omega
theorem om197 {x0 : Int} (h0 : ((0 : Int) ≤ x0)) (h1 : (x0 ≤ (900 : Int))) : (x0 = (((Int.toNat x0) : Nat) : Int)) := by omega
theorem om198 {x0 : Nat} {x1 : Nat} {x2 : Int} (h0 : (x0 = x1)) (h1 : (x1 ≤ (Int.toNat x2))) : (((0 : Nat) = (0 : Nat)) ∧ ((min (Int.toNat x2) x1) = x1)) := by omega
theorem om199 {x0 : Nat} {x1 : Nat} {x2 : Int} (h0 : (x0 = x1)) (h1 : (¬ (x1 ≤ (Int.toNat x2)))) : (¬ (((0 : Nat) = (0 : Nat)) ∧ ((min (Int.toNat x2) x1) = x1))) := by omega
theorem om200 {x0 : Int} {x1 : Nat} {x2 : Nat} (h0 : ((0 : Int) ≤ x0)) (h1 : (x0 ≤ (900 : Int))) (h2 : (x1 ≤ (Int.toNat x0))) (h3 : (x2 = x1)) (h4 : (((x1 : Nat) : Int) < x0)) : (x1 < (Int.toNat x0)) := by omega
theorem om201 {x0 : Int} {x1 : Nat} {x2 : Nat} (h0 : ((0 : Int) ≤ x0)) (h1 : (x0 ≤ (900 : Int))) (h2 : (x1 = x2)) (h3 : (x2 < (Int.toNat x0))) : (x2 ≤ (1000 : Nat)) := by omega
theorem om202 {x0 : Nat} {x1 : Nat} {x2 : Nat} {x3 : Int} {x4 : Nat} {x5 : Nat} (h0 : (x0 = x1)) (h1 : (x2 = x1)) (h2 : ((min (Int.toNat x3) x1) ≤ x4)) (h3 : (x5 = x4)) (h4 : (x4 < (Int.toNat x3))) : (x0 ≤ x4) := by omega
theorem om203 {x0 : Nat} {x1 : Nat} {x2 : Int} (h0 : (x0 = x1)) (h1 : (x1 < (Int.toNat x2))) : (((Int.toNat x2) - (x1 + (1 : Nat))) < ((Int.toNat x2) - x1)) := by omega
theorem om204 {x0 : Int} {x1 : Nat} {x2 : Nat} {x3 : Nat} (h0 : ((min (Int.toNat x0) x1) ≤ x2)) (h1 : (x3 = x2)) : ((min (Int.toNat x0) x1) ≤ (x2 + (1 : Nat))) := by omega
theorem om205 {x0 : Nat} {x1 : Nat} {x2 : Int} (h0 : (x0 = x1)) (h1 : (x1 < (Int.toNat x2))) : ((x1 + (1 : Nat)) ≤ (Int.toNat x2)) := by omega
theorem om206 {x0 : Nat} {x1 : Nat} {x2 : Int} {x3 : Nat} {x4 : Nat} (h0 : (x0 = x1)) (h1 : ((min (Int.toNat x2) x1) ≤ x3)) (h2 : (x4 = x3)) (h3 : (x3 < (Int.toNat x2))) : (¬ (x3 < x1)) := by omega
theorem om207 {x0 : Nat} {x1 : Int} {x2 : Nat} (h0 : (x0 ≤ (Int.toNat x1))) (h1 : (x2 = x0)) (h2 : (¬ (((x0 : Nat) : Int) < x1))) : (x0 = (Int.toNat x1)) := by omega
theorem om208 {x0 : Int} (h0 : ((0 : Int) ≤ x0)) (h1 : (x0 ≤ (1000 : Int))) : ((-((2 : Int) ^ (64 : Nat))) < x0) := by omega
theorem om209 {x0 : Int} (h0 : ((0 : Int) ≤ x0)) (h1 : (x0 ≤ (1000 : Int))) : (x0 < ((2 : Int) ^ (64 : Nat))) := by omega
theorem om210 {x0 : Int} (h0 : ((0 : Int) ≤ (x0 % (2147483647 : Int)))) : ((-((2 : Int) ^ (64 : Nat))) < ((x0 % (2147483647 : Int)) + (1 : Int))) := by omega
theorem om211 {x0 : Int} (h0 : ((0 : Int) ≤ (x0 % (2147483647 : Int)))) : (((x0 % (2147483647 : Int)) + (1 : Int)) < ((2 : Int) ^ (64 : Nat))) := by omega
theorem om212 {x0 : Int} (h0 : ((0 : Int) ≤ x0)) (h1 : (x0 < (2147483629 : Int))) : ((-((2 : Int) ^ (64 : Nat))) < x0) := by omega
theorem om213 {x0 : Int} (h0 : ((0 : Int) ≤ x0)) (h1 : (x0 < (2147483629 : Int))) : (x0 < ((2 : Int) ^ (64 : Nat))) := by omega
theorem om214 {x0 : Nat} {x1 : Nat} {x2 : Nat} {x3 : Nat} {x4 : Int} (h0 : (x0 = x1)) (h1 : (x2 = x1)) (h2 : (x3 = x0)) (h3 : (x1 ≤ (Int.toNat x4))) : (((0 : Nat) = (0 : Nat)) ∧ ((min (Int.toNat x4) x1) = x1)) := by omega
theorem om215 {x0 : Nat} {x1 : Nat} {x2 : Nat} {x3 : Nat} {x4 : Int} (h0 : (x0 = x1)) (h1 : (x2 = x1)) (h2 : (x3 = x0)) (h3 : (¬ (x1 ≤ (Int.toNat x4)))) : (¬ (((0 : Nat) = (0 : Nat)) ∧ ((min (Int.toNat x4) x1) = x1))) := by omega
theorem om216 {x0 : Int} {x1 : Nat} {x2 : Nat} {x3 : Nat} (h0 : ((0 : Int) ≤ x0)) (h1 : (x0 ≤ (900 : Int))) (h2 : (x1 ≤ (Int.toNat x0))) (h3 : (x2 = x1)) (h4 : (x3 = x1)) (h5 : (((x1 : Nat) : Int) < x0)) : (x1 < (Int.toNat x0)) := by omega
theorem om217 {x0 : Nat} {x1 : Nat} {x2 : Nat} {x3 : Nat} {x4 : Int} {x5 : Nat} {x6 : Nat} {x7 : Nat} {x8 : Nat} (h0 : (x0 = x1)) (h1 : (x2 = x1)) (h2 : (x3 = x0)) (h3 : ((min (Int.toNat x4) x1) ≤ x5)) (h4 : (x6 = x5)) (h5 : (x7 = x5)) (h6 : (x5 < (Int.toNat x4))) (h7 : (x8 < x0)) : ((0 : Int) ≤ ((((x5 : Nat) : Int) - (1 : Int)) - ((x8 : Nat) : Int))) := by omega
theorem om218 {x0 : Nat} {x1 : Nat} {x2 : Nat} {x3 : Nat} (h0 : (x0 = x1)) (h1 : (x2 = x1)) : (((((x1 : Nat) : Int) - (1 : Int)) - ((x3 : Nat) : Int)) < ((x2 : Nat) : Int)) := by omega
theorem om219 {x0 : Int} {x1 : Nat} {x2 : Nat} {x3 : Nat} (h0 : ((0 : Int) ≤ x0)) (h1 : (x0 ≤ (900 : Int))) (h2 : (x1 = x2)) (h3 : (x3 = x2)) (h4 : (x2 < (Int.toNat x0))) : (x2 ≤ (1000 : Nat)) := by omega
theorem om220 {x0 : Nat} {x1 : Nat} {x2 : Nat} {x3 : Nat} (h0 : (x0 = x1)) (h1 : (x2 = x1)) : ((Int.toNat ((((x1 : Nat) : Int) - (1 : Int)) - ((x3 : Nat) : Int))) = ((x1 - (1 : Nat)) - x3)) := by omega
theorem om221 {x0 : Nat} {x1 : Nat} {x2 : Nat} {x3 : Int} (h0 : (x0 = x1)) (h1 : (x2 = x1)) (h2 : (x1 < (Int.toNat x3))) : (((Int.toNat x3) - (x1 + (1 : Nat))) < ((Int.toNat x3) - x1)) := by omega
theorem om222 {x0 : Int} {x1 : Nat} {x2 : Nat} {x3 : Nat} {x4 : Nat} (h0 : ((min (Int.toNat x0) x1) ≤ x2)) (h1 : (x3 = x2)) (h2 : (x4 = x2)) : ((min (Int.toNat x0) x1) ≤ (x2 + (1 : Nat))) := by omega
theorem om223 {x0 : Nat} {x1 : Nat} {x2 : Nat} {x3 : Int} (h0 : (x0 = x1)) (h1 : (x2 = x1)) (h2 : (x1 < (Int.toNat x3))) : ((x1 + (1 : Nat)) ≤ (Int.toNat x3)) := by omega
theorem om224 {x0 : Nat} {x1 : Nat} {x2 : Nat} {x3 : Nat} {x4 : Int} {x5 : Nat} {x6 : Nat} {x7 : Nat} (h0 : (x0 = x1)) (h1 : (x2 = x1)) (h2 : (x3 = x0)) (h3 : ((min (Int.toNat x4) x1) ≤ x5)) (h4 : (x6 = x5)) (h5 : (x7 = x5)) (h6 : (x5 < (Int.toNat x4))) : (¬ (x5 < x1)) := by omega
theorem om225 {x0 : Int} {x1 : Nat} {x2 : Nat} {x3 : Nat} (h0 : ((0 : Int) ≤ x0)) (h1 : (x0 ≤ (900 : Int))) (h2 : (x1 ≤ (Int.toNat x0))) (h3 : (x2 = x1)) (h4 : (x3 = x1)) (h5 : (¬ (((x1 : Nat) : Int) < x0))) : (x1 = (Int.toNat x0)) := by omega
theorem om226 {x0 : Nat} (h0 : (x0 ≤ (12 : Nat))) : ((0 : Int) < (((x0 : Nat) : Int) + (1 : Int))) := by omega
theorem om227 {x0 : Int} {x1 : Nat} (h0 : ((0 : Int) ≤ x0)) (h1 : (x0 < (((x1 : Nat) : Int) + (1 : Int)))) : ((Int.toNat x0) ≤ x1) := by omega
theorem om228 {x0 : Nat} : ((-((2 : Int) ^ (62 : Nat))) ≤ ((x0 : Nat) : Int)) := by omega
theorem om229 {x0 : Nat} {x1 : Nat} (h0 : (x0 ≤ (12 : Nat))) (h1 : (x1 ≤ x0)) : (((x1 : Nat) : Int) < ((2 : Int) ^ (62 : Nat))) := by omega
theorem om230 {x0 : Nat} {x1 : Nat} (h0 : (x0 ≤ (12 : Nat))) (h1 : (x1 ≤ x0)) : (x1 ≤ (1000 : Nat)) := by omega
theorem om231 {x0 : Int} (h0 : ((0 : Int) ≤ x0)) : ((0 : Int) ≤ (x0 + (1 : Int))) := by omega
theorem om232 {x0 : Nat} {x1 : Nat} {x2 : Nat} (h0 : (x0 ≤ (12 : Nat))) (h1 : (x1 ≤ x0)) (h2 : (x2 < x1)) : (((0 : Int) + ((x2 : Nat) : Int)) ≤ (1000 : Int)) := by omega
theorem om233 {x0 : Nat} {x1 : Nat} (h0 : (x0 = x1)) : ((-((2 : Int) ^ (62 : Nat))) ≤ ((x1 : Nat) : Int)) := by omega
theorem om234 {x0 : Nat} {x1 : Nat} {x2 : Nat} (h0 : (x0 ≤ (12 : Nat))) (h1 : (x1 ≤ x0)) (h2 : (x2 = x1)) : (((x1 : Nat) : Int) < ((2 : Int) ^ (62 : Nat))) := by omega
theorem om235 {x0 : Nat} {x1 : Nat} {x2 : Nat} (h0 : (x0 ≤ (12 : Nat))) (h1 : (x1 ≤ x0)) (h2 : (x2 = x1)) : (x1 ≤ (1000 : Nat)) := by omega
theorem om236 {x0 : Int} (h0 : ((0 : Int) ≤ x0)) : ((0 : Int) ≤ (x0 + (2 : Int))) := by omega
theorem om237 {x0 : Nat} : ((0 : Int) ≤ ((20 : Int) + ((0 : Int) + ((x0 : Nat) : Int)))) := by omega
theorem om238 {x0 : Nat} {x1 : Nat} {x2 : Nat} {x3 : Nat} (h0 : (x0 ≤ (12 : Nat))) (h1 : (x1 ≤ x0)) (h2 : (x2 = x1)) (h3 : (x3 < x1)) : (((20 : Int) + ((0 : Int) + ((x3 : Nat) : Int))) ≤ (1000 : Int)) := by omega
theorem om239 {x0 : Nat} {x1 : Nat} {x2 : Nat} {x3 : Nat} (h0 : (x0 ≤ (12 : Nat))) (h1 : (x1 ≤ x0)) (h2 : (x2 = x1)) (h3 : (x3 = x1)) : (x1 ≤ (1000 : Nat)) := by omega
theorem om240 {x0 : Nat} : ((0 : Int) ≤ ((40 : Int) + ((x0 : Nat) : Int))) := by omega
theorem om241 {x0 : Nat} {x1 : Nat} {x2 : Nat} {x3 : Nat} {x4 : Nat} (h0 : (x0 ≤ (12 : Nat))) (h1 : (x1 ≤ x0)) (h2 : (x2 = x1)) (h3 : (x3 = x1)) (h4 : (x4 < x2)) : (((40 : Int) + ((x4 : Nat) : Int)) ≤ (1000 : Int)) := by omega
theorem om242 {x0 : Int} (h0 : ((0 : Int) ≤ (x0 % (2 : Int)))) : ((-((2 : Int) ^ (64 : Nat))) < (x0 % (2 : Int))) := by omega
theorem om243 {x0 : Int} (h0 : ((0 : Int) ≤ (x0 % (2 : Int)))) : ((x0 % (2 : Int)) < ((2 : Int) ^ (64 : Nat))) := by omega
theorem om244 {x0 : Int} (h0 : ((0 : Int) ≤ (x0 % (2 : Int)))) : (((x0 % (2 : Int)) = (0 : Int)) ∨ ((x0 % (2 : Int)) = (1 : Int))) := by omega
theorem om245 {x0 : Nat} {x1 : Nat} {x2 : Nat} (h0 : (x0 = x1)) (h1 : (x2 = x1)) (h2 : ((0 : Int) < ((x1 : Nat) : Int))) : ((0 : Nat) < x1) := by omega
theorem om246 {x0 : Nat} {x1 : Nat} {x2 : Nat} (h0 : (x0 = x1)) (h1 : (x2 = x1)) (h2 : ((0 : Nat) < x1)) : ((-((2 : Int) ^ (63 : Nat))) ≤ (((x1 : Nat) : Int) - (1 : Int))) := by omega
theorem om247 {x0 : Nat} {x1 : Nat} {x2 : Nat} {x3 : Nat} (h0 : (x0 ≤ (12 : Nat))) (h1 : (x1 ≤ x0)) (h2 : (x2 = x1)) (h3 : (x3 = x1)) : ((((x1 : Nat) : Int) - (1 : Int)) < ((2 : Int) ^ (63 : Nat))) := by omega
theorem om248 {x0 : Nat} {x1 : Nat} {x2 : Nat} {x3 : Nat} (h0 : (x0 ≤ (12 : Nat))) (h1 : (x1 ≤ x0)) (h2 : (x2 = x1)) (h3 : (x3 = x1)) : ((Int.toNat (((x1 : Nat) : Int) - (1 : Int))) ≤ (1000 : Nat)) := by omega
theorem om249 {x0 : Nat} {x1 : Nat} {x2 : Nat} (h0 : (x0 = x1)) (h1 : (x2 = x1)) (h2 : ((0 : Nat) < x1)) : ((Int.toNat (((x1 : Nat) : Int) - (1 : Int))) = (x1 - (1 : Nat))) := by omega
theorem om250 : ((-(1 : Int)) < (0 : Int)) := by omega
theorem om251 {x0 : Nat} {x1 : Nat} {x2 : Nat} (h0 : (x0 = x1)) (h1 : (x2 = x1)) (h2 : ((0 : Nat) < x1)) : (((-(1 : Int)) + ((x0 : Nat) : Int)) = (((x1 - (1 : Nat)) : Nat) : Int)) := by omega
theorem om252 {x0 : Nat} {x1 : Nat} {x2 : Nat} {x3 : Nat} (h0 : (x0 ≤ (12 : Nat))) (h1 : (x1 ≤ x0)) (h2 : (x2 = x1)) (h3 : (x3 = x1)) (h4 : ((0 : Nat) < x1)) : (((x1 - (1 : Nat)) + (1 : Nat)) ≤ (1000 : Nat)) := by omega
theorem om253 {x0 : Nat} {x1 : Nat} {x2 : Nat} (h0 : (x0 = x1)) (h1 : (x2 = x1)) (h2 : ((0 : Nat) < x1)) : (((x1 - (1 : Nat)) + (1 : Nat)) = x1) := by omega
theorem om254 {x0 : Nat} {x1 : Nat} {x2 : Nat} (h0 : (x0 = x1)) (h1 : (x2 = x1)) (h2 : ((0 : Nat) < x1)) : ((x1 - (1 : Nat)) < x0) := by omega
theorem om255 {x0 : Nat} {x1 : Nat} {x2 : Nat} {x3 : Nat} (h0 : (x0 ≤ x1)) (h1 : (x2 = x0)) (h2 : (x3 = x0)) : (x2 ≤ x1) := by omega
theorem om256 {x0 : Nat} {x1 : Nat} (h0 : (x0 < (12 : Nat))) (h1 : (x1 = x0)) : (x0 ≤ (1000 : Nat)) := by omega
theorem om257 {x0 : Nat} {x1 : Nat} (h0 : (x0 < (12 : Nat))) (h1 : (x1 = x0)) : (((1 : Nat) + x0) ≤ (1000 : Nat)) := by omega
theorem om258 {x0 : Nat} {x1 : Nat} {x2 : Nat} (h0 : (x0 < (12 : Nat))) (h1 : (x1 = x0)) (h2 : (x2 = (x0 + (1 : Nat)))) : (((x0 + (1 : Nat)) + (1 : Nat)) ≤ (1000 : Nat)) := by omega
theorem om259 {x0 : Nat} {x1 : Nat} {x2 : Nat} (h0 : (x0 < (12 : Nat))) (h1 : (x1 = x0)) (h2 : (x2 = (x0 + (1 : Nat)))) : (((1 : Nat) + (x0 + (1 : Nat))) ≤ (1000 : Nat)) := by omega
theorem om260 {x0 : Int} (h0 : ((Int.natAbs x0) < ((2 : Nat) ^ (45 : Nat)))) : ((-((2 : Int) ^ (64 : Nat))) < x0) := by omega
theorem om261 {x0 : Int} (h0 : ((Int.natAbs x0) < ((2 : Nat) ^ (45 : Nat)))) : (x0 < ((2 : Int) ^ (64 : Nat))) := by omega
theorem om262 {x0 : Nat} {x1 : Nat} {x2 : Nat} (h0 : (x0 < (12 : Nat))) (h1 : (x1 = x0)) (h2 : (x2 = (x0 + (1 : Nat)))) : ((0 : Int) ≤ (((x0 : Nat) : Int) + (1 : Int))) := by omega
theorem om263 {x0 : Nat} {x1 : Nat} {x2 : Nat} (h0 : (x0 < (12 : Nat))) (h1 : (x1 = x0)) (h2 : (x2 = (x0 + (1 : Nat)))) : ((((x0 : Nat) : Int) + (1 : Int)) ≤ (900 : Int)) := by omega
theorem om264 {x0 : Nat} {x1 : Nat} {x2 : Nat} (h0 : (x0 < (12 : Nat))) (h1 : (x1 = x0)) (h2 : (x2 = (x0 + (1 : Nat)))) : ((Int.toNat (((x0 : Nat) : Int) + (1 : Int))) = (x0 + (1 : Nat))) := by omega
theorem om265 {x0 : Nat} {x1 : Nat} {x2 : Nat} (h0 : (x0 < (12 : Nat))) (h1 : (x1 = x0)) (h2 : (x2 = (x0 + (1 : Nat)))) : (((x0 + (2 : Nat)) - (1 : Nat)) ≤ (1000 : Nat)) := by omega
theorem om266 {x0 : Nat} {x1 : Nat} (h0 : ((Int.toNat ((0 : Int) + ((x0 : Nat) : Int))) = x0)) (h1 : (x1 < (x0 + (1 : Nat)))) (h2 : (¬ (x1 = x0))) : (x1 < x0) := by omega
theorem om267 {x0 : Nat} {x1 : Nat} {x2 : Nat} (h0 : (x0 ≤ (12 : Nat))) (h1 : (x1 = x0)) (h2 : (x2 = x0)) (h3 : ((0 : Int) < ((x0 : Nat) : Int))) : ((0 : Nat) < x0) := by omega
theorem om268 {x0 : Nat} {x1 : Nat} {x2 : Nat} (h0 : (x0 ≤ (12 : Nat))) (h1 : (x1 = x0)) (h2 : (x2 = x0)) (h3 : ((0 : Nat) < x0)) : ((0 : Int) < ((x0 : Nat) : Int)) := by omega
theorem om269 {x0 : Nat} {x1 : Nat} {x2 : Nat} {x3 : Int} (h0 : (x0 = x1)) (h1 : (x2 = x1)) (h2 : (x3 < ((x1 : Nat) : Int))) : (x3 < ((x2 : Nat) : Int)) := by omega
theorem om270 {x0 : Int} (h0 : ((0 : Int) ≤ x0)) (h1 : (x0 < (1000 : Int))) : ((-((2 : Int) ^ (10 : Nat))) < x0) := by omega
theorem om271 {x0 : Int} (h0 : ((0 : Int) ≤ x0)) (h1 : (x0 < (1000 : Int))) : (x0 < ((2 : Int) ^ (10 : Nat))) := by omega
theorem om272 {x0 : Nat} {x1 : Nat} {x2 : Nat} {x3 : Int} (h0 : (x0 ≤ (12 : Nat))) (h1 : (x1 = x0)) (h2 : (x2 = x0)) (h3 : ((0 : Nat) < x0)) (h4 : (x3 < ((x0 : Nat) : Int))) : ((Int.toNat x3) < x0) := by omega
theorem om273 {x0 : Int} {x1 : Nat} (h0 : ((0 : Int) ≤ ((x0 / (7 : Int)) % (12 : Int)))) (h1 : (((1 : Int) + ((x0 / (7 : Int)) % (12 : Int))) = ((x1 : Nat) : Int))) (h2 : ((0 : Nat) = x1)) : False := by omega
theorem om274 {x0 : Int} {x1 : Nat} {x2 : Nat} (h0 : ((0 : Int) ≤ ((x0 / (7 : Int)) % (12 : Int)))) (h1 : (((1 : Int) + ((x0 / (7 : Int)) % (12 : Int))) = ((x1 : Nat) : Int))) (h2 : (x2 = x1)) : (((x2 - (1 : Nat)) + (1 : Nat)) ≤ (1000 : Nat)) := by omega
theorem om275 {x0 : Int} {x1 : Nat} {x2 : Nat} (h0 : ((0 : Int) ≤ ((x0 / (7 : Int)) % (12 : Int)))) (h1 : (((1 : Int) + ((x0 / (7 : Int)) % (12 : Int))) = ((x1 : Nat) : Int))) (h2 : (x2 = x1)) : (((x2 - (1 : Nat)) + (1 : Nat)) = x1) := by omega
theorem om276 {x0 : Int} {x1 : Nat} {x2 : Nat} {x3 : Nat} (h0 : ((0 : Int) ≤ ((x0 / (7 : Int)) % (12 : Int)))) (h1 : (((1 : Int) + ((x0 / (7 : Int)) % (12 : Int))) = ((x1 : Nat) : Int))) (h2 : (x2 = x1)) (h3 : (x3 = x1)) : (((x1 - (1 : Nat)) + (1 : Nat)) ≤ (1000 : Nat)) := by omega
theorem om277 {x0 : Int} {x1 : Nat} {x2 : Nat} {x3 : Nat} (h0 : ((0 : Int) ≤ ((x0 / (7 : Int)) % (12 : Int)))) (h1 : (((1 : Int) + ((x0 / (7 : Int)) % (12 : Int))) = ((x1 : Nat) : Int))) (h2 : (x2 = x1)) (h3 : (x3 = x1)) : (((x1 - (1 : Nat)) + (1 : Nat)) = x1) := by omega
theorem om278 {x0 : Int} {x1 : Nat} (h0 : ((0 : Int) ≤ x0)) (h1 : (x0 < (1000 : Int))) (h2 : (x0 = ((x1 : Nat) : Int))) (h3 : (((2 : Nat) ≤ x1) ∧ (x1 < (1000 : Nat)))) : ((1 : Int) < x0) := by omega
end OmL
/-! THE HAND LAYER, for ints, bools, texts, own classes, LISTS and tuples (index, slices, in, append, pop ..), calls, loops. Paste it whole ahead of your own text; what your proof does not reach may be deleted. -/
namespace L2
open PySem PySem.Spec PyProof.Rows

/-- a key: an int or a str -/
noncomputable abbrev Key := Sum Int Str
noncomputable def keyIs : Key → Value → Bool
  | .inl k, v => Value.isInt k v
  | .inr x, v => Value.isStrOf x v
noncomputable def keyH (w : World) : Key → Int
  | .inl k => hashInt k
  | .inr x => hashStr w x
theorem keyIs_shape : ∀ {k : Key} {v : Value}, keyIs k v = true → (∃ i t, k = Sum.inl i ∧ v = Value.int i t) ∨ (∃ x t, k = Sum.inr x ∧ v = Value.str x t)
  | .inl i, v, h => by
    obtain ⟨t, e⟩ := Value.isInt_shape (k := i) (v := v) h
    exact .inl ⟨i, t, rfl, e⟩
  | .inr x, v, h => by
    obtain ⟨t, e⟩ := Value.isStrOf_shape (x := x) (v := v) h
    exact .inr ⟨x, t, rfl, e⟩
theorem key_ll (a b : Int) : decide ((Sum.inl a : Key) = Sum.inl b) = (a == b) := by
  by_cases e : a = b
  · subst e; simp
  · have h : ¬ (Sum.inl a : Key) = Sum.inl b := fun q => e (Sum.inl.inj q)
    rw [decide_eq_false h]
    exact (beq_eq_false_iff_ne.mpr e).symm
theorem key_rr (a b : Str) : decide ((Sum.inr a : Key) = Sum.inr b) = decide (a = b) := by
  by_cases e : a = b
  · subst e; simp
  · have h : ¬ (Sum.inr a : Key) = Sum.inr b := fun q => e (Sum.inr.inj q)
    rw [decide_eq_false h, decide_eq_false e]
theorem key_lr (a : Int) (b : Str) : decide ((Sum.inl a : Key) = Sum.inr b) = false := decide_eq_false (fun q => nomatch q)
theorem key_rl (a : Str) (b : Int) : decide ((Sum.inr a : Key) = Sum.inl b) = false := decide_eq_false (fun q => nomatch q)

noncomputable def mixKind (prog : Program) (w : World) : PySem.KeyKind prog w Key where
  is := keyIs
  hash := keyH w
  inj := fun v a b ha hb => by
    rcases keyIs_shape ha with ⟨i, t, rfl, rfl⟩ | ⟨x, t, rfl, rfl⟩
    · rcases keyIs_shape hb with ⟨j, u, rfl, e⟩ | ⟨y, u, rfl, e⟩
      · injection e with e1 _; rw [e1]
      · exact nomatch e
    · rcases keyIs_shape hb with ⟨j, u, rfl, e⟩ | ⟨y, u, rfl, e⟩
      · exact nomatch e
      · injection e with e1 _; rw [e1]
  byValue := fun k v h => by
    rcases keyIs_shape h with ⟨i, t, rfl, rfl⟩ | ⟨x, t, rfl, rfl⟩ <;> rfl
  pyHash := fun hv h => by
    rcases keyIs_shape hv with ⟨i, t, rfl, rfl⟩ | ⟨x, t, rfl, rfl⟩
    · exact wpAny_pyHash_int h
    · exact wpAny_pyHash_str h
  eqBool := fun hu hv h => by
    rcases keyIs_shape hu with ⟨i, t, rfl, rfl⟩ | ⟨x, t, rfl, rfl⟩
    · rcases keyIs_shape hv with ⟨j, u, rfl, rfl⟩ | ⟨y, u, rfl, rfl⟩
      · rw [key_ll] at h; exact wpAny_eqBool_int h
      · rw [key_lr] at h; exact SeqAt.EqAt.int_str i t y u _ _ _ _ h
    · rcases keyIs_shape hv with ⟨j, u, rfl, rfl⟩ | ⟨y, u, rfl, rfl⟩
      · rw [key_rl] at h; exact SeqAt.EqAt.str_int x t j u _ _ _ _ h
      · rw [key_rr] at h; exact wpAny_eqBool_str h
  «strs» := fun k x t v h => by
    rcases keyIs_shape h with ⟨i, u, rfl, e⟩ | ⟨y, u, rfl, e⟩
    · exact nomatch e
    · injection e with e1 _
      subst e1
      cases v <;> rfl

end L2

namespace L2
open PySem PySem.Spec PyProof.Rows

/-- a value, without the heap -/
inductive V where
  | non | bl (b : Bool) | int (i : Int) | str (x : Str) | byt (b : Array UInt8) | flt (b : UInt64) | ref (a : Addr) | ty (n : String)
  deriving DecidableEq

noncomputable def RelV : V → Value → Prop
  | .non, u => u = Value.none
  | .bl b, u => u = Value.bool b
  | .int i, u => ∃ t, u = Value.int i t
  | .str x, u => ∃ t, u = Value.str x t
  | .byt b, u => ∃ t, u = Value.bytes b t
  | .flt b, u => ∃ t, u = Value.float b t
  | .ref a, u => u = Value.ref a
  | .ty n, u => u = Value.type n

noncomputable abbrev Vals : List V → List Value → Prop := Paired RelV
theorem Vals.length {xs : List V} {us : List Value} (r : Vals xs us) : xs.length = us.length := Paired.length r
theorem Vals.get : ∀ {xs : List V} {us : List Value} {i : Nat} {x : V}, Vals xs us → xs[i]? = some x → ∃ u, us[i]? = some u ∧ RelV x u
  | _, _, _, _, .nil, e => by simp at e
  | _, _, 0, _, .cons r _, e => by simp at e; subst e; exact ⟨_, rfl, r⟩
  | _, _, i + 1, x, .cons _ t, e => by
    obtain ⟨u, h1, h2⟩ := Vals.get (i := i) (x := x) t (by simpa using e)
    exact ⟨u, by simpa using h1, h2⟩
theorem Vals.set {x : V} {u : Value} (r : RelV x u) : ∀ {xs : List V} {us : List Value} (i : Nat), Vals xs us → Vals (xs.set i x) (us.set i u)
  | _, _, _, .nil => .nil
  | _, _, 0, .cons _ t => .cons r t
  | _, _, i + 1, .cons q t => .cons q (Vals.set r i t)
theorem Vals.append : ∀ {xs ys : List V} {us ws : List Value}, Vals xs us → Vals ys ws → Vals (xs ++ ys) (us ++ ws)
  | _, _, _, _, .nil, s => s
  | _, _, _, _, .cons r t, s => .cons r (Vals.append t s)
theorem Vals.take : ∀ {xs : List V} {us : List Value} (n : Nat), Vals xs us → Vals (xs.take n) (us.take n)
  | _, _, 0, _ => .nil
  | _, _, _ + 1, .nil => .nil
  | _, _, n + 1, .cons r t => .cons r (Vals.take n t)
theorem Vals.drop : ∀ {xs : List V} {us : List Value} (n : Nat), Vals xs us → Vals (xs.drop n) (us.drop n)
  | _, _, 0, r => r
  | _, _, _ + 1, .nil => .nil
  | _, _, n + 1, .cons _ t => Vals.drop n t
noncomputable def RelO : Option V → Option Value → Prop
  | some v, some u => RelV v u
  | none, none => True
  | _, _ => False
noncomputable def KV {κ : Type} : List (κ × V) → List (κ × Value) → Prop := Paired fun (p : κ × V) (q : κ × Value) => p.1 = q.1 ∧ RelV p.2 q.2

/-- a key of a dict (00_mix): an int or a text -/
noncomputable def kV : Key → V
  | .inl i => .int i
  | .inr x => .str x

/-- what stands at a tracked address -/
inductive HO where
  /-- a list -/
  | lst (xs : List V)
  /-- a tuple (never changes) -/
  | tup (xs : List V)
  /-- a dict whose keys are ints and texts; one whose keys are tuples of ints and texts (the empty one is both) -/
  | dK (kvs : List (Key × V)) | dT (kvs : List (List Key × V))
  /-- a set of ints: its members, its size -/
  | set (S : Int → Bool) (n : Nat)
  /-- an instance of the class at C, its dict at dx, its attributes -/
  | ins (C dx : Addr) (fs : List (Str × V))
  /-- the dict of the instance at x -/
  | own (x : Addr)
  /-- the dict of an exception -/
  | xd (fs : List (Str × V))
  /-- a bound method, f of x -/
  | met (f x : Addr)
  /-- a range object lo, lo + 1, .. below hi -/
  | rng (lo hi : Int)
  /-- a thing that is known to the object (the script; a dict while a loop walks it): read, never written while it is so -/
  | frz (o : Obj) (u : HO)
  /-- a code object's table -/
  | tbl (ps : Array Value)
  /-- any other thing, by what is true of its one object (a def of one's own: SetO a S n := HO.ext fun h => ..) -/
  | ext (φ : Heap → Prop)

noncomputable abbrev Hp := Addr → Option HO
noncomputable def upd (H : Hp) (a : Addr) (o : HO) : Hp := fun b => if b = a then some o else H b
theorem upd_same {H : Hp} {a : Addr} {o : HO} : upd H a o a = some o := by unfold upd; rw [if_pos rfl]
theorem upd_ne {H : Hp} {a b : Addr} {o : HO} (h : b ≠ a) : upd H a o b = H b := by unfold upd; rw [if_neg h]
theorem upd_upd {H : Hp} {a : Addr} {o u : HO} : upd (upd H a o) a u = upd H a u := by
  funext b; unfold upd; split <;> rfl
theorem ne_of_none {H : Hp} {a b : Addr} {o : HO} (h : H a = some o) (h' : H b = none) : a ≠ b := by
  intro e; subst e; rw [h] at h'; cases h'

section
variable (P : Program) (w : World)
noncomputable def ObjOk (H : Hp) (h : Heap) (a : Addr) : HO → Prop
  | .lst xs => xs.length ≤ sizeLine ∧ ∃ (its : List Value) (n : Nat), Vals xs its ∧ h.get? a = some { cls := .type "list", data := .seq its.toArray n }
  | .tup xs => xs.length ≤ sizeLine ∧ ∃ its : List Value, Vals xs its ∧ IsTup h a its.toArray
  | .dK kvs => kvs.length ≤ sizeLine ∧ (a == sysModules) = false ∧ ∃ vs, KV kvs vs ∧ h.DictOf (mixKind P w) a vs
  | .dT kvs => kvs.length ≤ sizeLine ∧ (a == sysModules) = false ∧ ∃ xs : List (List Key × Addr × Value),
      Paired (fun (p : List Key × V) (q : List Key × Addr × Value) => p.1 = q.1 ∧ H q.2.1 = some (.tup (p.1.map kV)) ∧ RelV p.2 q.2.2) kvs xs ∧
      ∃ o es ep, h.get? a = some o ∧ o.ExactDict ∧ o.data = .dict es ep ∧ es.toList = xs.map (entryOfKey (tupleKind (mixKind P w))) ∧ (xs.map (·.1)).Nodup
  | .set S n => h.SetOf (intKind P w) a S n
  | .ins C dx fs => H dx = some (.own a) ∧ fs.length ≤ 1000 ∧ dx ≠ a ∧ h.get? a = some (PySem.W.instObj C dx) ∧
      ∃ mA, h.Ns1 dx mA ∧ (∀ f, RelO (fs.lookup f) (mA f)) ∧ PySem.Within mA (fs.map (·.1))
  | .own _ => ∃ o, h.get? a = some o
  | .xd fs => ∃ mA, h.Ns1 a mA ∧ ∀ f, RelO (fs.lookup f) (mA f)
  | .rng lo hi => ∃ t u v, h.get? a = some { cls := .type "range", data := .fields #[.int lo t, .int hi u, .int 1 v] }
  | .frz o u => h.get? a = some o ∧ ObjOk H h a u
  | .tbl ps => h.get? a = some { cls := .none, data := .fields ps }
  | .met f x => h.get? a = some (PySem.W.methodObj (.ref f) (.ref x))
  | .ext φ => φ h ∧ (∃ o, h.get? a = some o) ∧ ∀ h1 h2 : Heap, φ h1 → (∀ o, h1.get? a = some o → h2.get? a = some o) → φ h2
/-- the abstract heap is held -/
noncomputable def HOk (H : Hp) (h : Heap) : Prop := ∀ a o, H a = some o → ObjOk P w H h a o
end

section
variable {P : Program} {w : World} {H H' : Hp} {h h' : Heap} {a : Addr} {o : HO}
theorem ObjOk.lt (x : ObjOk P w H h a o) : a < h.objs.size := by
  cases o with
  | lst xs => obtain ⟨_, _, _, _, e⟩ := x; exact Heap.lt_size e
  | tup xs => obtain ⟨_, _, _, p⟩ := x; exact p.lt
  | dK kvs => obtain ⟨_, _, _, _, o, _, _, e, _⟩ := x; exact Heap.lt_size e
  | dT kvs => obtain ⟨_, _, _, _, o, _, _, e, _⟩ := x; exact Heap.lt_size e
  | set S n => obtain ⟨o, _, _, _, e, _⟩ := x; exact Heap.lt_size e
  | ins C dx fs => obtain ⟨_, _, _, e, _⟩ := x; exact Heap.lt_size e
  | own y => obtain ⟨_, e⟩ := x; exact Heap.lt_size e
  | xd fs => obtain ⟨_, ⟨_, _, _, e, _⟩, _⟩ := x; exact Heap.lt_size e
  | rng lo hi => obtain ⟨_, _, _, e⟩ := x; exact Heap.lt_size e
  | frz ob u => obtain ⟨e, _⟩ := x; exact Heap.lt_size e
  | tbl ps => exact Heap.lt_size (show h.get? a = some _ from x)
  | met f y => exact Heap.lt_size (show h.get? a = some _ from x)
  | ext φ => obtain ⟨_, ⟨_, e⟩, _⟩ := x; exact Heap.lt_size e
theorem Paired.mapP {α β : Type} {F G : α → β → Prop} : ∀ {l₁ : List α} {l₂ : List β}, Paired F l₁ l₂ → (∀ a b, F a b → G a b) → Paired G l₁ l₂
  | _, _, .nil, _ => .nil
  | _, _, .cons r t, f => .cons (f _ _ r) (Paired.mapP t f)
/-- what an object's description leans on: its own object, its own dict, the tuples -/
theorem ObjOk.stay (x : ObjOk P w H h a o) (k : ∀ b u, (b = a ∨ H b = some (.own a)) → h.get? b = some u → h'.get? b = some u)
    (ho : ∀ b, H b = some (.own a) → H' b = some (.own a)) (ht : ∀ b xs, H b = some (.tup xs) → H' b = some (.tup xs)) : ObjOk P w H' h' a o := by
  induction o with
  | lst xs => obtain ⟨z, its, n, r, e⟩ := x; exact ⟨z, its, n, r, k _ _ (.inl rfl) e⟩
  | tup xs => obtain ⟨z, its, r, ob, e, c⟩ := x; exact ⟨z, its, r, ob, k _ _ (.inl rfl) e, c⟩
  | dK kvs => obtain ⟨z, y, vs, r, ob, es, ep, e, c⟩ := x; exact ⟨z, y, vs, r, ob, es, ep, k _ _ (.inl rfl) e, c⟩
  | dT kvs =>
    obtain ⟨z, y, xs, r, ob, es, ep, e, c⟩ := x
    exact ⟨z, y, xs, Paired.mapP r fun p q z => ⟨z.1, ht _ _ z.2.1, z.2.2⟩, ob, es, ep, k _ _ (.inl rfl) e, c⟩
  | set S n => obtain ⟨ob, es, ep, t, e, c⟩ := x; exact ⟨ob, es, ep, t, k _ _ (.inl rfl) e, c⟩
  | ins C dx fs =>
    obtain ⟨d, z, ne, e, mA, ⟨od, es, ep, e2, c⟩, r⟩ := x
    exact ⟨ho _ d, z, ne, k _ _ (.inl rfl) e, mA, ⟨od, es, ep, k _ _ (.inr d) e2, c⟩, r⟩
  | own y => obtain ⟨ob, e⟩ := x; exact ⟨ob, k _ _ (.inl rfl) e⟩
  | xd fs => obtain ⟨mA, ⟨od, es, ep, e, c⟩, r⟩ := x; exact ⟨mA, ⟨od, es, ep, k _ _ (.inl rfl) e, c⟩, r⟩
  | rng lo hi => obtain ⟨t, u, v, e⟩ := x; exact ⟨t, u, v, k _ _ (.inl rfl) e⟩
  | frz ob u ih => obtain ⟨e, q⟩ := x; exact ⟨k _ _ (.inl rfl) e, ih q⟩
  | tbl ps =>
    have e : h.get? a = some { cls := .none, data := .fields ps } := x
    show h'.get? a = some { cls := .none, data := .fields ps }
    exact k a _ (.inl rfl) e
  | met f y =>
    have e : h.get? a = some (PySem.W.methodObj (.ref f) (.ref y)) := x
    show h'.get? a = some (PySem.W.methodObj (.ref f) (.ref y))
    exact k a _ (.inl rfl) e
  | ext φ => obtain ⟨p, ⟨o, e⟩, st⟩ := x; exact ⟨st _ _ p fun o q => k _ _ (.inl rfl) q, ⟨o, k _ _ (.inl rfl) e⟩, st⟩
theorem HOk.lt (x : HOk P w H h) (e : H a = some o) : a < h.objs.size := (x a o e).lt
theorem HOk.fresh (x : HOk P w H h) (e : h.objs.size ≤ a) : H a = none := by
  cases q : H a with
  | none => rfl
  | some u => exact absurd (Nat.lt_of_lt_of_le (x.lt q) e) (Nat.lt_irrefl _)
/-- every object of the heap is kept -/
theorem HOk.kept (x : HOk P w H h) (k : ∀ b u, h.get? b = some u → h'.get? b = some u) : HOk P w H h' := fun a o e =>
  (x a o e).stay (fun b u _ q => k b u q) (fun _ q => q) fun _ _ q => q
/-- a new object is laid and tracked -/
theorem HOk.laid (x : HOk P w H h) (k : ∀ b u, h.get? b = some u → h'.get? b = some u) (hp : h.objs.size ≤ a) (new : ObjOk P w (upd H a o) h' a o) : HOk P w (upd H a o) h' := fun b u e => by
  have hn := x.fresh hp
  by_cases hb : b = a
  · subst hb; rw [upd_same] at e; cases e; exact new
  · rw [upd_ne hb] at e
    exact (x b u e).stay (fun c v _ q => k c v q) (fun c q => by rw [upd_ne (ne_of_none q hn)]; exact q) fun c xs q => by rw [upd_ne (ne_of_none q hn)]; exact q
end

/-- what may be read as u: it is u, or a known u -/
noncomputable def Rd (H : Hp) (a : Addr) (u : HO) : Prop := H a = some u ∨ ∃ o, H a = some (.frz o u)
theorem Rd.ok {P : Program} {w : World} {H : Hp} {h : Heap} {a : Addr} {u : HO} (r : Rd H a u) (x : HOk P w H h) : ObjOk P w H h a u := by
  rcases r with r | ⟨o, r⟩
  · exact x a u r
  · obtain ⟨_, q⟩ := x a _ r
    exact q
/-- what may be written -/
noncomputable def Mut : Option HO → Prop
  | some (.lst _) => True
  | some (.dK _) => True
  | some (.dT _) => True
  | some (.set _ _) => True
  | some (.ins _ _ _) => True
  | some (.ext _) => True
  | _ => False
section
variable {P : Program} {w : World} {H : Hp} {h h' : Heap} {x e : Addr} {o' : HO}
/-- the object at e is changed: x itself, or the dict of the instance x -/
theorem HOk.write (ok : HOk P w H h) (mu : Mut (H x)) (he : e = x ∨ H e = some (.own x)) (k : ∀ b u, b ≠ e → h.get? b = some u → h'.get? b = some u) (heo : ∃ u, h'.get? e = some u)
    (new : ObjOk P w (upd H x o') h' x o') : HOk P w (upd H x o') h' := fun b u q => by
  have nown : ∀ c y, H c = some (.own y) → c ≠ x := fun c y r z => by subst z; rw [r] at mu; exact mu
  have ntup : ∀ c xs, H c = some (.tup xs) → c ≠ x := fun c xs r z => by subst z; rw [r] at mu; exact mu
  by_cases hb : b = x
  · subst hb; rw [upd_same] at q; cases q; exact new
  · rw [upd_ne hb] at q
    by_cases hbe : b = e
    · have q' : H b = some (.own x) := by
        rcases he with z | z
        · exact absurd (hbe.trans z) hb
        · rw [hbe]; exact z
      rw [q] at q'; cases q'
      obtain ⟨v, hv⟩ := heo
      exact ⟨v, by rw [hbe]; exact hv⟩
    · refine (ok b u q).stay (fun c v hc r => k c v ?_ r) (fun c r => by rw [upd_ne (nown c b r)]; exact r) fun c xs r => by rw [upd_ne (ntup c xs r)]; exact r
      rcases hc with rfl | hc
      · exact hbe
      · rintro rfl
        rcases he with z | z
        · exact nown c b hc z
        · rw [hc] at z; cases z; exact hb rfl
end

/-! ### kept unless tracked; of the frames at fs (the callers') the slots may change (an exception that passes writes there); of the records at ex (iterators) nothing is said -/
structure Un (fs ex : List Addr) (H H' : Hp) (h h' : Heap) : Prop where
  keep : ∀ b o, h.get? b = some o → H b = none → b ∉ fs → b ∉ ex → h'.get? b = some o
  slot : ∀ b o, h.get? b = some o → H b = none → b ∈ fs → b ∉ ex → ∃ sl, h'.get? b = some { o with slots := sl }
  free : ∀ b o, h.get? b = some o → H b = none → b ∉ ex → H' b = none
  there : ∀ b o, h.get? b = some o → b ∉ ex → ∃ o', h'.get? b = some o'
  tups : ∀ b xs, H b = some (.tup xs) → H' b = some (.tup xs)
  frzs : ∀ b o u, H b = some (.frz o u) → H' b = some (.frz o u)
  tbls : ∀ b ps, H b = some (.tbl ps) → ∃ more, H' b = some (.tbl (ps ++ more))
section
variable {fs fs' ex ex' : List Addr} {H H1 H2 : Hp} {h h1 h2 h' : Heap} {a x e : Addr} {o : HO}
theorem Un.any (u : Un fs ex H H1 h h1) {b : Addr} {ob : Obj} (q : h.get? b = some ob) (n : H b = none) (hx : b ∉ ex) : ∃ sl, h1.get? b = some { ob with slots := sl } := by
  by_cases hb : b ∈ fs
  · exact u.slot b ob q n hb hx
  · exact ⟨ob.slots, u.keep b ob q n hb hx⟩
theorem Un.kept (k : ∀ b u, h.get? b = some u → h'.get? b = some u) : Un fs ex H H h h' :=
  ⟨fun b ob q _ _ _ => k b ob q, fun b ob q _ _ _ => ⟨ob.slots, k b ob q⟩, fun _ _ _ n _ => n, fun b ob q _ => ⟨ob, k b ob q⟩, fun _ _ q => q, fun _ _ _ q => q, fun _ ps q => ⟨#[], by rw [q]; simp⟩⟩
theorem Un.refl : Un fs ex H H h h := Un.kept fun _ _ q => q
theorem Un.laid (k : ∀ b u, h.get? b = some u → h'.get? b = some u) (hp : h.objs.size ≤ a) (hn : H a = none) : Un fs ex H (upd H a o) h h' where
  keep := fun b u q _ _ _ => k b u q
  slot := fun b u q _ _ _ => ⟨u.slots, k b u q⟩
  free := fun b u q n _ => by rw [upd_ne (Nat.ne_of_lt (Nat.lt_of_lt_of_le (Heap.lt_size q) hp))]; exact n
  there := fun b u q _ => ⟨u, k b u q⟩
  tups := fun b xs q => by rw [upd_ne (ne_of_none q hn)]; exact q
  frzs := fun b u xs q => by rw [upd_ne (ne_of_none q hn)]; exact q
  tbls := fun b ps q => ⟨#[], by rw [upd_ne (ne_of_none q hn), q]; simp⟩
theorem Un.write (mu : Mut (H x)) (he : e = x ∨ H e = some (.own x)) (k : ∀ b u, b ≠ e → h.get? b = some u → h'.get? b = some u) (heo : ∃ u, h'.get? e = some u) : Un fs ex H (upd H x o) h h' := by
  have hx : ∀ b, H b = none → b ≠ x := fun b n z => by subst z; rw [n] at mu; exact mu
  have hb : ∀ b, H b = none → b ≠ e := fun b n z => by
    subst z
    rcases he with r | r
    · exact hx b n r
    · rw [n] at r; cases r
  have hm : ∀ b u, H b = some u → ¬ Mut (some u) → b ≠ x := fun b u q nm z => by subst z; rw [q] at mu; exact nm mu
  refine ⟨fun b u q n _ _ => k b u (hb b n) q, fun b u q n _ _ => ⟨u.slots, k b u (hb b n) q⟩, fun b u q n _ => by rw [upd_ne (hx b n)]; exact n, fun b u q _ => ?_,
    fun b xs q => by rw [upd_ne (hm b _ q fun z => z)]; exact q, fun b u xs q => by rw [upd_ne (hm b _ q fun z => z)]; exact q, fun b ps q => ⟨#[], by rw [upd_ne (hm b _ q fun z => z), q]; simp⟩⟩
  by_cases hbe : b = e
  · subst hbe; exact heo
  · exact ⟨u, k b u hbe q⟩
end

/-! ### the heap without what is tracked -/
noncomputable def trk (h : Heap) (H : Hp) : List Addr := (List.range h.objs.size).filter fun a => (H a).isSome
noncomputable def hidT (h : Heap) (H : Hp) : Heap := PySem.W.hideAll h (trk h H)
theorem hidT_size (h : Heap) (H : Hp) : (hidT h H).objs.size = h.objs.size := PySem.W.hideAll_size _ _
theorem hidT_get {h : Heap} {H : Hp} {b : Addr} {o : Obj} (e : h.get? b = some o) (n : H b = none) : (hidT h H).get? b = some o :=
  PySem.W.hideAll_get _ e fun hm => by
    have q : (H b).isSome = true := (List.mem_filter.mp hm).2
    rw [n] at q; simp at q
theorem of_hidT {h : Heap} {H : Hp} {b : Addr} {o : Obj} (e : (hidT h H).get? b = some o) : h.get? b = some o ∧ H b = none := by
  have e' : h.get? b = some o := PySem.W.of_hideAll (trk h H) e
  refine ⟨e', ?_⟩
  cases q : H b with
  | none => rfl
  | some x =>
    have hm : b ∈ trk h H := List.mem_filter.mpr ⟨List.mem_range.mpr (Heap.lt_size e'), by simp [q]⟩
    have z : (hidT h H).get? b = none := PySem.W.hideAll_none (trk h H) hm
    rw [z] at e; cases e

/-! ### OpenK's ledger, filled with every new object but one -/
end L2

namespace L2
open PySem PySem.Spec PyProof.Rows

/-- the module's facts, over the base: the heap at the law's entry without what is tracked there -/
structure Mod (K : PySem.W.Frag) (mg : Str → Option Value) (base : Heap) : Prop where
  kin : K.In base
  glob : base.Ns mainGlobals mg
  blt : ∃ mb, base.Ns builtinsNs mb ∧ ∀ x : Str, x ≠ "__name__" → mb x = bootBuiltins x
  nolimit : base.NoLimit

/-- the context: a def's body (or a comprehension's block) running. base: fixed through the whole law; s₀, H₀: the entry; outer: the frames whose slots others may change (a def's callers); stack: all frames that run;
   ex: iterators that were made ahead of the entry and are walked here (a comprehension's); fn: the names whose cells were made at the entry (a def: all; a comprehension's block: its own); calm: not within an except suite; pn: pins that every state bears; xe: what is wanted of an exception that leaves the code -/
structure Cx where
  prog : Program
  w : World
  K : PySem.W.Frag
  mg : Str → Option Value
  base : Heap
  A : Around
  N : List Str
  s₀ : Shared
  H₀ : Hp
  env : Env
  outer : List Env
  stack : List Env
  ex : List Addr
  fn : Str → Bool
  calm : Bool
  pn : List (Addr × Obj)
  xe : Value → Shared → Prop
/-- the callers' frames -/
noncomputable def frs (l : List Env) : List Addr := l.filterMap (·.frame)
noncomputable abbrev Cx.fs (X : Cx) : List Addr := frs X.outer

noncomputable def Vis (sc : Scope) (x : Str) : Prop := sc.names.lookup x = some .local ∨ sc.names.lookup x = some .cell ∨ sc.names.lookup x = some .free
noncomputable def Loc (sc : Scope) (x : Str) : Prop := sc.names.lookup x = some .local ∨ sc.names.lookup x = some .cell
noncomputable def Look (env : Env) (h : Heap) (m : Str → Option Value) (x : Str) (u : Value) : Prop :=
  (env.kindOf x = some .local ∧ m x = some u) ∨ ((env.kindOf x = some .cell ∨ env.kindOf x = some .free) ∧ ∃ c, env.cells.lookup x = some c ∧ h.IsCell c (some u))

structure Cx.Ok (X : Cx) : Prop where
  mod : Mod X.K X.mg X.base
  kind : X.env.scope.kind = .function
  glob : X.env.globals = mainGlobals
  blt : X.env.builtins = builtinsNs
  above : X.s₀.heap.objs.size ≤ X.env.locals
  inj : ∀ x y c, X.env.cells.lookup x = some c → X.env.cells.lookup y = some c → x = y
  has : ∀ x, (X.env.kindOf x = some .cell ∨ X.env.kindOf x = some .free) → ∃ c, X.env.cells.lookup x = some c
  cab : ∀ x c, X.fn x = true → X.env.cells.lookup x = some c → X.s₀.heap.objs.size ≤ c
  hd : X.calm = true → X.A.handled = none
  frames : X.A.frames = some X.stack
  stk : X.stack = X.outer ∨ (X.stack = X.env :: X.outer ∧ X.env.frame = some X.env.locals)
  exf : ∀ b ∈ X.ex, b ≠ X.env.locals ∧ ∀ x c, X.env.cells.lookup x = some c → c ≠ b
  bs : ∀ b o, X.base.get? b = some o → X.s₀.heap.get? b = some o ∧ X.H₀ b = none
  bsz : X.base.objs.size ≤ X.s₀.heap.objs.size
  noex : ∀ b o, X.base.get? b = some o → b ∉ X.ex
  exfs : ∀ b ∈ X.ex, b ∉ X.fs
  funs : X.s₀.heap.FunFrames X.base X.outer
  frf : ∀ b ∈ X.fs, X.H₀ b = none

structure Inv (X : Cx) (pins : List (Addr × Obj)) (σ : List (Option V)) (H : Hp) (s : Shared) : Prop where
  ok : X.Ok
  os : s.os = X.s₀.os
  bare : AllBare s.gens
  base : Un X.fs X.ex X.H₀ H X.s₀.heap s.heap
  loc : ∃ m, s.heap.Ns X.env.locals m ∧ ∀ (i : Nat) (x : Str) (v : V), X.N[i]? = some x → σ[i]? = some (some v) → Vis X.env.scope x → ∃ u, RelV v u ∧ Look X.env s.heap m x u
  cell : ∀ x c, X.env.cells.lookup x = some c → ∃ v, s.heap.IsCell c v
  free : H X.env.locals = none
  freeC : ∀ x c, X.env.cells.lookup x = some c → H c = none
  pin : ∀ p ∈ X.pn ++ pins, s.heap.get? p.1 = some p.2 ∧ H p.1 = none ∧ p.1 ≠ X.env.locals ∧ p.1 ∉ X.fs ∧ ∀ v, p.2.data ≠ .cell v
  hok : HOk X.prog X.w H s.heap
  len : σ.length = X.N.length

section
variable {X : Cx} {pins : List (Addr × Obj)} {σ : List (Option V)} {H H' : Hp} {s : Shared} {h' : Heap}

theorem Cx.Ok.nofr (ok : X.Ok) {b : Addr} {o : Obj} (e : X.base.get? b = some o) : b ∉ X.fs := fun hb => by
  have := (ok.funs.mem hb).1
  rw [e] at this; cases this
theorem Inv.bs (I : Inv X pins σ H s) : ∀ b o, X.base.get? b = some o → s.heap.get? b = some o ∧ H b = none := fun b o e =>
  ⟨I.base.keep b o (I.ok.bs b o e).1 (I.ok.bs b o e).2 (I.ok.nofr e) (I.ok.noex b o e), I.base.free b o (I.ok.bs b o e).1 (I.ok.bs b o e).2 (I.ok.noex b o e)⟩
theorem Inv.bk (I : Inv X pins σ H s) : ∀ b o, X.base.get? b = some o → s.heap.get? b = some o := fun b o e => (I.bs b o e).1
theorem Inv.mod (I : Inv X pins σ H s) : Mod X.K X.mg X.base := I.ok.mod
theorem Inv.kIn (I : Inv X pins σ H s) : X.K.In s.heap := I.ok.mod.kin.keeps I.bk
theorem Inv.lt (I : Inv X pins σ H s) : X.env.locals < s.heap.objs.size := let ⟨_, hn, _⟩ := I.loc; hn.lt
theorem Inv.sz (I : Inv X pins σ H s) : X.s₀.heap.objs.size ≤ s.heap.objs.size := Nat.le_trans I.ok.above (Nat.le_of_lt I.lt)
theorem Inv.nofs (I : Inv X pins σ H s) {a : Addr} (h : s.heap.objs.size ≤ a) : a ∉ X.fs := fun hb => by
  obtain ⟨_, o, ho, _⟩ := I.ok.funs.mem hb
  exact absurd (Nat.lt_of_lt_of_le (Heap.lt_size ho) (Nat.le_trans I.sz h)) (Nat.lt_irrefl _)
theorem Inv.cne (I : Inv X pins σ H s) : ∀ x c, X.env.cells.lookup x = some c → c ≠ X.env.locals := fun x c e z => by
  obtain ⟨v, o, ho, hd⟩ := I.cell x c e
  obtain ⟨m, ⟨o', es, ep, ho', hd', _⟩, _⟩ := I.loc
  rw [z, ho'] at ho; cases ho; rw [hd'] at hd; cases hd
theorem Inv.funs (I : Inv X pins σ H s) : s.heap.FunFrames X.base X.outer := by
  have all : ∀ (l : List Env), (∀ b ∈ frs l, b ∈ X.fs) → X.s₀.heap.FunFrames X.base l → s.heap.FunFrames X.base l := by
    intro l
    induction l with
    | nil => intro _ _; trivial
    | cons env r ih =>
      intro hs hl
      obtain ⟨hk, ⟨L, o, hf, hn, ho, hd⟩, hr⟩ := hl
      have hL : L ∈ X.fs := hs L (by unfold frs; rw [List.filterMap_cons, hf]; exact List.mem_cons_self)
      obtain ⟨sl, e⟩ := I.base.slot L o ho (I.ok.frf L hL) hL fun z => I.ok.exfs L z hL
      exact ⟨hk, ⟨L, _, hf, hn, e, hd⟩, ih (fun b hb => hs b (by unfold frs; rw [List.filterMap_cons, hf]; exact List.mem_cons_of_mem _ hb)) hr⟩
  exact all X.outer (fun _ hb => hb) I.ok.funs

/-- the frames that run, for a call -/
theorem Inv.stack (I : Inv X pins σ H s) : s.heap.FunFrames X.base X.stack := by
  rcases I.ok.stk with e | ⟨e, hf⟩
  · rw [e]; exact I.funs
  · rw [e]
    obtain ⟨m, hn, _⟩ := I.loc
    refine .cons (by rw [I.ok.kind]; decide) hf hn ?_ I.funs
    exact Heap.get?_none_of_le (Nat.le_trans I.ok.bsz I.ok.above)
theorem Inv.stkSub (I : Inv X pins σ H s) : ∀ b ∈ frs X.stack, b ∈ X.env.locals :: X.fs := fun b hb => by
  rcases I.ok.stk with e | ⟨e, hf⟩
  · rw [e] at hb; exact List.mem_cons_of_mem _ hb
  · rw [e] at hb
    unfold frs at hb
    rw [List.filterMap_cons, hf] at hb
    exact hb
theorem Inv.stkFree (I : Inv X pins σ H s) : ∀ b ∈ frs X.stack, H b = none := fun b hb => by
  rcases List.mem_cons.mp (I.stkSub b hb) with e | hb
  · rw [e]; exact I.free
  · obtain ⟨_, o, ho, _⟩ := I.ok.funs.mem hb
    exact I.base.free b o ho (I.ok.frf b hb) fun z => I.ok.exfs b z hb

/-- THE STEP: the untracked objects but the frame and the records at ch are kept (the callers' frames up to slots), the frame's map is kept, the new abstract heap is held -/
theorem Inv.step {g' : Array GenState} {t' : Nat} {d' : Drawn} {ch : List Addr} (I : Inv X pins σ H s)
    (hch : ∀ b ∈ ch, (b ∈ X.ex ∨ X.s₀.heap.objs.size ≤ b) ∧ b ≠ X.env.locals ∧ (∀ x c, X.env.cells.lookup x = some c → c ≠ b) ∧ ∀ p ∈ X.pn ++ pins, p.1 ≠ b)
    (keep : ∀ b o, b ≠ X.env.locals → b ∉ X.fs → b ∉ ch → s.heap.get? b = some o → H b = none → h'.get? b = some o)
    (slot : ∀ b o, b ≠ X.env.locals → b ∈ X.fs → b ∉ ch → s.heap.get? b = some o → H b = none → ∃ sl, h'.get? b = some { o with slots := sl }) (free : ∀ b o, b ∉ ch → s.heap.get? b = some o → H b = none → H' b = none)
    (there : ∀ b o, b ∉ ch → s.heap.get? b = some o → ∃ o', h'.get? b = some o')
    (tups : ∀ b xs, H b = some (.tup xs) → H' b = some (.tup xs)) (frzs : ∀ b o u, H b = some (.frz o u) → H' b = some (.frz o u)) (tbls : ∀ b ps, H b = some (.tbl ps) → ∃ more, H' b = some (.tbl (ps ++ more)))
    (ns : ∀ m, s.heap.Ns X.env.locals m → h'.Ns X.env.locals m) (hok : HOk X.prog X.w H' h') (hg : AllBare g') :
    Inv X pins σ H' { s with heap := h', gens := g', drawn := d', toks := t' } := by
  have neL : ∀ b o, X.s₀.heap.get? b = some o → b ≠ X.env.locals := fun b o e => Nat.ne_of_lt (Nat.lt_of_lt_of_le (Heap.lt_size e) I.ok.above)
  have neC : ∀ b o, X.s₀.heap.get? b = some o → b ∉ X.ex → b ∉ ch := fun b o e hx hb => by
    rcases (hch b hb).1 with z | z
    · exact hx z
    · exact absurd (Nat.lt_of_lt_of_le (Heap.lt_size e) z) (Nat.lt_irrefl _)
  have cellK : ∀ x c, X.env.cells.lookup x = some c → ∀ v, s.heap.IsCell c v → h'.IsCell c v := fun x c e v ⟨o, ho, hd⟩ => by
    have nch : c ∉ ch := fun z => (hch c z).2.2.1 x c e rfl
    by_cases hc : c ∈ X.fs
    · obtain ⟨sl, q⟩ := slot c o (I.cne x c e) hc nch ho (I.freeC x c e)
      exact ⟨_, q, hd⟩
    · exact ⟨o, keep c o (I.cne x c e) hc nch ho (I.freeC x c e), hd⟩
  refine ⟨I.ok, I.os, hg, ⟨fun b o e n hb hx => ?_, fun b o e n hb hx => ?_, fun b o e n hx => ?_, fun b o e hx => ?_, fun b xs e => tups b xs (I.base.tups b xs e), fun b o xs e => frzs b o xs (I.base.frzs b o xs e), fun b ps e => ?_⟩, ?_, fun x c e => ?_, ?_, fun x c e => ?_, fun p hp => ?_, hok, I.len⟩
  · exact keep b o (neL b o e) hb (neC b o e hx) (I.base.keep b o e n hb hx) (I.base.free b o e n hx)
  · obtain ⟨sl, e1⟩ := I.base.slot b o e n hb hx
    obtain ⟨sl', e2⟩ := slot b _ (neL b o e) hb (neC b o e hx) e1 (I.base.free b o e n hx)
    exact ⟨sl', e2⟩
  · obtain ⟨o', e1⟩ := I.base.there b o e hx
    exact free b o' (neC b o e hx) e1 (I.base.free b o e n hx)
  · obtain ⟨o', e1⟩ := I.base.there b o e hx
    exact there b o' (neC b o e hx) e1
  · obtain ⟨m1, e1⟩ := I.base.tbls b ps e
    obtain ⟨m2, e2⟩ := tbls b _ e1
    exact ⟨m1 ++ m2, by rw [e2, Array.append_assoc]⟩
  · obtain ⟨m, hn, hl⟩ := I.loc
    refine ⟨m, ns m hn, fun i x v e1 e2 e3 => ?_⟩
    obtain ⟨u, r, l⟩ := hl i x v e1 e2 e3
    refine ⟨u, r, ?_⟩
    rcases l with l | ⟨k, c, e, z⟩
    · exact .inl l
    · exact .inr ⟨k, c, e, cellK x c e _ z⟩
  · obtain ⟨v, z⟩ := I.cell x c e
    exact ⟨v, cellK x c e v z⟩
  · obtain ⟨m, ⟨o, _, _, ho, _⟩, _⟩ := I.loc
    exact free _ o (fun z => (hch _ z).2.1 rfl) ho I.free
  · obtain ⟨v, o, ho, hd⟩ := I.cell x c e
    exact free c o (fun z => (hch c z).2.2.1 x c e rfl) ho (I.freeC x c e)
  · obtain ⟨e, n, ne, nf, d⟩ := I.pin p hp
    have nch : p.1 ∉ ch := fun z => (hch p.1 z).2.2.2 p hp rfl
    exact ⟨keep p.1 p.2 ne nf nch e n, free p.1 p.2 nch e n, ne, nf, d⟩
/-- .. where the frame's own object is kept too -/
theorem Inv.un {t' : Nat} (I : Inv X pins σ H s) (u : Un X.fs [] H H' s.heap h') (hok : HOk X.prog X.w H' h') : Inv X pins σ H' { s with heap := h', toks := t' } := by
  obtain ⟨m, ⟨o, es, ep, ho, r⟩, _⟩ := id I.loc
  obtain ⟨sl, hL⟩ := u.any ho I.free (by simp)
  exact I.step (g' := s.gens) (d' := s.drawn) (ch := []) (fun _ z => nomatch z) (fun b o _ hb _ e n => u.keep b o e n hb (by simp)) (fun b o _ hb _ e n => u.slot b o e n hb (by simp)) (fun b o _ e n => u.free b o e n (by simp)) (fun b o _ e => u.there b o e (by simp)) u.tups u.frzs u.tbls (fun m' hm => by
    obtain ⟨o', es', ep', ho', r'⟩ := hm
    rw [ho] at ho'; cases ho'
    exact ⟨_, es', ep', hL, r'⟩) hok I.bare
/-- behind a call (or a comprehension's block): the slots of this frame may have changed too, the records at ch may have turned -/
theorem Inv.call {g' : Array GenState} {t' : Nat} {d' : Drawn} {ch : List Addr} (I : Inv X pins σ H s) (u : Un (frs X.stack) ch H H' s.heap h') (hok : HOk X.prog X.w H' h') (hg : AllBare g')
    (hch : ∀ b ∈ ch, (b ∈ X.ex ∨ X.s₀.heap.objs.size ≤ b) ∧ b ≠ X.env.locals ∧ (∀ x c, X.env.cells.lookup x = some c → c ≠ b) ∧ ∀ p ∈ X.pn ++ pins, p.1 ≠ b) :
    Inv X pins σ H' { s with heap := h', gens := g', drawn := d', toks := t' } := by
  obtain ⟨m, ⟨o, es, ep, ho, r⟩, _⟩ := id I.loc
  obtain ⟨sl, hL⟩ := u.any ho I.free fun z => (hch _ z).2.1 rfl
  exact I.step (ch := ch) hch (fun b o hL hb hc e n => u.keep b o e n (fun z => (List.mem_cons.mp (I.stkSub b z)).elim hL hb) hc) (fun b o _ _ hc e n => u.any e n hc) (fun b o hc e n => u.free b o e n hc) (fun b o hc e => u.there b o e hc) u.tups u.frzs u.tbls (fun m' hm => by
    obtain ⟨o', es', ep', ho', r'⟩ := hm
    rw [ho] at ho'; cases ho'
    exact ⟨_, es', ep', hL, r'⟩) hok hg
/-- an untracked record of ours (an iterator) has turned -/
theorem Inv.turned {t' : Nat} {it : Addr} (I : Inv X pins σ H s) (k : ∀ b o, b ≠ it → s.heap.get? b = some o → h'.get? b = some o) (hn : H it = none) (hL : it ≠ X.env.locals)
    (h1 : it ∈ X.ex ∨ X.s₀.heap.objs.size ≤ it) (h2 : ∀ x c, X.env.cells.lookup x = some c → c ≠ it) (h3 : ∀ p ∈ X.pn ++ pins, p.1 ≠ it) : Inv X pins σ H { s with heap := h', toks := t' } := by
  have nit : ∀ b u, H b = some u → b ≠ it := fun b u e z => by rw [z, hn] at e; cases e
  refine I.step (g' := s.gens) (d' := s.drawn) (ch := [it]) (fun b hb => ?_) (fun b o _ _ hc e _ => k b o (fun z => hc (by simp [z])) e) (fun b o _ _ hc e _ => ⟨o.slots, k b o (fun z => hc (by simp [z])) e⟩) (fun _ _ _ _ n => n)
    (fun b o hc e => ⟨o, k b o (fun z => hc (by simp [z])) e⟩) (fun _ _ e => e) (fun _ _ _ e => e) (fun b ps e => ⟨#[], by rw [e]; simp⟩) (fun m hm => ?_) (fun b u e => ?_) I.bare
  · have e : b = it := by simpa using hb
    subst e
    exact ⟨h1, hL, h2, h3⟩
  · obtain ⟨o, es, ep, ho, r⟩ := hm
    exact ⟨o, es, ep, k _ o (Ne.symm hL) ho, r⟩
  · refine (I.hok b u e).stay (fun c v hc q => k c v ?_ q) (fun _ q => q) fun _ _ q => q
    rcases hc with z | z
    · rw [z]; exact nit b u e
    · exact nit c _ z
theorem Inv.tok (I : Inv X pins σ H s) (t : Nat) : Inv X pins σ H { s with toks := t } := I.un (h' := s.heap) (t' := t) Un.refl I.hok
/-- all objects kept -/
theorem Inv.kept {t' : Nat} (I : Inv X pins σ H s) (k : ∀ b u, s.heap.get? b = some u → h'.get? b = some u) : Inv X pins σ H { s with heap := h', toks := t' } := I.un (Un.kept k) (I.hok.kept k)
/-- a new object laid and tracked -/
theorem Inv.laid {a : Addr} {o : HO} {t' : Nat} (I : Inv X pins σ H s) (k : ∀ b u, s.heap.get? b = some u → h'.get? b = some u) (hp : s.heap.objs.size ≤ a) (new : ObjOk X.prog X.w (upd H a o) h' a o) :
    Inv X pins σ (upd H a o) { s with heap := h', toks := t' } := I.un (Un.laid k hp (I.hok.fresh hp)) (I.hok.laid k hp new)
/-- an object written -/
theorem Inv.write {x e : Addr} {o : HO} {t' : Nat} (I : Inv X pins σ H s) (mu : Mut (H x)) (he : e = x ∨ H e = some (.own x)) (k : ∀ b u, b ≠ e → s.heap.get? b = some u → h'.get? b = some u) (heo : ∃ u, h'.get? e = some u)
    (new : ObjOk X.prog X.w (upd H x o) h' x o) : Inv X pins σ (upd H x o) { s with heap := h', toks := t' } := I.un (Un.write mu he k heo) (I.hok.write mu he k heo new)
theorem Inv.pins_of {pins' : List (Addr × Obj)} (I : Inv X pins σ H s) (h : ∀ p ∈ pins', s.heap.get? p.1 = some p.2 ∧ H p.1 = none ∧ p.1 ≠ X.env.locals ∧ p.1 ∉ X.fs ∧ ∀ v, p.2.data ≠ .cell v) : Inv X pins' σ H s :=
  ⟨I.ok, I.os, I.bare, I.base, I.loc, I.cell, I.free, I.freeC, fun p hp => (List.mem_append.mp hp).elim (fun z => I.pin p (List.mem_append_left _ z)) (h p), I.hok, I.len⟩

theorem nodup_ix {N : List Str} (hN : N.Nodup) {i j : Nat} {x : Str} (a : N[i]? = some x) (b : N[j]? = some x) : i = j := by
  obtain ⟨h1, e1⟩ := List.getElem?_eq_some_iff.mp a
  obtain ⟨h2, e2⟩ := List.getElem?_eq_some_iff.mp b
  exact (List.getElem_inj hN).mp (e1.trans e2.symm)

/-- a name is stored; what changed -/
theorem store_ok2 {M : Model} {A : Around} {E : Value → Shared → Prop} {i : Nat} {x : Str} {v : V} {u : Value} {Q : Unit → Shared → Prop} (I : Inv X pins σ H s) (hN : X.N.Nodup) (hi : X.N[i]? = some x) (hx : Loc X.env.scope x) (r : RelV v u)
    (h : ∀ s', Inv X pins (σ.set i (some v)) H s' → (∃ a, Heap.SameBut a s.heap s'.heap ∧ (a = X.env.locals ∨ X.env.cells.lookup x = some a)) → Q () s') (hf : X.fn x = true ∨ X.env.scope.names.lookup x = some .local := by first | exact .inl rfl | exact .inr rfl | assumption) : wpAny M A (storeName X.env x u) Q E s := by
  obtain ⟨m, hn, hl⟩ := id I.loc
  have hcls : (X.env.scope.kind == .class || (X.env.scope.kind == .module && X.env.locals != X.env.globals)) = false := by rw [I.ok.kind]; rfl
  have hiσ : i < σ.length := by rw [I.len]; exact (List.getElem?_eq_some_iff.mp hi).1
  have cne := I.cne
  have tracked : ∀ {a : Addr} {h' : Heap}, (∃ o, s.heap.get? a = some o ∧ H a = none) → Heap.SameBut a s.heap h' → HOk X.prog X.w H h' := fun {a h'} ha hs b ob e => by
    obtain ⟨_, _, hfree⟩ := ha
    refine (I.hok b ob e).stay (fun c w' hc q => (hs.2 c ?_).trans q) (fun _ q => q) fun _ _ q => q
    rintro rfl
    rcases hc with rfl | hc
    · rw [hfree] at e; cases e
    · rw [hfree] at hc; cases hc
  rcases hx with hk | hk
  · refine wpAny_storeName_local hk hn (fun h' hn' hs => ?_) hcls
    obtain ⟨oL, _, _, hoL, _⟩ := id hn
    refine h _ ⟨I.ok, I.os, I.bare, ⟨fun b o e n hb hx => ?_, fun b o e n hb hx => ?_, I.base.free, fun b o e hx => ?_, I.base.tups, I.base.frzs, I.base.tbls⟩, ⟨_, hn', fun j y v' e1 e2 e3 => ?_⟩, fun y c e => ?_, I.free, I.freeC, fun p hp => ?_, tracked ⟨oL, hoL, I.free⟩ hs, by simpa using I.len⟩ ⟨_, hs, .inl rfl⟩
    · exact (hs.2 b (Nat.ne_of_lt (Nat.lt_of_lt_of_le (Heap.lt_size e) I.ok.above))).trans (I.base.keep b o e n hb hx)
    · obtain ⟨sl, e1⟩ := I.base.slot b o e n hb hx
      exact ⟨sl, (hs.2 b (Nat.ne_of_lt (Nat.lt_of_lt_of_le (Heap.lt_size e) I.ok.above))).trans e1⟩
    · obtain ⟨o', e1⟩ := I.base.there b o e hx
      exact ⟨o', (hs.2 b (Nat.ne_of_lt (Nat.lt_of_lt_of_le (Heap.lt_size e) I.ok.above))).trans e1⟩
    · by_cases hj : j = i
      · subst hj
        rw [hi] at e1; cases e1
        rw [List.getElem?_set_self hiσ] at e2
        cases e2
        exact ⟨u, r, .inl ⟨hk, by simp⟩⟩
      · rw [List.getElem?_set_ne (Ne.symm hj)] at e2
        obtain ⟨u', r', q⟩ := hl j y v' e1 e2 e3
        refine ⟨u', r', ?_⟩
        rcases q with ⟨k, e⟩ | ⟨k, c, e, z⟩
        · refine .inl ⟨k, ?_⟩
          have : y ≠ x := fun e => hj (nodup_ix hN e1 (e ▸ hi))
          simp [this, e]
        · exact .inr ⟨k, c, e, z.sameBut hs (cne y c e)⟩
    · obtain ⟨w', z⟩ := I.cell y c e
      exact ⟨w', z.sameBut hs (cne y c e)⟩
    · obtain ⟨e, n, ne, nf, d⟩ := I.pin p hp
      exact ⟨(hs.2 p.1 ne).trans e, n, ne, nf, d⟩
  · have hfn : X.fn x = true := by
      rcases hf with z | z
      · exact z
      · rw [z] at hk; cases hk
    obtain ⟨c, hc⟩ := I.ok.has x (.inl hk)
    obtain ⟨w', z⟩ := I.cell x c hc
    refine wpAny_storeName_cell I.ok.kind hk hc z (fun h' hc' hs => ?_)
    obtain ⟨oc, hoc, hocd⟩ := id z
    refine h { s with heap := h' } ⟨I.ok, I.os, I.bare, ⟨fun b o e n hb hx => ?_, fun b o e n hb hx => ?_, I.base.free, fun b o e hx => ?_, I.base.tups, I.base.frzs, I.base.tbls⟩, ⟨m, hn.sameBut hs (Ne.symm (cne x c hc)), fun j y v' e1 e2 e3 => ?_⟩, fun y c' e => ?_, I.free, I.freeC, fun p hp => ?_, tracked ⟨oc, hoc, I.freeC x c hc⟩ hs, by simpa using I.len⟩ ⟨c, hs, .inr hc⟩
    · exact (hs.2 b (Nat.ne_of_lt (Nat.lt_of_lt_of_le (Heap.lt_size e) (I.ok.cab x c hfn hc)))).trans (I.base.keep b o e n hb hx)
    · obtain ⟨sl, e1⟩ := I.base.slot b o e n hb hx
      exact ⟨sl, (hs.2 b (Nat.ne_of_lt (Nat.lt_of_lt_of_le (Heap.lt_size e) (I.ok.cab x c hfn hc)))).trans e1⟩
    · obtain ⟨o', e1⟩ := I.base.there b o e hx
      exact ⟨o', (hs.2 b (Nat.ne_of_lt (Nat.lt_of_lt_of_le (Heap.lt_size e) (I.ok.cab x c hfn hc)))).trans e1⟩
    · by_cases hj : j = i
      · subst hj
        rw [hi] at e1; cases e1
        rw [List.getElem?_set_self hiσ] at e2
        cases e2
        exact ⟨u, r, .inr ⟨.inl hk, c, hc, hc'⟩⟩
      · rw [List.getElem?_set_ne (Ne.symm hj)] at e2
        obtain ⟨u', r', q⟩ := hl j y v' e1 e2 e3
        refine ⟨u', r', ?_⟩
        rcases q with q | ⟨k, c', e, z'⟩
        · exact .inl q
        · refine .inr ⟨k, c', e, z'.sameBut hs ?_⟩
          rintro rfl
          exact hj (nodup_ix hN e1 (I.ok.inj _ _ _ e hc ▸ hi))
    · by_cases hcc : c' = c
      · subst hcc; exact ⟨_, hc'⟩
      · obtain ⟨w2, z2⟩ := I.cell y c' e
        exact ⟨w2, z2.sameBut hs hcc⟩
    · obtain ⟨e, n, ne, nf, d⟩ := I.pin p hp
      refine ⟨(hs.2 p.1 ?_).trans e, n, ne, nf, d⟩
      intro q
      rw [q, hoc] at e
      have q' : oc = p.2 := Option.some.inj e
      exact d w' (by rw [← q']; exact hocd)
theorem store_ok {M : Model} {A : Around} {E : Value → Shared → Prop} {i : Nat} {x : Str} {v : V} {u : Value} {Q : Unit → Shared → Prop} (I : Inv X pins σ H s) (hN : X.N.Nodup) (hi : X.N[i]? = some x) (hx : Loc X.env.scope x) (r : RelV v u)
    (h : ∀ s', Inv X pins (σ.set i (some v)) H s' → Q () s') (hf : X.fn x = true ∨ X.env.scope.names.lookup x = some .local := by first | exact .inl rfl | exact .inr rfl | assumption) : wpAny M A (storeName X.env x u) Q E s :=
  store_ok2 I hN hi hx r (fun s' I' _ => h s' I') hf
/-- behind a call or a block, the state as it is -/
theorem Inv.call' {s' : Shared} {ch : List Addr} (I : Inv X pins σ H s) (ho : s'.os = s.os) (u : Un (frs X.stack) ch H H' s.heap s'.heap) (hok : HOk X.prog X.w H' s'.heap) (hg : AllBare s'.gens)
    (hch : ∀ b ∈ ch, (b ∈ X.ex ∨ X.s₀.heap.objs.size ≤ b) ∧ b ≠ X.env.locals ∧ (∀ x c, X.env.cells.lookup x = some c → c ≠ b) ∧ ∀ p ∈ X.pn ++ pins, p.1 ≠ b) : Inv X pins σ H' s' := by
  obtain ⟨h', g', d', t', o'⟩ := s'
  have e : o' = s.os := ho
  subst e
  exact I.call (g' := g') (t' := t') (d' := d') u hok hg hch
end

/-! ### the judgements -/
/-- an exception: its class, its own dict's address (where it has one), the abstract heap behind it -/
noncomputable abbrev XK := Value → Option Addr → Hp → Prop
noncomputable abbrev St := List (Option V)
noncomputable abbrev VK := V → Hp → Prop
/-- an expression's reading; a test's; an argument list's -/
noncomputable abbrev TE := St → Hp → VK → Prop
noncomputable abbrev TT := St → Hp → (Bool → Hp → Prop) → Prop
noncomputable abbrev TA := St → Hp → (List V → Hp → Prop) → Prop
/-- what is wanted behind a statement -/
structure Ends where
  nx : St → Hp → Prop
  rt : VK
  bk : St → Hp → Prop := fun _ _ => False
  ct : St → Hp → Prop := fun _ _ => False
noncomputable abbrev TS := Ends → St → Hp → Prop

noncomputable def EP (X : Cx) (pins : List (Addr × Obj)) (σ : St) (Q : VK) (u : Value) (s' : Shared) : Prop := ∃ v H', Inv X pins σ H' s' ∧ RelV v u ∧ Q v H'
noncomputable def TP (X : Cx) (pins : List (Addr × Obj)) (σ : St) (Q : Bool → Hp → Prop) (b : Bool) (s' : Shared) : Prop := ∃ H', Inv X pins σ H' s' ∧ Q b H'
noncomputable def AP (X : Cx) (pins : List (Addr × Obj)) (σ : St) (Q : List V → Hp → Prop) (us : List Value) (s' : Shared) : Prop := ∃ vs H', Inv X pins σ H' s' ∧ Vals vs us ∧ Q vs H'
noncomputable def SP (X : Cx) (pins : List (Addr × Obj)) (D : Ends) (f : Flow) (s' : Shared) : Prop :=
  match f with
  | .next => ∃ σ' H', Inv X pins σ' H' s' ∧ D.nx σ' H'
  | .brk => ∃ σ' H', Inv X pins σ' H' s' ∧ D.bk σ' H'
  | .cont => ∃ σ' H', Inv X pins σ' H' s' ∧ D.ct σ' H'
  | .ret u => ∃ v σ' H', Inv X pins σ' H' s' ∧ RelV v u ∧ D.rt v H'

noncomputable def PE (X : Cx) (e : Expr) (t : TE) : Prop :=
  ∀ (pins : List (Addr × Obj)) (s : Shared) (σ : St) (H : Hp) (Q : VK), Inv X pins σ H s → t σ H Q → wpAny (model X.prog X.w) X.A (eval e X.env) (EP X pins σ Q) X.xe s
noncomputable def PT (X : Cx) (e : Expr) (t : TT) : Prop :=
  ∀ (pins : List (Addr × Obj)) (s : Shared) (σ : St) (H : Hp) (Q : Bool → Hp → Prop), Inv X pins σ H s → t σ H Q → wpAny (model X.prog X.w) X.A (isTrue e X.env (eval e X.env)) (TP X pins σ Q) X.xe s
/-- a test whatever its 'whole' is (and, or) -/
noncomputable def PW (X : Cx) (e : Expr) (t : TT) : Prop :=
  ∀ (whole : Sem Value) (pins : List (Addr × Obj)) (s : Shared) (σ : St) (H : Hp) (Q : Bool → Hp → Prop), Inv X pins σ H s → t σ H Q → wpAny (model X.prog X.w) X.A (isTrue e X.env whole) (TP X pins σ Q) X.xe s
theorem PW.pt {X : Cx} {e : Expr} {t : TT} (h : PW X e t) : PT X e t := h _
/-- an argument list (no star), from the left -/
noncomputable def PA (X : Cx) (es : List Expr) (t : TA) : Prop :=
  ∀ (pos : Pos) (pins : List (Addr × Obj)) (s : Shared) (σ : St) (H : Hp) (Q : List V → Hp → Prop), Inv X pins σ H s → t σ H Q → wpAny (model X.prog X.w) X.A (spliced (backTo pos (starEach es X.env))) (AP X pins σ Q) X.xe s
noncomputable def PS (X : Cx) (st : Stmt) (t : TS) : Prop :=
  ∀ (pins : List (Addr × Obj)) (s : Shared) (σ : St) (H : Hp) (D : Ends), Inv X pins σ H s → t D σ H → wpAny (model X.prog X.w) X.A (exec st X.env) (SP X pins D) X.xe s
noncomputable def PSs (X : Cx) (st : List Stmt) (t : TS) : Prop :=
  ∀ (pins : List (Addr × Obj)) (s : Shared) (σ : St) (H : Hp) (D : Ends), Inv X pins σ H s → t D σ H → wpAny (model X.prog X.w) X.A (execs st X.env) (SP X pins D) X.xe s
/-- weaken the end -/
theorem thn {α : Type} {t : Sem α} {Q Q' : α → Shared → Prop} {M : Model} {A : Around} {E : Value → Shared → Prop} {s : Shared} (h : wpAny M A t Q E s) (hQ : ∀ a s, Q a s → Q' a s) : wpAny M A t Q' E s := wpAny_mono h hQ fun _ _ x => x
end L2

namespace L2
open PySem PySem.Spec PyProof.Rows
section
variable {X : Cx}

/-! ### names and constants -/
noncomputable def tVar (i : Nat) : TE := fun σ H Q => ∃ v, σ[i]? = some (some v) ∧ Q v H
noncomputable def tC (v : V) : TE := fun _ H Q => Q v H
theorem pe_var {i : Nat} {x : Str} {pos : Pos} (hN : X.N[i]? = some x) (hv : Vis X.env.scope x) (hd : (x == ("__debug__" : Str)) = false := by decide) (hcd : (x == ("__classdict__" : Str)) = false := by decide) : PE X (.Name x pos) (tVar i) := by
  intro pins s σ H Q I h
  obtain ⟨v, e, h⟩ := h
  obtain ⟨m, hn, hl⟩ := I.loc
  obtain ⟨u, r, l⟩ := hl i x v hN e hv
  have fin : EP X pins σ Q u s := ⟨v, H, I, r, h⟩
  rcases l with ⟨hk, hm⟩ | ⟨hk, c, hc, hcell⟩
  · exact wpAny_Name (wpAny_loadName_local I.ok.kind hk hn hm fin) hd
  · rcases hk with hk | hk
    · exact wpAny_Name (wpAny_loadName_cell I.ok.kind hk hc hcell fin) hd
    · exact wpAny_Name (wpAny_loadName_free I.ok.kind hk hc hcell fin hcd) hd
theorem pe_int {i j pos} : PE X (.Constant (.int i) j pos) (tC (.int i)) := fun _ _ _ H _ I h => wpAny_Constant_int ⟨.int i, H, I.tok _, ⟨_, rfl⟩, h⟩
theorem pe_bl {b j pos} : PE X (.Constant (.bool b) j pos) (tC (.bl b)) := fun _ _ _ H _ I h => Constant_bool ⟨.bl b, H, I, rfl, h⟩
theorem pe_non {j pos} : PE X (.Constant .none j pos) (tC .non) := fun _ _ _ H _ I h => Constant_none ⟨.non, H, I, rfl, h⟩
theorem pe_str {x j pos} : PE X (.Constant (.str x) j pos) (tC (.str x)) := fun _ _ _ H _ I h => Calls.Constant_str ⟨.str x, H, I.tok _, ⟨_, rfl⟩, h⟩

/-- a global name of the def -/
noncomputable def Gl (X : Cx) (x : Str) : Prop := X.env.kindOf x = some .globalImplicit
theorem ld_glob {E : Value → Shared → Prop} {pins : List (Addr × Obj)} {s : Shared} {σ : St} {H : Hp} {x : Str} {u : Value} {pos : Pos} {Q : Value → Shared → Prop} (I : Inv X pins σ H s) (hg : Gl X x) (hm : X.mg x = some u) (h : Q u s)
    (hd : (x == ("__debug__" : Str)) = false := by decide) : wpAny (model X.prog X.w) X.A (eval (.Name x pos) X.env) Q E s :=
  Calls.Name_function_global I.ok.kind hg (Calls.loadGlobal_global (by rw [I.ok.glob]; exact I.mod.glob.keeps I.bk) hm h) hd
theorem ld_blt {E : Value → Shared → Prop} {pins : List (Addr × Obj)} {s : Shared} {σ : St} {H : Hp} {x : Str} {u : Value} {pos : Pos} {Q : Value → Shared → Prop} (I : Inv X pins σ H s) (hg : Gl X x) (hm : X.mg x = none) (hv : bootBuiltins x = some u) (h : Q u s)
    (hn : x ≠ "__name__" := by decide) (hd : (x == ("__debug__" : Str)) = false := by decide) : wpAny (model X.prog X.w) X.A (eval (.Name x pos) X.env) Q E s := by
  obtain ⟨mb, h1, h2⟩ := I.mod.blt
  exact Calls.Name_function_global I.ok.kind hg (Calls.loadGlobal_builtin (by rw [I.ok.glob]; exact I.mod.glob.keeps I.bk) hm (by rw [I.ok.blt]; exact h1.keeps I.bk) ((h2 x hn).trans hv) h) hd
/-- a module's constant, a class, a function, as a value -/
theorem pe_glob {x : Str} {v : V} {u : Value} {pos : Pos} (hg : Gl X x) (hm : X.mg x = some u) (r : RelV v u) (hd : (x == ("__debug__" : Str)) = false := by decide) : PE X (.Name x pos) (tC v) :=
  fun _ _ _ H _ I h => ld_glob I hg hm ⟨v, H, I, r, h⟩ hd
theorem pe_bltn {x : Str} {v : V} {u : Value} {pos : Pos} (hg : Gl X x) (hm : X.mg x = none) (hv : bootBuiltins x = some u) (r : RelV v u) (hn : x ≠ "__name__" := by decide) (hd : (x == ("__debug__" : Str)) = false := by decide) : PE X (.Name x pos) (tC v) :=
  fun _ _ _ H _ I h => ld_blt I hg hm hv ⟨v, H, I, r, h⟩ hn hd

/-! ### arithmetic -/
variable {a b : Expr} {ta tb : TE} {pos : Pos}
/-! ### comparisons -/
noncomputable def PC (X : Cx) (op : CmpOp) (a b : Expr) (t : TE) : Prop :=
  ∀ (pins : List (Addr × Obj)) (s : Shared) (σ : St) (H : Hp) (Q : VK), Inv X pins σ H s → t σ H Q →
    wpAny (model X.prog X.w) X.A (eval a X.env) (fun v s₁ => wpAny (model X.prog X.w) X.A (eval b X.env) (fun u s₂ => wpAny (model X.prog X.w) X.A (compareOp op v u) (EP X pins σ Q) X.xe s₂) X.xe s₁) X.xe s
theorem nobehind (b : Expr) {op : CmpOp} (h : op ≠ .In) (h2 : op ≠ .NotIn) : behindInMarks op b = false := by
  have e1 : (op == CmpOp.In) = false := by cases op <;> first | rfl | exact absurd rfl h
  have e2 : (op == CmpOp.NotIn) = false := by cases op <;> first | rfl | exact absurd rfl h2
  cases b <;> simp [behindInMarks, e1, e2]
/-- is None -/
noncomputable def tIsN (ta : TE) : TE := fun σ H Q => ta σ H fun x H1 => Q (.bl (decide (x = .non))) H1
noncomputable def tNotN (ta : TE) : TE := fun σ H Q => ta σ H fun x H1 => Q (.bl (!decide (x = .non))) H1
theorem RelV.none_iff {x : V} {v : Value} (r : RelV x v) : (v == Value.none) = decide (x = .non) := by
  cases x with
  | non => cases r; rfl
  | bl _ => cases r; rfl
  | int _ => obtain ⟨t, rfl⟩ := r; rfl
  | str _ => obtain ⟨t, rfl⟩ := r; rfl
  | byt _ => obtain ⟨t, rfl⟩ := r; rfl
  | flt _ => obtain ⟨t, rfl⟩ := r; rfl
  | ref _ => cases r; rfl
  | ty _ => cases r; rfl
theorem pc_isN {j pos'} (ha : PE X a ta) : PC X .Is a (.Constant .none j pos') (tIsN ta) := by
  intro pins s σ H Q I h
  refine thn (ha pins s σ H _ I h) fun v s1 ⟨x, H1, I1, r1, q1⟩ => ?_
  exact Constant_none (is_none_gen ⟨.bl _, H1, I1, by rw [r1.none_iff]; rfl, q1⟩)
theorem pc_notN {j pos'} (ha : PE X a ta) : PC X .IsNot a (.Constant .none j pos') (tNotN ta) := by
  intro pins s σ H Q I h
  refine thn (ha pins s σ H _ I h) fun v s1 ⟨x, H1, I1, r1, q1⟩ => ?_
  exact Constant_none (isnot_none_gen ⟨.bl _, H1, I1, by rw [r1.none_iff]; rfl, q1⟩)
/-- a comparison as a value, as a test -/
noncomputable def tB (t : TE) : TT := fun σ H Q => t σ H fun x H1 => ∃ c, x = .bl c ∧ Q c H1
theorem pt_cmp {op : CmpOp} {t : TE} (h : PC X op a b t) (h1 : behindInMarks op b = false := by first | exact nobehind _ (by decide) (by decide) | rfl) : PT X (.Compare a [op] [b] pos) (tB t) := by
  intro pins s σ H Q I hw
  refine wpAny_isTrue_Compare1 (thn (h pins s σ H _ I hw) fun v s1 h1 => thn h1 fun u s2 h2 => thn h2 fun c s3 ⟨x, H1, I1, r1, q1⟩ => ?_) h1
  obtain ⟨d, rfl, q⟩ := q1
  cases r1
  exact wpAny_truthy_bool ⟨H1, I1, q⟩
/-- an expression whose value is a bool, as a test -/
theorem pt_val {e : Expr} {t : TE} (h : PE X e t) (he : ∀ whole, isTrue e X.env whole = (do let v ← whole; standAt e.pos; holding [v] (truthy v)) := by intro _; rfl) : PT X e (tB t) := by
  intro pins s σ H Q I hw
  refine isTrue_plain (thn (h pins s σ H _ I hw) fun v s1 ⟨x, H1, I1, r1, q1⟩ => ?_) (he _)
  obtain ⟨d, rfl, q⟩ := q1
  cases r1
  exact wpAny_truthy_bool ⟨H1, I1, q⟩

/-! ### and, or, not -/
variable {tA tB' : TT} {rest : List Expr}
noncomputable def tAnd (t u : TT) : TT := fun σ H Q => t σ H fun c H1 => if c = true then u σ H1 Q else Q false H1
noncomputable def tOr (t u : TT) : TT := fun σ H Q => t σ H fun c H1 => if c = true then Q true H1 else u σ H1 Q
theorem pw_and1 (ha : PT X a tA) : PW X (.BoolOp .And [a] pos) tA := by
  intro wh pins s σ H Q I h
  refine isTrue_and (thn (ha pins s σ H Q I h) fun c s1 e => ?_)
  cases c with
  | true => exact isTrue_and_nil e
  | false => exact e
theorem pw_or1 (ha : PT X a tA) : PW X (.BoolOp .Or [a] pos) tA := by
  intro wh pins s σ H Q I h
  refine isTrue_or (thn (ha pins s σ H Q I h) fun c s1 e => ?_)
  cases c with
  | false => exact isTrue_or_nil e
  | true => exact e
theorem pw_and (ha : PT X a tA) (hb : PW X (.BoolOp .And (b :: rest) pos) tB') : PW X (.BoolOp .And (a :: b :: rest) pos) (tAnd tA tB') := by
  intro wh pins s σ H Q I h
  refine isTrue_and (thn (ha pins s σ H _ I h) fun c s1 ⟨H1, I1, q1⟩ => ?_)
  cases c with
  | true => exact hb wh pins s1 σ H1 Q I1 q1
  | false => exact ⟨H1, I1, q1⟩
theorem pw_or (ha : PT X a tA) (hb : PW X (.BoolOp .Or (b :: rest) pos) tB') : PW X (.BoolOp .Or (a :: b :: rest) pos) (tOr tA tB') := by
  intro wh pins s σ H Q I h
  refine isTrue_or (thn (ha pins s σ H _ I h) fun c s1 ⟨H1, I1, q1⟩ => ?_)
  cases c with
  | true => exact ⟨H1, I1, q1⟩
  | false => exact hb wh pins s1 σ H1 Q I1 q1
/-- .. as values (bools) -/
noncomputable def tAndV (ta tb : TE) : TE := fun σ H Q => ta σ H fun x H1 => ∃ c, x = .bl c ∧ if c = true then tb σ H1 Q else Q (.bl false) H1
theorem pe_one {op} {t : TE} (h : PE X a t) : PE X (.BoolOp op [a] pos) t := fun pins s σ H Q I hw => BoolOp_one (h pins s σ H Q I hw)
theorem pe_and (ha : PE X a ta) (hb : PE X (.BoolOp .And (b :: rest) pos) tb) : PE X (.BoolOp .And (a :: b :: rest) pos) (tAndV ta tb) := by
  intro pins s σ H Q I h
  refine BoolOp_and (thn (ha pins s σ H _ I h) fun v s1 ⟨x, H1, I1, r1, q1⟩ => ?_)
  obtain ⟨c, rfl, q1⟩ := q1
  cases r1
  refine wpAny_truthy_bool ?_
  cases c with
  | true => exact hb pins s1 σ H1 Q I1 q1
  | false => exact ⟨.bl false, H1, I1, rfl, q1⟩
end
end L2

namespace L2
open PySem PySem.Spec PyProof.Rows

/-! ### a list, a tuple that is read: tracked, frozen, or an object of the module -/
noncomputable def SqL (K : PySem.W.Frag) (H : Hp) (a : Addr) (xs : List V) : Prop :=
  Rd H a (.lst xs) ∨
    ∃ (o : Obj) (its : Array Value) (n : Nat), K.lookup a = some o ∧ o.cls = .type "list" ∧ o.dict = none ∧ o.data = .seq its n ∧ its.size ≤ sizeLine ∧ Vals xs its.toList
noncomputable def SqT (K : PySem.W.Frag) (H : Hp) (a : Addr) (xs : List V) : Prop :=
  Rd H a (.tup xs) ∨
    ∃ (o : Obj) (its : Array Value) (n : Nat), K.lookup a = some o ∧ o.cls = .type "tuple" ∧ o.data = .seq its n ∧ its.size ≤ sizeLine ∧ Vals xs its.toList
noncomputable def absV : Value → Option V
  | .none => some .non
  | .bool b => some (.bl b)
  | .int i _ => some (.int i)
  | .str x _ => some (.str x)
  | .bytes b _ => some (.byt b)
  | .float b _ => some (.flt b)
  | .ref a => some (.ref a)
  | .type n => some (.ty n)
  | _ => none
theorem RelV.abs {x : V} {u : Value} (r : RelV x u) : absV u = some x := by
  cases x with
  | non => cases r; rfl
  | bl _ => cases r; rfl
  | int _ => obtain ⟨t, rfl⟩ := r; rfl
  | str _ => obtain ⟨t, rfl⟩ := r; rfl
  | byt _ => obtain ⟨t, rfl⟩ := r; rfl
  | flt _ => obtain ⟨t, rfl⟩ := r; rfl
  | ref _ => cases r; rfl
  | ty _ => cases r; rfl
theorem RelV.inj {x y : V} {u : Value} (r : RelV x u) (q : RelV y u) : x = y := Option.some.inj (r.abs.symm.trans q.abs)
theorem Vals.inj : ∀ {xs ys : List V} {us : List Value}, Vals xs us → Vals ys us → xs = ys
  | _, _, _, .nil, .nil => rfl
  | _, _, _, .cons r t, .cons r' t' => by rw [r.inj r', Vals.inj t t']
section
variable {X : Cx} {pins : List (Addr × Obj)} {σ : St} {H : Hp} {s : Shared} {a : Addr} {xs ys : List V}
theorem SqL.of {K : PySem.W.Frag} (h : H a = some (.lst xs)) : SqL K H a xs := .inl (.inl h)
theorem SqT.of {K : PySem.W.Frag} (h : H a = some (.tup xs)) : SqT K H a xs := .inl (.inl h)
theorem Inv.list (I : Inv X pins σ H s) (h : SqL X.K H a xs) : ∃ its : List Value, Vals xs its ∧ PlainL s.heap a its.toArray ∧ xs.length ≤ sizeLine := by
  rcases h with h | ⟨o, its, n, hk, hc, hd, hs, hz, r⟩
  · obtain ⟨z, its, n, r, e⟩ := h.ok I.hok
    exact ⟨its, r, ⟨_, n, e, rfl, rfl, rfl⟩, z⟩
  · refine ⟨its.toList, r, ⟨o, n, I.kIn a o hk, hc, hd, by simpa using hs⟩, ?_⟩
    have e := r.length
    simp only [Array.length_toList] at e
    exact OmL.om0 hz e
theorem Inv.tuple (I : Inv X pins σ H s) (h : SqT X.K H a xs) : ∃ its : List Value, Vals xs its ∧ IsTup s.heap a its.toArray ∧ xs.length ≤ sizeLine := by
  rcases h with h | ⟨o, its, n, hk, hc, hs, hz, r⟩
  · obtain ⟨z, its, r, p⟩ := h.ok I.hok
    exact ⟨its, r, p, z⟩
  · refine ⟨its.toList, r, ⟨o, I.kIn a o hk, hc, n, by simpa using hs⟩, ?_⟩
    have e := r.length
    simp only [Array.length_toList] at e
    exact OmL.om0 hz e
theorem Inv.list_inj (I : Inv X pins σ H s) (h : SqL X.K H a xs) (h' : SqL X.K H a ys) : xs = ys := by
  obtain ⟨its, r, ⟨o, n, e, _, _, d⟩, _⟩ := I.list h
  obtain ⟨its', r', ⟨o', n', e', _, _, d'⟩, _⟩ := I.list h'
  rw [e] at e'; cases e'
  rw [d] at d'
  injection d' with d1 _
  have : its = its' := by simpa using congrArg Array.toList d1
  subst this
  exact r.inj r'
theorem Inv.tuple_inj (I : Inv X pins σ H s) (h : SqT X.K H a xs) (h' : SqT X.K H a ys) : xs = ys := by
  obtain ⟨its, r, ⟨o, e, _, n, d⟩, _⟩ := I.tuple h
  obtain ⟨its', r', ⟨o', e', _, n', d'⟩, _⟩ := I.tuple h'
  rw [e] at e'; cases e'
  rw [d] at d'
  injection d' with d1 _
  have : its = its' := by simpa using congrArg Array.toList d1
  subst this
  exact r.inj r'
end

/-! ### another wish about exceptions -/
noncomputable abbrev Cx.wish (X : Cx) (E : Value → Shared → Prop) : Cx := { X with xe := E }
/-- no exception leaves -/
noncomputable abbrev Cx.nox (X : Cx) : Cx := X.wish fun _ _ => False
theorem Cx.Ok.wish {X : Cx} (ok : X.Ok) (E : Value → Shared → Prop) : (X.wish E).Ok :=
  ⟨ok.mod, ok.kind, ok.glob, ok.blt, ok.above, ok.inj, ok.has, ok.cab, ok.hd, ok.frames, ok.stk, ok.exf, ok.bs, ok.bsz, ok.noex, ok.exfs, ok.funs, ok.frf⟩
theorem Cx.Ok.unwish {X : Cx} {E : Value → Shared → Prop} (ok : (X.wish E).Ok) : X.Ok :=
  ⟨ok.mod, ok.kind, ok.glob, ok.blt, ok.above, ok.inj, ok.has, ok.cab, ok.hd, ok.frames, ok.stk, ok.exf, ok.bs, ok.bsz, ok.noex, ok.exfs, ok.funs, ok.frf⟩
section
variable {X : Cx} {pins : List (Addr × Obj)} {σ : St} {H : Hp} {s : Shared} {E : Value → Shared → Prop}
theorem Inv.wish (I : Inv X pins σ H s) (E : Value → Shared → Prop) : Inv (X.wish E) pins σ H s := ⟨I.ok.wish E, I.os, I.bare, I.base, I.loc, I.cell, I.free, I.freeC, I.pin, I.hok, I.len⟩
theorem Inv.unwish (I : Inv (X.wish E) pins σ H s) : Inv X pins σ H s := ⟨I.ok.unwish, I.os, I.bare, I.base, I.loc, I.cell, I.free, I.freeC, I.pin, I.hok, I.len⟩
theorem SP.unwish {D : Ends} {f : Flow} {s' : Shared} (h : SP (X.wish E) pins D f s') : SP X pins D f s' := by
  cases f with
  | next => obtain ⟨σ', H', I, q⟩ := h; exact ⟨σ', H', I.unwish, q⟩
  | brk => obtain ⟨σ', H', I, q⟩ := h; exact ⟨σ', H', I.unwish, q⟩
  | cont => obtain ⟨σ', H', I, q⟩ := h; exact ⟨σ', H', I.unwish, q⟩
  | ret u => obtain ⟨v, σ', H', I, r, q⟩ := h; exact ⟨v, σ', H', I.unwish, r, q⟩
theorem PSs.nox {st : List Stmt} {t : TS} (h : PSs X.nox st t) : PSs X st t := fun pins s σ H D I hw =>
  wpAny_mono (h pins s σ H D (I.wish _) hw) (fun _ _ q => q.unwish) fun _ _ z => False.elim z
end

/-! ### blocks and small statements -/
section
variable {X : Cx} {st : Stmt} {rest : List Stmt} {t u : TS} {e : Expr} {te : TE} {pos : Pos}
noncomputable def tNext : TS := fun D σ H => D.nx σ H
noncomputable def tSeq (t u : TS) : TS := fun D σ H => t { D with nx := u D } σ H
theorem pss_nil : PSs X [] tNext := fun _ _ σ H _ I h => wpAny_execs_nil ⟨σ, H, I, h⟩
theorem pss_cons (h1 : PS X st t) (h2 : PSs X rest u) : PSs X (st :: rest) (tSeq t u) := by
  intro pins s σ H D I h
  refine wpAny_execs_cons (thn (h1 pins s σ H { D with nx := u D } I h) fun f s1 q => ?_)
  cases f with
  | next =>
    obtain ⟨σ', H', I', q⟩ := q
    exact h2 pins s1 σ' H' D I' q
  | ret v => exact q
  | brk => exact q
  | cont => exact q
theorem pss_one (h1 : PS X st t) : PSs X [st] t := by
  intro pins s σ H D I h
  refine wpAny_execs_cons (thn (h1 pins s σ H D I h) fun f s1 q => ?_)
  cases f with
  | next => exact wpAny_execs_nil q
  | ret v => exact q
  | brk => exact q
  | cont => exact q
/-- in a def's body nothing is shown -/
theorem Inv.quiet {pins : List (Addr × Obj)} {σ : St} {H : Hp} {s : Shared} (I : Inv X pins σ H s) : interactive X.env = false := by simp [interactive, I.ok.kind]
/-- an expression whose value is dropped -/
noncomputable def tDrop (te : TE) : TS := fun D σ H => te σ H fun _ H1 => D.nx σ H1
theorem ps_expr (he : PE X e te) (hs : swapsWith e none pos.line X.env = pure false := by rfl) : PS X (.Expr e pos) (tDrop te) := by
  intro pins s σ H D I h
  exact wpAny_Expr_any (thn (he pins s σ H _ I h) fun v s1 ⟨x, H1, I1, r1, q1⟩ => ⟨σ, H1, I1, q1⟩) I.quiet hs
noncomputable def tRet (te : TE) : TS := fun D σ H => te σ H D.rt
theorem ps_ret (he : PE X e te) : PS X (.Return (some e) pos) (tRet te) := by
  intro pins s σ H D I h
  exact wpAny_Return_some (thn (he pins s σ H _ I h) fun v s1 ⟨x, H1, I1, r1, q1⟩ => ⟨x, σ, H1, I1, r1, q1⟩)
noncomputable def tIfS (c : TT) (t u : TS) : TS := fun D σ H => c σ H fun b H1 => if b = true then t D σ H1 else u D σ H1
theorem ps_if {c : Expr} {a b : List Stmt} {tc : TT} (hc : PT X c tc) (ha : PSs X a t) (hb : PSs X b u) : PS X (.If c a b pos) (tIfS tc t u) := by
  intro pins s σ H D I h
  refine wpAny_If (thn (hc pins s σ H _ I h) fun d s1 ⟨H1, I1, q1⟩ => ?_)
  cases d with
  | true => exact ha pins s1 σ H1 D I1 q1
  | false => exact hb pins s1 σ H1 D I1 q1
end

/-! ### targets -/
noncomputable abbrev TG := V → St → Hp → (St → Hp → Prop) → Prop
noncomputable abbrev TGs := List V → St → Hp → (St → Hp → Prop) → Prop
noncomputable def PG (X : Cx) (target : Expr) (t : TG) : Prop :=
  ∀ (pins : List (Addr × Obj)) (s : Shared) (σ : St) (H : Hp) (v : V) (u : Value) (Q : St → Hp → Prop), Inv X pins σ H s → RelV v u → t v σ H Q →
    wpAny (model X.prog X.w) X.A (assign target X.env u) (fun _ s' => ∃ σ' H', Inv X pins σ' H' s' ∧ Q σ' H') X.xe s
/-- several targets, one after another -/
noncomputable def PGs (X : Cx) (ts : List Expr) (t : TGs) : Prop :=
  ∀ (pins : List (Addr × Obj)) (s : Shared) (σ : St) (H : Hp) (vs : List V) (us : List Value) (Q : St → Hp → Prop), Inv X pins σ H s → Vals vs us → t vs σ H Q →
    wpAny (model X.prog X.w) X.A (assignInOrder ((assignEach ts X.env).map (·.2)) us) (fun _ s' => ∃ σ' H', Inv X pins σ' H' s' ∧ Q σ' H') X.xe s
/-- o[i] = v, by values -/
noncomputable abbrev TSet := V → V → V → Hp → (Hp → Prop) → Prop
noncomputable def PSet (X : Cx) (t : TSet) : Prop :=
  ∀ (pins : List (Addr × Obj)) (s : Shared) (σ : St) (H : Hp) (o i v : V) (ov iv u : Value) (Q : Hp → Prop), Inv X pins σ H s → RelV o ov → RelV i iv → RelV v u → t o i v H Q →
    wpAny (model X.prog X.w) X.A (setItem ov iv u) (fun _ s' => ∃ H', Inv X pins σ H' s' ∧ Q H') X.xe s
section
variable {X : Cx} {pos : Pos}
noncomputable def gName (i : Nat) : TG := fun v σ H Q => Q (σ.set i (some v)) H
theorem pg_name {i : Nat} {x : Str} (hN : X.N.Nodup) (hi : X.N[i]? = some x) (hx : Loc X.env.scope x) (hf : X.fn x = true ∨ X.env.scope.names.lookup x = some .local := by first | exact .inl rfl | exact .inr rfl | assumption) : PG X (.Name x pos) (gName i) := by
  intro pins s σ H v u Q I r h
  exact wpAny_assign_Name (store_ok I hN hi hx r (fun s' I' => ⟨_, H, I', h⟩) hf)
noncomputable def gNil : TGs := fun vs σ H Q => vs = [] ∧ Q σ H
noncomputable def gCons (t : TG) (u : TGs) : TGs := fun vs σ H Q => ∃ v r, vs = v :: r ∧ t v σ H fun σ' H' => u r σ' H' Q
theorem pgs_nil : PGs X [] gNil := by
  intro pins s σ H vs us Q I r h
  obtain ⟨e, h⟩ := h
  subst e
  cases r
  exact assignInOrder_nil ⟨σ, H, I, h⟩
theorem pgs_cons {e : Expr} {es : List Expr} {t : TG} {u : TGs} (h1 : PG X e t) (h2 : PGs X es u)
    (hs : (assignEach (e :: es) X.env).map (·.2) = assign e X.env :: (assignEach es X.env).map (·.2) := by rfl) : PGs X (e :: es) (gCons t u) := by
  intro pins s σ H vs us Q I r h
  obtain ⟨v, vr, e1, h⟩ := h
  subst e1
  cases r with
  | cons r rr =>
    rw [hs]
    refine assignInOrder_cons (thn (h1 pins s σ H _ _ _ I r h) fun _ s1 ⟨σ1, H1, I1, q1⟩ => ?_)
    exact h2 pins s1 σ1 H1 _ _ Q I1 rr q1
/-- (a, b, ..) = a tuple of that length -/
noncomputable def gTup (K : PySem.W.Frag) (n : Nat) (t : TGs) : TG := fun v σ H Q => ∃ a xs, v = .ref a ∧ SqT K H a xs ∧ xs.length = n ∧ t xs σ H Q
theorem pg_tup {es : List Expr} {k : Nat} {t : TGs} {n : Nat} (hc : X.calm = true) (h : PGs X es t)
    (hn : (assignEach es X.env).length = n := by rfl) (hst : (assignEach es X.env).findIdx? (·.1) = none := by rfl) : PG X (.Tuple es k pos) (gTup X.K n t) := by
  intro pins s σ H v u Q I r hw
  obtain ⟨a, xs, e1, hq, hl, hw⟩ := hw
  subst e1
  cases r
  obtain ⟨its, rv, ht, hz⟩ := I.tuple hq
  refine assign_Tuple_tuple (I.ok.hd hc) ht (by simp [hn, ← hl, rv.length]) hst fun h' hx => ?_
  have I1 : Inv X pins σ H { s with heap := h' } := I.kept (t' := s.toks) fun b o e => hx b o (Nat.ne_of_lt (Heap.lt_size e)) e
  exact h pins _ σ H xs _ Q I1 (by simpa using rv) hw
/-- o[i] = .. -/
noncomputable def gSub (to ti : TE) (t : TSet) : TG := fun v σ H Q => to σ H fun o H1 => ti σ H1 fun i H2 => t o i v H2 fun H3 => Q σ H3
theorem pg_sub {o i : Expr} {to ti : TE} {t : TSet} (ho : PE X o to) (hi : PE X i ti) (hs : PSet X t)
    (ha : ∀ v, assign (.Subscript o i pos) X.env v = (do
      let ov ← holding [v] (eval o X.env)
      let iv ← holding [v, ov] (eval i X.env)
      standAt pos
      holding [v, ov, iv] (setItem ov iv v)
      release [v, ov, iv] []) := by intro _; rfl) : PG X (.Subscript o i pos) (gSub to ti t) := by
  intro pins s σ H v u Q I r h
  rw [ha]
  refine wpAny_bind (wpAny_holding (thn (ho pins s σ H _ I h) fun ov s1 ⟨x, H1, I1, r1, q1⟩ => ?_))
  refine wpAny_bind (wpAny_holding (thn (hi pins s1 σ H1 _ I1 q1) fun iv s2 ⟨y, H2, I2, r2, q2⟩ => ?_))
  refine wpAny_bind (wpAny_standAt (wpAny_bind (wpAny_holding (thn (hs pins s2 σ H2 x y v ov iv u _ I2 r1 r2 r q2) fun _ s3 ⟨H3, I3, q3⟩ => ?_))))
  exact wpAny_release ⟨σ, H3, I3, q3⟩
/-- target = value -/
noncomputable def tAsg (te : TE) (g : TG) : TS := fun D σ H => te σ H fun x H1 => g x σ H1 D.nx
theorem ps_asg {tg e : Expr} {te : TE} {g : TG} (he : PE X e te) (hg : PG X tg g) (hs : swapsWithSole [tg] e pos.line X.env = pure false := by rfl) (hw : swappedStores [tg] e X.env = pure none := by rfl)
    (h1 : (assignEach [tg] X.env).map (·.2) = [assign tg X.env] := by rfl) : PS X (.Assign [tg] e pos) (tAsg te g) := by
  intro pins s σ H D I h
  refine wpAny_Assign_stores (thn (he pins s σ H _ I h) fun v s1 ⟨x, H1, I1, r1, q1⟩ => ?_) hs hw
  rw [h1]
  exact thn (hg pins s1 σ H1 x v _ I1 r1 q1) fun _ s2 q => q
/-- name = value -/
theorem ps_set {i : Nat} {x : Str} {e : Expr} {te : TE} {pos' : Pos} (hN : X.N.Nodup) (hi : X.N[i]? = some x) (hx : Loc X.env.scope x) (he : PE X e te) (hs : swapsWith e (some (.Name x pos')) pos.line X.env = pure false := by rfl) (hf : X.fn x = true ∨ X.env.scope.names.lookup x = some .local := by first | exact .inl rfl | exact .inr rfl | assumption) :
    PS X (.Assign [.Name x pos'] e pos) (tAsg te (gName i)) := by
  intro pins s σ H D I h
  refine wpAny_Assign_Name (thn (he pins s σ H _ I h) fun v s1 ⟨y, H1, I1, r1, q1⟩ => ?_) hs
  exact store_ok I1 hN hi hx r1 (fun s2 I2 => ⟨_, H1, I2, q1⟩) hf
end

/-! ### while -/
section
variable {X : Cx} {pos : Pos}
/-- the invariant W with its measure -/
noncomputable def tWhile (c : TT) (tb : TS) : TS := fun D σ H => ∃ W : Nat → St → Hp → Prop, (∃ m, W m σ H) ∧ ∀ m σ H, W m σ H →
  c σ H fun b H1 => if b = true then ∃ N : St → Hp → Prop, (∀ σ' H', N σ' H' → ∃ m', m' < m ∧ W m' σ' H') ∧ tb { D with nx := N, ct := N, bk := D.nx } σ H1 else D.nx σ H1
theorem ps_while {c : Expr} {body : List Stmt} {tc : TT} {tb : TS} (hp : PassesOwn (model X.prog X.w) X.A X.env X.xe) (hc : PT X c tc) (hb : PSs X body tb) : PS X (.While c body [] pos) (tWhile tc tb) := by
  intro pins s σ H D I h
  obtain ⟨W, ⟨m0, w0⟩, turn⟩ := h
  refine wpAny_While (codeAny_whileLoop (fun n s' => ∃ σ' H', Inv X pins σ' H' s' ∧ W n σ' H') ?_ m0 ⟨σ, H, I, w0⟩)
  rintro n s1 ⟨σ1, H1, I1, w1⟩
  refine wpAny_passesOwn hp (thn (hc pins s1 σ1 H1 _ I1 (turn n σ1 H1 w1)) fun b s2 ⟨H2, I2, q2⟩ => ?_)
  cases b with
  | true =>
    obtain ⟨N, hN, q2⟩ := q2
    rw [if_pos rfl]
    refine wpAny_passesOwn hp (thn (hb pins s2 σ1 H2 _ I2 q2) fun f s3 q3 => ?_)
    cases f with
    | next =>
      obtain ⟨σ3, H3, I3, n3⟩ := q3
      obtain ⟨m', hm, w3⟩ := hN σ3 H3 n3
      exact ⟨m', hm, σ3, H3, I3, w3⟩
    | cont =>
      obtain ⟨σ3, H3, I3, n3⟩ := q3
      obtain ⟨m', hm, w3⟩ := hN σ3 H3 n3
      exact ⟨m', hm, σ3, H3, I3, w3⟩
    | brk => exact q3
    | ret v => exact q3
  | false =>
    rw [if_neg Bool.false_ne_true]
    exact wpAny_execs_nil ⟨σ1, H2, I2, q2⟩
end

/-! ### what a loop or a comprehension walks -/
/-- at turn i: it yields x (the heap may grow), or it stops -/
structure It where
  go : Nat → Hp → Prop
  yld : Nat → Hp → V → Hp → Prop
  stop : Nat → Hp → Prop
/-- the iterator's own objects may turn: they are not the frame's, not pinned, younger than the entry (or a comprehension's own) -/
noncomputable def FpOk (X : Cx) (pins : List (Addr × Obj)) (H : Hp) (b : Addr) : Prop :=
  H b = none ∧ b ≠ X.env.locals ∧ b ∉ X.fs ∧ (b ∈ X.ex ∨ X.s₀.heap.objs.size ≤ b) ∧ (∀ x c, X.env.cells.lookup x = some c → c ≠ b) ∧ ∀ p ∈ X.pn ++ pins, p.1 ≠ b
theorem Inv.fpOk {X : Cx} {pins : List (Addr × Obj)} {σ : St} {H H' : Hp} {s : Shared} {b : Addr} (I : Inv X pins σ H s) (hb : s.heap.objs.size ≤ b) (hn : H' b = none) : FpOk X pins H' b := by
  refine ⟨hn, Nat.ne_of_gt (Nat.lt_of_lt_of_le I.lt hb), I.nofs hb, .inr (Nat.le_trans I.sz hb), fun x c e z => ?_, fun p hp z => ?_⟩
  · obtain ⟨v, q⟩ := I.cell x c e
    exact absurd (Nat.lt_of_lt_of_le q.lt (by rw [z]; exact hb)) (Nat.lt_irrefl _)
  · exact absurd (Nat.lt_of_lt_of_le (Heap.lt_size (I.pin p hp).1) (by rw [z]; exact hb)) (Nat.lt_irrefl _)
structure Turn (P : Program) (w : World) (K : PySem.W.Frag) (tg : Expr) (J : It) (fp : List Addr) (it : Addr) (tn : Nat → Heap → Prop) : Prop where
  mem : it ∈ fp
  obj : ∀ i h, tn i h → ∀ b ∈ fp, ∃ o, h.get? b = some o ∧ ∀ v, o.data ≠ .cell v
  keep : ∀ i h h', tn i h → (∀ b ∈ fp, ∀ o, h.get? b = some o → h'.get? b = some o) → tn i h'
  item : ∀ (X : Cx), X.prog = P → X.w = w → X.K = K → X.calm = true → ∀ (i : Nat) (pins : List (Addr × Obj)) (s : Shared) (σ : St) (H : Hp) (E : Value → Shared → Prop), Inv X pins σ H s → (∀ b ∈ fp, FpOk X pins H b) → tn i s.heap → J.go i H →
    wpAny (model P w) X.A (pyNext (.ref it)) (fun r s1 => ∃ u, r = some u ∧
      wpAny (model P w) X.A (letOwnedTupleGo tg (.ref it) u) (fun _ s2 => ∃ x H', Inv X pins σ H' s2 ∧ RelV x u ∧ J.yld i H x H' ∧ tn (i + 1) s2.heap ∧ ∀ b ∈ fp, H' b = none) E s1) E s
  done : ∀ (X : Cx), X.prog = P → X.w = w → X.K = K → X.calm = true → ∀ (i : Nat) (pins : List (Addr × Obj)) (s : Shared) (σ : St) (H : Hp) (E : Value → Shared → Prop), Inv X pins σ H s → (∀ b ∈ fp, FpOk X pins H b) → tn i s.heap → J.stop i H →
    wpAny (model P w) X.A (pyNext (.ref it)) (fun r s1 => r = none ∧ Inv X pins σ H s1) E s
  self : ∀ (A : Around) (i : Nat) (s : Shared) (Q : Value → Shared → Prop) (E : Value → Shared → Prop), tn i s.heap → Q (.ref it) s → wpAny (model P w) A (pyIter (.ref it)) Q E s
noncomputable abbrev TI := St → Hp → (It → Hp → Prop) → Prop
/-- an iterator has come -/
noncomputable def PIE (X : Cx) (pins : List (Addr × Obj)) (σ : St) (tg : Expr) (R : It → Hp → Prop) (itv : Value) (s2 : Shared) : Prop :=
  ∃ (it : Addr) (fp : List Addr) (tn : Nat → Heap → Prop) (J : It) (H' : Hp), itv = .ref it ∧ Inv X pins σ H' s2 ∧ Turn X.prog X.w X.K tg J fp it tn ∧ tn 0 s2.heap ∧ (∀ b ∈ fp, FpOk X pins H' b) ∧ R J H'
noncomputable def PI (X : Cx) (tg iter : Expr) (wi : TI) : Prop :=
  ∀ (pins : List (Addr × Obj)) (s : Shared) (σ : St) (H : Hp) (R : It → Hp → Prop), Inv X pins σ H s → wi σ H R →
    wpAny (model X.prog X.w) X.A (eval iter X.env) (fun v s1 => wpAny (model X.prog X.w) X.A (pyIter v) (PIE X pins σ tg R) X.xe s1) X.xe s

/-- the step ahead of the store is nothing for an iterator that keeps no tuple -/
theorem go_of {M : Model} {A : Around} {E : Value → Shared → Prop} {s : Shared} {tg : Expr} {it : Addr} {u : Value} {o : Obj} {n : String} {vs : Array Value} {Q : Unit → Shared → Prop} (ho : s.heap.get? it = some o) (hc : o.cls = .type n) (hd : o.data = .fields vs)
    (hn : ["enumerate", "zip", "dict_itemiterator", "dict_reverseitemiterator", "odict_iterator", "itertools.zip_longest", "itertools.pairwise"].contains n = false) (hQ : Q () s) : wpAny M A (letOwnedTupleGo tg (.ref it) u) Q E s := by
  unfold letOwnedTupleGo
  cases tg <;> first
    | exact wpAny_pure hQ
    | (cases u <;> first
        | exact wpAny_pure hQ
        | (refine wpAny_bind (wpAny_load ho ?_)
           rw [hc, hd]
           show wpAny M A (if (["enumerate", "zip", "dict_itemiterator", "dict_reverseitemiterator", "odict_iterator", "itertools.zip_longest", "itertools.pairwise"].contains n && vs[0]? == some (rawInt _)) = true then _ else _) Q E s
           rw [if_neg (by intro h; rw [hn, Bool.false_and] at h; cases h)]
           exact wpAny_pure hQ))

/-- the list at a, as it stands at each turn (a loop may append to it) -/
noncomputable def Itl (K : PySem.W.Frag) (a : Addr) : It :=
  ⟨fun i H => ∃ xs x, SqL K H a xs ∧ xs[i]? = some x, fun i H x H' => H' = H ∧ ∀ xs, SqL K H a xs → xs[i]? = some x, fun i H => ∃ xs, SqL K H a xs ∧ xs.length ≤ i⟩
noncomputable def Itt (K : PySem.W.Frag) (a : Addr) : It :=
  ⟨fun i H => ∃ xs x, SqT K H a xs ∧ xs[i]? = some x, fun i H x H' => H' = H ∧ ∀ xs, SqT K H a xs → xs[i]? = some x, fun i H => ∃ xs, SqT K H a xs ∧ xs.length ≤ i⟩
/-- lo, lo + 1, .. (n of them) -/
noncomputable def Itr (lo : Int) (n : Nat) : It := ⟨fun i _ => i < n, fun i H x H' => H' = H ∧ x = .int (lo + i), fun i _ => n ≤ i⟩
theorem turn_list {P : Program} {w : World} {K : PySem.W.Frag} {tg : Expr} (a it : Addr) : Turn P w K tg (Itl K a) [it] it (fun i h => h.IsListIter it a i) where
  mem := by simp
  obj := fun i h st b hb => by
    have e : b = it := by simpa using hb
    subst e
    obtain ⟨o, e, c, d⟩ := st
    exact ⟨o, e, fun v z => by rw [d] at z; cases z⟩
  keep := fun i h h' st k => st.at fun o e => k it (by simp) o e
  item := by
    intro X hP hw hK hc i pins s σ H E I hf st hg
    subst hP hw hK
    obtain ⟨xs, x, hq, hx⟩ := hg
    obtain ⟨its, rv, p, hz⟩ := I.list hq
    obtain ⟨u, hu, ru⟩ := rv.get hx
    obtain ⟨f0, f1, f2, f3, f4, f5⟩ := hf it (by simp)
    refine wpAny_pyNext_list_item st p.isList (x := u) (by simpa using hu) fun h' st' sb => ?_
    have I1 : Inv X pins σ H { s with heap := h' } := I.turned (t' := s.toks) (fun b o hb e => (sb.2 b hb).trans e) f0 f1 f3 f4 f5
    obtain ⟨o, e, c, d⟩ := id st'
    exact ⟨u, rfl, go_of (s := { s with heap := h' }) e c d (by decide) ⟨x, H, I1, ru, ⟨rfl, fun ys hy => by rw [I.list_inj hy hq]; exact hx⟩, st', fun b hb => (hf b hb).1⟩⟩
  done := by
    intro X hP hw hK hc i pins s σ H E I hf st hg
    subst hP hw hK
    obtain ⟨xs, hq, hx⟩ := hg
    obtain ⟨its, rv, p, hz⟩ := I.list hq
    obtain ⟨f0, f1, f2, f3, f4, f5⟩ := hf it (by simp)
    have hl := rv.length
    exact wpAny_pyNext_list_end (I.ok.hd hc) st p.isList (by simp; exact OmL.om1 hx hl) fun h' eb => ⟨rfl, I.turned (t' := s.toks) (fun b o hb e => eb b o hb e) f0 f1 f3 f4 f5⟩
  self := fun _ _ _ _ _ st h => wpAny_pyIter_listiter st h
theorem turn_tuple {P : Program} {w : World} {K : PySem.W.Frag} {tg : Expr} (a it : Addr) : Turn P w K tg (Itt K a) [it] it (fun i h => h.IsTupleIter it a i) where
  mem := by simp
  obj := fun i h st b hb => by
    have e : b = it := by simpa using hb
    subst e
    obtain ⟨o, e, c, d⟩ := st
    exact ⟨o, e, fun v z => by rw [d] at z; cases z⟩
  keep := fun i h h' st k => st.at fun o e => k it (by simp) o e
  item := by
    intro X hP hw hK hc i pins s σ H E I hf st hg
    subst hP hw hK
    obtain ⟨xs, x, hq, hx⟩ := hg
    obtain ⟨its, rv, p, hz⟩ := I.tuple hq
    obtain ⟨u, hu, ru⟩ := rv.get hx
    obtain ⟨f0, f1, f2, f3, f4, f5⟩ := hf it (by simp)
    refine wpAny_pyNext_tuple_item st (show s.heap.IsTuple a its.toArray from p) (x := u) (by simpa using hu) fun h' st' sb => ?_
    have I1 : Inv X pins σ H { s with heap := h' } := I.turned (t' := s.toks) (fun b o hb e => (sb.2 b hb).trans e) f0 f1 f3 f4 f5
    obtain ⟨o, e, c, d⟩ := id st'
    exact ⟨u, rfl, go_of (s := { s with heap := h' }) e c d (by decide) ⟨x, H, I1, ru, ⟨rfl, fun ys hy => by rw [I.tuple_inj hy hq]; exact hx⟩, st', fun b hb => (hf b hb).1⟩⟩
  done := by
    intro X hP hw hK hc i pins s σ H E I hf st hg
    subst hP hw hK
    obtain ⟨xs, hq, hx⟩ := hg
    obtain ⟨its, rv, p, hz⟩ := I.tuple hq
    obtain ⟨f0, f1, f2, f3, f4, f5⟩ := hf it (by simp)
    have hl := rv.length
    exact wpAny_pyNext_tuple_end (I.ok.hd hc) st (show s.heap.IsTuple a its.toArray from p) (by simp; exact OmL.om1 hx hl) fun h' eb => ⟨rfl, I.turned (t' := s.toks) (fun b o hb e => eb b o hb e) f0 f1 f3 f4 f5⟩
  self := fun _ _ _ _ _ st h => wpAny_pyIter_tupleiter st h
theorem turn_range {P : Program} {w : World} {K : PySem.W.Frag} {tg : Expr} (it : Addr) (lo : Int) (n : Nat) : Turn P w K tg (Itr lo n) [it] it (fun i h => IsRangeIter h it (lo + (i : Nat) * 1) ((n : Int) - (i : Nat)) 1) where
  mem := by simp
  obj := fun i h st b hb => by
    have e : b = it := by simpa using hb
    subst e
    exact ⟨_, st, fun v z => by
      have z' : Data.fields _ = Data.cell v := z
      cases z'⟩
  keep := fun i h h' st k => k it (by simp) _ st
  item := by
    intro X hP hw hK hc i pins s σ H E I hf st hg
    subst hP hw hK
    obtain ⟨f0, f1, f2, f3, f4, f5⟩ := hf it (by simp)
    have W := Walks.range (prog := X.prog) (w := X.w) (I.ok.hd hc) it lo 1 n
    refine W.item i s _ _ hg st fun v h' tk hv st' kk => ?_
    obtain ⟨t, rfl⟩ := hv
    have I1 : Inv X pins σ H { s with heap := h', toks := tk } := I.turned (fun b o hb e => kk b o (by simpa using hb) e) f0 f1 f3 f4 f5
    refine ⟨_, rfl, go_of (s := { s with heap := h', toks := tk }) (n := "range_iterator") st' rfl rfl (by decide) ⟨.int (lo + i), H, I1, ⟨t, ?_⟩, ⟨rfl, rfl⟩, st', fun b hb => (hf b hb).1⟩⟩
    rw [Int.mul_one]
  done := by
    intro X hP hw hK hc i pins s σ H E I hf st hg
    subst hP hw hK
    obtain ⟨f0, f1, f2, f3, f4, f5⟩ := hf it (by simp)
    exact wpAny_pyNext_range_end (I.ok.hd hc) st (by have : n ≤ i := hg; exact OmL.om2 this) fun h' eb => ⟨rfl, I.turned (t' := s.toks) (fun b o hb e => eb b o hb e) f0 f1 f3 f4 f5⟩
  self := fun _ _ _ _ _ st h => wpAny_pyIter_rangeiter st h
end L2

namespace L2
open PySem PySem.Spec PyProof.Rows
section
variable {X : Cx} {tg : Expr}
noncomputable def iList (K : PySem.W.Frag) (tl : TE) : TI := fun σ H R => tl σ H fun x H1 => ∃ a, x = .ref a ∧ (∃ xs, SqL K H1 a xs) ∧ R (Itl K a) H1
/-- a range object just made, walked -/
theorem range_it {pins : List (Addr × Obj)} {σ : St} {H : Hp} {s : Shared} {R : It → Hp → Prop} {E : Value → Shared → Prop} {lo hi : Int} {t u v : Tok} {tk : Nat} (I : Inv X pins σ H s) (h1 : -(2 ^ 62) ≤ lo) (h2 : lo < 2 ^ 62) (h3 : -(2 ^ 62) ≤ hi) (h4 : hi < 2 ^ 62)
    (q : R (Itr lo (hi - lo).toNat) H) : wpAny (model X.prog X.w) X.A (pyIter (.ref s.heap.objs.size)) (PIE X pins σ tg R) E { s with heap := s.heap.push { cls := .type "range", data := .fields #[.int lo t, .int hi u, .int 1 v] }, toks := tk } := by
  refine wpAny_pyIter_range (IsRange.new ..) (small_one h1 h2 h3 h4) ?_
  have I1 : Inv X pins σ H { s with heap := s.heap.push { cls := .type "range", data := .fields #[.int lo t, .int hi u, .int 1 v] }, toks := tk } := I.kept fun b o e => Heap.get?_push_of_some _ e
  refine ⟨(s.heap.push { cls := .type "range", data := .fields #[.int lo t, .int hi u, .int 1 v] }).objs.size, [(s.heap.push { cls := .type "range", data := .fields #[.int lo t, .int hi u, .int 1 v] }).objs.size], _, _, H, rfl,
    I1.kept (t' := tk) fun b o e => Heap.get?_push_of_some _ e, turn_range _ lo (hi - lo).toNat, ?_, fun b hb => ?_, q⟩
  · have e1 : lo + ((0 : Nat) : Int) * 1 = lo := by simp
    have e2 : (((hi - lo).toNat : Nat) : Int) - ((0 : Nat) : Int) = Builtin.Range.rangeSize lo hi 1 := by rw [rangeSize_one]; split <;> omega
    show IsRangeIter _ _ (lo + ((0 : Nat) : Int) * 1) ((((hi - lo).toNat : Nat) : Int) - ((0 : Nat) : Int)) 1
    rw [e1, e2]
    exact Heap.get?_push_size _ rfl
  · have e : b = (s.heap.push { cls := .type "range", data := .fields #[.int lo t, .int hi u, .int 1 v] }).objs.size := by simpa using hb
    subst e
    exact I1.fpOk (Nat.le_refl _) (I1.hok.fresh (Nat.le_refl _))
noncomputable def iRng1 (ta : TA) : TI := fun σ H R => ta σ H fun vs H1 => ∃ j : Int, vs = [.int j] ∧ -(2 ^ 62) ≤ j ∧ j < 2 ^ 62 ∧ R (Itr 0 j.toNat) H1
theorem pi_range1 {a : Expr} {ta : TA} {p pos : Pos} (hg : Gl X "range") (hm : X.mg "range" = none) (ha : PA X [a] ta) (hs : starEach [a] X.env = [(false, eval a X.env)] := by rfl) : PI X tg (.Call (.Name "range" p) [a] [] pos) (iRng1 ta) := by
  intro pins s σ H R I h
  refine Call_ (ld_blt I hg hm boot_range (PyProof.Rows.callWith_type1 (thn (ha pos pins s σ H _ I h) fun us s1 ⟨vs, H1, I1, r1, q1⟩ => ?_) hs rfl))
  obtain ⟨j, e, q1, q2, q⟩ := q1
  subst e
  cases r1 with
  | cons r rr =>
    cases rr
    obtain ⟨t, rfl⟩ := r
    exact call_range_1 (range_it I1 (by exact OmL.om3) (by exact OmL.om4) q1 q2 (by simpa using q))
/-! ### for -/
/-- W: the invariant by the turn and a measure; N: what the body is to reach -/
noncomputable def tFor (wi : TI) (g : TG) (tb : TS) : TS := fun D σ H => wi σ H fun J H1 => ∃ W : Nat → Nat → St → Hp → Prop, (∃ m, W 0 m σ H1) ∧ ∀ i m σ H, W i m σ H →
  (J.stop i H ∧ D.nx σ H) ∨ (J.go i H ∧ ∃ N : St → Hp → Prop, (∀ σ' H', N σ' H' → ∃ m', m' < m ∧ W (i + 1) m' σ' H') ∧ ∀ x H', J.yld i H x H' → g x σ H' fun σ2 H2 => tb { D with nx := N, ct := N, bk := D.nx } σ2 H2)
/-- the records at fp as they stand -/
noncomputable def pinsAt (fp : List Addr) (h : Heap) : List (Addr × Obj) := fp.filterMap fun b => (h.get? b).map fun o => (b, o)
theorem mem_pinsAt {fp : List Addr} {h : Heap} {b : Addr} {o : Obj} (hb : b ∈ fp) (e : h.get? b = some o) : (b, o) ∈ pinsAt fp h := List.mem_filterMap.mpr ⟨b, hb, by rw [e]; rfl⟩
theorem of_pinsAt {fp : List Addr} {h : Heap} {p : Addr × Obj} (hp : p ∈ pinsAt fp h) : p.1 ∈ fp ∧ h.get? p.1 = some p.2 := by
  obtain ⟨b, hb, e⟩ := List.mem_filterMap.mp hp
  cases q : h.get? b with
  | none => rw [q] at e; cases e
  | some o =>
    rw [q] at e
    have e' : (b, o) = p := Option.some.inj e
    subst e'
    exact ⟨hb, q⟩
theorem Inv.pinned {pins : List (Addr × Obj)} {σ : St} {H : Hp} {s : Shared} {fp : List Addr} (I : Inv X pins σ H s) (hf : ∀ b ∈ fp, FpOk X pins H b) (ho : ∀ b ∈ fp, ∃ o, s.heap.get? b = some o ∧ ∀ v, o.data ≠ .cell v) : Inv X (pins ++ pinsAt fp s.heap) σ H s :=
  I.pins_of fun p hp => (List.mem_append.mp hp).elim (fun z => I.pin p (List.mem_append_right _ z)) fun z => by
    obtain ⟨hb, e⟩ := of_pinsAt z
    obtain ⟨f0, f1, f2, _⟩ := hf p.1 hb
    obtain ⟨o, e', d⟩ := ho p.1 hb
    rw [e] at e'; cases e'
    exact ⟨e, f0, f1, f2, d⟩
theorem Inv.unpinned {pins pl : List (Addr × Obj)} {σ : St} {H : Hp} {s : Shared} (I : Inv X (pins ++ pl) σ H s) : Inv X pins σ H s := I.pins_of fun p hp => I.pin p (List.mem_append_right _ (List.mem_append_left _ hp))
theorem ps_for {iter : Expr} {body : List Stmt} {wi : TI} {g : TG} {tb : TS} {pos : Pos} (hp : PassesOwn (model X.prog X.w) X.A X.env X.xe) (hc : X.calm = true) (hi : PI X tg iter wi) (hg : PG X tg g) (hb : PSs X body tb)
    (hs : ∀ x, foldedSetIterable iter X.env x = pure x := by intro _; rfl) : PS X (.For tg iter body [] pos) (tFor wi g tb) := by
  intro pins s σ H D I h
  refine wpAny_For (thn (hi pins s σ H _ I h) fun v s1 h1 => thn h1 fun itv s2 h2 => ?_) hs
  obtain ⟨it, fp, tn, J, H2, e, I2, T, st2, f2, W, ⟨m0, w0⟩, turn⟩ := h2
  subst e
  -- what stays true of the iterator's objects through the loop
  have stat : ∀ {H' : Hp}, (∀ b ∈ fp, H' b = none) → ∀ b ∈ fp, FpOk X pins H' b := fun hn b hb => ⟨hn b hb, (f2 b hb).2⟩
  refine codeAny_forLoop_any (fun n s' => ∃ i σ' H', Inv X pins σ' H' s' ∧ tn i s'.heap ∧ (∀ b ∈ fp, H' b = none) ∧ W i n σ' H') ?_ m0 ⟨0, σ, H2, I2, st2, fun b hb => (f2 b hb).1, w0⟩
  rintro n s3 ⟨i, σ3, H3, I3, st3, fr3, w3⟩
  rcases turn i n σ3 H3 w3 with ⟨stop, qn⟩ | ⟨go, N, hN, step⟩
  · refine wpAny_passesOwn hp (thn (T.done X rfl rfl rfl hc i pins s3 σ3 H3 X.xe I3 (stat fr3) st3 stop) fun r s4 ⟨hr, I4⟩ => ?_)
    subst hr
    exact wpAny_execs_nil ⟨σ3, H3, I4, qn⟩
  · refine wpAny_passesOwn hp (thn (T.item X rfl rfl rfl hc i pins s3 σ3 H3 X.xe I3 (stat fr3) st3 go) fun r s4 ⟨u, hr, h4⟩ => ?_)
    subst hr
    refine wpAny_passesOwn hp (thn h4 fun _ s5 ⟨x, H5, I5, r5, y5, st5, fr5⟩ => ?_)
    have I5' := I5.pinned (stat fr5) (T.obj _ _ st5)
    refine wpAny_passesOwn hp (thn (hg _ s5 σ3 H5 x u _ I5' r5 (step x H5 y5)) fun _ s6 ⟨σ6, H6, I6, q6⟩ => ?_)
    refine wpAny_passesOwn hp (thn (hb _ s6 σ6 H6 _ I6 q6) fun f s7 q7 => ?_)
    have again : ∀ {σ7 : St} {H7 : Hp}, Inv X (pins ++ pinsAt fp s5.heap) σ7 H7 s7 → N σ7 H7 → ∃ m, m < n ∧ ∃ i σ' H', Inv X pins σ' H' s7 ∧ tn i s7.heap ∧ (∀ b ∈ fp, H' b = none) ∧ W i m σ' H' := fun {σ7 H7} I7 n7 => by
      obtain ⟨m', hm, w7⟩ := hN σ7 H7 n7
      refine ⟨m', hm, i + 1, σ7, H7, I7.unpinned, T.keep _ _ _ st5 fun b hb o e => (I7.pin (b, o) (List.mem_append_right _ (List.mem_append_right _ (mem_pinsAt hb e)))).1, fun b hb => ?_, w7⟩
      obtain ⟨o, e, d⟩ := T.obj _ _ st5 b hb
      exact (I7.pin (b, o) (List.mem_append_right _ (List.mem_append_right _ (mem_pinsAt hb e)))).2.1
    cases f with
    | next => obtain ⟨σ7, H7, I7, n7⟩ := q7; exact again I7 n7
    | cont => obtain ⟨σ7, H7, I7, n7⟩ := q7; exact again I7 n7
    | brk => obtain ⟨σ7, H7, I7, q7⟩ := q7; exact ⟨σ7, H7, I7.unpinned, q7⟩
    | ret v => obtain ⟨x7, σ7, H7, I7, r7, q7⟩ := q7; exact ⟨x7, σ7, H7, I7.unpinned, r7, q7⟩
end

/-! ### the forms one uses -/
theorem for_range {lo : Int} {n : Nat} {g : TG} {tb : TS} {D : Ends} {σ : St} {H : Hp} (Pv : Nat → St → Hp → Prop) (h0 : Pv 0 σ H)
    (hs : ∀ i σ H, i < n → Pv i σ H → g (.int (lo + i)) σ H fun σ2 H2 => tb { D with nx := Pv (i + 1), ct := Pv (i + 1), bk := D.nx } σ2 H2) (hd : ∀ σ H, Pv n σ H → D.nx σ H) :
    ∃ W : Nat → Nat → St → Hp → Prop, (∃ m, W 0 m σ H) ∧ ∀ i m σ H, W i m σ H →
      ((Itr lo n).stop i H ∧ D.nx σ H) ∨ ((Itr lo n).go i H ∧ ∃ N : St → Hp → Prop, (∀ σ' H', N σ' H' → ∃ m', m' < m ∧ W (i + 1) m' σ' H') ∧ ∀ x H', (Itr lo n).yld i H x H' → g x σ H' fun σ2 H2 => tb { D with nx := N, ct := N, bk := D.nx } σ2 H2) := by
  refine ⟨fun i m σ H => m = n - i ∧ i ≤ n ∧ Pv i σ H, ⟨n, by simp, Nat.zero_le _, h0⟩, ?_⟩
  rintro i m σ H ⟨rfl, hi, p⟩
  by_cases hlt : i < n
  · refine .inr ⟨hlt, Pv (i + 1), fun σ' H' p' => ⟨n - (i + 1), by exact OmL.om5 hlt, rfl, hlt, p'⟩, fun x H' y => ?_⟩
    obtain ⟨e, y⟩ := y
    subst e y
    exact hs i σ _ hlt p
  · have e : i = n := by exact OmL.om6 hi hlt
    subst e
    exact .inl ⟨Nat.le_refl _, hd σ H p⟩
end L2

namespace L2
open PySem PySem.Spec PyProof.Rows

noncomputable abbrev R2 := V → V → Hp → VK → Prop
/-- a two-place operation on values: f is binaryOp op, inplaceOp op or compareOp op -/
noncomputable def OpR (X : Cx) (f : Value → Value → Sem Value) (r : R2) : Prop :=
  ∀ (pins : List (Addr × Obj)) (s : Shared) (σ : St) (H : Hp) (x y : V) (v u : Value) (Q : VK), Inv X pins σ H s → RelV x v → RelV y u → r x y H Q →
    wpAny (model X.prog X.w) X.A (f v u) (EP X pins σ Q) X.xe s
/-- a one-place operation -/
noncomputable def UnR (X : Cx) (f : Value → Sem Value) (r : V → Hp → VK → Prop) : Prop :=
  ∀ (pins : List (Addr × Obj)) (s : Shared) (σ : St) (H : Hp) (x : V) (v : Value) (Q : VK), Inv X pins σ H s → RelV x v → r x H Q →
    wpAny (model X.prog X.w) X.A (f v) (EP X pins σ Q) X.xe s
/-- a call of a value that is known (a builtin, a type) with values -/
noncomputable def CallR (X : Cx) (f : Value) (r : List V → Hp → VK → Prop) : Prop :=
  ∀ (pins : List (Addr × Obj)) (s : Shared) (σ : St) (H : Hp) (xs : List V) (us : List Value) (Q : VK), Inv X pins σ H s → Vals xs us → r xs H Q →
    wpAny (model X.prog X.w) X.A (call f us) (EP X pins σ Q) X.xe s
noncomputable def tOp (r : R2) (ta tb : TE) : TE := fun σ H Q => ta σ H fun x H1 => tb σ H1 fun y H2 => r x y H2 Q
noncomputable def tUn (r : V → Hp → VK → Prop) (ta : TE) : TE := fun σ H Q => ta σ H fun x H1 => r x H1 Q
/-- ints in, under C, and a value out -/
noncomputable def rI (C : Int → Int → Prop) (g : Int → Int → V) : R2 := fun x y H Q => ∃ i j, x = .int i ∧ y = .int j ∧ C i j ∧ Q (g i j) H
noncomputable def rI0 (g : Int → Int → V) : R2 := fun x y H Q => ∃ i j, x = .int i ∧ y = .int j ∧ Q (g i j) H
noncomputable def rU (g : Int → V) : V → Hp → VK → Prop := fun x H Q => ∃ i, x = .int i ∧ Q (g i) H

section
variable {X : Cx} {a b c : Expr} {ta tb tc : TE} {pos : Pos}

theorem binT (ha : PE X a ta) (hb : PE X b tb) {pins : List (Addr × Obj)} {s : Shared} {σ : St} {H : Hp} {R : V → V → Hp → Prop} (I : Inv X pins σ H s)
    (h : ta σ H fun x H1 => tb σ H1 fun y H2 => R x y H2) {Q : Value → Shared → Prop} {f : Value → Value → Sem Value}
    (hf : ∀ v u s2 x y H2, Inv X pins σ H2 s2 → RelV x v → RelV y u → R x y H2 → wpAny (model X.prog X.w) X.A (f v u) Q X.xe s2) :
    wpAny (model X.prog X.w) X.A (eval a X.env) (fun v s₁ => wpAny (model X.prog X.w) X.A (eval b X.env) (fun u s₂ => wpAny (model X.prog X.w) X.A (f v u) Q X.xe s₂) X.xe s₁) X.xe s := by
  refine thn (ha pins s σ H _ I h) fun v s1 ⟨x, H1, I1, r1, q1⟩ => ?_
  refine thn (hb pins s1 σ H1 _ I1 q1) fun u s2 ⟨y, H2, I2, r2, q2⟩ => ?_
  exact hf v u s2 x y H2 I2 r1 r2 q2

theorem pe_op {op : Operator} {r : R2} (ho : OpR X (binaryOp op) r) (ha : PE X a ta) (hb : PE X b tb) : PE X (.BinOp a op b pos) (tOp r ta tb) := by
  intro pins s σ H Q I h
  exact wpAny_BinOp (binT ha hb I h fun v u s2 x y H2 I2 rx ry q => ho pins s2 σ H2 x y v u Q I2 rx ry q)
theorem pe_un {op : UnaryOp} {r : V → Hp → VK → Prop} (ho : UnR X (unaryOp op) r) (ha : PE X a ta) : PE X (.UnaryOp op a pos) (tUn r ta) := by
  intro pins s σ H Q I h
  exact UnaryOp_ (thn (ha pins s σ H _ I h) fun v s1 ⟨x, H1, I1, r1, q1⟩ => ho pins s1 σ H1 x v Q I1 r1 q1)
/-! ### ints -/
theorem opI {f : Value → Value → Sem Value} {C : Int → Int → Prop} {g : Int → Int → Int}
    (rule : ∀ (i j : Int) (t u : Tok) (s : Shared) (Q : Value → Shared → Prop) (E : Value → Shared → Prop), C i j → Q (.int (g i j) s.toks) { s with toks := s.toks + 1 } → wpAny (model X.prog X.w) X.A (f (.int i t) (.int j u)) Q E s) :
    OpR X f (rI C fun i j => .int (g i j)) := by
  intro pins s σ H x y v u Q I rx ry h
  obtain ⟨i, j, rfl, rfl, hc, q⟩ := h
  obtain ⟨t, rfl⟩ := rx
  obtain ⟨t', rfl⟩ := ry
  exact rule i j t t' s _ _ hc ⟨.int (g i j), H, I.tok _, ⟨_, rfl⟩, q⟩
theorem opI0 {f : Value → Value → Sem Value} {g : Int → Int → Int}
    (rule : ∀ (i j : Int) (t u : Tok) (s : Shared) (Q : Value → Shared → Prop) (E : Value → Shared → Prop), Q (.int (g i j) s.toks) { s with toks := s.toks + 1 } → wpAny (model X.prog X.w) X.A (f (.int i t) (.int j u)) Q E s) :
    OpR X f (rI0 fun i j => .int (g i j)) := by
  intro pins s σ H x y v u Q I rx ry h
  obtain ⟨i, j, rfl, rfl, q⟩ := h
  obtain ⟨t, rfl⟩ := rx
  obtain ⟨t', rfl⟩ := ry
  exact rule i j t t' s _ _ ⟨.int (g i j), H, I.tok _, ⟨_, rfl⟩, q⟩
theorem opB0 {f : Value → Value → Sem Value} {g : Int → Int → Bool}
    (rule : ∀ (i j : Int) (t u : Tok) (s : Shared) (Q : Value → Shared → Prop) (E : Value → Shared → Prop), Q (.bool (g i j)) s → wpAny (model X.prog X.w) X.A (f (.int i t) (.int j u)) Q E s) :
    OpR X f (rI0 fun i j => .bl (g i j)) := by
  intro pins s σ H x y v u Q I rx ry h
  obtain ⟨i, j, rfl, rfl, q⟩ := h
  obtain ⟨t, rfl⟩ := rx
  obtain ⟨t', rfl⟩ := ry
  exact rule i j t t' s _ _ ⟨.bl (g i j), H, I, rfl, q⟩

noncomputable def CDiv (i j : Int) : Prop := 0 < j ∧ j < 1073741824
noncomputable def CPow (i j : Int) : Prop := 0 ≤ j ∧ j ≤ 1000000 ∧ i.natAbs < 2 ^ 64
theorem op_add : OpR X (binaryOp .Add) (rI0 fun i j => .int (i + j)) := opI0 fun _ _ _ _ _ _ _ q => add_int q
theorem op_sub : OpR X (binaryOp .Sub) (rI0 fun i j => .int (i - j)) := opI0 fun _ _ _ _ _ _ _ q => sub_int q
/-- // by a positive divisor -/
theorem op_fdiv : OpR X (binaryOp .FloorDiv) (rI CDiv fun i j => .int (i / j)) := opI fun i j _ _ _ _ _ hc q => by
  have h1 : (0 : Int) < j := hc.1
  have h2 : j < 1073741824 := hc.2
  exact floordiv_int (by exact OmL.om7 h1 h2) (by rw [Int.fdiv_eq_ediv_of_nonneg i (by exact OmL.om8 h1 h2)]; exact q) (.inl (PyProof.noPylong_small (by exact OmL.om9 h1 h2)))
/-- % by a positive divisor of any size -/
theorem op_mod : OpR X (binaryOp .Mod) (rI (fun _ j => 0 < j) fun i j => .int (i % j)) := opI fun i j _ _ _ _ _ hc q => by
  have h1 : (0 : Int) < j := hc
  exact mod_int' (by exact OmL.om10 hc) (by rw [Int.fmod_eq_emod_of_nonneg i (by exact OmL.om11 hc)]; exact q)
theorem op_pow : OpR X (binaryOp .Pow) (rI CPow fun i j => .int (i ^ j.toNat)) := opI fun _ _ _ _ _ _ _ hc q => pow_int_small hc.1 hc.2.1 hc.2.2 q
theorem unI {f : Value → Sem Value} {g : Int → Int}
    (rule : ∀ (i : Int) (t : Tok) (s : Shared) (Q : Value → Shared → Prop) (E : Value → Shared → Prop), Q (.int (g i) s.toks) { s with toks := s.toks + 1 } → wpAny (model X.prog X.w) X.A (f (.int i t)) Q E s) :
    UnR X f (rU fun i => .int (g i)) := by
  intro pins s σ H x v Q I rx h
  obtain ⟨i, rfl, q⟩ := h
  obtain ⟨t, rfl⟩ := rx
  exact rule i t s _ _ ⟨.int (g i), H, I.tok _, ⟨_, rfl⟩, q⟩
theorem un_neg : UnR X (unaryOp .USub) (rU fun i => .int (-i)) := unI fun _ _ _ _ _ q => neg_int q
/-! ### bools among ints: n += (a < b) -/
end

/-! ### comparisons -/
/-- the scalars that == tells apart as data does -/
noncomputable def scal : V → V → Bool
  | .non, .non => true | .non, .int _ => true | .int _, .non => true | .non, .bl _ => true | .bl _, .non => true | .non, .str _ => true | .str _, .non => true
  | .int _, .int _ => true | .bl _, .bl _ => true | .str _, .str _ => true | .byt _, .byt _ => true
  | .int _, .str _ => true | .str _, .int _ => true | .bl _, .str _ => true | .str _, .bl _ => true
  | _, _ => false
noncomputable def rEq : R2 := fun x y H Q => scal x y = true ∧ Q (.bl (decide (x = y))) H
noncomputable def rNe : R2 := fun x y H Q => scal x y = true ∧ Q (.bl (!decide (x = y))) H

theorem dec_int {i j : Int} : decide (V.int i = V.int j) = (i == j) := by
  rw [Bool.eq_iff_iff]
  simp
theorem dec_bl {i j : Bool} : decide (V.bl i = V.bl j) = (i == j) := by
  rw [Bool.eq_iff_iff]
  simp
theorem dec_str {i j : Str} : decide (V.str i = V.str j) = (i == j) := by
  rw [Bool.eq_iff_iff]
  simp
theorem dec_byt {i j : Array UInt8} : decide (V.byt i = V.byt j) = (i.toList == j.toList) := by
  rw [Bool.eq_iff_iff]
  cases i
  cases j
  simp

section
variable {X : Cx} {a b c : Expr} {ta tb tc : TE} {pos : Pos}
theorem fin_bl {pins : List (Addr × Obj)} {σ : St} {H : Hp} {s : Shared} {Q : VK} {k k' : Bool} (I : Inv X pins σ H s) (q : Q (.bl k) H) (e : k = k') : EP X pins σ Q (.bool k') s := by
  subst e
  exact ⟨.bl k, H, I, rfl, q⟩
theorem op_eq : OpR X (compareOp .Eq) rEq := by
  intro pins s σ H x y v u Q I rx ry h
  obtain ⟨hs, q⟩ := h
  cases x with
  | non =>
    cases rx
    cases y with
    | non => cases ry; exact PySem.EqNone.eq_none_none (fin_bl I q (by simp))
    | bl j => cases ry; exact PySem.EqNone.eq_none_bool (fin_bl I q (by simp))
    | int j => obtain ⟨t', rfl⟩ := ry; exact PySem.EqNone.eq_none_int (fin_bl I q (by simp))
    | str j => obtain ⟨t', rfl⟩ := ry; exact PySem.EqNone.eq_none_str (fin_bl I q (by simp))
    | _ => exact absurd (show false = true from hs) Bool.false_ne_true
  | bl i =>
    cases rx
    cases y with
    | non => cases ry; exact PySem.EqNone.eq_bool_none (fin_bl I q (by simp))
    | bl j => cases ry; exact eq_bool (fin_bl I q dec_bl)
    | str j => obtain ⟨t', rfl⟩ := ry; exact PySem.EqMixed.eq_bool_str (fin_bl I q (by simp))
    | _ => exact absurd (show false = true from hs) Bool.false_ne_true
  | int i =>
    obtain ⟨t, rfl⟩ := rx
    cases y with
    | non => cases ry; exact PySem.EqNone.eq_int_none (fin_bl I q (by simp))
    | int j => obtain ⟨t', rfl⟩ := ry; exact eq_int (fin_bl I q dec_int)
    | str j => obtain ⟨t', rfl⟩ := ry; exact PySem.EqMixed.eq_int_str (fin_bl I q (by simp))
    | _ => exact absurd (show false = true from hs) Bool.false_ne_true
  | str i =>
    obtain ⟨t, rfl⟩ := rx
    cases y with
    | non => cases ry; exact PySem.EqNone.eq_str_none (fin_bl I q (by simp))
    | bl j => cases ry; exact PySem.EqMixed.eq_str_bool (fin_bl I q (by simp))
    | int j => obtain ⟨t', rfl⟩ := ry; exact PySem.EqMixed.eq_str_int (fin_bl I q (by simp))
    | str j => obtain ⟨t', rfl⟩ := ry; exact eq_str (fin_bl I q dec_str)
    | _ => exact absurd (show false = true from hs) Bool.false_ne_true
  | byt i =>
    obtain ⟨t, rfl⟩ := rx
    cases y with
    | byt j => obtain ⟨t', rfl⟩ := ry; exact PySem.W.eq_bytes (fin_bl I q dec_byt)
    | _ => exact absurd (show false = true from hs) Bool.false_ne_true
  | _ => cases y <;> exact absurd (show false = true from hs) Bool.false_ne_true
theorem op_ne : OpR X (compareOp .NotEq) rNe := by
  intro pins s σ H x y v u Q I rx ry h
  obtain ⟨hs, q⟩ := h
  cases x with
  | non =>
    cases rx
    cases y with
    | non => cases ry; exact PySem.EqNone.ne_none_none (fin_bl I q (by simp))
    | bl j => cases ry; exact PySem.EqNone.ne_none_bool (fin_bl I q (by simp))
    | int j => obtain ⟨t', rfl⟩ := ry; exact PySem.EqNone.ne_none_int (fin_bl I q (by simp))
    | str j => obtain ⟨t', rfl⟩ := ry; exact PySem.EqNone.ne_none_str (fin_bl I q (by simp))
    | _ => exact absurd (show false = true from hs) Bool.false_ne_true
  | bl i =>
    cases rx
    cases y with
    | non => cases ry; exact PySem.EqNone.ne_bool_none (fin_bl I q (by simp))
    | bl j => cases ry; exact ne_bool (fin_bl I q (congrArg not dec_bl))
    | str j => obtain ⟨t', rfl⟩ := ry; exact PySem.EqMixed.ne_bool_str (fin_bl I q (by simp))
    | _ => exact absurd (show false = true from hs) Bool.false_ne_true
  | int i =>
    obtain ⟨t, rfl⟩ := rx
    cases y with
    | non => cases ry; exact PySem.EqNone.ne_int_none (fin_bl I q (by simp))
    | int j => obtain ⟨t', rfl⟩ := ry; exact ne_int (fin_bl I q (congrArg not dec_int))
    | str j => obtain ⟨t', rfl⟩ := ry; exact PySem.EqMixed.ne_int_str (fin_bl I q (by simp))
    | _ => exact absurd (show false = true from hs) Bool.false_ne_true
  | str i =>
    obtain ⟨t, rfl⟩ := rx
    cases y with
    | non => cases ry; exact PySem.EqNone.ne_str_none (fin_bl I q (by simp))
    | bl j => cases ry; exact PySem.EqMixed.ne_str_bool (fin_bl I q (by simp))
    | int j => obtain ⟨t', rfl⟩ := ry; exact PySem.EqMixed.ne_str_int (fin_bl I q (by simp))
    | str j => obtain ⟨t', rfl⟩ := ry; exact ne_str (fin_bl I q (congrArg not dec_str))
    | _ => exact absurd (show false = true from hs) Bool.false_ne_true
  | byt i =>
    obtain ⟨t, rfl⟩ := rx
    cases y with
    | byt j => obtain ⟨t', rfl⟩ := ry; exact PySem.W.ne_bytes (fin_bl I q (congrArg not dec_byt))
    | _ => exact absurd (show false = true from hs) Bool.false_ne_true
  | _ => cases y <;> exact absurd (show false = true from hs) Bool.false_ne_true

theorem op_lt : OpR X (compareOp .Lt) (rI0 fun i j => .bl (decide (i < j))) := opB0 fun _ _ _ _ _ _ _ q => lt_int q
theorem op_gt : OpR X (compareOp .Gt) (rI0 fun i j => .bl (decide (j < i))) := opB0 fun _ _ _ _ _ _ _ q => gt_int q
/-- two rules for one operation: by cases -/
theorem OpR.or {f : Value → Value → Sem Value} {r r' : R2} (h : OpR X f r) (h' : OpR X f r') : OpR X f (fun x y H Q => r x y H Q ∨ r' x y H Q) := by
  intro pins s σ H x y v u Q I rx ry q
  rcases q with q | q
  · exact h pins s σ H x y v u Q I rx ry q
  · exact h' pins s σ H x y v u Q I rx ry q

theorem nomark (b : Expr) {op : CmpOp} (h : op ≠ .In := by decide) (h2 : op ≠ .NotIn := by decide) : behindInMarks op b = false := by
  have e1 : (op == CmpOp.In) = false := by cases op <;> first | rfl | exact absurd rfl h
  have e2 : (op == CmpOp.NotIn) = false := by cases op <;> first | rfl | exact absurd rfl h2
  cases b <;> simp [behindInMarks, e1, e2]
/-- a reading of a value as a test -/
noncomputable def tTest (t : TE) : TT := fun σ H Q => t σ H fun x H' => ∃ k, x = .bl k ∧ Q k H'
theorem pt_cmpR {op : CmpOp} {r : R2} (ho : OpR X (compareOp op) r) (ha : PE X a ta) (hb : PE X b tb) (hm : behindInMarks op b = false) : PT X (.Compare a [op] [b] pos) (tTest (tOp r ta tb)) := by
  intro pins s σ H Q I h
  refine wpAny_isTrue_Compare1 (thn (ha pins s σ H _ I h) fun v s1 ⟨x, H1, I1, r1, q1⟩ => thn (hb pins s1 σ H1 _ I1 q1) fun u s2 ⟨y, H2, I2, r2, q2⟩ =>
    thn (ho pins s2 σ H2 x y v u _ I2 r1 r2 q2) fun c s3 ⟨z, H3, I3, r3, k, e, q3⟩ => ?_) hm
  subst e
  cases r3
  exact wpAny_truthy_bool ⟨H3, I3, q3⟩
/-! ### truth -/
theorem isEmpty_kv {κ : Type} {kvs : List (κ × V)} {vs : List (κ × Value)} (r : KV kvs vs) : (!vs.isEmpty) = !kvs.isEmpty := by
  cases r <;> rfl
theorem isEmpty_of {xs : List V} {its : List Value} (r : Vals xs its) : (!its.toArray.isEmpty) = !xs.isEmpty := by
  cases r <;> simp
theorem line63 : (sizeLine : Nat) < 2 ^ 63 := by rw [sizeLine_eq]; decide
/-! ### strs and bytes -/
theorem op_add_str : OpR X (binaryOp .Add) (fun x y H Q => ∃ i j, x = .str i ∧ y = .str j ∧ i.length + j.length ≤ sizeLine ∧ Q (.str (i ++ j)) H) := by
  intro pins s σ H x y v u Q I rx ry h
  obtain ⟨i, j, rfl, rfl, hz, q⟩ := h
  obtain ⟨t, rfl⟩ := rx
  obtain ⟨t', rfl⟩ := ry
  exact add_str (fun t' tk => ⟨.str (i ++ j), H, I.tok _, ⟨_, rfl⟩, q⟩) hz
/-! ### scalar builtins, by CallR -/
theorem vals1 {x : V} {us : List Value} (r : Vals [x] us) : ∃ u, us = [u] ∧ RelV x u := by
  cases r with
  | cons r1 r2 => cases r2; exact ⟨_, rfl, r1⟩
theorem vals2 {x y : V} {us : List Value} (r : Vals [x, y] us) : ∃ u w', us = [u, w'] ∧ RelV x u ∧ RelV y w' := by
  cases r with
  | cons r1 r2 =>
    cases r2 with
    | cons r3 r4 => cases r4; exact ⟨_, _, rfl, r1, r3⟩
theorem call_min2 (hc : X.calm = true) : CallR X (.builtin "min") (fun xs H Q => ∃ i j, xs = [.int i, .int j] ∧ Q (.int (if j < i then j else i)) H) := by
  intro pins s σ H xs us Q I r h
  obtain ⟨i, j, rfl, q⟩ := h
  obtain ⟨u, w', rfl, ⟨t, rfl⟩, ⟨t', rfl⟩⟩ := vals2 r
  refine min_two_ints (I.ok.hd hc) fun h' tk k => ⟨_, H, I.kept k, ?_, q⟩
  by_cases hj : j < i
  · rw [if_pos hj, if_pos hj]; exact ⟨_, rfl⟩
  · rw [if_neg hj, if_neg hj]; exact ⟨_, rfl⟩
/-- len of a str, a bytes, a list, a tuple -/
noncomputable def LenV (K : PySem.W.Frag) (x : V) (H : Hp) (n : Nat) : Prop :=
  match x with
  | .str y => y.length ≤ sizeLine ∧ n = y.length
  | .byt y => y.size ≤ sizeLine ∧ n = y.size
  | .ref p => (∃ xs, SqL K H p xs ∧ n = xs.length) ∨ ∃ xs, SqT K H p xs ∧ n = xs.length
  | _ => False
theorem call_len : CallR X (.builtin "len") (fun xs H Q => ∃ x n, xs = [x] ∧ LenV X.K x H n ∧ Q (.int n) H) := by
  intro pins s σ H xs us Q I r h
  obtain ⟨x, n, rfl, e, q⟩ := h
  obtain ⟨u, rfl, rx⟩ := vals1 r
  have hl := line63
  have hs : sizeLine = 16777216 := sizeLine_eq
  cases x with
  | str y =>
    obtain ⟨t, rfl⟩ := rx
    obtain ⟨hy, e'⟩ : y.length ≤ sizeLine ∧ n = y.length := e
    subst e'
    exact len_str (by exact OmL.om12 hs hy) ⟨.int _, H, I.tok _, ⟨_, rfl⟩, q⟩
  | byt y =>
    obtain ⟨t, rfl⟩ := rx
    obtain ⟨hy, e'⟩ : y.size ≤ sizeLine ∧ n = y.size := e
    subst e'
    exact PySem.W.len_bytes (by exact OmL.om13 hs hy) ⟨.int _, H, I.tok _, ⟨_, rfl⟩, q⟩
  | ref p =>
    cases rx
    have e' : (∃ xs, SqL X.K H p xs ∧ n = xs.length) ∨ ∃ xs, SqT X.K H p xs ∧ n = xs.length := e
    rcases e' with ⟨xs, hx, e'⟩ | ⟨xs, hx, e'⟩
    · subst e'
      obtain ⟨its, r', pl, hz⟩ := I.list hx
      have hlen := r'.length
      exact Calls.call_len_list pl.isList (by simp only [List.size_toArray]; exact OmL.om14 hs hz hlen) ⟨.int xs.length, H, I.tok _, ⟨_, by simp only [List.size_toArray]; rw [hlen]⟩, q⟩
    · subst e'
      obtain ⟨its, r', pl, hz⟩ := I.tuple hx
      have hlen := r'.length
      exact len_tuple pl (by simp only [List.size_toArray]; exact OmL.om14 hs hz hlen) ⟨.int xs.length, H, I.tok _, ⟨_, by simp only [List.size_toArray]; rw [hlen]⟩, q⟩
  | _ => exact (show False from e).elim
end
end L2

namespace L2
open PySem PySem.Spec PyProof.Rows

/-! ### an instance, its attributes a map -/
structure ObjM (h : Heap) (x dx C : Addr) (mA : Str → Option Value) : Prop where
  obj : h.get? x = some (PySem.W.instObj C dx)
  ns : h.Ns1 dx mA
  ne : dx ≠ x

theorem lookIn_ns {h : Heap} {dx : Addr} {mA : Str → Option Value} (n : h.Ns1 dx mA) : ∃ od, h.get? dx = some od ∧ ∀ name, PySem.W.lookIn name od = some (mA name) := by
  obtain ⟨o, es, ep, ho, hd, hk, _, hm⟩ := n
  refine ⟨o, ho, fun name => ?_⟩
  have e := hm name
  unfold nsFind findBy at e
  rw [← Array.find?_toList] at e
  unfold PySem.W.lookIn
  rw [hd]
  dsimp only
  split
  · rename_i y q
    rw [q] at e
    exact congrArg some e
  · rename_i q
    rw [q] at e
    have a : es.toList.any (·.refKey) = false := by
      rw [List.any_eq_false]
      intro y hy
      obtain ⟨z, t, hkey⟩ := hk y (Array.mem_toList_iff.mp hy)
      simp [DictEntry.refKey, hkey]
    have a' : ¬ es.toList.any (·.refKey) = true := by rw [a]; exact Bool.false_ne_true
    rw [if_neg a']
    exact congrArg some e

theorem ObjM.look {h : Heap} {x dx C : Addr} {mA : Str → Option Value} (I : ObjM h x dx C mA) : ∃ od, PySem.W.InstAt h x (PySem.W.instObj C dx) C (some od) ∧ ∀ name, PySem.W.lookIn name od = some (mA name) :=
  let ⟨od, ho, hl⟩ := lookIn_ns I.ns
  ⟨od, ⟨I.obj, rfl, rfl, ho⟩, hl⟩

section
variable {prog : Program} {w : World} {A : Around} {E : Value → Shared → Prop} {s : Shared} {K : PySem.W.Frag} {x dx C f : Addr} {mA : Str → Option Value} {name : Str} {v : Value}

end

/-! ### the attributes as a list of pairs -/
theorem RelO.some_of {v : V} {o : Option Value} (r : RelO (some v) o) : ∃ u, o = some u ∧ RelV v u := by
  cases o with
  | none => exact (show False from r).elim
  | some u => exact ⟨u, rfl, r⟩
theorem RelO.none_of {o : Option Value} (r : RelO none o) : o = none := by
  cases o with
  | none => rfl
  | some u => exact (show False from r).elim
section
variable {P : Program} {w : World} {H H' : Hp} {h h' : Heap} {a C dx : Addr} {fs fs' : List (Str × V)}
theorem ins_get (hok : HOk P w H h) (e : H a = some (.ins C dx fs)) : ∃ mA, ObjM h a dx C mA ∧ (∀ f, RelO (fs.lookup f) (mA f)) ∧ PySem.Within mA (fs.map (·.1)) ∧ fs.length ≤ 1000 ∧ H dx = some (.own a) := by
  obtain ⟨d, z, ne, ob, mA, n, r, q⟩ := (show ObjOk P w H h a (.ins C dx fs) from hok a _ e)
  exact ⟨mA, ⟨ob, n, ne⟩, r, q, z, d⟩
end

/-! ### what of the text a class must have -/
structure Cls (K : PySem.W.Frag) (C : Addr) : Prop where
  pg : PySem.W.plainGet K C Str.empty = true
  hd : PySem.W.hasDictIn K C = true
  po : PySem.W.plainOver K C = true
  sa : PySem.W.findIn K (.ref C) "__setattr__" = some (some (.builtin "object.__setattr__"))
theorem Cls.get {K : PySem.W.Frag} {C : Addr} (c : Cls K C) (f : Str) : PySem.W.plainGet K C f = true := c.pg
section
variable {X : Cx} {pins : List (Addr × Obj)} {σ : St} {H : Hp} {s : Shared} {a C dx : Addr} {fs : List (Str × V)} {f : Str} {v : V} {A : Around} {E : Value → Shared → Prop}

end

/-! ### readings and rules -/
section
variable {X : Cx} {o e value : Expr} {f : Str} {pos pos' tpos : Pos} {ta tv : TE}
end

/-! ### isinstance -/
section
variable {X : Cx} {pins : List (Addr × Obj)} {σ : St} {H : Hp} {s : Shared} {A : Around} {E : Value → Shared → Prop} {Q : Value → Shared → Prop} {c : Value} {b : Bool}
/-- the type of a value, as the fragment's deciders take it; for an instance its class -/
inductive TyOf (K : PySem.W.Frag) (H : Hp) : V → Value → Prop where
  | non : TyOf K H .non (.type "NoneType")
  | bl (x : Bool) : TyOf K H (.bl x) (.type "bool")
  | int (i : Int) : TyOf K H (.int i) (.type "int")
  | str (x : Str) : TyOf K H (.str x) (.type "str")
  | flt (x : UInt64) : TyOf K H (.flt x) (.type "float")
  | lst {a : Addr} {xs : List V} (e : H a = some (.lst xs)) : TyOf K H (.ref a) (.type "list")
  | frz {a : Addr} {o : Obj} {xs : List V} (e : H a = some (.frz o (.lst xs))) : TyOf K H (.ref a) (.type "list")
  | tup {a : Addr} {xs : List V} (e : H a = some (.tup xs)) : TyOf K H (.ref a) (.type "tuple")
  | dK {a : Addr} {kvs : List (Key × V)} (e : H a = some (.dK kvs)) : TyOf K H (.ref a) (.type "dict")
  | dT {a : Addr} {kvs : List (List Key × V)} (e : H a = some (.dT kvs)) : TyOf K H (.ref a) (.type "dict")
  | ins {a C dx : Addr} {fs : List (Str × V)} (e : H a = some (.ins C dx fs)) (cl : Cls K C) (ha : PySem.W.findIn K (.ref C) "__class__" = some (some (.builtin "object.__class__")))
      (hn : PySem.W.specialIn K (.builtin "object.__class__") "__get__" = some (some (.builtin "getset_descriptor.__get__"))) (htk : PySem.W.takesIn K (.builtin "object.__class__") = some true)
      (hm : PySem.W.mroIn K C (.type "object") = some true) : TyOf K H (.ref a) (.ref C)
/-- isinstance(x, c) for one class c, a built-in or an own one: kitOne's answer -/
theorem isinst_ok {x : V} {u t : Value} (I : Inv X pins σ H s) (rx : RelV x u) (ty : TyOf X.K H x t) (e : PySem.W.kitOne X.K t c = some b) (h : ∀ tk, Q (.bool b) { s with toks := tk }) :
    wpAny (model X.prog X.w) A (call (.builtin "isinstance") [u, c]) Q E s := by
  cases ty with
  | non => cases (show u = Value.none from rx); exact PySem.W.kia_one PySem.W.kitx_none I.kIn True.intro e (fun z => nomatch z) h
  | bl y => cases (show u = Value.bool y from rx); exact PySem.W.kia_one PySem.W.kitx_bool I.kIn True.intro e (fun z => nomatch z) h
  | int i => obtain ⟨t, q⟩ := (show ∃ t, u = Value.int i t from rx); cases q; exact PySem.W.kia_one PySem.W.kitx_int I.kIn True.intro e (fun z => nomatch z) h
  | str y => obtain ⟨t, q⟩ := (show ∃ t, u = Value.str y t from rx); cases q; exact PySem.W.kia_one PySem.W.kitx_str I.kIn True.intro e (fun z => nomatch z) h
  | flt y => obtain ⟨t, q⟩ := (show ∃ t, u = Value.float y t from rx); cases q; exact PySem.W.kia_one PySem.W.kitx_float I.kIn True.intro e (fun z => nomatch z) h
  | @lst a xs ea =>
    cases (show u = Value.ref a from rx)
    obtain ⟨_, _, n, _, h1⟩ := (show ObjOk X.prog X.w H s.heap a (.lst xs) from I.hok a _ ea)
    exact PySem.W.kia_one PySem.W.kitx_list I.kIn ⟨_, h1, rfl⟩ e (fun z => nomatch z) h
  | @frz a ob xs ea =>
    cases (show u = Value.ref a from rx)
    obtain ⟨_, _, _, n, _, h1⟩ := (show ObjOk X.prog X.w H s.heap a (.frz ob (.lst xs)) from I.hok a _ ea)
    exact PySem.W.kia_one PySem.W.kitx_list I.kIn ⟨_, h1, rfl⟩ e (fun z => nomatch z) h
  | @tup a xs ea =>
    cases (show u = Value.ref a from rx)
    obtain ⟨_, _, _, p⟩ := (show ObjOk X.prog X.w H s.heap a (.tup xs) from I.hok a _ ea)
    obtain ⟨o, h1, h2, _⟩ := p
    exact PySem.W.kia_one PySem.W.kitx_tuple I.kIn ⟨o, h1, h2⟩ e (fun z => nomatch z) h
  | @dK a kvs ea =>
    cases (show u = Value.ref a from rx)
    obtain ⟨_, _, vs, _, p⟩ := (show ObjOk X.prog X.w H s.heap a (.dK kvs) from I.hok a _ ea)
    obtain ⟨o, es, ep, h1, h2, _⟩ := p
    exact PySem.W.kia_one PySem.W.kitx_dict I.kIn ⟨o, h1, h2.1⟩ e (fun z => nomatch z) h
  | @dT a kvs ea =>
    cases (show u = Value.ref a from rx)
    obtain ⟨_, _, xs, _, o, es, ep, h1, h2, _⟩ := (show ObjOk X.prog X.w H s.heap a (.dT kvs) from I.hok a _ ea)
    exact PySem.W.kia_one PySem.W.kitx_dict I.kIn ⟨o, h1, h2.1⟩ e (fun z => nomatch z) h
  | @ins a C dx fs ea cl ha hn htk hm =>
    cases (show u = Value.ref a from rx)
    obtain ⟨mA, O, _⟩ := ins_get I.hok ea
    obtain ⟨od, J, _⟩ := O.look
    exact PySem.W.kia_one (PySem.W.kitx_own (cl.get _) cl.hd ha hn htk hm) I.kIn J e (fun z => nomatch z) h
end
end L2

namespace L2
open PySem PySem.Spec PyProof.Rows

/-! ### room -/
structure Room (k : Nat) (A : Around) : Prop where
  hd : A.handled = none
  dp : A.depth + 3 * k + 5 < recursionLimit
  un : A.units + 16 * k + 200 < cLine
theorem Room.mono {j k : Nat} {A : Around} (r : Room k A) (h : j ≤ k) : Room j A := ⟨r.hd, by have := r.dp; exact OmL.om15 h this, by have := r.un; exact OmL.om16 h this⟩
theorem Room.deeper {k : Nat} {A : Around} (r : Room (k + 1) A) (env : Env) : Room k (A.deeper env) :=
  ⟨r.hd, by have := r.dp; show A.depth + 1 + 3 * k + 5 < _; exact OmL.om17 this, by have := r.un; show A.units + 3 + 16 * k + 200 < _; exact OmL.om18 this⟩
theorem Room.depth {k : Nat} {A : Around} (r : Room k A) : A.depth < recursionLimit := by have := r.dp; exact OmL.om19 this
theorem Room.units {k : Nat} {A : Around} (r : Room k A) : A.units + 64 < cLine := by have := r.un; exact OmL.om20 this
theorem Room.units0 {k : Nat} {A : Around} (r : Room k A) : A.units < cLine := by have := r.un; exact OmL.om21 this

/-! ### argument lists and displays -/
noncomputable def tNil : TA := fun _ H Q => Q [] H
noncomputable def tCons (ta : TE) (tr : TA) : TA := fun σ H Q => ta σ H fun x H1 => tr σ H1 fun xs H2 => Q (x :: xs) H2
section
variable {X : Cx} {e : Expr} {es : List Expr} {te : TE} {t : TA} {pos : Pos}
theorem pa_nil : PA X [] tNil := fun _ _ _ _ H Q I h => Calls.spliced_nil ⟨[], H, I, .nil, h⟩
theorem pa_cons (ha : PE X e te) (hr : PA X es t) (hs : starEach (e :: es) X.env = (false, eval e X.env) :: starEach es X.env := by rfl) : PA X (e :: es) (tCons te t) := by
  intro pos pins s σ H Q I h
  rw [hs]
  show wpAny _ _ (spliced ((false, eval e X.env) :: backTo pos (starEach es X.env))) _ _ s
  refine Calls.spliced_cons (thn (ha pins s σ H _ I h) fun u s1 ⟨x, H1, I1, r1, q1⟩ => ?_)
  exact thn (hr pos pins s1 σ H1 _ I1 q1) fun us s2 ⟨xs, H2, I2, r2, q2⟩ => ⟨x :: xs, H2, I2, .cons r1 r2, q2⟩

/-- a tuple, a list of written items -/
noncomputable def tTup (t : TA) : TE := fun σ H Q => t σ H fun xs H1 => xs.length ≤ sizeLine ∧ ∀ p, H1 p = none → Q (.ref p) (upd H1 p (.tup xs))
noncomputable def tLst (t : TA) : TE := fun σ H Q => t σ H fun xs H1 => xs.length ≤ sizeLine ∧ ∀ p, H1 p = none → Q (.ref p) (upd H1 p (.lst xs))
theorem pe_tup {x1} (h : PA X es t) : PE X (.Tuple es x1 pos) (tTup t) := by
  intro pins s σ H Q I hq
  refine wpAny_Tuple_spliced (thn (h pos pins s σ H _ I hq) fun us s1 ⟨xs, H1, I1, r, z, q⟩ => ⟨by rw [← r.length]; exact z, ?_⟩)
  have hf : H1 s1.heap.objs.size = none := I1.hok.fresh (Nat.le_refl _)
  refine ⟨.ref s1.heap.objs.size, upd H1 s1.heap.objs.size (.tup xs), I1.laid (t' := s1.toks) (fun b u e => Heap.get?_push_of_some _ e) (Nat.le_refl _) ?_, rfl, q _ hf⟩
  exact ⟨z, us, r, ⟨_, Heap.get?_push_size _ rfl, rfl, _, rfl⟩⟩
theorem pe_lst (h : PA X es t) : PE X (.List es pos) (tLst t) := by
  intro pins s σ H Q I hq
  refine wpAny_List_spliced (thn (h pos pins s σ H _ I hq) fun us s1 ⟨xs, H1, I1, r, z, q⟩ => ⟨by rw [← r.length]; exact z, ?_⟩)
  have hf : H1 s1.heap.objs.size = none := I1.hok.fresh (Nat.le_refl _)
  refine ⟨.ref s1.heap.objs.size, upd H1 s1.heap.objs.size (.lst xs), I1.laid (t' := s1.toks) (fun b u e => Heap.get?_push_of_some _ e) (Nat.le_refl _) ?_, rfl, q _ hf⟩
  exact ⟨z, us, 0, r, Heap.get?_push_size _ rfl⟩
end

/-! ### what a def promises -/
/-- a def's promise: the bound arguments in the parameters' order, the heap, the wanted end, the wanted exception -/
noncomputable abbrev Sp := List V → Hp → VK → XK → Prop
/-- how an exception lies behind a call (file 08 gives it): the callers' frames, abstract heap and state ahead of the call, the wish, the exception, the state -/
noncomputable abbrev CXT := List Env → Hp → Shared → XK → Value → Shared → Prop

/-- the state at a call -/
structure Env0 (P : Program) (w : World) (K : PySem.W.Frag) (mg : Str → Option Value) (base : Heap) (A : Around) (outer : List Env) (s : Shared) (H : Hp) : Prop where
  frames : A.frames = some outer
  mod : Mod K mg base
  bs : ∀ b o, base.get? b = some o → s.heap.get? b = some o ∧ H b = none
  bsz : base.objs.size ≤ s.heap.objs.size
  funs : s.heap.FunFrames base outer
  frf : ∀ b ∈ frs outer, H b = none
  hok : HOk P w H s.heap
  bare : AllBare s.gens
/-- a call's end -/
noncomputable def CE (outer : List Env) (P : Program) (w : World) (H : Hp) (s : Shared) (Q : VK) (u : Value) (s' : Shared) : Prop :=
  ∃ v H', s'.os = s.os ∧ AllBare s'.gens ∧ Un (frs outer) [] H H' s.heap s'.heap ∧ HOk P w H' s'.heap ∧ RelV v u ∧ Q v H'
noncomputable def CR (CX : CXT) (outer : List Env) (P : Program) (w : World) (H : Hp) (s : Shared) (Q : VK) (E : XK) (r : Result) (s' : Shared) : Prop :=
  match r with
  | .ok (.ret u) => CE outer P w H s Q u s'
  | .ok _ => False
  | .error e => CX outer H s E e s'
structure FnOk (P : Program) (w : World) (K : PySem.W.Frag) (mg : Str → Option Value) (base : Heap) (CX : CXT) (k : Nat) (f : Addr) (fd : FuncData) (ps : List Str) (sp : Sp) : Prop where
  len : ∀ vs H Q E, sp vs H Q E → vs.length = ps.length
  run : ∀ (A : Around) (outer : List Env) (s : Shared) (H : Hp) (args : Args) (us : List Value) (vs : List V) (Q : VK) (E : XK), Room k A → Env0 P w K mg base A outer s H → BindsTo s fd args (ps.zip us) → Vals vs us → sp vs H Q E →
    codeAny (model P w) A (.call (.ref f) args) (CR CX outer P w H s Q E) s
section
variable {X : Cx} {pins : List (Addr × Obj)} {σ : St} {H : Hp} {s s' : Shared}
/-- from a body: what a callee wants -/
theorem Inv.env0 (I : Inv X pins σ H s) : Env0 X.prog X.w X.K X.mg X.base X.A X.stack s H :=
  ⟨I.ok.frames, I.ok.mod, I.bs, Nat.le_trans I.ok.bsz I.sz, I.stack, I.stkFree, I.hok, I.bare⟩
/-- behind a call -/
theorem Inv.after {Q : VK} {u : Value} (I : Inv X pins σ H s) (h : CE X.stack X.prog X.w H s Q u s') : EP X pins σ Q u s' := by
  obtain ⟨v, H', os, bare, un, hok, r, q⟩ := h
  obtain ⟨hh, g, d, t, os'⟩ := s'
  obtain rfl : os' = s.os := os
  exact ⟨v, H', I.call (h' := hh) (g' := g) (d' := d) (t' := t) (ch := []) un hok bare (fun b z => absurd z (by simp)), r, q⟩
end

/-! ### calls -/
/-- f(..): the written arguments, then the defaults dvs; E: what is wanted of an exception -/
noncomputable def tCall (sp : Sp) (dvs : List V) (E : XK) (t : TA) : TE := fun σ H Q => t σ H fun vs H1 => sp (vs ++ dvs) H1 Q E
/-- how the parameters are bound: us the positional arguments, kw the keywords' values by name, ds the defaults that fill up -/
noncomputable def Binds (K : PySem.W.Frag) (fd : FuncData) (ps : List Str) (ds : List Value) : Prop :=
  ∀ (s : Shared) (us : List Value), K.In s.heap → (us ++ ds).length = ps.length → BindsTo s fd ⟨us, []⟩ (ps.zip (us ++ ds))
/-- every parameter is given -/
theorem Binds.all {K : PySem.W.Frag} {fd : FuncData} {ps : List Str} (h : ∀ us : List Value, us.length = ps.length → bindArgs fd ⟨us, []⟩ = pure (ps.zip us)) : Binds K fd ps [] := fun s us _ hl => by
  rw [List.append_nil] at hl ⊢
  exact .of_eq (h us hl)

/-- an exception of a callee reaches what this body wants of exceptions -/
noncomputable def Passes (CX : CXT) (X : Cx) (E : XK) : Prop := ∀ (pins : List (Addr × Obj)) (σ : St) (H : Hp) (s : Shared) (e : Value) (s' : Shared), Inv X pins σ H s → CX X.stack H s E e s' → X.xe e s'

section
variable {X : Cx} {CX : CXT} {k : Nat} {f C : Addr} {fd : FuncData} {ps : List Str} {sp : Sp} {dvs : List V} {ds : List Value} {E : XK} {x m : Str} {p pos apos : Pos} {e o : Expr} {es : List Expr} {ta : TE} {t : TA}

/-- the callee runs -/
theorem run_fn {pins : List (Addr × Obj)} {σ : St} {H : Hp} {s : Shared} {Q : VK} {us : List Value} {vs : List V} (F : FnOk X.prog X.w X.K X.mg X.base CX k f fd ps sp) (hr : Room k X.A) (hb : Binds X.K fd ps ds) (hd : Vals dvs ds) (hx : Passes CX X E)
    (I : Inv X pins σ H s) (r : Vals vs us) (h : sp (vs ++ dvs) H Q E) : wpAny (model X.prog X.w) X.A (call (.ref f) us) (EP X pins σ Q) X.xe s := by
  have r2 : Vals (vs ++ dvs) (us ++ ds) := r.append hd
  have hl : (us ++ ds).length = ps.length := by rw [← r2.length]; exact F.len _ _ _ _ h
  refine wpAny_call (codeAny_mono (F.run X.A X.stack s H ⟨us, []⟩ (us ++ ds) (vs ++ dvs) Q E hr I.env0 (hb s us I.kIn hl) r2 h) fun r s' hq => ?_)
  cases r with
  | error e => exact hx pins σ H s e s' I hq
  | ok fl =>
    cases fl with
    | ret u => exact I.after hq
    | next => exact False.elim hq
    | brk => exact False.elim hq
    | cont => exact False.elim hq

theorem pe_call (F : FnOk X.prog X.w X.K X.mg X.base CX k f fd ps sp) (hr : Room k X.A) (hg : Gl X x) (hm : X.mg x = some (.ref f)) (hk : PySem.W.keepIn X.K (.ref f) = true) (hb : Binds X.K fd ps ds) (hd : Vals dvs ds) (hx : Passes CX X E)
    (ha : PA X (e :: es) t) (hdb : (x == ("__debug__" : Str)) = false := by decide) (he : starEach (e :: es) X.env = (false, eval e X.env) :: starEach es X.env := by rfl) (hpl : (backTo pos (starEach es X.env)).any (·.1) = false := by rfl) :
    PE X (.Call (.Name x p) (e :: es) [] pos) (tCall sp dvs E t) := by
  intro pins s σ H Q I h
  refine wpAny_Call_Name_kw (ld_glob I hg hm ?_ hdb)
  refine PySem.W.callWith_K (h₀ := X.base) I.ok.mod.kin hk (thn (ha pos pins s σ H _ I h) fun us s1 ⟨vs, H1, I1, r, q⟩ => ⟨I1.kIn, ?_⟩) he hpl
  exact run_fn F hr hb hd hx I1 r q
end

/-! ### keywords -/
section
variable {X : Cx} {CX : CXT} {k : Nat} {f C : Addr} {fd : FuncData} {ps ks : List Str} {sp : Sp} {E : XK} {x m : Str} {p pos apos kpos : Pos} {e o : Expr} {es : List Expr} {kws : List Keyword} {te ta : TE} {t tk : TA} {nm : Option Str}
variable {g : List Value → List Value → List Value} {gV : List V → List V → List V}
end

/-! ### a def's body keeps its promise -/
/-- names: the parameters first -/
structure FnScope (N P : List Str) (sc : Scope) : Prop where
  kind : sc.kind = .function
  co : sc.isCoroutine = false
  gen : sc.isGenerator = false
  nd : N.Nodup
  pre : N.take P.length = P
  par : ∀ x ∈ P, sc.names.lookup x = some .local ∨ sc.names.lookup x = some .cell
  nofree : ∀ y ∈ sc.names, y.2 ≠ .free

theorem bindL_out {kindOf : Str → Option NameKind} {x : Str} : ∀ {binds : List (Str × Value)} {m : Str → Option Value}, (∀ v, (x, v) ∉ binds) → bindL kindOf binds m x = m x
  | [], _, _ => rfl
  | (n, v) :: r, m, h => by
    unfold bindL
    rw [bindL_out fun w hw => h w (List.mem_cons_of_mem _ hw)]
    split
    · have : x ≠ n := by rintro rfl; exact h v List.mem_cons_self
      simp [this]
    · rfl
theorem bindC_out {kindOf : Str → Option NameKind} {x : Str} : ∀ {binds : List (Str × Value)} {m : Str → Option Value}, (∀ v, (x, v) ∉ binds) → bindC kindOf binds m x = m x
  | [], _, _ => rfl
  | (n, v) :: r, m, h => by
    unfold bindC
    rw [bindC_out fun w hw => h w (List.mem_cons_of_mem _ hw)]
    split
    · rfl
    · have : x ≠ n := by rintro rfl; exact h v List.mem_cons_self
      simp [this]
theorem bindL_get {kindOf : Str → Option NameKind} {x : Str} {v : Value} : ∀ {P : List Str} {vs : List Value} {i : Nat} {m : Str → Option Value}, P.Nodup → P[i]? = some x → vs[i]? = some v → kindOf x = some .local →
    bindL kindOf (P.zip vs) m x = some v
  | [], _, _, _, _, h, _, _ => by simp at h
  | _ :: _, [], _, _, _, _, h, _ => by simp at h
  | p :: P, w :: vs, 0, m, nd, h1, h2, hk => by
    simp at h1 h2; subst h1; subst h2
    show bindL kindOf ((p, w) :: P.zip vs) m p = _
    unfold bindL
    rw [bindL_out fun v hv => (List.nodup_cons.mp nd).1 (List.of_mem_zip hv).1, if_pos hk]
    simp
  | p :: P, w :: vs, i + 1, m, nd, h1, h2, hk => by
    show bindL kindOf ((p, w) :: P.zip vs) m x = _
    unfold bindL
    exact bindL_get (i := i) (List.nodup_cons.mp nd).2 (by simpa using h1) (by simpa using h2) hk
theorem bindC_get {kindOf : Str → Option NameKind} {x : Str} {v : Value} : ∀ {P : List Str} {vs : List Value} {i : Nat} {m : Str → Option Value}, P.Nodup → P[i]? = some x → vs[i]? = some v → kindOf x ≠ some .local →
    bindC kindOf (P.zip vs) m x = some v
  | [], _, _, _, _, h, _, _ => by simp at h
  | _ :: _, [], _, _, _, _, h, _ => by simp at h
  | p :: P, w :: vs, 0, m, nd, h1, h2, hk => by
    simp at h1 h2; subst h1; subst h2
    show bindC kindOf ((p, w) :: P.zip vs) m p = _
    unfold bindC
    rw [bindC_out fun v hv => (List.nodup_cons.mp nd).1 (List.of_mem_zip hv).1, if_neg hk]
    simp
  | p :: P, w :: vs, i + 1, m, nd, h1, h2, hk => by
    show bindC kindOf ((p, w) :: P.zip vs) m x = _
    unfold bindC
    exact bindC_get (i := i) (List.nodup_cons.mp nd).2 (by simpa using h1) (by simpa using h2) hk

/-- the names' values at the entry -/
noncomputable def start (N : List Str) (vs : List V) : St := vs.map some ++ List.replicate (N.length - vs.length) none

/-- the context of a def's body, at its entry; an exception leaves the frame, then lies as CX says -/
noncomputable def cxOf (CX : CXT) (P : Program) (w : World) (K : PySem.W.Frag) (mg : Str → Option Value) (base : Heap) (N : List Str) (qual : Str) (scope : Scope) (f : Addr) (cd : Value) (A : Around) (outer : List Env) (s : Shared) (H : Hp) (E : XK) : Cx where
  prog := P
  w := w
  K := K
  mg := mg
  base := base
  A := A.deeper (envOfC qual scope s.heap.objs.size f cd)
  N := N
  s₀ := s
  H₀ := H
  env := envOfC qual scope s.heap.objs.size f cd
  outer := outer
  stack := envOfC qual scope s.heap.objs.size f cd :: outer
  ex := []
  calm := true
  fn := fun _ => true
  pn := []
  xe := fun e s' => wpAny (model P w) (A.deeper (envOfC qual scope s.heap.objs.size f cd)) (leaving (envOfC qual scope s.heap.objs.size f cd) e) (fun _ s'' => CX outer H s E e s'') (fun e' s'' => CX outer H s E e' s'') s'

theorem cell_has {sc : Scope} {n : Nat} {x : Str} (h : sc.names.lookup x = some .cell) : ∃ c, (cellsFrom n sc.names []).lookup x = some c := by
  have q := PySem.W.cellsFrom_some sc.names n [] (.inl h)
  exact Option.isSome_iff_exists.mp q

theorem inv_start {CX : CXT} {P : Program} {w : World} {K : PySem.W.Frag} {mg : Str → Option Value} {base : Heap} {N ps : List Str} {qual : Str} {scope : Scope} {f : Addr} {cd : Value} {A : Around} {outer : List Env} {s s1 : Shared} {H : Hp} {E : XK} {us : List Value} {vs : List V}
    (S : FnScope N ps scope) (hd : A.handled = none) (e0 : Env0 P w K mg base A outer s H) (hl : vs.length = ps.length) (r : Vals vs us)
    (x : InCallC s s.heap.objs.size (bindL (envOfC qual scope s.heap.objs.size f cd).kindOf (ps.zip us) fun _ => none) (cellsFrom (s.heap.objs.size + 1) scope.names []) (bindC (envOfC qual scope s.heap.objs.size f cd).kindOf (ps.zip us) fun _ => none) s1) :
    Inv (cxOf CX P w K mg base N qual scope f cd A outer s H E) [] (start N vs) H s1 := by
  have hpl : ps.length ≤ N.length := by have := congrArg List.length S.pre; rw [List.length_take] at this; exact OmL.om22 this
  obtain ⟨h1, tk, rfl, hk⟩ := x.done
  have noA : ∀ b : Addr, b ∉ (cxOf CX P w K mg base N qual scope f cd A outer s H E).ex := fun b z => absurd (show b ∈ ([] : List Addr) from z) (by simp)
  refine ⟨⟨e0.mod, S.kind, rfl, rfl, Nat.le_refl _, fun y z c h1 h2 => ?_, fun y hy => ?_, fun y c _ h => ?_, fun _ => hd, Around.frames_deeper e0.frames, .inr ⟨rfl, rfl⟩, fun b z => absurd z (noA b), e0.bs, e0.bsz, fun b _ _ => noA b, fun b z => absurd z (noA b), e0.funs, e0.frf⟩,
    rfl, e0.bare, Un.kept hk, ⟨_, x.toInCall.ns, fun i y v h1 h2 h3 => ?_⟩, fun y c h => ⟨_, x.cell y c h⟩, e0.hok.fresh (Nat.le_refl _), fun y c h => ?_, fun p hp => absurd (show p ∈ ([] : List (Addr × Obj)) from hp) (by simp), e0.hok.kept hk, ?_⟩
  · exact name_of_addr x.apart (PySem.mem_of_lookup h1) (PySem.mem_of_lookup h2)
  · have hy : scope.names.lookup y = some .cell ∨ scope.names.lookup y = some .free := hy
    rcases hy with hy | hy
    · exact cell_has hy
    · exact absurd rfl (S.nofree _ (PySem.mem_of_lookup hy))
  · exact Nat.le_of_lt (x.above y c (PySem.mem_of_lookup h))
  · have hi : i < vs.length := by
      unfold start at h2
      by_cases hi : i < vs.length
      · exact hi
      · rw [List.getElem?_append_right (by simpa using hi)] at h2
        rw [List.getElem?_replicate] at h2
        split at h2 <;> cases h2
    have ha : vs[i]? = some v := by
      unfold start at h2
      rw [List.getElem?_append_left (by simpa using hi), List.getElem?_map] at h2
      cases e : vs[i]? with
      | none => rw [e] at h2; cases h2
      | some a => rw [e] at h2; cases h2; rfl
    obtain ⟨u, hu, rv⟩ := r.get ha
    have hp : ps[i]? = some y := by
      rw [← S.pre, List.getElem?_take_of_lt (by exact OmL.om23 hl hi)]; exact h1
    have ndP : ps.Nodup := by rw [← S.pre]; exact S.nd.sublist (List.take_sublist _ _)
    refine ⟨u, rv, ?_⟩
    rcases S.par y (List.mem_of_getElem? hp) with k | k
    · exact .inl ⟨k, bindL_get ndP hp hu k⟩
    · obtain ⟨c, e⟩ := cell_has (n := s.heap.objs.size + 1) k
      refine .inr ⟨.inl k, c, e, ?_⟩
      have q := x.cell y c e
      rw [bindC_get ndP hp hu (by show scope.names.lookup y ≠ _; rw [k]; decide)] at q
      exact q
  · exact e0.hok.fresh (Nat.le_of_lt (x.above y c (PySem.mem_of_lookup h)))
  · unfold start
    show _ = N.length
    rw [List.length_append, List.length_map, List.length_replicate]
    exact OmL.om24 hl hpl

/-- THE RULE: a def (or a method) of the text, by its body. The body's reading t is chosen for each entry; it is run at the parameters' values -/
theorem fn_of {CX : CXT} {P : Program} {w : World} {K : PySem.W.Frag} {mg : Str → Option Value} {base : Heap} {k : Nat} {f : Addr} {name qual : Str} {params : Arguments} {body : List Stmt} {scope : Scope} {dV kV doc pm cdv ct oc : Value} {an od : Option Addr}
    {osl : Array (Option Value)} {N ps : List Str} {sp : Sp} (lk : K.lookup f = some ⟨oc, od, .func (PySem.W.fnOf name qual params body scope dV kV doc pm an cdv ct), osl⟩) (hcd : PySem.W.codeIn K cdv qual = true) (S : FnScope N ps scope)
    (len : ∀ vs H Q E, sp vs H Q E → vs.length = ps.length)
    (hbody : ∀ (A : Around) (outer : List Env) (s : Shared) (H : Hp) (vs : List V) (Q : VK) (E : XK), Room k (A.deeper (envOfC qual scope s.heap.objs.size f cdv)) → sp vs H Q E →
      ∃ t, PSs (cxOf CX P w K mg base N qual scope f cdv A outer s H E) body t ∧ t { nx := fun _ H' => Q .non H', rt := Q } (start N vs) H) :
    FnOk P w K mg base CX (k + 1) f (PySem.W.fnOf name qual params body scope dV kV doc pm an cdv ct) ps sp := by
  refine ⟨len, fun A outer s H args us vs Q E hr e0 hb r hsp => ?_⟩
  have hl := len _ _ _ _ hsp
  have KX : K.In s.heap := e0.mod.kin.keeps fun b o e => (e0.bs b o e).1
  have lim : s.heap.NoLimit := e0.mod.nolimit.keeps fun b o e => (e0.bs b o e).1
  have hkind : ∀ y ∈ ps.zip us, scope.names.lookup y.1 = some .local ∨ (scope.names.lookup y.1 = some .cell ∧ ((cellsFrom (s.heap.objs.size + 1) scope.names []).lookup y.1).isSome = true) := fun ⟨n, v⟩ hy => by
    rcases S.par n (List.of_mem_zip hy).1 with q | q
    · exact .inl q
    · exact .inr ⟨q, PySem.W.cellsFrom_some _ _ _ (.inl q)⟩
  refine codeAny_call_function hr.depth (KX _ _ lk) rfl S.co S.gen rfl (PySem.W.codeRec_of KX hcd) (hb _ _ _ _ ?_)
  refine wpAny_newFunctionEnv_cells S.kind hkind fun env he s1 x => ?_
  subst he
  refine ⟨lim.keeps x.toInCall.keep, codeAny_func ?_⟩
  obtain ⟨t, ht, hq⟩ := hbody A outer s H vs Q E (hr.deeper _) hsp
  have I : Inv (cxOf CX P w K mg base N qual scope f cdv A outer s H E) [] (start N vs) H s1 := inv_start S hr.hd e0 hl r x
  refine wpAny_mono (ht [] s1 (start N vs) H _ I hq) (fun fl s' hs => ?_) fun e s' hs => hs
  have fin : ∀ {σ' : St} {H' : Hp} {v : V} {u : Value}, Inv (cxOf CX P w K mg base N qual scope f cdv A outer s H E) [] σ' H' s' → RelV v u → Q v H' → CE outer P w H s Q u s' :=
    fun {σ' H' v u} J rv q => ⟨v, H', J.os, J.bare, J.base, J.hok, rv, q⟩
  cases fl with
  | ret u =>
    obtain ⟨v, σ', H', J, rv, q⟩ := hs
    exact fin J rv q
  | next =>
    obtain ⟨σ', H', J, q⟩ := hs
    exact fin (v := V.non) (u := Value.none) J rfl q
  | brk =>
    obtain ⟨_, _, _, q⟩ := hs
    exact False.elim q
  | cont =>
    obtain ⟨_, _, _, q⟩ := hs
    exact False.elim q
end L2

namespace L2
open PySem PySem.Spec PyProof.Rows
section
variable {X : Cx} {x : Str} {p pos : Pos} {e : Expr} {es : List Expr} {t : TA} {id T : String} {r : List V → Hp → VK → Prop}

noncomputable def tCB (r : List V → Hp → VK → Prop) (t : TA) : TE := fun σ H Q => t σ H fun vs H1 => r vs H1 Q
/-- f(e, ..), f a built-in function -/
theorem pe_callB (hc : CallR X (.builtin id) r) (hg : Gl X x) (hm : X.mg x = none) (hv : bootBuiltins x = some (.builtin id)) (ha : PA X (e :: es) t) (hn : x ≠ "__name__" := by decide) (hdb : (x == ("__debug__" : Str)) = false := by decide)
    (he : starEach (e :: es) X.env = (false, eval e X.env) :: starEach es X.env := by rfl) (hpl : (backTo pos (starEach es X.env)).any (·.1) = false := by rfl) : PE X (.Call (.Name x p) (e :: es) [] pos) (tCB r t) := by
  intro pins s σ H Q I h
  refine wpAny_Call_Name_kw (ld_blt I hg hm hv ?_ hn hdb)
  exact PyProof.Rows.callWith_builtin1 (thn (ha pos pins s σ H _ I h) fun us s1 ⟨vs, H1, I1, r1, q1⟩ => hc pins s1 σ H1 vs us Q I1 r1 q1) he hpl
/-- T(e, ..), T a built-in type -/
theorem pe_callTy (hc : CallR X (.type T) r) (hg : Gl X x) (hm : X.mg x = none) (hv : bootBuiltins x = some (.type T)) (ha : PA X (e :: es) t) (hn : x ≠ "__name__" := by decide) (hdb : (x == ("__debug__" : Str)) = false := by decide)
    (he : starEach (e :: es) X.env = (false, eval e X.env) :: starEach es X.env := by rfl) (hpl : (backTo pos (starEach es X.env)).any (·.1) = false := by rfl) : PE X (.Call (.Name x p) (e :: es) [] pos) (tCB r t) := by
  intro pins s σ H Q I h
  refine wpAny_Call_Name_kw (ld_blt I hg hm hv ?_ hn hdb)
  exact PyProof.Rows.callWith_type1 (thn (ha pos pins s σ H _ I h) fun us s1 ⟨vs, H1, I1, r1, q1⟩ => hc pins s1 σ H1 vs us Q I1 r1 q1) he hpl
end
end L2

namespace HT
open PySem PyProof.Rows

section
open PySem.SeqAt
open PySem.AutoSeq1 (wpAny_loadPart')
open PySem.MeetsSeq PySem.MeetsSeq2 PySem.MeetsSeq3

end

section
variable {prog : Program} {w : World} {A : Around} {E : Value → Shared → Prop} {s : Shared}

/-- t + u, t not empty -/
theorem cat_tup {t b : Addr} {vs ws : List Value} {Q : Value → Shared → Prop} (ht : IsTup s.heap t vs.toArray) (hb : IsTup s.heap b ws.toArray) (hv : vs ≠ [])
    (h1 : ws = [] → Q (.ref t) s) (h2 : ws ≠ [] → Q (.ref s.heap.objs.size) { s with heap := s.heap.push { cls := .type "tuple", data := .seq (vs ++ ws).toArray } })
    (hsz : vs.length + ws.length ≤ sizeLine) : wpAny (model prog w) A (binaryOp .Add (.ref t) (.ref b)) Q E s := by
  obtain ⟨⟨cls, dd, data, sl⟩, ho, hc, n, hd⟩ := id ht
  obtain ⟨⟨cls2, dd2, data2, sl2⟩, ho2, hc2, n2, hd2⟩ := id hb
  simp only at hc hd hc2 hd2
  subst hc hd hc2 hd2
  have e : vs.toArray ++ ws.toArray = (vs ++ ws).toArray := by simp
  by_cases hw : ws = []
  · exact concat_meets ⟨_, ho, rfl⟩ ⟨_, ho2, rfl⟩ noFill_tuple_add seq_tuple_add PySem.F.slot_tuple_add PySem.F.entry_tuple_add (PySem.F.args_tuple_add_2 _ _)
      (tuple_addW1 t b vs.toArray ws.toArray n n2 dd dd2 sl sl2 (by simpa using hv) (by simp [hw])) ⟨ho, ho2, h1 hw⟩
  · refine concat_meets ⟨_, ho, rfl⟩ ⟨_, ho2, rfl⟩ noFill_tuple_add seq_tuple_add PySem.F.slot_tuple_add PySem.F.entry_tuple_add (PySem.F.args_tuple_add_2 _ _)
      (tuple_addW2 t b vs.toArray ws.toArray n n2 dd dd2 sl sl2 (by simpa using hv) (by simpa using hw) (by rw [List.size_toArray, List.size_toArray]; exact hsz)) ⟨ho, ho2, ?_⟩
    rw [e]
    exact h2 hw

/-! ### t[a:b], not the whole -/
/-- a slice's bound as a place among n (d where it is left out) -/
noncomputable def sIx (n d : Nat) : Option Int → Nat
  | none => d
  | some v => if v < 0 then (v + (n : Int)).toNat else min v.toNat n
theorem sIx_none (n d : Nat) : sIx n d none = d := rfl
theorem sIx_nat (n d k : Nat) : sIx n d (some (k : Int)) = min k n := by
  show (if (k : Int) < 0 then ((k : Int) + (n : Int)).toNat else min (k : Int).toNat n) = min k n
  rw [if_neg (by exact OmL.om25), Int.toNat_natCast]
theorem sIx_le (n d : Nat) (hd : d ≤ n) (o : Option Int) : sIx n d o ≤ n := by
  cases o with
  | none => exact hd
  | some v =>
    show (if v < 0 then (v + (n : Int)).toNat else min v.toNat n) ≤ n
    by_cases hv : v < 0
    · rw [if_pos hv]; exact OmL.om26 hd hv
    · rw [if_neg hv]; exact Nat.min_le_right _ _
theorem clip_eq (v : Int) (n d : Nat) : (if v < 0 then max (v + (n : Int)) 0 else min v (n : Int)) = ((sIx n d (some v) : Nat) : Int) := by
  show (if v < 0 then max (v + (n : Int)) 0 else min v (n : Int)) = (((if v < 0 then (v + (n : Int)).toNat else min v.toNat n) : Nat) : Int)
  by_cases hv : v < 0
  · simp only [if_pos hv]; exact OmL.om27
  · simp only [if_neg hv]; exact OmL.om28 hv
theorem adjust_gen (lo hi : Option Int) (n : Nat) : Builtin.Slice.sliceAdjust lo hi 1 (n : Int) = (((sIx n 0 lo : Nat) : Int), ((sIx n n hi : Nat) : Int)) := by
  have h1 : ¬ ((1 : Int) < 0) := by exact OmL.om29
  unfold Builtin.Slice.sliceAdjust
  simp only [h1, if_false]
  refine Prod.ext ?_ ?_
  · cases lo with
    | none => rfl
    | some v => exact clip_eq v n 0
  · cases hi with
    | none => rfl
    | some v => exact clip_eq v n n
theorem places_gen (i j : Nat) : Builtin.Slice.slicePlaces (i : Int) (j : Int) 1 = j - i := by
  unfold Builtin.Slice.slicePlaces
  have h1 : (1 : Int) > 0 := by exact OmL.om30
  simp only [h1, if_true, Int.ediv_one]
  split <;> omega
theorem slicePart_ {v : Value} {o : Option Int} {Q : Option Int → Shared → Prop} (p : IsPart v o) (h : Q o s) : wpAny (model prog w) A (Builtin.Slice.slicePartIndex v) Q E s := by
  cases p with
  | none => exact slicePart_none h
  | int i t => exact slicePart_int h
theorem sliceApplied_gen {sl : Addr} {vl vu : Value} {lo hi : Option Int} {n : Nat} {Q : Int × Int × Nat → Shared → Prop} (hs : s.heap.IsSliceOf sl vl vu .none) (pl : IsPart vl lo) (pu : IsPart vu hi)
    (h : Q (((sIx n 0 lo : Nat) : Int), 1, sIx n n hi - sIx n 0 lo) s) : wpAny (model prog w) A (Builtin.Slice.sliceApplied (.ref sl) (pure (n : Int))) Q E s := by
  obtain ⟨os, hos, hcs, hds⟩ := id hs
  unfold Builtin.Slice.sliceApplied Builtin.Slice.sliceFields
  refine wpAny_bind (wpAny_bind (wpAny_field hos hds (x := vl) rfl (wpAny_bind (wpAny_field hos hds (x := vu) rfl (wpAny_bind (wpAny_field hos hds (x := .none) rfl (wpAny_pure ?_)))))))
  refine wpAny_bind (slicePart_none ?_)
  show wpAny _ _ (if ((1 : Int) == 0) = true then _ else _) _ _ s
  rw [if_neg (by decide)]
  refine wpAny_bind (slicePart_ pl (wpAny_bind (slicePart_ pu (wpAny_bind (wpAny_pure ?_)))))
  show wpAny _ _ (match Builtin.Slice.sliceAdjust lo hi 1 (n : Int) with | (lo, hi) => pure (lo, (1 : Int), Builtin.Slice.slicePlaces lo hi 1)) _ _ s
  rw [adjust_gen lo hi n]
  show wpAny _ _ (pure (((sIx n 0 lo : Nat) : Int), (1 : Int), Builtin.Slice.slicePlaces ((sIx n 0 lo : Nat) : Int) ((sIx n n hi : Nat) : Int) 1)) _ _ s
  rw [places_gen]
  exact wpAny_pure h
theorem pick_gen (xs : Array Value) (i k : Nat) : ((List.range k).filterMap fun (m : Nat) => xs[((i : Int) + (m : Int) * 1).toNat]?).toArray = ((xs.toList.drop i).take k).toArray := by
  have e : (fun (m : Nat) => xs[((i : Int) + (m : Int) * 1).toNat]?) = fun m => xs[i + m]? := by
    funext m
    have : ((i : Int) + (m : Int) * 1).toNat = i + m := by exact OmL.om31
    rw [this]
  rw [e]
  have := pick_run xs i k
  rw [List.filterMap_map] at this
  have e2 : ((fun x => xs[x]?) ∘ fun x => i + x) = fun m => xs[i + m]? := rfl
  rw [e2] at this
  rw [this]

theorem getItem_tuple_cut {t sl : Addr} {items : Array Value} {vl vu : Value} {lo hi : Option Int} {Q : Value → Shared → Prop} (ht : IsTup s.heap t items) (hs : s.heap.IsSliceOf sl vl vu .none) (pl : IsPart vl lo) (pu : IsPart vu hi)
    (hw : ¬ (sIx items.size 0 lo = 0 ∧ sIx items.size items.size hi = items.size))
    (h : Q (.ref s.heap.objs.size) { s with heap := s.heap.push { cls := .type "tuple", data := .seq ((items.toList.drop (sIx items.size 0 lo)).take (sIx items.size items.size hi - sIx items.size 0 lo)).toArray } })
    (hsz : items.size ≤ sizeLine) : wpAny (model prog w) A (getItem (.ref t) (.ref sl)) Q E s := by
  have htake : sizeOk (.seq ((items.toList.drop (sIx items.size 0 lo)).take (sIx items.size items.size hi - sIx items.size 0 lo)).toArray) := by
    show ((items.toList.drop (sIx items.size 0 lo)).take (sIx items.size items.size hi - sIx items.size 0 lo)).toArray.size ≤ sizeLine
    rw [List.size_toArray, List.length_take, List.length_drop, Array.length_toList]
    exact OmL.om32 hsz
  have hj : sIx items.size items.size hi ≤ items.size := sIx_le _ _ (Nat.le_refl _) hi
  obtain ⟨os, hos, hcs, hds⟩ := id hs
  have hTs : s.TypeIs (.ref sl) "slice" := ⟨os, hos, hcs⟩
  unfold getItem
  try with_reducible refine wpAny_holding ?_
  first | refine wpAny_bind (wpAny_pure ?_) | skip
  refine wpAny_bind (wpAny_sequenceKey ht.typeIs (by decide) ?_)
  refine wpAny_bind (wpAny_callSpecial?_slot (name := Str.ofString "__getitem__") ht.typeIs PyProof.Rows.slot_tuple_getitem
    (wpAny_call_entry PyProof.Rows.slot_tuple_getitem ht.typeIs entry_tuple_getitem ?_ (args_tuple_getitem _ _)))
  show wpAny _ _ (Builtin.Tuple.tupleItemsOf (.ref t) >>= _) _ _ s
  refine wpAny_bind (tupleItemsOf_ ht ?_)
  refine wpAny_bind (wpAny_typeOf hTs ?_)
  rw [if_pos (by decide)]
  refine wpAny_bind (sliceApplied_gen hs pl pu ?_)
  have hno : ¬ ((((sIx items.size 0 lo : Nat) : Int) == 0 && (1 : Int) == 1 && (sIx items.size items.size hi - sIx items.size 0 lo) == items.size) = true) := by
    intro q
    rw [Bool.and_eq_true, Bool.and_eq_true] at q
    have q1 : ((sIx items.size 0 lo : Nat) : Int) = 0 := eq_of_beq q.1.1
    have q2 : sIx items.size items.size hi - sIx items.size 0 lo = items.size := eq_of_beq q.2
    exact hw ⟨by exact OmL.om33 q1, by exact OmL.om34 hj q1 q2⟩
  show wpAny _ _ (if (((sIx items.size 0 lo : Nat) : Int) == 0 && (1 : Int) == 1 && (sIx items.size items.size hi - sIx items.size 0 lo) == items.size) = true then _ else _) _ _ s
  rw [if_neg hno, pick_gen]
  first
    | exact wpAny_bind (m := Builtin.Tuple.tupleExact _) (wpAny_newObj_type (wpAny_pure ⟨_, rfl, wpAny_pure h⟩) htake)
    | exact wpAny_bind (m := Builtin.Tuple.tupleExact _) (wpAny_newObj_type (wpAny_bind (wpAny_pure (wpAny_pure ⟨_, rfl, wpAny_pure h⟩))) htake)
    | exact wpAny_bind (wpAny_bind (m := Builtin.Tuple.tupleExact _) (wpAny_newObj_type (wpAny_pure (wpAny_pure ⟨_, rfl, wpAny_pure h⟩)) htake))
    | exact wpAny_bind (wpAny_bind (m := Builtin.Tuple.tupleExact _) (wpAny_newObj_type (wpAny_pure ⟨_, rfl, wpAny_pure h⟩) htake))
end
end HT

namespace L2
open PySem PySem.Spec PyProof.Rows

/-! ### the parts of a slice -/
noncomputable abbrev TO := St → Hp → (Option Int → Hp → Prop) → Prop
/-- a slice's part (left out, or an int) -/
noncomputable def PO (X : Cx) (e : Option Expr) (t : TO) : Prop :=
  ∀ (pins : List (Addr × Obj)) (s : Shared) (σ : St) (H : Hp) (Q : Option Int → Hp → Prop), Inv X pins σ H s → t σ H Q →
    wpAny (model X.prog X.w) X.A (evalPart e X.env) (fun u s' => ∃ o H', Inv X pins σ H' s' ∧ IsPart u o ∧ Q o H') X.xe s
noncomputable def tNoPart : TO := fun _ H Q => Q none H
noncomputable def tPart (t : TE) : TO := fun σ H Q => t σ H fun x H1 => ∃ i, x = .int i ∧ Q (some i) H1

section
variable {X : Cx} {e : Expr} {te : TE} {lo hi : Option Expr} {tl th : TO} {pos p2 : Pos}

theorem po_none : PO X none tNoPart := by
  intro pins s σ H Q I h
  rw [evalPart_none]
  exact wpAny_pure ⟨none, H, I, .none, h⟩
theorem po_some (h : PE X e te) : PO X (some e) (tPart te) := by
  intro pins s σ H Q I hw
  rw [evalPart_some]
  refine thn (h pins s σ H _ I hw) fun u s1 ⟨x, H1, I1, r1, q1⟩ => ?_
  obtain ⟨i, rfl, q⟩ := q1
  obtain ⟨t, rfl⟩ := r1
  exact ⟨some i, H1, I1, .int i t, q⟩

/-- what a slice of a value is, by values: the slice object stands at sl -/
noncomputable def SlR (X : Cx) (r : V → Option Int → Option Int → Hp → VK → Prop) : Prop :=
  ∀ (pins : List (Addr × Obj)) (s : Shared) (σ : St) (H : Hp) (x : V) (v vl vu : Value) (lo hi : Option Int) (sl : Addr) (Q : VK), Inv X pins σ H s → RelV x v → s.heap.IsSliceOf sl vl vu .none → IsPart vl lo → IsPart vu hi → r x lo hi H Q →
    ∃ T id, typeLookup (.type T) "__getitem__" = pure (some (.builtin id)) ∧ s.TypeIs v T ∧ wpAny (model X.prog X.w) X.A (getItem v (.ref sl)) (EP X pins σ Q) X.xe s
theorem SlR.or {r r' : V → Option Int → Option Int → Hp → VK → Prop} (h : SlR X r) (h' : SlR X r') : SlR X (fun x lo hi H Q => r x lo hi H Q ∨ r' x lo hi H Q) := by
  intro pins s σ H x v vl vu lo hi sl Q I rx hs pl pu q
  rcases q with q | q
  · exact h pins s σ H x v vl vu lo hi sl Q I rx hs pl pu q
  · exact h' pins s σ H x v vl vu lo hi sl Q I rx hs pl pu q
noncomputable def tSl (r : V → Option Int → Option Int → Hp → VK → Prop) (te : TE) (tl th : TO) : TE := fun σ H Q => te σ H fun x H1 => tl σ H1 fun l H2 => th σ H2 fun u H3 => r x l u H3 Q
/-- a[lo:hi], any a -/
theorem pe_slice {r : V → Option Int → Option Int → Hp → VK → Prop} (hr : SlR X r) (he : PE X e te) (hl : PO X lo tl) (hu : PO X hi th) : PE X (.Subscript e (.Slice lo hi none p2) pos) (tSl r te tl th) := by
  intro pins s σ H Q I h
  refine Subscript_ (thn (he pins s σ H _ I h) fun v s1 ⟨x, H1, I1, r1, q1⟩ => ?_)
  refine wpAny_Slice (thn (hl pins s1 σ H1 _ I1 q1) fun vl s2 ⟨l, H2, I2, pl, q2⟩ => thn (hu pins s2 σ H2 _ I2 q2) fun vu s3 ⟨u, H3, I3, pu, q3⟩ => ?_)
  rw [evalPart_none]
  refine wpAny_pure ?_
  have I4 : Inv X pins σ H3 { s3 with heap := s3.heap.push { cls := .type "slice", data := .fields #[vl, vu, .none] } } := I3.kept (t' := s3.toks) fun b ob q => Heap.get?_push_of_some _ q
  obtain ⟨T, id, hT, ht, hg⟩ := hr pins { s3 with heap := s3.heap.push { cls := .type "slice", data := .fields #[vl, vu, .none] } } σ H3 x v vl vu l u s3.heap.objs.size Q I4 r1 (Heap.IsSliceOf.new ..) pl pu q3
  show wpAny (model X.prog X.w) X.A (subscriptTail e (.Slice lo hi none p2) v (.ref s3.heap.objs.size)) (EP X pins σ Q) X.xe { s3 with heap := s3.heap.push { cls := .type "slice", data := .fields #[vl, vu, .none] } }
  exact tail_any (ops := [.ref s3.heap.objs.size, v]) ht hT hg (by with_unfolding_all rfl)

/-- the items of xs[lo:hi] -/
noncomputable def cutV (xs : List V) (lo hi : Option Int) : List V := (xs.drop (HT.sIx xs.length 0 lo)).take (HT.sIx xs.length xs.length hi - HT.sIx xs.length 0 lo)
theorem cutV_length (xs : List V) (lo hi : Option Int) : (cutV xs lo hi).length ≤ xs.length := by
  unfold cutV
  rw [List.length_take, List.length_drop]
  exact OmL.om35
/-- t[lo:hi], not the whole of it (the whole would be t itself) -/
noncomputable def rSlT (K : PySem.W.Frag) : V → Option Int → Option Int → Hp → VK → Prop := fun x lo hi H Q => ∃ a xs, x = .ref a ∧ SqT K H a xs ∧
  ¬ (HT.sIx xs.length 0 lo = 0 ∧ HT.sIx xs.length xs.length hi = xs.length) ∧ ∀ p, H p = none → Q (.ref p) (upd H p (.tup (cutV xs lo hi)))
theorem sl_tup : SlR X (rSlT X.K) := by
  intro pins s σ H x v vl vu lo hi sl Q I rx hs pl pu h
  obtain ⟨a, xs, rfl, hx, hw, q⟩ := h
  cases rx
  obtain ⟨its, r, ht, hz⟩ := I.tuple hx
  have hlen : its.toArray.size = xs.length := by rw [List.size_toArray]; exact r.length.symm
  refine ⟨"tuple", _, PyProof.Rows.slot_tuple_getitem.lookup, ht.typeIs, ?_⟩
  refine HT.getItem_tuple_cut ht hs pl pu (by rw [hlen]; exact hw) ?_ (by rw [hlen]; exact hz)
  rw [hlen]
  refine ⟨.ref s.heap.objs.size, _, I.laid (t' := s.toks) (o := .tup (cutV xs lo hi)) (fun b ob q => Heap.get?_push_of_some _ q) (Nat.le_refl _) ?_, rfl, q _ (I.hok.fresh (Nat.le_refl _))⟩
  exact ⟨Nat.le_trans (cutV_length xs lo hi) hz, _, (r.drop (HT.sIx xs.length 0 lo)).take (HT.sIx xs.length xs.length hi - HT.sIx xs.length 0 lo), IsTup.new _ _⟩

/-! ### t < u, t + u -/
/-- t + u, t not empty: u empty gives t itself -/
noncomputable def rCatT (K : PySem.W.Frag) : R2 := fun x y H Q => ∃ a b xs ys, x = .ref a ∧ y = .ref b ∧ SqT K H a xs ∧ SqT K H b ys ∧ xs ≠ [] ∧ xs.length + ys.length ≤ sizeLine ∧
  (ys = [] → Q (.ref a) H) ∧ (ys ≠ [] → ∀ p, H p = none → Q (.ref p) (upd H p (.tup (xs ++ ys))))
theorem Vals.nil_iff {xs : List V} {us : List Value} (r : Vals xs us) : us = [] ↔ xs = [] := by
  cases r with
  | nil => simp
  | cons _ _ => simp
theorem op_catT : OpR X (binaryOp .Add) (rCatT X.K) := by
  intro pins s σ H x y v u Q I rx ry h
  obtain ⟨a, b, xs, ys, rfl, rfl, ha, hb, hx, hz, q1, q2⟩ := h
  cases rx
  cases ry
  obtain ⟨its, r1, p1, _⟩ := I.tuple ha
  obtain ⟨its2, r2, p2, _⟩ := I.tuple hb
  refine HT.cat_tup p1 p2 (fun z => hx (r1.nil_iff.mp z)) (fun z => ⟨.ref a, H, I, rfl, q1 (r2.nil_iff.mp z)⟩) (fun z => ?_) (by rw [← r1.length, ← r2.length]; exact hz)
  refine ⟨.ref s.heap.objs.size, _, I.laid (t' := s.toks) (o := .tup (xs ++ ys)) (fun b ob q => Heap.get?_push_of_some _ q) (Nat.le_refl _) ?_, rfl, q2 (fun w => z (r2.nil_iff.mpr w)) _ (I.hok.fresh (Nat.le_refl _))⟩
  exact ⟨by rw [List.length_append]; exact hz, _, r1.append r2, IsTup.new _ _⟩
end
end L2

namespace L2
open PySem PySem.Spec PyProof.Rows

/-! ### places -/
/-- the place that an index of any sign means -/
noncomputable def ixN (n : Nat) (i : Int) : Option Nat := if 0 ≤ i then (if i < n then some i.toNat else none) else if -(n : Int) ≤ i then some (i + n).toNat else none
noncomputable def atI {α : Type} (xs : List α) (i : Int) : Option α := (ixN xs.length i).bind fun j => xs[j]?
theorem ixN_seq {n : Nat} {i : Int} {j : Nat} (h : ixN n i = some j) : seqIndex? i n = some j ∧ j < n ∧ -(n : Int) ≤ i ∧ i < n := by
  unfold ixN at h
  by_cases h0 : 0 ≤ i
  · rw [if_pos h0] at h
    by_cases h1 : i < n
    · rw [if_pos h1] at h
      have e : i.toNat = j := Option.some.inj h
      exact ⟨by rw [seqIndex_of h0 h1, e], by exact OmL.om36 h0 h1 e, by exact OmL.om37 h0, h1⟩
    · rw [if_neg h1] at h; cases h
  · rw [if_neg h0] at h
    by_cases h1 : -(n : Int) ≤ i
    · rw [if_pos h1] at h
      have e : (i + n).toNat = j := Option.some.inj h
      exact ⟨by rw [seqIndex_neg (by exact OmL.om38 h0) h1, e], by exact OmL.om39 h0 h1 e, h1, by exact OmL.om40 h0 h1⟩
    · rw [if_neg h1] at h; cases h
theorem atI_get {α : Type} {xs : List α} {i : Int} {v : α} (h : atI xs i = some v) : ∃ j, seqIndex? i xs.length = some j ∧ xs[j]? = some v ∧ j < xs.length ∧ -(xs.length : Int) ≤ i ∧ i < xs.length := by
  unfold atI at h
  cases e : ixN xs.length i with
  | none => rw [e] at h; cases h
  | some j =>
    rw [e] at h
    obtain ⟨h1, h2, h3, h4⟩ := ixN_seq e
    exact ⟨j, h1, h, h2, h3, h4⟩
theorem atI_nat {α : Type} {xs : List α} {j : Nat} {v : α} (h : xs[j]? = some v) : atI xs (j : Int) = some v := by
  have hj : j < xs.length := (List.getElem?_eq_some_iff.mp h).1
  have e : ixN xs.length (j : Int) = some j := by
    unfold ixN
    rw [if_pos (by exact OmL.om41), if_pos (by exact OmL.om42 hj)]; simp
  unfold atI; rw [e]; exact h
/-! ### what may be subscripted -/
/-- what stands as an index of a plain subscript -/
noncomputable def PlainIx (b : Expr) : Prop := ∀ o i, subscripted b false o i = operate [o, i] (getItem o i)
/-- a subscript by values -/
noncomputable def IxR (X : Cx) (r : R2) : Prop :=
  ∀ (value slice : Expr) (pins : List (Addr × Obj)) (s : Shared) (σ : St) (H : Hp) (x y : V) (v u : Value) (Q : VK), Inv X pins σ H s → RelV x v → RelV y u → r x y H Q →
    subscripted slice false v u = operate [v, u] (getItem v u) → wpAny (model X.prog X.w) X.A (subscriptTail value slice v u) (EP X pins σ Q) X.xe s
/-- a call of a builtin's method by values: the receiver, the arguments -/
noncomputable def MtR (X : Cx) (id : String) (r : V → List V → Hp → VK → Prop) : Prop :=
  ∀ (pins : List (Addr × Obj)) (s : Shared) (σ : St) (H : Hp) (x : V) (xs : List V) (v : Value) (us : List Value) (Q : VK), Inv X pins σ H s → RelV x v → Vals xs us → r x xs H Q →
    wpAny (model X.prog X.w) X.A (call (.builtin id) (v :: us)) (EP X pins σ Q) X.xe s
section
variable {X : Cx} {a b : Expr} {ta tb : TE} {pos : Pos}
theorem IxR.or {r r' : R2} (h : IxR X r) (h' : IxR X r') : IxR X (fun x y H Q => r x y H Q ∨ r' x y H Q) := by
  intro value slice pins s σ H x y v u Q I rx ry q hs
  rcases q with q | q
  · exact h value slice pins s σ H x y v u Q I rx ry q hs
  · exact h' value slice pins s σ H x y v u Q I rx ry q hs
/-- a[b] -/
theorem pe_ix {r : R2} (hr : IxR X r) (ha : PE X a ta) (hb : PE X b tb) (hs : PlainIx b) : PE X (.Subscript a b pos) (tOp r ta tb) := by
  intro pins s σ H Q I h
  exact Subscript_ (binT ha hb I h fun v u s2 x y H2 I2 rx ry q => hr a b pins s2 σ H2 x y v u Q I2 rx ry q (hs _ _))

noncomputable def rIxL (K : PySem.W.Frag) : R2 := fun x y H Q => ∃ p xs i v, x = .ref p ∧ y = .int i ∧ SqL K H p xs ∧ atI xs i = some v ∧ Q v H
noncomputable def rIxT (K : PySem.W.Frag) : R2 := fun x y H Q => ∃ p xs i v, x = .ref p ∧ y = .int i ∧ SqT K H p xs ∧ atI xs i = some v ∧ Q v H
noncomputable def rIxS : R2 := fun x y H Q => ∃ z i c, x = .str z ∧ y = .int i ∧ z.length ≤ sizeLine ∧ atI z.cps.toList i = some c ∧ Q (.str ⟨#[c]⟩) H
theorem ix_list : IxR X (rIxL X.K) := by
  intro value slice pins s σ H x y v u Q I rx ry h hs
  obtain ⟨p, xs, i, z, rfl, rfl, hq, he, q⟩ := h
  cases rx
  obtain ⟨t, rfl⟩ := ry
  obtain ⟨its, r, pl, hz⟩ := I.list hq
  obtain ⟨j, h1, h2, h3, h4, h5⟩ := atI_get he
  obtain ⟨w, ew, rw'⟩ := r.get h2
  have hl := r.length
  have hn := line63
  have fin : EP X pins σ Q w s := ⟨z, H, I, rw', q⟩
  by_cases h0 : 0 ≤ i
  · have hj : i.toNat = j := by
      rw [seqIndex_of h0 h5] at h1
      exact Option.some.inj h1
    exact item_listR pl.isList h0 (by exact OmL.om43 hz h5 hl hn) (by rw [hj]; simpa using ew) fin hs
  · have hj : (i + (its.toArray.size : Int)).toNat = j := by
      rw [seqIndex_neg (by exact OmL.om38 h0) h4] at h1
      rw [List.size_toArray, ← hl]
      exact Option.some.inj h1
    exact subscriptTail_builtinR (x := w) pl.isList.typeIs slot_list_getitem.lookup
      (wpAny_getItem_list_neg (Q := fun r s' => r = w ∧ EP X pins σ Q r s') pl.isList (by exact OmL.om38 h0) (by rw [List.size_toArray] <;> exact OmL.om44 h4 hl) (by exact OmL.om45 hz h4 hl hn) (by rw [hj]; simpa using ew) ⟨rfl, fin⟩) hs
theorem ix_tup : IxR X (rIxT X.K) := by
  intro value slice pins s σ H x y v u Q I rx ry h hs
  obtain ⟨p, xs, i, z, rfl, rfl, hq, he, q⟩ := h
  cases rx
  obtain ⟨t, rfl⟩ := ry
  obtain ⟨its, r, pl, hz⟩ := I.tuple hq
  obtain ⟨j, h1, h2, h3, h4, h5⟩ := atI_get he
  obtain ⟨w, ew, rw'⟩ := r.get h2
  have hl := r.length
  have hn := line63
  have fin : EP X pins σ Q w s := ⟨z, H, I, rw', q⟩
  exact subscriptTail_builtinR (x := w) pl.typeIs slot_tuple_getitem.lookup
    (getItem_tuple (j := j) (Q := fun r s' => r = w ∧ EP X pins σ Q r s') pl (by exact OmL.om46 hz h3 h4 hl hn) (by exact OmL.om47 hz h3 h5 hl hn) (by rw [List.size_toArray, ← hl]; exact h1) (by simpa using ew) ⟨rfl, fin⟩) hs
theorem ix_str : IxR X rIxS := by
  intro value slice pins s σ H x y v u Q I rx ry h hs
  obtain ⟨z, i, c, rfl, rfl, hz, he, q⟩ := h
  obtain ⟨t, rfl⟩ := rx
  obtain ⟨t', rfl⟩ := ry
  obtain ⟨j, h1, h2, h3, h4, h5⟩ := atI_get he
  have hl : z.cps.toList.length = z.length := by simp [Str.length]
  rw [hl] at h1 h4 h5
  have hn := line63
  exact tail_any (typeIs_str s z t) slot_str_getitem.lookup (getItem_str (c := c) (by
    have e1 : decide (i < -(2 ^ 63 : Int)) = false := decide_eq_false (by exact OmL.om48 hz h4 hl hn)
    have e2 : decide (i ≥ 2 ^ 63) = false := decide_eq_false (by exact OmL.om49 hz h5 hl hn)
    rw [e1, e2, Bool.or_false]) (by rw [h1]; simpa using h2) ⟨.str ⟨#[c]⟩, H, I.tok _, ⟨_, rfl⟩, q⟩) hs
/-- list, tuple or str -/
noncomputable def rIx (K : PySem.W.Frag) : R2 := fun x y H Q => rIxL K x y H Q ∨ rIxT K x y H Q ∨ rIxS x y H Q
theorem ix_seq : IxR X (rIx X.K) := ix_list.or (ix_tup.or ix_str)

/-! ### xs[i] = v, any sign -/
/-- the list's object behind a store -/
theorem mapSeq_set (its : List Value) (n j : Nat) (u : Value) : Obj.mapSeq (·.setIfInBounds j u) { cls := .type "list", data := .seq its.toArray n } = { cls := .type "list", data := .seq (its.set j u).toArray n } := by
  simp [Obj.mapSeq]
theorem Inv.lst {pins : List (Addr × Obj)} {σ : St} {H : Hp} {s : Shared} {p : Addr} {xs : List V} (I : Inv X pins σ H s) (h : H p = some (.lst xs)) :
    ∃ (its : List Value) (n : Nat), Vals xs its ∧ s.heap.get? p = some { cls := .type "list", data := .seq its.toArray n } ∧ xs.length ≤ sizeLine := by
  obtain ⟨z, its, n, r, e⟩ := I.hok p _ h
  exact ⟨its, n, r, e, z⟩
/-- the list at p is written by an update of its object -/
theorem Inv.lstUpd {pins : List (Addr × Obj)} {σ : St} {H : Hp} {s : Shared} {p : Addr} {xs ys : List V} {its its' : List Value} {n n' : Nat} {f : Obj → Obj} (I : Inv X pins σ H s) (h : H p = some (.lst xs))
    (ho : s.heap.get? p = some { cls := .type "list", data := .seq its.toArray n }) (hf : f { cls := .type "list", data := .seq its.toArray n } = { cls := .type "list", data := .seq its'.toArray n' }) (r : Vals ys its') (hz : ys.length ≤ sizeLine) (t : Nat) :
    Inv X pins σ (upd H p (.lst ys)) { s with heap := s.heap.update p f, toks := t } := by
  have e : (s.heap.update p f).get? p = some { cls := .type "list", data := .seq its'.toArray n' } := by
    rw [Heap.get?_update_self f ho (by rw [hf] <;> rfl), hf]
  refine I.write (x := p) (e := p) (by rw [h]; trivial) (.inl rfl) (fun b u hb q => (Heap.get?_update_other _ _ (Ne.symm hb)).trans q) ⟨_, e⟩ ?_
  exact ⟨hz, its', n', r, e⟩
noncomputable def rSetL : V → V → V → Hp → (Hp → Prop) → Prop := fun o i v H Q => ∃ p xs k j, o = .ref p ∧ i = .int k ∧ H p = some (.lst xs) ∧ ixN xs.length k = some j ∧ Q (upd H p (.lst (xs.set j v)))
theorem set_list : PSet X rSetL := by
  intro pins s σ H o i v ov iv u Q I ro ri rv h
  obtain ⟨p, xs, k, j, rfl, rfl, hp, hj, q⟩ := h
  cases ro
  obtain ⟨t, rfl⟩ := ri
  obtain ⟨its, n, r, ho, hz⟩ := I.lst hp
  obtain ⟨h1, h2, h3, h4⟩ := ixN_seq hj
  have hl := r.length
  have hn := line63
  have I' : Inv X pins σ (upd H p (.lst (xs.set j v))) { s with heap := s.heap.update p (Obj.mapSeq (·.setIfInBounds j u)) } :=
    I.lstUpd hp ho (mapSeq_set its n j u) (r.set rv j) (by rw [List.length_set]; exact hz) s.toks
  by_cases h0 : 0 ≤ k
  · have hk : k.toNat = j := by
      rw [seqIndex_of h0 h4] at h1
      exact Option.some.inj h1
    exact PySem.W.ki_setAt ho h0 (by exact OmL.om43 hz h4 hl hn) (by rw [List.size_toArray, ← hl]; exact h4) (by rw [hk]; exact ⟨_, I', q⟩)
  · have hk : (k + (its.toArray.size : Int)).toNat = j := by
      rw [seqIndex_neg (by exact OmL.om38 h0) h3] at h1
      rw [List.size_toArray, ← hl]
      exact Option.some.inj h1
    exact PySem.W.ki_setBack ho (by exact OmL.om38 h0) (by rw [List.size_toArray, ← hl]; exact h3) (by exact OmL.om45 hz h3 hl hn) (by rw [hk]; exact ⟨_, I', q⟩)

/-! ### slices -/
theorem slice_bounds (lo hi : Option Int) (n : Nat) : (sliceBounds lo hi none n).1 = ((HT.sIx n 0 lo : Nat) : Int) ∧ (sliceBounds lo hi none n).2.1 = ((HT.sIx n n hi : Nat) : Int) ∧ (sliceBounds lo hi none n).2.2 = 1 := by
  refine ⟨?_, ?_, rfl⟩
  · cases lo with
    | none => simp [sliceBounds, HT.sIx]
    | some i =>
      simp only [sliceBounds, HT.sIx, Option.getD_none, show (1 : Int) > 0 by decide, if_true]
      by_cases h : i < 0
      · simp only [h, if_true] <;> exact OmL.om50 h
      · simp only [h, if_false] <;> exact OmL.om51 h
  · cases hi with
    | none => simp [sliceBounds, HT.sIx]
    | some i =>
      simp only [sliceBounds, HT.sIx, Option.getD_none, show (1 : Int) > 0 by decide, if_true]
      by_cases h : i < 0
      · simp only [h, if_true] <;> exact OmL.om50 h
      · simp only [h, if_false] <;> exact OmL.om51 h
theorem slicePick_cut (its : List Value) (lo hi : Option Int) : slicePick its.toArray lo hi none = ((its.drop (HT.sIx its.length 0 lo)).take (HT.sIx its.length its.length hi - HT.sIx its.length 0 lo)).toArray := by
  obtain ⟨h1, h2, h3⟩ := slice_bounds lo hi its.toArray.size
  unfold slicePick
  rw [h1, h2, h3]
  simp only [sliceRange_one, pick_run, List.size_toArray] <;> rfl
/-- xs[lo:hi] of a list: a new list -/
noncomputable def rSlL (K : PySem.W.Frag) : V → Option Int → Option Int → Hp → VK → Prop := fun x lo hi H Q => ∃ a xs, x = .ref a ∧ SqL K H a xs ∧ ∀ p, H p = none → Q (.ref p) (upd H p (.lst (cutV xs lo hi)))
theorem sl_list : SlR X (rSlL X.K) := by
  intro pins s σ H x v vl vu lo hi sl Q I rx hs pl pu h
  obtain ⟨a, xs, rfl, hx, q⟩ := h
  cases rx
  obtain ⟨its, r, ht, hz⟩ := I.list hx
  have hlen := r.length
  refine ⟨"list", _, slot_list_getitem.lookup, ht.isList.typeIs, ?_⟩
  refine wpAny_getItem_list_slice ht.isList hs pl pu .none (by simp) ?_ (by rw [List.size_toArray] <;> exact OmL.om1 hz hlen)
  rw [slicePick_cut, ← hlen]
  refine ⟨.ref s.heap.objs.size, _, I.laid (t' := s.toks) (o := .lst (cutV xs lo hi)) (fun b ob q => Heap.get?_push_of_some _ q) (Nat.le_refl _) ?_, rfl, q _ (I.hok.fresh (Nat.le_refl _))⟩
  exact ⟨Nat.le_trans (cutV_length xs lo hi) hz, _, 0, (r.drop (HT.sIx xs.length 0 lo)).take (HT.sIx xs.length xs.length hi - HT.sIx xs.length 0 lo), Heap.get?_push_size _ rfl⟩

/-! ### in, not in: flat items -/
noncomputable def flatV : V → Bool
  | .non => true
  | .bl _ => true
  | .int _ => true
  | .str _ => true
  | _ => false
/-- == of flat values -/
noncomputable def eqV : V → V → Bool
  | .non, .non => true
  | .bl a, .bl b => a == b
  | .bl a, .int b => (if a then 1 else 0) == b
  | .int a, .bl b => a == (if b then 1 else 0)
  | .int a, .int b => a == b
  | .str a, .str b => a == b
  | _, _ => false
theorem eqAt_V {A : Around} {s : Shared} {y x : V} {u v : Value} (ry : RelV y u) (rx : RelV x v) (fy : flatV y = true) (fx : flatV x = true) : SeqAt.EqAt A s u v (eqV y x) := by
  cases y with
  | non =>
    cases ry
    cases x with
    | non => cases rx; exact SeqAt.EqAt.same _
    | bl b => cases rx; exact SeqAt.EqAt.none_bool b
    | int b => obtain ⟨t, rfl⟩ := rx; exact SeqAt.EqAt.none_int b t
    | str b => obtain ⟨t, rfl⟩ := rx; exact SeqAt.EqAt.none_str b t
    | _ => exact absurd (show false = true from fx) Bool.false_ne_true
  | bl a =>
    cases ry
    cases x with
    | non => cases rx; exact SeqAt.EqAt.bool_none a
    | bl b => cases rx; exact SeqAt.EqAt.bool_bool a b
    | int b => obtain ⟨t, rfl⟩ := rx; exact SeqAt.EqAt.bool_int a b t
    | str b => obtain ⟨t, rfl⟩ := rx; exact SeqAt.EqAt.bool_str a b t
    | _ => exact absurd (show false = true from fx) Bool.false_ne_true
  | int a =>
    obtain ⟨t', rfl⟩ := ry
    cases x with
    | non => cases rx; exact SeqAt.EqAt.int_none a t'
    | bl b => cases rx; exact SeqAt.EqAt.int_bool a t' b
    | int b => obtain ⟨t, rfl⟩ := rx; exact SeqAt.EqAt.int_int a t' b t
    | str b => obtain ⟨t, rfl⟩ := rx; exact SeqAt.EqAt.int_str a t' b t
    | _ => exact absurd (show false = true from fx) Bool.false_ne_true
  | str a =>
    obtain ⟨t', rfl⟩ := ry
    cases x with
    | non => cases rx; exact SeqAt.EqAt.str_none a t'
    | bl b => cases rx; exact SeqAt.EqAt.str_bool a t' b
    | int b => obtain ⟨t, rfl⟩ := rx; exact SeqAt.EqAt.str_int a t' b t
    | str b => obtain ⟨t, rfl⟩ := rx; exact SeqAt.EqAt.str_str a t' b t
    | _ => exact absurd (show false = true from fx) Bool.false_ne_true
  | _ => exact absurd (show false = true from fy) Bool.false_ne_true
/-! ### len, list(x), tuple(x) of any list or tuple that is read -/
theorem call_list_of : CallR X (.type "list") (fun xs H Q => ∃ p ys, xs = [.ref p] ∧ (SqL X.K H p ys ∨ SqT X.K H p ys) ∧ ∀ l, H l = none → Q (.ref l) (upd H l (.lst ys))) := by
  intro pins s σ H xs us Q I r h
  obtain ⟨p, ys, rfl, hq, q⟩ := h
  obtain ⟨u, rfl, rx⟩ := vals1 r
  cases rx
  have fin : ∀ (its : List Value), Vals ys its → ys.length ≤ sizeLine → ∀ (h' : Heap) (c' : Nat), (∀ b o', s.heap.get? b = some o' → h'.get? b = some o') →
      h'.get? s.heap.objs.size = some { cls := .type "list", dict := none, data := .seq its.toArray c', slots := #[] } → EP X pins σ Q (.ref s.heap.objs.size) { s with heap := h' } := fun its r' hz h' c' kp e =>
    ⟨.ref s.heap.objs.size, _, I.laid (t' := s.toks) kp (Nat.le_refl _) (show ObjOk X.prog X.w _ h' _ (.lst ys) from ⟨hz, its, c', r', e⟩), rfl, q _ (I.hok.fresh (Nat.le_refl _))⟩
  rcases hq with hq | hq
  · obtain ⟨its, r', pl, hz⟩ := I.list hq
    have hlen := r'.length
    obtain ⟨o, ho, hc, n, hd⟩ := pl.isList
    exact call_list_seq p (.inl rfl) ho hc hd (fun h' c' kp e => fin its r' hz h' c' kp e) (by simp only [List.size_toArray] <;> exact OmL.om1 hz hlen)
  · obtain ⟨its, r', pl, hz⟩ := I.tuple hq
    have hlen := r'.length
    obtain ⟨o, ho, hc, n, hd⟩ := pl
    exact call_list_seq p (.inr rfl) ho hc hd (fun h' c' kp e => fin its r' hz h' c' kp e) (by simp only [List.size_toArray] <;> exact OmL.om1 hz hlen)
theorem call_tuple_of : CallR X (.type "tuple") (fun xs H Q => ∃ p ys, xs = [.ref p] ∧ ((SqL X.K H p ys ∧ ∀ l, H l = none → Q (.ref l) (upd H l (.tup ys))) ∨ (SqT X.K H p ys ∧ Q (.ref p) H))) := by
  intro pins s σ H xs us Q I r h
  obtain ⟨p, ys, rfl, h⟩ := h
  obtain ⟨u, rfl, rx⟩ := vals1 r
  cases rx
  rcases h with ⟨hq, q⟩ | ⟨hq, q⟩
  · obtain ⟨its, r', pl, hz⟩ := I.list hq
    have hlen := r'.length
    refine call_tuple_list pl.isList (fun h' kp => ?_) (by simp only [List.size_toArray] <;> exact OmL.om1 hz hlen)
    have I1 : Inv X pins σ H { s with heap := h' } := I.kept (t' := s.toks) kp
    have I2 : Inv X pins σ (upd H h'.objs.size (.tup ys)) { s with heap := h'.push { cls := .type "tuple", data := .seq its.toArray } } :=
      I1.laid (t' := s.toks) (fun b o e => Heap.get?_push_of_some _ e) (Nat.le_refl _) (show ObjOk X.prog X.w _ _ _ (.tup ys) from ⟨hz, its, r', IsTup.new _ _⟩)
    exact ⟨.ref h'.objs.size, _, I2, rfl, q _ (I1.hok.fresh (Nat.le_refl _))⟩
  · obtain ⟨its, r', pl, hz⟩ := I.tuple hq
    exact call_tuple_same pl ⟨.ref p, H, I, rfl, q⟩

/-! ### the call of a builtin's method: o.m(..) -/
/-- the value is of that builtin type -/
noncomputable def tyV (K : PySem.W.Frag) (T : String) (x : V) (H : Hp) : Prop := match x with
  | .str _ => T = "str"
  | .int _ => T = "int"
  | .ref p => (T = "list" ∧ ∃ xs, SqL K H p xs) ∨ (T = "tuple" ∧ ∃ o, K.lookup p = some o ∧ o.cls = .type "tuple" ∧ o.dict = none) ∨
      (T = "dict" ∧ ((∃ kvs, H p = some (.dK kvs)) ∨ ∃ kvs, H p = some (.dT kvs))) ∨ (T = "set" ∧ ∃ S n, H p = some (.set S n))
  | _ => False
theorem tyV_is {pins : List (Addr × Obj)} {σ : St} {H : Hp} {s : Shared} {T : String} {x : V} {v : Value} (I : Inv X pins σ H s) (r : RelV x v) (ty : tyV X.K T x H) :
    s.TypeIs v T ∧ ∀ a, v = .ref a → ∃ ob, s.heap.get? a = some ob ∧ ob.dict = none := by
  cases x with
  | str z =>
    obtain ⟨t, rfl⟩ := r
    cases (show T = "str" from ty)
    exact ⟨typeIs_str s z t, fun _ e => nomatch e⟩
  | int i =>
    obtain ⟨t, rfl⟩ := r
    cases (show T = "int" from ty)
    exact ⟨typeIs_int s i t, fun _ e => nomatch e⟩
  | ref p =>
    cases r
    rcases ty with ⟨rfl, xs, hq⟩ | ⟨rfl, o, hk, hc, hd⟩ | ⟨rfl, hk⟩ | ⟨rfl, S, n, hk⟩
    · obtain ⟨its, _, pl, _⟩ := I.list hq
      refine ⟨pl.isList.typeIs, fun a e => ?_⟩
      cases e
      obtain ⟨o, n, e, c, hd, _⟩ := pl
      exact ⟨o, e, hd⟩
    · refine ⟨⟨o, I.kIn p o hk, hc⟩, fun a e => ?_⟩
      cases e
      exact ⟨o, I.kIn _ o hk, hd⟩
    · have z : ∃ o, s.heap.get? p = some o ∧ o.ExactDict := by
        rcases hk with ⟨kvs, hk⟩ | ⟨kvs, hk⟩
        · obtain ⟨_, _, _, _, o, _, _, e, ex, _⟩ := I.hok p _ hk
          exact ⟨o, e, ex⟩
        · obtain ⟨_, _, _, _, o, _, _, e, ex, _⟩ := I.hok p _ hk
          exact ⟨o, e, ex⟩
      obtain ⟨o, e, ex⟩ := z
      refine ⟨⟨o, e, ex.1⟩, fun a e2 => ?_⟩
      cases e2
      exact ⟨o, e, ex.2.1⟩
    · obtain ⟨o, _, _, _, e, ex, _⟩ := I.hok p _ hk
      refine ⟨⟨o, e, ex.1⟩, fun a e2 => ?_⟩
      cases e2
      exact ⟨o, e, ex.2.1⟩
  | _ => exact False.elim ty
noncomputable def tBM (K : PySem.W.Frag) (T : String) (r : V → List V → Hp → VK → Prop) (to : TE) (t : TA) : TE := fun σ H Q => to σ H fun x H1 => tyV K T x H1 ∧ t σ H1 fun xs H2 => r x xs H2 Q
variable {o e : Expr} {es : List Expr} {to : TE} {t : TA} {name : Str} {apos cpos : Pos} {T id : String} {r : V → List V → Hp → VK → Prop}
theorem pe_bm (pa : PlainAttrs T) (slot : Slot T name id) (hty : typeOf (.builtin id) = pure (.type "method_descriptor")) (hm : MtR X id r) (ho : PE X o to) (ha : PA X (e :: es) t)
    (hbase : attributeBase o name X.env (eval o X.env) = eval o X.env := by rfl)
    (hfew : ((backTo cpos (starEach (e :: es) X.env)).all (fun x => !x.1) && (backToKw cpos (keywordEach [] X.env)).all (fun x => x.1.isSome)
      && decide ((e :: es).length + ([] : List Keyword).length + (if ([] : List Keyword).isEmpty then 0 else 1) < 30)) = true := by rfl)
    (hline : (apos.endLine == cpos.line) = true := by rfl) (hs : starEach (e :: es) X.env = (false, eval e X.env) :: starEach es X.env := by rfl) (hplain : (backTo cpos (starEach es X.env)).any (·.1) = false := by rfl) :
    PE X (.Call (.Attribute o name apos) (e :: es) [] cpos) (tBM X.K T r to t) := by
  intro pins s σ H Q I h
  refine wpAny_Call_method_late hbase hfew hline rfl (thn (ho pins s σ H _ I h) fun v s1 ⟨x, H1, I1, r1, ty, q1⟩ => ?_)
  obtain ⟨h1, h2⟩ := tyV_is I1 r1 ty
  refine ⟨T, id, pa, slot, hty, h1, h2, ?_⟩
  have hA := ha cpos pins s1 σ H1 _ I1 q1
  rw [hs] at hA ⊢
  refine Calls.callWith_builtin (by show (false || (backTo cpos (starEach es X.env)).any (·.1)) = false; rw [hplain] <;> rfl) (Calls.evalArgs_plain ?_)
  exact thn hA fun us s2 ⟨vs, H2, I2, r2, q2⟩ => hm pins s2 σ H2 x vs v us Q I2 r1 r2 q2
/- xs.append(e), list.index on a module's tuple .. are MtR facts of 06m -/
end
end L2

namespace L2
open PySem PySem.Spec PyProof.Rows

noncomputable def MtM (X : Cx) (id : String) (r : V → List V → Hp → VK → Prop) : Prop :=
  ∀ (pins : List (Addr × Obj)) (s : Shared) (σ : St) (H : Hp) (x : V) (xs : List V) (v : Value) (us : List Value) (Q : VK), Inv X pins σ H s → RelV x v → Vals xs us → r x xs H Q →
    wpAny (model X.prog X.w) X.A (call (.builtin id) (v :: us)) (EP X pins σ Q) X.xe s

/-! ### lists of values -/
theorem Vals.one : ∀ {x : V} {us : List Value}, Vals [x] us → ∃ u, us = [u] ∧ RelV x u
  | _, _, .cons r .nil => ⟨_, rfl, r⟩
theorem Vals.two : ∀ {x y : V} {us : List Value}, Vals [x, y] us → ∃ u v, us = [u, v] ∧ RelV x u ∧ RelV y v
  | _, _, _, .cons r (.cons q .nil) => ⟨_, _, rfl, r, q⟩
theorem Vals.rep {xs : List V} {us : List Value} (h : Vals xs us) : ∀ k : Nat, Vals (List.replicate k xs).flatten (List.replicate k us).flatten
  | 0 => .nil
  | k + 1 => by
    rw [List.replicate_succ, List.replicate_succ, List.flatten_cons, List.flatten_cons]
    exact Vals.append h (Vals.rep h k)
theorem foldl_rep (its : List Value) : ∀ (k : Nat) (acc : List Value),
    List.foldl (fun x1 x2 => x1 ++ x2) acc.toArray (List.replicate k its.toArray) = (acc ++ (List.replicate k its).flatten).toArray
  | 0, acc => by simp
  | k + 1, acc => by
    have e : acc.toArray ++ its.toArray = (acc ++ its).toArray := by simp
    have e2 : (acc ++ its) ++ (List.replicate k its).flatten = acc ++ (List.replicate (k + 1) its).flatten := by
      rw [List.replicate_succ, List.flatten_cons, List.append_assoc]
    rw [← e2, ← foldl_rep its k (acc ++ its), ← e, List.replicate_succ, List.foldl_cons]

section
variable {X : Cx} {pins : List (Addr × Obj)} {σ : St} {H : Hp} {s : Shared} {l b : Addr} {xs ys zs : List V}

/-! ### the two steps: a tracked list is rewritten, a new list is laid -/
theorem Inv.lset {its its' : List Value} {n : Nat} {f : Array Value → Array Value} {t' : Nat} (I : Inv X pins σ H s) (hH : H l = some (.lst xs))
    (e : s.heap.get? l = some { cls := .type "list", data := .seq its.toArray n }) (hf : f its.toArray = its'.toArray) (hv : Vals ys its') (hz : ys.length ≤ sizeLine) :
    Inv X pins σ (upd H l (.lst ys)) { s with heap := s.heap.update l (Obj.mapSeq f), toks := t' } := by
  have q := PySem.IsL.update e f
  rw [hf] at q
  refine I.write (x := l) (e := l) (by rw [hH]; exact trivial) (.inl rfl) (fun b' u hb hu => (Heap.get?_update_other s.heap (Obj.mapSeq f) (Ne.symm hb)).trans hu) ⟨_, q⟩ ?_
  exact ⟨hz, its', _, hv, q⟩
theorem Inv.lnew {its : List Value} {t' : Nat} (I : Inv X pins σ H s) (hv : Vals ys its) (hz : ys.length ≤ sizeLine) :
    Inv X pins σ (upd H s.heap.objs.size (.lst ys)) { s with heap := s.heap.push { cls := .type "list", data := .seq its.toArray }, toks := t' } :=
  I.laid (fun _ _ q => Heap.get?_push_of_some _ q) (Nat.le_refl _) ⟨hz, its, 0, hv, Heap.get?_push_size _ rfl⟩
theorem Inv.fresh (I : Inv X pins σ H s) : H s.heap.objs.size = none := I.hok.fresh (Nat.le_refl _)
theorem Inv.lstM (I : Inv X pins σ H s) (hH : H l = some (.lst xs)) : xs.length ≤ sizeLine ∧ ∃ (its : List Value) (n : Nat), Vals xs its ∧ xs.length = its.length ∧ s.heap.get? l = some { cls := .type "list", data := .seq its.toArray n } := by
  obtain ⟨z, its, n, r, e⟩ := I.hok l _ hH
  exact ⟨z, its, n, r, r.length, e⟩

theorem notLongL {n : Nat} (h : n ≤ sizeLine) : Builtin.List.listTooLong n = false := by
  unfold Builtin.List.listTooLong
  exact decide_eq_false (by exact OmL.om52 h)
end

section
variable {X : Cx}

/-! ### methods -/
noncomputable def rAppend : V → List V → Hp → VK → Prop := fun x vs H Q => ∃ l xs y, x = .ref l ∧ vs = [y] ∧ H l = some (.lst xs) ∧ xs.length < sizeLine ∧ Q .non (upd H l (.lst (xs ++ [y])))
theorem mt_append : MtM X "list.append" rAppend := by
  intro pins s σ H x vs v us Q I rx rv h
  obtain ⟨l, xs, y, rfl, rfl, hH, hz, q⟩ := h
  cases rx
  obtain ⟨u, rfl, ru⟩ := rv.one
  obtain ⟨z, its, n, r, hl, e⟩ := I.lstM hH
  refine call_meets F.slot_list_append ⟨_, e, rfl⟩ F.entry_list_append (F.args_list_append_2 _ _) (PySem.list_append l its.toArray n u (by rw [List.size_toArray]; exact OmL.om53 hz hl)) ⟨e, ?_⟩
  refine ⟨.non, _, I.lset (its' := its ++ [u]) hH e (by simp) (r.append (.cons ru .nil)) ?_, rfl, q⟩
  rw [List.length_append, List.length_singleton]
  exact OmL.om54 hz hl

/-! ### list + list, list += list, list * int -/
noncomputable def rCat : R2 := fun x y H Q => ∃ l b xs zs, x = .ref l ∧ y = .ref b ∧ H l = some (.lst xs) ∧ H b = some (.lst zs) ∧ xs.length + zs.length ≤ sizeLine ∧ ∀ p, H p = none → Q (.ref p) (upd H p (.lst (xs ++ zs)))
theorem op_cat : OpR X (binaryOp .Add) rCat := by
  intro pins s σ H x y v u Q I rx ry h
  obtain ⟨l, b, xs, zs, rfl, rfl, hH, hB, hz, q⟩ := h
  cases rx
  cases ry
  obtain ⟨z, its, n, r, hl, e⟩ := I.lstM hH
  obtain ⟨z2, its2, n2, r2, hl2, e2⟩ := I.lstM hB
  refine PySem.P.add_list e e2 ?_ (by rw [List.size_toArray, List.size_toArray]; exact OmL.om55 hz hl hl2)
  have ea : its.toArray ++ its2.toArray = (its ++ its2).toArray := by simp
  rw [ea]
  exact ⟨.ref _, _, I.lnew (t' := s.toks) (r.append r2) (by rw [List.length_append]; exact OmL.om56 hz), rfl, q _ I.fresh⟩
/-- a list times an int (a negative one is nothing) -/
noncomputable def rRep : R2 := fun x y H Q => ∃ l k xs, x = .ref l ∧ y = .int k ∧ H l = some (.lst xs) ∧ -(2 ^ 63) ≤ k ∧ k < 2 ^ 63 ∧ xs.length * k.toNat ≤ sizeLine ∧
  ∀ p, H p = none → Q (.ref p) (upd H p (.lst (List.replicate k.toNat xs).flatten))
theorem len_rep {α : Type} (xs : List α) (k : Nat) : (List.replicate k xs).flatten.length = k * xs.length := by
  induction k with
  | zero => simp
  | succ k ih => rw [List.replicate_succ, List.flatten_cons, List.length_append, ih, Nat.succ_mul, Nat.add_comm]
theorem op_rep : OpR X (binaryOp .Mult) rRep := by
  intro pins s σ H x y v u Q I rx ry h
  obtain ⟨l, k, xs, rfl, rfl, hH, h1, h2, hz, q⟩ := h
  cases rx
  obtain ⟨t, rfl⟩ := ry
  obtain ⟨z, its, n, r, hl, e⟩ := I.lstM hH
  have hlen : its.toArray.size * k.toNat ≤ sizeLine := by rw [List.size_toArray, ← hl]; exact hz
  have hcap : ¬ its.toArray.size * k.toNat > (2 ^ 63 - 1) / 8 := by
    have : (sizeLine : Nat) ≤ (2 ^ 63 - 1) / 8 := by decide
    exact OmL.om57 hlen this
  have hfit : ¬ (!Builtin.List.listFitsIndex k) = true := by
    rw [fitsIndex_both h1 h2]
    exact Bool.false_ne_true
  have hlong : ¬ Builtin.List.listTooLong (its.toArray.size * k.toNat) = true := by
    rw [notLongL hlen]
    exact Bool.false_ne_true
  have hnew : List.foldl (fun x1 x2 => x1 ++ x2) #[] (List.replicate (if its.toArray.isEmpty = true then 0 else k.toNat) its.toArray) = (List.replicate k.toNat its).flatten.toArray := by
    have f0 : ∀ m : Nat, List.foldl (fun x1 x2 => x1 ++ x2) #[] (List.replicate m its.toArray) = (List.replicate m its).flatten.toArray := fun m => by
      have := foldl_rep its m []
      rw [List.nil_append] at this
      exact this
    rw [f0]
    cases its with
    | nil => simp
    | cons a r' => rw [if_neg (by simp)]
  refine wpAny_binaryOp_repeat_ref (T := "list") (U := "int") (by decide) ⟨_, e, rfl⟩ (fun s' => typeIs_int s' k t) noFill_list_mul F.fills_int_mul F.slot_int_rmul repeat_list F.slot_int_index.lookup
    (call_meets F.slot_int_rmul (typeIs_int s k t) F.entry_int_rmul (F.args_int_rmul_2 _ _) (int___rmul___int_list k t l its.toArray n)
      ⟨e, rfl, ⟨_, e, rfl⟩, call_meets F.slot_list_mul ⟨_, e, rfl⟩ F.entry_list_mul (F.args_list_mul_2 _ _) (AutoListH.list___mul___list_int_3 l its.toArray n k t hfit hcap hlong) ⟨e, ?_⟩⟩)
  rw [hnew]
  exact ⟨.ref _, _, I.lnew (t' := s.toks) (r.rep k.toNat) (by rw [len_rep, Nat.mul_comm]; exact hz), rfl, q _ I.fresh⟩

/-! ### del xs[i] -/
end

/-! ### xs[a:b] = ys -/
section
variable {prog : Program} {w : World} {A : Around} {E : Value → Shared → Prop} {s : Shared}
end

section
variable {X : Cx}
end
end L2

namespace L2
open PySem PySem.Spec PyProof.Rows

/-! ### lists of pairs as tables -/
section
variable {κ : Type} [DecidableEq κ]
noncomputable def valV (kvs : List (κ × V)) (k : κ) : Option V := (kvs.find? fun kv => decide (kv.1 = k)).map (·.2)
theorem valV_pos {p : κ × V} {r : List (κ × V)} {k : κ} (e : p.1 = k) : valV (p :: r) k = some p.2 := by simp [valV, List.find?_cons, e]
theorem valV_neg {p : κ × V} {r : List (κ × V)} {k : κ} (e : ¬ p.1 = k) : valV (p :: r) k = valV r k := by simp [valV, List.find?_cons, e]
/-- raw tables of the same keys -/
theorem KV.val {kvs : List (κ × V)} {vs : List (κ × Value)} (r : KV kvs vs) (k : κ) : RelO (valV kvs k) (valueAt vs k) := by
  unfold KV at r
  induction r with
  | nil => exact True.intro
  | @cons p q ps qs h t ih =>
    obtain ⟨h1, h2⟩ := h
    by_cases e : p.1 = k
    · have e' : q.1 = k := h1.symm.trans e
      have b : valueAt (q :: qs) k = some q.2 := by simp [valueAt, List.find?_cons, e']
      rw [valV_pos e, b]; exact h2
    · have e' : ¬ q.1 = k := fun z => e (h1.trans z)
      have b : valueAt (q :: qs) k = valueAt qs k := by simp [valueAt, List.find?_cons, e']
      rw [valV_neg e, b]; exact ih
end


/-! ### a tracked dict, its keys ints and texts or tuples of these -/
section
variable {P : Program} {w : World} {H : Hp} {h : Heap} {a : Addr}
end

section
variable {X : Cx} {pins : List (Addr × Obj)} {σ : St} {H : Hp} {s : Shared} {a : Addr} {y v : V} {u r : Value} {o : Option V} {A : Around} {E : Value → Shared → Prop}

end

section
variable {X : Cx} {pins : List (Addr × Obj)} {σ : St} {H : Hp} {s : Shared} {a : Addr} {kvs : List (Key × V)} {k : Key} {u : Value} {A : Around} {E : Value → Shared → Prop}
end


/-! ### readings and rules -/
section
variable {X : Cx} {o i e value : Expr} {pos pos' tpos : Pos} {td ty tv : TE}
end


/-! ### displays -/
section
variable {X : Cx} {pos : Pos}
end

/-! ### methods -/
section
variable {X : Cx} {pins : List (Addr × Obj)} {σ : St} {H : Hp} {s : Shared} {a : Addr} {y d : V} {u r : Value} {o : Option V} {A : Around} {E : Value → Shared → Prop}
end

section
variable {X : Cx} {o e f : Expr} {apos cpos : Pos} {td ty tx : TE}
end

/-! ### dict(d): a copy -/
section
variable {X : Cx} {pins : List (Addr × Obj)} {σ : St} {H : Hp} {s : Shared} {a : Addr} {kvs : List (Key × V)} {A : Around} {E : Value → Shared → Prop}
end


section
variable {X : Cx} {pins : List (Addr × Obj)} {σ : St} {H : Hp} {s : Shared} {a : Addr} {y : V} {u : Value} {A : Around} {E : Value → Shared → Prop}
end
end L2

namespace Att
open PySem PySem.W PySem.Calls PyProof.Rows

/-! ### the script -/
theorem ints_of_wellAll {P : Params} {h : Heap} : ∀ (ns : List Int) (vs : List Value), WellAll P h vs (ns.map WData.int) → IntsAre vs ns := by
  intro ns
  induction ns with
  | nil =>
    intro vs w
    rw [List.map_nil] at w
    cases w
    exact .nil
  | cons n ns ih =>
    intro vs w
    rw [List.map_cons] at w
    cases w with
    | cons a b =>
      cases a
      exact .cons _ _ (ih _ b)

theorem script_of {l : OpenLaw} {n : Nat} (hn : l.most = some n) {P : Params} {h : Heap} {args : List WData} {vals : List Value}
    (hpre : l.row.toRowW.claim.pre args = true) (hwl : WellAll P h vals args) :
    ∃ a vs ns, vals = [Value.ref a] ∧ args = [WData.list (ns.map WData.int)] ∧ h.get? a = some { cls := .type "list", data := .seq vs.toArray } ∧ IntsAre vs ns ∧ ns.length ≤ n := by
  have hsh : WShape.hasAll [] args [.list .int] = true := (pre_splitW hpre).1
  have hc : l.pre.holds [] { args := args } = true := (pre_splitW hpre).2
  obtain ⟨d, r, rfl, h1, h2⟩ := hasAllW_cons hsh
  obtain rfl := hasAllW_nil h2
  obtain ⟨xs, rfl, h3⟩ := hasW_list h1
  obtain ⟨ns, rfl⟩ := items_int h3
  have hlen : ns.length ≤ n := by
    unfold OpenLaw.pre at hc
    have h4 : (WTm.not (.lt (.lit (.int (n : Int))) (.len (.arg 0)))).holds [] { args := [.list (ns.map .int)] } = true := by
      have h4 := (holds_andW hc).1
      rw [hn] at h4
      exact h4
    have h5 := condW_of h4 (w_not (w_lt w_lit (w_len_list (w_arg rfl))))
    rw [List.length_map] at h5
    refine Nat.le_of_not_lt fun q => ?_
    have q' : (n : Int) < ((ns.length : Nat) : Int) := by exact OmL.om42 q
    first
      | (rw [decide_eq_true q'] at h5; exact absurd h5 (by decide))
      | (simp at h5; omega)
  cases hwl with
  | cons w1 w2 =>
    cases w2
    cases w1 with
    | list ho hall => exact ⟨_, _, ns, rfl, rfl, ho, ints_of_wellAll ns _ hall, hlen⟩

theorem post_true (l : OpenLaw) (args : List WData) : l.row.toRowW.claim.post args (.bool true) args = true :=
  postW_of (r := l.row.toRowW) (X := (true == true))
    (show WShape.has [] (.bool true) .bool = true by first | rfl | decide | simp [WShape.has, WShape.arms, WShape.armsAll])
    (show (WTm.eq .res (.lit (.bool true))).value [] { args := args, res := some (.bool true), after := args } = some (.bool (true == true)) from w_eq_bool (w_res rfl) w_lit) rfl

/-! ### the attachment: holds_open's last premise (the goal 'hc' behind k_head) from a wpAny of the law's body -/
/-- the same from a codeAny of the CALL (for a layer whose function contracts speak of calls) -/
theorem attach_call {l : OpenLaw} {n : Nat} {q : Program} {loose : List Str} {XP : (Str → Option Value) → Heap → Prop} {YP : World → Heap → Prop} {d : DefRec}
    (hn : l.most = some n) (hdf : d.params.defaults = [])
    (call : ∀ (w : World) (s₀ s₁ : Shared) (mg mb : Str → Option Value) (fa : Addr) (o : Obj) (pm cd doc : Value) (a : Addr) (vs : List Value) (ns : List Int),
      Ground q loose [] XP w s₀ mg mb s₁.heap → YP w s₁.heap →
      s₁.heap.get? fa = some o → o.data = .func (docDef d.name d.params d.body d.scope pm cd doc) → s₁.heap.CodeRec cd d.name → mg d.name = some (.ref fa) →
      s₁.heap.get? a = some { cls := .type "list", data := .seq vs.toArray } → IntsAre vs ns → ns.length ≤ n → s₁.gens = #[] →
      codeAny (model l.prog w) callerA (.call (.ref fa) ⟨[.ref a], []⟩) (fun r s' => r = .ok (.ret (.bool true)) ∧ OldK s₁.heap s'.heap ∧ s'.os = s₁.os ∧ AllBare s'.gens) s₁) :
    WalkO q loose XP YP l.row.toRowW d [] (fun f vs => PySem.call f vs) := by
  intro w s₀ s₁ mg mb G Y fa o pm cd doc dV kV ho hd hcd hD hmg hg args vals as hpre hlay hrd hwl hlo
  obtain rfl : dV = .none := Dflts.none hD hdf
  obtain rfl : kV = .none := Dflts.noKw hD
  obtain ⟨a, vs, ns, rfl, rfl, hobj, hints, hlen⟩ := script_of hn hpre hwl
  refine enter_call (codeAny_mono (call w s₀ s₁ mg mb fa o pm cd doc a vs ns G Y ho (fd_plain hd) hcd hmg hobj hints hlen hg) fun r s' hq => ?_)
  obtain ⟨rfl, h2, h3, h4⟩ := hq
  exact ⟨.inl ⟨.bool true, .bool true, [], rfl, fun _ => rfl, .bool true, post_true l _, fun _ => ⟨List.Pairwise.nil, fun _ hm => (nomatch hm)⟩⟩, h2, h3, h4⟩

/-! ### rules over ANY heap (no ledger) from facts about the written part K: the library's own take a ledger (News) for what they write -/
section
variable {prog : Program} {w : World} {A : Around} {E : Value → Shared → Prop} {s : Shared} {K : Frag}

/-! the whole heap as the ledger: makes every rule that writes through a ledger a rule over any heap -/
end
end Att

namespace L2
open PySem PySem.Spec PyProof.Rows

theorem vals_ints : ∀ {vs : List Value} {ns : List Int}, IntsAre vs ns → Vals (ns.map V.int) vs
  | _, _, .nil => .nil
  | _, _, .cons n t h => .cons ⟨t, rfl⟩ (vals_ints h)

/-- nothing is tracked but the script, known to the object (or it is an object of the module) -/
noncomputable def Only (H : Hp) : Prop := ∀ b, H b = none ∨ ∃ o xs, H b = some (.frz o (.lst xs))

/-- THE HEAD: the law's promise, at the heap behind the top. F, the promise of the law's def, may use that base is part of the heap (so K.In base, base.Ns mainGlobals mg stand in Mod) -/
theorem law_call {P : Program} {w : World} {K : PySem.W.Frag} {mg mb : Str → Option Value} {CX : CXT} {k : Nat} {fa a : Addr} {fd : FuncData} {x : Str} {sp : Sp} {s₁ : Shared} {vs : List Value} {ns : List Int}
    (KX : K.In s₁.heap) (hns : s₁.heap.Ns mainGlobals mg) (hb : s₁.heap.Ns builtinsNs mb) (hbb : ∀ x : Str, x ≠ "__name__" → mb x = bootBuiltins x) (hlim : s₁.heap.NoLimit) (hg : s₁.gens = #[])
    (ha : s₁.heap.get? a = some { cls := .type "list", data := .seq vs.toArray }) (hi : IntsAre vs ns) (hl : ns.length ≤ sizeLine) (hr : Room k callerA)
    (F : ∀ base : Heap, K.In base → base.Ns mainGlobals mg → FnOk P w K mg base CX k fa fd [x] sp) (hbind : ∀ (s : Shared) (u : Value), BindsTo s fd ⟨[u], []⟩ [(x, u)])
    (hsp : ∀ H : Hp, Only H → SqL K H a (ns.map V.int) → sp [.ref a] H (fun v _ => v = .bl true) fun _ _ _ => False)
    (hCX : ∀ H e s', CX [] H s₁ (fun _ _ _ => False) e s' → False) :
    codeAny (model P w) callerA (.call (.ref fa) ⟨[.ref a], []⟩) (fun r s' => r = .ok (.ret (.bool true)) ∧ OldK s₁.heap s'.heap ∧ s'.os = s₁.os ∧ AllBare s'.gens) s₁ := by
  have rv := vals_ints hi
  have lenV := hi.length
  -- from an abstract heap in which nothing but the script may be tracked
  have core : ∀ H : Hp, Only H → SqL K H a (ns.map V.int) → HOk P w H s₁.heap → (∀ b, H b ≠ none → b = a) → (H a ≠ none → K.lookup a = none) →
      codeAny (model P w) callerA (.call (.ref fa) ⟨[.ref a], []⟩) (fun r s' => r = .ok (.ret (.bool true)) ∧ OldK s₁.heap s'.heap ∧ s'.os = s₁.os ∧ AllBare s'.gens) s₁ := by
    intro H hO hS hok hA hK
    have base_of : ∀ {b : Addr} {o : Obj}, s₁.heap.get? b = some o → H b = none → (hidT s₁.heap H).get? b = some o := fun e n => hidT_get e n
    have noA : ∀ {b : Addr} {o : Obj} {es : Array DictEntry} {ep : Nat}, s₁.heap.get? b = some o → o.data = .dict es ep → H b = none := fun {b o es ep} e d => by
      cases q : H b with
      | none => rfl
      | some u =>
        have e' : b = a := hA b (by rw [q]; simp)
        subst e'
        rw [ha] at e; cases e
        have d' : Data.seq vs.toArray _ = Data.dict es ep := d
        cases d'
    have nsK : ∀ {b : Addr} {m : Str → Option Value}, s₁.heap.Ns b m → (hidT s₁.heap H).Ns b m := fun {b m} ⟨o, es, ep, e, d, r⟩ => ⟨o, es, ep, base_of e (noA e d), d, r⟩
    have hKb : K.In (hidT s₁.heap H) := fun b o e => base_of (KX b o e) (by
      cases q : H b with
      | none => rfl
      | some u =>
        have e' : b = a := hA b (by rw [q]; simp)
        subst e'
        rw [hK (by rw [q]; simp)] at e; cases e)
    have hM : Mod K mg (hidT s₁.heap H) := ⟨hKb, nsK hns, ⟨mb, nsK hb, hbb⟩, let ⟨mc, h1, h2⟩ := hlim; ⟨mc, nsK h1, h2⟩⟩
    have e0 : Env0 P w K mg (hidT s₁.heap H) callerA [] s₁ H := ⟨rfl, hM, fun b o e => of_hidT e, Nat.le_of_eq (hidT_size _ _), trivial, fun b hb => absurd (show b ∈ ([] : List Addr) from hb) (by simp), hok, .of_eq hg⟩
    refine codeAny_mono ((F _ hKb (nsK hns)).run callerA [] s₁ H ⟨[.ref a], []⟩ [.ref a] [.ref a] _ _ hr e0 (hbind s₁ (.ref a)) (.cons rfl .nil) (hsp H hO hS)) fun r s' h => ?_
    cases r with
    | error e => exact (hCX H e s' h).elim
    | ok fl =>
      cases fl with
      | next => exact False.elim h
      | brk => exact False.elim h
      | cont => exact False.elim h
      | ret u =>
        obtain ⟨v, H', os, bare, un, hok', r', q⟩ := h
        have q' : v = .bl true := q
        subst q'
        obtain rfl : u = Value.bool true := r'
        refine ⟨rfl, OldK.of_keep fun b o e => ?_, os, bare⟩
        cases q : H b with
        | none => exact un.keep b o e q (by intro z; exact absurd (show b ∈ ([] : List Addr) from z) (by simp)) (by simp)
        | some u =>
          rcases hO b with z | ⟨ob, xs, z⟩
          · rw [q] at z; cases z
          · have z2 := un.frzs b ob _ z
            obtain ⟨e1, _⟩ := hok b _ z
            obtain ⟨e2, _⟩ := hok' b _ z2
            rw [e] at e1; cases e1
            exact e2
  cases hk : K.lookup a with
  | some o =>
    -- the script is one of the module's own objects
    have e := KX a o hk
    rw [ha] at e
    cases e
    refine core (fun _ => none) (fun _ => .inl rfl) (.inr ⟨_, vs.toArray, _, hk, rfl, rfl, rfl, by rw [List.size_toArray, lenV]; exact hl, by simpa using rv⟩) (fun b u z => by have z' : (none : Option HO) = some u := z; cases z') (fun b z => absurd rfl z) fun z => absurd rfl z
  | none =>
    refine core (fun b => if b = a then some (.frz { cls := .type "list", data := .seq vs.toArray } (.lst (ns.map V.int))) else none) (fun b => ?_) (.inl (.inr ⟨{ cls := .type "list", data := .seq vs.toArray }, if_pos rfl⟩)) (fun b u z => ?_) (fun b z => ?_) fun _ => hk
    · by_cases hb : b = a
      · exact .inr ⟨_, _, if_pos hb⟩
      · exact .inl (if_neg hb)
    · by_cases hb : b = a
      · have z' := (if_pos hb).symm.trans z
        cases z'
        subst hb
        exact ⟨ha, by rw [List.length_map]; exact hl, vs, _, rv, ha⟩
      · have z' := (if_neg hb).symm.trans z
        cases z'
    · by_cases hb : b = a
      · exact hb
      · exact absurd (if_neg hb) z
end L2

namespace L2
open PySem PySem.Spec PyProof.Rows

/-- the goal that k_head leaves (case hc), from the law's promise. F gives the function object fd (K's own) once, then the promise over every base -/
theorem walk_of {l : PySem.W.OpenLaw} {n k : Nat} {q : Program} {loose : List Str} {XP : (Str → Option Value) → Heap → Prop} {YP : World → Heap → Prop} {d : DefRec} {K : Params → PySem.W.Frag} {CX : World → CXT} {sp : World → Sp} {x : Str}
    (hn : l.most = some n) (hn2 : n ≤ sizeLine) (hdf : d.params.defaults = []) (hr : Room k callerA)
    (hY : ∀ (w : World) (h : Heap), YP w h → (K w.params).In h)
    (F : ∀ (w : World) (mg : Str → Option Value) (fa : Addr) (h : Heap), (K w.params).In h → h.Ns mainGlobals mg → mg d.name = some (.ref fa) →
      ∃ fd : FuncData, (∀ (s : Shared) (u : Value), BindsTo s fd ⟨[u], []⟩ [(x, u)]) ∧
        ∀ base : Heap, (K w.params).In base → base.Ns mainGlobals mg → FnOk l.prog w (K w.params) mg base (CX w) k fa fd [x] (sp w))
    (hsp : ∀ (w : World) (H : Hp) (a : Addr) (ns : List Int), ns.length ≤ n → Only H → SqL (K w.params) H a (ns.map V.int) → sp w [.ref a] H (fun v _ => v = .bl true) fun _ _ _ => False)
    (hCX : ∀ (w : World) (H : Hp) (s : Shared) (e : Value) (s' : Shared), CX w [] H s (fun _ _ _ => False) e s' → False) :
    PySem.W.WalkO q loose XP YP l.row.toRowW d [] (fun f vs => PySem.call f vs) := by
  refine Att.attach_call hn hdf fun w s₀ s₁ mg mb fa o pm cd doc a vs ns G Y ho hd hcd hmg hobj hints hlen hg => ?_
  have KX := hY w _ Y
  obtain ⟨fd, hb, hF⟩ := F w mg fa _ KX G.T.g hmg
  exact law_call KX G.T.g G.T.b G.T.builtins G.T.nolimit hg hobj hints (Nat.le_trans hlen hn2) hr hF hb (fun H hO hS => hsp w H a ns hlen hO hS) fun H e s' => hCX w H s₁ e s'
end L2

/- THE LAST THEOREM (shape; LID, My.* are yours):
   My.Adr: a structure of the addresses that your layer names (classes, functions); My.Txt K t: a structure (Prop) of the equations over K;
   My.txt_mk : {K} {implicit addresses ..} (e1 : nsIn K mainGlobals "law" = some (some (.ref f))) (e2 : K.lookup f = some ⟨oc, od, .func (fnOf "law" "law" params body scope dV kV doc pm an cdv ct), sl⟩) (e3 : codeIn K cdv "law" = true) .. : ∃ t, My.Txt K t

set_option maxRecDepth 100000 in
set_option maxHeartbeats 0 in
theorem PySem.Challenge.cw_LID_holds : PySem.Challenge.rw_LID.Holds := by
  w_on; o_law; k_head; (case hw => w_witness2)
  k_fill
  refine L2.walk_of (l := PySem.Challenge.rw_LID) (n := 63) (k := 40) (x := "script") (CX := fun w => ..) (sp := fun _ => My.sp_law) rfl (by decide) rfl ⟨rfl, by decide, by decide⟩ (fun w h Y => PySem.W.kIn_of Y) ?F ?S ?C
  case F =>
    intro w mg fa h KX G hmg
    have T : ∃ t, My.Txt (L2.KOf KX) t := by
      dsimp only [L2.KOf]                          -- K must stand as «<heap const> w.params» for k_is
      refine' My.txt_mk ?e1 ?e2 ?e3 ..
      (case e1 => PySem.W.k_is)                    -- in the order: a name -> its address -> its object -> its parts
      (case e2 => PySem.W.k_is)
      ..
    obtain ⟨t, T⟩ := T
    have e0 := hmg.symm.trans (PySem.W.mg_of KX G T.law)
    cases e0                                       -- fa is the law's own address
    exact ⟨_, fun s u => .of_eq rfl, fun base kb nb => My.law_fn T kb nb⟩     -- if «.of_eq rfl» comes too early: refine' ⟨_, ?b, fun base kb nb => My.law_fn T kb nb⟩; exact fun s u => .of_eq rfl
  case S => exact fun w H a ns hl hO hS => ..
  case C => exact ..
(the tactic k_is has no namespace: write k_is) -/

/-! SHORT WORDS over the layer: a def of the text, its body, what a loop and a test want. -/
namespace L2
open PySem PySem.Spec PyProof.Rows

/-! ### the text by places -/
noncomputable def defArgs (s : Stmt) : Arguments := match s with
  | .FunctionDef _ a _ _ _ _ _ _ _ _ => a
  | _ => { posonlyargs := [], args := [], vararg := none, kwonlyargs := [], kw_defaults := [], kwarg := none, defaults := [] }
noncomputable def defBody (s : Stmt) : List Stmt := match s with
  | .FunctionDef _ _ b _ _ _ _ _ _ _ => b
  | _ => []
noncomputable def defScope (s : Stmt) : Scope := match s with
  | .FunctionDef _ _ _ _ _ _ sc _ _ _ => sc
  | _ => { kind := .function, names := [], isGenerator := false, isCoroutine := false }

/-! ### no exception leaves a def -/
noncomputable abbrev E0 : XK := fun _ _ _ => False
/-! ### a def (or method) of the text as it stands behind the top -/
structure Fun (K : PySem.W.Frag) (x qual : Str) (st : Stmt) (f : Addr) (fd : FuncData) : Prop where
  ex : ∃ (oc : Value) (od : Option Addr) (kV doc pm : Value) (an : Option Addr) (cdv ct : Value) (osl : Array (Option Value)),
    fd = PySem.W.fnOf x qual (defArgs st) (defBody st) (defScope st) .none kV doc pm an cdv ct ∧ K.lookup f = some ⟨oc, od, .func fd, osl⟩ ∧ PySem.W.codeIn K cdv qual = true
  kp : PySem.W.keepIn K (.ref f) = true
section
variable {P : Program} {w : World} {K : PySem.W.Frag} {mg : Str → Option Value} {base : Heap}
/-- how its arguments bind (no defaults): h is «fun _ _ _ _ _ _ us hl => match us, hl with | [_, _], _ => rfl», one _ a parameter -/
theorem Fun.binds {x qual : Str} {st : Stmt} {f : Addr} {fd : FuncData} {ps : List Str} (F : Fun K x qual st f fd)
    (h : ∀ (kV doc pm : Value) (an : Option Addr) (cdv ct : Value) (us : List Value), us.length = ps.length → bindArgs (PySem.W.fnOf x qual (defArgs st) (defBody st) (defScope st) .none kV doc pm an cdv ct) ⟨us, []⟩ = pure (ps.zip us)) : Binds K fd ps [] := by
  obtain ⟨oc, od, kV, doc, pm, an, cdv, ct, osl, rfl, lk, hcd⟩ := F.ex
  exact .all (h kV doc pm an cdv ct)
theorem fun_mk {x qual : Str} {st : Stmt} {f : Addr} {oc : Value} {od an : Option Addr} {osl : Array (Option Value)} {kV doc pm cdv ct : Value} (l : K.lookup f = some ⟨oc, od, .func (PySem.W.fnOf x qual (defArgs st) (defBody st) (defScope st) .none kV doc pm an cdv ct), osl⟩)
    (c : PySem.W.codeIn K cdv qual = true) (k : PySem.W.keepIn K (.ref f) = true) : Fun K x qual st f (PySem.W.fnOf x qual (defArgs st) (defBody st) (defScope st) .none kV doc pm an cdv ct) := ⟨⟨oc, od, kV, doc, pm, an, cdv, ct, osl, rfl, l, c⟩, k⟩
end
theorem small1000 {n : Nat} (h : n ≤ 1000) : n < sizeLine := Nat.lt_of_le_of_lt h (by decide)

/-! ### expressions in short: the name that stands in the i-th slot -/
section
variable {X : Cx}
theorem pv (i : Nat) {x : Str} {pos : Pos} (hN : X.N[i]? = some x := by rfl) (hv : Vis X.env.scope x := by first | exact Or.inl rfl | exact Or.inr (Or.inl rfl) | exact Or.inr (Or.inr rfl)) (hd : (x == ("__debug__" : Str)) = false := by decide)
    (hcd : (x == ("__classdict__" : Str)) = false := by decide) : PE X (.Name x pos) (tVar i) := pe_var hN hv hd hcd
end

/-! ### tests -/
theorem iteF {A B : Prop} (h : B) : if false = true then A else B := by
  rw [if_neg Bool.false_ne_true]
  exact h
theorem iteT {A B : Prop} (h : A) : if true = true then A else B := by
  rw [if_pos rfl]
  exact h
theorem ite2 {c A B : Prop} [Decidable c] (h1 : c → A) (h2 : ¬ c → B) : if c then A else B := by
  by_cases h : c
  · rw [if_pos h]
    exact h1 h
  · rw [if_neg h]
    exact h2 h
/-! ### heaps -/
/-- all that was tracked is as it was -/
noncomputable def Same (H H' : Hp) : Prop := ∀ b o, H b = some o → H' b = some o
theorem Same.refl (H : Hp) : Same H H := fun _ _ h => h
theorem Same.trans {H H1 H2 : Hp} (a : Same H H1) (b : Same H1 H2) : Same H H2 := fun c o h => b c o (a c o h)
theorem Same.free {H H' : Hp} (e : Same H H') {l : Addr} (h : H' l = Option.none) : H l = Option.none := by
  cases q : H l with
  | none => rfl
  | some o =>
    rw [e l o q] at h
    cases h
theorem Same.seq {K : PySem.W.Frag} {H H' : Hp} {a : Addr} {xs : List V} (e : Same H H') (h : SqL K H a xs) : SqL K H' a xs := by
  rcases h with (h | ⟨o, h⟩) | h
  · exact .inl (.inl (e _ _ h))
  · exact .inl (.inr ⟨o, e _ _ h⟩)
  · exact .inr h

/-! ### a dict's pairs: keys that differ -/
section
variable {κ : Type} [DecidableEq κ]
end
end L2

namespace L2
open PySem PySem.Spec PyProof.Rows
/-! ### an exception has left a call: its own objects are new, all else but the callers' frames stands in B -/
structure Flown (P : Program) (w : World) (outer : List Env) (H : Hp) (s : Shared) (E : XK) (e : Value) (s' : Shared) : Prop where
  ex : ∃ (ea C : Addr) (a0 : Value) (B : Heap) (H' : Hp), e = .ref ea ∧ s'.os = s.os ∧ AllBare s'.gens ∧ Heap.FlyingW B outer ea (.ref C) a0 s'.heap ∧ HOk P w H' B ∧ Un (frs outer) [] H H' s.heap s'.heap ∧
    (∀ b o, s.heap.get? b = some o → b ∈ frs outer ∨ ∃ o', B.get? b = some o') ∧ E (.ref C) none H'
theorem flown_none {P : Program} {w : World} {outer : List Env} {H : Hp} {s s' : Shared} {e : Value} (h : Flown P w outer H s E0 e s') : False := by
  obtain ⟨_, _, _, _, _, _, _, _, _, _, _, _, q⟩ := h.ex
  exact q
theorem passF0 {X : Cx} : Passes (Flown X.prog X.w) X E0 := fun _ _ _ _ _ _ _ h => (flown_none h).elim
section
variable {X : Cx} {pins : List (Addr × Obj)} {σ : St} {H : Hp} {s : Shared}
theorem Inv.notStk (I : Inv X pins σ H s) {b : Addr} {o : Obj} (e : X.s₀.heap.get? b = some o) (hb : b ∉ X.fs) : b ∉ frs X.stack := fun z => by
  rcases List.mem_cons.mp (I.stkSub b z) with q | q
  · exact absurd (Nat.lt_of_lt_of_le (Heap.lt_size e) I.ok.above) (by rw [← q]; exact Nat.lt_irrefl _)
  · exact hb q
theorem hideStk (I : Inv X pins σ H s) {b : Addr} {o : Obj} (e : s.heap.get? b = some o) (hb : b ∉ frs X.stack) : (PySem.W.hideAll s.heap (frs X.stack)).get? b = some o := PySem.W.hideAll_get _ e hb
theorem Inv.hokHid (I : Inv X pins σ H s) : HOk X.prog X.w H (PySem.W.hideAll s.heap (frs X.stack)) := fun b o e =>
  (I.hok b o e).stay (fun c u hc q => hideStk I q fun z => by
    have n := I.stkFree c z
    rcases hc with rfl | hc
    · rw [n] at e; cases e
    · rw [n] at hc; cases hc) (fun _ q => q) fun _ _ q => q
/-- up to the entry -/
theorem Inv.unTo (I : Inv X pins σ H s) (hex : X.ex = []) {H' : Hp} {h' : Heap} (keep : ∀ b o, s.heap.get? b = some o → H b = none → b ∉ frs X.stack → h'.get? b = some o)
    (slot : ∀ b o, s.heap.get? b = some o → H b = none → b ∈ X.fs → ∃ sl, h'.get? b = some { o with slots := sl }) (free : ∀ b o, s.heap.get? b = some o → H b = none → H' b = none) (there : ∀ b o, s.heap.get? b = some o → ∃ o', h'.get? b = some o')
    (tups : ∀ b xs, H b = some (.tup xs) → H' b = some (.tup xs)) (frzs : ∀ b o u, H b = some (.frz o u) → H' b = some (.frz o u)) (tbls : ∀ b ps, H b = some (.tbl ps) → ∃ more, H' b = some (.tbl (ps ++ more))) :
    Un (frs X.outer) [] X.H₀ H' X.s₀.heap h' := by
  have nx : ∀ b : Addr, b ∉ X.ex := fun b => by rw [hex]; simp
  refine ⟨fun b o e n hb _ => ?_, fun b o e n hb _ => ?_, fun b o e n _ => ?_, fun b o e _ => ?_, fun b xs e => tups b xs (I.base.tups b xs e), fun b o u e => frzs b o u (I.base.frzs b o u e), fun b ps e => ?_⟩
  · exact keep b o (I.base.keep b o e n hb (nx b)) (I.base.free b o e n (nx b)) (I.notStk e hb)
  · obtain ⟨sl, e1⟩ := I.base.slot b o e n hb (nx b)
    obtain ⟨sl', e2⟩ := slot b _ e1 (I.base.free b o e n (nx b)) hb
    exact ⟨sl', e2⟩
  · obtain ⟨o', e1⟩ := I.base.there b o e (nx b)
    exact free b o' e1 (I.base.free b o e n (nx b))
  · obtain ⟨o', e1⟩ := I.base.there b o e (nx b)
    exact there b o' e1
  · obtain ⟨m1, e1⟩ := I.base.tbls b ps e
    obtain ⟨m2, e2⟩ := tbls b _ e1
    exact ⟨m1 ++ m2, by rw [e2, Array.append_assoc]⟩
end
noncomputable abbrev cxF (P : Program) (w : World) (K : PySem.W.Frag) (mg : Str → Option Value) (base : Heap) (N : List Str) (qual : Str) (scope : Scope) (f : Addr) (cdv : Value) (A : Around) (outer : List Env) (s : Shared) (H : Hp) (E : XK) : Cx :=
  cxOf (Flown P w) P w K mg base N qual scope f cdv A outer s H E
section
variable {P : Program} {w : World} {K : PySem.W.Frag} {mg : Str → Option Value} {base : Heap} {N : List Str} {qual : Str} {scope : Scope} {f : Addr} {cdv : Value} {A : Around} {outer : List Env} {s₀ : Shared} {H₀ : Hp} {E : XK}
/-- raised in the body of a def -/
theorem made_leaves {pins : List (Addr × Obj)} {σ : St} {H : Hp} {s : Shared} {h1 : Heap} {e C : Addr} {vs : List Value} (I : Inv (cxF P w K mg base N qual scope f cdv A outer s₀ H₀ E) pins σ H s) (hx : Heap.MadeExcOf s.heap h1 e (.ref C) vs) (q : E (.ref C) none H) :
    (cxF P w K mg base N qual scope f cdv A outer s₀ H₀ E).xe (.ref e) { s with heap := h1 } := by
  have hin : ∀ env ∈ envOfC qual scope s₀.heap.objs.size f cdv :: outer, ∀ a, env.frame = some a → a ∈ frs (envOfC qual scope s₀.heap.objs.size f cdv :: outer) := fun env he a ha => List.mem_filterMap.mpr ⟨env, he, ha⟩
  refine wpAny_leaves_madeW (base := PySem.W.hideAll s.heap (frs (envOfC qual scope s₀.heap.objs.size f cdv :: outer))) (h := s.heap) (L := s₀.heap.objs.size) I.ok.frames rfl (fun b o q => PySem.W.of_hideAll _ q) (PySem.W.funFrames_hide I.stack hin) hx fun h' t x1 x2 x3 x4 => ?_
  have up : ∀ b o, s.heap.get? b = some o → b ∈ frs (envOfC qual scope s₀.heap.objs.size f cdv :: outer) → ∃ sl, h'.get? b = some { o with slots := sl } := fun b o e hb => by
    obtain ⟨_, o', ho', hd⟩ := I.stack.mem hb
    rw [e] at ho'; cases ho'
    exact x4 b o (hx.keeps b o e) hd
  refine ⟨e, C, .ref t, _, H, rfl, I.os, I.bare, x1, I.hokHid, I.unTo rfl (fun b o e _ hb => x1.1 b o (hideStk I e hb)) (fun b o e _ hb => up b o e (List.mem_cons_of_mem _ hb)) (fun _ _ _ n => n) (fun b o e => ?_) (fun _ _ z => z) (fun _ _ _ z => z) (fun b ps z => ⟨#[], by rw [z]; simp⟩), fun b o e => ?_, q⟩
  · by_cases hb : b ∈ frs (envOfC qual scope s₀.heap.objs.size f cdv :: outer)
    · obtain ⟨sl, z⟩ := up b o e hb
      exact ⟨_, z⟩
    · exact ⟨o, x1.1 b o (hideStk I e hb)⟩
  · by_cases hb : b ∈ frs outer
    · exact .inl hb
    · obtain ⟨o', e1⟩ := I.base.there b o e (by intro z; cases z)
      exact .inr ⟨o', hideStk I e1 (I.notStk e hb)⟩
/-- .. or in a callee -/
theorem pass_on : Passes (Flown P w) (cxF P w K mg base N qual scope f cdv A outer s₀ H₀ E) E := by
  intro pins σ H s e s' I h
  obtain ⟨ea, C, a0, B, H', rfl, os, bare, fl, hok, un, old, q⟩ := h.ex
  refine wpAny_leaves_onW (L := s₀.heap.objs.size) I.ok.frames rfl fl fun h' x1 x2 => ?_
  have inB : ∀ b o, s.heap.get? b = some o → b ∉ frs (envOfC qual scope s₀.heap.objs.size f cdv :: outer) → ∃ o', B.get? b = some o' ∧ s'.heap.get? b = some o' := fun b o e hb => by
    rcases old b o e with z | ⟨o', z⟩
    · exact absurd z hb
    · exact ⟨o', z, fl.1 b o' z⟩
  have up : ∀ b o, s'.heap.get? b = some o → b ∈ frs (envOfC qual scope s₀.heap.objs.size f cdv :: outer) → ∃ sl, h'.get? b = some { o with slots := sl } := fun b o e hb => by
    obtain ⟨_, o', ho', hd⟩ := fl.2.2.1.mem hb
    rw [e] at ho'; cases ho'
    exact x2 b o e hd
  refine ⟨ea, C, a0, B, H', rfl, os.trans I.os, bare, x1, hok, I.unTo rfl (fun b o e n hb => ?_) (fun b o e n hb => ?_) (fun b o e n => un.free b o e n (by simp)) (fun b o e => ?_) un.tups un.frzs un.tbls, fun b o e => ?_, q⟩
  · obtain ⟨o', e1, e2⟩ := inB b o e hb
    have e3 := un.keep b o e n hb (by simp)
    rw [e2] at e3; cases e3
    exact x1.1 b _ e1
  · obtain ⟨sl, e1⟩ := un.slot b o e n (List.mem_cons_of_mem _ hb) (by simp)
    obtain ⟨sl', e2⟩ := up b _ e1 (List.mem_cons_of_mem _ hb)
    exact ⟨sl', e2⟩
  · by_cases hb : b ∈ frs (envOfC qual scope s₀.heap.objs.size f cdv :: outer)
    · obtain ⟨o', e1⟩ := un.there b o e (by simp)
      obtain ⟨sl, e2⟩ := up b o' e1 hb
      exact ⟨_, e2⟩
    · obtain ⟨o', e1, _⟩ := inB b o e hb
      exact ⟨o', x1.1 b o' e1⟩
  · by_cases hb : b ∈ frs outer
    · exact .inl hb
    · obtain ⟨o', e1⟩ := I.base.there b o e (by intro z; cases z)
      obtain ⟨o2, e2, _⟩ := inB b o' e1 (I.notStk e hb)
      exact .inr ⟨o2, e2⟩
end
/-! ### raise C(..) -/
noncomputable def tRaise (C : Addr) (E : XK) (t : TA) : TS := fun _ σ H => t σ H fun vs H1 => vs.length ≤ sizeLine ∧ E (.ref C) none H1
structure ExC (mg : Str → Option Value) (base : Heap) (x : Str) (C : Addr) : Prop where
  ex : ∃ bm newId, OwnCls x C bm newId mg base ∧ ∃ (Bn inN : String) (bmN : List Value) (B nid initId : String), ExcBaseFacts Bn newId inN bmN ∧ bm.contains (.type Bn) = true ∧ ExcBaseFacts B nid initId bm
theorem ps_raise {P : Program} {w : World} {K : PySem.W.Frag} {mg : Str → Option Value} {base : Heap} {N : List Str} {qual : Str} {scope : Scope} {f : Addr} {cdv : Value} {A : Around} {outer : List Env} {s₀ : Shared} {H₀ : Hp} {E : XK}
    {x : Str} {C : Addr} {np cpos pos : Pos} {e : Expr} {es : List Expr} {t : TA} (O : ExC mg base x C) (hg : Gl (cxF P w K mg base N qual scope f cdv A outer s₀ H₀ E) x) (ha : PA (cxF P w K mg base N qual scope f cdv A outer s₀ H₀ E) (e :: es) t)
    (hdb : (x == ("__debug__" : Str)) = false := by decide)
    (he : starEach (e :: es) (cxF P w K mg base N qual scope f cdv A outer s₀ H₀ E).env = (false, eval e (cxF P w K mg base N qual scope f cdv A outer s₀ H₀ E).env) :: starEach es (cxF P w K mg base N qual scope f cdv A outer s₀ H₀ E).env := by rfl)
    (hpl : (backTo cpos (starEach es (cxF P w K mg base N qual scope f cdv A outer s₀ H₀ E).env)).any (·.1) = false := by rfl) :
    PS (cxF P w K mg base N qual scope f cdv A outer s₀ H₀ E) (.Raise (some (.Call (.Name x np) (e :: es) [] cpos)) none pos) (tRaise C E t) := by
  intro pins s σ H D I h
  obtain ⟨bm, newId, O, Bn, inN, bmN, B, nid, initId, Fn, hBn, FB⟩ := O.ex
  obtain ⟨tl, Nn, nm, q, bs, hdct, sn, sub, ab, col, dd, k0, k1, k2, k3, k5, mN, hC, hN, hni, T⟩ := O.obj
  refine wpAny_Raise_call_subU (C := C) (nm := nm) (q := q) (N := Nn) (bs := bs) (bm := tl) (hdct := hdct) (sn := sn) (sub := sub) (ab := ab) (col := col) (dd := dd) (k0 := k0) (k1 := k1) (k2 := k2) (k3 := k3) (k5 := k5)
    Fn hBn FB (mN := mN) (T.hasType FB.hasBase) (I.ok.hd rfl) (by rw [he]; show (false || (backTo cpos (starEach es (cxF P w K mg base N qual scope f cdv A outer s₀ H₀ E).env)).any (·.1)) = false; rw [hpl]; rfl) hni (ld_glob I hg O.bound ⟨rfl, ?_⟩ hdb)
  have h2 := ha cpos pins s σ H _ I h
  rw [he] at h2 ⊢
  refine Calls.evalArgs_plain (wpAny_mono h2 (fun us s2 ⟨vs, H2, I2, r, z, q⟩ => ⟨rfl, by rw [← r.length]; exact z, I2.bk _ _ hC, hN.keeps I2.bk, T.keeps I2.bk, fun h' e hm => made_leaves I2 hm q⟩) fun _ _ y => y)
/-! ### a def whose body may raise -/
theorem Fun.okF {P : Program} {w : World} {K : PySem.W.Frag} {mg : Str → Option Value} {base : Heap} {x qual : Str} {st : Stmt} {f : Addr} {fd : FuncData} {N ps : List Str} {k : Nat} {sp : Sp} (F : Fun K x qual st f fd) (S : FnScope N ps (defScope st)) (len : ∀ vs H Q E, sp vs H Q E → vs.length = ps.length)
    (hbody : ∀ (cdv : Value) (A : Around) (outer : List Env) (s : Shared) (H : Hp) (vs : List V) (Q : VK) (E : XK), Room k (A.deeper (envOfC qual (defScope st) s.heap.objs.size f cdv)) → sp vs H Q E →
      ∃ t, PSs (cxF P w K mg base N qual (defScope st) f cdv A outer s H E) (defBody st) t ∧ t { nx := fun _ H' => Q .non H', rt := Q } (start N vs) H) : FnOk P w K mg base (Flown P w) (k + 1) f fd ps sp := by
  obtain ⟨oc, od, kV, doc, pm, an, cdv, ct, osl, rfl, lk, hcd⟩ := F.ex
  exact fn_of lk hcd S len fun A outer s H vs Q E hr hsp => hbody cdv A outer s H vs Q E hr hsp
theorem Fun.okN {P : Program} {w : World} {K : PySem.W.Frag} {mg : Str → Option Value} {base : Heap} {x qual : Str} {st : Stmt} {f : Addr} {fd : FuncData} {N ps : List Str} {k : Nat} {sp : Sp} (F : Fun K x qual st f fd) (S : FnScope N ps (defScope st)) (len : ∀ vs H Q E, sp vs H Q E → vs.length = ps.length)
    (hbody : ∀ (cdv : Value) (A : Around) (outer : List Env) (s : Shared) (H : Hp) (vs : List V) (Q : VK) (E : XK), Room k (A.deeper (envOfC qual (defScope st) s.heap.objs.size f cdv)) → sp vs H Q E →
      ∃ t, PSs (cxF P w K mg base N qual (defScope st) f cdv A outer s H E).nox (defBody st) t ∧ t { nx := fun _ H' => Q .non H', rt := Q } (start N vs) H) : FnOk P w K mg base (Flown P w) (k + 1) f fd ps sp :=
  F.okF S len fun cdv A outer s H vs Q E hr h => let ⟨t, a, b⟩ := hbody cdv A outer s H vs Q E hr h; ⟨t, a.nox, b⟩
end L2
namespace L2
open PySem PySem.Spec PyProof.Rows
section
variable {X : Cx}

/-! ### weaker readings -/
theorem OpR.imp {f : Value → Value → Sem Value} {r r' : R2} (h : OpR X f r) (i : ∀ x y H Q, r' x y H Q → r x y H Q) : OpR X f r' := fun pins s σ H x y v u Q I rx ry q => h pins s σ H x y v u Q I rx ry (i _ _ _ _ q)
theorem IxR.imp {r r' : R2} (h : IxR X r) (i : ∀ x y H Q, r' x y H Q → r x y H Q) : IxR X r' := fun value slice pins s σ H x y v u Q I rx ry q hs => h value slice pins s σ H x y v u Q I rx ry (i _ _ _ _ q) hs

/-! ### names of the module -/
theorem pe_tyB {x : Str} {n : String} {pos : Pos} (hg : Gl X x) (hm : X.mg x = none) (hv : bootBuiltins x = some (.type n)) (hn : x ≠ "__name__" := by decide) (hd : (x == ("__debug__" : Str)) = false := by decide) : PE X (.Name x pos) (tC (.ty n)) :=
  pe_bltn hg hm hv (v := .ty n) rfl hn hd
/-! ### a call of a def of the text, the def's facts in one piece -/
structure Cal (P : Program) (w : World) (K : PySem.W.Frag) (mg : Str → Option Value) (base : Heap) (x : Str) (k : Nat) (ps : List Str) (sp : Sp) : Prop where
  ex : ∃ (g : Addr) (gd : FuncData), mg x = some (.ref g) ∧ PySem.W.keepIn K (.ref g) = true ∧ Binds K gd ps [] ∧ FnOk P w K mg base (Flown P w) k g gd ps sp
theorem pe_callC {x : Str} {k k' : Nat} {ps : List Str} {sp : Sp} {p pos : Pos} {e : Expr} {es : List Expr} {t : TA} (C : Cal X.prog X.w X.K X.mg X.base x k ps sp) (hr : Room k' X.A) (hg : Gl X x) (ha : PA X (e :: es) t)
    (hk : k ≤ k' := by decide) (hd : (x == ("__debug__" : Str)) = false := by decide)
    (he : starEach (e :: es) X.env = (false, eval e X.env) :: starEach es X.env := by rfl) (hpl : (backTo pos (starEach es X.env)).any (·.1) = false := by rfl) : PE X (.Call (.Name x p) (e :: es) [] pos) (tCall sp [] E0 t) := by
  obtain ⟨g, gd, hm, hkp, hb, F⟩ := C.ex
  exact pe_call F (hr.mono hk) hg hm hkp hb .nil passF0 ha hd he hpl
/-- .. of a def that may raise, in the body of one that may -/
theorem pe_callCF {P : Program} {w : World} {K : PySem.W.Frag} {mg : Str → Option Value} {base : Heap} {N : List Str} {qual : Str} {scope : Scope} {f : Addr} {cdv : Value} {A : Around} {outer : List Env} {s₀ : Shared} {H₀ : Hp} {E : XK}
    {x : Str} {k k' : Nat} {ps : List Str} {sp : Sp} {p pos : Pos} {e : Expr} {es : List Expr} {t : TA} (C : Cal P w K mg base x k ps sp) (hr : Room k' (cxF P w K mg base N qual scope f cdv A outer s₀ H₀ E).A) (hg : Gl (cxF P w K mg base N qual scope f cdv A outer s₀ H₀ E) x)
    (ha : PA (cxF P w K mg base N qual scope f cdv A outer s₀ H₀ E) (e :: es) t) (hk : k ≤ k' := by decide) (hd : (x == ("__debug__" : Str)) = false := by decide)
    (he : starEach (e :: es) (cxF P w K mg base N qual scope f cdv A outer s₀ H₀ E).env = (false, eval e (cxF P w K mg base N qual scope f cdv A outer s₀ H₀ E).env) :: starEach es (cxF P w K mg base N qual scope f cdv A outer s₀ H₀ E).env := by rfl)
    (hpl : (backTo pos (starEach es (cxF P w K mg base N qual scope f cdv A outer s₀ H₀ E).env)).any (·.1) = false := by rfl) :
    PE (cxF P w K mg base N qual scope f cdv A outer s₀ H₀ E) (.Call (.Name x p) (e :: es) [] pos) (tCall sp [] E t) := by
  obtain ⟨g, gd, hm, hkp, hb, F⟩ := C.ex
  exact pe_call (X := cxF P w K mg base N qual scope f cdv A outer s₀ H₀ E) F (hr.mono hk) hg hm hkp hb .nil pass_on ha hd he hpl

/-! ### + and * -/
theorem cat_tup0 {prog : Program} {w : World} {A : Around} {E : Value → Shared → Prop} {s : Shared} {t b : Addr} {vs ws : List Value} {Q : Value → Shared → Prop} (ht : IsTup s.heap t vs.toArray) (hb : IsTup s.heap b ws.toArray) (hv : vs = [])
    (h1 : Q (.ref b) s) : wpAny (model prog w) A (binaryOp .Add (.ref t) (.ref b)) Q E s := by
  obtain ⟨⟨cls, dd, data, sl⟩, ho, hc, n, hd⟩ := id ht
  obtain ⟨⟨cls2, dd2, data2, sl2⟩, ho2, hc2, n2, hd2⟩ := id hb
  simp only at hc hd hc2 hd2
  subst hc hd hc2 hd2
  exact concat_meets ⟨_, ho, rfl⟩ ⟨_, ho2, rfl⟩ noFill_tuple_add seq_tuple_add PySem.F.slot_tuple_add PySem.F.entry_tuple_add (PySem.F.args_tuple_add_2 _ _)
      (tuple_addW0 t b vs.toArray ws.toArray n n2 dd dd2 sl sl2 (by simp [hv])) ⟨ho, ho2, h1⟩
noncomputable def rCat0 (K : PySem.W.Frag) : R2 := fun x y H Q => ∃ a b ys, x = .ref a ∧ y = .ref b ∧ SqT K H a [] ∧ SqT K H b ys ∧ Q (.ref b) H
theorem op_cat0 : OpR X (binaryOp .Add) (rCat0 X.K) := by
  intro pins s σ H x y v u Q I rx ry h
  obtain ⟨a, b, ys, rfl, rfl, ha, hb, q⟩ := h
  cases rx
  cases ry
  obtain ⟨its, r1, p1, _⟩ := I.tuple ha
  obtain ⟨its2, r2, p2, _⟩ := I.tuple hb
  exact cat_tup0 p1 p2 (r1.nil_iff.mpr rfl) ⟨.ref b, H, I, rfl, q⟩
noncomputable def rAddV (K : PySem.W.Frag) : R2 := fun x y H Q => match x, y with
  | .int i, .int j => Q (.int (i + j)) H
  | .str i, .str j => i.length + j.length ≤ sizeLine ∧ Q (.str (i ++ j)) H
  | .ref a, .ref b => (∃ xs ys, H a = some (.lst xs) ∧ H b = some (.lst ys) ∧ xs.length + ys.length ≤ sizeLine ∧ ∀ p, H p = none → Q (.ref p) (upd H p (.lst (xs ++ ys)))) ∨
      (∃ xs ys, SqT K H a xs ∧ SqT K H b ys ∧ xs.length + ys.length ≤ sizeLine ∧ (xs = [] → Q (.ref b) H) ∧ (xs ≠ [] → ys = [] → Q (.ref a) H) ∧ (xs ≠ [] → ys ≠ [] → ∀ p, H p = none → Q (.ref p) (upd H p (.tup (xs ++ ys)))))
  | _, _ => False
theorem v_add : OpR X (binaryOp .Add) (rAddV X.K) := by
  refine ((op_add.or op_add_str).or (op_cat.or (op_catT.or op_cat0))).imp fun x y H Q h => ?_
  unfold rAddV at h
  split at h
  · exact .inl (.inl ⟨_, _, rfl, rfl, h⟩)
  · exact .inl (.inr ⟨_, _, rfl, rfl, h⟩)
  · rcases h with ⟨xs, ys, h1, h2, h3, h4⟩ | ⟨xs, ys, h1, h2, h3, h4, h5, h6⟩
    · exact .inr (.inl ⟨_, _, xs, ys, rfl, rfl, h1, h2, h3, h4⟩)
    · by_cases hx : xs = []
      · subst hx
        exact .inr (.inr (.inr ⟨_, _, ys, rfl, rfl, h1, h2, h4 rfl⟩))
      · exact .inr (.inr (.inl ⟨_, _, xs, ys, rfl, rfl, h1, h2, hx, h3, h5 hx, h6 hx⟩))
  · exact h.elim
noncomputable def rMulV : R2 := fun x y H Q => match x, y with
  | .int i, .int j => IntMulOk i j ∧ Q (.int (i * j)) H
  | .ref l, .int k => ∃ xs, H l = some (.lst xs) ∧ -(2 ^ 63) ≤ k ∧ k < 2 ^ 63 ∧ xs.length * k.toNat ≤ sizeLine ∧ ∀ p, H p = none → Q (.ref p) (upd H p (.lst (List.replicate k.toNat xs).flatten))
  | _, _ => False
theorem op_mulG : OpR X (binaryOp .Mult) (rI IntMulOk fun i j => .int (i * j)) := opI fun _ _ _ _ _ _ _ hc q => mul_int q hc
theorem v_mul : OpR X (binaryOp .Mult) rMulV := by
  refine (op_mulG.or op_rep).imp fun x y H Q h => ?_
  unfold rMulV at h
  split at h
  · exact .inl ⟨_, _, rfl, rfl, h.1, h.2⟩
  · obtain ⟨xs, h1, h2, h3, h4, h5⟩ := h
    exact .inr ⟨_, _, xs, rfl, rfl, h1, h2, h3, h4, h5⟩
  · exact h.elim

/-! ### an item, a slice -/
noncomputable def rIxV (K : PySem.W.Frag) : R2 := fun x y H Q => match x, y with
  | .ref p, .int i => ∃ xs v, (SqL K H p xs ∨ SqT K H p xs) ∧ atI xs i = some v ∧ Q v H
  | .str z, .int i => ∃ c, z.length ≤ sizeLine ∧ atI z.cps.toList i = some c ∧ Q (.str ⟨#[c]⟩) H
  | _, _ => False
theorem v_ix : IxR X (rIxV X.K) := by
  refine ix_seq.imp fun x y H Q h => ?_
  unfold rIxV at h
  split at h
  · obtain ⟨xs, v, h1 | h1, h2, h3⟩ := h
    · exact .inl ⟨_, xs, _, v, rfl, rfl, h1, h2, h3⟩
    · exact .inr (.inl ⟨_, xs, _, v, rfl, rfl, h1, h2, h3⟩)
  · obtain ⟨c, h1, h2, h3⟩ := h
    exact .inr (.inr ⟨_, _, c, rfl, rfl, h1, h2, h3⟩)
  · exact h.elim

/-! ### isinstance of built-in types -/
noncomputable def tyNm (H : Hp) : V → Option String
  | .non => some "NoneType"
  | .bl _ => some "bool"
  | .int _ => some "int"
  | .str _ => some "str"
  | .ref a => match H a with
    | some (.lst _) => some "list"
    | some (.frz _ (.lst _)) => some "list"
    | some (.tup _) => some "tuple"
    | some (.dK _) => some "dict"
    | _ => none
  | _ => none
noncomputable def subB (t c : String) : Bool := t == c || (t == "bool" && c == "int")
theorem kit_b {K : PySem.W.Frag} {t c : String} (ht : t ∈ ["NoneType", "bool", "int", "str", "list", "tuple", "dict"]) (hc : c ∈ ["int", "bool", "tuple", "list", "str", "dict"]) : PySem.W.kitOne K (.type t) (.type c) = some (subB t c) := by
  simp only [List.mem_cons, List.not_mem_nil, or_false] at ht hc
  rcases ht with rfl | rfl | rfl | rfl | rfl | rfl | rfl <;> rcases hc with rfl | rfl | rfl | rfl | rfl | rfl <;> kernel_rfl
theorem tyNm_of {K : PySem.W.Frag} {H : Hp} {x : V} {t : String} (h : tyNm H x = some t) : TyOf K H x (.type t) ∧ t ∈ ["NoneType", "bool", "int", "str", "list", "tuple", "dict"] := by
  unfold tyNm at h
  split at h
  · cases h; exact ⟨.non, by simp⟩
  · cases h; exact ⟨.bl _, by simp⟩
  · cases h; exact ⟨.int _, by simp⟩
  · cases h; exact ⟨.str _, by simp⟩
  · split at h
    · rename_i e; cases h; exact ⟨.lst e, by simp⟩
    · rename_i e; cases h; exact ⟨.frz e, by simp⟩
    · rename_i e; cases h; exact ⟨.tup e, by simp⟩
    · rename_i e; cases h; exact ⟨.dK e, by simp⟩
    · cases h
  · cases h
theorem v_isinstance : CallR X (.builtin "isinstance") (fun xs H Q => ∃ x c t, xs = [x, .ty c] ∧ tyNm H x = some t ∧ c ∈ ["int", "bool", "tuple", "list", "str", "dict"] ∧ Q (.bl (subB t c)) H) := by
  intro pins s σ H xs us Q I r h
  obtain ⟨x, c, t, rfl, ht, hc, q⟩ := h
  obtain ⟨u, v, rfl, ru, rv⟩ := r.two
  cases rv
  obtain ⟨ty, hm⟩ := tyNm_of (K := X.K) ht
  exact isinst_ok I ru ty (kit_b hm hc) fun tk => ⟨.bl _, H, I.tok tk, rfl, q⟩

/-! ### all of a list of bools, the sum of a list of ints -/
theorem bools_of : ∀ {bs : List Bool} {us : List Value}, Vals (bs.map V.bl) us → us = bs.map Value.bool
  | [], _, .nil => rfl
  | b :: bs, _, .cons r t => by
    have e := bools_of (bs := bs) t
    cases (show _ = Value.bool b from r)
    rw [e]; rfl
/-! ### what is walked: a list or a tuple -/
noncomputable def iSeq (K : PySem.W.Frag) (tl : TE) : TI := fun σ H R => tl σ H fun x H1 => ∃ a, x = .ref a ∧ (((∃ xs, SqL K H1 a xs) ∧ R (Itl K a) H1) ∨ ((∃ xs, SqT K H1 a xs) ∧ R (Itt K a) H1))
theorem pi_seq {tg l : Expr} {tl : TE} (hl : PE X l tl) : PI X tg l (iSeq X.K tl) := by
  intro pins s σ H R I h
  refine thn (hl pins s σ H _ I h) fun v s1 ⟨x, H1, I1, r1, a, e, q⟩ => ?_
  subst e
  cases r1
  rcases q with ⟨⟨xs, hq⟩, q⟩ | ⟨⟨xs, hq⟩, q⟩
  · have hh : PI X tg l (iList X.K fun σ' H' Q => Q (.ref a) H') → True := fun _ => trivial
    obtain ⟨its, rv, p, hz⟩ := I1.list hq
    refine wpAny_pyIter_list p.isList ?_
    refine ⟨s1.heap.objs.size, [s1.heap.objs.size], _, _, H1, rfl, I1.kept (t' := s1.toks) fun b o e => Heap.get?_push_of_some _ e, turn_list a _, ⟨_, Heap.get?_push_size _ rfl, rfl, rfl⟩, fun b hb => ?_, q⟩
    have e : b = s1.heap.objs.size := by simpa using hb
    subst e
    exact I1.fpOk (Nat.le_refl _) (I1.hok.fresh (Nat.le_refl _))
  · obtain ⟨its, rv, p, hz⟩ := I1.tuple hq
    refine wpAny_pyIter_tuple (show s1.heap.IsTuple a its.toArray from p) ?_
    refine ⟨s1.heap.objs.size, [s1.heap.objs.size], _, _, H1, rfl, I1.kept (t' := s1.toks) fun b o e => Heap.get?_push_of_some _ e, turn_tuple a _, ⟨_, Heap.get?_push_size _ rfl, rfl, rfl⟩, fun b hb => ?_, q⟩
    have e : b = s1.heap.objs.size := by simpa using hb
    subst e
    exact I1.fpOk (Nat.le_refl _) (I1.hok.fresh (Nat.le_refl _))
end
end L2
namespace L2
open PySem PySem.Spec PyProof.Rows

/-! ### a list comprehension of one clause: its block, its rule -/
theorem closure_go {env : Env} : ∀ (names : List (Str × NameKind)) (acc : List (Str × Addr)), (∀ y ∈ names, y.2 = .free → ∃ c, env.cells.lookup y.1 = some c) → (∀ p ∈ acc, env.cells.lookup p.1 = some p.2) →
   ∃ cl, (forIn names acc fun (y : Str × NameKind) (cs : List (Str × Addr)) => match y with | (name, kind) => if (kind == .free) = true then do let a ← cellOf env name; pure (ForInStep.yield ((name, a) :: cs)) else pure (ForInStep.yield cs)) = (pure cl : Sem _) ∧ (∀ p ∈ cl, env.cells.lookup p.1 = some p.2) ∧ (∀ p ∈ acc, p ∈ cl) ∧ ∀ y ∈ names, y.2 = .free → ∃ c, (y.1, c) ∈ cl
  | [], acc, _, ha => ⟨acc, rfl, ha, fun _ h => h, fun _ h => nomatch h⟩
  | (n, k) :: r, acc, hf, ha => by
    have hr : ∀ y ∈ r, y.2 = .free → ∃ c, env.cells.lookup y.1 = some c := fun y hy => hf y (List.mem_cons_of_mem _ hy)
    by_cases hk : k = .free
    · subst hk
      obtain ⟨c, hc⟩ := hf (n, .free) List.mem_cons_self rfl
      obtain ⟨cl, e, h1, h2, h3⟩ := closure_go r ((n, c) :: acc) hr (fun p hp => by
        rcases List.mem_cons.mp hp with rfl | hp
        · exact hc
        · exact ha p hp)
      refine ⟨cl, ?_, h1, fun p hp => h2 p (List.mem_cons_of_mem _ hp), fun y hy hyf => ?_⟩
      · rw [List.forIn_cons]
        simp only [beq_self_eq_true, if_true, cellOf, hc, pure_bind]
        exact e
      · rcases List.mem_cons.mp hy with rfl | hy
        · exact ⟨c, h2 _ List.mem_cons_self⟩
        · exact h3 y hy hyf
    · have hb : (k == NameKind.free) = false := by simpa using hk
      obtain ⟨cl, e, h1, h2, h3⟩ := closure_go r acc hr ha
      refine ⟨cl, ?_, h1, h2, fun y hy hyf => ?_⟩
      · rw [List.forIn_cons]
        simp only [hb, Bool.false_eq_true, if_false, pure_bind]
        exact e
      · rcases List.mem_cons.mp hy with rfl | hy
        · exact absurd hyf hk
        · exact h3 y hy hyf
theorem closure_ok {env : Env} {scope : Scope} (hf : ∀ y ∈ scope.names, y.2 = .free → ∃ c, env.cells.lookup y.1 = some c) :
    ∃ cl, closureFor scope env = pure cl ∧ (∀ x c, cl.lookup x = some c → env.cells.lookup x = some c) ∧ ∀ y ∈ scope.names, y.2 = .free → ∃ c, cl.lookup y.1 = some c := by
  obtain ⟨cl, e, h1, _, h3⟩ := closure_go (env := env) scope.names [] hf (fun _ h => nomatch h)
  refine ⟨cl, ?_, fun x c h => h1 (x, c) (PySem.mem_of_lookup h), fun y hy hyf => ?_⟩
  · unfold closureFor
    simp only [bind_pure_comp] at e ⊢
    rw [e]
    rfl
  · obtain ⟨c, hc⟩ := h3 y hy hyf
    cases q : cl.lookup y.1 with
    | some d => exact ⟨d, rfl⟩
    | none =>
      have z := List.lookup_eq_none_iff.mp q (y.1, c) hc
      simp at z

noncomputable def cEnv (sc : Scope) (cl : List (Str × Addr)) (C : Addr) (env : Env) : Env :=
  { scope := sc, locals := C, globals := env.globals, cells := cl, qual := env.qual, func := none, code := env.code, frame := env.frame, builtins := env.builtins }
/-- the context of the block -/
noncomputable def cCx (X : Cx) (sc : Scope) (N : List Str) (cl : List (Str × Addr)) (C : Addr) (s₀ : Shared) (H₀ : Hp) (ex : List Addr) : Cx :=
  { X with env := cEnv sc cl C X.env, N := N, s₀ := s₀, H₀ := H₀, outer := X.stack, ex := ex, fn := fun _ => false, pn := [], xe := fun _ _ => False }
/-- the block's names: new ones (none), and those of the def around it, by their slots there -/
noncomputable def cst (ix : List (Option Nat)) (σ : St) : St := ix.map fun o => match o with
  | none => none
  | some i => match σ[i]? with
    | some v => v
    | none => none

noncomputable def PIf (X : Cx) (ifs : List Expr) (t : TT) : Prop :=
  ∀ (pins : List (Addr × Obj)) (s : Shared) (σ : St) (H : Hp) (Q : Bool → Hp → Prop), Inv X pins σ H s → t σ H Q →
    wpAny (model X.prog X.w) X.A (forIn ifs true fun c r => if r = true then do let ok ← isTrue c X.env (eval c X.env); pure (ForInStep.yield ok) else pure (ForInStep.yield r)) (TP X pins σ Q) X.xe s
noncomputable def tYes : TT := fun _ H Q => Q true H
theorem pif_nil {X : Cx} : PIf X [] tYes := fun _ _ _ H _ I h => wpAny_tests_nil ⟨H, I, h⟩
theorem codeAny_compLoop_any {prog : Program} {w : World} {A : Around} {R : Result → Shared → Prop} {s : Shared} {elt target iter : Expr} {ifs : List Expr} {scope : Scope} {pos : Pos} {it acc : Value} {env : Env} (I : Nat → Shared → Prop)
    (turn : ∀ n s, I n s → wpAny (model prog w) A (pyNext it) (fun r s₁ => match r with
      | none => R (.ok .next) s₁
      | some v => wpAny (model prog w) A (letOwnedTupleGo target it v) (fun _ s₀ => wpAny (model prog w) A (assign target env v) (fun _ s₂ =>
          wpAny (model prog w) A (forIn ifs true fun c r => if r = true then do let ok ← isTrue c env (eval c env); pure (ForInStep.yield ok) else pure (ForInStep.yield r)) (fun ok s₃ =>
            if ok = true then wpAny (model prog w) A (eval elt env) (fun x s₄ =>
              wpAny (model prog w) A (call (.builtin "list.append") [acc, x]) (fun _ s₅ => ∃ m, m < n ∧ I m s₅) (fun _ _ => False) s₄) (fun _ _ => False) s₃
            else ∃ m, m < n ∧ I m s₃) (fun _ _ => False) s₂) (fun _ _ => False) s₀) (fun _ _ => False) s₁) (fun _ _ => False) s)
    (n : Nat) (h : I n s) :
    codeAny (model prog w) A (.compLoop (.ListComp elt [⟨target, iter, ifs, 0⟩] scope pos) 0 it acc env) R s := by
  refine codeAny_loop rfl I (fun n s hI => ?_) n h
  show wpAny _ A ((compTurn (.ListComp elt [⟨target, iter, ifs, 0⟩] scope pos) 0 it acc env).onRaise (fun x => do noteFrame x env; theTreesLotGoes x)) _ _ s
  refine wpAny_noted ?_
  rw [compTurn_list]
  refine wpAny_bind (wpAny_standAt (wpAny_bind (wpAny_mono (turn n s hI) (fun r s₁ h₁ => ?_) fun _ _ h' => h'.elim)))
  cases r with
  | none => exact wpAny_pure h₁
  | some v =>
    refine wpAny_bind (wpAny_mono h₁ (fun _ s₀ h₀ => ?_) fun _ _ h' => h'.elim)
    refine wpAny_bind (wpAny_mono h₀ (fun _ s₂ h₂ => wpAny_bind (wpAny_mono h₂ (fun ok s₃ h₃ => ?_) fun _ _ h' => h'.elim)) fun _ _ h' => h'.elim)
    cases ok with
    | false => exact wpAny_pure ⟨rfl, h₃⟩
    | true =>
      exact wpAny_bind (wpAny_bind (wpAny_mono h₃ (fun x s₄ h₄ => wpAny_bind (wpAny_mono h₄ (fun _ s₅ h₅ => wpAny_pure (wpAny_pure ⟨rfl, h₅⟩)) fun _ _ h' => h'.elim)) fun _ _ h' => h'.elim))

/-- the block's loop (D: the new list; W: the invariant by the turn and a measure, over the block's names); a structure, so that nothing opens it by itself -/
structure CompK (ix : List (Option Nat)) (g : TG) (tc : TT) (te : TE) (σ : St) (Q : VK) (J : It) (H1 : Hp) : Prop where
  go : ∀ D, H1 D = none → ∃ W : Nat → Nat → St → Hp → Prop, (∃ m, W 0 m (cst ix σ) (upd H1 D (.lst []))) ∧
    ∀ i m σ' H', W i m σ' H' → (J.stop i H' ∧ Q (.ref D) H') ∨ (J.go i H' ∧ ∀ x H2, J.yld i H' x H2 → g x σ' H2 fun σ3 H3 => tc σ3 H3 fun b H4 =>
      if b = true then te σ3 H4 fun y H5 => ∃ ys, H5 D = some (.lst ys) ∧ ys.length < sizeLine ∧ ∃ m', m' < m ∧ W (i + 1) m' σ3 (upd H5 D (.lst (ys ++ [y])))
      else ∃ m', m' < m ∧ W (i + 1) m' σ3 H4)
noncomputable def tComp (ix : List (Option Nat)) (wi : TI) (g : TG) (tc : TT) (te : TE) : TE := fun σ H Q => wi σ H fun J H1 => CompK ix g tc te σ Q J H1

structure CompOk (X : Cx) (scope sc : Scope) (N : List Str) (ix : List (Option Nat)) : Prop where
  rel : relabel scope X.env = sc
  kind : scope.kind = .function
  cell : ∀ y ∈ scope.names, y.2 ≠ .cell
  names : ∀ x ∈ scope.names, x.2 = .local → scope.names.lookup x.1 = some .local
  free : ∀ y ∈ scope.names, y.2 = .free → X.env.kindOf y.1 = some .cell ∨ X.env.kindOf y.1 = some .free
  len : N.length = ix.length
  ix : ∀ (j : Nat) (x : Str) (i : Nat), N[j]? = some x → ix[j]? = some (some i) → X.N[i]? = some x ∧ (x, NameKind.free) ∈ scope.names ∧ (sc.names.lookup x = some .cell ∨ sc.names.lookup x = some .free)
  has : ∀ x, (sc.names.lookup x = some .cell ∨ sc.names.lookup x = some .free) → (x, NameKind.free) ∈ scope.names

theorem comp_core {X : Cx} {tg iter elt : Expr} {ifs : List Expr} {scope sc : Scope} {pos ip : Pos} {wi : TI} {g : TG} {tc : TT} {te : TE} {N : List Str} {ix : List (Option Nat)} (O : CompOk X scope sc N ix) (hc : X.calm = true) (hi : PI X tg iter wi)
    (hb : ∀ cl C s₀ H₀ ex, PG (cCx X sc N cl C s₀ H₀ ex) tg g ∧ PIf (cCx X sc N cl C s₀ H₀ ex) ifs tc ∧ PE (cCx X sc N cl C s₀ H₀ ex) elt te) (hs : ∀ x, foldedSetIterable iter X.env x = pure x)
    {use : Option (Value → Sem Unit)} {QQ : Value → Shared → Prop} {pins : List (Addr × Obj)} {s : Shared} {σ : St} {H : Hp} {Q : VK} (I : Inv X pins σ H s) (h : tComp ix wi g tc te σ H Q)
    (fin : ∀ (D C : Addr) (s6 : Shared) (H5 : Hp) (m : Str → Option Value), Inv X pins σ H5 s6 → s6.heap.Ns C m → FpOk X pins H5 C → Q (.ref D) H5 → compPost (model X.prog X.w) X.A X.xe use QQ (.ref D) C (.ok .next) s6) :
    wpAny (model X.prog X.w) X.A (comprehension (.ListComp elt [⟨tg, iter, ifs, 0⟩] scope pos) scope X.env ip (newList []) false (eval iter X.env) use) QQ X.xe s := by
  have hcl : ∃ cl, closureFor scope X.env = pure cl ∧ (∀ x c, cl.lookup x = some c → X.env.cells.lookup x = some c) ∧ ∀ y ∈ scope.names, y.2 = .free → ∃ c, cl.lookup y.1 = some c :=
    closure_ok fun y hy hf => I.ok.has y.1 (O.free y hy hf)
  obtain ⟨cl, ecl, hcl1, hcl2⟩ := hcl
  refine wpAny_comprehension_free (use := use) rfl hs ecl O.kind O.names (thn (hi pins s σ H _ I h) fun v s1 h1 => thn h1 fun itv s2 h2 => ?_)
  obtain ⟨it, fp, tn, J, H2, e, I2, T, st2, f2, q2⟩ := h2
  subst e
  obtain ⟨W, ⟨m0, w0⟩, turn⟩ := q2.go s2.heap.objs.size I2.fresh
  -- the new list
  refine wpAny_newObj_type ?_
  have I3 := I2.lnew (its := []) (t' := s2.toks) (ys := []) .nil (Nat.zero_le _)
  generalize eH3 : upd H2 s2.heap.objs.size (.lst []) = H3 at I3 w0
  have eD : H3 s2.heap.objs.size = some (.lst []) := by rw [← eH3]; exact upd_same
  have hfp2 : ∀ b ∈ fp, b ≠ s2.heap.objs.size := fun b hb z => by
    obtain ⟨o, ho, _⟩ := T.obj _ _ st2 b hb
    exact absurd (Heap.lt_size ho) (by rw [z]; exact Nat.lt_irrefl _)
  have st3 : tn 0 (s2.heap.push { cls := .type "list", dict := none, data := .seq ([] : List Value).toArray }) := T.keep _ _ _ st2 fun b _ o e => Heap.get?_push_of_some _ e
  have f3 : ∀ b ∈ fp, FpOk X pins H3 b := fun b hb => ⟨by rw [← eH3, upd_ne (hfp2 b hb)]; exact (f2 b hb).1, (f2 b hb).2⟩
  generalize es3 : ({ s2 with heap := s2.heap.push { cls := .type "list", dict := none, data := .seq ([] : List Value).toArray }, toks := s2.toks } : Shared) = s3 at I3
  have st3' : tn 0 s3.heap := by rw [← es3]; exact st3
  -- the block's frame
  refine wpAny_newFunctionEnv O.cell (fun y hy => nomatch hy) (fun h4 hns4 hsb4 => ?_) O.kind
  have keep4 : ∀ b o, s3.heap.get? b = some o → h4.get? b = some o := fun b o e => (hsb4.2 b (Nat.ne_of_lt (Heap.lt_size e))).trans (Heap.get?_push_of_some _ e)
  have I4 : Inv X pins σ H3 { s3 with heap := h4, toks := s3.toks + ([] : List (Str × Value)).length } := I3.kept keep4
  have eenv : ({ newEnv scope s3.heap.objs.size X.env.globals cl X.env.qual none .none (some X.env) builtinsNs with scope := relabel scope X.env } : Env) = cEnv sc cl s3.heap.objs.size X.env := by rw [O.rel]; rfl
  rw [eenv]
  show codeAny _ _ _ (compPost (model X.prog X.w) X.A X.xe use QQ (.ref s2.heap.objs.size) s3.heap.objs.size) _
  generalize eC : s3.heap.objs.size = C
  generalize es4 : ({ s3 with heap := h4, toks := s3.toks + ([] : List (Str × Value)).length } : Shared) = s4 at I4
  have h4s : s4.heap = h4 := by rw [← es4]
  have o4s : s4.os = s3.os := by rw [← es4]
  have fC : ∀ b ∈ fp, b ≠ C := fun b hb z => by
    obtain ⟨o, ho, _⟩ := T.obj _ _ st3' b hb
    exact absurd (Heap.lt_size ho) (by rw [z, eC]; exact Nat.lt_irrefl _)
  have okC : (cCx X sc N cl C s3 H3 fp).Ok := by
    refine ⟨I3.ok.mod, ?_, I3.ok.glob, I3.ok.blt, Nat.le_of_eq eC, fun x y c h1 h2 => I3.ok.inj x y c (hcl1 x c h1) (hcl1 y c h2), fun x hx => ?_, fun x c z _ => (nomatch z), I3.ok.hd, I3.ok.frames, .inl rfl, fun b hb => ⟨fC b hb, fun x c e => (f3 b hb).2.2.2.2.1 x c (hcl1 x c e)⟩,
      I3.bs, Nat.le_trans I3.ok.bsz I3.sz, fun b o e hb => ?_, fun b hb z => ?_, I3.stack, I3.stkFree⟩
    · show sc.kind = .function
      rw [← O.rel]; exact O.kind
    · exact hcl2 (x, .free) (O.has x hx) rfl
    · rcases (f3 b hb).2.2.2.1 with z | z
      · exact I3.ok.noex b o e z
      · exact absurd (Nat.lt_of_lt_of_le (Heap.lt_size e) (Nat.le_trans I3.ok.bsz z)) (Nat.lt_irrefl _)
    · rcases List.mem_cons.mp (I3.stkSub b z) with z | z
      · exact (f3 b hb).2.1 z
      · exact (f3 b hb).2.2.1 z
  have IC : Inv (cCx X sc N cl C s3 H3 fp) [] (cst ix σ) H3 s4 := by
    refine ⟨okC, o4s, I4.bare, ?_, ?_, fun x c e => I4.cell x c (hcl1 x c e), ?_, fun x c e => I4.freeC x c (hcl1 x c e), fun p hp => (nomatch hp), I4.hok, ?_⟩
    · rw [h4s]
      exact Un.kept keep4
    · refine ⟨_, by rw [h4s, ← eC]; exact hns4, fun j x v e1 e2 e3 => ?_⟩
      have e2' : (cst ix σ)[j]? = some (some v) := e2
      unfold cst at e2'
      rw [List.getElem?_map] at e2'
      cases q : ix[j]? with
      | none => rw [q] at e2'; cases e2'
      | some o =>
        rw [q] at e2'
        cases o with
        | none => cases e2'
        | some i =>
          obtain ⟨hx, hm, hsc⟩ := O.ix j x i e1 q
          cases q2 : σ[i]? with
          | none => simp [q2] at e2'
          | some w' =>
            simp [q2] at e2'
            subst e2'
            obtain ⟨m, hn, hl⟩ := I4.loc
            have kf := O.free (x, .free) hm rfl
            have vis : Vis X.env.scope x := by
              rcases kf with k | k
              · exact .inr (.inl k)
              · exact .inr (.inr k)
            obtain ⟨u, r, l⟩ := hl i x v hx q2 vis
            refine ⟨u, r, ?_⟩
            rcases l with ⟨k, _⟩ | ⟨_, c, e, z⟩
            · rcases kf with k' | k'
              · rw [k] at k'; cases k'
              · rw [k] at k'; cases k'
            · obtain ⟨c', e'⟩ := hcl2 (x, .free) hm rfl
              have := hcl1 x c' e'
              rw [e] at this; cases this
              exact .inr ⟨hsc, c, e', z⟩
    · rw [← eC]
      exact I3.fresh
    · show (cst ix σ).length = N.length
      rw [O.len]; simp [cst]
  have st4 : tn 0 s4.heap := T.keep _ _ _ st3' fun b _ o e => by rw [h4s]; exact keep4 b o e
  have stat : ∀ {H' : Hp}, (∀ b ∈ fp, H' b = none) → ∀ b ∈ fp, FpOk (cCx X sc N cl C s3 H3 fp) [] H' b := fun hn b hb =>
    ⟨hn b hb, fC b hb, okC.exfs b hb, .inl hb, fun x c e => (f3 b hb).2.2.2.2.1 x c (hcl1 x c e), fun p hp => (nomatch hp)⟩
  obtain ⟨hg, ht, he⟩ := hb cl C s3 H3 fp
  -- the loop
  have loop : codeAny (model X.prog X.w) X.A (.compLoop (.ListComp elt [⟨tg, iter, ifs, 0⟩] scope pos) 0 (.ref it) (.ref s2.heap.objs.size) (cEnv sc cl C X.env))
      (compPost (model X.prog X.w) X.A X.xe use QQ (.ref s2.heap.objs.size) C) s4 := by
    refine codeAny_compLoop_any (fun n s' => ∃ i σ' H', Inv (cCx X sc N cl C s3 H3 fp) [] σ' H' s' ∧ tn i s'.heap ∧ (∀ b ∈ fp, H' b = none) ∧ W i n σ' H') ?_ m0 ⟨0, cst ix σ, H3, IC, st4, fun b hb => (f3 b hb).1, w0⟩
    rintro n s5 ⟨i, σ5, H5, I5, st5, fr5, w5⟩
    rcases turn i n σ5 H5 w5 with ⟨stop, qn⟩ | ⟨go, step⟩
    · refine thn (T.done (cCx X sc N cl C s3 H3 fp) rfl rfl rfl hc i [] s5 σ5 H5 (fun _ _ => False) I5 (stat fr5) st5 stop) fun r s6 ⟨hr, I6⟩ => ?_
      subst hr
      obtain ⟨m, hn, _⟩ := id I6.loc
      have I7 : Inv X pins σ H5 s6 := I3.call' (ch := fp) I6.os I6.base I6.hok I6.bare fun b hb => ⟨(f3 b hb).2.2.2.1, (f3 b hb).2.1, (f3 b hb).2.2.2.2.1, (f3 b hb).2.2.2.2.2⟩
      exact fin _ C s6 H5 m I7 hn (I3.fpOk (Nat.le_of_eq eC) I6.free) qn
    · refine thn (T.item (cCx X sc N cl C s3 H3 fp) rfl rfl rfl hc i [] s5 σ5 H5 (fun _ _ => False) I5 (stat fr5) st5 go) fun r s6 ⟨u, hr, h6⟩ => ?_
      subst hr
      refine thn h6 fun _ s7 ⟨x, H7, I7, r7, y7, st7, fr7⟩ => ?_
      have I7' := I7.pinned (stat fr7) (T.obj _ _ st7)
      have again : ∀ {σ9 : St} {H9 : Hp} {s9 : Shared} {m' : Nat}, Inv (cCx X sc N cl C s3 H3 fp) ([] ++ pinsAt fp s7.heap) σ9 H9 s9 → m' < n → W (i + 1) m' σ9 H9 →
          ∃ m, m < n ∧ ∃ i σ' H', Inv (cCx X sc N cl C s3 H3 fp) [] σ' H' s9 ∧ tn i s9.heap ∧ (∀ b ∈ fp, H' b = none) ∧ W i m σ' H' := fun {σ9 H9 s9 m'} I9 hm w9 => by
        refine ⟨m', hm, i + 1, σ9, H9, I9.unpinned, T.keep _ _ _ st7 fun b hb o e => (I9.pin (b, o) (List.mem_append_right _ (List.mem_append_right _ (mem_pinsAt hb e)))).1, fun b hb => ?_, w9⟩
        obtain ⟨o, e, d⟩ := T.obj _ _ st7 b hb
        exact (I9.pin (b, o) (List.mem_append_right _ (List.mem_append_right _ (mem_pinsAt hb e)))).2.1
      refine thn (hg _ s7 σ5 H7 x u _ I7' r7 (step x H7 y7)) fun _ s8 ⟨σ8, H8, I8, q8⟩ => ?_
      refine thn (ht _ s8 σ8 H8 _ I8 q8) fun b s9 ⟨H9, I9, q9⟩ => ?_
      cases b with
      | false =>
        rw [if_neg Bool.false_ne_true] at q9
        obtain ⟨m', hm, w9⟩ := q9
        rw [if_neg Bool.false_ne_true]
        exact again I9 hm w9
      | true =>
        rw [if_pos rfl] at q9
        rw [if_pos rfl]
        refine thn (he _ s9 σ8 H9 _ I9 q9) fun y s10 ⟨yv, H10, I10, r10, ys, e10, z10, m', hm, w10⟩ => ?_
        refine thn (mt_append _ s10 σ8 H10 (.ref s2.heap.objs.size) [yv] (.ref s2.heap.objs.size) [y] (fun _ H' => W (i + 1) m' σ8 H') I10 rfl (.cons r10 .nil) ⟨_, ys, yv, rfl, rfl, e10, z10, w10⟩) fun _ s11 ⟨_, H11, I11, _, w11⟩ => ?_
        exact again I11 hm w11
  exact codeAny_compStart_list loop (T.self _ _ _ _ _ st4 loop)
theorem pe_comp {X : Cx} {tg iter elt : Expr} {ifs : List Expr} {scope sc : Scope} {pos : Pos} {wi : TI} {g : TG} {tc : TT} {te : TE} {N : List Str} {ix : List (Option Nat)} (O : CompOk X scope sc N ix) (hc : X.calm = true) (hi : PI X tg iter wi)
    (hb : ∀ cl C s₀ H₀ ex, PG (cCx X sc N cl C s₀ H₀ ex) tg g ∧ PIf (cCx X sc N cl C s₀ H₀ ex) ifs tc ∧ PE (cCx X sc N cl C s₀ H₀ ex) elt te)
    (hs : ∀ x, foldedSetIterable iter X.env x = pure x := by intro _; rfl) : PE X (.ListComp elt [⟨tg, iter, ifs, 0⟩] scope pos) (tComp ix wi g tc te) := by
  intro pins s σ H Q I h
  rw [eval_ListComp]
  exact comp_core (use := none) (QQ := EP X pins σ Q) O hc hi hb hs I h fun D C s6 H5 m I7 hn f q => ⟨m, hn, fun h' hs' => ⟨.ref D, H5, I7.turned (it := C) (t' := s6.toks) (fun b o hb e => (hs'.2 b hb).trans e) f.1 f.2.1 f.2.2.2.1 f.2.2.2.2.1 f.2.2.2.2.2, rfl, q⟩⟩
/-- name = [..] in one row: stored before the block's names go -/
theorem ps_setC {X : Cx} {i : Nat} {y : Str} {py spos : Pos} {tg iter elt : Expr} {ifs : List Expr} {scope sc : Scope} {pos : Pos} {wi : TI} {g : TG} {tc : TT} {te : TE} {N : List Str} {ix : List (Option Nat)} (hN : X.N.Nodup) (hi' : X.N[i]? = some y) (hx : Loc X.env.scope y)
    (O : CompOk X scope sc N ix) (hc : X.calm = true) (hi : PI X tg iter wi)
    (hb : ∀ cl C s₀ H₀ ex, PG (cCx X sc N cl C s₀ H₀ ex) tg g ∧ PIf (cCx X sc N cl C s₀ H₀ ex) ifs tc ∧ PE (cCx X sc N cl C s₀ H₀ ex) elt te)
    (hs : ∀ x, foldedSetIterable iter X.env x = pure x := by intro _; rfl) (hsw : swapsWith (.ListComp elt [⟨tg, iter, ifs, 0⟩] scope pos) (some (.Name y py)) spos.line X.env = pure true := by rfl)
    (hf : X.fn y = true ∨ X.env.scope.names.lookup y = some .local := by first | exact .inl rfl | exact .inr rfl | assumption) :
    PS X (.Assign [.Name y py] (.ListComp elt [⟨tg, iter, ifs, 0⟩] scope pos) spos) (tAsg (tComp ix wi g tc te) (gName i)) := by
  intro pins s σ H D I h
  rw [exec_Assign_Name_used _ _ _ _ hsw]
  refine wpAny_bind (wpAny_standAt (wpAny_bind ?_))
  show wpAny _ X.A (do let _ ← comprehension (.ListComp elt [⟨tg, iter, ifs, 0⟩] scope pos) scope X.env _ (newList []) false (eval iter X.env) (some (assign (.Name y py) X.env))) _ _ s
  refine wpAny_bind (wpAny_mono (comp_core (use := some (assign (.Name y py) X.env)) (QQ := fun _ s' => ∃ σ' H', Inv X pins σ' H' s' ∧ D.nx σ' H') O hc hi hb hs I h fun D1 C s6 H5 m I7 hn f q => ?_) (fun _ s' ⟨σ', H', I', q'⟩ => wpAny_pure (wpAny_pure ⟨σ', H', I', q'⟩)) fun _ _ e => e)
  obtain ⟨o, es, ep, ho, hc1, hc2⟩ := id hn
  have I8 := I7.pinned (fp := [C]) (fun b hb => by
    have e : b = C := by simpa using hb
    subst e; exact f) (fun b hb => by
    have e : b = C := by simpa using hb
    subst e; exact ⟨o, ho, fun v z => by first | (rw [hc1.2] at z; cases z) | (rw [hc2.1] at z; cases z) | (rw [hc1] at z; cases z) | (simp_all)⟩)
  show wpAny _ X.A (assign (.Name y py) X.env (.ref D1)) _ _ _
  refine wpAny_assign_Name (store_ok I8 hN hi' hx (v := .ref D1) rfl (fun s7 I9 => ?_) hf)
  have hC := (I9.pin (C, o) (List.mem_append_right _ (List.mem_append_right _ (mem_pinsAt (by simp) ho)))).1
  refine ⟨m, ⟨o, es, ep, hC, hc1, hc2⟩, fun h' hs' => ⟨_, H5, I9.unpinned.turned (it := C) (t' := s7.toks) (fun b o hb e => (hs'.2 b hb).trans e) f.1 f.2.1 f.2.2.2.1 f.2.2.2.2.1 f.2.2.2.2.2, q⟩⟩
end L2
namespace L2
open PySem PySem.Spec PyProof.Rows

/-! ### values read as data -/
mutual
inductive RdD (K : PySem.W.Frag) (H : Hp) : V → PyData → Prop
  | non : RdD K H .non .none
  | bl (b : Bool) : RdD K H (.bl b) (.bool b)
  | int (i : Int) : RdD K H (.int i) (.int i)
  | str (x : Str) : RdD K H (.str x) (.str x)
  | lst {a : Addr} {xs : List V} {ds : List PyData} : SqL K H a xs → RdDs K H xs ds → RdD K H (.ref a) (.list ds)
  | tup {a : Addr} {xs : List V} {ds : List PyData} : SqT K H a xs → RdDs K H xs ds → RdD K H (.ref a) (.tuple ds)
inductive RdDs (K : PySem.W.Frag) (H : Hp) : List V → List PyData → Prop
  | nil : RdDs K H [] []
  | cons {x : V} {d : PyData} {xs : List V} {ds : List PyData} : RdD K H x d → RdDs K H xs ds → RdDs K H (x :: xs) (d :: ds)
end
section
variable {X : Cx} {pins : List (Addr × Obj)} {σ : St} {H : Hp} {s : Shared}
mutual
theorem Inv.reads (I : Inv X pins σ H s) : ∀ {x : V} {d : PyData} {u : Value}, RdD X.K H x d → RelV x u → ∃ as, Reads s.heap u d as
  | _, _, _, .non, r => by cases r; exact ⟨_, .none⟩
  | _, _, _, .bl b, r => by cases r; exact ⟨_, .bool b⟩
  | _, _, _, .int i, r => by obtain ⟨t, rfl⟩ := r; exact ⟨_, .int i t⟩
  | _, _, _, .str x, r => by obtain ⟨t, rfl⟩ := r; exact ⟨_, .str x t⟩
  | _, _, _, .lst hq hs, r => by
    cases r
    obtain ⟨its, rv, pl, _⟩ := I.list hq
    obtain ⟨as, ra⟩ := Inv.readsAll I hs rv
    obtain ⟨o, ho, hc, n, hd⟩ := pl.isList
    exact ⟨_, .list ho hc hd (by simpa using ra)⟩
  | _, _, _, .tup hq hs, r => by
    cases r
    obtain ⟨its, rv, pl, _⟩ := I.tuple hq
    obtain ⟨as, ra⟩ := Inv.readsAll I hs rv
    obtain ⟨o, ho, hc, n, hd⟩ := pl
    exact ⟨_, .tuple ho hc hd (by simpa using ra)⟩
theorem Inv.readsAll (I : Inv X pins σ H s) : ∀ {xs : List V} {ds : List PyData} {us : List Value}, RdDs X.K H xs ds → Vals xs us → ∃ as, ReadsAll s.heap us ds as
  | _, _, _, .nil, .nil => ⟨_, .nil⟩
  | _, _, _, .cons h1 h2, .cons r1 r2 => by
    obtain ⟨as, a⟩ := Inv.reads I h1 r1
    obtain ⟨bs, b⟩ := Inv.readsAll I h2 r2
    exact ⟨_, .cons a b⟩
end
/-! ### dicts of flat values -/
noncomputable def dictHits (kb : List (Key × V)) : List (Key × V) → Bool
  | [] => true
  | (k, v) :: r => match valV kb k with
    | none => false
    | some y => eqV v y && dictHits kb r
theorem hits_of {A : Around} {kb : List (Key × V)} {vb : List (Key × Value)} (hb : KV kb vb) (fb : kb.all (fun p => flatV p.2) = true) : ∀ {ka : List (Key × V)} {va : List (Key × Value)}, KV ka va → ka.all (fun p => flatV p.2) = true →
    PySem.W.KeqHits A s vb va (dictHits kb ka)
  | [], _, .nil, _ => .nil
  | (k, v) :: r, (k', v') :: r', .cons ⟨e, rv⟩ t, f => by
    cases (show k = k' from e)
    rw [List.all_cons, Bool.and_eq_true] at f
    have hv := KV.val hb k
    cases q : valV kb k with
    | none =>
      have hn : valueAt vb k = none := RelO.none_of (by rw [q] at hv; exact hv)
      have e2 : dictHits kb ((k, v) :: r) = false := by simp [dictHits, q]
      rw [e2]
      exact .miss hn
    | some y =>
      rw [q] at hv
      obtain ⟨u, hu, ru⟩ := RelO.some_of hv
      have fy : flatV y = true := by
        unfold valV at q
        cases q2 : kb.find? (fun kv => decide (kv.1 = k)) with
        | none => rw [q2] at q; cases q
        | some p =>
          rw [q2] at q; cases q
          exact List.all_eq_true.mp fb p (List.mem_of_find?_eq_some q2)
      have e2 : dictHits kb ((k, v) :: r) = (eqV v y && dictHits kb r) := by simp [dictHits, q]
      rw [e2]
      exact .hit hu (eqAt_V rv ru f.1 fy) (hits_of hb fb t f.2)
end

section
variable {X : Cx}
noncomputable def rEqV (K : PySem.W.Frag) (g : Bool → Bool) : R2 := fun x y H Q => match x, y with
  | .int i, .int j => Q (.bl (g (decide (i = j)))) H
  | .bl i, .bl j => Q (.bl (g (decide (i = j)))) H
  | .str i, .str j => Q (.bl (g (decide (i = j)))) H
  | .non, .non => Q (.bl (g true)) H
  | .ref a, .ref b => (∃ d e, RdD K H (.ref a) d ∧ RdD K H (.ref b) e ∧ SeqAt.shaped d = true ∧ SeqAt.shaped e = true ∧ Q (.bl (g (PyData.eqv d e))) H) ∨
      (∃ ka kb, H a = some (.dK ka) ∧ H b = some (.dK kb) ∧ ka.all (fun p => flatV p.2) = true ∧ kb.all (fun p => flatV p.2) = true ∧ Q (.bl (g (ka.length == kb.length && dictHits kb ka))) H)
  | .non, .ref _ => False
  | .ref _, .non => False
  | x, y => scal x y = true ∧ Q (.bl (g (decide (x = y)))) H
theorem op_eqD {k : Nat} (hr : Room k X.A) : OpR X (compareOp .Eq) (fun x y H Q => ∃ d e, RdD X.K H x d ∧ RdD X.K H y e ∧ SeqAt.shaped d = true ∧ SeqAt.shaped e = true ∧ Q (.bl (PyData.eqv d e)) H) := by
  intro pins s σ H x y v u Q I rx ry h
  obtain ⟨d, e, h1, h2, h3, h4, q⟩ := h
  obtain ⟨as, ra⟩ := I.reads h1 rx
  obtain ⟨bs, rb⟩ := I.reads h2 ry
  exact eq_dataH ra rb h3 h4 hr.units ⟨.bl _, H, I, rfl, q⟩
theorem op_neD {k : Nat} (hr : Room k X.A) : OpR X (compareOp .NotEq) (fun x y H Q => ∃ d e, RdD X.K H x d ∧ RdD X.K H y e ∧ SeqAt.shaped d = true ∧ SeqAt.shaped e = true ∧ Q (.bl (!PyData.eqv d e)) H) := by
  intro pins s σ H x y v u Q I rx ry h
  obtain ⟨d, e, h1, h2, h3, h4, q⟩ := h
  obtain ⟨as, ra⟩ := I.reads h1 rx
  obtain ⟨bs, rb⟩ := I.reads h2 ry
  exact ne_dataH ra rb h3 h4 hr.units ⟨.bl _, H, I, rfl, q⟩
theorem op_eqK {k : Nat} (hr : Room k X.A) : OpR X (compareOp .Eq) (fun x y H Q => ∃ a b ka kb, x = .ref a ∧ y = .ref b ∧ H a = some (.dK ka) ∧ H b = some (.dK kb) ∧ ka.all (fun p => flatV p.2) = true ∧ kb.all (fun p => flatV p.2) = true ∧ Q (.bl (ka.length == kb.length && dictHits kb ka)) H) := by
  intro pins s σ H x y v u Q I rx ry h
  obtain ⟨a, b, ka, kb, rfl, rfl, h1, h2, h3, h4, q⟩ := h
  cases rx; cases ry
  obtain ⟨_, ea, va, ra, da⟩ : ka.length ≤ sizeLine ∧ (a == sysModules) = false ∧ ∃ vs, KV ka vs ∧ s.heap.DictOf (mixKind X.prog X.w) a vs := I.hok a _ h1
  obtain ⟨_, eb, vb, rb, db⟩ : kb.length ≤ sizeLine ∧ (b == sysModules) = false ∧ ∃ vs, KV kb vs ∧ s.heap.DictOf (mixKind X.prog X.w) b vs := I.hok b _ h2
  refine PySem.W.keq_eq ea eb da db hr.units0 (fun _ => hits_of rb h4 ra h3) ⟨.bl _, H, I, ?_, q⟩
  show _ = Value.bool _
  rw [Paired.length ra, Paired.length rb]
theorem op_neK {k : Nat} (hr : Room k X.A) : OpR X (compareOp .NotEq) (fun x y H Q => ∃ a b ka kb, x = .ref a ∧ y = .ref b ∧ H a = some (.dK ka) ∧ H b = some (.dK kb) ∧ ka.all (fun p => flatV p.2) = true ∧ kb.all (fun p => flatV p.2) = true ∧ Q (.bl (!(ka.length == kb.length && dictHits kb ka))) H) := by
  intro pins s σ H x y v u Q I rx ry h
  obtain ⟨a, b, ka, kb, rfl, rfl, h1, h2, h3, h4, q⟩ := h
  cases rx; cases ry
  obtain ⟨_, ea, va, ra, da⟩ : ka.length ≤ sizeLine ∧ (a == sysModules) = false ∧ ∃ vs, KV ka vs ∧ s.heap.DictOf (mixKind X.prog X.w) a vs := I.hok a _ h1
  obtain ⟨_, eb, vb, rb, db⟩ : kb.length ≤ sizeLine ∧ (b == sysModules) = false ∧ ∃ vs, KV kb vs ∧ s.heap.DictOf (mixKind X.prog X.w) b vs := I.hok b _ h2
  refine PySem.W.keq_ne ea eb da db hr.units0 (fun _ => hits_of rb h4 ra h3) ⟨.bl _, H, I, ?_, q⟩
  show _ = Value.bool _
  rw [Paired.length ra, Paired.length rb]
theorem dec_i {i j : Int} : decide (V.int i = V.int j) = decide (i = j) := by simp
theorem dec_b {i j : Bool} : decide (V.bl i = V.bl j) = decide (i = j) := by simp
theorem dec_s {i j : Str} : decide (V.str i = V.str j) = decide (i = j) := by simp
theorem v_eq {k : Nat} (hr : Room k X.A) : OpR X (compareOp .Eq) (rEqV X.K id) := by
  refine (op_eq.or ((op_eqD hr).or (op_eqK hr))).imp fun x y H Q h => ?_
  unfold rEqV at h
  split at h
  · exact .inl ⟨rfl, by rw [dec_i]; exact h⟩
  · exact .inl ⟨rfl, by rw [dec_b]; exact h⟩
  · exact .inl ⟨rfl, by rw [dec_s]; exact h⟩
  · exact .inl ⟨rfl, by rw [decide_eq_true rfl]; exact h⟩
  · rcases h with ⟨d, e, h⟩ | ⟨ka, kb, h⟩
    · exact .inr (.inl ⟨d, e, h⟩)
    · exact .inr (.inr ⟨_, _, ka, kb, rfl, rfl, h⟩)
  · exact h.elim
  · exact h.elim
  · exact .inl h
theorem v_ne {k : Nat} (hr : Room k X.A) : OpR X (compareOp .NotEq) (rEqV X.K not) := by
  refine (op_ne.or ((op_neD hr).or (op_neK hr))).imp fun x y H Q h => ?_
  unfold rEqV at h
  split at h
  · exact .inl ⟨rfl, by rw [dec_i]; exact h⟩
  · exact .inl ⟨rfl, by rw [dec_b]; exact h⟩
  · exact .inl ⟨rfl, by rw [dec_s]; exact h⟩
  · exact .inl ⟨rfl, by rw [decide_eq_true rfl]; exact h⟩
  · rcases h with ⟨d, e, h⟩ | ⟨ka, kb, h⟩
    · exact .inr (.inl ⟨d, e, h⟩)
    · exact .inr (.inr ⟨_, _, ka, kb, rfl, rfl, h⟩)
  · exact h.elim
  · exact h.elim
  · exact .inl h
end
end L2

/-! ### an int against a dict; «in» a list of ints, of any thing -/
namespace PySem.SeqAt
open AutoSeq1 (wpAny_loadPart')
open MeetsSeq MeetsSeq2 MeetsSeq3 SeqRoads2
section
variable {A : Around} {s : Shared}
end
end PySem.SeqAt
namespace L2
open PySem PySem.Spec PyProof.Rows
section
variable {X : Cx}
end

/-! ### names of built-ins -/
theorem boot_isinstance : bootBuiltins "isinstance" = some (.builtin "isinstance") := by decide +kernel
theorem boot_bool : bootBuiltins "bool" = some (.type "bool") := by decide +kernel
theorem boot_tuple : bootBuiltins "tuple" = some (.type "tuple") := by decide +kernel
theorem boot_list : bootBuiltins "list" = some (.type "list") := by decide +kernel

/-! ### a def's facts at the top -/
structure Fn (K : PySem.W.Frag) (mg : Str → Option Value) (x : Str) (st : Stmt) (ps : List Str) : Prop where
  ex : ∃ (f : Addr) (fd : FuncData), Fun K x x st f fd ∧ mg x = some (.ref f) ∧ Binds K fd ps []
/-- the rule for a def, in one piece -/
theorem Fn.cal {P : Program} {w : World} {K : PySem.W.Frag} {mg : Str → Option Value} {base : Heap} {x : Str} {st : Stmt} {N ps : List Str} {k : Nat} {sp : Sp} (F : Fn K mg x st ps) (S : FnScope N ps (defScope st)) (len : ∀ vs H Q E, sp vs H Q E → vs.length = ps.length)
    (hbody : ∀ (f : Addr) (cdv : Value) (A : Around) (outer : List Env) (s : Shared) (H : Hp) (vs : List V) (Q : VK) (E : XK), Room k (A.deeper (envOfC x (defScope st) s.heap.objs.size f cdv)) → sp vs H Q E →
      ∃ t, PSs (cxF P w K mg base N x (defScope st) f cdv A outer s H E).nox (defBody st) t ∧ t { nx := fun _ H' => Q .non H', rt := Q } (start N vs) H) : Cal P w K mg base x (k + 1) ps sp := by
  obtain ⟨f, fd, F, m, b⟩ := F.ex
  exact ⟨f, fd, m, F.kp, b, F.okN S len fun cdv A outer s H vs Q E hr h => hbody f cdv A outer s H vs Q E hr h⟩
theorem Fn.calF {P : Program} {w : World} {K : PySem.W.Frag} {mg : Str → Option Value} {base : Heap} {x : Str} {st : Stmt} {N ps : List Str} {k : Nat} {sp : Sp} (F : Fn K mg x st ps) (S : FnScope N ps (defScope st)) (len : ∀ vs H Q E, sp vs H Q E → vs.length = ps.length)
    (hbody : ∀ (f : Addr) (cdv : Value) (A : Around) (outer : List Env) (s : Shared) (H : Hp) (vs : List V) (Q : VK) (E : XK), Room k (A.deeper (envOfC x (defScope st) s.heap.objs.size f cdv)) → sp vs H Q E →
      ∃ t, PSs (cxF P w K mg base N x (defScope st) f cdv A outer s H E) (defBody st) t ∧ t { nx := fun _ H' => Q .non H', rt := Q } (start N vs) H) : Cal P w K mg base x (k + 1) ps sp := by
  obtain ⟨f, fd, F, m, b⟩ := F.ex
  exact ⟨f, fd, m, F.kp, b, F.okF S len fun cdv A outer s H vs Q E hr h => hbody f cdv A outer s H vs Q E hr h⟩
theorem Same.new {H : Hp} {p : Addr} (h : H p = none) (o : HO) : Same H (upd H p o) := fun b u q => by rw [upd_ne (ne_of_none q h)]; exact q
theorem Same.upd {H H' : Hp} {p : Addr} (g : Same H H') (h : H p = none) (o : HO) : Same H (L2.upd H' p o) := fun b u q => by rw [upd_ne (ne_of_none q h)]; exact g b u q
theorem Same.seqT {K : PySem.W.Frag} {H H' : Hp} {a : Addr} {xs : List V} (e : Same H H') (h : SqT K H a xs) : SqT K H' a xs := by
  rcases h with (h | ⟨o, h⟩) | h
  · exact .inl (.inl (e _ _ h))
  · exact .inl (.inr ⟨o, e _ _ h⟩)
  · exact .inr h
theorem mulL {i j : Int} (h1 : -(2 ^ 64) < i) (h2 : i < 2 ^ 64) : IntMulOk i j := .of_left (intBits_le_64 h1 h2)
theorem mulR {i j : Int} (h1 : -(2 ^ 64) < j) (h2 : j < 2 ^ 64) : IntMulOk i j := .of_right (intBits_le_64 h1 h2)
/-- a comprehension's facts: each part by computing -/
theorem comp_mk {X : Cx} {scope sc : Scope} {N : List Str} {ix : List (Option Nat)} (sc' : relabel scope X.env = sc) (kind : scope.kind = .function) (cell : scope.names.all (fun y => y.2 != .cell) = true)
    (names : scope.names.all (fun x => x.2 != .local || scope.names.lookup x.1 == some .local) = true)
    (free : scope.names.all (fun y => y.2 != .free || (X.env.scope.names.lookup y.1 == some .cell || X.env.scope.names.lookup y.1 == some .free)) = true)
    (len : N.length = ix.length)
    (hix : (N.zip ix).all (fun p => match p.2 with
      | none => true
      | some i => X.N[i]? == some p.1 && scope.names.any (fun y => y.1 == p.1 && y.2 == .free) && (sc.names.lookup p.1 == some .cell || sc.names.lookup p.1 == some .free)) = true)
    (has : sc.names.all (fun y => (y.2 != .cell && y.2 != .free) || scope.names.any (fun z => z.1 == y.1 && z.2 == .free)) = true) : CompOk X scope sc N ix := by
  have mem : ∀ x : Str, scope.names.any (fun y => y.1 == x && y.2 == .free) = true → (x, NameKind.free) ∈ scope.names := fun x h => by
    obtain ⟨y, hy, e⟩ := List.any_eq_true.mp h
    rw [Bool.and_eq_true] at e
    obtain ⟨a, b⟩ := y
    have e1 : a = x := eq_of_beq e.1
    have e2 : b = .free := eq_of_beq e.2
    subst e1; subst e2
    exact hy
  refine ⟨sc', kind, fun y hy e => ?_, fun x hx e => ?_, fun y hy e => ?_, len, fun j x i h1 h2 => ?_, fun x hx => ?_⟩
  · have := List.all_eq_true.mp cell y hy
    rw [e] at this; cases this
  · have := List.all_eq_true.mp names x hx
    rw [e] at this
    simpa using this
  · have := List.all_eq_true.mp free y hy
    rw [e] at this
    simpa [Env.kindOf] using this
  · have hm : (x, some i) ∈ N.zip ix := by
      have : (N.zip ix)[j]? = some (x, some i) := by
        rw [List.getElem?_zip_eq_some]
        exact ⟨h1, h2⟩
      exact List.mem_of_getElem? this
    have := List.all_eq_true.mp hix _ hm
    simp only [Bool.and_eq_true] at this
    obtain ⟨⟨a1, a2⟩, a3⟩ := this
    refine ⟨eq_of_beq a1, mem x a2, ?_⟩
    rw [Bool.or_eq_true] at a3
    rcases a3 with z | z
    · exact .inl (eq_of_beq z)
    · exact .inr (eq_of_beq z)
  · have hm : ∃ k, (x, k) ∈ sc.names ∧ (k = .cell ∨ k = .free) := by
      rcases hx with z | z
      · exact ⟨_, PySem.mem_of_lookup z, .inl rfl⟩
      · exact ⟨_, PySem.mem_of_lookup z, .inr rfl⟩
    obtain ⟨k, hk, e⟩ := hm
    have := List.all_eq_true.mp has _ hk
    rw [Bool.or_eq_true] at this
    rcases this with z | z
    · rcases e with e | e <;> (subst e; simp at z)
    · exact mem x z
end L2
namespace L2
open PySem PySem.Spec PyProof.Rows
/-- a def as the top has written it -/
structure FnIn (K : PySem.W.Frag) (x : Str) (st : Stmt) : Prop where
  ex : ∃ (f : Addr) (oc : Value) (od : Option Addr) (kV doc pm : Value) (an : Option Addr) (cdv ct : Value) (sl : Array (Option Value)), PySem.W.nsIn K mainGlobals x = some (some (.ref f)) ∧
    K.lookup f = some ⟨oc, od, .func (PySem.W.fnOf x x (defArgs st) (defBody st) (defScope st) .none kV doc pm an cdv ct), sl⟩ ∧ PySem.W.codeIn K cdv x = true ∧ PySem.W.keepIn K (.ref f) = true
theorem fnIn_mk {K : PySem.W.Frag} {x : Str} {st : Stmt} {f : Addr} {oc : Value} {od : Option Addr} {kV doc pm : Value} {an : Option Addr} {cdv ct : Value} {sl : Array (Option Value)} (a : PySem.W.nsIn K mainGlobals x = some (some (.ref f)))
    (l : K.lookup f = some ⟨oc, od, .func (PySem.W.fnOf x x (defArgs st) (defBody st) (defScope st) .none kV doc pm an cdv ct), sl⟩) (c : PySem.W.codeIn K cdv x = true) (k : PySem.W.keepIn K (.ref f) = true) : FnIn K x st :=
  ⟨f, oc, od, kV, doc, pm, an, cdv, ct, sl, a, l, c, k⟩
theorem FnIn.fn {K : PySem.W.Frag} {h : Heap} {mg : Str → Option Value} {x : Str} {st : Stmt} {ps : List Str} (F : FnIn K x st) (X : K.In h) (G : h.Ns mainGlobals mg)
    (hb : ∀ (kV doc pm : Value) (an : Option Addr) (cdv ct : Value) (us : List Value), us.length = ps.length → bindArgs (PySem.W.fnOf x x (defArgs st) (defBody st) (defScope st) .none kV doc pm an cdv ct) ⟨us, []⟩ = pure (ps.zip us)) : Fn K mg x st ps := by
  obtain ⟨f, oc, od, kV, doc, pm, an, cdv, ct, sl, a, l, c, k⟩ := F.ex
  have FF := fun_mk (st := st) l c k
  exact ⟨f, _, FF, PySem.W.mg_of X G a, FF.binds hb⟩
end L2
namespace L2
open PySem PySem.Spec PyProof.Rows

/-! ### what an iterator yields through heaps that keep what is tracked -/
structure ItS (J : It) (xs : List V) (H1 : Hp) : Prop where
  go : ∀ i H', Same H1 H' → i < xs.length → J.go i H'
  yld : ∀ i H' x H2, Same H1 H' → J.yld i H' x H2 → H2 = H' ∧ (i < xs.length → xs[i]? = some x)
  stop : ∀ i H', Same H1 H' → xs.length ≤ i → J.stop i H'
theorem its_list {K : PySem.W.Frag} {a : Addr} {xs : List V} {H1 : Hp} (hq : SqL K H1 a xs) : ItS (Itl K a) xs H1 :=
  ⟨fun i H' g h => ⟨xs, xs[i], g.seq hq, by simp [h]⟩, fun i H' x H2 g y => ⟨y.1, fun _ => y.2 xs (g.seq hq)⟩, fun i H' g h => ⟨xs, g.seq hq, h⟩⟩
theorem its_tup {K : PySem.W.Frag} {a : Addr} {xs : List V} {H1 : Hp} (hq : SqT K H1 a xs) : ItS (Itt K a) xs H1 :=
  ⟨fun i H' g h => ⟨xs, xs[i], g.seqT hq, by simp [h]⟩, fun i H' x H2 g y => ⟨y.1, fun _ => y.2 xs (g.seqT hq)⟩, fun i H' g h => ⟨xs, g.seqT hq, h⟩⟩
theorem its_range {lo : Int} {n : Nat} {H1 : Hp} : ItS (Itr lo n) ((List.range n).map fun i => V.int (lo + (i : Nat))) H1 :=
  ⟨fun i H' g h => show i < n by simpa using h, fun i H' x H2 g y => ⟨y.1, fun h => by
    have h' : i < n := by simpa using h
    rw [List.getElem?_map, List.getElem?_range h', y.2]; rfl⟩, fun i H' g h => show n ≤ i by simpa using h⟩

/-- a comprehension of one new name whose tests and elements change nothing -/
theorem comp_pure {J : It} {xs : List V} {ix : List (Option Nat)} {tc : TT} {te : TE} {σ : St} {H1 : Hp} {Q : VK} (I : ItS J xs H1) (hz : xs.length ≤ sizeLine) {rest : St} (hst : cst ix σ = none :: rest) (p : V → Bool) (F : V → V)
    (ht : ∀ H' x, Same H1 H' → x ∈ xs → ∀ k : Bool → Hp → Prop, k (p x) H' → tc (some x :: rest) H' k)
    (he : ∀ H' x, Same H1 H' → x ∈ xs → p x = true → ∀ k : VK, k (F x) H' → te (some x :: rest) H' k)
    (hQ : ∀ D, H1 D = none → Q (.ref D) (upd H1 D (.lst ((xs.filter p).map F)))) :
    CompK ix (gName 0) tc te σ Q J H1 := by
  constructor
  intro D hD
  refine ⟨fun i m σ' H' => m = xs.length - i ∧ i ≤ xs.length ∧ (∃ o, σ' = o :: rest) ∧ H' = upd H1 D (.lst (((xs.take i).filter p).map F)), ⟨xs.length, by simp, Nat.zero_le _, ⟨none, hst⟩, by simp⟩, ?_⟩
  rintro i m σ' H' ⟨rfl, hi, ⟨o, rfl⟩, rfl⟩
  have g : Same H1 (upd H1 D (.lst (((xs.take i).filter p).map F))) := Same.new hD _
  by_cases hlt : i < xs.length
  · refine .inr ⟨I.go i _ g hlt, fun x H2 y => ?_⟩
    obtain ⟨rfl, hx⟩ := I.yld i _ x H2 g y
    have hx := hx hlt
    have hm : x ∈ xs := List.mem_of_getElem? hx
    have et : xs.take (i + 1) = xs.take i ++ [x] := by
      rw [List.take_add_one, hx]; rfl
    show tc (some x :: rest) _ _
    refine ht _ x g hm _ ?_
    cases hp : p x with
    | true =>
      rw [if_pos rfl]
      refine he _ x g hm hp _ ⟨_, upd_same, ?_, xs.length - (i + 1), by exact OmL.om5 hlt, rfl, hlt, ⟨_, rfl⟩, ?_⟩
      · have h1 : (((xs.take i).filter p).map F).length ≤ i := by
          rw [List.length_map]
          exact Nat.le_trans (List.length_filter_le _ _) (by rw [List.length_take]; exact OmL.om58 hlt)
        exact OmL.om59 hz hlt h1
      · rw [upd_upd, et, List.filter_append, List.map_append]
        simp [hp]
    | false =>
      rw [if_neg Bool.false_ne_true]
      refine ⟨xs.length - (i + 1), by exact OmL.om5 hlt, rfl, hlt, ⟨_, rfl⟩, ?_⟩
      rw [et, List.filter_append]
      simp [hp]
  · have e : i = xs.length := by exact OmL.om6 hi hlt
    subst e
    refine .inl ⟨I.stop _ _ g (Nat.le_refl _), ?_⟩
    rw [List.take_length]
    exact hQ D hD
/-- a for over what an iterator yields -/
theorem for_its {J : It} {xs : List V} {g : TG} {tb : TS} {D : Ends} {σ : St} {H : Hp} (I : ItS J xs H) (Pv : Nat → St → Hp → Prop) (h0 : Pv 0 σ H) (hsame : ∀ i σ' H', Pv i σ' H' → Same H H')
    (hs : ∀ i x σ' H', xs[i]? = some x → Pv i σ' H' → g x σ' H' fun σ2 H2 => tb { D with nx := Pv (i + 1), ct := Pv (i + 1), bk := D.nx } σ2 H2) (hd : ∀ σ' H', Pv xs.length σ' H' → D.nx σ' H') :
    ∃ W : Nat → Nat → St → Hp → Prop, (∃ m, W 0 m σ H) ∧ ∀ i m σ H, W i m σ H →
      (J.stop i H ∧ D.nx σ H) ∨ (J.go i H ∧ ∃ N : St → Hp → Prop, (∀ σ' H', N σ' H' → ∃ m', m' < m ∧ W (i + 1) m' σ' H') ∧ ∀ x H', J.yld i H x H' → g x σ H' fun σ2 H2 => tb { D with nx := N, ct := N, bk := D.nx } σ2 H2) := by
  refine ⟨fun i m σ' H' => m = xs.length - i ∧ i ≤ xs.length ∧ Pv i σ' H', ⟨xs.length, by simp, Nat.zero_le _, h0⟩, ?_⟩
  rintro i m σ' H' ⟨rfl, hi, p⟩
  have gs := hsame i σ' H' p
  by_cases hlt : i < xs.length
  · refine .inr ⟨I.go i _ gs hlt, Pv (i + 1), fun σ2 H2 p' => ⟨xs.length - (i + 1), by exact OmL.om5 hlt, rfl, hlt, p'⟩, fun x H2 y => ?_⟩
    obtain ⟨rfl, hx⟩ := I.yld i _ x H2 gs y
    exact hs i x σ' _ (hx hlt) p
  · have e : i = xs.length := by exact OmL.om6 hi hlt
    subst e
    exact .inl ⟨I.stop _ _ gs (Nat.le_refl _), hd σ' H' p⟩
end L2
namespace L2
open PySem PySem.Spec PyProof.Rows
/-- a reading that nothing opens by itself -/
structure Bar (t : TE) (σ : St) (H : Hp) (Q : VK) : Prop where
  go : t σ H Q
noncomputable def tBar (t : TE) : TE := fun σ H Q => Bar t σ H Q
theorem Bar.by {t : TE} {σ : St} {H : Hp} {Q : VK} (R : V → Hp → Prop) (h : ∀ k : VK, (∀ v H1, R v H1 → k v H1) → t σ H k) (q : ∀ v H1, R v H1 → Q v H1) : Bar t σ H Q := ⟨h Q q⟩
theorem pe_bar {X : Cx} {e : Expr} {t : TE} (h : PE X e t) : PE X e (tBar t) := fun pins s σ H Q I q => h pins s σ H Q I q.go
/-- the same for a statement whose ways meet behind it -/
structure BarS (t : TS) (D : Ends) (σ : St) (H : Hp) : Prop where
  go : t D σ H
noncomputable def tBarS (t : TS) : TS := fun D σ H => BarS t D σ H
theorem ps_bar {X : Cx} {st : Stmt} {t : TS} (h : PS X st t) : PS X st (tBarS t) := fun pins s σ H D I q => h pins s σ H D I q.go
theorem BarS.by {t : TS} {D : Ends} {σ : St} {H : Hp} (R : St → Hp → Prop) (h : ∀ N : St → Hp → Prop, (∀ σ' H', R σ' H' → N σ' H') → t { D with nx := N } σ H) (q : ∀ σ' H', R σ' H' → D.nx σ' H') : BarS t D σ H := by
  constructor
  exact h D.nx q
end L2
namespace HT
open PySem PyProof.Rows
section
variable {prog : Program} {w : World} {A : Around} {E : Value → Shared → Prop} {s : Shared}
/-- t[a:b], the whole of it: t itself -/
theorem getItem_tuple_all {t sl : Addr} {items : Array Value} {vl vu : Value} {lo hi : Option Int} {Q : Value → Shared → Prop} (ht : IsTup s.heap t items) (hs : s.heap.IsSliceOf sl vl vu .none) (pl : IsPart vl lo) (pu : IsPart vu hi)
    (hw : sIx items.size 0 lo = 0 ∧ sIx items.size items.size hi = items.size) (h : Q (.ref t) s) : wpAny (model prog w) A (getItem (.ref t) (.ref sl)) Q E s := by
  obtain ⟨os, hos, hcs, hds⟩ := id hs
  have hTs : s.TypeIs (.ref sl) "slice" := ⟨os, hos, hcs⟩
  unfold getItem
  try with_reducible refine wpAny_holding ?_
  first | refine wpAny_bind (wpAny_pure ?_) | skip
  refine wpAny_bind (wpAny_sequenceKey ht.typeIs (by decide) ?_)
  refine wpAny_bind (wpAny_callSpecial?_slot (name := Str.ofString "__getitem__") ht.typeIs PyProof.Rows.slot_tuple_getitem
    (wpAny_call_entry PyProof.Rows.slot_tuple_getitem ht.typeIs entry_tuple_getitem ?_ (args_tuple_getitem _ _)))
  show wpAny _ _ (Builtin.Tuple.tupleItemsOf (.ref t) >>= _) _ _ s
  refine wpAny_bind (tupleItemsOf_ ht ?_)
  refine wpAny_bind (wpAny_typeOf hTs ?_)
  rw [if_pos (by decide)]
  refine wpAny_bind (sliceApplied_gen hs pl pu ?_)
  have hyes : (((sIx items.size 0 lo : Nat) : Int) == 0 && (1 : Int) == 1 && (sIx items.size items.size hi - sIx items.size 0 lo) == items.size) = true := by
    rw [hw.1, hw.2]; simp
  show wpAny _ _ (if (((sIx items.size 0 lo : Nat) : Int) == 0 && (1 : Int) == 1 && (sIx items.size items.size hi - sIx items.size 0 lo) == items.size) = true then _ else _) _ _ s
  rw [if_pos hyes]
  unfold Builtin.Tuple.tupleIsExact
  refine wpAny_bind (wpAny_bind (wpAny_typeOf ht.typeIs (wpAny_pure ?_)))
  rw [if_pos (by decide)]
  exact wpAny_bind (wpAny_rule (wpAny_pure ⟨_, rfl, wpAny_pure h⟩))
end
end HT
namespace L2
open PySem PySem.Spec PyProof.Rows
section
variable {X : Cx}
theorem sl_tupAll : SlR X (fun x lo hi H Q => ∃ a xs, x = .ref a ∧ SqT X.K H a xs ∧ (HT.sIx xs.length 0 lo = 0 ∧ HT.sIx xs.length xs.length hi = xs.length) ∧ Q (.ref a) H) := by
  intro pins s σ H x v vl vu lo hi sl Q I rx hs pl pu h
  obtain ⟨a, xs, rfl, hx, hw, q⟩ := h
  cases rx
  obtain ⟨its, r, ht, hz⟩ := I.tuple hx
  have hlen : its.toArray.size = xs.length := by rw [List.size_toArray]; exact r.length.symm
  refine ⟨"tuple", _, PyProof.Rows.slot_tuple_getitem.lookup, ht.typeIs, ?_⟩
  exact HT.getItem_tuple_all ht hs pl pu (by rw [hlen]; exact hw) ⟨.ref a, H, I, rfl, q⟩
end
end L2
namespace L2
open PySem PySem.Spec PyProof.Rows
theorem boot_zip : bootBuiltins "zip" = some (.type "zip") := by decide +kernel
theorem boot_min : bootBuiltins "min" = some (.builtin "min") := by decide +kernel
/-! ### the rules, the written part K by its own name -/
section
variable {X : Cx} (K : PySem.W.Frag)
theorem SlR.imp {r r' : V → Option Int → Option Int → Hp → VK → Prop} (h : SlR X r) (i : ∀ x lo hi H Q, r' x lo hi H Q → r x lo hi H Q) : SlR X r' := fun pins s σ H x v vl vu lo hi sl Q I rx hs pl pu q => h pins s σ H x v vl vu lo hi sl Q I rx hs pl pu (i _ _ _ _ _ q)
theorem xadd (hK : X.K = K := by rfl) : OpR X (binaryOp .Add) (rAddV K) := by subst hK; exact v_add
theorem xix (hK : X.K = K := by rfl) : IxR X (rIxV K) := by subst hK; exact v_ix
theorem xeq {k : Nat} (hr : Room k X.A) (hK : X.K = K := by rfl) : OpR X (compareOp .Eq) (rEqV K id) := by subst hK; exact v_eq hr
theorem xne {k : Nat} (hr : Room k X.A) (hK : X.K = K := by rfl) : OpR X (compareOp .NotEq) (rEqV K not) := by subst hK; exact v_ne hr
theorem xlen (hK : X.K = K := by rfl) : CallR X (.builtin "len") (fun xs H Q => ∃ x n, xs = [x] ∧ LenV K x H n ∧ Q (.int n) H) := by subst hK; exact call_len
theorem xlist (hK : X.K = K := by rfl) : CallR X (.type "list") (fun xs H Q => ∃ p ys, xs = [.ref p] ∧ (SqL K H p ys ∨ SqT K H p ys) ∧ ∀ l, H l = none → Q (.ref l) (upd H l (.lst ys))) := by subst hK; exact call_list_of
theorem xtuple (hK : X.K = K := by rfl) : CallR X (.type "tuple") (fun xs H Q => ∃ p ys, xs = [.ref p] ∧ ((SqL K H p ys ∧ ∀ l, H l = none → Q (.ref l) (upd H l (.tup ys))) ∨ (SqT K H p ys ∧ Q (.ref p) H))) := by subst hK; exact call_tuple_of
/-- xs[lo:hi]: of a list a new one; of a tuple a new one, or itself where it is the whole -/
noncomputable def rSlV (K : PySem.W.Frag) : V → Option Int → Option Int → Hp → VK → Prop := fun x lo hi H Q => match x with
  | .ref a => (∃ xs, SqL K H a xs ∧ ∀ p, H p = none → Q (.ref p) (upd H p (.lst (cutV xs lo hi)))) ∨
      (∃ xs, SqT K H a xs ∧ ¬ (HT.sIx xs.length 0 lo = 0 ∧ HT.sIx xs.length xs.length hi = xs.length) ∧ ∀ p, H p = none → Q (.ref p) (upd H p (.tup (cutV xs lo hi)))) ∨
      (∃ xs, SqT K H a xs ∧ (HT.sIx xs.length 0 lo = 0 ∧ HT.sIx xs.length xs.length hi = xs.length) ∧ Q (.ref a) H)
  | _ => False
theorem xsl (hK : X.K = K := by rfl) : SlR X (rSlV K) := by
  subst hK
  refine (sl_list.or (sl_tup.or sl_tupAll)).imp fun x lo hi H Q h => ?_
  unfold rSlV at h
  split at h
  · rcases h with ⟨xs, h⟩ | ⟨xs, h⟩ | ⟨xs, h⟩
    · exact .inl ⟨_, xs, rfl, h⟩
    · exact .inr (.inl ⟨_, xs, rfl, h⟩)
    · exact .inr (.inr ⟨_, xs, rfl, h⟩)
  · exact h.elim
theorem xseq {tg l : Expr} {tl : TE} (hl : PE X l tl) (hK : X.K = K := by rfl) : PI X tg l (iSeq K tl) := by subst hK; exact pi_seq hl
theorem xgtup {es : List Expr} {k : Nat} {t : TGs} {n : Nat} {pos : Pos} (hc : X.calm = true) (h : PGs X es t) (hK : X.K = K := by rfl)
    (hn : (assignEach es X.env).length = n := by rfl) (hst : (assignEach es X.env).findIdx? (·.1) = none := by rfl) : PG X (.Tuple es k pos) (gTup K n t) := by subst hK; exact pg_tup hc h hn hst
theorem xappend {o e : Expr} {to : TE} {te : TE} {apos cpos : Pos} (ho : PE X o to) (he : PE X e te) (hK : X.K = K := by rfl)
    (hbase : attributeBase o "append" X.env (eval o X.env) = eval o X.env := by rfl)
    (hfew : ((backTo cpos (starEach [e] X.env)).all (fun x => !x.1) && (backToKw cpos (keywordEach [] X.env)).all (fun x => x.1.isSome)
      && decide ([e].length + ([] : List Keyword).length + (if ([] : List Keyword).isEmpty then 0 else 1) < 30)) = true := by rfl)
    (hline : (apos.endLine == cpos.line) = true := by rfl) (hs : starEach [e] X.env = (false, eval e X.env) :: starEach [] X.env := by rfl) :
    PE X (.Call (.Attribute o "append" apos) [e] [] cpos) (tBM K "list" rAppend to (tCons te tNil)) := by
  subst hK
  exact pe_bm PySem.F.plainAttrs_list PySem.F.slot_list_append PySem.F.type_list_append mt_append ho (pa_cons he pa_nil hs) hbase hfew hline hs rfl
end

/-! ### arguments by their kinds: that none is starred is told once -/
section
variable {X : Cx} {es : List Expr} {te : TE} {t : TA}
theorem pa_k {c : Const} {j} {p : Pos} (h : PE X (.Constant c j p) te) (hr : PA X es t) : PA X ((.Constant c j p) :: es) (tCons te t) := pa_cons h hr rfl
theorem pa_n {x : Str} {p : Pos} (h : PE X (.Name x p) te) (hr : PA X es t) : PA X ((.Name x p) :: es) (tCons te t) := pa_cons h hr rfl
theorem pa_t {as : List Expr} {j} {p : Pos} (h : PE X (.Tuple as j p) te) (hr : PA X es t) : PA X ((.Tuple as j p) :: es) (tCons te t) := pa_cons h hr rfl
theorem pa_b {a : Expr} {o : Operator} {b : Expr} {p : Pos} (h : PE X (.BinOp a o b p) te) (hr : PA X es t) : PA X ((.BinOp a o b p) :: es) (tCons te t) := pa_cons h hr rfl
end
end L2
namespace L2
open PySem PySem.Spec PyProof.Rows
/-! ### an exception that was taken: its object, its class -/
noncomputable def excO (a C : Addr) : HO := .ext fun h => ∃ o vs, h.get? a = some o ∧ o.cls = .ref C ∧ o.data = .fields vs
theorem excO_ok {P : Program} {w : World} {H : Hp} {h : Heap} {a C : Addr} {o : Obj} {vs : Array Value} (e : h.get? a = some o) (hc : o.cls = .ref C) (hd : o.data = .fields vs) : ObjOk P w H h a (excO a C) :=
  ⟨⟨o, vs, e, hc, hd⟩, ⟨o, e⟩, fun _ _ ⟨o, vs, e, r⟩ k => ⟨o, vs, k o e, r⟩⟩
theorem ObjOk.there {P : Program} {w : World} {H : Hp} {h : Heap} {a : Addr} {o : HO} (x : ObjOk P w H h a o) : ∃ u, h.get? a = some u := by
  cases o with
  | lst xs => obtain ⟨_, _, _, _, e⟩ := x; exact ⟨_, e⟩
  | tup xs => obtain ⟨_, _, _, o, e, _⟩ := x; exact ⟨_, e⟩
  | dK kvs => obtain ⟨_, _, _, _, o, _, _, e, _⟩ := x; exact ⟨_, e⟩
  | dT kvs => obtain ⟨_, _, _, _, o, _, _, e, _⟩ := x; exact ⟨_, e⟩
  | set S n => obtain ⟨o, _, _, _, e, _⟩ := x; exact ⟨_, e⟩
  | ins C dx fs => obtain ⟨_, _, _, e, _⟩ := x; exact ⟨_, e⟩
  | own y => exact x
  | xd fs => obtain ⟨_, ⟨_, _, _, e, _⟩, _⟩ := x; exact ⟨_, e⟩
  | rng lo hi => obtain ⟨_, _, _, e⟩ := x; exact ⟨_, e⟩
  | frz ob u => obtain ⟨e, _⟩ := x; exact ⟨_, e⟩
  | tbl ps => exact ⟨_, (show h.get? a = some _ from x)⟩
  | met f y => exact ⟨_, (show h.get? a = some _ from x)⟩
  | ext φ => exact x.2.1
/-- the class at C stands under the one at R, both error classes of the text -/
structure ExS (base : Heap) (C R : Addr) : Prop where
  cls : ∃ nm q N bs bm hdct sn sub ab col dd k0 k1 k2 k3 k5 newId, base.get? C = some (excClassObj nm q C N bs bm hdct sn sub ab col dd k0 k1 k2 k3 k5 newId) ∧ (Value.ref C :: bm).contains (.ref R) = true
  top : ∃ nm q N bs bm hdct sn sub ab col dd k0 k1 k2 k3 k5 newId, base.get? R = some (excClassObj nm q R N bs bm hdct sn sub ab col dd k0 k1 k2 k3 k5 newId) ∧ bm.contains (.type "BaseException") = true
theorem excMatches_own {M : Model} {A : Around} {E : Value → Shared → Prop} {h : Heap} {g : Array GenState} {d : Drawn} {t : Nat} {os : OsState} {e C R : Addr} {oe : Obj} {Q : Bool → Shared → Prop} {base : Heap} (S : ExS base C R) (kb : ∀ b o, base.get? b = some o → h.get? b = some o)
    (he : h.get? e = some oe) (hcls : oe.cls = .ref C) (hq : Q true ⟨h, g, d, t, os⟩) : wpAny M A (excMatches (.ref e) (.ref R)) Q E ⟨h, g, d, t, os⟩ := by
  obtain ⟨nm, q, N, bs, bm, hdct, sn, sub, ab, col, dd, k0, k1, k2, k3, k5, newId, hC, hs⟩ := S.cls
  obtain ⟨nm', q', N', bs', bm', hdct', sn', sub', ab', col', dd', k0', k1', k2', k3', k5', newId', hR, hB⟩ := S.top
  have hC := kb _ _ hC
  have hR := kb _ _ hR
  have hcB : (Value.ref R :: bm').contains (.type "BaseException") = true := by rw [List.contains_cons, hB, Bool.or_true]
  have f := tc_notTuple
  unfold excMatches
  repeat (first | (with_reducible refine wpAny_loadPart_at he ?_; rw [hcls]) | with_reducible refine wpAny_loadPart_at hR ?_ | (with_reducible refine wpAny_isSubtype_exc hR ?_; rw [hcB]) | (with_reducible refine wpAny_isSubtype_exc hC ?_; rw [hs]) | wp_step)
  exact hq
section
variable {X : Cx} {pins : List (Addr × Obj)} {σ : St} {H : Hp} {s : Shared}
/-- an untracked object that is none of the elder ones is tracked -/
theorem Inv.track {a : Addr} {o : HO} (I : Inv X pins σ H s) (hn : H a = none) (h0 : ∀ u, X.s₀.heap.get? a ≠ some u) (hL : a ≠ X.env.locals) (hc : ∀ x c, X.env.cells.lookup x = some c → c ≠ a) (hp : ∀ p ∈ X.pn ++ pins, p.1 ≠ a)
    (new : ObjOk X.prog X.w (upd H a o) s.heap a o) : Inv X pins σ (upd H a o) s := by
  have ne : ∀ b u, H b = some u → b ≠ a := fun b u e => ne_of_none e hn
  refine ⟨I.ok, I.os, I.bare, ⟨I.base.keep, I.base.slot, fun b u e n hx => ?_, I.base.there, fun b xs e => ?_, fun b u xs e => ?_, fun b ps e => ?_⟩, I.loc, I.cell, ?_, fun x c e => ?_, fun p q => ?_, fun b u e => ?_, I.len⟩
  · rw [upd_ne (fun z => h0 u (by rw [← z]; exact e))]; exact I.base.free b u e n hx
  · have := I.base.tups b xs e
    rw [upd_ne (ne b _ this)]; exact this
  · have := I.base.frzs b u xs e
    rw [upd_ne (ne b _ this)]; exact this
  · obtain ⟨m, this⟩ := I.base.tbls b ps e
    exact ⟨m, by rw [upd_ne (ne b _ this)]; exact this⟩
  · rw [upd_ne (Ne.symm hL)]; exact I.free
  · rw [upd_ne (hc x c e)]; exact I.freeC x c e
  · obtain ⟨e1, e2, e3⟩ := I.pin p q
    exact ⟨e1, by rw [upd_ne (hp p q)]; exact e2, e3⟩
  · by_cases hb : b = a
    · subst hb
      rw [upd_same] at e; cases e
      exact new
    · rw [upd_ne hb] at e
      exact (I.hok b u e).stay (fun _ _ _ q => q) (fun c q => by rw [upd_ne (ne c _ q)]; exact q) fun c xs q => by rw [upd_ne (ne c _ q)]; exact q
/-- a name is gone -/
theorem Inv.unset {h' : Heap} {t' : Nat} {j : Nat} {n : Str} {v : Option Value} {m : Str → Option Value} (I : Inv X pins σ H s) (hN : X.N.Nodup) (hj : X.N[j]? = some n) (hm : s.heap.Ns X.env.locals m)
    (hn : h'.Ns X.env.locals fun y => if y = n then v else m y) (hs : Heap.SameBut X.env.locals s.heap h') : Inv X pins (σ.set j none) H { s with heap := h', toks := t' } := by
  obtain ⟨m2, hn2, hl⟩ := id I.loc
  obtain ⟨oL, _, _, hoL, _⟩ := id hm
  have em : m2 = m := by
    obtain ⟨o1, es1, ep1, ho1, hd1, hk1, hf1⟩ := hn2
    obtain ⟨o2, es2, ep2, ho2, hd2, hk2, hf2⟩ := hm
    rw [ho1] at ho2; cases ho2
    rw [hd1] at hd2; cases hd2
    funext y; rw [← hf1 y, ← hf2 y]
  subst em
  refine ⟨I.ok, I.os, I.bare, ⟨fun b o e nn hb hx => ?_, fun b o e nn hb hx => ?_, I.base.free, fun b o e hx => ?_, I.base.tups, I.base.frzs, I.base.tbls⟩, ⟨_, hn, fun i y u e1 e2 e3 => ?_⟩, fun y c e => ?_, I.free, I.freeC, fun p hp => ?_, fun b u e => ?_, by simpa using I.len⟩
  · exact (hs.2 b (Nat.ne_of_lt (Nat.lt_of_lt_of_le (Heap.lt_size e) I.ok.above))).trans (I.base.keep b o e nn hb hx)
  · obtain ⟨sl, e1⟩ := I.base.slot b o e nn hb hx
    exact ⟨sl, (hs.2 b (Nat.ne_of_lt (Nat.lt_of_lt_of_le (Heap.lt_size e) I.ok.above))).trans e1⟩
  · obtain ⟨o', e1⟩ := I.base.there b o e hx
    exact ⟨o', (hs.2 b (Nat.ne_of_lt (Nat.lt_of_lt_of_le (Heap.lt_size e) I.ok.above))).trans e1⟩
  · by_cases hji : i = j
    · subst hji
      by_cases hlt : i < σ.length
      · rw [List.getElem?_set_self hlt] at e2; cases e2
      · rw [List.getElem?_eq_none (by simp; exact OmL.om60 hlt)] at e2; cases e2
    · rw [List.getElem?_set_ne (Ne.symm hji)] at e2
      obtain ⟨u', r', q⟩ := hl i y u e1 e2 e3
      refine ⟨u', r', ?_⟩
      rcases q with ⟨k, e⟩ | ⟨k, c, e, z⟩
      · refine .inl ⟨k, ?_⟩
        have : y ≠ n := fun z => hji (nodup_ix hN e1 (z ▸ hj))
        simp [this, e]
      · exact .inr ⟨k, c, e, z.sameBut hs (I.cne y c e)⟩
  · obtain ⟨w', z⟩ := I.cell y c e
    exact ⟨w', z.sameBut hs (I.cne y c e)⟩
  · obtain ⟨e, nn, ne, nf, d⟩ := I.pin p hp
    exact ⟨(hs.2 p.1 ne).trans e, nn, ne, nf, d⟩
  · refine (I.hok b u e).stay (fun c w' hc q => (hs.2 c ?_).trans q) (fun _ q => q) fun _ _ q => q
    rintro rfl
    rcases hc with z | hc
    · rw [← z, I.free] at e; cases e
    · rw [I.free] at hc; cases hc
end
/-- within an except suite (nothing is raised there) -/
noncomputable def cxS (X : Cx) (a : Addr) : Cx := { X with A := X.A.mark (some (.ref a)), calm := false, xe := fun _ _ => False }
theorem Inv.suite {X : Cx} {pins : List (Addr × Obj)} {σ : St} {H : Hp} {s : Shared} (I : Inv X pins σ H s) (a : Addr) : Inv (cxS X a) pins σ H s :=
  ⟨⟨I.ok.mod, I.ok.kind, I.ok.glob, I.ok.blt, I.ok.above, I.ok.inj, I.ok.has, I.ok.cab, (fun z => by cases z), I.ok.frames, I.ok.stk, I.ok.exf, I.ok.bs, I.ok.bsz, I.ok.noex, I.ok.exfs, I.ok.funs, I.ok.frf⟩,
    I.os, I.bare, I.base, I.loc, I.cell, I.free, I.freeC, I.pin, I.hok, I.len⟩
theorem Inv.unsuite {X : Cx} {pins : List (Addr × Obj)} {σ : St} {H : Hp} {s : Shared} {a : Addr} (ok : X.Ok) (I : Inv (cxS X a) pins σ H s) : Inv X pins σ H s :=
  ⟨ok, I.os, I.bare, I.base, I.loc, I.cell, I.free, I.freeC, I.pin, I.hok, I.len⟩
end L2
namespace L2
open PySem PySem.Spec PyProof.Rows
/-! ### isinstance(e, ..) of an exception of a class of the text -/
/-- what the written part says of the class at C -/
structure ExI (K : PySem.W.Frag) (C : Addr) : Prop where
  ga : PySem.W.findIn K (.ref C) "__getattribute__" = some (some (.builtin "BaseException.__getattribute__"))
  gt : PySem.W.findIn K (.ref C) "__getattr__" = some none
  cl : PySem.W.findIn K (.ref C) "__class__" = some (some (.builtin "object.__class__"))
  mb : PySem.W.mroIn K C (.type "BaseException") = some true
  mo : PySem.W.mroIn K C (.type "object") = some true
  is : (PySem.W.clsIn K C).isSome = true
section
variable {prog : Program} {w : World} {A : Around} {E : Value → Shared → Prop} {h : Heap} {g : Array GenState} {d : Drawn} {t : Nat} {os : OsState} {a C : Addr} {o : Obj} {K : PySem.W.Frag}
theorem xc_get {R : Result → Shared → Prop} (S : ExI K C) (X : K.In h) (hx : h.get? a = some o) (hc : o.cls = .ref C) (hq : R (.ok (.ret (.ref C))) ⟨h, g, d, t, os⟩) :
    codeAny (model prog w) A (.call (.builtin "getset_descriptor.__get__") ⟨[.builtin "object.__class__", .ref a, .ref C], []⟩) R ⟨h, g, d, t, os⟩ := by
  have hT5 : (⟨h, g, d, t, os⟩ : Shared).TypeIs (.builtin "object.__class__") "getset_descriptor" := F.typeOf_object_class
  have L1 := PySem.W.looks_mroIn (M := model prog w) X S.mo
  rw [← F.owner_object_class] at L1
  refine codeAny_call_builtin F.slot_gs_get.plain F.entry_gs_get (F.slot_gs_get.check _ _ _ _ _ _ _ _ hT5 (F.args_gs_get _ _ _) ?_)
  repeat (any_goals (first | assumption | (with_reducible refine wpAny_loadPart_at hx ?_; rw [hc]) | with_reducible refine L1.at ?_ | wp_step))
  refine ⟨Code.quiet_builtin _ (by decide +kernel), codeAny_builtin F.entry_object_class ?_⟩
  repeat (any_goals (first | assumption | (with_reducible refine wpAny_loadPart_at hx ?_; rw [hc]) | wp_step))
theorem xc_entry {tk : Tok} {Q : Fin → Shared → Prop} (S : ExI K C) (X : K.In h) (hx : h.get? a = some o) (hc : o.cls = .ref C) (hq : Q (.done (.ret (.ref C))) ⟨h, g, d, t, os⟩) :
    wpAny (model prog w) A (Builtin.«object.__getattribute__» ⟨[.ref a, .str "__class__" tk], []⟩) Q E ⟨h, g, d, t, os⟩ := by
  have hT5 : (⟨h, g, d, t, os⟩ : Shared).TypeIs (.builtin "object.__class__") "getset_descriptor" := F.typeOf_object_class
  have L1 := PySem.W.looks_findIn (M := model prog w) X S.cl
  have f5 := F.typeOf_object_class
  have f6 := F.slot_gs_get.lookup
  have f7 := F.slot_gs_set.lookup
  repeat (any_goals (first | assumption | (with_reducible refine wpAny_loadPart_at hx ?_; rw [hc]) | with_reducible refine L1.at ?_ | wp_step))
  refine xc_get S X hx hc ?_
  repeat (any_goals (first | assumption | wp_step))
theorem xc_check {nameV : Value} {Q : Unit → Shared → Prop} (S : ExI K C) (X : K.In h) (hx : h.get? a = some o) (hc : o.cls = .ref C) (hq : Q () ⟨h, g, d, t, os⟩) :
    wpAny (model prog w) A (checkBuiltinCall "BaseException.__getattribute__" ⟨[.ref a, nameV], []⟩) Q E ⟨h, g, d, t, os⟩ := by
  have hk : builtinKind "BaseException.__getattribute__" = some .slot := by decide +kernel
  have hs : splitId "BaseException.__getattribute__" = some ("BaseException", "__getattribute__") := by decide +kernel
  have L1 := PySem.W.looks_mroIn (M := model prog w) X S.mb
  have ha := F.args_bexc_ga (.ref a) nameV
  simp only [checkBuiltinCall, hk, hs]
  refine wpAny_bind ?_
  unfold isInstance
  repeat (first | (with_reducible refine wpAny_loadPart_at hx ?_; rw [hc]) | with_reducible refine L1.at ?_ | wp_step)
  exact hq
theorem xc_by {tk : Tok} {Q : Value → Shared → Prop} (S : ExI K C) (X : K.In h) (hx : h.get? a = some o) (hc : o.cls = .ref C) (hq : Q (.ref C) ⟨h, g, d, t, os⟩) :
    wpAny (model prog w) A (getAttrBy (.ref a) (.str "__class__" tk) false) Q E ⟨h, g, d, t, os⟩ := by
  have f3 := F.excAttr_ValueError.ga.bind (.ref a)
  have L1 := PySem.W.looks_findIn (M := model prog w) X S.ga
  have L2 := PySem.W.looks_findIn (M := model prog w) X S.gt
  have hx2 : (Value.builtin "BaseException.__getattribute__" == Value.builtin "object.__getattribute__") = false := by decide +kernel
  have hx1 : (onTheHeap (Value.ref C) && Value.builtin "BaseException.__getattribute__" == Value.builtin "object.__getattribute__") = false := by rw [hx2]; rfl
  repeat (any_goals (first | assumption | (with_reducible refine wpAny_loadPart_at hx ?_; rw [hc]) | with_reducible refine L1.at ?_ | with_reducible refine L2.at ?_ | wp_step))
  refine codeAny_call_builtin F.excAttr_ValueError.ga.plain F.entry_bexc_ga (xc_check S X hx hc (xc_entry S X hx hc ?_))
  repeat (any_goals (first | assumption | wp_step))
theorem xc_attr {Q : Option Value → Shared → Prop} (S : ExI K C) (X : K.In h) (hx : h.get? a = some o) (hc : o.cls = .ref C) (hq : Q (some (.ref C)) ⟨h, g, d, t + 1, os⟩) :
    wpAny (model prog w) A (getAttr? (.ref a) "__class__") Q E ⟨h, g, d, t, os⟩ := by
  unfold getAttr? getAttrBy?
  repeat (any_goals (first | assumption | with_reducible apply xc_by S X hx hc | wp_step))
end
end L2
namespace L2
open PySem PySem.Spec PyProof.Rows
theorem kitx_exc {K : PySem.W.Frag} {a C : Addr} (S : ExI K C) : PySem.W.KitX K (.ref a) (.ref C) (fun h => ∃ o vs, h.get? a = some o ∧ o.cls = .ref C ∧ o.data = .fields vs) where
  ty := fun M h _ p => by
    obtain ⟨o, _, h1, h2, _⟩ := p
    exact h2 ▸ (PySem.W.Looks.ld h1).andThen .now
  it := fun _ _ X _ => by
    have hi := S.is
    unfold PySem.W.clsIn at hi
    split at hi
    · rename_i c' d' cd' sl' ho
      intro A' Q' E' s' k q
      unfold isType loadHead
      exact wpAny_bind (wpAny_loadPart (k _ _ (X _ _ ho)) (wpAny_pure q))
    · cases hi
  ne := fun h tp dd its n sl X htp => by
    have hi := S.is
    refine Bool.eq_false_iff.mpr fun q => ?_
    have e : C = tp := Value.ref.inj (beq_iff_eq.mp q)
    subst e
    unfold PySem.W.clsIn at hi
    split at hi
    · rename_i c' d' cd' sl' ho
      have z := (X _ _ ho).symm.trans htp
      cases z
    · cases hi
  ca := fun {prog w A E Q s} X p k => by
    obtain ⟨o, vs, h1, h2, _⟩ := p
    obtain ⟨h0, g, d, t, os⟩ := s
    exact xc_attr S X h1 h2 k
theorem refs_of : ∀ {Ds : List Addr} {us : List Value}, Vals (Ds.map V.ref) us → us = Ds.map Value.ref
  | [], _, .nil => rfl
  | D :: Ds, _, .cons r t => by
    have e := refs_of (Ds := Ds) t
    cases (show _ = Value.ref D from r)
    rw [e]; rfl
/-- isinstance(e, D), isinstance(e, ValueError), isinstance(e, (D, ..)) -/
noncomputable def rIsiE (K : PySem.W.Frag) : List V → Hp → VK → Prop := fun xs H Q => ∃ a C y b, xs = [.ref a, y] ∧ H a = some (excO a C) ∧ ExI K C ∧
  ((∃ D, y = .ref D ∧ PySem.W.kitOne K (.ref C) (.ref D) = some b) ∨ (∃ T, y = .ty T ∧ PySem.W.kitOne K (.ref C) (.type T) = some b) ∨ (∃ (p : Addr) (Ds : List Addr), y = .ref p ∧ H p = some (.tup (Ds.map V.ref)) ∧ PySem.W.kitAny K (.ref C) (Ds.map Value.ref) = some b)) ∧ Q (.bl b) H
theorem v_isiE {X : Cx} : CallR X (.builtin "isinstance") (rIsiE X.K) := by
  intro pins s σ H xs us Q I r h
  obtain ⟨a, C, y, b, rfl, ha, S, h1, q⟩ := h
  obtain ⟨u, v, rfl, ru, rv⟩ := r.two
  cases ru
  have p : ∃ o vs, s.heap.get? a = some o ∧ o.cls = .ref C ∧ o.data = .fields vs := (I.hok a _ ha).1
  have fin : ∀ tk, EP X pins σ Q (.bool b) { s with toks := tk } := fun tk => ⟨.bl b, H, I.tok tk, rfl, q⟩
  rcases h1 with ⟨D, rfl, e⟩ | ⟨T, rfl, e⟩ | ⟨tp, Ds, rfl, ht, e⟩
  · cases rv
    exact PySem.W.kia_one (kitx_exc S) I.kIn p e (fun z => nomatch z) fin
  · cases rv
    exact PySem.W.kia_one (kitx_exc S) I.kIn p e (fun z => nomatch z) fin
  · cases rv
    obtain ⟨its, r2, p2, _⟩ := I.tuple (SqT.of ht)
    have ei := refs_of r2
    subst ei
    obtain ⟨⟨cls, dd, data, sl⟩, ho, hc, n, hd⟩ := id p2
    simp only at hc hd
    subst hc hd
    exact PySem.W.kia_tup (kitx_exc S) I.kIn p ho e (fun z => nomatch z) fin
theorem xisiE {X : Cx} (K : PySem.W.Frag) (hK : X.K = K := by rfl) : CallR X (.builtin "isinstance") (rIsiE K) := by subst hK; exact v_isiE
/-- a class of the text, as a value -/
theorem pe_cls {X : Cx} {x : Str} {C : Addr} {pos : Pos} (hg : Gl X x) (hm : X.mg x = some (.ref C)) (hd : (x == ("__debug__" : Str)) = false := by decide) : PE X (.Name x pos) (tC (.ref C)) := pe_glob hg hm rfl hd
/-! ### the class facts, out of the written part -/
theorem exC_of {K : PySem.W.Frag} {h : Heap} {mg : Str → Option Value} {x : Str} {C : Addr} {newId inN Bn : String} {bmN : List Value} (X : K.In h) (G : h.Ns mainGlobals mg) (e : PySem.W.nsIn K mainGlobals x = some (some (.ref C)))
    (q : PySem.W.excIn K C [.type "ValueError", .type "Exception", .type "BaseException", .type "object"] newId = true) (Fn : ExcBaseFacts Bn newId inN bmN)
    (hBn : [Value.type "ValueError", .type "Exception", .type "BaseException", .type "object"].contains (.type Bn) = true) : ExC mg h x C := by
  refine ⟨_, newId, ⟨PySem.W.mg_of X G e, ?_⟩, Bn, inN, bmN, _, _, _, Fn, hBn, F.excBase_ValueError⟩
  unfold PySem.W.excIn at q
  split at q
  · rename_i dd cd sl ho
    split at q
    · rename_i C' bm k0 k1 k2 k3 n k5 hm hs
      simp only [Bool.and_eq_true, beq_iff_eq, Bool.not_eq_true'] at q
      obtain ⟨⟨⟨⟨⟨rfl, rfl⟩, hdel⟩, ht⟩, hok⟩, hni⟩ := q
      obtain ⟨nm, bs, mro, ns, qn, hdc, sn, sub, ab, col, del⟩ := cd
      dsimp only at hm hdel hok hni
      subst hm; subst hdel
      have hsl : sl = #[k0, k1, k2, k3, some (.builtin n), k5] := by
        obtain ⟨l⟩ := sl
        simp only at hs
        rw [hs]
      subst hsl
      exact ⟨bm, ns, nm, qn, bs, hdc, sn, sub, ab, col, dd, k0, k1, k2, k3, k5, _, X _ _ ho, .of_isNs (PySem.W.isNs_of_in X hok), PySem.W.nsMap_none_of_in X hok hni, PySem.W.tail_of_in X ht⟩
    · cases q
  · cases q
noncomputable def excSub (K : PySem.W.Frag) (C R : Addr) : Bool := match K.lookup C with
  | some ⟨.type "type", _, .cls cd, sl⟩ => (match cd.mro, sl.toList with
    | .ref C' :: bm, [_, _, _, _, some (.builtin _), _] => C' == C && !cd.hasDel && (Value.ref C' :: bm).contains (.ref R)
    | _, _ => false)
  | _ => false
theorem exS_of {K : PySem.W.Frag} {h : Heap} {C R : Addr} (X : K.In h) (q : excSub K C R = true) (qr : PySem.W.ktsIn K R "BaseException" = true) : ExS h C R := by
  refine ⟨?_, ?_⟩
  · unfold excSub at q
    split at q
    · rename_i dd cd sl ho
      split at q
      · rename_i C' bm k0 k1 k2 k3 n k5 hm hs
        simp only [Bool.and_eq_true, beq_iff_eq, Bool.not_eq_true'] at q
        obtain ⟨⟨rfl, hdel⟩, ht⟩ := q
        obtain ⟨nm, bs, mro, ns, qn, hdc, sn, sub, ab, col, del⟩ := cd
        dsimp only at hm hdel
        subst hm; subst hdel
        have hsl : sl = #[k0, k1, k2, k3, some (.builtin n), k5] := by
          obtain ⟨l⟩ := sl
          simp only at hs
          rw [hs]
        subst hsl
        exact ⟨nm, qn, ns, bs, bm, hdc, sn, sub, ab, col, dd, k0, k1, k2, k3, k5, n, X _ _ ho, ht⟩
      · cases q
    · cases q
  · obtain ⟨nm, qn, N, bs, bm, hdct, sn, sub, ab, col, dd, k0, k1, k2, k3, k5, newId, hR, hb, _⟩ := PySem.W.kts_cls X qr
    exact ⟨nm, qn, N, bs, bm, hdct, sn, sub, ab, col, dd, k0, k1, k2, k3, k5, newId, hR, hb⟩
end L2
namespace L2
open PySem PySem.Spec PyProof.Rows
theorem boot_ValueError : bootBuiltins "ValueError" = some (.type "ValueError") := by decide +kernel
/-! ### is True, is False -/
section
variable {X : Cx} {a : Expr} {ta : TE}
end
end L2
namespace L2
open PySem
/-! ### lists and tuples of ints compared -/
end L2

set_option maxHeartbeats 4000000
namespace L2
open PySem PySem.Spec PyProof.Rows
/-! ### zip of two sequences, each a list (false) or a tuple (true) -/
noncomputable def ItA (t : Bool) (h : Heap) (it l : Addr) (i : Nat) : Prop := ∃ o, h.get? it = some o ∧ o.cls = .type (if t then "tuple_iterator" else "list_iterator") ∧ o.data = .fields #[.ref l, .int i 0]
noncomputable def SqA (t : Bool) (h : Heap) (l : Addr) (items : Array Value) : Prop := ∃ o, h.get? l = some o ∧ o.cls = .type (if t then "tuple" else "list") ∧ ∃ n, o.data = .seq items n
theorem ItA.at {t : Bool} {h h' : Heap} {it l : Addr} {i : Nat} (x : ItA t h it l i) (e : ∀ o, h.get? it = some o → h'.get? it = some o) : ItA t h' it l i := let ⟨o, ho, r⟩ := x; ⟨o, e o ho, r⟩
theorem SqA.at {t : Bool} {h h' : Heap} {l : Addr} {xs : Array Value} (x : SqA t h l xs) (e : ∀ o, h.get? l = some o → h'.get? l = some o) : SqA t h' l xs := let ⟨o, ho, r⟩ := x; ⟨o, e o ho, r⟩
section
variable {prog : Program} {w : World} {A : Around} {E : Value → Shared → Prop} {s : Shared}
theorem nx_item {t : Bool} {it l : Addr} {i : Nat} {items : Array Value} {x : Value} {Q : Value → Shared → Prop} (h1 : ItA t s.heap it l i) (h2 : SqA t s.heap l items) (hx : items[i]? = some x)
    (k : ∀ h', ItA t h' it l (i + 1) → Heap.SameBut it s.heap h' → Q x { s with heap := h' }) : wpAny (model prog w) A (Builtin.SmallTypes.nextOf (.ref it)) Q E s := by
  cases t with
  | false => exact wpAny_nextOf_list_item h1 h2 hx k
  | true =>
    obtain ⟨o, ho, hc, hd⟩ := id h1
    obtain ⟨ol, hol, _, nl, hdl⟩ := id h2
    have ty : s.TypeIs (.ref it) "tuple_iterator" := ⟨o, ho, hc⟩
    unfold Builtin.SmallTypes.nextOf
    refine wpAny_bind (wpAny_callSpecial?_slot (name := Str.ofString "__next__") ty F.slot_tuple_iterator_next (wpAny_call_entry F.slot_tuple_iterator_next ty F.entry_tuple_iterator_next ?_ (F.args_tuple_iterator_next_1 _)))
    show wpAny _ _ (field (.ref it) 0 >>= _) _ _ s
    refine wpAny_bind (wpAny_field ho hd (x := Value.ref l) rfl ?_)
    show wpAny _ _ (if (Value.ref l == Value.none) = true then _ else _) _ _ s
    rw [if_neg (show ¬ ((Value.ref l == Value.none) = true) from fun q => Bool.false_ne_true q)]
    refine wpAny_bind (wpAny_field ho hd (x := Value.int i 0) rfl ?_)
    refine wpAny_bind (wpAny_seqItems hol hdl (Q := _) ?_)
    simp only [hx, Int.toNat_natCast]
    refine wpAny_bind (wpAny_setField ho hd (by simp) (wpAny_pure ⟨x, rfl, wpAny_pure (k _ ⟨_, Heap.get?_update_self _ ho (Obj.isFreed_of_fields (Obj.data_mapFields hd _)), ?_, ?_⟩ (Heap.SameBut.update ..))⟩))
    · exact (Obj.cls_mapFields ..).trans hc
    · rw [Obj.data_mapFields hd]; simp [rawInt]
theorem nx_end {t : Bool} {it l : Addr} {i : Nat} {items : Array Value} {Q : Value → Shared → Prop} (hh : A.handled = none) (h1 : ItA t s.heap it l i) (h2 : SqA t s.heap l items) (hx : items[i]? = none)
    (k : ∀ h' e, Heap.ExtBut it s.heap h' → (∃ o, h'.get? e = some o ∧ o.cls = .type "StopIteration") → E (.ref e) { s with heap := h' }) : wpAny (model prog w) A (Builtin.SmallTypes.nextOf (.ref it)) Q E s := by
  cases t with
  | false => exact wpAny_nextOf_list_end hh h1 h2 hx k
  | true =>
    obtain ⟨o, ho, hc, hd⟩ := id h1
    obtain ⟨ol, hol, _, nl, hdl⟩ := id h2
    have ty : s.TypeIs (.ref it) "tuple_iterator" := ⟨o, ho, hc⟩
    unfold Builtin.SmallTypes.nextOf
    refine wpAny_bind (wpAny_callSpecial?_slot (name := Str.ofString "__next__") ty F.slot_tuple_iterator_next (wpAny_call_entry F.slot_tuple_iterator_next ty F.entry_tuple_iterator_next ?_ (F.args_tuple_iterator_next_1 _)))
    show wpAny _ _ (field (.ref it) 0 >>= _) _ _ s
    refine wpAny_bind (wpAny_field ho hd (x := Value.ref l) rfl ?_)
    show wpAny _ _ (if (Value.ref l == Value.none) = true then _ else _) _ _ s
    rw [if_neg (show ¬ ((Value.ref l == Value.none) = true) from fun q => Bool.false_ne_true q)]
    refine wpAny_bind (wpAny_field ho hd (x := Value.int i 0) rfl ?_)
    refine wpAny_bind (wpAny_seqItems hol hdl (Q := _) ?_)
    simp only [hx, Int.toNat_natCast]
    refine wpAny_bind (wpAny_rule (wpAny_bind (wpAny_setField ho hd (by simp) (Q := _) ?_)))
    show wpAny _ _ (newExc (.type "StopIteration") [] >>= _) _ _ _
    refine wpAny_bind ?_
    simp only [newTuple, newExc]
    refine wpAny_bind (wpAny_newObj_type (Q := _) ?_ (by size_fits))
    refine wpAny_bind (m := firstArgMember _ _) (wpAny_of_eq (a := Value.none) (by first | rfl | (simp only [firstArgMember]; done)) ?_)
    refine wpAny_newObj_type (Q := _) ?_ (by size_fits)
    simp only [raiseNew]
    refine wpAny_bind (wpAny_handled (Q := _) ?_)
    first | rw [hh] | rw [show A.in1.handled = Option.none from hh]
    refine wpAny_bind (wpAny_pure (wpAny_throw (k _ _ (((Heap.SameBut.update ..).extBut.push _).push _) ⟨_, Heap.get?_push_size _ rfl, rfl⟩)))
/-- the zip's own objects stand apart from each other and from what is walked -/
structure Apart (z TI TO i1 i2 l1 l2 : Addr) : Prop where
  own : [z, TI, TO, i1, i2].Nodup
  far1 : l1 ∉ [z, TI, TO, i1, i2]
  far2 : l2 ∉ [z, TI, TO, i1, i2]
theorem Apart.ne {z TI TO i1 i2 l1 l2 : Addr} (D : Apart z TI TO i1 i2 l1 l2) :
    (TI ≠ z ∧ TO ≠ z ∧ i1 ≠ z ∧ i2 ≠ z) ∧ (TI ≠ TO ∧ TI ≠ i1 ∧ TI ≠ i2) ∧ (TO ≠ i1 ∧ TO ≠ i2 ∧ i1 ≠ i2) ∧ (l1 ≠ z ∧ l1 ≠ TO ∧ l1 ≠ i1 ∧ l1 ≠ i2) ∧ (l2 ≠ z ∧ l2 ≠ TO ∧ l2 ≠ i1 ∧ l2 ≠ i2) := by
  obtain ⟨a, b, c⟩ := D
  simp only [List.nodup_cons, List.mem_cons, List.not_mem_nil, or_false, not_or, List.nodup_nil, and_true, not_false_eq_true] at a b c
  obtain ⟨⟨a1, a2, a3, a4⟩, ⟨a5, a6, a7⟩, ⟨a8, a9⟩, a10⟩ := a
  exact ⟨⟨Ne.symm a1, Ne.symm a2, Ne.symm a3, Ne.symm a4⟩, ⟨a5, a6, a7⟩, ⟨a8, a9, a10⟩, ⟨b.1, b.2.2.1, b.2.2.2.1, b.2.2.2.2⟩, ⟨c.1, c.2.2.1, c.2.2.2.1, c.2.2.2.2⟩⟩
theorem zn_item {t1 t2 : Bool} {z TI TO i1 i2 l1 l2 : Addr} {k1 k2 : Nat} {xs ys : Array Value} {x y a b : Value} {Q : Value → Shared → Prop} (D : Apart z TI TO i1 i2 l1 l2)
    (hz : IsZip s.heap z TI TO .none) (hI : IsPair s.heap TI (.ref i1) (.ref i2)) (hO : IsPair s.heap TO a b)
    (h1 : ItA t1 s.heap i1 l1 k1) (h2 : ItA t2 s.heap i2 l2 k2) (q1 : SqA t1 s.heap l1 xs) (q2 : SqA t2 s.heap l2 ys) (hx : xs[k1]? = some x) (hy : ys[k2]? = some y)
    (k : ∀ h', IsZip h' z TI TO (rawInt s.heap.objs.size) → IsPair h' TO x y → ItA t1 h' i1 l1 (k1 + 1) → ItA t2 h' i2 l2 (k2 + 1) → IsPair h' s.heap.objs.size x y →
      (∀ c o, c ∉ [z, TO, i1, i2] → s.heap.get? c = some o → h'.get? c = some o) → Q (.ref s.heap.objs.size) { s with heap := h' }) :
    wpAny (model prog w) A (Builtin.«zip.__next__» ⟨[.ref z], []⟩) (fun fin s' => ∃ v, fin = .done (.ret v) ∧ Q v s') E s := by
  obtain ⟨⟨dTIz, dTOz, d1z, d2z⟩, ⟨dTITO, dTI1, dTI2⟩, ⟨dTO1, dTO2, d12⟩, ⟨e1z, e1TO, e11, e12⟩, ⟨e2z, e2TO, e21, e22⟩⟩ := D.ne
  show wpAny _ _ (field (.ref z) 2 >>= _) _ _ _
  refine wpAny_bind (wpAny_field hz rfl (x := Value.bool false) rfl ?_)
  show wpAny _ _ (field (.ref z) 3 >>= _) _ _ _
  refine wpAny_bind (wpAny_field hz rfl (x := Value.ref TI) rfl ?_)
  refine wpAny_bind (wpAny_seqItems hI rfl (Q := _) ?_)
  show wpAny _ _ (Builtin.SmallTypes.ownedTupleIsFree (.ref z) >>= _) _ _ _
  refine wpAny_bind ?_
  unfold Builtin.SmallTypes.ownedTupleIsFree
  refine wpAny_bind (wpAny_field hz rfl (x := Value.none) rfl (wpAny_pure (Q := _) ?_))
  simp only [if_true]
  refine wpAny_bind (wpAny_rule (Q := _) ?_)
  refine wpAny_bind (wpAny_field hz rfl (x := Value.ref TO) rfl ?_)
  refine wpAny_bind (wpAny_setField_rec hz (by simp) fun g1 z1 m1 => ?_)
  replace z1 : IsZip g1 z TI TO .ellipsis := z1
  refine wpAny_bind ?_
  simp only [List.forIn_cons, List.forIn_nil, List.zipIdx_cons, List.zipIdx_nil]
  refine wpAny_bind (wpAny_bind (wpAny_onRaise (Q := _) ?_))
  show wpAny _ _ (Builtin.SmallTypes.nextOf (.ref i1) >>= _) _ _ _
  refine wpAny_bind (nx_item (h1.at fun o e => m1.extBut _ _ d1z e) (q1.at fun o e => m1.extBut _ _ e1z e) hx fun g2 n2 m2 => wpAny_pure (Q := _) ?_)
  have O2 : IsPair g2 TO a b := m2.extBut _ _ dTO1 (m1.extBut _ _ dTOz hO)
  refine wpAny_bind (wpAny_seqItems O2 rfl (Q := _) ?_)
  refine wpAny_bind (wpAny_updateSeq_pair O2 fun g3 O3 m3 => ?_)
  replace O3 : IsPair g3 TO x b := O3
  refine wpAny_bind (wpAny_letGo (wpAny_pure (Q := _) ?_))
  refine wpAny_bind (wpAny_bind (wpAny_onRaise (Q := _) ?_))
  show wpAny _ _ (Builtin.SmallTypes.nextOf (.ref i2) >>= _) _ _ _
  refine wpAny_bind (nx_item (h2.at fun o e => m3.extBut _ _ (Ne.symm dTO2) (m2.extBut _ _ (Ne.symm d12) (m1.extBut _ _ d2z e))) (q2.at fun o e => m3.extBut _ _ e2TO (m2.extBut _ _ e21 (m1.extBut _ _ e2z e))) hy fun g4 n4 m4 => wpAny_pure (Q := _) ?_)
  have O4 : IsPair g4 TO x b := m4.extBut _ _ dTO2 O3
  refine wpAny_bind (wpAny_seqItems O4 rfl (Q := _) ?_)
  refine wpAny_bind (wpAny_updateSeq_pair O4 fun g5 O5 m5 => ?_)
  replace O5 : IsPair g5 TO x y := O5
  refine wpAny_bind (wpAny_letGo (wpAny_pure (wpAny_pure (Q := _) ?_)))
  refine wpAny_bind (wpAny_seqItems O5 rfl (Q := _) ?_)
  refine wpAny_bind (wpAny_newTuple (Q := _) ?_)
  have sz : g5.objs.size = s.heap.objs.size := by rw [m5.1, m4.1, m3.1, m2.1, m1.1]
  have Z5 : IsZip g5 z TI TO .ellipsis := m5.extBut _ _ (Ne.symm dTOz) (m4.extBut _ _ (Ne.symm d2z) (m3.extBut _ _ (Ne.symm dTOz) (m2.extBut _ _ (Ne.symm d1z) z1)))
  have N1 : ItA t1 g5 i1 l1 (k1 + 1) := n2.at fun o e => m5.extBut _ _ (Ne.symm dTO1) (m4.extBut _ _ d12 (m3.extBut _ _ (Ne.symm dTO1) e))
  have N2 : ItA t2 g5 i2 l2 (k2 + 1) := n4.at fun o e => m5.extBut _ _ (Ne.symm dTO2) e
  have K5 : ∀ c o, c ∉ [z, TO, i1, i2] → s.heap.get? c = some o → g5.get? c = some o := fun c o hc e => by
    simp only [List.mem_cons, List.not_mem_nil, or_false, not_or] at hc
    obtain ⟨c1, c2, c3, c4⟩ := hc
    exact m5.extBut _ _ c2 (m4.extBut _ _ c4 (m3.extBut _ _ c2 (m2.extBut _ _ c3 (m1.extBut _ _ c1 e))))
  have zl : z < g5.objs.size := Heap.lt_size Z5
  show wpAny _ _ (Builtin.SmallTypes.ownedTupleHandOut (.ref z) (.ref g5.objs.size) >>= _) _ _ _
  refine wpAny_bind ?_
  unfold Builtin.SmallTypes.ownedTupleHandOut
  have Z6 : IsZip (g5.push { cls := .type "tuple", data := .seq #[x, y] }) z TI TO .ellipsis := Heap.get?_push_of_some _ Z5
  refine wpAny_bind (wpAny_setField_rec Z6 (by simp) fun g7 Z7 m7 => ?_)
  replace Z7 : IsZip g7 z TI TO (rawInt g5.objs.size) := Z7
  refine wpAny_setField_rec Z7 (by simp) fun g8 Z8 m8 => ?_
  replace Z8 : IsZip g8 z TI TO (rawInt g5.objs.size) := Z8
  have up : ∀ c o, c ≠ z → g5.get? c = some o → g8.get? c = some o := fun c o c1 e => m8.extBut _ _ c1 (m7.extBut _ _ c1 (Heap.get?_push_of_some _ e))
  have T8 : IsPair g8 g5.objs.size x y := m8.extBut _ _ (Nat.ne_of_gt zl) (m7.extBut _ _ (Nat.ne_of_gt zl) (Heap.get?_push_size _ rfl))
  rw [sz] at Z8 T8
  refine wpAny_pure ⟨_, rfl, ?_⟩
  show Q (.ref g5.objs.size) _
  rw [sz]
  exact k g8 Z8 (up _ _ dTOz O5) (N1.at fun o e => up _ o d1z e) (N2.at fun o e => up _ o d2z e) T8 fun c o hc e => up c o (fun q => hc (by simp [q])) (K5 c o hc e)
theorem zn_end {t1 t2 : Bool} {z TI TO i1 i2 l1 l2 : Addr} {k1 k2 : Nat} {xs ys : Array Value} {a b : Value} {Q : Fin → Shared → Prop} (hh : A.handled = none) (D : Apart z TI TO i1 i2 l1 l2)
    (hz : IsZip s.heap z TI TO .none) (hI : IsPair s.heap TI (.ref i1) (.ref i2)) (hO : IsPair s.heap TO a b)
    (h1 : ItA t1 s.heap i1 l1 k1) (h2 : ItA t2 s.heap i2 l2 k2) (q1 : SqA t1 s.heap l1 xs) (q2 : SqA t2 s.heap l2 ys) (he : ys[k2]? = none ∨ xs[k1]? = none)
    (k : ∀ h' e, (∀ c o, c ∉ [z, TO, i1, i2] → s.heap.get? c = some o → h'.get? c = some o) → (∃ o, h'.get? e = some o ∧ o.cls = .type "StopIteration") → E (.ref e) { s with heap := h' }) :
    wpAny (model prog w) A (Builtin.«zip.__next__» ⟨[.ref z], []⟩) Q E s := by
  obtain ⟨⟨dTIz, dTOz, d1z, d2z⟩, ⟨dTITO, dTI1, dTI2⟩, ⟨dTO1, dTO2, d12⟩, ⟨e1z, e1TO, e11, e12⟩, ⟨e2z, e2TO, e21, e22⟩⟩ := D.ne
  have far : ∀ {c : Addr}, c ∉ [z, TO, i1, i2] → c ≠ z ∧ c ≠ TO ∧ c ≠ i1 ∧ c ≠ i2 := fun hc => by simpa only [List.mem_cons, List.not_mem_nil, or_false, not_or] using hc
  show wpAny _ _ (field (.ref z) 2 >>= _) _ _ _
  refine wpAny_bind (wpAny_field hz rfl (x := Value.bool false) rfl ?_)
  show wpAny _ _ (field (.ref z) 3 >>= _) _ _ _
  refine wpAny_bind (wpAny_field hz rfl (x := Value.ref TI) rfl ?_)
  refine wpAny_bind (wpAny_seqItems hI rfl (Q := _) ?_)
  show wpAny _ _ (Builtin.SmallTypes.ownedTupleIsFree (.ref z) >>= _) _ _ _
  refine wpAny_bind ?_
  unfold Builtin.SmallTypes.ownedTupleIsFree
  refine wpAny_bind (wpAny_field hz rfl (x := Value.none) rfl (wpAny_pure (Q := _) ?_))
  simp only [if_true]
  refine wpAny_bind (wpAny_rule (Q := _) ?_)
  refine wpAny_bind (wpAny_field hz rfl (x := Value.ref TO) rfl ?_)
  refine wpAny_bind (wpAny_setField_rec hz (by simp) fun g1 z1 m1 => ?_)
  replace z1 : IsZip g1 z TI TO .ellipsis := z1
  refine wpAny_bind ?_
  simp only [List.forIn_cons, List.forIn_nil, List.zipIdx_cons, List.zipIdx_nil]
  refine wpAny_bind (wpAny_bind (wpAny_onRaise (Q := _) ?_))
  show wpAny _ _ (Builtin.SmallTypes.nextOf (.ref i1) >>= _) _ _ _
  cases hx : xs[k1]? with
  | none =>
    refine wpAny_bind (nx_end hh (h1.at fun o e => m1.extBut _ _ d1z e) (q1.at fun o e => m1.extBut _ _ e1z e) hx fun g2 e m2 ⟨u, hu, cu⟩ => ?_)
    have z2 : IsZip g2 z TI TO .ellipsis := m2 _ _ (Ne.symm d1z) z1
    have ez : e ≠ z := fun q => by subst q; rw [z2] at hu; cases hu; simp at cu
    exact wpAny_setField_rec z2 (by simp) fun g3 _ m3 => k g3 e (fun c o hc q => let ⟨c1, _, c3, _⟩ := far hc; m3.extBut _ _ c1 (m2 _ _ c3 (m1.extBut _ _ c1 q))) ⟨u, m3.extBut _ _ ez hu, cu⟩
  | some x =>
    have hy : ys[k2]? = none := he.elim id fun q => by rw [hx] at q; cases q
    refine wpAny_bind (nx_item (h1.at fun o e => m1.extBut _ _ d1z e) (q1.at fun o e => m1.extBut _ _ e1z e) hx fun g2 n2 m2 => wpAny_pure (Q := _) ?_)
    have O2 : IsPair g2 TO a b := m2.extBut _ _ dTO1 (m1.extBut _ _ dTOz hO)
    refine wpAny_bind (wpAny_seqItems O2 rfl (Q := _) ?_)
    refine wpAny_bind (wpAny_updateSeq_pair O2 fun g3 O3 m3 => ?_)
    refine wpAny_bind (wpAny_letGo (wpAny_pure (Q := _) ?_))
    refine wpAny_bind (wpAny_bind (wpAny_onRaise (Q := _) ?_))
    show wpAny _ _ (Builtin.SmallTypes.nextOf (.ref i2) >>= _) _ _ _
    refine wpAny_bind (nx_end hh (h2.at fun o e => m3.extBut _ _ (Ne.symm dTO2) (m2.extBut _ _ (Ne.symm d12) (m1.extBut _ _ d2z e))) (q2.at fun o e => m3.extBut _ _ e2TO (m2.extBut _ _ e21 (m1.extBut _ _ e2z e))) hy fun g4 e m4 ⟨u, hu, cu⟩ => ?_)
    have z4 : IsZip g4 z TI TO .ellipsis := m4 _ _ (Ne.symm d2z) (m3.extBut _ _ (Ne.symm dTOz) (m2.extBut _ _ (Ne.symm d1z) z1))
    have ez : e ≠ z := fun q => by subst q; rw [z4] at hu; cases hu; simp at cu
    exact wpAny_setField_rec z4 (by simp) fun g5 _ m5 => k g5 e (fun c o hc q => let ⟨c1, c2, c3, c4⟩ := far hc; m5.extBut _ _ c1 (m4 _ _ c4 (m3.extBut _ _ c2 (m2.extBut _ _ c3 (m1.extBut _ _ c1 q))))) ⟨u, m5.extBut _ _ ez hu, cu⟩
/-- the zip's own objects at turn i -/
structure ZAt (t1 t2 : Bool) (z TI TO i1 i2 l1 l2 : Addr) (i : Nat) (h : Heap) (f0 : Value) : Prop where
  zz : IsZip h z TI TO f0
  ti : IsPair h TI (.ref i1) (.ref i2)
  to : ∃ a b, IsPair h TO a b
  w1 : ItA t1 h i1 l1 i
  w2 : ItA t2 h i2 l2 i
theorem pn_item {t1 t2 : Bool} {z TI TO i1 i2 l1 l2 : Addr} {i : Nat} {xs ys : Array Value} {x y : Value} {Q : Option Value → Shared → Prop} (D : Apart z TI TO i1 i2 l1 l2) (Z : ZAt t1 t2 z TI TO i1 i2 l1 l2 i s.heap .none)
    (q1 : SqA t1 s.heap l1 xs) (q2 : SqA t2 s.heap l2 ys) (hx : xs[i]? = some x) (hy : ys[i]? = some y)
    (k : ∀ h', ZAt t1 t2 z TI TO i1 i2 l1 l2 (i + 1) h' (rawInt s.heap.objs.size) → IsPair h' s.heap.objs.size x y → (∀ c o, c ∉ [z, TO, i1, i2] → s.heap.get? c = some o → h'.get? c = some o) → Q (some (.ref s.heap.objs.size)) { s with heap := h' }) :
    wpAny (model prog w) A (pyNext (.ref z)) Q E s := by
  obtain ⟨zz, ti, ⟨a, b, to⟩, w1, w2⟩ := Z
  have ty : s.TypeIs (.ref z) "zip" := ⟨_, zz, rfl⟩
  obtain ⟨⟨dTIz, _, _, _⟩, ⟨dTITO, dTI1, dTI2⟩, _⟩ := D.ne
  unfold pyNext
  refine wpAny_bind (wpAny_attempt (wpAny_callSpecial?_slot (name := Str.ofString "__next__") ty F.slot_zip_next (wpAny_call_entry F.slot_zip_next ty F.entry_zip_next ?_ (F.args_zip_next_1 _))))
  exact zn_item D zz ti to w1 w2 q1 q2 hx hy fun h' b1 b2 b3 b4 b5 b6 => wpAny_pure (k h' ⟨b1, b6 _ _ (by simp [dTIz, dTITO, dTI1, dTI2]) ti, ⟨_, _, b2⟩, b3, b4⟩ b5 b6)
theorem pn_end {t1 t2 : Bool} {z TI TO i1 i2 l1 l2 : Addr} {i : Nat} {xs ys : Array Value} {Q : Option Value → Shared → Prop} (hh : A.handled = none) (D : Apart z TI TO i1 i2 l1 l2) (Z : ZAt t1 t2 z TI TO i1 i2 l1 l2 i s.heap .none)
    (q1 : SqA t1 s.heap l1 xs) (q2 : SqA t2 s.heap l2 ys) (he : ys[i]? = none ∨ xs[i]? = none)
    (k : ∀ h', (∀ c o, c ∉ [z, TO, i1, i2] → s.heap.get? c = some o → h'.get? c = some o) → Q none { s with heap := h' }) : wpAny (model prog w) A (pyNext (.ref z)) Q E s := by
  obtain ⟨zz, ti, ⟨a, b, to⟩, w1, w2⟩ := Z
  have ty : s.TypeIs (.ref z) "zip" := ⟨_, zz, rfl⟩
  unfold pyNext
  refine wpAny_bind (wpAny_attempt (wpAny_callSpecial?_slot (name := Str.ofString "__next__") ty F.slot_zip_next (wpAny_call_entry F.slot_zip_next ty F.entry_zip_next ?_ (F.args_zip_next_1 _))))
  refine zn_end hh D zz ti to w1 w2 q1 q2 he fun h' e b1 ⟨u, hu, cu⟩ => ?_
  exact wpAny_bind (wpAny_isInstance (T := "StopIteration") (b := true) ⟨u, hu, cu⟩ isSubtype_stop (wpAny_pure (k _ b1)))
/-- zip of the two, made -/
noncomputable abbrev zA (t1 : Bool) (h : Heap) (l1 : Addr) : Heap := h.push { cls := .type (if t1 then "tuple_iterator" else "list_iterator"), data := .fields #[.ref l1, .int 0 0] }
noncomputable abbrev zB (t1 t2 : Bool) (h : Heap) (l1 l2 : Addr) : Heap := zA t2 (zA t1 h l1) l2
noncomputable abbrev zC (t1 t2 : Bool) (h : Heap) (l1 l2 : Addr) : Heap := (zB t1 t2 h l1 l2).push { cls := .type "tuple", data := .seq #[.ref h.objs.size, .ref (zA t1 h l1).objs.size] }
noncomputable abbrev zD (t1 t2 : Bool) (h : Heap) (l1 l2 : Addr) : Heap := (zC t1 t2 h l1 l2).push { cls := .type "tuple", data := .seq #[.none, .none] }
noncomputable abbrev zE (t1 t2 : Bool) (h : Heap) (l1 l2 : Addr) : Heap := (zD t1 t2 h l1 l2).push { cls := .type "zip", data := .fields #[.none, .bool false, .bool false, .ref (zB t1 t2 h l1 l2).objs.size, .ref (zC t1 t2 h l1 l2).objs.size] }
theorem zmade00 (l1 l2 : Addr) (xs ys : Array Value) :
    Meets (Builtin.«zip.__new__» ⟨[.type "zip", .ref l1, .ref l2], []⟩) (fun _ R s => s.heap.IsList l1 xs ∧ s.heap.IsList l2 ys ∧
      R (.ok (.ret (.ref (zD false false s.heap l1 l2).objs.size))) { s with heap := zE false false s.heap l1 l2 }) :=
  .of_wp fun prog w A R s h => by
    obtain ⟨hp, g, d, tk, os⟩ := s
    obtain ⟨m1, m2, h⟩ := h
    have sub := sub_zip
    have c1 : Heap.IsList (Shared.heap ⟨hp, g, d, tk, os⟩) l1 xs := m1
    have c2 : Heap.IsList (Shared.heap ⟨hp.push { cls := .type "list_iterator", data := .fields #[.ref l1, .int 0 0] }, g, d, tk, os⟩) l2 ys := by
      obtain ⟨o, ho, r⟩ := m2
      exact ⟨o, Heap.get?_push_of_some _ ho, r⟩
    wp_walk using wpAny_pyIter_list c1, wpAny_pyIter_list c2
    exact ⟨_, rfl, h⟩
theorem zmade01 (l1 l2 : Addr) (xs ys : Array Value) :
    Meets (Builtin.«zip.__new__» ⟨[.type "zip", .ref l1, .ref l2], []⟩) (fun _ R s => s.heap.IsList l1 xs ∧ s.heap.IsTuple l2 ys ∧
      R (.ok (.ret (.ref (zD false true s.heap l1 l2).objs.size))) { s with heap := zE false true s.heap l1 l2 }) :=
  .of_wp fun prog w A R s h => by
    obtain ⟨hp, g, d, tk, os⟩ := s
    obtain ⟨m1, m2, h⟩ := h
    have sub := sub_zip
    have c1 : Heap.IsList (Shared.heap ⟨hp, g, d, tk, os⟩) l1 xs := m1
    have c2 : Heap.IsTuple (Shared.heap ⟨hp.push { cls := .type "list_iterator", data := .fields #[.ref l1, .int 0 0] }, g, d, tk, os⟩) l2 ys := by
      obtain ⟨o, ho, r⟩ := m2
      exact ⟨o, Heap.get?_push_of_some _ ho, r⟩
    wp_walk using wpAny_pyIter_list c1, wpAny_pyIter_tuple c2
    exact ⟨_, rfl, h⟩
theorem zmade10 (l1 l2 : Addr) (xs ys : Array Value) :
    Meets (Builtin.«zip.__new__» ⟨[.type "zip", .ref l1, .ref l2], []⟩) (fun _ R s => s.heap.IsTuple l1 xs ∧ s.heap.IsList l2 ys ∧
      R (.ok (.ret (.ref (zD true false s.heap l1 l2).objs.size))) { s with heap := zE true false s.heap l1 l2 }) :=
  .of_wp fun prog w A R s h => by
    obtain ⟨hp, g, d, tk, os⟩ := s
    obtain ⟨m1, m2, h⟩ := h
    have sub := sub_zip
    have c1 : Heap.IsTuple (Shared.heap ⟨hp, g, d, tk, os⟩) l1 xs := m1
    have c2 : Heap.IsList (Shared.heap ⟨hp.push { cls := .type "tuple_iterator", data := .fields #[.ref l1, .int 0 0] }, g, d, tk, os⟩) l2 ys := by
      obtain ⟨o, ho, r⟩ := m2
      exact ⟨o, Heap.get?_push_of_some _ ho, r⟩
    wp_walk using wpAny_pyIter_tuple c1, wpAny_pyIter_list c2
    exact ⟨_, rfl, h⟩
theorem zmade11 (l1 l2 : Addr) (xs ys : Array Value) :
    Meets (Builtin.«zip.__new__» ⟨[.type "zip", .ref l1, .ref l2], []⟩) (fun _ R s => s.heap.IsTuple l1 xs ∧ s.heap.IsTuple l2 ys ∧
      R (.ok (.ret (.ref (zD true true s.heap l1 l2).objs.size))) { s with heap := zE true true s.heap l1 l2 }) :=
  .of_wp fun prog w A R s h => by
    obtain ⟨hp, g, d, tk, os⟩ := s
    obtain ⟨m1, m2, h⟩ := h
    have sub := sub_zip
    have c1 : Heap.IsTuple (Shared.heap ⟨hp, g, d, tk, os⟩) l1 xs := m1
    have c2 : Heap.IsTuple (Shared.heap ⟨hp.push { cls := .type "tuple_iterator", data := .fields #[.ref l1, .int 0 0] }, g, d, tk, os⟩) l2 ys := by
      obtain ⟨o, ho, r⟩ := m2
      exact ⟨o, Heap.get?_push_of_some _ ho, r⟩
    wp_walk using wpAny_pyIter_tuple c1, wpAny_pyIter_tuple c2
    exact ⟨_, rfl, h⟩
theorem zmade (t1 t2 : Bool) (l1 l2 : Addr) (xs ys : Array Value) :
    Meets (Builtin.«zip.__new__» ⟨[.type "zip", .ref l1, .ref l2], []⟩) (fun _ R s => SqA t1 s.heap l1 xs ∧ SqA t2 s.heap l2 ys ∧
      R (.ok (.ret (.ref (zD t1 t2 s.heap l1 l2).objs.size))) { s with heap := zE t1 t2 s.heap l1 l2 }) :=
  match t1, t2 with
  | false, false => zmade00 l1 l2 xs ys
  | false, true => zmade01 l1 l2 xs ys
  | true, false => zmade10 l1 l2 xs ys
  | true, true => zmade11 l1 l2 xs ys
theorem call_zz {t1 t2 : Bool} {l1 l2 : Addr} {xs ys : Array Value} {Q : Value → Shared → Prop} (m1 : SqA t1 s.heap l1 xs) (m2 : SqA t2 s.heap l2 ys)
    (k : ∀ h', ZAt t1 t2 (s.heap.objs.size + 4) (s.heap.objs.size + 2) (s.heap.objs.size + 3) s.heap.objs.size (s.heap.objs.size + 1) l1 l2 0 h' .none →
      (∀ c o, s.heap.get? c = some o → h'.get? c = some o) → Q (.ref (s.heap.objs.size + 4)) { s with heap := h' }) :
    wpAny (model prog w) A (call (.type "zip") [.ref l1, .ref l2]) Q E s := by
  refine callType_new F.called_zip (by decide) (F.typeCall_zip_2 _ _) (F.newCall_zip_2 _ _) (fun obj => F.args_object_init_3 obj _ _) F.entry_zip_new (zmade t1 t2 l1 l2 xs ys) ⟨m1, m2, ?_⟩
  have y1 : (zA t1 s.heap l1).objs.size = s.heap.objs.size + 1 := Heap.size_push ..
  have y2 : (zB t1 t2 s.heap l1 l2).objs.size = s.heap.objs.size + 2 := by rw [Heap.size_push, y1]
  have y3 : (zC t1 t2 s.heap l1 l2).objs.size = s.heap.objs.size + 3 := by rw [Heap.size_push, y2]
  have y4 : (zD t1 t2 s.heap l1 l2).objs.size = s.heap.objs.size + 4 := by rw [Heap.size_push, y3]
  have up : ∀ {h : Heap} {o1 : Obj} {c : Addr} {o : Obj}, h.get? c = some o → (h.push o1).get? c = some o := fun e => Heap.get?_push_of_some _ e
  have o5 : (zE t1 t2 s.heap l1 l2).get? (zD t1 t2 s.heap l1 l2).objs.size = some _ := Heap.get?_push_size _ rfl
  have o4 : (zE t1 t2 s.heap l1 l2).get? (zC t1 t2 s.heap l1 l2).objs.size = some _ := up (Heap.get?_push_size _ rfl)
  have o3 : (zE t1 t2 s.heap l1 l2).get? (zB t1 t2 s.heap l1 l2).objs.size = some _ := up (up (Heap.get?_push_size _ rfl))
  have o2 : (zE t1 t2 s.heap l1 l2).get? (zA t1 s.heap l1).objs.size = some _ := up (up (up (Heap.get?_push_size _ rfl)))
  have o1 : (zE t1 t2 s.heap l1 l2).get? s.heap.objs.size = some _ := up (up (up (up (Heap.get?_push_size _ rfl))))
  show _ ∧ _
  rw [y2, y3, y4] at o5
  rw [y3] at o4
  rw [y1, y2] at o3
  rw [y1] at o2
  rw [y4]
  exact ⟨⟨_, o5, rfl⟩, k _ ⟨o5, o3, ⟨_, _, o4⟩, ⟨_, o1, rfl, rfl⟩, ⟨_, o2, rfl, rfl⟩⟩ fun c o e => up (up (up (up (up e))))⟩
end

section
variable {X : Cx} {pins : List (Addr × Obj)} {σ : St} {H : Hp} {s : Shared} {h' : Heap}
/-- several untracked records of ours have turned -/
theorem Inv.turnedM {t' : Nat} {ch : List Addr} (I : Inv X pins σ H s) (hf : ∀ b ∈ ch, FpOk X pins H b) (k : ∀ b o, b ∉ ch → s.heap.get? b = some o → h'.get? b = some o) : Inv X pins σ H { s with heap := h', toks := t' } := by
  have far : ∀ b u, H b = some u → b ∉ ch := fun b u e z => by rw [(hf b z).1] at e; cases e
  refine I.step (g' := s.gens) (d' := s.drawn) (ch := ch) (fun b hb => ?_) (fun b o _ _ hc e _ => k b o hc e) (fun b o _ _ hc e _ => ⟨o.slots, k b o hc e⟩) (fun _ _ _ _ n => n)
    (fun b o hc e => ⟨o, k b o hc e⟩) (fun _ _ e => e) (fun _ _ _ e => e) (fun b ps e => ⟨#[], by rw [e]; simp⟩) (fun m hm => ?_) (fun b u e => ?_) I.bare
  · obtain ⟨_, f1, _, f3, f4, f5⟩ := hf b hb
    exact ⟨f3, f1, f4, f5⟩
  · obtain ⟨o, es, ep, ho, r⟩ := hm
    exact ⟨o, es, ep, k _ o (fun z => (hf _ z).2.1 rfl) ho, r⟩
  · refine (I.hok b u e).stay (fun c v hc q => k c v ?_ q) (fun _ q => q) fun _ _ q => q
    rcases hc with z | z
    · rw [z]; exact far b u e
    · exact far c _ z
/-- a record of ours becomes a tracked object -/
theorem Inv.adopt {p : Addr} {o : HO} (I : Inv X pins σ H s) (f : FpOk X pins H p) (new : ObjOk X.prog X.w (upd H p o) s.heap p o) : Inv X pins σ (upd H p o) s := by
  obtain ⟨f0, f1, _, f3, f4, f5⟩ := f
  refine I.step (g' := s.gens) (d' := s.drawn) (t' := s.toks) (h' := s.heap) (ch := [p]) (fun b hb => ?_) (fun b o _ _ hc e _ => e) (fun b o _ _ hc e _ => ⟨o.slots, e⟩) (fun b _ hc _ n => ?_)
    (fun b o hc e => ⟨o, e⟩) (fun b xs e => ?_) (fun b xs _ e => ?_) (fun b ps e => ⟨#[], ?_⟩) (fun m hm => hm) (fun b u e => ?_) I.bare
  · have e : b = p := by simpa using hb
    subst e
    exact ⟨f3, f1, f4, f5⟩
  · rw [upd_ne fun z => hc (by simp [z])]; exact n
  · rw [upd_ne (ne_of_none e f0)]; exact e
  · rw [upd_ne (ne_of_none e f0)]; exact e
  · rw [upd_ne (ne_of_none e f0), e]; simp
  · by_cases hb : b = p
    · subst hb; rw [upd_same] at e; cases e; exact new
    · rw [upd_ne hb] at e
      exact (I.hok b u e).stay (fun c v _ q => q) (fun c q => by rw [upd_ne (ne_of_none q f0)]; exact q) fun c xs q => by rw [upd_ne (ne_of_none q f0)]; exact q
noncomputable def SqX (K : PySem.W.Frag) (t : Bool) (H : Hp) (a : Addr) (xs : List V) : Prop := match t with
  | true => SqT K H a xs
  | false => SqL K H a xs
theorem Inv.seqX {t : Bool} {a : Addr} {xs : List V} (I : Inv X pins σ H s) (q : SqX X.K t H a xs) : ∃ its : List Value, Vals xs its ∧ SqA t s.heap a its.toArray ∧ xs.length ≤ sizeLine := by
  cases t with
  | false => obtain ⟨its, r, p, z⟩ := I.list q; exact ⟨its, r, p.isList, z⟩
  | true => obtain ⟨its, r, p, z⟩ := I.tuple q; exact ⟨its, r, p, z⟩
theorem Inv.seqX_inj {t : Bool} {a : Addr} {xs ys : List V} (I : Inv X pins σ H s) (q : SqX X.K t H a xs) (q' : SqX X.K t H a ys) : xs = ys := by
  cases t with
  | false => exact I.list_inj q q'
  | true => exact I.tuple_inj q q'
theorem Same.seqX {K : PySem.W.Frag} {t : Bool} {H H' : Hp} {a : Addr} {xs : List V} (g : Same H H') (q : SqX K t H a xs) : SqX K t H' a xs := by
  cases t with
  | false => exact g.seq q
  | true => exact g.seqT q
/-- pairs of what stands at a and at b, each a new tuple -/
noncomputable def Itz (K : PySem.W.Frag) (t1 t2 : Bool) (a b : Addr) : It :=
  ⟨fun i H => ∃ xs ys x y, SqX K t1 H a xs ∧ SqX K t2 H b ys ∧ xs[i]? = some x ∧ ys[i]? = some y,
   fun i H v H' => ∃ p x y, v = .ref p ∧ H p = none ∧ H' = upd H p (.tup [x, y]) ∧ (∀ xs, SqX K t1 H a xs → xs[i]? = some x) ∧ ∀ ys, SqX K t2 H b ys → ys[i]? = some y,
   fun i H => ∃ xs ys, SqX K t1 H a xs ∧ SqX K t2 H b ys ∧ (ys.length ≤ i ∨ xs.length ≤ i)⟩
theorem turn_zip {P : Program} {w : World} {K : PySem.W.Frag} {es : List Expr} {x1 : Nat} {pos : Pos} {t1 t2 : Bool} {z TI TO i1 i2 a b : Addr} (D : Apart z TI TO i1 i2 a b) :
    Turn P w K (.Tuple es x1 pos) (Itz K t1 t2 a b) [z, TI, TO, i1, i2] z (fun i h => ZAt t1 t2 z TI TO i1 i2 a b i h .none) where
  mem := by simp
  obj := fun i h Z c hc => by
    obtain ⟨zz, ti, ⟨u, v, to⟩, ⟨o1, h1, _, d1⟩, ⟨o2, h2, _, d2⟩⟩ := Z
    simp only [List.mem_cons, List.not_mem_nil, or_false] at hc
    rcases hc with rfl | rfl | rfl | rfl | rfl
    · exact ⟨_, zz, fun v q => by cases q⟩
    · exact ⟨_, ti, fun v q => by cases q⟩
    · exact ⟨_, to, fun v q => by cases q⟩
    · exact ⟨_, h1, fun v q => by rw [d1] at q; cases q⟩
    · exact ⟨_, h2, fun v q => by rw [d2] at q; cases q⟩
  keep := fun i h h' Z k => by
    obtain ⟨zz, ti, ⟨u, v, to⟩, w1, w2⟩ := Z
    exact ⟨k _ (by simp) _ zz, k _ (by simp) _ ti, ⟨u, v, k _ (by simp) _ to⟩, w1.at fun o e => k _ (by simp) o e, w2.at fun o e => k _ (by simp) o e⟩
  item := by
    intro X hP hw hK hc i pins s σ H E I hf Z hg
    subst hP hw hK
    obtain ⟨xs, ys, x, y, hq1, hq2, hx, hy⟩ := hg
    obtain ⟨its1, r1, p1, _⟩ := I.seqX hq1
    obtain ⟨its2, r2, p2, _⟩ := I.seqX hq2
    obtain ⟨u1, hu1, ru1⟩ := r1.get hx
    obtain ⟨u2, hu2, ru2⟩ := r2.get hy
    refine pn_item D Z p1 p2 (x := u1) (y := u2) (by simpa using hu1) (by simpa using hu2) fun g Z1 T1 k1 => ⟨_, rfl, ?_⟩
    have zl : z ≠ s.heap.objs.size := Nat.ne_of_lt (Heap.lt_size Z.zz)
    obtain ⟨zz, ti, ⟨v1, v2, to⟩, w1, w2⟩ := Z1
    obtain ⟨⟨dTIz, dTOz, d1z, d2z⟩, _⟩ := D.ne
    refine wpAny_letOwnedTupleGo_zip zz fun g' zz' m' => ?_
    have T2 : IsPair g' s.heap.objs.size u1 u2 := m'.extBut _ _ (Ne.symm zl) T1
    have I1 : Inv X pins σ H { s with heap := g' } := I.turnedM (t' := s.toks) (ch := [z, TI, TO, i1, i2]) hf fun c o hc e =>
      m'.extBut _ _ (fun q => hc (by simp [q])) (k1 c o (fun q => hc (by
        simp only [List.mem_cons, List.not_mem_nil, or_false] at q ⊢
        rcases q with q | q | q | q <;> simp [q])) e)
    have I2 : Inv X pins σ (upd H s.heap.objs.size (.tup [x, y])) { s with heap := g' } := I1.adopt (I.fpOk (Nat.le_refl _) I.fresh)
      ⟨by simp [sizeLine], [u1, u2], .cons ru1 (.cons ru2 .nil), ⟨_, T2, rfl, _, rfl⟩⟩
    refine ⟨.ref s.heap.objs.size, _, I2, rfl, ⟨_, x, y, rfl, I.fresh, rfl, fun xs' q => by rw [I.seqX_inj q hq1]; exact hx, fun ys' q => by rw [I.seqX_inj q hq2]; exact hy⟩,
      ⟨zz', m'.extBut _ _ dTIz ti, ⟨v1, v2, m'.extBut _ _ dTOz to⟩, w1.at fun o e => m'.extBut _ _ d1z e, w2.at fun o e => m'.extBut _ _ d2z e⟩, fun c hc => ?_⟩
    rw [upd_ne]
    · exact (hf c hc).1
    · intro q
      obtain ⟨o, ho, _⟩ : ∃ o, s.heap.get? c = some o ∧ True := by
        obtain ⟨zz, ti, ⟨u, v, to⟩, ⟨o1, h1, _, d1⟩, ⟨o2, h2, _, d2⟩⟩ := Z
        simp only [List.mem_cons, List.not_mem_nil, or_false] at hc
        rcases hc with rfl | rfl | rfl | rfl | rfl
        · exact ⟨_, zz, trivial⟩
        · exact ⟨_, ti, trivial⟩
        · exact ⟨_, to, trivial⟩
        · exact ⟨_, h1, trivial⟩
        · exact ⟨_, h2, trivial⟩
      exact absurd (Heap.lt_size ho) (by rw [q]; exact Nat.lt_irrefl _)
  done := by
    intro X hP hw hK hc i pins s σ H E I hf Z hg
    subst hP hw hK
    obtain ⟨xs, ys, hq1, hq2, hend⟩ := hg
    obtain ⟨its1, r1, p1, _⟩ := I.seqX hq1
    obtain ⟨its2, r2, p2, _⟩ := I.seqX hq2
    have n1 := r1.length
    have n2 := r2.length
    refine pn_end (I.ok.hd hc) D Z p1 p2 (hend.imp (fun q => by simp; exact OmL.om61 n2 q) (fun q => by simp; exact OmL.om61 n1 q)) fun g k1 => ⟨rfl, I.turnedM (t' := s.toks) (ch := [z, TI, TO, i1, i2]) hf fun c o hc e => k1 c o (fun q => hc (by
        simp only [List.mem_cons, List.not_mem_nil, or_false] at q ⊢
        rcases q with q | q | q | q <;> simp [q])) e⟩
  self := fun _ _ _ _ _ Z h => wpAny_pyIter_zip Z.zz h
noncomputable def iZip (K : PySem.W.Frag) (ta : TA) : TI := fun σ H R => ta σ H fun vs H1 => ∃ t1 t2 a b xs ys, vs = [.ref a, .ref b] ∧ SqX K t1 H1 a xs ∧ SqX K t2 H1 b ys ∧ R (Itz K t1 t2 a b) H1
theorem pi_zip (K : PySem.W.Frag) {e1 e2 : Expr} {es : List Expr} {x1 : Nat} {pos' : Pos} {ta : TA} {p pos : Pos} (hg : Gl X "zip") (hm : X.mg "zip" = none) (ha : PA X [e1, e2] ta) (hK : X.K = K := by rfl)
    (hs : starEach [e1, e2] X.env = [(false, eval e1 X.env), (false, eval e2 X.env)] := by rfl) (hs2 : starEach [e2] X.env = [(false, eval e2 X.env)] := by rfl) :
    PI X (.Tuple es x1 pos') (.Call (.Name "zip" p) [e1, e2] [] pos) (iZip K ta) := by
  subst hK
  intro pins s σ H R I h
  refine Call_ (ld_blt I hg hm boot_zip (PyProof.Rows.callWith_type1 (thn (ha pos pins s σ H _ I h) fun us s1 ⟨vs, H1, I1, r1, q1⟩ => ?_) (by rw [hs, hs2]) (by rw [hs2]; rfl)))
  obtain ⟨t1, t2, a, b, xs, ys, e, hq1, hq2, q⟩ := q1
  subst e
  cases r1 with
  | cons r rr =>
    cases rr with
    | cons r' rr =>
      cases rr
      cases r
      cases r'
      obtain ⟨its1, v1, p1, _⟩ := I1.seqX hq1
      obtain ⟨its2, v2, p2, _⟩ := I1.seqX hq2
      refine call_zz p1 p2 fun h' Z k => ?_
      have I2 : Inv X pins σ H1 { s1 with heap := h' } := I1.kept (t' := s1.toks) k
      have lt1 : a < s1.heap.objs.size := by obtain ⟨o, ho, _⟩ := p1; exact Heap.lt_size ho
      have lt2 : b < s1.heap.objs.size := by obtain ⟨o, ho, _⟩ := p2; exact Heap.lt_size ho
      have D : Apart (s1.heap.objs.size + 4) (s1.heap.objs.size + 2) (s1.heap.objs.size + 3) s1.heap.objs.size (s1.heap.objs.size + 1) a b := by
        have bad : ∀ {c : Addr} (n : Nat), c < s1.heap.objs.size → c ≠ s1.heap.objs.size + n := fun n h q => absurd (Nat.lt_of_lt_of_le h (Nat.le_add_right _ n)) (by rw [q]; exact Nat.lt_irrefl _)
        exact ⟨by simp, by simp [bad _ lt1, show a ≠ s1.heap.objs.size from bad 0 lt1], by simp [bad _ lt2, show b ≠ s1.heap.objs.size from bad 0 lt2]⟩
      refine wpAny_pyIter_zip Z.zz ⟨_, _, _, _, H1, rfl, I2, turn_zip D, Z, fun c hc => ?_, q⟩
      have hc' : s1.heap.objs.size ≤ c := by
        simp only [List.mem_cons, List.not_mem_nil, or_false] at hc
        rcases hc with rfl | rfl | rfl | rfl | rfl
        · exact Nat.le_add_right _ _
        · exact Nat.le_add_right _ _
        · exact Nat.le_add_right _ _
        · exact Nat.le_refl _
        · exact Nat.le_add_right _ _
      exact I1.fpOk hc' (I1.hok.fresh hc')
/-- a comprehension over a zip of two, its two names new, its elements change nothing -/
theorem comp_zip {K : PySem.W.Frag} {t1 t2 : Bool} {a b : Addr} {xs ys : List V} {ix : List (Option Nat)} {te : TE} {σ : St} {H1 : Hp} {Q : VK} (q1 : SqX K t1 H1 a xs) (q2 : SqX K t2 H1 b ys) (hz : xs.length ≤ sizeLine) {rest : St} (hst : cst ix σ = none :: none :: rest) (F : V → V → V)
    (he : ∀ (H' : Hp) (i : Nat) (x y : V), Same H1 H' → xs[i]? = some x → ys[i]? = some y → ∀ k : VK, k (F x y) H' → te (some x :: some y :: rest) H' k)
    (hQ : ∀ D H', H1 D = none → Same H1 H' → H' D = some (.lst (List.zipWith F xs ys)) → Q (.ref D) H') :
    CompK ix (gTup K 2 (gCons (gName 0) (gCons (gName 1) gNil))) tYes te σ Q (Itz K t1 t2 a b) H1 := by
  constructor
  intro D hD
  refine ⟨fun i m σ' H' => m = xs.length - i ∧ i ≤ min xs.length ys.length ∧ (∃ o o', σ' = o :: o' :: rest) ∧ Same H1 H' ∧ H' D = some (.lst ((List.zipWith F xs ys).take i)), ⟨xs.length, by simp, Nat.zero_le _, ⟨none, none, hst⟩, Same.new hD _, by rw [upd_same]; simp⟩, ?_⟩
  rintro i m σ' H' ⟨rfl, hi, ⟨o, o', rfl⟩, g, hl⟩
  by_cases hlt : i < xs.length ∧ i < ys.length
  · have hx : xs[i]? = some xs[i] := List.getElem?_eq_getElem hlt.1
    have hy : ys[i]? = some ys[i] := List.getElem?_eq_getElem hlt.2
    refine .inr ⟨⟨xs, ys, _, _, g.seqX q1, g.seqX q2, hx, hy⟩, ?_⟩
    rintro v H2 ⟨p, x, y, rfl, hp, rfl, y1, y2⟩
    have ex := y1 xs (g.seqX q1)
    have ey := y2 ys (g.seqX q2)
    have g2 : Same H' (upd H' p (.tup [x, y])) := Same.new hp _
    have pD : D ≠ p := fun q => by rw [q, hp] at hl; cases hl
    refine ⟨p, [x, y], rfl, .inl (.inl upd_same), rfl, x, [y], rfl, y, [], rfl, rfl, ?_⟩
    change te (some x :: some y :: rest) (upd H' p (.tup [x, y])) _
    refine he _ i x y (g.trans g2) ex ey _ ⟨_, g2 _ _ hl, ?_, xs.length - (i + 1), by exact OmL.om62 hlt, rfl, by exact OmL.om63 hi hlt, ⟨_, _, rfl⟩, ?_, ?_⟩
    · rw [List.length_take]; exact OmL.om64 hz hlt
    · exact Same.upd (g.trans g2) hD _
    · rw [upd_same, List.take_add_one]
      have e : (List.zipWith F xs ys)[i]? = some (F x y) := by rw [List.getElem?_zipWith, ex, ey]
      rw [e]; rfl
  · refine .inl ⟨⟨xs, ys, g.seqX q1, g.seqX q2, by exact OmL.om65 hlt⟩, hQ D H' hD g ?_⟩
    rw [hl, List.take_of_length_le]
    rw [List.length_zipWith]
    exact OmL.om66 hlt
end
end L2
namespace L2
open PySem PySem.Spec PyProof.Rows
/-! ### enumerate of a list (false) or a tuple (true); behind ExtZip -/
theorem boot_enum : bootBuiltins "enumerate" = some (.type "enumerate") := by decide +kernel
section
variable {prog : Program} {w : World} {A : Around} {E : Value → Shared → Prop} {s : Shared}
theorem en_item {t : Bool} {e it l : Addr} {i : Nat} {items : Array Value} {x old : Value} {Q : Option Value → Shared → Prop} (he : IsEnum s.heap e it i old) (h1 : ItA t s.heap it l i) (h2 : SqA t s.heap l items) (hx : items[i]? = some x) (hne : e ≠ it)
    (k : ∀ h', IsEnumOut h' e it ((i : Int) + 1) x s.heap.objs.size → ItA t h' it l (i + 1) → h'.get? s.heap.objs.size = some { cls := .type "tuple", data := .seq #[.int i s.toks, x] } →
      (∀ b o, b ∉ [e, it] → s.heap.get? b = some o → h'.get? b = some o) → Q (some (.ref s.heap.objs.size)) { s with heap := h', toks := s.toks + 1 }) : wpAny (model prog w) A (pyNext (.ref e)) Q E s := by
  have ty : s.TypeIs (.ref e) "enumerate" := ⟨_, he, rfl⟩
  unfold pyNext
  refine wpAny_bind (wpAny_attempt (wpAny_callSpecial?_slot (name := Str.ofString "__next__") ty F.slot_enumerate_next (wpAny_call_entry F.slot_enumerate_next ty F.entry_enumerate_next ?_ (F.args_enumerate_next_1 _))))
  obtain ⟨hp, g, d, tk, os⟩ := s
  have el : e < hp.objs.size := Heap.lt_size he
  show wpAny _ _ (field (.ref e) 2 >>= _) _ _ _
  refine wpAny_bind (wpAny_field he rfl (x := Value.ref it) rfl ?_)
  refine wpAny_bind (nx_item h1 h2 hx fun g1 n1 m1 => ?_)
  replace m1 : Heap.SameBut it hp g1 := m1
  have e1 : IsEnum g1 e it i old := m1.extBut _ _ hne he
  show wpAny _ _ (field (.ref e) 3 >>= _) _ _ ⟨g1, g, d, tk, os⟩
  refine wpAny_bind (wpAny_field e1 rfl (x := rawInt i) rfl ?_)
  show wpAny _ _ (field (.ref e) 4 >>= _) _ _ ⟨g1, g, d, tk, os⟩
  refine wpAny_bind (wpAny_field e1 rfl (x := Value.none) rfl ?_)
  show wpAny _ _ (mkInt i >>= _) _ _ ⟨g1, g, d, tk, os⟩
  refine wpAny_bind (wpAny_mkInt (Q := _) ?_)
  show wpAny _ _ (setField (.ref e) 3 (rawInt ((i : Int) + 1)) >>= _) _ _ ⟨g1, g, d, tk + 1, os⟩
  refine wpAny_bind (wpAny_setField_rec e1 (by simp) fun g2 e2 m2 => ?_)
  replace m2 : Heap.SameBut e g1 g2 := m2
  replace e2 : IsEnum g2 e it ((i : Int) + 1) old := e2
  show wpAny _ _ (setField (.ref e) 4 .none >>= _) _ _ ⟨g2, g, d, tk + 1, os⟩
  refine wpAny_bind (wpAny_setField_rec e2 (by simp) fun g3 e3 m3 => ?_)
  replace m3 : Heap.SameBut e g2 g3 := m3
  replace e3 : IsEnum g3 e it ((i : Int) + 1) old := e3
  show wpAny _ _ (newTuple [.int i tk, x] >>= _) _ _ ⟨g3, g, d, tk + 1, os⟩
  refine wpAny_bind (wpAny_newTuple (Q := _) ?_)
  have sz : g3.objs.size = hp.objs.size := by rw [m3.1, m2.1, m1.1]
  have e4 : IsEnum (g3.push { cls := .type "tuple", data := .seq #[.int i tk, x] }) e it ((i : Int) + 1) old := Heap.get?_push_of_some _ e3
  have t4 : (g3.push { cls := .type "tuple", data := .seq #[.int i tk, x] }).get? hp.objs.size = some { cls := .type "tuple", data := .seq #[.int i tk, x] } := by rw [← sz]; exact Heap.get?_push_size _ rfl
  have up4 : ∀ b o, b ≠ e → b ≠ it → hp.get? b = some o → (g3.push { cls := .type "tuple", data := .seq #[.int i tk, x] }).get? b = some o := fun b o c1 c2 q => Heap.get?_push_of_some _ (m3.extBut _ _ c1 (m2.extBut _ _ c1 (m1.extBut _ _ c2 q)))
  have n4 : ItA t (g3.push { cls := .type "tuple", data := .seq #[.int i tk, x] }) it l (i + 1) := n1.at fun o q => Heap.get?_push_of_some _ (m3.extBut _ _ (Ne.symm hne) (m2.extBut _ _ (Ne.symm hne) q))
  rw [sz]
  generalize g3.push { cls := .type "tuple", data := .seq #[.int i tk, x] } = g4 at e4 t4 up4 n4
  show wpAny _ _ (Builtin.SmallTypes.ownedTupleIsFree (.ref e) >>= _) _ _ ⟨g4, g, d, tk + 1, os⟩
  refine wpAny_bind ?_
  unfold Builtin.SmallTypes.ownedTupleIsFree
  refine wpAny_bind (wpAny_field e4 rfl (x := Value.none) rfl (wpAny_pure (Q := _) ?_))
  simp only [if_true]
  refine wpAny_bind (wpAny_rule (Q := _) ?_)
  refine wpAny_bind (wpAny_field e4 rfl (x := old) rfl ?_)
  refine wpAny_bind (wpAny_setField_rec e4 (by simp) fun g5 e5 m5 => ?_)
  replace m5 : Heap.SameBut e g4 g5 := m5
  replace e5 : IsEnum g5 e it ((i : Int) + 1) x := e5
  show wpAny _ _ (Builtin.SmallTypes.ownedTupleHandOut (.ref e) (.ref hp.objs.size) >>= _) _ _ ⟨g5, g, d, tk + 1, os⟩
  refine wpAny_bind ?_
  unfold Builtin.SmallTypes.ownedTupleHandOut
  refine wpAny_bind (wpAny_setField_rec e5 (by simp) fun g6 e6 m6 => ?_)
  replace m6 : Heap.SameBut e g5 g6 := m6
  replace e6 : IsEnumOut g6 e it ((i : Int) + 1) x hp.objs.size := e6
  refine wpAny_setField_rec e6 (by simp) fun g7 e7 m7 => ?_
  replace m7 : Heap.SameBut e g6 g7 := m7
  replace e7 : IsEnumOut g7 e it ((i : Int) + 1) x hp.objs.size := e7
  have up : ∀ b o, b ≠ e → g4.get? b = some o → g7.get? b = some o := fun b o c1 q => m7.extBut _ _ c1 (m6.extBut _ _ c1 (m5.extBut _ _ c1 q))
  refine wpAny_bind (wpAny_letGo (wpAny_pure ⟨_, rfl, wpAny_pure (k g7 e7 (n4.at fun o q => up _ o (Ne.symm hne) q) (up _ _ (Nat.ne_of_gt el) t4) fun b o hb q => ?_)⟩))
  simp only [List.mem_cons, List.not_mem_nil, or_false, not_or] at hb
  exact up b o hb.1 (up4 b o hb.1 hb.2 q)
theorem en_end {t : Bool} {e it l : Addr} {i : Nat} {items : Array Value} {old : Value} {Q : Option Value → Shared → Prop} (hh : A.handled = none) (he : IsEnum s.heap e it i old) (h1 : ItA t s.heap it l i) (h2 : SqA t s.heap l items) (hx : items[i]? = none)
    (k : ∀ h', (∀ b o, b ∉ [e, it] → s.heap.get? b = some o → h'.get? b = some o) → Q none { s with heap := h' }) : wpAny (model prog w) A (pyNext (.ref e)) Q E s := by
  have ty : s.TypeIs (.ref e) "enumerate" := ⟨_, he, rfl⟩
  unfold pyNext
  refine wpAny_bind (wpAny_attempt (wpAny_callSpecial?_slot (name := Str.ofString "__next__") ty F.slot_enumerate_next (wpAny_call_entry F.slot_enumerate_next ty F.entry_enumerate_next ?_ (F.args_enumerate_next_1 _))))
  show wpAny _ _ (field (.ref e) 2 >>= _) _ _ _
  refine wpAny_bind (wpAny_field he rfl (x := Value.ref it) rfl ?_)
  refine wpAny_bind (nx_end hh h1 h2 hx fun h' x m ⟨u, hu, cu⟩ => ?_)
  refine wpAny_bind (wpAny_isInstance (T := "StopIteration") (b := true) ⟨u, hu, cu⟩ isSubtype_stop (wpAny_pure (k _ fun b o hb q => m b o (fun z => hb (by simp [z])) q)))
/-- made -/
noncomputable abbrev eA (t : Bool) (h : Heap) (l : Addr) : Heap := h.push { cls := .type (if t then "tuple_iterator" else "list_iterator"), data := .fields #[.ref l, .int 0 0] }
noncomputable abbrev eB (t : Bool) (h : Heap) (l : Addr) : Heap := (eA t h l).push { cls := .type "enumerate", data := .fields #[.none, .bool false, .ref h.objs.size, rawInt 0, .none, .none] }
set_option maxRecDepth 100000 in
theorem emade1 (l : Addr) (items : Array Value) (n : Nat) (dct : Option Addr) (sl : Array (Option Value)) :
    Meets (Builtin.«enumerate.__new__» ⟨[.type "enumerate", .ref l], []⟩) (fun _ R s => s.heap.get? l = some { cls := .type "tuple", dict := dct, data := .seq items n, slots := sl } ∧
      R (.ok (.ret (.ref (eA true s.heap l).objs.size))) { s with heap := eB true s.heap l }) :=
  .of_wp fun prog w A R s h => by
    obtain ⟨hp, g, d, tk, os⟩ := s
    obtain ⟨hl, h⟩ := h
    have hsub := sub_enumerate
    have hL : Heap.IsTuple (Shared.heap ⟨hp, g, d, tk, os⟩) l items := ⟨_, hl, rfl, n, rfl⟩
    wp_walk using AutoSeq1.wpAny_loadPart' hl
    refine wpAny_stack_any fun st => wpAny_pure ?_
    split
    · rename_i c _ _ _ _ _
      cases (c == Value.type "enumerate")
      · wp_walk using AutoSeq1.wpAny_loadPart' hl, wpAny_pyIter_tuple hL
        exact ⟨_, rfl, h⟩
      · wp_walk using AutoSeq1.wpAny_loadPart' hl, wpAny_pyIter_tuple hL
        exact ⟨_, rfl, h⟩
    · wp_walk using AutoSeq1.wpAny_loadPart' hl, wpAny_pyIter_tuple hL
      exact ⟨_, rfl, h⟩
theorem emade (t : Bool) (l : Addr) (items : Array Value) (n : Nat) (dct : Option Addr) (sl : Array (Option Value)) :
    Meets (Builtin.«enumerate.__new__» ⟨[.type "enumerate", .ref l], []⟩) (fun _ R s => s.heap.get? l = some { cls := .type (if t then "tuple" else "list"), dict := dct, data := .seq items n, slots := sl } ∧
      R (.ok (.ret (.ref (eA t s.heap l).objs.size))) { s with heap := eB t s.heap l }) :=
  match t with
  | false => meets_enumerate_newL l items n dct sl
  | true => emade1 l items n dct sl
theorem call_en {t : Bool} {l : Addr} {items : Array Value} {Q : Value → Shared → Prop} (m : SqA t s.heap l items)
    (k : ∀ h', IsEnum h' (s.heap.objs.size + 1) s.heap.objs.size 0 .none → ItA t h' s.heap.objs.size l 0 → (∀ c o, s.heap.get? c = some o → h'.get? c = some o) → Q (.ref (s.heap.objs.size + 1)) { s with heap := h' }) :
    wpAny (model prog w) A (call (.type "enumerate") [.ref l]) Q E s := by
  obtain ⟨⟨c, dct, dt, sl⟩, hl, hc, n, hd⟩ := m
  replace hc : c = .type (if t then "tuple" else "list") := hc
  replace hd : dt = .seq items n := hd
  subst hc hd
  refine callType_new F.called_enumerate (by decide) (F.typeCall_enumerate_1 _) (F.newCall_enumerate_1 _) (fun obj => F.args_object_init_2 obj _) F.entry_enumerate_new (emade t l items n dct sl) ⟨hl, ?_⟩
  have y1 : (eA t s.heap l).objs.size = s.heap.objs.size + 1 := Heap.size_push ..
  have o2 : (eB t s.heap l).get? (eA t s.heap l).objs.size = some _ := Heap.get?_push_size _ rfl
  have o1 : (eB t s.heap l).get? s.heap.objs.size = some _ := Heap.get?_push_of_some _ (Heap.get?_push_size _ rfl)
  show _ ∧ _
  rw [y1] at o2 ⊢
  exact ⟨⟨_, o2, rfl⟩, k _ o2 ⟨_, o1, rfl, rfl⟩ fun c o q => Heap.get?_push_of_some _ (Heap.get?_push_of_some _ q)⟩
end
section
variable {X : Cx} {pins : List (Addr × Obj)} {σ : St} {H : Hp} {s : Shared} {h' : Heap}
/-- the enumerate's own objects at turn i -/
structure EAt (t : Bool) (e it l : Addr) (i : Nat) (h : Heap) : Prop where
  ee : ∃ old, IsEnum h e it (i : Int) old
  w1 : ItA t h it l i
/-- places and what stands there at a, each pair a new tuple -/
noncomputable def Ite (K : PySem.W.Frag) (t : Bool) (a : Addr) : It :=
  ⟨fun i H => ∃ xs x, SqX K t H a xs ∧ xs[i]? = some x,
   fun i H v H' => ∃ p x, v = .ref p ∧ H p = none ∧ H' = upd H p (.tup [.int (i : Int), x]) ∧ ∀ xs, SqX K t H a xs → xs[i]? = some x,
   fun i H => ∃ xs, SqX K t H a xs ∧ xs.length ≤ i⟩
theorem turn_enum {P : Program} {w : World} {K : PySem.W.Frag} {es : List Expr} {x1 : Nat} {pos : Pos} {t : Bool} {e it a : Addr} (hne : e ≠ it) :
    Turn P w K (.Tuple es x1 pos) (Ite K t a) [e, it] e (fun i h => EAt t e it a i h) where
  mem := by simp
  obj := fun i h Z c hc => by
    obtain ⟨⟨old, ee⟩, ⟨o1, h1, _, d1⟩⟩ := Z
    simp only [List.mem_cons, List.not_mem_nil, or_false] at hc
    rcases hc with rfl | rfl
    · exact ⟨_, ee, fun v q => by cases q⟩
    · exact ⟨_, h1, fun v q => by rw [d1] at q; cases q⟩
  keep := fun i h h' Z k => by
    obtain ⟨⟨old, ee⟩, w1⟩ := Z
    exact ⟨⟨old, k _ (by simp) _ ee⟩, w1.at fun o q => k _ (by simp) o q⟩
  item := by
    intro X hP hw hK hc i pins s σ H E I hf Z hg
    subst hP hw hK
    obtain ⟨xs, x, hq, hx⟩ := hg
    obtain ⟨its, r, p, _⟩ := I.seqX hq
    obtain ⟨u, hu, ru⟩ := r.get hx
    obtain ⟨⟨old, ee⟩, w1⟩ := Z
    refine en_item ee w1 p (x := u) (by simpa using hu) hne fun g e1 n1 t1 k1 => ⟨_, rfl, ?_⟩
    have el : e ≠ s.heap.objs.size := Nat.ne_of_lt (Heap.lt_size ee)
    refine wpAny_letOwnedTupleGo_enum e1 fun g' e2 m' => ?_
    have t2 : g'.get? s.heap.objs.size = some { cls := .type "tuple", data := .seq #[.int i s.toks, u] } := m'.extBut _ _ (Ne.symm el) t1
    have I1 : Inv X pins σ H { s with heap := g', toks := s.toks + 1 } := I.turnedM (t' := s.toks + 1) (ch := [e, it]) hf fun c o hc q => m'.extBut _ _ (fun z => hc (by simp [z])) (k1 c o hc q)
    have I2 : Inv X pins σ (upd H s.heap.objs.size (.tup [.int (i : Int), x])) { s with heap := g', toks := s.toks + 1 } := I1.adopt (I.fpOk (Nat.le_refl _) I.fresh)
      ⟨by simp [sizeLine], [.int i s.toks, u], .cons ⟨_, rfl⟩ (.cons ru .nil), ⟨_, t2, rfl, _, rfl⟩⟩
    refine ⟨.ref s.heap.objs.size, _, I2, rfl, ⟨_, x, rfl, I.fresh, rfl, fun xs' q => by rw [I.seqX_inj q hq]; exact hx⟩, ⟨⟨_, e2⟩, n1.at fun o q => m'.extBut _ _ (Ne.symm hne) q⟩, fun c hc => ?_⟩
    rw [upd_ne]
    · exact (hf c hc).1
    · intro q
      obtain ⟨o, ho⟩ : ∃ o, s.heap.get? c = some o := by
        obtain ⟨o1, h1, _, d1⟩ := w1
        simp only [List.mem_cons, List.not_mem_nil, or_false] at hc
        rcases hc with rfl | rfl
        · exact ⟨_, ee⟩
        · exact ⟨_, h1⟩
      exact absurd (Heap.lt_size ho) (by rw [q]; exact Nat.lt_irrefl _)
  done := by
    intro X hP hw hK hc i pins s σ H E I hf Z hg
    subst hP hw hK
    obtain ⟨xs, hq, hend⟩ := hg
    obtain ⟨its, r, p, _⟩ := I.seqX hq
    have n1 := r.length
    obtain ⟨⟨old, ee⟩, w1⟩ := Z
    exact en_end (I.ok.hd hc) ee w1 p (by simp; exact OmL.om1 hend n1) fun g k1 => ⟨rfl, I.turnedM (t' := s.toks) (ch := [e, it]) hf fun c o hc q => k1 c o hc q⟩
  self := fun _ _ _ _ _ Z h => by
    obtain ⟨⟨old, ee⟩, _⟩ := Z
    exact wpAny_pyIter_enum ee h
noncomputable def iEnum (K : PySem.W.Frag) (ta : TA) : TI := fun σ H R => ta σ H fun vs H1 => ∃ t a xs, vs = [.ref a] ∧ SqX K t H1 a xs ∧ R (Ite K t a) H1
theorem pi_enum (K : PySem.W.Frag) {e1 : Expr} {es : List Expr} {x1 : Nat} {pos' : Pos} {ta : TA} {p pos : Pos} (hg : Gl X "enumerate") (hm : X.mg "enumerate" = none) (ha : PA X [e1] ta) (hK : X.K = K := by rfl)
    (hs : starEach [e1] X.env = [(false, eval e1 X.env)] := by rfl) : PI X (.Tuple es x1 pos') (.Call (.Name "enumerate" p) [e1] [] pos) (iEnum K ta) := by
  subst hK
  intro pins s σ H R I h
  refine Call_ (ld_blt I hg hm boot_enum (PyProof.Rows.callWith_type1 (thn (ha pos pins s σ H _ I h) fun us s1 ⟨vs, H1, I1, r1, q1⟩ => ?_) hs rfl))
  obtain ⟨t, a, xs, e, hq, q⟩ := q1
  subst e
  cases r1 with
  | cons r rr =>
    cases rr
    cases r
    obtain ⟨its, v1, p1, _⟩ := I1.seqX hq
    refine call_en p1 fun h' ee w1 k => ?_
    have I2 : Inv X pins σ H1 { s1 with heap := h' } := I1.kept (t' := s1.toks) k
    refine wpAny_pyIter_enum ee ⟨_, _, _, _, H1, rfl, I2, turn_enum (Nat.succ_ne_self _), ⟨⟨_, ee⟩, w1⟩, fun c hc => ?_, q⟩
    have hc' : s1.heap.objs.size ≤ c := by
      simp only [List.mem_cons, List.not_mem_nil, or_false] at hc
      rcases hc with rfl | rfl
      · exact Nat.le_add_right _ _
      · exact Nat.le_refl _
    exact I1.fpOk hc' (I1.hok.fresh hc')
/-- a comprehension over an enumerate, its two names new, its elements change nothing that stood -/
theorem comp_enum {K : PySem.W.Frag} {t : Bool} {a : Addr} {xs : List V} {ix : List (Option Nat)} {te : TE} {σ : St} {H1 : Hp} {Q : VK} (q1 : SqX K t H1 a xs) (hz : xs.length ≤ sizeLine) {rest : St} (hst : cst ix σ = none :: none :: rest) (F : Nat → V → V)
    (he : ∀ (H' : Hp) (i : Nat) (x : V), Same H1 H' → xs[i]? = some x → ∀ k : VK, (∀ H2, Same H' H2 → k (F i x) H2) → te (some (.int (i : Int)) :: some x :: rest) H' k)
    (hQ : ∀ D H', H1 D = none → Same H1 H' → H' D = some (.lst (xs.mapIdx F)) → Q (.ref D) H') :
    CompK ix (gTup K 2 (gCons (gName 0) (gCons (gName 1) gNil))) tYes te σ Q (Ite K t a) H1 := by
  constructor
  intro D hD
  refine ⟨fun i m σ' H' => m = xs.length - i ∧ i ≤ xs.length ∧ (∃ o o', σ' = o :: o' :: rest) ∧ Same H1 H' ∧ H' D = some (.lst ((xs.mapIdx F).take i)), ⟨xs.length, by simp, Nat.zero_le _, ⟨none, none, hst⟩, Same.new hD _, by rw [upd_same]; simp⟩, ?_⟩
  rintro i m σ' H' ⟨rfl, hi, ⟨o, o', rfl⟩, g, hl⟩
  by_cases hlt : i < xs.length
  · have hx : xs[i]? = some xs[i] := List.getElem?_eq_getElem hlt
    refine .inr ⟨⟨xs, _, g.seqX q1, hx⟩, ?_⟩
    rintro v H2 ⟨p, x, rfl, hp, rfl, y1⟩
    have ex := y1 xs (g.seqX q1)
    have g2 : Same H' (upd H' p (.tup [.int (i : Int), x])) := Same.new hp _
    refine ⟨p, [.int (i : Int), x], rfl, .inl (.inl upd_same), rfl, _, [x], rfl, x, [], rfl, rfl, ?_⟩
    change te (some (.int (i : Int)) :: some x :: rest) (upd H' p (.tup [.int (i : Int), x])) _
    refine he _ i x (g.trans g2) ex _ fun H3 g3 => ⟨_, g3 _ _ (g2 _ _ hl), ?_, xs.length - (i + 1), by exact OmL.om5 hlt, rfl, by exact OmL.om67 hlt, ⟨_, _, rfl⟩, ?_, ?_⟩
    · rw [List.length_take, List.length_mapIdx]; exact OmL.om68 hz hlt
    · exact Same.upd ((g.trans g2).trans g3) hD _
    · rw [upd_same, List.take_add_one]
      have e : (xs.mapIdx F)[i]? = some (F i x) := by rw [List.getElem?_mapIdx, ex]; rfl
      rw [e]; rfl
  · refine .inl ⟨⟨xs, g.seqX q1, by exact OmL.om69 hi hlt⟩, hQ D H' hD g ?_⟩
    rw [hl, List.take_of_length_le]
    rw [List.length_mapIdx]
    exact OmL.om69 hi hlt
/-- a for over an enumerate; what stood at a stays while the for runs -/
theorem for_enum {K : PySem.W.Frag} {t : Bool} {a : Addr} {xs : List V} {g : TG} {tb : TS} {D : Ends} {σ : St} {H : Hp} (Pv : Nat → St → Hp → Prop) (h0 : Pv 0 σ H) (hsq : ∀ i σ' H', Pv i σ' H' → SqX K t H' a xs)
    (hs : ∀ (i : Nat) (x : V) (σ' : St) (H' : Hp) (p : Addr), xs[i]? = some x → Pv i σ' H' → H' p = none → g (.ref p) σ' (upd H' p (.tup [.int (i : Int), x])) fun σ2 H2 => tb { D with nx := Pv (i + 1), ct := Pv (i + 1), bk := D.nx } σ2 H2)
    (hd : ∀ σ' H', Pv xs.length σ' H' → D.nx σ' H') :
    ∃ W : Nat → Nat → St → Hp → Prop, (∃ m, W 0 m σ H) ∧ ∀ i m σ H, W i m σ H →
      ((Ite K t a).stop i H ∧ D.nx σ H) ∨ ((Ite K t a).go i H ∧ ∃ N : St → Hp → Prop, (∀ σ' H', N σ' H' → ∃ m', m' < m ∧ W (i + 1) m' σ' H') ∧ ∀ x H', (Ite K t a).yld i H x H' → g x σ H' fun σ2 H2 => tb { D with nx := N, ct := N, bk := D.nx } σ2 H2) := by
  refine ⟨fun i m σ' H' => m = xs.length - i ∧ i ≤ xs.length ∧ Pv i σ' H', ⟨xs.length, by simp, Nat.zero_le _, h0⟩, ?_⟩
  rintro i m σ' H' ⟨rfl, hi, pv⟩
  have q1 := hsq i σ' H' pv
  by_cases hlt : i < xs.length
  · have hx : xs[i]? = some xs[i] := List.getElem?_eq_getElem hlt
    refine .inr ⟨⟨xs, _, q1, hx⟩, Pv (i + 1), fun σ2 H2 p' => ⟨xs.length - (i + 1), by exact OmL.om5 hlt, rfl, by exact OmL.om67 hlt, p'⟩, ?_⟩
    rintro v H2 ⟨p, x, rfl, hp, rfl, y1⟩
    exact hs i x σ' H' p (y1 xs q1) pv hp
  · have e : i = xs.length := by exact OmL.om6 hi hlt
    refine .inl ⟨⟨xs, q1, by exact OmL.om69 hi hlt⟩, hd σ' H' ?_⟩
    rw [← e]; exact pv
end
end L2
/-! ### enumerate(zip(..)): behind ExtZip and ExtEnum -/
namespace L2
open PySem PySem.Spec PyProof.Rows
section
variable {prog : Program} {w : World} {A : Around} {E : Value → Shared → Prop} {s : Shared}
theorem wpAny_alive {a : Addr} {Q : Option Obj → Shared → Prop} (h : Q (s.heap.get? a) s) : wpAny (model prog w) A (loadIfAlive a) Q E s := fun _ _ _ => h
/-- a zip, its pair out or not -/
noncomputable abbrev IsZipG (h : Heap) (z TI TO : Addr) (f0 : Value) (f1 : Bool) : Prop :=
  h.get? z = some { cls := .type "zip", dict := none, data := .fields #[f0, .bool f1, .bool false, .ref TI, .ref TO], slots := #[] }
noncomputable def Out0 (f0 : Value) : Prop := f0 = .none ∨ ∃ p : Nat, f0 = rawInt p
/-- is its own tuple free? either may be -/
theorem zfree {z TI TO : Addr} {f0 : Value} {f1 : Bool} {Q : Bool → Shared → Prop} (hz : IsZipG s.heap z TI TO f0 f1) (ho : Out0 f0)
    (k1 : Q true s) (k2 : ∀ h', IsZipG h' z TI TO f0 true → Heap.SameBut z s.heap h' → Q false { s with heap := h' }) : wpAny (model prog w) A (Builtin.SmallTypes.ownedTupleIsFree (.ref z)) Q E s := by
  unfold Builtin.SmallTypes.ownedTupleIsFree
  rcases ho with rfl | ⟨p, rfl⟩
  · exact wpAny_bind (wpAny_field hz rfl (x := Value.none) rfl (wpAny_pure k1))
  · refine wpAny_bind (wpAny_field hz rfl (x := rawInt p) rfl ?_)
    show wpAny _ _ (loadIfAlive ((p : Int)).toNat >>= _) _ _ _
    refine wpAny_bind (wpAny_alive ?_)
    cases s.heap.get? ((p : Int)).toNat with
    | none => exact wpAny_pure k1
    | some o =>
      show wpAny _ _ (field (.ref z) 1 >>= _) _ _ _
      refine wpAny_bind (wpAny_field hz rfl (x := Value.bool f1) rfl ?_)
      cases f1 with
      | true => exact wpAny_pure (k2 s.heap hz (Heap.SameBut.refl ..))
      | false =>
        show wpAny _ _ (setField (.ref z) 1 (.bool true) >>= _) _ _ _
        refine wpAny_bind (wpAny_setField_rec hz (by simp) fun g1 z1 m1 => wpAny_pure (k2 g1 z1 m1))
theorem zg_item {t1 t2 : Bool} {z TI TO i1 i2 l1 l2 : Addr} {k1 k2 : Nat} {xs ys : Array Value} {x y a b f0 : Value} {f1 : Bool} {Q : Value → Shared → Prop} (D : Apart z TI TO i1 i2 l1 l2)
    (hz : IsZipG s.heap z TI TO f0 f1) (ho : Out0 f0) (hI : IsPair s.heap TI (.ref i1) (.ref i2)) (hO : IsPair s.heap TO a b)
    (h1 : ItA t1 s.heap i1 l1 k1) (h2 : ItA t2 s.heap i2 l2 k2) (q1 : SqA t1 s.heap l1 xs) (q2 : SqA t2 s.heap l2 ys) (hx : xs[k1]? = some x) (hy : ys[k2]? = some y)
    (k : ∀ h' f0' f1' a' b', Out0 f0' → IsZipG h' z TI TO f0' f1' → IsPair h' TO a' b' → ItA t1 h' i1 l1 (k1 + 1) → ItA t2 h' i2 l2 (k2 + 1) → IsPair h' s.heap.objs.size x y → h'.objs.size = s.heap.objs.size + 1 →
      (∀ c o, c ∉ [z, TO, i1, i2] → s.heap.get? c = some o → h'.get? c = some o) → Q (.ref s.heap.objs.size) { s with heap := h' }) :
    wpAny (model prog w) A (Builtin.«zip.__next__» ⟨[.ref z], []⟩) (fun fin s' => ∃ v, fin = .done (.ret v) ∧ Q v s') E s := by
  obtain ⟨⟨dTIz, dTOz, d1z, d2z⟩, ⟨dTITO, dTI1, dTI2⟩, ⟨dTO1, dTO2, d12⟩, ⟨e1z, e1TO, e11, e12⟩, ⟨e2z, e2TO, e21, e22⟩⟩ := D.ne
  show wpAny _ _ (field (.ref z) 2 >>= _) _ _ _
  refine wpAny_bind (wpAny_field hz rfl (x := Value.bool false) rfl ?_)
  show wpAny _ _ (field (.ref z) 3 >>= _) _ _ _
  refine wpAny_bind (wpAny_field hz rfl (x := Value.ref TI) rfl ?_)
  refine wpAny_bind (wpAny_seqItems hI rfl (Q := _) ?_)
  show wpAny _ _ (Builtin.SmallTypes.ownedTupleIsFree (.ref z) >>= _) _ _ _
  refine wpAny_bind (zfree hz ho ?_ fun g0 z0 m0 => ?_)
  · simp only [if_true]
    refine wpAny_bind (wpAny_rule (Q := _) ?_)
    refine wpAny_bind (wpAny_field hz rfl (x := Value.ref TO) rfl ?_)
    refine wpAny_bind (wpAny_setField_rec hz (by simp) fun g1 z1 m1 => ?_)
    replace z1 : IsZipG g1 z TI TO .ellipsis f1 := z1
    refine wpAny_bind ?_
    simp only [List.forIn_cons, List.forIn_nil, List.zipIdx_cons, List.zipIdx_nil]
    refine wpAny_bind (wpAny_bind (wpAny_onRaise (Q := _) ?_))
    show wpAny _ _ (Builtin.SmallTypes.nextOf (.ref i1) >>= _) _ _ _
    refine wpAny_bind (nx_item (h1.at fun o e => m1.extBut _ _ d1z e) (q1.at fun o e => m1.extBut _ _ e1z e) hx fun g2 n2 m2 => wpAny_pure (Q := _) ?_)
    have O2 : IsPair g2 TO a b := m2.extBut _ _ dTO1 (m1.extBut _ _ dTOz hO)
    refine wpAny_bind (wpAny_seqItems O2 rfl (Q := _) ?_)
    refine wpAny_bind (wpAny_updateSeq_pair O2 fun g3 O3 m3 => ?_)
    replace O3 : IsPair g3 TO x b := O3
    refine wpAny_bind (wpAny_letGo (wpAny_pure (Q := _) ?_))
    refine wpAny_bind (wpAny_bind (wpAny_onRaise (Q := _) ?_))
    show wpAny _ _ (Builtin.SmallTypes.nextOf (.ref i2) >>= _) _ _ _
    refine wpAny_bind (nx_item (h2.at fun o e => m3.extBut _ _ (Ne.symm dTO2) (m2.extBut _ _ (Ne.symm d12) (m1.extBut _ _ d2z e))) (q2.at fun o e => m3.extBut _ _ e2TO (m2.extBut _ _ e21 (m1.extBut _ _ e2z e))) hy fun g4 n4 m4 => wpAny_pure (Q := _) ?_)
    have O4 : IsPair g4 TO x b := m4.extBut _ _ dTO2 O3
    refine wpAny_bind (wpAny_seqItems O4 rfl (Q := _) ?_)
    refine wpAny_bind (wpAny_updateSeq_pair O4 fun g5 O5 m5 => ?_)
    replace O5 : IsPair g5 TO x y := O5
    refine wpAny_bind (wpAny_letGo (wpAny_pure (wpAny_pure (Q := _) ?_)))
    refine wpAny_bind (wpAny_seqItems O5 rfl (Q := _) ?_)
    refine wpAny_bind (wpAny_newTuple (Q := _) ?_)
    have sz : g5.objs.size = s.heap.objs.size := by rw [m5.1, m4.1, m3.1, m2.1, m1.1]
    have Z5 : IsZipG g5 z TI TO .ellipsis f1 := m5.extBut _ _ (Ne.symm dTOz) (m4.extBut _ _ (Ne.symm d2z) (m3.extBut _ _ (Ne.symm dTOz) (m2.extBut _ _ (Ne.symm d1z) z1)))
    have N1 : ItA t1 g5 i1 l1 (k1 + 1) := n2.at fun o e => m5.extBut _ _ (Ne.symm dTO1) (m4.extBut _ _ d12 (m3.extBut _ _ (Ne.symm dTO1) e))
    have N2 : ItA t2 g5 i2 l2 (k2 + 1) := n4.at fun o e => m5.extBut _ _ (Ne.symm dTO2) e
    have K5 : ∀ c o, c ∉ [z, TO, i1, i2] → s.heap.get? c = some o → g5.get? c = some o := fun c o hc e => by
      simp only [List.mem_cons, List.not_mem_nil, or_false, not_or] at hc
      obtain ⟨c1, c2, c3, c4⟩ := hc
      exact m5.extBut _ _ c2 (m4.extBut _ _ c4 (m3.extBut _ _ c2 (m2.extBut _ _ c3 (m1.extBut _ _ c1 e))))
    have zl : z < g5.objs.size := Heap.lt_size Z5
    show wpAny _ _ (Builtin.SmallTypes.ownedTupleHandOut (.ref z) (.ref g5.objs.size) >>= _) _ _ _
    refine wpAny_bind ?_
    unfold Builtin.SmallTypes.ownedTupleHandOut
    have Z6 : IsZipG (g5.push { cls := .type "tuple", data := .seq #[x, y] }) z TI TO .ellipsis f1 := Heap.get?_push_of_some _ Z5
    refine wpAny_bind (wpAny_setField_rec Z6 (by simp) fun g7 Z7 m7 => ?_)
    replace Z7 : IsZipG g7 z TI TO (rawInt g5.objs.size) f1 := Z7
    refine wpAny_setField_rec Z7 (by simp) fun g8 Z8 m8 => ?_
    replace Z8 : IsZipG g8 z TI TO (rawInt g5.objs.size) false := Z8
    have up : ∀ c o, c ≠ z → g5.get? c = some o → g8.get? c = some o := fun c o c1 e => m8.extBut _ _ c1 (m7.extBut _ _ c1 (Heap.get?_push_of_some _ e))
    have T8 : IsPair g8 g5.objs.size x y := m8.extBut _ _ (Nat.ne_of_gt zl) (m7.extBut _ _ (Nat.ne_of_gt zl) (Heap.get?_push_size _ rfl))
    rw [sz] at Z8 T8
    refine wpAny_pure ⟨_, rfl, ?_⟩
    show Q (.ref g5.objs.size) _
    rw [sz]
    exact k g8 _ _ _ _ (.inr ⟨_, rfl⟩) Z8 (up _ _ dTOz O5) (N1.at fun o e => up _ o d1z e) (N2.at fun o e => up _ o d2z e) T8 (by rw [m8.1, m7.1, Heap.size_push, sz]) fun c o hc e => up c o (fun q => hc (by simp [q])) (K5 c o hc e)
  · simp only [Bool.false_eq_true, if_false]
    simp only [List.forIn_toArray, List.forIn_cons, List.forIn_nil]
    refine wpAny_bind (wpAny_bind (wpAny_bind (wpAny_holding (Q := _) ?_)))
    show wpAny _ _ (Builtin.SmallTypes.nextOf (.ref i1) >>= _) _ _ _
    refine wpAny_bind (nx_item (h1.at fun o e => m0.extBut _ _ d1z e) (q1.at fun o e => m0.extBut _ _ e1z e) hx fun g2 n2 m2 => wpAny_pure (Q := _) ?_)
    refine wpAny_pure (Q := _) ?_
    refine wpAny_bind (wpAny_bind (wpAny_holding (Q := _) ?_))
    show wpAny _ _ (Builtin.SmallTypes.nextOf (.ref i2) >>= _) _ _ _
    refine wpAny_bind (nx_item (h2.at fun o e => m2.extBut _ _ (Ne.symm d12) (m0.extBut _ _ d2z e)) (q2.at fun o e => m2.extBut _ _ e21 (m0.extBut _ _ e2z e)) hy fun g4 n4 m4 => wpAny_pure (Q := _) ?_)
    refine wpAny_pure (Q := _) ?_
    refine wpAny_pure (Q := _) ?_
    refine wpAny_bind (wpAny_newTuple (Q := _) ?_ (by show 2 ≤ sizeLine; decide))
    have sz : g4.objs.size = s.heap.objs.size := by rw [m4.1, m2.1, m0.1]
    have up : ∀ c o, c ≠ z → c ≠ i1 → c ≠ i2 → s.heap.get? c = some o → (g4.push { cls := .type "tuple", data := .seq #[x, y] }).get? c = some o := fun c o c1 c2 c3 e => Heap.get?_push_of_some _ (m4.extBut _ _ c3 (m2.extBut _ _ c2 (m0.extBut _ _ c1 e)))
    refine wpAny_pure ⟨_, rfl, ?_⟩
    have T8 : IsPair (g4.push { cls := .type "tuple", data := .seq #[x, y] }) g4.objs.size x y := Heap.get?_push_size _ rfl
    have Z8 : IsZipG (g4.push { cls := .type "tuple", data := .seq #[x, y] }) z TI TO f0 true := Heap.get?_push_of_some _ (m4.extBut _ _ (Ne.symm d2z) (m2.extBut _ _ (Ne.symm d1z) z0))
    rw [sz] at T8
    show Q (.ref g4.objs.size) _
    rw [sz]
    refine k _ f0 true _ _ ho Z8 (up _ _ dTOz dTO1 dTO2 hO) (n2.at fun o e => Heap.get?_push_of_some _ (m4.extBut _ _ d12 e)) (n4.at fun o e => Heap.get?_push_of_some _ e) T8 (by rw [Heap.size_push, sz]) fun c o hc e => ?_
    simp only [List.mem_cons, List.not_mem_nil, or_false, not_or] at hc
    exact up c o hc.1 hc.2.2.1 hc.2.2.2 e
theorem zg_end {t1 t2 : Bool} {z TI TO i1 i2 l1 l2 : Addr} {k1 k2 : Nat} {xs ys : Array Value} {a b f0 : Value} {f1 : Bool} {Q : Fin → Shared → Prop} (hh : A.handled = none) (D : Apart z TI TO i1 i2 l1 l2)
    (hz : IsZipG s.heap z TI TO f0 f1) (ho : Out0 f0) (hI : IsPair s.heap TI (.ref i1) (.ref i2)) (hO : IsPair s.heap TO a b)
    (h1 : ItA t1 s.heap i1 l1 k1) (h2 : ItA t2 s.heap i2 l2 k2) (q1 : SqA t1 s.heap l1 xs) (q2 : SqA t2 s.heap l2 ys) (he : ys[k2]? = none ∨ xs[k1]? = none)
    (k : ∀ h' e, (∀ c o, c ∉ [z, TO, i1, i2] → s.heap.get? c = some o → h'.get? c = some o) → (∃ o, h'.get? e = some o ∧ o.cls = .type "StopIteration") → E (.ref e) { s with heap := h' }) :
    wpAny (model prog w) A (Builtin.«zip.__next__» ⟨[.ref z], []⟩) Q E s := by
  obtain ⟨⟨dTIz, dTOz, d1z, d2z⟩, ⟨dTITO, dTI1, dTI2⟩, ⟨dTO1, dTO2, d12⟩, ⟨e1z, e1TO, e11, e12⟩, ⟨e2z, e2TO, e21, e22⟩⟩ := D.ne
  have far : ∀ {c : Addr}, c ∉ [z, TO, i1, i2] → c ≠ z ∧ c ≠ TO ∧ c ≠ i1 ∧ c ≠ i2 := fun hc => by simpa only [List.mem_cons, List.not_mem_nil, or_false, not_or] using hc
  show wpAny _ _ (field (.ref z) 2 >>= _) _ _ _
  refine wpAny_bind (wpAny_field hz rfl (x := Value.bool false) rfl ?_)
  show wpAny _ _ (field (.ref z) 3 >>= _) _ _ _
  refine wpAny_bind (wpAny_field hz rfl (x := Value.ref TI) rfl ?_)
  refine wpAny_bind (wpAny_seqItems hI rfl (Q := _) ?_)
  show wpAny _ _ (Builtin.SmallTypes.ownedTupleIsFree (.ref z) >>= _) _ _ _
  refine wpAny_bind (zfree hz ho ?_ fun g0 z0 m0 => ?_)
  · simp only [if_true]
    refine wpAny_bind (wpAny_rule (Q := _) ?_)
    refine wpAny_bind (wpAny_field hz rfl (x := Value.ref TO) rfl ?_)
    refine wpAny_bind (wpAny_setField_rec hz (by simp) fun g1 z1 m1 => ?_)
    replace z1 : IsZipG g1 z TI TO .ellipsis f1 := z1
    refine wpAny_bind ?_
    simp only [List.forIn_cons, List.forIn_nil, List.zipIdx_cons, List.zipIdx_nil]
    refine wpAny_bind (wpAny_bind (wpAny_onRaise (Q := _) ?_))
    show wpAny _ _ (Builtin.SmallTypes.nextOf (.ref i1) >>= _) _ _ _
    cases hx : xs[k1]? with
    | none =>
      refine wpAny_bind (nx_end hh (h1.at fun o e => m1.extBut _ _ d1z e) (q1.at fun o e => m1.extBut _ _ e1z e) hx fun g2 e m2 ⟨u, hu, cu⟩ => ?_)
      have z2 : IsZipG g2 z TI TO .ellipsis f1 := m2 _ _ (Ne.symm d1z) z1
      have ez : e ≠ z := fun q => by subst q; rw [z2] at hu; cases hu; simp at cu
      exact wpAny_setField_rec z2 (by simp) fun g3 _ m3 => k g3 e (fun c o hc q => let ⟨c1, _, c3, _⟩ := far hc; m3.extBut _ _ c1 (m2 _ _ c3 (m1.extBut _ _ c1 q))) ⟨u, m3.extBut _ _ ez hu, cu⟩
    | some x =>
      have hy : ys[k2]? = none := he.elim id fun q => by rw [hx] at q; cases q
      refine wpAny_bind (nx_item (h1.at fun o e => m1.extBut _ _ d1z e) (q1.at fun o e => m1.extBut _ _ e1z e) hx fun g2 n2 m2 => wpAny_pure (Q := _) ?_)
      have O2 : IsPair g2 TO a b := m2.extBut _ _ dTO1 (m1.extBut _ _ dTOz hO)
      refine wpAny_bind (wpAny_seqItems O2 rfl (Q := _) ?_)
      refine wpAny_bind (wpAny_updateSeq_pair O2 fun g3 O3 m3 => ?_)
      refine wpAny_bind (wpAny_letGo (wpAny_pure (Q := _) ?_))
      refine wpAny_bind (wpAny_bind (wpAny_onRaise (Q := _) ?_))
      show wpAny _ _ (Builtin.SmallTypes.nextOf (.ref i2) >>= _) _ _ _
      refine wpAny_bind (nx_end hh (h2.at fun o e => m3.extBut _ _ (Ne.symm dTO2) (m2.extBut _ _ (Ne.symm d12) (m1.extBut _ _ d2z e))) (q2.at fun o e => m3.extBut _ _ e2TO (m2.extBut _ _ e21 (m1.extBut _ _ e2z e))) hy fun g4 e m4 ⟨u, hu, cu⟩ => ?_)
      have z4 : IsZipG g4 z TI TO .ellipsis f1 := m4 _ _ (Ne.symm d2z) (m3.extBut _ _ (Ne.symm dTOz) (m2.extBut _ _ (Ne.symm d1z) z1))
      have ez : e ≠ z := fun q => by subst q; rw [z4] at hu; cases hu; simp at cu
      exact wpAny_setField_rec z4 (by simp) fun g5 _ m5 => k g5 e (fun c o hc q => let ⟨c1, c2, c3, c4⟩ := far hc; m5.extBut _ _ c1 (m4 _ _ c4 (m3.extBut _ _ c2 (m2.extBut _ _ c3 (m1.extBut _ _ c1 q))))) ⟨u, m5.extBut _ _ ez hu, cu⟩
  · simp only [Bool.false_eq_true, if_false]
    simp only [List.forIn_toArray, List.forIn_cons, List.forIn_nil]
    refine wpAny_bind (wpAny_bind (wpAny_bind (wpAny_holding (Q := _) ?_)))
    show wpAny _ _ (Builtin.SmallTypes.nextOf (.ref i1) >>= _) _ _ _
    cases hx : xs[k1]? with
    | none =>
      exact wpAny_bind (nx_end hh (h1.at fun o e => m0.extBut _ _ d1z e) (q1.at fun o e => m0.extBut _ _ e1z e) hx fun g2 e m2 st => k g2 e (fun c o hc q => let ⟨c1, _, c3, _⟩ := far hc; m2 _ _ c3 (m0.extBut _ _ c1 q)) st)
    | some x =>
      have hy : ys[k2]? = none := he.elim id fun q => by rw [hx] at q; cases q
      refine wpAny_bind (nx_item (h1.at fun o e => m0.extBut _ _ d1z e) (q1.at fun o e => m0.extBut _ _ e1z e) hx fun g2 n2 m2 => wpAny_pure (Q := _) ?_)
      refine wpAny_pure (Q := _) ?_
      refine wpAny_bind (wpAny_bind (wpAny_holding (Q := _) ?_))
      show wpAny _ _ (Builtin.SmallTypes.nextOf (.ref i2) >>= _) _ _ _
      exact wpAny_bind (nx_end hh (h2.at fun o e => m2.extBut _ _ (Ne.symm d12) (m0.extBut _ _ d2z e)) (q2.at fun o e => m2.extBut _ _ e21 (m0.extBut _ _ e2z e)) hy fun g4 e m4 st => k g4 e (fun c o hc q => let ⟨c1, _, c3, c4⟩ := far hc; m4 _ _ c4 (m2.extBut _ _ c3 (m0.extBut _ _ c1 q))) st)
/-- the zip's own objects at turn i, its pair out or not -/
structure ZG (t1 t2 : Bool) (z TI TO i1 i2 l1 l2 : Addr) (i : Nat) (h : Heap) : Prop where
  zz : ∃ f0 f1, Out0 f0 ∧ IsZipG h z TI TO f0 f1
  ti : IsPair h TI (.ref i1) (.ref i2)
  to : ∃ a b, IsPair h TO a b
  w1 : ItA t1 h i1 l1 i
  w2 : ItA t2 h i2 l2 i
theorem ZG.at {t1 t2 : Bool} {z TI TO i1 i2 l1 l2 : Addr} {i : Nat} {h h' : Heap} (Z : ZG t1 t2 z TI TO i1 i2 l1 l2 i h) (k : ∀ c ∈ [z, TI, TO, i1, i2], ∀ o, h.get? c = some o → h'.get? c = some o) : ZG t1 t2 z TI TO i1 i2 l1 l2 i h' := by
  obtain ⟨⟨f0, f1, ho, zz⟩, ti, ⟨u, v, to⟩, w1, w2⟩ := Z
  exact ⟨⟨f0, f1, ho, k _ (by simp) _ zz⟩, k _ (by simp) _ ti, ⟨u, v, k _ (by simp) _ to⟩, w1.at fun o e => k _ (by simp) o e, w2.at fun o e => k _ (by simp) o e⟩
theorem nz_item {t1 t2 : Bool} {z TI TO i1 i2 l1 l2 : Addr} {i : Nat} {xs ys : Array Value} {x y : Value} {Q : Value → Shared → Prop} (D : Apart z TI TO i1 i2 l1 l2) (Z : ZG t1 t2 z TI TO i1 i2 l1 l2 i s.heap)
    (q1 : SqA t1 s.heap l1 xs) (q2 : SqA t2 s.heap l2 ys) (hx : xs[i]? = some x) (hy : ys[i]? = some y)
    (k : ∀ h', ZG t1 t2 z TI TO i1 i2 l1 l2 (i + 1) h' → IsPair h' s.heap.objs.size x y → h'.objs.size = s.heap.objs.size + 1 → (∀ c o, c ∉ [z, TO, i1, i2] → s.heap.get? c = some o → h'.get? c = some o) → Q (.ref s.heap.objs.size) { s with heap := h' }) :
    wpAny (model prog w) A (Builtin.SmallTypes.nextOf (.ref z)) Q E s := by
  obtain ⟨⟨f0, f1, ho, zz⟩, ti, ⟨a, b, to⟩, w1, w2⟩ := Z
  have ty : s.TypeIs (.ref z) "zip" := ⟨_, zz, rfl⟩
  obtain ⟨⟨dTIz, _, _, _⟩, ⟨dTITO, dTI1, dTI2⟩, _⟩ := D.ne
  unfold Builtin.SmallTypes.nextOf
  refine wpAny_bind (wpAny_callSpecial?_slot (name := Str.ofString "__next__") ty F.slot_zip_next (wpAny_call_entry F.slot_zip_next ty F.entry_zip_next ?_ (F.args_zip_next_1 _)))
  exact zg_item D zz ho ti to w1 w2 q1 q2 hx hy fun h' f0' f1' a' b' b0 b1 b2 b3 b4 b5 bs b6 => wpAny_pure (k h' ⟨⟨_, _, b0, b1⟩, b6 _ _ (by simp [dTIz, dTITO, dTI1, dTI2]) ti, ⟨_, _, b2⟩, b3, b4⟩ b5 bs b6)
theorem nz_end {t1 t2 : Bool} {z TI TO i1 i2 l1 l2 : Addr} {i : Nat} {xs ys : Array Value} {Q : Value → Shared → Prop} (hh : A.handled = none) (D : Apart z TI TO i1 i2 l1 l2) (Z : ZG t1 t2 z TI TO i1 i2 l1 l2 i s.heap)
    (q1 : SqA t1 s.heap l1 xs) (q2 : SqA t2 s.heap l2 ys) (he : ys[i]? = none ∨ xs[i]? = none)
    (k : ∀ h' e, (∀ c o, c ∉ [z, TO, i1, i2] → s.heap.get? c = some o → h'.get? c = some o) → (∃ o, h'.get? e = some o ∧ o.cls = .type "StopIteration") → E (.ref e) { s with heap := h' }) : wpAny (model prog w) A (Builtin.SmallTypes.nextOf (.ref z)) Q E s := by
  obtain ⟨⟨f0, f1, ho, zz⟩, ti, ⟨a, b, to⟩, w1, w2⟩ := Z
  have ty : s.TypeIs (.ref z) "zip" := ⟨_, zz, rfl⟩
  unfold Builtin.SmallTypes.nextOf
  refine wpAny_bind (wpAny_callSpecial?_slot (name := Str.ofString "__next__") ty F.slot_zip_next (wpAny_call_entry F.slot_zip_next ty F.entry_zip_next ?_ (F.args_zip_next_1 _)))
  exact zg_end hh D zz ho ti to w1 w2 q1 q2 he k
theorem ez_item {t1 t2 : Bool} {e z TI TO i1 i2 l1 l2 : Addr} {i : Nat} {xs ys : Array Value} {x y old : Value} {Q : Option Value → Shared → Prop} (D : Apart z TI TO i1 i2 l1 l2) (he : IsEnum s.heap e z i old) (Z : ZG t1 t2 z TI TO i1 i2 l1 l2 i s.heap)
    (q1 : SqA t1 s.heap l1 xs) (q2 : SqA t2 s.heap l2 ys) (hx : xs[i]? = some x) (hy : ys[i]? = some y) (hne : e ∉ [z, TI, TO, i1, i2])
    (k : ∀ h', IsEnumOut h' e z ((i : Int) + 1) (.ref s.heap.objs.size) (s.heap.objs.size + 1) → ZG t1 t2 z TI TO i1 i2 l1 l2 (i + 1) h' → IsPair h' s.heap.objs.size x y → h'.get? (s.heap.objs.size + 1) = some { cls := .type "tuple", data := .seq #[.int i s.toks, .ref s.heap.objs.size] } →
      (∀ b o, b ∉ [e, z, TO, i1, i2] → s.heap.get? b = some o → h'.get? b = some o) → Q (some (.ref (s.heap.objs.size + 1))) { s with heap := h', toks := s.toks + 1 }) : wpAny (model prog w) A (pyNext (.ref e)) Q E s := by
  have ty : s.TypeIs (.ref e) "enumerate" := ⟨_, he, rfl⟩
  unfold pyNext
  refine wpAny_bind (wpAny_attempt (wpAny_callSpecial?_slot (name := Str.ofString "__next__") ty F.slot_enumerate_next (wpAny_call_entry F.slot_enumerate_next ty F.entry_enumerate_next ?_ (F.args_enumerate_next_1 _))))
  obtain ⟨hp, g, d, tk, os⟩ := s
  have el : e < hp.objs.size := Heap.lt_size he
  have ne2 : e ∉ [z, TO, i1, i2] := fun q => hne (by
    simp only [List.mem_cons, List.not_mem_nil, or_false] at q ⊢
    rcases q with q | q | q | q <;> simp [q])
  show wpAny _ _ (field (.ref e) 2 >>= _) _ _ _
  refine wpAny_bind (wpAny_field he rfl (x := Value.ref z) rfl ?_)
  refine wpAny_bind (nz_item D Z q1 q2 hx hy fun g1 Z1 P1 sz1 m1 => ?_)
  replace m1 : ∀ c o, c ∉ [z, TO, i1, i2] → hp.get? c = some o → g1.get? c = some o := m1
  replace sz1 : g1.objs.size = hp.objs.size + 1 := sz1
  replace P1 : IsPair g1 hp.objs.size x y := P1
  have e1 : IsEnum g1 e z i old := m1 _ _ ne2 he
  show wpAny _ _ (field (.ref e) 3 >>= _) _ _ ⟨g1, g, d, tk, os⟩
  refine wpAny_bind (wpAny_field e1 rfl (x := rawInt i) rfl ?_)
  show wpAny _ _ (field (.ref e) 4 >>= _) _ _ ⟨g1, g, d, tk, os⟩
  refine wpAny_bind (wpAny_field e1 rfl (x := Value.none) rfl ?_)
  show wpAny _ _ (mkInt i >>= _) _ _ ⟨g1, g, d, tk, os⟩
  refine wpAny_bind (wpAny_mkInt (Q := _) ?_)
  show wpAny _ _ (setField (.ref e) 3 (rawInt ((i : Int) + 1)) >>= _) _ _ ⟨g1, g, d, tk + 1, os⟩
  refine wpAny_bind (wpAny_setField_rec e1 (by simp) fun g2 e2 m2 => ?_)
  replace m2 : Heap.SameBut e g1 g2 := m2
  replace e2 : IsEnum g2 e z ((i : Int) + 1) old := e2
  show wpAny _ _ (setField (.ref e) 4 .none >>= _) _ _ ⟨g2, g, d, tk + 1, os⟩
  refine wpAny_bind (wpAny_setField_rec e2 (by simp) fun g3 e3 m3 => ?_)
  replace m3 : Heap.SameBut e g2 g3 := m3
  replace e3 : IsEnum g3 e z ((i : Int) + 1) old := e3
  show wpAny _ _ (newTuple [.int i tk, .ref hp.objs.size] >>= _) _ _ ⟨g3, g, d, tk + 1, os⟩
  refine wpAny_bind (wpAny_newTuple (Q := _) ?_)
  have sz : g3.objs.size = hp.objs.size + 1 := by rw [m3.1, m2.1, sz1]
  have e4 : IsEnum (g3.push { cls := .type "tuple", data := .seq #[.int i tk, .ref hp.objs.size] }) e z ((i : Int) + 1) old := Heap.get?_push_of_some _ e3
  have t4 : (g3.push { cls := .type "tuple", data := .seq #[.int i tk, .ref hp.objs.size] }).get? (hp.objs.size + 1) = some { cls := .type "tuple", data := .seq #[.int i tk, .ref hp.objs.size] } := by rw [← sz]; exact Heap.get?_push_size _ rfl
  have up4 : ∀ b o, b ≠ e → g1.get? b = some o → (g3.push { cls := .type "tuple", data := .seq #[.int i tk, .ref hp.objs.size] }).get? b = some o := fun b o c1 q => Heap.get?_push_of_some _ (m3.extBut _ _ c1 (m2.extBut _ _ c1 q))
  rw [sz]
  generalize g3.push { cls := .type "tuple", data := .seq #[.int i tk, .ref hp.objs.size] } = g4 at e4 t4 up4
  show wpAny _ _ (Builtin.SmallTypes.ownedTupleIsFree (.ref e) >>= _) _ _ ⟨g4, g, d, tk + 1, os⟩
  refine wpAny_bind ?_
  unfold Builtin.SmallTypes.ownedTupleIsFree
  refine wpAny_bind (wpAny_field e4 rfl (x := Value.none) rfl (wpAny_pure (Q := _) ?_))
  simp only [if_true]
  refine wpAny_bind (wpAny_rule (Q := _) ?_)
  refine wpAny_bind (wpAny_field e4 rfl (x := old) rfl ?_)
  refine wpAny_bind (wpAny_setField_rec e4 (by simp) fun g5 e5 m5 => ?_)
  replace m5 : Heap.SameBut e g4 g5 := m5
  replace e5 : IsEnum g5 e z ((i : Int) + 1) (.ref hp.objs.size) := e5
  show wpAny _ _ (Builtin.SmallTypes.ownedTupleHandOut (.ref e) (.ref (hp.objs.size + 1)) >>= _) _ _ ⟨g5, g, d, tk + 1, os⟩
  refine wpAny_bind ?_
  unfold Builtin.SmallTypes.ownedTupleHandOut
  refine wpAny_bind (wpAny_setField_rec e5 (by simp) fun g6 e6 m6 => ?_)
  replace m6 : Heap.SameBut e g5 g6 := m6
  replace e6 : IsEnumOut g6 e z ((i : Int) + 1) (.ref hp.objs.size) (hp.objs.size + 1) := e6
  refine wpAny_setField_rec e6 (by simp) fun g7 e7 m7 => ?_
  replace m7 : Heap.SameBut e g6 g7 := m7
  replace e7 : IsEnumOut g7 e z ((i : Int) + 1) (.ref hp.objs.size) (hp.objs.size + 1) := e7
  have up : ∀ b o, b ≠ e → g4.get? b = some o → g7.get? b = some o := fun b o c1 q => m7.extBut _ _ c1 (m6.extBut _ _ c1 (m5.extBut _ _ c1 q))
  refine wpAny_bind (wpAny_letGo (wpAny_pure ⟨_, rfl, wpAny_pure (k g7 e7 (Z1.at fun c hc o q => ?_) (up _ _ (Nat.ne_of_gt el) (up4 _ _ (Nat.ne_of_gt el) P1)) (up _ _ (Nat.ne_of_gt (Nat.lt_succ_of_lt el)) t4) fun b o hb q => ?_)⟩))
  · have ce : c ≠ e := fun z => hne (z ▸ hc)
    exact up _ _ ce (up4 _ _ ce q)
  · have hb' : b ≠ e ∧ b ∉ [z, TO, i1, i2] := by
      simp only [List.mem_cons, List.not_mem_nil, or_false, not_or] at hb ⊢
      exact ⟨hb.1, hb.2⟩
    exact up b o hb'.1 (up4 b o hb'.1 (m1 b o hb'.2 q))
theorem ez_end {t1 t2 : Bool} {e z TI TO i1 i2 l1 l2 : Addr} {i : Nat} {xs ys : Array Value} {old : Value} {Q : Option Value → Shared → Prop} (hh : A.handled = none) (D : Apart z TI TO i1 i2 l1 l2) (he : IsEnum s.heap e z i old) (Z : ZG t1 t2 z TI TO i1 i2 l1 l2 i s.heap)
    (q1 : SqA t1 s.heap l1 xs) (q2 : SqA t2 s.heap l2 ys) (hend : ys[i]? = none ∨ xs[i]? = none)
    (k : ∀ h', (∀ b o, b ∉ [z, TO, i1, i2] → s.heap.get? b = some o → h'.get? b = some o) → Q none { s with heap := h' }) : wpAny (model prog w) A (pyNext (.ref e)) Q E s := by
  have ty : s.TypeIs (.ref e) "enumerate" := ⟨_, he, rfl⟩
  unfold pyNext
  refine wpAny_bind (wpAny_attempt (wpAny_callSpecial?_slot (name := Str.ofString "__next__") ty F.slot_enumerate_next (wpAny_call_entry F.slot_enumerate_next ty F.entry_enumerate_next ?_ (F.args_enumerate_next_1 _))))
  show wpAny _ _ (field (.ref e) 2 >>= _) _ _ _
  refine wpAny_bind (wpAny_field he rfl (x := Value.ref z) rfl ?_)
  refine wpAny_bind (nz_end hh D Z q1 q2 hend fun h' x m ⟨u, hu, cu⟩ => ?_)
  exact wpAny_bind (wpAny_isInstance (T := "StopIteration") (b := true) ⟨u, hu, cu⟩ isSubtype_stop (wpAny_pure (k _ m)))
set_option maxRecDepth 100000 in
theorem emadeZ (z TI TO : Addr) :
    Meets (Builtin.«enumerate.__new__» ⟨[.type "enumerate", .ref z], []⟩) (fun _ R s => IsZip s.heap z TI TO .none ∧
      R (.ok (.ret (.ref s.heap.objs.size))) { s with heap := s.heap.push { cls := .type "enumerate", data := .fields #[.none, .bool false, .ref z, rawInt 0, .none, .none] } }) :=
  .of_wp fun prog w A R s h => by
    obtain ⟨hp, g, d, tk, os⟩ := s
    obtain ⟨hl, h⟩ := h
    have hsub := sub_enumerate
    have hL : IsZip (Shared.heap ⟨hp, g, d, tk, os⟩) z TI TO .none := hl
    wp_walk using AutoSeq1.wpAny_loadPart' hl
    refine wpAny_stack_any fun st => wpAny_pure ?_
    split
    · rename_i c _ _ _ _ _
      cases (c == Value.type "enumerate")
      · wp_walk using AutoSeq1.wpAny_loadPart' hl, wpAny_pyIter_zip hL
        exact ⟨_, rfl, h⟩
      · wp_walk using AutoSeq1.wpAny_loadPart' hl, wpAny_pyIter_zip hL
        exact ⟨_, rfl, h⟩
    · wp_walk using AutoSeq1.wpAny_loadPart' hl, wpAny_pyIter_zip hL
      exact ⟨_, rfl, h⟩
theorem call_enZ {z TI TO : Addr} {Q : Value → Shared → Prop} (m : IsZip s.heap z TI TO .none)
    (k : ∀ h', IsEnum h' s.heap.objs.size z 0 .none → (∀ c o, s.heap.get? c = some o → h'.get? c = some o) → Q (.ref s.heap.objs.size) { s with heap := h' }) :
    wpAny (model prog w) A (call (.type "enumerate") [.ref z]) Q E s := by
  refine callType_new F.called_enumerate (by decide) (F.typeCall_enumerate_1 _) (F.newCall_enumerate_1 _) (fun obj => F.args_object_init_2 obj _) F.entry_enumerate_new (emadeZ z TI TO) ⟨m, ?_⟩
  have o2 : (s.heap.push { cls := .type "enumerate", data := .fields #[.none, .bool false, .ref z, rawInt 0, .none, .none] }).get? s.heap.objs.size = some _ := Heap.get?_push_size _ rfl
  exact ⟨⟨_, o2, rfl⟩, k _ o2 fun c o q => Heap.get?_push_of_some _ q⟩
end
section
variable {X : Cx} {pins : List (Addr × Obj)} {σ : St} {H : Hp} {s : Shared} {h' : Heap}
/-- places and pairs, each new tuples -/
noncomputable def Itez (K : PySem.W.Frag) (t1 t2 : Bool) (a b : Addr) : It :=
  ⟨fun i H => ∃ xs ys x y, SqX K t1 H a xs ∧ SqX K t2 H b ys ∧ xs[i]? = some x ∧ ys[i]? = some y,
   fun i H v H' => ∃ p1 p2 x y, v = .ref p2 ∧ H p1 = none ∧ H p2 = none ∧ p1 ≠ p2 ∧ H' = upd (upd H p1 (.tup [x, y])) p2 (.tup [.int (i : Int), .ref p1]) ∧ (∀ xs, SqX K t1 H a xs → xs[i]? = some x) ∧ ∀ ys, SqX K t2 H b ys → ys[i]? = some y,
   fun i H => ∃ xs ys, SqX K t1 H a xs ∧ SqX K t2 H b ys ∧ (ys.length ≤ i ∨ xs.length ≤ i)⟩
structure EZ (t1 t2 : Bool) (e z TI TO i1 i2 l1 l2 : Addr) (i : Nat) (h : Heap) : Prop where
  ee : ∃ old, IsEnum h e z (i : Int) old
  zz : ZG t1 t2 z TI TO i1 i2 l1 l2 i h
theorem EZ.there {t1 t2 : Bool} {e z TI TO i1 i2 l1 l2 : Addr} {i : Nat} {h : Heap} (Z : EZ t1 t2 e z TI TO i1 i2 l1 l2 i h) : ∀ c ∈ [e, z, TI, TO, i1, i2], ∃ o, h.get? c = some o ∧ ∀ v, o.data ≠ .cell v := fun c hc => by
  obtain ⟨⟨old, ee⟩, ⟨f0, f1, _, zz⟩, ti, ⟨u, v, to⟩, ⟨o1, h1, _, d1⟩, ⟨o2, h2, _, d2⟩⟩ := Z
  simp only [List.mem_cons, List.not_mem_nil, or_false] at hc
  rcases hc with rfl | rfl | rfl | rfl | rfl | rfl
  · exact ⟨_, ee, fun v q => by cases q⟩
  · exact ⟨_, zz, fun v q => by cases q⟩
  · exact ⟨_, ti, fun v q => by cases q⟩
  · exact ⟨_, to, fun v q => by cases q⟩
  · exact ⟨_, h1, fun v q => by rw [d1] at q; cases q⟩
  · exact ⟨_, h2, fun v q => by rw [d2] at q; cases q⟩
theorem turn_ez {P : Program} {w : World} {K : PySem.W.Frag} {es : List Expr} {x1 : Nat} {pos : Pos} {t1 t2 : Bool} {e z TI TO i1 i2 a b : Addr} (D : Apart z TI TO i1 i2 a b) (hne : e ∉ [z, TI, TO, i1, i2]) :
    Turn P w K (.Tuple es x1 pos) (Itez K t1 t2 a b) [e, z, TI, TO, i1, i2] e (fun i h => EZ t1 t2 e z TI TO i1 i2 a b i h) where
  mem := by simp
  obj := fun i h Z c hc => Z.there c hc
  keep := fun i h h' Z k => by
    obtain ⟨⟨old, ee⟩, zz⟩ := Z
    exact ⟨⟨old, k _ (by simp) _ ee⟩, zz.at fun c hc o q => k c (List.mem_cons_of_mem _ hc) o q⟩
  item := by
    intro X hP hw hK hc i pins s σ H E I hf Z hg
    subst hP hw hK
    obtain ⟨xs, ys, x, y, hq1, hq2, hx, hy⟩ := hg
    obtain ⟨its1, r1, p1, _⟩ := I.seqX hq1
    obtain ⟨its2, r2, p2, _⟩ := I.seqX hq2
    obtain ⟨u1, hu1, ru1⟩ := r1.get hx
    obtain ⟨u2, hu2, ru2⟩ := r2.get hy
    have Zt := Z.there
    obtain ⟨⟨old, ee⟩, zz⟩ := Z
    refine ez_item D ee zz p1 p2 (x := u1) (y := u2) (by simpa using hu1) (by simpa using hu2) hne fun g e1 Z1 P1 T1 k1 => ⟨_, rfl, ?_⟩
    have el : e < s.heap.objs.size := Heap.lt_size ee
    refine wpAny_letOwnedTupleGo_enum e1 fun g' e2 m' => ?_
    have t2 : g'.get? (s.heap.objs.size + 1) = some { cls := .type "tuple", data := .seq #[.int i s.toks, .ref s.heap.objs.size] } := m'.extBut _ _ (Nat.ne_of_gt (Nat.lt_succ_of_lt el)) T1
    have P2 : IsPair g' s.heap.objs.size u1 u2 := m'.extBut _ _ (Nat.ne_of_gt el) P1
    have I1 : Inv X pins σ H { s with heap := g', toks := s.toks + 1 } := I.turnedM (t' := s.toks + 1) (ch := [e, z, TI, TO, i1, i2]) hf fun c o hc q => m'.extBut _ _ (fun z => hc (by simp [z])) (k1 c o (fun q => hc (by
        simp only [List.mem_cons, List.not_mem_nil, or_false] at q ⊢
        rcases q with q | q | q | q | q <;> simp [q])) q)
    have f1 : H s.heap.objs.size = none := I.fresh
    have f2 : H (s.heap.objs.size + 1) = none := I.hok.fresh (Nat.le_succ _)
    have n12 : s.heap.objs.size ≠ s.heap.objs.size + 1 := Nat.ne_of_lt (Nat.lt_succ_self _)
    have f2' : (upd H s.heap.objs.size (.tup [x, y])) (s.heap.objs.size + 1) = none := by rw [upd_ne (Ne.symm n12)]; exact f2
    have I2 : Inv X pins σ (upd H s.heap.objs.size (.tup [x, y])) { s with heap := g', toks := s.toks + 1 } := I1.adopt (I.fpOk (Nat.le_refl _) f1)
      ⟨by simp [sizeLine], [u1, u2], .cons ru1 (.cons ru2 .nil), ⟨_, P2, rfl, _, rfl⟩⟩
    have I3 : Inv X pins σ (upd (upd H s.heap.objs.size (.tup [x, y])) (s.heap.objs.size + 1) (.tup [.int (i : Int), .ref s.heap.objs.size])) { s with heap := g', toks := s.toks + 1 } := I2.adopt (I.fpOk (Nat.le_succ _) f2')
      ⟨by simp [sizeLine], [.int i s.toks, .ref s.heap.objs.size], .cons ⟨_, rfl⟩ (.cons rfl .nil), ⟨_, t2, rfl, _, rfl⟩⟩
    refine ⟨.ref (s.heap.objs.size + 1), _, I3, rfl, ⟨_, _, x, y, rfl, f1, f2, n12, rfl, fun xs' q => by rw [I.seqX_inj q hq1]; exact hx, fun ys' q => by rw [I.seqX_inj q hq2]; exact hy⟩, ⟨⟨_, e2⟩, Z1.at fun c hc o q => m'.extBut _ _ (fun z => hne (z ▸ hc)) q⟩, fun c hc => ?_⟩
    obtain ⟨o, ho, _⟩ := Zt c hc
    have cl := Heap.lt_size ho
    rw [upd_ne (Nat.ne_of_lt (Nat.lt_succ_of_lt cl)), upd_ne (Nat.ne_of_lt cl)]
    exact (hf c hc).1
  done := by
    intro X hP hw hK hc i pins s σ H E I hf Z hg
    subst hP hw hK
    obtain ⟨xs, ys, hq1, hq2, hend⟩ := hg
    obtain ⟨its1, r1, p1, _⟩ := I.seqX hq1
    obtain ⟨its2, r2, p2, _⟩ := I.seqX hq2
    have n1 := r1.length
    have n2 := r2.length
    obtain ⟨⟨old, ee⟩, zz⟩ := Z
    refine ez_end (I.ok.hd hc) D ee zz p1 p2 (hend.imp (fun q => by simp; exact OmL.om61 n2 q) (fun q => by simp; exact OmL.om61 n1 q)) fun g k1 => ⟨rfl, I.turnedM (t' := s.toks) (ch := [e, z, TI, TO, i1, i2]) hf fun c o hc e => k1 c o (fun q => hc (by
        simp only [List.mem_cons, List.not_mem_nil, or_false] at q ⊢
        rcases q with q | q | q | q <;> simp [q])) e⟩
  self := fun _ _ _ _ _ Z h => by
    obtain ⟨⟨old, ee⟩, _⟩ := Z
    exact wpAny_pyIter_enum ee h
noncomputable def iEZ (K : PySem.W.Frag) (ta : TA) : TI := fun σ H R => ta σ H fun vs H1 => ∃ t1 t2 a b xs ys, vs = [.ref a, .ref b] ∧ SqX K t1 H1 a xs ∧ SqX K t2 H1 b ys ∧ R (Itez K t1 t2 a b) H1
theorem pi_ez (K : PySem.W.Frag) {e1 e2 : Expr} {es : List Expr} {x1 : Nat} {pos' : Pos} {ta : TA} {p pos p2 pos2 : Pos} (hg0 : Gl X "enumerate") (hm0 : X.mg "enumerate" = none) (hg : Gl X "zip") (hm : X.mg "zip" = none) (ha : PA X [e1, e2] ta) (hK : X.K = K := by rfl)
    (hs : starEach [e1, e2] X.env = [(false, eval e1 X.env), (false, eval e2 X.env)] := by rfl) (hs2 : starEach [e2] X.env = [(false, eval e2 X.env)] := by rfl)
    (hs0 : starEach [.Call (.Name "zip" p2) [e1, e2] [] pos2] X.env = [(false, eval (.Call (.Name "zip" p2) [e1, e2] [] pos2) X.env)] := by rfl) :
    PI X (.Tuple es x1 pos') (.Call (.Name "enumerate" p) [.Call (.Name "zip" p2) [e1, e2] [] pos2] [] pos) (iEZ K ta) := by
  subst hK
  intro pins s σ H R I h
  refine Call_ (ld_blt I hg0 hm0 boot_enum (PyProof.Rows.callWith_type1 ?_ hs0 rfl))
  rw [hs0]
  refine Calls.spliced_cons ?_
  refine Call_ (ld_blt I hg hm boot_zip (PyProof.Rows.callWith_type1 (thn (ha pos2 pins s σ H _ I h) fun us s1 ⟨vs, H1, I1, r1, q1⟩ => ?_) (by rw [hs, hs2]) (by rw [hs2]; rfl)))
  obtain ⟨t1, t2, a, b, xs, ys, e, hq1, hq2, q⟩ := q1
  subst e
  cases r1 with
  | cons r rr =>
    cases rr with
    | cons r' rr =>
      cases rr
      cases r
      cases r'
      obtain ⟨its1, v1, p1, _⟩ := I1.seqX hq1
      obtain ⟨its2, v2, p2, _⟩ := I1.seqX hq2
      refine call_zz p1 p2 fun h' Z k => ?_
      refine Calls.spliced_nil ?_
      have I2 : Inv X pins σ H1 { s1 with heap := h' } := I1.kept (t' := s1.toks) k
      have lt1 : a < s1.heap.objs.size := by obtain ⟨o, ho, _⟩ := p1; exact Heap.lt_size ho
      have lt2 : b < s1.heap.objs.size := by obtain ⟨o, ho, _⟩ := p2; exact Heap.lt_size ho
      have D : Apart (s1.heap.objs.size + 4) (s1.heap.objs.size + 2) (s1.heap.objs.size + 3) s1.heap.objs.size (s1.heap.objs.size + 1) a b := by
        have bad : ∀ {c : Addr} (n : Nat), c < s1.heap.objs.size → c ≠ s1.heap.objs.size + n := fun n h q => absurd (Nat.lt_of_lt_of_le h (Nat.le_add_right _ n)) (by rw [q]; exact Nat.lt_irrefl _)
        exact ⟨by simp, by simp [bad _ lt1, show a ≠ s1.heap.objs.size from bad 0 lt1], by simp [bad _ lt2, show b ≠ s1.heap.objs.size from bad 0 lt2]⟩
      refine call_enZ Z.zz fun h2 ee k2 => ?_
      have I3 : Inv X pins σ H1 { s1 with heap := h2 } := I2.kept (t' := s1.toks) k2
      have zl : s1.heap.objs.size + 4 < h'.objs.size := Heap.lt_size Z.zz
      have ZZ : ZG t1 t2 (s1.heap.objs.size + 4) (s1.heap.objs.size + 2) (s1.heap.objs.size + 3) s1.heap.objs.size (s1.heap.objs.size + 1) a b 0 h2 := by
        obtain ⟨zz, ti, ⟨u, v, to⟩, w1, w2⟩ := Z
        exact ⟨⟨_, _, .inl rfl, k2 _ _ zz⟩, k2 _ _ ti, ⟨u, v, k2 _ _ to⟩, w1.at fun o q => k2 _ o q, w2.at fun o q => k2 _ o q⟩
      refine wpAny_pyIter_enum ee ⟨_, _, _, _, H1, rfl, I3, turn_ez (e := h'.objs.size) D ?_, ⟨⟨_, ee⟩, ZZ⟩, fun c hc => ?_, q⟩
      · intro hc
        simp only [List.mem_cons, List.not_mem_nil, or_false] at hc
        rcases hc with hc | hc | hc | hc | hc
        all_goals exact absurd zl (by rw [hc]; first | exact Nat.not_lt.mpr (Nat.le_add_right _ _) | exact Nat.not_lt.mpr (Nat.add_le_add_left (by decide) _))
      · have hc' : s1.heap.objs.size ≤ c := by
          simp only [List.mem_cons, List.not_mem_nil, or_false] at hc
          rcases hc with rfl | rfl | rfl | rfl | rfl | rfl
          · exact Nat.le_of_lt (Nat.lt_of_le_of_lt (Nat.le_add_right _ 4) zl)
          · exact Nat.le_add_right _ _
          · exact Nat.le_add_right _ _
          · exact Nat.le_add_right _ _
          · exact Nat.le_refl _
          · exact Nat.le_add_right _ _
        exact I1.fpOk hc' (I1.hok.fresh hc')
/-- a for over an enumerate of a zip; what is walked stays -/
theorem for_ez {K : PySem.W.Frag} {t1 t2 : Bool} {a b : Addr} {xs ys : List V} {g : TG} {tb : TS} {D : Ends} {σ : St} {H : Hp} (hl : xs.length = ys.length) (q1 : SqX K t1 H a xs) (q2 : SqX K t2 H b ys) (Pv : Nat → St → Hp → Prop) (h0 : Pv 0 σ H) (hsame : ∀ i σ' H', Pv i σ' H' → Same H H')
    (hs : ∀ (i : Nat) (x y : V) (σ' : St) (H' : Hp) (p1 p2 : Addr), xs[i]? = some x → ys[i]? = some y → Pv i σ' H' → H' p1 = none → H' p2 = none → p1 ≠ p2 → g (.ref p2) σ' (upd (upd H' p1 (.tup [x, y])) p2 (.tup [.int (i : Int), .ref p1])) fun σ2 H2 => tb { D with nx := Pv (i + 1), ct := Pv (i + 1), bk := D.nx } σ2 H2)
    (hd : ∀ σ' H', Pv xs.length σ' H' → D.nx σ' H') :
    ∃ W : Nat → Nat → St → Hp → Prop, (∃ m, W 0 m σ H) ∧ ∀ i m σ H, W i m σ H →
      ((Itez K t1 t2 a b).stop i H ∧ D.nx σ H) ∨ ((Itez K t1 t2 a b).go i H ∧ ∃ N : St → Hp → Prop, (∀ σ' H', N σ' H' → ∃ m', m' < m ∧ W (i + 1) m' σ' H') ∧ ∀ x H', (Itez K t1 t2 a b).yld i H x H' → g x σ H' fun σ2 H2 => tb { D with nx := N, ct := N, bk := D.nx } σ2 H2) := by
  refine ⟨fun i m σ' H' => m = xs.length - i ∧ i ≤ xs.length ∧ Pv i σ' H', ⟨xs.length, by simp, Nat.zero_le _, h0⟩, ?_⟩
  rintro i m σ' H' ⟨rfl, hi, pv⟩
  have g1 := hsame i σ' H' pv
  have q1' := g1.seqX q1
  have q2' := g1.seqX q2
  by_cases hlt : i < xs.length
  · have hx : xs[i]? = some xs[i] := List.getElem?_eq_getElem hlt
    have hy : ys[i]? = some ys[i] := List.getElem?_eq_getElem (by exact OmL.om23 hl hlt)
    refine .inr ⟨⟨xs, ys, _, _, q1', q2', hx, hy⟩, Pv (i + 1), fun σ2 H2 p' => ⟨xs.length - (i + 1), by exact OmL.om70 hl hlt, rfl, by exact OmL.om71 hl hlt, p'⟩, ?_⟩
    rintro v H2 ⟨p1, p2, x, y, rfl, f1, f2, n12, rfl, y1, y2⟩
    exact hs i x y σ' H' p1 p2 (y1 xs q1') (y2 ys q2') pv f1 f2 n12
  · have e : i = xs.length := by exact OmL.om72 hl hi hlt
    refine .inl ⟨⟨xs, ys, q1', q2', .inr (by exact OmL.om73 hl hi hlt)⟩, hd σ' H' ?_⟩
    rw [← e]; exact pv
end
end L2
namespace L2
open PySem PySem.Spec PyProof.Rows
/-! ### len of a dict whose keys are tuples -/
end L2
namespace L2
open PySem PySem.Spec PyProof.Rows
/-! ### a truth in a list of truths -/
noncomputable def rInB (K : PySem.W.Frag) : R2 := fun x y H Q => ∃ (p : Addr) (bs : List Bool) (b : Bool), x = .bl b ∧ y = .ref p ∧ SqL K H p (bs.map V.bl) ∧ Q (.bl (bs.any (· == b))) H
noncomputable def eqBU (b : Bool) (u : Value) : Bool := match u with
  | .bool c => c == b
  | _ => false
theorem v_inB {X : Cx} : OpR X (compareOp .In) (rInB X.K) := by
  intro pins s σ H x y v u Q I rx ry h
  obtain ⟨p, bs, b, rfl, rfl, hq, q⟩ := h
  cases ry
  cases (show v = Value.bool b from rx)
  obtain ⟨its, r, pl, hz⟩ := I.list hq
  have eb := bools_of r
  subst eb
  refine SeqAt.in_listAt (eqBU b) pl.isList (fun w hw => ?_) ⟨.bl _, H, I, rfl, ?_⟩
  · have hw' : w ∈ bs.map Value.bool := by simpa using hw
    obtain ⟨c, _, rfl⟩ := List.mem_map.mp hw'
    exact SeqAt.EqAt.bool_bool c b
  · have e : (bs.map Value.bool).toArray.any (eqBU b) = bs.any (· == b) := by
      rw [show (bs.map Value.bool).toArray.any (eqBU b) = (bs.map Value.bool).any (eqBU b) by simp, List.any_map]
      rfl
    rw [e]; exact q
theorem xinB {X : Cx} (K : PySem.W.Frag) (hK : X.K = K := by rfl) : OpR X (compareOp .In) (rInB K) := by subst hK; exact v_inB
end L2
namespace L2
open PySem PySem.Spec PyProof.Rows
/-! ### try: if c: f(..) else: g(..) except R as n: suite -/
/-- what the suite is told -/
noncomputable def tTaken (base : Heap) (R : Addr) (j : Nat) (ts : Addr → TS) (D : Ends) (σ : St) : XK := fun cls _ H2 => ∃ C, cls = .ref C ∧ ExS base C R ∧ ∀ a, H2 a = none →
    ts a { nx := fun σ' H' => D.nx (σ'.set j none) H', rt := D.rt, bk := fun σ' H' => D.bk (σ'.set j none) H', ct := fun σ' H' => D.ct (σ'.set j none) H' } (σ.set j (some (.ref a))) (upd H2 a (excO a C))
theorem try_lands {X : Cx} {n x : Str} {j : Nat} {R : Addr} {xp hpos : Pos} {b₀ : Stmt} {suite : List Stmt} {ts : Addr → TS} {pins : List (Addr × Obj)} {σ : St} {H H1 : Hp} {s s1 s2 : Shared} {D : Ends} {ev : Value}
    (hstk : X.stack = X.env :: X.outer) (hfr : X.env.frame = some X.env.locals) (hex : X.ex = []) (hN : X.N.Nodup)
    (hj : X.N[j]? = some n) (hn : X.env.scope.names.lookup n = some .local) (hx : Gl X x) (hR : X.mg x = some (.ref R)) (hs : ∀ a, PSs (cxS X a) (b₀ :: suite) (ts a))
    (hdx : (x == ("__debug__" : Str)) = false) (I : Inv X pins σ H s) (I1 : Inv X pins σ H1 s1) (hq : Flown X.prog X.w X.stack H1 s1 (tTaken X.base R j ts D σ) ev s2) :
    wpAny (model X.prog X.w) X.A (noteFrame ev X.env) (fun _ s₂ => wpAny (model X.prog X.w) X.A (setFlight ev none) (fun _ s₃ => wpAny (model X.prog X.w) X.A (handleBy ev X.env [.ExceptHandler (some (.Name x xp)) (some n) (b₀ :: suite) hpos]) (SP X pins D) X.xe s₃) X.xe s₂) X.xe s2 := by
  have nx : ∀ b : Addr, b ∉ X.ex := fun b => by rw [hex]; simp
  obtain ⟨ea, Cc, a0, B, H2, rfl, os, bare, fl, hok, un, old, C', eC, S, q2⟩ := Flown.ex hq
  cases eC
  rw [hstk] at fl
  have frs_eq : frs X.stack = (X.env :: X.outer).filterMap (·.frame) := by rw [hstk]; rfl
  -- the exception's object is new
  have oe := fl.first
  have newE : ∀ u, s1.heap.get? ea ≠ some u := fun u z => by
    rcases old ea u z with hb | ⟨o', hb⟩
    · rw [frs_eq] at hb
      obtain ⟨_, o, ho, hd⟩ := fl.2.2.1.mem hb
      obtain ⟨o2, vs2, e1, _, e2, _⟩ := oe
      rw [e1] at ho; cases ho
      exact hd _ e2
    · rw [fl.2.1] at hb; cases hb
  -- from s1 to any later heap of the flight
  have to : ∀ h6, Heap.FlyingW B (X.env :: X.outer) ea (.ref Cc) a0 h6 → s2.heap.UpToSlots h6 → Inv X pins σ H2 { s2 with heap := h6 } := fun h6 fl6 up => by
    refine I1.call' (ch := []) os ⟨fun b o e1 n1 hb _ => ?_, fun b o e1 n1 hb _ => ?_, fun b o e1 n1 _ => un.free b o e1 n1 (by simp), fun b o e1 _ => ?_, un.tups, un.frzs, un.tbls⟩ (hok.kept fl6.1) bare (fun _ z => nomatch z)
    · rcases old b o e1 with z | ⟨o', z⟩
      · exact absurd z hb
      · have e2 := un.keep b o e1 n1 hb (by simp)
        have e3 := fl.1 b o' z
        rw [e2] at e3; cases e3
        exact fl6.1 b _ z
    · obtain ⟨sl, e2⟩ := un.slot b o e1 n1 hb (by simp)
      rw [frs_eq] at hb
      obtain ⟨_, o2, ho, hd⟩ := fl.2.2.1.mem hb
      rw [e2] at ho; cases ho
      obtain ⟨sl', e3⟩ := up b _ e2 hd
      exact ⟨sl', e3⟩
    · rcases old b o e1 with z | ⟨o', z⟩
      · rw [frs_eq] at z
        obtain ⟨_, o2, ho, hd⟩ := fl.2.2.1.mem z
        obtain ⟨sl', e3⟩ := up b _ ho hd
        exact ⟨_, e3⟩
      · exact ⟨o', fl6.1 b o' z⟩
  have hfrm : X.A.frames = some (X.env :: X.outer) := by rw [I.ok.frames, hstk]
  refine wpAny_looks_onW hfrm hfr fl fun h4 held4 up4 => ?_
  refine wpAny_landsW held4 fun h5 fl5 up5 => ?_
  have I5 := to h5 fl5 (up4.trans up5)
  obtain ⟨ob, hob, hobc⟩ := fl5.there
  refine wpAny_handleBy_cons (codeAny_handlers_test (ld_glob (X := cxS X ea) (I5.suite ea) hx hR ?_ hdx)) (by intro z; cases z)
  refine excMatches_own S I5.bk hob hobc (codeAny_handlers_suite_as ?_)
  refine lands_againW fl5 fun h6 fl6 up6 => ?_
  have I6 := to h6 fl6 ((up4.trans up5).trans up6)
  obtain ⟨oe6, vs6, e6, c6, d6, _⟩ := fl6.first
  have hn2 : H2 ea = none := by
    cases z : H2 ea with
    | none => rfl
    | some u =>
      exfalso
      obtain ⟨o', z'⟩ := (hok ea u z).there
      rw [fl.2.1] at z'; cases z'
  have I7 : Inv X pins σ (upd H2 ea (excO ea Cc)) { s2 with heap := h6 } := by
    refine I6.track hn2 (fun u z => ?_) (fun z => ?_) (fun y c e z => ?_) (fun p hp z => ?_) (excO_ok e6 c6 d6)
    · obtain ⟨o', e1⟩ := I1.base.there ea u z (nx ea)
      exact newE o' e1
    · obtain ⟨m, ⟨o, _, _, ho, _⟩, _⟩ := I1.loc
      exact newE o (by rw [z]; exact ho)
    · obtain ⟨v', o, ho, _⟩ := I1.cell y c e
      exact newE o (by rw [← z]; exact ho)
    · exact newE p.2 (by rw [← z]; exact (I1.pin p hp).1)
  refine store_ok (X := cxS X ea) (I7.suite ea) hN hj (.inl hn) (show RelV (.ref ea) (Value.ref ea) from rfl) (fun s8 I8 => ?_) (.inr hn)
  have q3 := q2 ea hn2
  have gone : ∀ {σ9 : St} {H9 : Hp} {s9 : Shared} {Q' : Unit → Shared → Prop}, Inv (cxS X ea) pins σ9 H9 s9 → (∀ s10, Inv X pins (σ9.set j none) H9 s10 → Q' () s10) → wpAny (model X.prog X.w) X.A (do bindName X.env n .none; unbindBehindTheSuite X.env n hpos) Q' X.xe s9 :=
    fun {σ9 H9 s9 Q'} I9 k => by
      have I9' : Inv X pins σ9 H9 s9 := I9.unsuite I.ok
      obtain ⟨m, hm9, _⟩ := id I9'.loc
      exact wpAny_nameGoes_keeps hn hm9 (by rw [I.ok.kind]; rfl) fun h' v' n' sb => k _ (I9'.unset hN hj hm9 n' sb)
  refine wpAny_mono (hs ea pins s8 _ _ _ I8 q3) (fun fl9 s9 q9 => ?_) fun _ _ z => z.elim
  cases fl9 with
  | next =>
    obtain ⟨σ9, H9, I9, q9⟩ := q9
    exact gone I9 fun s10 I10 => ⟨_, H9, I10, q9⟩
  | brk =>
    obtain ⟨σ9, H9, I9, q9⟩ := q9
    exact gone I9 fun s10 I10 => ⟨_, H9, I10, q9⟩
  | cont =>
    obtain ⟨σ9, H9, I9, q9⟩ := q9
    exact gone I9 fun s10 I10 => ⟨_, H9, I10, q9⟩
  | ret u =>
    obtain ⟨y, σ9, H9, I9, r9, q9⟩ := q9
    exact gone I9 fun s10 I10 => ⟨y, _, H9, I10, r9, q9⟩
theorem try_one {X : Cx} {n x f : Str} {j k k' : Nat} {ps : List Str} {sp : Sp} {R : Addr} {fp cpos epos xp hpos : Pos} {e : Expr} {es : List Expr} {b₀ : Stmt} {suite : List Stmt} {t : TA} {ts : Addr → TS} {pins : List (Addr × Obj)} {σ : St} {H : Hp} {s : Shared} {D : Ends}
    (C : Cal X.prog X.w X.K X.mg X.base f k ps sp) (hr : Room k' X.A) (hstk : X.stack = X.env :: X.outer) (hfr : X.env.frame = some X.env.locals) (hex : X.ex = []) (hg : Gl X f) (ha : PA X.nox (e :: es) t) (hN : X.N.Nodup)
    (hj : X.N[j]? = some n) (hn : X.env.scope.names.lookup n = some .local) (hx : Gl X x) (hR : X.mg x = some (.ref R)) (hs : ∀ a, PSs (cxS X a) (b₀ :: suite) (ts a)) (hk : k ≤ k')
    (hdf : (f == ("__debug__" : Str)) = false) (hdx : (x == ("__debug__" : Str)) = false)
    (he : starEach (e :: es) X.env = (false, eval e X.env) :: starEach es X.env) (hpl : (backTo cpos (starEach es X.env)).any (·.1) = false)
    (hsw : swapsWith (.Call (.Name f fp) (e :: es) [] cpos) none epos.line X.env = pure false) (I : Inv X pins σ H s)
    (h : t σ H fun vs H1 => sp vs H1 (fun _ H2 => D.nx σ H2) (tTaken X.base R j ts D σ)) :
    wpAny (model X.prog X.w) X.A (execs [.Expr (.Call (.Name f fp) (e :: es) [] cpos) epos] X.env) (fun fl s₁ => match fl with | .next => wpAny (model X.prog X.w) X.A (execs [] X.env) (fun fl s₁ => match fl with | .next => wpAny (model X.prog X.w) X.A (execs [] X.env) (SP X pins D) X.xe s₁ | f => SP X pins D f s₁) (fun e s₁ => wpAny (model X.prog X.w) X.A (noteFrame e X.env) (fun _ s₂ => wpAny (model X.prog X.w) X.A (setFlight e none) (fun _ s₃ => wpAny (model X.prog X.w) X.A (handleBy e X.env [.ExceptHandler (some (.Name x xp)) (some n) (b₀ :: suite) hpos]) (SP X pins D) X.xe s₃) X.xe s₂) X.xe s₁) s₁ | f => (match f with | .next => wpAny (model X.prog X.w) X.A (execs [] X.env) (SP X pins D) X.xe s₁ | f => SP X pins D f s₁))
      (fun e s₁ => wpAny (model X.prog X.w) X.A (noteFrame e X.env) (fun _ s₂ => wpAny (model X.prog X.w) X.A (setFlight e none) (fun _ s₃ => wpAny (model X.prog X.w) X.A (handleBy e X.env [.ExceptHandler (some (.Name x xp)) (some n) (b₀ :: suite) hpos]) (SP X pins D) X.xe s₃) X.xe s₂) X.xe s₁) s := by
  obtain ⟨gf, gd, hm, hkp, hb, F⟩ := C.ex
  refine wpAny_execs_cons (wpAny_Expr_any (wpAny_Call_Name_kw (ld_glob I hg hm ?_ hdf)) I.quiet hsw)
  refine PySem.W.callWith_K (h₀ := X.base) I.ok.mod.kin hkp (wpAny_mono (ha cpos pins s σ H _ (I.wish _) h) (fun us s1 ⟨vs, H1, I1', r, q⟩ => ⟨I1'.kIn, ?_⟩) fun _ _ z => z.elim) he hpl
  have I1 : Inv X pins σ H1 s1 := I1'.unwish
  have hl : (us ++ []).length = ps.length := by
    rw [List.append_nil, ← r.length]; exact F.len _ _ _ _ q
  refine wpAny_call (codeAny_mono (F.run X.A X.stack s1 H1 ⟨us, []⟩ (us ++ []) vs _ _ (hr.mono hk) I1.env0 (hb s1 us I1.kIn hl) (by rw [List.append_nil]; exact r) q) fun rs s2 hq => ?_)
  cases rs with
  | ok fl =>
    cases fl with
    | ret u =>
      obtain ⟨y, H2, I2, ry, q2⟩ := I1.after hq
      exact wpAny_execs_nil (wpAny_execs_nil (wpAny_execs_nil ⟨_, H2, I2, q2⟩))
    | next => exact False.elim hq
    | brk => exact False.elim hq
    | cont => exact False.elim hq
  | error ev => exact try_lands hstk hfr hex hN hj hn hx hR hs hdx I I1 hq
noncomputable def tTryIf (base : Heap) (R : Addr) (sp1 sp2 : Sp) (j : Nat) (tc : TT) (t1 t2 : TA) (ts : Addr → TS) : TS := fun D σ H => tc σ H fun c H0 =>
  if c = true then t1 σ H0 fun vs H1 => sp1 vs H1 (fun _ H2 => D.nx σ H2) (tTaken base R j ts D σ) else t2 σ H0 fun vs H1 => sp2 vs H1 (fun _ H2 => D.nx σ H2) (tTaken base R j ts D σ)
theorem ps_tryIf {X : Cx} {n x f g : Str} {j k1 k2 k' : Nat} {ps1 ps2 : List Str} {sp1 sp2 : Sp} {R : Addr} {fp cpos epos fp2 cpos2 epos2 ipos xp hpos pos : Pos} {c e e2 : Expr} {es es2 : List Expr} {b₀ : Stmt} {suite : List Stmt} {tc : TT} {t1 t2 : TA} {ts : Addr → TS}
    (C1 : Cal X.prog X.w X.K X.mg X.base f k1 ps1 sp1) (C2 : Cal X.prog X.w X.K X.mg X.base g k2 ps2 sp2) (hr : Room k' X.A) (hstk : X.stack = X.env :: X.outer) (hfr : X.env.frame = some X.env.locals) (hex : X.ex = []) (hg1 : Gl X f) (hg2 : Gl X g)
    (hc : PT X.nox c tc) (ha1 : PA X.nox (e :: es) t1) (ha2 : PA X.nox (e2 :: es2) t2) (hN : X.N.Nodup)
    (hj : X.N[j]? = some n) (hn : X.env.scope.names.lookup n = some .local) (hx : Gl X x) (hR : X.mg x = some (.ref R)) (hs : ∀ a, PSs (cxS X a) (b₀ :: suite) (ts a)) (hk1 : k1 ≤ k' := by decide) (hk2 : k2 ≤ k' := by decide)
    (hdf1 : (f == ("__debug__" : Str)) = false := by decide) (hdf2 : (g == ("__debug__" : Str)) = false := by decide) (hdx : (x == ("__debug__" : Str)) = false := by decide)
    (he1 : starEach (e :: es) X.env = (false, eval e X.env) :: starEach es X.env := by rfl) (hpl1 : (backTo cpos (starEach es X.env)).any (·.1) = false := by rfl)
    (he2 : starEach (e2 :: es2) X.env = (false, eval e2 X.env) :: starEach es2 X.env := by rfl) (hpl2 : (backTo cpos2 (starEach es2 X.env)).any (·.1) = false := by rfl)
    (hsw1 : swapsWith (.Call (.Name f fp) (e :: es) [] cpos) none epos.line X.env = pure false := by rfl) (hsw2 : swapsWith (.Call (.Name g fp2) (e2 :: es2) [] cpos2) none epos2.line X.env = pure false := by rfl) :
    PS X (.Try [.If c [.Expr (.Call (.Name f fp) (e :: es) [] cpos) epos] [.Expr (.Call (.Name g fp2) (e2 :: es2) [] cpos2) epos2] ipos] [.ExceptHandler (some (.Name x xp)) (some n) (b₀ :: suite) hpos] [] [] pos) (tTryIf X.base R sp1 sp2 j tc t1 t2 ts) := by
  intro pins s σ H D I h
  refine wpAny_Try_except (wpAny_execs_cons (wpAny_If (wpAny_mono (hc pins s σ H _ (I.wish _) h) (fun d s1 ⟨H1, I1', q1⟩ => ?_) fun _ _ z => z.elim)))
  have I1 : Inv X pins σ H1 s1 := I1'.unwish
  cases d with
  | true => exact try_one C1 hr hstk hfr hex hg1 ha1 hN hj hn hx hR hs hk1 hdf1 hdx he1 hpl1 hsw1 I1 q1
  | false => exact try_one C2 hr hstk hfr hex hg2 ha2 hN hj hn hx hR hs hk2 hdf2 hdx he2 hpl2 hsw2 I1 q1
/-! ### try: f(..) except R as n: suite -/
end L2
namespace Rm
/-! ### rows, as plain functions -/
noncomputable def tk (b n : Int) : Int := if b = 0 then n else n % b
theorem tk_zero (n : Int) : tk 0 n = n := if_pos rfl
theorem tk_pos {b : Int} (h : b ≠ 0) (n : Int) : tk b n = n % b := if_neg h
theorem tk_add_l (b x y : Int) : tk b (tk b x + y) = tk b (x + y) := by
  unfold tk; split
  · rfl
  · exact Int.emod_add_emod ..
theorem tk_add_r (b x y : Int) : tk b (x + tk b y) = tk b (x + y) := by
  rw [Int.add_comm, tk_add_l, Int.add_comm]
theorem tk_mul_r (b x y : Int) : tk b (x * tk b y) = tk b (x * y) := by
  unfold tk; split
  · rfl
  · rw [Int.mul_emod, Int.emod_emod_of_dvd _ (Int.dvd_refl b), ← Int.mul_emod]
theorem tk_mul_l (b x y : Int) : tk b (tk b x * y) = tk b (x * y) := by
  rw [Int.mul_comm, tk_mul_r, Int.mul_comm]
theorem tk_congr_add {b x x' y y' : Int} (h : tk b x = tk b x') (h' : tk b y = tk b y') : tk b (x + y) = tk b (x' + y') := by
  rw [← tk_add_l, ← tk_add_r, h, h', tk_add_r, tk_add_l]
/-- the sum over k below m of rule[k] times f (n - 1 - k) -/
noncomputable def S (rule : List Int) (f : Nat → Int) (n : Nat) : Nat → Int
  | 0 => 0
  | m + 1 => S rule f n m + rule.getD m 0 * f (n - 1 - m)
theorem S_congr {rule : List Int} {f g : Nat → Int} {n : Nat} : ∀ {m : Nat}, (∀ k, k < m → f (n - 1 - k) = g (n - 1 - k)) → S rule f n m = S rule g n m
  | 0, _ => rfl
  | m + 1, h => by
    unfold S
    rw [S_congr fun k hk => h k (by exact OmL.om74 hk), h m (by exact OmL.om75)]
theorem getD_map {f : Int → Int} (h0 : f 0 = 0) : ∀ (l : List Int) (k : Nat), (l.map f).getD k 0 = f (l.getD k 0)
  | [], k => by simp [h0]
  | x :: r, 0 => by simp
  | x :: r, k + 1 => by
    have := getD_map h0 r k
    simpa using this
/-- the first n places -/
noncomputable def row (b : Int) (rule starts : List Int) : Nat → List Int
  | 0 => []
  | n + 1 => row b rule starts n ++ [if n < starts.length then starts.getD n 0 else tk b (S rule (fun i => (row b rule starts n).getD i 0) n rule.length)]
theorem row_len (b : Int) (rule starts : List Int) : ∀ n, (row b rule starts n).length = n
  | 0 => rfl
  | n + 1 => by simp [row, row_len b rule starts n]
noncomputable def at_ (b : Int) (rule starts : List Int) (n : Nat) : Int := (row b rule starts (n + 1)).getD n 0
theorem row_get (b : Int) (rule starts : List Int) : ∀ {n i : Nat}, i < n → (row b rule starts n).getD i 0 = at_ b rule starts i
  | n + 1, i, h => by
    by_cases e : i = n
    · subst e; rfl
    · have hi : i < n := by exact OmL.om76 h e
      have hl := row_len b rule starts n
      have := row_get b rule starts (n := n) (i := i) hi
      rw [← this]
      show (row b rule starts n ++ _).getD i 0 = _
      rw [List.getD_eq_getElem?_getD, List.getElem?_append_left (by exact OmL.om77 hi hl), ← List.getD_eq_getElem?_getD]
theorem at_val (b : Int) (rule starts : List Int) (n : Nat) : at_ b rule starts n = if n < starts.length then starts.getD n 0 else tk b (S rule (fun i => (row b rule starts n).getD i 0) n rule.length) := by
  unfold at_
  have hl := row_len b rule starts n
  show (row b rule starts n ++ _).getD n 0 = _
  rw [List.getD_eq_getElem?_getD, List.getElem?_append_right (by exact OmL.om78 hl), hl]
  simp
theorem at_lt {b : Int} {rule starts : List Int} {n : Nat} (h : n < starts.length) : at_ b rule starts n = starts.getD n 0 := by
  rw [at_val, if_pos h]
theorem at_ge {b : Int} {rule starts : List Int} {n : Nat} (hl : rule.length = starts.length) (h : starts.length ≤ n) : at_ b rule starts n = tk b (S rule (at_ b rule starts) n rule.length) := by
  rw [at_val, if_neg (by exact OmL.om79 h)]
  congr 1
  refine S_congr fun k hk => row_get b rule starts (by exact OmL.om80 hl h hk)
theorem row_eq (b : Int) (rule starts : List Int) : ∀ n, row b rule starts n = (List.range n).map (at_ b rule starts)
  | 0 => rfl
  | n + 1 => by
    rw [List.range_succ, List.map_append, ← row_eq b rule starts n]
    show _ ++ [_] = _ ++ [at_ b rule starts n]
    rw [at_val]
theorem row_succ (b : Int) (rule starts : List Int) (n : Nat) : row b rule starts (n + 1) = row b rule starts n ++ [at_ b rule starts n] := by
  rw [at_val]; rfl
/-- what goes by the rule is the row -/
theorem at_uniq {b : Int} {rule starts : List Int} (hl : rule.length = starts.length) {g : Nat → Int} (h1 : ∀ i, i < starts.length → g i = starts.getD i 0)
    (h2 : ∀ i, starts.length ≤ i → g i = tk b (S rule g i rule.length)) : ∀ n, at_ b rule starts n = g n := by
  intro n
  induction n using Nat.strongRecOn with
  | ind n ih =>
    by_cases h : n < starts.length
    · rw [at_lt h, h1 n h]
    · rw [at_ge hl (by exact OmL.om60 h), h2 n (by exact OmL.om60 h)]
      congr 1
      exact S_congr fun k hk => ih _ (by exact OmL.om81 hl h hk)
theorem row_starts {b : Int} {rule starts : List Int} : ∀ {n : Nat}, n ≤ starts.length → row b rule starts n = starts.take n
  | 0, _ => by simp [row]
  | n + 1, h => by
    rw [row_succ, row_starts (by exact OmL.om82 h), at_lt (by exact OmL.om83 h), List.take_add_one, List.getD_eq_getElem?_getD, List.getElem?_eq_getElem (by exact OmL.om83 h)]
    rfl
/-! ### sizes -/
noncomputable def Bd (n : Nat) (x : Int) : Prop := x.natAbs < 2 ^ n
theorem Bd.mono {m n : Nat} {x : Int} (h : Bd m x) (hmn : m ≤ n) : Bd n x := Nat.lt_of_lt_of_le h (Nat.pow_le_pow_right (by decide) hmn)
theorem Bd.mul {m n : Nat} {x y : Int} (h : Bd m x) (h' : Bd n y) : Bd (m + n) (x * y) := by
  unfold Bd at *
  rw [Int.natAbs_mul, Nat.pow_add]
  exact Nat.mul_lt_mul'' h h'
theorem Bd.add {n : Nat} {x y : Int} (h : Bd n x) (h' : Bd n y) : Bd (n + 1) (x + y) := by
  unfold Bd at *
  have := Int.natAbs_add_le x y
  rw [Nat.pow_succ]
  exact OmL.om84 h h' this
theorem Bd.zero (n : Nat) : Bd n 0 := Nat.pow_pos (by decide)
theorem Bd.of {n : Nat} {x : Int} (h1 : -(2 ^ n) < x) (h2 : x < 2 ^ n) : Bd n x := by
  unfold Bd
  have e : ((2 ^ n : Nat) : Int) = (2 : Int) ^ n := by simp
  exact OmL.om85 h1 h2 e
theorem Bd.emod {n : Nat} {x b : Int} (hb : 0 < b) (h : Bd n b) : Bd n (x % b) := by
  unfold Bd at *
  have := Int.emod_nonneg x (show b ≠ 0 by exact OmL.om10 hb)
  have := Int.emod_lt_of_pos x hb
  omega
theorem Bd.S {rule : List Int} {f : Nat → Int} {n a c : Nat} (hr : ∀ k, Bd a (rule.getD k 0)) : ∀ m : Nat, (∀ k, k < m → Bd c (f (n - 1 - k))) → Bd (a + c + m) (Rm.S rule f n m)
  | 0, _ => Bd.zero _
  | m + 1, h => by
    unfold Rm.S
    refine Bd.add (n := a + c + m) (Bd.S hr m fun k hk => h k (by exact OmL.om74 hk)) (((hr m).mul (h m (by exact OmL.om75))).mono (by exact OmL.om86))
theorem getD_mem_or (l : List Int) (k : Nat) : l.getD k 0 = 0 ∨ l.getD k 0 ∈ l := by
  by_cases h : k < l.length
  · right
    rw [List.getD_eq_getElem?_getD, List.getElem?_eq_getElem h]
    exact List.getElem_mem h
  · left
    rw [List.getD_eq_getElem?_getD, List.getElem?_eq_none (by exact OmL.om60 h)]
    rfl
theorem Bd.getD {l : List Int} {n : Nat} (h : ∀ x ∈ l, Bd n x) (k : Nat) : Bd n (l.getD k 0) := by
  rcases getD_mem_or l k with e | e
  · rw [e]; exact .zero n
  · exact h _ e
theorem tk_bd {b x : Int} {n : Nat} (hb : 0 ≤ b) (hb' : Bd n b) (h : Bd n x) : Bd n (tk b x) := by
  unfold tk
  split
  · exact h
  · exact Bd.emod (by omega) hb'
theorem at_bd {b : Int} {rule starts : List Int} {a c : Nat} (hl : rule.length = starts.length) (hb : 0 ≤ b) (hb' : Bd c b) (hr : ∀ x ∈ rule, Bd a x) (hs : ∀ x ∈ starts, Bd c x) :
    ∀ n, Bd (c + n * (a + rule.length)) (at_ b rule starts n) := by
  intro n
  induction n using Nat.strongRecOn with
  | ind n ih =>
    by_cases h : n < starts.length
    · rw [at_lt h]
      exact (Bd.getD hs n).mono (by exact OmL.om87)
    · rw [at_ge hl (by exact OmL.om60 h)]
      by_cases h0 : rule.length = 0
      · rw [h0]
        exact tk_bd hb (hb'.mono (by exact OmL.om87)) (.zero _)
      · have hn : 0 < n := by exact OmL.om88 hl h h0
        have q := Bd.S (rule := rule) (f := at_ b rule starts) (n := n) (a := a) (c := c + (n - 1) * (a + rule.length)) (fun k => Bd.getD hr k) rule.length fun k hk => by
          refine (ih (n - 1 - k) (by exact OmL.om81 hl h hk)).mono ?_
          have : (n - 1 - k) * (a + rule.length) ≤ (n - 1) * (a + rule.length) := Nat.mul_le_mul_right _ (by exact OmL.om89 hn)
          exact OmL.om90 this
        have e : n * (a + rule.length) = (n - 1) * (a + rule.length) + (a + rule.length) := by
          obtain ⟨m, rfl⟩ : ∃ m, n = m + 1 := ⟨n - 1, by exact OmL.om91 hn⟩
          rw [Nat.add_sub_cancel, Nat.succ_mul]
        exact tk_bd hb (hb'.mono (by exact OmL.om92 hl e)) (q.mono (by exact OmL.om93 hl e))
theorem at_range {b : Int} {rule starts : List Int} (hl : rule.length = starts.length) (hb : 0 < b) (hs : ∀ x ∈ starts, 0 ≤ x ∧ x < b) (n : Nat) : 0 ≤ at_ b rule starts n ∧ at_ b rule starts n < b := by
  by_cases h : n < starts.length
  · rw [at_lt h, List.getD_eq_getElem?_getD, List.getElem?_eq_getElem h]
    exact hs _ (List.getElem_mem h)
  · rw [at_ge hl (by exact OmL.om60 h), tk_pos (by exact OmL.om10 hb)]
    exact ⟨Int.emod_nonneg _ (by exact OmL.om10 hb), Int.emod_lt_of_pos _ hb⟩
end Rm
namespace Om
noncomputable def primesN : List Nat := [2, 3, 5, 7, 11, 13, 17, 19, 23, 29, 31, 37, 41, 43, 47, 53, 59, 61, 67, 71, 73, 79, 83, 89, 97, 101, 103, 107, 109, 113, 127, 131, 137, 139, 149, 151, 157, 163, 167, 173, 179, 181, 191, 193, 197, 199, 211, 223, 227, 229, 233, 239, 241, 251, 257, 263, 269, 271, 277, 281, 283, 293, 307, 311, 313, 317, 331, 337, 347, 349, 353, 359, 367, 373, 379, 383, 389, 397, 401, 409, 419, 421, 431, 433, 439, 443, 449, 457, 461, 463, 467, 479, 487, 491, 499, 503, 509, 521, 523, 541, 547, 557, 563, 569, 571, 577, 587, 593, 599, 601, 607, 613, 617, 619, 631, 641, 643, 647, 653, 659, 661, 673, 677, 683, 691, 701, 709, 719, 727, 733, 739, 743, 751, 757, 761, 769, 773, 787, 797, 809, 811, 821, 823, 827, 829, 839, 853, 857, 859, 863, 877, 881, 883, 887, 907, 911, 919, 929, 937, 941, 947, 953, 967, 971, 977, 983, 991, 997]
end Om
namespace Pm
open Rm
/-! ### sums -/
noncomputable def sm : Nat → (Nat → Int) → Int
  | 0, _ => 0
  | n + 1, f => sm n f + f n
theorem sm_congr {f g : Nat → Int} : ∀ {n : Nat}, (∀ k, k < n → f k = g k) → sm n f = sm n g
  | 0, _ => rfl
  | n + 1, h => by rw [sm, sm, sm_congr fun k hk => h k (by exact OmL.om74 hk), h n (by exact OmL.om75)]
theorem sm_head (f : Nat → Int) : ∀ n : Nat, sm (n + 1) f = f 0 + sm n (fun i => f (i + 1))
  | 0 => by simp [sm]
  | n + 1 => by
    rw [sm, sm_head f n, sm, Int.add_assoc]
theorem sm_add (f g : Nat → Int) : ∀ n : Nat, sm n (fun k => f k + g k) = sm n f + sm n g
  | 0 => rfl
  | n + 1 => by rw [sm, sm, sm, sm_add f g n]; exact OmL.om94
theorem sm_mul (c : Int) (f : Nat → Int) : ∀ n : Nat, sm n (fun k => c * f k) = c * sm n f
  | 0 => by simp [sm]
  | n + 1 => by rw [sm, sm, sm_mul c f n, Int.mul_add]
theorem tk0 (b : Int) : tk b 0 = 0 := by unfold tk; split <;> simp
theorem tk_sm {b : Int} {f g : Nat → Int} : ∀ {n : Nat}, (∀ k, k < n → tk b (f k) = tk b (g k)) → tk b (sm n f) = tk b (sm n g)
  | 0, _ => rfl
  | n + 1, h => by
    rw [sm, sm]
    exact tk_congr_add (tk_sm fun k hk => h k (by exact OmL.om74 hk)) (h n (by exact OmL.om75))
/-! ### products -/
/-! ### lists of numbers -/
noncomputable def co (p : List Int) (k : Nat) : Int := p.getD k 0
theorem co_succ (x : Int) (r : List Int) (k : Nat) : co (x :: r) (k + 1) = co r k := by simp [co]
theorem co_ge {p : List Int} {k : Nat} (h : p.length ≤ k) : co p k = 0 := by
  rw [co, List.getD_eq_getElem?_getD, List.getElem?_eq_none h]; rfl
theorem co_lt {p : List Int} {k : Nat} (h : k < p.length) : co p k = p[k] := by
  rw [co, List.getD_eq_getElem?_getD, List.getElem?_eq_getElem h]; rfl
theorem co_mem {p : List Int} {k : Nat} (h : k < p.length) : co p k ∈ p := by rw [co_lt h]; exact List.getElem_mem h
noncomputable def ofF (n : Nat) (f : Nat → Int) : List Int := (List.range n).map f
theorem ofF_len (n : Nat) (f : Nat → Int) : (ofF n f).length = n := by simp [ofF]
theorem co_ofF (n : Nat) (f : Nat → Int) (k : Nat) : co (ofF n f) k = if k < n then f k else 0 := by
  by_cases h : k < n
  · rw [if_pos h, co, ofF, List.getD_eq_getElem?_getD, List.getElem?_map, List.getElem?_range h]; rfl
  · rw [if_neg h, co_ge (by rw [ofF_len]; exact OmL.om60 h)]
theorem ofF_succ (n : Nat) (f : Nat → Int) : ofF (n + 1) f = ofF n f ++ [f n] := by
  rw [ofF, List.range_succ, List.map_append]; rfl
theorem ofF_co (p : List Int) : ofF p.length (co p) = p := by
  apply List.ext_getElem (by rw [ofF_len])
  intro i h1 h2
  simp only [ofF, List.getElem_map, List.getElem_range]
  exact co_lt h2
theorem co_ext {p q : List Int} (hl : p.length = q.length) (h : ∀ k, co p k = co q k) : p = q := by
  rw [← ofF_co p, ← ofF_co q, hl]
  exact List.map_congr_left fun k _ => h k
theorem co_map {f : Int → Int} (h : f 0 = 0) (p : List Int) (k : Nat) : co (p.map f) k = f (co p k) := getD_map h p k
theorem co_append (p q : List Int) (k : Nat) : co (p ++ q) k = if k < p.length then co p k else co q (k - p.length) := by
  unfold co
  by_cases h : k < p.length
  · rw [if_pos h, List.getD_eq_getElem?_getD, List.getElem?_append_left h, ← List.getD_eq_getElem?_getD]
  · rw [if_neg h, List.getD_eq_getElem?_getD, List.getElem?_append_right (by exact OmL.om60 h), ← List.getD_eq_getElem?_getD]
/-! ### without noughts behind -/
noncomputable def trim : List Int → List Int
  | [] => []
  | x :: r => if x = 0 ∧ trim r = [] then [] else x :: trim r
theorem mem_ofF {n : Nat} {f : Nat → Int} {x : Int} (h : x ∈ ofF n f) : ∃ k, k < n ∧ x = f k := by
  obtain ⟨k, hk, e⟩ := List.mem_map.mp h
  exact ⟨k, List.mem_range.mp hk, e.symm⟩
/-! ### sums, products -/
/-! ### the product, step by step -/
end Pm
namespace Pm
open Rm
/-! ### what keeps a row -/
theorem S_sm (rule : List Int) (f : Nat → Int) (n : Nat) : ∀ m : Nat, S rule f n m = sm m (fun k => co rule k * f (n - 1 - k))
  | 0 => rfl
  | m + 1 => by rw [S, sm, S_sm rule f n m]; rfl
/-! ### sizes -/
theorem Bd_co {p : List Int} {u : Nat} (h : ∀ x ∈ p, Bd u x) (k : Nat) : Bd u (co p k) := Bd.getD h k
end Pm
namespace Pm
open Rm
/-! ### divided by a monic one -/
/-! ### sizes -/
end Pm
namespace Dm
open Pm
/-! ### determinants, by what stands in the last line -/
/-! ### two beside each other exchanged -/
/-! ### lines -/
end Dm
namespace Dm
open Pm
/-! ### columns that are sums, or nought -/
/-! ### the numbers that stand in the lines, as determinants -/
/-! ### what stands in line i behind r heads -/
/-! ### a column without a head -/
end Dm
namespace Dm
open Pm Rm
/-! ### a table's lines, cleared column by column -/
/-- the line i of a table -/
noncomputable def ln (L : List (List Int)) (i : Nat) : List Int := L.getD i []
/-! ### sizes -/
end Dm
namespace K26
open PySem L2
seal PA PE PS PSs PT PW PI PG PGs PO PIf
noncomputable def top (i : Nat) : Stmt := PySem.Challenge.pw_nextbyrule_k26_where_rows_part.main.body.getD i (.Pass ⟨0, 0, 0, 0⟩)
noncomputable abbrev s_taken : Stmt := top 12
noncomputable abbrev s_shared_by : Stmt := top 16
noncomputable abbrev s_next_place : Stmt := top 17
noncomputable abbrev s_first_places : Stmt := top 18
noncomputable abbrev s_times : Stmt := top 21
noncomputable abbrev s_divided : Stmt := top 22
noncomputable abbrev s_shared_divisor : Stmt := top 34
noncomputable abbrev s_least_of : Stmt := top 37
noncomputable abbrev s_parting : Stmt := top 39
noncomputable abbrev s_common : Stmt := top 40
noncomputable abbrev s_Lcell_at : Stmt := top 42
noncomputable abbrev s_Lmixed : Stmt := top 43
noncomputable abbrev s_Lby : Stmt := top 44
noncomputable abbrev s_Ltaken : Stmt := top 45
noncomputable abbrev s_Lnumber : Stmt := top 46
noncomputable abbrev s_Lgone : Stmt := top 47
noncomputable abbrev s_Lrow : Stmt := top 48
noncomputable abbrev s_Llonger : Stmt := top 49
noncomputable abbrev s_Lother : Stmt := top 50
noncomputable abbrev s_Llate : Stmt := top 51
noncomputable abbrev s_Lrefused : Stmt := top 52
noncomputable abbrev s_law : Stmt := top 53
theorem sc_taken : FnScope ["by", "number"] ["by", "number"] (defScope s_taken) := ⟨rfl, rfl, rfl, by decide +kernel, rfl, by decide +kernel, by decide +kernel⟩
theorem sc_shared_by : FnScope ["one", "other"] ["one", "other"] (defScope s_shared_by) := ⟨rfl, rfl, rfl, by decide +kernel, rfl, by decide +kernel, by decide +kernel⟩
theorem sc_next_place : FnScope ["by", "rule", "before", "total", "k"] ["by", "rule", "before"] (defScope s_next_place) := ⟨rfl, rfl, rfl, by decide +kernel, rfl, by decide +kernel, by decide +kernel⟩
theorem sc_first_places : FnScope ["row", "count", "by", "rule", "starts", "found"] ["row", "count"] (defScope s_first_places) := ⟨rfl, rfl, rfl, by decide +kernel, rfl, by decide +kernel, by decide +kernel⟩
theorem sc_times : FnScope ["by", "one", "other", "total", "i", "k"] ["by", "one", "other"] (defScope s_times) := ⟨rfl, rfl, rfl, by decide +kernel, rfl, by decide +kernel, by decide +kernel⟩
theorem sc_divided : FnScope ["by", "one", "other", "top", "often", "left", "shift", "factor", "k"] ["by", "one", "other"] (defScope s_divided) := ⟨rfl, rfl, rfl, by decide +kernel, rfl, by decide +kernel, by decide +kernel⟩
theorem sc_shared_divisor : FnScope ["by", "one", "other"] ["by", "one", "other"] (defScope s_shared_divisor) := ⟨rfl, rfl, rfl, by decide +kernel, rfl, by decide +kernel, by decide +kernel⟩
theorem sc_least_of : FnScope ["row", "by", "poly", "top"] ["row"] (defScope s_least_of) := ⟨rfl, rfl, rfl, by decide +kernel, rfl, by decide +kernel, by decide +kernel⟩
theorem sc_parting : FnScope ["one", "other", "count", "ours", "theirs", "n"] ["one", "other"] (defScope s_parting) := ⟨rfl, rfl, rfl, by decide +kernel, rfl, by decide +kernel, by decide +kernel⟩
theorem sc_common : FnScope ["one", "other", "by", "ours", "theirs", "shared"] ["one", "other"] (defScope s_common) := ⟨rfl, rfl, rfl, by decide +kernel, rfl, by decide +kernel, by decide +kernel⟩
theorem sc_Lcell_at : FnScope ["_law_script", "_law_k"] ["_law_script", "_law_k"] (defScope s_Lcell_at) := ⟨rfl, rfl, rfl, by decide +kernel, rfl, by decide +kernel, by decide +kernel⟩
theorem sc_Lmixed : FnScope ["_law_cell", "_law_k", "_law_number_here"] ["_law_cell", "_law_k"] (defScope s_Lmixed) := ⟨rfl, rfl, rfl, by decide +kernel, rfl, by decide +kernel, by decide +kernel⟩
theorem sc_Lby : FnScope ["_law_cell"] ["_law_cell"] (defScope s_Lby) := ⟨rfl, rfl, rfl, by decide +kernel, rfl, by decide +kernel, by decide +kernel⟩
theorem sc_Ltaken : FnScope ["_law_by_here", "_law_number_here"] ["_law_by_here", "_law_number_here"] (defScope s_Ltaken) := ⟨rfl, rfl, rfl, by decide +kernel, rfl, by decide +kernel, by decide +kernel⟩
theorem sc_Lnumber : FnScope ["_law_by_here", "_law_cell", "_law_sort"] ["_law_by_here", "_law_cell", "_law_sort"] (defScope s_Lnumber) := ⟨rfl, rfl, rfl, by decide +kernel, rfl, by decide +kernel, by decide +kernel⟩
theorem sc_Lgone : FnScope ["_law_row_here", "_law_count", "_law_by_here", "_law_rule", "_law_starts", "_law_found", "_law_total", "_law_k", "_law_number_here"] ["_law_row_here", "_law_count"] (defScope s_Lgone) := ⟨rfl, rfl, rfl, by decide +kernel, rfl, by decide +kernel, by decide +kernel⟩
theorem sc_Lrow : FnScope ["_law_script", "_law_start", "_law_by_here", "_law_most", "_law_cell", "_law_size", "_law_sort", "_law_rule", "_law_starts"] ["_law_script", "_law_start", "_law_by_here", "_law_most"] (defScope s_Lrow) := ⟨rfl, rfl, rfl, by decide +kernel, rfl, by decide +kernel, by decide +kernel⟩
theorem sc_Llonger : FnScope ["_law_row_here", "_law_number_here", "_law_by_here", "_law_rule", "_law_starts", "_law_low", "_law_some"] ["_law_row_here", "_law_number_here"] (defScope s_Llonger) := ⟨rfl, rfl, rfl, by decide +kernel, rfl, by decide +kernel, by decide +kernel⟩
theorem sc_Lother : FnScope ["_law_script", "_law_by_here", "_law_row_here", "_law_cell", "_law_other_here", "_law_k", "_law_size", "_law_rule", "_law_some", "_law_at_place"] ["_law_script", "_law_by_here", "_law_row_here"] (defScope s_Lother) := ⟨rfl, rfl, rfl, by decide +kernel, rfl, by decide +kernel, by decide +kernel⟩
theorem sc_Llate : FnScope ["_law_script", "_law_by_here", "_law_cell", "_law_size", "_law_rule", "_law_other_here", "_law_starts"] ["_law_script", "_law_by_here"] (defScope s_Llate) := ⟨rfl, rfl, rfl, by decide +kernel, rfl, by decide +kernel, by decide +kernel⟩
theorem sc_Lrefused : FnScope ["_law_way", "_law_one", "_law_other_here", "_law_caught", "e", "_law_others"] ["_law_way", "_law_one", "_law_other_here"] (defScope s_Lrefused) := ⟨rfl, rfl, rfl, by decide +kernel, rfl, by decide +kernel, by decide +kernel⟩
theorem sc_law : FnScope ["_law_script", "_law_first", "_law_by_here", "_law_one", "_law_other_here", "_law_count", "_law_due", "_law_n", "_law_pair", "_law_found", "_law_strange"] ["_law_script"] (defScope s_law) := ⟨rfl, rfl, rfl, by decide +kernel, rfl, by decide +kernel, by decide +kernel⟩
noncomputable abbrev cs_Lrow1 : Scope := { kind := .function, names := [(".0", .local), ("_law_k", .local), ("_law_number", .globalImplicit), ("_law_mixed", .globalImplicit), ("_law_cell_at", .globalImplicit), ("_law_by_here", .cell), ("_law_script", .cell), ("_law_sort", .cell), ("_law_start", .cell)], isGenerator := false, isCoroutine := false }
noncomputable abbrev cs_Lrow2 : Scope := { kind := .function, names := [(".0", .local), ("_law_k", .local), ("_law_number", .globalImplicit), ("_law_mixed", .globalImplicit), ("_law_cell_at", .globalImplicit), ("_law_by_here", .cell), ("_law_script", .cell), ("_law_sort", .cell), ("_law_start", .cell)], isGenerator := false, isCoroutine := false }
noncomputable abbrev cs_Lrow3 : Scope := { kind := .function, names := [(".0", .local), ("_law_k", .local), ("_law_number_here", .local), ("_law_mixed", .globalImplicit), ("_law_cell", .cell)], isGenerator := false, isCoroutine := false }
noncomputable abbrev cs_Llonger1 : Scope := { kind := .function, names := [(".0", .local), ("_law_part", .local)], isGenerator := false, isCoroutine := false }
noncomputable abbrev cs_Llonger2 : Scope := { kind := .function, names := [(".0", .local), ("_law_one", .local), ("_law_other_here", .local), ("_law_number_here", .cell)], isGenerator := false, isCoroutine := false }
noncomputable abbrev cs_Llonger3 : Scope := { kind := .function, names := [(".0", .local), ("_law_part", .local), ("_law_taken", .globalImplicit), ("_law_by_here", .cell)], isGenerator := false, isCoroutine := false }
noncomputable abbrev cs_Llate1 : Scope := { kind := .function, names := [(".0", .local), ("_law_k", .local), ("_law_number", .globalImplicit), ("_law_mixed", .globalImplicit), ("_law_cell_at", .globalImplicit), ("_law_by_here", .cell), ("_law_script", .cell)], isGenerator := false, isCoroutine := false }
structure Bt (mg : Str → Option Value) : Prop where
  b_ValueError : mg "ValueError" = none
  b_bool : mg "bool" = none
  b_enumerate : mg "enumerate" = none
  b_isinstance : mg "isinstance" = none
  b_len : mg "len" = none
  b_list : mg "list" = none
  b_max : mg "max" = none
  b_min : mg "min" = none
  b_range : mg "range" = none
  b_sum : mg "sum" = none
  b_tuple : mg "tuple" = none
  b_zip : mg "zip" = none
  g_BELOW_THE_PRIMES : ∃ t, mg "BELOW_THE_PRIMES" = some (.int 1000000 t)
structure Ms (K : PySem.W.Frag) (mg : Str → Option Value) (base : Heap) (A_NoBy A_NoName A_NoNumber A_NoRow A_NoText A_RuleError A_TooBig A_TooFar A_TooLong : Addr) : Prop where
  m_NoBy : mg "NoBy" = some (.ref A_NoBy)
  m_NoName : mg "NoName" = some (.ref A_NoName)
  m_NoNumber : mg "NoNumber" = some (.ref A_NoNumber)
  m_NoRow : mg "NoRow" = some (.ref A_NoRow)
  m_NoText : mg "NoText" = some (.ref A_NoText)
  m_RuleError : mg "RuleError" = some (.ref A_RuleError)
  m_TooBig : mg "TooBig" = some (.ref A_TooBig)
  m_TooFar : mg "TooFar" = some (.ref A_TooFar)
  m_TooLong : mg "TooLong" = some (.ref A_TooLong)
  x_NoBy : ExC mg base "NoBy" A_NoBy
  s_NoBy_RuleError : ExS base A_NoBy A_RuleError
  i_NoBy : ExI K A_NoBy
  k_NoBy_NoBy : PySem.W.kitOne K (.ref A_NoBy) (.ref A_NoBy) = some true
  k_NoBy_NoName : PySem.W.kitOne K (.ref A_NoBy) (.ref A_NoName) = some false
  k_NoBy_NoNumber : PySem.W.kitOne K (.ref A_NoBy) (.ref A_NoNumber) = some false
  k_NoBy_NoRow : PySem.W.kitOne K (.ref A_NoBy) (.ref A_NoRow) = some false
  k_NoBy_NoText : PySem.W.kitOne K (.ref A_NoBy) (.ref A_NoText) = some false
  k_NoBy_RuleError : PySem.W.kitOne K (.ref A_NoBy) (.ref A_RuleError) = some true
  k_NoBy_TooBig : PySem.W.kitOne K (.ref A_NoBy) (.ref A_TooBig) = some false
  k_NoBy_TooFar : PySem.W.kitOne K (.ref A_NoBy) (.ref A_TooFar) = some false
  k_NoBy_TooLong : PySem.W.kitOne K (.ref A_NoBy) (.ref A_TooLong) = some false
  k_NoBy_ValueError : PySem.W.kitOne K (.ref A_NoBy) (.type "ValueError") = some true
noncomputable abbrev KLAW : Nat := 10
/-! ### the drawn numbers -/
noncomputable def cellAt (ns : List Int) (k : Int) : Int := if k < (ns.length : Int) then ns.getD k.toNat 0 else 0
theorem emod_lo (a : Int) {b : Int} (h : 0 < b) : 0 ≤ a % b := Int.emod_nonneg _ (by exact OmL.om10 h)
theorem emod_hi (a : Int) {b : Int} (h : 0 < b) : a % b < b := Int.emod_lt_of_pos _ h
theorem atI_ints {ns : List Int} {k : Int} (h0 : 0 ≤ k) (h1 : k < (ns.length : Int)) : atI (ns.map V.int) k = some (.int (ns.getD k.toNat 0)) := by
  have e : k = ((k.toNat : Nat) : Int) := by exact OmL.om95 h0
  have hk : k.toNat < ns.length := by exact OmL.om96 h1 e
  conv => lhs; rw [e]
  exact atI_nat (by rw [List.getElem?_map, List.getElem?_eq_getElem hk, List.getD_eq_getElem?_getD, List.getElem?_eq_getElem hk] <;> rfl)
theorem dec_true {p : Prop} [Decidable p] (c : decide p = true) : p := of_decide_eq_true c
theorem dec_false {p : Prop} [Decidable p] (c : ¬ decide p = true) : ¬ p := of_decide_eq_false (Bool.eq_false_iff.mpr c)
/-! ### the law's rows -/
/-- a number by a by -/
noncomputable def IsNum (b x : Int) : Prop := b = 0 ∨ (0 ≤ x ∧ x < b)
/-- a row, as plain data -/
structure Rw where
  b : Int
  rule : List Int
  starts : List Int
/-- what is true of each row here -/
structure RwOk (r : Rw) : Prop where
  len : r.rule.length = r.starts.length
  short : r.rule.length ≤ 12
  by0 : 0 ≤ r.b
  by1 : r.b < 1000
  ruleNum : ∀ x ∈ r.rule, IsNum r.b x
  startsNum : ∀ x ∈ r.starts, IsNum r.b x
  ruleBd : ∀ x ∈ r.rule, Rm.Bd 200 x
  startsBd : ∀ x ∈ r.starts, Rm.Bd 1000 x
noncomputable def Rw.row (r : Rw) (n : Nat) : List Int := Rm.row r.b r.rule r.starts n
noncomputable def Rw.at (r : Rw) (n : Nat) : Int := Rm.at_ r.b r.rule r.starts n
theorem RwOk.bd {r : Rw} (h : RwOk r) (n : Nat) (hn : n ≤ 1000) : Rm.Bd 300000 (r.at n) := by
  have q := Rm.at_bd (b := r.b) (rule := r.rule) (starts := r.starts) (a := 200) (c := 1000) h.len h.by0 ((Rm.Bd.of (n := 10) (by have := h.by0; exact OmL.om97 this) (by have := h.by1; exact OmL.om98 this)).mono (by decide)) h.ruleBd h.startsBd n
  refine q.mono ?_
  have h1 := h.short
  have h2 : n * (200 + r.rule.length) ≤ 1000 * 212 := Nat.mul_le_mul hn (by exact OmL.om99 h1)
  exact OmL.om100 h2
theorem RwOk.rowBd {r : Rw} (h : RwOk r) (n : Nat) (hn : n ≤ 1000) : ∀ x ∈ r.row n, Rm.Bd 300000 x := by
  intro x hx
  have e : r.row n = (List.range n).map r.at := Rm.row_eq ..
  rw [e] at hx
  obtain ⟨i, hi, rfl⟩ := List.mem_map.mp hx
  exact h.bd i (by have := List.mem_range.mp hi; exact OmL.om101 hn this)
theorem Rw.row_len (r : Rw) (n : Nat) : (r.row n).length = n := Rm.row_len ..
theorem mulBd {x y : Int} {m n : Nat} (h : Rm.Bd m x) (h' : Rm.Bd n y) (hn : m + n ≤ 134217728) : IntMulOk x y :=
  IntMulOk.of_le (intBits_le_iff.mpr h) (intBits_le_iff.mpr h') hn
/-- a row at a value -/
noncomputable def RowIs (H : Hp) (v : V) (r : Rw) : Prop :=
  ∃ a p q, v = .ref a ∧ H a = some (.tup [.int r.b, .ref p, .ref q]) ∧ H p = some (.tup (r.rule.map V.int)) ∧ H q = some (.tup (r.starts.map V.int))
theorem RowIs.same {H H' : Hp} {v : V} {r : Rw} (h : RowIs H v r) (g : Same H H') : RowIs H' v r := by
  obtain ⟨a, p, q, e, h1, h2, h3⟩ := h
  exact ⟨a, p, q, e, g _ _ h1, g _ _ h2, g _ _ h3⟩
theorem map_snoc (xs : List Int) (x : Int) : (xs ++ [x]).map V.int = xs.map V.int ++ [.int x] := by rw [List.map_append]; rfl
/-- a list told: new, at r -/
noncomputable def Told (H : Hp) (Q : VK) (xs : List V) : Prop := ∀ r H', Same H H' → H r = none → H' r = some (.lst xs) → Q (.ref r) H'
noncomputable def spLaw (K : PySem.W.Frag) : Sp := fun vs H Q _ => ∃ (a : Addr) (ns : List Int), vs = [.ref a] ∧ SqL K H a (ns.map V.int) ∧ ns.length ≤ 63 ∧ ∀ H', Q (.bl true) H'
theorem cut_drop (xs : List V) (k : Nat) : cutV xs (some (k : Int)) none = xs.drop k := by
  unfold cutV
  rw [HT.sIx_nat, HT.sIx_none]
  by_cases h : k ≤ xs.length
  · rw [Nat.min_eq_left h, List.take_of_length_le (by rw [List.length_drop]; exact OmL.om102)]
  · rw [Nat.min_eq_right (by exact OmL.om103 h), List.drop_eq_nil_of_le (Nat.le_refl _), List.drop_eq_nil_of_le (by exact OmL.om103 h), List.take_nil]
/-! ### polynomials on the heap -/
theorem ixN_of {n j : Nat} {i : Int} (e : i = (j : Int)) (h : j < n) : ixN n i = some j := by
  subst e
  unfold ixN
  rw [if_pos (by exact OmL.om41), if_pos (by exact OmL.om42 h), Int.toNat_natCast]
theorem map_set_int (L : List Int) (j : Nat) (x : Int) : (L.map V.int).set j (.int x) = (L.set j x).map V.int := by rw [List.map_set]
theorem replicate_ofF (n : Nat) : (List.replicate n [V.int 0]).flatten = (Pm.ofF n fun _ => 0).map V.int := by
  induction n with
  | zero => rfl
  | succ n ih =>
    rw [Pm.ofF_succ, List.map_append, ← ih, List.replicate_succ', List.flatten_append]
    rfl
/-- a comprehension over a range, of ints -/
theorem comp_rng {n : Nat} {ix : List (Option Nat)} {te : TE} {σ : St} {H1 : Hp} {Q : VK} (hz : n ≤ 1000) {rest : St} (hst : cst ix σ = none :: rest) (f : Nat → Int)
    (he : ∀ H' k, Same H1 H' → k < n → ∀ kk : VK, kk (.int (f k)) H' → te (some (.int (0 + (k : Int))) :: rest) H' kk)
    (hQ : ∀ D, H1 D = none → Q (.ref D) (upd H1 D (.lst ((Pm.ofF n f).map V.int)))) : CompK ix (gName 0) tYes te σ Q (Itr 0 n) H1 := by
  refine comp_pure its_range (by rw [List.length_map, List.length_range]; exact Nat.le_of_lt (small1000 hz)) hst (fun _ => true) (fun x => match x with | .int k => .int (f k.toNat) | _ => .non) ?_ ?_ ?_
  · intro H2 x g2 hx k hk; exact hk
  · intro H2 x g2 hx _ k hk
    obtain ⟨j, hj, rfl⟩ := List.mem_map.mp hx
    have e1 : (0 + (j : Int)).toNat = j := by exact OmL.om104
    refine he H2 j g2 (List.mem_range.mp hj) k ?_
    have hk' : k (V.int (f (0 + (j : Int)).toNat)) H2 := hk
    rwa [e1] at hk'
  · intro D hD
    have el : ((((List.range n).map fun i => V.int (0 + (i : Nat))).filter fun _ => true).map fun x => match x with | .int k => V.int (f k.toNat) | _ => V.non) = (Pm.ofF n f).map V.int := by
      rw [List.filter_eq_self.mpr (by simp), List.map_map, Pm.ofF, List.map_map]
      refine List.map_congr_left fun k _ => ?_
      show V.int (f (0 + (k : Int)).toNat) = V.int (f k)
      rw [show (0 + (k : Int)).toNat = k by exact OmL.om104]
    rw [el]
    exact hQ D hD
/-- a comprehension over a tuple of ints, of ints -/
theorem comp_tup {K : PySem.W.Frag} {a : Addr} {xs : List Int} {ix : List (Option Nat)} {te : TE} {σ : St} {H1 : Hp} {Q : VK} (hA : H1 a = some (.tup (xs.map V.int))) (hz : xs.length ≤ 1000) {rest : St} (hst : cst ix σ = none :: rest) (f : Int → Int)
    (he : ∀ H' x, Same H1 H' → x ∈ xs → ∀ kk : VK, kk (.int (f x)) H' → te (some (.int x) :: rest) H' kk)
    (hQ : ∀ D, H1 D = none → Q (.ref D) (upd H1 D (.lst ((xs.map f).map V.int)))) : CompK ix (gName 0) tYes te σ Q (Itt K a) H1 := by
  refine comp_pure (its_tup (SqT.of hA)) (by rw [List.length_map]; exact Nat.le_of_lt (small1000 hz)) hst (fun _ => true) (fun x => match x with | .int k => .int (f k) | _ => .non) ?_ ?_ ?_
  · intro H2 x g2 hx k hk; exact hk
  · intro H2 x g2 hx _ k hk
    obtain ⟨y, hy, rfl⟩ := List.mem_map.mp hx
    exact he H2 y g2 hy k hk
  · intro D hD
    have el : (((xs.map V.int).filter fun _ => true).map fun x => match x with | .int k => V.int (f k) | _ => V.non) = (xs.map f).map V.int := by
      rw [List.filter_eq_self.mpr (by simp), List.map_map, List.map_map]; rfl
    rw [el]
    exact hQ D hD
theorem atI_back {ns : List Int} {k : Int} (j : Nat) (h0 : k < 0) (e : k + (ns.length : Int) = (j : Int)) : atI (ns.map V.int) k = some (.int (ns.getD j 0)) := by
  have hj : j < ns.length := by exact OmL.om105 h0 e
  unfold atI ixN
  rw [List.length_map, if_neg (by exact OmL.om106 h0 e), if_pos (by exact OmL.om107 e), show (k + (ns.length : Int)).toNat = j by exact OmL.om108 e]
  show (ns.map V.int)[j]? = _
  rw [List.getElem?_map, List.getElem?_eq_getElem hj, List.getD_eq_getElem?_getD, List.getElem?_eq_getElem hj]
  rfl
theorem comp_lst {K : PySem.W.Frag} {a : Addr} {xs : List Int} {ix : List (Option Nat)} {te : TE} {σ : St} {H1 : Hp} {Q : VK} (hA : H1 a = some (.lst (xs.map V.int))) (hz : xs.length ≤ 1000) {rest : St} (hst : cst ix σ = none :: rest) (f : Int → Int)
    (he : ∀ H' x, Same H1 H' → x ∈ xs → ∀ kk : VK, kk (.int (f x)) H' → te (some (.int x) :: rest) H' kk)
    (hQ : ∀ D, H1 D = none → Q (.ref D) (upd H1 D (.lst ((xs.map f).map V.int)))) : CompK ix (gName 0) tYes te σ Q (Itl K a) H1 := by
  refine comp_pure (its_list (SqL.of hA)) (by rw [List.length_map]; exact Nat.le_of_lt (small1000 hz)) hst (fun _ => true) (fun x => match x with | .int k => .int (f k) | _ => .non) ?_ ?_ ?_
  · intro H2 x g2 hx k hk; exact hk
  · intro H2 x g2 hx _ k hk
    obtain ⟨y, hy, rfl⟩ := List.mem_map.mp hx
    exact he H2 y g2 hy k hk
  · intro D hD
    have el : (((xs.map V.int).filter fun _ => true).map fun x => match x with | .int k => V.int (f k) | _ => V.non) = (xs.map f).map V.int := by
      rw [List.filter_eq_self.mpr (by simp), List.map_map, List.map_map]; rfl
    rw [el]
    exact hQ D hD
theorem map_int_get {p : List Int} {i : Nat} {x : V} (h : (p.map V.int)[i]? = some x) : x = .int (Pm.co p i) ∧ i < p.length := by
  by_cases hi : i < p.length
  · rw [List.getElem?_map, List.getElem?_eq_getElem hi] at h
    cases h
    refine ⟨?_, hi⟩
    show V.int _ = V.int (p.getD i 0)
    rw [List.getD_eq_getElem?_getD, List.getElem?_eq_getElem hi]; rfl
  · rw [List.getElem?_eq_none (by rw [List.length_map]; exact OmL.om60 hi)] at h; cases h
theorem primesN_range : ∀ P ∈ Om.primesN, 2 ≤ P ∧ P < 1000 := by decide +kernel
/-! ### tables on the heap: a list of lists of ints -/
/-- a by: 0 or a prime -/
noncomputable def ByP (b : Int) : Prop := b = 0 ∨ ∃ P : Nat, P ∈ Om.primesN ∧ b = (P : Int)
theorem ByP.range {b : Int} (h : ByP b) : 0 ≤ b ∧ b < 1000 ∧ b ≠ 1 := by
  rcases h with rfl | ⟨P, hP, rfl⟩
  · decide
  · have := primesN_range P hP; exact OmL.om109 this
/-! ### tables compared -/
/-! ### a def that calls itself -/
noncomputable def spTaken : Sp := fun vs H Q _ => ∃ b n : Int, vs = [.int b, .int n] ∧ 0 ≤ b ∧ Q (.int (Rm.tk b n)) H
noncomputable def spNext (K : PySem.W.Frag) : Sp := fun vs H Q _ => ∃ (b : Int) (r s : Addr) (rule before : List Int), vs = [.int b, .ref r, .ref s] ∧ 0 ≤ b ∧ SqT K H r (rule.map V.int) ∧ SqL K H s (before.map V.int) ∧ rule.length ≤ before.length ∧ rule.length ≤ 12 ∧ before.length ≤ 1000 ∧
  (∀ x ∈ rule, Rm.Bd 200 x) ∧ (∀ x ∈ before, Rm.Bd 300000 x) ∧ Q (.int (Rm.tk b (Rm.S rule (fun i => before.getD i 0) before.length rule.length))) H
noncomputable def spFirst (K : PySem.W.Frag) : Sp := fun vs H Q _ => ∃ (v : V) (r : Rw) (c : Int), vs = [v, .int c] ∧ RowIs H v r ∧ RwOk r ∧ 0 ≤ c ∧ c ≤ 900 ∧ Told H Q ((r.row c.toNat).map V.int)
noncomputable def spCell (K : PySem.W.Frag) : Sp := fun vs H Q _ => ∃ a ns k, vs = [.ref a, .int k] ∧ SqL K H a (ns.map V.int) ∧ 0 ≤ k ∧ Q (.int (cellAt ns k)) H
noncomputable def mixedN (c k : Int) : Int := (c % 2147483647 + 1) * (k * k + 48271) % 2147483629
noncomputable def mixedI (c k : Int) : Int := mixedN c k * (mixedN c k + 3 * k) % 2147483587
noncomputable def spMixed : Sp := fun vs H Q _ => ∃ c k : Int, vs = [.int c, .int k] ∧ 0 ≤ k ∧ k ≤ 1000 ∧ Q (.int (mixedI c k)) H
noncomputable def byT : List Int := [0, 2, 3, 5, 0, 7, 97, 997]
noncomputable def by16 (c : Int) : Int := byT.getD (c % 8).toNat 0
theorem byT_ok : ∀ k < 8, byT.getD k 0 = 0 ∨ (0 ≤ byT.getD k 0 ∧ (byT.getD k 0).toNat ∈ Om.primesN) := by decide +kernel
theorem by16_ok (c : Int) : ByP (by16 c) := by
  have h0 := emod_lo c (show (0 : Int) < 8 by decide)
  have h1 := emod_hi c (show (0 : Int) < 8 by decide)
  rcases byT_ok (c % 8).toNat (by exact OmL.om110 h0) with e | ⟨e1, e2⟩
  · exact .inl e
  · exact .inr ⟨_, e2, by show byT.getD (c % 8).toNat 0 = _; exact OmL.om95 e1⟩
noncomputable def spBy16 : Sp := fun vs H Q _ => ∃ c : Int, vs = [.int c] ∧ ∀ H', Same H H' → Q (.int (by16 c)) H'
noncomputable def num15 (b c s : Int) : Int := if b > 0 then c % b else if s = 0 then c % 7 - 3 else if s = 1 then c % 201 - 100 else c * 7919 % (2 * 10 ^ 12 - 1) - 10 ^ 12 + 1
theorem num15_bd {b : Int} (hb : b < 1000) (c s : Int) : Rm.Bd 45 (num15 b c s) := by
  have a := emod_lo c (show (0 : Int) < 7 by decide)
  have a' := emod_hi c (show (0 : Int) < 7 by decide)
  have d := emod_lo c (show (0 : Int) < 201 by decide)
  have d' := emod_hi c (show (0 : Int) < 201 by decide)
  have e := emod_lo (c * 7919) (show (0 : Int) < 2 * 10 ^ 12 - 1 by decide)
  have e' := emod_hi (c * 7919) (show (0 : Int) < 2 * 10 ^ 12 - 1 by decide)
  refine Rm.Bd.of ?_ ?_ <;> unfold num15
  · split
    · rename_i h; have := emod_lo c h; exact OmL.om111 this
    · split
      · exact OmL.om112 a
      · split
        · exact OmL.om113 d
        · generalize c * 7919 % (2 * 10 ^ 12 - 1) = m at e e' ⊢
          exact OmL.om114 e e'
  · split
    · rename_i h; have := emod_hi c h; exact OmL.om115 hb h this
    · split
      · exact OmL.om116 a
      · split
        · exact OmL.om117 d
        · generalize c * 7919 % (2 * 10 ^ 12 - 1) = m at e e' ⊢
          exact OmL.om118 e e'
noncomputable def spNum15 : Sp := fun vs H Q _ => ∃ b c s : Int, vs = [.int b, .int c, .int s] ∧ Q (.int (num15 b c s)) H
/-! ### rows of the laws from k20 on -/
/-- a drawn row: its numbers are small -/
structure RwL (b : Int) (most : Nat) (r : Rw) : Prop where
  by_ : r.b = b
  len : r.rule.length = r.starts.length
  short : r.rule.length ≤ most
  ruleNum : ∀ x ∈ r.rule, IsNum b x
  startsNum : ∀ x ∈ r.starts, IsNum b x
  ruleBd : ∀ x ∈ r.rule, Rm.Bd 45 x
  startsBd : ∀ x ∈ r.starts, Rm.Bd 45 x
theorem RwL.ok {b : Int} {most : Nat} {r : Rw} (hB : ByP b) (h : RwL b most r) (hm : most ≤ 12) : RwOk r := by
  obtain ⟨hb0, hb1, _⟩ := hB.range
  have e := h.by_
  have := h.short
  exact ⟨h.len, by exact OmL.om119 hm this, by rw [e]; exact hb0, by rw [e]; exact hb1, by rw [e]; exact h.ruleNum, by rw [e]; exact h.startsNum, fun x hx => (h.ruleBd x hx).mono (by decide), fun x hx => (h.startsBd x hx).mono (by decide)⟩
theorem num15_num {b : Int} (hB : ByP b) (c s : Int) : IsNum b (num15 b c s) := by
  obtain ⟨hb0, _, _⟩ := hB.range
  by_cases h : b = 0
  · exact .inl h
  · have hb : 0 < b := by omega
    have e : num15 b c s = c % b := if_pos hb
    rw [e]
    exact .inr ⟨emod_lo c hb, emod_hi c hb⟩
theorem IsNum.zero {b : Int} (hB : ByP b) : IsNum b 0 := by
  obtain ⟨hb0, _, _⟩ := hB.range
  by_cases h : b = 0
  · exact .inl h
  · exact .inr ⟨Int.le_refl _, by omega⟩
/-- the rule longer by one -/
noncomputable def longerR (b n : Int) (rule : List Int) : List Int := Pm.ofF (rule.length + 1) fun k => Rm.tk b (0 - ((if k < rule.length then 0 - Pm.co rule k else 0) - n * (if k = 0 then 1 else 0 - Pm.co rule (k - 1))))
theorem longerR_len (b n : Int) (rule : List Int) : (longerR b n rule).length = rule.length + 1 := Pm.ofF_len ..
/-- on the way there -/
noncomputable def lowL (rule : List Int) : List Int := 1 :: rule.map fun x => 0 - x
theorem lowL_len (rule : List Int) : (lowL rule).length = rule.length + 1 := by rw [lowL, List.length_cons, List.length_map]
theorem lowL_co (rule : List Int) (k : Nat) : Pm.co (lowL rule) k = if k = 0 then 1 else 0 - Pm.co rule (k - 1) := by
  cases k with
  | zero => rfl
  | succ k =>
    rw [if_neg (by exact OmL.om120), Nat.add_sub_cancel]
    show Pm.co (1 :: _) (k + 1) = _
    rw [Pm.co_succ, Pm.co_map (f := fun x => 0 - x) rfl]
noncomputable def midL (n : Int) (rule : List Int) : List Int := List.zipWith (fun x y => x - n * y) (lowL rule ++ [0]) ([0] ++ lowL rule)
theorem midL_len (n : Int) (rule : List Int) : (midL n rule).length = rule.length + 2 := by
  rw [midL, List.length_zipWith, List.length_append, List.length_append, lowL_len]
  show min (rule.length + 1 + 1) (1 + (rule.length + 1)) = _
  exact OmL.om121
theorem zip_co {F : Int → Int → Int} {p q : List Int} {k : Nat} (h1 : k < p.length) (h2 : k < q.length) : Pm.co (List.zipWith F p q) k = F (Pm.co p k) (Pm.co q k) := by
  unfold Pm.co
  rw [List.getD_eq_getElem?_getD, List.getElem?_zipWith, List.getD_eq_getElem?_getD, List.getD_eq_getElem?_getD, List.getElem?_eq_getElem h1, List.getElem?_eq_getElem h2]
  rfl
theorem midL_co {n : Int} {rule : List Int} {k : Nat} (hk : k < rule.length + 1) : Pm.co (midL n rule) (k + 1) = (if k < rule.length then 0 - Pm.co rule k else 0) - n * (if k = 0 then 1 else 0 - Pm.co rule (k - 1)) := by
  have l1 : (lowL rule ++ [0]).length = rule.length + 2 := by rw [List.length_append, lowL_len]; rfl
  have l2 : ([0] ++ lowL rule).length = rule.length + 2 := by rw [List.length_append, lowL_len]; show 1 + _ = _; exact OmL.om122
  rw [midL, zip_co (by exact OmL.om123 hk l1 l2) (by exact OmL.om124 hk l1 l2), Pm.co_append, lowL_len, Pm.co_append, List.length_singleton, if_neg (by exact OmL.om125 : ¬ k + 1 < 1), Nat.add_sub_cancel, lowL_co, lowL_co]
  congr 1
  by_cases c : k < rule.length
  · rw [if_pos (by exact OmL.om126 l1 l2 c), if_neg (by exact OmL.om120), if_pos c, Nat.add_sub_cancel]
  · rw [if_neg (by exact OmL.om127 hk l1 l2 c), if_neg c, show k + 1 - (rule.length + 1) = 0 by exact OmL.om128 hk l1 l2 c]; rfl
theorem longerR_mid (b n : Int) (rule : List Int) : ((midL n rule).drop 1).map (fun x => Rm.tk b (0 - x)) = longerR b n rule := by
  refine Pm.co_ext (by rw [List.length_map, List.length_drop, midL_len, longerR_len]; exact OmL.om129) fun k => ?_
  rw [Pm.co_map (f := fun x => Rm.tk b (0 - x)) (by show Rm.tk b (0 - 0) = 0; exact Pm.tk0 b), longerR, Pm.co_ofF]
  have ed : Pm.co ((midL n rule).drop 1) k = Pm.co (midL n rule) (k + 1) := by
    unfold Pm.co
    rw [List.getD_eq_getElem?_getD, List.getElem?_drop, Nat.add_comm, ← List.getD_eq_getElem?_getD]
  by_cases c : k < rule.length + 1
  · rw [if_pos c, ed, midL_co c]
  · rw [if_neg c, ed, Pm.co_ge (by rw [midL_len]; exact OmL.om130 c)]
    exact Pm.tk0 b
/-- it has the same places -/
theorem longerR_at {b n : Int} {r : Rw} (hl : r.rule.length = r.starts.length) (hs : ∀ x ∈ r.starts, IsNum b x) (hb : r.b = b) (m : Nat) : Rm.at_ b (longerR b n r.rule) (r.row (r.rule.length + 1)) m = r.at m := by
  have e0 : ∀ i, i < r.rule.length + 1 → (r.row (r.rule.length + 1)).getD i 0 = r.at i := fun i hi => Rm.row_get _ _ _ hi
  refine Rm.at_uniq (by rw [longerR_len, Rw.row_len]) (g := r.at) (fun i hi => ?_) (fun i hi => ?_) m
  · rw [Rw.row_len] at hi
    exact (e0 i hi).symm
  · rw [Rw.row_len] at hi
    have h1 : r.at i = Rm.tk b (Rm.S r.rule r.at i r.rule.length) := by rw [← hb]; exact Rm.at_ge hl (by exact OmL.om131 hl hi)
    rw [longerR_len, h1, Pm.S_sm, Pm.S_sm]
    -- the sum by the longer rule
    have e1 : Rm.tk b (Pm.sm (r.rule.length + 1) fun k => Pm.co (longerR b n r.rule) k * r.at (i - 1 - k)) = Rm.tk b (Pm.sm (r.rule.length + 1) fun k => (if k < r.rule.length then Pm.co r.rule k * r.at (i - 1 - k) else 0) + n * (if k = 0 then r.at (i - 1) else -(Pm.co r.rule (k - 1) * r.at (i - 1 - k)))) := Pm.tk_sm fun k hk => by
      rw [longerR, Pm.co_ofF, if_pos hk, Rm.tk_mul_l]
      refine congrArg (Rm.tk b) ?_
      by_cases c : k = 0
      · rw [if_pos c, if_pos c, c]
        by_cases d : 0 < r.rule.length
        · rw [if_pos d, if_pos d, Nat.sub_zero, Int.mul_one, show (0 - (0 - Pm.co r.rule 0 - n)) = Pm.co r.rule 0 + n by exact OmL.om132, Int.add_mul]
        · rw [if_neg d, if_neg d, Nat.sub_zero, Int.mul_one, show (0 - (0 - n)) = n by exact OmL.om133, Int.zero_add]
      · rw [if_neg c, if_neg c]
        by_cases d : k < r.rule.length
        · rw [if_pos d, if_pos d, Int.sub_mul, Int.sub_mul, Int.mul_assoc, Int.sub_mul, Int.sub_mul, Int.mul_sub, Int.mul_neg]
          omega
        · rw [if_neg d, if_neg d, Int.sub_mul, Int.sub_mul, Int.mul_assoc, Int.sub_mul, Int.mul_sub, Int.mul_neg]
          omega
    rw [e1, Pm.sm_add, Pm.sm_mul]
    have e2 : Pm.sm (r.rule.length + 1) (fun k => if k < r.rule.length then Pm.co r.rule k * r.at (i - 1 - k) else 0) = Pm.sm r.rule.length fun k => Pm.co r.rule k * r.at (i - 1 - k) := by
      rw [Pm.sm, if_neg (Nat.lt_irrefl _), Int.add_zero]
      exact Pm.sm_congr fun k hk => if_pos hk
    have e3 : Pm.sm (r.rule.length + 1) (fun k => if k = 0 then r.at (i - 1) else -(Pm.co r.rule (k - 1) * r.at (i - 1 - k))) = r.at (i - 1) + -1 * Pm.sm r.rule.length fun k => Pm.co r.rule k * r.at (i - 1 - 1 - k) := by
      rw [Pm.sm_head, if_pos rfl, ← Pm.sm_mul]
      congr 1
      refine Pm.sm_congr fun k _ => ?_
      rw [if_neg (by exact OmL.om120), Nat.add_sub_cancel, show i - 1 - (k + 1) = i - 1 - 1 - k by omega]
      omega
    rw [e2, e3]
    have z : Rm.tk b (r.at (i - 1) + -1 * Pm.sm r.rule.length fun k => Pm.co r.rule k * r.at (i - 1 - 1 - k)) = 0 := by
      have h2 : r.at (i - 1) = Rm.tk b (Rm.S r.rule r.at (i - 1) r.rule.length) := by rw [← hb]; exact Rm.at_ge hl (by exact OmL.om137 hl hi)
      rw [h2, Pm.S_sm, Rm.tk_add_l, show ∀ x : Int, x + -1 * x = 0 from fun x => by omega, Pm.tk0]
    rw [← Rm.tk_add_r, ← Rm.tk_mul_r, z, Int.mul_zero, Pm.tk0, Int.add_zero]
noncomputable def zipF (F : Int → Int → Int) : V → V → V
  | .int u, .int v => .int (F u v)
  | _, _ => .non
theorem zipF_map (F : Int → Int → Int) : ∀ p q : List Int, List.zipWith (zipF F) (p.map V.int) (q.map V.int) = (List.zipWith F p q).map V.int
  | [], _ => by simp
  | _ :: _, [] => by simp
  | a :: p, b :: q => by
    rw [List.map_cons, List.map_cons, List.zipWith_cons_cons, zipF_map F p q]; rfl
/-- a table: its lines, and how great its numbers -/
theorem ofF_mapIdx (p : List Int) (F : Nat → Int → Int) : (p.map V.int).mapIdx (fun j x => match x with | .int n => V.int (F j n) | _ => V.non) = (Pm.ofF p.length fun j => F j (Pm.co p j)).map V.int := by
  refine List.ext_getElem? fun j => ?_
  rw [List.getElem?_mapIdx, List.getElem?_map, List.getElem?_map]
  by_cases hj : j < p.length
  · rw [List.getElem?_eq_getElem hj, Pm.ofF, List.getElem?_map, List.getElem?_range hj]
    show some (V.int (F j p[j])) = some (V.int (F j (p.getD j 0)))
    rw [List.getD_eq_getElem?_getD, List.getElem?_eq_getElem hj]; rfl
  · rw [List.getElem?_eq_none (by exact OmL.om60 hj), List.getElem?_eq_none (by rw [Pm.ofF_len]; exact OmL.om60 hj)]; rfl
noncomputable def spGone : Sp := fun vs H Q _ => ∃ (v : V) (r : Rw) (c : Int), vs = [v, .int c] ∧ RowIs H v r ∧ RwOk r ∧ 0 ≤ c ∧ c ≤ 900 ∧ Told H Q ((r.row c.toNat).map V.int)
noncomputable def sortL : List Int := [0, 0, 0, 1, 0, 2]
noncomputable def spRow20 (K : PySem.W.Frag) : Sp := fun vs H Q _ => ∃ (a : Addr) (ns : List Int) (st b : Int) (most : Nat), vs = [.ref a, .int st, .int b, .int most] ∧ SqL K H a (ns.map V.int) ∧ 0 ≤ st ∧ ByP b ∧ most ≤ 12 ∧ ∀ v r H', Same H H' → RowIs H' v r → RwL b most r → Q v H'
noncomputable def spLonger20 : Sp := fun vs H Q _ => ∃ (v : V) (r : Rw) (n : Int), vs = [v, .int n] ∧ RowIs H v r ∧ RwOk r ∧ r.rule.length < 12 ∧ Rm.Bd 45 n ∧ ∀ v' H', Same H H' → RowIs H' v' ⟨r.b, longerR r.b n r.rule, r.row (r.rule.length + 1)⟩ → Q v' H'
/-! ### rows told by longer rules -/
theorem Bd_negL {n : Nat} {x : Int} (h : Rm.Bd n x) : Rm.Bd n (-x) := by unfold Rm.Bd at h ⊢; rw [Int.natAbs_neg]; exact h
theorem RwOk.at_num {r : Rw} (ok : RwOk r) (n : Nat) : IsNum r.b (r.at n) := by
  by_cases h : r.b = 0
  · exact .inl h
  · have h0 := ok.by0
    refine .inr (Rm.at_range ok.len (by exact OmL.om139 h h0) (fun x hx => ?_) n)
    rcases ok.startsNum x hx with z | z
    · exact absurd z h
    · exact z
theorem RwL.at_bd {b : Int} {r : Rw} (hB : ByP b) (h : RwL b 6 r) {n : Nat} (hn : n ≤ 12) : Rm.Bd 657 (r.at n) := by
  obtain ⟨hb0, hb1, _⟩ := hB.range
  have e := h.by_
  have q := Rm.at_bd (b := r.b) (rule := r.rule) (starts := r.starts) (a := 45) (c := 45) h.len (by exact OmL.om140 hb0 hb1 e) ((Rm.Bd.of (n := 10) (by exact OmL.om141 hb0 hb1 e) (by exact OmL.om142 hb0 hb1 e)).mono (by decide)) h.ruleBd h.startsBd n
  refine q.mono ?_
  have h1 := h.short
  have h2 : n * (45 + r.rule.length) ≤ 12 * 51 := Nat.mul_le_mul hn (by exact OmL.om143 h1)
  exact OmL.om144 h2
/-- the row r0, told by a rule longer by i -/
structure LgR (b : Int) (r0 : Rw) (i : Nat) (r : Rw) : Prop where
  by_ : r.b = b
  len : r.rule.length = r0.rule.length + i
  lenS : r.rule.length = r.starts.length
  num : ∀ x ∈ r.rule, IsNum b x
  ruleBd : ∀ x ∈ r.rule, Rm.Bd (45 + 4 * i) x
  same : ∀ n, r.at n = r0.at n
theorem LgR.start {b : Int} {r : Rw} (h : RwL b 6 r) : LgR b r 0 r := ⟨h.by_, rfl, h.len, h.ruleNum, h.ruleBd, fun _ => rfl⟩
theorem RwL.oks {b : Int} (hB : ByP b) {r0 : Rw} (h0 : RwL b 6 r0) : RwOk r0 := h0.ok hB (by decide)
theorem LgR.starts {b : Int} {r0 r : Rw} {i : Nat} (h : LgR b r0 i r) {x : Int} (hx : x ∈ r.starts) : ∃ k, k < r.starts.length ∧ x = r0.at k := by
  obtain ⟨k, hk, e⟩ := List.mem_iff_getElem.mp hx
  refine ⟨k, hk, ?_⟩
  have e1 : r.at k = r.starts.getD k 0 := Rm.at_lt hk
  rw [← h.same k, e1, List.getD_eq_getElem?_getD, List.getElem?_eq_getElem hk, ← e]; rfl
theorem LgR.ok {b : Int} (hB : ByP b) {r0 r : Rw} {i : Nat} (h0 : RwL b 6 r0) (h : LgR b r0 i r) (hi : i ≤ 5) : RwOk r := by
  obtain ⟨hb0, hb1, _⟩ := hB.range
  have e := h.by_
  have hs := h0.short
  have hl := h.len
  have hlS := h.lenS
  have ok0 := h0.oks hB
  refine ⟨h.lenS, by exact OmL.om145 hi hs hl hlS, by exact OmL.om140 hb0 hb1 e, by exact OmL.om146 hb0 hb1 e, by rw [e]; exact h.num, fun x hx => ?_, fun x hx => (h.ruleBd x hx).mono (by exact OmL.om147 hi hl hlS), fun x hx => ?_⟩
  · obtain ⟨k, _, rfl⟩ := h.starts hx
    have := ok0.at_num k
    rw [h0.by_] at this
    rw [e]; exact this
  · obtain ⟨k, hk, rfl⟩ := h.starts hx
    exact (h0.at_bd hB (by exact OmL.om148 hi hs hl hlS hk)).mono (by decide)
theorem LgR.step {b n : Int} (hB : ByP b) {r0 r : Rw} {i : Nat} (h0 : RwL b 6 r0) (h : LgR b r0 i r) (hi : i ≤ 4) (hn : b = 0 → -4 ≤ n ∧ n ≤ 4) : LgR b r0 (i + 1) ⟨r.b, longerR r.b n r.rule, r.row (r.rule.length + 1)⟩ := by
  obtain ⟨hb0, hb1, _⟩ := hB.range
  have e := h.by_
  have ok := h.ok hB h0 (by exact OmL.om149 hi)
  refine ⟨e, ?_, ?_, fun x hx => ?_, fun x hx => ?_, fun m => ?_⟩
  · show (longerR r.b n r.rule).length = _
    rw [longerR_len, h.len]; exact OmL.om150
  · show (longerR r.b n r.rule).length = (r.row (r.rule.length + 1)).length
    rw [longerR_len, Rw.row_len]
  · obtain ⟨k, _, rfl⟩ := Pm.mem_ofF (show x ∈ Pm.ofF _ _ from hx)
    rw [e]
    by_cases z : b = 0
    · exact .inl z
    · rw [Rm.tk_pos z]; exact .inr ⟨emod_lo _ (by exact OmL.om151 hb0 hb1 e z), emod_hi _ (by exact OmL.om151 hb0 hb1 e z)⟩
  · obtain ⟨k, _, rfl⟩ := Pm.mem_ofF (show x ∈ Pm.ofF _ _ from hx)
    rw [e]
    by_cases z : b = 0
    · rw [z, Rm.tk_zero]
      obtain ⟨n1, n2⟩ := hn z
      have bn : Rm.Bd 3 n := Rm.Bd.of (by exact OmL.om152 n1 n2) (by exact OmL.om153 n1 n2)
      have b1 : Rm.Bd (45 + 4 * i + 1) (if k < r.rule.length then 0 - Pm.co r.rule k else 0) := by
        split
        · have := Bd_negL (Pm.Bd_co h.ruleBd k)
          rw [Int.zero_sub]; exact this.mono (by exact OmL.om154)
        · exact Rm.Bd.zero _
      have b2 : Rm.Bd (45 + 4 * i) (if k = 0 then 1 else 0 - Pm.co r.rule (k - 1)) := by
        split
        · exact (Rm.Bd.of (n := 1) (by decide) (by decide)).mono (by exact OmL.om155 hi)
        · have := Bd_negL (Pm.Bd_co h.ruleBd (k - 1))
          rw [Int.zero_sub]; exact this
      have b3 := Bd_negL (bn.mul b2)
      have b4 := Rm.Bd.add (n := 3 + (45 + 4 * i)) (b1.mono (by exact OmL.om156)) b3
      have b5 := Bd_negL b4
      rw [Int.zero_sub, Int.sub_eq_add_neg]
      exact b5.mono (by exact OmL.om157)
    · refine (Rm.tk_pos z _ ▸ Rm.Bd.emod (n := 10) (by exact OmL.om151 hb0 hb1 e z) (Rm.Bd.of (by exact OmL.om158 hb0 hb1 e) (by exact OmL.om159 hb0 hb1 e))).mono (by exact OmL.om160 hi)
  · have := longerR_at (b := r.b) (n := n) (r := r) ok.len ok.startsNum rfl m
    rw [← h.same m, ← this]; rfl
theorem num15_few {b c : Int} (h : b = 0) : -4 ≤ num15 b c 0 ∧ num15 b c 0 ≤ 4 := by
  have a := emod_lo c (show (0 : Int) < 7 by decide)
  have a' := emod_hi c (show (0 : Int) < 7 by decide)
  unfold num15
  rw [if_neg (by exact OmL.om161 h), if_pos rfl]
  exact OmL.om162 a
noncomputable def spNever : Sp := fun _ _ _ _ => False
/-! ### bounds, each told once -/
theorem q62 {x k : Int} (h0 : 0 ≤ x) (h1 : x < k) (hk : k ≤ 1000) : -(2 ^ 62) ≤ x ∧ x < 2 ^ 62 := by exact OmL.om163 h0 h1 hk
theorem n62 {n : Nat} (h : n ≤ 1000) : -(2 ^ 62) ≤ (n : Int) ∧ (n : Int) < 2 ^ 62 := by exact OmL.om164 h
theorem i1000 {i m : Nat} (h : i < m) (hm : m ≤ 1000) : 0 ≤ 0 + (i : Int) ∧ 0 + (i : Int) ≤ 1000 := by exact OmL.om165 h hm
theorem ix0 {i n m : Nat} (h : i < n) (e : m = n) : 0 ≤ 0 + (i : Int) ∧ 0 + (i : Int) < (m : Int) := by exact OmL.om166 h e
theorem toN0 (i : Nat) : (0 + (i : Int)).toNat = i := by exact OmL.om104
theorem c900 {c : Nat} (h : c ≤ 24) : (0 : Int) ≤ (c : Int) ∧ (c : Int) ≤ 900 := by exact OmL.om167 h
theorem late_n {x : Int} (h0 : 0 ≤ x) (h1 : x < 12) : ∃ n : Nat, 1 + x = (n : Int) ∧ 1 ≤ n ∧ n ≤ 12 := ⟨(1 + x).toNat, by exact OmL.om168 h0 h1, by exact OmL.om169 h0 h1, by exact OmL.om170 h0 h1⟩
theorem back1 {m n : Nat} (h : m = n) (h1 : 1 ≤ n) : (-1 : Int) + (m : Int) = ((n - 1 : Nat) : Int) := by exact OmL.om171 h h1
theorem n63 {n : Nat} (h : n ≤ 12) : -(2 ^ 63) ≤ (n : Int) - 1 ∧ (n : Int) - 1 < 2 ^ 63 := by exact OmL.om172 h
theorem toNm1 {n : Nat} (h : 1 ≤ n) : ((n : Int) - 1).toNat = n - 1 := by exact OmL.om173 h
theorem d63 {n m : Nat} (h : n ≤ 12) (hm : m ≤ n) : -(2 ^ 63) ≤ (n : Int) - (m : Int) ∧ (n : Int) - (m : Int) < 2 ^ 63 ∧ ((n : Int) - (m : Int)).toNat = n - m := by exact OmL.om174 h hm
theorem sz_of {x : Int} {m : Nat} (h0 : 0 ≤ x) (hm : m ≤ 9) : ∃ sz : Nat, (if (m : Int) + x < 12 then (m : Int) + x else 12) = (sz : Int) ∧ sz ≤ 12 ∧ m ≤ sz := by
  by_cases e : (m : Int) + x < 12
  · rw [if_pos e]; exact ⟨((m : Int) + x).toNat, by exact OmL.om175 h0 hm, by exact OmL.om176 e, by exact OmL.om177 h0 hm⟩
  · rw [if_neg e]; exact ⟨12, rfl, Nat.le_refl _, by exact OmL.om178 hm⟩
theorem add24 {a b c : Nat} (hc : c = a + b) (ha : a ≤ 12) (hb : b ≤ 12) : c ≤ 24 := by exact OmL.om179 hc ha hb
theorem add_eq {a b c : Nat} (hc : c = a + b) : (a : Int) + (b : Int) = (c : Int) := by exact OmL.om180 hc
theorem im {x k : Int} {i : Nat} (h : i < (x % k).toNat) (h1 : x % k < k) (hk : k ≤ 1000) : 0 ≤ 0 + (i : Int) ∧ 0 + (i : Int) ≤ 1000 := by exact OmL.om181 h h1 hk
theorem lt12 {r0 r i : Nat} (h : r = r0 + i) (h0 : r0 ≤ 6) (hi : i ≤ 3) : r < 12 ∧ r ≤ 9 := by exact OmL.om182 h h0 hi
theorem three {x : Int} {i : Nat} (h1 : x < 4) (h : i < x.toNat) : i ≤ 3 ∧ i ≤ 4 ∧ i ≤ 5 := by exact OmL.om183 h1 h
theorem three' {x : Int} (h1 : x < 4) : x.toNat ≤ 3 := by exact OmL.om184 h1
/-! ### the first place where two rows part -/
noncomputable def partO (f g : Nat → Int) (c : Nat) : Option Nat := (List.range c).find? fun n => decide (f n ≠ g n)
noncomputable def partV : Option Nat → V
  | some n => .int (n : Int)
  | none => .non
theorem partO_none {f g : Nat → Int} {c : Nat} : partO f g c = none ↔ ∀ j, j < c → f j = g j := by
  unfold partO
  rw [List.find?_eq_none]
  constructor
  · intro h j hj
    have := h j (List.mem_range.mpr hj)
    simpa using this
  · intro h j hj
    have := h j (List.mem_range.mp hj)
    simpa using this
theorem partO_some {f g : Nat → Int} {c i : Nat} : partO f g c = some i ↔ f i ≠ g i ∧ i < c ∧ ∀ j, j < i → f j = g j := by
  unfold partO
  rw [List.find?_range_eq_some]
  simp only [decide_eq_true_eq, List.mem_range, Bool.not_eq_true', decide_eq_false_iff_not, Classical.not_not]
theorem partO_succ_none {f g : Nat → Int} {c : Nat} (h : partO f g c = none) : partO f g (c + 1) = if f c = g c then none else some c := by
  have h' := partO_none.mp h
  by_cases e : f c = g c
  · rw [if_pos e]
    refine partO_none.mpr fun j hj => ?_
    by_cases ej : j = c
    · rw [ej]; exact e
    · exact h' j (by exact OmL.om76 hj ej)
  · rw [if_neg e]
    exact partO_some.mpr ⟨e, by exact OmL.om75, h'⟩
theorem partO_succ_some {f g : Nat → Int} {c i : Nat} (h : partO f g c = some i) : partO f g (c + 1) = some i := by
  obtain ⟨h1, h2, h3⟩ := partO_some.mp h
  exact partO_some.mpr ⟨h1, by exact OmL.om74 h2, h3⟩
theorem partO_comm (f g : Nat → Int) (c : Nat) : partO g f c = partO f g c := by
  unfold partO
  congr 1
  funext n
  exact decide_eq_decide.mpr ⟨fun h => h.symm, fun h => h.symm⟩
noncomputable def spShared (C1 : Addr) : Sp := fun vs H Q E => ∃ (v1 v2 : V) (r1 r2 : Rw), vs = [v1, v2] ∧ RowIs H v1 r1 ∧ RowIs H v2 r2 ∧ (r1.b ≠ r2.b → E (.ref C1) none H) ∧ (r1.b = r2.b → Q (.int r1.b) H)
theorem row_get' (r : Rw) {n i : Nat} (h : i < n) : (r.row n).getD i 0 = r.at i := Rm.row_get _ _ _ h
noncomputable def spParting (C1 : Addr) : Sp := fun vs H Q E => ∃ (v1 v2 : V) (r1 r2 : Rw), vs = [v1, v2] ∧ RowIs H v1 r1 ∧ RowIs H v2 r2 ∧ RwOk r1 ∧ RwOk r2 ∧ (r1.b ≠ r2.b → E (.ref C1) none H) ∧ (r1.b = r2.b → ∀ H', Same H H' → Q (partV (partO r1.at r2.at (r1.rule.length + r2.rule.length))) H')
noncomputable def spCommon (C1 : Addr) : Sp := fun vs H Q E => ∃ (v1 v2 : V) (r1 r2 : Rw), vs = [v1, v2] ∧ RowIs H v1 r1 ∧ RowIs H v2 r2 ∧ r1.b ≠ r2.b ∧ E (.ref C1) none H
noncomputable def spRef26 : Sp := fun vs H Q _ => ∃ (w : Int) (v1 v2 : V) (r1 r2 : Rw), vs = [.int w, v1, v2] ∧ RowIs H v1 r1 ∧ RowIs H v2 r2 ∧ RwOk r1 ∧ RwOk r2 ∧ r1.b ≠ r2.b ∧ ∀ H', Same H H' → Q (.bl true) H'
theorem RwOk.at_num' {b : Int} {r : Rw} (hB : ByP b) (h : RwL b 6 r) (n : Nat) : IsNum b (r.at n) := by
  have := (h.oks hB).at_num n
  rw [h.by_] at this
  exact this
theorem tk_num {b : Int} (hb : 0 ≤ b) (x : Int) : IsNum b (Rm.tk b x) := by
  by_cases h : b = 0
  · exact .inl h
  · rw [Rm.tk_pos h]; exact .inr ⟨emod_lo _ (by exact OmL.om185 hb h), emod_hi _ (by exact OmL.om185 hb h)⟩
noncomputable def spOther26 (K : PySem.W.Frag) : Sp := fun vs H Q _ => ∃ (a : Addr) (ns : List Int) (b : Int) (v : V) (r : Rw), vs = [.ref a, .int b, v] ∧ SqL K H a (ns.map V.int) ∧ ByP b ∧ RowIs H v r ∧ RwL b 6 r ∧ ∀ v' r' H', Same H H' → RowIs H' v' r' → RwOk r' → r'.b = b → Q v' H'
theorem cut_last (xs : List Int) (hn : xs ≠ []) : cutV (xs.map V.int) none (some (-1)) = xs.dropLast.map V.int := by
  have hl : 0 < xs.length := List.length_pos_iff.mpr hn
  unfold cutV
  rw [HT.sIx_none, List.drop_zero, Nat.sub_zero]
  have e : ∀ m : Nat, HT.sIx m m (some (-1)) = ((-1 : Int) + (m : Int)).toNat := fun m => by
    show (if (-1 : Int) < 0 then ((-1 : Int) + (m : Int)).toNat else min (-1 : Int).toNat m) = _
    exact if_pos (by decide)
  rw [e, List.length_map, show ((-1 : Int) + (xs.length : Int)).toNat = xs.length - 1 by exact OmL.om186 hl, ← List.map_take, List.dropLast_eq_take]
noncomputable def spLate26 (K : PySem.W.Frag) : Sp := fun vs H Q _ => ∃ (a : Addr) (ns : List Int) (b : Int), vs = [.ref a, .int b] ∧ SqL K H a (ns.map V.int) ∧ ByP b ∧ ∀ p v1 v2 r1 r2 H', Same H H' → H' p = some (.tup [v1, v2]) → RowIs H' v1 r1 → RwOk r1 → r1.b = b → RowIs H' v2 r2 → RwOk r2 → r2.b = b → Q (.ref p) H'
theorem by16_ne17 (c : Int) : by16 c ≠ 17 := by
  have h0 := emod_lo c (show (0 : Int) < 8 by decide)
  have h1 := emod_hi c (show (0 : Int) < 8 by decide)
  have : ∀ k < 8, byT.getD k 0 ≠ 17 := by decide
  exact this (c % 8).toNat (by exact OmL.om110 h0)
noncomputable def strL : List Int := [2, 11, 0, 13]
theorem strL_ok : ∀ k < 4, strL.getD k 0 = 0 ∨ (0 ≤ strL.getD k 0 ∧ (strL.getD k 0).toNat ∈ Om.primesN) := by decide +kernel
theorem str_by {k : Int} (h0 : 0 ≤ k) (h1 : k < 4) : ByP (strL.getD k.toNat 0) := by
  rcases strL_ok k.toNat (by exact OmL.om187 h0 h1) with e | ⟨e1, e2⟩
  · exact .inl e
  · exact .inr ⟨_, e2, by exact OmL.om95 e1⟩
theorem RwOk.seventeen : RwOk ⟨17, [1], [1]⟩ := by
  refine ⟨rfl, by decide, by decide, by decide, fun x hx => ?_, fun x hx => ?_, fun x hx => ?_, fun x hx => ?_⟩
  · rw [List.mem_singleton.mp hx]; exact .inr ⟨by decide, by decide⟩
  · rw [List.mem_singleton.mp hx]; exact .inr ⟨by decide, by decide⟩
  · rw [List.mem_singleton.mp hx]; exact (Rm.Bd.of (n := 1) (by decide) (by decide)).mono (by decide)
  · rw [List.mem_singleton.mp hx]; exact (Rm.Bd.of (n := 1) (by decide) (by decide)).mono (by decide)
section
variable {P : Program} {w : World} {K : PySem.W.Frag} {mg : Str → Option Value} {base : Heap}
variable {A_NoBy A_NoName A_NoNumber A_NoRow A_NoText A_RuleError A_TooBig A_TooFar A_TooLong : Addr}
theorem ok_taken (B : Bt mg) (F : Fn K mg "taken" s_taken ["by", "number"]) (M : Ms K mg base A_NoBy A_NoName A_NoNumber A_NoRow A_NoText A_RuleError A_TooBig A_TooFar A_TooLong) : Cal P w K mg base "taken" 1 ["by", "number"] spTaken := by
  refine F.cal sc_taken (fun vs H Q E h => ?_) (fun f cdv A outer s H vs Q E hr h => ?_)
  · obtain ⟨b, n, rfl, _⟩ := h; rfl
  · obtain ⟨b, n, rfl, h0, q⟩ := h
    refine ⟨_, (pss_cons (ps_if (pt_cmpR (xeq K hr) (pv 0) pe_int (nomark _))
      (pss_one (ps_ret (pv 1)))
      pss_nil)
      (pss_one (ps_ret (pe_op op_mod (pv 1) (pv 0))))), ?_⟩
    refine ⟨_, rfl, _, rfl, ?_⟩
    refine ite2 (fun c => ?_) (fun c => ?_)
    · refine ⟨_, rfl, ?_⟩
      have c' : b = 0 := dec_true c
      have e : Rm.tk b n = n := by rw [c', Rm.tk_zero]
      rw [e] at q; exact q
    · have c' : ¬ b = 0 := dec_false c
      refine ⟨_, rfl, _, rfl, _, _, rfl, rfl, (by exact OmL.om185 h0 c' : (0 : Int) < b), ?_⟩
      rw [Rm.tk_pos c'] at q; exact q
theorem ok_next_place (B : Bt mg) (F : Fn K mg "next_place" s_next_place ["by", "rule", "before"]) (M : Ms K mg base A_NoBy A_NoName A_NoNumber A_NoRow A_NoText A_RuleError A_TooBig A_TooFar A_TooLong) (C_taken : Cal P w K mg base "taken" 1 ["by", "number"] spTaken) : Cal P w K mg base "next_place" 2 ["by", "rule", "before"] (spNext K) := by
  refine F.cal sc_next_place (fun vs H Q E h => ?_) (fun f cdv A outer s H vs Q E hr h => ?_)
  · obtain ⟨b, r, s, rule, before, rfl, _⟩ := h; rfl
  · obtain ⟨b, r, s', rule, before, rfl, hb, hR, hS, hl, hl2, hl3, bR, bS, q⟩ := h
    refine ⟨_, (pss_cons (ps_set (i := 3) sc_next_place.nd rfl (Or.inl rfl) pe_int)
      (pss_cons (ps_for PassesOwn.never rfl (pi_range1 rfl B.b_range (pa_cons (pe_callB (xlen K) rfl B.b_len boot_len (pa_n (pv 1) pa_nil)) pa_nil)) (pg_name (i := 4) sc_next_place.nd rfl (Or.inl rfl))
      (pss_one (ps_set (i := 3) sc_next_place.nd rfl (Or.inl rfl) (pe_op (xadd K) (pv 3) (pe_op v_mul (pe_ix (xix K) (pv 1) (pv 4) (fun _ _ => rfl)) (pe_ix (xix K) (pv 2) (pe_op op_sub (pe_op op_sub (pe_callB (xlen K) rfl B.b_len boot_len (pa_n (pv 2) pa_nil)) pe_int) (pv 4)) (fun _ _ => rfl)))))))
      (pss_one (ps_ret (pe_callC C_taken hr rfl (pa_n (pv 0) (pa_n (pv 3) pa_nil))))))), ?_⟩
    have lR : (rule.map V.int).length = rule.length := List.length_map _
    have lS : (before.map V.int).length = before.length := List.length_map _
    refine ⟨_, rfl, .ref r, rule.length, rfl, .inr ⟨_, hR, lR.symm⟩, ?_⟩
    refine ⟨(rule.length : Int), rfl, (by exact OmL.om188 hl2 lR : -(2 ^ 62) ≤ (rule.length : Int)), (by exact OmL.om189 hl2 lR : (rule.length : Int) < 2 ^ 62), ?_⟩
    refine for_range (lo := 0) (n := (rule.length : Int).toNat) (fun i σ' H' => ∃ o, σ' = [some (.int b), some (.ref r), some (.ref s'), some (.int (Rm.S rule (fun i => before.getD i 0) before.length i)), o] ∧ H' = H) ⟨none, rfl, rfl⟩ ?_ ?_
    · rintro i σ' H' hi ⟨o, rfl, rfl⟩
      have hi' : i < rule.length := by exact OmL.om190 lR hi
      have e0 : (0 : Int) + (i : Int) = (i : Int) := by exact OmL.om191
      have e1 : (before.length : Int) - 1 - (0 + (i : Int)) = ((before.length - 1 - i : Nat) : Int) := by exact OmL.om192 hl lR lS hi'
      refine ⟨_, rfl, ?_⟩
      refine ⟨_, rfl, _, rfl, _, _, .inr hR, atI_ints (ns := rule) (by exact OmL.om193 : (0 : Int) ≤ 0 + (i : Int)) (by exact OmL.om194 lR hi'), ?_⟩
      refine ⟨_, rfl, _, rfl, .ref s', before.length, rfl, .inl ⟨_, hS, lS.symm⟩, _, _, rfl, rfl, _, rfl, _, _, rfl, rfl, ?_⟩
      refine ⟨_, _, .inl hS, atI_ints (ns := before) (by exact OmL.om195 lS e1 : (0 : Int) ≤ (before.length : Int) - 1 - (0 + (i : Int))) (by exact OmL.om196), ?_⟩
      refine ⟨mulBd (Rm.Bd.getD bR _) (Rm.Bd.getD bS _) (by decide), ?_⟩
      refine ⟨some (.int (0 + (i : Int))), ?_, rfl⟩
      rw [e1, e0, Int.toNat_natCast, Int.toNat_natCast]
      rfl
    · rintro σ' H' ⟨o, rfl, rfl⟩
      refine ⟨_, rfl, _, rfl, b, _, rfl, hb, ?_⟩
      rw [show (rule.length : Int).toNat = rule.length from Int.toNat_natCast _]
      exact q
theorem ok_first_places (B : Bt mg) (F : Fn K mg "first_places" s_first_places ["row", "count"]) (M : Ms K mg base A_NoBy A_NoName A_NoNumber A_NoRow A_NoText A_RuleError A_TooBig A_TooFar A_TooLong) (C_next_place : Cal P w K mg base "next_place" 2 ["by", "rule", "before"] (spNext K)) : Cal P w K mg base "first_places" 3 ["row", "count"] (spFirst K) := by
  refine F.cal sc_first_places (fun vs H Q E h => ?_) (fun f cdv A outer s H vs Q E hr h => ?_)
  · obtain ⟨v, r, c, rfl, _⟩ := h; rfl
  · obtain ⟨v, r, c, rfl, ⟨a, p, p2, rfl, hA, hR, hS⟩, ok, hc0, hc1, q⟩ := h
    refine ⟨_, (pss_cons (ps_set (i := 2) sc_first_places.nd rfl (Or.inl rfl) (pe_ix (xix K) (pv 0) pe_int (fun _ _ => rfl)))
      (pss_cons (ps_set (i := 3) sc_first_places.nd rfl (Or.inl rfl) (pe_ix (xix K) (pv 0) pe_int (fun _ _ => rfl)))
      (pss_cons (ps_set (i := 4) sc_first_places.nd rfl (Or.inl rfl) (pe_ix (xix K) (pv 0) pe_int (fun _ _ => rfl)))
      (pss_cons (ps_set (i := 5) sc_first_places.nd rfl (Or.inl rfl) (pe_bar (pe_callTy (xlist K) rfl B.b_list boot_list (pa_cons (pe_slice (xsl K) (pv 4) po_none (po_some (pv 1))) pa_nil))))
      (pss_cons (ps_while PassesOwn.never (pt_cmpR op_lt (pe_callB (xlen K) rfl B.b_len boot_len (pa_n (pv 5) pa_nil)) (pv 1) (nomark _))
      (pss_one (ps_expr (xappend K (pv 5) (pe_callC C_next_place hr rfl (pa_n (pv 2) (pa_n (pv 3) (pa_n (pv 5) pa_nil))))))))
      (pss_one (ps_ret (pv 5)))))))), ?_⟩
    have hl := ok.len
    have hl2 := ok.short
    have lS : (r.starts.map V.int).length = r.starts.length := List.length_map _
    refine ⟨_, rfl, _, _, .inr (SqT.of hA), rfl, ?_⟩
    refine ⟨_, rfl, _, _, .inr (SqT.of hA), rfl, ?_⟩
    refine ⟨_, rfl, _, _, .inr (SqT.of hA), rfl, ?_⟩
    -- the starts, as many as asked
    have hcut : cutV (r.starts.map V.int) none (some c) = (r.row (min c.toNat r.starts.length)).map V.int := by
      have e : r.row (min c.toNat r.starts.length) = r.starts.take (min c.toNat r.starts.length) := Rm.row_starts (Nat.min_le_right _ _)
      rw [e]
      have e2 : c = ((c.toNat : Nat) : Int) := by exact OmL.om197 hc0 hc1
      unfold cutV
      rw [e2, HT.sIx_nat, HT.sIx_none, List.drop_zero, Nat.sub_zero, lS, List.map_take, Int.toNat_natCast]
    refine Bar.by (fun v H1 => ∃ l, v = .ref l ∧ Same H H1 ∧ H l = none ∧ H1 l = some (.lst ((r.row (min c.toNat r.starts.length)).map V.int))) (fun kk hkk => ?_) ?_
    · refine ⟨_, rfl, _, rfl, _, rfl, ?_⟩
      by_cases hw : r.starts.length ≤ c.toNat
      · -- the whole of it
        refine .inr (.inr ⟨_, SqT.of hS, ?_, ?_⟩)
        · have e2 : c = ((c.toNat : Nat) : Int) := by exact OmL.om197 hc0 hc1
          rw [e2, HT.sIx_nat, HT.sIx_none, lS]; exact OmL.om198 lS hw
        · refine ⟨p2, _, rfl, .inr (SqT.of hS), fun l hl1 => hkk _ _ ⟨l, rfl, Same.new hl1 _, hl1, ?_⟩⟩
          rw [upd_same, Nat.min_eq_right hw]
          have e : r.row r.starts.length = r.starts := (Rm.row_starts (Nat.le_refl _)).trans (List.take_length ..)
          rw [e]
      · refine .inr (.inl ⟨_, SqT.of hS, ?_, fun p3 hp3 => ?_⟩)
        · have e2 : c = ((c.toNat : Nat) : Int) := by exact OmL.om197 hc0 hc1
          rw [e2, HT.sIx_nat, HT.sIx_none, lS]; exact OmL.om199 lS hw
        · refine ⟨p3, _, rfl, .inr (SqT.of upd_same), fun l hl1 => ?_⟩
          have g3 := Same.new hp3 (.tup (cutV (r.starts.map V.int) none (some c)))
          refine hkk _ _ ⟨l, rfl, g3.trans (Same.new hl1 _), g3.free hl1, ?_⟩
          rw [upd_same, hcut]
    rintro v H1 ⟨l, rfl, g1, hl1, hr1⟩
    refine ⟨fun m σ' H' => ∃ n : Nat, m = c.toNat - n ∧ min c.toNat r.starts.length ≤ n ∧ n ≤ c.toNat ∧ σ' = [some (.ref a), some (.int c), some (.int r.b), some (.ref p), some (.ref p2), some (.ref l)] ∧ Same H H' ∧ H' l = some (.lst ((r.row n).map V.int)),
      ⟨_, min c.toNat r.starts.length, rfl, Nat.le_refl _, Nat.min_le_left _ _, rfl, g1, hr1⟩, ?_⟩
    rintro m σ' H' ⟨n, rfl, h1, h2, rfl, g, hL⟩
    have lL : ((r.row n).map V.int).length = n := by rw [List.length_map, Rw.row_len]
    refine ⟨_, rfl, .ref l, n, rfl, .inl ⟨_, SqL.of hL, lL.symm⟩, _, rfl, _, _, rfl, rfl, _, rfl, ?_⟩
    refine ite2 (fun cc => ?_) (fun cc => ?_)
    · have hn : n < c.toNat := by have := dec_true cc; exact OmL.om200 hc0 hc1 h2 lL this
      refine ⟨_, fun _ _ z => z, ?_⟩
      refine ⟨_, rfl, .inl ⟨rfl, _, SqL.of hL⟩, _, rfl, _, rfl, _, rfl, r.b, p, l, r.rule, r.row n, rfl, ok.by0, SqT.of (g _ _ hR), SqL.of hL, ?_, hl2, ?_, ok.ruleBd, ok.rowBd n (by exact OmL.om201 hc0 hc1 lL hn), ?_⟩
      · rw [Rw.row_len]; exact OmL.om202 hl lS h1 lL hn
      · rw [Rw.row_len]; exact OmL.om201 hc0 hc1 lL hn
      · refine ⟨l, _, _, rfl, rfl, hL, ?_, ?_⟩
        · rw [lL]; exact small1000 (by exact OmL.om201 hc0 hc1 lL hn)
        · refine ⟨c.toNat - (n + 1), by exact OmL.om203 lL hn, n + 1, rfl, by exact OmL.om204 h1 lL, by exact OmL.om205 lL hn, rfl, g.upd hl1 _, ?_⟩
          rw [upd_same, Rw.row_len]
          have e : r.row (n + 1) = r.row n ++ [Rm.tk r.b (Rm.S r.rule (fun i => (r.row n).getD i 0) n r.rule.length)] := by
            show _ ++ [if n < r.starts.length then r.starts.getD n 0 else _] = _
            rw [if_neg (by exact OmL.om206 lS h1 lL hn)]; rfl
          rw [e, List.map_append]; rfl
    · have hn : n = c.toNat := by have := dec_false cc; exact OmL.om207 h2 lL this
      subst hn
      refine ⟨_, rfl, ?_⟩
      exact q l H' g hl1 hL
theorem ok_Lcell_at (B : Bt mg) (F : Fn K mg "_law_cell_at" s_Lcell_at ["_law_script", "_law_k"]) (M : Ms K mg base A_NoBy A_NoName A_NoNumber A_NoRow A_NoText A_RuleError A_TooBig A_TooFar A_TooLong) : Cal P w K mg base "_law_cell_at" 1 ["_law_script", "_law_k"] (spCell K) := by
  refine F.cal sc_Lcell_at (fun vs H Q E h => ?_) (fun f cdv A outer s H vs Q E hr h => ?_)
  · obtain ⟨a, ns, k, rfl, _⟩ := h; rfl
  · obtain ⟨a, ns, k, rfl, hS, h0, q⟩ := h
    refine ⟨_, (pss_cons (ps_if (pt_cmpR op_lt (pv 1) (pe_callB (xlen K) rfl B.b_len boot_len (pa_n (pv 0) pa_nil)) (nomark _))
      (pss_one (ps_ret (pe_ix (xix K) (pv 0) (pv 1) (fun _ _ => rfl))))
      pss_nil)
      (pss_one (ps_ret pe_int))), ?_⟩
    have hl : (ns.map V.int).length = ns.length := List.length_map _
    refine ⟨_, rfl, _, rfl, .ref a, ns.length, rfl, .inl ⟨_, hS, hl.symm⟩, _, _, rfl, rfl, _, rfl, ?_⟩
    refine ite2 (fun c => ?_) (fun c => ?_)
    · have c' : k < (ns.length : Int) := dec_true c
      refine ⟨_, rfl, _, rfl, ns.map V.int, .int (ns.getD k.toNat 0), .inl hS, atI_ints h0 c', ?_⟩
      have e : cellAt ns k = ns.getD k.toNat 0 := if_pos c'
      rw [e] at q; exact q
    · have c' : ¬ k < (ns.length : Int) := dec_false c
      have e : cellAt ns k = 0 := if_neg c'
      rw [e] at q; exact q
theorem ok_Lmixed (B : Bt mg) (F : Fn K mg "_law_mixed" s_Lmixed ["_law_cell", "_law_k"]) (M : Ms K mg base A_NoBy A_NoName A_NoNumber A_NoRow A_NoText A_RuleError A_TooBig A_TooFar A_TooLong) : Cal P w K mg base "_law_mixed" 1 ["_law_cell", "_law_k"] spMixed := by
  refine F.cal sc_Lmixed (fun vs H Q E h => ?_) (fun f cdv A outer s H vs Q E hr h => ?_)
  · obtain ⟨c, k, rfl, _⟩ := h; rfl
  · obtain ⟨c, k, rfl, h0, h1, q⟩ := h
    refine ⟨_, (pss_cons (ps_set (i := 2) sc_Lmixed.nd rfl (Or.inl rfl) (pe_op op_mod (pe_op v_mul (pe_op (xadd K) (pe_op op_mod (pv 0) pe_int) pe_int) (pe_op (xadd K) (pe_op v_mul (pv 1) (pv 1)) pe_int)) pe_int))
      (pss_one (ps_ret (pe_op op_mod (pe_op v_mul (pv 2) (pe_op (xadd K) (pv 2) (pe_op v_mul pe_int (pv 1)))) pe_int)))), ?_⟩
    have b1 : 0 ≤ c % 2147483647 := emod_lo _ (by decide)
    have b2 : c % 2147483647 < 2147483647 := emod_hi _ (by decide)
    refine ⟨_, rfl, _, _, rfl, rfl, (by decide : (0 : Int) < 2147483647), ?_⟩
    refine ⟨_, rfl, _, rfl, mulL (by exact OmL.om208 h0 h1) (by exact OmL.om209 h0 h1), ?_⟩
    refine ⟨mulL (by show -(2 ^ 64) < c % 2147483647 + 1; exact OmL.om210 b1) (by show c % 2147483647 + 1 < 2 ^ 64; exact OmL.om211 b1), _, _, rfl, rfl, (by decide : (0 : Int) < 2147483629), ?_⟩
    have m0 : 0 ≤ mixedN c k := emod_lo _ (by decide)
    have m1 : mixedN c k < 2147483629 := emod_hi _ (by decide)
    refine ⟨_, rfl, _, rfl, _, rfl, mulL (by decide) (by decide), ?_⟩
    refine ⟨mulL (by show -(2 ^ 64) < mixedN c k; exact OmL.om212 m0 m1) (by show mixedN c k < 2 ^ 64; exact OmL.om213 m0 m1), _, _, rfl, rfl, (by decide : (0 : Int) < 2147483587), ?_⟩
    exact q
theorem ok_Lby (B : Bt mg) (F : Fn K mg "_law_by" s_Lby ["_law_cell"]) (M : Ms K mg base A_NoBy A_NoName A_NoNumber A_NoRow A_NoText A_RuleError A_TooBig A_TooFar A_TooLong) : Cal P w K mg base "_law_by" 1 ["_law_cell"] spBy16 := by
  refine F.cal sc_Lby (fun vs H Q E h => ?_) (fun f cdv A outer s H vs Q E hr h => ?_)
  · obtain ⟨c, rfl, _⟩ := h; rfl
  · obtain ⟨c, rfl, q⟩ := h
    refine ⟨_, (pss_one (ps_ret (pe_ix (xix K) (pe_lst (pa_k pe_int (pa_k pe_int (pa_k pe_int (pa_k pe_int (pa_k pe_int (pa_k pe_int (pa_k pe_int (pa_k pe_int pa_nil))))))))) (pe_op op_mod (pv 0) pe_int) (fun _ _ => rfl)))), ?_⟩
    refine ⟨(by show 8 ≤ sizeLine; decide), fun p hp => ?_⟩
    refine ⟨_, rfl, _, _, rfl, rfl, (by decide : (0 : Int) < 8), ?_⟩
    refine ⟨_, _, .inl (SqL.of upd_same), atI_ints (ns := byT) (emod_lo _ (by decide)) (emod_hi _ (by decide)), ?_⟩
    exact q _ (Same.new hp _)
theorem ok_Ltaken (B : Bt mg) (F : Fn K mg "_law_taken" s_Ltaken ["_law_by_here", "_law_number_here"]) (M : Ms K mg base A_NoBy A_NoName A_NoNumber A_NoRow A_NoText A_RuleError A_TooBig A_TooFar A_TooLong) : Cal P w K mg base "_law_taken" 1 ["_law_by_here", "_law_number_here"] spTaken := by
  refine F.cal sc_Ltaken (fun vs H Q E h => ?_) (fun f cdv A outer s H vs Q E hr h => ?_)
  · obtain ⟨b, n, rfl, _⟩ := h; rfl
  · obtain ⟨b, n, rfl, h0, q⟩ := h
    refine ⟨_, (pss_cons (ps_if (pt_cmpR (xeq K hr) (pv 0) pe_int (nomark _))
      (pss_one (ps_ret (pv 1)))
      pss_nil)
      (pss_one (ps_ret (pe_op op_mod (pv 1) (pv 0))))), ?_⟩
    refine ⟨_, rfl, _, rfl, ?_⟩
    refine ite2 (fun c => ?_) (fun c => ?_)
    · refine ⟨_, rfl, ?_⟩
      have c' : b = 0 := dec_true c
      have e : Rm.tk b n = n := by rw [c', Rm.tk_zero]
      rw [e] at q; exact q
    · have c' : ¬ b = 0 := dec_false c
      refine ⟨_, rfl, _, rfl, _, _, rfl, rfl, (by exact OmL.om185 h0 c' : (0 : Int) < b), ?_⟩
      rw [Rm.tk_pos c'] at q; exact q
theorem ok_Lnumber (B : Bt mg) (F : Fn K mg "_law_number" s_Lnumber ["_law_by_here", "_law_cell", "_law_sort"]) (M : Ms K mg base A_NoBy A_NoName A_NoNumber A_NoRow A_NoText A_RuleError A_TooBig A_TooFar A_TooLong) : Cal P w K mg base "_law_number" 1 ["_law_by_here", "_law_cell", "_law_sort"] spNum15 := by
  refine F.cal sc_Lnumber (fun vs H Q E h => ?_) (fun f cdv A outer s H vs Q E hr h => ?_)
  · obtain ⟨b, c, s, rfl, _⟩ := h; rfl
  · obtain ⟨b, c, so, rfl, q⟩ := h
    refine ⟨_, (pss_cons (ps_if (pt_cmpR op_gt (pv 0) pe_int (nomark _))
      (pss_one (ps_ret (pe_op op_mod (pv 1) (pv 0))))
      pss_nil)
      (pss_cons (ps_if (pt_cmpR (xeq K hr) (pv 2) pe_int (nomark _))
      (pss_one (ps_ret (pe_op op_sub (pe_op op_mod (pv 1) pe_int) pe_int)))
      pss_nil)
      (pss_cons (ps_if (pt_cmpR (xeq K hr) (pv 2) pe_int (nomark _))
      (pss_one (ps_ret (pe_op op_sub (pe_op op_mod (pv 1) pe_int) pe_int)))
      pss_nil)
      (pss_one (ps_ret (pe_op (xadd K) (pe_op op_sub (pe_op op_mod (pe_op v_mul (pv 1) pe_int) (pe_op op_sub (pe_op v_mul pe_int (pe_op op_pow pe_int pe_int)) pe_int)) (pe_op op_pow pe_int pe_int)) pe_int)))))), ?_⟩
    refine ⟨_, rfl, _, _, rfl, rfl, _, rfl, ?_⟩
    refine ite2 (fun cc => ?_) (fun cc => ?_)
    · have c' : 0 < b := dec_true cc
      refine ⟨_, rfl, _, rfl, _, _, rfl, rfl, c', ?_⟩
      have e : num15 b c so = c % b := if_pos c'
      rw [e] at q; exact q
    · have c' : ¬ b > 0 := dec_false cc
      refine ⟨_, rfl, _, rfl, ?_⟩
      refine ite2 (fun c1 => ?_) (fun c1 => ?_)
      · refine ⟨_, rfl, _, _, rfl, rfl, (by decide : (0 : Int) < 7), _, _, rfl, rfl, ?_⟩
        have e : num15 b c so = c % 7 - 3 := by rw [num15, if_neg c', if_pos (dec_true c1)]
        rw [e] at q; exact q
      · have n0 := dec_false c1
        refine ⟨_, rfl, _, rfl, ?_⟩
        refine ite2 (fun c2 => ?_) (fun c2 => ?_)
        · refine ⟨_, rfl, _, _, rfl, rfl, (by decide : (0 : Int) < 201), _, _, rfl, rfl, ?_⟩
          have e : num15 b c so = c % 201 - 100 := by rw [num15, if_neg c', if_neg n0, if_pos (dec_true c2)]
          rw [e] at q; exact q
        · have e : num15 b c so = c * 7919 % (2 * 10 ^ 12 - 1) - 10 ^ 12 + 1 := by rw [num15, if_neg c', if_neg n0, if_neg (dec_false c2)]
          rw [e] at q
          refine ⟨_, rfl, mulR (by decide) (by decide), ?_⟩
          refine ⟨_, _, rfl, rfl, ⟨by decide, by decide, by decide⟩, mulL (by decide) (by decide), _, _, rfl, rfl, _, _, rfl, rfl, (by decide : (0 : Int) < 2 * 10 ^ 12 - 1), ?_⟩
          exact ⟨_, _, rfl, rfl, ⟨by decide, by decide, by decide⟩, _, _, rfl, rfl, q⟩
theorem ok_Lgone (B : Bt mg) (F : Fn K mg "_law_gone" s_Lgone ["_law_row_here", "_law_count"]) (M : Ms K mg base A_NoBy A_NoName A_NoNumber A_NoRow A_NoText A_RuleError A_TooBig A_TooFar A_TooLong) (C_Ltaken : Cal P w K mg base "_law_taken" 1 ["_law_by_here", "_law_number_here"] spTaken) : Cal P w K mg base "_law_gone" 2 ["_law_row_here", "_law_count"] spGone := by
  refine F.cal sc_Lgone (fun vs H Q E h => ?_) (fun f cdv A outer s H vs Q E hr h => ?_)
  · obtain ⟨v, r, c, rfl, _⟩ := h; rfl
  · obtain ⟨v, r, c, rfl, ⟨a, p, p2, rfl, hA, hR, hS⟩, ok, hc0, hc1, q⟩ := h
    refine ⟨_, (pss_cons (ps_asg (pv 0) (xgtup K (n := 3) rfl (pgs_cons (pg_name (i := 2) sc_Lgone.nd rfl (Or.inl rfl)) (pgs_cons (pg_name (i := 3) sc_Lgone.nd rfl (Or.inl rfl)) (pgs_cons (pg_name (i := 4) sc_Lgone.nd rfl (Or.inl rfl)) pgs_nil)))))
      (pss_cons (ps_set (i := 5) sc_Lgone.nd rfl (Or.inl rfl) (pe_bar (pe_callTy (xlist K) rfl B.b_list boot_list (pa_cons (pe_slice (xsl K) (pv 4) po_none (po_some (pv 1))) pa_nil))))
      (pss_cons (ps_while PassesOwn.never (pt_cmpR op_lt (pe_callB (xlen K) rfl B.b_len boot_len (pa_n (pv 5) pa_nil)) (pv 1) (nomark _))
      (pss_cons (ps_set (i := 6) sc_Lgone.nd rfl (Or.inl rfl) pe_int)
      (pss_cons (ps_for PassesOwn.never rfl (pi_enum K rfl B.b_enumerate (pa_n (pv 3) pa_nil)) (xgtup K (n := 2) rfl (pgs_cons (pg_name (i := 7) sc_Lgone.nd rfl (Or.inl rfl)) (pgs_cons (pg_name (i := 8) sc_Lgone.nd rfl (Or.inl rfl)) pgs_nil)))
      (pss_one (ps_set (i := 6) sc_Lgone.nd rfl (Or.inl rfl) (pe_op (xadd K) (pv 6) (pe_op v_mul (pv 8) (pe_ix (xix K) (pv 5) (pe_op op_sub (pe_op op_sub (pe_callB (xlen K) rfl B.b_len boot_len (pa_n (pv 5) pa_nil)) pe_int) (pv 7)) (fun _ _ => rfl)))))))
      (pss_one (ps_expr (xappend K (pv 5) (pe_callC C_Ltaken hr rfl (pa_n (pv 2) (pa_n (pv 6) pa_nil)))))))))
      (pss_one (ps_ret (pv 5)))))), ?_⟩
    have hl := ok.len
    have hl2 := ok.short
    have lS : (r.starts.map V.int).length = r.starts.length := List.length_map _
    have lR : (r.rule.map V.int).length = r.rule.length := List.length_map _
    refine ⟨_, rfl, a, _, rfl, SqT.of hA, rfl, _, _, rfl, _, _, rfl, _, _, rfl, rfl, ?_⟩
    have hcut : cutV (r.starts.map V.int) none (some c) = (r.row (min c.toNat r.starts.length)).map V.int := by
      have e : r.row (min c.toNat r.starts.length) = r.starts.take (min c.toNat r.starts.length) := Rm.row_starts (Nat.min_le_right _ _)
      rw [e]
      have e2 : c = ((c.toNat : Nat) : Int) := by exact OmL.om197 hc0 hc1
      unfold cutV
      rw [e2, HT.sIx_nat, HT.sIx_none, List.drop_zero, Nat.sub_zero, lS, List.map_take, Int.toNat_natCast]
    refine Bar.by (fun v H1 => ∃ l, v = .ref l ∧ Same H H1 ∧ H l = none ∧ H1 l = some (.lst ((r.row (min c.toNat r.starts.length)).map V.int))) (fun kk hkk => ?_) ?_
    · refine ⟨_, rfl, _, rfl, _, rfl, ?_⟩
      by_cases hw : r.starts.length ≤ c.toNat
      · refine .inr (.inr ⟨_, SqT.of hS, ?_, ?_⟩)
        · have e2 : c = ((c.toNat : Nat) : Int) := by exact OmL.om197 hc0 hc1
          rw [e2, HT.sIx_nat, HT.sIx_none, lS]; exact OmL.om214 hl lS lR hw
        · refine ⟨p2, _, rfl, .inr (SqT.of hS), fun l hl1 => hkk _ _ ⟨l, rfl, Same.new hl1 _, hl1, ?_⟩⟩
          rw [upd_same, Nat.min_eq_right hw]
          have e : r.row r.starts.length = r.starts := (Rm.row_starts (Nat.le_refl _)).trans (List.take_length ..)
          rw [e]
      · refine .inr (.inl ⟨_, SqT.of hS, ?_, fun p3 hp3 => ?_⟩)
        · have e2 : c = ((c.toNat : Nat) : Int) := by exact OmL.om197 hc0 hc1
          rw [e2, HT.sIx_nat, HT.sIx_none, lS]; exact OmL.om215 hl lS lR hw
        · refine ⟨p3, _, rfl, .inr (SqT.of upd_same), fun l hl1 => ?_⟩
          have g3 := Same.new hp3 (.tup (cutV (r.starts.map V.int) none (some c)))
          refine hkk _ _ ⟨l, rfl, g3.trans (Same.new hl1 _), g3.free hl1, ?_⟩
          rw [upd_same, hcut]
    rintro v H1 ⟨l, rfl, g1, hl1, hr1⟩
    refine ⟨fun m σ' H' => ∃ (n : Nat) (o6 o7 o8 : Option V), m = c.toNat - n ∧ min c.toNat r.starts.length ≤ n ∧ n ≤ c.toNat ∧ σ' = [some (.ref a), some (.int c), some (.int r.b), some (.ref p), some (.ref p2), some (.ref l), o6, o7, o8] ∧ Same H H' ∧ H' l = some (.lst ((r.row n).map V.int)),
      ⟨_, min c.toNat r.starts.length, _, _, _, rfl, Nat.le_refl _, Nat.min_le_left _ _, rfl, g1, hr1⟩, ?_⟩
    rintro m σ' H' ⟨n, o6, o7, o8, rfl, h1, h2, rfl, g, hL⟩
    have lL : ((r.row n).map V.int).length = n := by rw [List.length_map, Rw.row_len]
    have lN : (r.row n).length = n := Rw.row_len ..
    refine ⟨_, rfl, .ref l, n, rfl, .inl ⟨_, SqL.of hL, lL.symm⟩, _, rfl, _, _, rfl, rfl, _, rfl, ?_⟩
    refine ite2 (fun cc => ?_) (fun cc => ?_)
    · have hn : n < c.toNat := by have := dec_true cc; exact OmL.om216 hc0 hc1 h2 lL lN this
      refine ⟨_, fun _ _ z => z, ?_⟩
      refine ⟨_, rfl, true, p, _, rfl, SqT.of (g _ _ hR), ?_⟩
      refine for_enum (t := true) (a := p) (xs := r.rule.map V.int) (fun i σ' H2 => ∃ (o7 o8 : Option V), σ' = [some (.ref a), some (.int c), some (.int r.b), some (.ref p), some (.ref p2), some (.ref l), some (.int (Rm.S r.rule (fun i => (r.row n).getD i 0) n i)), o7, o8] ∧ Same H' H2) ⟨_, _, rfl, Same.refl _⟩ (fun i σ' H2 ⟨_, _, _, z⟩ => SqT.of (z _ _ (g _ _ hR))) ?_ ?_
      · rintro i x σ' H2 pt hx ⟨o7, o8, rfl, g2⟩ hpt
        obtain ⟨rfl, hi⟩ := map_int_get hx
        have g3 := Same.new hpt (.tup [.int (i : Int), .int (Pm.co r.rule i)])
        have hL3 := g3 _ _ (g2 _ _ hL)
        refine ⟨pt, _, rfl, SqT.of upd_same, rfl, _, _, rfl, _, _, rfl, rfl, ?_⟩
        refine ⟨_, rfl, _, rfl, _, rfl, _, rfl, .ref l, n, rfl, .inl ⟨_, SqL.of hL3, lL.symm⟩, _, _, rfl, rfl, _, rfl, _, _, rfl, rfl, _, _, .inl (SqL.of hL3), atI_ints (ns := r.row n) (by exact OmL.om217 hl lS lR h1 lL lN hn hi : (0 : Int) ≤ (n : Int) - 1 - (i : Int)) (by exact OmL.om218 lL lN), ?_⟩
        refine ⟨mulBd (Pm.Bd_co ok.ruleBd i) (Rm.Bd.getD (ok.rowBd n (by exact OmL.om219 hc0 hc1 lL lN hn)) _) (by decide), ?_⟩
        refine ⟨some (.int (i : Int)), some (.int (Pm.co r.rule i)), ?_, g2.trans g3⟩
        rw [show ((n : Int) - 1 - (i : Int)).toNat = n - 1 - i by exact OmL.om220 lL lN]
        rfl
      rintro σ' H2 ⟨o7, o8, rfl, g2⟩
      rw [lR]
      have hL2 := g2 _ _ hL
      refine ⟨_, rfl, .inl ⟨rfl, _, SqL.of hL2⟩, _, rfl, _, rfl, r.b, _, rfl, ok.by0, ?_⟩
      refine ⟨l, _, _, rfl, rfl, hL2, ?_, ?_⟩
      · rw [lL]; exact small1000 (by exact OmL.om219 hc0 hc1 lL lN hn)
      · refine ⟨c.toNat - (n + 1), by exact OmL.om221 lL lN hn, n + 1, _, _, _, rfl, by exact OmL.om222 h1 lL lN, by exact OmL.om223 lL lN hn, rfl, (g.trans g2).upd hl1 _, ?_⟩
        rw [upd_same]
        have e : r.row (n + 1) = r.row n ++ [Rm.tk r.b (Rm.S r.rule (fun i => (r.row n).getD i 0) n r.rule.length)] := by
          show _ ++ [if n < r.starts.length then r.starts.getD n 0 else _] = _
          rw [if_neg (by exact OmL.om224 hl lS lR h1 lL lN hn)]; rfl
        rw [e, List.map_append]; rfl
    · have hn : n = c.toNat := by have := dec_false cc; exact OmL.om225 hc0 hc1 h2 lL lN this
      subst hn
      exact ⟨_, rfl, q l H' g hl1 hL⟩
theorem ok_Lrow (B : Bt mg) (F : Fn K mg "_law_row" s_Lrow ["_law_script", "_law_start", "_law_by_here", "_law_most"]) (M : Ms K mg base A_NoBy A_NoName A_NoNumber A_NoRow A_NoText A_RuleError A_TooBig A_TooFar A_TooLong) (C_Lcell_at : Cal P w K mg base "_law_cell_at" 1 ["_law_script", "_law_k"] (spCell K)) (C_Lnumber : Cal P w K mg base "_law_number" 1 ["_law_by_here", "_law_cell", "_law_sort"] spNum15) (C_Lmixed : Cal P w K mg base "_law_mixed" 1 ["_law_cell", "_law_k"] spMixed) : Cal P w K mg base "_law_row" 2 ["_law_script", "_law_start", "_law_by_here", "_law_most"] (spRow20 K) := by
  refine F.cal sc_Lrow (fun vs H Q E h => ?_) (fun f cdv A outer s H vs Q E hr h => ?_)
  · obtain ⟨a, ns, st, b, most, rfl, _⟩ := h; rfl
  · obtain ⟨a, ns, st, b, most, rfl, hS, s0, hB, hm, q⟩ := h
    refine ⟨_, (pss_cons (ps_set (i := 4) sc_Lrow.nd rfl (Or.inr rfl) (pe_callC C_Lcell_at hr rfl (pa_n (pv 0) (pa_n (pv 1) pa_nil))))
      (pss_cons (ps_set (i := 5) sc_Lrow.nd rfl (Or.inl rfl) (pe_op op_mod (pv 4) (pe_op (xadd K) (pv 3) pe_int)))
      (pss_cons (ps_set (i := 6) sc_Lrow.nd rfl (Or.inr rfl) (pe_ix (xix K) (pe_lst (pa_k pe_int (pa_k pe_int (pa_k pe_int (pa_k pe_int (pa_k pe_int (pa_k pe_int pa_nil))))))) (pe_op op_mod (pe_op op_fdiv (pv 4) pe_int) pe_int) (fun _ _ => rfl)))
      (pss_cons (ps_setC (i := 7) (hN := sc_Lrow.nd) (hi' := rfl) (hx := (Or.inl rfl)) (sc := cs_Lrow1) (N := ["_law_k", "_law_by_here", "_law_script", "_law_sort", "_law_start"]) (ix := [none, some 2, some 0, some 6, some 1]) (comp_mk (by kernel_rfl) (by kernel_rfl) (by kernel_rfl) (by kernel_rfl) (by kernel_rfl) (by kernel_rfl) (by kernel_rfl) (by kernel_rfl)) rfl (pi_range1 rfl B.b_range (pa_n (pv 5) pa_nil)) (fun cl C s₀ H₀ ex => ⟨(pg_name (i := 0) (show (["_law_k", "_law_by_here", "_law_script", "_law_sort", "_law_start"] : List Str).Nodup by decide +kernel) rfl (Or.inl rfl)), pif_nil, (pe_callC C_Lnumber hr rfl (pa_n (pv 1) (pa_cons (pe_callC C_Lmixed hr rfl (pa_cons (pe_callC C_Lcell_at hr rfl (pa_n (pv 2) (pa_b (pe_op (xadd K) (pv 4) pe_int) pa_nil))) (pa_n (pv 0) pa_nil))) (pa_n (pv 3) pa_nil))))⟩))
      (pss_cons (ps_setC (i := 8) (hN := sc_Lrow.nd) (hi' := rfl) (hx := (Or.inl rfl)) (sc := cs_Lrow2) (N := ["_law_k", "_law_by_here", "_law_script", "_law_sort", "_law_start"]) (ix := [none, some 2, some 0, some 6, some 1]) (comp_mk (by kernel_rfl) (by kernel_rfl) (by kernel_rfl) (by kernel_rfl) (by kernel_rfl) (by kernel_rfl) (by kernel_rfl) (by kernel_rfl)) rfl (pi_range1 rfl B.b_range (pa_n (pv 5) pa_nil)) (fun cl C s₀ H₀ ex => ⟨(pg_name (i := 0) (show (["_law_k", "_law_by_here", "_law_script", "_law_sort", "_law_start"] : List Str).Nodup by decide +kernel) rfl (Or.inl rfl)), pif_nil, (pe_callC C_Lnumber hr rfl (pa_n (pv 1) (pa_cons (pe_callC C_Lmixed hr rfl (pa_cons (pe_callC C_Lcell_at hr rfl (pa_n (pv 2) (pa_b (pe_op (xadd K) (pv 4) pe_int) pa_nil))) (pa_b (pe_op (xadd K) pe_int (pv 0)) pa_nil))) (pa_n (pv 3) pa_nil))))⟩))
      (pss_cons (ps_bar (ps_if (pt_cmpR (xeq K hr) (pe_op op_mod (pe_op op_fdiv (pv 4) pe_int) pe_int) pe_int (nomark _))
      (pss_one (ps_setC (i := 7) (hN := sc_Lrow.nd) (hi' := rfl) (hx := (Or.inl rfl)) (sc := cs_Lrow3) (N := ["_law_k", "_law_number_here", "_law_cell"]) (ix := [none, none, some 4]) (comp_mk (by kernel_rfl) (by kernel_rfl) (by kernel_rfl) (by kernel_rfl) (by kernel_rfl) (by kernel_rfl) (by kernel_rfl) (by kernel_rfl)) rfl (pi_enum K rfl B.b_enumerate (pa_n (pv 7) pa_nil)) (fun cl C s₀ H₀ ex => ⟨(xgtup K (n := 2) rfl (pgs_cons (pg_name (i := 0) (show (["_law_k", "_law_number_here", "_law_cell"] : List Str).Nodup by decide +kernel) rfl (Or.inl rfl)) (pgs_cons (pg_name (i := 1) (show (["_law_k", "_law_number_here", "_law_cell"] : List Str).Nodup by decide +kernel) rfl (Or.inl rfl)) pgs_nil))), pif_nil, (pe_op v_mul (pv 1) (pe_op op_mod (pe_callC C_Lmixed hr rfl (pa_n (pv 2) (pa_b (pe_op (xadd K) pe_int (pv 0)) pa_nil))) pe_int))⟩)))
      pss_nil))
      (pss_cons (ps_bar (ps_if (PW.pt (pw_and (pt_cmpR (xeq K hr) (pe_op op_mod (pe_op op_fdiv (pv 4) pe_int) pe_int) pe_int (nomark _)) (pw_and1 (pt_cmpR op_gt (pv 5) pe_int (nomark _)))))
      (pss_one (ps_set (i := 8) sc_Lrow.nd rfl (Or.inl rfl) (pe_op (xadd K) (pe_op v_mul (pe_lst (pa_k pe_int pa_nil)) (pe_op op_sub (pv 5) pe_int)) (pe_lst (pa_cons (pe_ix (xix K) (pv 8) (pe_un un_neg pe_int) (fun _ _ => rfl)) pa_nil)))))
      pss_nil))
      (pss_one (ps_ret (pe_tup (pa_n (pv 2) (pa_cons (pe_callTy (xtuple K) rfl B.b_tuple boot_tuple (pa_n (pv 7) pa_nil)) (pa_cons (pe_callTy (xtuple K) rfl B.b_tuple boot_tuple (pa_n (pv 8) pa_nil)) pa_nil))))))))))))), ?_⟩
    obtain ⟨hb0, hb1, _⟩ := hB.range
    refine ⟨_, rfl, _, rfl, a, ns, st, rfl, hS, s0, ?_⟩
    generalize cellAt ns st = c
    refine ⟨_, rfl, _, rfl, _, _, rfl, rfl, (by show 0 < (most : Int) + 1; exact OmL.om226 hm), ?_⟩
    obtain ⟨N, eN, hN⟩ : ∃ N : Nat, c % ((most : Int) + 1) = (N : Int) ∧ N ≤ most := by
      have h0 := emod_lo c (show 0 < (most : Int) + 1 by exact OmL.om226 hm)
      have h1 := emod_hi c (show 0 < (most : Int) + 1 by exact OmL.om226 hm)
      exact ⟨_, (Int.toNat_of_nonneg h0).symm, by exact OmL.om227 h0 h1⟩
    dsimp only
    rw [eN]
    refine ⟨(by show 6 ≤ sizeLine; decide), fun p6 hp6 => ?_⟩
    have g1 := Same.new hp6 (.lst (sortL.map V.int))
    have e0 := emod_lo (c / 13) (show (0 : Int) < 6 by decide)
    have e1 := emod_hi (c / 13) (show (0 : Int) < 6 by decide)
    refine ⟨_, rfl, _, _, rfl, rfl, ⟨by decide, by decide⟩, _, _, rfl, rfl, (by decide : (0 : Int) < 6), _, _, .inl (SqL.of upd_same), atI_ints (ns := sortL) e0 e1, ?_⟩
    generalize sortL.getD (c / 13 % 6).toNat 0 = so
    have eH : (upd H p6 (.lst [.int 0, .int 0, .int 0, .int 1, .int 0, .int 2])) = upd H p6 (.lst (sortL.map V.int)) := rfl
    rw [eH]
    generalize upd H p6 (.lst (sortL.map V.int)) = H1 at g1
    have hS1 := g1.seq hS
    -- the rule
    refine ⟨_, rfl, (N : Int), rfl, (by exact OmL.om228 : -(2 ^ 62) ≤ (N : Int)), (by exact OmL.om229 hm hN : (N : Int) < 2 ^ 62), ?_⟩
    rw [Int.toNat_natCast]
    refine comp_rng (n := N) (by exact OmL.om230 hm hN) rfl (fun k => num15 b (mixedI (cellAt ns (st + 1)) (0 + (k : Int))) so) ?_ ?_
    · intro H2 k g2 hk kk hkk
      exact ⟨_, rfl, _, rfl, _, rfl, a, ns, st + 1, rfl, g2.seq hS1, by exact OmL.om231 s0, _, rfl, cellAt ns (st + 1), 0 + (k : Int), rfl, by exact OmL.om193, by exact OmL.om232 hm hN hk, _, rfl, b, _, so, rfl, hkk⟩
    intro D1 hD1
    generalize hr0 : (Pm.ofF N fun k => num15 b (mixedI (cellAt ns (st + 1)) (0 + (k : Int))) so) = rule
    have lr : rule.length = N := by rw [← hr0]; exact Pm.ofF_len ..
    have nr : ∀ x ∈ rule, IsNum b x ∧ Rm.Bd 45 x := fun x hx => by
      rw [← hr0] at hx
      obtain ⟨j, _, rfl⟩ := Pm.mem_ofF hx
      exact ⟨num15_num hB _ _, num15_bd hb1 _ _⟩
    clear hr0
    have g2 := Same.new hD1 (.lst (rule.map V.int))
    have h1 : (upd H1 D1 (.lst (rule.map V.int))) D1 = some (.lst (rule.map V.int)) := upd_same
    generalize upd H1 D1 (.lst (rule.map V.int)) = H2 at g2 h1
    have hS2 := g2.seq hS1
    -- the starts
    refine ⟨_, rfl, (N : Int), rfl, (by exact OmL.om233 lr : -(2 ^ 62) ≤ (N : Int)), (by exact OmL.om234 hm hN lr : (N : Int) < 2 ^ 62), ?_⟩
    rw [Int.toNat_natCast]
    refine comp_rng (n := N) (by exact OmL.om235 hm hN lr) rfl (fun k => num15 b (mixedI (cellAt ns (st + 2)) (20 + (0 + (k : Int)))) so) ?_ ?_
    · intro H3 k g3 hk kk hkk
      exact ⟨_, rfl, _, rfl, _, rfl, a, ns, st + 2, rfl, g3.seq hS2, by exact OmL.om236 s0, _, rfl, cellAt ns (st + 2), 20 + (0 + (k : Int)), rfl, by exact OmL.om237, by exact OmL.om238 hm hN lr hk, _, rfl, b, _, so, rfl, hkk⟩
    intro D2 hD2
    generalize hs0 : (Pm.ofF N fun k => num15 b (mixedI (cellAt ns (st + 2)) (20 + (0 + (k : Int)))) so) = starts
    have ls : starts.length = N := by rw [← hs0]; exact Pm.ofF_len ..
    have nst : ∀ x ∈ starts, IsNum b x ∧ Rm.Bd 45 x := fun x hx => by
      rw [← hs0] at hx
      obtain ⟨j, _, rfl⟩ := Pm.mem_ofF hx
      exact ⟨num15_num hB _ _, num15_bd hb1 _ _⟩
    clear hs0
    have g3 := Same.new hD2 (.lst (starts.map V.int))
    have h2 : (upd H2 D2 (.lst (starts.map V.int))) D2 = some (.lst (starts.map V.int)) := upd_same
    have h1' := g3 _ _ h1
    generalize upd H2 D2 (.lst (starts.map V.int)) = H3 at g3 h2 h1'
    have gA := g1.trans (g2.trans g3)
    -- some noughts in the rule
    refine BarS.by (fun σ' H' => ∃ (l1 : Addr) (rule : List Int), σ' = [some (.ref a), some (.int st), some (.int b), some (.int most), some (.int c), some (.int N), some (.int so), some (.ref l1), some (.ref D2)] ∧ Same H3 H' ∧ H' l1 = some (.lst (rule.map V.int)) ∧ rule.length = N ∧ ∀ x ∈ rule, IsNum b x ∧ Rm.Bd 45 x) (fun NN hNN => ?_) ?_
    · refine ⟨_, rfl, _, _, rfl, rfl, ⟨by decide, by decide⟩, _, _, rfl, rfl, (by decide : (0 : Int) < 3), _, rfl, ?_⟩
      refine ite2 (fun _ => ?_) (fun _ => hNN _ _ ⟨D1, rule, rfl, Same.refl _, h1', lr, nr⟩)
      refine ⟨_, rfl, false, D1, _, rfl, SqL.of h1', ?_⟩
      refine comp_enum (t := false) (SqL.of h1') (by rw [List.length_map, lr]; exact Nat.le_of_lt (small1000 (by exact OmL.om239 hm hN lr ls))) rfl (fun k x => match x with | .int n => .int (n * (mixedI c (40 + (k : Int)) % 2)) | _ => .non) ?_ ?_
      · intro H4 k x g4 hxk kk hkk
        obtain ⟨rfl, hk⟩ := map_int_get hxk
        have m0 := emod_lo (mixedI c (40 + (k : Int))) (show (0 : Int) < 2 by decide)
        have m1 := emod_hi (mixedI c (40 + (k : Int))) (show (0 : Int) < 2 by decide)
        exact ⟨_, rfl, _, rfl, _, rfl, c, 40 + (k : Int), rfl, by exact OmL.om240, by exact OmL.om241 hm hN lr ls hk, _, _, rfl, rfl, (by decide : (0 : Int) < 2), mulR (by show -(2 ^ 64) < mixedI c (40 + (k : Int)) % 2; exact OmL.om242 m0) (by show mixedI c (40 + (k : Int)) % 2 < 2 ^ 64; exact OmL.om243 m0), hkk _ (Same.refl _)⟩
      · intro D3 H4 hD3 g4 hD4
        have ed : H4 D3 = some (.lst ((Pm.ofF rule.length fun k => Pm.co rule k * (mixedI c (40 + (k : Int)) % 2)).map V.int)) := hD4.trans (congrArg (fun z => some (HO.lst z)) (ofF_mapIdx rule fun k n => n * (mixedI c (40 + (k : Int)) % 2)))
        refine hNN _ _ ⟨D3, _, rfl, g4, ed, by rw [Pm.ofF_len]; exact lr, fun x hx => ?_⟩
        obtain ⟨k, hk, rfl⟩ := Pm.mem_ofF hx
        have nk := nr _ (Pm.co_mem hk)
        have m0 := emod_lo (mixedI c (40 + (k : Int))) (show (0 : Int) < 2 by decide)
        have m1 := emod_hi (mixedI c (40 + (k : Int))) (show (0 : Int) < 2 by decide)
        rcases (show mixedI c (40 + (k : Int)) % 2 = 0 ∨ mixedI c (40 + (k : Int)) % 2 = 1 by exact OmL.om244 m0) with z | z
        · rw [z, Int.mul_zero]; exact ⟨IsNum.zero hB, Rm.Bd.zero _⟩
        · rw [z, Int.mul_one]; exact nk
    clear nr lr h1 h1'
    rintro σ' H4 ⟨l1, rule, rfl, g4, h1, lr, nr⟩
    have h2' := g4 _ _ h2
    -- noughts ahead in the starts
    refine BarS.by (fun σ' H' => ∃ (l2 : Addr) (starts : List Int), σ' = [some (.ref a), some (.int st), some (.int b), some (.int most), some (.int c), some (.int N), some (.int so), some (.ref l1), some (.ref l2)] ∧ Same H4 H' ∧ H' l2 = some (.lst (starts.map V.int)) ∧ starts.length = N ∧ ∀ x ∈ starts, IsNum b x ∧ Rm.Bd 45 x) (fun NN hNN => ?_) ?_
    · refine ⟨_, rfl, _, _, rfl, rfl, ⟨by decide, by decide⟩, _, _, rfl, rfl, (by decide : (0 : Int) < 3), _, rfl, ?_⟩
      refine ite2 (fun _ => ?_) (fun _ => iteF (hNN _ _ ⟨D2, starts, rfl, Same.refl _, h2', ls, nst⟩))
      refine ⟨_, rfl, _, _, rfl, rfl, _, rfl, ?_⟩
      refine ite2 (fun cc => ?_) (fun _ => hNN _ _ ⟨D2, starts, rfl, Same.refl _, h2', ls, nst⟩)
      have hN0 : 0 < N := by have := dec_true cc; exact OmL.om245 ls lr this
      refine ⟨(by show 1 ≤ sizeLine; decide), fun m1 hm1 => ?_⟩
      have k1 := Same.new hm1 (.lst [.int 0])
      have e1 : (upd H4 m1 (.lst [.int 0])) m1 = some (.lst [.int 0]) := upd_same
      generalize upd H4 m1 (.lst [.int 0]) = G1 at k1 e1
      refine ⟨_, rfl, _, _, rfl, rfl, _, e1, by exact OmL.om246 ls lr hN0, by exact OmL.om247 hm hN ls lr, ?_, fun m2 hm2 => ?_⟩
      · show 1 * ((N : Int) - 1).toNat ≤ sizeLine
        rw [Nat.one_mul]; exact Nat.le_of_lt (small1000 (by exact OmL.om248 hm hN ls lr))
      rw [show ((N : Int) - 1).toNat = N - 1 by exact OmL.om249 ls lr hN0, replicate_ofF]
      have k2 := Same.new hm2 (.lst ((Pm.ofF (N - 1) fun _ => 0).map V.int))
      have e2 : (upd G1 m2 (.lst ((Pm.ofF (N - 1) fun _ => 0).map V.int))) m2 = some (.lst ((Pm.ofF (N - 1) fun _ => 0).map V.int)) := upd_same
      generalize upd G1 m2 (.lst ((Pm.ofF (N - 1) fun _ => 0).map V.int)) = G2 at k2 e2
      have h2G := k2 _ _ (k1 _ _ h2')
      refine ⟨_, rfl, _, rfl, _, _, .inl (SqL.of h2G), atI_back (ns := starts) (N - 1) (by exact OmL.om250) (by exact OmL.om251 ls lr hN0), (by show 1 ≤ sizeLine; decide), fun m3 hm3 => ?_⟩
      have k3 := Same.new hm3 (.lst [.int (starts.getD (N - 1) 0)])
      have e3 : (upd G2 m3 (.lst [.int (starts.getD (N - 1) 0)])) m3 = some (.lst [.int (starts.getD (N - 1) 0)]) := upd_same
      have e2' := k3 _ _ e2
      generalize upd G2 m3 (.lst [.int (starts.getD (N - 1) 0)]) = G3 at k3 e3 e2'
      refine .inl ⟨_, _, e2', e3, ?_, fun m4 hm4 => ?_⟩
      · rw [List.length_map, Pm.ofF_len]; exact Nat.le_of_lt (small1000 (by show _ + 1 ≤ 1000; exact OmL.om252 hm hN ls lr hN0))
      have k4 := Same.new hm4 (.lst ((Pm.ofF (N - 1) fun _ => 0).map V.int ++ [.int (starts.getD (N - 1) 0)]))
      refine hNN _ _ ⟨m4, (Pm.ofF (N - 1) fun _ => 0) ++ [Pm.co starts (N - 1)], rfl, k1.trans (k2.trans (k3.trans k4)), by rw [upd_same, map_snoc]; rfl, by rw [List.length_append, Pm.ofF_len]; show N - 1 + 1 = N; exact OmL.om253 ls lr hN0, fun x hx => ?_⟩
      rcases List.mem_append.mp hx with hx | hx
      · obtain ⟨_, _, rfl⟩ := Pm.mem_ofF hx
        exact ⟨IsNum.zero hB, Rm.Bd.zero _⟩
      · rw [List.mem_singleton.mp hx]; exact nst _ (Pm.co_mem (by exact OmL.om254 ls lr hN0))
    clear nst ls h2 h2'
    rintro σ' H5 ⟨l2, starts, rfl, g5, h2, ls, nst⟩
    refine ⟨_, rfl, _, rfl, l1, _, rfl, .inl ⟨SqL.of (g5 _ _ h1), fun t1 ht1 => ?_⟩⟩
    have gt1 := Same.new ht1 (.tup (rule.map V.int))
    refine ⟨_, rfl, l2, _, rfl, .inl ⟨SqL.of (gt1 _ _ h2), fun t2 ht2 => ?_⟩⟩
    have gt2 := Same.new ht2 (.tup (starts.map V.int))
    refine ⟨(by show 3 ≤ sizeLine; decide), fun t3 ht3 => ?_⟩
    have gt3 := Same.new ht3 (.tup [.int b, .ref t1, .ref t2])
    exact q (.ref t3) ⟨b, rule, starts⟩ _ (gA.trans (g4.trans (g5.trans (gt1.trans (gt2.trans gt3))))) ⟨t3, t1, t2, rfl, upd_same, gt3 _ _ (gt2 _ _ upd_same), gt3 _ _ upd_same⟩ ⟨rfl, lr.trans ls.symm, by show rule.length ≤ most; exact OmL.om255 hN lr ls, fun x hx => (nr x hx).1, fun x hx => (nst x hx).1, fun x hx => (nr x hx).2, fun x hx => (nst x hx).2⟩
theorem ok_Llonger (B : Bt mg) (F : Fn K mg "_law_longer" s_Llonger ["_law_row_here", "_law_number_here"]) (M : Ms K mg base A_NoBy A_NoName A_NoNumber A_NoRow A_NoText A_RuleError A_TooBig A_TooFar A_TooLong) (C_Lgone : Cal P w K mg base "_law_gone" 2 ["_law_row_here", "_law_count"] spGone) (C_Ltaken : Cal P w K mg base "_law_taken" 1 ["_law_by_here", "_law_number_here"] spTaken) : Cal P w K mg base "_law_longer" 3 ["_law_row_here", "_law_number_here"] spLonger20 := by
  refine F.cal sc_Llonger (fun vs H Q E h => ?_) (fun f cdv A outer s H vs Q E hr h => ?_)
  · obtain ⟨v, r, n, rfl, _⟩ := h; rfl
  · obtain ⟨v, r, n, rfl, hRI, ok, hsh, hn, q⟩ := h
    refine ⟨_, (pss_cons (ps_asg (pv 0) (xgtup K (n := 3) rfl (pgs_cons (pg_name (i := 2) sc_Llonger.nd rfl (Or.inr rfl)) (pgs_cons (pg_name (i := 3) sc_Llonger.nd rfl (Or.inl rfl)) (pgs_cons (pg_name (i := 4) sc_Llonger.nd rfl (Or.inl rfl)) pgs_nil)))))
      (pss_cons (ps_set (i := 5) sc_Llonger.nd rfl (Or.inl rfl) (pe_op (xadd K) (pe_lst (pa_k pe_int pa_nil)) (pe_comp (sc := cs_Llonger1) (N := ["_law_part"]) (ix := [none]) (comp_mk (by kernel_rfl) (by kernel_rfl) (by kernel_rfl) (by kernel_rfl) (by kernel_rfl) (by kernel_rfl) (by kernel_rfl) (by kernel_rfl)) rfl (xseq K (pv 3)) (fun cl C s₀ H₀ ex => ⟨(pg_name (i := 0) (show (["_law_part"] : List Str).Nodup by decide +kernel) rfl (Or.inl rfl)), pif_nil, (pe_op op_sub pe_int (pv 0))⟩))))
      (pss_cons (ps_setC (i := 5) (hN := sc_Llonger.nd) (hi' := rfl) (hx := (Or.inl rfl)) (sc := cs_Llonger2) (N := ["_law_one", "_law_other_here", "_law_number_here"]) (ix := [none, none, some 1]) (comp_mk (by kernel_rfl) (by kernel_rfl) (by kernel_rfl) (by kernel_rfl) (by kernel_rfl) (by kernel_rfl) (by kernel_rfl) (by kernel_rfl)) rfl (pi_zip K rfl B.b_zip (pa_b (pe_op (xadd K) (pv 5) (pe_lst (pa_k pe_int pa_nil))) (pa_b (pe_op (xadd K) (pe_lst (pa_k pe_int pa_nil)) (pv 5)) pa_nil))) (fun cl C s₀ H₀ ex => ⟨(xgtup K (n := 2) rfl (pgs_cons (pg_name (i := 0) (show (["_law_one", "_law_other_here", "_law_number_here"] : List Str).Nodup by decide +kernel) rfl (Or.inl rfl)) (pgs_cons (pg_name (i := 1) (show (["_law_one", "_law_other_here", "_law_number_here"] : List Str).Nodup by decide +kernel) rfl (Or.inl rfl)) pgs_nil))), pif_nil, (pe_op op_sub (pv 0) (pe_op v_mul (pv 2) (pv 1)))⟩))
      (pss_cons (ps_set (i := 6) sc_Llonger.nd rfl (Or.inl rfl) (pe_callC C_Lgone hr rfl (pa_n (pv 0) (pa_b (pe_op (xadd K) (pe_callB (xlen K) rfl B.b_len boot_len (pa_n (pv 3) pa_nil)) pe_int) pa_nil))))
      (pss_one (ps_ret (pe_tup (pa_n (pv 2) (pa_cons (pe_callTy (xtuple K) rfl B.b_tuple boot_tuple (pa_cons (pe_comp (sc := cs_Llonger3) (N := ["_law_part", "_law_by_here"]) (ix := [none, some 2]) (comp_mk (by kernel_rfl) (by kernel_rfl) (by kernel_rfl) (by kernel_rfl) (by kernel_rfl) (by kernel_rfl) (by kernel_rfl) (by kernel_rfl)) rfl (xseq K (pe_slice (xsl K) (pv 5) (po_some pe_int) po_none)) (fun cl C s₀ H₀ ex => ⟨(pg_name (i := 0) (show (["_law_part", "_law_by_here"] : List Str).Nodup by decide +kernel) rfl (Or.inl rfl)), pif_nil, (pe_callC C_Ltaken hr rfl (pa_n (pv 1) (pa_b (pe_op op_sub pe_int (pv 0)) pa_nil)))⟩)) pa_nil)) (pa_cons (pe_callTy (xtuple K) rfl B.b_tuple boot_tuple (pa_n (pv 6) pa_nil)) pa_nil)))))))))), ?_⟩
    obtain ⟨a, p, p2, rfl, hA, hR, hS⟩ := id hRI
    have lR : (r.rule.map V.int).length = r.rule.length := List.length_map _
    refine ⟨_, rfl, a, _, rfl, SqT.of hA, rfl, _, _, rfl, _, _, rfl, _, _, rfl, rfl, ?_⟩
    -- the polynomial, the highest first
    refine ⟨(by show 1 ≤ sizeLine; decide), fun l1 hl1 => ?_⟩
    have g1 := Same.new hl1 (.lst [.int 1])
    have h1 : (upd H l1 (.lst [.int 1])) l1 = some (.lst [.int 1]) := upd_same
    generalize upd H l1 (.lst [.int 1]) = H1 at g1 h1
    refine ⟨_, rfl, p, rfl, .inr ⟨⟨_, SqT.of (g1 _ _ hR)⟩, ?_⟩⟩
    refine comp_tup (g1 _ _ hR) (by exact OmL.om256 hsh lR) rfl (fun x => 0 - x) ?_ ?_
    · intro H2 x g2 hx k hk
      exact ⟨_, rfl, _, _, rfl, rfl, hk⟩
    intro D1 hD1
    have g2 := Same.new hD1 (.lst ((r.rule.map fun x => 0 - x).map V.int))
    have h2 : (upd H1 D1 (.lst ((r.rule.map fun x => 0 - x).map V.int))) D1 = some (.lst ((r.rule.map fun x => 0 - x).map V.int)) := upd_same
    have h1' := g2 _ _ h1
    generalize upd H1 D1 (.lst ((r.rule.map fun x => 0 - x).map V.int)) = H2 at g2 h2 h1'
    refine .inl ⟨_, _, h1', h2, ?_, fun l2 hl2 => ?_⟩
    · rw [List.length_map, List.length_map]; exact Nat.le_of_lt (small1000 (by show 1 + _ ≤ 1000; exact OmL.om257 hsh lR))
    have g3 := Same.new hl2 (.lst ([.int 1] ++ (r.rule.map fun x => 0 - x).map V.int))
    have h3 : (upd H2 l2 (.lst ([.int 1] ++ (r.rule.map fun x => 0 - x).map V.int))) l2 = some (.lst ((lowL r.rule).map V.int)) := upd_same
    generalize upd H2 l2 (.lst ([.int 1] ++ (r.rule.map fun x => 0 - x).map V.int)) = H3 at g3 h3
    have lLo := lowL_len r.rule
    -- times x less the number
    refine ⟨_, rfl, (by show 1 ≤ sizeLine; decide), fun l3 hl3 => ?_⟩
    have g4 := Same.new hl3 (.lst [.int 0])
    have h4 : (upd H3 l3 (.lst [.int 0])) l3 = some (.lst [.int 0]) := upd_same
    have h3a := g4 _ _ h3
    generalize upd H3 l3 (.lst [.int 0]) = H4 at g4 h4 h3a
    refine .inl ⟨_, _, h3a, h4, ?_, fun l4 hl4 => ?_⟩
    · rw [List.length_map, lLo]; exact Nat.le_of_lt (small1000 (by show _ + 1 ≤ 1000; exact OmL.om258 hsh lR lLo))
    have g5 := Same.new hl4 (.lst ((lowL r.rule).map V.int ++ [.int 0]))
    have h5 : (upd H4 l4 (.lst ((lowL r.rule).map V.int ++ [.int 0]))) l4 = some (.lst ((lowL r.rule ++ [0]).map V.int)) := by rw [upd_same, map_snoc]
    have h3b := g5 _ _ h3a
    generalize upd H4 l4 (.lst ((lowL r.rule).map V.int ++ [.int 0])) = H5 at g5 h5 h3b
    refine ⟨(by show 1 ≤ sizeLine; decide), fun l5 hl5 => ?_⟩
    have g6 := Same.new hl5 (.lst [.int 0])
    have h6 : (upd H5 l5 (.lst [.int 0])) l5 = some (.lst [.int 0]) := upd_same
    have h3c := g6 _ _ h3b
    have h5a := g6 _ _ h5
    generalize upd H5 l5 (.lst [.int 0]) = H6 at g6 h6 h3c h5a
    refine ⟨_, rfl, .inl ⟨_, _, h6, h3c, ?_, fun l6 hl6 => ?_⟩⟩
    · rw [List.length_map, lLo]; exact Nat.le_of_lt (small1000 (by show 1 + _ ≤ 1000; exact OmL.om259 hsh lR lLo))
    have g7 := Same.new hl6 (.lst ([.int 0] ++ (lowL r.rule).map V.int))
    have h7 : (upd H6 l6 (.lst ([.int 0] ++ (lowL r.rule).map V.int))) l6 = some (.lst (([0] ++ lowL r.rule).map V.int)) := upd_same
    have h5b := g7 _ _ h5a
    generalize upd H6 l6 (.lst ([.int 0] ++ (lowL r.rule).map V.int)) = H7 at g7 h7 h5b
    refine ⟨false, false, l4, l6, _, _, rfl, SqL.of h5b, SqL.of h7, ?_⟩
    refine comp_zip (t1 := false) (t2 := false) (SqL.of h5b) (SqL.of h7) (by rw [List.length_map, List.length_append, lLo]; exact Nat.le_of_lt (small1000 (by show _ + 1 + 1 ≤ 1000; exact OmL.om258 hsh lR lLo))) rfl (zipF fun x y => x - n * y) ?_ ?_
    · intro H8 k x y g8 hxk hyk kk hkk
      obtain ⟨rfl, _⟩ := map_int_get hxk
      obtain ⟨rfl, _⟩ := map_int_get hyk
      exact ⟨_, rfl, _, rfl, _, rfl, mulL (by have := hn; unfold Rm.Bd at this; exact OmL.om260 this) (by have := hn; unfold Rm.Bd at this; exact OmL.om261 this), _, _, rfl, rfl, hkk⟩
    intro D2 H8 hD2 g8 hD8
    rw [zipF_map] at hD8
    have eM : List.zipWith (fun x y => x - n * y) (lowL r.rule ++ [0]) ([0] ++ lowL r.rule) = midL n r.rule := rfl
    rw [eM] at hD8
    have gA := g1.trans (g2.trans (g3.trans (g4.trans (g5.trans (g6.trans (g7.trans g8))))))
    -- the places
    refine ⟨_, rfl, _, rfl, .ref p, r.rule.length, rfl, .inr ⟨_, SqT.of (gA _ _ hR), lR.symm⟩, .ref a, r, (r.rule.length : Int) + 1, rfl, hRI.same gA, ok, by exact OmL.om262 hsh lR lLo, by exact OmL.om263 hsh lR lLo, fun ls H9 g9 fs hs => ?_⟩
    rw [show ((r.rule.length : Int) + 1).toNat = r.rule.length + 1 by exact OmL.om264 hsh lR lLo] at hs
    refine ⟨_, rfl, _, rfl, _, rfl, .inl ⟨_, SqL.of (g9 _ _ hD8), fun l7 hl7 => ?_⟩⟩
    rw [show (1 : Int) = ((1 : Nat) : Int) from rfl, cut_drop, ← List.map_drop]
    have g10 := Same.new hl7 (.lst (((midL n r.rule).drop 1).map V.int))
    have h10 : (upd H9 l7 (.lst (((midL n r.rule).drop 1).map V.int))) l7 = some (.lst (((midL n r.rule).drop 1).map V.int)) := upd_same
    have hs10 := g10 _ _ hs
    generalize upd H9 l7 (.lst (((midL n r.rule).drop 1).map V.int)) = H10 at g10 h10 hs10
    refine ⟨l7, rfl, .inl ⟨⟨_, SqL.of h10⟩, ?_⟩⟩
    refine comp_lst h10 (by rw [List.length_drop, midL_len]; exact OmL.om265 hsh lR lLo) rfl (fun x => Rm.tk r.b (0 - x)) ?_ ?_
    · intro H11 x g11 hx k hk
      exact ⟨_, rfl, _, rfl, _, _, rfl, rfl, r.b, _, rfl, ok.by0, hk⟩
    intro D3 hD3
    rw [longerR_mid]
    have g11 := Same.new hD3 (.lst ((longerR r.b n r.rule).map V.int))
    refine ⟨D3, _, rfl, .inl ⟨SqL.of upd_same, fun t1 ht1 => ?_⟩⟩
    have gt1 := Same.new ht1 (.tup ((longerR r.b n r.rule).map V.int))
    refine ⟨_, rfl, ls, _, rfl, .inl ⟨SqL.of (gt1 _ _ (g11 _ _ hs10)), fun t2 ht2 => ?_⟩⟩
    have gt2 := Same.new ht2 (.tup ((r.row (r.rule.length + 1)).map V.int))
    refine ⟨(by show 3 ≤ sizeLine; decide), fun t3 ht3 => ?_⟩
    have gt3 := Same.new ht3 (.tup [.int r.b, .ref t1, .ref t2])
    exact q (.ref t3) _ (gA.trans (g9.trans (g10.trans (g11.trans (gt1.trans (gt2.trans gt3)))))) ⟨t3, t1, t2, rfl, upd_same, gt3 _ _ (gt2 _ _ upd_same), gt3 _ _ upd_same⟩
theorem ok_times (B : Bt mg) (F : Fn K mg "times" s_times ["by", "one", "other"]) (M : Ms K mg base A_NoBy A_NoName A_NoNumber A_NoRow A_NoText A_RuleError A_TooBig A_TooFar A_TooLong) : Cal P w K mg base "times" 1 ["by", "one", "other"] spNever := by
  refine F.cal sc_times (fun vs H Q E h => ?_) (fun f cdv A outer s H vs Q E hr h => ?_)
  · exact h.elim
  · exact h.elim
theorem ok_divided (B : Bt mg) (F : Fn K mg "divided" s_divided ["by", "one", "other"]) (M : Ms K mg base A_NoBy A_NoName A_NoNumber A_NoRow A_NoText A_RuleError A_TooBig A_TooFar A_TooLong) : Cal P w K mg base "divided" 1 ["by", "one", "other"] spNever := by
  refine F.cal sc_divided (fun vs H Q E h => ?_) (fun f cdv A outer s H vs Q E hr h => ?_)
  · exact h.elim
  · exact h.elim
theorem ok_shared_divisor (B : Bt mg) (F : Fn K mg "shared_divisor" s_shared_divisor ["by", "one", "other"]) (M : Ms K mg base A_NoBy A_NoName A_NoNumber A_NoRow A_NoText A_RuleError A_TooBig A_TooFar A_TooLong) : Cal P w K mg base "shared_divisor" 1 ["by", "one", "other"] spNever := by
  refine F.cal sc_shared_divisor (fun vs H Q E h => ?_) (fun f cdv A outer s H vs Q E hr h => ?_)
  · exact h.elim
  · exact h.elim
theorem ok_least_of (B : Bt mg) (F : Fn K mg "least_of" s_least_of ["row"]) (M : Ms K mg base A_NoBy A_NoName A_NoNumber A_NoRow A_NoText A_RuleError A_TooBig A_TooFar A_TooLong) : Cal P w K mg base "least_of" 1 ["row"] spNever := by
  refine F.cal sc_least_of (fun vs H Q E h => ?_) (fun f cdv A outer s H vs Q E hr h => ?_)
  · exact h.elim
  · exact h.elim
theorem ok_shared_by (B : Bt mg) (F : Fn K mg "shared_by" s_shared_by ["one", "other"]) (M : Ms K mg base A_NoBy A_NoName A_NoNumber A_NoRow A_NoText A_RuleError A_TooBig A_TooFar A_TooLong) : Cal P w K mg base "shared_by" 1 ["one", "other"] (spShared A_NoBy) := by
  refine F.calF sc_shared_by (fun vs H Q E h => ?_) (fun f cdv A outer s H vs Q E hr h => ?_)
  · obtain ⟨v1, v2, r1, r2, rfl, _⟩ := h; rfl
  · obtain ⟨v1, v2, r1, r2, rfl, ⟨a1, p1, s1, rfl, hA1, _, _⟩, ⟨a2, p2, s2, rfl, hA2, _, _⟩, q1, q2⟩ := h
    refine ⟨_, (pss_cons (ps_if (pt_cmpR (xne K hr) (pe_ix (xix K) (pv 0) pe_int (fun _ _ => rfl)) (pe_ix (xix K) (pv 1) pe_int (fun _ _ => rfl)) (nomark _))
      (pss_one (ps_raise M.x_NoBy rfl (pa_k pe_str pa_nil)))
      pss_nil)
      (pss_one (ps_ret (pe_ix (xix K) (pv 0) pe_int (fun _ _ => rfl))))), ?_⟩
    refine ⟨_, rfl, _, _, .inr (SqT.of hA1), rfl, _, rfl, _, _, .inr (SqT.of hA2), rfl, _, rfl, ?_⟩
    by_cases e : r1.b = r2.b
    · rw [decide_eq_true e]
      exact iteF ⟨_, rfl, _, _, .inr (SqT.of hA1), rfl, q2 e⟩
    · rw [decide_eq_false e]
      exact iteT ⟨(by show 1 ≤ sizeLine; decide), q1 e⟩
theorem ok_parting (B : Bt mg) (F : Fn K mg "parting" s_parting ["one", "other"]) (M : Ms K mg base A_NoBy A_NoName A_NoNumber A_NoRow A_NoText A_RuleError A_TooBig A_TooFar A_TooLong) (C_shared_by : Cal P w K mg base "shared_by" 1 ["one", "other"] (spShared A_NoBy)) (C_first_places : Cal P w K mg base "first_places" 3 ["row", "count"] (spFirst K)) : Cal P w K mg base "parting" 4 ["one", "other"] (spParting A_NoBy) := by
  refine F.calF sc_parting (fun vs H Q E h => ?_) (fun f cdv A outer s H vs Q E hr h => ?_)
  · obtain ⟨v1, v2, r1, r2, rfl, _⟩ := h; rfl
  · obtain ⟨v1, v2, r1, r2, rfl, hR1, hR2, ok1, ok2, q1, q2⟩ := h
    refine ⟨_, (pss_cons (ps_expr (pe_callCF C_shared_by hr rfl (pa_n (pv 0) (pa_n (pv 1) pa_nil))))
      (pss_cons (ps_set (i := 2) sc_parting.nd rfl (Or.inl rfl) (pe_op (xadd K) (pe_callB (xlen K) rfl B.b_len boot_len (pa_cons (pe_ix (xix K) (pv 0) pe_int (fun _ _ => rfl)) pa_nil)) (pe_callB (xlen K) rfl B.b_len boot_len (pa_cons (pe_ix (xix K) (pv 1) pe_int (fun _ _ => rfl)) pa_nil))))
      (pss_cons (ps_set (i := 3) sc_parting.nd rfl (Or.inl rfl) (pe_callC C_first_places hr rfl (pa_n (pv 0) (pa_n (pv 2) pa_nil))))
      (pss_cons (ps_set (i := 4) sc_parting.nd rfl (Or.inl rfl) (pe_callC C_first_places hr rfl (pa_n (pv 1) (pa_n (pv 2) pa_nil))))
      (pss_cons (ps_for PassesOwn.leaving rfl (pi_range1 rfl B.b_range (pa_n (pv 2) pa_nil)) (pg_name (i := 5) sc_parting.nd rfl (Or.inl rfl))
      (pss_one (ps_if (pt_cmpR (xne K hr) (pe_ix (xix K) (pv 3) (pv 5) (fun _ _ => rfl)) (pe_ix (xix K) (pv 4) (pv 5) (fun _ _ => rfl)) (nomark _))
      (pss_one (ps_ret (pv 5)))
      pss_nil)))
      (pss_one (ps_ret pe_non))))))), ?_⟩
    refine ⟨_, rfl, _, rfl, v1, v2, r1, r2, rfl, hR1, hR2, q1, fun hb => ?_⟩
    obtain ⟨a1, p1, s1, rfl, hA1, hP1, _⟩ := id hR1
    obtain ⟨a2, p2, s2, rfl, hA2, hP2, _⟩ := id hR2
    have lP1 : (r1.rule.map V.int).length = r1.rule.length := List.length_map _
    have lP2 : (r2.rule.map V.int).length = r2.rule.length := List.length_map _
    have h1 := ok1.short
    have h2 := ok2.short
    refine ⟨_, rfl, _, _, .inr (SqT.of hA1), rfl, .ref p1, r1.rule.length, rfl, .inr ⟨_, SqT.of hP1, lP1.symm⟩, _, rfl, _, _, .inr (SqT.of hA2), rfl, .ref p2, r2.rule.length, rfl, .inr ⟨_, SqT.of hP2, lP2.symm⟩, ?_⟩
    obtain ⟨c, hc⟩ : ∃ c : Nat, c = r1.rule.length + r2.rule.length := ⟨_, rfl⟩
    have ec := add_eq hc
    have hc24 := add24 hc h1 h2
    rw [← hc] at q2
    dsimp only [rAddV]
    rw [ec]
    refine ⟨_, rfl, _, rfl, .ref a1, r1, (c : Int), rfl, hR1, ok1, (c900 hc24).1, (c900 hc24).2, fun l1 H1 g1 _ hl1 => ?_⟩
    refine ⟨_, rfl, _, rfl, .ref a2, r2, (c : Int), rfl, hR2.same g1, ok2, (c900 hc24).1, (c900 hc24).2, fun l2 H2 g2 _ hl2 => ?_⟩
    rw [Int.toNat_natCast] at hl1 hl2
    have hl1' := g2 _ _ hl1
    have n1 := Rw.row_len r1 c
    have n2 := Rw.row_len r2 c
    refine ⟨_, rfl, (c : Int), rfl, (n62 (Nat.le_trans hc24 (by decide))).1, (n62 (Nat.le_trans hc24 (by decide))).2, ?_⟩
    rw [Int.toNat_natCast]
    refine for_range (lo := 0) (n := c) (fun i σ' H' => ∃ (o5 : Option V), σ' = [some (.ref a1), some (.ref a2), some (.int (c : Int)), some (.ref l1), some (.ref l2), o5] ∧ H2 = H' ∧ ∀ j, j < i → r1.at j = r2.at j) ⟨_, rfl, rfl, fun j hj => absurd hj (Nat.not_lt_zero _)⟩ ?_ ?_
    · rintro i σ' H' hi ⟨o5, rfl, rfl, hall⟩
      have e0 := toN0 i
      refine ⟨_, rfl, _, rfl, _, _, .inl (SqL.of hl1'), atI_ints (ns := r1.row c) (ix0 hi n1).1 (ix0 hi n1).2, _, rfl, _, rfl, _, _, .inl (SqL.of hl2), atI_ints (ns := r2.row c) (ix0 hi n2).1 (ix0 hi n2).2, _, rfl, ?_⟩
      rw [e0, row_get' r1 hi, row_get' r2 hi]
      by_cases e : r1.at i = r2.at i
      · rw [decide_eq_true e]
        refine iteF ⟨_, rfl, rfl, fun j hj => ?_⟩
        by_cases ej : j = i
        · rw [ej]; exact e
        · exact hall j (by exact OmL.om266 e0 hj ej)
      · rw [decide_eq_false e]
        refine iteT ⟨_, rfl, ?_⟩
        have := q2 hb H2 (g1.trans g2)
        rw [partO_some.mpr ⟨e, hi, hall⟩] at this
        rw [Int.zero_add]
        exact this
    · rintro σ' H' ⟨o5, rfl, rfl, hall⟩
      have := q2 hb H2 (g1.trans g2)
      rw [partO_none.mpr hall] at this
      exact this
theorem ok_common (B : Bt mg) (F : Fn K mg "common" s_common ["one", "other"]) (M : Ms K mg base A_NoBy A_NoName A_NoNumber A_NoRow A_NoText A_RuleError A_TooBig A_TooFar A_TooLong) (C_shared_by : Cal P w K mg base "shared_by" 1 ["one", "other"] (spShared A_NoBy)) (C_least_of : Cal P w K mg base "least_of" 1 ["row"] spNever) (C_shared_divisor : Cal P w K mg base "shared_divisor" 1 ["by", "one", "other"] spNever) (C_times : Cal P w K mg base "times" 1 ["by", "one", "other"] spNever) (C_divided : Cal P w K mg base "divided" 1 ["by", "one", "other"] spNever) : Cal P w K mg base "common" 4 ["one", "other"] (spCommon A_NoBy) := by
  refine F.calF sc_common (fun vs H Q E h => ?_) (fun f cdv A outer s H vs Q E hr h => ?_)
  · obtain ⟨v1, v2, r1, r2, rfl, _⟩ := h; rfl
  · obtain ⟨v1, v2, r1, r2, rfl, hR1, hR2, hb, q⟩ := h
    refine ⟨_, (pss_cons (ps_set (i := 2) sc_common.nd rfl (Or.inl rfl) (pe_callCF C_shared_by hr rfl (pa_n (pv 0) (pa_n (pv 1) pa_nil))))
      (pss_cons (ps_set (i := 3) sc_common.nd rfl (Or.inl rfl) (pe_callC C_least_of hr rfl (pa_n (pv 0) pa_nil)))
      (pss_cons (ps_set (i := 4) sc_common.nd rfl (Or.inl rfl) (pe_callC C_least_of hr rfl (pa_n (pv 1) pa_nil)))
      (pss_cons (ps_set (i := 5) sc_common.nd rfl (Or.inl rfl) (pe_callC C_shared_divisor hr rfl (pa_n (pv 2) (pa_n (pv 3) (pa_n (pv 4) pa_nil)))))
      (pss_one (ps_ret (pe_callC C_times hr rfl (pa_n (pv 2) (pa_n (pv 3) (pa_cons (pe_ix (xix K) (pe_callC C_divided hr rfl (pa_n (pv 2) (pa_n (pv 4) (pa_n (pv 5) pa_nil)))) pe_int (fun _ _ => rfl)) pa_nil)))))))))), ?_⟩
    exact ⟨_, rfl, _, rfl, v1, v2, r1, r2, rfl, hR1, hR2, fun _ => q, fun e => absurd e hb⟩
theorem ok_Lrefused (B : Bt mg) (F : Fn K mg "_law_refused" s_Lrefused ["_law_way", "_law_one", "_law_other_here"]) (M : Ms K mg base A_NoBy A_NoName A_NoNumber A_NoRow A_NoText A_RuleError A_TooBig A_TooFar A_TooLong) (C_parting : Cal P w K mg base "parting" 4 ["one", "other"] (spParting A_NoBy)) (C_common : Cal P w K mg base "common" 4 ["one", "other"] (spCommon A_NoBy)) : Cal P w K mg base "_law_refused" 5 ["_law_way", "_law_one", "_law_other_here"] spRef26 := by
  refine F.cal sc_Lrefused (fun vs H Q E h => ?_) (fun f cdv A outer s H vs Q E hr h => ?_)
  · obtain ⟨w, v1, v2, r1, r2, rfl, _⟩ := h; rfl
  · obtain ⟨w, v1, v2, r1, r2, rfl, hR1, hR2, ok1, ok2, hb, q⟩ := h
    refine ⟨_, (pss_cons (ps_set (i := 3) sc_Lrefused.nd rfl (Or.inl rfl) pe_non)
      (pss_cons (ps_bar (ps_tryIf (j := 4) C_parting C_common hr rfl rfl rfl rfl rfl (pt_cmpR (xeq K hr) (pv 0) pe_int (nomark _)) (pa_n (pv 1) (pa_n (pv 2) pa_nil)) (pa_n (pv 1) (pa_n (pv 2) pa_nil)) sc_Lrefused.nd rfl rfl rfl M.m_RuleError (fun a => (pss_one (ps_set (i := 3) sc_Lrefused.nd rfl (Or.inl rfl) (pv 4))))))
      (pss_cons (ps_set (i := 5) sc_Lrefused.nd rfl (Or.inl rfl) (pe_lst (pa_cons (pe_callB (xisiE K) rfl B.b_isinstance boot_isinstance (pa_n (pv 3) (pa_n (pe_cls rfl M.m_NoName) pa_nil))) (pa_cons (pe_callB (xisiE K) rfl B.b_isinstance boot_isinstance (pa_n (pv 3) (pa_n (pe_cls rfl M.m_NoNumber) pa_nil))) (pa_cons (pe_callB (xisiE K) rfl B.b_isinstance boot_isinstance (pa_n (pv 3) (pa_n (pe_cls rfl M.m_NoRow) pa_nil))) pa_nil)))))
      (pss_cons (ps_set (i := 5) sc_Lrefused.nd rfl (Or.inl rfl) (pe_op (xadd K) (pv 5) (pe_lst (pa_cons (pe_callB (xisiE K) rfl B.b_isinstance boot_isinstance (pa_n (pv 3) (pa_n (pe_cls rfl M.m_NoText) pa_nil))) (pa_cons (pe_callB (xisiE K) rfl B.b_isinstance boot_isinstance (pa_n (pv 3) (pa_n (pe_cls rfl M.m_TooBig) pa_nil))) (pa_cons (pe_callB (xisiE K) rfl B.b_isinstance boot_isinstance (pa_n (pv 3) (pa_n (pe_cls rfl M.m_TooFar) pa_nil))) pa_nil))))))
      (pss_cons (ps_if (PW.pt (pw_or (pt_cmpR (xinB K) pe_bl (pv 5) (by with_unfolding_all rfl)) (pw_or1 (pt_val (pe_callB (xisiE K) rfl B.b_isinstance boot_isinstance (pa_n (pv 3) (pa_n (pe_cls rfl M.m_TooLong) pa_nil)))))))
      (pss_one (ps_ret pe_bl))
      pss_nil)
      (pss_one (ps_ret (pe_and (pe_callB (xisiE K) rfl B.b_isinstance boot_isinstance (pa_n (pv 3) (pa_n (pe_cls rfl M.m_NoBy) pa_nil))) (pe_one (pe_callB (xisiE K) rfl B.b_isinstance boot_isinstance (pa_n (pv 3) (pa_n (pe_tyB rfl B.b_ValueError boot_ValueError) pa_nil)))))))))))), ?_⟩
    refine BarS.by (fun σ' H2 => ∃ (a : Addr), σ' = [some (.int w), some v1, some v2, some (.ref a), none, none] ∧ H2 a = some (excO a A_NoBy) ∧ Same H H2) (fun NN hNN => ?_) ?_
    · refine ⟨_, rfl, _, rfl, ?_⟩
      refine ite2 (fun _ => ?_) (fun _ => ?_)
      · refine ⟨_, rfl, _, rfl, v1, v2, r1, r2, rfl, hR1, hR2, ok1, ok2, fun _ => ⟨_, rfl, M.s_NoBy_RuleError, fun a ha => ?_⟩, fun e => absurd e hb⟩
        exact ⟨_, rfl, hNN _ _ ⟨a, rfl, upd_same, Same.new ha _⟩⟩
      · refine ⟨_, rfl, _, rfl, v1, v2, r1, r2, rfl, hR1, hR2, hb, ⟨_, rfl, M.s_NoBy_RuleError, fun a ha => ?_⟩⟩
        exact ⟨_, rfl, hNN _ _ ⟨a, rfl, upd_same, Same.new ha _⟩⟩
    rintro _ H2 ⟨a, rfl, hA, g0⟩
    refine ⟨_, rfl, a, A_NoBy, _, false, rfl, hA, M.i_NoBy, .inl ⟨_, rfl, M.k_NoBy_NoName⟩, _, rfl, a, A_NoBy, _, false, rfl, hA, M.i_NoBy, .inl ⟨_, rfl, M.k_NoBy_NoNumber⟩, _, rfl, a, A_NoBy, _, false, rfl, hA, M.i_NoBy, .inl ⟨_, rfl, M.k_NoBy_NoRow⟩, (by show 3 ≤ sizeLine; decide), fun l1 hl1 => ?_⟩
    have g1 := Same.new hl1 (.lst [.bl false, .bl false, .bl false])
    have h1 : (upd H2 l1 (.lst [.bl false, .bl false, .bl false])) l1 = some (.lst [.bl false, .bl false, .bl false]) := upd_same
    replace hA := g1 _ _ hA
    generalize upd H2 l1 (.lst [.bl false, .bl false, .bl false]) = H3 at g1 h1 hA
    refine ⟨_, rfl, _, rfl, a, A_NoBy, _, false, rfl, hA, M.i_NoBy, .inl ⟨_, rfl, M.k_NoBy_NoText⟩, _, rfl, a, A_NoBy, _, false, rfl, hA, M.i_NoBy, .inl ⟨_, rfl, M.k_NoBy_TooBig⟩, _, rfl, a, A_NoBy, _, false, rfl, hA, M.i_NoBy, .inl ⟨_, rfl, M.k_NoBy_TooFar⟩, (by show 3 ≤ sizeLine; decide), fun l2 hl2 => ?_⟩
    have g2 := Same.new hl2 (.lst [.bl false, .bl false, .bl false])
    have h2 : (upd H3 l2 (.lst [.bl false, .bl false, .bl false])) l2 = some (.lst [.bl false, .bl false, .bl false]) := upd_same
    replace hA := g2 _ _ hA
    replace h1 := g2 _ _ h1
    generalize upd H3 l2 (.lst [.bl false, .bl false, .bl false]) = H4 at g2 h2 hA h1
    refine .inl ⟨_, _, h1, h2, (by show 6 ≤ sizeLine; decide), fun l3 hl3 => ?_⟩
    have g3 := Same.new hl3 (.lst [.bl false, .bl false, .bl false, .bl false, .bl false, .bl false])
    have h3 : (upd H4 l3 (.lst [.bl false, .bl false, .bl false, .bl false, .bl false, .bl false])) l3 = some (.lst ([false, false, false, false, false, false].map V.bl)) := upd_same
    replace hA := g3 _ _ hA
    have eL : (.lst ([V.bl false, .bl false, .bl false] ++ [.bl false, .bl false, .bl false]) : HO) = .lst [.bl false, .bl false, .bl false, .bl false, .bl false, .bl false] := rfl
    rw [eL]
    generalize upd H4 l3 (.lst [.bl false, .bl false, .bl false, .bl false, .bl false, .bl false]) = H5 at g3 h3 hA
    refine ⟨_, rfl, l3, [false, false, false, false, false, false], true, rfl, rfl, SqL.of h3, _, rfl, iteF ?_⟩
    refine ⟨_, rfl, a, A_NoBy, _, false, rfl, hA, M.i_NoBy, .inl ⟨_, rfl, M.k_NoBy_TooLong⟩, _, rfl, iteF ?_⟩
    refine ⟨_, rfl, a, A_NoBy, _, true, rfl, hA, M.i_NoBy, .inl ⟨_, rfl, M.k_NoBy_NoBy⟩, _, rfl, iteT ?_⟩
    exact ⟨_, rfl, a, A_NoBy, _, true, rfl, hA, M.i_NoBy, .inr (.inl ⟨_, rfl, M.k_NoBy_ValueError⟩), q _ (g0.trans (g1.trans (g2.trans g3)))⟩
theorem ok_Lother (B : Bt mg) (F : Fn K mg "_law_other" s_Lother ["_law_script", "_law_by_here", "_law_row_here"]) (M : Ms K mg base A_NoBy A_NoName A_NoNumber A_NoRow A_NoText A_RuleError A_TooBig A_TooFar A_TooLong) (C_Lcell_at : Cal P w K mg base "_law_cell_at" 1 ["_law_script", "_law_k"] (spCell K)) (C_Lrow : Cal P w K mg base "_law_row" 2 ["_law_script", "_law_start", "_law_by_here", "_law_most"] (spRow20 K)) (C_Llonger : Cal P w K mg base "_law_longer" 3 ["_law_row_here", "_law_number_here"] spLonger20) (C_Lnumber : Cal P w K mg base "_law_number" 1 ["_law_by_here", "_law_cell", "_law_sort"] spNum15) (C_Lmixed : Cal P w K mg base "_law_mixed" 1 ["_law_cell", "_law_k"] spMixed) (C_Lgone : Cal P w K mg base "_law_gone" 2 ["_law_row_here", "_law_count"] spGone) (C_Ltaken : Cal P w K mg base "_law_taken" 1 ["_law_by_here", "_law_number_here"] spTaken) : Cal P w K mg base "_law_other" 5 ["_law_script", "_law_by_here", "_law_row_here"] (spOther26 K) := by
  refine F.cal sc_Lother (fun vs H Q E h => ?_) (fun f cdv A outer s H vs Q E hr h => ?_)
  · obtain ⟨a, ns, b, v, r, rfl, _⟩ := h; rfl
  · obtain ⟨a, ns, b, v, r, rfl, hS, hB, hR, hL, q⟩ := h
    refine ⟨_, (pss_cons (ps_set (i := 3) sc_Lother.nd rfl (Or.inl rfl) (pe_callC C_Lcell_at hr rfl (pa_n (pv 0) (pa_k pe_int pa_nil))))
      (pss_cons (ps_if (pt_cmpR (xeq K hr) (pe_op op_mod (pv 3) pe_int) pe_int (nomark _))
      (pss_one (ps_ret (pe_callC C_Lrow hr rfl (pa_n (pv 0) (pa_k pe_int (pa_n (pv 1) (pa_k pe_int pa_nil)))))))
      pss_nil)
      (pss_cons (ps_set (i := 4) sc_Lother.nd rfl (Or.inl rfl) (pv 2))
      (pss_cons (ps_for PassesOwn.never rfl (pi_range1 rfl B.b_range (pa_b (pe_op op_mod (pe_op op_fdiv (pv 3) pe_int) pe_int) pa_nil)) (pg_name (i := 5) sc_Lother.nd rfl (Or.inl rfl))
      (pss_one (ps_set (i := 4) sc_Lother.nd rfl (Or.inl rfl) (pe_callC C_Llonger hr rfl (pa_n (pv 4) (pa_cons (pe_callC C_Lnumber hr rfl (pa_n (pv 1) (pa_cons (pe_callC C_Lmixed hr rfl (pa_n (pv 3) (pa_n (pv 5) pa_nil))) (pa_k pe_int pa_nil)))) pa_nil))))))
      (pss_cons (ps_if (pt_cmpR (xeq K hr) (pe_op op_mod (pv 3) pe_int) pe_int (nomark _))
      (pss_cons (ps_set (i := 6) sc_Lother.nd rfl (Or.inl rfl) (pe_callB (call_min2 rfl) rfl B.b_min boot_min (pa_k pe_int (pa_b (pe_op (xadd K) (pe_callB (xlen K) rfl B.b_len boot_len (pa_cons (pe_ix (xix K) (pv 4) pe_int (fun _ _ => rfl)) pa_nil)) (pe_op op_mod (pe_op op_fdiv (pv 3) pe_int) pe_int)) pa_nil))))
      (pss_cons (ps_set (i := 7) sc_Lother.nd rfl (Or.inl rfl) (pe_op (xadd K) (pe_callTy (xlist K) rfl B.b_list boot_list (pa_cons (pe_ix (xix K) (pv 4) pe_int (fun _ _ => rfl)) pa_nil)) (pe_op v_mul (pe_lst (pa_k pe_int pa_nil)) (pe_op op_sub (pv 6) (pe_callB (xlen K) rfl B.b_len boot_len (pa_cons (pe_ix (xix K) (pv 4) pe_int (fun _ _ => rfl)) pa_nil))))))
      (pss_cons (ps_set (i := 8) sc_Lother.nd rfl (Or.inl rfl) (pe_callC C_Lgone hr rfl (pa_n (pv 4) (pa_n (pv 6) pa_nil))))
      (pss_cons (ps_bar (ps_if (pt_cmpR op_gt (pv 6) pe_int (nomark _))
      (pss_cons (ps_set (i := 9) sc_Lother.nd rfl (Or.inl rfl) (pe_op op_mod (pe_op op_fdiv (pv 3) pe_int) (pv 6)))
      (pss_one (ps_asg (pe_callC C_Ltaken hr rfl (pa_n (pv 1) (pa_b (pe_op (xadd K) (pe_ix (xix K) (pv 8) (pv 9) (fun _ _ => rfl)) pe_int) pa_nil))) (pg_sub (pv 8) (pv 9) set_list))))
      pss_nil))
      (pss_one (ps_set (i := 4) sc_Lother.nd rfl (Or.inl rfl) (pe_tup (pa_n (pv 1) (pa_cons (pe_callTy (xtuple K) rfl B.b_tuple boot_tuple (pa_n (pv 7) pa_nil)) (pa_cons (pe_callTy (xtuple K) rfl B.b_tuple boot_tuple (pa_n (pv 8) pa_nil)) pa_nil))))))))))
      pss_nil)
      (pss_one (ps_ret (pv 4)))))))), ?_⟩
    obtain ⟨hb0, hb1, hb2⟩ := hB.range
    refine ⟨_, rfl, a, ns, 4, rfl, hS, by decide, ?_⟩
    generalize cellAt ns 4 = c
    refine ⟨_, rfl, _, _, rfl, rfl, (by decide : (0 : Int) < 3), _, rfl, ?_⟩
    refine ite2 (fun _ => ?_) (fun _ => ?_)
    · refine ⟨_, rfl, _, rfl, a, ns, 5, b, 6, rfl, hS, by decide, hB, by decide, fun v' r' H1 g1 hR' hL' => ?_⟩
      exact q v' r' H1 g1 hR' (hL'.oks hB) hL'.by_
    refine ⟨_, rfl, ?_⟩
    have w0 := emod_lo (c / 3) (show (0 : Int) < 4 by decide)
    have w1 := emod_hi (c / 3) (show (0 : Int) < 4 by decide)
    refine ⟨_, rfl, _, _, rfl, rfl, ⟨by decide, by decide⟩, _, _, rfl, rfl, (by decide : (0 : Int) < 4), c / 3 % 4, rfl, (q62 w0 w1 (by decide)).1, (q62 w0 w1 (by decide)).2, ?_⟩
    refine for_range (lo := 0) (n := (c / 3 % 4).toNat) (fun i σ' H' => ∃ v3 r3 o5, σ' = [some (.ref a), some (.int b), some v, some (.int c), some v3, o5, none, none, none, none] ∧ Same H H' ∧ RowIs H' v3 r3 ∧ LgR b r i r3) ⟨v, r, none, rfl, Same.refl _, hR, LgR.start hL⟩ ?_ ?_
    · rintro i σ' H' hi ⟨v3, r3, o5, rfl, g, hR3, lg⟩
      have h3 := three w1 hi
      have ok3 := lg.ok hB hL h3.2.2
      refine ⟨_, rfl, _, rfl, _, rfl, _, rfl, _, _, rfl, (im hi w1 (by decide)).1, (im hi w1 (by decide)).2, b, _, 0, rfl, v3, r3, _, rfl, hR3, ok3, (lt12 lg.len hL.short h3.1).1, num15_bd hb1 _ _, fun v' H2 g2 hR' => ?_⟩
      exact ⟨v', _, _, rfl, g.trans g2, hR', lg.step hB hL h3.2.1 fun z => num15_few z⟩
    rintro σ' H1 ⟨v3, r3, o5, rfl, g1, hR3, lg⟩
    have hi3 := three' w1
    generalize (c / 3 % 4).toNat = i3 at lg hi3
    have ok3 := lg.ok hB hL (Nat.le_trans hi3 (by decide))
    have l9 := (lt12 lg.len hL.short hi3).2
    refine ⟨_, rfl, _, _, rfl, rfl, (by decide : (0 : Int) < 3), _, rfl, ?_⟩
    refine ite2 (fun _ => ?_) (fun _ => ⟨_, rfl, q v3 r3 H1 g1 hR3 ok3 lg.by_⟩)
    obtain ⟨a3, p3, s3, rfl, hA3, hP3, hS3⟩ := id hR3
    have lP : (r3.rule.map V.int).length = r3.rule.length := List.length_map _
    have z0 := emod_lo (c / 12) (show (0 : Int) < 7 by decide)
    have z1 := emod_hi (c / 12) (show (0 : Int) < 7 by decide)
    refine ⟨_, rfl, _, _, .inr (SqT.of hA3), rfl, .ref p3, r3.rule.length, rfl, .inr ⟨_, SqT.of hP3, lP.symm⟩, _, rfl, _, _, rfl, rfl, ⟨by decide, by decide⟩, _, _, rfl, rfl, (by decide : (0 : Int) < 7), _, _, rfl, ?_⟩
    obtain ⟨sz, hsz, hsz12, hszl⟩ := sz_of (m := r3.rule.length) z0 l9
    dsimp only
    rw [hsz]
    refine ⟨_, rfl, _, _, .inr (SqT.of hA3), rfl, p3, _, rfl, .inr (SqT.of hP3), fun l1 hl1 => ?_⟩
    have g2 := Same.new hl1 (.lst (r3.rule.map V.int))
    have h2 : (upd H1 l1 (.lst (r3.rule.map V.int))) l1 = some (.lst (r3.rule.map V.int)) := upd_same
    generalize upd H1 l1 (.lst (r3.rule.map V.int)) = H2 at g2 h2
    refine ⟨(by show 1 ≤ sizeLine; decide), fun l2 hl2 => ?_⟩
    have g3 := Same.new hl2 (.lst [.int 0])
    have h3 : (upd H2 l2 (.lst [.int 0])) l2 = some (.lst [.int 0]) := upd_same
    have h23 := g3 _ _ h2
    have g13 := g2.trans g3
    generalize upd H2 l2 (.lst [.int 0]) = H3 at g3 h3 h23 g13
    refine ⟨_, rfl, _, rfl, _, _, .inr (SqT.of (g13 _ _ hA3)), rfl, .ref p3, r3.rule.length, rfl, .inr ⟨_, SqT.of (g13 _ _ hP3), lP.symm⟩, _, _, rfl, rfl, _, h3, (d63 hsz12 hszl).1, (d63 hsz12 hszl).2.1, ?_, fun l4 hl4 => ?_⟩
    · show 1 * ((sz : Int) - (r3.rule.length : Int)).toNat ≤ sizeLine
      rw [Nat.one_mul, (d63 hsz12 hszl).2.2]; exact Nat.le_of_lt (small1000 (Nat.le_trans (Nat.sub_le ..) (Nat.le_trans hsz12 (by decide))))
    rw [(d63 hsz12 hszl).2.2, replicate_ofF]
    have g4 := Same.new hl4 (.lst ((Pm.ofF (sz - r3.rule.length) fun _ => 0).map V.int))
    have h4 : (upd H3 l4 (.lst ((Pm.ofF (sz - r3.rule.length) fun _ => 0).map V.int))) l4 = some (.lst ((Pm.ofF (sz - r3.rule.length) fun _ => 0).map V.int)) := upd_same
    have h24 := g4 _ _ h23
    have g14 := g13.trans g4
    generalize upd H3 l4 (.lst ((Pm.ofF (sz - r3.rule.length) fun _ => 0).map V.int)) = H4 at g4 h4 h24 g14
    refine .inl ⟨_, _, h24, h4, ?_, fun l5 hl5 => ?_⟩
    · rw [List.length_map, List.length_map, Pm.ofF_len, Nat.add_sub_cancel' hszl]; exact Nat.le_of_lt (small1000 (Nat.le_trans hsz12 (by decide)))
    rw [← List.map_append]
    obtain ⟨ru, hru⟩ : ∃ ru : List Int, ru = r3.rule ++ Pm.ofF (sz - r3.rule.length) fun _ => 0 := ⟨_, rfl⟩
    rw [← hru]
    have lru : ru.length = sz := by rw [hru, List.length_append, Pm.ofF_len]; exact Nat.add_sub_cancel' hszl
    have nru : ∀ x ∈ ru, IsNum b x := fun x hx => by
      rw [hru] at hx
      rcases List.mem_append.mp hx with hx | hx
      · exact lg.num x hx
      · obtain ⟨k, _, rfl⟩ := Pm.mem_ofF hx
        exact IsNum.zero hB
    have bru : ∀ x ∈ ru, Rm.Bd 200 x := fun x hx => by
      rw [hru] at hx
      rcases List.mem_append.mp hx with hx | hx
      · exact (lg.ruleBd x hx).mono (Nat.le_trans (Nat.add_le_add_left (Nat.mul_le_mul_left 4 hi3) 45) (by decide))
      · obtain ⟨k, _, rfl⟩ := Pm.mem_ofF hx
        exact Rm.Bd.zero _
    have g5 := Same.new hl5 (.lst (ru.map V.int))
    have h5 : (upd H4 l5 (.lst (ru.map V.int))) l5 = some (.lst (ru.map V.int)) := upd_same
    have g15 := g14.trans g5
    generalize upd H4 l5 (.lst (ru.map V.int)) = H5 at g5 h5 g15
    refine ⟨_, rfl, _, rfl, .ref a3, r3, (sz : Int), rfl, hR3.same g15, ok3, (c900 (Nat.le_trans hsz12 (by decide))).1, (c900 (Nat.le_trans hsz12 (by decide))).2, fun l6 H6 g6 f6 h6 => ?_⟩
    rw [Int.toNat_natCast] at h6
    have h56 := g6 _ _ h5
    have n65 : l5 ≠ l6 := fun e => by rw [← e, h5] at f6; cases f6
    have l6n := Rw.row_len r3 sz
    have mem6 : ∀ x ∈ r3.row sz, ∃ k, k < 12 ∧ x = r.at k := fun x hx => by
      have e : r3.row sz = (List.range sz).map r3.at := Rm.row_eq ..
      rw [e] at hx
      obtain ⟨k, hk, rfl⟩ := List.mem_map.mp hx
      exact ⟨k, Nat.lt_of_lt_of_le (List.mem_range.mp hk) hsz12, lg.same k⟩
    have n6 : ∀ x ∈ r3.row sz, IsNum b x := fun x hx => by
      obtain ⟨k, _, rfl⟩ := mem6 x hx
      exact RwOk.at_num' hB hL k
    have b6 : ∀ x ∈ r3.row sz, Rm.Bd 657 x := fun x hx => by
      obtain ⟨k, hk, rfl⟩ := mem6 x hx
      exact hL.at_bd hB (Nat.le_of_lt hk)
    refine BarS.by (fun σ' H' => ∃ (ss : List Int) (o9 : Option V), σ' = [some (.ref a), some (.int b), some v, some (.int c), some (.ref a3), o5, some (.int (sz : Int)), some (.ref l5), some (.ref l6), o9] ∧ Same H1 H' ∧ H' l5 = some (.lst (ru.map V.int)) ∧ H' l6 = some (.lst (ss.map V.int)) ∧ ss.length = sz ∧ (∀ x ∈ ss, IsNum b x) ∧ ∀ x ∈ ss, Rm.Bd 1000 x) (fun NN hNN => ?_) ?_
    · refine ⟨_, rfl, _, _, rfl, rfl, _, rfl, ?_⟩
      refine ite2 (fun cp => ?_) (fun _ => hNN _ _ ⟨_, _, rfl, g15.trans g6, h56, h6, l6n, n6, fun x hx => (b6 x hx).mono (by decide)⟩)
      have sp : 0 < sz := by have := dec_true cp; exact OmL.om267 hsz12 lru l6n this
      refine ⟨_, rfl, _, _, rfl, rfl, ⟨by decide, by decide⟩, _, rfl, _, _, rfl, rfl, (by exact OmL.om268 hsz12 lru l6n sp : (0 : Int) < (sz : Int)), ?_⟩
      have i0 := emod_lo (c / 84) (show (0 : Int) < (sz : Int) by exact OmL.om268 hsz12 lru l6n sp)
      have i1 := emod_hi (c / 84) (show (0 : Int) < (sz : Int) by exact OmL.om268 hsz12 lru l6n sp)
      dsimp only
      generalize c / 84 % (sz : Int) = ii at i0 i1
      refine ⟨_, rfl, _, rfl, _, rfl, _, _, .inl (SqL.of h6), atI_ints (ns := r3.row sz) i0 (by exact OmL.om269 lru l6n i1), b, _, rfl, hb0, ?_⟩
      have nx : IsNum b (Rm.tk b ((r3.row sz).getD ii.toNat 0 + 1)) := tk_num hb0 _
      have bx : Rm.Bd 1000 (Rm.tk b ((r3.row sz).getD ii.toNat 0 + 1)) := by
        refine Rm.tk_bd hb0 ((Rm.Bd.of (n := 10) (by exact OmL.om270 hb0 hb1) (by exact OmL.om271 hb0 hb1)).mono (by decide)) ?_
        exact (Rm.Bd.add (n := 657) (Rm.Bd.getD b6 _) ((Rm.Bd.of (n := 1) (by decide) (by decide)).mono (by decide))).mono (by decide)
      refine ⟨_, rfl, _, rfl, l6, _, _, ii.toNat, rfl, rfl, h6, ixN_of (by exact OmL.om95 i0) (by rw [List.length_map, l6n]; exact OmL.om272 hsz12 lru l6n sp i1), ?_⟩
      rw [map_set_int]
      refine hNN _ _ ⟨_, _, rfl, g15.trans (g6.upd f6 _), by rw [upd_ne n65]; exact h56, upd_same, by rw [List.length_set, l6n], fun x hx => ?_, fun x hx => ?_⟩
      · rcases List.mem_or_eq_of_mem_set hx with hx | rfl
        · exact n6 x hx
        · exact nx
      · rcases List.mem_or_eq_of_mem_set hx with hx | rfl
        · exact (b6 x hx).mono (by decide)
        · exact bx
    rintro _ H7 ⟨ss, o9, rfl, g7, h57, h7, lss, nss, bss⟩
    refine ⟨_, rfl, _, rfl, l5, _, rfl, .inl ⟨SqL.of h57, fun t1 ht1 => ?_⟩⟩
    have g8 := Same.new ht1 (.tup (ru.map V.int))
    have h8 : (upd H7 t1 (.tup (ru.map V.int))) t1 = some (.tup (ru.map V.int)) := upd_same
    have h78 := g8 _ _ h7
    generalize upd H7 t1 (.tup (ru.map V.int)) = H8 at g8 h8 h78
    refine ⟨_, rfl, l6, _, rfl, .inl ⟨SqL.of h78, fun t2 ht2 => ?_⟩⟩
    have g9 := Same.new ht2 (.tup (ss.map V.int))
    have h9 : (upd H8 t2 (.tup (ss.map V.int))) t2 = some (.tup (ss.map V.int)) := upd_same
    have h89 := g9 _ _ h8
    generalize upd H8 t2 (.tup (ss.map V.int)) = H9 at g9 h9 h89
    refine ⟨(by show 3 ≤ sizeLine; decide), fun pz hpz => ?_⟩
    have gz := Same.new hpz (.tup [.int b, .ref t1, .ref t2])
    refine ⟨_, rfl, q _ ⟨b, ru, ss⟩ _ (g1.trans (g7.trans (g8.trans (g9.trans gz)))) ⟨pz, t1, t2, rfl, upd_same, gz _ _ h89, gz _ _ h9⟩ ⟨lru.trans lss.symm, lru.symm ▸ hsz12, hb0, hb1, nru, nss, bru, bss⟩ rfl⟩
theorem ok_Llate (B : Bt mg) (F : Fn K mg "_law_late" s_Llate ["_law_script", "_law_by_here"]) (M : Ms K mg base A_NoBy A_NoName A_NoNumber A_NoRow A_NoText A_RuleError A_TooBig A_TooFar A_TooLong) (C_Lcell_at : Cal P w K mg base "_law_cell_at" 1 ["_law_script", "_law_k"] (spCell K)) (C_Lnumber : Cal P w K mg base "_law_number" 1 ["_law_by_here", "_law_cell", "_law_sort"] spNum15) (C_Lmixed : Cal P w K mg base "_law_mixed" 1 ["_law_cell", "_law_k"] spMixed) (C_Ltaken : Cal P w K mg base "_law_taken" 1 ["_law_by_here", "_law_number_here"] spTaken) : Cal P w K mg base "_law_late" 2 ["_law_script", "_law_by_here"] (spLate26 K) := by
  refine F.cal sc_Llate (fun vs H Q E h => ?_) (fun f cdv A outer s H vs Q E hr h => ?_)
  · obtain ⟨a, ns, b, rfl, _⟩ := h; rfl
  · obtain ⟨a, ns, b, rfl, hS, hB, q⟩ := h
    refine ⟨_, (pss_cons (ps_set (i := 2) sc_Llate.nd rfl (Or.inl rfl) (pe_callC C_Lcell_at hr rfl (pa_n (pv 0) (pa_k pe_int pa_nil))))
      (pss_cons (ps_set (i := 3) sc_Llate.nd rfl (Or.inl rfl) (pe_op (xadd K) pe_int (pe_op op_mod (pe_op op_fdiv (pv 2) pe_int) pe_int)))
      (pss_cons (ps_setC (i := 4) (hN := sc_Llate.nd) (hi' := rfl) (hx := (Or.inl rfl)) (sc := cs_Llate1) (N := ["_law_k", "_law_by_here", "_law_script"]) (ix := [none, some 1, some 0]) (comp_mk (by kernel_rfl) (by kernel_rfl) (by kernel_rfl) (by kernel_rfl) (by kernel_rfl) (by kernel_rfl) (by kernel_rfl) (by kernel_rfl)) rfl (pi_range1 rfl B.b_range (pa_n (pv 3) pa_nil)) (fun cl C s₀ H₀ ex => ⟨(pg_name (i := 0) (show (["_law_k", "_law_by_here", "_law_script"] : List Str).Nodup by decide +kernel) rfl (Or.inl rfl)), pif_nil, (pe_callC C_Lnumber hr rfl (pa_n (pv 1) (pa_cons (pe_callC C_Lmixed hr rfl (pa_cons (pe_callC C_Lcell_at hr rfl (pa_n (pv 2) (pa_k pe_int pa_nil))) (pa_n (pv 0) pa_nil))) (pa_k pe_int pa_nil))))⟩))
      (pss_cons (ps_set (i := 5) sc_Llate.nd rfl (Or.inl rfl) (pe_op (xadd K) (pe_slice (xsl K) (pv 4) po_none (po_some (pe_un un_neg pe_int))) (pe_lst (pa_cons (pe_callC C_Ltaken hr rfl (pa_n (pv 1) (pa_b (pe_op (xadd K) (pe_ix (xix K) (pv 4) (pe_un un_neg pe_int) (fun _ _ => rfl)) pe_int) pa_nil))) pa_nil))))
      (pss_cons (ps_set (i := 6) sc_Llate.nd rfl (Or.inl rfl) (pe_callTy (xtuple K) rfl B.b_tuple boot_tuple (pa_b (pe_op (xadd K) (pe_op v_mul (pe_lst (pa_k pe_int pa_nil)) (pe_op op_sub (pv 3) pe_int)) (pe_lst (pa_k pe_int pa_nil))) pa_nil)))
      (pss_one (ps_ret (pe_tup (pa_t (pe_tup (pa_n (pv 1) (pa_cons (pe_callTy (xtuple K) rfl B.b_tuple boot_tuple (pa_n (pv 4) pa_nil)) (pa_n (pv 6) pa_nil)))) (pa_t (pe_tup (pa_n (pv 1) (pa_cons (pe_callTy (xtuple K) rfl B.b_tuple boot_tuple (pa_n (pv 5) pa_nil)) (pa_n (pv 6) pa_nil)))) pa_nil)))))))))), ?_⟩
    obtain ⟨hb0, hb1, hb2⟩ := hB.range
    refine ⟨_, rfl, a, ns, 4, rfl, hS, by decide, ?_⟩
    generalize cellAt ns 4 = c
    have w0 := emod_lo (c / 7) (show (0 : Int) < 12 by decide)
    have w1 := emod_hi (c / 7) (show (0 : Int) < 12 by decide)
    refine ⟨_, rfl, _, _, rfl, rfl, ⟨by decide, by decide⟩, _, _, rfl, rfl, (by decide : (0 : Int) < 12), ?_⟩
    obtain ⟨n, hn, n1, n12⟩ := late_n w0 w1
    have n1k := Nat.le_trans n12 (by decide : 12 ≤ 1000)
    dsimp only [rAddV]
    rw [hn]
    refine ⟨_, rfl, (n : Int), rfl, (n62 n1k).1, (n62 n1k).2, ?_⟩
    rw [Int.toNat_natCast]
    refine comp_rng (n := n) n1k rfl (fun k => num15 b (mixedI (cellAt ns 2) (0 + (k : Int))) 0) ?_ ?_
    · intro H2 k g2 hk kk hkk
      exact ⟨_, rfl, _, rfl, a, ns, 2, rfl, g2.seq hS, by decide, _, rfl, _, _, rfl, (i1000 hk n1k).1, (i1000 hk n1k).2, b, _, 0, rfl, hkk⟩
    intro D hD
    obtain ⟨ru, hru⟩ : ∃ ru : List Int, ru = Pm.ofF n fun k => num15 b (mixedI (cellAt ns 2) (0 + (k : Int))) 0 := ⟨_, rfl⟩
    rw [← hru]
    have lru : ru.length = n := by rw [hru, Pm.ofF_len]
    have rne : ru ≠ [] := fun z => by rw [z] at lru; simp at lru; exact OmL.om273 w0 hn lru
    have nru : ∀ x ∈ ru, IsNum b x := fun x hx => by
      rw [hru] at hx
      obtain ⟨k, _, rfl⟩ := Pm.mem_ofF hx
      exact num15_num hB _ _
    have bru : ∀ x ∈ ru, Rm.Bd 45 x := fun x hx => by
      rw [hru] at hx
      obtain ⟨k, _, rfl⟩ := Pm.mem_ofF hx
      exact num15_bd hb1 _ _
    have g1 := Same.new hD (.lst (ru.map V.int))
    have h1 : (upd H D (.lst (ru.map V.int))) D = some (.lst (ru.map V.int)) := upd_same
    generalize upd H D (.lst (ru.map V.int)) = H1 at g1 h1
    refine ⟨_, rfl, _, rfl, -1, rfl, .inl ⟨_, SqL.of h1, fun l2 hl2 => ?_⟩⟩
    rw [cut_last ru rne]
    have g2 := Same.new hl2 (.lst (ru.dropLast.map V.int))
    have h2 : (upd H1 l2 (.lst (ru.dropLast.map V.int))) l2 = some (.lst (ru.dropLast.map V.int)) := upd_same
    have h12 := g2 _ _ h1
    generalize upd H1 l2 (.lst (ru.dropLast.map V.int)) = H2 at g2 h2 h12
    refine ⟨_, rfl, _, rfl, _, rfl, _, _, .inl (SqL.of h12), atI_back (ns := ru) (n - 1) (by decide) (back1 lru n1), b, _, rfl, hb0, (by show 1 ≤ sizeLine; decide), fun l3 hl3 => ?_⟩
    obtain ⟨y, hy⟩ : ∃ y : Int, y = Rm.tk b (ru.getD (n - 1) 0 + 1) := ⟨_, rfl⟩
    rw [← hy]
    have ny : IsNum b y := by rw [hy]; exact tk_num hb0 _
    have by_ : Rm.Bd 200 y := by
      rw [hy]
      refine Rm.tk_bd hb0 ((Rm.Bd.of (n := 10) (by exact OmL.om270 hb0 hb1) (by exact OmL.om271 hb0 hb1)).mono (by decide)) ?_
      exact (Rm.Bd.add (n := 45) (Rm.Bd.getD bru _) ((Rm.Bd.of (n := 1) (by decide) (by decide)).mono (by decide))).mono (by decide)
    have g3 := Same.new hl3 (.lst [.int y])
    have h3 : (upd H2 l3 (.lst [.int y])) l3 = some (.lst [.int y]) := upd_same
    have h23 := g3 _ _ h2
    have h13 := g3 _ _ h12
    generalize upd H2 l3 (.lst [.int y]) = H3 at g3 h3 h23 h13
    refine .inl ⟨_, _, h23, h3, ?_, fun l4 hl4 => ?_⟩
    · rw [List.length_map, List.length_dropLast]; exact Nat.le_of_lt (small1000 (by show _ + 1 ≤ 1000; exact OmL.om274 w0 hn lru))
    rw [← map_snoc]
    obtain ⟨ro, hro⟩ : ∃ ro : List Int, ro = ru.dropLast ++ [y] := ⟨_, rfl⟩
    rw [← hro]
    have lro : ro.length = n := by rw [hro, List.length_append, List.length_dropLast]; show _ + 1 = _; exact OmL.om275 w0 hn lru
    have nro : ∀ x ∈ ro, IsNum b x := fun x hx => by
      rw [hro] at hx
      rcases List.mem_append.mp hx with hx | hx
      · exact nru x (List.dropLast_subset _ hx)
      · rw [List.mem_singleton.mp hx]; exact ny
    have bro : ∀ x ∈ ro, Rm.Bd 200 x := fun x hx => by
      rw [hro] at hx
      rcases List.mem_append.mp hx with hx | hx
      · exact (bru x (List.dropLast_subset _ hx)).mono (by decide)
      · rw [List.mem_singleton.mp hx]; exact by_
    have g4 := Same.new hl4 (.lst (ro.map V.int))
    have h4 : (upd H3 l4 (.lst (ro.map V.int))) l4 = some (.lst (ro.map V.int)) := upd_same
    have h14 := g4 _ _ h13
    generalize upd H3 l4 (.lst (ro.map V.int)) = H4 at g4 h4 h14
    -- the starts
    refine ⟨(by show 1 ≤ sizeLine; decide), fun l5 hl5 => ?_⟩
    have g5 := Same.new hl5 (.lst [.int 0])
    have h5 : (upd H4 l5 (.lst [.int 0])) l5 = some (.lst [.int 0]) := upd_same
    generalize upd H4 l5 (.lst [.int 0]) = H5 at g5 h5
    refine ⟨_, rfl, _, _, rfl, rfl, _, h5, (n63 n12).1, (n63 n12).2, ?_, fun l6 hl6 => ?_⟩
    · show 1 * ((n : Int) - 1).toNat ≤ sizeLine
      rw [Nat.one_mul, toNm1 n1]; exact Nat.le_of_lt (small1000 (Nat.le_trans (Nat.sub_le ..) n1k))
    rw [toNm1 n1, replicate_ofF]
    have g6 := Same.new hl6 (.lst ((Pm.ofF (n - 1) fun _ => 0).map V.int))
    have h6 : (upd H5 l6 (.lst ((Pm.ofF (n - 1) fun _ => 0).map V.int))) l6 = some (.lst ((Pm.ofF (n - 1) fun _ => 0).map V.int)) := upd_same
    generalize upd H5 l6 (.lst ((Pm.ofF (n - 1) fun _ => 0).map V.int)) = H6 at g6 h6
    refine ⟨(by show 1 ≤ sizeLine; decide), fun l7 hl7 => ?_⟩
    have g7 := Same.new hl7 (.lst [.int 1])
    have h7 : (upd H6 l7 (.lst [.int 1])) l7 = some (.lst [.int 1]) := upd_same
    have h67 := g7 _ _ h6
    generalize upd H6 l7 (.lst [.int 1]) = H7 at g7 h7 h67
    refine .inl ⟨_, _, h67, h7, ?_, fun l8 hl8 => ?_⟩
    · rw [List.length_map, Pm.ofF_len]; exact Nat.le_of_lt (small1000 (by show _ + 1 ≤ 1000; exact OmL.om276 w0 hn lru lro))
    rw [← map_snoc]
    obtain ⟨st, hst⟩ : ∃ st : List Int, st = (Pm.ofF (n - 1) fun _ => 0) ++ [1] := ⟨_, rfl⟩
    rw [← hst]
    have lst : st.length = n := by rw [hst, List.length_append, Pm.ofF_len]; show _ + 1 = _; exact OmL.om277 w0 hn lru lro
    have nst : ∀ x ∈ st, IsNum b x := fun x hx => by
      rw [hst] at hx
      rcases List.mem_append.mp hx with hx | hx
      · obtain ⟨k, _, rfl⟩ := Pm.mem_ofF hx
        exact IsNum.zero hB
      · rw [List.mem_singleton.mp hx]
        rcases hB with z | ⟨P', hP', z⟩
        · exact .inl z
        · have := primesN_range P' hP'
          exact .inr ⟨by decide, by exact OmL.om278 hb0 hb1 z this⟩
    have bst : ∀ x ∈ st, Rm.Bd 1000 x := fun x hx => by
      rw [hst] at hx
      rcases List.mem_append.mp hx with hx | hx
      · obtain ⟨k, _, rfl⟩ := Pm.mem_ofF hx
        exact Rm.Bd.zero _
      · rw [List.mem_singleton.mp hx]; exact (Rm.Bd.of (n := 1) (by decide) (by decide)).mono (by decide)
    have g8 := Same.new hl8 (.lst (st.map V.int))
    have h8 : (upd H7 l8 (.lst (st.map V.int))) l8 = some (.lst (st.map V.int)) := upd_same
    have g48 := g5.trans (g6.trans (g7.trans g8))
    generalize upd H7 l8 (.lst (st.map V.int)) = H8 at g8 h8 g48
    refine ⟨l8, _, rfl, .inl ⟨SqL.of h8, fun t9 ht9 => ?_⟩⟩
    have g9 := Same.new ht9 (.tup (st.map V.int))
    have h9 : (upd H8 t9 (.tup (st.map V.int))) t9 = some (.tup (st.map V.int)) := upd_same
    have g49 := g48.trans g9
    generalize upd H8 t9 (.tup (st.map V.int)) = H9 at g9 h9 g49
    have h19 := g49 _ _ h14
    have h49 := g49 _ _ h4
    refine ⟨_, rfl, _, rfl, D, _, rfl, .inl ⟨SqL.of h19, fun t1 ht1 => ?_⟩⟩
    have k1 := Same.new ht1 (.tup (ru.map V.int))
    have j1 : (upd H9 t1 (.tup (ru.map V.int))) t1 = some (.tup (ru.map V.int)) := upd_same
    generalize upd H9 t1 (.tup (ru.map V.int)) = H10 at k1 j1
    refine ⟨_, rfl, (by show 3 ≤ sizeLine; decide), fun t2 ht2 => ?_⟩
    have k2 := Same.new ht2 (.tup [.int b, .ref t1, .ref t9])
    have j2 : (upd H10 t2 (.tup [.int b, .ref t1, .ref t9])) t2 = some (.tup [.int b, .ref t1, .ref t9]) := upd_same
    generalize upd H10 t2 (.tup [.int b, .ref t1, .ref t9]) = H11 at k2 j2
    refine ⟨_, rfl, _, rfl, l4, _, rfl, .inl ⟨SqL.of (k2 _ _ (k1 _ _ h49)), fun t3 ht3 => ?_⟩⟩
    have k3 := Same.new ht3 (.tup (ro.map V.int))
    have j3 : (upd H11 t3 (.tup (ro.map V.int))) t3 = some (.tup (ro.map V.int)) := upd_same
    generalize upd H11 t3 (.tup (ro.map V.int)) = H12 at k3 j3
    refine ⟨_, rfl, (by show 3 ≤ sizeLine; decide), fun t4 ht4 => ?_⟩
    have k4 := Same.new ht4 (.tup [.int b, .ref t3, .ref t9])
    have j4 : (upd H12 t4 (.tup [.int b, .ref t3, .ref t9])) t4 = some (.tup [.int b, .ref t3, .ref t9]) := upd_same
    generalize upd H12 t4 (.tup [.int b, .ref t3, .ref t9]) = H13 at k4 j4
    refine ⟨(by show 2 ≤ sizeLine; decide), fun pz hpz => ?_⟩
    have kz := Same.new hpz (.tup [.ref t2, .ref t4])
    have gT := g1.trans (g2.trans (g3.trans (g4.trans (g49.trans (k1.trans (k2.trans (k3.trans (k4.trans kz))))))))
    have okA : RwOk ⟨b, ru, st⟩ := ⟨lru.trans lst.symm, lru.symm ▸ n12, hb0, hb1, nru, nst, fun x hx => (bru x hx).mono (by decide), bst⟩
    have okB : RwOk ⟨b, ro, st⟩ := ⟨lro.trans lst.symm, lro.symm ▸ n12, hb0, hb1, nro, nst, bro, bst⟩
    exact q pz _ _ ⟨b, ru, st⟩ ⟨b, ro, st⟩ _ gT upd_same ⟨t2, t1, t9, rfl, kz _ _ (k4 _ _ (k3 _ _ j2)), kz _ _ (k4 _ _ (k3 _ _ (k2 _ _ j1))), kz _ _ (k4 _ _ (k3 _ _ (k2 _ _ (k1 _ _ h9))))⟩ okA rfl ⟨t4, t3, t9, rfl, kz _ _ j4, kz _ _ (k4 _ _ j3), kz _ _ (k4 _ _ (k3 _ _ (k2 _ _ (k1 _ _ h9))))⟩ okB rfl
theorem ok_law (B : Bt mg) {f : Addr} {fd : FuncData} (F : Fun K "law" "law" s_law f fd) (M : Ms K mg base A_NoBy A_NoName A_NoNumber A_NoRow A_NoText A_RuleError A_TooBig A_TooFar A_TooLong) (C_Lcell_at : Cal P w K mg base "_law_cell_at" 1 ["_law_script", "_law_k"] (spCell K)) (C_Lby : Cal P w K mg base "_law_by" 1 ["_law_cell"] spBy16) (C_Lrow : Cal P w K mg base "_law_row" 2 ["_law_script", "_law_start", "_law_by_here", "_law_most"] (spRow20 K)) (C_Lother : Cal P w K mg base "_law_other" 5 ["_law_script", "_law_by_here", "_law_row_here"] (spOther26 K)) (C_Llate : Cal P w K mg base "_law_late" 2 ["_law_script", "_law_by_here"] (spLate26 K)) (C_Lgone : Cal P w K mg base "_law_gone" 2 ["_law_row_here", "_law_count"] spGone) (C_parting : Cal P w K mg base "parting" 4 ["one", "other"] (spParting A_NoBy)) (C_Lrefused : Cal P w K mg base "_law_refused" 5 ["_law_way", "_law_one", "_law_other_here"] spRef26) : FnOk P w K mg base (Flown P w) KLAW f fd ["_law_script"] (spLaw K) := by
  refine F.okN (k := 9) sc_law (fun vs H Q E h => ?_) (fun cdv A outer s H vs Q E hr h => ?_)
  · obtain ⟨a, ns, rfl, _⟩ := h; rfl
  · obtain ⟨a, ns, rfl, hS, hlen, q⟩ := h
    refine ⟨_, (pss_cons (ps_set (i := 1) sc_law.nd rfl (Or.inl rfl) (pe_callC C_Lcell_at hr rfl (pa_n (pv 0) (pa_k pe_int pa_nil))))
      (pss_cons (ps_set (i := 2) sc_law.nd rfl (Or.inl rfl) (pe_callC C_Lby hr rfl (pa_n (pv 1) pa_nil)))
      (pss_cons (ps_set (i := 3) sc_law.nd rfl (Or.inl rfl) (pe_callC C_Lrow hr rfl (pa_n (pv 0) (pa_k pe_int (pa_n (pv 2) (pa_k pe_int pa_nil))))))
      (pss_cons (ps_set (i := 4) sc_law.nd rfl (Or.inl rfl) (pe_callC C_Lother hr rfl (pa_n (pv 0) (pa_n (pv 2) (pa_n (pv 3) pa_nil)))))
      (pss_cons (ps_bar (ps_if (pt_cmpR (xeq K hr) (pe_op op_mod (pe_op op_fdiv (pv 1) pe_int) pe_int) pe_int (nomark _))
      (pss_one (ps_asg (pe_callC C_Llate hr rfl (pa_n (pv 0) (pa_n (pv 2) pa_nil))) (xgtup K (n := 2) rfl (pgs_cons (pg_name (i := 3) sc_law.nd rfl (Or.inl rfl)) (pgs_cons (pg_name (i := 4) sc_law.nd rfl (Or.inl rfl)) pgs_nil)))))
      pss_nil))
      (pss_cons (ps_set (i := 5) sc_law.nd rfl (Or.inl rfl) (pe_op (xadd K) (pe_callB (xlen K) rfl B.b_len boot_len (pa_cons (pe_ix (xix K) (pv 3) pe_int (fun _ _ => rfl)) pa_nil)) (pe_callB (xlen K) rfl B.b_len boot_len (pa_cons (pe_ix (xix K) (pv 4) pe_int (fun _ _ => rfl)) pa_nil))))
      (pss_cons (ps_set (i := 6) sc_law.nd rfl (Or.inl rfl) pe_non)
      (pss_cons (ps_for PassesOwn.never rfl (pi_ez K rfl B.b_enumerate rfl B.b_zip (pa_cons (pe_callC C_Lgone hr rfl (pa_n (pv 3) (pa_n (pv 5) pa_nil))) (pa_cons (pe_callC C_Lgone hr rfl (pa_n (pv 4) (pa_n (pv 5) pa_nil))) pa_nil))) (xgtup K (n := 2) rfl (pgs_cons (pg_name (i := 7) sc_law.nd rfl (Or.inl rfl)) (pgs_cons (pg_name (i := 8) sc_law.nd rfl (Or.inl rfl)) pgs_nil)))
      (pss_one (ps_bar (ps_if (PW.pt (pw_and (pt_cmp (pc_isN (pv 6))) (pw_and1 (pt_cmpR (xne K hr) (pe_ix (xix K) (pv 8) pe_int (fun _ _ => rfl)) (pe_ix (xix K) (pv 8) pe_int (fun _ _ => rfl)) (nomark _)))))
      (pss_one (ps_set (i := 6) sc_law.nd rfl (Or.inl rfl) (pv 7)))
      pss_nil))))
      (pss_cons (ps_for PassesOwn.never rfl (xseq K (pe_tup (pa_cons (pe_callC C_parting hr rfl (pa_n (pv 3) (pa_n (pv 4) pa_nil))) (pa_cons (pe_callC C_parting hr rfl (pa_n (pv 4) (pa_n (pv 3) pa_nil))) pa_nil)))) (pg_name (i := 9) sc_law.nd rfl (Or.inl rfl))
      (pss_one (ps_if (PW.pt (pw_or (pt_cmpR (xne K hr) (pv 9) (pv 6) (nomark _)) (pw_or1 (pt_val (pe_callB v_isinstance rfl B.b_isinstance boot_isinstance (pa_n (pv 9) (pa_n (pe_tyB rfl B.b_bool boot_bool) pa_nil)))))))
      (pss_one (ps_ret pe_bl))
      pss_nil)))
      (pss_cons (ps_if (pt_cmp (pc_notN (pe_callC C_parting hr rfl (pa_n (pv 3) (pa_n (pv 3) pa_nil)))))
      (pss_one (ps_ret pe_bl))
      pss_nil)
      (pss_cons (ps_set (i := 10) sc_law.nd rfl (Or.inl rfl) (pe_callC C_Lrow hr rfl (pa_n (pv 0) (pa_k pe_int (pa_cons (pe_ix (xix K) (pe_lst (pa_k pe_int (pa_k pe_int (pa_k pe_int (pa_k pe_int pa_nil))))) (pe_op op_mod (pe_op op_fdiv (pv 1) pe_int) pe_int) (fun _ _ => rfl)) (pa_k pe_int pa_nil))))))
      (pss_cons (ps_bar (ps_if (pt_cmpR (xeq K hr) (pe_ix (xix K) (pv 10) pe_int (fun _ _ => rfl)) (pv 2) (nomark _))
      (pss_one (ps_set (i := 10) sc_law.nd rfl (Or.inl rfl) (pe_tup (pa_k pe_int (pa_t (pe_tup (pa_k pe_int pa_nil)) (pa_t (pe_tup (pa_k pe_int pa_nil)) pa_nil))))))
      pss_nil))
      (pss_one (ps_ret (pe_callC C_Lrefused hr rfl (pa_b (pe_op op_mod (pe_op op_fdiv (pv 1) pe_int) pe_int) (pa_n (pv 3) (pa_n (pv 10) pa_nil)))))))))))))))))), ?_⟩
    refine ⟨_, rfl, a, ns, 0, rfl, hS, by decide, ?_⟩
    generalize cellAt ns 0 = c
    refine ⟨_, rfl, c, rfl, fun H0 g0 => ?_⟩
    have hB := by16_ok c
    have h17 := by16_ne17 c
    generalize by16 c = b at hB h17
    obtain ⟨hb0, hb1, hb2⟩ := hB.range
    refine ⟨_, rfl, _, rfl, a, ns, 1, b, 6, rfl, g0.seq hS, by decide, hB, by decide, fun v1 r1 H1 g1 hR1 hL1 => ?_⟩
    have g01 := g0.trans g1
    refine ⟨_, rfl, _, rfl, _, rfl, a, ns, b, v1, r1, rfl, g01.seq hS, hB, hR1, hL1, fun v2 r2 H2 g2 hR2 ok2 e2 => ?_⟩
    refine BarS.by (fun σ' H' => ∃ (v1 v2 : V) (r1 r2 : Rw), σ' = [some (.ref a), some (.int c), some (.int b), some v1, some v2, none, none, none, none, none, none] ∧ Same H H' ∧ RowIs H' v1 r1 ∧ RowIs H' v2 r2 ∧ RwOk r1 ∧ RwOk r2 ∧ r1.b = b ∧ r2.b = b) (fun NN hNN => ?_) ?_
    · refine ⟨_, rfl, _, _, rfl, rfl, ⟨by decide, by decide⟩, _, _, rfl, rfl, (by decide : (0 : Int) < 6), _, rfl, ?_⟩
      refine ite2 (fun _ => ?_) (fun _ => hNN _ _ ⟨v1, v2, r1, r2, rfl, g01.trans g2, hR1.same g2, hR2, hL1.oks hB, ok2, hL1.by_, e2⟩)
      refine ⟨_, rfl, _, rfl, a, ns, b, rfl, (g01.trans g2).seq hS, hB, fun p w1 w2 s1 s2 H3 g3 hp k1 k2 k3 k4 k5 k6 => ?_⟩
      exact ⟨p, _, rfl, SqT.of hp, rfl, _, _, rfl, _, _, rfl, rfl, hNN _ _ ⟨w1, w2, s1, s2, rfl, g01.trans (g2.trans g3), k1, k4, k2, k5, k3, k6⟩⟩
    rintro _ H3 ⟨v1, v2, r1, r2, rfl, g3, hR1, hR2, ok1, ok2, e1, e2⟩
    obtain ⟨a1, p1, s1, rfl, hA1, hP1, _⟩ := id hR1
    obtain ⟨a2, p2, s2, rfl, hA2, hP2, _⟩ := id hR2
    have lP1 : (r1.rule.map V.int).length = r1.rule.length := List.length_map _
    have lP2 : (r2.rule.map V.int).length = r2.rule.length := List.length_map _
    have hs1 := ok1.short
    have hs2 := ok2.short
    refine ⟨_, rfl, _, _, .inr (SqT.of hA1), rfl, .ref p1, r1.rule.length, rfl, .inr ⟨_, SqT.of hP1, lP1.symm⟩, _, rfl, _, _, .inr (SqT.of hA2), rfl, .ref p2, r2.rule.length, rfl, .inr ⟨_, SqT.of hP2, lP2.symm⟩, ?_⟩
    obtain ⟨n, hn⟩ : ∃ n : Nat, n = r1.rule.length + r2.rule.length := ⟨_, rfl⟩
    have en := add_eq hn
    have hn24 := add24 hn hs1 hs2
    dsimp only [rAddV]
    rw [en]
    refine ⟨_, rfl, _, rfl, .ref a1, r1, (n : Int), rfl, hR1, ok1, (c900 hn24).1, (c900 hn24).2, fun l1 H4 g4 _ hl1 => ?_⟩
    refine ⟨_, rfl, _, rfl, .ref a2, r2, (n : Int), rfl, hR2.same g4, ok2, (c900 hn24).1, (c900 hn24).2, fun l2 H5 g5 _ hl2 => ?_⟩
    rw [Int.toNat_natCast] at hl1 hl2
    have hl1' := g5 _ _ hl1
    have n1 := Rw.row_len r1 n
    have n2 := Rw.row_len r2 n
    have g45 := g4.trans g5
    refine ⟨false, false, l1, l2, _, _, rfl, SqL.of hl1', SqL.of hl2, ?_⟩
    refine for_ez (t1 := false) (t2 := false) (by rw [List.length_map, List.length_map, n1, n2]) (SqL.of hl1') (SqL.of hl2) (fun i σ' H' => ∃ (o7 o8 : Option V), σ' = [some (.ref a), some (.int c), some (.int b), some (.ref a1), some (.ref a2), some (.int (n : Int)), some (partV (partO r1.at r2.at i)), o7, o8, none, none] ∧ Same H5 H') ⟨_, _, rfl, Same.refl _⟩ (fun i σ' H' ⟨_, _, _, z⟩ => z) ?_ ?_
    · rintro i x y σ' H6 u1 u2 hx hy ⟨o7, o8, rfl, g6⟩ f1 f2 n12
      obtain ⟨rfl, hi⟩ := map_int_get hx
      obtain ⟨rfl, _⟩ := map_int_get hy
      rw [n1] at hi
      have g7 := (Same.new f1 (.tup [.int (Pm.co (r1.row n) i), .int (Pm.co (r2.row n) i)])).upd f2 (.tup [.int (i : Int), .ref u1])
      have h7 : (upd (upd H6 u1 (.tup [.int (Pm.co (r1.row n) i), .int (Pm.co (r2.row n) i)])) u2 (.tup [.int (i : Int), .ref u1])) u1 = some (.tup [.int (Pm.co (r1.row n) i), .int (Pm.co (r2.row n) i)]) := by rw [upd_ne n12]; exact upd_same
      have h7' : (upd (upd H6 u1 (.tup [.int (Pm.co (r1.row n) i), .int (Pm.co (r2.row n) i)])) u2 (.tup [.int (i : Int), .ref u1])) u2 = some (.tup [.int (i : Int), .ref u1]) := upd_same
      generalize upd (upd H6 u1 (.tup [.int (Pm.co (r1.row n) i), .int (Pm.co (r2.row n) i)])) u2 (.tup [.int (i : Int), .ref u1]) = H7 at g7 h7 h7'
      have ea : Pm.co (r1.row n) i = r1.at i := row_get' r1 hi
      have eb : Pm.co (r2.row n) i = r2.at i := row_get' r2 hi
      rw [ea, eb] at h7
      refine ⟨u2, _, rfl, SqT.of h7', rfl, _, _, rfl, _, _, rfl, rfl, ?_⟩
      refine BarS.by (fun σ' H' => ∃ (o7 o8 : Option V), σ' = [some (.ref a), some (.int c), some (.int b), some (.ref a1), some (.ref a2), some (.int (n : Int)), some (partV (partO r1.at r2.at (i + 1))), o7, o8, none, none] ∧ Same H5 H') (fun NN hNN => ?_) ?_
      · cases e : partO r1.at r2.at i with
        | none =>
          have e' := partO_succ_none e
          refine ⟨_, rfl, _, rfl, iteT ?_⟩
          refine ⟨_, rfl, _, _, .inr (SqT.of h7), rfl, _, rfl, _, _, .inr (SqT.of h7), rfl, _, rfl, ?_⟩
          by_cases hc : r1.at i = r2.at i
          · rw [decide_eq_true hc]
            rw [if_pos hc] at e'
            exact iteF (hNN _ _ ⟨_, _, by rw [e']; rfl, g6.trans g7⟩)
          · rw [decide_eq_false hc]
            rw [if_neg hc] at e'
            exact iteT ⟨_, rfl, hNN _ _ ⟨_, _, by rw [e']; rfl, g6.trans g7⟩⟩
        | some j =>
          have e' := partO_succ_some e
          refine ⟨_, rfl, _, rfl, iteF (iteF (hNN _ _ ⟨_, _, by rw [e']; rfl, g6.trans g7⟩))⟩
      · rintro σ' H8 z
        exact z
    rintro σ' H6 ⟨o7, o8, rfl, g6⟩
    rw [List.length_map, n1]
    have hR1' := hR1.same (g45.trans g6)
    have hR2' := hR2.same (g45.trans g6)
    refine ⟨_, rfl, _, rfl, .ref a1, .ref a2, r1, r2, rfl, hR1', hR2', ok1, ok2, fun e => absurd (e1.trans e2.symm) e, fun _ H7 g7 => ?_⟩
    refine ⟨_, rfl, _, rfl, .ref a2, .ref a1, r2, r1, rfl, hR2'.same g7, hR1'.same g7, ok2, ok1, fun e => absurd (e2.trans e1.symm) e, fun _ H8 g8 => ?_⟩
    rw [partO_comm r1.at r2.at, Nat.add_comm r2.rule.length, ← hn]
    have g38 := g45.trans (g6.trans (g7.trans g8))
    generalize partO r1.at r2.at n = o
    refine ⟨(by show 2 ≤ sizeLine; decide), fun p hp => ?_⟩
    have g9 := Same.new hp (.tup [partV o, partV o])
    have h9 : (upd H8 p (.tup [partV o, partV o])) p = some (.tup [partV o, partV o]) := upd_same
    generalize upd H8 p (.tup [partV o, partV o]) = H9 at g9 h9
    refine ⟨p, rfl, .inr ⟨⟨_, SqT.of h9⟩, ?_⟩⟩
    refine for_its (its_tup (SqT.of h9)) (fun i σ' H' => ∃ (o9 : Option V), σ' = [some (.ref a), some (.int c), some (.int b), some (.ref a1), some (.ref a2), some (.int (n : Int)), some (partV o), o7, o8, o9, none] ∧ Same H9 H') ⟨_, rfl, Same.refl _⟩ (fun i σ' H' ⟨_, _, z⟩ => z) ?_ ?_
    · rintro i x σ' H10 hx ⟨o9, rfl, g10⟩
      have ex : x = partV o := by
        match i, hx with
        | 0, h => cases h; rfl
        | 1, h => cases h; rfl
        | k + 2, h => cases h
      subst ex
      cases o with
      | none =>
        refine ⟨_, rfl, _, rfl, _, rfl, iteF ?_⟩
        refine ⟨_, rfl, .non, "bool", "NoneType", rfl, rfl, by simp, _, rfl, iteF ?_⟩
        exact ⟨_, rfl, g10⟩
      | some j =>
        refine ⟨_, rfl, _, rfl, _, rfl, ?_⟩
        rw [show not (decide ((j : Int) = (j : Int))) = false by rw [decide_eq_true rfl]; rfl]
        refine iteF ?_
        refine ⟨_, rfl, .int (j : Int), "bool", "int", rfl, rfl, by simp, _, rfl, iteF ?_⟩
        exact ⟨_, rfl, g10⟩
    rintro σ' H10 ⟨o9, rfl, g10⟩
    have g3A := g38.trans (g9.trans g10)
    refine ⟨_, rfl, _, rfl, .ref a1, .ref a1, r1, r1, rfl, hR1.same g3A, hR1.same g3A, ok1, ok1, fun e => absurd rfl e, fun _ H11 g11 => ?_⟩
    rw [partO_none.mpr fun _ _ => rfl]
    refine ⟨_, rfl, iteF ?_⟩
    have g3B := g3A.trans g11
    have gHB := g3.trans g3B
    refine ⟨_, rfl, (by show 4 ≤ sizeLine; decide), fun l12 hl12 => ?_⟩
    have g12 := Same.new hl12 (.lst [.int 2, .int 11, .int 0, .int 13])
    have h12 : (upd H11 l12 (.lst [.int 2, .int 11, .int 0, .int 13])) l12 = some (.lst (strL.map V.int)) := upd_same
    generalize upd H11 l12 (.lst [.int 2, .int 11, .int 0, .int 13]) = H12 at g12 h12
    have i0 := emod_lo (c / 8) (show (0 : Int) < 4 by decide)
    have i1 := emod_hi (c / 8) (show (0 : Int) < 4 by decide)
    refine ⟨_, rfl, _, _, rfl, rfl, ⟨by decide, by decide⟩, _, _, rfl, rfl, (by decide : (0 : Int) < 4), _, _, .inl (SqL.of h12), atI_ints (ns := strL) i0 i1, a, ns, 5, _, 4, rfl, (gHB.trans g12).seq hS, by decide, str_by i0 i1, by decide, fun v3 r3 H13 g13 hR3 hL3 => ?_⟩
    have hB3 := str_by i0 i1
    have ok3 := hL3.ok hB3 (by decide)
    have g3C := g3B.trans (g12.trans g13)
    refine BarS.by (fun σ' H' => ∃ (v3 : V) (r3 : Rw), σ' = [some (.ref a), some (.int c), some (.int b), some (.ref a1), some (.ref a2), some (.int (n : Int)), some (partV o), o7, o8, o9, some v3] ∧ Same H3 H' ∧ RowIs H' v3 r3 ∧ RwOk r3 ∧ r3.b ≠ b) (fun NN hNN => ?_) ?_
    · obtain ⟨a3, p3, s3, rfl, hA3, hP3, hS3⟩ := id hR3
      refine ⟨_, rfl, _, _, .inr (SqT.of hA3), rfl, _, rfl, _, rfl, ?_⟩
      refine ite2 (fun cc => ?_) (fun cc => hNN _ _ ⟨_, r3, rfl, g3C, hR3, ok3, dec_false cc⟩)
      refine ⟨(by show 1 ≤ sizeLine; decide), fun t1 ht1 => ?_⟩
      have k1 := Same.new ht1 (.tup [.int 1])
      have j1 : (upd H13 t1 (.tup [.int 1])) t1 = some (.tup (([1] : List Int).map V.int)) := upd_same
      generalize upd H13 t1 (.tup [.int 1]) = H14 at k1 j1
      refine ⟨(by show 1 ≤ sizeLine; decide), fun t2 ht2 => ?_⟩
      have k2 := Same.new ht2 (.tup [.int 1])
      have j2 : (upd H14 t2 (.tup [.int 1])) t2 = some (.tup (([1] : List Int).map V.int)) := upd_same
      generalize upd H14 t2 (.tup [.int 1]) = H15 at k2 j2
      refine ⟨(by show 3 ≤ sizeLine; decide), fun t3 ht3 => ?_⟩
      have k3 := Same.new ht3 (.tup [.int 17, .ref t1, .ref t2])
      exact hNN _ _ ⟨_, ⟨17, [1], [1]⟩, rfl, g3C.trans (k1.trans (k2.trans k3)), ⟨t3, t1, t2, rfl, upd_same, k3 _ _ (k2 _ _ j1), k3 _ _ j2⟩, RwOk.seventeen, fun z => h17 z.symm⟩
    rintro _ H14 ⟨v3, r3, rfl, g14, hR3, ok3, ne3⟩
    exact ⟨_, rfl, _, _, rfl, rfl, ⟨by decide, by decide⟩, _, _, rfl, rfl, (by decide : (0 : Int) < 2), _, rfl, _, rfl, _, .ref a1, v3, r1, r3, rfl, hR1.same g14, hR3, ok1, ok3, fun z => ne3 (z.symm.trans e1), fun H' _ => q H'⟩
end
theorem all_mk {l : PySem.W.OpenLaw} {w : World} {K : PySem.W.Frag} {h : Heap} {mg : Str → Option Value} {fa : Addr} (X : K.In h) (G : h.Ns mainGlobals mg) (hfa : mg "law" = some (.ref fa))
    (F0 : FnIn K "taken" s_taken) (F1 : FnIn K "shared_by" s_shared_by) (F2 : FnIn K "next_place" s_next_place) (F3 : FnIn K "first_places" s_first_places) (F4 : FnIn K "times" s_times) (F5 : FnIn K "divided" s_divided) (F6 : FnIn K "shared_divisor" s_shared_divisor) (F7 : FnIn K "least_of" s_least_of) (F8 : FnIn K "parting" s_parting) (F9 : FnIn K "common" s_common) (F10 : FnIn K "_law_cell_at" s_Lcell_at) (F11 : FnIn K "_law_mixed" s_Lmixed) (F12 : FnIn K "_law_by" s_Lby) (F13 : FnIn K "_law_taken" s_Ltaken) (F14 : FnIn K "_law_number" s_Lnumber) (F15 : FnIn K "_law_gone" s_Lgone) (F16 : FnIn K "_law_row" s_Lrow) (F17 : FnIn K "_law_longer" s_Llonger) (F18 : FnIn K "_law_other" s_Lother) (F19 : FnIn K "_law_late" s_Llate) (F20 : FnIn K "_law_refused" s_Lrefused) (FL : FnIn K "law" s_law) (z_ValueError : PySem.W.nsIn K mainGlobals "ValueError" = some none) (z_bool : PySem.W.nsIn K mainGlobals "bool" = some none) (z_enumerate : PySem.W.nsIn K mainGlobals "enumerate" = some none) (z_isinstance : PySem.W.nsIn K mainGlobals "isinstance" = some none) (z_len : PySem.W.nsIn K mainGlobals "len" = some none) (z_list : PySem.W.nsIn K mainGlobals "list" = some none) (z_max : PySem.W.nsIn K mainGlobals "max" = some none) (z_min : PySem.W.nsIn K mainGlobals "min" = some none) (z_range : PySem.W.nsIn K mainGlobals "range" = some none) (z_sum : PySem.W.nsIn K mainGlobals "sum" = some none) (z_tuple : PySem.W.nsIn K mainGlobals "tuple" = some none) (z_zip : PySem.W.nsIn K mainGlobals "zip" = some none) (g_BELOW_THE_PRIMES : ∃ t, PySem.W.nsIn K mainGlobals "BELOW_THE_PRIMES" = some (some (.int 1000000 t))) {A_NoBy : Addr} (n_NoBy : PySem.W.nsIn K mainGlobals "NoBy" = some (some (.ref A_NoBy))) {A_NoName : Addr} (n_NoName : PySem.W.nsIn K mainGlobals "NoName" = some (some (.ref A_NoName))) {A_NoNumber : Addr} (n_NoNumber : PySem.W.nsIn K mainGlobals "NoNumber" = some (some (.ref A_NoNumber))) {A_NoRow : Addr} (n_NoRow : PySem.W.nsIn K mainGlobals "NoRow" = some (some (.ref A_NoRow))) {A_NoText : Addr} (n_NoText : PySem.W.nsIn K mainGlobals "NoText" = some (some (.ref A_NoText))) {A_RuleError : Addr} (n_RuleError : PySem.W.nsIn K mainGlobals "RuleError" = some (some (.ref A_RuleError))) {A_TooBig : Addr} (n_TooBig : PySem.W.nsIn K mainGlobals "TooBig" = some (some (.ref A_TooBig))) {A_TooFar : Addr} (n_TooFar : PySem.W.nsIn K mainGlobals "TooFar" = some (some (.ref A_TooFar))) {A_TooLong : Addr} (n_TooLong : PySem.W.nsIn K mainGlobals "TooLong" = some (some (.ref A_TooLong))) (q_NoBy : PySem.W.excIn K A_NoBy [.type "ValueError", .type "Exception", .type "BaseException", .type "object"] "ValueError.__new__" = true) (u_NoBy_RuleError : excSub K A_NoBy A_RuleError = true) (v_NoBy_RuleError : PySem.W.ktsIn K A_RuleError "BaseException" = true) (w1_NoBy : PySem.W.findIn K (.ref A_NoBy) "__getattribute__" = some (some (.builtin "BaseException.__getattribute__"))) (w2_NoBy : PySem.W.findIn K (.ref A_NoBy) "__getattr__" = some none) (w3_NoBy : PySem.W.findIn K (.ref A_NoBy) "__class__" = some (some (.builtin "object.__class__"))) (w4_NoBy : PySem.W.mroIn K A_NoBy (.type "BaseException") = some true) (w5_NoBy : PySem.W.mroIn K A_NoBy (.type "object") = some true) (w6_NoBy : (PySem.W.clsIn K A_NoBy).isSome = true) (k_NoBy_NoBy : PySem.W.kitOne K (.ref A_NoBy) (.ref A_NoBy) = some true) (k_NoBy_NoName : PySem.W.kitOne K (.ref A_NoBy) (.ref A_NoName) = some false) (k_NoBy_NoNumber : PySem.W.kitOne K (.ref A_NoBy) (.ref A_NoNumber) = some false) (k_NoBy_NoRow : PySem.W.kitOne K (.ref A_NoBy) (.ref A_NoRow) = some false) (k_NoBy_NoText : PySem.W.kitOne K (.ref A_NoBy) (.ref A_NoText) = some false) (k_NoBy_RuleError : PySem.W.kitOne K (.ref A_NoBy) (.ref A_RuleError) = some true) (k_NoBy_TooBig : PySem.W.kitOne K (.ref A_NoBy) (.ref A_TooBig) = some false) (k_NoBy_TooFar : PySem.W.kitOne K (.ref A_NoBy) (.ref A_TooFar) = some false) (k_NoBy_TooLong : PySem.W.kitOne K (.ref A_NoBy) (.ref A_TooLong) = some false) (k_NoBy_ValueError : PySem.W.kitOne K (.ref A_NoBy) (.type "ValueError") = some true) :
    ∃ fd : FuncData, (∀ (s : Shared) (v : Value), BindsTo s fd ⟨[v], []⟩ [("_law_script", v)]) ∧ ∀ base : Heap, K.In base → base.Ns mainGlobals mg → FnOk l.prog w K mg base (Flown l.prog w) KLAW fa fd ["_law_script"] (spLaw K) := by
  obtain ⟨f, oc, od, kV, doc, pm, an, cdv, ct, sl, e1, e2, e3, e4⟩ := FL.ex
  have e := hfa.symm.trans (PySem.W.mg_of X G e1)
  cases e
  have FF := fun_mk (st := s_law) e2 e3 e4
  have B : Bt mg := ⟨PySem.W.mg_none_of X G z_ValueError, PySem.W.mg_none_of X G z_bool, PySem.W.mg_none_of X G z_enumerate, PySem.W.mg_none_of X G z_isinstance, PySem.W.mg_none_of X G z_len, PySem.W.mg_none_of X G z_list, PySem.W.mg_none_of X G z_max, PySem.W.mg_none_of X G z_min, PySem.W.mg_none_of X G z_range, PySem.W.mg_none_of X G z_sum, PySem.W.mg_none_of X G z_tuple, PySem.W.mg_none_of X G z_zip, (let ⟨t, q⟩ := g_BELOW_THE_PRIMES; ⟨t, PySem.W.mg_of X G q⟩)⟩
  have G0 := F0.fn X G (ps := ["by", "number"]) fun _ _ _ _ _ _ us hl => match us, (show us.length = 2 from hl) with | [_, _], _ => rfl
  have G1 := F1.fn X G (ps := ["one", "other"]) fun _ _ _ _ _ _ us hl => match us, (show us.length = 2 from hl) with | [_, _], _ => rfl
  have G2 := F2.fn X G (ps := ["by", "rule", "before"]) fun _ _ _ _ _ _ us hl => match us, (show us.length = 3 from hl) with | [_, _, _], _ => rfl
  have G3 := F3.fn X G (ps := ["row", "count"]) fun _ _ _ _ _ _ us hl => match us, (show us.length = 2 from hl) with | [_, _], _ => rfl
  have G4 := F4.fn X G (ps := ["by", "one", "other"]) fun _ _ _ _ _ _ us hl => match us, (show us.length = 3 from hl) with | [_, _, _], _ => rfl
  have G5 := F5.fn X G (ps := ["by", "one", "other"]) fun _ _ _ _ _ _ us hl => match us, (show us.length = 3 from hl) with | [_, _, _], _ => rfl
  have G6 := F6.fn X G (ps := ["by", "one", "other"]) fun _ _ _ _ _ _ us hl => match us, (show us.length = 3 from hl) with | [_, _, _], _ => rfl
  have G7 := F7.fn X G (ps := ["row"]) fun _ _ _ _ _ _ us hl => match us, (show us.length = 1 from hl) with | [_], _ => rfl
  have G8 := F8.fn X G (ps := ["one", "other"]) fun _ _ _ _ _ _ us hl => match us, (show us.length = 2 from hl) with | [_, _], _ => rfl
  have G9 := F9.fn X G (ps := ["one", "other"]) fun _ _ _ _ _ _ us hl => match us, (show us.length = 2 from hl) with | [_, _], _ => rfl
  have G10 := F10.fn X G (ps := ["_law_script", "_law_k"]) fun _ _ _ _ _ _ us hl => match us, (show us.length = 2 from hl) with | [_, _], _ => rfl
  have G11 := F11.fn X G (ps := ["_law_cell", "_law_k"]) fun _ _ _ _ _ _ us hl => match us, (show us.length = 2 from hl) with | [_, _], _ => rfl
  have G12 := F12.fn X G (ps := ["_law_cell"]) fun _ _ _ _ _ _ us hl => match us, (show us.length = 1 from hl) with | [_], _ => rfl
  have G13 := F13.fn X G (ps := ["_law_by_here", "_law_number_here"]) fun _ _ _ _ _ _ us hl => match us, (show us.length = 2 from hl) with | [_, _], _ => rfl
  have G14 := F14.fn X G (ps := ["_law_by_here", "_law_cell", "_law_sort"]) fun _ _ _ _ _ _ us hl => match us, (show us.length = 3 from hl) with | [_, _, _], _ => rfl
  have G15 := F15.fn X G (ps := ["_law_row_here", "_law_count"]) fun _ _ _ _ _ _ us hl => match us, (show us.length = 2 from hl) with | [_, _], _ => rfl
  have G16 := F16.fn X G (ps := ["_law_script", "_law_start", "_law_by_here", "_law_most"]) fun _ _ _ _ _ _ us hl => match us, (show us.length = 4 from hl) with | [_, _, _, _], _ => rfl
  have G17 := F17.fn X G (ps := ["_law_row_here", "_law_number_here"]) fun _ _ _ _ _ _ us hl => match us, (show us.length = 2 from hl) with | [_, _], _ => rfl
  have G18 := F18.fn X G (ps := ["_law_script", "_law_by_here", "_law_row_here"]) fun _ _ _ _ _ _ us hl => match us, (show us.length = 3 from hl) with | [_, _, _], _ => rfl
  have G19 := F19.fn X G (ps := ["_law_script", "_law_by_here"]) fun _ _ _ _ _ _ us hl => match us, (show us.length = 2 from hl) with | [_, _], _ => rfl
  have G20 := F20.fn X G (ps := ["_law_way", "_law_one", "_law_other_here"]) fun _ _ _ _ _ _ us hl => match us, (show us.length = 3 from hl) with | [_, _, _], _ => rfl
  refine ⟨PySem.W.fnOf "law" "law" (defArgs s_law) (defBody s_law) (defScope s_law) .none kV doc pm an cdv ct, fun s v => .of_eq rfl, fun base kB gB => ?_⟩
  have M : Ms K mg base A_NoBy A_NoName A_NoNumber A_NoRow A_NoText A_RuleError A_TooBig A_TooFar A_TooLong := ⟨PySem.W.mg_of X G n_NoBy, PySem.W.mg_of X G n_NoName, PySem.W.mg_of X G n_NoNumber, PySem.W.mg_of X G n_NoRow, PySem.W.mg_of X G n_NoText, PySem.W.mg_of X G n_RuleError, PySem.W.mg_of X G n_TooBig, PySem.W.mg_of X G n_TooFar, PySem.W.mg_of X G n_TooLong, exC_of kB gB n_NoBy q_NoBy F.excBase_ValueError (by decide), exS_of kB u_NoBy_RuleError v_NoBy_RuleError, ⟨w1_NoBy, w2_NoBy, w3_NoBy, w4_NoBy, w5_NoBy, w6_NoBy⟩, k_NoBy_NoBy, k_NoBy_NoName, k_NoBy_NoNumber, k_NoBy_NoRow, k_NoBy_NoText, k_NoBy_RuleError, k_NoBy_TooBig, k_NoBy_TooFar, k_NoBy_TooLong, k_NoBy_ValueError⟩
  have C_taken := ok_taken (P := l.prog) (w := w) (base := base) B G0 M 
  have C_shared_by := ok_shared_by (P := l.prog) (w := w) (base := base) B G1 M 
  have C_next_place := ok_next_place (P := l.prog) (w := w) (base := base) B G2 M C_taken
  have C_first_places := ok_first_places (P := l.prog) (w := w) (base := base) B G3 M C_next_place
  have C_times := ok_times (P := l.prog) (w := w) (base := base) B G4 M 
  have C_divided := ok_divided (P := l.prog) (w := w) (base := base) B G5 M 
  have C_shared_divisor := ok_shared_divisor (P := l.prog) (w := w) (base := base) B G6 M 
  have C_least_of := ok_least_of (P := l.prog) (w := w) (base := base) B G7 M 
  have C_parting := ok_parting (P := l.prog) (w := w) (base := base) B G8 M C_shared_by C_first_places
  have C_common := ok_common (P := l.prog) (w := w) (base := base) B G9 M C_shared_by C_least_of C_shared_divisor C_times C_divided
  have C_Lcell_at := ok_Lcell_at (P := l.prog) (w := w) (base := base) B G10 M 
  have C_Lmixed := ok_Lmixed (P := l.prog) (w := w) (base := base) B G11 M 
  have C_Lby := ok_Lby (P := l.prog) (w := w) (base := base) B G12 M 
  have C_Ltaken := ok_Ltaken (P := l.prog) (w := w) (base := base) B G13 M 
  have C_Lnumber := ok_Lnumber (P := l.prog) (w := w) (base := base) B G14 M 
  have C_Lgone := ok_Lgone (P := l.prog) (w := w) (base := base) B G15 M C_Ltaken
  have C_Lrow := ok_Lrow (P := l.prog) (w := w) (base := base) B G16 M C_Lcell_at C_Lnumber C_Lmixed
  have C_Llonger := ok_Llonger (P := l.prog) (w := w) (base := base) B G17 M C_Lgone C_Ltaken
  have C_Lother := ok_Lother (P := l.prog) (w := w) (base := base) B G18 M C_Lcell_at C_Lrow C_Llonger C_Lnumber C_Lmixed C_Lgone C_Ltaken
  have C_Llate := ok_Llate (P := l.prog) (w := w) (base := base) B G19 M C_Lcell_at C_Lnumber C_Lmixed C_Ltaken
  have C_Lrefused := ok_Lrefused (P := l.prog) (w := w) (base := base) B G20 M C_parting C_common
  exact ok_law B FF M C_Lcell_at C_Lby C_Lrow C_Lother C_Llate C_Lgone C_parting C_Lrefused
end K26
namespace L2
open PySem PySem.W PySem.W.X
theorem walkX_of {q : Program} {loose : List Str} {XP : (Str → Option Value) → Heap → Prop} {K : Params → Frag} {as : List Addr} {n t : Nat} {r : RowW} {d : DefRec} {kwd : List (Str × PySem.Expr)} {run : Value → List Value → Sem Value} (keys : ∀ P, as = (K P).map (·.1))
    (W : WalkO q loose XP (fun w h => (K w.params).In h) r d kwd run) : WalkX q loose XP (obsZ as) (valZ K n t) r d kwd run :=
  fun w s0 s1 mg mb G y a o pm cd doc dV kV h1 h2 h3 h4 h5 h6 args vals as' L p1 p2 p3 p4 p5 => W w s0 s1 mg mb G (InK.keeps w _ _ (z_facts keys y).2.1 L.keeps) a o pm cd doc dV kV h1 h2 h3 h4 h5 h6 args vals as' p1 p2 p3 p4 p5
end L2
open PySem PySem.W PyProof.Rows
set_option maxRecDepth 100000 in
set_option maxHeartbeats 0 in
theorem PySem.Challenge.cw_nextbyrule_k26_where_rows_part_holds : PySem.Challenge.rw_nextbyrule_k26_where_rows_part.Holds := by
  w_on; o_law; z_head; (case hw => w_witness2)
  k_fill
  refine L2.walkX_of (fun _ => by kernel_rfl) ?_
  refine L2.walk_of (l := PySem.Challenge.rw_nextbyrule_k26_where_rows_part) (n := 63) (k := K26.KLAW) (x := "_law_script") (CX := fun w => L2.Flown PySem.Challenge.rw_nextbyrule_k26_where_rows_part.prog w) (sp := fun _ => K26.spLaw _) rfl (by decide) rfl ⟨rfl, by decide, by decide⟩ (fun w h Y => Y) ?F (fun w H a ns hl _ hS => ⟨a, ns, rfl, hS, hl, fun _ => rfl⟩) (fun _ _ _ _ _ z => L2.flown_none z)
  case F =>
    intro w mg fa h KX G hmg
    refine' K26.all_mk KX G hmg ?F0 ?F1 ?F2 ?F3 ?F4 ?F5 ?F6 ?F7 ?F8 ?F9 ?F10 ?F11 ?F12 ?F13 ?F14 ?F15 ?F16 ?F17 ?F18 ?F19 ?F20 ?FL ?z_ValueError ?z_bool ?z_enumerate ?z_isinstance ?z_len ?z_list ?z_max ?z_min ?z_range ?z_sum ?z_tuple ?z_zip ?g_BELOW_THE_PRIMES ?n_NoBy ?n_NoName ?n_NoNumber ?n_NoRow ?n_NoText ?n_RuleError ?n_TooBig ?n_TooFar ?n_TooLong ?q_NoBy ?u_NoBy_RuleError ?v_NoBy_RuleError ?w1_NoBy ?w2_NoBy ?w3_NoBy ?w4_NoBy ?w5_NoBy ?w6_NoBy ?k_NoBy_NoBy ?k_NoBy_NoName ?k_NoBy_NoNumber ?k_NoBy_NoRow ?k_NoBy_NoText ?k_NoBy_RuleError ?k_NoBy_TooBig ?k_NoBy_TooFar ?k_NoBy_TooLong ?k_NoBy_ValueError
    (case F0 => (refine' L2.fnIn_mk ?a ?l ?c ?k; (case a => k_is); (case l => k_is); (case c => k_is); (case k => k_is)))
    (case F1 => (refine' L2.fnIn_mk ?a ?l ?c ?k; (case a => k_is); (case l => k_is); (case c => k_is); (case k => k_is)))
    (case F2 => (refine' L2.fnIn_mk ?a ?l ?c ?k; (case a => k_is); (case l => k_is); (case c => k_is); (case k => k_is)))
    (case F3 => (refine' L2.fnIn_mk ?a ?l ?c ?k; (case a => k_is); (case l => k_is); (case c => k_is); (case k => k_is)))
    (case F4 => (refine' L2.fnIn_mk ?a ?l ?c ?k; (case a => k_is); (case l => k_is); (case c => k_is); (case k => k_is)))
    (case F5 => (refine' L2.fnIn_mk ?a ?l ?c ?k; (case a => k_is); (case l => k_is); (case c => k_is); (case k => k_is)))
    (case F6 => (refine' L2.fnIn_mk ?a ?l ?c ?k; (case a => k_is); (case l => k_is); (case c => k_is); (case k => k_is)))
    (case F7 => (refine' L2.fnIn_mk ?a ?l ?c ?k; (case a => k_is); (case l => k_is); (case c => k_is); (case k => k_is)))
    (case F8 => (refine' L2.fnIn_mk ?a ?l ?c ?k; (case a => k_is); (case l => k_is); (case c => k_is); (case k => k_is)))
    (case F9 => (refine' L2.fnIn_mk ?a ?l ?c ?k; (case a => k_is); (case l => k_is); (case c => k_is); (case k => k_is)))
    (case F10 => (refine' L2.fnIn_mk ?a ?l ?c ?k; (case a => k_is); (case l => k_is); (case c => k_is); (case k => k_is)))
    (case F11 => (refine' L2.fnIn_mk ?a ?l ?c ?k; (case a => k_is); (case l => k_is); (case c => k_is); (case k => k_is)))
    (case F12 => (refine' L2.fnIn_mk ?a ?l ?c ?k; (case a => k_is); (case l => k_is); (case c => k_is); (case k => k_is)))
    (case F13 => (refine' L2.fnIn_mk ?a ?l ?c ?k; (case a => k_is); (case l => k_is); (case c => k_is); (case k => k_is)))
    (case F14 => (refine' L2.fnIn_mk ?a ?l ?c ?k; (case a => k_is); (case l => k_is); (case c => k_is); (case k => k_is)))
    (case F15 => (refine' L2.fnIn_mk ?a ?l ?c ?k; (case a => k_is); (case l => k_is); (case c => k_is); (case k => k_is)))
    (case F16 => (refine' L2.fnIn_mk ?a ?l ?c ?k; (case a => k_is); (case l => k_is); (case c => k_is); (case k => k_is)))
    (case F17 => (refine' L2.fnIn_mk ?a ?l ?c ?k; (case a => k_is); (case l => k_is); (case c => k_is); (case k => k_is)))
    (case F18 => (refine' L2.fnIn_mk ?a ?l ?c ?k; (case a => k_is); (case l => k_is); (case c => k_is); (case k => k_is)))
    (case F19 => (refine' L2.fnIn_mk ?a ?l ?c ?k; (case a => k_is); (case l => k_is); (case c => k_is); (case k => k_is)))
    (case F20 => (refine' L2.fnIn_mk ?a ?l ?c ?k; (case a => k_is); (case l => k_is); (case c => k_is); (case k => k_is)))
    (case FL => (refine' L2.fnIn_mk ?a ?l ?c ?k; (case a => k_is); (case l => k_is); (case c => k_is); (case k => k_is)))
    (case z_ValueError => k_is)
    (case z_bool => k_is)
    (case z_enumerate => k_is)
    (case z_isinstance => k_is)
    (case z_len => k_is)
    (case z_list => k_is)
    (case z_max => k_is)
    (case z_min => k_is)
    (case z_range => k_is)
    (case z_sum => k_is)
    (case z_tuple => k_is)
    (case z_zip => k_is)
    (case g_BELOW_THE_PRIMES => exact ⟨_, by k_is⟩)
    (case n_NoBy => k_is)
    (case n_NoName => k_is)
    (case n_NoNumber => k_is)
    (case n_NoRow => k_is)
    (case n_NoText => k_is)
    (case n_RuleError => k_is)
    (case n_TooBig => k_is)
    (case n_TooFar => k_is)
    (case n_TooLong => k_is)
    (case q_NoBy => k_exc)
    (case u_NoBy_RuleError => kernel_rfl)
    (case v_NoBy_RuleError => kernel_rfl)
    (case w1_NoBy => k_is)
    (case w2_NoBy => k_is)
    (case w3_NoBy => k_is)
    (case w4_NoBy => k_is)
    (case w5_NoBy => k_is)
    (case w6_NoBy => kernel_rfl)
    (case k_NoBy_NoBy => kit_is)
    (case k_NoBy_NoName => kit_is)
    (case k_NoBy_NoNumber => kit_is)
    (case k_NoBy_NoRow => kit_is)
    (case k_NoBy_NoText => kit_is)
    (case k_NoBy_RuleError => kit_is)
    (case k_NoBy_TooBig => kit_is)
    (case k_NoBy_TooFar => kit_is)
    (case k_NoBy_TooLong => kit_is)
    (case k_NoBy_ValueError => kit_is)
