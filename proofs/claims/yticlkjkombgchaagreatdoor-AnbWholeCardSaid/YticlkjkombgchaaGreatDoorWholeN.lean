/- Whole at short numbers' texts; the statement AnbWhole: walks. -/
import Derived.Test.YticlkjkombgchaaGreatDoorDigits
import Derived.Test.YticlkjkombgchaaGreatDoorAnb5
namespace Go.Proofs.YticlkjkombgchaaGreatDoor
open Go.RowKit

set_option maxRecDepth 100000 in
theorem atoi_any (s : ByteArray) (w : World) (h : numB s = true) (h1 : 0 < s.size) (hs : s.size ≤ 18) : Calls Tryz.prog 42 #[.string s] w (Told (.tuple #[.int .i64 (valS s), .nilIface]) w) := by
  have h := fun w => atoiIn_any s w h h1 hs
  go_enter Tryz.func42, Tryz.ntmps42
  go_wp2_with fail
  refine (h _).mono ?_
  rintro e w1 ⟨rfl, hb1⟩
  go_wp2
  go_ret2
  exact ⟨rfl, hb1⟩

/-- What Whole tells of a number's text. -/
def WholePost (v : Int) (w : World) (r : Ending) (w' : World) : Prop :=
  Below w.heap.size w w' ∧ ((-2147483647 ≤ v ∧ v ≤ 2147483647 ∧ r = .returned (.tuple #[.int .i64 v, .nilIface])) ∨
    (¬ (-2147483647 ≤ v ∧ v ≤ 2147483647) ∧ ∃ e, w.heap.size ≤ e ∧ r = .returned (.tuple #[.int .i64 0, fltV e]) ∧ Blk w' e [.int .i64 3, .int .i64 0, .nilIface] 73))

set_option maxRecDepth 100000 in
set_option maxHeartbeats 1000000 in
theorem whole_any (s : ByteArray) (w : World) (hER : HasER w) (h : numB s = true) (h1 : 0 < s.size) (hs : s.size ≤ 18) (v : Int) (hv : valS s = v) (hvb : -1000000000000000000 ≤ v ∧ v ≤ 1000000000000000000) :
    Calls Tryz.prog 22 #[.string s] w (WholePost v w) := by
  have ha := fun w => atoi_any s w h h1 hs
  rw [hv] at ha
  have hn := isNumber_any s w (by omega)
  rw [h] at hn
  have hlt : 0 < w.heap.size := by obtain ⟨t, p, hc⟩ := hER; exact World.block_lt_of_cell? w _ hc
  have HE := Lib.hid hER; clear hER h hv
  obtain ⟨hv1, hv2⟩ := hvb
  rcases (show (v ≤ 2147483647 ∧ -2147483647 ≤ v) ∨ (2147483647 < v) ∨ (v ≤ 2147483647 ∧ v < -2147483647) from by omega) with ⟨b1, b2⟩ | b1 | ⟨b1, b2⟩
  all_goals
    go_enter Tryz.func22, Tryz.ntmps22
    go_wp2_with fail
    refine hn.mono ?_
    rintro e w1 ⟨rfl, hb1⟩
    go_wp2_with fail
    refine (ha _).mono ?_
    rintro e w2 ⟨rfl, hb2⟩
    have hb := hb1.trans (hb2.mono hb1.size)
    obtain ⟨t, p, hc⟩ := HE.out.below hb hlt
    have hi := fun w => is_nil_any t (.pointer (some p)) w
    go_wp2_with (go_at_call 38; refine (hi _).mono ?_; rintro e wq ⟨rfl, hwq⟩; replace hwq := hwq.symm; subst hwq)
  · go_ret2
    exact ⟨hb, .inl ⟨b2, b1, rfl⟩⟩
  · refine (fail_any 3 0 _).mono ?_
    rintro e w3 ⟨rfl, rfl⟩
    go_wp2
    go_ret2
    exact ⟨hb.alloc hb.size _, .inr ⟨by omega, _, hb.size, rfl, Blk.alloc _ _⟩⟩
  · refine (fail_any 3 0 _).mono ?_
    rintro e w3 ⟨rfl, rfl⟩
    go_wp2
    go_ret2
    exact ⟨hb.alloc hb.size _, .inr ⟨by omega, _, hb.size, rfl, Blk.alloc _ _⟩⟩

theorem and3 (x : Int) (h : 0 ≤ x ∧ x ≤ 255) : bits .and .u8 x 3 = 0 ∨ bits .and .u8 x 3 = 1 ∨ bits .and .u8 x 3 = 2 ∨ bits .and .u8 x 3 = 3 := by
  have key : ∀ k : Fin 256, bits .and .u8 ((k.val : Nat) : Int) 3 = 0 ∨ bits .and .u8 ((k.val : Nat) : Int) 3 = 1 ∨ bits .and .u8 ((k.val : Nat) : Int) 3 = 2 ∨ bits .and .u8 ((k.val : Nat) : Int) 3 = 3 := by decide +kernel
  have := key ⟨x.toNat, by omega⟩
  rwa [show ((x.toNat : Nat) : Int) = x by omega] at this

theorem has_nil (t : Int) (w : World) : Calls Tryz.prog 29 #[.nilIface, .int .i64 t] w (Tells (.bool false) w) := by
  go_enter Tryz.func29, Tryz.ntmps29
  go_wp2
  go_ret
  exact ⟨rfl, rfl⟩
theorem has_over (e : Nat) (w : World) (h : Blk w e [.int .i64 3, .int .i64 0, .nilIface] 73) : Calls Tryz.prog 29 #[.iface 69 (.pointer (some ⟨e, 0, none⟩)), .int .i64 3] w (Told (.bool true) w) :=
  has_of e 3 true w (is1_yes e 3 0 _ w h)

set_option maxRecDepth 100000 in
set_option maxHeartbeats 4000000 in
theorem lawWhole_any (n sg : Int) (w : World) (hE : HasER w) (hn : 0 ≤ n ∧ n ≤ 4294967295) (hsg : 0 ≤ sg ∧ sg ≤ 255) :
    Calls Tryz.prog 9 #[.int .u32 n, .int .u8 sg] w (Told (.bool true) w) := by
  have hlt : 0 < w.heap.size := by obtain ⟨t, p, hc⟩ := hE; exact World.block_lt_of_cell? w _ hc
  have hS := speaks4_any w hE
  obtain ⟨n0, nh⟩ := hn
  obtain ⟨n, rfl⟩ := Int.eq_ofNat_of_zero_le n0
  have hD := fun w => digits_any n w (by omega)
  obtain ⟨r, hr3, hrs⟩ : ∃ r : Nat, r ≤ 3 ∧ bits .and .u8 sg 3 = (r : Int) := by
    rcases and3 sg hsg with e | e | e | e
    · exact ⟨0, by omega, e⟩
    · exact ⟨1, by omega, e⟩
    · exact ⟨2, by omega, e⟩
    · exact ⟨3, by omega, e⟩
  have HE := Lib.hid hE; clear hE
  have hz : ∀ r : Nat, r ≤ 3 → ∃ zs : List UInt8, strB (({ data := #[45, 48, 48, 48] } : ByteArray).extract 0 (1 + r)) = 45 :: zs ∧ (∀ b ∈ zs, b = 48) ∧ (({ data := #[45, 48, 48, 48] } : ByteArray).extract 0 (1 + r)).size ≤ 4 := by
    intro r hr
    rcases (show r = 0 ∨ r = 1 ∨ r = 2 ∨ r = 3 by omega) with rfl | rfl | rfl | rfl
    · exact ⟨[], by decide +kernel, by simp, by decide +kernel⟩
    · exact ⟨[48], by decide +kernel, by simp, by decide +kernel⟩
    · exact ⟨[48, 48], by decide +kernel, by simp, by decide +kernel⟩
    · exact ⟨[48, 48, 48], by decide +kernel, by simp, by decide +kernel⟩
  have HZ := Lib.hid hz; clear hz
  go_enter Tryz.func9, Tryz.ntmps9
  go_wp2_with fail
  refine hS.mono ?_
  rintro e w1 ⟨rfl, hb1⟩
  go_wp2_with fail
  refine (hD _).mono ?_
  rintro e w2 ⟨⟨s, rfl, hds⟩, hb2⟩
  have hb12 := hb1.trans (hb2.mono hb1.size)
  obtain ⟨hs1, hs2, hs3⟩ := hds.num
  have hsz0 := hds.1
  have hsz1 := hds.2.1
  obtain ⟨hp1, hp2⟩ := hds.signed (z := ⟨#[43]⟩) 43 (.inl rfl) [] rfl (by simp)
  rw [if_neg (by decide)] at hp2
  have hpz : ((⟨#[43]⟩ : ByteArray) ++ s).size = s.size + 1 := by rw [ByteArray.size_append]; show 1 + s.size = _; omega
  have W1 := whole_any s w2 (HE.out.below hb12 hlt) hs1 hsz0 (by omega) n hs3 (by omega)
  have ha1 : ¬ 9223372036854775807 < 1 + s.size := by omega
  clear hS hD
  by_cases hbig : 2147483647 < n
  · go_wp2_with fail
    refine W1.mono ?_
    rintro q w3 ⟨hb3, ⟨_, hx, _⟩ | ⟨_, e1, he1, rfl, B1⟩⟩
    · omega
    have hb13 := hb12.trans (hb3.mono hb12.size)
    unfold fltV
    have W2 := whole_any (⟨#[43]⟩ ++ s) w3 (HE.out.below hb13 hlt) hp1 (by omega) (by omega) n hp2 (by omega)
    go_wp2_with fail
    refine W2.mono ?_
    rintro q w4 ⟨hb4, ⟨_, hx, _⟩ | ⟨_, e2, he2, rfl, B2⟩⟩
    · omega
    have hb14 := hb13.trans (hb4.mono hb13.size)
    have B14 := B1.later hb4 B1.lt
    unfold fltV
    go_wp2_with fail
    obtain ⟨zs, hz1, hz2, hz3⟩ := HZ.out r hr3
    generalize ({ data := #[45, 48, 48, 48] } : ByteArray).extract 0 (1 + r) = z at *
    obtain ⟨hm1, hm2⟩ := hds.signed 45 (.inr rfl) zs hz1 hz2
    rw [if_pos rfl] at hm2
    have hzs : (z ++ s).size = z.size + s.size := ByteArray.size_append
    have W3 := whole_any (z ++ s) w4 (HE.out.below hb14 hlt) hm1 (by omega) (by omega) (-n) hm2 (by omega)
    refine W3.mono ?_
    rintro q w5 ⟨hb5, ⟨hx, _, _⟩ | ⟨_, e3, he3, rfl, B3⟩⟩
    · omega
    have hb15 := hb14.trans (hb5.mono hb14.size)
    have B15 := B14.later hb5 B14.lt
    have B25 := B2.later hb5 B2.lt
    have k1 := fun (w' : World) (hb : Below w5.heap.size w5 w') => has_over e1 w' (B15.later hb B15.lt)
    have k2 := fun (w' : World) (hb : Below w5.heap.size w5 w') => has_over e2 w' (B25.later hb B25.lt)
    have k3 := fun (w' : World) (hb : Below w5.heap.size w5 w') => has_over e3 w' (B3.later hb B3.lt)
    have hbx := Below.refl w5.heap.size w5
    have hz5 := hb15.size
    clear W1 W2 W3 hm1 hm2 hzs hz1 hz2 hz3 hp1 hp2 hpz hs1 hs2 hs3 hds HZ HE B14 B1 B2 hb3 hb4 hb5 hb13 hb14 hb12 hb1 hb2
    unfold fltV
    have hbig' : (2147483647 : Int) < (n : Int) := by omega
    go_wp2_with ((first | (go_at_call 29; with_reducible refine (k1 _ hbx).mono ?_) | (go_at_call 29; with_reducible refine (k2 _ hbx).mono ?_) | (go_at_call 29; with_reducible refine (k3 _ hbx).mono ?_)); rintro q wq ⟨rfl, hbq⟩; replace hbx := hbx.trans (hbq.mono hbx.size); clear hbq)
    go_ret
    exact ⟨rfl, hb15.trans (hbx.mono hz5)⟩
  · go_wp2_with fail
    refine W1.mono ?_
    rintro q w3 ⟨hb3, ⟨_, _, rfl⟩ | ⟨hx, _⟩⟩
    rotate_left
    · omega
    have hb13 := hb12.trans (hb3.mono hb12.size)
    have W2 := whole_any (⟨#[43]⟩ ++ s) w3 (HE.out.below hb13 hlt) hp1 (by omega) (by omega) n hp2 (by omega)
    go_wp2_with fail
    refine W2.mono ?_
    rintro q w4 ⟨hb4, ⟨_, _, rfl⟩ | ⟨hx, _⟩⟩
    rotate_left
    · omega
    have hb14 := hb13.trans (hb4.mono hb13.size)
    go_wp2_with fail
    obtain ⟨zs, hz1, hz2, hz3⟩ := HZ.out r hr3
    generalize ({ data := #[45, 48, 48, 48] } : ByteArray).extract 0 (1 + r) = z at *
    obtain ⟨hm1, hm2⟩ := hds.signed 45 (.inr rfl) zs hz1 hz2
    rw [if_pos rfl] at hm2
    have hzs : (z ++ s).size = z.size + s.size := ByteArray.size_append
    have W3 := whole_any (z ++ s) w4 (HE.out.below hb14 hlt) hm1 (by omega) (by omega) (-n) hm2 (by omega)
    refine W3.mono ?_
    rintro q w5 ⟨hb5, ⟨_, _, rfl⟩ | ⟨hx, _⟩⟩
    rotate_left
    · omega
    have hb15 := hb14.trans (hb5.mono hb14.size)
    have hbig' : ¬ (2147483647 : Int) < (n : Int) := by omega
    clear W1 W2 W3 hm1 hm2 hzs hz1 hz2 hz3 hp1 hp2 hpz hs1 hs2 hs3 hds HZ HE
    go_wp2
    go_ret
    exact ⟨rfl, hb15⟩
end Go.Proofs.YticlkjkombgchaaGreatDoor
