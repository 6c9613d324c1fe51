import PyProof.Rows.All
import Wide.All
import OpenK.AllK
import Wide.FinOn
import HandS.ForMost
import HandS.Wide
import HandS.IsInst
import HandS.CallLocal
import HandS.Defaults
import HandS.Walk
import HandS.Zip
import HandS.Flow
import HandS.Conv
import HandS.Style
import HandS.HeadHook2
import PySem.Challenge.RW_halfring_k04_whole_numbers_on_a_ring
set_option Elab.async false
set_option linter.all false
set_option maxRecDepth 100000
set_option maxHeartbeats 4000000
namespace DV
open PySem L2

/-! data that a value stands for, over the tracked heap -/
mutual
inductive Da (K : PySem.W.Frag) (H : Hp) : V → PyData → Prop
  | non : Da K H .non .none
  | bl (b : Bool) : Da K H (.bl b) (.bool b)
  | int (i : Int) : Da K H (.int i) (.int i)
  | str (x : Str) : Da K H (.str x) (.str x)
  | lst {a : Addr} {xs : List V} {ds : List PyData} : H a = some (.lst xs) → DaAll K H xs ds → Da K H (.ref a) (.list ds)
  | tup {a : Addr} {xs : List V} {ds : List PyData} : SqT K H a xs → DaAll K H xs ds → Da K H (.ref a) (.tuple ds)
inductive DaAll (K : PySem.W.Frag) (H : Hp) : List V → List PyData → Prop
  | nil : DaAll K H [] []
  | cons {v : V} {vs : List V} {d : PyData} {ds : List PyData} : Da K H v d → DaAll K H vs ds → DaAll K H (v :: vs) (d :: ds)
end

theorem sqT_mono {K : PySem.W.Frag} {H H' : Hp} {a : Addr} {xs : List V} (e : Same H H') (h : SqT K H a xs) : SqT K H' a xs := by
  rcases h with (h | ⟨o, h⟩) | h
  · exact .inl (.inl (e _ _ h))
  · exact .inl (.inr ⟨o, e _ _ h⟩)
  · exact .inr h

mutual
theorem Da.mono {K : PySem.W.Frag} {H H' : Hp} (e : Same H H') : ∀ {v : V} {d : PyData}, Da K H v d → Da K H' v d
  | _, _, .non => .non
  | _, _, .bl b => .bl b
  | _, _, .int i => .int i
  | _, _, .str x => .str x
  | _, _, .lst h hs => .lst (e _ _ h) (DaAll.mono e hs)
  | _, _, .tup h hs => .tup (sqT_mono e h) (DaAll.mono e hs)
theorem DaAll.mono {K : PySem.W.Frag} {H H' : Hp} (e : Same H H') : ∀ {vs : List V} {ds : List PyData}, DaAll K H vs ds → DaAll K H' vs ds
  | _, _, .nil => .nil
  | _, _, .cons h hs => .cons (Da.mono e h) (DaAll.mono e hs)
end
theorem DaAll.length {K : PySem.W.Frag} {H : Hp} : ∀ {vs : List V} {ds : List PyData}, DaAll K H vs ds → vs.length = ds.length
  | _, _, .nil => rfl
  | _, _, .cons _ hs => congrArg Nat.succ (DaAll.length hs)
theorem DaAll.get {K : PySem.W.Frag} {H : Hp} : ∀ {vs : List V} {ds : List PyData} {i : Nat} {d : PyData}, DaAll K H vs ds → ds[i]? = some d → ∃ v, vs[i]? = some v ∧ Da K H v d
  | _, _, _, _, .nil, e => by simp at e
  | _, _, 0, _, .cons h _, e => by simp at e; subst e; exact ⟨_, rfl, h⟩
  | _, _, i + 1, _, .cons _ hs, e => by
    obtain ⟨v, h1, h2⟩ := DaAll.get (i := i) hs (by simpa using e)
    exact ⟨v, by simpa using h1, h2⟩
theorem DaAll.at {K : PySem.W.Frag} {H : Hp} : ∀ {vs : List V} {ds : List PyData} {i : Nat} {v : V}, DaAll K H vs ds → vs[i]? = some v → ∃ d, ds[i]? = some d ∧ Da K H v d
  | _, _, _, _, .nil, e => by simp at e
  | _, _, 0, _, .cons h _, e => by simp at e; subst e; exact ⟨_, rfl, h⟩
  | _, _, i + 1, _, .cons _ hs, e => by
    obtain ⟨v, h1, h2⟩ := DaAll.at (i := i) hs (by simpa using e)
    exact ⟨v, by simpa using h1, h2⟩
theorem DaAll.append {K : PySem.W.Frag} {H : Hp} : ∀ {vs ws : List V} {ds es : List PyData}, DaAll K H vs ds → DaAll K H ws es → DaAll K H (vs ++ ws) (ds ++ es)
  | _, _, _, _, .nil, s => s
  | _, _, _, _, .cons h hs, s => .cons h (DaAll.append hs s)
theorem DaAll.take {K : PySem.W.Frag} {H : Hp} : ∀ {vs : List V} {ds : List PyData} (n : Nat), DaAll K H vs ds → DaAll K H (vs.take n) (ds.take n)
  | _, _, 0, _ => .nil
  | _, _, _ + 1, .nil => .nil
  | _, _, n + 1, .cons h hs => .cons h (DaAll.take n hs)
theorem DaAll.drop {K : PySem.W.Frag} {H : Hp} : ∀ {vs : List V} {ds : List PyData} (n : Nat), DaAll K H vs ds → DaAll K H (vs.drop n) (ds.drop n)
  | _, _, 0, s => s
  | _, _, _ + 1, .nil => .nil
  | _, _, n + 1, .cons _ hs => DaAll.drop n hs
theorem DaAll.ints {K : PySem.W.Frag} {H : Hp} : ∀ {vs : List V} {ns : List Int}, DaAll K H vs (ns.map PyData.int) → vs = ns.map V.int
  | _, [], .nil => rfl
  | _, n :: ns, .cons (.int _) hs => by rw [DaAll.ints hs]; rfl
theorem DaAll.bools {K : PySem.W.Frag} {H : Hp} : ∀ {vs : List V} {ns : List Bool}, DaAll K H vs (ns.map PyData.bool) → vs = ns.map V.bl
  | _, [], .nil => rfl
  | _, n :: ns, .cons (.bl _) hs => by rw [DaAll.bools hs]; rfl
mutual
theorem Da.dp {K : PySem.W.Frag} {H : Hp} : ∀ {v : V} {d : PyData}, Da K H v d → Dp K H v d
  | _, _, .non => .non
  | _, _, .bl b => .bl b
  | _, _, .int i => .int i
  | _, _, .str x => .str x
  | _, _, .lst h hs => .lst (.inl (.inl h)) (DaAll.dp hs)
  | _, _, .tup h hs => .tup h (DaAll.dp hs)
theorem DaAll.dp {K : PySem.W.Frag} {H : Hp} : ∀ {vs : List V} {ds : List PyData}, DaAll K H vs ds → DpAll K H vs ds
  | _, _, .nil => .nil
  | _, _, .cons h hs => .cons (Da.dp h) (DaAll.dp hs)
end

/-! the frame: b, what is data and stands for ever, h, all that is tracked; the things at B may have changed -/
structure Fr (B : List Addr) (b h b' h' : Hp) : Prop where
  base : Same b b'
  sub : Same b' h'
  out : ∀ a, b a = none → (h a).isSome = true → b' a = none
  keep : ∀ a o, b a = none → a ∉ B → h a = some o → h' a = some o
  live : ∀ a, (h a).isSome = true → (h' a).isSome = true
theorem Fr.rfl' {B : List Addr} {b h : Hp} (e : Same b h) : Fr B b h b h := ⟨Same.refl b, e, fun _ h _ => h, fun _ _ _ _ h => h, fun _ h => h⟩
theorem Fr.trans {B : List Addr} {b h b1 h1 b2 h2 : Hp} (x : Fr B b h b1 h1) (y : Fr B b1 h1 b2 h2) : Fr B b h b2 h2 :=
  ⟨x.base.trans y.base, y.sub, fun a n s => y.out a (x.out a n s) (x.live a s), fun a o n hB e => y.keep a o (x.out a n (by rw [e]; rfl)) hB (x.keep a o n hB e), fun a s => y.live a (x.live a s)⟩
theorem Fr.more {B C : List Addr} {b h b1 h1 : Hp} (x : Fr B b h b1 h1) (s : ∀ a, a ∈ B → a ∈ C) : Fr C b h b1 h1 :=
  ⟨x.base, x.sub, x.out, fun a o n hC e => x.keep a o n (fun z => hC (s a z)) e, x.live⟩
theorem Fr.any {B : List Addr} {b h b1 h1 : Hp} (x : Fr [] b h b1 h1) : Fr B b h b1 h1 := x.more fun _ z => by cases z
/-- what was changed behind the beginning, though new there -/
theorem Fr.new {B C : List Addr} {b h b1 h1 b2 h2 : Hp} (x : Fr B b h b1 h1) (y : Fr C b1 h1 b2 h2) (s : ∀ a ∈ C, a ∈ B ∨ h a = none) : Fr B b h b2 h2 :=
  ⟨x.base.trans y.base, y.sub, fun a n z => y.out a (x.out a n z) (x.live a z), fun a o n hB e => y.keep a o (x.out a n (by rw [e]; rfl)) (fun z => by
    rcases s a z with q | q
    · exact hB q
    · rw [q] at e; cases e) (x.keep a o n hB e), fun a z => y.live a (x.live a z)⟩
/-- a new object that is data -/
theorem Fr.laid {B : List Addr} {b h : Hp} {p : Addr} {o : HO} (e : Same b h) (hp : h p = none) : Fr B b h (upd b p o) (upd h p o) := by
  have hb : b p = none := e.free hp
  refine ⟨fun a u z => ?_, fun a u z => ?_, fun a n s => ?_, fun a u n _ z => ?_, fun a s => ?_⟩
  · rw [upd_ne (ne_of_none z hb)]; exact z
  · by_cases q : a = p
    · subst q; rw [upd_same] at z ⊢; exact z
    · rw [upd_ne q] at z ⊢; exact e a u z
  · have q : a ≠ p := by
      intro z; subst z; rw [hp] at s; cases s
    rw [upd_ne q]; exact n
  · rw [upd_ne (ne_of_none z hp)]; exact z
  · by_cases q : a = p
    · subst q; rw [upd_same]; rfl
    · rw [upd_ne q]; exact s
/-- a new object that is none yet -/
theorem Fr.fresh {B : List Addr} {b h : Hp} {p : Addr} {o : HO} (e : Same b h) (hp : h p = none) : Fr B b h b (upd h p o) := by
  have hb : b p = none := e.free hp
  refine ⟨Same.refl b, fun a u z => ?_, fun a n s => n, fun a u n _ z => ?_, fun a s => ?_⟩
  · rw [upd_ne (ne_of_none z hb)]; exact e a u z
  · rw [upd_ne (ne_of_none z hp)]; exact z
  · by_cases q : a = p
    · subst q; rw [upd_same]; rfl
    · rw [upd_ne q]; exact s
/-- a change of what is none -/
theorem Fr.mut {b h : Hp} {p : Addr} {o : HO} (e : Same b h) (hb : b p = none) : Fr [p] b h b (upd h p o) := by
  refine ⟨Same.refl b, fun a u z => ?_, fun a n s => n, fun a u n m z => ?_, fun a s => ?_⟩
  · rw [upd_ne (ne_of_none z hb)]; exact e a u z
  · rw [upd_ne (fun q => m (by rw [q]; exact List.mem_cons_self ..))]; exact z
  · by_cases q : a = p
    · subst q; rw [upd_same]; rfl
    · rw [upd_ne q]; exact s
/-- what was changed becomes data -/
theorem Fr.seal {b h : Hp} {p : Addr} {o : HO} (e : Same b h) (hb : b p = none) (hp : h p = some o) : Same b (upd b p o) ∧ Same (upd b p o) h := by
  refine ⟨fun a u z => ?_, fun a u z => ?_⟩
  · rw [upd_ne (ne_of_none z hb)]; exact z
  · by_cases q : a = p
    · subst q; rw [upd_same] at z; rw [hp]; exact z
    · rw [upd_ne q] at z; exact e a u z

/-! what a slot holds -/
inductive SD where
  | un | dat (d : PyData) | adr (a : Addr)
def SRel (K : PySem.W.Frag) (b : Hp) : Option V → SD → Prop
  | _, .un => True
  | x, .dat d => ∃ v, x = some v ∧ Da K b v d
  | x, .adr a => x = some (.ref a)
inductive Slots (K : PySem.W.Frag) (b : Hp) : St → List SD → Prop
  | nil : Slots K b [] []
  | cons {x : Option V} {σ : St} {z : SD} {Δ : List SD} : SRel K b x z → Slots K b σ Δ → Slots K b (x :: σ) (z :: Δ)
theorem SRel.mono {K : PySem.W.Frag} {b b' : Hp} (e : Same b b') {x : Option V} {z : SD} (h : SRel K b x z) : SRel K b' x z := by
  cases z with
  | un => exact True.intro
  | dat d => obtain ⟨v, e1, e2⟩ := h; exact ⟨v, e1, e2.mono e⟩
  | adr a => exact h
theorem Slots.mono {K : PySem.W.Frag} {b b' : Hp} (e : Same b b') {σ : St} {Δ : List SD} (h : Slots K b σ Δ) : Slots K b' σ Δ := by
  induction h with
  | nil => exact .nil
  | cons h _ ih => exact .cons (h.mono e) ih
theorem Slots.get {K : PySem.W.Frag} {b : Hp} : ∀ {σ : St} {Δ : List SD} {i : Nat} {z : SD}, Slots K b σ Δ → Δ[i]? = some z → ∃ x, σ[i]? = some x ∧ SRel K b x z
  | _, _, _, _, .nil, e => by simp at e
  | _, _, 0, _, .cons h _, e => by simp at e; subst e; exact ⟨_, rfl, h⟩
  | _, _, i + 1, _, .cons _ t, e => by
    obtain ⟨x, h1, h2⟩ := Slots.get (i := i) t (by simpa using e)
    exact ⟨x, by simpa using h1, h2⟩
theorem Slots.set {K : PySem.W.Frag} {b : Hp} {x : Option V} {z : SD} (r : SRel K b x z) : ∀ {σ : St} {Δ : List SD} (i : Nat), Slots K b σ Δ → Slots K b (σ.set i x) (Δ.set i z)
  | _, _, _, .nil => .nil
  | _, _, 0, .cons _ t => .cons r t
  | _, _, i + 1, .cons h t => .cons h (Slots.set r i t)
theorem Slots.len {K : PySem.W.Frag} {b : Hp} {σ : St} {Δ : List SD} (h : Slots K b σ Δ) : σ.length = Δ.length := by
  induction h with
  | nil => rfl
  | cons _ _ ih => exact congrArg Nat.succ ih
def wipeD (Δ : List SD) : List Nat → List SD
  | [] => Δ
  | v :: vs => (wipeD Δ vs).set v .un
theorem Slots.wipe {K : PySem.W.Frag} {b : Hp} {σ : St} {Δ : List SD} (h : Slots K b σ Δ) : ∀ vs : List Nat, Slots K b (wipe σ vs) (wipeD Δ vs)
  | [] => h
  | v :: vs => Slots.set (z := .un) True.intro v (Slots.wipe h vs)
theorem Slots.uns {K : PySem.W.Frag} {b : Hp} : ∀ n : Nat, Slots K b (List.replicate n none) (List.replicate n .un)
  | 0 => .nil
  | n + 1 => .cons True.intro (Slots.uns n)
theorem Slots.app {K : PySem.W.Frag} {b : Hp} {σ τ : St} {Δ Γ : List SD} (h : Slots K b σ Δ) (k : Slots K b τ Γ) : Slots K b (σ ++ τ) (Δ ++ Γ) := by
  induction h with
  | nil => exact k
  | cons h _ ih => exact .cons h ih
theorem Slots.dats {K : PySem.W.Frag} {b : Hp} : ∀ {vs : List V} {ds : List PyData}, DaAll K b vs ds → Slots K b (vs.map some) (ds.map .dat)
  | _, _, .nil => .nil
  | _, _, .cons h t => .cons ⟨_, rfl, h⟩ (Slots.dats t)
theorem Slots.start {K : PySem.W.Frag} {b : Hp} {vs : List V} {ds : List PyData} (h : DaAll K b vs ds) (N : List Str) : Slots K b (start N vs) (ds.map .dat ++ List.replicate (N.length - ds.length) .un) := by
  unfold L2.start
  rw [← h.length]
  exact (Slots.dats h).app (Slots.uns _)

/-! what evaluates to which data, changing nothing -/
section
variable (K : PySem.W.Frag)
def EvD (te : TE) (σ : St) (b : Hp) (d : PyData) : Prop := ∀ b1 h1, Same b b1 → Same b1 h1 → ∀ Q : VK, (∀ v b2 h2, Fr [] b1 h1 b2 h2 → Da K b2 v d → Q v h2) → te σ h1 Q
def EvDs (ta : TA) (σ : St) (b : Hp) (ds : List PyData) : Prop := ∀ b1 h1, Same b b1 → Same b1 h1 → ∀ Q : List V → Hp → Prop, (∀ vs b2 h2, Fr [] b1 h1 b2 h2 → DaAll K b2 vs ds → Q vs h2) → ta σ h1 Q
def RvD (r : R2) (d1 d2 d : PyData) : Prop := ∀ b1 h1, Same b1 h1 → ∀ x y, Da K b1 x d1 → Da K b1 y d2 → ∀ Q : VK, (∀ v b2 h2, Fr [] b1 h1 b2 h2 → Da K b2 v d → Q v h2) → r x y h1 Q
def RcD (r : List V → Hp → VK → Prop) (ds : List PyData) (d : PyData) : Prop := ∀ b1 h1, Same b1 h1 → ∀ xs, DaAll K b1 xs ds → ∀ Q : VK, (∀ v b2 h2, Fr [] b1 h1 b2 h2 → Da K b2 v d → Q v h2) → r xs h1 Q
end
def EvB (tt : TT) (σ : St) (b : Hp) (c : Bool) : Prop := ∀ b1 h1, Same b b1 → Same b1 h1 → ∀ Q : Bool → Hp → Prop, (∀ b2 h2, Fr [] b1 h1 b2 h2 → Q c h2) → tt σ h1 Q
def EvO (to : TO) (σ : St) (b : Hp) (o : Option Int) : Prop := ∀ b1 h1, Same b b1 → Same b1 h1 → ∀ Q : Option Int → Hp → Prop, (∀ b2 h2, Fr [] b1 h1 b2 h2 → Q o h2) → to σ h1 Q

section
variable {K : PySem.W.Frag} {σ : St} {b b' : Hp} {te ta tb tc : TE} {d d1 d2 d3 : PyData} {Δ : List SD} {t u : TT} {r r' : R2} {i j : Int}
theorem EvD.mono (e : Same b b') (h : EvD K te σ b d) : EvD K te σ b' d := fun b1 h1 s z Q q => h b1 h1 (e.trans s) z Q q
theorem EvD.is (h : EvD K te σ b d) (e : d = d1) : EvD K te σ b d1 := e ▸ h
theorem EvB.is {c c' : Bool} (h : EvB t σ b c) (e : c = c') : EvB t σ b c' := e ▸ h
theorem EvD.go (h : EvD K te σ b d) {h1 : Hp} (s : Same b h1) {Q : VK} (q : ∀ v b2 h2, Fr [] b h1 b2 h2 → Da K b2 v d → Q v h2) : te σ h1 Q := h b h1 (Same.refl b) s Q q
theorem d_var {n : Nat} (S : Slots K b σ Δ) (e : Δ[n]? = some (.dat d)) : EvD K (tVar n) σ b d := fun b1 h1 s z Q q => by
  obtain ⟨x, e1, v, e2, e3⟩ := S.get e
  exact ⟨v, by rw [e1, e2], q v b1 h1 (Fr.rfl' z) (e3.mono s)⟩
theorem d_int (i : Int) : EvD K (tC (.int i)) σ b (.int i) := fun b1 h1 _ z Q q => q _ b1 h1 (Fr.rfl' z) (.int i)
theorem d_str (x : Str) : EvD K (tC (.str x)) σ b (.str x) := fun b1 h1 _ z Q q => q _ b1 h1 (Fr.rfl' z) (.str x)
theorem d_bl (x : Bool) : EvD K (tC (.bl x)) σ b (.bool x) := fun b1 h1 _ z Q q => q _ b1 h1 (Fr.rfl' z) (.bl x)
theorem d_non : EvD K (tC .non) σ b .none := fun b1 h1 _ z Q q => q _ b1 h1 (Fr.rfl' z) .non
theorem d_glob {v : V} (h : ∀ H, Da K H v d) : EvD K (tC v) σ b d := fun b1 h1 _ z Q q => q _ b1 h1 (Fr.rfl' z) (h b1)
theorem d_op (ha : EvD K ta σ b d1) (hb : EvD K tb σ b d2) (hr : RvD K r d1 d2 d) : EvD K (tOp r ta tb) σ b d := fun b1 h1 s z Q q =>
  ha b1 h1 s z _ fun x b2 h2 F1 D1 => hb b2 h2 (s.trans F1.base) F1.sub _ fun y b3 h3 F2 D2 => hr b3 h3 F2.sub x y (D1.mono F2.base) D2 Q fun v b4 h4 F3 D3 => q v b4 h4 ((F1.trans F2).trans F3) D3
theorem d_opc {c : Bool} (ha : EvD K ta σ b d1) (hb : EvD K tb σ b d2) (hr : RvD K r d1 d2 (.bool c)) : EvB (tTest (tOp r ta tb)) σ b c := fun b1 h1 s z Q q =>
  d_op ha hb hr b1 h1 s z _ fun v b2 h2 F D => by
    cases D
    exact ⟨c, rfl, q b2 h2 F⟩
theorem rv_I0 {g : Int → Int → Int} : RvD K (rI0 fun i j => .int (g i j)) (.int i) (.int j) (.int (g i j)) := fun b1 h1 z x y X Y Q q => by
  cases X; cases Y
  exact ⟨i, j, rfl, rfl, q _ b1 h1 (Fr.rfl' z) (.int _)⟩
theorem rv_I {C : Int → Int → Prop} {g : Int → Int → Int} (hc : C i j) : RvD K (rI C fun i j => .int (g i j)) (.int i) (.int j) (.int (g i j)) := fun b1 h1 z x y X Y Q q => by
  cases X; cases Y
  exact ⟨i, j, rfl, rfl, hc, q _ b1 h1 (Fr.rfl' z) (.int _)⟩
theorem rv_B0 {g : Int → Int → Bool} : RvD K (rI0 fun i j => .bl (g i j)) (.int i) (.int j) (.bool (g i j)) := fun b1 h1 z x y X Y Q q => by
  cases X; cases Y
  exact ⟨i, j, rfl, rfl, q _ b1 h1 (Fr.rfl' z) (.bl _)⟩
theorem rv_eqI : RvD K rEq (.int i) (.int j) (.bool (decide (i = j))) := fun b1 h1 z x y X Y Q q => by
  cases X; cases Y
  refine ⟨rfl, ?_⟩
  have e : decide (V.int i = V.int j) = decide (i = j) := by
    by_cases h : i = j
    · rw [h, decide_eq_true rfl, decide_eq_true rfl]
    · rw [decide_eq_false h, decide_eq_false fun z => h (V.int.inj z)]
  rw [e]
  exact q _ b1 h1 (Fr.rfl' z) (.bl _)
theorem rv_neI : RvD K rNe (.int i) (.int j) (.bool (!decide (i = j))) := fun b1 h1 z x y X Y Q q => by
  cases X; cases Y
  refine ⟨rfl, ?_⟩
  have e : decide (V.int i = V.int j) = decide (i = j) := by
    by_cases h : i = j
    · rw [h, decide_eq_true rfl, decide_eq_true rfl]
    · rw [decide_eq_false h, decide_eq_false fun z => h (V.int.inj z)]
  rw [e]
  exact q _ b1 h1 (Fr.rfl' z) (.bl _)
theorem rv_eqB {x y : Bool} : RvD K rEq (.bool x) (.bool y) (.bool (x == y)) := fun b1 h1 z _ _ X Y Q q => by
  cases X; cases Y
  refine ⟨rfl, ?_⟩
  have e : decide (V.bl x = V.bl y) = (x == y) := by cases x <;> cases y <;> rfl
  rw [e]
  exact q _ b1 h1 (Fr.rfl' z) (.bl _)
theorem rv_neB {x y : Bool} : RvD K rNe (.bool x) (.bool y) (.bool (!(x == y))) := fun b1 h1 z _ _ X Y Q q => by
  cases X; cases Y
  refine ⟨rfl, ?_⟩
  have e : decide (V.bl x = V.bl y) = (x == y) := by cases x <;> cases y <;> rfl
  rw [e]
  exact q _ b1 h1 (Fr.rfl' z) (.bl _)
theorem rv_eqS {x y : Str} : RvD K rEq (.str x) (.str y) (.bool (decide (x = y))) := fun b1 h1 z _ _ X Y Q q => by
  cases X; cases Y
  refine ⟨rfl, ?_⟩
  have e : decide (V.str x = V.str y) = decide (x = y) := by
    by_cases h : x = y
    · rw [h, decide_eq_true rfl, decide_eq_true rfl]
    · rw [decide_eq_false h, decide_eq_false fun z => h (V.str.inj z)]
  rw [e]
  exact q _ b1 h1 (Fr.rfl' z) (.bl _)
theorem rv_eqN : RvD K rEq .none .none (.bool true) := fun b1 h1 z _ _ X Y Q q => by
  cases X; cases Y
  exact ⟨rfl, q _ b1 h1 (Fr.rfl' z) (.bl _)⟩
theorem rv_isN {c : Bool} (h : ∀ b v, Da K b v d → decide (v = .non) = c) : RvD K (fun x y H Q => y = .non ∧ Q (.bl (decide (x = .non))) H) d .none (.bool c) := fun b1 h1 z _ _ X Y Q q => by
  cases Y
  refine ⟨rfl, ?_⟩
  rw [h _ _ X]
  exact q _ b1 h1 (Fr.rfl' z) (.bl _)
theorem rv_isNot {c : Bool} (h : ∀ b v, Da K b v d → decide (v = .non) = c) : RvD K (fun x y H Q => y = .non ∧ Q (.bl (!decide (x = .non))) H) d .none (.bool (!c)) := fun b1 h1 z _ _ X Y Q q => by
  cases Y
  refine ⟨rfl, ?_⟩
  rw [h _ _ X]
  exact q _ b1 h1 (Fr.rfl' z) (.bl _)
/-- == of data, != of data -/
theorem rv_eqD (h1 : SeqAt.shaped d1 = true) (h2 : SeqAt.shaped d2 = true) : RvD K (rEqD K) d1 d2 (.bool (PyData.eqv d1 d2)) := fun b1 h0 z x y X Y Q q =>
  ⟨d1, d2, (X.mono z).dp, (Y.mono z).dp, h1, h2, q _ b1 h0 (Fr.rfl' z) (.bl _)⟩
theorem rv_neD (h1 : SeqAt.shaped d1 = true) (h2 : SeqAt.shaped d2 = true) : RvD K (rNeD K) d1 d2 (.bool (!PyData.eqv d1 d2)) := fun b1 h0 z x y X Y Q q =>
  ⟨d1, d2, (X.mono z).dp, (Y.mono z).dp, h1, h2, q _ b1 h0 (Fr.rfl' z) (.bl _)⟩
theorem rv_or1 (h : RvD K r d1 d2 d) : RvD K (fun x y H Q => r x y H Q ∨ r' x y H Q) d1 d2 d := fun b1 h1 z x y X Y Q q => .inl (h b1 h1 z x y X Y Q q)
theorem rv_or2 (h : RvD K r' d1 d2 d) : RvD K (fun x y H Q => r x y H Q ∨ r' x y H Q) d1 d2 d := fun b1 h1 z x y X Y Q q => .inr (h b1 h1 z x y X Y Q q)
theorem rv_ixT {ds : List PyData} (h : atI ds i = some d) : RvD K (rIx K) (.tuple ds) (.int i) d := fun b1 h1 z x y X Y Q q => by
  cases Y
  cases X with
  | tup s a =>
    obtain ⟨k, g1, g2⟩ := Option.bind_eq_some_iff.mp (show (ixN ds.length i).bind (fun j => ds[j]?) = some d from h)
    obtain ⟨v, w1, w2⟩ := a.get g2
    refine .inr (.inl ⟨_, _, i, v, rfl, rfl, sqT_mono z s, ?_, q v b1 h1 (Fr.rfl' z) w2⟩)
    unfold atI
    rw [a.length, g1]
    exact w1
theorem rv_ixL {ds : List PyData} (h : atI ds i = some d) : RvD K (rIx K) (.list ds) (.int i) d := fun b1 h1 z x y X Y Q q => by
  cases Y
  cases X with
  | lst s a =>
    obtain ⟨k, g1, g2⟩ := Option.bind_eq_some_iff.mp (show (ixN ds.length i).bind (fun j => ds[j]?) = some d from h)
    obtain ⟨v, w1, w2⟩ := a.get g2
    refine .inl ⟨_, _, i, v, rfl, rfl, .inl (.inl (z _ _ s)), ?_, q v b1 h1 (Fr.rfl' z) w2⟩
    unfold atI
    rw [a.length, g1]
    exact w1
theorem rv_catL {ds es : List PyData} (hz : ds.length + es.length ≤ 100000) : RvD K rCat (.list ds) (.list es) (.list (ds ++ es)) := fun b1 h1 z x y X Y Q q => by
  cases X with
  | lst s a =>
    cases Y with
    | lst s2 a2 =>
      refine ⟨_, _, _, _, rfl, rfl, z _ _ s, z _ _ s2, ?_, fun p hp => ?_⟩
      · rw [a.length, a2.length]; exact Nat.le_trans hz (by decide)
      · exact q _ (upd b1 p (.lst _)) _ (Fr.laid z hp) (.lst upd_same ((a.append a2).mono (Fr.laid (B := []) z hp).base))
theorem rv_catT {ds es : List PyData} (h1 : ds ≠ []) (h2 : es ≠ []) (hz : ds.length + es.length ≤ 100000) : RvD K (rCatT K) (.tuple ds) (.tuple es) (.tuple (ds ++ es)) := fun b1 h0 z x y X Y Q q => by
  cases X with
  | tup s a =>
    cases Y with
    | tup s2 a2 =>
      refine ⟨_, _, _, _, rfl, rfl, sqT_mono z s, sqT_mono z s2, ?_, ?_, fun e => ?_, fun _ p hp => ?_⟩
      · intro e; subst e; cases a; exact h1 rfl
      · rw [a.length, a2.length]; exact Nat.le_trans hz (by decide)
      · subst e; cases a2; exact absurd rfl h2
      · exact q _ (upd b1 p (.tup _)) _ (Fr.laid z hp) (.tup (.inl (.inl upd_same)) ((a.append a2).mono (Fr.laid (B := []) z hp).base))
theorem d_tup {tA : TA} {ds : List PyData} (h : EvDs K tA σ b ds) (hl : ds.length ≤ 100000) : EvD K (tTup tA) σ b (.tuple ds) := fun b1 h1 s z Q q =>
  h b1 h1 s z _ fun vs b2 h2 F D => ⟨Nat.le_trans (by rw [D.length]; exact hl) (by decide), fun p hp =>
    q _ (upd b2 p (.tup vs)) _ (F.trans (Fr.laid F.sub hp)) (.tup (.inl (.inl upd_same)) (D.mono (Fr.laid (B := []) (o := .tup vs) F.sub hp).base))⟩
theorem d_lst {tA : TA} {ds : List PyData} (h : EvDs K tA σ b ds) (hl : ds.length ≤ 100000) : EvD K (tLst tA) σ b (.list ds) := fun b1 h1 s z Q q =>
  h b1 h1 s z _ fun vs b2 h2 F D => ⟨Nat.le_trans (by rw [D.length]; exact hl) (by decide), fun p hp =>
    q _ (upd b2 p (.lst vs)) _ (F.trans (Fr.laid F.sub hp)) (.lst upd_same (D.mono (Fr.laid (B := []) (o := .lst vs) F.sub hp).base))⟩
theorem ds_nil : EvDs K tNil σ b [] := fun b1 h1 _ z Q q => q _ b1 h1 (Fr.rfl' z) .nil
theorem ds_cons {tr : TA} {ds : List PyData} (h : EvD K te σ b d) (hr : EvDs K tr σ b ds) : EvDs K (tCons te tr) σ b (d :: ds) := fun b1 h1 s z Q q =>
  h b1 h1 s z _ fun v b2 h2 F D => hr b2 h2 (s.trans F.base) F.sub _ fun vs b3 h3 F2 D2 => q _ b3 h3 (F.trans F2) (.cons (D.mono F2.base) D2)
theorem d_cb {r : List V → Hp → VK → Prop} {tA : TA} {ds : List PyData} (h : EvDs K tA σ b ds) (hr : RcD K r ds d) : EvD K (tCB r tA) σ b d := fun b1 h1 s z Q q =>
  h b1 h1 s z _ fun vs b2 h2 F D => hr b2 h2 F.sub vs D Q fun v b3 h3 F2 D2 => q v b3 h3 (F.trans F2) D2
theorem d_un {r : V → Hp → VK → Prop} (h : EvD K te σ b d1) (hr : ∀ b1 h1, Same b1 h1 → ∀ x, Da K b1 x d1 → ∀ Q : VK, (∀ v b2 h2, Fr [] b1 h1 b2 h2 → Da K b2 v d → Q v h2) → r x h1 Q) : EvD K (tUn r te) σ b d := fun b1 h1 s z Q q =>
  h b1 h1 s z _ fun x b2 h2 F D => hr b2 h2 F.sub x D Q fun v b3 h3 F2 D2 => q v b3 h3 (F.trans F2) D2
theorem d_neg (h : EvD K te σ b (.int i)) : EvD K (tUn (rU fun i => .int (-i)) te) σ b (.int (-i)) := d_un h fun b1 h1 z x X Q q => by
  cases X
  exact ⟨i, rfl, q _ b1 h1 (Fr.rfl' z) (.int _)⟩
/-! tests -/
theorem b_B {c : Bool} (h : EvD K te σ b (.bool c)) : EvB (tB te) σ b c := fun b1 h1 s z Q q => h b1 h1 s z _ fun v b2 h2 F D => by
  cases D
  exact ⟨c, rfl, q b2 h2 F⟩
theorem b_test {c : Bool} (h : EvD K te σ b (.bool c)) : EvB (tTest te) σ b c := fun b1 h1 s z Q q => h b1 h1 s z _ fun v b2 h2 F D => by
  cases D
  exact ⟨c, rfl, q b2 h2 F⟩
theorem b_and {x y : Bool} (h1 : EvB t σ b x) (h2 : x = true → EvB u σ b y) : EvB (tAnd t u) σ b (x && y) := fun b1 g1 s z Q q => h1 b1 g1 s z _ fun b2 g2 F => by
  cases x with
  | true => exact h2 rfl b2 g2 (s.trans F.base) F.sub Q fun b3 g3 F2 => q b3 g3 (F.trans F2)
  | false => exact q b2 g2 F
theorem b_or {x y : Bool} (h1 : EvB t σ b x) (h2 : x = false → EvB u σ b y) : EvB (tOr t u) σ b (x || y) := fun b1 g1 s z Q q => h1 b1 g1 s z _ fun b2 g2 F => by
  cases x with
  | true => exact q b2 g2 F
  | false => exact h2 rfl b2 g2 (s.trans F.base) F.sub Q fun b3 g3 F2 => q b3 g3 (F.trans F2)
theorem b_not {x : Bool} (h : EvB t σ b x) : EvB (tNot t) σ b (!x) := fun b1 g1 s z Q q => h b1 g1 s z _ fun b2 g2 F => q b2 g2 F
theorem d_andV {x y : Bool} (h1 : EvD K ta σ b (.bool x)) (h2 : x = true → EvD K tb σ b (.bool y)) : EvD K (tAndV ta tb) σ b (.bool (x && y)) := fun b1 g1 s z Q q => h1 b1 g1 s z _ fun v b2 g2 F D => by
  cases D
  refine ⟨x, rfl, ?_⟩
  cases x with
  | true => exact h2 rfl b2 g2 (s.trans F.base) F.sub Q fun v b3 g3 F2 D2 => q v b3 g3 (F.trans F2) D2
  | false => exact q _ b2 g2 F (.bl _)
theorem d_orV {x y : Bool} (h1 : EvD K ta σ b (.bool x)) (h2 : x = false → EvD K tb σ b (.bool y)) : EvD K (tOrV ta tb) σ b (.bool (x || y)) := fun b1 g1 s z Q q => h1 b1 g1 s z _ fun v b2 g2 F D => by
  cases D
  refine ⟨x, rfl, ?_⟩
  cases x with
  | true => exact q _ b2 g2 F (.bl _)
  | false => exact h2 rfl b2 g2 (s.trans F.base) F.sub Q fun v b3 g3 F2 D2 => q v b3 g3 (F.trans F2) D2
theorem d_notV {x : Bool} (h1 : EvD K ta σ b (.bool x)) : EvD K (tNotV ta) σ b (.bool (!x)) := fun b1 g1 s z Q q => h1 b1 g1 s z _ fun v b2 g2 F D => by
  cases D
  exact ⟨x, rfl, q _ b2 g2 F (.bl _)⟩
theorem d_if {c : Bool} (h : EvB t σ b c) (h1 : c = true → EvD K ta σ b d) (h2 : c = false → EvD K tb σ b d) : EvD K (tIf t ta tb) σ b d := fun b1 g1 s z Q q => h b1 g1 s z _ fun b2 g2 F => by
  cases c with
  | true => exact h1 rfl b2 g2 (s.trans F.base) F.sub Q fun v b3 g3 F2 D2 => q v b3 g3 (F.trans F2) D2
  | false => exact h2 rfl b2 g2 (s.trans F.base) F.sub Q fun v b3 g3 F2 D2 => q v b3 g3 (F.trans F2) D2
theorem d_chain {x y : Bool} (ha : EvD K ta σ b d1) (hb : EvD K tb σ b d2) (hc : EvD K tc σ b d3) (hr : RvD K r d1 d2 (.bool x)) (hr' : RvD K r' d2 d3 (.bool y)) : EvD K (tChain r r' ta tb tc) σ b (.bool (x && y)) := fun b1 h1 s z Q q =>
  ha b1 h1 s z _ fun v1 b2 h2 F1 D1 => hb b2 h2 (s.trans F1.base) F1.sub _ fun v2 b3 h3 F2 D2 => hr b3 h3 F2.sub v1 v2 (D1.mono F2.base) D2 _ fun w b4 h4 F3 D3 => by
    cases D3
    refine ⟨x, rfl, ?_⟩
    cases x with
    | true => exact hc b4 h4 (((s.trans F1.base).trans F2.base).trans F3.base) F3.sub _ fun v3 b5 h5 F4 D4 => hr' b5 h5 F4.sub v2 v3 (D2.mono (F3.base.trans F4.base)) D4 Q fun v b6 h6 F5 D5 => q v b6 h6 ((((F1.trans F2).trans F3).trans F4).trans F5) D5
    | false => exact q _ b4 h4 ((F1.trans F2).trans F3) (.bl _)
/-! pieces of slices -/
theorem o_none : EvO tNoPart σ b none := fun b1 h1 _ z Q q => q b1 h1 (Fr.rfl' z)
theorem o_some (h : EvD K te σ b (.int i)) : EvO (tPart te) σ b (some i) := fun b1 h1 s z Q q => h b1 h1 s z _ fun v b2 h2 F D => by
  cases D
  exact ⟨i, rfl, q b2 h2 F⟩
/-! calls of defs that change nothing -/
def spD (K : PySem.W.Frag) (R : List PyData → PyData → Prop) : Sp := fun vs H Q _ => ∃ b ds d, Same b H ∧ DaAll K b vs ds ∧ R ds d ∧ ∀ v b2 h2, Fr [] b H b2 h2 → Da K b2 v d → Q v h2
theorem d_call {R : List PyData → PyData → Prop} {E : XK} {tA : TA} {ds : List PyData} (h : EvDs K tA σ b ds) (hr : R ds d) : EvD K (tCall (spD K R) [] E tA) σ b d := fun b1 h1 s z Q q =>
  h b1 h1 s z _ fun vs b2 h2 F D => by
    show spD K R (vs ++ []) h2 Q E
    rw [List.append_nil]
    exact ⟨b2, ds, d, F.sub, D, hr, fun v b3 h3 F2 D2 => q v b3 h3 (F.trans F2) D2⟩
end
end DV

namespace DV
open PySem L2
section
variable {K : PySem.W.Frag} {σ : St} {b b' : Hp} {te ta tb tc : TE} {d d1 d2 d3 : PyData} {Δ : List SD} {t u : TT} {r r' : R2} {i j : Int}
theorem b_yes : EvB tYes σ b true := fun b1 h1 _ z Q q => q b1 h1 (Fr.rfl' z)
/-! built-ins -/
theorem rc_lenL {ds : List PyData} : RcD K (fun xs H Q => ∃ x n, xs = [x] ∧ LenV K x H n ∧ Q (.int n) H) [.list ds] (.int ds.length) := fun b1 h1 z xs X Q q => by
  cases X with
  | cons x r =>
    cases r
    cases x with
    | lst s a => exact ⟨_, ds.length, rfl, .inl ⟨_, .inl (.inl (z _ _ s)), a.length.symm⟩, q _ b1 h1 (Fr.rfl' z) (.int _)⟩
theorem rc_lenT {ds : List PyData} : RcD K (fun xs H Q => ∃ x n, xs = [x] ∧ LenV K x H n ∧ Q (.int n) H) [.tuple ds] (.int ds.length) := fun b1 h1 z xs X Q q => by
  cases X with
  | cons x r =>
    cases r
    cases x with
    | tup s a => exact ⟨_, ds.length, rfl, .inr ⟨_, sqT_mono z s, a.length.symm⟩, q _ b1 h1 (Fr.rfl' z) (.int _)⟩
theorem rc_lenS {x : Str} (h : x.length ≤ sizeLine) : RcD K (fun xs H Q => ∃ x n, xs = [x] ∧ LenV K x H n ∧ Q (.int n) H) [.str x] (.int x.length) := fun b1 h1 z xs X Q q => by
  cases X with
  | cons y r =>
    cases r
    cases y
    exact ⟨_, x.length, rfl, ⟨h, rfl⟩, q _ b1 h1 (Fr.rfl' z) (.int _)⟩
theorem rc_all {bs : List Bool} : RcD K (rAll K) [.list (bs.map .bool)] (.bool (bs.all id)) := fun b1 h1 z xs X Q q => by
  cases X with
  | cons x r =>
    cases r
    cases x with
    | lst s a =>
      rw [a.bools] at s
      exact ⟨_, bs, rfl, .inl (.inl (z _ _ s)), q _ b1 h1 (Fr.rfl' z) (.bl _)⟩
theorem rc_max : RcD K (fun xs H Q => ∃ i j, xs = [.int i, .int j] ∧ Q (.int (if j > i then j else i)) H) [.int i, .int j] (.int (max i j)) := fun b1 h1 z xs X Q q => by
  cases X with
  | cons x r =>
    cases r with
    | cons y r =>
      cases r; cases x; cases y
      refine ⟨i, j, rfl, q _ b1 h1 (Fr.rfl' z) ?_⟩
      have e : (if j > i then j else i) = max i j := by rw [Int.max_def]; split <;> split <;> omega
      rw [e]
      exact .int _
theorem rc_min : RcD K (fun xs H Q => ∃ i j, xs = [.int i, .int j] ∧ Q (.int (if j < i then j else i)) H) [.int i, .int j] (.int (min i j)) := fun b1 h1 z xs X Q q => by
  cases X with
  | cons x r =>
    cases r with
    | cons y r =>
      cases r; cases x; cases y
      refine ⟨i, j, rfl, q _ b1 h1 (Fr.rfl' z) ?_⟩
      have e : (if j < i then j else i) = min i j := by rw [Int.min_def]; split <;> split <;> omega
      rw [e]
      exact .int _
theorem rc_abs : RcD K (fun xs H Q => ∃ i, xs = [.int i] ∧ Q (.int (if i < 0 then -i else i)) H) [.int i] (.int (if i < 0 then -i else i)) := fun b1 h1 z xs X Q q => by
  cases X with
  | cons x r => cases r; cases x; exact ⟨i, rfl, q _ b1 h1 (Fr.rfl' z) (.int _)⟩
theorem rc_int : RcD K (fun xs H Q => (∃ i, xs = [.int i] ∧ Q (.int i) H) ∨ ∃ k, xs = [.bl k] ∧ Q (.int (if k then 1 else 0)) H) [.int i] (.int i) := fun b1 h1 z xs X Q q => by
  cases X with
  | cons x r => cases r; cases x; exact .inl ⟨i, rfl, q _ b1 h1 (Fr.rfl' z) (.int _)⟩
theorem rc_intB {k : Bool} : RcD K (fun xs H Q => (∃ i, xs = [.int i] ∧ Q (.int i) H) ∨ ∃ k, xs = [.bl k] ∧ Q (.int (if k then 1 else 0)) H) [.bool k] (.int (if k then 1 else 0)) := fun b1 h1 z xs X Q q => by
  cases X with
  | cons x r => cases r; cases x; exact .inr ⟨k, rfl, q _ b1 h1 (Fr.rfl' z) (.int _)⟩
theorem rc_tupL {ds : List PyData} : RcD K (fun xs H Q => ∃ p ys, xs = [.ref p] ∧ ((SqL K H p ys ∧ ∀ l, H l = none → Q (.ref l) (upd H l (.tup ys))) ∨ (SqT K H p ys ∧ Q (.ref p) H))) [.list ds] (.tuple ds) := fun b1 h1 z xs X Q q => by
  cases X with
  | cons x r =>
    cases r
    cases x with
    | lst s a =>
      refine ⟨_, _, rfl, .inl ⟨.inl (.inl (z _ _ s)), fun l hl => ?_⟩⟩
      exact q _ (upd b1 l (.tup _)) _ (Fr.laid z hl) (.tup (.inl (.inl upd_same)) (a.mono (Fr.laid (B := []) z hl).base))
theorem rc_tupT {ds : List PyData} : RcD K (fun xs H Q => ∃ p ys, xs = [.ref p] ∧ ((SqL K H p ys ∧ ∀ l, H l = none → Q (.ref l) (upd H l (.tup ys))) ∨ (SqT K H p ys ∧ Q (.ref p) H))) [.tuple ds] (.tuple ds) := fun b1 h1 z xs X Q q => by
  cases X with
  | cons x r =>
    cases r
    cases x with
    | tup s a => exact ⟨_, _, rfl, .inr ⟨sqT_mono z s, q _ b1 h1 (Fr.rfl' z) (.tup s a)⟩⟩
theorem rc_listT {ds : List PyData} : RcD K (fun xs H Q => ∃ p ys, xs = [.ref p] ∧ (SqL K H p ys ∨ SqT K H p ys) ∧ ∀ l, H l = none → Q (.ref l) (upd H l (.lst ys))) [.tuple ds] (.list ds) := fun b1 h1 z xs X Q q => by
  cases X with
  | cons x r =>
    cases r
    cases x with
    | tup s a =>
      refine ⟨_, _, rfl, .inr (sqT_mono z s), fun l hl => ?_⟩
      exact q _ (upd b1 l (.lst _)) _ (Fr.laid z hl) (.lst upd_same (a.mono (Fr.laid (B := []) z hl).base))
theorem rc_listL {ds : List PyData} : RcD K (fun xs H Q => ∃ p ys, xs = [.ref p] ∧ (SqL K H p ys ∨ SqT K H p ys) ∧ ∀ l, H l = none → Q (.ref l) (upd H l (.lst ys))) [.list ds] (.list ds) := fun b1 h1 z xs X Q q => by
  cases X with
  | cons x r =>
    cases r
    cases x with
    | lst s a =>
      refine ⟨_, _, rfl, .inl (.inl (.inl (z _ _ s))), fun l hl => ?_⟩
      exact q _ (upd b1 l (.lst _)) _ (Fr.laid z hl) (.lst upd_same (a.mono (Fr.laid (B := []) z hl).base))
/-! isinstance -/
def tyN : PyData → String
  | .none => "NoneType" | .bool _ => "bool" | .int _ => "int" | .str _ => "str" | .list _ => "list" | .tuple _ => "tuple" | .dict _ => "dict"
theorem tyx_of {v : V} (h : Da K b v d) : TyX K b v (.type (tyN d)) := by
  cases h with
  | non => exact .base .non
  | bl x => exact .base (.bl x)
  | int x => exact .base (.int x)
  | str x => exact .base (.str x)
  | lst s a => exact .base (.lst s)
  | tup s a =>
    rcases s with (s | ⟨o, s⟩) | ⟨o, its, n, e, c, _⟩
    · exact .base (.tup s)
    · exact .fTuple s
    · exact .kTuple e c
theorem d_isi {T : String} {r : Bool} (h : EvD K te σ b d) (hk : kitB (tyN d) T = some r) : EvD K (tCB (rIsi K) (tCons te (tCons (tC (.ty T)) tNil))) σ b (.bool r) := fun b1 h1 s z Q q =>
  h b1 h1 s z _ fun v b2 h2 F D => ⟨v, .ty T, _, _, r, rfl, .ty T, tyx_of (D.mono F.sub), kit_ty hk, q _ b2 h2 F (.bl r)⟩
theorem d_isi2 {T U : String} {r1 r2 : Bool} (h : EvD K te σ b d) (h1 : kitB (tyN d) T = some r1) (h2 : kitB (tyN d) U = some r2) :
    EvD K (tCB (rIsiT K) (tCons te (tCons (tTup (tCons (tC (.ty T)) (tCons (tC (.ty U)) tNil))) tNil))) σ b (.bool (r1 || r2)) := fun b1 g1 s z Q q =>
  h b1 g1 s z _ fun v b2 g2 F D => ⟨by show 2 ≤ sizeLine; decide, fun p hp => by
    have F2 : Fr [] b2 g2 (upd b2 p (.tup [.ty T, .ty U])) (upd g2 p (.tup [.ty T, .ty U])) := Fr.laid F.sub hp
    refine ⟨v, p, [.ty T, .ty U], _, [.type T, .type U], r1 || r2, rfl, upd_same, .cons (.ty T) (.cons (.ty U) .nil), tyx_of ((D.mono F2.base).mono F2.sub), ?_, q _ _ _ (F.trans F2) (.bl _)⟩
    refine kitAny_cons (kit_ty h1) (fun e => ?_) (fun e => by rw [e]; rfl)
    subst e
    refine kitAny_cons (kit_ty h2) (fun e => ?_) (fun e => by rw [e]; rfl)
    subst e
    exact kitAny_nil⟩
/-! comprehensions -/
def upto (f : PyData → Bool) (g : PyData → PyData) (ds : List PyData) (n : Nat) : List PyData := ((ds.take n).filter f).map g
theorem upto_yes {f : PyData → Bool} {g : PyData → PyData} {ds : List PyData} {n : Nat} (h : ds[n]? = some d) (hf : f d = true) : upto f g ds (n + 1) = upto f g ds n ++ [g d] := by
  unfold upto
  rw [List.take_add_one, h, List.filter_append, List.map_append]
  simp [hf]
theorem upto_no {f : PyData → Bool} {g : PyData → PyData} {ds : List PyData} {n : Nat} (h : ds[n]? = some d) (hf : f d = false) : upto f g ds (n + 1) = upto f g ds n := by
  unfold upto
  rw [List.take_add_one, h, List.filter_append, List.map_append]
  simp [hf]
theorem upto_len (f : PyData → Bool) (g : PyData → PyData) (ds : List PyData) (n : Nat) : (upto f g ds n).length ≤ ds.length := by
  unfold upto
  rw [List.length_map]
  exact Nat.le_trans (List.length_filter_le _ _) (by rw [List.length_take]; omega)
def Cv (K : PySem.W.Frag) (b h : Hp) (es : Nat → List PyData) (Dl : Addr) (n : Nat) (h' : Hp) : Prop := h Dl = none ∧ ∃ b' acc, Fr [] b h b' h' ∧ b' Dl = none ∧ h' Dl = some (.lst acc) ∧ DaAll K b' acc (es n)
theorem cv_0 {h : Hp} {es : Nat → List PyData} {Dl : Addr} (z : Same b h) (hD : h Dl = none) (h0 : es 0 = []) : Cv K b h es Dl 0 (upd h Dl (.lst [])) :=
  ⟨hD, b, [], Fr.fresh z hD, z.free hD, upd_same, by rw [h0]; exact .nil⟩
theorem cv_turn {h h' : Hp} {es : Nat → List PyData} {Dl : Addr} {n : Nat} {σ2 : St} {f : Bool} (p : Cv K b h es Dl n h')
    (ht : ∀ b2, Fr [] b h b2 h' → EvB t σ2 b2 f) (he : ∀ b2, Fr [] b h b2 h' → f = true → ∃ d, EvD K te σ2 b2 d ∧ es (n + 1) = es n ++ [d]) (hn : f = false → es (n + 1) = es n) (hl : (es n).length < 100000) :
    t σ2 h' fun c h3 => if c = true then te σ2 h3 fun y h4 => ∃ acc, h4 Dl = some (.lst acc) ∧ acc.length < sizeLine ∧ Cv K b h es Dl (n + 1) (upd h4 Dl (.lst (acc ++ [y]))) else Cv K b h es Dl (n + 1) h3 := by
  obtain ⟨hD, b', acc, F, bD, hA, DA⟩ := p
  refine ht b' F b' h' (Same.refl b') F.sub _ fun b3 h3 F3 => ?_
  have a3 : h3 Dl = some (.lst acc) := F3.keep Dl _ bD (by intro q; cases q) hA
  have n3 : b3 Dl = none := F3.out Dl bD (by rw [hA]; rfl)
  cases f with
  | true =>
    obtain ⟨d, hd, e⟩ := he b' F rfl
    refine hd b3 h3 F3.base F3.sub _ fun y b4 h4 F4 D4 => ⟨acc, F4.keep Dl _ n3 (by intro q; cases q) a3, ?_, hD, b4, acc ++ [y], ?_, ?_, upd_same, ?_⟩
    · rw [DA.length]; exact Nat.lt_of_lt_of_le hl (by decide)
    · exact ((F.trans F3).trans F4).new (Fr.mut F4.sub (F4.out Dl n3 (by rw [a3]; rfl))) fun a m => .inr (by
        have : a = Dl := by simpa using m
        rw [this]; exact hD)
    · exact F4.out Dl n3 (by rw [a3]; rfl)
    · rw [e]
      exact (DA.mono (F3.base.trans F4.base)).append (.cons D4 .nil)
  | false =>
    exact ⟨hD, b3, acc, F.trans F3, n3, a3, by rw [hn rfl]; exact DA.mono F3.base⟩
theorem wipe1 {v : Nat} {x : Option V} : wipe ((wipe σ [v]).set v x) [v] = wipe σ [v] := by
  show ((σ.set v none).set v x).set v none = σ.set v none
  rw [List.set_set, List.set_set]
theorem d_lcL {tl : TE} {n : Nat} {vs : List Nat} {ds : List PyData} (f : PyData → Bool) (g : PyData → PyData) (S : Slots K b σ Δ) (h : EvD K tl σ b (.list ds)) (hz : ds.length ≤ 90000) (hw : ∀ x, wipe ((wipe σ vs).set n (some x)) vs = wipe σ vs)
    (ht : ∀ (m : Nat) d σ2 b2, ds[m]? = some d → Same b b2 → Slots K b2 σ2 ((wipeD Δ vs).set n (.dat d)) → EvB t σ2 b2 (f d) ∧ (f d = true → EvD K te σ2 b2 (g d))) :
    EvD K (tLc (iList K tl) (gName n) t te vs) σ b (.list ((ds.filter f).map g)) := fun b1 h1 s z Q q =>
  h b1 h1 s z _ fun v b2 h2 F D => by
    cases D with
    | @lst a xs _ sa da =>
      refine ⟨a, rfl, ⟨xs, .inl (.inl (F.sub _ _ sa))⟩, fun Dl hD => ?_⟩
      refine lc_list (xs := xs) (Cv K b2 h2 (upto f g ds) Dl) (cv_0 F.sub hD (by unfold upto; rfl)) (fun i H' _ p => ?_) (fun i x H' hi p => ⟨hw x, ?_⟩) (fun H' p => ?_)
      · obtain ⟨_, b', acc, F2, _⟩ := p
        exact .inl (.inl (F2.sub _ _ (F2.base _ _ sa)))
      · obtain ⟨d, e, dd⟩ := da.at hi
        have hl : (upto f g ds i).length < 100000 := by have := upto_len f g ds i; omega
        have SS : ∀ b3, Fr [] b2 h2 b3 H' → EvB t ((wipe σ vs).set n (some x)) b3 (f d) ∧ (f d = true → EvD K te ((wipe σ vs).set n (some x)) b3 (g d)) := fun b3 F3 =>
          ht i d _ b3 e ((s.trans F.base).trans F3.base) (((S.mono ((s.trans F.base).trans F3.base)).wipe vs).set (z := .dat d) ⟨x, rfl, dd.mono F3.base⟩ n)
        exact cv_turn p (fun b3 F3 => (SS b3 F3).1) (fun b3 F3 hf => ⟨g d, (SS b3 F3).2 hf, upto_yes e hf⟩) (fun hf => upto_no e hf) hl
      · obtain ⟨_, b', acc, F2, bD, hA, DA⟩ := p
        have e : upto f g ds xs.length = (ds.filter f).map g := by unfold upto; rw [da.length, List.take_length]
        rw [e] at DA
        obtain ⟨s1, s2⟩ := Fr.seal F2.sub bD hA
        refine q (.ref Dl) (upd b' Dl (.lst acc)) H' (F.trans ⟨F2.base.trans s1, s2, fun c n m => ?_, F2.keep, F2.live⟩) (.lst upd_same (DA.mono s1))
        have hc : c ≠ Dl := by intro e; subst e; rw [hD] at m; cases m
        rw [upd_ne hc]
        exact F2.out c n m
theorem d_lcT {tl : TE} {n : Nat} {vs : List Nat} {ds : List PyData} (f : PyData → Bool) (g : PyData → PyData) (S : Slots K b σ Δ) (h : EvD K tl σ b (.tuple ds)) (hz : ds.length ≤ 90000) (hw : ∀ x, wipe ((wipe σ vs).set n (some x)) vs = wipe σ vs)
    (ht : ∀ (m : Nat) d σ2 b2, ds[m]? = some d → Same b b2 → Slots K b2 σ2 ((wipeD Δ vs).set n (.dat d)) → EvB t σ2 b2 (f d) ∧ (f d = true → EvD K te σ2 b2 (g d))) :
    EvD K (tLc (iTup K tl) (gName n) t te vs) σ b (.list ((ds.filter f).map g)) := fun b1 h1 s z Q q =>
  h b1 h1 s z _ fun v b2 h2 F D => by
    cases D with
    | @tup a xs _ sa da =>
      refine ⟨a, rfl, ⟨xs, sqT_mono F.sub sa⟩, fun Dl hD => ?_⟩
      refine lc_tup (xs := xs) (Cv K b2 h2 (upto f g ds) Dl) (cv_0 F.sub hD (by unfold upto; rfl)) (fun i H' _ p => ?_) (fun i x H' hi p => ⟨hw x, ?_⟩) (fun H' p => ?_)
      · obtain ⟨_, b', acc, F2, _⟩ := p
        exact sqT_mono (F2.base.trans F2.sub) sa
      · obtain ⟨d, e, dd⟩ := da.at hi
        have hl : (upto f g ds i).length < 100000 := by have := upto_len f g ds i; omega
        have SS : ∀ b3, Fr [] b2 h2 b3 H' → EvB t ((wipe σ vs).set n (some x)) b3 (f d) ∧ (f d = true → EvD K te ((wipe σ vs).set n (some x)) b3 (g d)) := fun b3 F3 =>
          ht i d _ b3 e ((s.trans F.base).trans F3.base) (((S.mono ((s.trans F.base).trans F3.base)).wipe vs).set (z := .dat d) ⟨x, rfl, dd.mono F3.base⟩ n)
        exact cv_turn p (fun b3 F3 => (SS b3 F3).1) (fun b3 F3 hf => ⟨g d, (SS b3 F3).2 hf, upto_yes e hf⟩) (fun hf => upto_no e hf) hl
      · obtain ⟨_, b', acc, F2, bD, hA, DA⟩ := p
        have e : upto f g ds xs.length = (ds.filter f).map g := by unfold upto; rw [da.length, List.take_length]
        rw [e] at DA
        obtain ⟨s1, s2⟩ := Fr.seal F2.sub bD hA
        refine q (.ref Dl) (upd b' Dl (.lst acc)) H' (F.trans ⟨F2.base.trans s1, s2, fun c n m => ?_, F2.keep, F2.live⟩) (.lst upd_same (DA.mono s1))
        have hc : c ≠ Dl := by intro e; subst e; rw [hD] at m; cases m
        rw [upd_ne hc]
        exact F2.out c n m
def rng (lo : Int) (n : Nat) : List PyData := (List.range n).map fun (i : Nat) => PyData.int (lo + (i : Int))
theorem rng_len (lo : Int) (n : Nat) : (rng lo n).length = n := by unfold rng; rw [List.length_map, List.length_range]
theorem rng_at {lo : Int} {n m : Nat} (h : m < n) : (rng lo n)[m]? = some (.int (lo + (m : Int))) := by
  unfold rng
  rw [List.getElem?_map, List.getElem?_range h]
  rfl
theorem lcR_core {lo : Int} {k n : Nat} {vs : List Nat} (f : PyData → Bool) (g : PyData → PyData) (S : Slots K b σ Δ) (hz : k ≤ 90000) (hw : ∀ x, wipe ((wipe σ vs).set n (some x)) vs = wipe σ vs)
    (ht : ∀ (m : Nat) σ2 b2, m < k → Same b b2 → Slots K b2 σ2 ((wipeD Δ vs).set n (.dat (.int (lo + (m : Int))))) → EvB t σ2 b2 (f (.int (lo + (m : Int)))) ∧ (f (.int (lo + (m : Int))) = true → EvD K te σ2 b2 (g (.int (lo + (m : Int))))))
    {b1 h1 : Hp} (s : Same b b1) (z : Same b1 h1) {Q : VK} (q : ∀ v b2 h2, Fr [] b1 h1 b2 h2 → Da K b2 v (.list (((rng lo k).filter f).map g)) → Q v h2) {b2 h2 : Hp} (F : Fr [] b1 h1 b2 h2) (Dl : Addr) (hD : h2 Dl = none) :
    ∃ W : Nat → Nat → Hp → Prop, (∃ m, W 0 m (upd h2 Dl (.lst []))) ∧ ∀ i m H, W i m H →
      ((Itr lo k).stop i H ∧ Q (.ref Dl) H) ∨ ((Itr lo k).go i H ∧ ∃ Nx : Hp → Prop, (∀ H', Nx H' → ∃ m', m' < m ∧ W (i + 1) m' H') ∧ ∀ x H', (Itr lo k).yld i H x H' → gName n x (wipe σ vs) H' fun σ2 H2 => wipe σ2 vs = wipe σ vs ∧ t σ2 H2 fun b H3 =>
        if b = true then te σ2 H3 fun y H4 => ∃ acc, H4 Dl = some (.lst acc) ∧ acc.length < sizeLine ∧ Nx (upd H4 Dl (.lst (acc ++ [y]))) else Nx H3) := by
  refine lc_range (Cv K b2 h2 (upto f g (rng lo k)) Dl) (cv_0 F.sub hD (by unfold upto; rfl)) (fun i H' hi p => ⟨hw _, ?_⟩) (fun H' p => ?_)
  · have hl : (upto f g (rng lo k) i).length < 100000 := by have := upto_len f g (rng lo k) i; rw [rng_len] at this; omega
    have e := rng_at (lo := lo) hi
    have SS : ∀ b3, Fr [] b2 h2 b3 H' → EvB t ((wipe σ vs).set n (some (.int (lo + (i : Int))))) b3 (f (.int (lo + (i : Int)))) ∧ (f (.int (lo + (i : Int))) = true → EvD K te ((wipe σ vs).set n (some (.int (lo + (i : Int))))) b3 (g (.int (lo + (i : Int))))) := fun b3 F3 =>
      ht i _ b3 hi ((s.trans F.base).trans F3.base) (((S.mono ((s.trans F.base).trans F3.base)).wipe vs).set (z := .dat (.int (lo + (i : Int)))) ⟨_, rfl, .int _⟩ n)
    exact cv_turn p (fun b3 F3 => (SS b3 F3).1) (fun b3 F3 hf => ⟨_, (SS b3 F3).2 hf, upto_yes e hf⟩) (fun hf => upto_no e hf) hl
  · obtain ⟨_, b', acc, F2, bD, hA, DA⟩ := p
    have e : upto f g (rng lo k) k = ((rng lo k).filter f).map g := by
      unfold upto
      rw [show (rng lo k).take k = rng lo k by rw [List.take_of_length_le (by rw [rng_len]; exact Nat.le_refl _)]]
    rw [e] at DA
    obtain ⟨s1, s2⟩ := Fr.seal F2.sub bD hA
    refine q (.ref Dl) (upd b' Dl (.lst acc)) H' (F.trans ⟨F2.base.trans s1, s2, fun c n m => ?_, F2.keep, F2.live⟩) (.lst upd_same (DA.mono s1))
    have hc : c ≠ Dl := by intro e; subst e; rw [hD] at m; cases m
    rw [upd_ne hc]
    exact F2.out c n m
theorem d_lcR1 {tA : TA} {n : Nat} {vs : List Nat} {k : Int} (f : PyData → Bool) (g : PyData → PyData) (S : Slots K b σ Δ) (h : EvDs K tA σ b [.int k]) (hz : k ≤ 90000) (hk : -90000 ≤ k) (hw : ∀ x, wipe ((wipe σ vs).set n (some x)) vs = wipe σ vs)
    (ht : ∀ (m : Nat) σ2 b2, (m : Int) < k → Same b b2 → Slots K b2 σ2 ((wipeD Δ vs).set n (.dat (.int (0 + (m : Int))))) → EvB t σ2 b2 (f (.int (0 + (m : Int)))) ∧ (f (.int (0 + (m : Int))) = true → EvD K te σ2 b2 (g (.int (0 + (m : Int)))))) :
    EvD K (tLc (iRng1 tA) (gName n) t te vs) σ b (.list (((rng 0 k.toNat).filter f).map g)) := fun b1 h1 s z Q q =>
  h b1 h1 s z _ fun v b2 h2 F D => by
    cases D with
    | cons x r =>
      cases r; cases x
      refine ⟨k, rfl, by omega, by omega, fun Dl hD => lcR_core f g S (by omega) hw (fun m σ2 b2 hm => ht m σ2 b2 (by omega)) s z q F Dl hD⟩
theorem d_lcR2 {tA : TA} {n : Nat} {vs : List Nat} {lo k : Int} (f : PyData → Bool) (g : PyData → PyData) (S : Slots K b σ Δ) (h : EvDs K tA σ b [.int lo, .int k]) (hz : k - lo ≤ 90000) (hk : -1000000 ≤ lo ∧ lo ≤ 1000000 ∧ -1000000 ≤ k ∧ k ≤ 1000000) (hw : ∀ x, wipe ((wipe σ vs).set n (some x)) vs = wipe σ vs)
    (ht : ∀ (m : Nat) σ2 b2, lo + (m : Int) < k → Same b b2 → Slots K b2 σ2 ((wipeD Δ vs).set n (.dat (.int (lo + (m : Int))))) → EvB t σ2 b2 (f (.int (lo + (m : Int)))) ∧ (f (.int (lo + (m : Int))) = true → EvD K te σ2 b2 (g (.int (lo + (m : Int)))))) :
    EvD K (tLc (iRng2 tA) (gName n) t te vs) σ b (.list (((rng lo (k - lo).toNat).filter f).map g)) := fun b1 h1 s z Q q =>
  h b1 h1 s z _ fun v b2 h2 F D => by
    cases D with
    | cons x r =>
      cases r with
      | cons y r =>
        cases r; cases x; cases y
        refine ⟨lo, k, rfl, ⟨by omega, by omega, by omega, by omega⟩, fun Dl hD => lcR_core f g S (by omega) hw (fun m σ2 b2 hm => ht m σ2 b2 (by omega)) s z q F Dl hD⟩
end
end DV

namespace DV
open PySem L2
/-! the state of a body: from (b0, h0) on with the things at B changed -/
structure S (K : PySem.W.Frag) (B : List Addr) (b0 h0 : Hp) (σ : St) (b h : Hp) (Δ : List SD) : Prop where
  fr : Fr B b0 h0 b h
  sl : Slots K b σ Δ
section
variable {K : PySem.W.Frag} {B : List Addr} {b0 h0 : Hp} {σ : St} {b b' h : Hp} {te ta tb tc : TE} {d d1 d2 d3 : PyData} {Δ : List SD} {t u : TT} {r r' : R2} {i j : Int} {D : Ends} {tu tw tz : TS}
theorem S.sub (Z : S K B b0 h0 σ b h Δ) : Same b h := Z.fr.sub
theorem S.go {b2 h2 : Hp} (Z : S K B b0 h0 σ b h Δ) (F : Fr [] b h b2 h2) : S K B b0 h0 σ b2 h2 Δ := ⟨Z.fr.trans F.any, Z.sl.mono F.base⟩
theorem S.set {n : Nat} {v : V} {b2 h2 : Hp} (Z : S K B b0 h0 σ b h Δ) (F : Fr [] b h b2 h2) (dd : Da K b2 v d) : S K B b0 h0 (σ.set n (some v)) b2 h2 (Δ.set n (.dat d)) :=
  ⟨Z.fr.trans F.any, (Z.sl.mono F.base).set (z := .dat d) ⟨v, rfl, dd⟩ n⟩
theorem S.init {vs : List V} {ds : List PyData} (e : Same b h) (hd : DaAll K b vs ds) (N : List Str) : S K B b h (start N vs) b h (ds.map .dat ++ List.replicate (N.length - ds.length) .un) := ⟨Fr.rfl' e, Slots.start hd N⟩
theorem s_asg {n : Nat} (Z : S K B b0 h0 σ b h Δ) (he : EvD K te σ b d) (k : ∀ σ2 b2 h2, Fr [] b h b2 h2 → S K B b0 h0 σ2 b2 h2 (Δ.set n (.dat d)) → D.nx σ2 h2) : tAsg te (gName n) D σ h :=
  he.go Z.sub fun v b2 h2 F dd => k _ b2 h2 F (Z.set F dd)
theorem q_asg {n : Nat} (Z : S K B b0 h0 σ b h Δ) (he : EvD K te σ b d) (k : ∀ σ2 b2 h2, Fr [] b h b2 h2 → S K B b0 h0 σ2 b2 h2 (Δ.set n (.dat d)) → tz D σ2 h2) : tSeq (tAsg te (gName n)) tz D σ h :=
  s_asg (D := { D with nx := tz D }) Z he k
theorem s_if {c : Bool} (Z : S K B b0 h0 σ b h Δ) (hb : EvB t σ b c) (h1 : c = true → ∀ b2 h2, Fr [] b h b2 h2 → S K B b0 h0 σ b2 h2 Δ → tu D σ h2) (h2 : c = false → ∀ b2 h2, Fr [] b h b2 h2 → S K B b0 h0 σ b2 h2 Δ → tw D σ h2) : tIfS t tu tw D σ h :=
  hb b h (Same.refl b) Z.sub _ fun b2 g2 F => by
    cases c with
    | true => exact h1 rfl b2 g2 F (Z.go F)
    | false => exact h2 rfl b2 g2 F (Z.go F)
theorem q_if {c : Bool} (Z : S K B b0 h0 σ b h Δ) (hb : EvB t σ b c) (h1 : c = true → ∀ b2 h2, Fr [] b h b2 h2 → S K B b0 h0 σ b2 h2 Δ → tu { D with nx := tz D } σ h2) (h2 : c = false → ∀ b2 h2, Fr [] b h b2 h2 → S K B b0 h0 σ b2 h2 Δ → tw { D with nx := tz D } σ h2) : tSeq (tIfS t tu tw) tz D σ h :=
  s_if (D := { D with nx := tz D }) Z hb h1 h2
/-- an if without else -/
theorem q_when {c : Bool} (Z : S K B b0 h0 σ b h Δ) (hb : EvB t σ b c) (h1 : c = true → ∀ b2 h2, Fr [] b h b2 h2 → S K B b0 h0 σ b2 h2 Δ → tu { D with nx := tz D } σ h2) (h2 : c = false → ∀ b2 h2, Fr [] b h b2 h2 → S K B b0 h0 σ b2 h2 Δ → tz D σ h2) : tSeq (tIfS t tu tNext) tz D σ h :=
  q_if Z hb h1 h2
theorem s_when {c : Bool} (Z : S K B b0 h0 σ b h Δ) (hb : EvB t σ b c) (h1 : c = true → ∀ b2 h2, Fr [] b h b2 h2 → S K B b0 h0 σ b2 h2 Δ → tu D σ h2) (h2 : c = false → ∀ b2 h2, Fr [] b h b2 h2 → S K B b0 h0 σ b2 h2 Δ → D.nx σ h2) : tIfS t tu tNext D σ h :=
  s_if Z hb h1 h2
theorem s_ret (Z : S K B b0 h0 σ b h Δ) (he : EvD K te σ b d) (k : ∀ v b2 h2, Fr B b0 h0 b2 h2 → Da K b2 v d → D.rt v h2) : tRet te D σ h := he.go Z.sub fun v b2 h2 F dd => k v b2 h2 (Z.fr.trans F.any) dd
/-- a, b, c = a tuple -/
theorem g_tup3 {n1 n2 n3 : Nat} {v : V} {Q : St → Hp → Prop} (Z : S K B b0 h0 σ b h Δ) (dd : Da K b v (.tuple [d1, d2, d3])) (k : ∀ σ2, S K B b0 h0 σ2 b h (((Δ.set n1 (.dat d1)).set n2 (.dat d2)).set n3 (.dat d3)) → Q σ2 h) : gTup K 3 (gCons (gName n1) (gCons (gName n2) (gCons (gName n3) gNil))) v σ h Q := by
  cases dd with
  | tup s a =>
    cases a with
    | cons x1 r =>
      cases r with
      | cons x2 r =>
        cases r with
        | cons x3 r =>
          cases r
          exact ⟨_, _, rfl, sqT_mono Z.sub s, rfl, _, _, rfl, _, _, rfl, _, _, rfl, rfl, k _ ⟨Z.fr, ((Z.sl.set (z := .dat d1) ⟨_, rfl, x1⟩ n1).set (z := .dat d2) ⟨_, rfl, x2⟩ n2).set (z := .dat d3) ⟨_, rfl, x3⟩ n3⟩⟩
theorem g_tup2 {n1 n2 : Nat} {v : V} {Q : St → Hp → Prop} (Z : S K B b0 h0 σ b h Δ) (dd : Da K b v (.tuple [d1, d2])) (k : ∀ σ2, S K B b0 h0 σ2 b h ((Δ.set n1 (.dat d1)).set n2 (.dat d2)) → Q σ2 h) : gTup K 2 (gCons (gName n1) (gCons (gName n2) gNil)) v σ h Q := by
  cases dd with
  | tup s a =>
    cases a with
    | cons x1 r =>
      cases r with
      | cons x2 r =>
        cases r
        exact ⟨_, _, rfl, sqT_mono Z.sub s, rfl, _, _, rfl, _, _, rfl, rfl, k _ ⟨Z.fr, (Z.sl.set (z := .dat d1) ⟨_, rfl, x1⟩ n1).set (z := .dat d2) ⟨_, rfl, x2⟩ n2⟩⟩
theorem q_tup3 {n1 n2 n3 : Nat} (Z : S K B b0 h0 σ b h Δ) (he : EvD K te σ b (.tuple [d1, d2, d3])) (k : ∀ σ2 b2 h2, Fr [] b h b2 h2 → S K B b0 h0 σ2 b2 h2 (((Δ.set n1 (.dat d1)).set n2 (.dat d2)).set n3 (.dat d3)) → tz D σ2 h2) :
    tSeq (tAsg te (gTup K 3 (gCons (gName n1) (gCons (gName n2) (gCons (gName n3) gNil))))) tz D σ h :=
  he.go Z.sub fun v b2 h2 F dd => g_tup3 (Z.go F) dd fun σ2 Z2 => k σ2 b2 h2 F Z2
theorem q_tup2 {n1 n2 : Nat} (Z : S K B b0 h0 σ b h Δ) (he : EvD K te σ b (.tuple [d1, d2])) (k : ∀ σ2 b2 h2, Fr [] b h b2 h2 → S K B b0 h0 σ2 b2 h2 ((Δ.set n1 (.dat d1)).set n2 (.dat d2)) → tz D σ2 h2) :
    tSeq (tAsg te (gTup K 2 (gCons (gName n1) (gCons (gName n2) gNil)))) tz D σ h :=
  he.go Z.sub fun v b2 h2 F dd => g_tup2 (Z.go F) dd fun σ2 Z2 => k σ2 b2 h2 F Z2
theorem q_par {n1 n2 : Nat} {tA : TA} (Z : S K B b0 h0 σ b h Δ) (he : EvDs K tA σ b [d1, d2]) (k : ∀ σ2 b2 h2, Fr [] b h b2 h2 → S K B b0 h0 σ2 b2 h2 ((Δ.set n1 (.dat d1)).set n2 (.dat d2)) → tz D σ2 h2) : tSeq (tPar n1 n2 tA) tz D σ h :=
  he b h (Same.refl b) Z.sub _ fun vs b2 h2 F dd => by
    cases dd with
    | cons x1 r =>
      cases r with
      | cons x2 r =>
        cases r
        exact ⟨_, _, rfl, k _ b2 h2 F ⟨Z.fr.trans F.any, ((Z.sl.mono F.base).set (z := .dat d1) ⟨_, rfl, x1⟩ n1).set (z := .dat d2) ⟨_, rfl, x2⟩ n2⟩⟩
theorem s_par {n1 n2 : Nat} {tA : TA} (Z : S K B b0 h0 σ b h Δ) (he : EvDs K tA σ b [d1, d2]) (k : ∀ σ2 b2 h2, Fr [] b h b2 h2 → S K B b0 h0 σ2 b2 h2 ((Δ.set n1 (.dat d1)).set n2 (.dat d2)) → D.nx σ2 h2) : tPar n1 n2 tA D σ h :=
  he b h (Same.refl b) Z.sub _ fun vs b2 h2 F dd => by
    cases dd with
    | cons x1 r =>
      cases r with
      | cons x2 r =>
        cases r
        exact ⟨_, _, rfl, k _ b2 h2 F ⟨Z.fr.trans F.any, ((Z.sl.mono F.base).set (z := .dat d1) ⟨_, rfl, x1⟩ n1).set (z := .dat d2) ⟨_, rfl, x2⟩ n2⟩⟩
theorem s_aug {n : Nat} {f : Int → Int → Int} {x y : Int} (Z : S K B b0 h0 σ b h Δ) (hx : Δ[n]? = some (.dat (.int x))) (he : EvD K te σ b (.int y)) (k : ∀ σ2 b2 h2, Fr [] b h b2 h2 → S K B b0 h0 σ2 b2 h2 (Δ.set n (.dat (.int (f x y)))) → D.nx σ2 h2) : tAug n te (ipI f) D σ h := by
  obtain ⟨w, e1, v, e2, e3⟩ := Z.sl.get hx
  cases e3
  refine ⟨.int x, by rw [e1, e2], he.go Z.sub fun v b2 h2 F dd => ?_⟩
  cases dd
  exact ⟨x, y, rfl, rfl, k _ b2 h2 F (Z.set F (.int _))⟩
/-- a new list that is going to be changed -/
theorem q_new {n : Nat} (Z : S K B b0 h0 σ b h Δ) (k : ∀ p σ2 h2, h p = none → b p = none → h2 p = some (.lst []) → Fr [] b h b h2 → S K B b0 h0 σ2 b h2 (Δ.set n (.adr p)) → tz D σ2 h2) : tSeq (tAsg (tLst tNil) (gName n)) tz D σ h :=
  ⟨Nat.zero_le _, fun p hp => k p _ _ hp (Z.sub.free hp) upd_same (Fr.fresh Z.sub hp) ⟨Z.fr.trans (Fr.fresh Z.sub hp), Z.sl.set (z := .adr p) rfl n⟩⟩
/-- x.append(e) -/
theorem s_app {n : Nat} {p : Addr} {xs : List V} (Z : S K B b0 h0 σ b h Δ) (hs : Δ[n]? = some (.adr p)) (hb : b p = none) (hB : p ∈ B ∨ h0 p = none) (hp : h p = some (.lst xs)) (hl : xs.length < 100000) (he : EvD K te σ b d)
    (k : ∀ v b2 h2 h3, Fr [] b h b2 h2 → Da K b2 v d → b2 p = none → h3 p = some (.lst (xs ++ [v])) → Fr [p] b h b2 h3 → S K B b0 h0 σ b2 h3 Δ → D.nx σ h3) : tDrop (tBM K "list" rAppend (tVar n) (tCons te tNil)) D σ h := by
  obtain ⟨x, e1, e2⟩ := Z.sl.get hs
  cases e2
  refine ⟨.ref p, e1, .inl ⟨rfl, xs, .inl (.inl hp)⟩, he.go Z.sub fun v b2 h2 F dd => ?_⟩
  have h2p : h2 p = some (.lst xs) := F.keep p _ hb (by intro q; cases q) hp
  have b2p : b2 p = none := F.out p hb (by rw [hp]; rfl)
  have M : Fr [p] b h b2 (upd h2 p (.lst (xs ++ [v]))) := (F.any (B := [p])).trans (Fr.mut F.sub b2p)
  refine ⟨p, xs, v, rfl, rfl, h2p, Nat.lt_of_lt_of_le hl (by decide), k v b2 h2 _ F dd b2p upd_same M ⟨Z.fr.new M fun a m => ?_, Z.sl.mono F.base⟩⟩
  have e : a = p := by simpa using m
  rw [e]
  exact hB
theorem q_app {n : Nat} {p : Addr} {xs : List V} (Z : S K B b0 h0 σ b h Δ) (hs : Δ[n]? = some (.adr p)) (hb : b p = none) (hB : p ∈ B ∨ h0 p = none) (hp : h p = some (.lst xs)) (hl : xs.length < 100000) (he : EvD K te σ b d)
    (k : ∀ v b2 h2 h3, Fr [] b h b2 h2 → Da K b2 v d → b2 p = none → h3 p = some (.lst (xs ++ [v])) → Fr [p] b h b2 h3 → S K B b0 h0 σ b2 h3 Δ → tz D σ h3) : tSeq (tDrop (tBM K "list" rAppend (tVar n) (tCons te tNil))) tz D σ h :=
  s_app (D := { D with nx := tz D }) Z hs hb hB hp hl he k
/-- such a list becomes data -/
theorem S.seal {p : Addr} {xs : List V} {ds : List PyData} (Z : S K B b0 h0 σ b h Δ) (hb : b p = none) (h00 : h0 p = none) (hp : h p = some (.lst xs)) (da : DaAll K b xs ds) : S K B b0 h0 σ (upd b p (.lst xs)) h Δ ∧ Da K (upd b p (.lst xs)) (.ref p) (.list ds) := by
  obtain ⟨s1, s2⟩ := Fr.seal Z.sub hb hp
  refine ⟨⟨⟨Z.fr.base.trans s1, s2, fun a n m => ?_, Z.fr.keep, Z.fr.live⟩, Z.sl.mono s1⟩, .lst upd_same (da.mono s1)⟩
  have ha : a ≠ p := by intro e; subst e; rw [h00] at m; cases m
  rw [upd_ne ha]
  exact Z.fr.out a n m
/-- a slot that held its address holds data -/
theorem Slots.turn {p : Addr} : ∀ {σ : St} {Δ : List SD} {n : Nat}, Slots K b σ Δ → Δ[n]? = some (.adr p) → Da K b (.ref p) d → Slots K b σ (Δ.set n (.dat d))
  | _, _, _, .nil, e, _ => by simp at e
  | _, _, 0, .cons h t, e, q => by
    simp at e; subst e
    exact .cons ⟨_, h, q⟩ t
  | _, _, n + 1, .cons h t, e, q => .cons h (Slots.turn (n := n) t (by simpa using e) q)
theorem S.turn {p : Addr} {n : Nat} (Z : S K B b0 h0 σ b h Δ) (hs : Δ[n]? = some (.adr p)) (q : Da K b (.ref p) d) : S K B b0 h0 σ b h (Δ.set n (.dat d)) := ⟨Z.fr, Z.sl.turn hs q⟩
/-! loops -/
theorem q_forR1 {tA : TA} {n : Nat} {m : Int} (Z : S K B b0 h0 σ b h Δ) (he : EvDs K tA σ b [.int m]) (hm : -1000000 ≤ m ∧ m ≤ 1000000) (Pv : Nat → St → Hp → Prop) (hi : ∀ b2 h2, Fr [] b h b2 h2 → S K B b0 h0 σ b2 h2 Δ → Pv 0 σ h2)
    (hs : ∀ (i : Nat) σ' h', (i : Int) < m → Pv i σ' h' → tu { D with nx := Pv (i + 1), ct := Pv (i + 1), bk := tz D } (σ'.set n (some (.int (0 + (i : Int))))) h') (hd : ∀ σ' h', Pv m.toNat σ' h' → tz D σ' h') : tSeq (tFor (iRng1 tA) (gName n) tu) tz D σ h :=
  he b h (Same.refl b) Z.sub _ fun vs b2 h2 F dd => by
    cases dd with
    | cons x r =>
      cases r; cases x
      exact ⟨m, rfl, by omega, by omega, for_range (lo := 0) (n := m.toNat) Pv (hi b2 h2 F (Z.go F)) (fun i σ' h' hi p => hs i σ' h' (by omega) p) hd⟩
theorem q_forR2 {tA : TA} {n : Nat} {lo m : Int} (Z : S K B b0 h0 σ b h Δ) (he : EvDs K tA σ b [.int lo, .int m]) (hm : -1000000 ≤ lo ∧ lo ≤ 1000000 ∧ -1000000 ≤ m ∧ m ≤ 1000000) (Pv : Nat → St → Hp → Prop) (hi : ∀ b2 h2, Fr [] b h b2 h2 → S K B b0 h0 σ b2 h2 Δ → Pv 0 σ h2)
    (hs : ∀ (i : Nat) σ' h', lo + (i : Int) < m → Pv i σ' h' → tu { D with nx := Pv (i + 1), ct := Pv (i + 1), bk := tz D } (σ'.set n (some (.int (lo + (i : Int))))) h') (hd : ∀ σ' h', Pv (m - lo).toNat σ' h' → tz D σ' h') : tSeq (tFor (iRng2 tA) (gName n) tu) tz D σ h :=
  he b h (Same.refl b) Z.sub _ fun vs b2 h2 F dd => by
    cases dd with
    | cons x r =>
      cases r with
      | cons y r =>
        cases r; cases x; cases y
        exact ⟨lo, m, rfl, ⟨by omega, by omega, by omega, by omega⟩, for_range (lo := lo) (n := (m - lo).toNat) Pv (hi b2 h2 F (Z.go F)) (fun i σ' h' hi p => hs i σ' h' (by omega) p) hd⟩
/-- over a list, a tuple of data -/
theorem q_forL {tl : TE} {n : Nat} {ds : List PyData} (Z : S K B b0 h0 σ b h Δ) (he : EvD K tl σ b (.list ds)) (Pv : Nat → St → Hp → Hp → Prop) (hi : ∀ b2 h2, Fr [] b h b2 h2 → S K B b0 h0 σ b2 h2 Δ → Pv 0 σ b2 h2) (hsub : ∀ i σ' b' h', Pv i σ' b' h' → Same b' h')
    (hs : ∀ (bb : Hp) (i : Nat) d σ' b' h' v, Same bb b' → ds[i]? = some d → Pv i σ' b' h' → Da K b' v d → tu { D with nx := fun s g => ∃ b'', Same bb b'' ∧ Pv (i + 1) s b'' g, ct := fun s g => ∃ b'', Same bb b'' ∧ Pv (i + 1) s b'' g, bk := tz D } (σ'.set n (some v)) h') (hd : ∀ σ' b' h', Pv ds.length σ' b' h' → tz D σ' h') : tSeq (tFor (iList K tl) (gName n) tu) tz D σ h :=
  he.go Z.sub fun v b2 h2 F dd => by
    cases dd with
    | @lst a xs _ sa da =>
      refine ⟨a, rfl, ⟨xs, .inl (.inl (F.sub _ _ sa))⟩, for_list (xs := xs) (fun i s g => ∃ b', Same b2 b' ∧ Pv i s b' g) ⟨b2, Same.refl _, hi b2 h2 F (Z.go F)⟩ (fun i s g _ p => ?_) (fun i x s g hx p => ?_) (fun s g p => ?_)⟩
      · obtain ⟨b', e, p⟩ := p
        exact .inl (.inl (hsub _ _ _ _ p _ _ (e _ _ sa)))
      · obtain ⟨b', e, p⟩ := p
        obtain ⟨d, e1, e2⟩ := da.at hx
        exact hs b2 i d s b' g x e e1 p (e2.mono e)
      · obtain ⟨b', e, p⟩ := p
        rw [da.length] at p
        exact hd s b' g p
theorem q_forT {tl : TE} {n : Nat} {ds : List PyData} (Z : S K B b0 h0 σ b h Δ) (he : EvD K tl σ b (.tuple ds)) (Pv : Nat → St → Hp → Hp → Prop) (hi : ∀ b2 h2, Fr [] b h b2 h2 → S K B b0 h0 σ b2 h2 Δ → Pv 0 σ b2 h2) (hsub : ∀ i σ' b' h', Pv i σ' b' h' → Same b' h')
    (hs : ∀ (bb : Hp) (i : Nat) d σ' b' h' v, Same bb b' → ds[i]? = some d → Pv i σ' b' h' → Da K b' v d → tu { D with nx := fun s g => ∃ b'', Same bb b'' ∧ Pv (i + 1) s b'' g, ct := fun s g => ∃ b'', Same bb b'' ∧ Pv (i + 1) s b'' g, bk := tz D } (σ'.set n (some v)) h') (hd : ∀ σ' b' h', Pv ds.length σ' b' h' → tz D σ' h') : tSeq (tFor (iTup K tl) (gName n) tu) tz D σ h :=
  he.go Z.sub fun v b2 h2 F dd => by
    cases dd with
    | @tup a xs _ sa da =>
      refine ⟨a, rfl, ⟨xs, sqT_mono F.sub sa⟩, for_tup (xs := xs) (fun i s g => ∃ b', Same b2 b' ∧ Pv i s b' g) ⟨b2, Same.refl _, hi b2 h2 F (Z.go F)⟩ (fun i s g _ p => ?_) (fun i x s g hx p => ?_) (fun s g p => ?_)⟩
      · obtain ⟨b', e, p⟩ := p
        exact sqT_mono (e.trans (hsub _ _ _ _ p)) sa
      · obtain ⟨b', e, p⟩ := p
        obtain ⟨d, e1, e2⟩ := da.at hx
        exact hs b2 i d s b' g x e e1 p (e2.mono e)
      · obtain ⟨b', e, p⟩ := p
        rw [da.length] at p
        exact hd s b' g p
end
end DV

namespace DV
open PySem L2
section
variable {K : PySem.W.Frag} {B : List Addr} {b0 h0 : Hp} {σ : St} {b b' h : Hp} {te ta tb tc : TE} {d d1 d2 d3 : PyData} {Δ : List SD} {t u : TT} {r r' : R2} {i j : Int} {D : Ends} {tu tw tz : TS}
/-! comprehensions over zip -/
theorem walk_zipT {a c : Addr} {xs ys : List V} {n : Nat} (hn : n = min xs.length ys.length) : Walk (RZ.ItzT K a c) n (fun H => SqT K H a xs ∧ SqT K H c ys) (YPair (fun i => xs[i]?) (fun i => ys[i]?)) := by
  subst hn
  constructor
  · intro m _ lt both
    exact ⟨xs, ys, xs[m]'(by omega), ys[m]'(by omega), both.1, both.2, List.getElem?_eq_getElem _, List.getElem?_eq_getElem _⟩
  · exact fun _ both => ⟨xs, ys, both.1, both.2, by omega⟩
  · rintro m G y G' _ both ⟨P, p, q, e1, e2, e3, e4, e5⟩
    exact ⟨P, p, q, e1, e2, e3, e4 xs both.1, e5 ys both.2⟩
theorem Cv.laid {es : Nat → List PyData} {Dl T : Addr} {n : Nat} {h' : Hp} {o : HO} (p : Cv K b h es Dl n h') (hT : h' T = none) : Cv K b h es Dl n (upd h' T o) := by
  obtain ⟨hD, b', acc, F, bD, hA, DA⟩ := p
  exact ⟨hD, b', acc, F.trans (Fr.fresh F.sub hT), bD, by rw [upd_ne (ne_of_none hA hT)]; exact hA, DA⟩
theorem wipe2 {v w : Nat} {x y : Option V} (hvw : v ≠ w) : wipe (((wipe σ [v, w]).set v x).set w y) [v, w] = wipe σ [v, w] := by
  show (((((σ.set w none).set v none).set v x).set w y).set w none).set v none = (σ.set w none).set v none
  rw [List.set_set, List.set_set, List.set_comm _ _ (Ne.symm hvw), List.set_set, List.set_comm (i := v) (j := w) _ _ hvw, List.set_set]
theorem zl_core {xs ys : List V} {ds es : List PyData} {J : It} {G : Hp → Prop} (w : Walk J (min xs.length ys.length) G (YPair (fun i => xs[i]?) (fun i => ys[i]?)))
    {n1 n2 : Nat} {vs : List Nat} (g : PyData → PyData → PyData) (Sl : Slots K b σ Δ) (hw : ∀ x y, wipe (((wipe σ vs).set n1 (some x)).set n2 (some y)) vs = wipe σ vs) (hzz : ds.length ≤ 90000)
    (ht : ∀ (m : Nat) d e σ2 b2, ds[m]? = some d → es[m]? = some e → Same b b2 → Slots K b2 σ2 (((wipeD Δ vs).set n1 (.dat d)).set n2 (.dat e)) → EvD K te σ2 b2 (g d e))
    {b1 h1 : Hp} (s : Same b b1) {Q : VK} {b2 h2 : Hp} (F : Fr [] b1 h1 b2 h2) (dx : DaAll K b2 xs ds) (dy : DaAll K b2 ys es) (hG : ∀ b' h', Fr [] b2 h2 b' h' → G h')
    (q : ∀ v b2 h2, Fr [] b1 h1 b2 h2 → Da K b2 v (.list (List.zipWith g ds es)) → Q v h2) (Dl : Addr) (hD : h2 Dl = none) :
    ∃ W : Nat → Nat → Hp → Prop, (∃ m, W 0 m (upd h2 Dl (.lst []))) ∧ ∀ i m H, W i m H →
      (J.stop i H ∧ Q (.ref Dl) H) ∨ (J.go i H ∧ ∃ Nx : Hp → Prop, (∀ H', Nx H' → ∃ m', m' < m ∧ W (i + 1) m' H') ∧ ∀ x H', J.yld i H x H' → gTup K 2 (gCons (gName n1) (gCons (gName n2) gNil)) x (wipe σ vs) H' fun σ2 H2 => wipe σ2 vs = wipe σ vs ∧ tYes σ2 H2 fun b H3 =>
        if b = true then te σ2 H3 fun y H4 => ∃ acc, H4 Dl = some (.lst acc) ∧ acc.length < sizeLine ∧ Nx (upd H4 Dl (.lst (acc ++ [y]))) else Nx H3) := by
  refine lc_it w (Cv K b2 h2 (fun i => List.zipWith g (ds.take i) (es.take i)) Dl) (cv_0 F.sub hD (by simp)) (fun i H' _ p => ?_) (fun i v H H' hi p y => ?_) (fun H' p => ?_)
  · obtain ⟨_, b', acc, F2, _⟩ := p
    exact hG b' H' F2
  · obtain ⟨T, x, z, rfl, hT, rfl, e1, e2⟩ := y
    obtain ⟨d, f1, dd⟩ := dx.at e1
    obtain ⟨e, f2, de⟩ := dy.at e2
    refine ⟨T, [x, z], rfl, .inl (.inl upd_same), rfl, x, [z], rfl, z, [], rfl, rfl, hw x z, ?_⟩
    have hl : (List.zipWith g (ds.take i) (es.take i)).length < 100000 := by rw [List.length_zipWith, List.length_take, List.length_take]; omega
    have C := p.laid (o := .tup [x, z]) hT
    refine cv_turn (te := te) (t := tYes) (f := true) C (fun b3 _ => b_yes) (fun b3 F3 _ => ⟨g d e, ht i d e _ b3 f1 f2 ((s.trans F.base).trans F3.base) ((((Sl.mono ((s.trans F.base).trans F3.base)).wipe vs).set (z := .dat d) ⟨x, rfl, dd.mono F3.base⟩ n1).set (z := .dat e) ⟨z, rfl, de.mono F3.base⟩ n2), ?_⟩) (fun z => by cases z) hl
    show List.zipWith g (ds.take (i + 1)) (es.take (i + 1)) = List.zipWith g (ds.take i) (es.take i) ++ [g d e]
    rw [List.take_add_one, List.take_add_one, f1, f2]
    have h1 : i < ds.length := by rw [← dx.length]; omega
    have h2 : i < es.length := by rw [← dy.length]; omega
    rw [List.zipWith_append (by rw [List.length_take, List.length_take]; omega)]
    rfl
  · obtain ⟨_, b', acc, F2, bD, hA, DA⟩ := p
    have e : List.zipWith g (ds.take (min xs.length ys.length)) (es.take (min xs.length ys.length)) = List.zipWith g ds es := by
      rw [dx.length, dy.length, ← List.take_zipWith]
      exact List.take_of_length_le (by rw [List.length_zipWith]; exact Nat.le_refl _)
    have DA : DaAll K b' acc (List.zipWith g ds es) := e ▸ (show DaAll K b' acc (List.zipWith g (ds.take (min xs.length ys.length)) (es.take (min xs.length ys.length))) from DA)
    obtain ⟨s1, s2⟩ := Fr.seal F2.sub bD hA
    refine q (.ref Dl) (upd b' Dl (.lst acc)) H' (F.trans ⟨F2.base.trans s1, s2, fun c n m => ?_, F2.keep, F2.live⟩) (.lst upd_same (DA.mono s1))
    have hc : c ≠ Dl := by intro e; subst e; rw [hD] at m; cases m
    rw [upd_ne hc]
    exact F2.out c n m
theorem d_lcZL {tA : TA} {n1 n2 : Nat} {vs : List Nat} {ds es : List PyData} (g : PyData → PyData → PyData) (Sl : Slots K b σ Δ) (h : EvDs K tA σ b [.list ds, .list es]) (hz : ds.length ≤ 90000) (hw : ∀ x y, wipe (((wipe σ vs).set n1 (some x)).set n2 (some y)) vs = wipe σ vs)
    (ht : ∀ (m : Nat) d e σ2 b2, ds[m]? = some d → es[m]? = some e → Same b b2 → Slots K b2 σ2 (((wipeD Δ vs).set n1 (.dat d)).set n2 (.dat e)) → EvD K te σ2 b2 (g d e)) :
    EvD K (tLc (RZ.iZipA K tA) (gTup K 2 (gCons (gName n1) (gCons (gName n2) gNil))) tYes te vs) σ b (.list (List.zipWith g ds es)) := fun b1 h1 s z Q q =>
  h b1 h1 s z _ fun v b2 h2 F dd => by
    cases dd with
    | cons x r =>
      cases r with
      | cons y r =>
        cases r
        cases x with
        | @lst a xs _ sa da =>
          cases y with
          | @lst c ys _ sc dc =>
            refine ⟨a, c, xs, ys, rfl, .inl ⟨.inl (.inl (F.sub _ _ sa)), .inl (.inl (F.sub _ _ sc)), fun Dl hD => ?_⟩⟩
            exact zl_core (walk_zip rfl) g Sl hw hz ht s F da dc (fun b' h' F2 => ⟨.inl (.inl (F2.sub _ _ (F2.base _ _ sa))), .inl (.inl (F2.sub _ _ (F2.base _ _ sc)))⟩) q Dl hD
theorem d_lcZT {tA : TA} {n1 n2 : Nat} {vs : List Nat} {ds es : List PyData} (g : PyData → PyData → PyData) (Sl : Slots K b σ Δ) (h : EvDs K tA σ b [.tuple ds, .tuple es]) (hz : ds.length ≤ 90000) (hw : ∀ x y, wipe (((wipe σ vs).set n1 (some x)).set n2 (some y)) vs = wipe σ vs)
    (ht : ∀ (m : Nat) d e σ2 b2, ds[m]? = some d → es[m]? = some e → Same b b2 → Slots K b2 σ2 (((wipeD Δ vs).set n1 (.dat d)).set n2 (.dat e)) → EvD K te σ2 b2 (g d e)) :
    EvD K (tLc (RZ.iZipA K tA) (gTup K 2 (gCons (gName n1) (gCons (gName n2) gNil))) tYes te vs) σ b (.list (List.zipWith g ds es)) := fun b1 h1 s z Q q =>
  h b1 h1 s z _ fun v b2 h2 F dd => by
    cases dd with
    | cons x r =>
      cases r with
      | cons y r =>
        cases r
        cases x with
        | @tup a xs _ sa da =>
          cases y with
          | @tup c ys _ sc dc =>
            refine ⟨a, c, xs, ys, rfl, .inr ⟨sqT_mono F.sub sa, sqT_mono F.sub sc, fun Dl hD => ?_⟩⟩
            exact zl_core (walk_zipT rfl) g Sl hw hz ht s F da dc (fun b' h' F2 => ⟨sqT_mono (F2.base.trans F2.sub) sa, sqT_mono (F2.base.trans F2.sub) sc⟩) q Dl hD
/-! draws: the box at a, of at most n draws so far -/
def Tin (a : Addr) (n : Int) (h : Hp) : Prop := ∃ x y z : Int, h a = some (.lst [.int x, .int y, .int z]) ∧ 0 ≤ x ∧ y.natAbs < 2 ^ 70 ∧ 0 ≤ z ∧ z ≤ n
def mostDraws : Int := 1000000000
/-- a def whose first argument is the box; at most c draws; what it gives is one of R -/
def spT (K : PySem.W.Frag) (c : Int) (R : List PyData → PyData → Prop) (P : List PyData → Prop) : Sp := fun vs H Q _ => ∃ b a ws ds n, vs = .ref a :: ws ∧ Same b H ∧ b a = none ∧ Tin a n H ∧ n + c ≤ mostDraws ∧ DaAll K b ws ds ∧ P ds ∧
  ∀ v d b2 h2, R ds d → Fr [a] b H b2 h2 → b2 a = none → Tin a (n + c) h2 → Da K b2 v d → Q v h2
theorem Tin.keep {a : Addr} {n : Int} {b2 h2 : Hp} (T : Tin a n h) (F : Fr [] b h b2 h2) (hb : b a = none) : Tin a n h2 ∧ b2 a = none := by
  obtain ⟨x, y, z, e, q⟩ := T
  exact ⟨⟨x, y, z, F.keep a _ hb (by intro q; cases q) e, q⟩, F.out a hb (by rw [e]; rfl)⟩
theorem Tin.le {a : Addr} {n m : Int} (T : Tin a n h) (e : n ≤ m) : Tin a m h := by
  obtain ⟨x, y, z, q, w1, w2, w3, w4⟩ := T
  exact ⟨x, y, z, q, w1, w2, w3, Int.le_trans w4 e⟩
theorem c_callT {a : Addr} {n c : Int} {m : Nat} {R : List PyData → PyData → Prop} {P : List PyData → Prop} {E : XK} {tr : TA} {ds : List PyData} {Q : VK} (Z : S K B b0 h0 σ b h Δ) (hs : Δ[m]? = some (.adr a)) (hb : b a = none) (hB : a ∈ B ∨ h0 a = none) (T : Tin a n h) (hn : n + c ≤ mostDraws) (ha : EvDs K tr σ b ds) (hP : P ds)
    (k : ∀ v d b2 h2, R ds d → S K B b0 h0 σ b2 h2 Δ → Fr [a] b h b2 h2 → b2 a = none → Tin a (n + c) h2 → Da K b2 v d → Q v h2) : tCall (spT K c R P) [] E (tCons (tVar m) tr) σ h Q := by
  obtain ⟨x, e1, e2⟩ := Z.sl.get hs
  cases e2
  refine ⟨.ref a, e1, ha b h (Same.refl b) Z.sub _ fun ws b2 h2 F dd => ?_⟩
  obtain ⟨T2, hb2⟩ := T.keep F hb
  refine ⟨b2, a, ws, ds, n, by rw [List.append_nil], F.sub, hb2, T2, hn, dd, hP, fun v d b3 h3 r F3 hb3 T3 D3 => ?_⟩
  have G : Fr [a] b h b3 h3 := F.any.trans F3
  refine k v d b3 h3 r ⟨Z.fr.new G fun c m => ?_, Z.sl.mono G.base⟩ G hb3 T3 D3
  have e : c = a := by simpa using m
  rw [e]
  exact hB
/-- reading the box as data for a moment: a scalar comes of it -/
theorem Fr.back {a : Addr} {o : HO} {b2 h2 : Hp} (z : Same b h) (hb : b a = none) (ha : h a = some o) (F : Fr [] (upd b a o) h b2 h2) : Fr [] b h b h2 ∧ h2 a = some o := by
  have s1 := (Fr.seal z hb ha).1
  have e : h2 a = some o := F.sub _ _ (F.base _ _ upd_same)
  refine ⟨⟨Same.refl b, s1.trans (F.base.trans F.sub), fun _ q _ => q, fun c u q _ w => ?_, F.live⟩, e⟩
  by_cases hc : c = a
  · subst hc
    rw [ha] at w
    cases w
    exact e
  · exact F.keep c u (by rw [upd_ne hc]; exact q) (by intro q; cases q) w
end
end DV

namespace DV
open PySem L2
/-! operators for whatever comes -/
def rAddA (K : PySem.W.Frag) : R2 := fun x y H Q => rI0 (fun i j => .int (i + j)) x y H Q ∨ (fun x y H Q => (fun x y H Q => ∃ i j, x = .str i ∧ y = .str j ∧ i.length + j.length ≤ sizeLine ∧ Q (.str (i ++ j)) H) x y H Q ∨ (fun x y H Q => rCat x y H Q ∨ rCatT K x y H Q) x y H Q) x y H Q
def rMulA : R2 := fun x y H Q => rI CMulW (fun i j => .int (i * j)) x y H Q ∨ (fun x y H Q => rI CMul (fun i j => .int (i * j)) x y H Q ∨ rRep x y H Q) x y H Q
def rEqA (K : PySem.W.Frag) : R2 := fun x y H Q => rEq x y H Q ∨ rEqD K x y H Q
def rNeA (K : PySem.W.Frag) : R2 := fun x y H Q => rNe x y H Q ∨ rNeD K x y H Q
section
variable {X : Cx}
theorem op_addA : OpR X (binaryOp .Add) (rAddA X.K) := OpR.or op_add (OpR.or op_add_str (OpR.or op_cat op_catT))
theorem op_mulA : OpR X (binaryOp .Mult) rMulA := OpR.or op_mulW (OpR.or op_mul op_rep)
theorem op_eqA (hu : X.A.units + 64 < cLine) : OpR X (compareOp .Eq) (rEqA X.K) := OpR.or op_eq (op_eqD hu)
theorem op_neA (hu : X.A.units + 64 < cLine) : OpR X (compareOp .NotEq) (rNeA X.K) := OpR.or op_ne (op_neD hu)
end
section
variable {K : PySem.W.Frag} {B : List Addr} {b0 h0 : Hp} {σ : St} {b b' h : Hp} {te ta tb tc : TE} {d d1 d2 d3 : PyData} {Δ : List SD} {t u : TT} {r r' : R2} {i j : Int} {D : Ends} {tu tw tz : TS}
theorem rv_addI : RvD K (rAddA K) (.int i) (.int j) (.int (i + j)) := rv_or1 rv_I0
theorem rv_addL {ds es : List PyData} (hz : ds.length + es.length ≤ 100000) : RvD K (rAddA K) (.list ds) (.list es) (.list (ds ++ es)) := rv_or2 (rv_or2 (rv_or1 (rv_catL hz)))
theorem rv_addT {ds es : List PyData} (h1 : ds ≠ []) (h2 : es ≠ []) (hz : ds.length + es.length ≤ 100000) : RvD K (rAddA K) (.tuple ds) (.tuple es) (.tuple (ds ++ es)) := rv_or2 (rv_or2 (rv_or2 (rv_catT h1 h2 hz)))
theorem rv_addS {x y : Str} (hz : x.length + y.length ≤ 100000) : RvD K (rAddA K) (.str x) (.str y) (.str (x ++ y)) := rv_or2 (rv_or1 fun b1 h1 z _ _ X Y Q q => by
  cases X; cases Y
  exact ⟨x, y, rfl, rfl, Nat.le_trans hz (by decide), q _ b1 h1 (Fr.rfl' z) (.str _)⟩)
theorem rv_subI : RvD K (rI0 fun i j => .int (i - j)) (.int i) (.int j) (.int (i - j)) := rv_I0
theorem rv_mulI (h1 : i.natAbs < 2 ^ 200) (h2 : j.natAbs < 2 ^ 200) : RvD K rMulA (.int i) (.int j) (.int (i * j)) := rv_or1 (rv_I (wide_mul h1 h2 (by decide) (by decide) (by decide)))
theorem rv_mulS (h2 : CMul i j) : RvD K rMulA (.int i) (.int j) (.int (i * j)) := rv_or2 (rv_or1 (rv_I h2))
theorem rv_modI (h : 0 < j) : RvD K (rI (fun _ j => 0 < j) fun i j => .int (i % j)) (.int i) (.int j) (.int (i % j)) := rv_I h
theorem rv_divI (h : 0 < j) (h2 : j.natAbs < 2 ^ 200) : RvD K (rI CDivW fun i j => .int (i / j)) (.int i) (.int j) (.int (i / j)) := rv_I (wide_div h h2 (by decide) (by decide))
theorem rv_ltI : RvD K (rI0 fun i j => .bl (decide (i < j))) (.int i) (.int j) (.bool (decide (i < j))) := rv_B0
theorem rv_leI : RvD K (rI0 fun i j => .bl (decide (i ≤ j))) (.int i) (.int j) (.bool (decide (i ≤ j))) := rv_B0
theorem rv_gtI : RvD K (rI0 fun i j => .bl (decide (j < i))) (.int i) (.int j) (.bool (decide (j < i))) := rv_B0
theorem rv_geI : RvD K (rI0 fun i j => .bl (decide (j ≤ i))) (.int i) (.int j) (.bool (decide (j ≤ i))) := rv_B0
theorem rv_eqAI : RvD K (rEqA K) (.int i) (.int j) (.bool (decide (i = j))) := rv_or1 rv_eqI
theorem rv_eqAB {x y : Bool} : RvD K (rEqA K) (.bool x) (.bool y) (.bool (x == y)) := rv_or1 rv_eqB
theorem rv_eqAS {x y : Str} : RvD K (rEqA K) (.str x) (.str y) (.bool (decide (x = y))) := rv_or1 rv_eqS
theorem rv_eqAN : RvD K (rEqA K) .none .none (.bool true) := rv_or1 rv_eqN
theorem rv_eqAD (h1 : SeqAt.shaped d1 = true) (h2 : SeqAt.shaped d2 = true) : RvD K (rEqA K) d1 d2 (.bool (PyData.eqv d1 d2)) := rv_or2 (rv_eqD h1 h2)
theorem rv_neAI : RvD K (rNeA K) (.int i) (.int j) (.bool (!decide (i = j))) := rv_or1 rv_neI
theorem rv_neAB {x y : Bool} : RvD K (rNeA K) (.bool x) (.bool y) (.bool (!(x == y))) := rv_or1 rv_neB
theorem rv_neAD (h1 : SeqAt.shaped d1 = true) (h2 : SeqAt.shaped d2 = true) : RvD K (rNeA K) d1 d2 (.bool (!PyData.eqv d1 d2)) := rv_or2 (rv_neD h1 h2)
theorem d_varZ {n : Nat} (Z : S K B b0 h0 σ b h Δ) (e : Δ[n]? = some (.dat d)) : EvD K (tVar n) σ b d := d_var Z.sl e
/-- with defaults -/
theorem d_callD {R : List PyData → PyData → Prop} {E : XK} {tA : TA} {ds es : List PyData} {dvs : List V} (h : EvDs K tA σ b ds) (hd : ∀ H, DaAll K H dvs es) (hr : R (ds ++ es) d) : EvD K (tCall (spD K R) dvs E tA) σ b d := fun b1 h1 s z Q q =>
  h b1 h1 s z _ fun vs b2 h2 F D => ⟨b2, ds ++ es, d, F.sub, D.append (hd b2), hr, fun v b3 h3 F2 D2 => q v b3 h3 (F.trans F2) D2⟩
theorem d_call0 {R : List PyData → PyData → Prop} {E : XK} (hr : R [] d) : EvD K (tCall (spD K R) [] E tNil) σ b d := d_call ds_nil hr
/-- a def in a slot -/
theorem d_callL {n : Nat} {f : Addr} {R : List PyData → PyData → Prop} {E : XK} {tA : TA} {ds : List PyData} (Sl : Slots K b σ Δ) (e : Δ[n]? = some (.adr f)) (h : EvDs K tA σ b ds) (hr : R ds d) : EvD K (tCallL n f (spD K R) [] E tA) σ b d := fun b1 h1 s z Q q => by
  obtain ⟨x, e1, e2⟩ := Sl.get e
  cases e2
  refine ⟨e1, ?_⟩
  exact d_call (E := E) h hr b1 h1 s z Q q
theorem s_retE (Z : S K B b0 h0 σ b h Δ) (he : EvD K te σ b d) (e : d = d1) (k : ∀ v b2 h2, Fr B b0 h0 b2 h2 → Da K b2 v d1 → D.rt v h2) : tRet te D σ h := s_ret Z (he.is e) k
theorem q_whenT {c : Bool} (Z : S K B b0 h0 σ b h Δ) (hb : EvB t σ b c) (e : c = true) (k : ∀ b2 h2, Fr [] b h b2 h2 → S K B b0 h0 σ b2 h2 Δ → tu { D with nx := tz D } σ h2) : tSeq (tIfS t tu tw) tz D σ h := by
  subst e
  exact q_if Z hb (fun _ => k) fun z => by cases z
theorem q_whenF {c : Bool} (Z : S K B b0 h0 σ b h Δ) (hb : EvB t σ b c) (e : c = false) (k : ∀ b2 h2, Fr [] b h b2 h2 → S K B b0 h0 σ b2 h2 Δ → tz D σ h2) : tSeq (tIfS t tu tNext) tz D σ h := by
  subst e
  exact q_when Z hb (fun z => by cases z) fun _ => k
theorem s_whenT {c : Bool} (Z : S K B b0 h0 σ b h Δ) (hb : EvB t σ b c) (e : c = true) (k : ∀ b2 h2, Fr [] b h b2 h2 → S K B b0 h0 σ b2 h2 Δ → tu D σ h2) : tIfS t tu tw D σ h := by
  subst e
  exact s_if Z hb (fun _ => k) fun z => by cases z
theorem s_whenF {c : Bool} (Z : S K B b0 h0 σ b h Δ) (hb : EvB t σ b c) (e : c = false) (k : ∀ b2 h2, Fr [] b h b2 h2 → S K B b0 h0 σ b2 h2 Δ → tw D σ h2) : tIfS t tu tw D σ h := by
  subst e
  exact s_if Z hb (fun z => by cases z) fun _ => k
theorem d_is (h : EvD K te σ b d) (e : d = d1) : EvD K te σ b d1 := h.is e
/-! data: how deep, how it is with tuples for lists -/
def fine : Nat → PyData → Bool
  | _, .none => true | _, .bool _ => true | _, .int _ => true | _, .str _ => true
  | 0, _ => false
  | n + 1, .list xs => decide (xs.length ≤ 90000) && xs.all (fine n)
  | n + 1, .tuple xs => decide (xs.length ≤ 90000) && xs.all (fine n)
  | _ + 1, .dict _ => false
def tupN : Nat → PyData → PyData
  | n + 1, .list xs => .tuple (xs.map (tupN n))
  | n + 1, .tuple xs => .tuple (xs.map (tupN n))
  | _, d => d
def isNum : PyData → Bool
  | .int _ => true
  | _ => false
theorem all_ints {ds : List PyData} {p : PyData → Bool} : ((ds.filter fun _ => true).map fun d => PyData.bool (p d)) = (ds.map p).map PyData.bool := by
  rw [List.filter_eq_self.mpr (fun _ _ => rfl), List.map_map]
  rfl
theorem filt (ds : List PyData) : (ds.filter fun _ => true) = ds := List.filter_eq_self.mpr fun _ _ => rfl
end
/-- a def that hands its second argument back with tuples for lists, if the first one is true of that -/
def spSuch (K : PySem.W.Frag) (f : Addr) (R : List PyData → PyData → Prop) : Sp := fun vs H Q _ => ∃ b v x, vs = [.ref f, v] ∧ Same b H ∧ Da K b v x ∧ fine 6 x = true ∧ R [tupN 6 x] (.bool true) ∧ ∀ v b2 h2, Fr [] b H b2 h2 → Da K b2 v (tupN 6 x) → Q v h2
theorem d_such {K : PySem.W.Frag} {σ : St} {b : Hp} {te : TE} {x : PyData} {f : Addr} {R : List PyData → PyData → Prop} {E : XK} (h : EvD K te σ b x) (hf : fine 6 x = true) (hr : R [tupN 6 x] (.bool true)) : EvD K (tCall (spSuch K f R) [] E (tCons (tC (.ref f)) (tCons te tNil))) σ b (tupN 6 x) := fun b1 h1 s z Q q =>
  h b1 h1 s z _ fun v b2 h2 F D => ⟨b2, v, x, rfl, F.sub, D, hf, hr, fun v b3 h3 F2 D2 => q v b3 h3 (F.trans F2) D2⟩
end DV

namespace DV
open PySem L2
section
variable {K : PySem.W.Frag} {B : List Addr} {b0 h0 : Hp} {σ : St} {b b' h : Hp} {te ta tb tc : TE} {d d1 d2 d3 : PyData} {Δ : List SD} {t u : TT} {r r' : R2} {i j : Int} {D : Ends} {tu tw tz : TS}
theorem ixN_nat {n j : Nat} (lt : j < n) : ixN n (j : Int) = some j := by
  have lt' : (j : Int) < (n : Int) := Int.ofNat_lt.mpr lt
  simp [ixN, lt']
/-! the box (a list that is changed) read for a moment -/
theorem d_ixA {n : Nat} {a : Addr} {xs : List V} {v : V} (Sl : Slots K b σ Δ) (e : Δ[n]? = some (.adr a)) (ha : b a = some (.lst xs)) (hi : EvD K tb σ b (.int i)) (hv : atI xs i = some v) (hd : ∀ b, Da K b v d) : EvD K (tOp (rIx K) (tVar n) tb) σ b d := fun b1 h1 s z Q q => by
  obtain ⟨x, e1, e2⟩ := Sl.get e
  cases e2
  refine ⟨.ref a, e1, hi b1 h1 s z _ fun y b2 h2 F dd => ?_⟩
  cases dd
  exact .inl ⟨a, xs, i, v, rfl, rfl, .inl (.inl (F.sub _ _ (F.base _ _ (s _ _ ha)))), hv, q v b2 h2 F (hd b2)⟩
theorem q_asgB {n : Nat} {a : Addr} {xs : List V} (Z : S K B b0 h0 σ b h Δ) (hb : b a = none) (hp : h a = some (.lst xs)) (he : EvD K te σ (upd b a (.lst xs)) (.int i)) (k : ∀ σ2 h2, S K B b0 h0 σ2 b h2 (Δ.set n (.dat (.int i))) → h2 a = some (.lst xs) → tz D σ2 h2) : tSeq (tAsg te (gName n)) tz D σ h := by
  obtain ⟨s1, s2⟩ := Fr.seal Z.sub hb hp
  refine he.go s2 fun v b2 h2 F dd => ?_
  obtain ⟨F2, e⟩ := Fr.back Z.sub hb hp F
  cases dd
  exact k _ h2 (Z.set F2 (.int i)) e
theorem q_asgBP {n : Nat} {a : Addr} {xs : List V} {i : Int} (Pr : Int → Prop) (Z : S K B b0 h0 σ b h Δ) (hb : b a = none) (hp : h a = some (.lst xs)) (he : EvD K te σ (upd b a (.lst xs)) (.int i)) (hP : Pr i) (k : ∀ i, Pr i → ∀ σ2 h2, S K B b0 h0 σ2 b h2 (Δ.set n (.dat (.int i))) → h2 a = some (.lst xs) → tz D σ2 h2) : tSeq (tAsg te (gName n)) tz D σ h :=
  q_asgB Z hb hp he fun σ2 h2 => k i hP σ2 h2
theorem q_setB {n m : Nat} {a : Addr} {xs : List V} (Z : S K B b0 h0 σ b h Δ) (hs : Δ[n]? = some (.adr a)) (hb : b a = none) (hB : a ∈ B ∨ h0 a = none) (hp : h a = some (.lst xs)) (he : EvD K te σ (upd b a (.lst xs)) (.int i)) (hm : m < xs.length) (k : ∀ h2, S K B b0 h0 σ b h2 Δ → h2 a = some (.lst (xs.set m (.int i))) → tz D σ h2) :
    tSeq (tAsg te (gSub (tVar n) (tC (.int (m : Int))) rSetL)) tz D σ h := by
  obtain ⟨s1, s2⟩ := Fr.seal Z.sub hb hp
  refine he.go s2 fun v b2 h2 F dd => ?_
  obtain ⟨F2, e⟩ := Fr.back Z.sub hb hp F
  cases dd
  have Z2 := Z.go F2
  obtain ⟨x, e1, e2⟩ := Z2.sl.get hs
  cases e2
  refine ⟨.ref a, e1, a, xs, (m : Int), m, rfl, rfl, e, ixN_nat hm, ?_⟩
  exact k _ ⟨Z2.fr.new (Fr.mut Z2.sub hb) fun c z => by
    have q : c = a := by simpa using z
    rw [q]; exact hB, Z2.sl⟩ upd_same
theorem q_ifB {a : Addr} {xs : List V} {c : Bool} (Z : S K B b0 h0 σ b h Δ) (hb : b a = none) (hp : h a = some (.lst xs)) (he : EvB t σ (upd b a (.lst xs)) c) (k1 : c = true → ∀ h2, S K B b0 h0 σ b h2 Δ → h2 a = some (.lst xs) → tu { D with nx := tz D } σ h2) (k2 : c = false → ∀ h2, S K B b0 h0 σ b h2 Δ → h2 a = some (.lst xs) → tz D σ h2) : tSeq (tIfS t tu tNext) tz D σ h := by
  obtain ⟨s1, s2⟩ := Fr.seal Z.sub hb hp
  refine he _ h (Same.refl _) s2 _ fun b2 h2 F => ?_
  obtain ⟨F2, e⟩ := Fr.back Z.sub hb hp F
  cases c with
  | true => exact k1 rfl h2 (Z.go F2) e
  | false => exact k2 rfl h2 (Z.go F2) e
theorem s_retB {a : Addr} {xs : List V} (Z : S K B b0 h0 σ b h Δ) (hb : b a = none) (hp : h a = some (.lst xs)) (he : EvD K te σ (upd b a (.lst xs)) (.int i)) (k : ∀ h2, S K B b0 h0 σ b h2 Δ → h2 a = some (.lst xs) → D.rt (.int i) h2) : tRet te D σ h := by
  obtain ⟨s1, s2⟩ := Fr.seal Z.sub hb hp
  refine he.go s2 fun v b2 h2 F dd => ?_
  obtain ⟨F2, e⟩ := Fr.back Z.sub hb hp F
  cases dd
  exact k h2 (Z.go F2) e
theorem sl_box {a : Addr} {xs : List V} (Z : S K B b0 h0 σ b h Δ) (hb : b a = none) (hp : h a = some (.lst xs)) : Slots K (upd b a (.lst xs)) σ Δ := Z.sl.mono (Fr.seal Z.sub hb hp).1
/-! in a list of ints -/
theorem eqV_int {i j : Int} : eqV (.int i) (.int j) = decide (i = j) := by
  unfold eqV
  by_cases h : i = j
  · subst h; simp
  · simp [h]
theorem rv_inI {ns : List Int} : RvD K (rIn K false) (.int i) (.list (ns.map .int)) (.bool (decide (i ∈ ns))) := fun b1 h1 z x y X Y Q q => by
  cases X
  cases Y with
  | @lst p xs _ s a =>
    rw [a.ints] at s
    refine ⟨p, ns.map V.int, rfl, .inl (.inl (.inl (z _ _ s))), rfl, ?_, ?_⟩
    · rw [List.all_eq_true]
      intro v hv
      obtain ⟨n, _, rfl⟩ := List.mem_map.mp hv
      rfl
    · have e : (if false = true then !inV (V.int i) (ns.map V.int) else inV (V.int i) (ns.map V.int)) = decide (i ∈ ns) := by
        show inV (V.int i) (ns.map V.int) = _
        unfold inV
        rw [List.any_map]
        by_cases hm : i ∈ ns
        · rw [decide_eq_true hm, List.any_eq_true]
          exact ⟨i, hm, by show eqV (V.int i) (V.int i) = true; rw [eqV_int]; simp⟩
        · rw [decide_eq_false hm]
          refine Bool.eq_false_iff.mpr fun z => ?_
          obtain ⟨n, h1, h2⟩ := List.any_eq_true.mp z
          have h3 : eqV (V.int n) (V.int i) = true := h2
          rw [eqV_int] at h3
          have := of_decide_eq_true h3
          subst this
          exact hm h1
      rw [e]
      exact q _ b1 h1 (Fr.rfl' z) (.bl _)
theorem rv_powI (h : CPow i j) : RvD K (rI CPow fun i j => .int (i ^ j.toNat)) (.int i) (.int j) (.int (i ^ j.toNat)) := rv_I h
/-- a def whose value is one of several -/
def spN (K : PySem.W.Frag) (P : List PyData → Prop) (R : List PyData → PyData → Prop) : Sp := fun vs H Q _ => ∃ b ds, Same b H ∧ DaAll K b vs ds ∧ P ds ∧ ∀ v d b2 h2, R ds d → Fr [] b H b2 h2 → Da K b2 v d → Q v h2
theorem Slots.adr {n : Nat} {a : Addr} (Sl : Slots K b σ Δ) (e : Δ[n]? = some (.adr a)) : σ[n]? = some (some (.ref a)) := by
  obtain ⟨x, e1, e2⟩ := Sl.get e
  rw [e1, e2]
end
end DV

namespace DV
open PySem L2
/-! what evaluates with draws from the box at a: at most c of them, to one of R -/
def EvT (K : PySem.W.Frag) (te : TE) (σ : St) (b : Hp) (a : Addr) (c : Int) (R : PyData → Prop) : Prop := ∀ b1 h1 n, Same b b1 → Same b1 h1 → b1 a = none → Tin a n h1 → n + c ≤ mostDraws → ∀ Q : VK,
  (∀ v d b2 h2, R d → Fr [a] b1 h1 b2 h2 → b2 a = none → Tin a (n + c) h2 → Da K b2 v d → Q v h2) → te σ h1 Q
def EvTs (K : PySem.W.Frag) (ta : TA) (σ : St) (b : Hp) (a : Addr) (c : Int) (R : List PyData → Prop) : Prop := ∀ b1 h1 n, Same b b1 → Same b1 h1 → b1 a = none → Tin a n h1 → n + c ≤ mostDraws → ∀ Q : List V → Hp → Prop,
  (∀ vs ds b2 h2, R ds → Fr [a] b1 h1 b2 h2 → b2 a = none → Tin a (n + c) h2 → DaAll K b2 vs ds → Q vs h2) → ta σ h1 Q
def EvBT (t : TT) (σ : St) (b : Hp) (a : Addr) (c : Int) (R : Bool → Prop) : Prop := ∀ b1 h1 n, Same b b1 → Same b1 h1 → b1 a = none → Tin a n h1 → n + c ≤ mostDraws → ∀ Q : Bool → Hp → Prop,
  (∀ d b2 h2, R d → Fr [a] b1 h1 b2 h2 → b2 a = none → Tin a (n + c) h2 → Q d h2) → t σ h1 Q
section
variable {K : PySem.W.Frag} {B : List Addr} {b0 h0 : Hp} {σ : St} {b b' h : Hp} {te ta tb tc : TE} {d d1 d2 d3 : PyData} {Δ : List SD} {t u : TT} {r r' : R2} {i j : Int} {D : Ends} {tu tw tz : TS} {a : Addr} {c c1 c2 n : Int} {R R1 R2 : PyData → Prop}
theorem t_pure (hd : EvD K te σ b d) : EvT K te σ b a 0 (· = d) := fun b1 h1 n s z hb T _ Q q => hd b1 h1 s z Q fun v b2 h2 F dd => by
  obtain ⟨T2, hb2⟩ := T.keep F hb
  exact q v d b2 h2 rfl F.any hb2 (by rw [Int.add_zero]; exact T2) dd
theorem t_mono (h : EvT K te σ b a c R) (e : ∀ d, R d → R1 d) : EvT K te σ b a c R1 := fun b1 h1 n s z hb T hn Q q => h b1 h1 n s z hb T hn Q fun v d b2 h2 r => q v d b2 h2 (e d r)
theorem t_le (h : EvT K te σ b a c R) (e : c ≤ c1) : EvT K te σ b a c1 R := fun b1 h1 n s z hb T hn Q q => h b1 h1 n s z hb T (by omega) Q fun v d b2 h2 r F hb2 T2 => q v d b2 h2 r F hb2 (T2.le (by omega))
theorem t_op {R1 R2 : PyData → Prop} {r : L2.R2} (ha : EvT K ta σ b a c1 R1) (hb : EvT K tb σ b a c2 R2) (h1 : 0 ≤ c1) (h2 : 0 ≤ c2) (hr : ∀ d1 d2, R1 d1 → R2 d2 → ∃ d, RvD K r d1 d2 d ∧ R d) : EvT K (tOp r ta tb) σ b a (c1 + c2) R := fun b1 g1 n s z hb1 T hn Q q =>
  ha b1 g1 n s z hb1 T (by omega) _ fun x dx b2 g2 rx F1 hb2 T2 D1 => hb b2 g2 (n + c1) (s.trans F1.base) F1.sub hb2 T2 (by omega) _ fun y dy b3 g3 ry F2 hb3 T3 D2 => by
    obtain ⟨d, rv, rd⟩ := hr dx dy rx ry
    refine rv b3 g3 F2.sub x y (D1.mono F2.base) D2 Q fun v b4 g4 F3 D3 => ?_
    obtain ⟨T4, hb4⟩ := T3.keep F3 hb3
    exact q v d b4 g4 rd ((F1.trans F2).trans F3.any) hb4 (by rw [← Int.add_assoc]; exact T4) D3
theorem t_callT {m : Nat} {R : List PyData → PyData → Prop} {P : List PyData → Prop} {E : XK} {tr : TA} {ds : List PyData} (Sl : Slots K b σ Δ) (e : Δ[m]? = some (.adr a)) (ha : EvDs K tr σ b ds) (hP : P ds) : EvT K (tCall (spT K c R P) [] E (tCons (tVar m) tr)) σ b a c (R ds) := fun b1 h1 n s z hb T hn Q q => by
  refine ⟨.ref a, Sl.adr e, ha b1 h1 s z _ fun ws b2 h2 F dd => ?_⟩
  obtain ⟨T2, hb2⟩ := T.keep F hb
  exact ⟨b2, a, ws, ds, n, by rw [List.append_nil], F.sub, hb2, T2, hn, dd, hP, fun v d b3 h3 r F3 hb3 T3 D3 => q v d b3 h3 r (F.any.trans F3) hb3 T3 D3⟩
theorem t_callT1 {m : Nat} {R : List PyData → PyData → Prop} {P : List PyData → Prop} {E : XK} (Sl : Slots K b σ Δ) (e : Δ[m]? = some (.adr a)) (hP : P []) : EvT K (tCall (spT K c R P) [] E (tCons (tVar m) tNil)) σ b a c (R []) := t_callT Sl e ds_nil hP
theorem ts_nil : EvTs K tNil σ b a 0 (· = []) := fun b1 h1 n s z hb T _ Q q => q _ _ b1 h1 rfl (Fr.rfl' z) hb (by rw [Int.add_zero]; exact T) .nil
theorem ts_cons {tr : TA} {Rs : List PyData → Prop} (ha : EvT K te σ b a c1 R) (hr : EvTs K tr σ b a c2 Rs) (h1 : 0 ≤ c1) (h2 : 0 ≤ c2) : EvTs K (tCons te tr) σ b a (c1 + c2) (fun ds => ∃ d es, ds = d :: es ∧ R d ∧ Rs es) := fun b1 g1 n s z hb T hn Q q =>
  ha b1 g1 n s z hb T (by omega) _ fun v d b2 g2 rd F hb2 T2 D2 => hr b2 g2 (n + c1) (s.trans F.base) F.sub hb2 T2 (by omega) _ fun vs ds b3 g3 rs F2 hb3 T3 D3 =>
    q _ _ b3 g3 ⟨d, ds, rfl, rd, rs⟩ (F.trans F2) hb3 (by rw [← Int.add_assoc]; exact T3) (.cons (D2.mono F2.base) D3)
theorem t_tup {tA : TA} {Rs : List PyData → Prop} (h : EvTs K tA σ b a c Rs) (hl : ∀ ds, Rs ds → ds.length ≤ 100000) : EvT K (tTup tA) σ b a c (fun d => ∃ ds, d = .tuple ds ∧ Rs ds) := fun b1 h1 n s z hb T hn Q q =>
  h b1 h1 n s z hb T hn _ fun vs ds b2 h2 rs F hb2 T2 D2 => ⟨Nat.le_trans (by rw [D2.length]; exact hl ds rs) (by decide), fun p hp => by
    have L : Fr [a] b2 h2 (upd b2 p (.tup vs)) (upd h2 p (.tup vs)) := Fr.laid F.sub hp
    obtain ⟨T3, hb3⟩ := T2.keep (Fr.laid (B := []) F.sub hp) hb2
    exact q _ _ _ _ ⟨ds, rfl, rs⟩ (F.trans L) hb3 T3 (.tup (.inl (.inl upd_same)) (D2.mono L.base))⟩
theorem t_lst {tA : TA} {Rs : List PyData → Prop} (h : EvTs K tA σ b a c Rs) (hl : ∀ ds, Rs ds → ds.length ≤ 100000) : EvT K (tLst tA) σ b a c (fun d => ∃ ds, d = .list ds ∧ Rs ds) := fun b1 h1 n s z hb T hn Q q =>
  h b1 h1 n s z hb T hn _ fun vs ds b2 h2 rs F hb2 T2 D2 => ⟨Nat.le_trans (by rw [D2.length]; exact hl ds rs) (by decide), fun p hp => by
    have L : Fr [a] b2 h2 (upd b2 p (.lst vs)) (upd h2 p (.lst vs)) := Fr.laid F.sub hp
    obtain ⟨T3, hb3⟩ := T2.keep (Fr.laid (B := []) F.sub hp) hb2
    exact q _ _ _ _ ⟨ds, rfl, rs⟩ (F.trans L) hb3 T3 (.lst upd_same (D2.mono L.base))⟩
theorem S.draw {b2 h2 : Hp} (Z : S K B b0 h0 σ b h Δ) (hB : a ∈ B ∨ h0 a = none) (F : Fr [a] b h b2 h2) : S K B b0 h0 σ b2 h2 Δ := ⟨Z.fr.new F fun q m => by
  have e : q = a := by simpa using m
  rw [e]; exact hB, Z.sl.mono F.base⟩
theorem q_asgT {m : Nat} (Z : S K B b0 h0 σ b h Δ) (hb : b a = none) (hB : a ∈ B ∨ h0 a = none) (T : Tin a n h) (hn : n + c ≤ mostDraws) (he : EvT K te σ b a c R) (k : ∀ d σ2 b2 h2, R d → S K B b0 h0 σ2 b2 h2 (Δ.set m (.dat d)) → b2 a = none → Tin a (n + c) h2 → tz D σ2 h2) : tSeq (tAsg te (gName m)) tz D σ h :=
  he b h n (Same.refl b) Z.sub hb T hn _ fun v d b2 h2 rd F hb2 T2 D2 => k d _ b2 h2 rd ⟨(Z.draw hB F).fr, (Z.draw hB F).sl.set (z := .dat d) ⟨v, rfl, D2⟩ m⟩ hb2 T2
theorem q_parT {m1 m2 : Nat} {tA : TA} {Rs : List PyData → Prop} (Z : S K B b0 h0 σ b h Δ) (hb : b a = none) (hB : a ∈ B ∨ h0 a = none) (T : Tin a n h) (hn : n + c ≤ mostDraws) (he : EvTs K tA σ b a c Rs) (hl : ∀ ds, Rs ds → ∃ d1 d2, ds = [d1, d2])
    (k : ∀ d1 d2 σ2 b2 h2, Rs [d1, d2] → S K B b0 h0 σ2 b2 h2 ((Δ.set m1 (.dat d1)).set m2 (.dat d2)) → b2 a = none → Tin a (n + c) h2 → tz D σ2 h2) : tSeq (tPar m1 m2 tA) tz D σ h :=
  he b h n (Same.refl b) Z.sub hb T hn _ fun vs ds b2 h2 rd F hb2 T2 D2 => by
    obtain ⟨d1, d2, rfl⟩ := hl ds rd
    cases D2 with
    | cons x1 r =>
      cases r with
      | cons x2 r =>
        cases r
        exact ⟨_, _, rfl, k d1 d2 _ b2 h2 rd ⟨(Z.draw hB F).fr, ((Z.draw hB F).sl.set (z := .dat d1) ⟨_, rfl, x1⟩ m1).set (z := .dat d2) ⟨_, rfl, x2⟩ m2⟩ hb2 T2⟩
theorem s_retT (Z : S K B b0 h0 σ b h Δ) (hb : b a = none) (hB : a ∈ B ∨ h0 a = none) (T : Tin a n h) (hn : n + c ≤ mostDraws) (he : EvT K te σ b a c R) (k : ∀ v d b2 h2, R d → Fr B b0 h0 b2 h2 → b2 a = none → Tin a (n + c) h2 → Da K b2 v d → D.rt v h2) : tRet te D σ h :=
  he b h n (Same.refl b) Z.sub hb T hn _ fun v d b2 h2 rd F hb2 T2 D2 => k v d b2 h2 rd (Z.draw hB F).fr hb2 T2 D2
/-- what changes nothing, the box beside -/
theorem q_asgK {m : Nat} (Z : S K B b0 h0 σ b h Δ) (hb : b a = none) (T : Tin a n h) (he : EvD K te σ b d) (k : ∀ σ2 b2 h2, S K B b0 h0 σ2 b2 h2 (Δ.set m (.dat d)) → b2 a = none → Tin a n h2 → Fr [] b h b2 h2 → tz D σ2 h2) : tSeq (tAsg te (gName m)) tz D σ h :=
  q_asg Z he fun σ2 b2 h2 F Z2 => by
    obtain ⟨T2, hb2⟩ := T.keep F hb
    exact k σ2 b2 h2 Z2 hb2 T2 F
theorem q_whenFK {c : Bool} (Z : S K B b0 h0 σ b h Δ) (hb : b a = none) (T : Tin a n h) (he : EvB t σ b c) (e : c = false) (k : ∀ b2 h2, S K B b0 h0 σ b2 h2 Δ → b2 a = none → Tin a n h2 → Fr [] b h b2 h2 → tz D σ h2) : tSeq (tIfS t tu tNext) tz D σ h :=
  q_whenF Z he e fun b2 h2 F Z2 => by
    obtain ⟨T2, hb2⟩ := T.keep F hb
    exact k b2 h2 Z2 hb2 T2 F
theorem s_retK (Z : S K B b0 h0 σ b h Δ) (hb : b a = none) (T : Tin a n h) (he : EvD K te σ b d) (k : ∀ v b2 h2, Fr B b0 h0 b2 h2 → b2 a = none → Tin a n h2 → Da K b2 v d → D.rt v h2) : tRet te D σ h :=
  he.go Z.sub fun v b2 h2 F dd => by
    obtain ⟨T2, hb2⟩ := T.keep F hb
    exact k v b2 h2 (Z.fr.trans F.any) hb2 T2 dd
end
end DV

namespace DV
open PySem L2
section
variable {K : PySem.W.Frag} {B : List Addr} {b0 h0 : Hp} {σ : St} {b b' h : Hp} {te ta tb tc : TE} {d d1 d2 d3 : PyData} {Δ : List SD} {t u : TT} {r r' : R2} {i j : Int} {D : Ends} {tu tw tz : TS} {a : Addr} {c c1 c2 n : Int} {R R1 R2 : PyData → Prop}
/-- a new list, its first items given, that is going to be changed -/
theorem q_newL {m : Nat} {tA : TA} {ds : List PyData} (Z : S K B b0 h0 σ b h Δ) (he : EvDs K tA σ b ds) (hl : ds.length ≤ 100000) (k : ∀ p vs σ2 b2 h2, Fr [] b h b2 h2 → h p = none → b2 p = none → h2 p = some (.lst vs) → DaAll K b2 vs ds → S K B b0 h0 σ2 b2 h2 (Δ.set m (.adr p)) → tz D σ2 h2) : tSeq (tAsg (tLst tA) (gName m)) tz D σ h :=
  he b h (Same.refl b) Z.sub _ fun vs b2 h2 F dd => ⟨Nat.le_trans (by rw [dd.length]; exact hl) (by decide), fun p hp => by
    have L : Fr [] b2 h2 b2 (upd h2 p (.lst vs)) := Fr.fresh F.sub hp
    refine k p vs _ b2 _ (F.trans L) ?_ (F.sub.free hp) upd_same dd ⟨(Z.fr.trans F.any).trans L.any, (Z.sl.mono F.base).set (z := .adr p) rfl m⟩
    cases e : h p with
    | none => rfl
    | some o =>
      have := F.live p (by rw [e]; rfl)
      rw [hp] at this
      cases this⟩
/-- x, y, z = [], e, e' with a new list first -/
theorem q_par3L {n1 n2 n3 : Nat} (Z : S K B b0 h0 σ b h Δ) (e2 : EvD K ta σ b d2) (e3 : EvD K tb σ b d3) (k : ∀ p σ2 b2 h2, Fr [] b h b2 h2 → h p = none → b2 p = none → h2 p = some (.lst []) → S K B b0 h0 σ2 b2 h2 (((Δ.set n1 (.adr p)).set n2 (.dat d2)).set n3 (.dat d3)) → tz D σ2 h2) :
    tSeq (tPar3 n1 n2 n3 (tCons (tLst tNil) (tCons ta (tCons tb tNil)))) tz D σ h :=
  ⟨Nat.zero_le _, fun p hp => by
    have L : Fr [] b h b (upd h p (.lst [])) := Fr.fresh Z.sub hp
    have bp : b p = none := Z.sub.free hp
    refine e2 b _ (Same.refl b) L.sub _ fun v2 b2 g2 F2 D2 => e3 b2 g2 F2.base F2.sub _ fun v3 b3 g3 F3 D3 => ?_
    have p2 := F2.keep p _ bp (by intro q; cases q) upd_same
    have q2 := F2.out p bp (by rw [upd_same]; rfl)
    have p3 := F3.keep p _ q2 (by intro q; cases q) p2
    have q3 := F3.out p q2 (by rw [p2]; rfl)
    have G : Fr [] b h b3 g3 := (L.trans F2).trans F3
    exact ⟨_, _, _, rfl, k p _ b3 g3 G hp q3 p3 ⟨Z.fr.trans G.any, (((Z.sl.mono G.base).set (z := .adr p) rfl n1).set (z := .dat d2) ⟨_, rfl, D2.mono F3.base⟩ n2).set (z := .dat d3) ⟨_, rfl, D3⟩ n3⟩⟩⟩
/-- a comprehension over a range whose element draws -/
theorem t_lcR1 {tA : TA} {m : Nat} {vs : List Nat} {k : Int} (Sl : Slots K b σ Δ) (he : EvDs K tA σ b [.int k]) (hk : 0 ≤ k ∧ k ≤ 90000) (hc : 0 ≤ c) (hw : ∀ x, wipe ((wipe σ vs).set m (some x)) vs = wipe σ vs)
    (ht : ∀ (i : Nat) σ2 b2, (i : Int) < k → Same b b2 → Slots K b2 σ2 ((wipeD Δ vs).set m (.dat (.int (0 + (i : Int))))) → EvT K te σ2 b2 a c R) :
    EvT K (tLc (iRng1 tA) (gName m) tYes te vs) σ b a (k * c) (fun d => ∃ ds, d = .list ds ∧ (ds.length : Int) = k ∧ ∀ d ∈ ds, R d) := fun b1 h1 n s z hb T hn Q q =>
  he b1 h1 s z _ fun v b2 h2 F dd => by
    cases dd with
    | cons x r =>
      cases r; cases x
      obtain ⟨T2, hb2⟩ := T.keep F hb
      refine ⟨k, rfl, by omega, by omega, fun Dl hD => ?_⟩
      have hDa : Dl ≠ a := by
        intro e; subst e
        obtain ⟨_, _, _, e, _⟩ := T2
        rw [hD] at e; cases e
      refine lc_range (lo := 0) (n := k.toNat) (fun i H => ∃ b' acc ds, Fr [a] b2 h2 b' H ∧ b' Dl = none ∧ b' a = none ∧ Tin a (n + (i : Int) * c) H ∧ H Dl = some (.lst acc) ∧ DaAll K b' acc ds ∧ ds.length = i ∧ ∀ d ∈ ds, R d)
        ⟨b2, [], [], Fr.fresh F.sub hD, F.sub.free hD, hb2, ?_, upd_same, .nil, rfl, fun _ z => by cases z⟩ (fun i H hi p => ⟨hw _, ?_⟩) (fun H p => ?_)
      · obtain ⟨x, y, z, e, w⟩ := T2
        have e0 : n + ((0 : Nat) : Int) * c = n := by simp
        rw [e0]
        exact ⟨x, y, z, by rw [upd_ne hDa.symm]; exact e, w⟩
      · obtain ⟨b', acc, ds, F3, bD, ba, T3, hA, DA, hlen, hR⟩ := p
        have hi' : (i : Int) < k := by omega
        have hnn : n + (i : Int) * c + c ≤ mostDraws := by
          have h1 : ((i : Int) + 1) * c ≤ k * c := Int.mul_le_mul_of_nonneg_right (by omega) hc
          have h2 : ((i : Int) + 1) * c = (i : Int) * c + c := by rw [Int.add_mul, Int.one_mul]
          omega
        refine ht i _ b' hi' ((s.trans F.base).trans F3.base) (((Sl.mono ((s.trans F.base).trans F3.base)).wipe vs).set (z := .dat (.int (0 + (i : Int)))) ⟨_, rfl, .int _⟩ m) b' H (n + (i : Int) * c) (Same.refl b') F3.sub ba T3 hnn _ fun v d b4 h4 rd F4 ba4 T4 D4 => ?_
        have a4 : h4 Dl = some (.lst acc) := F4.keep Dl _ bD (by intro q; exact hDa (by simpa using q)) hA
        have bD4 : b4 Dl = none := F4.out Dl bD (by rw [hA]; rfl)
        refine ⟨acc, a4, ?_, b4, acc ++ [v], ds ++ [d], (F3.trans F4).new (Fr.mut F4.sub bD4) (fun q m => .inr ?_), bD4, ba4, ?_, upd_same, (DA.mono F4.base).append (.cons D4 .nil), ?_, ?_⟩
        · rw [DA.length, hlen]
          have : i < 90000 := by omega
          exact Nat.lt_of_lt_of_le this (by decide)
        · have e : q = Dl := by simpa using m
          rw [e]; exact hD
        · obtain ⟨x, y, z, e, w1, w2, w3, w4⟩ := T4
          have e1 : n + (((i + 1 : Nat) : Int)) * c = n + (i : Int) * c + c := by
            have : (((i + 1 : Nat) : Int)) = (i : Int) + 1 := by omega
            rw [this, Int.add_mul, Int.one_mul]
            omega
          rw [e1]
          exact ⟨x, y, z, by rw [upd_ne hDa.symm]; exact e, w1, w2, w3, w4⟩
        · rw [List.length_append, hlen]; rfl
        · intro d' hd'
          rcases List.mem_append.mp hd' with q | q
          · exact hR d' q
          · have : d' = d := by simpa using q
            rw [this]; exact rd
      · obtain ⟨b', acc, ds, F3, bD, ba, T3, hA, DA, hlen, hR⟩ := p
        obtain ⟨s1, s2⟩ := Fr.seal F3.sub bD hA
        have e1 : ((k.toNat : Nat) : Int) = k := by omega
        rw [e1] at T3
        refine q (.ref Dl) _ (upd b' Dl (.lst acc)) H ⟨ds, rfl, by omega, hR⟩ (F.any.trans ⟨F3.base.trans s1, s2, fun q n m => ?_, F3.keep, F3.live⟩) (by rw [upd_ne hDa.symm]; exact ba) T3 (.lst upd_same (DA.mono s1))
        have hc : q ≠ Dl := by intro e; subst e; rw [hD] at m; cases m
        rw [upd_ne hc]
        exact F3.out q n m
/-- a built-in on what was drawn -/
theorem t_cb1 {r : List V → Hp → VK → Prop} (h : EvT K te σ b a c R) (hr : ∀ d, R d → ∃ e, RcD K r [d] e ∧ R1 e) : EvT K (tCB r (tCons te tNil)) σ b a c R1 := fun b1 h1 n s z hb T hn Q q =>
  h b1 h1 n s z hb T hn _ fun v d b2 h2 rd F hb2 T2 D2 => by
    obtain ⟨e, rc, re⟩ := hr d rd
    refine rc b2 h2 F.sub [v] (.cons D2 .nil) Q fun v b3 h3 F3 D3 => ?_
    obtain ⟨T3, hb3⟩ := T2.keep F3 hb2
    exact q v e b3 h3 re (F.trans F3.any) hb3 T3 D3
theorem q_par3T {m1 m2 m3 : Nat} {tA : TA} {Rs : List PyData → Prop} (Z : S K B b0 h0 σ b h Δ) (hb : b a = none) (hB : a ∈ B ∨ h0 a = none) (T : Tin a n h) (hn : n + c ≤ mostDraws) (he : EvTs K tA σ b a c Rs) (hl : ∀ ds, Rs ds → ∃ d1 d2 d3, ds = [d1, d2, d3])
    (k : ∀ d1 d2 d3 σ2 b2 h2, Rs [d1, d2, d3] → S K B b0 h0 σ2 b2 h2 (((Δ.set m1 (.dat d1)).set m2 (.dat d2)).set m3 (.dat d3)) → b2 a = none → Tin a (n + c) h2 → tz D σ2 h2) : tSeq (tPar3 m1 m2 m3 tA) tz D σ h :=
  he b h n (Same.refl b) Z.sub hb T hn _ fun vs ds b2 h2 rd F hb2 T2 D2 => by
    obtain ⟨d1, d2, d3, rfl⟩ := hl ds rd
    cases D2 with
    | cons x1 r =>
      cases r with
      | cons x2 r =>
        cases r with
        | cons x3 r =>
          cases r
          exact ⟨_, _, _, rfl, k d1 d2 d3 _ b2 h2 rd ⟨(Z.draw hB F).fr, (((Z.draw hB F).sl.set (z := .dat d1) ⟨_, rfl, x1⟩ m1).set (z := .dat d2) ⟨_, rfl, x2⟩ m2).set (z := .dat d3) ⟨_, rfl, x3⟩ m3⟩ hb2 T2⟩
theorem q_tupT3 {m1 m2 m3 : Nat} (Z : S K B b0 h0 σ b h Δ) (hb : b a = none) (hB : a ∈ B ∨ h0 a = none) (T : Tin a n h) (hn : n + c ≤ mostDraws) (he : EvT K te σ b a c R) (hl : ∀ d, R d → ∃ d1 d2 d3, d = .tuple [d1, d2, d3])
    (k : ∀ d1 d2 d3 σ2 b2 h2, R (.tuple [d1, d2, d3]) → S K B b0 h0 σ2 b2 h2 (((Δ.set m1 (.dat d1)).set m2 (.dat d2)).set m3 (.dat d3)) → b2 a = none → Tin a (n + c) h2 → tz D σ2 h2) : tSeq (tAsg te (gTup K 3 (gCons (gName m1) (gCons (gName m2) (gCons (gName m3) gNil))))) tz D σ h :=
  he b h n (Same.refl b) Z.sub hb T hn _ fun v d b2 h2 rd F hb2 T2 D2 => by
    obtain ⟨d1, d2, d3, rfl⟩ := hl d rd
    exact g_tup3 (Z.draw hB F) D2 fun σ2 Z2 => k d1 d2 d3 σ2 b2 h2 rd Z2 hb2 T2
theorem q_tupT2 {m1 m2 : Nat} (Z : S K B b0 h0 σ b h Δ) (hb : b a = none) (hB : a ∈ B ∨ h0 a = none) (T : Tin a n h) (hn : n + c ≤ mostDraws) (he : EvT K te σ b a c R) (hl : ∀ d, R d → ∃ d1 d2, d = .tuple [d1, d2])
    (k : ∀ d1 d2 σ2 b2 h2, R (.tuple [d1, d2]) → S K B b0 h0 σ2 b2 h2 ((Δ.set m1 (.dat d1)).set m2 (.dat d2)) → b2 a = none → Tin a (n + c) h2 → tz D σ2 h2) : tSeq (tAsg te (gTup K 2 (gCons (gName m1) (gCons (gName m2) gNil)))) tz D σ h :=
  he b h n (Same.refl b) Z.sub hb T hn _ fun v d b2 h2 rd F hb2 T2 D2 => by
    obtain ⟨d1, d2, rfl⟩ := hl d rd
    exact g_tup2 (Z.draw hB F) D2 fun σ2 Z2 => k d1 d2 σ2 b2 h2 rd Z2 hb2 T2
theorem S.new0 {p : Addr} (Z : S K B b0 h0 σ b h Δ) (hp : h p = none) : h0 p = none := by
  cases e : h0 p with
  | none => rfl
  | some o =>
    have := Z.fr.live p (by rw [e]; rfl)
    rw [hp] at this
    cases this
theorem Tin.keepB {p : Addr} {b2 h2 : Hp} (T : Tin a n h) (F : Fr [p] b h b2 h2) (hb : b a = none) (hne : a ≠ p) : Tin a n h2 ∧ b2 a = none := by
  obtain ⟨x, y, z, e, q⟩ := T
  exact ⟨⟨x, y, z, F.keep a _ hb (by simpa using hne) e, q⟩, F.out a hb (by rw [e]; rfl)⟩
theorem Tin.ne {p : Addr} (T : Tin a n h) (hp : h p = none) : a ≠ p := by
  obtain ⟨x, y, z, e, q⟩ := T
  intro z; subst z; rw [hp] at e; cases e
theorem keepL {p : Addr} {xs : List V} {b2 h2 : Hp} (hx : h p = some (.lst xs)) (hb : b p = none) (F : Fr [] b h b2 h2) : h2 p = some (.lst xs) ∧ b2 p = none := ⟨F.keep p _ hb (by intro q; cases q) hx, F.out p hb (by rw [hx]; rfl)⟩
theorem rng_ints (lo : Int) (n : Nat) : rng lo n = ((List.range n).map fun (i : Nat) => lo + (i : Int)).map PyData.int := by
  unfold rng
  rw [List.map_map]
  rfl
theorem filt_ints (L : List Int) (f : PyData → Bool) : ((L.map PyData.int).filter f).map (fun d => d) = (L.filter fun i => f (.int i)).map PyData.int := by
  rw [List.map_id', List.filter_map]
  rfl
theorem canAll_ints : ∀ L : List Int, PyData.canLayAll0 (L.map PyData.int) = true
  | [] => rfl
  | i :: L => by
    show (PyData.canLay0 (.int i) && PyData.canLayAll0 (L.map PyData.int)) = true
    rw [canAll_ints L]
    rfl
theorem depAll_ints : ∀ L : List Int, PyData.depthAll (L.map PyData.int) = 0
  | [] => rfl
  | i :: L => by
    show max (PyData.depth (.int i)) (PyData.depthAll (L.map PyData.int)) = 0
    rw [depAll_ints L]
    rfl
theorem shaped_ints (L : List Int) : SeqAt.shaped (.list (L.map PyData.int)) = true := by
  show (PyData.canLay0 (.list (L.map PyData.int)) && decide (PyData.depth (.list (L.map PyData.int)) ≤ 64)) = true
  have h1 : PyData.canLay0 (.list (L.map PyData.int)) = true := canAll_ints L
  have h2 : PyData.depth (.list (L.map PyData.int)) = 1 := by
    show PyData.depthAll (L.map PyData.int) + 1 = 1
    rw [depAll_ints L]
  rw [h1, h2]
  rfl
def optD : Option Int → PyData
  | some i => .int i
  | none => .none
theorem fineB (L : List Int) : (!PyData.eqv (.list (L.map PyData.int)) (.list [])) = !L.isEmpty := by
  cases L with
  | nil => rfl
  | cons x r => rfl
/-- xs[0] if xs != [] else None, xs[-1] likewise -/
theorem d_first {m : Nat} {L : List Int} (Z : S K B b0 h0 σ b h Δ) (e : Δ[m]? = some (.dat (.list (L.map PyData.int)))) : EvD K (tIf (tTest (tOp (rNeA K) (tVar m) (tLst tNil))) (tOp (rIx K) (tVar m) (tC (.int 0))) (tC .non)) σ b (optD L.head?) := by
  refine d_if (c := !L.isEmpty) (EvB.is (b_test (d_op (d_varZ Z e) (d_lst ds_nil (Nat.zero_le _)) (rv_neAD (shaped_ints L) rfl))) (fineB L)) (fun hc => ?_) (fun hc => ?_)
  · cases L with
    | nil => cases hc
    | cons x r => exact d_op (d_varZ Z e) (d_int 0) (rv_ixL (atI_nat (j := 0) rfl))
  · cases L with
    | nil => exact d_non
    | cons x r => cases hc
theorem d_last {m : Nat} {L : List Int} (Z : S K B b0 h0 σ b h Δ) (e : Δ[m]? = some (.dat (.list (L.map PyData.int)))) : EvD K (tIf (tTest (tOp (rNeA K) (tVar m) (tLst tNil))) (tOp (rIx K) (tVar m) (tUn (rU fun i => .int (-i)) (tC (.int 1)))) (tC .non)) σ b (optD L.getLast?) := by
  refine d_if (c := !L.isEmpty) (EvB.is (b_test (d_op (d_varZ Z e) (d_lst ds_nil (Nat.zero_le _)) (rv_neAD (shaped_ints L) rfl))) (fineB L)) (fun hc => ?_) (fun hc => ?_)
  · cases hL : L with
    | nil => rw [hL] at hc; cases hc
    | cons x r =>
      rw [← hL]
      have hne : L ≠ [] := by rw [hL]; exact List.cons_ne_nil _ _
      have e1 : L = L.dropLast ++ [L.getLast hne] := (List.dropLast_concat_getLast hne).symm
      have e2 : L.getLast? = some (L.getLast hne) := List.getLast?_eq_getLast hne
      rw [e2]
      refine d_op (d_varZ Z e) (d_neg (d_int 1)) (rv_ixL ?_)
      have e3 : L.map PyData.int = L.dropLast.map PyData.int ++ [.int (L.getLast hne)] := by
        conv => lhs; rw [e1]
        rw [List.map_append]
        rfl
      rw [e3]
      exact atI_last _ _
  · cases L with
    | nil => exact d_non
    | cons x r => cases hc
end
end DV

namespace LW
open PySem L2 DV
def topS (i : Nat) : Stmt := PySem.Challenge.pw_halfring_k04_whole_numbers_on_a_ring.main.body.getD i (.Pass ⟨0, 0, 0, 0⟩)
abbrev s_is_number : Stmt := topS 5
theorem sc_is_number : FnScope ["thing"] ["thing"] (defScope s_is_number) := ⟨rfl, rfl, rfl, by decide +kernel, rfl, by decide +kernel, by decide +kernel⟩
abbrev s_is_natural : Stmt := topS 6
theorem sc_is_natural : FnScope ["thing"] ["thing"] (defScope s_is_natural) := ⟨rfl, rfl, rfl, by decide +kernel, rfl, by decide +kernel, by decide +kernel⟩
abbrev s_is_below : Stmt := topS 7
theorem sc_is_below : FnScope ["thing", "bound"] ["thing", "bound"] (defScope s_is_below) := ⟨rfl, rfl, rfl, by decide +kernel, rfl, by decide +kernel, by decide +kernel⟩
abbrev s_is_row : Stmt := topS 8
theorem sc_is_row : FnScope ["thing", "many"] ["thing", "many"] (defScope s_is_row) := ⟨rfl, rfl, rfl, by decide +kernel, rfl, by decide +kernel, by decide +kernel⟩
abbrev s_as_tuples : Stmt := topS 9
theorem sc_as_tuples : FnScope ["thing", "depth", "part"] ["thing", "depth"] (defScope s_as_tuples) := ⟨rfl, rfl, rfl, by decide +kernel, rfl, by decide +kernel, by decide +kernel⟩
abbrev s_checked : Stmt := topS 10
theorem sc_checked : FnScope ["is_such", "thing", "own"] ["is_such", "thing"] (defScope s_checked) := ⟨rfl, rfl, rfl, by decide +kernel, rfl, by decide +kernel, by decide +kernel⟩
abbrev s_window_in : Stmt := topS 12
theorem sc_window_in : FnScope ["shape", "cells", "flight", "_"] ["shape"] (defScope s_window_in) := ⟨rfl, rfl, rfl, by decide +kernel, rfl, by decide +kernel, by decide +kernel⟩
abbrev s_turn_in : Stmt := topS 13
theorem sc_turn_in : FnScope ["shape", "cells", "_", "marks"] ["shape"] (defScope s_turn_in) := ⟨rfl, rfl, rfl, by decide +kernel, rfl, by decide +kernel, by decide +kernel⟩
abbrev s_is_safe_ring : Stmt := topS 14
theorem sc_is_safe_ring : FnScope ["shape", "_", "flight", "marks"] ["shape"] (defScope s_is_safe_ring) := ⟨rfl, rfl, rfl, by decide +kernel, rfl, by decide +kernel, by decide +kernel⟩
abbrev s_cell_in : Stmt := topS 15
theorem sc_cell_in : FnScope ["shape", "number"] ["shape", "number"] (defScope s_cell_in) := ⟨rfl, rfl, rfl, by decide +kernel, rfl, by decide +kernel, by decide +kernel⟩
abbrev s_mark_in : Stmt := topS 16
theorem sc_mark_in : FnScope ["shape", "number", "cells", "_", "marks"] ["shape", "number"] (defScope s_mark_in) := ⟨rfl, rfl, rfl, by decide +kernel, rfl, by decide +kernel, by decide +kernel⟩
abbrev s_is_shape : Stmt := topS 18
theorem sc_is_shape : FnScope ["thing", "part", "cells", "flight", "marks"] ["thing"] (defScope s_is_shape) := ⟨rfl, rfl, rfl, by decide +kernel, rfl, by decide +kernel, by decide +kernel⟩
abbrev s_window : Stmt := topS 19
theorem sc_window : FnScope ["shape"] ["shape"] (defScope s_window) := ⟨rfl, rfl, rfl, by decide +kernel, rfl, by decide +kernel, by decide +kernel⟩
abbrev s_turn_of : Stmt := topS 20
theorem sc_turn_of : FnScope ["shape"] ["shape"] (defScope s_turn_of) := ⟨rfl, rfl, rfl, by decide +kernel, rfl, by decide +kernel, by decide +kernel⟩
abbrev s_is_safe : Stmt := topS 21
theorem sc_is_safe : FnScope ["shape"] ["shape"] (defScope s_is_safe) := ⟨rfl, rfl, rfl, by decide +kernel, rfl, by decide +kernel, by decide +kernel⟩
abbrev s_cell_of : Stmt := topS 22
theorem sc_cell_of : FnScope ["shape", "number"] ["shape", "number"] (defScope s_cell_of) := ⟨rfl, rfl, rfl, by decide +kernel, rfl, by decide +kernel, by decide +kernel⟩
abbrev s_mark_of : Stmt := topS 23
theorem sc_mark_of : FnScope ["shape", "number"] ["shape", "number"] (defScope s_mark_of) := ⟨rfl, rfl, rfl, by decide +kernel, rfl, by decide +kernel, by decide +kernel⟩
abbrev s_as_place : Stmt := topS 24
theorem sc_as_place : FnScope ["shape", "number"] ["shape", "number"] (defScope s_as_place) := ⟨rfl, rfl, rfl, by decide +kernel, rfl, by decide +kernel, by decide +kernel⟩
abbrev s_place_of : Stmt := topS 25
theorem sc_place_of : FnScope ["shape", "cell", "mark", "cells", "_", "marks"] ["shape", "cell", "mark"] (defScope s_place_of) := ⟨rfl, rfl, rfl, by decide +kernel, rfl, by decide +kernel, by decide +kernel⟩
abbrev s_ahead : Stmt := topS 26
theorem sc_ahead : FnScope ["shape", "one", "other", "start"] ["shape", "one", "other"] (defScope s_ahead) := ⟨rfl, rfl, rfl, by decide +kernel, rfl, by decide +kernel, by decide +kernel⟩
abbrev s_in_window : Stmt := topS 27
theorem sc_in_window : FnScope ["shape", "number", "end", "steps"] ["shape", "number", "end"] (defScope s_in_window) := ⟨rfl, rfl, rfl, by decide +kernel, rfl, by decide +kernel, by decide +kernel⟩
abbrev s_least_marks : Stmt := topS 28
theorem sc_least_marks : FnScope ["cells", "flight"] ["cells", "flight"] (defScope s_least_marks) := ⟨rfl, rfl, rfl, by decide +kernel, rfl, by decide +kernel, by decide +kernel⟩
abbrev s_most_flight : Stmt := topS 29
theorem sc_most_flight : FnScope ["cells", "marks"] ["cells", "marks"] (defScope s_most_flight) := ⟨rfl, rfl, rfl, by decide +kernel, rfl, by decide +kernel, by decide +kernel⟩
abbrev s_least_cells : Stmt := topS 30
theorem sc_least_cells : FnScope ["flight", "marks"] ["flight", "marks"] (defScope s_least_cells) := ⟨rfl, rfl, rfl, by decide +kernel, rfl, by decide +kernel, by decide +kernel⟩
abbrev s__law_box : Stmt := topS 32
theorem sc__law_box : FnScope ["script", "k", "bit_so"] ["script", "k"] (defScope s__law_box) := ⟨rfl, rfl, rfl, by decide +kernel, rfl, by decide +kernel, by decide +kernel⟩
abbrev s__law_take : Stmt := topS 33
theorem sc__law_take : FnScope ["tin", "below_so", "drawn", "once_so", "wide_so", "twice_so"] ["tin", "below_so"] (defScope s__law_take) := ⟨rfl, rfl, rfl, by decide +kernel, rfl, by decide +kernel, by decide +kernel⟩
abbrev s__law_cells : Stmt := topS 34
theorem sc__law_cells : FnScope ["script", "most_so", "cells_so", "k", "bit_so", "at_so"] ["script", "most_so"] (defScope s__law_cells) := ⟨rfl, rfl, rfl, by decide +kernel, rfl, by decide +kernel, by decide +kernel⟩
abbrev s__law_same : Stmt := topS 35
theorem sc__law_same : FnScope ["got", "due", "mine", "its"] ["got", "due"] (defScope s__law_same) := ⟨rfl, rfl, rfl, by decide +kernel, rfl, by decide +kernel, by decide +kernel⟩
abbrev s__law_any_form : Stmt := topS 36
theorem sc__law_any_form : FnScope ["tin", "cells_so"] ["tin"] (defScope s__law_any_form) := ⟨rfl, rfl, rfl, by decide +kernel, rfl, by decide +kernel, by decide +kernel⟩
abbrev s__law_hand_right : Stmt := topS 37
theorem sc__law_hand_right : FnScope ["form", "got", "own", "due"] [] (defScope s__law_hand_right) := ⟨rfl, rfl, rfl, by decide +kernel, rfl, by decide +kernel, by decide +kernel⟩
abbrev s__law_walked : Stmt := topS 38
theorem sc__law_walked : FnScope ["form", "found", "k", "lap_so", "n"] ["form"] (defScope s__law_walked) := ⟨rfl, rfl, rfl, by decide +kernel, rfl, by decide +kernel, by decide +kernel⟩
abbrev s__law_border_right : Stmt := topS 39
theorem sc__law_border_right : FnScope ["tin", "cells_so", "flight_so", "marks_so", "fine_so", "own", "due", "got"] ["tin"] (defScope s__law_border_right) := ⟨rfl, rfl, rfl, by decide +kernel, rfl, by decide +kernel, by decide +kernel⟩
abbrev s__law_right : Stmt := topS 40
theorem sc__law_right : FnScope ["tin", "form", "ring_so", "turn_so", "wide_so", "got", "lap", "n", "own", "at_so", "its", "told", "steps_so", "lots_so", "k"] ["tin"] (defScope s__law_right) := ⟨rfl, rfl, rfl, by decide +kernel, rfl, by decide +kernel, by decide +kernel⟩
abbrev s_law : Stmt := topS 41
theorem sc_law : FnScope ["script"] ["script"] (defScope s_law) := ⟨rfl, rfl, rfl, by decide +kernel, rfl, by decide +kernel, by decide +kernel⟩
structure Txt (K : PySem.W.Frag) (mg : Str → Option Value) where
  f_is_number : Addr
  d_is_number : FuncData
  F_is_number : Fun K "is_number" "is_number" s_is_number f_is_number d_is_number
  b_is_number : Binds K d_is_number ["thing"] []
  m_is_number : mg "is_number" = some (.ref f_is_number)
  f_is_natural : Addr
  d_is_natural : FuncData
  F_is_natural : Fun K "is_natural" "is_natural" s_is_natural f_is_natural d_is_natural
  b_is_natural : Binds K d_is_natural ["thing"] []
  m_is_natural : mg "is_natural" = some (.ref f_is_natural)
  f_is_below : Addr
  d_is_below : FuncData
  F_is_below : Fun K "is_below" "is_below" s_is_below f_is_below d_is_below
  b_is_below : Binds K d_is_below ["thing", "bound"] []
  m_is_below : mg "is_below" = some (.ref f_is_below)
  f_is_row : Addr
  d_is_row : FuncData
  F_is_row : Fun K "is_row" "is_row" s_is_row f_is_row d_is_row
  b_is_row : Binds K d_is_row ["thing", "many"] []
  m_is_row : mg "is_row" = some (.ref f_is_row)
  f_as_tuples : Addr
  d_as_tuples : FuncData
  F_as_tuples : FunD K "as_tuples" "as_tuples" (defArgs s_as_tuples) (defBody s_as_tuples) (defScope s_as_tuples) [.int 20] [] f_as_tuples d_as_tuples
  m_as_tuples : mg "as_tuples" = some (.ref f_as_tuples)
  f_checked : Addr
  d_checked : FuncData
  F_checked : Fun K "checked" "checked" s_checked f_checked d_checked
  b_checked : Binds K d_checked ["is_such", "thing"] []
  m_checked : mg "checked" = some (.ref f_checked)
  f_window_in : Addr
  d_window_in : FuncData
  F_window_in : Fun K "window_in" "window_in" s_window_in f_window_in d_window_in
  b_window_in : Binds K d_window_in ["shape"] []
  m_window_in : mg "window_in" = some (.ref f_window_in)
  f_turn_in : Addr
  d_turn_in : FuncData
  F_turn_in : Fun K "turn_in" "turn_in" s_turn_in f_turn_in d_turn_in
  b_turn_in : Binds K d_turn_in ["shape"] []
  m_turn_in : mg "turn_in" = some (.ref f_turn_in)
  f_is_safe_ring : Addr
  d_is_safe_ring : FuncData
  F_is_safe_ring : Fun K "is_safe_ring" "is_safe_ring" s_is_safe_ring f_is_safe_ring d_is_safe_ring
  b_is_safe_ring : Binds K d_is_safe_ring ["shape"] []
  m_is_safe_ring : mg "is_safe_ring" = some (.ref f_is_safe_ring)
  f_cell_in : Addr
  d_cell_in : FuncData
  F_cell_in : Fun K "cell_in" "cell_in" s_cell_in f_cell_in d_cell_in
  b_cell_in : Binds K d_cell_in ["shape", "number"] []
  m_cell_in : mg "cell_in" = some (.ref f_cell_in)
  f_mark_in : Addr
  d_mark_in : FuncData
  F_mark_in : Fun K "mark_in" "mark_in" s_mark_in f_mark_in d_mark_in
  b_mark_in : Binds K d_mark_in ["shape", "number"] []
  m_mark_in : mg "mark_in" = some (.ref f_mark_in)
  f_is_shape : Addr
  d_is_shape : FuncData
  F_is_shape : Fun K "is_shape" "is_shape" s_is_shape f_is_shape d_is_shape
  b_is_shape : Binds K d_is_shape ["thing"] []
  m_is_shape : mg "is_shape" = some (.ref f_is_shape)
  f_window : Addr
  d_window : FuncData
  F_window : Fun K "window" "window" s_window f_window d_window
  b_window : Binds K d_window ["shape"] []
  m_window : mg "window" = some (.ref f_window)
  f_turn_of : Addr
  d_turn_of : FuncData
  F_turn_of : Fun K "turn_of" "turn_of" s_turn_of f_turn_of d_turn_of
  b_turn_of : Binds K d_turn_of ["shape"] []
  m_turn_of : mg "turn_of" = some (.ref f_turn_of)
  f_is_safe : Addr
  d_is_safe : FuncData
  F_is_safe : Fun K "is_safe" "is_safe" s_is_safe f_is_safe d_is_safe
  b_is_safe : Binds K d_is_safe ["shape"] []
  m_is_safe : mg "is_safe" = some (.ref f_is_safe)
  f_cell_of : Addr
  d_cell_of : FuncData
  F_cell_of : Fun K "cell_of" "cell_of" s_cell_of f_cell_of d_cell_of
  b_cell_of : Binds K d_cell_of ["shape", "number"] []
  m_cell_of : mg "cell_of" = some (.ref f_cell_of)
  f_mark_of : Addr
  d_mark_of : FuncData
  F_mark_of : Fun K "mark_of" "mark_of" s_mark_of f_mark_of d_mark_of
  b_mark_of : Binds K d_mark_of ["shape", "number"] []
  m_mark_of : mg "mark_of" = some (.ref f_mark_of)
  f_as_place : Addr
  d_as_place : FuncData
  F_as_place : Fun K "as_place" "as_place" s_as_place f_as_place d_as_place
  b_as_place : Binds K d_as_place ["shape", "number"] []
  m_as_place : mg "as_place" = some (.ref f_as_place)
  f_place_of : Addr
  d_place_of : FuncData
  F_place_of : Fun K "place_of" "place_of" s_place_of f_place_of d_place_of
  b_place_of : Binds K d_place_of ["shape", "cell", "mark"] []
  m_place_of : mg "place_of" = some (.ref f_place_of)
  f_ahead : Addr
  d_ahead : FuncData
  F_ahead : Fun K "ahead" "ahead" s_ahead f_ahead d_ahead
  b_ahead : Binds K d_ahead ["shape", "one", "other"] []
  m_ahead : mg "ahead" = some (.ref f_ahead)
  f_in_window : Addr
  d_in_window : FuncData
  F_in_window : Fun K "in_window" "in_window" s_in_window f_in_window d_in_window
  b_in_window : Binds K d_in_window ["shape", "number", "end"] []
  m_in_window : mg "in_window" = some (.ref f_in_window)
  f_least_marks : Addr
  d_least_marks : FuncData
  F_least_marks : Fun K "least_marks" "least_marks" s_least_marks f_least_marks d_least_marks
  b_least_marks : Binds K d_least_marks ["cells", "flight"] []
  m_least_marks : mg "least_marks" = some (.ref f_least_marks)
  f_most_flight : Addr
  d_most_flight : FuncData
  F_most_flight : Fun K "most_flight" "most_flight" s_most_flight f_most_flight d_most_flight
  b_most_flight : Binds K d_most_flight ["cells", "marks"] []
  m_most_flight : mg "most_flight" = some (.ref f_most_flight)
  f_least_cells : Addr
  d_least_cells : FuncData
  F_least_cells : Fun K "least_cells" "least_cells" s_least_cells f_least_cells d_least_cells
  b_least_cells : Binds K d_least_cells ["flight", "marks"] []
  m_least_cells : mg "least_cells" = some (.ref f_least_cells)
  f__law_box : Addr
  d__law_box : FuncData
  F__law_box : Fun K "_law_box" "_law_box" s__law_box f__law_box d__law_box
  b__law_box : Binds K d__law_box ["script", "k"] []
  m__law_box : mg "_law_box" = some (.ref f__law_box)
  f__law_take : Addr
  d__law_take : FuncData
  F__law_take : Fun K "_law_take" "_law_take" s__law_take f__law_take d__law_take
  b__law_take : Binds K d__law_take ["tin", "below_so"] []
  m__law_take : mg "_law_take" = some (.ref f__law_take)
  f__law_cells : Addr
  d__law_cells : FuncData
  F__law_cells : Fun K "_law_cells" "_law_cells" s__law_cells f__law_cells d__law_cells
  b__law_cells : Binds K d__law_cells ["script", "most_so"] []
  m__law_cells : mg "_law_cells" = some (.ref f__law_cells)
  f__law_same : Addr
  d__law_same : FuncData
  F__law_same : Fun K "_law_same" "_law_same" s__law_same f__law_same d__law_same
  b__law_same : Binds K d__law_same ["got", "due"] []
  m__law_same : mg "_law_same" = some (.ref f__law_same)
  f__law_any_form : Addr
  d__law_any_form : FuncData
  F__law_any_form : Fun K "_law_any_form" "_law_any_form" s__law_any_form f__law_any_form d__law_any_form
  b__law_any_form : Binds K d__law_any_form ["tin"] []
  m__law_any_form : mg "_law_any_form" = some (.ref f__law_any_form)
  f__law_hand_right : Addr
  d__law_hand_right : FuncData
  F__law_hand_right : Fun K "_law_hand_right" "_law_hand_right" s__law_hand_right f__law_hand_right d__law_hand_right
  b__law_hand_right : Binds K d__law_hand_right [] []
  m__law_hand_right : mg "_law_hand_right" = some (.ref f__law_hand_right)
  f__law_walked : Addr
  d__law_walked : FuncData
  F__law_walked : Fun K "_law_walked" "_law_walked" s__law_walked f__law_walked d__law_walked
  b__law_walked : Binds K d__law_walked ["form"] []
  m__law_walked : mg "_law_walked" = some (.ref f__law_walked)
  f__law_border_right : Addr
  d__law_border_right : FuncData
  F__law_border_right : Fun K "_law_border_right" "_law_border_right" s__law_border_right f__law_border_right d__law_border_right
  b__law_border_right : Binds K d__law_border_right ["tin"] []
  m__law_border_right : mg "_law_border_right" = some (.ref f__law_border_right)
  f__law_right : Addr
  d__law_right : FuncData
  F__law_right : Fun K "_law_right" "_law_right" s__law_right f__law_right d__law_right
  b__law_right : Binds K d__law_right ["tin"] []
  m__law_right : mg "_law_right" = some (.ref f__law_right)
  f_law : Addr
  d_law : FuncData
  F_law : Fun K "law" "law" s_law f_law d_law
  b_law : Binds K d_law ["script"] []
  m_law : mg "law" = some (.ref f_law)
  z_abs : mg "abs" = none
  z_all : mg "all" = none
  z_bool : mg "bool" = none
  z_enumerate : mg "enumerate" = none
  z_int : mg "int" = none
  z_isinstance : mg "isinstance" = none
  z_len : mg "len" = none
  z_list : mg "list" = none
  z_max : mg "max" = none
  z_min : mg "min" = none
  z_range : mg "range" = none
  z_str : mg "str" = none
  z_tuple : mg "tuple" = none
  z_zip : mg "zip" = none
end LW

namespace LW
open PySem L2 DV
local macro_rules | `(tactic| walk_at "dv") => `(tactic| first
  | exact d_int _ | exact d_str _ | exact d_bl _ | exact d_non
  | (apply d_varZ (by assumption); rfl)
  | (apply d_var (by assumption); rfl)
  | exact ds_nil
  | (apply ds_cons; walk_at "dv"; walk_at "dv")
  | (apply d_op; walk_at "dv"; walk_at "dv"; walk_at "rv")
  | (apply d_tup; walk_at "dv"; (simp only [List.length]; omega))
  | (apply d_lst; walk_at "dv"; (simp only [List.length]; omega))
  | (apply d_neg; walk_at "dv")
  | (apply d_notV; walk_at "dv")
  | (apply d_isi; walk_at "dv"; rfl)
  | (apply d_isi2; walk_at "dv"; rfl; rfl)
  | (apply d_cb; walk_at "dv"; walk_at "rc")
  | (apply d_andV; walk_at "dv"; (intro _; walk_at "dv"))
  | (apply d_orV; walk_at "dv"; (intro _; walk_at "dv"))
  | (apply d_chain; walk_at "dv"; walk_at "dv"; walk_at "dv"; walk_at "rv"; walk_at "rv")
  | (apply b_and; walk_at "dv"; (intro _; walk_at "dv"))
  | (apply b_or; walk_at "dv"; (intro _; walk_at "dv"))
  | (apply b_test; walk_at "dv")
  | (apply b_B; walk_at "dv")
  | (apply b_not; walk_at "dv")
  | exact b_yes)
local macro_rules | `(tactic| walk_at "rv") => `(tactic| first
  | exact rv_addI | exact rv_subI | exact rv_ltI | exact rv_leI | exact rv_gtI | exact rv_geI
  | exact rv_eqAI | exact rv_eqAB | exact rv_neAI | exact rv_neAB | exact rv_eqAS | exact rv_eqAN
  | exact rv_ixT rfl | exact rv_ixL rfl
  | (apply rv_modI; first | assumption | decide | omega)
  | (apply rv_divI; (first | assumption | decide | omega); (first | assumption | decide | omega))
  | (apply rv_mulI; (first | assumption | decide | omega); (first | assumption | decide | omega)))
local macro_rules | `(tactic| walk_at "rc") => `(tactic| first
  | exact rc_lenL | exact rc_lenT | exact rc_max | exact rc_min | exact rc_int | exact rc_intB | exact rc_tupL | exact rc_tupT | exact rc_listT | exact rc_listL | exact rc_abs)

section
variable {P : Program} {w : World} {K : PySem.W.Frag} {mg : Str → Option Value} {base : Heap}
theorem ok_window_in (T : Txt K mg) : FnOk P w K mg base CX0 1 T.f_window_in T.d_window_in ["shape"] (spD K fun ds d => ∃ c f m, ds = [.tuple [.int c, .int f, .int m]] ∧ d = .int (c - f)) := by
  refine T.F_window_in.ok sc_window_in (by rintro vs H Q E ⟨b, ds, d, hs, hd, ⟨c, f, m, rfl, rfl⟩, q⟩; exact hd.length) (fun cdv A outer s H vs Q E hr h => ?_)
  obtain ⟨b, ds, d, hs, hd, ⟨c, f, m, rfl, rfl⟩, q⟩ := h
  refine ⟨_, (pss_cons (ps_asg (pv 0) (pg_tup (n := 3) rfl (pgs_cons (pg_name (i := 1) sc_window_in.nd rfl (by first | exact Or.inl rfl | exact Or.inr rfl)) (pgs_cons (pg_name (i := 2) sc_window_in.nd rfl (by first | exact Or.inl rfl | exact Or.inr rfl)) (pgs_cons (pg_name (i := 3) sc_window_in.nd rfl (by first | exact Or.inl rfl | exact Or.inr rfl)) pgs_nil)))))
    (pss_one (ps_ret (pe_op op_sub (pv 1) (pv 2))))), ?_⟩
  have Z := S.init (B := []) hs hd ["shape", "cells", "flight", "_"]
  refine q_tup3 Z (by walk_at "dv") fun σ b h F Z => ?_
  exact s_ret Z (by walk_at "dv") q
theorem ok_turn_in (T : Txt K mg) : FnOk P w K mg base CX0 1 T.f_turn_in T.d_turn_in ["shape"] (spD K fun ds d => ∃ c f m : Int, ds = [.tuple [.int c, .int f, .int m]] ∧ c.natAbs < 2 ^ 200 ∧ m.natAbs < 2 ^ 200 ∧ d = .int (m * c)) := by
  refine T.F_turn_in.ok sc_turn_in (by rintro vs H Q E ⟨b, ds, d, hs, hd, ⟨c, f, m, rfl, _, _, rfl⟩, q⟩; exact hd.length) (fun cdv A outer s H vs Q E hr h => ?_)
  obtain ⟨b, ds, d, hs, hd, ⟨c, f, m, rfl, hc, hm, rfl⟩, q⟩ := h
  refine ⟨_, (pss_cons (ps_asg (pv 0) (pg_tup (n := 3) rfl (pgs_cons (pg_name (i := 1) sc_turn_in.nd rfl (by first | exact Or.inl rfl | exact Or.inr rfl)) (pgs_cons (pg_name (i := 2) sc_turn_in.nd rfl (by first | exact Or.inl rfl | exact Or.inr rfl)) (pgs_cons (pg_name (i := 3) sc_turn_in.nd rfl (by first | exact Or.inl rfl | exact Or.inr rfl)) pgs_nil)))))
    (pss_one (ps_ret (pe_op op_mulA (pv 3) (pv 1))))), ?_⟩
  have Z := S.init (B := []) hs hd ["shape", "cells", "_", "marks"]
  refine q_tup3 Z (by walk_at "dv") fun σ b h F Z => ?_
  exact s_ret Z (by walk_at "dv") q
theorem ok_is_safe_ring (T : Txt K mg) : FnOk P w K mg base CX0 2 T.f_is_safe_ring T.d_is_safe_ring ["shape"] (spD K fun ds d => ∃ c f m : Int, ds = [.tuple [.int c, .int f, .int m]] ∧ c.natAbs < 2 ^ 200 ∧ m.natAbs < 2 ^ 200 ∧ f.natAbs < 2 ^ 200 ∧ d = .bool (decide (2 ≤ m) && decide (3 * f < m * c))) := by
  refine T.F_is_safe_ring.ok sc_is_safe_ring (by rintro vs H Q E ⟨b, ds, d, hs, hd, ⟨c, f, m, rfl, _, _, _, rfl⟩, q⟩; exact hd.length) (fun cdv A outer s H vs Q E hr h => ?_)
  obtain ⟨b, ds, d, hs, hd, ⟨c, f, m, rfl, hc, hm, hf, rfl⟩, q⟩ := h
  refine ⟨_, (pss_cons (ps_asg (pv 0) (pg_tup (n := 3) rfl (pgs_cons (pg_name (i := 1) sc_is_safe_ring.nd rfl (by first | exact Or.inl rfl | exact Or.inr rfl)) (pgs_cons (pg_name (i := 2) sc_is_safe_ring.nd rfl (by first | exact Or.inl rfl | exact Or.inr rfl)) (pgs_cons (pg_name (i := 3) sc_is_safe_ring.nd rfl (by first | exact Or.inl rfl | exact Or.inr rfl)) pgs_nil)))))
    (pss_one (ps_ret (pe_and (pe_cmpR op_ge (pv 3) pe_int (nomark _)) (pe_one (pe_cmpR op_gt (pe_call (ok_turn_in T) (hr.mono (by omega)) (by rfl) T.m_turn_in T.F_turn_in.kp T.b_turn_in .nil pass0 (pa_cons (pv 0) pa_nil)) (pe_op op_mulA pe_int (pv 2)) (nomark _))))))), ?_⟩
  have Z := S.init (B := []) hs hd ["shape", "_", "flight", "marks"]
  refine q_tup3 Z (by walk_at "dv") fun σ b h F Z => ?_
  refine s_ret Z (d_andV (by walk_at "dv") fun _ => d_op (d_call (ds_cons (by walk_at "dv") ds_nil) ⟨c, f, m, rfl, hc, hm, rfl⟩) (by walk_at "dv") (by walk_at "rv")) q
theorem ok_cell_in (T : Txt K mg) : FnOk P w K mg base CX0 1 T.f_cell_in T.d_cell_in ["shape", "number"] (spD K fun ds d => ∃ c f m n : Int, ds = [.tuple [.int c, .int f, .int m], .int n] ∧ 0 < c ∧ d = .int (n % c)) := by
  refine T.F_cell_in.ok sc_cell_in (by rintro vs H Q E ⟨b, ds, d, hs, hd, ⟨c, f, m, n, rfl, _, rfl⟩, q⟩; exact hd.length) (fun cdv A outer s H vs Q E hr h => ?_)
  obtain ⟨b, ds, d, hs, hd, ⟨c, f, m, n, rfl, hc, rfl⟩, q⟩ := h
  refine ⟨_, (pss_one (ps_ret (pe_op op_mod (pv 1) (pe_ix ix_seq (pv 0) pe_int (fun _ _ => rfl))))), ?_⟩
  have Z := S.init (B := []) hs hd ["shape", "number"]
  exact s_ret Z (by walk_at "dv") q
theorem ok_mark_in (T : Txt K mg) : FnOk P w K mg base CX0 1 T.f_mark_in T.d_mark_in ["shape", "number"] (spD K fun ds d => ∃ c f m n : Int, ds = [.tuple [.int c, .int f, .int m], .int n] ∧ 0 < c ∧ c.natAbs < 2 ^ 200 ∧ 0 < m ∧ d = .int (n / c % m)) := by
  refine T.F_mark_in.ok sc_mark_in (by rintro vs H Q E ⟨b, ds, d, hs, hd, ⟨c, f, m, n, rfl, _, _, _, rfl⟩, q⟩; exact hd.length) (fun cdv A outer s H vs Q E hr h => ?_)
  obtain ⟨b, ds, d, hs, hd, ⟨c, f, m, n, rfl, hc, hcc, hm, rfl⟩, q⟩ := h
  refine ⟨_, (pss_cons (ps_asg (pv 0) (pg_tup (n := 3) rfl (pgs_cons (pg_name (i := 2) sc_mark_in.nd rfl (by first | exact Or.inl rfl | exact Or.inr rfl)) (pgs_cons (pg_name (i := 3) sc_mark_in.nd rfl (by first | exact Or.inl rfl | exact Or.inr rfl)) (pgs_cons (pg_name (i := 4) sc_mark_in.nd rfl (by first | exact Or.inl rfl | exact Or.inr rfl)) pgs_nil)))))
    (pss_one (ps_ret (pe_op op_mod (pe_op op_fdivW (pv 1) (pv 2)) (pv 4))))), ?_⟩
  have Z := S.init (B := []) hs hd ["shape", "number", "cells", "_", "marks"]
  refine q_tup3 Z (by walk_at "dv") fun σ b h F Z => ?_
  exact s_ret Z (by walk_at "dv") q
theorem ok_is_number (T : Txt K mg) : FnOk P w K mg base CX0 1 T.f_is_number T.d_is_number ["thing"] (spD K fun ds d => ∃ x, ds = [x] ∧ d = .bool (isNum x)) := by
  refine T.F_is_number.ok sc_is_number (by rintro vs H Q E ⟨b, ds, d, hs, hd, ⟨x, rfl, rfl⟩, q⟩; exact hd.length) (fun cdv A outer s H vs Q E hr h => ?_)
  obtain ⟨b, ds, d, hs, hd, ⟨x, rfl, rfl⟩, q⟩ := h
  refine ⟨_, (pss_one (ps_ret (pe_and (pe_callB call_isi (by rfl) T.z_isinstance (by decide +kernel) (pa_cons (pv 0) (pa_cons (pe_bltn (v := .ty "int") (by rfl) T.z_int (by decide +kernel) rfl) pa_nil))) (pe_one (pe_not (pe_callB call_isi (by rfl) T.z_isinstance (by decide +kernel) (pa_cons (pv 0) (pa_cons (pe_bltn (v := .ty "bool") (by rfl) T.z_bool (by decide +kernel) rfl) pa_nil)))))))), ?_⟩
  have Z := S.init (B := []) hs hd ["thing"]
  cases hd with
  | cons hx hn =>
    cases hx <;> (apply s_retE Z (k := q); walk_at "dv"; rfl)
theorem ok_is_natural (T : Txt K mg) : FnOk P w K mg base CX0 2 T.f_is_natural T.d_is_natural ["thing"] (spD K fun ds d => ∃ i : Int, ds = [.int i] ∧ d = .bool (decide (0 ≤ i))) := by
  refine T.F_is_natural.ok sc_is_natural (by rintro vs H Q E ⟨b, ds, d, hs, hd, ⟨x, rfl, rfl⟩, q⟩; exact hd.length) (fun cdv A outer s H vs Q E hr h => ?_)
  obtain ⟨b, ds, d, hs, hd, ⟨x, rfl, rfl⟩, q⟩ := h
  refine ⟨_, (pss_one (ps_ret (pe_and (pe_call (ok_is_number T) (hr.mono (by omega)) (by rfl) T.m_is_number T.F_is_number.kp T.b_is_number .nil pass0 (pa_cons (pv 0) pa_nil)) (pe_one (pe_cmpR op_ge (pv 0) pe_int (nomark _)))))), ?_⟩
  have Z := S.init (B := []) hs hd ["thing"]
  refine s_retE Z (d_andV (d_call (ds_cons (by walk_at "dv") ds_nil) ⟨_, rfl, rfl⟩) fun _ => (by walk_at "dv")) ?_ q
  rfl
theorem ok_is_below (T : Txt K mg) : FnOk P w K mg base CX0 3 T.f_is_below T.d_is_below ["thing", "bound"] (spD K fun ds d => ∃ i j : Int, ds = [.int i, .int j] ∧ d = .bool (decide (0 ≤ i) && decide (i < j))) := by
  refine T.F_is_below.ok sc_is_below (by rintro vs H Q E ⟨b, ds, d, hs, hd, ⟨x, y, rfl, rfl⟩, q⟩; exact hd.length) (fun cdv A outer s H vs Q E hr h => ?_)
  obtain ⟨b, ds, d, hs, hd, ⟨x, y, rfl, rfl⟩, q⟩ := h
  refine ⟨_, (pss_one (ps_ret (pe_and (pe_call (ok_is_natural T) (hr.mono (by omega)) (by rfl) T.m_is_natural T.F_is_natural.kp T.b_is_natural .nil pass0 (pa_cons (pv 0) pa_nil)) (pe_one (pe_cmpR op_lt (pv 0) (pv 1) (nomark _)))))), ?_⟩
  have Z := S.init (B := []) hs hd ["thing", "bound"]
  exact s_ret Z (d_andV (d_call (ds_cons (by walk_at "dv") ds_nil) ⟨_, rfl, rfl⟩) fun _ => (by walk_at "dv")) q
def isRow (n : Int) : PyData → Bool
  | .tuple xs => decide ((xs.length : Int) = n)
  | _ => false
theorem ok_is_row (T : Txt K mg) : FnOk P w K mg base CX0 1 T.f_is_row T.d_is_row ["thing", "many"] (spD K fun ds d => ∃ x n, ds = [x, .int n] ∧ d = .bool (isRow n x)) := by
  refine T.F_is_row.ok sc_is_row (by rintro vs H Q E ⟨b, ds, d, hs, hd, ⟨x, n, rfl, rfl⟩, q⟩; exact hd.length) (fun cdv A outer s H vs Q E hr h => ?_)
  obtain ⟨b, ds, d, hs, hd, ⟨x, n, rfl, rfl⟩, q⟩ := h
  refine ⟨_, (pss_one (ps_ret (pe_and (pe_callB call_isi (by rfl) T.z_isinstance (by decide +kernel) (pa_cons (pv 0) (pa_cons (pe_bltn (v := .ty "tuple") (by rfl) T.z_tuple (by decide +kernel) rfl) pa_nil))) (pe_one (pe_cmpR (op_eqA hr.units) (pe_callB call_len (by rfl) T.z_len (by decide +kernel) (pa_cons (pv 0) pa_nil)) (pv 1) (nomark _)))))), ?_⟩
  have Z := S.init (B := []) hs hd ["thing", "many"]
  cases hd with
  | cons hx hn =>
    cases hx with
    | tup s a => exact s_retE Z (d_andV (d_isi (r := true) (by walk_at "dv") rfl) fun _ => (by walk_at "dv")) rfl q
    | _ => exact s_retE Z (d_andV (y := false) (d_isi (r := false) (by walk_at "dv") rfl) fun z => by cases z) rfl q
end
end LW

namespace LW
open PySem L2 DV
local macro_rules | `(tactic| walk_at "dv") => `(tactic| first
  | exact d_int _ | exact d_str _ | exact d_bl _ | exact d_non
  | (apply d_varZ (by assumption); rfl)
  | (apply d_var (by assumption); rfl)
  | exact ds_nil
  | (apply ds_cons; walk_at "dv"; walk_at "dv")
  | (apply d_op; walk_at "dv"; walk_at "dv"; walk_at "rv")
  | (apply d_tup; walk_at "dv"; (simp only [List.length]; omega))
  | (apply d_lst; walk_at "dv"; (simp only [List.length]; omega))
  | (apply d_neg; walk_at "dv")
  | (apply d_notV; walk_at "dv")
  | (apply d_isi; walk_at "dv"; rfl)
  | (apply d_isi2; walk_at "dv"; rfl; rfl)
  | (apply d_cb; walk_at "dv"; walk_at "rc")
  | (apply d_andV; walk_at "dv"; (intro _; walk_at "dv"))
  | (apply d_orV; walk_at "dv"; (intro _; walk_at "dv"))
  | (apply d_chain; walk_at "dv"; walk_at "dv"; walk_at "dv"; walk_at "rv"; walk_at "rv")
  | (apply b_and; walk_at "dv"; (intro _; walk_at "dv"))
  | (apply b_or; walk_at "dv"; (intro _; walk_at "dv"))
  | (apply b_test; walk_at "dv")
  | (apply b_B; walk_at "dv")
  | (apply b_not; walk_at "dv")
  | exact b_yes)
local macro_rules | `(tactic| walk_at "rv") => `(tactic| first
  | exact rv_addI | exact rv_subI | exact rv_ltI | exact rv_leI | exact rv_gtI | exact rv_geI
  | exact rv_eqAI | exact rv_eqAB | exact rv_neAI | exact rv_neAB | exact rv_eqAS | exact rv_eqAN
  | exact rv_ixT rfl | exact rv_ixL rfl
  | (apply rv_modI; first | assumption | decide | omega)
  | (apply rv_divI; (first | assumption | decide | omega); (first | assumption | decide | omega))
  | (apply rv_mulI; (first | assumption | decide | omega); (first | assumption | decide | omega)))
local macro_rules | `(tactic| walk_at "rc") => `(tactic| first
  | exact rc_lenL | exact rc_lenT | exact rc_max | exact rc_min | exact rc_int | exact rc_intB | exact rc_tupL | exact rc_tupT | exact rc_listT | exact rc_listL | exact rc_abs)

section
variable {P : Program} {w : World} {K : PySem.W.Frag} {mg : Str → Option Value} {base : Heap}
theorem bd1_as_tuples (T : Txt K mg) : ∃ ds, Vals [V.int 20] ds ∧ Binds K T.d_as_tuples ["thing", "depth"] ds :=
  FunD.binds1 (ps := ["thing", "depth"]) T.F_as_tuples 1 0 (by simp) rfl fun Tt kV doc pm an cdv ct us its h1 h2 => by
    match us, its, h1, h2 with
    | [u], [d], _, _ => exact ⟨_, rfl, rfl⟩
theorem bd2_as_tuples (T : Txt K mg) : Binds K T.d_as_tuples ["thing", "depth"] [] := by
  obtain ⟨ds, v, b⟩ := FunD.binds1 (ps := ["thing", "depth"]) T.F_as_tuples 2 1 (by simp) rfl fun Tt kV doc pm an cdv ct us its h1 h2 => by
    match us, its, h1, h2 with
    | [u, z], [d], _, _ => exact ⟨_, rfl, rfl⟩
  cases v
  exact b
abbrev RAsTuples (n : Nat) : List PyData → PyData → Prop := fun ds d => ∃ (x : PyData) (k : Int), ds = [x, .int k] ∧ fine n x = true ∧ (n : Int) ≤ k ∧ d = tupN n x
theorem ok_as_tuples (T : Txt K mg) : ∀ n : Nat, FnOk P w K mg base CX0 (n + 1) T.f_as_tuples T.d_as_tuples ["thing", "depth"] (spD K (RAsTuples n)) := by
  intro n
  induction n with
  | zero =>
    refine T.F_as_tuples.ok sc_as_tuples (by rintro vs H Q E ⟨b, ds, d, hs, hd, ⟨x, k, rfl, _, _, rfl⟩, q⟩; exact hd.length) (fun cdv A outer s H vs Q E hr h => ?_)
    obtain ⟨b, ds, d, hs, hd, ⟨x, k, rfl, hf, hk, rfl⟩, q⟩ := h
    refine ⟨_, pss_cons (ps_if (PW.pt (pw_or (pt_cmpR (op_eqA hr.units) (pv 1) pe_int (nomark _)) (pw_or1 (pt_not (pt_val (pe_callB call_isiT (by rfl) T.z_isinstance (by decide +kernel) (pa_cons (pv 0) (pa_cons (pe_tup (pa_cons (pe_bltn (v := .ty "list") (by rfl) T.z_list (by decide +kernel) rfl) (pa_cons (pe_bltn (v := .ty "tuple") (by rfl) T.z_tuple (by decide +kernel) rfl) pa_nil))) pa_nil)))))))) (pss_one (ps_ret (pv 0))) pss_nil) (pss_one ps_never), ?_⟩
    have Z := S.init (B := []) hs hd ["thing", "depth", "part"]
    cases hd with
    | cons hx hn =>
      cases hx with
      | lst s a => cases hf
      | tup s a => cases hf
      | _ =>
        apply q_whenT Z
        walk_at "dv"
        exact Bool.or_true _
        intro b2 h2 F Z
        exact s_ret Z (by walk_at "dv") q
  | succ n ih =>
    refine T.F_as_tuples.ok sc_as_tuples (by rintro vs H Q E ⟨b, ds, d, hs, hd, ⟨x, k, rfl, _, _, rfl⟩, q⟩; exact hd.length) (fun cdv A outer s H vs Q E hr h => ?_)
    obtain ⟨b, ds, d, hs, hd, ⟨x, k, rfl, hf, hk, rfl⟩, q⟩ := h
    have hk0 : k ≠ 0 := by omega
    have hk1 : (n : Int) ≤ k - 1 := by omega
    have Z := S.init (B := []) hs hd ["thing", "depth", "part"]
    cases hd with
    | cons hx hn =>
      cases hx with
      | @lst a0 xs0 ds0 s a =>
        refine ⟨_, (pss_cons (ps_if (PW.pt (pw_or (pt_cmpR (op_eqA hr.units) (pv 1) pe_int (nomark _)) (pw_or1 (pt_not (pt_val (pe_callB call_isiT (by rfl) T.z_isinstance (by decide +kernel) (pa_cons (pv 0) (pa_cons (pe_tup (pa_cons (pe_bltn (v := .ty "list") (by rfl) T.z_list (by decide +kernel) rfl) (pa_cons (pe_bltn (v := .ty "tuple") (by rfl) T.z_tuple (by decide +kernel) rfl) pa_nil))) pa_nil)))))))) (pss_one (ps_ret (pv 0))) pss_nil)
    (pss_one (ps_ret (pe_callTy call_tuple_of (by rfl) T.z_tuple (by decide +kernel) (pa_cons (pe_lc (own := [("part", 2)]) (g := gName 2) rfl sc_as_tuples.nd (pi_list (pv 0)) (blkOk_by (N := ["thing", "depth", "part"]) (sc := defScope s_as_tuples) (by decide +kernel)) (fun _ _ _ _ _ => (pg_name (i := 2) sc_as_tuples.nd rfl (by first | exact Or.inl rfl | exact Or.inr rfl))) (fun _ _ _ _ _ => pts_nil) (fun _ _ _ _ _ => (pe_call ih (hr.mono (by omega)) (by rfl) T.m_as_tuples T.F_as_tuples.kp (bd2_as_tuples T) .nil pass0 (pa_cons (pv 2) (pa_cons (pe_op op_sub (pv 1) pe_int) pa_nil))))) pa_nil))))), ?_⟩
        have hf' : (decide (ds0.length ≤ 90000) && ds0.all (fine n)) = true := hf
        rw [Bool.and_eq_true, decide_eq_true_eq, List.all_eq_true] at hf'
        apply q_whenF Z
        walk_at "dv"
        rw [decide_eq_false hk0]; rfl
        intro b2 h2 F Z
        refine s_retE Z (d_cb (ds_cons (d_lcL (fun _ => true) (tupN n) Z.sl (by walk_at "dv") hf'.1 (fun x => wipe1) fun m d σ2 b2 hm e Sl => ⟨b_yes, fun _ => d_call (ds_cons (by walk_at "dv") (ds_cons (by walk_at "dv") ds_nil)) ⟨d, k - 1, rfl, hf'.2 d (List.mem_of_getElem? hm), hk1, rfl⟩⟩) ds_nil) rc_tupL) ?_ q
        rw [filt]
        rfl
      | @tup a0 xs0 ds0 s a =>
        refine ⟨_, (pss_cons (ps_if (PW.pt (pw_or (pt_cmpR (op_eqA hr.units) (pv 1) pe_int (nomark _)) (pw_or1 (pt_not (pt_val (pe_callB call_isiT (by rfl) T.z_isinstance (by decide +kernel) (pa_cons (pv 0) (pa_cons (pe_tup (pa_cons (pe_bltn (v := .ty "list") (by rfl) T.z_list (by decide +kernel) rfl) (pa_cons (pe_bltn (v := .ty "tuple") (by rfl) T.z_tuple (by decide +kernel) rfl) pa_nil))) pa_nil)))))))) (pss_one (ps_ret (pv 0))) pss_nil)
    (pss_one (ps_ret (pe_callTy call_tuple_of (by rfl) T.z_tuple (by decide +kernel) (pa_cons (pe_lc (own := [("part", 2)]) (g := gName 2) rfl sc_as_tuples.nd (pi_tup (pv 0)) (blkOk_by (N := ["thing", "depth", "part"]) (sc := defScope s_as_tuples) (by decide +kernel)) (fun _ _ _ _ _ => (pg_name (i := 2) sc_as_tuples.nd rfl (by first | exact Or.inl rfl | exact Or.inr rfl))) (fun _ _ _ _ _ => pts_nil) (fun _ _ _ _ _ => (pe_call ih (hr.mono (by omega)) (by rfl) T.m_as_tuples T.F_as_tuples.kp (bd2_as_tuples T) .nil pass0 (pa_cons (pv 2) (pa_cons (pe_op op_sub (pv 1) pe_int) pa_nil))))) pa_nil))))), ?_⟩
        have hf' : (decide (ds0.length ≤ 90000) && ds0.all (fine n)) = true := hf
        rw [Bool.and_eq_true, decide_eq_true_eq, List.all_eq_true] at hf'
        apply q_whenF Z
        walk_at "dv"
        rw [decide_eq_false hk0]; rfl
        intro b2 h2 F Z
        refine s_retE Z (d_cb (ds_cons (d_lcT (fun _ => true) (tupN n) Z.sl (by walk_at "dv") hf'.1 (fun x => wipe1) fun m d σ2 b2 hm e Sl => ⟨b_yes, fun _ => d_call (ds_cons (by walk_at "dv") (ds_cons (by walk_at "dv") ds_nil)) ⟨d, k - 1, rfl, hf'.2 d (List.mem_of_getElem? hm), hk1, rfl⟩⟩) ds_nil) rc_tupL) ?_ q
        rw [filt]
        rfl
      | _ =>
        refine ⟨_, (pss_cons (ps_if (PW.pt (pw_or (pt_cmpR (op_eqA hr.units) (pv 1) pe_int (nomark _)) (pw_or1 (pt_not (pt_val (pe_callB call_isiT (by rfl) T.z_isinstance (by decide +kernel) (pa_cons (pv 0) (pa_cons (pe_tup (pa_cons (pe_bltn (v := .ty "list") (by rfl) T.z_list (by decide +kernel) rfl) (pa_cons (pe_bltn (v := .ty "tuple") (by rfl) T.z_tuple (by decide +kernel) rfl) pa_nil))) pa_nil)))))))) (pss_one (ps_ret (pv 0))) pss_nil)
    (pss_one (ps_ret (pe_callTy call_tuple_of (by rfl) T.z_tuple (by decide +kernel) (pa_cons (pe_lc (own := [("part", 2)]) (g := gName 2) rfl sc_as_tuples.nd (pi_list (pv 0)) (blkOk_by (N := ["thing", "depth", "part"]) (sc := defScope s_as_tuples) (by decide +kernel)) (fun _ _ _ _ _ => (pg_name (i := 2) sc_as_tuples.nd rfl (by first | exact Or.inl rfl | exact Or.inr rfl))) (fun _ _ _ _ _ => pts_nil) (fun _ _ _ _ _ => (pe_call ih (hr.mono (by omega)) (by rfl) T.m_as_tuples T.F_as_tuples.kp (bd2_as_tuples T) .nil pass0 (pa_cons (pv 2) (pa_cons (pe_op op_sub (pv 1) pe_int) pa_nil))))) pa_nil))))), ?_⟩
        apply q_whenT Z
        walk_at "dv"
        exact Bool.or_true _
        intro b2 h2 F Z
        exact s_retE Z (by walk_at "dv") rfl q
theorem ok_checked (T : Txt K mg) {f : Addr} {fd : FuncData} {k : Nat} {ps : List Str} {R : List PyData → PyData → Prop} (G : FnOk P w K mg base CX0 k f fd ps (spD K R)) (HK_is_such : k ≤ 7) (KP_is_such : PySem.W.keepIn K (.ref f) = true) (BD_is_such : Binds K fd ps []) :
    FnOk P w K mg base CX0 8 T.f_checked T.d_checked ["is_such", "thing"] (spSuch K f R) := by
  obtain ⟨dsA, VD_as_tuples, BD_as_tuples⟩ := bd1_as_tuples T
  refine T.F_checked.ok sc_checked (by rintro vs H Q E ⟨b, v, x, rfl, _⟩; rfl) (fun cdv A outer s H vs Q E hr h => ?_)
  obtain ⟨b, v, x, rfl, hs, hx, hf, hR, q⟩ := h
  refine ⟨_, (pss_cons (ps_set (i := 2) sc_checked.nd rfl (by first | exact Or.inl rfl | exact Or.inr rfl) (pe_call (ok_as_tuples T 6) (hr.mono (by omega)) (by rfl) T.m_as_tuples T.F_as_tuples.kp BD_as_tuples VD_as_tuples pass0 (pa_cons (pv 1) pa_nil)))
    (pss_cons (ps_if (pt_not (pt_val (pe_callL (i := 0) G (hr.mono HK_is_such) rfl (by first | exact Or.inl rfl | exact Or.inr (Or.inl rfl) | exact Or.inr (Or.inr rfl)) KP_is_such BD_is_such .nil pass0 (pa_cons (pv 2) pa_nil)))) (pss_one ps_never) pss_nil)
    (pss_one (ps_ret (pv 2))))), ?_⟩
  have Z : S K [] b H (start ["is_such", "thing", "own"] [.ref f, v]) b H [.adr f, .dat x, .un] := ⟨Fr.rfl' hs, .cons rfl (.cons ⟨v, rfl, hx⟩ (.cons True.intro .nil))⟩
  refine q_asg Z (d_callD (es := [.int 20]) (ds_cons (by walk_at "dv") ds_nil) (fun H => .cons (.int 20) .nil) ⟨x, 20, rfl, hf, by decide, rfl⟩) fun σ b2 h2 F Z => ?_
  apply q_whenF Z
  exact b_not (b_B (d_callL Z.sl rfl (ds_cons (by walk_at "dv") ds_nil) hR))
  rfl
  intro b3 h3 F3 Z
  exact s_ret Z (by walk_at "dv") q
/-! shapes -/
def shV (c f m : Int) : Prop := 2 ≤ c ∧ 1 ≤ f ∧ f < c ∧ 1 ≤ m ∧ c < 2 ^ 60 ∧ m < 2 ^ 60
abbrev shD (c f m : Int) : PyData := .tuple [.int c, .int f, .int m]
def shOf (x : PyData) (c f m : Int) : Prop := x = .tuple [.int c, .int f, .int m] ∨ x = .list [.int c, .int f, .int m]
theorem shOf.fine {x : PyData} {c f m : Int} (h : shOf x c f m) : fine 6 x = true := by rcases h with rfl | rfl <;> rfl
theorem shOf.tup {x : PyData} {c f m : Int} (h : shOf x c f m) : tupN 6 x = shD c f m := by rcases h with rfl | rfl <;> rfl
abbrev RIsShape : List PyData → PyData → Prop := fun ds d => (∃ c f m : Int, ds = [shD c f m] ∧ d = .bool (decide (2 ≤ c) && (decide (1 ≤ f) && decide (f < c) && decide (1 ≤ m)))) ∨ (∃ xs, ds = [.list xs] ∧ d = .bool false)
theorem ok_is_shape (T : Txt K mg) : FnOk P w K mg base CX0 2 T.f_is_shape T.d_is_shape ["thing"] (spD K RIsShape) := by
  refine T.F_is_shape.ok sc_is_shape (by rintro vs H Q E ⟨b, ds, d, hs, hd, h, q⟩; rcases h with ⟨c, f, m, rfl, _⟩ | ⟨xs, rfl, _⟩ <;> exact hd.length) (fun cdv A outer s H vs Q E hr h => ?_)
  obtain ⟨b, ds, d, hs, hd, h, q⟩ := h
  refine ⟨_, (pss_cons (ps_if (PW.pt (pw_or (pt_not (pt_val (pe_call (ok_is_row T) (hr.mono (by omega)) (by rfl) T.m_is_row T.F_is_row.kp T.b_is_row .nil pass0 (pa_cons (pv 0) (pa_cons pe_int pa_nil))))) (pw_or1 (pt_not (pt_val (pe_callB (cr_all rfl) (by rfl) T.z_all (by decide +kernel) (pa_cons (pe_lc (own := [("part", 1)]) (g := gName 1) rfl sc_is_shape.nd (pi_tup (pv 0)) (blkOk_by (N := ["thing", "part", "cells", "flight", "marks"]) (sc := defScope s_is_shape) (by decide +kernel)) (fun _ _ _ _ _ => (pg_name (i := 1) sc_is_shape.nd rfl (by first | exact Or.inl rfl | exact Or.inr rfl))) (fun _ _ _ _ _ => pts_nil) (fun _ _ _ _ _ => (pe_call (ok_is_number T) (hr.mono (by omega)) (by rfl) T.m_is_number T.F_is_number.kp T.b_is_number .nil pass0 (pa_cons (pv 1) pa_nil)))) pa_nil))))))) (pss_one (ps_ret pe_bl)) pss_nil)
    (pss_cons (ps_asg (pv 0) (pg_tup (n := 3) rfl (pgs_cons (pg_name (i := 2) sc_is_shape.nd rfl (by first | exact Or.inl rfl | exact Or.inr rfl)) (pgs_cons (pg_name (i := 3) sc_is_shape.nd rfl (by first | exact Or.inl rfl | exact Or.inr rfl)) (pgs_cons (pg_name (i := 4) sc_is_shape.nd rfl (by first | exact Or.inl rfl | exact Or.inr rfl)) pgs_nil)))))
    (pss_one (ps_ret (pe_and (pe_cmpR op_ge (pv 2) pe_int (nomark _)) (pe_and (pe_chain op_le op_lt pe_int (pv 3) (pv 2)) (pe_one (pe_cmpR op_ge (pv 4) pe_int (nomark _))))))))), ?_⟩
  have Z := S.init (B := []) hs hd ["thing", "part", "cells", "flight", "marks"]
  rcases h with ⟨c, f, m, rfl, rfl⟩ | ⟨xs, rfl, rfl⟩
  · apply q_whenF Z
    refine b_or (b_not (b_B (d_call (ds_cons (by walk_at "dv") (ds_cons (by walk_at "dv") ds_nil)) ⟨_, _, rfl, rfl⟩))) fun _ => b_not (b_B (d_cb (ds_cons (EvD.is (d_lcT (ds := [.int c, .int f, .int m]) (fun _ => true) (fun d => .bool (isNum d)) Z.sl (by walk_at "dv") (show 3 ≤ 90000 by decide) (fun x => wipe1) fun m d σ2 b2 hm e Sl => ⟨b_yes, fun _ => d_call (ds_cons (by walk_at "dv") ds_nil) ⟨d, rfl, rfl⟩⟩) (congrArg PyData.list all_ints)) ds_nil) rc_all))
    rfl
    intro b2 h2 F Z
    refine q_tup3 Z (by walk_at "dv") fun σ b h F Z => ?_
    exact s_ret Z (by walk_at "dv") q
  · apply q_whenT Z
    refine b_or (y := false) (b_not (b_B (d_call (ds_cons (by walk_at "dv") (ds_cons (by walk_at "dv") ds_nil)) ⟨_, _, rfl, rfl⟩))) fun z => by cases z
    rfl
    intro b2 h2 F Z
    exact s_ret Z (by walk_at "dv") q
theorem RIsShape.of {x : PyData} {c f m : Int} (h : shOf x c f m) (v : shV c f m) : RIsShape [tupN 6 x] (.bool true) := by
  rw [h.tup]
  refine .inl ⟨c, f, m, rfl, ?_⟩
  obtain ⟨h1, h2, h3, h4, _⟩ := v
  rw [decide_eq_true h1, decide_eq_true h2, decide_eq_true h3, decide_eq_true h4]
  rfl
end
end LW

namespace LW
open PySem L2 DV
local macro_rules | `(tactic| walk_at "dv") => `(tactic| first
  | exact d_int _ | exact d_str _ | exact d_bl _ | exact d_non
  | (apply d_varZ (by assumption); rfl)
  | (apply d_var (by assumption); rfl)
  | exact ds_nil
  | (apply ds_cons; walk_at "dv"; walk_at "dv")
  | (apply d_op; walk_at "dv"; walk_at "dv"; walk_at "rv")
  | (apply d_tup; walk_at "dv"; (simp only [List.length]; omega))
  | (apply d_lst; walk_at "dv"; (simp only [List.length]; omega))
  | (apply d_neg; walk_at "dv")
  | (apply d_notV; walk_at "dv")
  | (apply d_isi; walk_at "dv"; rfl)
  | (apply d_isi2; walk_at "dv"; rfl; rfl)
  | (apply d_cb; walk_at "dv"; walk_at "rc")
  | (apply d_andV; walk_at "dv"; (intro _; walk_at "dv"))
  | (apply d_orV; walk_at "dv"; (intro _; walk_at "dv"))
  | (apply d_chain; walk_at "dv"; walk_at "dv"; walk_at "dv"; walk_at "rv"; walk_at "rv")
  | (apply b_and; walk_at "dv"; (intro _; walk_at "dv"))
  | (apply b_or; walk_at "dv"; (intro _; walk_at "dv"))
  | (apply b_test; walk_at "dv")
  | (apply b_B; walk_at "dv")
  | (apply b_not; walk_at "dv")
  | exact b_yes)
local macro_rules | `(tactic| walk_at "rv") => `(tactic| first
  | exact rv_addI | exact rv_subI | exact rv_ltI | exact rv_leI | exact rv_gtI | exact rv_geI
  | exact rv_eqAI | exact rv_eqAB | exact rv_neAI | exact rv_neAB | exact rv_eqAS | exact rv_eqAN
  | exact rv_ixT rfl | exact rv_ixL rfl
  | (apply rv_modI; first | assumption | decide | omega)
  | (apply rv_divI; (first | assumption | decide | omega); (first | assumption | decide | omega))
  | (apply rv_mulI; (first | assumption | decide | omega); (first | assumption | decide | omega)))
local macro_rules | `(tactic| walk_at "rc") => `(tactic| first
  | exact rc_lenL | exact rc_lenT | exact rc_max | exact rc_min | exact rc_int | exact rc_intB | exact rc_tupL | exact rc_tupT | exact rc_listT | exact rc_listL | exact rc_abs)

section
variable {P : Program} {w : World} {K : PySem.W.Frag} {mg : Str → Option Value} {base : Heap}
theorem d_shape {σ : St} {b : Hp} {te : TE} {x : PyData} {c f m : Int} {g : Addr} {E : XK} (h : EvD K te σ b x) (o : shOf x c f m) (v : shV c f m) : EvD K (tCall (spSuch K g RIsShape) [] E (tCons (tC (.ref g)) (tCons te tNil))) σ b (shD c f m) :=
  (d_such h o.fine (RIsShape.of o v)).is o.tup
theorem d_num {σ : St} {b : Hp} {te : TE} {n : Int} {g : Addr} {E : XK} (h : EvD K te σ b (.int n)) : EvD K (tCall (spSuch K g fun ds d => ∃ x, ds = [x] ∧ d = .bool (isNum x)) [] E (tCons (tC (.ref g)) (tCons te tNil))) σ b (.int n) :=
  (d_such h rfl ⟨.int n, rfl, rfl⟩).is rfl
theorem big {x : Int} (h0 : 1 ≤ x) (h : x < 2 ^ 60) : x.natAbs < 2 ^ 200 := by
  have : x.natAbs < 2 ^ 60 := by omega
  exact Nat.lt_of_lt_of_le this (by decide)
abbrev RSh1 (g : Int → Int → Int → PyData) : List PyData → PyData → Prop := fun ds d => ∃ (x : PyData) (c f m : Int), ds = [x] ∧ shOf x c f m ∧ shV c f m ∧ d = g c f m
abbrev RSh2 (g : Int → Int → Int → Int → PyData) : List PyData → PyData → Prop := fun ds d => ∃ (x : PyData) (c f m n : Int), ds = [x, .int n] ∧ shOf x c f m ∧ shV c f m ∧ d = g c f m n
abbrev RSh3 (g : Int → Int → Int → Int → Int → PyData) : List PyData → PyData → Prop := fun ds d => ∃ (x : PyData) (c f m n k : Int), ds = [x, .int n, .int k] ∧ shOf x c f m ∧ shV c f m ∧ d = g c f m n k
theorem ok_window (T : Txt K mg) : FnOk P w K mg base CX0 9 T.f_window T.d_window ["shape"] (spD K (RSh1 fun c f m => .int (c - f))) := by
  refine T.F_window.ok sc_window (by rintro vs H Q E ⟨b, ds, d, hs, hd, ⟨x, c, f, m, rfl, _⟩, q⟩; exact hd.length) (fun cdv A outer s H vs Q E hr h => ?_)
  obtain ⟨b, ds, d, hs, hd, ⟨x, c, f, m, rfl, o, v, rfl⟩, q⟩ := h
  refine ⟨_, (pss_one (ps_ret (pe_call (ok_window_in T) (hr.mono (by omega)) (by rfl) T.m_window_in T.F_window_in.kp T.b_window_in .nil pass0 (pa_cons (pe_call (ok_checked T (ok_is_shape T) (by omega) T.F_is_shape.kp T.b_is_shape) (hr.mono (by omega)) (by rfl) T.m_checked T.F_checked.kp T.b_checked .nil pass0 (pa_cons (pe_glob (v := .ref T.f_is_shape) rfl T.m_is_shape rfl) (pa_cons (pv 0) pa_nil))) pa_nil)))), ?_⟩
  have Z := S.init (B := []) hs hd ["shape"]
  exact s_ret Z (d_call (ds_cons (d_shape (by walk_at "dv") o v) ds_nil) ⟨c, f, m, rfl, rfl⟩) q
theorem ok_turn_of (T : Txt K mg) : FnOk P w K mg base CX0 9 T.f_turn_of T.d_turn_of ["shape"] (spD K (RSh1 fun c f m => .int (m * c))) := by
  refine T.F_turn_of.ok sc_turn_of (by rintro vs H Q E ⟨b, ds, d, hs, hd, ⟨x, c, f, m, rfl, _⟩, q⟩; exact hd.length) (fun cdv A outer s H vs Q E hr h => ?_)
  obtain ⟨b, ds, d, hs, hd, ⟨x, c, f, m, rfl, o, v, rfl⟩, q⟩ := h
  refine ⟨_, (pss_one (ps_ret (pe_call (ok_turn_in T) (hr.mono (by omega)) (by rfl) T.m_turn_in T.F_turn_in.kp T.b_turn_in .nil pass0 (pa_cons (pe_call (ok_checked T (ok_is_shape T) (by omega) T.F_is_shape.kp T.b_is_shape) (hr.mono (by omega)) (by rfl) T.m_checked T.F_checked.kp T.b_checked .nil pass0 (pa_cons (pe_glob (v := .ref T.f_is_shape) rfl T.m_is_shape rfl) (pa_cons (pv 0) pa_nil))) pa_nil)))), ?_⟩
  have Z := S.init (B := []) hs hd ["shape"]
  have v' := v
  obtain ⟨v1, v2, v3, v4, v5, v6⟩ := v'
  exact s_ret Z (d_call (ds_cons (d_shape (by walk_at "dv") o v) ds_nil) ⟨c, f, m, rfl, big (by omega) v5, big v4 v6, rfl⟩) q
theorem ok_is_safe (T : Txt K mg) : FnOk P w K mg base CX0 9 T.f_is_safe T.d_is_safe ["shape"] (spD K (RSh1 fun c f m => .bool (decide (2 ≤ m) && decide (3 * f < m * c)))) := by
  refine T.F_is_safe.ok sc_is_safe (by rintro vs H Q E ⟨b, ds, d, hs, hd, ⟨x, c, f, m, rfl, _⟩, q⟩; exact hd.length) (fun cdv A outer s H vs Q E hr h => ?_)
  obtain ⟨b, ds, d, hs, hd, ⟨x, c, f, m, rfl, o, v, rfl⟩, q⟩ := h
  refine ⟨_, (pss_one (ps_ret (pe_call (ok_is_safe_ring T) (hr.mono (by omega)) (by rfl) T.m_is_safe_ring T.F_is_safe_ring.kp T.b_is_safe_ring .nil pass0 (pa_cons (pe_call (ok_checked T (ok_is_shape T) (by omega) T.F_is_shape.kp T.b_is_shape) (hr.mono (by omega)) (by rfl) T.m_checked T.F_checked.kp T.b_checked .nil pass0 (pa_cons (pe_glob (v := .ref T.f_is_shape) rfl T.m_is_shape rfl) (pa_cons (pv 0) pa_nil))) pa_nil)))), ?_⟩
  have Z := S.init (B := []) hs hd ["shape"]
  have v' := v
  obtain ⟨v1, v2, v3, v4, v5, v6⟩ := v'
  exact s_ret Z (d_call (ds_cons (d_shape (by walk_at "dv") o v) ds_nil) ⟨c, f, m, rfl, big (by omega) v5, big v4 v6, big v2 (by omega), rfl⟩) q
theorem ok_cell_of (T : Txt K mg) : FnOk P w K mg base CX0 9 T.f_cell_of T.d_cell_of ["shape", "number"] (spD K (RSh2 fun c f m n => .int (n % c))) := by
  refine T.F_cell_of.ok sc_cell_of (by rintro vs H Q E ⟨b, ds, d, hs, hd, ⟨x, c, f, m, n, rfl, _⟩, q⟩; exact hd.length) (fun cdv A outer s H vs Q E hr h => ?_)
  obtain ⟨b, ds, d, hs, hd, ⟨x, c, f, m, n, rfl, o, v, rfl⟩, q⟩ := h
  refine ⟨_, (pss_cons (ps_set (i := 0) sc_cell_of.nd rfl (by first | exact Or.inl rfl | exact Or.inr rfl) (pe_call (ok_checked T (ok_is_shape T) (by omega) T.F_is_shape.kp T.b_is_shape) (hr.mono (by omega)) (by rfl) T.m_checked T.F_checked.kp T.b_checked .nil pass0 (pa_cons (pe_glob (v := .ref T.f_is_shape) rfl T.m_is_shape rfl) (pa_cons (pv 0) pa_nil))))
    (pss_one (ps_ret (pe_call (ok_cell_in T) (hr.mono (by omega)) (by rfl) T.m_cell_in T.F_cell_in.kp T.b_cell_in .nil pass0 (pa_cons (pv 0) (pa_cons (pe_call (ok_checked T (ok_is_number T) (by omega) T.F_is_number.kp T.b_is_number) (hr.mono (by omega)) (by rfl) T.m_checked T.F_checked.kp T.b_checked .nil pass0 (pa_cons (pe_glob (v := .ref T.f_is_number) rfl T.m_is_number rfl) (pa_cons (pv 1) pa_nil))) pa_nil)))))), ?_⟩
  have Z := S.init (B := []) hs hd ["shape", "number"]
  have v' := v
  obtain ⟨v1, v2, v3, v4, v5, v6⟩ := v'
  refine q_asg Z (d_shape (by walk_at "dv") o v) fun σ b2 h2 F Z => ?_
  exact s_ret Z (d_call (ds_cons (by walk_at "dv") (ds_cons (d_num (by walk_at "dv")) ds_nil)) ⟨c, f, m, n, rfl, by omega, rfl⟩) q
theorem ok_mark_of (T : Txt K mg) : FnOk P w K mg base CX0 9 T.f_mark_of T.d_mark_of ["shape", "number"] (spD K (RSh2 fun c f m n => .int (n / c % m))) := by
  refine T.F_mark_of.ok sc_mark_of (by rintro vs H Q E ⟨b, ds, d, hs, hd, ⟨x, c, f, m, n, rfl, _⟩, q⟩; exact hd.length) (fun cdv A outer s H vs Q E hr h => ?_)
  obtain ⟨b, ds, d, hs, hd, ⟨x, c, f, m, n, rfl, o, v, rfl⟩, q⟩ := h
  refine ⟨_, (pss_cons (ps_set (i := 0) sc_mark_of.nd rfl (by first | exact Or.inl rfl | exact Or.inr rfl) (pe_call (ok_checked T (ok_is_shape T) (by omega) T.F_is_shape.kp T.b_is_shape) (hr.mono (by omega)) (by rfl) T.m_checked T.F_checked.kp T.b_checked .nil pass0 (pa_cons (pe_glob (v := .ref T.f_is_shape) rfl T.m_is_shape rfl) (pa_cons (pv 0) pa_nil))))
    (pss_one (ps_ret (pe_call (ok_mark_in T) (hr.mono (by omega)) (by rfl) T.m_mark_in T.F_mark_in.kp T.b_mark_in .nil pass0 (pa_cons (pv 0) (pa_cons (pe_call (ok_checked T (ok_is_number T) (by omega) T.F_is_number.kp T.b_is_number) (hr.mono (by omega)) (by rfl) T.m_checked T.F_checked.kp T.b_checked .nil pass0 (pa_cons (pe_glob (v := .ref T.f_is_number) rfl T.m_is_number rfl) (pa_cons (pv 1) pa_nil))) pa_nil)))))), ?_⟩
  have Z := S.init (B := []) hs hd ["shape", "number"]
  have v' := v
  obtain ⟨v1, v2, v3, v4, v5, v6⟩ := v'
  refine q_asg Z (d_shape (by walk_at "dv") o v) fun σ b2 h2 F Z => ?_
  exact s_ret Z (d_call (ds_cons (by walk_at "dv") (ds_cons (d_num (by walk_at "dv")) ds_nil)) ⟨c, f, m, n, rfl, by omega, big (by omega) v5, by omega, rfl⟩) q
theorem turn_pos {c f m : Int} (v : shV c f m) : 0 < m * c := by
  obtain ⟨v1, v2, v3, v4, v5, v6⟩ := v
  exact Int.mul_pos (by omega) (by omega)
theorem ok_as_place (T : Txt K mg) : FnOk P w K mg base CX0 9 T.f_as_place T.d_as_place ["shape", "number"] (spD K (RSh2 fun c f m n => .int (n % (m * c)))) := by
  refine T.F_as_place.ok sc_as_place (by rintro vs H Q E ⟨b, ds, d, hs, hd, ⟨x, c, f, m, n, rfl, _⟩, q⟩; exact hd.length) (fun cdv A outer s H vs Q E hr h => ?_)
  obtain ⟨b, ds, d, hs, hd, ⟨x, c, f, m, n, rfl, o, v, rfl⟩, q⟩ := h
  refine ⟨_, (pss_cons (ps_set (i := 0) sc_as_place.nd rfl (by first | exact Or.inl rfl | exact Or.inr rfl) (pe_call (ok_checked T (ok_is_shape T) (by omega) T.F_is_shape.kp T.b_is_shape) (hr.mono (by omega)) (by rfl) T.m_checked T.F_checked.kp T.b_checked .nil pass0 (pa_cons (pe_glob (v := .ref T.f_is_shape) rfl T.m_is_shape rfl) (pa_cons (pv 0) pa_nil))))
    (pss_one (ps_ret (pe_op op_mod (pe_call (ok_checked T (ok_is_number T) (by omega) T.F_is_number.kp T.b_is_number) (hr.mono (by omega)) (by rfl) T.m_checked T.F_checked.kp T.b_checked .nil pass0 (pa_cons (pe_glob (v := .ref T.f_is_number) rfl T.m_is_number rfl) (pa_cons (pv 1) pa_nil))) (pe_call (ok_turn_in T) (hr.mono (by omega)) (by rfl) T.m_turn_in T.F_turn_in.kp T.b_turn_in .nil pass0 (pa_cons (pv 0) pa_nil)))))), ?_⟩
  have Z := S.init (B := []) hs hd ["shape", "number"]
  have vp := turn_pos v
  have v' := v
  obtain ⟨v1, v2, v3, v4, v5, v6⟩ := v'
  refine q_asg Z (d_shape (by walk_at "dv") o v) fun σ b2 h2 F Z => ?_
  exact s_ret Z (d_op (d_num (by walk_at "dv")) (d_call (ds_cons (by walk_at "dv") ds_nil) ⟨c, f, m, rfl, big (by omega) v5, big v4 v6, rfl⟩) (rv_modI vp)) q
theorem ok_place_of (T : Txt K mg) : FnOk P w K mg base CX0 9 T.f_place_of T.d_place_of ["shape", "cell", "mark"] (spD K (fun ds d => ∃ (x : PyData) (c f m n k : Int), ds = [x, .int n, .int k] ∧ shOf x c f m ∧ shV c f m ∧ 0 ≤ n ∧ n < c ∧ 0 ≤ k ∧ k < m ∧ d = .int (k * c + n))) := by
  refine T.F_place_of.ok sc_place_of (by rintro vs H Q E ⟨b, ds, d, hs, hd, ⟨x, c, f, m, n, k, rfl, _⟩, q⟩; exact hd.length) (fun cdv A outer s H vs Q E hr h => ?_)
  obtain ⟨b, ds, d, hs, hd, ⟨x, c, f, m, n, k, rfl, o, v, n1, n2, k1, k2, rfl⟩, q⟩ := h
  refine ⟨_, (pss_cons (ps_set (i := 0) sc_place_of.nd rfl (by first | exact Or.inl rfl | exact Or.inr rfl) (pe_call (ok_checked T (ok_is_shape T) (by omega) T.F_is_shape.kp T.b_is_shape) (hr.mono (by omega)) (by rfl) T.m_checked T.F_checked.kp T.b_checked .nil pass0 (pa_cons (pe_glob (v := .ref T.f_is_shape) rfl T.m_is_shape rfl) (pa_cons (pv 0) pa_nil))))
    (pss_cons (ps_asg (pv 0) (pg_tup (n := 3) rfl (pgs_cons (pg_name (i := 3) sc_place_of.nd rfl (by first | exact Or.inl rfl | exact Or.inr rfl)) (pgs_cons (pg_name (i := 4) sc_place_of.nd rfl (by first | exact Or.inl rfl | exact Or.inr rfl)) (pgs_cons (pg_name (i := 5) sc_place_of.nd rfl (by first | exact Or.inl rfl | exact Or.inr rfl)) pgs_nil)))))
    (pss_cons (ps_if (pt_not (pt_val (pe_call (ok_is_below T) (hr.mono (by omega)) (by rfl) T.m_is_below T.F_is_below.kp T.b_is_below .nil pass0 (pa_cons (pv 1) (pa_cons (pv 3) pa_nil))))) (pss_one ps_never) pss_nil)
    (pss_cons (ps_if (pt_not (pt_val (pe_call (ok_is_below T) (hr.mono (by omega)) (by rfl) T.m_is_below T.F_is_below.kp T.b_is_below .nil pass0 (pa_cons (pv 2) (pa_cons (pv 5) pa_nil))))) (pss_one ps_never) pss_nil)
    (pss_one (ps_ret (pe_op op_addA (pe_op op_mulA (pv 2) (pv 3)) (pv 1)))))))), ?_⟩
  have Z := S.init (B := []) hs hd ["shape", "cell", "mark", "cells", "_", "marks"]
  have v' := v
  obtain ⟨v1, v2, v3, v4, v5, v6⟩ := v'
  refine q_asg Z (d_shape (by walk_at "dv") o v) fun σ b2 h2 F Z => ?_
  refine q_tup3 Z (by walk_at "dv") fun σ b h F Z => ?_
  apply q_whenF Z
  exact b_not (b_B (d_call (ds_cons (by walk_at "dv") (ds_cons (by walk_at "dv") ds_nil)) ⟨_, _, rfl, rfl⟩))
  · rw [decide_eq_true n1, decide_eq_true n2]; rfl
  intro b2 h2 F Z
  apply q_whenF Z
  exact b_not (b_B (d_call (ds_cons (by walk_at "dv") (ds_cons (by walk_at "dv") ds_nil)) ⟨_, _, rfl, rfl⟩))
  · rw [decide_eq_true k1, decide_eq_true k2]; rfl
  intro b2 h2 F Z
  have c1 : c.natAbs < 2 ^ 200 := big (by omega) v5
  have c2 : k.natAbs < 2 ^ 200 := by
    have : k.natAbs < 2 ^ 60 := by omega
    exact Nat.lt_of_lt_of_le this (by decide)
  exact s_ret Z (by walk_at "dv") q
theorem ok_ahead (T : Txt K mg) : FnOk P w K mg base CX0 9 T.f_ahead T.d_ahead ["shape", "one", "other"] (spD K (RSh3 fun c f m n k => .int ((k - n) % (m * c)))) := by
  refine T.F_ahead.ok sc_ahead (by rintro vs H Q E ⟨b, ds, d, hs, hd, ⟨x, c, f, m, n, k, rfl, _⟩, q⟩; exact hd.length) (fun cdv A outer s H vs Q E hr h => ?_)
  obtain ⟨b, ds, d, hs, hd, ⟨x, c, f, m, n, k, rfl, o, v, rfl⟩, q⟩ := h
  refine ⟨_, (pss_cons (ps_set (i := 0) sc_ahead.nd rfl (by first | exact Or.inl rfl | exact Or.inr rfl) (pe_call (ok_checked T (ok_is_shape T) (by omega) T.F_is_shape.kp T.b_is_shape) (hr.mono (by omega)) (by rfl) T.m_checked T.F_checked.kp T.b_checked .nil pass0 (pa_cons (pe_glob (v := .ref T.f_is_shape) rfl T.m_is_shape rfl) (pa_cons (pv 0) pa_nil))))
    (pss_cons (ps_set (i := 3) sc_ahead.nd rfl (by first | exact Or.inl rfl | exact Or.inr rfl) (pe_call (ok_checked T (ok_is_number T) (by omega) T.F_is_number.kp T.b_is_number) (hr.mono (by omega)) (by rfl) T.m_checked T.F_checked.kp T.b_checked .nil pass0 (pa_cons (pe_glob (v := .ref T.f_is_number) rfl T.m_is_number rfl) (pa_cons (pv 1) pa_nil))))
    (pss_one (ps_ret (pe_op op_mod (pe_op op_sub (pe_call (ok_checked T (ok_is_number T) (by omega) T.F_is_number.kp T.b_is_number) (hr.mono (by omega)) (by rfl) T.m_checked T.F_checked.kp T.b_checked .nil pass0 (pa_cons (pe_glob (v := .ref T.f_is_number) rfl T.m_is_number rfl) (pa_cons (pv 2) pa_nil))) (pv 3)) (pe_call (ok_turn_in T) (hr.mono (by omega)) (by rfl) T.m_turn_in T.F_turn_in.kp T.b_turn_in .nil pass0 (pa_cons (pv 0) pa_nil))))))), ?_⟩
  have Z := S.init (B := []) hs hd ["shape", "one", "other", "start"]
  have vp := turn_pos v
  have v' := v
  obtain ⟨v1, v2, v3, v4, v5, v6⟩ := v'
  refine q_asg Z (d_shape (by walk_at "dv") o v) fun σ b2 h2 F Z => ?_
  refine q_asg Z (d_num (by walk_at "dv")) fun σ b2 h2 F Z => ?_
  exact s_ret Z (d_op (d_op (d_num (by walk_at "dv")) (by walk_at "dv") rv_subI) (d_call (ds_cons (by walk_at "dv") ds_nil) ⟨c, f, m, rfl, big (by omega) v5, big v4 v6, rfl⟩) (rv_modI vp)) q
theorem ok_in_window (T : Txt K mg) : FnOk P w K mg base CX0 10 T.f_in_window T.d_in_window ["shape", "number", "end"] (spD K (RSh3 fun c f m n k => .bool (decide (1 ≤ (k - n) % (m * c)) && decide ((k - n) % (m * c) ≤ c - f)))) := by
  refine T.F_in_window.ok sc_in_window (by rintro vs H Q E ⟨b, ds, d, hs, hd, ⟨x, c, f, m, n, k, rfl, _⟩, q⟩; exact hd.length) (fun cdv A outer s H vs Q E hr h => ?_)
  obtain ⟨b, ds, d, hs, hd, ⟨x, c, f, m, n, k, rfl, o, v, rfl⟩, q⟩ := h
  refine ⟨_, (pss_cons (ps_set (i := 3) sc_in_window.nd rfl (by first | exact Or.inl rfl | exact Or.inr rfl) (pe_call (ok_ahead T) (hr.mono (by omega)) (by rfl) T.m_ahead T.F_ahead.kp T.b_ahead .nil pass0 (pa_cons (pv 0) (pa_cons (pv 1) (pa_cons (pv 2) pa_nil)))))
    (pss_one (ps_ret (pe_chain op_le op_le pe_int (pv 3) (pe_call (ok_window T) (hr.mono (by omega)) (by rfl) T.m_window T.F_window.kp T.b_window .nil pass0 (pa_cons (pv 0) pa_nil)))))), ?_⟩
  have Z := S.init (B := []) hs hd ["shape", "number", "end", "steps"]
  refine q_asg Z (d_call (ds_cons (by walk_at "dv") (ds_cons (by walk_at "dv") (ds_cons (by walk_at "dv") ds_nil))) ⟨x, c, f, m, n, k, rfl, o, v, rfl⟩) fun σ b2 h2 F Z => ?_
  exact s_ret Z (d_chain (by walk_at "dv") (by walk_at "dv") (d_call (ds_cons (by walk_at "dv") ds_nil) ⟨x, c, f, m, rfl, o, v, rfl⟩) (by walk_at "rv") (by walk_at "rv")) q
abbrev RLeastMarks : List PyData → PyData → Prop := fun ds d => ∃ c f : Int, ds = [.int c, .int f] ∧ 2 ≤ c ∧ 1 ≤ f ∧ c < 2 ^ 60 ∧ f < 2 ^ 60 ∧ d = if f < c then .int (max 2 (3 * f / c + 1)) else .none
theorem ok_least_marks (T : Txt K mg) : FnOk P w K mg base CX0 9 T.f_least_marks T.d_least_marks ["cells", "flight"] (spD K RLeastMarks) := by
  refine T.F_least_marks.ok sc_least_marks (by rintro vs H Q E ⟨b, ds, d, hs, hd, ⟨c, f, rfl, _⟩, q⟩; exact hd.length) (fun cdv A outer s H vs Q E hr h => ?_)
  obtain ⟨b, ds, d, hs, hd, ⟨c, f, rfl, h1, h2, h3, h4, rfl⟩, q⟩ := h
  refine ⟨_, (pss_cons (ps_if (pt_not (pt_val (pe_call (ok_is_shape T) (hr.mono (by omega)) (by rfl) T.m_is_shape T.F_is_shape.kp T.b_is_shape .nil pass0 (pa_cons (pe_tup (pa_cons (pv 0) (pa_cons (pv 1) (pa_cons pe_int pa_nil)))) pa_nil)))) (pss_one (ps_ret pe_non)) pss_nil)
    (pss_one (ps_ret (pe_callB (call_max2 rfl) (by rfl) T.z_max (by decide +kernel) (pa_cons pe_int (pa_cons (pe_op op_addA (pe_op op_fdivW (pe_op op_mulA pe_int (pv 1)) (pv 0)) pe_int) pa_nil)))))), ?_⟩
  have Z := S.init (B := []) hs hd ["cells", "flight"]
  have c1 : c.natAbs < 2 ^ 200 := big (by omega) h3
  have c2 : f.natAbs < 2 ^ 200 := big (by omega) h4
  by_cases hf : f < c
  · rw [if_pos hf] at q
    apply q_whenF Z
    exact b_not (b_B (d_call (ds_cons (by walk_at "dv") ds_nil) (.inl ⟨c, f, 2, rfl, rfl⟩)))
    · rw [decide_eq_true h1, decide_eq_true h2, decide_eq_true hf]; rfl
    intro b2 h2 F Z
    exact s_ret Z (by walk_at "dv") q
  · rw [if_neg hf] at q
    apply q_whenT Z
    exact b_not (b_B (d_call (ds_cons (by walk_at "dv") ds_nil) (.inl ⟨c, f, 2, rfl, rfl⟩)))
    · rw [decide_eq_true h1, decide_eq_true h2, decide_eq_false hf]; rfl
    intro b2 h2 F Z
    exact s_ret Z (by walk_at "dv") q
abbrev RMostFlight : List PyData → PyData → Prop := fun ds d => ∃ c m : Int, ds = [.int c, .int m] ∧ 2 ≤ c ∧ 1 ≤ m ∧ c < 2 ^ 60 ∧ m < 2 ^ 60 ∧ d = if m < 2 then .none else .int (min (c - 1) ((m * c - 1) / 3))
theorem ok_most_flight (T : Txt K mg) : FnOk P w K mg base CX0 9 T.f_most_flight T.d_most_flight ["cells", "marks"] (spD K RMostFlight) := by
  refine T.F_most_flight.ok sc_most_flight (by rintro vs H Q E ⟨b, ds, d, hs, hd, ⟨c, f, rfl, _⟩, q⟩; exact hd.length) (fun cdv A outer s H vs Q E hr h => ?_)
  obtain ⟨b, ds, d, hs, hd, ⟨c, m, rfl, h1, h2, h3, h4, rfl⟩, q⟩ := h
  refine ⟨_, (pss_cons (ps_if (PW.pt (pw_or (pt_not (pt_val (pe_call (ok_is_shape T) (hr.mono (by omega)) (by rfl) T.m_is_shape T.F_is_shape.kp T.b_is_shape .nil pass0 (pa_cons (pe_tup (pa_cons (pv 0) (pa_cons pe_int (pa_cons (pv 1) pa_nil)))) pa_nil)))) (pw_or1 (pt_cmpR op_lt (pv 1) pe_int (nomark _))))) (pss_one (ps_ret pe_non)) pss_nil)
    (pss_one (ps_ret (pe_callB (call_min2 rfl) (by rfl) T.z_min (by decide +kernel) (pa_cons (pe_op op_sub (pv 0) pe_int) (pa_cons (pe_op op_fdivW (pe_op op_sub (pe_op op_mulA (pv 1) (pv 0)) pe_int) pe_int) pa_nil)))))), ?_⟩
  have Z := S.init (B := []) hs hd ["cells", "marks"]
  have c1 : c.natAbs < 2 ^ 200 := big (by omega) h3
  have c2 : m.natAbs < 2 ^ 200 := big (by omega) h4
  have h5 : 1 < c := by omega
  have sh : (decide (2 ≤ c) && (decide ((1 : Int) ≤ 1) && decide (1 < c) && decide (1 ≤ m))) = true := by rw [decide_eq_true h1, decide_eq_true h2, decide_eq_true h5]; rfl
  by_cases hf : m < 2
  · rw [if_pos hf] at q
    apply q_whenT Z
    exact b_or (b_not (b_B (d_call (ds_cons (by walk_at "dv") ds_nil) (.inl ⟨c, 1, m, rfl, rfl⟩)))) fun _ => by walk_at "dv"
    · rw [sh, decide_eq_true hf]; rfl
    intro b2 h2 F Z
    exact s_ret Z (by walk_at "dv") q
  · rw [if_neg hf] at q
    apply q_whenF Z
    exact b_or (b_not (b_B (d_call (ds_cons (by walk_at "dv") ds_nil) (.inl ⟨c, 1, m, rfl, rfl⟩)))) fun _ => by walk_at "dv"
    · rw [sh, decide_eq_false hf]; rfl
    intro b2 h2 F Z
    exact s_ret Z (by walk_at "dv") q
abbrev RLeastCells : List PyData → PyData → Prop := fun ds d => ∃ f m : Int, ds = [.int f, .int m] ∧ 1 ≤ f ∧ 1 ≤ m ∧ f < 2 ^ 60 ∧ m < 2 ^ 60 ∧ d = if m < 2 then .none else .int (max (f + 1) (3 * f / m + 1))
theorem ok_least_cells (T : Txt K mg) : FnOk P w K mg base CX0 9 T.f_least_cells T.d_least_cells ["flight", "marks"] (spD K RLeastCells) := by
  refine T.F_least_cells.ok sc_least_cells (by rintro vs H Q E ⟨b, ds, d, hs, hd, ⟨c, f, rfl, _⟩, q⟩; exact hd.length) (fun cdv A outer s H vs Q E hr h => ?_)
  obtain ⟨b, ds, d, hs, hd, ⟨f, m, rfl, h1, h2, h3, h4, rfl⟩, q⟩ := h
  refine ⟨_, (pss_cons (ps_if (PW.pt (pw_or (pt_cmpR op_lt (pv 0) pe_int (nomark _)) (pw_or1 (pt_cmpR op_lt (pv 1) pe_int (nomark _))))) (pss_one (ps_ret pe_non)) pss_nil)
    (pss_one (ps_ret (pe_callB (call_max2 rfl) (by rfl) T.z_max (by decide +kernel) (pa_cons (pe_op op_addA (pv 0) pe_int) (pa_cons (pe_op op_addA (pe_op op_fdivW (pe_op op_mulA pe_int (pv 0)) (pv 1)) pe_int) pa_nil)))))), ?_⟩
  have Z := S.init (B := []) hs hd ["flight", "marks"]
  have c1 : f.natAbs < 2 ^ 200 := big (by omega) h3
  have c2 : m.natAbs < 2 ^ 200 := big (by omega) h4
  have h5 : ¬ f < 1 := by omega
  by_cases hf : m < 2
  · rw [if_pos hf] at q
    apply q_whenT Z
    walk_at "dv"
    · rw [decide_eq_false h5, decide_eq_true hf]; rfl
    intro b2 h2 F Z
    exact s_ret Z (by walk_at "dv") q
  · rw [if_neg hf] at q
    apply q_whenF Z
    walk_at "dv"
    · rw [decide_eq_false h5, decide_eq_false hf]; rfl
    intro b2 h2 F Z
    exact s_ret Z (by walk_at "dv") q
end
end LW

namespace LW
open PySem L2 DV
local macro_rules | `(tactic| walk_at "dv") => `(tactic| first
  | exact d_int _ | exact d_str _ | exact d_bl _ | exact d_non
  | (apply d_varZ (by assumption); rfl)
  | (apply d_var (by assumption); rfl)
  | exact ds_nil
  | (apply ds_cons; walk_at "dv"; walk_at "dv")
  | (apply d_op; walk_at "dv"; walk_at "dv"; walk_at "rv")
  | (apply d_tup; walk_at "dv"; (simp only [List.length]; omega))
  | (apply d_lst; walk_at "dv"; (simp only [List.length]; omega))
  | (apply d_neg; walk_at "dv")
  | (apply d_notV; walk_at "dv")
  | (apply d_isi; walk_at "dv"; rfl)
  | (apply d_isi2; walk_at "dv"; rfl; rfl)
  | (apply d_cb; walk_at "dv"; walk_at "rc")
  | (apply d_andV; walk_at "dv"; (intro _; walk_at "dv"))
  | (apply d_orV; walk_at "dv"; (intro _; walk_at "dv"))
  | (apply d_chain; walk_at "dv"; walk_at "dv"; walk_at "dv"; walk_at "rv"; walk_at "rv")
  | (apply b_and; walk_at "dv"; (intro _; walk_at "dv"))
  | (apply b_or; walk_at "dv"; (intro _; walk_at "dv"))
  | (apply b_test; walk_at "dv")
  | (apply b_B; walk_at "dv")
  | (apply b_not; walk_at "dv")
  | exact b_yes)
local macro_rules | `(tactic| walk_at "rv") => `(tactic| first
  | exact rv_addI | exact rv_subI | exact rv_ltI | exact rv_leI | exact rv_gtI | exact rv_geI
  | exact rv_eqAI | exact rv_eqAB | exact rv_neAI | exact rv_neAB | exact rv_eqAS | exact rv_eqAN
  | exact rv_ixT rfl | exact rv_ixL rfl
  | (apply rv_modI; first | assumption | decide | omega)
  | (apply rv_divI; (first | assumption | decide | omega); (first | assumption | decide | omega))
  | (apply rv_mulI; (first | assumption | decide | omega); (first | assumption | decide | omega)))
local macro_rules | `(tactic| walk_at "rc") => `(tactic| first
  | exact rc_lenL | exact rc_lenT | exact rc_max | exact rc_min | exact rc_int | exact rc_intB | exact rc_tupL | exact rc_tupT | exact rc_listT | exact rc_listL | exact rc_abs)

local macro_rules | `(tactic| walk_at "dv") => `(tactic| (apply d_ixA (by assumption) rfl upd_same; walk_at "dv"; rfl; (intro _; exact .int _)))
section
variable {P : Program} {w : World} {K : PySem.W.Frag} {mg : Str → Option Value} {base : Heap}
/-! == of the law's own: alike data -/
abbrev RSame (n : Nat) : List PyData → PyData → Prop := fun ds d => ∃ x : PyData, ds = [x, x] ∧ fine n x = true ∧ d = .bool true
theorem zip_true (ds : List PyData) : (List.zipWith (fun _ _ => PyData.bool true) ds ds) = (List.replicate ds.length true).map .bool := by
  induction ds with
  | nil => rfl
  | cons d ds ih => exact congrArg (PyData.bool true :: ·) ih
theorem all_true (n : Nat) : (List.replicate n true).all id = true := by
  induction n with
  | zero => rfl
  | succ n ih => exact ih
theorem ok__law_same (T : Txt K mg) : ∀ n : Nat, FnOk P w K mg base CX0 (n + 1) T.f__law_same T.d__law_same ["got", "due"] (spD K (RSame n)) := by
  intro n
  induction n with
  | zero =>
    refine T.F__law_same.ok sc__law_same (by rintro vs H Q E ⟨b, ds, d, hs, hd, ⟨x, rfl, _⟩, q⟩; exact hd.length) (fun cdv A outer s H vs Q E hr h => ?_)
    obtain ⟨b, ds, d, hs, hd, ⟨x, rfl, hf, rfl⟩, q⟩ := h
    have Z := S.init (B := []) hs hd ["got", "due", "mine", "its"]
    refine ⟨_, (pss_cons (ps_if (pt_val (pe_callB call_isiT (by rfl) T.z_isinstance (by decide +kernel) (pa_cons (pv 1) (pa_cons (pe_tup (pa_cons (pe_bltn (v := .ty "list") (by rfl) T.z_list (by decide +kernel) rfl) (pa_cons (pe_bltn (v := .ty "tuple") (by rfl) T.z_tuple (by decide +kernel) rfl) pa_nil))) pa_nil)))) (pss_cons (ps_if (PW.pt (pw_or (pt_cmpR (op_neA hr.units) (pe_callB call_isi (by rfl) T.z_isinstance (by decide +kernel) (pa_cons (pv 0) (pa_cons (pe_bltn (v := .ty "list") (by rfl) T.z_list (by decide +kernel) rfl) pa_nil))) (pe_callB call_isi (by rfl) T.z_isinstance (by decide +kernel) (pa_cons (pv 1) (pa_cons (pe_bltn (v := .ty "list") (by rfl) T.z_list (by decide +kernel) rfl) pa_nil))) (nomark _)) (pw_or1 (pt_cmpR (op_neA hr.units) (pe_callB call_isi (by rfl) T.z_isinstance (by decide +kernel) (pa_cons (pv 0) (pa_cons (pe_bltn (v := .ty "tuple") (by rfl) T.z_tuple (by decide +kernel) rfl) pa_nil))) (pe_callB call_isi (by rfl) T.z_isinstance (by decide +kernel) (pa_cons (pv 1) (pa_cons (pe_bltn (v := .ty "tuple") (by rfl) T.z_tuple (by decide +kernel) rfl) pa_nil))) (nomark _))))) (pss_one (ps_ret pe_bl)) pss_nil)
    (pss_one ps_never)) pss_nil)
    (pss_cons (ps_if (PW.pt (pw_or (pt_cmpR op_isN (pv 1) pe_non (nomark _)) (pw_or1 (pt_val (pe_callB call_isiT (by rfl) T.z_isinstance (by decide +kernel) (pa_cons (pv 1) (pa_cons (pe_tup (pa_cons (pe_bltn (v := .ty "bool") (by rfl) T.z_bool (by decide +kernel) rfl) (pa_cons (pe_bltn (v := .ty "str") (by rfl) T.z_str (by decide +kernel) rfl) pa_nil))) pa_nil))))))) (pss_one (ps_ret (pe_and (pe_cmpR (op_eqA hr.units) (pv 0) (pv 1) (nomark _)) (pe_and (pe_cmpR (op_eqA hr.units) (pe_callB call_isi (by rfl) T.z_isinstance (by decide +kernel) (pa_cons (pv 0) (pa_cons (pe_bltn (v := .ty "bool") (by rfl) T.z_bool (by decide +kernel) rfl) pa_nil))) (pe_callB call_isi (by rfl) T.z_isinstance (by decide +kernel) (pa_cons (pv 1) (pa_cons (pe_bltn (v := .ty "bool") (by rfl) T.z_bool (by decide +kernel) rfl) pa_nil))) (nomark _)) (pe_one (pe_cmpR (op_eqA hr.units) (pe_cmpR op_isN (pv 0) pe_non (nomark _)) (pe_cmpR op_isN (pv 1) pe_non (nomark _)) (nomark _))))))) pss_nil)
    (pss_one (ps_ret (pe_and (pe_callB call_isi (by rfl) T.z_isinstance (by decide +kernel) (pa_cons (pv 0) (pa_cons (pe_bltn (v := .ty "int") (by rfl) T.z_int (by decide +kernel) rfl) pa_nil))) (pe_and (pe_not (pe_callB call_isi (by rfl) T.z_isinstance (by decide +kernel) (pa_cons (pv 0) (pa_cons (pe_bltn (v := .ty "bool") (by rfl) T.z_bool (by decide +kernel) rfl) pa_nil)))) (pe_one (pe_cmpR (op_eqA hr.units) (pv 0) (pv 1) (nomark _))))))))), ?_⟩
    cases hd with
    | cons hx hn =>
      cases hx with
      | lst s a => cases hf
      | tup s a => cases hf
      | non =>
        apply q_whenF Z
        walk_at "dv"
        rfl
        intro b2 h2 F Z
        apply q_whenT Z
        exact b_or (y := false) (b_test (d_op (by walk_at "dv") d_non (rv_isN (c := true) fun b v h => by cases h; rfl))) fun z => by cases z
        rfl
        intro b2 h2 F Z
        apply s_retE Z (k := q)
        exact d_andV (by walk_at "dv") fun _ => d_andV (by walk_at "dv") fun _ => d_op (d_op (by walk_at "dv") d_non (rv_isN (c := true) fun b v h => by cases h; rfl)) (d_op (by walk_at "dv") d_non (rv_isN (c := true) fun b v h => by cases h; rfl)) rv_eqAB
        rfl
      | bl c =>
        apply q_whenF Z
        walk_at "dv"
        rfl
        intro b2 h2 F Z
        apply q_whenT Z
        exact b_or (b_test (d_op (by walk_at "dv") d_non (rv_isN (c := false) fun b v h => by cases h; rfl))) fun _ => b_B (d_isi2 (by walk_at "dv") rfl rfl)
        rfl
        intro b2 h2 F Z
        apply s_retE Z (k := q)
        exact d_andV (by walk_at "dv") fun _ => d_andV (by walk_at "dv") fun _ => d_op (d_op (by walk_at "dv") d_non (rv_isN (c := false) fun b v h => by cases h; rfl)) (d_op (by walk_at "dv") d_non (rv_isN (c := false) fun b v h => by cases h; rfl)) rv_eqAB
        cases c <;> rfl
      | str c =>
        apply q_whenF Z
        walk_at "dv"
        rfl
        intro b2 h2 F Z
        apply q_whenT Z
        exact b_or (b_test (d_op (by walk_at "dv") d_non (rv_isN (c := false) fun b v h => by cases h; rfl))) fun _ => b_B (d_isi2 (by walk_at "dv") rfl rfl)
        rfl
        intro b2 h2 F Z
        apply s_retE Z (k := q)
        exact d_andV (by walk_at "dv") fun _ => d_andV (by walk_at "dv") fun _ => d_op (d_op (by walk_at "dv") d_non (rv_isN (c := false) fun b v h => by cases h; rfl)) (d_op (by walk_at "dv") d_non (rv_isN (c := false) fun b v h => by cases h; rfl)) rv_eqAB
        rw [decide_eq_true rfl]; rfl
      | int i =>
        apply q_whenF Z
        walk_at "dv"
        rfl
        intro b2 h2 F Z
        apply q_whenF Z
        exact b_or (b_test (d_op (by walk_at "dv") d_non (rv_isN (c := false) fun b v h => by cases h; rfl))) fun _ => b_B (d_isi2 (by walk_at "dv") rfl rfl)
        rfl
        intro b2 h2 F Z
        apply s_retE Z (k := q)
        exact d_andV (by walk_at "dv") fun _ => d_andV (by walk_at "dv") fun _ => by walk_at "dv"
        rw [decide_eq_true rfl]; rfl
  | succ n ih =>
    refine T.F__law_same.ok sc__law_same (by rintro vs H Q E ⟨b, ds, d, hs, hd, ⟨x, rfl, _⟩, q⟩; exact hd.length) (fun cdv A outer s H vs Q E hr h => ?_)
    obtain ⟨b, ds, d, hs, hd, ⟨x, rfl, hf, rfl⟩, q⟩ := h
    have Z := S.init (B := []) hs hd ["got", "due", "mine", "its"]
    refine ⟨_, (pss_cons (ps_if (pt_val (pe_callB call_isiT (by rfl) T.z_isinstance (by decide +kernel) (pa_cons (pv 1) (pa_cons (pe_tup (pa_cons (pe_bltn (v := .ty "list") (by rfl) T.z_list (by decide +kernel) rfl) (pa_cons (pe_bltn (v := .ty "tuple") (by rfl) T.z_tuple (by decide +kernel) rfl) pa_nil))) pa_nil)))) (pss_cons (ps_if (PW.pt (pw_or (pt_cmpR (op_neA hr.units) (pe_callB call_isi (by rfl) T.z_isinstance (by decide +kernel) (pa_cons (pv 0) (pa_cons (pe_bltn (v := .ty "list") (by rfl) T.z_list (by decide +kernel) rfl) pa_nil))) (pe_callB call_isi (by rfl) T.z_isinstance (by decide +kernel) (pa_cons (pv 1) (pa_cons (pe_bltn (v := .ty "list") (by rfl) T.z_list (by decide +kernel) rfl) pa_nil))) (nomark _)) (pw_or1 (pt_cmpR (op_neA hr.units) (pe_callB call_isi (by rfl) T.z_isinstance (by decide +kernel) (pa_cons (pv 0) (pa_cons (pe_bltn (v := .ty "tuple") (by rfl) T.z_tuple (by decide +kernel) rfl) pa_nil))) (pe_callB call_isi (by rfl) T.z_isinstance (by decide +kernel) (pa_cons (pv 1) (pa_cons (pe_bltn (v := .ty "tuple") (by rfl) T.z_tuple (by decide +kernel) rfl) pa_nil))) (nomark _))))) (pss_one (ps_ret pe_bl)) pss_nil)
    (pss_one (ps_ret (pe_and (pe_cmpR (op_eqA hr.units) (pe_callB call_len (by rfl) T.z_len (by decide +kernel) (pa_cons (pv 0) pa_nil)) (pe_callB call_len (by rfl) T.z_len (by decide +kernel) (pa_cons (pv 1) pa_nil)) (nomark _)) (pe_one (pe_callB (cr_all rfl) (by rfl) T.z_all (by decide +kernel) (pa_cons (pe_lc (own := [("mine", 2), ("its", 3)]) (g := gTup K 2 (gCons (gName 2) (gCons (gName 3) gNil))) rfl sc__law_same.nd (RZ.pi_zipA (by rfl) T.z_zip (pa_cons (pv 0) (pa_cons (pv 1) pa_nil))) (blkOk_by (N := ["got", "due", "mine", "its"]) (sc := defScope s__law_same) (by decide +kernel)) (fun _ _ _ _ _ => (pg_tup (n := 2) rfl (pgs_cons (pg_name (i := 2) sc__law_same.nd rfl (by first | exact Or.inl rfl | exact Or.inr rfl)) (pgs_cons (pg_name (i := 3) sc__law_same.nd rfl (by first | exact Or.inl rfl | exact Or.inr rfl)) pgs_nil)))) (fun _ _ _ _ _ => pts_nil) (fun _ _ _ _ _ => (pe_call ih (hr.mono (by omega)) (by rfl) T.m__law_same T.F__law_same.kp T.b__law_same .nil pass0 (pa_cons (pv 2) (pa_cons (pv 3) pa_nil))))) pa_nil))))))) pss_nil)
    (pss_cons (ps_if (PW.pt (pw_or (pt_cmpR op_isN (pv 1) pe_non (nomark _)) (pw_or1 (pt_val (pe_callB call_isiT (by rfl) T.z_isinstance (by decide +kernel) (pa_cons (pv 1) (pa_cons (pe_tup (pa_cons (pe_bltn (v := .ty "bool") (by rfl) T.z_bool (by decide +kernel) rfl) (pa_cons (pe_bltn (v := .ty "str") (by rfl) T.z_str (by decide +kernel) rfl) pa_nil))) pa_nil))))))) (pss_one (ps_ret (pe_and (pe_cmpR (op_eqA hr.units) (pv 0) (pv 1) (nomark _)) (pe_and (pe_cmpR (op_eqA hr.units) (pe_callB call_isi (by rfl) T.z_isinstance (by decide +kernel) (pa_cons (pv 0) (pa_cons (pe_bltn (v := .ty "bool") (by rfl) T.z_bool (by decide +kernel) rfl) pa_nil))) (pe_callB call_isi (by rfl) T.z_isinstance (by decide +kernel) (pa_cons (pv 1) (pa_cons (pe_bltn (v := .ty "bool") (by rfl) T.z_bool (by decide +kernel) rfl) pa_nil))) (nomark _)) (pe_one (pe_cmpR (op_eqA hr.units) (pe_cmpR op_isN (pv 0) pe_non (nomark _)) (pe_cmpR op_isN (pv 1) pe_non (nomark _)) (nomark _))))))) pss_nil)
    (pss_one (ps_ret (pe_and (pe_callB call_isi (by rfl) T.z_isinstance (by decide +kernel) (pa_cons (pv 0) (pa_cons (pe_bltn (v := .ty "int") (by rfl) T.z_int (by decide +kernel) rfl) pa_nil))) (pe_and (pe_not (pe_callB call_isi (by rfl) T.z_isinstance (by decide +kernel) (pa_cons (pv 0) (pa_cons (pe_bltn (v := .ty "bool") (by rfl) T.z_bool (by decide +kernel) rfl) pa_nil)))) (pe_one (pe_cmpR (op_eqA hr.units) (pv 0) (pv 1) (nomark _))))))))), ?_⟩
    cases hd with
    | cons hx hn =>
      cases hx with
      | @lst a0 xs0 ds0 s a =>
        have hf' : (decide (ds0.length ≤ 90000) && ds0.all (fine n)) = true := hf
        rw [Bool.and_eq_true, decide_eq_true_eq, List.all_eq_true] at hf'
        apply q_whenT Z
        walk_at "dv"
        rfl
        intro b2 h2 F Z
        apply q_whenF (D := { nx := _, rt := Q }) Z
        walk_at "dv"
        rfl
        intro b2 h2 F Z
        apply s_retE Z (k := q)
        exact d_andV (by walk_at "dv") fun _ => d_cb (ds_cons (EvD.is (d_lcZL (fun _ _ => .bool true) Z.sl (by walk_at "dv") hf'.1 (fun x y => wipe2 (by decide)) fun m d e σ2 b2 h1 h2 e2 Sl => d_call (ds_cons (by walk_at "dv") (ds_cons (by walk_at "dv") ds_nil)) ⟨d, by rw [h1] at h2; cases h2; rfl, hf'.2 d (List.mem_of_getElem? h1), rfl⟩) (congrArg PyData.list (zip_true ds0))) ds_nil) rc_all
        rw [all_true, decide_eq_true rfl]
        rfl
      | @tup a0 xs0 ds0 s a =>
        have hf' : (decide (ds0.length ≤ 90000) && ds0.all (fine n)) = true := hf
        rw [Bool.and_eq_true, decide_eq_true_eq, List.all_eq_true] at hf'
        apply q_whenT Z
        walk_at "dv"
        rfl
        intro b2 h2 F Z
        apply q_whenF (D := { nx := _, rt := Q }) Z
        walk_at "dv"
        rfl
        intro b2 h2 F Z
        apply s_retE Z (k := q)
        exact d_andV (by walk_at "dv") fun _ => d_cb (ds_cons (EvD.is (d_lcZT (fun _ _ => .bool true) Z.sl (by walk_at "dv") hf'.1 (fun x y => wipe2 (by decide)) fun m d e σ2 b2 h1 h2 e2 Sl => d_call (ds_cons (by walk_at "dv") (ds_cons (by walk_at "dv") ds_nil)) ⟨d, by rw [h1] at h2; cases h2; rfl, hf'.2 d (List.mem_of_getElem? h1), rfl⟩) (congrArg PyData.list (zip_true ds0))) ds_nil) rc_all
        rw [all_true, decide_eq_true rfl]
        rfl
      | non =>
        apply q_whenF Z
        walk_at "dv"
        rfl
        intro b2 h2 F Z
        apply q_whenT Z
        exact b_or (y := false) (b_test (d_op (by walk_at "dv") d_non (rv_isN (c := true) fun b v h => by cases h; rfl))) fun z => by cases z
        rfl
        intro b2 h2 F Z
        apply s_retE Z (k := q)
        exact d_andV (by walk_at "dv") fun _ => d_andV (by walk_at "dv") fun _ => d_op (d_op (by walk_at "dv") d_non (rv_isN (c := true) fun b v h => by cases h; rfl)) (d_op (by walk_at "dv") d_non (rv_isN (c := true) fun b v h => by cases h; rfl)) rv_eqAB
        rfl
      | bl c =>
        apply q_whenF Z
        walk_at "dv"
        rfl
        intro b2 h2 F Z
        apply q_whenT Z
        exact b_or (b_test (d_op (by walk_at "dv") d_non (rv_isN (c := false) fun b v h => by cases h; rfl))) fun _ => b_B (d_isi2 (by walk_at "dv") rfl rfl)
        rfl
        intro b2 h2 F Z
        apply s_retE Z (k := q)
        exact d_andV (by walk_at "dv") fun _ => d_andV (by walk_at "dv") fun _ => d_op (d_op (by walk_at "dv") d_non (rv_isN (c := false) fun b v h => by cases h; rfl)) (d_op (by walk_at "dv") d_non (rv_isN (c := false) fun b v h => by cases h; rfl)) rv_eqAB
        cases c <;> rfl
      | str c =>
        apply q_whenF Z
        walk_at "dv"
        rfl
        intro b2 h2 F Z
        apply q_whenT Z
        exact b_or (b_test (d_op (by walk_at "dv") d_non (rv_isN (c := false) fun b v h => by cases h; rfl))) fun _ => b_B (d_isi2 (by walk_at "dv") rfl rfl)
        rfl
        intro b2 h2 F Z
        apply s_retE Z (k := q)
        exact d_andV (by walk_at "dv") fun _ => d_andV (by walk_at "dv") fun _ => d_op (d_op (by walk_at "dv") d_non (rv_isN (c := false) fun b v h => by cases h; rfl)) (d_op (by walk_at "dv") d_non (rv_isN (c := false) fun b v h => by cases h; rfl)) rv_eqAB
        rw [decide_eq_true rfl]; rfl
      | int i =>
        apply q_whenF Z
        walk_at "dv"
        rfl
        intro b2 h2 F Z
        apply q_whenF Z
        exact b_or (b_test (d_op (by walk_at "dv") d_non (rv_isN (c := false) fun b v h => by cases h; rfl))) fun _ => b_B (d_isi2 (by walk_at "dv") rfl rfl)
        rfl
        intro b2 h2 F Z
        apply s_retE Z (k := q)
        exact d_andV (by walk_at "dv") fun _ => d_andV (by walk_at "dv") fun _ => by walk_at "dv"
        rw [decide_eq_true rfl]; rfl
end
end LW

namespace LW
open PySem L2 DV
local macro_rules | `(tactic| walk_at "dv") => `(tactic| first
  | exact d_int _ | exact d_str _ | exact d_bl _ | exact d_non
  | (apply d_varZ (by assumption); rfl)
  | (apply d_var (by assumption); rfl)
  | exact ds_nil
  | (apply ds_cons; walk_at "dv"; walk_at "dv")
  | (apply d_op; walk_at "dv"; walk_at "dv"; walk_at "rv")
  | (apply d_tup; walk_at "dv"; (simp only [List.length]; omega))
  | (apply d_lst; walk_at "dv"; (simp only [List.length]; omega))
  | (apply d_neg; walk_at "dv")
  | (apply d_notV; walk_at "dv")
  | (apply d_isi; walk_at "dv"; rfl)
  | (apply d_isi2; walk_at "dv"; rfl; rfl)
  | (apply d_cb; walk_at "dv"; walk_at "rc")
  | (apply d_andV; walk_at "dv"; (intro _; walk_at "dv"))
  | (apply d_orV; walk_at "dv"; (intro _; walk_at "dv"))
  | (apply d_chain; walk_at "dv"; walk_at "dv"; walk_at "dv"; walk_at "rv"; walk_at "rv")
  | (apply b_and; walk_at "dv"; (intro _; walk_at "dv"))
  | (apply b_or; walk_at "dv"; (intro _; walk_at "dv"))
  | (apply b_test; walk_at "dv")
  | (apply b_B; walk_at "dv")
  | (apply b_not; walk_at "dv")
  | exact b_yes)
local macro_rules | `(tactic| walk_at "rv") => `(tactic| first
  | exact rv_addI | exact rv_subI | exact rv_ltI | exact rv_leI | exact rv_gtI | exact rv_geI
  | exact rv_eqAI | exact rv_eqAB | exact rv_neAI | exact rv_neAB | exact rv_eqAS | exact rv_eqAN
  | exact rv_ixT rfl | exact rv_ixL rfl
  | (apply rv_modI; first | assumption | decide | omega)
  | (apply rv_divI; (first | assumption | decide | omega); (first | assumption | decide | omega))
  | (apply rv_mulI; (first | assumption | decide | omega); (first | assumption | decide | omega)))
local macro_rules | `(tactic| walk_at "rc") => `(tactic| first
  | exact rc_lenL | exact rc_lenT | exact rc_max | exact rc_min | exact rc_int | exact rc_intB | exact rc_tupL | exact rc_tupT | exact rc_listT | exact rc_listL | exact rc_abs)

local macro_rules | `(tactic| walk_at "dv") => `(tactic| (apply d_ixA (by assumption) rfl upd_same; walk_at "dv"; rfl; (intro _; exact .int _)))
section
variable {P : Program} {w : World} {K : PySem.W.Frag} {mg : Str → Option Value} {base : Heap}
abbrev RTake : List PyData → PyData → Prop := fun ds d => ∃ b r : Int, ds = [.int b] ∧ 0 ≤ r ∧ r < b ∧ d = .int r
abbrev PTake : List PyData → Prop := fun ds => ∃ b : Int, ds = [.int b] ∧ 0 < b ∧ b < 2 ^ 60
theorem ok__law_take (T : Txt K mg) : FnOk P w K mg base CX0 1 T.f__law_take T.d__law_take ["tin", "below_so"] (spT K 1 RTake PTake) := by
  refine T.F__law_take.ok sc__law_take (by rintro vs H Q E ⟨b, a, ws, ds, n, rfl, hs, hb, hT, hn, hd, ⟨bl, rfl, h1, h2⟩, q⟩; exact congrArg Nat.succ hd.length) (fun cdv A outer s H vs Q E hr h => ?_)
  obtain ⟨b, a, ws, ds, n, rfl, hs, hb, hT, hn, hd, ⟨bl, rfl, h1, h2⟩, q⟩ := h
  obtain ⟨x, y, z, hp, hx, hy, hz, hzn⟩ := hT
  refine ⟨_, (pss_cons (ps_if (pt_cmpR op_gt (pe_ix ix_seq (pv 0) pe_int (fun _ _ => rfl)) pe_int (nomark _)) (pss_cons (ps_set (i := 2) sc__law_take.nd rfl (by first | exact Or.inl rfl | exact Or.inr rfl) (pe_op op_mod (pe_callTy call_int1 (by rfl) T.z_int (by decide +kernel) (pa_cons (pe_ix ix_seq (pv 0) pe_int (fun _ _ => rfl)) pa_nil)) (pv 1)))
    (pss_cons (ps_asg (pe_op op_fdivW (pe_ix ix_seq (pv 0) pe_int (fun _ _ => rfl)) (pv 1)) (pg_sub (pv 0) pe_int set_list))
    (pss_one (ps_ret (pv 2))))) pss_nil)
    (pss_cons (ps_asg (pe_op op_addA (pe_ix ix_seq (pv 0) pe_int (fun _ _ => rfl)) pe_int) (pg_sub (pv 0) pe_int set_list))
    (pss_cons (ps_set (i := 3) sc__law_take.nd rfl (by first | exact Or.inl rfl | exact Or.inr rfl) (pe_op op_mod (pe_callTy call_int1 (by rfl) T.z_int (by decide +kernel) (pa_cons (pe_op op_mulA (pe_op op_addA (pe_ix ix_seq (pv 0) pe_int (fun _ _ => rfl)) (pe_op op_mulA pe_int (pe_ix ix_seq (pv 0) pe_int (fun _ _ => rfl)))) (pe_op op_addA pe_int (pe_ix ix_seq (pv 0) pe_int (fun _ _ => rfl)))) pa_nil)) pe_int))
    (pss_cons (ps_set (i := 4) sc__law_take.nd rfl (by first | exact Or.inl rfl | exact Or.inr rfl) (pe_op op_addA (pe_op op_mod (pe_callTy call_int1 (by rfl) T.z_int (by decide +kernel) (pa_cons (pv 3) pa_nil)) pe_int) pe_int))
    (pss_cons (ps_set (i := 5) sc__law_take.nd rfl (by first | exact Or.inl rfl | exact Or.inr rfl) (pe_op op_mod (pe_callTy call_int1 (by rfl) T.z_int (by decide +kernel) (pa_cons (pe_op op_mulA (pe_op op_addA (pe_op op_addA (pv 3) (pe_ix ix_seq (pv 0) pe_int (fun _ _ => rfl))) (pe_op op_fdivW (pe_ix ix_seq (pv 0) pe_int (fun _ _ => rfl)) pe_int)) (pv 4)) pa_nil)) pe_int))
    (pss_one (ps_ret (pe_op op_mod (pe_callTy call_int1 (by rfl) T.z_int (by decide +kernel) (pa_cons (pe_op op_fdivW (pe_op op_mod (pe_callTy call_int1 (by rfl) T.z_int (by decide +kernel) (pa_cons (pe_op op_addA (pe_op op_mulA (pv 5) pe_int) (pv 3)) pa_nil)) pe_int) pe_int) pa_nil)) (pv 1))))))))), ?_⟩
  cases hd with
  | cons hx0 hn0 =>
    cases hn0
    cases hx0
    have hbl : bl.natAbs < 2 ^ 200 := by
      have : bl.natAbs < 2 ^ 60 := by omega
      exact Nat.lt_of_lt_of_le this (by decide)
    have hn9 : n + 1 ≤ 1000000000 := hn
    have Z : S K [a] b H (start ["tin", "below_so", "drawn", "once_so", "wide_so", "twice_so"] [.ref a, .int bl]) b H [.adr a, .dat (.int bl), .un, .un, .un, .un] := ⟨Fr.rfl' hs, .cons rfl (.cons ⟨_, rfl, .int bl⟩ (.cons True.intro (.cons True.intro (.cons True.intro (.cons True.intro .nil)))))⟩
    have Sl := sl_box Z hb hp
    refine q_ifB (c := decide (0 < x)) Z hb hp (by walk_at "dv") (fun hc h2 Z hp => ?_) (fun hc h2 Z hp => ?_)
    · have Sl := sl_box Z hb hp
      refine q_asgB (i := x % bl) Z hb hp (by walk_at "dv") fun σ2 h2 Z hp => ?_
      have Sl := sl_box Z hb hp
      refine q_setB (i := x / bl) (m := 0) Z rfl hb (.inl (List.mem_cons_self ..)) hp (by walk_at "dv") (show 0 < 3 by decide) fun h2 Z hp => ?_
      have Sl := sl_box Z hb hp
      refine s_retB (i := x % bl) Z hb hp (by walk_at "dv") fun h2 Z hp => ?_
      exact q _ (.int (x % bl)) b h2 ⟨bl, _, rfl, Int.emod_nonneg _ (by omega), Int.emod_lt_of_pos _ h1, rfl⟩ Z.fr hb ⟨x / bl, y, z, hp, Int.ediv_nonneg hx (by omega), hy, hz, by omega⟩ (.int _)
    · have Sl := sl_box Z hb hp
      refine q_setB (i := z + 1) (m := 2) Z rfl hb (.inl (List.mem_cons_self ..)) hp (by walk_at "dv") (show 2 < 3 by decide) fun h2 Z hp => ?_
      have Sl := sl_box Z hb hp
      have yb : -(2 ^ 70) < y ∧ y < 2 ^ 70 := by omega
      have m1 : (z + 1).natAbs < 2 ^ 200 := by
        have : (z + 1).natAbs < 2 ^ 60 := by omega
        exact Nat.lt_of_lt_of_le this (by decide)
      have m2 : (y + 48271 * (z + 1)).natAbs < 2 ^ 200 := by
        have : (y + 48271 * (z + 1)).natAbs < 2 ^ 80 := by omega
        exact Nat.lt_of_lt_of_le this (by decide)
      have m3 : (39373 + (z + 1)).natAbs < 2 ^ 200 := by
        have : (39373 + (z + 1)).natAbs < 2 ^ 60 := by omega
        exact Nat.lt_of_lt_of_le this (by decide)
      refine q_asgBP (fun i => 0 ≤ i ∧ i < 2147483647) Z hb hp (i := (y + 48271 * (z + 1)) * (39373 + (z + 1)) % 2147483647) (by walk_at "dv") ⟨Int.emod_nonneg _ (by decide), Int.emod_lt_of_pos _ (by decide)⟩ fun o ho σ2 h2 Z hp => ?_
      have Sl := sl_box Z hb hp
      refine q_asgBP (fun i => 0 ≤ i ∧ i < 50000) Z hb hp (i := o % 40009 + 7) (by walk_at "dv") (by omega) fun wd hw σ2 h2 Z hp => ?_
      have Sl := sl_box Z hb hp
      have m4 : (o + (z + 1) + y / 1000003).natAbs < 2 ^ 200 := by
        have : (o + (z + 1) + y / 1000003).natAbs < 2 ^ 80 := by omega
        exact Nat.lt_of_lt_of_le this (by decide)
      have m5 : wd.natAbs < 2 ^ 200 := by
        have : wd.natAbs < 2 ^ 60 := by omega
        exact Nat.lt_of_lt_of_le this (by decide)
      refine q_asgBP (fun i => 0 ≤ i ∧ i < 2147483629) Z hb hp (i := (o + (z + 1) + y / 1000003) * wd % 2147483629) (by walk_at "dv") ⟨Int.emod_nonneg _ (by decide), Int.emod_lt_of_pos _ (by decide)⟩ fun tw ht σ2 h2 Z hp => ?_
      have Sl := sl_box Z hb hp
      have m6 : tw.natAbs < 2 ^ 200 := by
        have : tw.natAbs < 2 ^ 60 := by omega
        exact Nat.lt_of_lt_of_le this (by decide)
      refine s_retB (i := (tw * 48271 + o) % 2147483587 / 64 % bl) Z hb hp (by walk_at "dv") fun h2 Z hp => ?_
      exact q _ (.int _) b h2 ⟨bl, _, rfl, Int.emod_nonneg _ (by omega), Int.emod_lt_of_pos _ h1, rfl⟩ Z.fr hb ⟨x, y, z + 1, hp, hx, hy, by omega, by omega⟩ (.int _)
/-! the box of a number of the script -/
def bitOf (ns : List Int) (k : Int) : Int := (ns[k.toNat]?).getD 0
def boxX (x : Int) : Int := (if x < 0 then -x else x) * (if (decide (10 ^ 18 ≤ (if x < 0 then -x else x)) : Bool) = true then 1 else 0)
abbrev RBox : List PyData → PyData → Prop := fun ds d => ∃ (ns : List Int) (k : Int), ds = [.list (ns.map .int), .int k] ∧ 0 ≤ k ∧ k < 1000 ∧ d = .list [.int (boxX (bitOf ns k)), .int (bitOf ns k % 2305843009213693951 + 39373 * k + 3182004), .int 0]
theorem atI_map {ns : List Int} {k : Int} (h0 : 0 ≤ k) (h : k < ns.length) : atI (ns.map PyData.int) k = some (.int (bitOf ns k)) := by
  have e : k = ((k.toNat : Nat) : Int) := by omega
  have h1 : k.toNat < ns.length := by omega
  rw [e]
  refine atI_nat ?_
  rw [List.getElem?_map]
  unfold bitOf
  rw [← e, List.getElem?_eq_getElem h1]
  rfl
theorem cmul_b {i : Int} (bb : Bool) : CMul i (if bb = true then 1 else 0) := .inr (by cases bb <;> decide)
theorem ok__law_box (T : Txt K mg) : FnOk P w K mg base CX0 1 T.f__law_box T.d__law_box ["script", "k"] (spD K RBox) := by
  refine T.F__law_box.ok sc__law_box (by rintro vs H Q E ⟨b, ds, d, hs, hd, ⟨ns, k, rfl, _⟩, q⟩; exact hd.length) (fun cdv A outer s H vs Q E hr h => ?_)
  obtain ⟨b, ds, d, hs, hd, ⟨ns, k, rfl, h0, h9, rfl⟩, q⟩ := h
  refine ⟨_, (pss_cons (ps_set (i := 2) sc__law_box.nd rfl (by first | exact Or.inl rfl | exact Or.inr rfl) (pe_ifExp (pt_cmpR op_lt (pv 1) (pe_callB call_len (by rfl) T.z_len (by decide +kernel) (pa_cons (pv 0) pa_nil)) (nomark _)) (pe_ix ix_seq (pv 0) (pv 1) (fun _ _ => rfl)) pe_int))
    (pss_one (ps_ret (pe_lst (pa_cons (pe_op op_mulA (pe_callB call_abs (by rfl) T.z_abs (by decide +kernel) (pa_cons (pv 2) pa_nil)) (pe_callTy call_int1 (by rfl) T.z_int (by decide +kernel) (pa_cons (pe_cmpR op_ge (pe_callB call_abs (by rfl) T.z_abs (by decide +kernel) (pa_cons (pv 2) pa_nil)) (pe_op op_pow pe_int pe_int) (nomark _)) pa_nil))) (pa_cons (pe_op op_addA (pe_op op_addA (pe_op op_mod (pe_callTy call_int1 (by rfl) T.z_int (by decide +kernel) (pa_cons (pv 2) pa_nil)) pe_int) (pe_op op_mulA pe_int (pv 1))) pe_int) (pa_cons pe_int pa_nil))))))), ?_⟩
  have Z := S.init (B := []) hs hd ["script", "k", "bit_so"]
  have kb : k.natAbs < 2 ^ 200 := by
    have : k.natAbs < 2 ^ 60 := by omega
    exact Nat.lt_of_lt_of_le this (by decide)
  refine q_asg (d := .int (bitOf ns k)) Z (d_if (c := decide (k < ((ns.map PyData.int).length : Int))) (b_test (by walk_at "dv")) (fun hc => ?_) (fun hc => ?_)) fun σ b2 h2 F Z => ?_
  · exact d_op (by walk_at "dv") (by walk_at "dv") (rv_ixL (atI_map h0 (by have := of_decide_eq_true hc; rw [List.length_map] at this; exact this)))
  · refine EvD.is (by walk_at "dv") ?_
    have h1 := of_decide_eq_false hc
    rw [List.length_map] at h1
    unfold bitOf
    rw [List.getElem?_eq_none (by omega)]
    rfl
  · refine s_retE Z (d_lst (ds_cons (d_op (by walk_at "dv") (d_cb (ds_cons (d_op (by walk_at "dv") (d_op (by walk_at "dv") (by walk_at "dv") (rv_powI (by refine ⟨by decide, by decide, by decide⟩))) rv_geI) ds_nil) rc_intB) (rv_mulS ?_)) (ds_cons (by walk_at "dv") (ds_cons (by walk_at "dv") ds_nil))) (show 3 ≤ 100000 by decide)) rfl q
    exact cmul_b _
end
end LW

namespace LW
open PySem L2 DV
local macro_rules | `(tactic| walk_at "dv") => `(tactic| first
  | exact d_int _ | exact d_str _ | exact d_bl _ | exact d_non
  | (apply d_varZ (by assumption); rfl)
  | (apply d_var (by assumption); rfl)
  | exact ds_nil
  | (apply ds_cons; walk_at "dv"; walk_at "dv")
  | (apply d_op; walk_at "dv"; walk_at "dv"; walk_at "rv")
  | (apply d_tup; walk_at "dv"; (simp only [List.length]; omega))
  | (apply d_lst; walk_at "dv"; (simp only [List.length]; omega))
  | (apply d_neg; walk_at "dv")
  | (apply d_notV; walk_at "dv")
  | (apply d_isi; walk_at "dv"; rfl)
  | (apply d_isi2; walk_at "dv"; rfl; rfl)
  | (apply d_cb; walk_at "dv"; walk_at "rc")
  | (apply d_andV; walk_at "dv"; (intro _; walk_at "dv"))
  | (apply d_orV; walk_at "dv"; (intro _; walk_at "dv"))
  | (apply d_chain; walk_at "dv"; walk_at "dv"; walk_at "dv"; walk_at "rv"; walk_at "rv")
  | (apply b_and; walk_at "dv"; (intro _; walk_at "dv"))
  | (apply b_or; walk_at "dv"; (intro _; walk_at "dv"))
  | (apply b_test; walk_at "dv")
  | (apply b_B; walk_at "dv")
  | (apply b_not; walk_at "dv")
  | exact b_yes)
local macro_rules | `(tactic| walk_at "rv") => `(tactic| first
  | exact rv_addI | exact rv_subI | exact rv_ltI | exact rv_leI | exact rv_gtI | exact rv_geI
  | exact rv_eqAI | exact rv_eqAB | exact rv_neAI | exact rv_neAB | exact rv_eqAS | exact rv_eqAN
  | exact rv_ixT rfl | exact rv_ixL rfl
  | (apply rv_modI; first | assumption | decide | omega)
  | (apply rv_divI; (first | assumption | decide | omega); (first | assumption | decide | omega))
  | (apply rv_mulI; (first | assumption | decide | omega); (first | assumption | decide | omega)))
local macro_rules | `(tactic| walk_at "rc") => `(tactic| first
  | exact rc_lenL | exact rc_lenT | exact rc_max | exact rc_min | exact rc_int | exact rc_intB | exact rc_tupL | exact rc_tupT | exact rc_listT | exact rc_listL | exact rc_abs)

section
variable {P : Program} {w : World} {K : PySem.W.Frag} {mg : Str → Option Value} {base : Heap}
/-! the numbers of the script, the later ones added -/
def spCells (K : PySem.W.Frag) : Sp := fun vs H Q _ => ∃ (a : Addr) (ns : List Int) (m : Int), vs = [.ref a, .int m] ∧ SqL K H a (ns.map V.int) ∧ ns.length ≤ 63 ∧ 1 ≤ m ∧ m ≤ 63 ∧
  ∀ p H' (ms : List Int), H' p = some (.lst (ms.map V.int)) → 1 ≤ ms.length → (ms.length : Int) ≤ m → Q (.ref p) H'
theorem cut_hi (xs : List V) (m : Int) (h : 0 ≤ m) : cutV xs none (some m) = xs.take m.toNat := by
  have e : m = ((m.toNat : Nat) : Int) := by omega
  unfold cutV
  rw [HT.sIx_none, e, HT.sIx_nat]
  show List.take (min (m.toNat : Nat) xs.length - 0) (xs.drop 0) = _
  rw [List.drop_zero, Nat.sub_zero]
  simp only [Int.toNat_natCast]
  by_cases h1 : m.toNat ≤ xs.length
  · rw [Nat.min_eq_left h1]
  · rw [Nat.min_eq_right (by omega), List.take_length, List.take_of_length_le (by omega)]
theorem cut_lo (xs : List V) (m : Int) (h : 0 ≤ m) : (cutV xs (some m) (some 63)) = (xs.drop (min m.toNat xs.length)).take (min 63 xs.length - min m.toNat xs.length) := by
  have e : m = ((m.toNat : Nat) : Int) := by omega
  unfold cutV
  rw [show HT.sIx xs.length 0 (some m) = min m.toNat xs.length by
    have h2 := HT.sIx_nat xs.length 0 m.toNat
    rw [← e] at h2
    exact h2, show HT.sIx xs.length xs.length (some (63 : Int)) = min 63 xs.length from HT.sIx_nat xs.length xs.length 63]
theorem ok__law_cells (T : Txt K mg) : FnOk P w K mg base CX0 1 T.f__law_cells T.d__law_cells ["script", "most_so"] (spCells K) := by
  refine T.F__law_cells.ok sc__law_cells (by rintro vs H Q E ⟨a, ns, m, rfl, _⟩; rfl) (fun cdv A outer s H vs Q E hr h => ?_)
  obtain ⟨a, ns, m, rfl, hS, hl, hm1, hm2, q⟩ := h
  refine ⟨_, (pss_cons (ps_set (i := 2) sc__law_cells.nd rfl (by first | exact Or.inl rfl | exact Or.inr rfl) (pe_orT (pe_callTy call_list_of (by rfl) T.z_list (by decide +kernel) (pa_cons (pe_slice sl_list (pv 0) po_none (po_some (pv 1))) pa_nil)) (pe_one (pe_lst (pa_cons pe_int pa_nil)))))
    (pss_cons (ps_for PassesOwn.never rfl (pi_enum (by rfl) T.z_enumerate (pa_cons (pe_slice sl_list (pv 0) (po_some (pv 1)) (po_some pe_int)) pa_nil)) (pg_tup (n := 2) rfl (pgs_cons (pg_name (i := 3) sc__law_cells.nd rfl (by first | exact Or.inl rfl | exact Or.inr rfl)) (pgs_cons (pg_name (i := 4) sc__law_cells.nd rfl (by first | exact Or.inl rfl | exact Or.inr rfl)) pgs_nil))) (pss_cons (ps_set (i := 5) sc__law_cells.nd rfl (by first | exact Or.inl rfl | exact Or.inr rfl) (pe_op op_mod (pe_callTy call_int1 (by rfl) T.z_int (by decide +kernel) (pa_cons (pv 3) pa_nil)) (pv 1)))
    (pss_one (ps_asg (pe_op op_addA (pe_ix ix_seq (pv 2) (pv 5) (fun _ _ => rfl)) (pe_op op_mulA (pv 4) (pe_op op_addA (pv 3) pe_int))) (pg_sub (pv 2) (pv 5) set_list)))))
    (pss_one (ps_ret (pv 2))))), ?_⟩
  -- cells = list(script[:most]) or [0]
  refine ⟨.ref a, rfl, .int m, rfl, m, rfl, a, _, rfl, hS, fun p1 hp1 => ⟨p1, _, rfl, .inl (.inl (.inl upd_same)), fun p2 hp2 => ?_⟩⟩
  have e1 : cutV (ns.map V.int) none (some m) = (ns.take m.toNat).map V.int := by rw [cut_hi _ _ (by omega), List.map_take]
  rw [e1] at hp2 ⊢
  have F1 : Same H (upd (upd H p1 (.lst ((ns.take m.toNat).map V.int))) p2 (.lst ((ns.take m.toNat).map V.int))) := fun b o e => by
    have n1 : b ≠ p1 := ne_of_none e hp1
    have e2 : (upd H p1 (.lst ((ns.take m.toNat).map V.int))) b = some o := by rw [upd_ne n1]; exact e
    rw [upd_ne (ne_of_none e2 hp2)]
    exact e2
  -- what follows, from any list of one to most ints
  have rest : ∀ (p : Addr) (H1 : Hp) (ms : List Int), Same H H1 → H p = none → H1 p = some (.lst (ms.map V.int)) → 1 ≤ ms.length → (ms.length : Int) ≤ m → (m.toNat < ns.length → (ms.length : Int) = m) →
      (tSeq (tFor (iEnum K (tCons (tSl (rSlL K) (tVar 0) (tPart (tVar 1)) (tPart (tC (V.int 63)))) tNil)) (gTup K 2 (gCons (gName 3) (gCons (gName 4) gNil)))
        (tSeq (tAsg (tOp (rI (fun _ j => 0 < j) fun i j => V.int (i % j)) (tCB (fun xs H Q => (∃ i, xs = [V.int i] ∧ Q (V.int i) H) ∨ ∃ k, xs = [V.bl k] ∧ Q (V.int (if k then 1 else 0)) H) (tCons (tVar 3) tNil)) (tVar 1)) (gName 5))
          (tAsg (tOp (rAddA K) (tOp (rIx K) (tVar 2) (tVar 5)) (tOp rMulA (tVar 4) (tOp (rAddA K) (tVar 3) (tC (V.int 2))))) (gSub (tVar 2) (tVar 5) rSetL))))
        (tRet (tVar 2))) { nx := fun _ H' => Q V.non H', rt := Q } [some (V.ref a), some (V.int m), some (V.ref p), none, none, none] H1 := by
    intro p H1 ms S1 np hp h1 h2 h3
    refine ⟨.ref a, rfl, .int m, rfl, m, rfl, 63, rfl, a, _, rfl, S1.seq hS, fun c hc => ?_⟩
    rw [cut_lo _ _ (by omega)]
    generalize hxs : List.take (min 63 (ns.map V.int).length - min m.toNat (ns.map V.int).length) (List.drop (min m.toNat (ns.map V.int).length) (ns.map V.int)) = xs
    have hxi : ∀ (i : Nat) (v : V), xs[i]? = some v → (∃ z : Int, v = V.int z) ∧ m.toNat < ns.length := fun i v e => by
      have e' := e
      rw [← hxs] at e
      have hi := (List.getElem?_eq_some_iff.mp e).1
      rw [List.length_take, List.length_drop, List.length_map] at hi
      refine ⟨?_, by omega⟩
      have hm := List.mem_of_getElem? e
      have hm2 := List.mem_of_mem_drop (List.mem_of_mem_take hm)
      obtain ⟨z, _, rfl⟩ := List.mem_map.mp hm2
      exact ⟨z, rfl⟩
    have npc : p ≠ c := ne_of_none hp hc
    refine ⟨c, xs, rfl, .inl (.inl upd_same), for_it (walk_enum (xs := xs)) (fun i σ H' => ∃ (y3 y4 y5 : Option V) (ms : List Int), σ = [some (.ref a), some (.int m), some (.ref p), y3, y4, y5] ∧ 1 ≤ ms.length ∧ (ms.length : Int) ≤ m ∧ (m.toNat < ns.length → (ms.length : Int) = m) ∧ H' p = some (.lst (ms.map V.int)) ∧ H' c = some (.lst xs))
      ⟨none, none, none, ms, rfl, h1, h2, h3, by rw [upd_ne npc]; exact hp, upd_same⟩ (fun i σ H' _ hP => ?_) (fun i x σ H' H'' hi hP hy => ?_) (fun σ H' hP => ?_)⟩
    · obtain ⟨_, _, _, _, _, _, _, _, _, e⟩ := hP
      exact .inl (.inl e)
    · obtain ⟨y3, y4, y5, ms, rfl, g1, g2, g3, gp, gc⟩ := hP
      obtain ⟨Tt, u, v, rfl, hT, rfl, eu, ev⟩ := hy
      obtain ⟨⟨z, rfl⟩, hlen⟩ := hxi i v ev
      have eu' : u = .int (i : Int) := (Option.some.inj eu).symm
      subst eu'
      have hm := g3 hlen
      refine ⟨Tt, _, rfl, .inl (.inl upd_same), rfl, _, _, rfl, _, _, rfl, rfl, ?_⟩
      -- at = int(k) % most
      refine ⟨.int (i : Int), rfl, .inl ⟨_, rfl, .int m, rfl, _, _, rfl, rfl, by omega, ?_⟩⟩
      have gp' : (upd H' Tt (.tup [.int (i : Int), .int z])) p = some (.lst (ms.map V.int)) := by
        rw [upd_ne (ne_of_none gp hT)]; exact gp
      have a0 : 0 ≤ (i : Int) % m := Int.emod_nonneg _ (by omega)
      have a1 : (i : Int) % m < m := Int.emod_lt_of_pos _ (by omega)
      have a2 : ((i : Int) % m).toNat < ms.length := by omega
      have a3 : (i : Int) % m = ((((i : Int) % m).toNat : Nat) : Int) := by omega
      have at1 : atI (ms.map V.int) ((i : Int) % m) = some (.int ms[((i : Int) % m).toNat]) := at_of a3 (by
        rw [List.getElem?_map, List.getElem?_eq_getElem a2]
        rfl)
      have at2 : ixN (ms.map V.int).length ((i : Int) % m) = some ((i : Int) % m).toNat := by
        have := ixN_nat (n := (ms.map V.int).length) (j := ((i : Int) % m).toNat) (by rw [List.length_map]; exact a2)
        rw [← a3] at this
        exact this
      refine ⟨.ref p, rfl, .int ((i : Int) % m), rfl, .inl ⟨p, _, _, _, rfl, rfl, .inl (.inl gp'), at1, ?_⟩⟩
      have ib : (i : Int) < 64 := by
        have hi' := hi
        rw [← hxs, List.length_take] at hi'
        omega
      refine ⟨.int z, rfl, .int (i : Int), rfl, .inl ⟨_, _, rfl, rfl, .inr (.inl ⟨_, _, rfl, rfl, .inr ⟨by omega, by omega⟩, .inl ⟨_, _, rfl, rfl, ?_⟩⟩)⟩⟩
      refine ⟨.ref p, rfl, .int ((i : Int) % m), rfl, p, _, _, _, rfl, rfl, gp', at2, ?_⟩
      refine ⟨_, _, _, ms.set ((i : Int) % m).toNat (ms[((i : Int) % m).toNat] + z * ((i : Int) + 2)), rfl, by rw [List.length_set]; exact g1, by rw [List.length_set]; exact g2, by rw [List.length_set]; exact g3, ?_, ?_⟩
      · rw [upd_same, List.map_set]
      · have hcp : c ≠ p := npc.symm
        rw [upd_ne hcp, upd_ne (ne_of_none gc hT)]
        exact gc
    · obtain ⟨y3, y4, y5, ms, rfl, g1, g2, g3, gp, gc⟩ := hP
      exact ⟨.ref p, rfl, q p H' ms gp g1 g2⟩
  have hp2' : H p2 = none := by
    cases e : H p2 with
    | none => rfl
    | some o =>
      have n1 : p2 ≠ p1 := ne_of_none e hp1
      rw [upd_ne n1, e] at hp2
      cases hp2
  refine ⟨!((ns.take m.toNat).map V.int).isEmpty, .inl ⟨_, .inl (.inl upd_same), rfl⟩, ?_⟩
  cases hns : ns with
  | nil =>
    have hb : (!((List.take m.toNat ([] : List Int)).map V.int).isEmpty) = false := by simp
    rw [hb]
    rw [hns] at rest F1
    refine iteF ⟨Nat.le_of_ble_eq_true rfl, fun p3 hp3 => ?_⟩
    refine rest p3 _ [0] (F1.trans fun b o e => by rw [upd_ne (ne_of_none e hp3)]; exact e) (F1.free hp3) upd_same (Nat.le_refl _) hm1 (fun z => by simp at z)
  | cons z r =>
    have ht : m.toNat = (m.toNat - 1) + 1 := by omega
    have hb : (!((List.take m.toNat (z :: r)).map V.int).isEmpty) = true := by rw [ht]; rfl
    rw [hb]
    rw [hns] at rest F1
    refine iteT ?_
    refine rest p2 _ _ F1 hp2' upd_same (by rw [List.length_take, List.length_cons]; omega) (by rw [List.length_take, List.length_cons]; omega) (fun z => by rw [List.length_take]; omega)
end
end LW

namespace LW
open PySem L2 DV
local macro_rules | `(tactic| walk_at "dv") => `(tactic| first
  | exact d_int _ | exact d_str _ | exact d_bl _ | exact d_non
  | (apply d_varZ (by assumption); rfl)
  | (apply d_var (by assumption); rfl)
  | exact ds_nil
  | (apply ds_cons; walk_at "dv"; walk_at "dv")
  | (apply d_op; walk_at "dv"; walk_at "dv"; walk_at "rv")
  | (apply d_tup; walk_at "dv"; (simp only [List.length]; omega))
  | (apply d_lst; walk_at "dv"; (simp only [List.length]; omega))
  | (apply d_neg; walk_at "dv")
  | (apply d_notV; walk_at "dv")
  | (apply d_isi; walk_at "dv"; rfl)
  | (apply d_isi2; walk_at "dv"; rfl; rfl)
  | (apply d_cb; walk_at "dv"; walk_at "rc")
  | (apply d_andV; walk_at "dv"; (intro _; walk_at "dv"))
  | (apply d_orV; walk_at "dv"; (intro _; walk_at "dv"))
  | (apply d_chain; walk_at "dv"; walk_at "dv"; walk_at "dv"; walk_at "rv"; walk_at "rv")
  | (apply b_and; walk_at "dv"; (intro _; walk_at "dv"))
  | (apply b_or; walk_at "dv"; (intro _; walk_at "dv"))
  | (apply b_test; walk_at "dv")
  | (apply b_B; walk_at "dv")
  | (apply b_not; walk_at "dv")
  | exact b_yes)
local macro_rules | `(tactic| walk_at "rv") => `(tactic| first
  | exact rv_addI | exact rv_subI | exact rv_ltI | exact rv_leI | exact rv_gtI | exact rv_geI
  | exact rv_eqAI | exact rv_eqAB | exact rv_neAI | exact rv_neAB | exact rv_eqAS | exact rv_eqAN
  | exact rv_ixT rfl | exact rv_ixL rfl
  | (apply rv_modI; first | assumption | decide | omega)
  | (apply rv_divI; (first | assumption | decide | omega); (first | assumption | decide | omega))
  | (apply rv_mulI; (first | assumption | decide | omega); (first | assumption | decide | omega)))
local macro_rules | `(tactic| walk_at "rc") => `(tactic| first
  | exact rc_lenL | exact rc_lenT | exact rc_max | exact rc_min | exact rc_int | exact rc_intB | exact rc_tupL | exact rc_tupT | exact rc_listT | exact rc_listL | exact rc_abs)

section
variable {P : Program} {w : World} {K : PySem.W.Frag} {mg : Str → Option Value} {base : Heap}
theorem mem1 {a : Addr} {h : Hp} : a ∈ [a] ∨ h a = none := .inl (List.mem_cons_self ..)
/-- k + a draw -/
theorem t_plus {σ : St} {b : Hp} {a : Addr} {te : TE} {k B : Int} (h : EvT K te σ b a 1 (RTake [.int B])) : EvT K (tOp (rAddA K) (tC (.int k)) te) σ b a 1 (fun d => ∃ r : Int, 0 ≤ r ∧ r < B ∧ d = .int (k + r)) := by
  have := t_op (R := fun d => ∃ r : Int, 0 ≤ r ∧ r < B ∧ d = .int (k + r)) (r := rAddA K) (t_pure (K := K) (σ := σ) (b := b) (a := a) (d_int k)) h (by decide) (by decide) (fun d1 d2 e1 e2 => by
    obtain ⟨b', r, e3, r0, r1, rfl⟩ := e2
    cases e3
    subst e1
    exact ⟨_, rv_addI, r, r0, r1, rfl⟩)
  exact t_le this (by decide)
theorem t_minus {σ : St} {b : Hp} {a : Addr} {te : TE} {k B : Int} (h : EvT K te σ b a 1 (RTake [.int B])) : EvT K (tOp (rI0 fun i j => .int (i - j)) te (tC (.int k))) σ b a 1 (fun d => ∃ r : Int, 0 ≤ r ∧ r < B ∧ d = .int (r - k)) := by
  have := t_op (R := fun d => ∃ r : Int, 0 ≤ r ∧ r < B ∧ d = .int (r - k)) (r := rI0 fun i j => .int (i - j)) h (t_pure (K := K) (σ := σ) (b := b) (a := a) (d_int k)) (by decide) (by decide) (fun d1 d2 e1 e2 => by
    obtain ⟨b', r, e3, r0, r1, rfl⟩ := e1
    cases e3
    subst e2
    exact ⟨_, rv_subI, r, r0, r1, rfl⟩)
  exact t_le this (by decide)
abbrev RForm : List PyData → PyData → Prop := fun _ d => ∃ c f m : Int, d = shD c f m ∧ 2 ≤ c ∧ c < 9 ∧ 1 ≤ f ∧ f < c ∧ 1 ≤ m ∧ m < 5
theorem ok__law_any_form (T : Txt K mg) : FnOk P w K mg base CX0 2 T.f__law_any_form T.d__law_any_form ["tin"] (spT K 3 RForm (· = [])) := by
  refine T.F__law_any_form.ok sc__law_any_form (by rintro vs H Q E ⟨b, a, ws, ds, n, rfl, hs, hb, hT, hn, hd, rfl, q⟩; exact congrArg Nat.succ hd.length) (fun cdv A outer s H vs Q E hr h => ?_)
  obtain ⟨b, a, ws, ds, n, rfl, hs, hb, hT, hn, hd, rfl, q⟩ := h
  cases hd
  refine ⟨_, (pss_cons (ps_set (i := 1) sc__law_any_form.nd rfl (by first | exact Or.inl rfl | exact Or.inr rfl) (pe_op op_addA pe_int (pe_call (ok__law_take T) (hr.mono (by omega)) (by rfl) T.m__law_take T.F__law_take.kp T.b__law_take .nil pass0 (pa_cons (pv 0) (pa_cons pe_int pa_nil)))))
    (pss_one (ps_ret (pe_tup (pa_cons (pv 1) (pa_cons (pe_op op_addA pe_int (pe_call (ok__law_take T) (hr.mono (by omega)) (by rfl) T.m__law_take T.F__law_take.kp T.b__law_take .nil pass0 (pa_cons (pv 0) (pa_cons (pe_op op_sub (pv 1) pe_int) pa_nil)))) (pa_cons (pe_op op_addA pe_int (pe_call (ok__law_take T) (hr.mono (by omega)) (by rfl) T.m__law_take T.F__law_take.kp T.b__law_take .nil pass0 (pa_cons (pv 0) (pa_cons pe_int pa_nil)))) pa_nil))))))), ?_⟩
  have Z : S K [a] b H (start ["tin", "cells_so"] [.ref a]) b H [.adr a, .un] := ⟨Fr.rfl' hs, .cons rfl (.cons True.intro .nil)⟩
  have hn' : n + 3 ≤ 1000000000 := hn
  refine q_asgT Z hb mem1 hT (by show n + 1 ≤ 1000000000; omega) (t_plus (t_callT Z.sl rfl (ds_cons (d_int 7) ds_nil) ⟨7, rfl, by decide, by decide⟩)) fun d σ2 b2 h2 hd Z hb hT => ?_
  obtain ⟨r, r0, r1, rfl⟩ := hd
  refine s_retT Z hb mem1 hT (by show n + 1 + _ ≤ 1000000000; omega) (t_tup (ts_cons (t_pure (by walk_at "dv")) (ts_cons (t_plus (t_callT Z.sl rfl (by walk_at "dv") ⟨2 + r - 1, rfl, by omega, by omega⟩)) (ts_cons (t_plus (t_callT Z.sl rfl (ds_cons (d_int 4) ds_nil) ⟨4, rfl, by decide, by decide⟩)) ts_nil (by decide) (by decide)) (by decide) (by decide)) (by decide) (by decide)) ?_) ?_
  · rintro ds ⟨d1, e1, rfl, rfl, d2, e2, rfl, _, d3, e3, rfl, _, rfl⟩
    exact Nat.le_of_ble_eq_true rfl
  · rintro v d b3 h3 ⟨ds, rfl, d1, e1, rfl, rfl, d2, e2, rfl, ⟨r2, p0, p1, rfl⟩, d3, e3, rfl, ⟨r3, q0, q1, rfl⟩, rfl⟩ Fr3 hb3 hT3 dd
    refine q v _ b3 h3 ⟨2 + r, 1 + r2, 1 + r3, rfl, by omega, by omega, by omega, by omega, by omega, by omega⟩ Fr3 hb3 (hT3.le (by omega)) dd
/-! the ring walked -/
def walkL (c : Int) (n : Nat) : List PyData := (List.range n).map fun (i : Nat) => .tuple [.int ((i : Int) % c), .int ((i : Int) / c)]
theorem walk_step (c : Int) (n : Nat) : walkL c (n + 1) = walkL c n ++ [.tuple [.int ((n : Int) % c), .int ((n : Int) / c)]] := by
  unfold walkL
  rw [List.range_succ, List.map_append]
  rfl
theorem walk_len (c : Int) (n : Nat) : (walkL c n).length = n := by
  unfold walkL
  rw [List.length_map, List.length_range]
theorem ok__law_walked (T : Txt K mg) : FnOk P w K mg base CX0 1 T.f__law_walked T.d__law_walked ["form"] (spD K fun ds d => ∃ c f m : Int, ds = [shD c f m] ∧ 1 ≤ c ∧ c < 100 ∧ 0 ≤ m ∧ m < 100 ∧ d = .list (walkL c (c * m).toNat)) := by
  refine T.F__law_walked.ok sc__law_walked (by rintro vs H Q E ⟨b, ds, d, hs, hd, ⟨c, f, m, rfl, _⟩, q⟩; exact hd.length) (fun cdv A outer s H vs Q E hr h => ?_)
  obtain ⟨b00, ds, d, hs, hd, ⟨c, f, m, rfl, c1, c2, m1, m2, rfl⟩, q⟩ := h
  refine ⟨_, (pss_cons (ps_par3 (i := 1) (j := 2) (l := 3) (by rfl) sc__law_walked.nd rfl rfl rfl (by decide) (by decide) (by decide) rfl rfl rfl (pa_cons (pe_lst pa_nil) (pa_cons pe_int (pa_cons pe_int pa_nil))) (by rfl))
    (pss_cons (ps_for PassesOwn.never rfl (pi_range1 rfl T.z_range (pa_cons (pe_op op_mulA (pe_ix ix_seq (pv 0) pe_int (fun _ _ => rfl)) (pe_ix ix_seq (pv 0) pe_int (fun _ _ => rfl))) pa_nil)) (pg_name (i := 4) sc__law_walked.nd rfl (by first | exact Or.inl rfl | exact Or.inr rfl)) (pss_cons (ps_expr (pe_bm PySem.F.plainAttrs_list PySem.F.slot_list_append PySem.F.type_list_append mt_append (pv 1) (pa_cons (pe_tup (pa_cons (pv 2) (pa_cons (pv 3) pa_nil))) pa_nil)))
    (pss_cons (ps_set (i := 2) sc__law_walked.nd rfl (by first | exact Or.inl rfl | exact Or.inr rfl) (pe_op op_addA (pv 2) pe_int))
    (pss_one (ps_if (pt_cmpR (op_eqA hr.units) (pv 2) (pe_ix ix_seq (pv 0) pe_int (fun _ _ => rfl)) (nomark _)) (pss_one (ps_par (i := 2) (j := 3) (by rfl) sc__law_walked.nd rfl rfl (by decide) rfl rfl (pa_cons pe_int (pa_cons (pe_op op_addA (pv 3) pe_int) pa_nil)) (by rfl))) pss_nil)))))
    (pss_one (ps_ret (pv 1))))), ?_⟩
  have Z := S.init (B := []) hs hd ["form", "found", "k", "lap_so", "n"]
  have cb : c.natAbs < 2 ^ 200 := by
    have : c.natAbs < 2 ^ 60 := by omega
    exact Nat.lt_of_lt_of_le this (by decide)
  have mb : m.natAbs < 2 ^ 200 := by
    have : m.natAbs < 2 ^ 60 := by omega
    exact Nat.lt_of_lt_of_le this (by decide)
  have cm0 : 0 ≤ c * m := Int.mul_nonneg (by omega) m1
  have cm1 : c * m ≤ 10000 := by
    have h1 : c * m ≤ 100 * m := Int.mul_le_mul_of_nonneg_right (by omega) m1
    omega
  -- found, k, lap = [], 0, 0
  refine q_par3L Z (d_int 0) (d_int 0) fun p σ b h Fp hp hbp hhp Z => ?_
  refine q_forR1 Z (m := c * m) (by walk_at "dv") ⟨by omega, by omega⟩ (fun i σ h => ∃ b1 xs z, S K [] b00 H σ b1 h [.dat (shD c f m), .adr p, .dat (.int ((i : Int) % c)), .dat (.int ((i : Int) / c)), z] ∧ b1 p = none ∧ h p = some (.lst xs) ∧ DaAll K b1 xs (walkL c i)) (fun b2 h2 F Z2 => ?_) (fun i σ h hi hP => ?_) (fun σ h hP => ?_)
  · refine ⟨b2, [], .un, ?_, F.out p hbp (by rw [hhp]; rfl), F.keep p _ hbp (by intro q; cases q) hhp, .nil⟩
    have e1 : ((0 : Nat) : Int) % c = 0 := by simp
    have e2 : ((0 : Nat) : Int) / c = 0 := by simp
    rw [e1, e2]
    exact Z2
  · obtain ⟨b1, xs, z, Z, hb1, hx, hD⟩ := hP
    have Z : S K [] b00 H (σ.set 4 (some (.int (0 + (i : Int))))) b1 h [.dat (shD c f m), .adr p, .dat (.int ((i : Int) % c)), .dat (.int ((i : Int) / c)), .dat (.int (0 + (i : Int)))] := ⟨Z.fr, Z.sl.set (z := .dat (.int (0 + (i : Int)))) ⟨_, rfl, .int _⟩ 4⟩
    refine q_app Z rfl hb1 (.inr hp) hx (by rw [hD.length, walk_len]; omega) (by walk_at "dv") fun v b2 h2 h3 F dd hb2 hx3 F3 Z => ?_
    have hD3 : DaAll K b2 (xs ++ [v]) (walkL c (i + 1)) := by
      rw [walk_step]
      exact (hD.mono F.base).append (.cons dd .nil)
    refine q_asg Z (by walk_at "dv") fun σ4 b4 h4 F4 Z => ?_
    have hx4 := F4.keep p _ hb2 (by intro q; cases q) hx3
    have hb4 := F4.out p hb2 (by rw [hx3]; rfl)
    have hD4 := hD3.mono F4.base
    have ei : ((i + 1 : Nat) : Int) = (i : Int) + 1 := by omega
    have cpos : 0 < c := by omega
    by_cases hk : (i : Int) % c + 1 = c
    · apply s_whenT Z
      exact b_test (d_op (by walk_at "dv") (by walk_at "dv") rv_eqAI)
      exact decide_eq_true hk
      intro b5 h5 F5 Z
      have hx5 := F5.keep p _ hb4 (by intro q; cases q) hx4
      have hb5 := F5.out p hb4 (by rw [hx4]; rfl)
      have hD5 := hD4.mono F5.base
      refine s_par Z (by walk_at "dv") fun σ6 b6 h6 F6 Z => ?_
      have hx6 := F6.keep p _ hb5 (by intro q; cases q) hx5
      have hb6 := F6.out p hb5 (by rw [hx5]; rfl)
      have hD6 := hD5.mono F6.base
      refine ⟨b6, _, .dat (.int (0 + (i : Int))), ?_, hb6, hx6, hD6⟩
      have e1 : ((i + 1 : Nat) : Int) % c = 0 := by
        rw [ei, Int.add_emod, show ((i : Int) % c) = c - 1 by omega]
        by_cases c1' : c = 1
        · subst c1'; omega
        · rw [Int.emod_eq_of_lt (a := 1) (by omega) (by omega), show c - 1 + 1 = c by omega, Int.emod_self]
      have e2 : ((i + 1 : Nat) : Int) / c = (i : Int) / c + 1 := by
        have h1 := Int.emod_add_mul_ediv (i : Int) c
        have h2 := Int.emod_add_mul_ediv ((i + 1 : Nat) : Int) c
        rw [e1] at h2
        have h3 : c * (((i + 1 : Nat) : Int) / c) = c * ((i : Int) / c + 1) := by
          rw [Int.mul_add, Int.mul_one]
          omega
        exact Int.eq_of_mul_eq_mul_left (by omega) h3
      rw [e1, e2]
      exact Z
    · apply s_whenF Z
      exact b_test (d_op (by walk_at "dv") (by walk_at "dv") rv_eqAI)
      exact decide_eq_false hk
      intro b5 h5 F5 Z
      have hx5 := F5.keep p _ hb4 (by intro q; cases q) hx4
      have hb5 := F5.out p hb4 (by rw [hx4]; rfl)
      have hD5 := hD4.mono F5.base
      refine ⟨b5, _, .dat (.int (0 + (i : Int))), ?_, hb5, hx5, hD5⟩
      have l1 := Int.emod_lt_of_pos (i : Int) cpos
      have l0 := Int.emod_nonneg (i : Int) (by omega : c ≠ 0)
      have h1 := Int.emod_add_mul_ediv (i : Int) c
      have e1 : ((i + 1 : Nat) : Int) % c = (i : Int) % c + 1 := by
        rw [ei]
        conv => lhs; rw [← h1]
        rw [show (i : Int) % c + c * ((i : Int) / c) + 1 = ((i : Int) % c + 1) + c * ((i : Int) / c) by omega, Int.add_mul_emod_self_left]
        exact Int.emod_eq_of_lt (by omega) (by omega)
      have e2 : ((i + 1 : Nat) : Int) / c = (i : Int) / c := by
        have h2 := Int.emod_add_mul_ediv ((i + 1 : Nat) : Int) c
        rw [e1] at h2
        have h3 : c * (((i + 1 : Nat) : Int) / c) = c * ((i : Int) / c) := by omega
        exact Int.eq_of_mul_eq_mul_left (by omega) h3
      rw [e1, e2]
      exact Z
  · obtain ⟨b1, xs, z, Z, hb1, hx, hD⟩ := hP
    obtain ⟨Z2, dd⟩ := Z.seal hb1 hp hx hD
    have Z3 := Z2.turn (n := 1) rfl dd
    exact s_ret Z3 (by walk_at "dv") q
end
end LW

namespace LW
open PySem L2 DV
local macro_rules | `(tactic| walk_at "dv") => `(tactic| first
  | exact d_int _ | exact d_str _ | exact d_bl _ | exact d_non
  | (apply d_varZ (by assumption); rfl)
  | (apply d_var (by assumption); rfl)
  | exact ds_nil
  | (apply ds_cons; walk_at "dv"; walk_at "dv")
  | (apply d_op; walk_at "dv"; walk_at "dv"; walk_at "rv")
  | (apply d_tup; walk_at "dv"; (simp only [List.length]; omega))
  | (apply d_lst; walk_at "dv"; (simp only [List.length]; omega))
  | (apply d_neg; walk_at "dv")
  | (apply d_notV; walk_at "dv")
  | (apply d_isi; walk_at "dv"; rfl)
  | (apply d_isi2; walk_at "dv"; rfl; rfl)
  | (apply d_cb; walk_at "dv"; walk_at "rc")
  | (apply d_andV; walk_at "dv"; (intro _; walk_at "dv"))
  | (apply d_orV; walk_at "dv"; (intro _; walk_at "dv"))
  | (apply d_chain; walk_at "dv"; walk_at "dv"; walk_at "dv"; walk_at "rv"; walk_at "rv")
  | (apply b_and; walk_at "dv"; (intro _; walk_at "dv"))
  | (apply b_or; walk_at "dv"; (intro _; walk_at "dv"))
  | (apply b_test; walk_at "dv")
  | (apply b_B; walk_at "dv")
  | (apply b_not; walk_at "dv")
  | exact b_yes)
local macro_rules | `(tactic| walk_at "rv") => `(tactic| first
  | exact rv_addI | exact rv_subI | exact rv_ltI | exact rv_leI | exact rv_gtI | exact rv_geI
  | exact rv_eqAI | exact rv_eqAB | exact rv_neAI | exact rv_neAB | exact rv_eqAS | exact rv_eqAN
  | exact rv_ixT rfl | exact rv_ixL rfl
  | (apply rv_modI; first | assumption | decide | omega)
  | (apply rv_divI; (first | assumption | decide | omega); (first | assumption | decide | omega))
  | (apply rv_mulI; (first | assumption | decide | omega); (first | assumption | decide | omega)))
local macro_rules | `(tactic| walk_at "rc") => `(tactic| first
  | exact rc_lenL | exact rc_lenT | exact rc_max | exact rc_min | exact rc_int | exact rc_intB | exact rc_tupL | exact rc_tupT | exact rc_listT | exact rc_listL | exact rc_abs)

/-! the border, reckoned over all of few -/
def fL (p : Int → Bool) (lo : Int) (n : Nat) : List Int := ((List.range n).map fun (i : Nat) => lo + (i : Int)).filter p
def p1 (c f o : Int) : Bool := decide (f < c) && (decide (1 < o) && decide (3 * f < o * c))
def p2 (c m o : Int) : Bool := decide (1 < m) && decide (3 * o < m * c)
def p3 (f m o : Int) : Bool := decide (1 < m) && decide (3 * f < m * o)
theorem border1 {c f : Int} (h1 : 2 ≤ c) (h2 : c < 17) (h3 : 1 ≤ f) (h4 : f < 16) : (if f < c then PyData.int (max 2 (3 * f / c + 1)) else .none) = optD (fL (p1 c f) 1 5).head? := by
  have key : ∀ (x y : Fin 15), (fL (p1 ((x.val : Int) + 2) ((y.val : Int) + 1)) 1 5).head? = if ((y.val : Int) + 1) < ((x.val : Int) + 2) then some (max 2 (3 * ((y.val : Int) + 1) / ((x.val : Int) + 2) + 1)) else none := by decide +kernel
  have := key ⟨(c - 2).toNat, by omega⟩ ⟨(f - 1).toNat, by omega⟩
  have e1 : (((c - 2).toNat : Nat) : Int) + 2 = c := by omega
  have e2 : (((f - 1).toNat : Nat) : Int) + 1 = f := by omega
  simp only [e1, e2] at this
  rw [this]
  split <;> rfl
theorem border2 {c m : Int} (h1 : 2 ≤ c) (h2 : c < 17) (h3 : 1 ≤ m) (h4 : m < 6) : (if m < 2 then PyData.none else .int (min (c - 1) ((m * c - 1) / 3))) = optD (fL (p2 c m) 1 (c - 1).toNat).getLast? := by
  have key : ∀ (x : Fin 15) (y : Fin 5), (fL (p2 ((x.val : Int) + 2) ((y.val : Int) + 1)) 1 (((x.val : Int) + 2) - 1).toNat).getLast? = if ((y.val : Int) + 1) < 2 then none else some (min (((x.val : Int) + 2) - 1) ((((y.val : Int) + 1) * ((x.val : Int) + 2) - 1) / 3)) := by decide +kernel
  have := key ⟨(c - 2).toNat, by omega⟩ ⟨(m - 1).toNat, by omega⟩
  have e1 : (((c - 2).toNat : Nat) : Int) + 2 = c := by omega
  have e2 : (((m - 1).toNat : Nat) : Int) + 1 = m := by omega
  simp only [e1, e2] at this
  rw [this]
  split <;> rfl
theorem border3 {f m : Int} (h1 : 1 ≤ f) (h2 : f < 16) (h3 : 1 ≤ m) (h4 : m < 6) : (if m < 2 then PyData.none else .int (max (f + 1) (3 * f / m + 1))) = optD (fL (p3 f m) (f + 1) (60 - (f + 1)).toNat).head? := by
  have key : ∀ (x : Fin 15) (y : Fin 5), (fL (p3 ((x.val : Int) + 1) ((y.val : Int) + 1)) (((x.val : Int) + 1) + 1) (60 - (((x.val : Int) + 1) + 1)).toNat).head? = if ((y.val : Int) + 1) < 2 then none else some (max (((x.val : Int) + 1) + 1) (3 * ((x.val : Int) + 1) / ((y.val : Int) + 1) + 1)) := by decide +kernel
  have := key ⟨(f - 1).toNat, by omega⟩ ⟨(m - 1).toNat, by omega⟩
  have e1 : (((f - 1).toNat : Nat) : Int) + 1 = f := by omega
  have e2 : (((m - 1).toNat : Nat) : Int) + 1 = m := by omega
  simp only [e1, e2] at this
  rw [this]
  split <;> rfl
def onI (p : Int → Bool) : PyData → Bool
  | .int i => p i
  | _ => false
theorem fine_optD (n : Nat) (o : Option Int) : fine n (optD o) = true := by cases o <;> cases n <;> rfl
theorem fL_data (p : Int → Bool) (lo : Int) (n : Nat) : ((rng lo n).filter (onI p)).map (fun d => d) = (fL p lo n).map PyData.int := by
  rw [rng_ints, filt_ints]
  rfl
section
variable {P : Program} {w : World} {K : PySem.W.Frag} {mg : Str → Option Value} {base : Heap}
abbrev RTrue : List PyData → PyData → Prop := fun _ d => d = .bool true
theorem ok__law_border_right (T : Txt K mg) : FnOk P w K mg base CX0 10 T.f__law_border_right T.d__law_border_right ["tin"] (spT K 3 RTrue (· = [])) := by
  refine T.F__law_border_right.ok sc__law_border_right (by rintro vs H Q E ⟨b, a, ws, ds, n, rfl, hs, hb, hT, hn, hd, rfl, q⟩; exact congrArg Nat.succ hd.length) (fun cdv A outer s H vs Q E hr h => ?_)
  obtain ⟨b, a, ws, ds, n, rfl, hs, hb, hT, hn, hd, rfl, q⟩ := h
  cases hd
  refine ⟨_, (pss_cons (ps_asg (pe_tup (pa_cons (pe_op op_addA pe_int (pe_call (ok__law_take T) (hr.mono (by omega)) (by rfl) T.m__law_take T.F__law_take.kp T.b__law_take .nil pass0 (pa_cons (pv 0) (pa_cons pe_int pa_nil)))) (pa_cons (pe_op op_addA pe_int (pe_call (ok__law_take T) (hr.mono (by omega)) (by rfl) T.m__law_take T.F__law_take.kp T.b__law_take .nil pass0 (pa_cons (pv 0) (pa_cons pe_int pa_nil)))) (pa_cons (pe_op op_addA pe_int (pe_call (ok__law_take T) (hr.mono (by omega)) (by rfl) T.m__law_take T.F__law_take.kp T.b__law_take .nil pass0 (pa_cons (pv 0) (pa_cons pe_int pa_nil)))) pa_nil)))) (pg_tup (n := 3) rfl (pgs_cons (pg_name (i := 1) sc__law_border_right.nd rfl (by first | exact Or.inl rfl | exact Or.inr rfl)) (pgs_cons (pg_name (i := 2) sc__law_border_right.nd rfl (by first | exact Or.inl rfl | exact Or.inr rfl)) (pgs_cons (pg_name (i := 3) sc__law_border_right.nd rfl (by first | exact Or.inl rfl | exact Or.inr rfl)) pgs_nil)))))
    (pss_cons (ps_setLc (i := 4) (own := [("own", 5)]) (g := gName 5) rfl sc__law_border_right.nd rfl rfl (sw_true rfl rfl rfl (by decide +kernel)) (pi_range2 rfl T.z_range (pa_cons pe_int (pa_cons pe_int pa_nil))) (blkOk_by (N := ["tin", "cells_so", "flight_so", "marks_so", "fine_so", "own", "due", "got"]) (sc := defScope s__law_border_right) (by decide +kernel)) (fun _ _ _ _ _ => (pg_name (i := 5) sc__law_border_right.nd rfl (by first | exact Or.inl rfl | exact Or.inr rfl))) (fun _ _ _ _ _ => (pts_one (PW.pt (pw_and (pt_cmpR op_lt (pv 2) (pv 1) (nomark _)) (pw_and (pt_cmpR op_gt (pv 5) pe_int (nomark _)) (pw_and1 (pt_cmpR op_gt (pe_op op_mulA (pv 5) (pv 1)) (pe_op op_mulA pe_int (pv 2)) (nomark _)))))))) (fun _ _ _ _ _ => (pv 5)))
    (pss_cons (ps_set (i := 6) sc__law_border_right.nd rfl (by first | exact Or.inl rfl | exact Or.inr rfl) (pe_lst (pa_cons (pe_ifExp (pt_cmpR (op_neA hr.units) (pv 4) (pe_lst pa_nil) (nomark _)) (pe_ix ix_seq (pv 4) pe_int (fun _ _ => rfl)) pe_non) pa_nil)))
    (pss_cons (ps_setLc (i := 4) (own := [("own", 5)]) (g := gName 5) rfl sc__law_border_right.nd rfl rfl (sw_true rfl rfl rfl (by decide +kernel)) (pi_range2 rfl T.z_range (pa_cons pe_int (pa_cons (pv 1) pa_nil))) (blkOk_by (N := ["tin", "cells_so", "flight_so", "marks_so", "fine_so", "own", "due", "got"]) (sc := defScope s__law_border_right) (by decide +kernel)) (fun _ _ _ _ _ => (pg_name (i := 5) sc__law_border_right.nd rfl (by first | exact Or.inl rfl | exact Or.inr rfl))) (fun _ _ _ _ _ => (pts_one (PW.pt (pw_and (pt_cmpR op_gt (pv 3) pe_int (nomark _)) (pw_and1 (pt_cmpR op_gt (pe_op op_mulA (pv 3) (pv 1)) (pe_op op_mulA pe_int (pv 5)) (nomark _))))))) (fun _ _ _ _ _ => (pv 5)))
    (pss_cons (ps_expr (pe_bm PySem.F.plainAttrs_list PySem.F.slot_list_append PySem.F.type_list_append mt_append (pv 6) (pa_cons (pe_ifExp (pt_cmpR (op_neA hr.units) (pv 4) (pe_lst pa_nil) (nomark _)) (pe_ix ix_seq (pv 4) (pe_un un_neg pe_int) (fun _ _ => rfl)) pe_non) pa_nil)))
    (pss_cons (ps_setLc (i := 4) (own := [("own", 5)]) (g := gName 5) rfl sc__law_border_right.nd rfl rfl (sw_true rfl rfl rfl (by decide +kernel)) (pi_range2 rfl T.z_range (pa_cons (pe_op op_addA (pv 2) pe_int) (pa_cons pe_int pa_nil))) (blkOk_by (N := ["tin", "cells_so", "flight_so", "marks_so", "fine_so", "own", "due", "got"]) (sc := defScope s__law_border_right) (by decide +kernel)) (fun _ _ _ _ _ => (pg_name (i := 5) sc__law_border_right.nd rfl (by first | exact Or.inl rfl | exact Or.inr rfl))) (fun _ _ _ _ _ => (pts_one (PW.pt (pw_and (pt_cmpR op_gt (pv 3) pe_int (nomark _)) (pw_and1 (pt_cmpR op_gt (pe_op op_mulA (pv 3) (pv 5)) (pe_op op_mulA pe_int (pv 2)) (nomark _))))))) (fun _ _ _ _ _ => (pv 5)))
    (pss_cons (ps_expr (pe_bm PySem.F.plainAttrs_list PySem.F.slot_list_append PySem.F.type_list_append mt_append (pv 6) (pa_cons (pe_ifExp (pt_cmpR (op_neA hr.units) (pv 4) (pe_lst pa_nil) (nomark _)) (pe_ix ix_seq (pv 4) pe_int (fun _ _ => rfl)) pe_non) pa_nil)))
    (pss_cons (ps_set (i := 7) sc__law_border_right.nd rfl (by first | exact Or.inl rfl | exact Or.inr rfl) (pe_lst (pa_cons (pe_call (ok_least_marks T) (hr.mono (by omega)) (by rfl) T.m_least_marks T.F_least_marks.kp T.b_least_marks .nil pass0 (pa_cons (pv 1) (pa_cons (pv 2) pa_nil))) (pa_cons (pe_call (ok_most_flight T) (hr.mono (by omega)) (by rfl) T.m_most_flight T.F_most_flight.kp T.b_most_flight .nil pass0 (pa_cons (pv 1) (pa_cons (pv 3) pa_nil))) (pa_cons (pe_call (ok_least_cells T) (hr.mono (by omega)) (by rfl) T.m_least_cells T.F_least_cells.kp T.b_least_cells .nil pass0 (pa_cons (pv 2) (pa_cons (pv 3) pa_nil))) pa_nil)))))
    (pss_one (ps_ret (pe_call (ok__law_same T 1) (hr.mono (by omega)) (by rfl) T.m__law_same T.F__law_same.kp T.b__law_same .nil pass0 (pa_cons (pv 7) (pa_cons (pv 6) pa_nil))))))))))))), ?_⟩
  have Z : S K [a] b H (start ["tin", "cells_so", "flight_so", "marks_so", "fine_so", "own", "due", "got"] [.ref a]) b H [.adr a, .un, .un, .un, .un, .un, .un, .un] := ⟨Fr.rfl' hs, .cons rfl (.cons True.intro (.cons True.intro (.cons True.intro (.cons True.intro (.cons True.intro (.cons True.intro (.cons True.intro .nil)))))))⟩
  have hn' : n + 3 ≤ 1000000000 := hn
  refine q_tupT3 Z hb mem1 hT (c := 1 + (1 + (1 + 0))) (by show n + (1 + (1 + (1 + 0))) ≤ 1000000000; omega) (t_tup (ts_cons (t_plus (t_callT Z.sl rfl (ds_cons (d_int 15) ds_nil) ⟨15, rfl, by decide, by decide⟩)) (ts_cons (t_plus (t_callT Z.sl rfl (ds_cons (d_int 15) ds_nil) ⟨15, rfl, by decide, by decide⟩)) (ts_cons (t_plus (t_callT Z.sl rfl (ds_cons (d_int 5) ds_nil) ⟨5, rfl, by decide, by decide⟩)) ts_nil (by decide) (by decide)) (by decide) (by decide)) (by decide) (by decide)) (fun ds h => ?_)) (fun d h => ?_) fun d1 d2 d3 σ b h hR Z hb hT => ?_
  · obtain ⟨d, es, rfl, _, d2, es2, rfl, _, d3, es3, rfl, _, rfl⟩ := h
    exact Nat.le_of_ble_eq_true rfl
  · obtain ⟨ds, rfl, d, es, rfl, _, d2, es2, rfl, _, d3, es3, rfl, _, rfl⟩ := h
    exact ⟨_, _, _, rfl⟩
  obtain ⟨_, e0, _, _, e1, ⟨c0, c1, c2, rfl⟩, _, _, e2, ⟨f0, f1, f2, rfl⟩, _, _, e3, ⟨m0, m1, m2, rfl⟩, e4⟩ := hR
  cases e0
  cases e1
  subst e4
  subst e3
  cases e2
  generalize hc : 2 + c0 = c at Z
  generalize hf : 1 + f0 = f at Z
  generalize hm : 1 + m0 = m at Z
  have hc1 : 2 ≤ c ∧ c < 17 := by omega
  have hf1 : 1 ≤ f ∧ f < 16 := by omega
  have hm1 : 1 ≤ m ∧ m < 6 := by omega
  clear hc hf hm
  have small : ∀ {x : Int}, -1000 ≤ x → x ≤ 1000 → x.natAbs < 2 ^ 200 := fun {x} h1 h2 => by
    have : x.natAbs < 2 ^ 60 := by omega
    exact Nat.lt_of_lt_of_le this (by decide)
  have fs := small (x := f) (by omega) (by omega)
  have cs := small (x := c) (by omega) (by omega)
  have ms := small (x := m) (by omega) (by omega)
  have s3 : (3 : Int).natAbs < 2 ^ 200 := by decide
  -- the first
  refine q_asgK Z hb hT (EvD.is (d_lcR2 (onI (p1 c f)) (fun d => d) Z.sl (ds_cons (d_int 1) (ds_cons (d_int 6) ds_nil)) (by omega) ⟨by omega, by omega, by omega, by omega⟩ (fun x => wipe1) fun i σ2 b2 hi e Sl => ⟨?_, fun _ => by walk_at "dv"⟩) (congrArg PyData.list (fL_data (p1 c f) 1 5))) fun σ b h Z hb hT F => ?_
  · have os := small (x := 1 + (i : Int)) (by omega) (by omega)
    exact b_and (by walk_at "dv") fun _ => b_and (by walk_at "dv") fun _ => by walk_at "dv"
  have Z0 := Z
  refine q_newL Z (ds_cons (d_first Z rfl) ds_nil) (show 1 ≤ 100000 by decide) fun p vs σ b2 h2 F hp hbp hx hD Z => ?_
  have hpa := hT.ne hp
  have hp0 : H p = none := Z0.new0 hp
  obtain ⟨hT, hb⟩ := hT.keep F hb
  -- the second
  refine q_asgK Z hb hT (EvD.is (d_lcR2 (onI (p2 c m)) (fun d => d) Z.sl (ds_cons (d_int 1) (ds_cons (by walk_at "dv") ds_nil)) (by omega) ⟨by omega, by omega, by omega, by omega⟩ (fun x => wipe1) fun i σ2 b2 hi e Sl => ⟨?_, fun _ => by walk_at "dv"⟩) (congrArg PyData.list (fL_data (p2 c m) 1 (c - 1).toNat))) fun σ b h Z hb hT F => ?_
  · have os := small (x := 1 + (i : Int)) (by omega) (by omega)
    exact b_and (by walk_at "dv") fun _ => by walk_at "dv"
  obtain ⟨hx, hbp⟩ := keepL hx hbp F
  have hD := hD.mono F.base
  refine q_app Z rfl hbp (.inr hp0) hx (by rw [hD.length]; exact (show 1 < 100000 by decide)) (d_last Z rfl) fun v b2 h2 h3 F dd hbp hx F3 Z => ?_
  have hD := (hD.mono F.base).append (.cons dd .nil)
  obtain ⟨hT, hb⟩ := hT.keepB F3 hb hpa
  -- the third
  refine q_asgK Z hb hT (EvD.is (d_lcR2 (onI (p3 f m)) (fun d => d) Z.sl (ds_cons (by walk_at "dv") (ds_cons (d_int 60) ds_nil)) (by omega) ⟨by omega, by omega, by omega, by omega⟩ (fun x => wipe1) fun i σ2 b2 hi e Sl => ⟨?_, fun _ => by walk_at "dv"⟩) (congrArg PyData.list (fL_data (p3 f m) (f + 1) (60 - (f + 1)).toNat))) fun σ b h Z hb hT F => ?_
  · have os := small (x := f + 1 + (i : Int)) (by omega) (by omega)
    exact b_and (by walk_at "dv") fun _ => by walk_at "dv"
  obtain ⟨hx, hbp⟩ := keepL hx hbp F
  have hD := hD.mono F.base
  refine q_app Z rfl hbp (.inr hp0) hx (by rw [hD.length]; exact (show 2 < 100000 by decide)) (d_first Z rfl) fun v b2 h2 h3 F dd hbp hx F3 Z => ?_
  have hD := (hD.mono F.base).append (.cons dd .nil)
  obtain ⟨hT, hb⟩ := hT.keepB F3 hb hpa
  -- got
  refine q_asgK Z hb hT (d_lst (ds_cons (d_call (by walk_at "dv") ⟨c, f, rfl, by omega, by omega, by omega, by omega, rfl⟩) (ds_cons (d_call (by walk_at "dv") ⟨c, m, rfl, by omega, by omega, by omega, by omega, rfl⟩) (ds_cons (d_call (by walk_at "dv") ⟨f, m, rfl, by omega, by omega, by omega, by omega, rfl⟩) ds_nil))) (show 3 ≤ 100000 by decide)) fun σ b h Z hb hT F => ?_
  obtain ⟨hx, hbp⟩ := keepL hx hbp F
  have hD := hD.mono F.base
  obtain ⟨Z2, dd⟩ := Z.seal hbp hp0 hx hD
  have Z3 := Z2.turn (n := 6) rfl dd
  have hb3 : ∀ o, upd b p o a = none := fun o => by rw [upd_ne hpa]; exact hb
  rw [border1 hc1.1 hc1.2 hf1.1 hf1.2, border2 hc1.1 hc1.2 hm1.1 hm1.2, border3 hf1.1 hf1.2 hm1.1 hm1.2] at Z3
  refine s_retK Z3 (hb3 _) hT (d_call (ds_cons (by walk_at "dv") (ds_cons (by walk_at "dv") ds_nil)) ⟨_, rfl, ?_, rfl⟩) fun v b2 h2 F hb hT dd => q v _ b2 h2 rfl F hb (hT.le (by omega)) dd
  simp [fine, fine_optD]
end
end LW

namespace LW
open PySem L2 DV
local macro_rules | `(tactic| walk_at "dv") => `(tactic| first
  | exact d_int _ | exact d_str _ | exact d_bl _ | exact d_non
  | (apply d_varZ (by assumption); rfl)
  | (apply d_var (by assumption); rfl)
  | exact ds_nil
  | (apply ds_cons; walk_at "dv"; walk_at "dv")
  | (apply d_op; walk_at "dv"; walk_at "dv"; walk_at "rv")
  | (apply d_tup; walk_at "dv"; (simp only [List.length]; omega))
  | (apply d_lst; walk_at "dv"; (simp only [List.length]; omega))
  | (apply d_neg; walk_at "dv")
  | (apply d_notV; walk_at "dv")
  | (apply d_isi; walk_at "dv"; rfl)
  | (apply d_isi2; walk_at "dv"; rfl; rfl)
  | (apply d_cb; walk_at "dv"; walk_at "rc")
  | (apply d_andV; walk_at "dv"; (intro _; walk_at "dv"))
  | (apply d_orV; walk_at "dv"; (intro _; walk_at "dv"))
  | (apply d_chain; walk_at "dv"; walk_at "dv"; walk_at "dv"; walk_at "rv"; walk_at "rv")
  | (apply b_and; walk_at "dv"; (intro _; walk_at "dv"))
  | (apply b_or; walk_at "dv"; (intro _; walk_at "dv"))
  | (apply b_test; walk_at "dv")
  | (apply b_B; walk_at "dv")
  | (apply b_not; walk_at "dv")
  | exact b_yes)
local macro_rules | `(tactic| walk_at "rv") => `(tactic| first
  | exact rv_addI | exact rv_subI | exact rv_ltI | exact rv_leI | exact rv_gtI | exact rv_geI
  | exact rv_eqAI | exact rv_eqAB | exact rv_neAI | exact rv_neAB | exact rv_eqAS | exact rv_eqAN
  | exact rv_ixT rfl | exact rv_ixL rfl
  | (apply rv_modI; first | assumption | decide | omega)
  | (apply rv_divI; (first | assumption | decide | omega); (first | assumption | decide | omega))
  | (apply rv_mulI; (first | assumption | decide | omega); (first | assumption | decide | omega)))
local macro_rules | `(tactic| walk_at "rc") => `(tactic| first
  | exact rc_lenL | exact rc_lenT | exact rc_max | exact rc_min | exact rc_int | exact rc_intB | exact rc_tupL | exact rc_tupT | exact rc_listT | exact rc_listL | exact rc_abs)

local macro_rules | `(tactic| walk_at "dv") => `(tactic| (apply d_call; walk_at "dv"; walk_at "hv"))
local macro_rules | `(tactic| walk_at "rv") => `(tactic| (apply rv_addL; (simp only [List.length, List.length_append]; omega)))
local macro_rules | `(tactic| walk_at "hv") => `(tactic| first
  | exact ⟨_, _, _, _, rfl, .inl rfl, (by unfold shV; decide), rfl⟩
  | exact ⟨_, _, _, _, _, rfl, .inl rfl, (by unfold shV; decide), rfl⟩
  | exact ⟨_, _, _, _, _, _, rfl, .inl rfl, (by unfold shV; decide), rfl⟩
  | exact ⟨_, _, _, _, _, _, rfl, .inl rfl, (by unfold shV; decide), (by decide), (by decide), (by decide), (by decide), rfl⟩
  | exact ⟨_, _, rfl, (by decide), (by decide), (by decide), (by decide), rfl⟩)
section
variable {P : Program} {w : World} {K : PySem.W.Frag} {mg : Str → Option Value} {base : Heap}
def onSh (g : Int → Int → Int → PyData) : PyData → PyData
  | .tuple [.int c, .int f, .int m] => g c f m
  | _ => .none
def onIn (g : Int → PyData) : PyData → PyData
  | .int i => g i
  | _ => .none
theorem ok__law_hand_right (T : Txt K mg) : FnOk P w K mg base CX0 11 T.f__law_hand_right T.d__law_hand_right [] (spD K fun ds d => ds = [] ∧ d = .bool true) := by
  refine T.F__law_hand_right.ok sc__law_hand_right (by rintro vs H Q E ⟨b, ds, d, hs, hd, ⟨rfl, _⟩, q⟩; exact hd.length) (fun cdv A outer s H vs Q E hr h => ?_)
  obtain ⟨b, ds, d, hs, hd, ⟨rfl, rfl⟩, q⟩ := h
  refine ⟨_, (pss_cons (ps_set (i := 0) sc__law_hand_right.nd rfl (by first | exact Or.inl rfl | exact Or.inr rfl) (pe_tup (pa_cons pe_int (pa_cons pe_int (pa_cons pe_int pa_nil)))))
    (pss_cons (ps_set (i := 1) sc__law_hand_right.nd rfl (by first | exact Or.inl rfl | exact Or.inr rfl) (pe_lst (pa_cons (pe_call (ok_window T) (hr.mono (by omega)) (by rfl) T.m_window T.F_window.kp T.b_window .nil pass0 (pa_cons (pv 0) pa_nil)) (pa_cons (pe_call (ok_turn_of T) (hr.mono (by omega)) (by rfl) T.m_turn_of T.F_turn_of.kp T.b_turn_of .nil pass0 (pa_cons (pv 0) pa_nil)) (pa_cons (pe_lc (own := [("own", 2)]) (g := gName 2) rfl sc__law_hand_right.nd (pi_tup (pe_tup (pa_cons (pv 0) (pa_cons (pe_tup (pa_cons pe_int (pa_cons pe_int (pa_cons pe_int pa_nil)))) (pa_cons (pe_tup (pa_cons pe_int (pa_cons pe_int (pa_cons pe_int pa_nil)))) (pa_cons (pe_tup (pa_cons pe_int (pa_cons pe_int (pa_cons pe_int pa_nil)))) (pa_cons (pe_tup (pa_cons pe_int (pa_cons pe_int (pa_cons pe_int pa_nil)))) pa_nil))))))) (blkOk_by (N := ["form", "got", "own", "due"]) (sc := defScope s__law_hand_right) (by decide +kernel)) (fun _ _ _ _ _ => (pg_name (i := 2) sc__law_hand_right.nd rfl (by first | exact Or.inl rfl | exact Or.inr rfl))) (fun _ _ _ _ _ => pts_nil) (fun _ _ _ _ _ => (pe_call (ok_is_safe T) (hr.mono (by omega)) (by rfl) T.m_is_safe T.F_is_safe.kp T.b_is_safe .nil pass0 (pa_cons (pv 2) pa_nil)))) pa_nil)))))
    (pss_cons (ps_set (i := 3) sc__law_hand_right.nd rfl (by first | exact Or.inl rfl | exact Or.inr rfl) (pe_lst (pa_cons pe_int (pa_cons pe_int (pa_cons (pe_lst (pa_cons pe_bl (pa_cons pe_bl (pa_cons pe_bl (pa_cons pe_bl (pa_cons pe_bl pa_nil)))))) pa_nil)))))
    (pss_cons (ps_set (i := 1) sc__law_hand_right.nd rfl (by first | exact Or.inl rfl | exact Or.inr rfl) (pe_op op_addA (pv 1) (pe_lst (pa_cons (pe_lc (own := [("own", 2)]) (g := gName 2) rfl sc__law_hand_right.nd (pi_tup (pe_tup (pa_cons pe_int (pa_cons (pe_un un_neg pe_int) (pa_cons pe_int pa_nil))))) (blkOk_by (N := ["form", "got", "own", "due"]) (sc := defScope s__law_hand_right) (by decide +kernel)) (fun _ _ _ _ _ => (pg_name (i := 2) sc__law_hand_right.nd rfl (by first | exact Or.inl rfl | exact Or.inr rfl))) (fun _ _ _ _ _ => pts_nil) (fun _ _ _ _ _ => (pe_call (ok_cell_of T) (hr.mono (by omega)) (by rfl) T.m_cell_of T.F_cell_of.kp T.b_cell_of .nil pass0 (pa_cons (pv 0) (pa_cons (pv 2) pa_nil))))) (pa_cons (pe_lc (own := [("own", 2)]) (g := gName 2) rfl sc__law_hand_right.nd (pi_tup (pe_tup (pa_cons pe_int (pa_cons (pe_un un_neg pe_int) (pa_cons pe_int pa_nil))))) (blkOk_by (N := ["form", "got", "own", "due"]) (sc := defScope s__law_hand_right) (by decide +kernel)) (fun _ _ _ _ _ => (pg_name (i := 2) sc__law_hand_right.nd rfl (by first | exact Or.inl rfl | exact Or.inr rfl))) (fun _ _ _ _ _ => pts_nil) (fun _ _ _ _ _ => (pe_call (ok_mark_of T) (hr.mono (by omega)) (by rfl) T.m_mark_of T.F_mark_of.kp T.b_mark_of .nil pass0 (pa_cons (pv 0) (pa_cons (pv 2) pa_nil))))) pa_nil)))))
    (pss_cons (ps_set (i := 1) sc__law_hand_right.nd rfl (by first | exact Or.inl rfl | exact Or.inr rfl) (pe_op op_addA (pv 1) (pe_lst (pa_cons (pe_call (ok_as_place T) (hr.mono (by omega)) (by rfl) T.m_as_place T.F_as_place.kp T.b_as_place .nil pass0 (pa_cons (pv 0) (pa_cons pe_int pa_nil))) (pa_cons (pe_call (ok_as_place T) (hr.mono (by omega)) (by rfl) T.m_as_place T.F_as_place.kp T.b_as_place .nil pass0 (pa_cons (pv 0) (pa_cons (pe_un un_neg pe_int) pa_nil))) pa_nil)))))
    (pss_cons (ps_set (i := 3) sc__law_hand_right.nd rfl (by first | exact Or.inl rfl | exact Or.inr rfl) (pe_op op_addA (pv 3) (pe_lst (pa_cons (pe_lst (pa_cons pe_int (pa_cons pe_int (pa_cons pe_int pa_nil)))) (pa_cons (pe_lst (pa_cons pe_int (pa_cons pe_int (pa_cons pe_int pa_nil)))) (pa_cons pe_int (pa_cons pe_int pa_nil)))))))
    (pss_cons (ps_set (i := 1) sc__law_hand_right.nd rfl (by first | exact Or.inl rfl | exact Or.inr rfl) (pe_op op_addA (pv 1) (pe_lst (pa_cons (pe_call (ok_place_of T) (hr.mono (by omega)) (by rfl) T.m_place_of T.F_place_of.kp T.b_place_of .nil pass0 (pa_cons (pv 0) (pa_cons pe_int (pa_cons pe_int pa_nil)))) (pa_cons (pe_call (ok_ahead T) (hr.mono (by omega)) (by rfl) T.m_ahead T.F_ahead.kp T.b_ahead .nil pass0 (pa_cons (pv 0) (pa_cons pe_int (pa_cons pe_int pa_nil)))) (pa_cons (pe_call (ok_ahead T) (hr.mono (by omega)) (by rfl) T.m_ahead T.F_ahead.kp T.b_ahead .nil pass0 (pa_cons (pv 0) (pa_cons pe_int (pa_cons pe_int pa_nil)))) (pa_cons (pe_call (ok_in_window T) (hr.mono (by omega)) (by rfl) T.m_in_window T.F_in_window.kp T.b_in_window .nil pass0 (pa_cons (pv 0) (pa_cons pe_int (pa_cons pe_int pa_nil)))) pa_nil)))))))
    (pss_cons (ps_set (i := 1) sc__law_hand_right.nd rfl (by first | exact Or.inl rfl | exact Or.inr rfl) (pe_op op_addA (pv 1) (pe_lst (pa_cons (pe_call (ok_in_window T) (hr.mono (by omega)) (by rfl) T.m_in_window T.F_in_window.kp T.b_in_window .nil pass0 (pa_cons (pv 0) (pa_cons pe_int (pa_cons pe_int pa_nil)))) (pa_cons (pe_call (ok_in_window T) (hr.mono (by omega)) (by rfl) T.m_in_window T.F_in_window.kp T.b_in_window .nil pass0 (pa_cons (pv 0) (pa_cons pe_int (pa_cons pe_int pa_nil)))) pa_nil)))))
    (pss_cons (ps_set (i := 3) sc__law_hand_right.nd rfl (by first | exact Or.inl rfl | exact Or.inr rfl) (pe_op op_addA (pv 3) (pe_lst (pa_cons pe_int (pa_cons pe_int (pa_cons pe_int (pa_cons pe_bl (pa_cons pe_bl (pa_cons pe_bl pa_nil)))))))))
    (pss_cons (ps_set (i := 1) sc__law_hand_right.nd rfl (by first | exact Or.inl rfl | exact Or.inr rfl) (pe_op op_addA (pv 1) (pe_lst (pa_cons (pe_call (ok_least_marks T) (hr.mono (by omega)) (by rfl) T.m_least_marks T.F_least_marks.kp T.b_least_marks .nil pass0 (pa_cons pe_int (pa_cons pe_int pa_nil))) (pa_cons (pe_call (ok_least_marks T) (hr.mono (by omega)) (by rfl) T.m_least_marks T.F_least_marks.kp T.b_least_marks .nil pass0 (pa_cons pe_int (pa_cons pe_int pa_nil))) (pa_cons (pe_call (ok_least_marks T) (hr.mono (by omega)) (by rfl) T.m_least_marks T.F_least_marks.kp T.b_least_marks .nil pass0 (pa_cons pe_int (pa_cons pe_int pa_nil))) (pa_cons (pe_call (ok_most_flight T) (hr.mono (by omega)) (by rfl) T.m_most_flight T.F_most_flight.kp T.b_most_flight .nil pass0 (pa_cons pe_int (pa_cons pe_int pa_nil))) (pa_cons (pe_call (ok_most_flight T) (hr.mono (by omega)) (by rfl) T.m_most_flight T.F_most_flight.kp T.b_most_flight .nil pass0 (pa_cons pe_int (pa_cons pe_int pa_nil))) pa_nil))))))))
    (pss_cons (ps_set (i := 1) sc__law_hand_right.nd rfl (by first | exact Or.inl rfl | exact Or.inr rfl) (pe_op op_addA (pv 1) (pe_lst (pa_cons (pe_call (ok_most_flight T) (hr.mono (by omega)) (by rfl) T.m_most_flight T.F_most_flight.kp T.b_most_flight .nil pass0 (pa_cons pe_int (pa_cons pe_int pa_nil))) pa_nil))))
    (pss_cons (ps_set (i := 3) sc__law_hand_right.nd rfl (by first | exact Or.inl rfl | exact Or.inr rfl) (pe_op op_addA (pv 3) (pe_lst (pa_cons pe_int (pa_cons pe_int (pa_cons pe_non (pa_cons pe_int (pa_cons pe_int (pa_cons pe_non pa_nil)))))))))
    (pss_cons (ps_set (i := 1) sc__law_hand_right.nd rfl (by first | exact Or.inl rfl | exact Or.inr rfl) (pe_op op_addA (pv 1) (pe_lst (pa_cons (pe_call (ok_least_cells T) (hr.mono (by omega)) (by rfl) T.m_least_cells T.F_least_cells.kp T.b_least_cells .nil pass0 (pa_cons pe_int (pa_cons pe_int pa_nil))) (pa_cons (pe_call (ok_least_cells T) (hr.mono (by omega)) (by rfl) T.m_least_cells T.F_least_cells.kp T.b_least_cells .nil pass0 (pa_cons pe_int (pa_cons pe_int pa_nil))) (pa_cons (pe_call (ok_least_cells T) (hr.mono (by omega)) (by rfl) T.m_least_cells T.F_least_cells.kp T.b_least_cells .nil pass0 (pa_cons pe_int (pa_cons pe_int pa_nil))) (pa_cons (pe_call (ok_least_cells T) (hr.mono (by omega)) (by rfl) T.m_least_cells T.F_least_cells.kp T.b_least_cells .nil pass0 (pa_cons pe_int (pa_cons pe_int pa_nil))) (pa_cons (pe_call (ok_most_flight T) (hr.mono (by omega)) (by rfl) T.m_most_flight T.F_most_flight.kp T.b_most_flight .nil pass0 (pa_cons pe_int (pa_cons pe_int pa_nil))) pa_nil))))))))
    (pss_cons (ps_set (i := 1) sc__law_hand_right.nd rfl (by first | exact Or.inl rfl | exact Or.inr rfl) (pe_op op_addA (pv 1) (pe_lst (pa_cons (pe_call (ok_least_marks T) (hr.mono (by omega)) (by rfl) T.m_least_marks T.F_least_marks.kp T.b_least_marks .nil pass0 (pa_cons pe_int (pa_cons pe_int pa_nil))) pa_nil))))
    (pss_cons (ps_set (i := 3) sc__law_hand_right.nd rfl (by first | exact Or.inl rfl | exact Or.inr rfl) (pe_op op_addA (pv 3) (pe_lst (pa_cons pe_int (pa_cons pe_int (pa_cons pe_non (pa_cons pe_int (pa_cons pe_int (pa_cons pe_int pa_nil)))))))))
    (pss_cons (ps_set (i := 1) sc__law_hand_right.nd rfl (by first | exact Or.inl rfl | exact Or.inr rfl) (pe_op op_addA (pv 1) (pe_lst (pa_cons (pe_call (ok_least_cells T) (hr.mono (by omega)) (by rfl) T.m_least_cells T.F_least_cells.kp T.b_least_cells .nil pass0 (pa_cons pe_int (pa_cons pe_int pa_nil))) (pa_cons (pe_call (ok_least_cells T) (hr.mono (by omega)) (by rfl) T.m_least_cells T.F_least_cells.kp T.b_least_cells .nil pass0 (pa_cons pe_int (pa_cons pe_int pa_nil))) (pa_cons (pe_call (ok_most_flight T) (hr.mono (by omega)) (by rfl) T.m_most_flight T.F_most_flight.kp T.b_most_flight .nil pass0 (pa_cons pe_int (pa_cons pe_int pa_nil))) (pa_cons (pe_call (ok_least_marks T) (hr.mono (by omega)) (by rfl) T.m_least_marks T.F_least_marks.kp T.b_least_marks .nil pass0 (pa_cons pe_int (pa_cons pe_int pa_nil))) pa_nil)))))))
    (pss_one (ps_ret (pe_call (ok__law_same T 2) (hr.mono (by omega)) (by rfl) T.m__law_same T.F__law_same.kp T.b__law_same .nil pass0 (pa_cons (pv 1) (pa_cons (pe_op op_addA (pv 3) (pe_lst (pa_cons pe_int (pa_cons pe_int (pa_cons pe_int (pa_cons pe_int pa_nil)))))) pa_nil))))))))))))))))))))), ?_⟩
  have Z := S.init (B := []) hs hd ["form", "got", "own", "due"]
  refine q_asg Z (by walk_at "dv") fun σ b h F Z => ?_
  refine q_asg Z (d_lst (ds_cons (by walk_at "dv") (ds_cons (by walk_at "dv") (ds_cons (d_lcT (ds := [shD 5 2 2, shD 4 3 3, shD 4 3 2, shD 3 2 2, shD 9 1 1]) (fun _ => true) (onSh fun c f m => .bool (decide (2 ≤ m) && decide (3 * f < m * c))) Z.sl (by walk_at "dv") (show 5 ≤ 90000 by decide) (fun x => wipe1) fun i d σ2 b2 hi e Sl => ⟨b_yes, fun _ => ?_⟩) ds_nil))) (show 3 ≤ 100000 by decide)) fun σ b h F Z => ?_
  · have hm := List.mem_of_getElem? hi
    simp only [List.mem_cons, List.not_mem_nil, or_false] at hm
    rcases hm with rfl | rfl | rfl | rfl | rfl <;> walk_at "dv"
  refine q_asg Z (by walk_at "dv") fun σ b h F Z => ?_
  refine q_asg Z (d_op (by walk_at "dv") (d_lst (ds_cons (d_lcT (ds := [.int 7, .int (-1), .int 23]) (fun _ => true) (onIn fun n => .int (n % 5)) Z.sl (by walk_at "dv") (show 3 ≤ 90000 by decide) (fun x => wipe1) fun i d σ2 b2 hi e Sl => ⟨b_yes, fun _ => ?_⟩) (ds_cons (d_lcT (ds := [.int 7, .int (-1), .int 23]) (fun _ => true) (onIn fun n => .int (n / 5 % 2)) Z.sl (by walk_at "dv") (show 3 ≤ 90000 by decide) (fun x => wipe1) fun i d σ2 b2 hi e Sl => ⟨b_yes, fun _ => ?_⟩) ds_nil)) (show 2 ≤ 100000 by decide)) (rv_addL (by simp only [List.length]; omega))) fun σ b h F Z => ?_
  · have hm := List.mem_of_getElem? hi
    simp only [List.mem_cons, List.not_mem_nil, or_false] at hm
    rcases hm with rfl | rfl | rfl <;> walk_at "dv"
  · have hm := List.mem_of_getElem? hi
    simp only [List.mem_cons, List.not_mem_nil, or_false] at hm
    rcases hm with rfl | rfl | rfl <;> walk_at "dv"
  refine q_asg Z (by walk_at "dv") fun σ b h F Z => ?_
  refine q_asg Z (by walk_at "dv") fun σ b h F Z => ?_
  refine q_asg Z (by walk_at "dv") fun σ b h F Z => ?_
  refine q_asg Z (by walk_at "dv") fun σ b h F Z => ?_
  refine q_asg Z (by walk_at "dv") fun σ b h F Z => ?_
  refine q_asg Z (by walk_at "dv") fun σ b h F Z => ?_
  refine q_asg Z (by walk_at "dv") fun σ b h F Z => ?_
  refine q_asg Z (by walk_at "dv") fun σ b h F Z => ?_
  refine q_asg Z (by walk_at "dv") fun σ b h F Z => ?_
  refine q_asg Z (by walk_at "dv") fun σ b h F Z => ?_
  refine q_asg Z (by walk_at "dv") fun σ b h F Z => ?_
  refine q_asg Z (by walk_at "dv") fun σ b h F Z => ?_
  refine s_ret Z (d_call (ds_cons (EvD.is (by walk_at "dv") ?e) (ds_cons (by walk_at "dv") ds_nil)) ⟨_, rfl, ?f, rfl⟩) q
  case e => rfl
  case f => rfl
end
end LW

namespace LW
open PySem L2 DV
local macro_rules | `(tactic| walk_at "dv") => `(tactic| first
  | exact d_int _ | exact d_str _ | exact d_bl _ | exact d_non
  | (apply d_varZ (by assumption); rfl)
  | (apply d_var (by assumption); rfl)
  | exact ds_nil
  | (apply ds_cons; walk_at "dv"; walk_at "dv")
  | (apply d_op; walk_at "dv"; walk_at "dv"; walk_at "rv")
  | (apply d_tup; walk_at "dv"; (simp only [List.length]; omega))
  | (apply d_lst; walk_at "dv"; (simp only [List.length]; omega))
  | (apply d_neg; walk_at "dv")
  | (apply d_notV; walk_at "dv")
  | (apply d_isi; walk_at "dv"; rfl)
  | (apply d_isi2; walk_at "dv"; rfl; rfl)
  | (apply d_cb; walk_at "dv"; walk_at "rc")
  | (apply d_andV; walk_at "dv"; (intro _; walk_at "dv"))
  | (apply d_orV; walk_at "dv"; (intro _; walk_at "dv"))
  | (apply d_chain; walk_at "dv"; walk_at "dv"; walk_at "dv"; walk_at "rv"; walk_at "rv")
  | (apply b_and; walk_at "dv"; (intro _; walk_at "dv"))
  | (apply b_or; walk_at "dv"; (intro _; walk_at "dv"))
  | (apply b_test; walk_at "dv")
  | (apply b_B; walk_at "dv")
  | (apply b_not; walk_at "dv")
  | exact b_yes)
local macro_rules | `(tactic| walk_at "rv") => `(tactic| first
  | exact rv_addI | exact rv_subI | exact rv_ltI | exact rv_leI | exact rv_gtI | exact rv_geI
  | exact rv_eqAI | exact rv_eqAB | exact rv_neAI | exact rv_neAB | exact rv_eqAS | exact rv_eqAN
  | exact rv_ixT rfl | exact rv_ixL rfl
  | (apply rv_modI; first | assumption | decide | omega)
  | (apply rv_divI; (first | assumption | decide | omega); (first | assumption | decide | omega))
  | (apply rv_mulI; (first | assumption | decide | omega); (first | assumption | decide | omega)))
local macro_rules | `(tactic| walk_at "rc") => `(tactic| first
  | exact rc_lenL | exact rc_lenT | exact rc_max | exact rc_min | exact rc_int | exact rc_intB | exact rc_tupL | exact rc_tupT | exact rc_listT | exact rc_listL | exact rc_abs)

/-! the arithmetic of the ring -/
theorem atI_of {α : Type} {xs : List α} {z : Int} {j : Nat} {v : α} (e : z = (j : Int)) (h : xs[j]? = some v) : atI xs z = some v := by
  rw [e]
  exact atI_nat h
theorem ring_at {c : Int} {N : Nat} {i : Int} (h0 : 0 ≤ i) (h : i < N) : atI (walkL c N) i = some (.tuple [.int (i % c), .int (i / c)]) := by
  have e : i = ((i.toNat : Nat) : Int) := by omega
  refine atI_of (j := i.toNat) e ?_
  unfold walkL
  rw [List.getElem?_map, List.getElem?_range (by omega)]
  show some (PyData.tuple [.int ((i.toNat : Int) % c), .int ((i.toNat : Int) / c)]) = _
  rw [← e]
theorem div_mod {c m n : Int} (hc : 0 < c) (hm : 0 < m) : n / c % m = n % (c * m) / c := by
  have h1 := Int.emod_add_mul_ediv n (c * m)
  have h2 := Int.emod_nonneg n (by have := Int.mul_pos hc hm; omega : c * m ≠ 0)
  have h3 := Int.emod_lt_of_pos n (Int.mul_pos hc hm)
  have e : n / c = n % (c * m) / c + m * (n / (c * m)) := by
    conv => lhs; rw [← h1]
    rw [show n % (c * m) + c * m * (n / (c * m)) = n % (c * m) + c * (m * (n / (c * m))) by rw [Int.mul_assoc]]
    exact Int.add_mul_ediv_left _ _ (by omega)
  have l1 : n % (c * m) / c < m := Int.ediv_lt_of_lt_mul hc (by have e := Int.mul_comm c m; omega)
  have l0 : 0 ≤ n % (c * m) / c := Int.ediv_nonneg h2 (by omega)
  rw [e, Int.add_mul_emod_self_left]
  exact Int.emod_eq_of_lt l0 l1
theorem mod_mod {c m n : Int} : n % c = n % (c * m) % c := (Int.emod_emod_of_dvd n (Int.dvd_mul_right c m)).symm
theorem step_eq {t n k : Int} (ht : 0 < t) : (k - n) % t = if n % t ≤ k % t then k % t - n % t else k % t - n % t + t := by
  have a0 := Int.emod_nonneg n (by omega : t ≠ 0)
  have a1 := Int.emod_lt_of_pos n ht
  have b0 := Int.emod_nonneg k (by omega : t ≠ 0)
  have b1 := Int.emod_lt_of_pos k ht
  rw [Int.sub_emod]
  split
  · exact Int.emod_eq_of_lt (by omega) (by omega)
  · have e : (k % t - n % t) % t = (k % t - n % t + t) % t := by rw [Int.add_emod_right]
    rw [e]
    exact Int.emod_eq_of_lt (by omega) (by omega)
theorem in_eq {t n k w : Int} (ht : 0 < t) (hw : w < t) : (decide (1 ≤ (k - n) % t) && decide ((k - n) % t ≤ w)) = decide (n % t ∈ (List.range w.toNat).map fun (i : Nat) => (k - (1 + (i : Int))) % t) := by
  rw [← Bool.decide_and]
  refine decide_eq_decide.mpr ?_
  rw [List.mem_map]
  have key : ∀ j : Int, (k - j) % t = n % t ↔ (k - n) % t = j % t := fun j => by
    rw [Int.emod_eq_emod_iff_emod_sub_eq_zero, Int.emod_eq_emod_iff_emod_sub_eq_zero, show k - j - n = k - n - j by omega]
  constructor
  · rintro ⟨h1, h2⟩
    refine ⟨((k - n) % t - 1).toNat, ?_, ?_⟩
    · rw [List.mem_range]; omega
    · have e : 1 + ((((k - n) % t - 1).toNat : Nat) : Int) = (k - n) % t := by omega
      rw [e, key, Int.emod_emod]
  · rintro ⟨i, h1, h2⟩
    rw [List.mem_range] at h1
    rw [key] at h2
    rw [h2, Int.emod_eq_of_lt (by omega) (by omega)]
    omega
section
variable {P : Program} {w : World} {K : PySem.W.Frag} {mg : Str → Option Value} {base : Heap}
theorem dec_lt (a b : Int) : decide (a + 1 ≤ b) = decide (a < b) := decide_eq_decide.mpr Int.add_one_le_iff
theorem fineI {n : Nat} {i : Int} : fine n (.int i) = true := by cases n <;> rfl
theorem fineBl {n : Nat} {i : Bool} : fine n (.bool i) = true := by cases n <;> rfl
def onInt (g : Int → PyData) : PyData → PyData
  | .int i => g i
  | _ => .none
theorem lots_data (w : Nat) (g : Int → Int) : ((rng 1 w).filter fun _ => true).map (onInt fun i => .int (g i)) = ((List.range w).map fun (i : Nat) => g (1 + (i : Int))).map PyData.int := by
  rw [filt, rng_ints, List.map_map, List.map_map, List.map_map]
  rfl
theorem ok__law_right (T : Txt K mg) : FnOk P w K mg base CX0 11 T.f__law_right T.d__law_right ["tin"] (spT K 22 RTrue (· = [])) := by
  refine T.F__law_right.ok sc__law_right (by rintro vs H Q E ⟨b, a, ws, ds, n, rfl, hs, hb, hT, hn, hd, rfl, q⟩; exact congrArg Nat.succ hd.length) (fun cdv A outer s H vs Q E hr h => ?_)
  obtain ⟨b00, a, ws, ds, n0, rfl, hs, hb, hT, hn, hd, rfl, q⟩ := h
  cases hd
  refine ⟨_, (pss_cons (ps_set (i := 1) sc__law_right.nd rfl (by first | exact Or.inl rfl | exact Or.inr rfl) (pe_call (ok__law_any_form T) (hr.mono (by omega)) (by rfl) T.m__law_any_form T.F__law_any_form.kp T.b__law_any_form .nil pass0 (pa_cons (pv 0) pa_nil)))
    (pss_cons (ps_asg (pe_tup (pa_cons (pe_call (ok__law_walked T) (hr.mono (by omega)) (by rfl) T.m__law_walked T.F__law_walked.kp T.b__law_walked .nil pass0 (pa_cons (pv 1) pa_nil)) (pa_cons (pe_op op_mulA (pe_ix ix_seq (pv 1) pe_int (fun _ _ => rfl)) (pe_ix ix_seq (pv 1) pe_int (fun _ _ => rfl))) pa_nil))) (pg_tup (n := 2) rfl (pgs_cons (pg_name (i := 2) sc__law_right.nd rfl (by first | exact Or.inl rfl | exact Or.inr rfl)) (pgs_cons (pg_name (i := 3) sc__law_right.nd rfl (by first | exact Or.inl rfl | exact Or.inr rfl)) pgs_nil))))
    (pss_cons (ps_set (i := 4) sc__law_right.nd rfl (by first | exact Or.inl rfl | exact Or.inr rfl) (pe_op op_sub (pe_ix ix_seq (pv 1) pe_int (fun _ _ => rfl)) (pe_ix ix_seq (pv 1) pe_int (fun _ _ => rfl))))
    (pss_cons (ps_set (i := 5) sc__law_right.nd rfl (by first | exact Or.inl rfl | exact Or.inr rfl) (pe_lst (pa_cons (pe_call (ok_window T) (hr.mono (by omega)) (by rfl) T.m_window T.F_window.kp T.b_window .nil pass0 (pa_cons (pe_callTy call_list_of (by rfl) T.z_list (by decide +kernel) (pa_cons (pv 1) pa_nil)) pa_nil)) (pa_cons (pe_call (ok_turn_of T) (hr.mono (by omega)) (by rfl) T.m_turn_of T.F_turn_of.kp T.b_turn_of .nil pass0 (pa_cons (pe_callTy call_list_of (by rfl) T.z_list (by decide +kernel) (pa_cons (pv 1) pa_nil)) pa_nil)) (pa_cons (pe_call (ok_is_safe T) (hr.mono (by omega)) (by rfl) T.m_is_safe T.F_is_safe.kp T.b_is_safe .nil pass0 (pa_cons (pe_callTy call_list_of (by rfl) T.z_list (by decide +kernel) (pa_cons (pv 1) pa_nil)) pa_nil)) (pa_cons (pe_call (ok_is_shape T) (hr.mono (by omega)) (by rfl) T.m_is_shape T.F_is_shape.kp T.b_is_shape .nil pass0 (pa_cons (pv 1) pa_nil)) (pa_cons (pe_call (ok_is_shape T) (hr.mono (by omega)) (by rfl) T.m_is_shape T.F_is_shape.kp T.b_is_shape .nil pass0 (pa_cons (pe_callTy call_list_of (by rfl) T.z_list (by decide +kernel) (pa_cons (pv 1) pa_nil)) pa_nil)) pa_nil)))))))
    (pss_cons (ps_if (pt_not (pt_val (pe_call (ok__law_same T 1) (hr.mono (by omega)) (by rfl) T.m__law_same T.F__law_same.kp T.b__law_same .nil pass0 (pa_cons (pv 5) (pa_cons (pe_lst (pa_cons (pv 4) (pa_cons (pv 3) (pa_cons (pe_and (pe_cmpR op_gt (pe_ix ix_seq (pv 1) pe_int (fun _ _ => rfl)) pe_int (nomark _)) (pe_one (pe_cmpR op_gt (pv 3) (pe_op op_mulA pe_int (pe_ix ix_seq (pv 1) pe_int (fun _ _ => rfl))) (nomark _)))) (pa_cons pe_bl (pa_cons pe_bl pa_nil)))))) pa_nil))))) (pss_one (ps_ret pe_bl)) pss_nil)
    (pss_cons (ps_for PassesOwn.never rfl (pi_range1 rfl T.z_range (pa_cons pe_int pa_nil)) (pg_name (i := 6) sc__law_right.nd rfl (by first | exact Or.inl rfl | exact Or.inr rfl)) (pss_cons (ps_asg (pe_tup (pa_cons (pe_op op_sub (pe_call (ok__law_take T) (hr.mono (by omega)) (by rfl) T.m__law_take T.F__law_take.kp T.b__law_take .nil pass0 (pa_cons (pv 0) (pa_cons pe_int pa_nil))) pe_int) (pa_cons (pe_op op_sub (pe_call (ok__law_take T) (hr.mono (by omega)) (by rfl) T.m__law_take T.F__law_take.kp T.b__law_take .nil pass0 (pa_cons (pv 0) (pa_cons pe_int pa_nil))) pe_int) pa_nil))) (pg_tup (n := 2) rfl (pgs_cons (pg_name (i := 7) sc__law_right.nd rfl (by first | exact Or.inl rfl | exact Or.inr rfl)) (pgs_cons (pg_name (i := 8) sc__law_right.nd rfl (by first | exact Or.inl rfl | exact Or.inr rfl)) pgs_nil))))
    (pss_cons (ps_par (i := 9) (j := 10) (by rfl) sc__law_right.nd rfl rfl (by decide) rfl rfl (pa_cons (pe_op op_mod (pe_callTy call_int1 (by rfl) T.z_int (by decide +kernel) (pa_cons (pv 7) pa_nil)) (pv 3)) (pa_cons (pe_op op_mod (pe_callTy call_int1 (by rfl) T.z_int (by decide +kernel) (pa_cons (pv 8) pa_nil)) (pv 3)) pa_nil)) (by rfl))
    (pss_cons (ps_set (i := 11) sc__law_right.nd rfl (by first | exact Or.inl rfl | exact Or.inr rfl) (pe_ix ix_seq (pv 2) (pv 9) (fun _ _ => rfl)))
    (pss_cons (ps_set (i := 5) sc__law_right.nd rfl (by first | exact Or.inl rfl | exact Or.inr rfl) (pe_lst (pa_cons (pe_call (ok_cell_of T) (hr.mono (by omega)) (by rfl) T.m_cell_of T.F_cell_of.kp T.b_cell_of .nil pass0 (pa_cons (pv 1) (pa_cons (pv 7) pa_nil))) (pa_cons (pe_call (ok_mark_of T) (hr.mono (by omega)) (by rfl) T.m_mark_of T.F_mark_of.kp T.b_mark_of .nil pass0 (pa_cons (pe_callTy call_list_of (by rfl) T.z_list (by decide +kernel) (pa_cons (pv 1) pa_nil)) (pa_cons (pv 7) pa_nil))) (pa_cons (pe_call (ok_as_place T) (hr.mono (by omega)) (by rfl) T.m_as_place T.F_as_place.kp T.b_as_place .nil pass0 (pa_cons (pv 1) (pa_cons (pv 7) pa_nil))) (pa_cons (pe_call (ok_place_of T) (hr.mono (by omega)) (by rfl) T.m_place_of T.F_place_of.kp T.b_place_of .nil pass0 (pa_cons (pv 1) (pa_cons (pe_ix ix_seq (pv 11) pe_int (fun _ _ => rfl)) (pa_cons (pe_ix ix_seq (pv 11) pe_int (fun _ _ => rfl)) pa_nil)))) pa_nil))))))
    (pss_cons (ps_if (pt_not (pt_val (pe_call (ok__law_same T 1) (hr.mono (by omega)) (by rfl) T.m__law_same T.F__law_same.kp T.b__law_same .nil pass0 (pa_cons (pv 5) (pa_cons (pe_lst (pa_cons (pe_ix ix_seq (pv 11) pe_int (fun _ _ => rfl)) (pa_cons (pe_ix ix_seq (pv 11) pe_int (fun _ _ => rfl)) (pa_cons (pv 9) (pa_cons (pv 9) pa_nil))))) pa_nil))))) (pss_one (ps_ret pe_bl)) pss_nil)
    (pss_cons (ps_set (i := 12) sc__law_right.nd rfl (by first | exact Or.inl rfl | exact Or.inr rfl) (pe_ifExp (pt_cmpR op_ge (pv 10) (pv 9) (nomark _)) (pe_op op_sub (pv 10) (pv 9)) (pe_op op_addA (pe_op op_sub (pv 10) (pv 9)) (pv 3))))
    (pss_cons (ps_setLc (i := 13) (own := [("k", 14)]) (g := gName 14) rfl sc__law_right.nd rfl rfl (sw_true rfl rfl rfl (by decide +kernel)) (pi_range2 rfl T.z_range (pa_cons pe_int (pa_cons (pe_op op_addA (pv 4) pe_int) pa_nil))) (blkOk_by (N := ["tin", "form", "ring_so", "turn_so", "wide_so", "got", "lap", "n", "own", "at_so", "its", "told", "steps_so", "lots_so", "k"]) (sc := defScope s__law_right) (by decide +kernel)) (fun _ _ _ _ _ => (pg_name (i := 14) sc__law_right.nd rfl (by first | exact Or.inl rfl | exact Or.inr rfl))) (fun _ _ _ _ _ => pts_nil) (fun _ _ _ _ _ => (pe_op op_mod (pe_callTy call_int1 (by rfl) T.z_int (by decide +kernel) (pa_cons (pe_op op_sub (pv 8) (pv 14)) pa_nil)) (pv 3))))
    (pss_one (ps_if (pt_not (pt_val (pe_call (ok__law_same T 1) (hr.mono (by omega)) (by rfl) T.m__law_same T.F__law_same.kp T.b__law_same .nil pass0 (pa_cons (pe_lst (pa_cons (pe_call (ok_ahead T) (hr.mono (by omega)) (by rfl) T.m_ahead T.F_ahead.kp T.b_ahead .nil pass0 (pa_cons (pv 1) (pa_cons (pv 7) (pa_cons (pv 8) pa_nil)))) (pa_cons (pe_call (ok_in_window T) (hr.mono (by omega)) (by rfl) T.m_in_window T.F_in_window.kp T.b_in_window .nil pass0 (pa_cons (pe_callTy call_list_of (by rfl) T.z_list (by decide +kernel) (pa_cons (pv 1) pa_nil)) (pa_cons (pv 7) (pa_cons (pv 8) pa_nil)))) pa_nil))) (pa_cons (pe_lst (pa_cons (pv 12) (pa_cons (pe_cmpR op_in_seq (pv 9) (pv 13) rfl) pa_nil))) pa_nil))))) (pss_one (ps_ret pe_bl)) pss_nil))))))))))
    (pss_one (ps_ret (pe_callB (cr_all rfl) (by rfl) T.z_all (by decide +kernel) (pa_cons (pe_lc (own := [("lap", 6)]) (g := gName 6) rfl sc__law_right.nd (pi_range1 rfl T.z_range (pa_cons pe_int pa_nil)) (blkOk_by (N := ["tin", "form", "ring_so", "turn_so", "wide_so", "got", "lap", "n", "own", "at_so", "its", "told", "steps_so", "lots_so", "k"]) (sc := defScope s__law_right) (by decide +kernel)) (fun _ _ _ _ _ => (pg_name (i := 6) sc__law_right.nd rfl (by first | exact Or.inl rfl | exact Or.inr rfl))) (fun _ _ _ _ _ => pts_nil) (fun _ _ _ _ _ => (pe_call (ok__law_border_right T) (hr.mono (by omega)) (by rfl) T.m__law_border_right T.F__law_border_right.kp T.b__law_border_right .nil pass0 (pa_cons (pv 0) pa_nil)))) pa_nil)))))))))), ?_⟩
  have Z : S K [a] b00 H (start ["tin", "form", "ring_so", "turn_so", "wide_so", "got", "lap", "n", "own", "at_so", "its", "told", "steps_so", "lots_so", "k"] [.ref a]) b00 H [.adr a, .un, .un, .un, .un, .un, .un, .un, .un, .un, .un, .un, .un, .un, .un] := ⟨Fr.rfl' hs, .cons rfl (.cons True.intro (.cons True.intro (.cons True.intro (.cons True.intro (.cons True.intro (.cons True.intro (.cons True.intro (.cons True.intro (.cons True.intro (.cons True.intro (.cons True.intro (.cons True.intro (.cons True.intro (.cons True.intro .nil))))))))))))))⟩
  have hn' : n0 + 22 ≤ 1000000000 := hn
  refine q_asgT Z hb mem1 hT (by show n0 + 3 ≤ 1000000000; omega) (t_callT1 Z.sl rfl rfl) fun d σ b h hd Z hb hT => ?_
  obtain ⟨c, f, m, rfl, c1, c2, f1, f2, m1, m2⟩ := hd
  have v : shV c f m := ⟨c1, f1, f2, m1, by omega, by omega⟩
  have tp : 0 < c * m := Int.mul_pos (by omega) (by omega)
  have tm : c * m = m * c := Int.mul_comm c m
  have tb : c * m ≤ 32 := by
    have h1 : c * m ≤ 8 * m := Int.mul_le_mul_of_nonneg_right (by omega) (by omega)
    omega
  have tc : c ≤ c * m := by
    have h1 : c * 1 ≤ c * m := Int.mul_le_mul_of_nonneg_left (by omega) (by omega)
    omega
  have small : ∀ {x : Int}, -1000 ≤ x → x ≤ 1000 → x.natAbs < 2 ^ 200 := fun {x} h1 h2 => by
    have : x.natAbs < 2 ^ 60 := by omega
    exact Nat.lt_of_lt_of_le this (by decide)
  have fs := small (x := f) (by omega) (by omega)
  have cs := small (x := c) (by omega) (by omega)
  have ms := small (x := m) (by omega) (by omega)
  have s3 : (3 : Int).natAbs < 2 ^ 200 := by decide
  -- ring, turn
  refine q_tup2 Z (d_tup (ds_cons (d_call (by walk_at "dv") ⟨c, f, m, rfl, by omega, by omega, by omega, by omega, rfl⟩) (ds_cons (d := .int (c * m)) (by walk_at "dv") ds_nil)) (show 2 ≤ 100000 by decide)) fun σ b2 h2 F Z => ?_
  obtain ⟨hT, hb⟩ := hT.keep F hb
  refine q_asgK Z hb hT (by walk_at "dv") fun σ b h Z hb hT F => ?_
  refine q_asgK Z hb hT (d_lst (ds_cons (d_call (by walk_at "dv") ⟨_, c, f, m, rfl, .inr rfl, v, rfl⟩) (ds_cons (d_call (by walk_at "dv") ⟨_, c, f, m, rfl, .inr rfl, v, rfl⟩) (ds_cons (d_call (by walk_at "dv") ⟨_, c, f, m, rfl, .inr rfl, v, rfl⟩) (ds_cons (d_call (by walk_at "dv") (.inl ⟨c, f, m, rfl, rfl⟩)) (ds_cons (d_call (by walk_at "dv") (.inr ⟨_, rfl, rfl⟩)) ds_nil))))) (show 5 ≤ 100000 by decide)) fun σ b h Z hb hT F => ?_
  have e2 : decide (2 ≤ m) = decide (1 < m) := dec_lt 1 m
  have e3 : (decide (2 ≤ c) && (decide (1 ≤ f) && decide (f < c) && decide (1 ≤ m))) = true := by rw [decide_eq_true c1, decide_eq_true f1, decide_eq_true f2, decide_eq_true m1]; rfl
  simp only [← tm, e2, e3] at Z
  refine q_whenFK Z hb hT (b_not (b_B (d_call (ds_cons (by walk_at "dv") (ds_cons (d_lst (ds_cons (by walk_at "dv") (ds_cons (by walk_at "dv") (ds_cons (by walk_at "dv") (ds_cons (by walk_at "dv") (ds_cons (by walk_at "dv") ds_nil))))) (show 5 ≤ 100000 by decide)) ds_nil)) ⟨_, rfl, rfl, rfl⟩))) rfl fun b2 h2 Z hb hT F => ?_
  -- the five laps
  refine q_forR1 Z (m := 5) (ds_cons (d_int 5) ds_nil) ⟨by decide, by decide⟩ (fun i σ h => ∃ (b1 : Hp) (z5 z6 z7 z8 z9 z10 z11 z12 z13 z14 : SD), S K [a] b00 H σ b1 h [.adr a, .dat (shD c f m), .dat (.list (walkL c (c * m).toNat)), .dat (.int (c * m)), .dat (.int (c - f)), z5, z6, z7, z8, z9, z10, z11, z12, z13, z14] ∧ b1 a = none ∧ Tin a (n0 + 3 + 2 * (i : Int)) h) (fun b3 h3 F3 Z => ?_) (fun i σ h hi hP => ?_) (fun σ h hP => ?_)
  · obtain ⟨hT, hb⟩ := hT.keep F3 hb
    exact ⟨b3, _, _, _, _, _, _, _, _, _, _, Z, hb, hT.le (by omega)⟩
  · obtain ⟨b1, z5, z6, z7, z8, z9, z10, z11, z12, z13, z14, Z, hb, hT⟩ := hP
    have Z : S K [a] b00 H (σ.set 6 (some (.int (0 + (i : Int))))) b1 h [.adr a, .dat (shD c f m), .dat (.list (walkL c (c * m).toNat)), .dat (.int (c * m)), .dat (.int (c - f)), z5, .dat (.int (0 + (i : Int))), z7, z8, z9, z10, z11, z12, z13, z14] := ⟨Z.fr, Z.sl.set (z := .dat (.int (0 + (i : Int)))) ⟨_, rfl, .int _⟩ 6⟩
    refine q_tupT2 Z hb mem1 hT (c := 1 + (1 + 0)) (by show n0 + 3 + 2 * (i : Int) + (1 + (1 + 0)) ≤ 1000000000; omega) (t_tup (ts_cons (t_minus (t_callT Z.sl rfl (ds_cons (d_int 400) ds_nil) ⟨400, rfl, by decide, by decide⟩)) (ts_cons (t_minus (t_callT Z.sl rfl (ds_cons (d_int 200) ds_nil) ⟨200, rfl, by decide, by decide⟩)) ts_nil (by decide) (by decide)) (by decide) (by decide)) (fun ds h => ?_)) (fun d h => ?_) fun d1 d2 σ b h hR Z hb hT => ?_
    · obtain ⟨d, es, rfl, _, d2, es2, rfl, _, rfl⟩ := h
      exact Nat.le_of_ble_eq_true rfl
    · obtain ⟨ds, rfl, d, es, rfl, _, d2, es2, rfl, _, rfl⟩ := h
      exact ⟨_, _, rfl⟩
    obtain ⟨_, e0, _, _, e1, ⟨r1, r10, r11, rfl⟩, _, _, e2, ⟨r2, r20, r21, rfl⟩, e4⟩ := hR
    cases e0
    cases e1
    subst e4
    cases e2
    generalize hk1 : r1 - 150 = n at Z
    generalize hk2 : r2 - 40 = own at Z
    have nb : -1000 ≤ n ∧ n ≤ 1000 := by omega
    have ob : -1000 ≤ own ∧ own ≤ 1000 := by omega
    clear hk1 hk2
    have hT := hT.le (m := n0 + 3 + 2 * ((i + 1 : Nat) : Int)) (by omega)
    have at0 := Int.emod_nonneg n (by omega : c * m ≠ 0)
    have at1 := Int.emod_lt_of_pos n tp
    have ot0 := Int.emod_nonneg own (by omega : c * m ≠ 0)
    have ot1 := Int.emod_lt_of_pos own tp
    have s0 := Int.emod_nonneg (n % (c * m)) (by omega : c ≠ 0)
    have s1 := Int.emod_lt_of_pos (n % (c * m)) (by omega : 0 < c)
    have q0 : 0 ≤ n % (c * m) / c := Int.ediv_nonneg at0 (by omega)
    have q1 : n % (c * m) / c < m := Int.ediv_lt_of_lt_mul (by omega) (by omega)
    refine q_par Z (d1 := .int (n % (c * m))) (d2 := .int (own % (c * m))) (by walk_at "dv") fun σ b2 h2 F Z => ?_
    obtain ⟨hT, hb⟩ := hT.keep F hb
    refine q_asgK Z hb hT (d_op (by walk_at "dv") (by walk_at "dv") (rv_ixL (ring_at at0 (by omega)))) fun σ b h Z hb hT F => ?_
    refine q_asgK Z hb hT (d_lst (ds_cons (d_call (by walk_at "dv") ⟨_, c, f, m, n, rfl, .inl rfl, v, rfl⟩) (ds_cons (d_call (by walk_at "dv") ⟨_, c, f, m, n, rfl, .inr rfl, v, rfl⟩) (ds_cons (d_call (by walk_at "dv") ⟨_, c, f, m, n, rfl, .inl rfl, v, rfl⟩) (ds_cons (d_call (by walk_at "dv") ⟨_, c, f, m, n % (c * m) % c, n % (c * m) / c, rfl, .inl rfl, v, s0, s1, q0, q1, rfl⟩) ds_nil)))) (show 4 ≤ 100000 by decide)) fun σ b h Z hb hT F => ?_
    have ee : n % (c * m) / c * c + n % (c * m) % c = n % (c * m) := by
      have := Int.emod_add_mul_ediv (n % (c * m)) c
      rw [Int.mul_comm (n % (c * m) / c) c]
      omega
    simp only [ee, ← tm, div_mod (n := n) (show 0 < c by omega) (show 0 < m by omega), mod_mod (c := c) (m := m) (n := n)] at Z
    refine q_whenFK Z hb hT (b_not (b_B (d_call (ds_cons (by walk_at "dv") (ds_cons (d_lst (ds_cons (by walk_at "dv") (ds_cons (by walk_at "dv") (ds_cons (by walk_at "dv") (ds_cons (by walk_at "dv") ds_nil)))) (show 4 ≤ 100000 by decide)) ds_nil)) ⟨_, rfl, rfl, rfl⟩))) rfl fun b2 h2 Z hb hT F => ?_
    refine q_asgK Z hb hT (d := .int (if n % (c * m) ≤ own % (c * m) then own % (c * m) - n % (c * m) else own % (c * m) - n % (c * m) + c * m)) (d_if (b_test (by walk_at "dv")) (fun hc => EvD.is (by walk_at "dv") ?_) (fun hc => EvD.is (by walk_at "dv") ?_)) fun σ b h Z hb hT F => ?_
    · rw [if_pos (of_decide_eq_true hc)]
    · rw [if_neg (of_decide_eq_false hc)]
    refine q_asgK Z hb hT (EvD.is (d_lcR2 (lo := 1) (k := c - f + 1) (fun _ => true) (onInt fun j => .int ((own - j) % (c * m))) Z.sl (by walk_at "dv") (by omega) ⟨by omega, by omega, by omega, by omega⟩ (fun x => wipe1) fun i σ2 b2 hi e Sl => ⟨b_yes, fun _ => ?_⟩) (congrArg PyData.list (lots_data _ fun j => (own - j) % (c * m)))) fun σ b h Z hb hT F => ?_
    · exact d_op (by walk_at "dv") (by walk_at "dv") (rv_modI tp)
    apply s_whenF Z
    refine b_not (b_B (d_call (ds_cons (d_lst (ds_cons (d_call (by walk_at "dv") ⟨_, c, f, m, n, own, rfl, .inl rfl, v, rfl⟩) (ds_cons (d_call (by walk_at "dv") ⟨_, c, f, m, n, own, rfl, .inr rfl, v, rfl⟩) ds_nil)) (show 2 ≤ 100000 by decide)) (ds_cons (d_lst (ds_cons (by walk_at "dv") (ds_cons (d_op (by walk_at "dv") (by walk_at "dv") rv_inI) ds_nil)) (show 2 ≤ 100000 by decide)) ds_nil)) ⟨.list [.int ((own - n) % (m * c)), .bool (decide (1 ≤ (own - n) % (m * c)) && decide ((own - n) % (m * c) ≤ c - f))], ?_, rfl, rfl⟩))
    · have g1 := step_eq (t := c * m) (n := n) (k := own) tp
      have g2 := in_eq (t := c * m) (n := n) (k := own) (w := c - f) tp (by omega)
      rw [show c - f + 1 - 1 = c - f by omega] 
      rw [tm] at g1 g2
      simp only [tm]
      rw [g2, g1]
    · rfl
    intro b2 h2 F Z
    obtain ⟨hT, hb⟩ := hT.keep F hb
    exact ⟨b2, _, _, _, _, _, _, _, _, _, _, Z, hb, hT⟩
  · obtain ⟨b1, z5, z6, z7, z8, z9, z10, z11, z12, z13, z14, Z, hb, hT⟩ := hP
    have hT : Tin a (n0 + 13) h := hT.le (by show n0 + 3 + 2 * ((5 : Int).toNat : Int) ≤ n0 + 13; simp; omega)
    refine s_retT Z hb mem1 hT (c := 3 * 3) (R := fun d => d = .bool true) (by show n0 + 13 + 3 * 3 ≤ 1000000000; omega) (t_cb1 (t_lcR1 (R := fun d => d = .bool true) (c := 3) Z.sl (ds_cons (d_int 3) ds_nil) ⟨by decide, by decide⟩ (by decide) (fun x => wipe1) fun i σ2 b2 hi e Sl => t_callT1 Sl rfl rfl) ?_) fun v d b2 h2 hd F hb hT dd => q v d b2 h2 hd F hb (hT.le (by omega)) dd
    rintro d ⟨ds, rfl, hl, hR⟩
    have e : ds = (List.replicate ds.length true).map .bool := by
      rw [List.map_replicate]
      exact List.eq_replicate_iff.mpr ⟨rfl, hR⟩
    refine ⟨.bool ((List.replicate ds.length true).all id), ?_, by rw [all_true]⟩
    rw [e, List.length_map, List.length_replicate]
    exact rc_all
end
end LW

namespace LW
open PySem L2 DV
section
variable {P : Program} {w : World} {K : PySem.W.Frag} {mg : Str → Option Value} {base : Heap}
def spLaw (K : PySem.W.Frag) : Sp := fun vs H Q _ => ∃ (a : Addr) (ns : List Int), vs = [.ref a] ∧ SqL K H a (ns.map V.int) ∧ ns.length ≤ 63 ∧ ∀ H', Q (.bl true) H'
def noH : Hp := fun _ => none
theorem noH_same {H : Hp} : Same noH H := fun _ _ e => by cases e
theorem daInts (b : Hp) : ∀ ms : List Int, DaAll K b (ms.map V.int) (ms.map .int)
  | [] => .nil
  | m :: ms => .cons (.int m) (daInts b ms)
theorem boxX_nn (x : Int) : 0 ≤ boxX x := by
  unfold boxX
  generalize (decide (10 ^ 18 ≤ (if x < 0 then -x else x)) : Bool) = bb
  have h1 : 0 ≤ (if x < 0 then -x else x) := by split <;> omega
  cases bb <;> simp
  exact h1
/-- a box that was just made -/
theorem box_tin {b h : Hp} {v : V} {x y : Int} (s : Same b h) (dd : Da K b v (.list [.int x, .int y, .int 0])) (hx : 0 ≤ x) (hy : y.natAbs < 2 ^ 70) : ∃ a, v = .ref a ∧ Tin a 0 h := by
  cases dd with
  | @lst a xs _ e da =>
    have e2 : xs = [x, y, 0].map V.int := DaAll.ints (ns := [x, y, 0]) da
    subst e2
    exact ⟨a, rfl, x, y, 0, s _ _ e, hx, hy, by decide, by decide⟩
theorem ok_law (T : Txt K mg) : FnOk P w K mg base CX0 12 T.f_law T.d_law ["script"] (spLaw K) := by
  refine T.F_law.ok sc_law (by rintro vs H Q E ⟨a, ns, rfl, _⟩; rfl) (fun cdv A outer s H vs Q E hr h => ?_)
  obtain ⟨a, ns, rfl, hS, hl, q⟩ := h
  refine ⟨_, (pss_one (ps_ret (pe_and (pe_call0 (ok__law_hand_right T) (hr.mono (by omega)) (by rfl) T.m__law_hand_right T.F__law_hand_right.kp T.b__law_hand_right .nil pass0) (pe_one (pe_call (ok__law_right T) (hr.mono (by omega)) (by rfl) T.m__law_right T.F__law_right.kp T.b__law_right .nil pass0 (pa_cons (pe_call (ok__law_box T) (hr.mono (by omega)) (by rfl) T.m__law_box T.F__law_box.kp T.b__law_box .nil pass0 (pa_cons (pe_call (ok__law_cells T) (hr.mono (by omega)) (by rfl) T.m__law_cells T.F__law_cells.kp T.b__law_cells .nil pass0 (pa_cons (pv 0) (pa_cons pe_int pa_nil))) (pa_cons pe_int pa_nil))) pa_nil)))))), ?_⟩
  refine ⟨noH, [], .bool true, noH_same, .nil, ⟨rfl, rfl⟩, fun v b2 h2 F D => ?_⟩
  cases D
  refine ⟨true, rfl, iteT ?_⟩
  have hS2 : SqL K h2 a (ns.map V.int) := Same.seq (fun x o e => F.keep x o rfl (by intro z; cases z) e) hS
  refine ⟨.ref a, rfl, a, ns, 1, rfl, hS2, hl, by decide, by decide, fun p H3 ms hp h1 h9 => ?_⟩
  have s3 : Same (upd noH p (.lst (ms.map V.int))) H3 := fun x o e => by
    by_cases hx : x = p
    · subst hx
      rw [upd_same] at e
      rw [hp]
      exact e
    · rw [upd_ne hx] at e
      cases e
  refine ⟨upd noH p (.lst (ms.map V.int)), [.list (ms.map .int), .int 0], _, s3, .cons (.lst upd_same (daInts _ ms)) (.cons (.int 0) .nil), ⟨ms, 0, rfl, by decide, by decide, rfl⟩, fun v b4 h4 F4 D4 => ?_⟩
  obtain ⟨aa, rfl, hT⟩ := box_tin F4.sub D4 (boxX_nn _) (by
    have h1 := Int.emod_nonneg (bitOf ms 0) (by decide : (2305843009213693951 : Int) ≠ 0)
    have h2 := Int.emod_lt_of_pos (bitOf ms 0) (by decide : (0 : Int) < 2305843009213693951)
    omega)
  exact ⟨noH, aa, [], [], 0, rfl, noH_same, rfl, hT, by decide, .nil, rfl, fun v d b5 h5 r F5 hb5 T5 D5 => by
    subst r
    cases D5
    exact q h5⟩
theorem all_mk {l : PySem.W.OpenLaw} {h : Heap} {fa : Addr} (X : K.In h) (G : h.Ns mainGlobals mg) (hfa : mg "law" = some (.ref fa))
    {o0 : Value} {p0 n0 : Option Addr} {l0 : Array (Option Value)} {x0 y0 w0 v0 u0 : Value} {g0 : Addr} {o1 : Value} {p1 n1 : Option Addr} {l1 : Array (Option Value)} {x1 y1 w1 v1 u1 : Value} {g1 : Addr} {o2 : Value} {p2 n2 : Option Addr} {l2 : Array (Option Value)} {x2 y2 w2 v2 u2 : Value} {g2 : Addr} {o3 : Value} {p3 n3 : Option Addr} {l3 : Array (Option Value)} {x3 y3 w3 v3 u3 : Value} {g3 : Addr} {o4 : Value} {p4 n4 : Option Addr} {l4 : Array (Option Value)} {x4 y4 w4 v4 u4 e4 : Value} {g4 : Addr} {o5 : Value} {p5 n5 : Option Addr} {l5 : Array (Option Value)} {x5 y5 w5 v5 u5 : Value} {g5 : Addr} {o6 : Value} {p6 n6 : Option Addr} {l6 : Array (Option Value)} {x6 y6 w6 v6 u6 : Value} {g6 : Addr} {o7 : Value} {p7 n7 : Option Addr} {l7 : Array (Option Value)} {x7 y7 w7 v7 u7 : Value} {g7 : Addr} {o8 : Value} {p8 n8 : Option Addr} {l8 : Array (Option Value)} {x8 y8 w8 v8 u8 : Value} {g8 : Addr} {o9 : Value} {p9 n9 : Option Addr} {l9 : Array (Option Value)} {x9 y9 w9 v9 u9 : Value} {g9 : Addr} {o10 : Value} {p10 n10 : Option Addr} {l10 : Array (Option Value)} {x10 y10 w10 v10 u10 : Value} {g10 : Addr} {o11 : Value} {p11 n11 : Option Addr} {l11 : Array (Option Value)} {x11 y11 w11 v11 u11 : Value} {g11 : Addr} {o12 : Value} {p12 n12 : Option Addr} {l12 : Array (Option Value)} {x12 y12 w12 v12 u12 : Value} {g12 : Addr} {o13 : Value} {p13 n13 : Option Addr} {l13 : Array (Option Value)} {x13 y13 w13 v13 u13 : Value} {g13 : Addr} {o14 : Value} {p14 n14 : Option Addr} {l14 : Array (Option Value)} {x14 y14 w14 v14 u14 : Value} {g14 : Addr} {o15 : Value} {p15 n15 : Option Addr} {l15 : Array (Option Value)} {x15 y15 w15 v15 u15 : Value} {g15 : Addr} {o16 : Value} {p16 n16 : Option Addr} {l16 : Array (Option Value)} {x16 y16 w16 v16 u16 : Value} {g16 : Addr} {o17 : Value} {p17 n17 : Option Addr} {l17 : Array (Option Value)} {x17 y17 w17 v17 u17 : Value} {g17 : Addr} {o18 : Value} {p18 n18 : Option Addr} {l18 : Array (Option Value)} {x18 y18 w18 v18 u18 : Value} {g18 : Addr} {o19 : Value} {p19 n19 : Option Addr} {l19 : Array (Option Value)} {x19 y19 w19 v19 u19 : Value} {g19 : Addr} {o20 : Value} {p20 n20 : Option Addr} {l20 : Array (Option Value)} {x20 y20 w20 v20 u20 : Value} {g20 : Addr} {o21 : Value} {p21 n21 : Option Addr} {l21 : Array (Option Value)} {x21 y21 w21 v21 u21 : Value} {g21 : Addr} {o22 : Value} {p22 n22 : Option Addr} {l22 : Array (Option Value)} {x22 y22 w22 v22 u22 : Value} {g22 : Addr} {o23 : Value} {p23 n23 : Option Addr} {l23 : Array (Option Value)} {x23 y23 w23 v23 u23 : Value} {g23 : Addr} {o24 : Value} {p24 n24 : Option Addr} {l24 : Array (Option Value)} {x24 y24 w24 v24 u24 : Value} {g24 : Addr} {o25 : Value} {p25 n25 : Option Addr} {l25 : Array (Option Value)} {x25 y25 w25 v25 u25 : Value} {g25 : Addr} {o26 : Value} {p26 n26 : Option Addr} {l26 : Array (Option Value)} {x26 y26 w26 v26 u26 : Value} {g26 : Addr} {o27 : Value} {p27 n27 : Option Addr} {l27 : Array (Option Value)} {x27 y27 w27 v27 u27 : Value} {g27 : Addr} {o28 : Value} {p28 n28 : Option Addr} {l28 : Array (Option Value)} {x28 y28 w28 v28 u28 : Value} {g28 : Addr} {o29 : Value} {p29 n29 : Option Addr} {l29 : Array (Option Value)} {x29 y29 w29 v29 u29 : Value} {g29 : Addr} {o30 : Value} {p30 n30 : Option Addr} {l30 : Array (Option Value)} {x30 y30 w30 v30 u30 : Value} {g30 : Addr} {o31 : Value} {p31 n31 : Option Addr} {l31 : Array (Option Value)} {x31 y31 w31 v31 u31 : Value} {g31 : Addr} {o32 : Value} {p32 n32 : Option Addr} {l32 : Array (Option Value)} {x32 y32 w32 v32 u32 : Value} {g32 : Addr} {o33 : Value} {p33 n33 : Option Addr} {l33 : Array (Option Value)} {x33 y33 w33 v33 u33 : Value} {g33 : Addr}
    (a0 : PySem.W.nsIn K mainGlobals "is_number" = some (some (.ref g0))) (k0 : K.lookup g0 = some ⟨o0, p0, .func (PySem.W.fnOf "is_number" "is_number" (defArgs s_is_number) (defBody s_is_number) (defScope s_is_number) .none x0 y0 w0 n0 u0 v0), l0⟩) (c0 : PySem.W.codeIn K u0 "is_number" = true) (r0 : PySem.W.keepIn K (.ref g0) = true)
    (a1 : PySem.W.nsIn K mainGlobals "is_natural" = some (some (.ref g1))) (k1 : K.lookup g1 = some ⟨o1, p1, .func (PySem.W.fnOf "is_natural" "is_natural" (defArgs s_is_natural) (defBody s_is_natural) (defScope s_is_natural) .none x1 y1 w1 n1 u1 v1), l1⟩) (c1 : PySem.W.codeIn K u1 "is_natural" = true) (r1 : PySem.W.keepIn K (.ref g1) = true)
    (a2 : PySem.W.nsIn K mainGlobals "is_below" = some (some (.ref g2))) (k2 : K.lookup g2 = some ⟨o2, p2, .func (PySem.W.fnOf "is_below" "is_below" (defArgs s_is_below) (defBody s_is_below) (defScope s_is_below) .none x2 y2 w2 n2 u2 v2), l2⟩) (c2 : PySem.W.codeIn K u2 "is_below" = true) (r2 : PySem.W.keepIn K (.ref g2) = true)
    (a3 : PySem.W.nsIn K mainGlobals "is_row" = some (some (.ref g3))) (k3 : K.lookup g3 = some ⟨o3, p3, .func (PySem.W.fnOf "is_row" "is_row" (defArgs s_is_row) (defBody s_is_row) (defScope s_is_row) .none x3 y3 w3 n3 u3 v3), l3⟩) (c3 : PySem.W.codeIn K u3 "is_row" = true) (r3 : PySem.W.keepIn K (.ref g3) = true)
    (a4 : PySem.W.nsIn K mainGlobals "as_tuples" = some (some (.ref g4))) (k4 : K.lookup g4 = some ⟨o4, p4, .func (PySem.W.fnOf "as_tuples" "as_tuples" (defArgs s_as_tuples) (defBody s_as_tuples) (defScope s_as_tuples) e4 x4 y4 w4 n4 u4 v4), l4⟩) (c4 : PySem.W.codeIn K u4 "as_tuples" = true) (r4 : PySem.W.keepIn K (.ref g4) = true)
    (h4 : He.dflB K e4 [.int 20] = true)
    (a5 : PySem.W.nsIn K mainGlobals "checked" = some (some (.ref g5))) (k5 : K.lookup g5 = some ⟨o5, p5, .func (PySem.W.fnOf "checked" "checked" (defArgs s_checked) (defBody s_checked) (defScope s_checked) .none x5 y5 w5 n5 u5 v5), l5⟩) (c5 : PySem.W.codeIn K u5 "checked" = true) (r5 : PySem.W.keepIn K (.ref g5) = true)
    (a6 : PySem.W.nsIn K mainGlobals "window_in" = some (some (.ref g6))) (k6 : K.lookup g6 = some ⟨o6, p6, .func (PySem.W.fnOf "window_in" "window_in" (defArgs s_window_in) (defBody s_window_in) (defScope s_window_in) .none x6 y6 w6 n6 u6 v6), l6⟩) (c6 : PySem.W.codeIn K u6 "window_in" = true) (r6 : PySem.W.keepIn K (.ref g6) = true)
    (a7 : PySem.W.nsIn K mainGlobals "turn_in" = some (some (.ref g7))) (k7 : K.lookup g7 = some ⟨o7, p7, .func (PySem.W.fnOf "turn_in" "turn_in" (defArgs s_turn_in) (defBody s_turn_in) (defScope s_turn_in) .none x7 y7 w7 n7 u7 v7), l7⟩) (c7 : PySem.W.codeIn K u7 "turn_in" = true) (r7 : PySem.W.keepIn K (.ref g7) = true)
    (a8 : PySem.W.nsIn K mainGlobals "is_safe_ring" = some (some (.ref g8))) (k8 : K.lookup g8 = some ⟨o8, p8, .func (PySem.W.fnOf "is_safe_ring" "is_safe_ring" (defArgs s_is_safe_ring) (defBody s_is_safe_ring) (defScope s_is_safe_ring) .none x8 y8 w8 n8 u8 v8), l8⟩) (c8 : PySem.W.codeIn K u8 "is_safe_ring" = true) (r8 : PySem.W.keepIn K (.ref g8) = true)
    (a9 : PySem.W.nsIn K mainGlobals "cell_in" = some (some (.ref g9))) (k9 : K.lookup g9 = some ⟨o9, p9, .func (PySem.W.fnOf "cell_in" "cell_in" (defArgs s_cell_in) (defBody s_cell_in) (defScope s_cell_in) .none x9 y9 w9 n9 u9 v9), l9⟩) (c9 : PySem.W.codeIn K u9 "cell_in" = true) (r9 : PySem.W.keepIn K (.ref g9) = true)
    (a10 : PySem.W.nsIn K mainGlobals "mark_in" = some (some (.ref g10))) (k10 : K.lookup g10 = some ⟨o10, p10, .func (PySem.W.fnOf "mark_in" "mark_in" (defArgs s_mark_in) (defBody s_mark_in) (defScope s_mark_in) .none x10 y10 w10 n10 u10 v10), l10⟩) (c10 : PySem.W.codeIn K u10 "mark_in" = true) (r10 : PySem.W.keepIn K (.ref g10) = true)
    (a11 : PySem.W.nsIn K mainGlobals "is_shape" = some (some (.ref g11))) (k11 : K.lookup g11 = some ⟨o11, p11, .func (PySem.W.fnOf "is_shape" "is_shape" (defArgs s_is_shape) (defBody s_is_shape) (defScope s_is_shape) .none x11 y11 w11 n11 u11 v11), l11⟩) (c11 : PySem.W.codeIn K u11 "is_shape" = true) (r11 : PySem.W.keepIn K (.ref g11) = true)
    (a12 : PySem.W.nsIn K mainGlobals "window" = some (some (.ref g12))) (k12 : K.lookup g12 = some ⟨o12, p12, .func (PySem.W.fnOf "window" "window" (defArgs s_window) (defBody s_window) (defScope s_window) .none x12 y12 w12 n12 u12 v12), l12⟩) (c12 : PySem.W.codeIn K u12 "window" = true) (r12 : PySem.W.keepIn K (.ref g12) = true)
    (a13 : PySem.W.nsIn K mainGlobals "turn_of" = some (some (.ref g13))) (k13 : K.lookup g13 = some ⟨o13, p13, .func (PySem.W.fnOf "turn_of" "turn_of" (defArgs s_turn_of) (defBody s_turn_of) (defScope s_turn_of) .none x13 y13 w13 n13 u13 v13), l13⟩) (c13 : PySem.W.codeIn K u13 "turn_of" = true) (r13 : PySem.W.keepIn K (.ref g13) = true)
    (a14 : PySem.W.nsIn K mainGlobals "is_safe" = some (some (.ref g14))) (k14 : K.lookup g14 = some ⟨o14, p14, .func (PySem.W.fnOf "is_safe" "is_safe" (defArgs s_is_safe) (defBody s_is_safe) (defScope s_is_safe) .none x14 y14 w14 n14 u14 v14), l14⟩) (c14 : PySem.W.codeIn K u14 "is_safe" = true) (r14 : PySem.W.keepIn K (.ref g14) = true)
    (a15 : PySem.W.nsIn K mainGlobals "cell_of" = some (some (.ref g15))) (k15 : K.lookup g15 = some ⟨o15, p15, .func (PySem.W.fnOf "cell_of" "cell_of" (defArgs s_cell_of) (defBody s_cell_of) (defScope s_cell_of) .none x15 y15 w15 n15 u15 v15), l15⟩) (c15 : PySem.W.codeIn K u15 "cell_of" = true) (r15 : PySem.W.keepIn K (.ref g15) = true)
    (a16 : PySem.W.nsIn K mainGlobals "mark_of" = some (some (.ref g16))) (k16 : K.lookup g16 = some ⟨o16, p16, .func (PySem.W.fnOf "mark_of" "mark_of" (defArgs s_mark_of) (defBody s_mark_of) (defScope s_mark_of) .none x16 y16 w16 n16 u16 v16), l16⟩) (c16 : PySem.W.codeIn K u16 "mark_of" = true) (r16 : PySem.W.keepIn K (.ref g16) = true)
    (a17 : PySem.W.nsIn K mainGlobals "as_place" = some (some (.ref g17))) (k17 : K.lookup g17 = some ⟨o17, p17, .func (PySem.W.fnOf "as_place" "as_place" (defArgs s_as_place) (defBody s_as_place) (defScope s_as_place) .none x17 y17 w17 n17 u17 v17), l17⟩) (c17 : PySem.W.codeIn K u17 "as_place" = true) (r17 : PySem.W.keepIn K (.ref g17) = true)
    (a18 : PySem.W.nsIn K mainGlobals "place_of" = some (some (.ref g18))) (k18 : K.lookup g18 = some ⟨o18, p18, .func (PySem.W.fnOf "place_of" "place_of" (defArgs s_place_of) (defBody s_place_of) (defScope s_place_of) .none x18 y18 w18 n18 u18 v18), l18⟩) (c18 : PySem.W.codeIn K u18 "place_of" = true) (r18 : PySem.W.keepIn K (.ref g18) = true)
    (a19 : PySem.W.nsIn K mainGlobals "ahead" = some (some (.ref g19))) (k19 : K.lookup g19 = some ⟨o19, p19, .func (PySem.W.fnOf "ahead" "ahead" (defArgs s_ahead) (defBody s_ahead) (defScope s_ahead) .none x19 y19 w19 n19 u19 v19), l19⟩) (c19 : PySem.W.codeIn K u19 "ahead" = true) (r19 : PySem.W.keepIn K (.ref g19) = true)
    (a20 : PySem.W.nsIn K mainGlobals "in_window" = some (some (.ref g20))) (k20 : K.lookup g20 = some ⟨o20, p20, .func (PySem.W.fnOf "in_window" "in_window" (defArgs s_in_window) (defBody s_in_window) (defScope s_in_window) .none x20 y20 w20 n20 u20 v20), l20⟩) (c20 : PySem.W.codeIn K u20 "in_window" = true) (r20 : PySem.W.keepIn K (.ref g20) = true)
    (a21 : PySem.W.nsIn K mainGlobals "least_marks" = some (some (.ref g21))) (k21 : K.lookup g21 = some ⟨o21, p21, .func (PySem.W.fnOf "least_marks" "least_marks" (defArgs s_least_marks) (defBody s_least_marks) (defScope s_least_marks) .none x21 y21 w21 n21 u21 v21), l21⟩) (c21 : PySem.W.codeIn K u21 "least_marks" = true) (r21 : PySem.W.keepIn K (.ref g21) = true)
    (a22 : PySem.W.nsIn K mainGlobals "most_flight" = some (some (.ref g22))) (k22 : K.lookup g22 = some ⟨o22, p22, .func (PySem.W.fnOf "most_flight" "most_flight" (defArgs s_most_flight) (defBody s_most_flight) (defScope s_most_flight) .none x22 y22 w22 n22 u22 v22), l22⟩) (c22 : PySem.W.codeIn K u22 "most_flight" = true) (r22 : PySem.W.keepIn K (.ref g22) = true)
    (a23 : PySem.W.nsIn K mainGlobals "least_cells" = some (some (.ref g23))) (k23 : K.lookup g23 = some ⟨o23, p23, .func (PySem.W.fnOf "least_cells" "least_cells" (defArgs s_least_cells) (defBody s_least_cells) (defScope s_least_cells) .none x23 y23 w23 n23 u23 v23), l23⟩) (c23 : PySem.W.codeIn K u23 "least_cells" = true) (r23 : PySem.W.keepIn K (.ref g23) = true)
    (a24 : PySem.W.nsIn K mainGlobals "_law_box" = some (some (.ref g24))) (k24 : K.lookup g24 = some ⟨o24, p24, .func (PySem.W.fnOf "_law_box" "_law_box" (defArgs s__law_box) (defBody s__law_box) (defScope s__law_box) .none x24 y24 w24 n24 u24 v24), l24⟩) (c24 : PySem.W.codeIn K u24 "_law_box" = true) (r24 : PySem.W.keepIn K (.ref g24) = true)
    (a25 : PySem.W.nsIn K mainGlobals "_law_take" = some (some (.ref g25))) (k25 : K.lookup g25 = some ⟨o25, p25, .func (PySem.W.fnOf "_law_take" "_law_take" (defArgs s__law_take) (defBody s__law_take) (defScope s__law_take) .none x25 y25 w25 n25 u25 v25), l25⟩) (c25 : PySem.W.codeIn K u25 "_law_take" = true) (r25 : PySem.W.keepIn K (.ref g25) = true)
    (a26 : PySem.W.nsIn K mainGlobals "_law_cells" = some (some (.ref g26))) (k26 : K.lookup g26 = some ⟨o26, p26, .func (PySem.W.fnOf "_law_cells" "_law_cells" (defArgs s__law_cells) (defBody s__law_cells) (defScope s__law_cells) .none x26 y26 w26 n26 u26 v26), l26⟩) (c26 : PySem.W.codeIn K u26 "_law_cells" = true) (r26 : PySem.W.keepIn K (.ref g26) = true)
    (a27 : PySem.W.nsIn K mainGlobals "_law_same" = some (some (.ref g27))) (k27 : K.lookup g27 = some ⟨o27, p27, .func (PySem.W.fnOf "_law_same" "_law_same" (defArgs s__law_same) (defBody s__law_same) (defScope s__law_same) .none x27 y27 w27 n27 u27 v27), l27⟩) (c27 : PySem.W.codeIn K u27 "_law_same" = true) (r27 : PySem.W.keepIn K (.ref g27) = true)
    (a28 : PySem.W.nsIn K mainGlobals "_law_any_form" = some (some (.ref g28))) (k28 : K.lookup g28 = some ⟨o28, p28, .func (PySem.W.fnOf "_law_any_form" "_law_any_form" (defArgs s__law_any_form) (defBody s__law_any_form) (defScope s__law_any_form) .none x28 y28 w28 n28 u28 v28), l28⟩) (c28 : PySem.W.codeIn K u28 "_law_any_form" = true) (r28 : PySem.W.keepIn K (.ref g28) = true)
    (a29 : PySem.W.nsIn K mainGlobals "_law_hand_right" = some (some (.ref g29))) (k29 : K.lookup g29 = some ⟨o29, p29, .func (PySem.W.fnOf "_law_hand_right" "_law_hand_right" (defArgs s__law_hand_right) (defBody s__law_hand_right) (defScope s__law_hand_right) .none x29 y29 w29 n29 u29 v29), l29⟩) (c29 : PySem.W.codeIn K u29 "_law_hand_right" = true) (r29 : PySem.W.keepIn K (.ref g29) = true)
    (a30 : PySem.W.nsIn K mainGlobals "_law_walked" = some (some (.ref g30))) (k30 : K.lookup g30 = some ⟨o30, p30, .func (PySem.W.fnOf "_law_walked" "_law_walked" (defArgs s__law_walked) (defBody s__law_walked) (defScope s__law_walked) .none x30 y30 w30 n30 u30 v30), l30⟩) (c30 : PySem.W.codeIn K u30 "_law_walked" = true) (r30 : PySem.W.keepIn K (.ref g30) = true)
    (a31 : PySem.W.nsIn K mainGlobals "_law_border_right" = some (some (.ref g31))) (k31 : K.lookup g31 = some ⟨o31, p31, .func (PySem.W.fnOf "_law_border_right" "_law_border_right" (defArgs s__law_border_right) (defBody s__law_border_right) (defScope s__law_border_right) .none x31 y31 w31 n31 u31 v31), l31⟩) (c31 : PySem.W.codeIn K u31 "_law_border_right" = true) (r31 : PySem.W.keepIn K (.ref g31) = true)
    (a32 : PySem.W.nsIn K mainGlobals "_law_right" = some (some (.ref g32))) (k32 : K.lookup g32 = some ⟨o32, p32, .func (PySem.W.fnOf "_law_right" "_law_right" (defArgs s__law_right) (defBody s__law_right) (defScope s__law_right) .none x32 y32 w32 n32 u32 v32), l32⟩) (c32 : PySem.W.codeIn K u32 "_law_right" = true) (r32 : PySem.W.keepIn K (.ref g32) = true)
    (a33 : PySem.W.nsIn K mainGlobals "law" = some (some (.ref g33))) (k33 : K.lookup g33 = some ⟨o33, p33, .func (PySem.W.fnOf "law" "law" (defArgs s_law) (defBody s_law) (defScope s_law) .none x33 y33 w33 n33 u33 v33), l33⟩) (c33 : PySem.W.codeIn K u33 "law" = true) (r33 : PySem.W.keepIn K (.ref g33) = true)
    (z0 : PySem.W.nsIn K mainGlobals "abs" = some none)
    (z1 : PySem.W.nsIn K mainGlobals "all" = some none)
    (z2 : PySem.W.nsIn K mainGlobals "bool" = some none)
    (z3 : PySem.W.nsIn K mainGlobals "enumerate" = some none)
    (z4 : PySem.W.nsIn K mainGlobals "int" = some none)
    (z5 : PySem.W.nsIn K mainGlobals "isinstance" = some none)
    (z6 : PySem.W.nsIn K mainGlobals "len" = some none)
    (z7 : PySem.W.nsIn K mainGlobals "list" = some none)
    (z8 : PySem.W.nsIn K mainGlobals "max" = some none)
    (z9 : PySem.W.nsIn K mainGlobals "min" = some none)
    (z10 : PySem.W.nsIn K mainGlobals "range" = some none)
    (z11 : PySem.W.nsIn K mainGlobals "str" = some none)
    (z12 : PySem.W.nsIn K mainGlobals "tuple" = some none)
    (z13 : PySem.W.nsIn K mainGlobals "zip" = some none) :
    ∃ fd : FuncData, (∀ (s : Shared) (v : Value), BindsTo s fd ⟨[v], []⟩ [("script", v)]) ∧ ∀ base : Heap, K.In base → base.Ns mainGlobals mg → FnOk l.prog w K mg base CX0 12 fa fd ["script"] (spLaw K) := by
  let T : Txt K mg := { f_is_number := g0, d_is_number := _, F_is_number := fun_mk (st := s_is_number) k0 c0 r0, b_is_number := (fun_mk (st := s_is_number) k0 c0 r0).binds (ps := ["thing"]) (fun _ _ _ _ _ _ us hl => match us, hl with | [_], _ => rfl), m_is_number := PySem.W.mg_of X G a0, f_is_natural := g1, d_is_natural := _, F_is_natural := fun_mk (st := s_is_natural) k1 c1 r1, b_is_natural := (fun_mk (st := s_is_natural) k1 c1 r1).binds (ps := ["thing"]) (fun _ _ _ _ _ _ us hl => match us, hl with | [_], _ => rfl), m_is_natural := PySem.W.mg_of X G a1, f_is_below := g2, d_is_below := _, F_is_below := fun_mk (st := s_is_below) k2 c2 r2, b_is_below := (fun_mk (st := s_is_below) k2 c2 r2).binds (ps := ["thing", "bound"]) (fun _ _ _ _ _ _ us hl => match us, hl with | [_, _], _ => rfl), m_is_below := PySem.W.mg_of X G a2, f_is_row := g3, d_is_row := _, F_is_row := fun_mk (st := s_is_row) k3 c3 r3, b_is_row := (fun_mk (st := s_is_row) k3 c3 r3).binds (ps := ["thing", "many"]) (fun _ _ _ _ _ _ us hl => match us, hl with | [_, _], _ => rfl), m_is_row := PySem.W.mg_of X G a3, f_as_tuples := g4, d_as_tuples := _, F_as_tuples := ⟨⟨o4, p4, e4, x4, y4, w4, n4, u4, v4, l4, rfl, k4, c4, He.dflB_ok h4, .inl rfl⟩, r4⟩, m_as_tuples := PySem.W.mg_of X G a4, f_checked := g5, d_checked := _, F_checked := fun_mk (st := s_checked) k5 c5 r5, b_checked := (fun_mk (st := s_checked) k5 c5 r5).binds (ps := ["is_such", "thing"]) (fun _ _ _ _ _ _ us hl => match us, hl with | [_, _], _ => rfl), m_checked := PySem.W.mg_of X G a5, f_window_in := g6, d_window_in := _, F_window_in := fun_mk (st := s_window_in) k6 c6 r6, b_window_in := (fun_mk (st := s_window_in) k6 c6 r6).binds (ps := ["shape"]) (fun _ _ _ _ _ _ us hl => match us, hl with | [_], _ => rfl), m_window_in := PySem.W.mg_of X G a6, f_turn_in := g7, d_turn_in := _, F_turn_in := fun_mk (st := s_turn_in) k7 c7 r7, b_turn_in := (fun_mk (st := s_turn_in) k7 c7 r7).binds (ps := ["shape"]) (fun _ _ _ _ _ _ us hl => match us, hl with | [_], _ => rfl), m_turn_in := PySem.W.mg_of X G a7, f_is_safe_ring := g8, d_is_safe_ring := _, F_is_safe_ring := fun_mk (st := s_is_safe_ring) k8 c8 r8, b_is_safe_ring := (fun_mk (st := s_is_safe_ring) k8 c8 r8).binds (ps := ["shape"]) (fun _ _ _ _ _ _ us hl => match us, hl with | [_], _ => rfl), m_is_safe_ring := PySem.W.mg_of X G a8, f_cell_in := g9, d_cell_in := _, F_cell_in := fun_mk (st := s_cell_in) k9 c9 r9, b_cell_in := (fun_mk (st := s_cell_in) k9 c9 r9).binds (ps := ["shape", "number"]) (fun _ _ _ _ _ _ us hl => match us, hl with | [_, _], _ => rfl), m_cell_in := PySem.W.mg_of X G a9, f_mark_in := g10, d_mark_in := _, F_mark_in := fun_mk (st := s_mark_in) k10 c10 r10, b_mark_in := (fun_mk (st := s_mark_in) k10 c10 r10).binds (ps := ["shape", "number"]) (fun _ _ _ _ _ _ us hl => match us, hl with | [_, _], _ => rfl), m_mark_in := PySem.W.mg_of X G a10, f_is_shape := g11, d_is_shape := _, F_is_shape := fun_mk (st := s_is_shape) k11 c11 r11, b_is_shape := (fun_mk (st := s_is_shape) k11 c11 r11).binds (ps := ["thing"]) (fun _ _ _ _ _ _ us hl => match us, hl with | [_], _ => rfl), m_is_shape := PySem.W.mg_of X G a11, f_window := g12, d_window := _, F_window := fun_mk (st := s_window) k12 c12 r12, b_window := (fun_mk (st := s_window) k12 c12 r12).binds (ps := ["shape"]) (fun _ _ _ _ _ _ us hl => match us, hl with | [_], _ => rfl), m_window := PySem.W.mg_of X G a12, f_turn_of := g13, d_turn_of := _, F_turn_of := fun_mk (st := s_turn_of) k13 c13 r13, b_turn_of := (fun_mk (st := s_turn_of) k13 c13 r13).binds (ps := ["shape"]) (fun _ _ _ _ _ _ us hl => match us, hl with | [_], _ => rfl), m_turn_of := PySem.W.mg_of X G a13, f_is_safe := g14, d_is_safe := _, F_is_safe := fun_mk (st := s_is_safe) k14 c14 r14, b_is_safe := (fun_mk (st := s_is_safe) k14 c14 r14).binds (ps := ["shape"]) (fun _ _ _ _ _ _ us hl => match us, hl with | [_], _ => rfl), m_is_safe := PySem.W.mg_of X G a14, f_cell_of := g15, d_cell_of := _, F_cell_of := fun_mk (st := s_cell_of) k15 c15 r15, b_cell_of := (fun_mk (st := s_cell_of) k15 c15 r15).binds (ps := ["shape", "number"]) (fun _ _ _ _ _ _ us hl => match us, hl with | [_, _], _ => rfl), m_cell_of := PySem.W.mg_of X G a15, f_mark_of := g16, d_mark_of := _, F_mark_of := fun_mk (st := s_mark_of) k16 c16 r16, b_mark_of := (fun_mk (st := s_mark_of) k16 c16 r16).binds (ps := ["shape", "number"]) (fun _ _ _ _ _ _ us hl => match us, hl with | [_, _], _ => rfl), m_mark_of := PySem.W.mg_of X G a16, f_as_place := g17, d_as_place := _, F_as_place := fun_mk (st := s_as_place) k17 c17 r17, b_as_place := (fun_mk (st := s_as_place) k17 c17 r17).binds (ps := ["shape", "number"]) (fun _ _ _ _ _ _ us hl => match us, hl with | [_, _], _ => rfl), m_as_place := PySem.W.mg_of X G a17, f_place_of := g18, d_place_of := _, F_place_of := fun_mk (st := s_place_of) k18 c18 r18, b_place_of := (fun_mk (st := s_place_of) k18 c18 r18).binds (ps := ["shape", "cell", "mark"]) (fun _ _ _ _ _ _ us hl => match us, hl with | [_, _, _], _ => rfl), m_place_of := PySem.W.mg_of X G a18, f_ahead := g19, d_ahead := _, F_ahead := fun_mk (st := s_ahead) k19 c19 r19, b_ahead := (fun_mk (st := s_ahead) k19 c19 r19).binds (ps := ["shape", "one", "other"]) (fun _ _ _ _ _ _ us hl => match us, hl with | [_, _, _], _ => rfl), m_ahead := PySem.W.mg_of X G a19, f_in_window := g20, d_in_window := _, F_in_window := fun_mk (st := s_in_window) k20 c20 r20, b_in_window := (fun_mk (st := s_in_window) k20 c20 r20).binds (ps := ["shape", "number", "end"]) (fun _ _ _ _ _ _ us hl => match us, hl with | [_, _, _], _ => rfl), m_in_window := PySem.W.mg_of X G a20, f_least_marks := g21, d_least_marks := _, F_least_marks := fun_mk (st := s_least_marks) k21 c21 r21, b_least_marks := (fun_mk (st := s_least_marks) k21 c21 r21).binds (ps := ["cells", "flight"]) (fun _ _ _ _ _ _ us hl => match us, hl with | [_, _], _ => rfl), m_least_marks := PySem.W.mg_of X G a21, f_most_flight := g22, d_most_flight := _, F_most_flight := fun_mk (st := s_most_flight) k22 c22 r22, b_most_flight := (fun_mk (st := s_most_flight) k22 c22 r22).binds (ps := ["cells", "marks"]) (fun _ _ _ _ _ _ us hl => match us, hl with | [_, _], _ => rfl), m_most_flight := PySem.W.mg_of X G a22, f_least_cells := g23, d_least_cells := _, F_least_cells := fun_mk (st := s_least_cells) k23 c23 r23, b_least_cells := (fun_mk (st := s_least_cells) k23 c23 r23).binds (ps := ["flight", "marks"]) (fun _ _ _ _ _ _ us hl => match us, hl with | [_, _], _ => rfl), m_least_cells := PySem.W.mg_of X G a23, f__law_box := g24, d__law_box := _, F__law_box := fun_mk (st := s__law_box) k24 c24 r24, b__law_box := (fun_mk (st := s__law_box) k24 c24 r24).binds (ps := ["script", "k"]) (fun _ _ _ _ _ _ us hl => match us, hl with | [_, _], _ => rfl), m__law_box := PySem.W.mg_of X G a24, f__law_take := g25, d__law_take := _, F__law_take := fun_mk (st := s__law_take) k25 c25 r25, b__law_take := (fun_mk (st := s__law_take) k25 c25 r25).binds (ps := ["tin", "below_so"]) (fun _ _ _ _ _ _ us hl => match us, hl with | [_, _], _ => rfl), m__law_take := PySem.W.mg_of X G a25, f__law_cells := g26, d__law_cells := _, F__law_cells := fun_mk (st := s__law_cells) k26 c26 r26, b__law_cells := (fun_mk (st := s__law_cells) k26 c26 r26).binds (ps := ["script", "most_so"]) (fun _ _ _ _ _ _ us hl => match us, hl with | [_, _], _ => rfl), m__law_cells := PySem.W.mg_of X G a26, f__law_same := g27, d__law_same := _, F__law_same := fun_mk (st := s__law_same) k27 c27 r27, b__law_same := (fun_mk (st := s__law_same) k27 c27 r27).binds (ps := ["got", "due"]) (fun _ _ _ _ _ _ us hl => match us, hl with | [_, _], _ => rfl), m__law_same := PySem.W.mg_of X G a27, f__law_any_form := g28, d__law_any_form := _, F__law_any_form := fun_mk (st := s__law_any_form) k28 c28 r28, b__law_any_form := (fun_mk (st := s__law_any_form) k28 c28 r28).binds (ps := ["tin"]) (fun _ _ _ _ _ _ us hl => match us, hl with | [_], _ => rfl), m__law_any_form := PySem.W.mg_of X G a28, f__law_hand_right := g29, d__law_hand_right := _, F__law_hand_right := fun_mk (st := s__law_hand_right) k29 c29 r29, b__law_hand_right := (fun_mk (st := s__law_hand_right) k29 c29 r29).binds (ps := []) (fun _ _ _ _ _ _ us hl => match us, hl with | [], _ => rfl), m__law_hand_right := PySem.W.mg_of X G a29, f__law_walked := g30, d__law_walked := _, F__law_walked := fun_mk (st := s__law_walked) k30 c30 r30, b__law_walked := (fun_mk (st := s__law_walked) k30 c30 r30).binds (ps := ["form"]) (fun _ _ _ _ _ _ us hl => match us, hl with | [_], _ => rfl), m__law_walked := PySem.W.mg_of X G a30, f__law_border_right := g31, d__law_border_right := _, F__law_border_right := fun_mk (st := s__law_border_right) k31 c31 r31, b__law_border_right := (fun_mk (st := s__law_border_right) k31 c31 r31).binds (ps := ["tin"]) (fun _ _ _ _ _ _ us hl => match us, hl with | [_], _ => rfl), m__law_border_right := PySem.W.mg_of X G a31, f__law_right := g32, d__law_right := _, F__law_right := fun_mk (st := s__law_right) k32 c32 r32, b__law_right := (fun_mk (st := s__law_right) k32 c32 r32).binds (ps := ["tin"]) (fun _ _ _ _ _ _ us hl => match us, hl with | [_], _ => rfl), m__law_right := PySem.W.mg_of X G a32, f_law := g33, d_law := _, F_law := fun_mk (st := s_law) k33 c33 r33, b_law := (fun_mk (st := s_law) k33 c33 r33).binds (ps := ["script"]) (fun _ _ _ _ _ _ us hl => match us, hl with | [_], _ => rfl), m_law := PySem.W.mg_of X G a33, z_abs := PySem.W.mg_none_of X G z0, z_all := PySem.W.mg_none_of X G z1, z_bool := PySem.W.mg_none_of X G z2, z_enumerate := PySem.W.mg_none_of X G z3, z_int := PySem.W.mg_none_of X G z4, z_isinstance := PySem.W.mg_none_of X G z5, z_len := PySem.W.mg_none_of X G z6, z_list := PySem.W.mg_none_of X G z7, z_max := PySem.W.mg_none_of X G z8, z_min := PySem.W.mg_none_of X G z9, z_range := PySem.W.mg_none_of X G z10, z_str := PySem.W.mg_none_of X G z11, z_tuple := PySem.W.mg_none_of X G z12, z_zip := PySem.W.mg_none_of X G z13 }
  have e := hfa.symm.trans T.m_law
  cases e
  exact ⟨T.d_law, fun s v => .of_eq rfl, fun base _ _ => ok_law T⟩
end
end LW
open PySem PySem.W PyProof.Rows
set_option maxHeartbeats 0 in
theorem PySem.Challenge.cw_halfring_k04_whole_numbers_on_a_ring_holds : PySem.Challenge.rw_halfring_k04_whole_numbers_on_a_ring.Holds := by
  w_on; o_law; k_head; (case hw => w_witness2)
  k_fill
  refine L2.walk_of (l := PySem.Challenge.rw_halfring_k04_whole_numbers_on_a_ring) (n := 63) (k := 12) (x := "script") (CX := fun _ => L2.CX0) (sp := fun w => LW.spLaw _) rfl (by decide) rfl ⟨rfl, by decide, by decide⟩ (fun w h Y => PySem.W.kIn_of Y) ?F (fun _ _ a ns hl _ hS => ⟨a, ns, rfl, hS, hl, fun _ => rfl⟩) (fun _ _ _ _ _ h => h)
  case F =>
    intro w mg fa h KX G hmg
    refine' LW.all_mk KX G hmg ?a0 ?k0 ?c0 ?r0 ?a1 ?k1 ?c1 ?r1 ?a2 ?k2 ?c2 ?r2 ?a3 ?k3 ?c3 ?r3 ?a4 ?k4 ?c4 ?r4 ?h4 ?a5 ?k5 ?c5 ?r5 ?a6 ?k6 ?c6 ?r6 ?a7 ?k7 ?c7 ?r7 ?a8 ?k8 ?c8 ?r8 ?a9 ?k9 ?c9 ?r9 ?a10 ?k10 ?c10 ?r10 ?a11 ?k11 ?c11 ?r11 ?a12 ?k12 ?c12 ?r12 ?a13 ?k13 ?c13 ?r13 ?a14 ?k14 ?c14 ?r14 ?a15 ?k15 ?c15 ?r15 ?a16 ?k16 ?c16 ?r16 ?a17 ?k17 ?c17 ?r17 ?a18 ?k18 ?c18 ?r18 ?a19 ?k19 ?c19 ?r19 ?a20 ?k20 ?c20 ?r20 ?a21 ?k21 ?c21 ?r21 ?a22 ?k22 ?c22 ?r22 ?a23 ?k23 ?c23 ?r23 ?a24 ?k24 ?c24 ?r24 ?a25 ?k25 ?c25 ?r25 ?a26 ?k26 ?c26 ?r26 ?a27 ?k27 ?c27 ?r27 ?a28 ?k28 ?c28 ?r28 ?a29 ?k29 ?c29 ?r29 ?a30 ?k30 ?c30 ?r30 ?a31 ?k31 ?c31 ?r31 ?a32 ?k32 ?c32 ?r32 ?a33 ?k33 ?c33 ?r33 ?z0 ?z1 ?z2 ?z3 ?z4 ?z5 ?z6 ?z7 ?z8 ?z9 ?z10 ?z11 ?z12 ?z13
    (case a0 => k_is); (case k0 => k_is); (case c0 => k_is); (case r0 => k_is); (case a1 => k_is); (case k1 => k_is); (case c1 => k_is); (case r1 => k_is); (case a2 => k_is); (case k2 => k_is); (case c2 => k_is); (case r2 => k_is); (case a3 => k_is); (case k3 => k_is); (case c3 => k_is); (case r3 => k_is); (case a4 => k_is); (case k4 => k_is); (case c4 => k_is); (case r4 => k_is); (case h4 => rfl); (case a5 => k_is); (case k5 => k_is); (case c5 => k_is); (case r5 => k_is); (case a6 => k_is); (case k6 => k_is); (case c6 => k_is); (case r6 => k_is); (case a7 => k_is); (case k7 => k_is); (case c7 => k_is); (case r7 => k_is); (case a8 => k_is); (case k8 => k_is); (case c8 => k_is); (case r8 => k_is); (case a9 => k_is); (case k9 => k_is); (case c9 => k_is); (case r9 => k_is); (case a10 => k_is); (case k10 => k_is); (case c10 => k_is); (case r10 => k_is); (case a11 => k_is); (case k11 => k_is); (case c11 => k_is); (case r11 => k_is); (case a12 => k_is); (case k12 => k_is); (case c12 => k_is); (case r12 => k_is); (case a13 => k_is); (case k13 => k_is); (case c13 => k_is); (case r13 => k_is); (case a14 => k_is); (case k14 => k_is); (case c14 => k_is); (case r14 => k_is); (case a15 => k_is); (case k15 => k_is); (case c15 => k_is); (case r15 => k_is); (case a16 => k_is); (case k16 => k_is); (case c16 => k_is); (case r16 => k_is); (case a17 => k_is); (case k17 => k_is); (case c17 => k_is); (case r17 => k_is); (case a18 => k_is); (case k18 => k_is); (case c18 => k_is); (case r18 => k_is); (case a19 => k_is); (case k19 => k_is); (case c19 => k_is); (case r19 => k_is); (case a20 => k_is); (case k20 => k_is); (case c20 => k_is); (case r20 => k_is); (case a21 => k_is); (case k21 => k_is); (case c21 => k_is); (case r21 => k_is); (case a22 => k_is); (case k22 => k_is); (case c22 => k_is); (case r22 => k_is); (case a23 => k_is); (case k23 => k_is); (case c23 => k_is); (case r23 => k_is); (case a24 => k_is); (case k24 => k_is); (case c24 => k_is); (case r24 => k_is); (case a25 => k_is); (case k25 => k_is); (case c25 => k_is); (case r25 => k_is); (case a26 => k_is); (case k26 => k_is); (case c26 => k_is); (case r26 => k_is); (case a27 => k_is); (case k27 => k_is); (case c27 => k_is); (case r27 => k_is); (case a28 => k_is); (case k28 => k_is); (case c28 => k_is); (case r28 => k_is); (case a29 => k_is); (case k29 => k_is); (case c29 => k_is); (case r29 => k_is); (case a30 => k_is); (case k30 => k_is); (case c30 => k_is); (case r30 => k_is); (case a31 => k_is); (case k31 => k_is); (case c31 => k_is); (case r31 => k_is); (case a32 => k_is); (case k32 => k_is); (case c32 => k_is); (case r32 => k_is); (case a33 => k_is); (case k33 => k_is); (case c33 => k_is); (case r33 => k_is); (case z0 => k_is); (case z1 => k_is); (case z2 => k_is); (case z3 => k_is); (case z4 => k_is); (case z5 => k_is); (case z6 => k_is); (case z7 => k_is); (case z8 => k_is); (case z9 => k_is); (case z10 => k_is); (case z11 => k_is); (case z12 => k_is); (case z13 => k_is)


