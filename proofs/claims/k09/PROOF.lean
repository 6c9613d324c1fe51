import PyProof.Rows.All
import Wide.All
import OpenK.AllK
import Wide.FinOn
import HandS.ForMost
import HandS.Wide
import HandS.IsInst
import HandS.CallLocal
import HandS.Defaults
import HandS.Walk
import HandS.Zip
import HandS.Flow
import HandS.Conv
import HandS.Style
import HandS.HeadHook2
import KE.GoesMore
import HandS.TupAny
import HandS.StrMore
import PySem.Challenge.RW_halfring_k09_whole_rows_bent
set_option Elab.async false
set_option linter.all false
set_option maxRecDepth 100000
set_option maxHeartbeats 4000000
namespace DV
open PySem L2

/-! data that a value stands for, over the tracked heap -/
mutual
inductive Da (K : PySem.W.Frag) (H : Hp) : V → PyData → Prop
  | non : Da K H .non .none
  | bl (b : Bool) : Da K H (.bl b) (.bool b)
  | int (i : Int) : Da K H (.int i) (.int i)
  | str (x : Str) : Da K H (.str x) (.str x)
  | lst {a : Addr} {xs : List V} {ds : List PyData} : H a = some (.lst xs) → DaAll K H xs ds → Da K H (.ref a) (.list ds)
  | tup {a : Addr} {xs : List V} {ds : List PyData} : SqT K H a xs → DaAll K H xs ds → Da K H (.ref a) (.tuple ds)
inductive DaAll (K : PySem.W.Frag) (H : Hp) : List V → List PyData → Prop
  | nil : DaAll K H [] []
  | cons {v : V} {vs : List V} {d : PyData} {ds : List PyData} : Da K H v d → DaAll K H vs ds → DaAll K H (v :: vs) (d :: ds)
end

theorem sqT_mono {K : PySem.W.Frag} {H H' : Hp} {a : Addr} {xs : List V} (e : Same H H') (h : SqT K H a xs) : SqT K H' a xs := by
  rcases h with (h | ⟨o, h⟩) | h
  · exact .inl (.inl (e _ _ h))
  · exact .inl (.inr ⟨o, e _ _ h⟩)
  · exact .inr h

mutual
theorem Da.mono {K : PySem.W.Frag} {H H' : Hp} (e : Same H H') : ∀ {v : V} {d : PyData}, Da K H v d → Da K H' v d
  | _, _, .non => .non
  | _, _, .bl b => .bl b
  | _, _, .int i => .int i
  | _, _, .str x => .str x
  | _, _, .lst h hs => .lst (e _ _ h) (DaAll.mono e hs)
  | _, _, .tup h hs => .tup (sqT_mono e h) (DaAll.mono e hs)
theorem DaAll.mono {K : PySem.W.Frag} {H H' : Hp} (e : Same H H') : ∀ {vs : List V} {ds : List PyData}, DaAll K H vs ds → DaAll K H' vs ds
  | _, _, .nil => .nil
  | _, _, .cons h hs => .cons (Da.mono e h) (DaAll.mono e hs)
end
theorem DaAll.length {K : PySem.W.Frag} {H : Hp} : ∀ {vs : List V} {ds : List PyData}, DaAll K H vs ds → vs.length = ds.length
  | _, _, .nil => rfl
  | _, _, .cons _ hs => congrArg Nat.succ (DaAll.length hs)
theorem DaAll.get {K : PySem.W.Frag} {H : Hp} : ∀ {vs : List V} {ds : List PyData} {i : Nat} {d : PyData}, DaAll K H vs ds → ds[i]? = some d → ∃ v, vs[i]? = some v ∧ Da K H v d
  | _, _, _, _, .nil, e => by simp at e
  | _, _, 0, _, .cons h _, e => by simp at e; subst e; exact ⟨_, rfl, h⟩
  | _, _, i + 1, _, .cons _ hs, e => by
    obtain ⟨v, h1, h2⟩ := DaAll.get (i := i) hs (by simpa using e)
    exact ⟨v, by simpa using h1, h2⟩
theorem DaAll.at {K : PySem.W.Frag} {H : Hp} : ∀ {vs : List V} {ds : List PyData} {i : Nat} {v : V}, DaAll K H vs ds → vs[i]? = some v → ∃ d, ds[i]? = some d ∧ Da K H v d
  | _, _, _, _, .nil, e => by simp at e
  | _, _, 0, _, .cons h _, e => by simp at e; subst e; exact ⟨_, rfl, h⟩
  | _, _, i + 1, _, .cons _ hs, e => by
    obtain ⟨v, h1, h2⟩ := DaAll.at (i := i) hs (by simpa using e)
    exact ⟨v, by simpa using h1, h2⟩
theorem DaAll.append {K : PySem.W.Frag} {H : Hp} : ∀ {vs ws : List V} {ds es : List PyData}, DaAll K H vs ds → DaAll K H ws es → DaAll K H (vs ++ ws) (ds ++ es)
  | _, _, _, _, .nil, s => s
  | _, _, _, _, .cons h hs, s => .cons h (DaAll.append hs s)
theorem DaAll.take {K : PySem.W.Frag} {H : Hp} : ∀ {vs : List V} {ds : List PyData} (n : Nat), DaAll K H vs ds → DaAll K H (vs.take n) (ds.take n)
  | _, _, 0, _ => .nil
  | _, _, _ + 1, .nil => .nil
  | _, _, n + 1, .cons h hs => .cons h (DaAll.take n hs)
theorem DaAll.drop {K : PySem.W.Frag} {H : Hp} : ∀ {vs : List V} {ds : List PyData} (n : Nat), DaAll K H vs ds → DaAll K H (vs.drop n) (ds.drop n)
  | _, _, 0, s => s
  | _, _, _ + 1, .nil => .nil
  | _, _, n + 1, .cons _ hs => DaAll.drop n hs
theorem DaAll.ints {K : PySem.W.Frag} {H : Hp} : ∀ {vs : List V} {ns : List Int}, DaAll K H vs (ns.map PyData.int) → vs = ns.map V.int
  | _, [], .nil => rfl
  | _, n :: ns, .cons (.int _) hs => by rw [DaAll.ints hs]; rfl
theorem DaAll.bools {K : PySem.W.Frag} {H : Hp} : ∀ {vs : List V} {ns : List Bool}, DaAll K H vs (ns.map PyData.bool) → vs = ns.map V.bl
  | _, [], .nil => rfl
  | _, n :: ns, .cons (.bl _) hs => by rw [DaAll.bools hs]; rfl
mutual
theorem Da.dp {K : PySem.W.Frag} {H : Hp} : ∀ {v : V} {d : PyData}, Da K H v d → Dp K H v d
  | _, _, .non => .non
  | _, _, .bl b => .bl b
  | _, _, .int i => .int i
  | _, _, .str x => .str x
  | _, _, .lst h hs => .lst (.inl (.inl h)) (DaAll.dp hs)
  | _, _, .tup h hs => .tup h (DaAll.dp hs)
theorem DaAll.dp {K : PySem.W.Frag} {H : Hp} : ∀ {vs : List V} {ds : List PyData}, DaAll K H vs ds → DpAll K H vs ds
  | _, _, .nil => .nil
  | _, _, .cons h hs => .cons (Da.dp h) (DaAll.dp hs)
end

/-! the frame: b, what is data and stands for ever, h, all that is tracked; the things at B may have changed -/
structure Fr (B : List Addr) (b h b' h' : Hp) : Prop where
  base : Same b b'
  sub : Same b' h'
  out : ∀ a, b a = none → (h a).isSome = true → b' a = none
  keep : ∀ a o, b a = none → a ∉ B → h a = some o → h' a = some o
  live : ∀ a, (h a).isSome = true → (h' a).isSome = true
theorem Fr.rfl' {B : List Addr} {b h : Hp} (e : Same b h) : Fr B b h b h := ⟨Same.refl b, e, fun _ h _ => h, fun _ _ _ _ h => h, fun _ h => h⟩
theorem Fr.trans {B : List Addr} {b h b1 h1 b2 h2 : Hp} (x : Fr B b h b1 h1) (y : Fr B b1 h1 b2 h2) : Fr B b h b2 h2 :=
  ⟨x.base.trans y.base, y.sub, fun a n s => y.out a (x.out a n s) (x.live a s), fun a o n hB e => y.keep a o (x.out a n (by rw [e]; rfl)) hB (x.keep a o n hB e), fun a s => y.live a (x.live a s)⟩
theorem Fr.more {B C : List Addr} {b h b1 h1 : Hp} (x : Fr B b h b1 h1) (s : ∀ a, a ∈ B → a ∈ C) : Fr C b h b1 h1 :=
  ⟨x.base, x.sub, x.out, fun a o n hC e => x.keep a o n (fun z => hC (s a z)) e, x.live⟩
theorem Fr.any {B : List Addr} {b h b1 h1 : Hp} (x : Fr [] b h b1 h1) : Fr B b h b1 h1 := x.more fun _ z => by cases z
/-- what was changed behind the beginning, though new there -/
theorem Fr.new {B C : List Addr} {b h b1 h1 b2 h2 : Hp} (x : Fr B b h b1 h1) (y : Fr C b1 h1 b2 h2) (s : ∀ a ∈ C, a ∈ B ∨ h a = none) : Fr B b h b2 h2 :=
  ⟨x.base.trans y.base, y.sub, fun a n z => y.out a (x.out a n z) (x.live a z), fun a o n hB e => y.keep a o (x.out a n (by rw [e]; rfl)) (fun z => by
    rcases s a z with q | q
    · exact hB q
    · rw [q] at e; cases e) (x.keep a o n hB e), fun a z => y.live a (x.live a z)⟩
/-- a new object that is data -/
theorem Fr.laid {B : List Addr} {b h : Hp} {p : Addr} {o : HO} (e : Same b h) (hp : h p = none) : Fr B b h (upd b p o) (upd h p o) := by
  have hb : b p = none := e.free hp
  refine ⟨fun a u z => ?_, fun a u z => ?_, fun a n s => ?_, fun a u n _ z => ?_, fun a s => ?_⟩
  · rw [upd_ne (ne_of_none z hb)]; exact z
  · by_cases q : a = p
    · subst q; rw [upd_same] at z ⊢; exact z
    · rw [upd_ne q] at z ⊢; exact e a u z
  · have q : a ≠ p := by
      intro z; subst z; rw [hp] at s; cases s
    rw [upd_ne q]; exact n
  · rw [upd_ne (ne_of_none z hp)]; exact z
  · by_cases q : a = p
    · subst q; rw [upd_same]; rfl
    · rw [upd_ne q]; exact s
/-- a new object that is none yet -/
theorem Fr.fresh {B : List Addr} {b h : Hp} {p : Addr} {o : HO} (e : Same b h) (hp : h p = none) : Fr B b h b (upd h p o) := by
  have hb : b p = none := e.free hp
  refine ⟨Same.refl b, fun a u z => ?_, fun a n s => n, fun a u n _ z => ?_, fun a s => ?_⟩
  · rw [upd_ne (ne_of_none z hb)]; exact e a u z
  · rw [upd_ne (ne_of_none z hp)]; exact z
  · by_cases q : a = p
    · subst q; rw [upd_same]; rfl
    · rw [upd_ne q]; exact s
/-- a change of what is none -/
theorem Fr.mut {b h : Hp} {p : Addr} {o : HO} (e : Same b h) (hb : b p = none) : Fr [p] b h b (upd h p o) := by
  refine ⟨Same.refl b, fun a u z => ?_, fun a n s => n, fun a u n m z => ?_, fun a s => ?_⟩
  · rw [upd_ne (ne_of_none z hb)]; exact e a u z
  · rw [upd_ne (fun q => m (by rw [q]; exact List.mem_cons_self ..))]; exact z
  · by_cases q : a = p
    · subst q; rw [upd_same]; rfl
    · rw [upd_ne q]; exact s
/-- what was changed becomes data -/
theorem Fr.seal {b h : Hp} {p : Addr} {o : HO} (e : Same b h) (hb : b p = none) (hp : h p = some o) : Same b (upd b p o) ∧ Same (upd b p o) h := by
  refine ⟨fun a u z => ?_, fun a u z => ?_⟩
  · rw [upd_ne (ne_of_none z hb)]; exact z
  · by_cases q : a = p
    · subst q; rw [upd_same] at z; rw [hp]; exact z
    · rw [upd_ne q] at z; exact e a u z

/-! what a slot holds -/
inductive SD where
  | un | dat (d : PyData) | adr (a : Addr)
def SRel (K : PySem.W.Frag) (b : Hp) : Option V → SD → Prop
  | _, .un => True
  | x, .dat d => ∃ v, x = some v ∧ Da K b v d
  | x, .adr a => x = some (.ref a)
inductive Slots (K : PySem.W.Frag) (b : Hp) : St → List SD → Prop
  | nil : Slots K b [] []
  | cons {x : Option V} {σ : St} {z : SD} {Δ : List SD} : SRel K b x z → Slots K b σ Δ → Slots K b (x :: σ) (z :: Δ)
theorem SRel.mono {K : PySem.W.Frag} {b b' : Hp} (e : Same b b') {x : Option V} {z : SD} (h : SRel K b x z) : SRel K b' x z := by
  cases z with
  | un => exact True.intro
  | dat d => obtain ⟨v, e1, e2⟩ := h; exact ⟨v, e1, e2.mono e⟩
  | adr a => exact h
theorem Slots.mono {K : PySem.W.Frag} {b b' : Hp} (e : Same b b') {σ : St} {Δ : List SD} (h : Slots K b σ Δ) : Slots K b' σ Δ := by
  induction h with
  | nil => exact .nil
  | cons h _ ih => exact .cons (h.mono e) ih
theorem Slots.get {K : PySem.W.Frag} {b : Hp} : ∀ {σ : St} {Δ : List SD} {i : Nat} {z : SD}, Slots K b σ Δ → Δ[i]? = some z → ∃ x, σ[i]? = some x ∧ SRel K b x z
  | _, _, _, _, .nil, e => by simp at e
  | _, _, 0, _, .cons h _, e => by simp at e; subst e; exact ⟨_, rfl, h⟩
  | _, _, i + 1, _, .cons _ t, e => by
    obtain ⟨x, h1, h2⟩ := Slots.get (i := i) t (by simpa using e)
    exact ⟨x, by simpa using h1, h2⟩
theorem Slots.set {K : PySem.W.Frag} {b : Hp} {x : Option V} {z : SD} (r : SRel K b x z) : ∀ {σ : St} {Δ : List SD} (i : Nat), Slots K b σ Δ → Slots K b (σ.set i x) (Δ.set i z)
  | _, _, _, .nil => .nil
  | _, _, 0, .cons _ t => .cons r t
  | _, _, i + 1, .cons h t => .cons h (Slots.set r i t)
theorem Slots.len {K : PySem.W.Frag} {b : Hp} {σ : St} {Δ : List SD} (h : Slots K b σ Δ) : σ.length = Δ.length := by
  induction h with
  | nil => rfl
  | cons _ _ ih => exact congrArg Nat.succ ih
def wipeD (Δ : List SD) : List Nat → List SD
  | [] => Δ
  | v :: vs => (wipeD Δ vs).set v .un
theorem Slots.wipe {K : PySem.W.Frag} {b : Hp} {σ : St} {Δ : List SD} (h : Slots K b σ Δ) : ∀ vs : List Nat, Slots K b (wipe σ vs) (wipeD Δ vs)
  | [] => h
  | v :: vs => Slots.set (z := .un) True.intro v (Slots.wipe h vs)
theorem Slots.uns {K : PySem.W.Frag} {b : Hp} : ∀ n : Nat, Slots K b (List.replicate n none) (List.replicate n .un)
  | 0 => .nil
  | n + 1 => .cons True.intro (Slots.uns n)
theorem Slots.app {K : PySem.W.Frag} {b : Hp} {σ τ : St} {Δ Γ : List SD} (h : Slots K b σ Δ) (k : Slots K b τ Γ) : Slots K b (σ ++ τ) (Δ ++ Γ) := by
  induction h with
  | nil => exact k
  | cons h _ ih => exact .cons h ih
theorem Slots.dats {K : PySem.W.Frag} {b : Hp} : ∀ {vs : List V} {ds : List PyData}, DaAll K b vs ds → Slots K b (vs.map some) (ds.map .dat)
  | _, _, .nil => .nil
  | _, _, .cons h t => .cons ⟨_, rfl, h⟩ (Slots.dats t)
theorem Slots.start {K : PySem.W.Frag} {b : Hp} {vs : List V} {ds : List PyData} (h : DaAll K b vs ds) (N : List Str) : Slots K b (start N vs) (ds.map .dat ++ List.replicate (N.length - ds.length) .un) := by
  unfold L2.start
  rw [← h.length]
  exact (Slots.dats h).app (Slots.uns _)

/-! what evaluates to which data, changing nothing -/
section
variable (K : PySem.W.Frag)
def EvD (te : TE) (σ : St) (b : Hp) (d : PyData) : Prop := ∀ b1 h1, Same b b1 → Same b1 h1 → ∀ Q : VK, (∀ v b2 h2, Fr [] b1 h1 b2 h2 → Da K b2 v d → Q v h2) → te σ h1 Q
def EvDs (ta : TA) (σ : St) (b : Hp) (ds : List PyData) : Prop := ∀ b1 h1, Same b b1 → Same b1 h1 → ∀ Q : List V → Hp → Prop, (∀ vs b2 h2, Fr [] b1 h1 b2 h2 → DaAll K b2 vs ds → Q vs h2) → ta σ h1 Q
def RvD (r : R2) (d1 d2 d : PyData) : Prop := ∀ b1 h1, Same b1 h1 → ∀ x y, Da K b1 x d1 → Da K b1 y d2 → ∀ Q : VK, (∀ v b2 h2, Fr [] b1 h1 b2 h2 → Da K b2 v d → Q v h2) → r x y h1 Q
def RcD (r : List V → Hp → VK → Prop) (ds : List PyData) (d : PyData) : Prop := ∀ b1 h1, Same b1 h1 → ∀ xs, DaAll K b1 xs ds → ∀ Q : VK, (∀ v b2 h2, Fr [] b1 h1 b2 h2 → Da K b2 v d → Q v h2) → r xs h1 Q
end
def EvB (tt : TT) (σ : St) (b : Hp) (c : Bool) : Prop := ∀ b1 h1, Same b b1 → Same b1 h1 → ∀ Q : Bool → Hp → Prop, (∀ b2 h2, Fr [] b1 h1 b2 h2 → Q c h2) → tt σ h1 Q
def EvO (to : TO) (σ : St) (b : Hp) (o : Option Int) : Prop := ∀ b1 h1, Same b b1 → Same b1 h1 → ∀ Q : Option Int → Hp → Prop, (∀ b2 h2, Fr [] b1 h1 b2 h2 → Q o h2) → to σ h1 Q

section
variable {K : PySem.W.Frag} {σ : St} {b b' : Hp} {te ta tb tc : TE} {d d1 d2 d3 : PyData} {Δ : List SD} {t u : TT} {r r' : R2} {i j : Int}
theorem EvD.mono (e : Same b b') (h : EvD K te σ b d) : EvD K te σ b' d := fun b1 h1 s z Q q => h b1 h1 (e.trans s) z Q q
theorem EvD.is (h : EvD K te σ b d) (e : d = d1) : EvD K te σ b d1 := e ▸ h
theorem EvB.is {c c' : Bool} (h : EvB t σ b c) (e : c = c') : EvB t σ b c' := e ▸ h
theorem EvD.go (h : EvD K te σ b d) {h1 : Hp} (s : Same b h1) {Q : VK} (q : ∀ v b2 h2, Fr [] b h1 b2 h2 → Da K b2 v d → Q v h2) : te σ h1 Q := h b h1 (Same.refl b) s Q q
theorem d_var {n : Nat} (S : Slots K b σ Δ) (e : Δ[n]? = some (.dat d)) : EvD K (tVar n) σ b d := fun b1 h1 s z Q q => by
  obtain ⟨x, e1, v, e2, e3⟩ := S.get e
  exact ⟨v, by rw [e1, e2], q v b1 h1 (Fr.rfl' z) (e3.mono s)⟩
theorem d_int (i : Int) : EvD K (tC (.int i)) σ b (.int i) := fun b1 h1 _ z Q q => q _ b1 h1 (Fr.rfl' z) (.int i)
theorem d_str (x : Str) : EvD K (tC (.str x)) σ b (.str x) := fun b1 h1 _ z Q q => q _ b1 h1 (Fr.rfl' z) (.str x)
theorem d_bl (x : Bool) : EvD K (tC (.bl x)) σ b (.bool x) := fun b1 h1 _ z Q q => q _ b1 h1 (Fr.rfl' z) (.bl x)
theorem d_non : EvD K (tC .non) σ b .none := fun b1 h1 _ z Q q => q _ b1 h1 (Fr.rfl' z) .non
theorem d_glob {v : V} (h : ∀ H, Da K H v d) : EvD K (tC v) σ b d := fun b1 h1 _ z Q q => q _ b1 h1 (Fr.rfl' z) (h b1)
theorem d_op (ha : EvD K ta σ b d1) (hb : EvD K tb σ b d2) (hr : RvD K r d1 d2 d) : EvD K (tOp r ta tb) σ b d := fun b1 h1 s z Q q =>
  ha b1 h1 s z _ fun x b2 h2 F1 D1 => hb b2 h2 (s.trans F1.base) F1.sub _ fun y b3 h3 F2 D2 => hr b3 h3 F2.sub x y (D1.mono F2.base) D2 Q fun v b4 h4 F3 D3 => q v b4 h4 ((F1.trans F2).trans F3) D3
theorem d_opc {c : Bool} (ha : EvD K ta σ b d1) (hb : EvD K tb σ b d2) (hr : RvD K r d1 d2 (.bool c)) : EvB (tTest (tOp r ta tb)) σ b c := fun b1 h1 s z Q q =>
  d_op ha hb hr b1 h1 s z _ fun v b2 h2 F D => by
    cases D
    exact ⟨c, rfl, q b2 h2 F⟩
theorem rv_I0 {g : Int → Int → Int} : RvD K (rI0 fun i j => .int (g i j)) (.int i) (.int j) (.int (g i j)) := fun b1 h1 z x y X Y Q q => by
  cases X; cases Y
  exact ⟨i, j, rfl, rfl, q _ b1 h1 (Fr.rfl' z) (.int _)⟩
theorem rv_I {C : Int → Int → Prop} {g : Int → Int → Int} (hc : C i j) : RvD K (rI C fun i j => .int (g i j)) (.int i) (.int j) (.int (g i j)) := fun b1 h1 z x y X Y Q q => by
  cases X; cases Y
  exact ⟨i, j, rfl, rfl, hc, q _ b1 h1 (Fr.rfl' z) (.int _)⟩
theorem rv_B0 {g : Int → Int → Bool} : RvD K (rI0 fun i j => .bl (g i j)) (.int i) (.int j) (.bool (g i j)) := fun b1 h1 z x y X Y Q q => by
  cases X; cases Y
  exact ⟨i, j, rfl, rfl, q _ b1 h1 (Fr.rfl' z) (.bl _)⟩
theorem rv_eqI : RvD K rEq (.int i) (.int j) (.bool (decide (i = j))) := fun b1 h1 z x y X Y Q q => by
  cases X; cases Y
  refine ⟨rfl, ?_⟩
  have e : decide (V.int i = V.int j) = decide (i = j) := by
    by_cases h : i = j
    · rw [h, decide_eq_true rfl, decide_eq_true rfl]
    · rw [decide_eq_false h, decide_eq_false fun z => h (V.int.inj z)]
  rw [e]
  exact q _ b1 h1 (Fr.rfl' z) (.bl _)
theorem rv_neI : RvD K rNe (.int i) (.int j) (.bool (!decide (i = j))) := fun b1 h1 z x y X Y Q q => by
  cases X; cases Y
  refine ⟨rfl, ?_⟩
  have e : decide (V.int i = V.int j) = decide (i = j) := by
    by_cases h : i = j
    · rw [h, decide_eq_true rfl, decide_eq_true rfl]
    · rw [decide_eq_false h, decide_eq_false fun z => h (V.int.inj z)]
  rw [e]
  exact q _ b1 h1 (Fr.rfl' z) (.bl _)
theorem rv_eqB {x y : Bool} : RvD K rEq (.bool x) (.bool y) (.bool (x == y)) := fun b1 h1 z _ _ X Y Q q => by
  cases X; cases Y
  refine ⟨rfl, ?_⟩
  have e : decide (V.bl x = V.bl y) = (x == y) := by cases x <;> cases y <;> rfl
  rw [e]
  exact q _ b1 h1 (Fr.rfl' z) (.bl _)
theorem rv_neB {x y : Bool} : RvD K rNe (.bool x) (.bool y) (.bool (!(x == y))) := fun b1 h1 z _ _ X Y Q q => by
  cases X; cases Y
  refine ⟨rfl, ?_⟩
  have e : decide (V.bl x = V.bl y) = (x == y) := by cases x <;> cases y <;> rfl
  rw [e]
  exact q _ b1 h1 (Fr.rfl' z) (.bl _)
theorem rv_eqS {x y : Str} : RvD K rEq (.str x) (.str y) (.bool (decide (x = y))) := fun b1 h1 z _ _ X Y Q q => by
  cases X; cases Y
  refine ⟨rfl, ?_⟩
  have e : decide (V.str x = V.str y) = decide (x = y) := by
    by_cases h : x = y
    · rw [h, decide_eq_true rfl, decide_eq_true rfl]
    · rw [decide_eq_false h, decide_eq_false fun z => h (V.str.inj z)]
  rw [e]
  exact q _ b1 h1 (Fr.rfl' z) (.bl _)
theorem rv_eqN : RvD K rEq .none .none (.bool true) := fun b1 h1 z _ _ X Y Q q => by
  cases X; cases Y
  exact ⟨rfl, q _ b1 h1 (Fr.rfl' z) (.bl _)⟩
theorem rv_isN {c : Bool} (h : ∀ b v, Da K b v d → decide (v = .non) = c) : RvD K (fun x y H Q => y = .non ∧ Q (.bl (decide (x = .non))) H) d .none (.bool c) := fun b1 h1 z _ _ X Y Q q => by
  cases Y
  refine ⟨rfl, ?_⟩
  rw [h _ _ X]
  exact q _ b1 h1 (Fr.rfl' z) (.bl _)
theorem rv_isNot {c : Bool} (h : ∀ b v, Da K b v d → decide (v = .non) = c) : RvD K (fun x y H Q => y = .non ∧ Q (.bl (!decide (x = .non))) H) d .none (.bool (!c)) := fun b1 h1 z _ _ X Y Q q => by
  cases Y
  refine ⟨rfl, ?_⟩
  rw [h _ _ X]
  exact q _ b1 h1 (Fr.rfl' z) (.bl _)
/-- == of data, != of data -/
theorem rv_eqD (h1 : SeqAt.shaped d1 = true) (h2 : SeqAt.shaped d2 = true) : RvD K (rEqD K) d1 d2 (.bool (PyData.eqv d1 d2)) := fun b1 h0 z x y X Y Q q =>
  ⟨d1, d2, (X.mono z).dp, (Y.mono z).dp, h1, h2, q _ b1 h0 (Fr.rfl' z) (.bl _)⟩
theorem rv_neD (h1 : SeqAt.shaped d1 = true) (h2 : SeqAt.shaped d2 = true) : RvD K (rNeD K) d1 d2 (.bool (!PyData.eqv d1 d2)) := fun b1 h0 z x y X Y Q q =>
  ⟨d1, d2, (X.mono z).dp, (Y.mono z).dp, h1, h2, q _ b1 h0 (Fr.rfl' z) (.bl _)⟩
theorem rv_or1 (h : RvD K r d1 d2 d) : RvD K (fun x y H Q => r x y H Q ∨ r' x y H Q) d1 d2 d := fun b1 h1 z x y X Y Q q => .inl (h b1 h1 z x y X Y Q q)
theorem rv_or2 (h : RvD K r' d1 d2 d) : RvD K (fun x y H Q => r x y H Q ∨ r' x y H Q) d1 d2 d := fun b1 h1 z x y X Y Q q => .inr (h b1 h1 z x y X Y Q q)
theorem rv_ixT {ds : List PyData} (h : atI ds i = some d) : RvD K (rIx K) (.tuple ds) (.int i) d := fun b1 h1 z x y X Y Q q => by
  cases Y
  cases X with
  | tup s a =>
    obtain ⟨k, g1, g2⟩ := Option.bind_eq_some_iff.mp (show (ixN ds.length i).bind (fun j => ds[j]?) = some d from h)
    obtain ⟨v, w1, w2⟩ := a.get g2
    refine .inr (.inl ⟨_, _, i, v, rfl, rfl, sqT_mono z s, ?_, q v b1 h1 (Fr.rfl' z) w2⟩)
    unfold atI
    rw [a.length, g1]
    exact w1
theorem rv_ixL {ds : List PyData} (h : atI ds i = some d) : RvD K (rIx K) (.list ds) (.int i) d := fun b1 h1 z x y X Y Q q => by
  cases Y
  cases X with
  | lst s a =>
    obtain ⟨k, g1, g2⟩ := Option.bind_eq_some_iff.mp (show (ixN ds.length i).bind (fun j => ds[j]?) = some d from h)
    obtain ⟨v, w1, w2⟩ := a.get g2
    refine .inl ⟨_, _, i, v, rfl, rfl, .inl (.inl (z _ _ s)), ?_, q v b1 h1 (Fr.rfl' z) w2⟩
    unfold atI
    rw [a.length, g1]
    exact w1
theorem rv_catL {ds es : List PyData} (hz : ds.length + es.length ≤ 100000) : RvD K rCat (.list ds) (.list es) (.list (ds ++ es)) := fun b1 h1 z x y X Y Q q => by
  cases X with
  | lst s a =>
    cases Y with
    | lst s2 a2 =>
      refine ⟨_, _, _, _, rfl, rfl, z _ _ s, z _ _ s2, ?_, fun p hp => ?_⟩
      · rw [a.length, a2.length]; exact Nat.le_trans hz (by decide)
      · exact q _ (upd b1 p (.lst _)) _ (Fr.laid z hp) (.lst upd_same ((a.append a2).mono (Fr.laid (B := []) z hp).base))
theorem rv_catT {ds es : List PyData} (h1 : ds ≠ []) (h2 : es ≠ []) (hz : ds.length + es.length ≤ 100000) : RvD K (rCatT K) (.tuple ds) (.tuple es) (.tuple (ds ++ es)) := fun b1 h0 z x y X Y Q q => by
  cases X with
  | tup s a =>
    cases Y with
    | tup s2 a2 =>
      refine ⟨_, _, _, _, rfl, rfl, sqT_mono z s, sqT_mono z s2, ?_, ?_, fun e => ?_, fun _ p hp => ?_⟩
      · intro e; subst e; cases a; exact h1 rfl
      · rw [a.length, a2.length]; exact Nat.le_trans hz (by decide)
      · subst e; cases a2; exact absurd rfl h2
      · exact q _ (upd b1 p (.tup _)) _ (Fr.laid z hp) (.tup (.inl (.inl upd_same)) ((a.append a2).mono (Fr.laid (B := []) z hp).base))
theorem d_tup {tA : TA} {ds : List PyData} (h : EvDs K tA σ b ds) (hl : ds.length ≤ 100000) : EvD K (tTup tA) σ b (.tuple ds) := fun b1 h1 s z Q q =>
  h b1 h1 s z _ fun vs b2 h2 F D => ⟨Nat.le_trans (by rw [D.length]; exact hl) (by decide), fun p hp =>
    q _ (upd b2 p (.tup vs)) _ (F.trans (Fr.laid F.sub hp)) (.tup (.inl (.inl upd_same)) (D.mono (Fr.laid (B := []) (o := .tup vs) F.sub hp).base))⟩
theorem d_lst {tA : TA} {ds : List PyData} (h : EvDs K tA σ b ds) (hl : ds.length ≤ 100000) : EvD K (tLst tA) σ b (.list ds) := fun b1 h1 s z Q q =>
  h b1 h1 s z _ fun vs b2 h2 F D => ⟨Nat.le_trans (by rw [D.length]; exact hl) (by decide), fun p hp =>
    q _ (upd b2 p (.lst vs)) _ (F.trans (Fr.laid F.sub hp)) (.lst upd_same (D.mono (Fr.laid (B := []) (o := .lst vs) F.sub hp).base))⟩
theorem ds_nil : EvDs K tNil σ b [] := fun b1 h1 _ z Q q => q _ b1 h1 (Fr.rfl' z) .nil
theorem ds_cons {tr : TA} {ds : List PyData} (h : EvD K te σ b d) (hr : EvDs K tr σ b ds) : EvDs K (tCons te tr) σ b (d :: ds) := fun b1 h1 s z Q q =>
  h b1 h1 s z _ fun v b2 h2 F D => hr b2 h2 (s.trans F.base) F.sub _ fun vs b3 h3 F2 D2 => q _ b3 h3 (F.trans F2) (.cons (D.mono F2.base) D2)
theorem d_cb {r : List V → Hp → VK → Prop} {tA : TA} {ds : List PyData} (h : EvDs K tA σ b ds) (hr : RcD K r ds d) : EvD K (tCB r tA) σ b d := fun b1 h1 s z Q q =>
  h b1 h1 s z _ fun vs b2 h2 F D => hr b2 h2 F.sub vs D Q fun v b3 h3 F2 D2 => q v b3 h3 (F.trans F2) D2
theorem d_un {r : V → Hp → VK → Prop} (h : EvD K te σ b d1) (hr : ∀ b1 h1, Same b1 h1 → ∀ x, Da K b1 x d1 → ∀ Q : VK, (∀ v b2 h2, Fr [] b1 h1 b2 h2 → Da K b2 v d → Q v h2) → r x h1 Q) : EvD K (tUn r te) σ b d := fun b1 h1 s z Q q =>
  h b1 h1 s z _ fun x b2 h2 F D => hr b2 h2 F.sub x D Q fun v b3 h3 F2 D2 => q v b3 h3 (F.trans F2) D2
theorem d_neg (h : EvD K te σ b (.int i)) : EvD K (tUn (rU fun i => .int (-i)) te) σ b (.int (-i)) := d_un h fun b1 h1 z x X Q q => by
  cases X
  exact ⟨i, rfl, q _ b1 h1 (Fr.rfl' z) (.int _)⟩
/-! tests -/
theorem b_B {c : Bool} (h : EvD K te σ b (.bool c)) : EvB (tB te) σ b c := fun b1 h1 s z Q q => h b1 h1 s z _ fun v b2 h2 F D => by
  cases D
  exact ⟨c, rfl, q b2 h2 F⟩
theorem b_test {c : Bool} (h : EvD K te σ b (.bool c)) : EvB (tTest te) σ b c := fun b1 h1 s z Q q => h b1 h1 s z _ fun v b2 h2 F D => by
  cases D
  exact ⟨c, rfl, q b2 h2 F⟩
theorem b_and {x y : Bool} (h1 : EvB t σ b x) (h2 : x = true → EvB u σ b y) : EvB (tAnd t u) σ b (x && y) := fun b1 g1 s z Q q => h1 b1 g1 s z _ fun b2 g2 F => by
  cases x with
  | true => exact h2 rfl b2 g2 (s.trans F.base) F.sub Q fun b3 g3 F2 => q b3 g3 (F.trans F2)
  | false => exact q b2 g2 F
theorem b_or {x y : Bool} (h1 : EvB t σ b x) (h2 : x = false → EvB u σ b y) : EvB (tOr t u) σ b (x || y) := fun b1 g1 s z Q q => h1 b1 g1 s z _ fun b2 g2 F => by
  cases x with
  | true => exact q b2 g2 F
  | false => exact h2 rfl b2 g2 (s.trans F.base) F.sub Q fun b3 g3 F2 => q b3 g3 (F.trans F2)
theorem b_not {x : Bool} (h : EvB t σ b x) : EvB (tNot t) σ b (!x) := fun b1 g1 s z Q q => h b1 g1 s z _ fun b2 g2 F => q b2 g2 F
theorem d_andV {x y : Bool} (h1 : EvD K ta σ b (.bool x)) (h2 : x = true → EvD K tb σ b (.bool y)) : EvD K (tAndV ta tb) σ b (.bool (x && y)) := fun b1 g1 s z Q q => h1 b1 g1 s z _ fun v b2 g2 F D => by
  cases D
  refine ⟨x, rfl, ?_⟩
  cases x with
  | true => exact h2 rfl b2 g2 (s.trans F.base) F.sub Q fun v b3 g3 F2 D2 => q v b3 g3 (F.trans F2) D2
  | false => exact q _ b2 g2 F (.bl _)
theorem d_orV {x y : Bool} (h1 : EvD K ta σ b (.bool x)) (h2 : x = false → EvD K tb σ b (.bool y)) : EvD K (tOrV ta tb) σ b (.bool (x || y)) := fun b1 g1 s z Q q => h1 b1 g1 s z _ fun v b2 g2 F D => by
  cases D
  refine ⟨x, rfl, ?_⟩
  cases x with
  | true => exact q _ b2 g2 F (.bl _)
  | false => exact h2 rfl b2 g2 (s.trans F.base) F.sub Q fun v b3 g3 F2 D2 => q v b3 g3 (F.trans F2) D2
theorem d_notV {x : Bool} (h1 : EvD K ta σ b (.bool x)) : EvD K (tNotV ta) σ b (.bool (!x)) := fun b1 g1 s z Q q => h1 b1 g1 s z _ fun v b2 g2 F D => by
  cases D
  exact ⟨x, rfl, q _ b2 g2 F (.bl _)⟩
theorem d_if {c : Bool} (h : EvB t σ b c) (h1 : c = true → EvD K ta σ b d) (h2 : c = false → EvD K tb σ b d) : EvD K (tIf t ta tb) σ b d := fun b1 g1 s z Q q => h b1 g1 s z _ fun b2 g2 F => by
  cases c with
  | true => exact h1 rfl b2 g2 (s.trans F.base) F.sub Q fun v b3 g3 F2 D2 => q v b3 g3 (F.trans F2) D2
  | false => exact h2 rfl b2 g2 (s.trans F.base) F.sub Q fun v b3 g3 F2 D2 => q v b3 g3 (F.trans F2) D2
theorem d_chain {x y : Bool} (ha : EvD K ta σ b d1) (hb : EvD K tb σ b d2) (hc : EvD K tc σ b d3) (hr : RvD K r d1 d2 (.bool x)) (hr' : RvD K r' d2 d3 (.bool y)) : EvD K (tChain r r' ta tb tc) σ b (.bool (x && y)) := fun b1 h1 s z Q q =>
  ha b1 h1 s z _ fun v1 b2 h2 F1 D1 => hb b2 h2 (s.trans F1.base) F1.sub _ fun v2 b3 h3 F2 D2 => hr b3 h3 F2.sub v1 v2 (D1.mono F2.base) D2 _ fun w b4 h4 F3 D3 => by
    cases D3
    refine ⟨x, rfl, ?_⟩
    cases x with
    | true => exact hc b4 h4 (((s.trans F1.base).trans F2.base).trans F3.base) F3.sub _ fun v3 b5 h5 F4 D4 => hr' b5 h5 F4.sub v2 v3 (D2.mono (F3.base.trans F4.base)) D4 Q fun v b6 h6 F5 D5 => q v b6 h6 ((((F1.trans F2).trans F3).trans F4).trans F5) D5
    | false => exact q _ b4 h4 ((F1.trans F2).trans F3) (.bl _)
/-! pieces of slices -/
theorem o_none : EvO tNoPart σ b none := fun b1 h1 _ z Q q => q b1 h1 (Fr.rfl' z)
theorem o_some (h : EvD K te σ b (.int i)) : EvO (tPart te) σ b (some i) := fun b1 h1 s z Q q => h b1 h1 s z _ fun v b2 h2 F D => by
  cases D
  exact ⟨i, rfl, q b2 h2 F⟩
/-! calls of defs that change nothing -/
def spD (K : PySem.W.Frag) (R : List PyData → PyData → Prop) : Sp := fun vs H Q _ => ∃ b ds d, Same b H ∧ DaAll K b vs ds ∧ R ds d ∧ ∀ v b2 h2, Fr [] b H b2 h2 → Da K b2 v d → Q v h2
theorem d_call {R : List PyData → PyData → Prop} {E : XK} {tA : TA} {ds : List PyData} (h : EvDs K tA σ b ds) (hr : R ds d) : EvD K (tCall (spD K R) [] E tA) σ b d := fun b1 h1 s z Q q =>
  h b1 h1 s z _ fun vs b2 h2 F D => by
    show spD K R (vs ++ []) h2 Q E
    rw [List.append_nil]
    exact ⟨b2, ds, d, F.sub, D, hr, fun v b3 h3 F2 D2 => q v b3 h3 (F.trans F2) D2⟩
end
end DV

namespace DV
open PySem L2
section
variable {K : PySem.W.Frag} {σ : St} {b b' : Hp} {te ta tb tc : TE} {d d1 d2 d3 : PyData} {Δ : List SD} {t u : TT} {r r' : R2} {i j : Int}
theorem b_yes : EvB tYes σ b true := fun b1 h1 _ z Q q => q b1 h1 (Fr.rfl' z)
/-! built-ins -/
theorem rc_lenL {ds : List PyData} : RcD K (fun xs H Q => ∃ x n, xs = [x] ∧ LenV K x H n ∧ Q (.int n) H) [.list ds] (.int ds.length) := fun b1 h1 z xs X Q q => by
  cases X with
  | cons x r =>
    cases r
    cases x with
    | lst s a => exact ⟨_, ds.length, rfl, .inl ⟨_, .inl (.inl (z _ _ s)), a.length.symm⟩, q _ b1 h1 (Fr.rfl' z) (.int _)⟩
theorem rc_lenT {ds : List PyData} : RcD K (fun xs H Q => ∃ x n, xs = [x] ∧ LenV K x H n ∧ Q (.int n) H) [.tuple ds] (.int ds.length) := fun b1 h1 z xs X Q q => by
  cases X with
  | cons x r =>
    cases r
    cases x with
    | tup s a => exact ⟨_, ds.length, rfl, .inr ⟨_, sqT_mono z s, a.length.symm⟩, q _ b1 h1 (Fr.rfl' z) (.int _)⟩
theorem rc_lenS {x : Str} (h : x.length ≤ sizeLine) : RcD K (fun xs H Q => ∃ x n, xs = [x] ∧ LenV K x H n ∧ Q (.int n) H) [.str x] (.int x.length) := fun b1 h1 z xs X Q q => by
  cases X with
  | cons y r =>
    cases r
    cases y
    exact ⟨_, x.length, rfl, ⟨h, rfl⟩, q _ b1 h1 (Fr.rfl' z) (.int _)⟩
theorem rc_all {bs : List Bool} : RcD K (rAll K) [.list (bs.map .bool)] (.bool (bs.all id)) := fun b1 h1 z xs X Q q => by
  cases X with
  | cons x r =>
    cases r
    cases x with
    | lst s a =>
      rw [a.bools] at s
      exact ⟨_, bs, rfl, .inl (.inl (z _ _ s)), q _ b1 h1 (Fr.rfl' z) (.bl _)⟩
theorem rc_max : RcD K (fun xs H Q => ∃ i j, xs = [.int i, .int j] ∧ Q (.int (if j > i then j else i)) H) [.int i, .int j] (.int (max i j)) := fun b1 h1 z xs X Q q => by
  cases X with
  | cons x r =>
    cases r with
    | cons y r =>
      cases r; cases x; cases y
      refine ⟨i, j, rfl, q _ b1 h1 (Fr.rfl' z) ?_⟩
      have e : (if j > i then j else i) = max i j := by rw [Int.max_def]; split <;> split <;> omega
      rw [e]
      exact .int _
theorem rc_min : RcD K (fun xs H Q => ∃ i j, xs = [.int i, .int j] ∧ Q (.int (if j < i then j else i)) H) [.int i, .int j] (.int (min i j)) := fun b1 h1 z xs X Q q => by
  cases X with
  | cons x r =>
    cases r with
    | cons y r =>
      cases r; cases x; cases y
      refine ⟨i, j, rfl, q _ b1 h1 (Fr.rfl' z) ?_⟩
      have e : (if j < i then j else i) = min i j := by rw [Int.min_def]; split <;> split <;> omega
      rw [e]
      exact .int _
theorem rc_abs : RcD K (fun xs H Q => ∃ i, xs = [.int i] ∧ Q (.int (if i < 0 then -i else i)) H) [.int i] (.int (if i < 0 then -i else i)) := fun b1 h1 z xs X Q q => by
  cases X with
  | cons x r => cases r; cases x; exact ⟨i, rfl, q _ b1 h1 (Fr.rfl' z) (.int _)⟩
theorem rc_int : RcD K (fun xs H Q => (∃ i, xs = [.int i] ∧ Q (.int i) H) ∨ ∃ k, xs = [.bl k] ∧ Q (.int (if k then 1 else 0)) H) [.int i] (.int i) := fun b1 h1 z xs X Q q => by
  cases X with
  | cons x r => cases r; cases x; exact .inl ⟨i, rfl, q _ b1 h1 (Fr.rfl' z) (.int _)⟩
theorem rc_intB {k : Bool} : RcD K (fun xs H Q => (∃ i, xs = [.int i] ∧ Q (.int i) H) ∨ ∃ k, xs = [.bl k] ∧ Q (.int (if k then 1 else 0)) H) [.bool k] (.int (if k then 1 else 0)) := fun b1 h1 z xs X Q q => by
  cases X with
  | cons x r => cases r; cases x; exact .inr ⟨k, rfl, q _ b1 h1 (Fr.rfl' z) (.int _)⟩
theorem rc_tupL {ds : List PyData} : RcD K (fun xs H Q => ∃ p ys, xs = [.ref p] ∧ ((SqL K H p ys ∧ ∀ l, H l = none → Q (.ref l) (upd H l (.tup ys))) ∨ (SqT K H p ys ∧ Q (.ref p) H))) [.list ds] (.tuple ds) := fun b1 h1 z xs X Q q => by
  cases X with
  | cons x r =>
    cases r
    cases x with
    | lst s a =>
      refine ⟨_, _, rfl, .inl ⟨.inl (.inl (z _ _ s)), fun l hl => ?_⟩⟩
      exact q _ (upd b1 l (.tup _)) _ (Fr.laid z hl) (.tup (.inl (.inl upd_same)) (a.mono (Fr.laid (B := []) z hl).base))
theorem rc_tupT {ds : List PyData} : RcD K (fun xs H Q => ∃ p ys, xs = [.ref p] ∧ ((SqL K H p ys ∧ ∀ l, H l = none → Q (.ref l) (upd H l (.tup ys))) ∨ (SqT K H p ys ∧ Q (.ref p) H))) [.tuple ds] (.tuple ds) := fun b1 h1 z xs X Q q => by
  cases X with
  | cons x r =>
    cases r
    cases x with
    | tup s a => exact ⟨_, _, rfl, .inr ⟨sqT_mono z s, q _ b1 h1 (Fr.rfl' z) (.tup s a)⟩⟩
theorem rc_listT {ds : List PyData} : RcD K (fun xs H Q => ∃ p ys, xs = [.ref p] ∧ (SqL K H p ys ∨ SqT K H p ys) ∧ ∀ l, H l = none → Q (.ref l) (upd H l (.lst ys))) [.tuple ds] (.list ds) := fun b1 h1 z xs X Q q => by
  cases X with
  | cons x r =>
    cases r
    cases x with
    | tup s a =>
      refine ⟨_, _, rfl, .inr (sqT_mono z s), fun l hl => ?_⟩
      exact q _ (upd b1 l (.lst _)) _ (Fr.laid z hl) (.lst upd_same (a.mono (Fr.laid (B := []) z hl).base))
theorem rc_listL {ds : List PyData} : RcD K (fun xs H Q => ∃ p ys, xs = [.ref p] ∧ (SqL K H p ys ∨ SqT K H p ys) ∧ ∀ l, H l = none → Q (.ref l) (upd H l (.lst ys))) [.list ds] (.list ds) := fun b1 h1 z xs X Q q => by
  cases X with
  | cons x r =>
    cases r
    cases x with
    | lst s a =>
      refine ⟨_, _, rfl, .inl (.inl (.inl (z _ _ s))), fun l hl => ?_⟩
      exact q _ (upd b1 l (.lst _)) _ (Fr.laid z hl) (.lst upd_same (a.mono (Fr.laid (B := []) z hl).base))
/-! isinstance -/
def tyN : PyData → String
  | .none => "NoneType" | .bool _ => "bool" | .int _ => "int" | .str _ => "str" | .list _ => "list" | .tuple _ => "tuple" | .dict _ => "dict"
theorem tyx_of {v : V} (h : Da K b v d) : TyX K b v (.type (tyN d)) := by
  cases h with
  | non => exact .base .non
  | bl x => exact .base (.bl x)
  | int x => exact .base (.int x)
  | str x => exact .base (.str x)
  | lst s a => exact .base (.lst s)
  | tup s a =>
    rcases s with (s | ⟨o, s⟩) | ⟨o, its, n, e, c, _⟩
    · exact .base (.tup s)
    · exact .fTuple s
    · exact .kTuple e c
theorem d_isi {T : String} {r : Bool} (h : EvD K te σ b d) (hk : kitB (tyN d) T = some r) : EvD K (tCB (rIsi K) (tCons te (tCons (tC (.ty T)) tNil))) σ b (.bool r) := fun b1 h1 s z Q q =>
  h b1 h1 s z _ fun v b2 h2 F D => ⟨v, .ty T, _, _, r, rfl, .ty T, tyx_of (D.mono F.sub), kit_ty hk, q _ b2 h2 F (.bl r)⟩
theorem d_isi2 {T U : String} {r1 r2 : Bool} (h : EvD K te σ b d) (h1 : kitB (tyN d) T = some r1) (h2 : kitB (tyN d) U = some r2) :
    EvD K (tCB (rIsiT K) (tCons te (tCons (tTup (tCons (tC (.ty T)) (tCons (tC (.ty U)) tNil))) tNil))) σ b (.bool (r1 || r2)) := fun b1 g1 s z Q q =>
  h b1 g1 s z _ fun v b2 g2 F D => ⟨by show 2 ≤ sizeLine; decide, fun p hp => by
    have F2 : Fr [] b2 g2 (upd b2 p (.tup [.ty T, .ty U])) (upd g2 p (.tup [.ty T, .ty U])) := Fr.laid F.sub hp
    refine ⟨v, p, [.ty T, .ty U], _, [.type T, .type U], r1 || r2, rfl, upd_same, .cons (.ty T) (.cons (.ty U) .nil), tyx_of ((D.mono F2.base).mono F2.sub), ?_, q _ _ _ (F.trans F2) (.bl _)⟩
    refine kitAny_cons (kit_ty h1) (fun e => ?_) (fun e => by rw [e]; rfl)
    subst e
    refine kitAny_cons (kit_ty h2) (fun e => ?_) (fun e => by rw [e]; rfl)
    subst e
    exact kitAny_nil⟩
/-! comprehensions -/
def upto (f : PyData → Bool) (g : PyData → PyData) (ds : List PyData) (n : Nat) : List PyData := ((ds.take n).filter f).map g
theorem upto_yes {f : PyData → Bool} {g : PyData → PyData} {ds : List PyData} {n : Nat} (h : ds[n]? = some d) (hf : f d = true) : upto f g ds (n + 1) = upto f g ds n ++ [g d] := by
  unfold upto
  rw [List.take_add_one, h, List.filter_append, List.map_append]
  simp [hf]
theorem upto_no {f : PyData → Bool} {g : PyData → PyData} {ds : List PyData} {n : Nat} (h : ds[n]? = some d) (hf : f d = false) : upto f g ds (n + 1) = upto f g ds n := by
  unfold upto
  rw [List.take_add_one, h, List.filter_append, List.map_append]
  simp [hf]
theorem upto_len (f : PyData → Bool) (g : PyData → PyData) (ds : List PyData) (n : Nat) : (upto f g ds n).length ≤ ds.length := by
  unfold upto
  rw [List.length_map]
  exact Nat.le_trans (List.length_filter_le _ _) (by rw [List.length_take]; omega)
def Cv (K : PySem.W.Frag) (b h : Hp) (es : Nat → List PyData) (Dl : Addr) (n : Nat) (h' : Hp) : Prop := h Dl = none ∧ ∃ b' acc, Fr [] b h b' h' ∧ b' Dl = none ∧ h' Dl = some (.lst acc) ∧ DaAll K b' acc (es n)
theorem cv_0 {h : Hp} {es : Nat → List PyData} {Dl : Addr} (z : Same b h) (hD : h Dl = none) (h0 : es 0 = []) : Cv K b h es Dl 0 (upd h Dl (.lst [])) :=
  ⟨hD, b, [], Fr.fresh z hD, z.free hD, upd_same, by rw [h0]; exact .nil⟩
theorem cv_turn {h h' : Hp} {es : Nat → List PyData} {Dl : Addr} {n : Nat} {σ2 : St} {f : Bool} (p : Cv K b h es Dl n h')
    (ht : ∀ b2, Fr [] b h b2 h' → EvB t σ2 b2 f) (he : ∀ b2, Fr [] b h b2 h' → f = true → ∃ d, EvD K te σ2 b2 d ∧ es (n + 1) = es n ++ [d]) (hn : f = false → es (n + 1) = es n) (hl : (es n).length < 100000) :
    t σ2 h' fun c h3 => if c = true then te σ2 h3 fun y h4 => ∃ acc, h4 Dl = some (.lst acc) ∧ acc.length < sizeLine ∧ Cv K b h es Dl (n + 1) (upd h4 Dl (.lst (acc ++ [y]))) else Cv K b h es Dl (n + 1) h3 := by
  obtain ⟨hD, b', acc, F, bD, hA, DA⟩ := p
  refine ht b' F b' h' (Same.refl b') F.sub _ fun b3 h3 F3 => ?_
  have a3 : h3 Dl = some (.lst acc) := F3.keep Dl _ bD (by intro q; cases q) hA
  have n3 : b3 Dl = none := F3.out Dl bD (by rw [hA]; rfl)
  cases f with
  | true =>
    obtain ⟨d, hd, e⟩ := he b' F rfl
    refine hd b3 h3 F3.base F3.sub _ fun y b4 h4 F4 D4 => ⟨acc, F4.keep Dl _ n3 (by intro q; cases q) a3, ?_, hD, b4, acc ++ [y], ?_, ?_, upd_same, ?_⟩
    · rw [DA.length]; exact Nat.lt_of_lt_of_le hl (by decide)
    · exact ((F.trans F3).trans F4).new (Fr.mut F4.sub (F4.out Dl n3 (by rw [a3]; rfl))) fun a m => .inr (by
        have : a = Dl := by simpa using m
        rw [this]; exact hD)
    · exact F4.out Dl n3 (by rw [a3]; rfl)
    · rw [e]
      exact (DA.mono (F3.base.trans F4.base)).append (.cons D4 .nil)
  | false =>
    exact ⟨hD, b3, acc, F.trans F3, n3, a3, by rw [hn rfl]; exact DA.mono F3.base⟩
theorem wipe1 {v : Nat} {x : Option V} : wipe ((wipe σ [v]).set v x) [v] = wipe σ [v] := by
  show ((σ.set v none).set v x).set v none = σ.set v none
  rw [List.set_set, List.set_set]
theorem d_lcL {tl : TE} {n : Nat} {vs : List Nat} {ds : List PyData} (f : PyData → Bool) (g : PyData → PyData) (S : Slots K b σ Δ) (h : EvD K tl σ b (.list ds)) (hz : ds.length ≤ 90000) (hw : ∀ x, wipe ((wipe σ vs).set n (some x)) vs = wipe σ vs)
    (ht : ∀ (m : Nat) d σ2 b2, ds[m]? = some d → Same b b2 → Slots K b2 σ2 ((wipeD Δ vs).set n (.dat d)) → EvB t σ2 b2 (f d) ∧ (f d = true → EvD K te σ2 b2 (g d))) :
    EvD K (tLc (iList K tl) (gName n) t te vs) σ b (.list ((ds.filter f).map g)) := fun b1 h1 s z Q q =>
  h b1 h1 s z _ fun v b2 h2 F D => by
    cases D with
    | @lst a xs _ sa da =>
      refine ⟨a, rfl, ⟨xs, .inl (.inl (F.sub _ _ sa))⟩, fun Dl hD => ?_⟩
      refine lc_list (xs := xs) (Cv K b2 h2 (upto f g ds) Dl) (cv_0 F.sub hD (by unfold upto; rfl)) (fun i H' _ p => ?_) (fun i x H' hi p => ⟨hw x, ?_⟩) (fun H' p => ?_)
      · obtain ⟨_, b', acc, F2, _⟩ := p
        exact .inl (.inl (F2.sub _ _ (F2.base _ _ sa)))
      · obtain ⟨d, e, dd⟩ := da.at hi
        have hl : (upto f g ds i).length < 100000 := by have := upto_len f g ds i; omega
        have SS : ∀ b3, Fr [] b2 h2 b3 H' → EvB t ((wipe σ vs).set n (some x)) b3 (f d) ∧ (f d = true → EvD K te ((wipe σ vs).set n (some x)) b3 (g d)) := fun b3 F3 =>
          ht i d _ b3 e ((s.trans F.base).trans F3.base) (((S.mono ((s.trans F.base).trans F3.base)).wipe vs).set (z := .dat d) ⟨x, rfl, dd.mono F3.base⟩ n)
        exact cv_turn p (fun b3 F3 => (SS b3 F3).1) (fun b3 F3 hf => ⟨g d, (SS b3 F3).2 hf, upto_yes e hf⟩) (fun hf => upto_no e hf) hl
      · obtain ⟨_, b', acc, F2, bD, hA, DA⟩ := p
        have e : upto f g ds xs.length = (ds.filter f).map g := by unfold upto; rw [da.length, List.take_length]
        rw [e] at DA
        obtain ⟨s1, s2⟩ := Fr.seal F2.sub bD hA
        refine q (.ref Dl) (upd b' Dl (.lst acc)) H' (F.trans ⟨F2.base.trans s1, s2, fun c n m => ?_, F2.keep, F2.live⟩) (.lst upd_same (DA.mono s1))
        have hc : c ≠ Dl := by intro e; subst e; rw [hD] at m; cases m
        rw [upd_ne hc]
        exact F2.out c n m
theorem d_lcT {tl : TE} {n : Nat} {vs : List Nat} {ds : List PyData} (f : PyData → Bool) (g : PyData → PyData) (S : Slots K b σ Δ) (h : EvD K tl σ b (.tuple ds)) (hz : ds.length ≤ 90000) (hw : ∀ x, wipe ((wipe σ vs).set n (some x)) vs = wipe σ vs)
    (ht : ∀ (m : Nat) d σ2 b2, ds[m]? = some d → Same b b2 → Slots K b2 σ2 ((wipeD Δ vs).set n (.dat d)) → EvB t σ2 b2 (f d) ∧ (f d = true → EvD K te σ2 b2 (g d))) :
    EvD K (tLc (iTup K tl) (gName n) t te vs) σ b (.list ((ds.filter f).map g)) := fun b1 h1 s z Q q =>
  h b1 h1 s z _ fun v b2 h2 F D => by
    cases D with
    | @tup a xs _ sa da =>
      refine ⟨a, rfl, ⟨xs, sqT_mono F.sub sa⟩, fun Dl hD => ?_⟩
      refine lc_tup (xs := xs) (Cv K b2 h2 (upto f g ds) Dl) (cv_0 F.sub hD (by unfold upto; rfl)) (fun i H' _ p => ?_) (fun i x H' hi p => ⟨hw x, ?_⟩) (fun H' p => ?_)
      · obtain ⟨_, b', acc, F2, _⟩ := p
        exact sqT_mono (F2.base.trans F2.sub) sa
      · obtain ⟨d, e, dd⟩ := da.at hi
        have hl : (upto f g ds i).length < 100000 := by have := upto_len f g ds i; omega
        have SS : ∀ b3, Fr [] b2 h2 b3 H' → EvB t ((wipe σ vs).set n (some x)) b3 (f d) ∧ (f d = true → EvD K te ((wipe σ vs).set n (some x)) b3 (g d)) := fun b3 F3 =>
          ht i d _ b3 e ((s.trans F.base).trans F3.base) (((S.mono ((s.trans F.base).trans F3.base)).wipe vs).set (z := .dat d) ⟨x, rfl, dd.mono F3.base⟩ n)
        exact cv_turn p (fun b3 F3 => (SS b3 F3).1) (fun b3 F3 hf => ⟨g d, (SS b3 F3).2 hf, upto_yes e hf⟩) (fun hf => upto_no e hf) hl
      · obtain ⟨_, b', acc, F2, bD, hA, DA⟩ := p
        have e : upto f g ds xs.length = (ds.filter f).map g := by unfold upto; rw [da.length, List.take_length]
        rw [e] at DA
        obtain ⟨s1, s2⟩ := Fr.seal F2.sub bD hA
        refine q (.ref Dl) (upd b' Dl (.lst acc)) H' (F.trans ⟨F2.base.trans s1, s2, fun c n m => ?_, F2.keep, F2.live⟩) (.lst upd_same (DA.mono s1))
        have hc : c ≠ Dl := by intro e; subst e; rw [hD] at m; cases m
        rw [upd_ne hc]
        exact F2.out c n m
def rng (lo : Int) (n : Nat) : List PyData := (List.range n).map fun (i : Nat) => PyData.int (lo + (i : Int))
theorem rng_len (lo : Int) (n : Nat) : (rng lo n).length = n := by unfold rng; rw [List.length_map, List.length_range]
theorem rng_at {lo : Int} {n m : Nat} (h : m < n) : (rng lo n)[m]? = some (.int (lo + (m : Int))) := by
  unfold rng
  rw [List.getElem?_map, List.getElem?_range h]
  rfl
theorem lcR_core {lo : Int} {k n : Nat} {vs : List Nat} (f : PyData → Bool) (g : PyData → PyData) (S : Slots K b σ Δ) (hz : k ≤ 90000) (hw : ∀ x, wipe ((wipe σ vs).set n (some x)) vs = wipe σ vs)
    (ht : ∀ (m : Nat) σ2 b2, m < k → Same b b2 → Slots K b2 σ2 ((wipeD Δ vs).set n (.dat (.int (lo + (m : Int))))) → EvB t σ2 b2 (f (.int (lo + (m : Int)))) ∧ (f (.int (lo + (m : Int))) = true → EvD K te σ2 b2 (g (.int (lo + (m : Int))))))
    {b1 h1 : Hp} (s : Same b b1) (z : Same b1 h1) {Q : VK} (q : ∀ v b2 h2, Fr [] b1 h1 b2 h2 → Da K b2 v (.list (((rng lo k).filter f).map g)) → Q v h2) {b2 h2 : Hp} (F : Fr [] b1 h1 b2 h2) (Dl : Addr) (hD : h2 Dl = none) :
    ∃ W : Nat → Nat → Hp → Prop, (∃ m, W 0 m (upd h2 Dl (.lst []))) ∧ ∀ i m H, W i m H →
      ((Itr lo k).stop i H ∧ Q (.ref Dl) H) ∨ ((Itr lo k).go i H ∧ ∃ Nx : Hp → Prop, (∀ H', Nx H' → ∃ m', m' < m ∧ W (i + 1) m' H') ∧ ∀ x H', (Itr lo k).yld i H x H' → gName n x (wipe σ vs) H' fun σ2 H2 => wipe σ2 vs = wipe σ vs ∧ t σ2 H2 fun b H3 =>
        if b = true then te σ2 H3 fun y H4 => ∃ acc, H4 Dl = some (.lst acc) ∧ acc.length < sizeLine ∧ Nx (upd H4 Dl (.lst (acc ++ [y]))) else Nx H3) := by
  refine lc_range (Cv K b2 h2 (upto f g (rng lo k)) Dl) (cv_0 F.sub hD (by unfold upto; rfl)) (fun i H' hi p => ⟨hw _, ?_⟩) (fun H' p => ?_)
  · have hl : (upto f g (rng lo k) i).length < 100000 := by have := upto_len f g (rng lo k) i; rw [rng_len] at this; omega
    have e := rng_at (lo := lo) hi
    have SS : ∀ b3, Fr [] b2 h2 b3 H' → EvB t ((wipe σ vs).set n (some (.int (lo + (i : Int))))) b3 (f (.int (lo + (i : Int)))) ∧ (f (.int (lo + (i : Int))) = true → EvD K te ((wipe σ vs).set n (some (.int (lo + (i : Int))))) b3 (g (.int (lo + (i : Int))))) := fun b3 F3 =>
      ht i _ b3 hi ((s.trans F.base).trans F3.base) (((S.mono ((s.trans F.base).trans F3.base)).wipe vs).set (z := .dat (.int (lo + (i : Int)))) ⟨_, rfl, .int _⟩ n)
    exact cv_turn p (fun b3 F3 => (SS b3 F3).1) (fun b3 F3 hf => ⟨_, (SS b3 F3).2 hf, upto_yes e hf⟩) (fun hf => upto_no e hf) hl
  · obtain ⟨_, b', acc, F2, bD, hA, DA⟩ := p
    have e : upto f g (rng lo k) k = ((rng lo k).filter f).map g := by
      unfold upto
      rw [show (rng lo k).take k = rng lo k by rw [List.take_of_length_le (by rw [rng_len]; exact Nat.le_refl _)]]
    rw [e] at DA
    obtain ⟨s1, s2⟩ := Fr.seal F2.sub bD hA
    refine q (.ref Dl) (upd b' Dl (.lst acc)) H' (F.trans ⟨F2.base.trans s1, s2, fun c n m => ?_, F2.keep, F2.live⟩) (.lst upd_same (DA.mono s1))
    have hc : c ≠ Dl := by intro e; subst e; rw [hD] at m; cases m
    rw [upd_ne hc]
    exact F2.out c n m
theorem d_lcR1 {tA : TA} {n : Nat} {vs : List Nat} {k : Int} (f : PyData → Bool) (g : PyData → PyData) (S : Slots K b σ Δ) (h : EvDs K tA σ b [.int k]) (hz : k ≤ 90000) (hk : -90000 ≤ k) (hw : ∀ x, wipe ((wipe σ vs).set n (some x)) vs = wipe σ vs)
    (ht : ∀ (m : Nat) σ2 b2, (m : Int) < k → Same b b2 → Slots K b2 σ2 ((wipeD Δ vs).set n (.dat (.int (0 + (m : Int))))) → EvB t σ2 b2 (f (.int (0 + (m : Int)))) ∧ (f (.int (0 + (m : Int))) = true → EvD K te σ2 b2 (g (.int (0 + (m : Int)))))) :
    EvD K (tLc (iRng1 tA) (gName n) t te vs) σ b (.list (((rng 0 k.toNat).filter f).map g)) := fun b1 h1 s z Q q =>
  h b1 h1 s z _ fun v b2 h2 F D => by
    cases D with
    | cons x r =>
      cases r; cases x
      refine ⟨k, rfl, by omega, by omega, fun Dl hD => lcR_core f g S (by omega) hw (fun m σ2 b2 hm => ht m σ2 b2 (by omega)) s z q F Dl hD⟩
theorem d_lcR2 {tA : TA} {n : Nat} {vs : List Nat} {lo k : Int} (f : PyData → Bool) (g : PyData → PyData) (S : Slots K b σ Δ) (h : EvDs K tA σ b [.int lo, .int k]) (hz : k - lo ≤ 90000) (hk : -1000000 ≤ lo ∧ lo ≤ 1000000 ∧ -1000000 ≤ k ∧ k ≤ 1000000) (hw : ∀ x, wipe ((wipe σ vs).set n (some x)) vs = wipe σ vs)
    (ht : ∀ (m : Nat) σ2 b2, lo + (m : Int) < k → Same b b2 → Slots K b2 σ2 ((wipeD Δ vs).set n (.dat (.int (lo + (m : Int))))) → EvB t σ2 b2 (f (.int (lo + (m : Int)))) ∧ (f (.int (lo + (m : Int))) = true → EvD K te σ2 b2 (g (.int (lo + (m : Int)))))) :
    EvD K (tLc (iRng2 tA) (gName n) t te vs) σ b (.list (((rng lo (k - lo).toNat).filter f).map g)) := fun b1 h1 s z Q q =>
  h b1 h1 s z _ fun v b2 h2 F D => by
    cases D with
    | cons x r =>
      cases r with
      | cons y r =>
        cases r; cases x; cases y
        refine ⟨lo, k, rfl, ⟨by omega, by omega, by omega, by omega⟩, fun Dl hD => lcR_core f g S (by omega) hw (fun m σ2 b2 hm => ht m σ2 b2 (by omega)) s z q F Dl hD⟩
end
end DV

namespace DV
open PySem L2
/-! the state of a body: from (b0, h0) on with the things at B changed -/
structure S (K : PySem.W.Frag) (B : List Addr) (b0 h0 : Hp) (σ : St) (b h : Hp) (Δ : List SD) : Prop where
  fr : Fr B b0 h0 b h
  sl : Slots K b σ Δ
section
variable {K : PySem.W.Frag} {B : List Addr} {b0 h0 : Hp} {σ : St} {b b' h : Hp} {te ta tb tc : TE} {d d1 d2 d3 : PyData} {Δ : List SD} {t u : TT} {r r' : R2} {i j : Int} {D : Ends} {tu tw tz : TS}
theorem S.sub (Z : S K B b0 h0 σ b h Δ) : Same b h := Z.fr.sub
theorem S.go {b2 h2 : Hp} (Z : S K B b0 h0 σ b h Δ) (F : Fr [] b h b2 h2) : S K B b0 h0 σ b2 h2 Δ := ⟨Z.fr.trans F.any, Z.sl.mono F.base⟩
theorem S.set {n : Nat} {v : V} {b2 h2 : Hp} (Z : S K B b0 h0 σ b h Δ) (F : Fr [] b h b2 h2) (dd : Da K b2 v d) : S K B b0 h0 (σ.set n (some v)) b2 h2 (Δ.set n (.dat d)) :=
  ⟨Z.fr.trans F.any, (Z.sl.mono F.base).set (z := .dat d) ⟨v, rfl, dd⟩ n⟩
theorem S.init {vs : List V} {ds : List PyData} (e : Same b h) (hd : DaAll K b vs ds) (N : List Str) : S K B b h (start N vs) b h (ds.map .dat ++ List.replicate (N.length - ds.length) .un) := ⟨Fr.rfl' e, Slots.start hd N⟩
theorem s_asg {n : Nat} (Z : S K B b0 h0 σ b h Δ) (he : EvD K te σ b d) (k : ∀ σ2 b2 h2, Fr [] b h b2 h2 → S K B b0 h0 σ2 b2 h2 (Δ.set n (.dat d)) → D.nx σ2 h2) : tAsg te (gName n) D σ h :=
  he.go Z.sub fun v b2 h2 F dd => k _ b2 h2 F (Z.set F dd)
theorem q_asg {n : Nat} (Z : S K B b0 h0 σ b h Δ) (he : EvD K te σ b d) (k : ∀ σ2 b2 h2, Fr [] b h b2 h2 → S K B b0 h0 σ2 b2 h2 (Δ.set n (.dat d)) → tz D σ2 h2) : tSeq (tAsg te (gName n)) tz D σ h :=
  s_asg (D := { D with nx := tz D }) Z he k
theorem s_if {c : Bool} (Z : S K B b0 h0 σ b h Δ) (hb : EvB t σ b c) (h1 : c = true → ∀ b2 h2, Fr [] b h b2 h2 → S K B b0 h0 σ b2 h2 Δ → tu D σ h2) (h2 : c = false → ∀ b2 h2, Fr [] b h b2 h2 → S K B b0 h0 σ b2 h2 Δ → tw D σ h2) : tIfS t tu tw D σ h :=
  hb b h (Same.refl b) Z.sub _ fun b2 g2 F => by
    cases c with
    | true => exact h1 rfl b2 g2 F (Z.go F)
    | false => exact h2 rfl b2 g2 F (Z.go F)
theorem q_if {c : Bool} (Z : S K B b0 h0 σ b h Δ) (hb : EvB t σ b c) (h1 : c = true → ∀ b2 h2, Fr [] b h b2 h2 → S K B b0 h0 σ b2 h2 Δ → tu { D with nx := tz D } σ h2) (h2 : c = false → ∀ b2 h2, Fr [] b h b2 h2 → S K B b0 h0 σ b2 h2 Δ → tw { D with nx := tz D } σ h2) : tSeq (tIfS t tu tw) tz D σ h :=
  s_if (D := { D with nx := tz D }) Z hb h1 h2
/-- an if without else -/
theorem q_when {c : Bool} (Z : S K B b0 h0 σ b h Δ) (hb : EvB t σ b c) (h1 : c = true → ∀ b2 h2, Fr [] b h b2 h2 → S K B b0 h0 σ b2 h2 Δ → tu { D with nx := tz D } σ h2) (h2 : c = false → ∀ b2 h2, Fr [] b h b2 h2 → S K B b0 h0 σ b2 h2 Δ → tz D σ h2) : tSeq (tIfS t tu tNext) tz D σ h :=
  q_if Z hb h1 h2
theorem s_when {c : Bool} (Z : S K B b0 h0 σ b h Δ) (hb : EvB t σ b c) (h1 : c = true → ∀ b2 h2, Fr [] b h b2 h2 → S K B b0 h0 σ b2 h2 Δ → tu D σ h2) (h2 : c = false → ∀ b2 h2, Fr [] b h b2 h2 → S K B b0 h0 σ b2 h2 Δ → D.nx σ h2) : tIfS t tu tNext D σ h :=
  s_if Z hb h1 h2
theorem s_ret (Z : S K B b0 h0 σ b h Δ) (he : EvD K te σ b d) (k : ∀ v b2 h2, Fr B b0 h0 b2 h2 → Da K b2 v d → D.rt v h2) : tRet te D σ h := he.go Z.sub fun v b2 h2 F dd => k v b2 h2 (Z.fr.trans F.any) dd
/-- a, b, c = a tuple -/
theorem g_tup3 {n1 n2 n3 : Nat} {v : V} {Q : St → Hp → Prop} (Z : S K B b0 h0 σ b h Δ) (dd : Da K b v (.tuple [d1, d2, d3])) (k : ∀ σ2, S K B b0 h0 σ2 b h (((Δ.set n1 (.dat d1)).set n2 (.dat d2)).set n3 (.dat d3)) → Q σ2 h) : gTup K 3 (gCons (gName n1) (gCons (gName n2) (gCons (gName n3) gNil))) v σ h Q := by
  cases dd with
  | tup s a =>
    cases a with
    | cons x1 r =>
      cases r with
      | cons x2 r =>
        cases r with
        | cons x3 r =>
          cases r
          exact ⟨_, _, rfl, sqT_mono Z.sub s, rfl, _, _, rfl, _, _, rfl, _, _, rfl, rfl, k _ ⟨Z.fr, ((Z.sl.set (z := .dat d1) ⟨_, rfl, x1⟩ n1).set (z := .dat d2) ⟨_, rfl, x2⟩ n2).set (z := .dat d3) ⟨_, rfl, x3⟩ n3⟩⟩
theorem g_tup2 {n1 n2 : Nat} {v : V} {Q : St → Hp → Prop} (Z : S K B b0 h0 σ b h Δ) (dd : Da K b v (.tuple [d1, d2])) (k : ∀ σ2, S K B b0 h0 σ2 b h ((Δ.set n1 (.dat d1)).set n2 (.dat d2)) → Q σ2 h) : gTup K 2 (gCons (gName n1) (gCons (gName n2) gNil)) v σ h Q := by
  cases dd with
  | tup s a =>
    cases a with
    | cons x1 r =>
      cases r with
      | cons x2 r =>
        cases r
        exact ⟨_, _, rfl, sqT_mono Z.sub s, rfl, _, _, rfl, _, _, rfl, rfl, k _ ⟨Z.fr, (Z.sl.set (z := .dat d1) ⟨_, rfl, x1⟩ n1).set (z := .dat d2) ⟨_, rfl, x2⟩ n2⟩⟩
theorem q_tup3 {n1 n2 n3 : Nat} (Z : S K B b0 h0 σ b h Δ) (he : EvD K te σ b (.tuple [d1, d2, d3])) (k : ∀ σ2 b2 h2, Fr [] b h b2 h2 → S K B b0 h0 σ2 b2 h2 (((Δ.set n1 (.dat d1)).set n2 (.dat d2)).set n3 (.dat d3)) → tz D σ2 h2) :
    tSeq (tAsg te (gTup K 3 (gCons (gName n1) (gCons (gName n2) (gCons (gName n3) gNil))))) tz D σ h :=
  he.go Z.sub fun v b2 h2 F dd => g_tup3 (Z.go F) dd fun σ2 Z2 => k σ2 b2 h2 F Z2
theorem q_tup2 {n1 n2 : Nat} (Z : S K B b0 h0 σ b h Δ) (he : EvD K te σ b (.tuple [d1, d2])) (k : ∀ σ2 b2 h2, Fr [] b h b2 h2 → S K B b0 h0 σ2 b2 h2 ((Δ.set n1 (.dat d1)).set n2 (.dat d2)) → tz D σ2 h2) :
    tSeq (tAsg te (gTup K 2 (gCons (gName n1) (gCons (gName n2) gNil)))) tz D σ h :=
  he.go Z.sub fun v b2 h2 F dd => g_tup2 (Z.go F) dd fun σ2 Z2 => k σ2 b2 h2 F Z2
theorem q_par {n1 n2 : Nat} {tA : TA} (Z : S K B b0 h0 σ b h Δ) (he : EvDs K tA σ b [d1, d2]) (k : ∀ σ2 b2 h2, Fr [] b h b2 h2 → S K B b0 h0 σ2 b2 h2 ((Δ.set n1 (.dat d1)).set n2 (.dat d2)) → tz D σ2 h2) : tSeq (tPar n1 n2 tA) tz D σ h :=
  he b h (Same.refl b) Z.sub _ fun vs b2 h2 F dd => by
    cases dd with
    | cons x1 r =>
      cases r with
      | cons x2 r =>
        cases r
        exact ⟨_, _, rfl, k _ b2 h2 F ⟨Z.fr.trans F.any, ((Z.sl.mono F.base).set (z := .dat d1) ⟨_, rfl, x1⟩ n1).set (z := .dat d2) ⟨_, rfl, x2⟩ n2⟩⟩
theorem s_par {n1 n2 : Nat} {tA : TA} (Z : S K B b0 h0 σ b h Δ) (he : EvDs K tA σ b [d1, d2]) (k : ∀ σ2 b2 h2, Fr [] b h b2 h2 → S K B b0 h0 σ2 b2 h2 ((Δ.set n1 (.dat d1)).set n2 (.dat d2)) → D.nx σ2 h2) : tPar n1 n2 tA D σ h :=
  he b h (Same.refl b) Z.sub _ fun vs b2 h2 F dd => by
    cases dd with
    | cons x1 r =>
      cases r with
      | cons x2 r =>
        cases r
        exact ⟨_, _, rfl, k _ b2 h2 F ⟨Z.fr.trans F.any, ((Z.sl.mono F.base).set (z := .dat d1) ⟨_, rfl, x1⟩ n1).set (z := .dat d2) ⟨_, rfl, x2⟩ n2⟩⟩
theorem s_aug {n : Nat} {f : Int → Int → Int} {x y : Int} (Z : S K B b0 h0 σ b h Δ) (hx : Δ[n]? = some (.dat (.int x))) (he : EvD K te σ b (.int y)) (k : ∀ σ2 b2 h2, Fr [] b h b2 h2 → S K B b0 h0 σ2 b2 h2 (Δ.set n (.dat (.int (f x y)))) → D.nx σ2 h2) : tAug n te (ipI f) D σ h := by
  obtain ⟨w, e1, v, e2, e3⟩ := Z.sl.get hx
  cases e3
  refine ⟨.int x, by rw [e1, e2], he.go Z.sub fun v b2 h2 F dd => ?_⟩
  cases dd
  exact ⟨x, y, rfl, rfl, k _ b2 h2 F (Z.set F (.int _))⟩
/-- a new list that is going to be changed -/
theorem q_new {n : Nat} (Z : S K B b0 h0 σ b h Δ) (k : ∀ p σ2 h2, h p = none → b p = none → h2 p = some (.lst []) → Fr [] b h b h2 → S K B b0 h0 σ2 b h2 (Δ.set n (.adr p)) → tz D σ2 h2) : tSeq (tAsg (tLst tNil) (gName n)) tz D σ h :=
  ⟨Nat.zero_le _, fun p hp => k p _ _ hp (Z.sub.free hp) upd_same (Fr.fresh Z.sub hp) ⟨Z.fr.trans (Fr.fresh Z.sub hp), Z.sl.set (z := .adr p) rfl n⟩⟩
/-- x.append(e) -/
theorem s_app {n : Nat} {p : Addr} {xs : List V} (Z : S K B b0 h0 σ b h Δ) (hs : Δ[n]? = some (.adr p)) (hb : b p = none) (hB : p ∈ B ∨ h0 p = none) (hp : h p = some (.lst xs)) (hl : xs.length < 100000) (he : EvD K te σ b d)
    (k : ∀ v b2 h2 h3, Fr [] b h b2 h2 → Da K b2 v d → b2 p = none → h3 p = some (.lst (xs ++ [v])) → Fr [p] b h b2 h3 → S K B b0 h0 σ b2 h3 Δ → D.nx σ h3) : tDrop (tBM K "list" rAppend (tVar n) (tCons te tNil)) D σ h := by
  obtain ⟨x, e1, e2⟩ := Z.sl.get hs
  cases e2
  refine ⟨.ref p, e1, .inl ⟨rfl, xs, .inl (.inl hp)⟩, he.go Z.sub fun v b2 h2 F dd => ?_⟩
  have h2p : h2 p = some (.lst xs) := F.keep p _ hb (by intro q; cases q) hp
  have b2p : b2 p = none := F.out p hb (by rw [hp]; rfl)
  have M : Fr [p] b h b2 (upd h2 p (.lst (xs ++ [v]))) := (F.any (B := [p])).trans (Fr.mut F.sub b2p)
  refine ⟨p, xs, v, rfl, rfl, h2p, Nat.lt_of_lt_of_le hl (by decide), k v b2 h2 _ F dd b2p upd_same M ⟨Z.fr.new M fun a m => ?_, Z.sl.mono F.base⟩⟩
  have e : a = p := by simpa using m
  rw [e]
  exact hB
theorem q_app {n : Nat} {p : Addr} {xs : List V} (Z : S K B b0 h0 σ b h Δ) (hs : Δ[n]? = some (.adr p)) (hb : b p = none) (hB : p ∈ B ∨ h0 p = none) (hp : h p = some (.lst xs)) (hl : xs.length < 100000) (he : EvD K te σ b d)
    (k : ∀ v b2 h2 h3, Fr [] b h b2 h2 → Da K b2 v d → b2 p = none → h3 p = some (.lst (xs ++ [v])) → Fr [p] b h b2 h3 → S K B b0 h0 σ b2 h3 Δ → tz D σ h3) : tSeq (tDrop (tBM K "list" rAppend (tVar n) (tCons te tNil))) tz D σ h :=
  s_app (D := { D with nx := tz D }) Z hs hb hB hp hl he k
/-- such a list becomes data -/
theorem S.seal {p : Addr} {xs : List V} {ds : List PyData} (Z : S K B b0 h0 σ b h Δ) (hb : b p = none) (h00 : h0 p = none) (hp : h p = some (.lst xs)) (da : DaAll K b xs ds) : S K B b0 h0 σ (upd b p (.lst xs)) h Δ ∧ Da K (upd b p (.lst xs)) (.ref p) (.list ds) := by
  obtain ⟨s1, s2⟩ := Fr.seal Z.sub hb hp
  refine ⟨⟨⟨Z.fr.base.trans s1, s2, fun a n m => ?_, Z.fr.keep, Z.fr.live⟩, Z.sl.mono s1⟩, .lst upd_same (da.mono s1)⟩
  have ha : a ≠ p := by intro e; subst e; rw [h00] at m; cases m
  rw [upd_ne ha]
  exact Z.fr.out a n m
/-- a slot that held its address holds data -/
theorem Slots.turn {p : Addr} : ∀ {σ : St} {Δ : List SD} {n : Nat}, Slots K b σ Δ → Δ[n]? = some (.adr p) → Da K b (.ref p) d → Slots K b σ (Δ.set n (.dat d))
  | _, _, _, .nil, e, _ => by simp at e
  | _, _, 0, .cons h t, e, q => by
    simp at e; subst e
    exact .cons ⟨_, h, q⟩ t
  | _, _, n + 1, .cons h t, e, q => .cons h (Slots.turn (n := n) t (by simpa using e) q)
theorem S.turn {p : Addr} {n : Nat} (Z : S K B b0 h0 σ b h Δ) (hs : Δ[n]? = some (.adr p)) (q : Da K b (.ref p) d) : S K B b0 h0 σ b h (Δ.set n (.dat d)) := ⟨Z.fr, Z.sl.turn hs q⟩
/-! loops -/
theorem q_forR1 {tA : TA} {n : Nat} {m : Int} (Z : S K B b0 h0 σ b h Δ) (he : EvDs K tA σ b [.int m]) (hm : -1000000 ≤ m ∧ m ≤ 1000000) (Pv : Nat → St → Hp → Prop) (hi : ∀ b2 h2, Fr [] b h b2 h2 → S K B b0 h0 σ b2 h2 Δ → Pv 0 σ h2)
    (hs : ∀ (i : Nat) σ' h', (i : Int) < m → Pv i σ' h' → tu { D with nx := Pv (i + 1), ct := Pv (i + 1), bk := tz D } (σ'.set n (some (.int (0 + (i : Int))))) h') (hd : ∀ σ' h', Pv m.toNat σ' h' → tz D σ' h') : tSeq (tFor (iRng1 tA) (gName n) tu) tz D σ h :=
  he b h (Same.refl b) Z.sub _ fun vs b2 h2 F dd => by
    cases dd with
    | cons x r =>
      cases r; cases x
      exact ⟨m, rfl, by omega, by omega, for_range (lo := 0) (n := m.toNat) Pv (hi b2 h2 F (Z.go F)) (fun i σ' h' hi p => hs i σ' h' (by omega) p) hd⟩
theorem q_forR2 {tA : TA} {n : Nat} {lo m : Int} (Z : S K B b0 h0 σ b h Δ) (he : EvDs K tA σ b [.int lo, .int m]) (hm : -1000000 ≤ lo ∧ lo ≤ 1000000 ∧ -1000000 ≤ m ∧ m ≤ 1000000) (Pv : Nat → St → Hp → Prop) (hi : ∀ b2 h2, Fr [] b h b2 h2 → S K B b0 h0 σ b2 h2 Δ → Pv 0 σ h2)
    (hs : ∀ (i : Nat) σ' h', lo + (i : Int) < m → Pv i σ' h' → tu { D with nx := Pv (i + 1), ct := Pv (i + 1), bk := tz D } (σ'.set n (some (.int (lo + (i : Int))))) h') (hd : ∀ σ' h', Pv (m - lo).toNat σ' h' → tz D σ' h') : tSeq (tFor (iRng2 tA) (gName n) tu) tz D σ h :=
  he b h (Same.refl b) Z.sub _ fun vs b2 h2 F dd => by
    cases dd with
    | cons x r =>
      cases r with
      | cons y r =>
        cases r; cases x; cases y
        exact ⟨lo, m, rfl, ⟨by omega, by omega, by omega, by omega⟩, for_range (lo := lo) (n := (m - lo).toNat) Pv (hi b2 h2 F (Z.go F)) (fun i σ' h' hi p => hs i σ' h' (by omega) p) hd⟩
/-- over a list, a tuple of data -/
theorem q_forL {tl : TE} {n : Nat} {ds : List PyData} (Z : S K B b0 h0 σ b h Δ) (he : EvD K tl σ b (.list ds)) (Pv : Nat → St → Hp → Hp → Prop) (hi : ∀ b2 h2, Fr [] b h b2 h2 → S K B b0 h0 σ b2 h2 Δ → Pv 0 σ b2 h2) (hsub : ∀ i σ' b' h', Pv i σ' b' h' → Same b' h')
    (hs : ∀ (bb : Hp) (i : Nat) d σ' b' h' v, Same bb b' → ds[i]? = some d → Pv i σ' b' h' → Da K b' v d → tu { D with nx := fun s g => ∃ b'', Same bb b'' ∧ Pv (i + 1) s b'' g, ct := fun s g => ∃ b'', Same bb b'' ∧ Pv (i + 1) s b'' g, bk := tz D } (σ'.set n (some v)) h') (hd : ∀ σ' b' h', Pv ds.length σ' b' h' → tz D σ' h') : tSeq (tFor (iList K tl) (gName n) tu) tz D σ h :=
  he.go Z.sub fun v b2 h2 F dd => by
    cases dd with
    | @lst a xs _ sa da =>
      refine ⟨a, rfl, ⟨xs, .inl (.inl (F.sub _ _ sa))⟩, for_list (xs := xs) (fun i s g => ∃ b', Same b2 b' ∧ Pv i s b' g) ⟨b2, Same.refl _, hi b2 h2 F (Z.go F)⟩ (fun i s g _ p => ?_) (fun i x s g hx p => ?_) (fun s g p => ?_)⟩
      · obtain ⟨b', e, p⟩ := p
        exact .inl (.inl (hsub _ _ _ _ p _ _ (e _ _ sa)))
      · obtain ⟨b', e, p⟩ := p
        obtain ⟨d, e1, e2⟩ := da.at hx
        exact hs b2 i d s b' g x e e1 p (e2.mono e)
      · obtain ⟨b', e, p⟩ := p
        rw [da.length] at p
        exact hd s b' g p
theorem q_forT {tl : TE} {n : Nat} {ds : List PyData} (Z : S K B b0 h0 σ b h Δ) (he : EvD K tl σ b (.tuple ds)) (Pv : Nat → St → Hp → Hp → Prop) (hi : ∀ b2 h2, Fr [] b h b2 h2 → S K B b0 h0 σ b2 h2 Δ → Pv 0 σ b2 h2) (hsub : ∀ i σ' b' h', Pv i σ' b' h' → Same b' h')
    (hs : ∀ (bb : Hp) (i : Nat) d σ' b' h' v, Same bb b' → ds[i]? = some d → Pv i σ' b' h' → Da K b' v d → tu { D with nx := fun s g => ∃ b'', Same bb b'' ∧ Pv (i + 1) s b'' g, ct := fun s g => ∃ b'', Same bb b'' ∧ Pv (i + 1) s b'' g, bk := tz D } (σ'.set n (some v)) h') (hd : ∀ σ' b' h', Pv ds.length σ' b' h' → tz D σ' h') : tSeq (tFor (iTup K tl) (gName n) tu) tz D σ h :=
  he.go Z.sub fun v b2 h2 F dd => by
    cases dd with
    | @tup a xs _ sa da =>
      refine ⟨a, rfl, ⟨xs, sqT_mono F.sub sa⟩, for_tup (xs := xs) (fun i s g => ∃ b', Same b2 b' ∧ Pv i s b' g) ⟨b2, Same.refl _, hi b2 h2 F (Z.go F)⟩ (fun i s g _ p => ?_) (fun i x s g hx p => ?_) (fun s g p => ?_)⟩
      · obtain ⟨b', e, p⟩ := p
        exact sqT_mono (e.trans (hsub _ _ _ _ p)) sa
      · obtain ⟨b', e, p⟩ := p
        obtain ⟨d, e1, e2⟩ := da.at hx
        exact hs b2 i d s b' g x e e1 p (e2.mono e)
      · obtain ⟨b', e, p⟩ := p
        rw [da.length] at p
        exact hd s b' g p
end
end DV

namespace DV
open PySem L2
section
variable {K : PySem.W.Frag} {B : List Addr} {b0 h0 : Hp} {σ : St} {b b' h : Hp} {te ta tb tc : TE} {d d1 d2 d3 : PyData} {Δ : List SD} {t u : TT} {r r' : R2} {i j : Int} {D : Ends} {tu tw tz : TS}
/-! comprehensions over zip -/
theorem walk_zipT {a c : Addr} {xs ys : List V} {n : Nat} (hn : n = min xs.length ys.length) : Walk (RZ.ItzT K a c) n (fun H => SqT K H a xs ∧ SqT K H c ys) (YPair (fun i => xs[i]?) (fun i => ys[i]?)) := by
  subst hn
  constructor
  · intro m _ lt both
    exact ⟨xs, ys, xs[m]'(by omega), ys[m]'(by omega), both.1, both.2, List.getElem?_eq_getElem _, List.getElem?_eq_getElem _⟩
  · exact fun _ both => ⟨xs, ys, both.1, both.2, by omega⟩
  · rintro m G y G' _ both ⟨P, p, q, e1, e2, e3, e4, e5⟩
    exact ⟨P, p, q, e1, e2, e3, e4 xs both.1, e5 ys both.2⟩
theorem Cv.laid {es : Nat → List PyData} {Dl T : Addr} {n : Nat} {h' : Hp} {o : HO} (p : Cv K b h es Dl n h') (hT : h' T = none) : Cv K b h es Dl n (upd h' T o) := by
  obtain ⟨hD, b', acc, F, bD, hA, DA⟩ := p
  exact ⟨hD, b', acc, F.trans (Fr.fresh F.sub hT), bD, by rw [upd_ne (ne_of_none hA hT)]; exact hA, DA⟩
theorem wipe2 {v w : Nat} {x y : Option V} (hvw : v ≠ w) : wipe (((wipe σ [v, w]).set v x).set w y) [v, w] = wipe σ [v, w] := by
  show (((((σ.set w none).set v none).set v x).set w y).set w none).set v none = (σ.set w none).set v none
  rw [List.set_set, List.set_set, List.set_comm _ _ (Ne.symm hvw), List.set_set, List.set_comm (i := v) (j := w) _ _ hvw, List.set_set]
theorem zl_core {xs ys : List V} {ds es : List PyData} {J : It} {G : Hp → Prop} (w : Walk J (min xs.length ys.length) G (YPair (fun i => xs[i]?) (fun i => ys[i]?)))
    {n1 n2 : Nat} {vs : List Nat} (g : PyData → PyData → PyData) (Sl : Slots K b σ Δ) (hw : ∀ x y, wipe (((wipe σ vs).set n1 (some x)).set n2 (some y)) vs = wipe σ vs) (hzz : ds.length ≤ 90000)
    (ht : ∀ (m : Nat) d e σ2 b2, ds[m]? = some d → es[m]? = some e → Same b b2 → Slots K b2 σ2 (((wipeD Δ vs).set n1 (.dat d)).set n2 (.dat e)) → EvD K te σ2 b2 (g d e))
    {b1 h1 : Hp} (s : Same b b1) {Q : VK} {b2 h2 : Hp} (F : Fr [] b1 h1 b2 h2) (dx : DaAll K b2 xs ds) (dy : DaAll K b2 ys es) (hG : ∀ b' h', Fr [] b2 h2 b' h' → G h')
    (q : ∀ v b2 h2, Fr [] b1 h1 b2 h2 → Da K b2 v (.list (List.zipWith g ds es)) → Q v h2) (Dl : Addr) (hD : h2 Dl = none) :
    ∃ W : Nat → Nat → Hp → Prop, (∃ m, W 0 m (upd h2 Dl (.lst []))) ∧ ∀ i m H, W i m H →
      (J.stop i H ∧ Q (.ref Dl) H) ∨ (J.go i H ∧ ∃ Nx : Hp → Prop, (∀ H', Nx H' → ∃ m', m' < m ∧ W (i + 1) m' H') ∧ ∀ x H', J.yld i H x H' → gTup K 2 (gCons (gName n1) (gCons (gName n2) gNil)) x (wipe σ vs) H' fun σ2 H2 => wipe σ2 vs = wipe σ vs ∧ tYes σ2 H2 fun b H3 =>
        if b = true then te σ2 H3 fun y H4 => ∃ acc, H4 Dl = some (.lst acc) ∧ acc.length < sizeLine ∧ Nx (upd H4 Dl (.lst (acc ++ [y]))) else Nx H3) := by
  refine lc_it w (Cv K b2 h2 (fun i => List.zipWith g (ds.take i) (es.take i)) Dl) (cv_0 F.sub hD (by simp)) (fun i H' _ p => ?_) (fun i v H H' hi p y => ?_) (fun H' p => ?_)
  · obtain ⟨_, b', acc, F2, _⟩ := p
    exact hG b' H' F2
  · obtain ⟨T, x, z, rfl, hT, rfl, e1, e2⟩ := y
    obtain ⟨d, f1, dd⟩ := dx.at e1
    obtain ⟨e, f2, de⟩ := dy.at e2
    refine ⟨T, [x, z], rfl, .inl (.inl upd_same), rfl, x, [z], rfl, z, [], rfl, rfl, hw x z, ?_⟩
    have hl : (List.zipWith g (ds.take i) (es.take i)).length < 100000 := by rw [List.length_zipWith, List.length_take, List.length_take]; omega
    have C := p.laid (o := .tup [x, z]) hT
    refine cv_turn (te := te) (t := tYes) (f := true) C (fun b3 _ => b_yes) (fun b3 F3 _ => ⟨g d e, ht i d e _ b3 f1 f2 ((s.trans F.base).trans F3.base) ((((Sl.mono ((s.trans F.base).trans F3.base)).wipe vs).set (z := .dat d) ⟨x, rfl, dd.mono F3.base⟩ n1).set (z := .dat e) ⟨z, rfl, de.mono F3.base⟩ n2), ?_⟩) (fun z => by cases z) hl
    show List.zipWith g (ds.take (i + 1)) (es.take (i + 1)) = List.zipWith g (ds.take i) (es.take i) ++ [g d e]
    rw [List.take_add_one, List.take_add_one, f1, f2]
    have h1 : i < ds.length := by rw [← dx.length]; omega
    have h2 : i < es.length := by rw [← dy.length]; omega
    rw [List.zipWith_append (by rw [List.length_take, List.length_take]; omega)]
    rfl
  · obtain ⟨_, b', acc, F2, bD, hA, DA⟩ := p
    have e : List.zipWith g (ds.take (min xs.length ys.length)) (es.take (min xs.length ys.length)) = List.zipWith g ds es := by
      rw [dx.length, dy.length, ← List.take_zipWith]
      exact List.take_of_length_le (by rw [List.length_zipWith]; exact Nat.le_refl _)
    have DA : DaAll K b' acc (List.zipWith g ds es) := e ▸ (show DaAll K b' acc (List.zipWith g (ds.take (min xs.length ys.length)) (es.take (min xs.length ys.length))) from DA)
    obtain ⟨s1, s2⟩ := Fr.seal F2.sub bD hA
    refine q (.ref Dl) (upd b' Dl (.lst acc)) H' (F.trans ⟨F2.base.trans s1, s2, fun c n m => ?_, F2.keep, F2.live⟩) (.lst upd_same (DA.mono s1))
    have hc : c ≠ Dl := by intro e; subst e; rw [hD] at m; cases m
    rw [upd_ne hc]
    exact F2.out c n m
theorem d_lcZL {tA : TA} {n1 n2 : Nat} {vs : List Nat} {ds es : List PyData} (g : PyData → PyData → PyData) (Sl : Slots K b σ Δ) (h : EvDs K tA σ b [.list ds, .list es]) (hz : ds.length ≤ 90000) (hw : ∀ x y, wipe (((wipe σ vs).set n1 (some x)).set n2 (some y)) vs = wipe σ vs)
    (ht : ∀ (m : Nat) d e σ2 b2, ds[m]? = some d → es[m]? = some e → Same b b2 → Slots K b2 σ2 (((wipeD Δ vs).set n1 (.dat d)).set n2 (.dat e)) → EvD K te σ2 b2 (g d e)) :
    EvD K (tLc (RZ.iZipA K tA) (gTup K 2 (gCons (gName n1) (gCons (gName n2) gNil))) tYes te vs) σ b (.list (List.zipWith g ds es)) := fun b1 h1 s z Q q =>
  h b1 h1 s z _ fun v b2 h2 F dd => by
    cases dd with
    | cons x r =>
      cases r with
      | cons y r =>
        cases r
        cases x with
        | @lst a xs _ sa da =>
          cases y with
          | @lst c ys _ sc dc =>
            refine ⟨a, c, xs, ys, rfl, .inl ⟨.inl (.inl (F.sub _ _ sa)), .inl (.inl (F.sub _ _ sc)), fun Dl hD => ?_⟩⟩
            exact zl_core (walk_zip rfl) g Sl hw hz ht s F da dc (fun b' h' F2 => ⟨.inl (.inl (F2.sub _ _ (F2.base _ _ sa))), .inl (.inl (F2.sub _ _ (F2.base _ _ sc)))⟩) q Dl hD
theorem d_lcZT {tA : TA} {n1 n2 : Nat} {vs : List Nat} {ds es : List PyData} (g : PyData → PyData → PyData) (Sl : Slots K b σ Δ) (h : EvDs K tA σ b [.tuple ds, .tuple es]) (hz : ds.length ≤ 90000) (hw : ∀ x y, wipe (((wipe σ vs).set n1 (some x)).set n2 (some y)) vs = wipe σ vs)
    (ht : ∀ (m : Nat) d e σ2 b2, ds[m]? = some d → es[m]? = some e → Same b b2 → Slots K b2 σ2 (((wipeD Δ vs).set n1 (.dat d)).set n2 (.dat e)) → EvD K te σ2 b2 (g d e)) :
    EvD K (tLc (RZ.iZipA K tA) (gTup K 2 (gCons (gName n1) (gCons (gName n2) gNil))) tYes te vs) σ b (.list (List.zipWith g ds es)) := fun b1 h1 s z Q q =>
  h b1 h1 s z _ fun v b2 h2 F dd => by
    cases dd with
    | cons x r =>
      cases r with
      | cons y r =>
        cases r
        cases x with
        | @tup a xs _ sa da =>
          cases y with
          | @tup c ys _ sc dc =>
            refine ⟨a, c, xs, ys, rfl, .inr ⟨sqT_mono F.sub sa, sqT_mono F.sub sc, fun Dl hD => ?_⟩⟩
            exact zl_core (walk_zipT rfl) g Sl hw hz ht s F da dc (fun b' h' F2 => ⟨sqT_mono (F2.base.trans F2.sub) sa, sqT_mono (F2.base.trans F2.sub) sc⟩) q Dl hD
/-! draws: the box at a, of at most n draws so far -/
def Tin (a : Addr) (n : Int) (h : Hp) : Prop := ∃ x y z : Int, h a = some (.lst [.int x, .int y, .int z]) ∧ 0 ≤ x ∧ y.natAbs < 2 ^ 70 ∧ 0 ≤ z ∧ z ≤ n
def mostDraws : Int := 1000000000
/-- a def whose first argument is the box; at most c draws; what it gives is one of R -/
def spT (K : PySem.W.Frag) (c : Int) (R : List PyData → PyData → Prop) (P : List PyData → Prop) : Sp := fun vs H Q _ => ∃ b a ws ds n, vs = .ref a :: ws ∧ Same b H ∧ b a = none ∧ Tin a n H ∧ n + c ≤ mostDraws ∧ DaAll K b ws ds ∧ P ds ∧
  ∀ v d b2 h2, R ds d → Fr [a] b H b2 h2 → b2 a = none → Tin a (n + c) h2 → Da K b2 v d → Q v h2
theorem Tin.keep {a : Addr} {n : Int} {b2 h2 : Hp} (T : Tin a n h) (F : Fr [] b h b2 h2) (hb : b a = none) : Tin a n h2 ∧ b2 a = none := by
  obtain ⟨x, y, z, e, q⟩ := T
  exact ⟨⟨x, y, z, F.keep a _ hb (by intro q; cases q) e, q⟩, F.out a hb (by rw [e]; rfl)⟩
theorem Tin.le {a : Addr} {n m : Int} (T : Tin a n h) (e : n ≤ m) : Tin a m h := by
  obtain ⟨x, y, z, q, w1, w2, w3, w4⟩ := T
  exact ⟨x, y, z, q, w1, w2, w3, Int.le_trans w4 e⟩
theorem c_callT {a : Addr} {n c : Int} {m : Nat} {R : List PyData → PyData → Prop} {P : List PyData → Prop} {E : XK} {tr : TA} {ds : List PyData} {Q : VK} (Z : S K B b0 h0 σ b h Δ) (hs : Δ[m]? = some (.adr a)) (hb : b a = none) (hB : a ∈ B ∨ h0 a = none) (T : Tin a n h) (hn : n + c ≤ mostDraws) (ha : EvDs K tr σ b ds) (hP : P ds)
    (k : ∀ v d b2 h2, R ds d → S K B b0 h0 σ b2 h2 Δ → Fr [a] b h b2 h2 → b2 a = none → Tin a (n + c) h2 → Da K b2 v d → Q v h2) : tCall (spT K c R P) [] E (tCons (tVar m) tr) σ h Q := by
  obtain ⟨x, e1, e2⟩ := Z.sl.get hs
  cases e2
  refine ⟨.ref a, e1, ha b h (Same.refl b) Z.sub _ fun ws b2 h2 F dd => ?_⟩
  obtain ⟨T2, hb2⟩ := T.keep F hb
  refine ⟨b2, a, ws, ds, n, by rw [List.append_nil], F.sub, hb2, T2, hn, dd, hP, fun v d b3 h3 r F3 hb3 T3 D3 => ?_⟩
  have G : Fr [a] b h b3 h3 := F.any.trans F3
  refine k v d b3 h3 r ⟨Z.fr.new G fun c m => ?_, Z.sl.mono G.base⟩ G hb3 T3 D3
  have e : c = a := by simpa using m
  rw [e]
  exact hB
/-- reading the box as data for a moment: a scalar comes of it -/
theorem Fr.back {a : Addr} {o : HO} {b2 h2 : Hp} (z : Same b h) (hb : b a = none) (ha : h a = some o) (F : Fr [] (upd b a o) h b2 h2) : Fr [] b h b h2 ∧ h2 a = some o := by
  have s1 := (Fr.seal z hb ha).1
  have e : h2 a = some o := F.sub _ _ (F.base _ _ upd_same)
  refine ⟨⟨Same.refl b, s1.trans (F.base.trans F.sub), fun _ q _ => q, fun c u q _ w => ?_, F.live⟩, e⟩
  by_cases hc : c = a
  · subst hc
    rw [ha] at w
    cases w
    exact e
  · exact F.keep c u (by rw [upd_ne hc]; exact q) (by intro q; cases q) w
end
end DV

namespace DV
open PySem L2
/-! operators for whatever comes -/
def rAddA (K : PySem.W.Frag) : R2 := fun x y H Q => rI0 (fun i j => .int (i + j)) x y H Q ∨ (fun x y H Q => (fun x y H Q => ∃ i j, x = .str i ∧ y = .str j ∧ i.length + j.length ≤ sizeLine ∧ Q (.str (i ++ j)) H) x y H Q ∨ (fun x y H Q => rCat x y H Q ∨ rCatT K x y H Q) x y H Q) x y H Q
def rMulA : R2 := fun x y H Q => rI CMulW (fun i j => .int (i * j)) x y H Q ∨ (fun x y H Q => rI CMul (fun i j => .int (i * j)) x y H Q ∨ rRep x y H Q) x y H Q
def rEqA (K : PySem.W.Frag) : R2 := fun x y H Q => rEq x y H Q ∨ rEqD K x y H Q
def rNeA (K : PySem.W.Frag) : R2 := fun x y H Q => rNe x y H Q ∨ rNeD K x y H Q
section
variable {X : Cx}
theorem op_addA : OpR X (binaryOp .Add) (rAddA X.K) := OpR.or op_add (OpR.or op_add_str (OpR.or op_cat op_catT))
theorem op_mulA : OpR X (binaryOp .Mult) rMulA := OpR.or op_mulW (OpR.or op_mul op_rep)
theorem op_eqA (hu : X.A.units + 64 < cLine) : OpR X (compareOp .Eq) (rEqA X.K) := OpR.or op_eq (op_eqD hu)
theorem op_neA (hu : X.A.units + 64 < cLine) : OpR X (compareOp .NotEq) (rNeA X.K) := OpR.or op_ne (op_neD hu)
end
section
variable {K : PySem.W.Frag} {B : List Addr} {b0 h0 : Hp} {σ : St} {b b' h : Hp} {te ta tb tc : TE} {d d1 d2 d3 : PyData} {Δ : List SD} {t u : TT} {r r' : R2} {i j : Int} {D : Ends} {tu tw tz : TS}
theorem rv_addI : RvD K (rAddA K) (.int i) (.int j) (.int (i + j)) := rv_or1 rv_I0
theorem rv_addL {ds es : List PyData} (hz : ds.length + es.length ≤ 100000) : RvD K (rAddA K) (.list ds) (.list es) (.list (ds ++ es)) := rv_or2 (rv_or2 (rv_or1 (rv_catL hz)))
theorem rv_addT {ds es : List PyData} (h1 : ds ≠ []) (h2 : es ≠ []) (hz : ds.length + es.length ≤ 100000) : RvD K (rAddA K) (.tuple ds) (.tuple es) (.tuple (ds ++ es)) := rv_or2 (rv_or2 (rv_or2 (rv_catT h1 h2 hz)))
theorem rv_addS {x y : Str} (hz : x.length + y.length ≤ 100000) : RvD K (rAddA K) (.str x) (.str y) (.str (x ++ y)) := rv_or2 (rv_or1 fun b1 h1 z _ _ X Y Q q => by
  cases X; cases Y
  exact ⟨x, y, rfl, rfl, Nat.le_trans hz (by decide), q _ b1 h1 (Fr.rfl' z) (.str _)⟩)
theorem rv_subI : RvD K (rI0 fun i j => .int (i - j)) (.int i) (.int j) (.int (i - j)) := rv_I0
theorem rv_mulI (h1 : i.natAbs < 2 ^ 200) (h2 : j.natAbs < 2 ^ 200) : RvD K rMulA (.int i) (.int j) (.int (i * j)) := rv_or1 (rv_I (wide_mul h1 h2 (by decide) (by decide) (by decide)))
theorem rv_mulS (h2 : CMul i j) : RvD K rMulA (.int i) (.int j) (.int (i * j)) := rv_or2 (rv_or1 (rv_I h2))
theorem rv_modI (h : 0 < j) : RvD K (rI (fun _ j => 0 < j) fun i j => .int (i % j)) (.int i) (.int j) (.int (i % j)) := rv_I h
theorem rv_divI (h : 0 < j) (h2 : j.natAbs < 2 ^ 200) : RvD K (rI CDivW fun i j => .int (i / j)) (.int i) (.int j) (.int (i / j)) := rv_I (wide_div h h2 (by decide) (by decide))
theorem rv_ltI : RvD K (rI0 fun i j => .bl (decide (i < j))) (.int i) (.int j) (.bool (decide (i < j))) := rv_B0
theorem rv_leI : RvD K (rI0 fun i j => .bl (decide (i ≤ j))) (.int i) (.int j) (.bool (decide (i ≤ j))) := rv_B0
theorem rv_gtI : RvD K (rI0 fun i j => .bl (decide (j < i))) (.int i) (.int j) (.bool (decide (j < i))) := rv_B0
theorem rv_geI : RvD K (rI0 fun i j => .bl (decide (j ≤ i))) (.int i) (.int j) (.bool (decide (j ≤ i))) := rv_B0
theorem rv_eqAI : RvD K (rEqA K) (.int i) (.int j) (.bool (decide (i = j))) := rv_or1 rv_eqI
theorem rv_eqAB {x y : Bool} : RvD K (rEqA K) (.bool x) (.bool y) (.bool (x == y)) := rv_or1 rv_eqB
theorem rv_eqAS {x y : Str} : RvD K (rEqA K) (.str x) (.str y) (.bool (decide (x = y))) := rv_or1 rv_eqS
theorem rv_eqAN : RvD K (rEqA K) .none .none (.bool true) := rv_or1 rv_eqN
theorem rv_eqAD (h1 : SeqAt.shaped d1 = true) (h2 : SeqAt.shaped d2 = true) : RvD K (rEqA K) d1 d2 (.bool (PyData.eqv d1 d2)) := rv_or2 (rv_eqD h1 h2)
theorem rv_neAI : RvD K (rNeA K) (.int i) (.int j) (.bool (!decide (i = j))) := rv_or1 rv_neI
theorem rv_neAB {x y : Bool} : RvD K (rNeA K) (.bool x) (.bool y) (.bool (!(x == y))) := rv_or1 rv_neB
theorem rv_neAD (h1 : SeqAt.shaped d1 = true) (h2 : SeqAt.shaped d2 = true) : RvD K (rNeA K) d1 d2 (.bool (!PyData.eqv d1 d2)) := rv_or2 (rv_neD h1 h2)
theorem d_varZ {n : Nat} (Z : S K B b0 h0 σ b h Δ) (e : Δ[n]? = some (.dat d)) : EvD K (tVar n) σ b d := d_var Z.sl e
/-- with defaults -/
theorem d_callD {R : List PyData → PyData → Prop} {E : XK} {tA : TA} {ds es : List PyData} {dvs : List V} (h : EvDs K tA σ b ds) (hd : ∀ H, DaAll K H dvs es) (hr : R (ds ++ es) d) : EvD K (tCall (spD K R) dvs E tA) σ b d := fun b1 h1 s z Q q =>
  h b1 h1 s z _ fun vs b2 h2 F D => ⟨b2, ds ++ es, d, F.sub, D.append (hd b2), hr, fun v b3 h3 F2 D2 => q v b3 h3 (F.trans F2) D2⟩
theorem d_call0 {R : List PyData → PyData → Prop} {E : XK} (hr : R [] d) : EvD K (tCall (spD K R) [] E tNil) σ b d := d_call ds_nil hr
/-- a def in a slot -/
theorem d_callL {n : Nat} {f : Addr} {R : List PyData → PyData → Prop} {E : XK} {tA : TA} {ds : List PyData} (Sl : Slots K b σ Δ) (e : Δ[n]? = some (.adr f)) (h : EvDs K tA σ b ds) (hr : R ds d) : EvD K (tCallL n f (spD K R) [] E tA) σ b d := fun b1 h1 s z Q q => by
  obtain ⟨x, e1, e2⟩ := Sl.get e
  cases e2
  refine ⟨e1, ?_⟩
  exact d_call (E := E) h hr b1 h1 s z Q q
theorem s_retE (Z : S K B b0 h0 σ b h Δ) (he : EvD K te σ b d) (e : d = d1) (k : ∀ v b2 h2, Fr B b0 h0 b2 h2 → Da K b2 v d1 → D.rt v h2) : tRet te D σ h := s_ret Z (he.is e) k
theorem q_whenT {c : Bool} (Z : S K B b0 h0 σ b h Δ) (hb : EvB t σ b c) (e : c = true) (k : ∀ b2 h2, Fr [] b h b2 h2 → S K B b0 h0 σ b2 h2 Δ → tu { D with nx := tz D } σ h2) : tSeq (tIfS t tu tw) tz D σ h := by
  subst e
  exact q_if Z hb (fun _ => k) fun z => by cases z
theorem q_whenF {c : Bool} (Z : S K B b0 h0 σ b h Δ) (hb : EvB t σ b c) (e : c = false) (k : ∀ b2 h2, Fr [] b h b2 h2 → S K B b0 h0 σ b2 h2 Δ → tz D σ h2) : tSeq (tIfS t tu tNext) tz D σ h := by
  subst e
  exact q_when Z hb (fun z => by cases z) fun _ => k
theorem s_whenT {c : Bool} (Z : S K B b0 h0 σ b h Δ) (hb : EvB t σ b c) (e : c = true) (k : ∀ b2 h2, Fr [] b h b2 h2 → S K B b0 h0 σ b2 h2 Δ → tu D σ h2) : tIfS t tu tw D σ h := by
  subst e
  exact s_if Z hb (fun _ => k) fun z => by cases z
theorem s_whenF {c : Bool} (Z : S K B b0 h0 σ b h Δ) (hb : EvB t σ b c) (e : c = false) (k : ∀ b2 h2, Fr [] b h b2 h2 → S K B b0 h0 σ b2 h2 Δ → tw D σ h2) : tIfS t tu tw D σ h := by
  subst e
  exact s_if Z hb (fun z => by cases z) fun _ => k
theorem d_is (h : EvD K te σ b d) (e : d = d1) : EvD K te σ b d1 := h.is e
/-! data: how deep, how it is with tuples for lists -/
def fine : Nat → PyData → Bool
  | _, .none => true | _, .bool _ => true | _, .int _ => true | _, .str _ => true
  | 0, _ => false
  | n + 1, .list xs => decide (xs.length ≤ 90000) && xs.all (fine n)
  | n + 1, .tuple xs => decide (xs.length ≤ 90000) && xs.all (fine n)
  | _ + 1, .dict _ => false
def tupN : Nat → PyData → PyData
  | n + 1, .list xs => .tuple (xs.map (tupN n))
  | n + 1, .tuple xs => .tuple (xs.map (tupN n))
  | _, d => d
def isNum : PyData → Bool
  | .int _ => true
  | _ => false
theorem all_ints {ds : List PyData} {p : PyData → Bool} : ((ds.filter fun _ => true).map fun d => PyData.bool (p d)) = (ds.map p).map PyData.bool := by
  rw [List.filter_eq_self.mpr (fun _ _ => rfl), List.map_map]
  rfl
theorem filt (ds : List PyData) : (ds.filter fun _ => true) = ds := List.filter_eq_self.mpr fun _ _ => rfl
end
/-- a def that hands its second argument back with tuples for lists, if the first one is true of that -/
def spSuch (K : PySem.W.Frag) (f : Addr) (R : List PyData → PyData → Prop) : Sp := fun vs H Q _ => ∃ b v x, vs = [.ref f, v] ∧ Same b H ∧ Da K b v x ∧ fine 6 x = true ∧ R [tupN 6 x] (.bool true) ∧ ∀ v b2 h2, Fr [] b H b2 h2 → Da K b2 v (tupN 6 x) → Q v h2
theorem d_such {K : PySem.W.Frag} {σ : St} {b : Hp} {te : TE} {x : PyData} {f : Addr} {R : List PyData → PyData → Prop} {E : XK} (h : EvD K te σ b x) (hf : fine 6 x = true) (hr : R [tupN 6 x] (.bool true)) : EvD K (tCall (spSuch K f R) [] E (tCons (tC (.ref f)) (tCons te tNil))) σ b (tupN 6 x) := fun b1 h1 s z Q q =>
  h b1 h1 s z _ fun v b2 h2 F D => ⟨b2, v, x, rfl, F.sub, D, hf, hr, fun v b3 h3 F2 D2 => q v b3 h3 (F.trans F2) D2⟩
end DV

namespace DV
open PySem L2
section
variable {K : PySem.W.Frag} {B : List Addr} {b0 h0 : Hp} {σ : St} {b b' h : Hp} {te ta tb tc : TE} {d d1 d2 d3 : PyData} {Δ : List SD} {t u : TT} {r r' : R2} {i j : Int} {D : Ends} {tu tw tz : TS}
theorem ixN_nat {n j : Nat} (lt : j < n) : ixN n (j : Int) = some j := by
  have lt' : (j : Int) < (n : Int) := Int.ofNat_lt.mpr lt
  simp [ixN, lt']
/-! the box (a list that is changed) read for a moment -/
theorem d_ixA {n : Nat} {a : Addr} {xs : List V} {v : V} (Sl : Slots K b σ Δ) (e : Δ[n]? = some (.adr a)) (ha : b a = some (.lst xs)) (hi : EvD K tb σ b (.int i)) (hv : atI xs i = some v) (hd : ∀ b, Da K b v d) : EvD K (tOp (rIx K) (tVar n) tb) σ b d := fun b1 h1 s z Q q => by
  obtain ⟨x, e1, e2⟩ := Sl.get e
  cases e2
  refine ⟨.ref a, e1, hi b1 h1 s z _ fun y b2 h2 F dd => ?_⟩
  cases dd
  exact .inl ⟨a, xs, i, v, rfl, rfl, .inl (.inl (F.sub _ _ (F.base _ _ (s _ _ ha)))), hv, q v b2 h2 F (hd b2)⟩
theorem q_asgB {n : Nat} {a : Addr} {xs : List V} (Z : S K B b0 h0 σ b h Δ) (hb : b a = none) (hp : h a = some (.lst xs)) (he : EvD K te σ (upd b a (.lst xs)) (.int i)) (k : ∀ σ2 h2, S K B b0 h0 σ2 b h2 (Δ.set n (.dat (.int i))) → h2 a = some (.lst xs) → tz D σ2 h2) : tSeq (tAsg te (gName n)) tz D σ h := by
  obtain ⟨s1, s2⟩ := Fr.seal Z.sub hb hp
  refine he.go s2 fun v b2 h2 F dd => ?_
  obtain ⟨F2, e⟩ := Fr.back Z.sub hb hp F
  cases dd
  exact k _ h2 (Z.set F2 (.int i)) e
theorem q_asgBP {n : Nat} {a : Addr} {xs : List V} {i : Int} (Pr : Int → Prop) (Z : S K B b0 h0 σ b h Δ) (hb : b a = none) (hp : h a = some (.lst xs)) (he : EvD K te σ (upd b a (.lst xs)) (.int i)) (hP : Pr i) (k : ∀ i, Pr i → ∀ σ2 h2, S K B b0 h0 σ2 b h2 (Δ.set n (.dat (.int i))) → h2 a = some (.lst xs) → tz D σ2 h2) : tSeq (tAsg te (gName n)) tz D σ h :=
  q_asgB Z hb hp he fun σ2 h2 => k i hP σ2 h2
theorem q_setB {n m : Nat} {a : Addr} {xs : List V} (Z : S K B b0 h0 σ b h Δ) (hs : Δ[n]? = some (.adr a)) (hb : b a = none) (hB : a ∈ B ∨ h0 a = none) (hp : h a = some (.lst xs)) (he : EvD K te σ (upd b a (.lst xs)) (.int i)) (hm : m < xs.length) (k : ∀ h2, S K B b0 h0 σ b h2 Δ → h2 a = some (.lst (xs.set m (.int i))) → tz D σ h2) :
    tSeq (tAsg te (gSub (tVar n) (tC (.int (m : Int))) rSetL)) tz D σ h := by
  obtain ⟨s1, s2⟩ := Fr.seal Z.sub hb hp
  refine he.go s2 fun v b2 h2 F dd => ?_
  obtain ⟨F2, e⟩ := Fr.back Z.sub hb hp F
  cases dd
  have Z2 := Z.go F2
  obtain ⟨x, e1, e2⟩ := Z2.sl.get hs
  cases e2
  refine ⟨.ref a, e1, a, xs, (m : Int), m, rfl, rfl, e, ixN_nat hm, ?_⟩
  exact k _ ⟨Z2.fr.new (Fr.mut Z2.sub hb) fun c z => by
    have q : c = a := by simpa using z
    rw [q]; exact hB, Z2.sl⟩ upd_same
theorem q_ifB {a : Addr} {xs : List V} {c : Bool} (Z : S K B b0 h0 σ b h Δ) (hb : b a = none) (hp : h a = some (.lst xs)) (he : EvB t σ (upd b a (.lst xs)) c) (k1 : c = true → ∀ h2, S K B b0 h0 σ b h2 Δ → h2 a = some (.lst xs) → tu { D with nx := tz D } σ h2) (k2 : c = false → ∀ h2, S K B b0 h0 σ b h2 Δ → h2 a = some (.lst xs) → tz D σ h2) : tSeq (tIfS t tu tNext) tz D σ h := by
  obtain ⟨s1, s2⟩ := Fr.seal Z.sub hb hp
  refine he _ h (Same.refl _) s2 _ fun b2 h2 F => ?_
  obtain ⟨F2, e⟩ := Fr.back Z.sub hb hp F
  cases c with
  | true => exact k1 rfl h2 (Z.go F2) e
  | false => exact k2 rfl h2 (Z.go F2) e
theorem s_retB {a : Addr} {xs : List V} (Z : S K B b0 h0 σ b h Δ) (hb : b a = none) (hp : h a = some (.lst xs)) (he : EvD K te σ (upd b a (.lst xs)) (.int i)) (k : ∀ h2, S K B b0 h0 σ b h2 Δ → h2 a = some (.lst xs) → D.rt (.int i) h2) : tRet te D σ h := by
  obtain ⟨s1, s2⟩ := Fr.seal Z.sub hb hp
  refine he.go s2 fun v b2 h2 F dd => ?_
  obtain ⟨F2, e⟩ := Fr.back Z.sub hb hp F
  cases dd
  exact k h2 (Z.go F2) e
theorem sl_box {a : Addr} {xs : List V} (Z : S K B b0 h0 σ b h Δ) (hb : b a = none) (hp : h a = some (.lst xs)) : Slots K (upd b a (.lst xs)) σ Δ := Z.sl.mono (Fr.seal Z.sub hb hp).1
/-! in a list of ints -/
theorem eqV_int {i j : Int} : eqV (.int i) (.int j) = decide (i = j) := by
  unfold eqV
  by_cases h : i = j
  · subst h; simp
  · simp [h]
theorem rv_inI {ns : List Int} : RvD K (rIn K false) (.int i) (.list (ns.map .int)) (.bool (decide (i ∈ ns))) := fun b1 h1 z x y X Y Q q => by
  cases X
  cases Y with
  | @lst p xs _ s a =>
    rw [a.ints] at s
    refine ⟨p, ns.map V.int, rfl, .inl (.inl (.inl (z _ _ s))), rfl, ?_, ?_⟩
    · rw [List.all_eq_true]
      intro v hv
      obtain ⟨n, _, rfl⟩ := List.mem_map.mp hv
      rfl
    · have e : (if false = true then !inV (V.int i) (ns.map V.int) else inV (V.int i) (ns.map V.int)) = decide (i ∈ ns) := by
        show inV (V.int i) (ns.map V.int) = _
        unfold inV
        rw [List.any_map]
        by_cases hm : i ∈ ns
        · rw [decide_eq_true hm, List.any_eq_true]
          exact ⟨i, hm, by show eqV (V.int i) (V.int i) = true; rw [eqV_int]; simp⟩
        · rw [decide_eq_false hm]
          refine Bool.eq_false_iff.mpr fun z => ?_
          obtain ⟨n, h1, h2⟩ := List.any_eq_true.mp z
          have h3 : eqV (V.int n) (V.int i) = true := h2
          rw [eqV_int] at h3
          have := of_decide_eq_true h3
          subst this
          exact hm h1
      rw [e]
      exact q _ b1 h1 (Fr.rfl' z) (.bl _)
theorem rv_powI (h : CPow i j) : RvD K (rI CPow fun i j => .int (i ^ j.toNat)) (.int i) (.int j) (.int (i ^ j.toNat)) := rv_I h
/-- a def whose value is one of several -/
def spN (K : PySem.W.Frag) (P : List PyData → Prop) (R : List PyData → PyData → Prop) : Sp := fun vs H Q _ => ∃ b ds, Same b H ∧ DaAll K b vs ds ∧ P ds ∧ ∀ v d b2 h2, R ds d → Fr [] b H b2 h2 → Da K b2 v d → Q v h2
theorem Slots.adr {n : Nat} {a : Addr} (Sl : Slots K b σ Δ) (e : Δ[n]? = some (.adr a)) : σ[n]? = some (some (.ref a)) := by
  obtain ⟨x, e1, e2⟩ := Sl.get e
  rw [e1, e2]
end
end DV

namespace DV
open PySem L2
/-! what evaluates with draws from the box at a: at most c of them, to one of R -/
def EvT (K : PySem.W.Frag) (te : TE) (σ : St) (b : Hp) (a : Addr) (c : Int) (R : PyData → Prop) : Prop := ∀ b1 h1 n, Same b b1 → Same b1 h1 → b1 a = none → Tin a n h1 → n + c ≤ mostDraws → ∀ Q : VK,
  (∀ v d b2 h2, R d → Fr [a] b1 h1 b2 h2 → b2 a = none → Tin a (n + c) h2 → Da K b2 v d → Q v h2) → te σ h1 Q
def EvTs (K : PySem.W.Frag) (ta : TA) (σ : St) (b : Hp) (a : Addr) (c : Int) (R : List PyData → Prop) : Prop := ∀ b1 h1 n, Same b b1 → Same b1 h1 → b1 a = none → Tin a n h1 → n + c ≤ mostDraws → ∀ Q : List V → Hp → Prop,
  (∀ vs ds b2 h2, R ds → Fr [a] b1 h1 b2 h2 → b2 a = none → Tin a (n + c) h2 → DaAll K b2 vs ds → Q vs h2) → ta σ h1 Q
def EvBT (t : TT) (σ : St) (b : Hp) (a : Addr) (c : Int) (R : Bool → Prop) : Prop := ∀ b1 h1 n, Same b b1 → Same b1 h1 → b1 a = none → Tin a n h1 → n + c ≤ mostDraws → ∀ Q : Bool → Hp → Prop,
  (∀ d b2 h2, R d → Fr [a] b1 h1 b2 h2 → b2 a = none → Tin a (n + c) h2 → Q d h2) → t σ h1 Q
section
variable {K : PySem.W.Frag} {B : List Addr} {b0 h0 : Hp} {σ : St} {b b' h : Hp} {te ta tb tc : TE} {d d1 d2 d3 : PyData} {Δ : List SD} {t u : TT} {r r' : R2} {i j : Int} {D : Ends} {tu tw tz : TS} {a : Addr} {c c1 c2 n : Int} {R R1 R2 : PyData → Prop}
theorem t_pure (hd : EvD K te σ b d) : EvT K te σ b a 0 (· = d) := fun b1 h1 n s z hb T _ Q q => hd b1 h1 s z Q fun v b2 h2 F dd => by
  obtain ⟨T2, hb2⟩ := T.keep F hb
  exact q v d b2 h2 rfl F.any hb2 (by rw [Int.add_zero]; exact T2) dd
theorem t_mono (h : EvT K te σ b a c R) (e : ∀ d, R d → R1 d) : EvT K te σ b a c R1 := fun b1 h1 n s z hb T hn Q q => h b1 h1 n s z hb T hn Q fun v d b2 h2 r => q v d b2 h2 (e d r)
theorem t_le (h : EvT K te σ b a c R) (e : c ≤ c1) : EvT K te σ b a c1 R := fun b1 h1 n s z hb T hn Q q => h b1 h1 n s z hb T (by omega) Q fun v d b2 h2 r F hb2 T2 => q v d b2 h2 r F hb2 (T2.le (by omega))
theorem t_op {R1 R2 : PyData → Prop} {r : L2.R2} (ha : EvT K ta σ b a c1 R1) (hb : EvT K tb σ b a c2 R2) (h1 : 0 ≤ c1) (h2 : 0 ≤ c2) (hr : ∀ d1 d2, R1 d1 → R2 d2 → ∃ d, RvD K r d1 d2 d ∧ R d) : EvT K (tOp r ta tb) σ b a (c1 + c2) R := fun b1 g1 n s z hb1 T hn Q q =>
  ha b1 g1 n s z hb1 T (by omega) _ fun x dx b2 g2 rx F1 hb2 T2 D1 => hb b2 g2 (n + c1) (s.trans F1.base) F1.sub hb2 T2 (by omega) _ fun y dy b3 g3 ry F2 hb3 T3 D2 => by
    obtain ⟨d, rv, rd⟩ := hr dx dy rx ry
    refine rv b3 g3 F2.sub x y (D1.mono F2.base) D2 Q fun v b4 g4 F3 D3 => ?_
    obtain ⟨T4, hb4⟩ := T3.keep F3 hb3
    exact q v d b4 g4 rd ((F1.trans F2).trans F3.any) hb4 (by rw [← Int.add_assoc]; exact T4) D3
theorem t_callT {m : Nat} {R : List PyData → PyData → Prop} {P : List PyData → Prop} {E : XK} {tr : TA} {ds : List PyData} (Sl : Slots K b σ Δ) (e : Δ[m]? = some (.adr a)) (ha : EvDs K tr σ b ds) (hP : P ds) : EvT K (tCall (spT K c R P) [] E (tCons (tVar m) tr)) σ b a c (R ds) := fun b1 h1 n s z hb T hn Q q => by
  refine ⟨.ref a, Sl.adr e, ha b1 h1 s z _ fun ws b2 h2 F dd => ?_⟩
  obtain ⟨T2, hb2⟩ := T.keep F hb
  exact ⟨b2, a, ws, ds, n, by rw [List.append_nil], F.sub, hb2, T2, hn, dd, hP, fun v d b3 h3 r F3 hb3 T3 D3 => q v d b3 h3 r (F.any.trans F3) hb3 T3 D3⟩
theorem t_callT1 {m : Nat} {R : List PyData → PyData → Prop} {P : List PyData → Prop} {E : XK} (Sl : Slots K b σ Δ) (e : Δ[m]? = some (.adr a)) (hP : P []) : EvT K (tCall (spT K c R P) [] E (tCons (tVar m) tNil)) σ b a c (R []) := t_callT Sl e ds_nil hP
theorem ts_nil : EvTs K tNil σ b a 0 (· = []) := fun b1 h1 n s z hb T _ Q q => q _ _ b1 h1 rfl (Fr.rfl' z) hb (by rw [Int.add_zero]; exact T) .nil
theorem ts_cons {tr : TA} {Rs : List PyData → Prop} (ha : EvT K te σ b a c1 R) (hr : EvTs K tr σ b a c2 Rs) (h1 : 0 ≤ c1) (h2 : 0 ≤ c2) : EvTs K (tCons te tr) σ b a (c1 + c2) (fun ds => ∃ d es, ds = d :: es ∧ R d ∧ Rs es) := fun b1 g1 n s z hb T hn Q q =>
  ha b1 g1 n s z hb T (by omega) _ fun v d b2 g2 rd F hb2 T2 D2 => hr b2 g2 (n + c1) (s.trans F.base) F.sub hb2 T2 (by omega) _ fun vs ds b3 g3 rs F2 hb3 T3 D3 =>
    q _ _ b3 g3 ⟨d, ds, rfl, rd, rs⟩ (F.trans F2) hb3 (by rw [← Int.add_assoc]; exact T3) (.cons (D2.mono F2.base) D3)
theorem t_tup {tA : TA} {Rs : List PyData → Prop} (h : EvTs K tA σ b a c Rs) (hl : ∀ ds, Rs ds → ds.length ≤ 100000) : EvT K (tTup tA) σ b a c (fun d => ∃ ds, d = .tuple ds ∧ Rs ds) := fun b1 h1 n s z hb T hn Q q =>
  h b1 h1 n s z hb T hn _ fun vs ds b2 h2 rs F hb2 T2 D2 => ⟨Nat.le_trans (by rw [D2.length]; exact hl ds rs) (by decide), fun p hp => by
    have L : Fr [a] b2 h2 (upd b2 p (.tup vs)) (upd h2 p (.tup vs)) := Fr.laid F.sub hp
    obtain ⟨T3, hb3⟩ := T2.keep (Fr.laid (B := []) F.sub hp) hb2
    exact q _ _ _ _ ⟨ds, rfl, rs⟩ (F.trans L) hb3 T3 (.tup (.inl (.inl upd_same)) (D2.mono L.base))⟩
theorem t_lst {tA : TA} {Rs : List PyData → Prop} (h : EvTs K tA σ b a c Rs) (hl : ∀ ds, Rs ds → ds.length ≤ 100000) : EvT K (tLst tA) σ b a c (fun d => ∃ ds, d = .list ds ∧ Rs ds) := fun b1 h1 n s z hb T hn Q q =>
  h b1 h1 n s z hb T hn _ fun vs ds b2 h2 rs F hb2 T2 D2 => ⟨Nat.le_trans (by rw [D2.length]; exact hl ds rs) (by decide), fun p hp => by
    have L : Fr [a] b2 h2 (upd b2 p (.lst vs)) (upd h2 p (.lst vs)) := Fr.laid F.sub hp
    obtain ⟨T3, hb3⟩ := T2.keep (Fr.laid (B := []) F.sub hp) hb2
    exact q _ _ _ _ ⟨ds, rfl, rs⟩ (F.trans L) hb3 T3 (.lst upd_same (D2.mono L.base))⟩
theorem S.draw {b2 h2 : Hp} (Z : S K B b0 h0 σ b h Δ) (hB : a ∈ B ∨ h0 a = none) (F : Fr [a] b h b2 h2) : S K B b0 h0 σ b2 h2 Δ := ⟨Z.fr.new F fun q m => by
  have e : q = a := by simpa using m
  rw [e]; exact hB, Z.sl.mono F.base⟩
theorem q_asgT {m : Nat} (Z : S K B b0 h0 σ b h Δ) (hb : b a = none) (hB : a ∈ B ∨ h0 a = none) (T : Tin a n h) (hn : n + c ≤ mostDraws) (he : EvT K te σ b a c R) (k : ∀ d σ2 b2 h2, R d → S K B b0 h0 σ2 b2 h2 (Δ.set m (.dat d)) → b2 a = none → Tin a (n + c) h2 → tz D σ2 h2) : tSeq (tAsg te (gName m)) tz D σ h :=
  he b h n (Same.refl b) Z.sub hb T hn _ fun v d b2 h2 rd F hb2 T2 D2 => k d _ b2 h2 rd ⟨(Z.draw hB F).fr, (Z.draw hB F).sl.set (z := .dat d) ⟨v, rfl, D2⟩ m⟩ hb2 T2
theorem q_parT {m1 m2 : Nat} {tA : TA} {Rs : List PyData → Prop} (Z : S K B b0 h0 σ b h Δ) (hb : b a = none) (hB : a ∈ B ∨ h0 a = none) (T : Tin a n h) (hn : n + c ≤ mostDraws) (he : EvTs K tA σ b a c Rs) (hl : ∀ ds, Rs ds → ∃ d1 d2, ds = [d1, d2])
    (k : ∀ d1 d2 σ2 b2 h2, Rs [d1, d2] → S K B b0 h0 σ2 b2 h2 ((Δ.set m1 (.dat d1)).set m2 (.dat d2)) → b2 a = none → Tin a (n + c) h2 → tz D σ2 h2) : tSeq (tPar m1 m2 tA) tz D σ h :=
  he b h n (Same.refl b) Z.sub hb T hn _ fun vs ds b2 h2 rd F hb2 T2 D2 => by
    obtain ⟨d1, d2, rfl⟩ := hl ds rd
    cases D2 with
    | cons x1 r =>
      cases r with
      | cons x2 r =>
        cases r
        exact ⟨_, _, rfl, k d1 d2 _ b2 h2 rd ⟨(Z.draw hB F).fr, ((Z.draw hB F).sl.set (z := .dat d1) ⟨_, rfl, x1⟩ m1).set (z := .dat d2) ⟨_, rfl, x2⟩ m2⟩ hb2 T2⟩
theorem s_retT (Z : S K B b0 h0 σ b h Δ) (hb : b a = none) (hB : a ∈ B ∨ h0 a = none) (T : Tin a n h) (hn : n + c ≤ mostDraws) (he : EvT K te σ b a c R) (k : ∀ v d b2 h2, R d → Fr B b0 h0 b2 h2 → b2 a = none → Tin a (n + c) h2 → Da K b2 v d → D.rt v h2) : tRet te D σ h :=
  he b h n (Same.refl b) Z.sub hb T hn _ fun v d b2 h2 rd F hb2 T2 D2 => k v d b2 h2 rd (Z.draw hB F).fr hb2 T2 D2
/-- what changes nothing, the box beside -/
theorem q_asgK {m : Nat} (Z : S K B b0 h0 σ b h Δ) (hb : b a = none) (T : Tin a n h) (he : EvD K te σ b d) (k : ∀ σ2 b2 h2, S K B b0 h0 σ2 b2 h2 (Δ.set m (.dat d)) → b2 a = none → Tin a n h2 → Fr [] b h b2 h2 → tz D σ2 h2) : tSeq (tAsg te (gName m)) tz D σ h :=
  q_asg Z he fun σ2 b2 h2 F Z2 => by
    obtain ⟨T2, hb2⟩ := T.keep F hb
    exact k σ2 b2 h2 Z2 hb2 T2 F
theorem q_whenFK {c : Bool} (Z : S K B b0 h0 σ b h Δ) (hb : b a = none) (T : Tin a n h) (he : EvB t σ b c) (e : c = false) (k : ∀ b2 h2, S K B b0 h0 σ b2 h2 Δ → b2 a = none → Tin a n h2 → Fr [] b h b2 h2 → tz D σ h2) : tSeq (tIfS t tu tNext) tz D σ h :=
  q_whenF Z he e fun b2 h2 F Z2 => by
    obtain ⟨T2, hb2⟩ := T.keep F hb
    exact k b2 h2 Z2 hb2 T2 F
theorem s_retK (Z : S K B b0 h0 σ b h Δ) (hb : b a = none) (T : Tin a n h) (he : EvD K te σ b d) (k : ∀ v b2 h2, Fr B b0 h0 b2 h2 → b2 a = none → Tin a n h2 → Da K b2 v d → D.rt v h2) : tRet te D σ h :=
  he.go Z.sub fun v b2 h2 F dd => by
    obtain ⟨T2, hb2⟩ := T.keep F hb
    exact k v b2 h2 (Z.fr.trans F.any) hb2 T2 dd
end
end DV

namespace DV
open PySem L2
section
variable {K : PySem.W.Frag} {B : List Addr} {b0 h0 : Hp} {σ : St} {b b' h : Hp} {te ta tb tc : TE} {d d1 d2 d3 : PyData} {Δ : List SD} {t u : TT} {r r' : R2} {i j : Int} {D : Ends} {tu tw tz : TS} {a : Addr} {c c1 c2 n : Int} {R R1 R2 : PyData → Prop}
/-- a new list, its first items given, that is going to be changed -/
theorem q_newL {m : Nat} {tA : TA} {ds : List PyData} (Z : S K B b0 h0 σ b h Δ) (he : EvDs K tA σ b ds) (hl : ds.length ≤ 100000) (k : ∀ p vs σ2 b2 h2, Fr [] b h b2 h2 → h p = none → b2 p = none → h2 p = some (.lst vs) → DaAll K b2 vs ds → S K B b0 h0 σ2 b2 h2 (Δ.set m (.adr p)) → tz D σ2 h2) : tSeq (tAsg (tLst tA) (gName m)) tz D σ h :=
  he b h (Same.refl b) Z.sub _ fun vs b2 h2 F dd => ⟨Nat.le_trans (by rw [dd.length]; exact hl) (by decide), fun p hp => by
    have L : Fr [] b2 h2 b2 (upd h2 p (.lst vs)) := Fr.fresh F.sub hp
    refine k p vs _ b2 _ (F.trans L) ?_ (F.sub.free hp) upd_same dd ⟨(Z.fr.trans F.any).trans L.any, (Z.sl.mono F.base).set (z := .adr p) rfl m⟩
    cases e : h p with
    | none => rfl
    | some o =>
      have := F.live p (by rw [e]; rfl)
      rw [hp] at this
      cases this⟩
/-- x, y, z = [], e, e' with a new list first -/
theorem q_par3L {n1 n2 n3 : Nat} (Z : S K B b0 h0 σ b h Δ) (e2 : EvD K ta σ b d2) (e3 : EvD K tb σ b d3) (k : ∀ p σ2 b2 h2, Fr [] b h b2 h2 → h p = none → b2 p = none → h2 p = some (.lst []) → S K B b0 h0 σ2 b2 h2 (((Δ.set n1 (.adr p)).set n2 (.dat d2)).set n3 (.dat d3)) → tz D σ2 h2) :
    tSeq (tPar3 n1 n2 n3 (tCons (tLst tNil) (tCons ta (tCons tb tNil)))) tz D σ h :=
  ⟨Nat.zero_le _, fun p hp => by
    have L : Fr [] b h b (upd h p (.lst [])) := Fr.fresh Z.sub hp
    have bp : b p = none := Z.sub.free hp
    refine e2 b _ (Same.refl b) L.sub _ fun v2 b2 g2 F2 D2 => e3 b2 g2 F2.base F2.sub _ fun v3 b3 g3 F3 D3 => ?_
    have p2 := F2.keep p _ bp (by intro q; cases q) upd_same
    have q2 := F2.out p bp (by rw [upd_same]; rfl)
    have p3 := F3.keep p _ q2 (by intro q; cases q) p2
    have q3 := F3.out p q2 (by rw [p2]; rfl)
    have G : Fr [] b h b3 g3 := (L.trans F2).trans F3
    exact ⟨_, _, _, rfl, k p _ b3 g3 G hp q3 p3 ⟨Z.fr.trans G.any, (((Z.sl.mono G.base).set (z := .adr p) rfl n1).set (z := .dat d2) ⟨_, rfl, D2.mono F3.base⟩ n2).set (z := .dat d3) ⟨_, rfl, D3⟩ n3⟩⟩⟩
/-- a comprehension over a range whose element draws -/
theorem t_lcR1 {tA : TA} {m : Nat} {vs : List Nat} {k : Int} (Sl : Slots K b σ Δ) (he : EvDs K tA σ b [.int k]) (hk : 0 ≤ k ∧ k ≤ 90000) (hc : 0 ≤ c) (hw : ∀ x, wipe ((wipe σ vs).set m (some x)) vs = wipe σ vs)
    (ht : ∀ (i : Nat) σ2 b2, (i : Int) < k → Same b b2 → Slots K b2 σ2 ((wipeD Δ vs).set m (.dat (.int (0 + (i : Int))))) → EvT K te σ2 b2 a c R) :
    EvT K (tLc (iRng1 tA) (gName m) tYes te vs) σ b a (k * c) (fun d => ∃ ds, d = .list ds ∧ (ds.length : Int) = k ∧ ∀ d ∈ ds, R d) := fun b1 h1 n s z hb T hn Q q =>
  he b1 h1 s z _ fun v b2 h2 F dd => by
    cases dd with
    | cons x r =>
      cases r; cases x
      obtain ⟨T2, hb2⟩ := T.keep F hb
      refine ⟨k, rfl, by omega, by omega, fun Dl hD => ?_⟩
      have hDa : Dl ≠ a := by
        intro e; subst e
        obtain ⟨_, _, _, e, _⟩ := T2
        rw [hD] at e; cases e
      refine lc_range (lo := 0) (n := k.toNat) (fun i H => ∃ b' acc ds, Fr [a] b2 h2 b' H ∧ b' Dl = none ∧ b' a = none ∧ Tin a (n + (i : Int) * c) H ∧ H Dl = some (.lst acc) ∧ DaAll K b' acc ds ∧ ds.length = i ∧ ∀ d ∈ ds, R d)
        ⟨b2, [], [], Fr.fresh F.sub hD, F.sub.free hD, hb2, ?_, upd_same, .nil, rfl, fun _ z => by cases z⟩ (fun i H hi p => ⟨hw _, ?_⟩) (fun H p => ?_)
      · obtain ⟨x, y, z, e, w⟩ := T2
        have e0 : n + ((0 : Nat) : Int) * c = n := by simp
        rw [e0]
        exact ⟨x, y, z, by rw [upd_ne hDa.symm]; exact e, w⟩
      · obtain ⟨b', acc, ds, F3, bD, ba, T3, hA, DA, hlen, hR⟩ := p
        have hi' : (i : Int) < k := by omega
        have hnn : n + (i : Int) * c + c ≤ mostDraws := by
          have h1 : ((i : Int) + 1) * c ≤ k * c := Int.mul_le_mul_of_nonneg_right (by omega) hc
          have h2 : ((i : Int) + 1) * c = (i : Int) * c + c := by rw [Int.add_mul, Int.one_mul]
          omega
        refine ht i _ b' hi' ((s.trans F.base).trans F3.base) (((Sl.mono ((s.trans F.base).trans F3.base)).wipe vs).set (z := .dat (.int (0 + (i : Int)))) ⟨_, rfl, .int _⟩ m) b' H (n + (i : Int) * c) (Same.refl b') F3.sub ba T3 hnn _ fun v d b4 h4 rd F4 ba4 T4 D4 => ?_
        have a4 : h4 Dl = some (.lst acc) := F4.keep Dl _ bD (by intro q; exact hDa (by simpa using q)) hA
        have bD4 : b4 Dl = none := F4.out Dl bD (by rw [hA]; rfl)
        refine ⟨acc, a4, ?_, b4, acc ++ [v], ds ++ [d], (F3.trans F4).new (Fr.mut F4.sub bD4) (fun q m => .inr ?_), bD4, ba4, ?_, upd_same, (DA.mono F4.base).append (.cons D4 .nil), ?_, ?_⟩
        · rw [DA.length, hlen]
          have : i < 90000 := by omega
          exact Nat.lt_of_lt_of_le this (by decide)
        · have e : q = Dl := by simpa using m
          rw [e]; exact hD
        · obtain ⟨x, y, z, e, w1, w2, w3, w4⟩ := T4
          have e1 : n + (((i + 1 : Nat) : Int)) * c = n + (i : Int) * c + c := by
            have : (((i + 1 : Nat) : Int)) = (i : Int) + 1 := by omega
            rw [this, Int.add_mul, Int.one_mul]
            omega
          rw [e1]
          exact ⟨x, y, z, by rw [upd_ne hDa.symm]; exact e, w1, w2, w3, w4⟩
        · rw [List.length_append, hlen]; rfl
        · intro d' hd'
          rcases List.mem_append.mp hd' with q | q
          · exact hR d' q
          · have : d' = d := by simpa using q
            rw [this]; exact rd
      · obtain ⟨b', acc, ds, F3, bD, ba, T3, hA, DA, hlen, hR⟩ := p
        obtain ⟨s1, s2⟩ := Fr.seal F3.sub bD hA
        have e1 : ((k.toNat : Nat) : Int) = k := by omega
        rw [e1] at T3
        refine q (.ref Dl) _ (upd b' Dl (.lst acc)) H ⟨ds, rfl, by omega, hR⟩ (F.any.trans ⟨F3.base.trans s1, s2, fun q n m => ?_, F3.keep, F3.live⟩) (by rw [upd_ne hDa.symm]; exact ba) T3 (.lst upd_same (DA.mono s1))
        have hc : q ≠ Dl := by intro e; subst e; rw [hD] at m; cases m
        rw [upd_ne hc]
        exact F3.out q n m
/-- a built-in on what was drawn -/
theorem t_cb1 {r : List V → Hp → VK → Prop} (h : EvT K te σ b a c R) (hr : ∀ d, R d → ∃ e, RcD K r [d] e ∧ R1 e) : EvT K (tCB r (tCons te tNil)) σ b a c R1 := fun b1 h1 n s z hb T hn Q q =>
  h b1 h1 n s z hb T hn _ fun v d b2 h2 rd F hb2 T2 D2 => by
    obtain ⟨e, rc, re⟩ := hr d rd
    refine rc b2 h2 F.sub [v] (.cons D2 .nil) Q fun v b3 h3 F3 D3 => ?_
    obtain ⟨T3, hb3⟩ := T2.keep F3 hb2
    exact q v e b3 h3 re (F.trans F3.any) hb3 T3 D3
theorem q_par3T {m1 m2 m3 : Nat} {tA : TA} {Rs : List PyData → Prop} (Z : S K B b0 h0 σ b h Δ) (hb : b a = none) (hB : a ∈ B ∨ h0 a = none) (T : Tin a n h) (hn : n + c ≤ mostDraws) (he : EvTs K tA σ b a c Rs) (hl : ∀ ds, Rs ds → ∃ d1 d2 d3, ds = [d1, d2, d3])
    (k : ∀ d1 d2 d3 σ2 b2 h2, Rs [d1, d2, d3] → S K B b0 h0 σ2 b2 h2 (((Δ.set m1 (.dat d1)).set m2 (.dat d2)).set m3 (.dat d3)) → b2 a = none → Tin a (n + c) h2 → tz D σ2 h2) : tSeq (tPar3 m1 m2 m3 tA) tz D σ h :=
  he b h n (Same.refl b) Z.sub hb T hn _ fun vs ds b2 h2 rd F hb2 T2 D2 => by
    obtain ⟨d1, d2, d3, rfl⟩ := hl ds rd
    cases D2 with
    | cons x1 r =>
      cases r with
      | cons x2 r =>
        cases r with
        | cons x3 r =>
          cases r
          exact ⟨_, _, _, rfl, k d1 d2 d3 _ b2 h2 rd ⟨(Z.draw hB F).fr, (((Z.draw hB F).sl.set (z := .dat d1) ⟨_, rfl, x1⟩ m1).set (z := .dat d2) ⟨_, rfl, x2⟩ m2).set (z := .dat d3) ⟨_, rfl, x3⟩ m3⟩ hb2 T2⟩
theorem q_tupT3 {m1 m2 m3 : Nat} (Z : S K B b0 h0 σ b h Δ) (hb : b a = none) (hB : a ∈ B ∨ h0 a = none) (T : Tin a n h) (hn : n + c ≤ mostDraws) (he : EvT K te σ b a c R) (hl : ∀ d, R d → ∃ d1 d2 d3, d = .tuple [d1, d2, d3])
    (k : ∀ d1 d2 d3 σ2 b2 h2, R (.tuple [d1, d2, d3]) → S K B b0 h0 σ2 b2 h2 (((Δ.set m1 (.dat d1)).set m2 (.dat d2)).set m3 (.dat d3)) → b2 a = none → Tin a (n + c) h2 → tz D σ2 h2) : tSeq (tAsg te (gTup K 3 (gCons (gName m1) (gCons (gName m2) (gCons (gName m3) gNil))))) tz D σ h :=
  he b h n (Same.refl b) Z.sub hb T hn _ fun v d b2 h2 rd F hb2 T2 D2 => by
    obtain ⟨d1, d2, d3, rfl⟩ := hl d rd
    exact g_tup3 (Z.draw hB F) D2 fun σ2 Z2 => k d1 d2 d3 σ2 b2 h2 rd Z2 hb2 T2
theorem q_tupT2 {m1 m2 : Nat} (Z : S K B b0 h0 σ b h Δ) (hb : b a = none) (hB : a ∈ B ∨ h0 a = none) (T : Tin a n h) (hn : n + c ≤ mostDraws) (he : EvT K te σ b a c R) (hl : ∀ d, R d → ∃ d1 d2, d = .tuple [d1, d2])
    (k : ∀ d1 d2 σ2 b2 h2, R (.tuple [d1, d2]) → S K B b0 h0 σ2 b2 h2 ((Δ.set m1 (.dat d1)).set m2 (.dat d2)) → b2 a = none → Tin a (n + c) h2 → tz D σ2 h2) : tSeq (tAsg te (gTup K 2 (gCons (gName m1) (gCons (gName m2) gNil)))) tz D σ h :=
  he b h n (Same.refl b) Z.sub hb T hn _ fun v d b2 h2 rd F hb2 T2 D2 => by
    obtain ⟨d1, d2, rfl⟩ := hl d rd
    exact g_tup2 (Z.draw hB F) D2 fun σ2 Z2 => k d1 d2 σ2 b2 h2 rd Z2 hb2 T2
theorem S.new0 {p : Addr} (Z : S K B b0 h0 σ b h Δ) (hp : h p = none) : h0 p = none := by
  cases e : h0 p with
  | none => rfl
  | some o =>
    have := Z.fr.live p (by rw [e]; rfl)
    rw [hp] at this
    cases this
theorem Tin.keepB {p : Addr} {b2 h2 : Hp} (T : Tin a n h) (F : Fr [p] b h b2 h2) (hb : b a = none) (hne : a ≠ p) : Tin a n h2 ∧ b2 a = none := by
  obtain ⟨x, y, z, e, q⟩ := T
  exact ⟨⟨x, y, z, F.keep a _ hb (by simpa using hne) e, q⟩, F.out a hb (by rw [e]; rfl)⟩
theorem Tin.ne {p : Addr} (T : Tin a n h) (hp : h p = none) : a ≠ p := by
  obtain ⟨x, y, z, e, q⟩ := T
  intro z; subst z; rw [hp] at e; cases e
theorem keepL {p : Addr} {xs : List V} {b2 h2 : Hp} (hx : h p = some (.lst xs)) (hb : b p = none) (F : Fr [] b h b2 h2) : h2 p = some (.lst xs) ∧ b2 p = none := ⟨F.keep p _ hb (by intro q; cases q) hx, F.out p hb (by rw [hx]; rfl)⟩
theorem rng_ints (lo : Int) (n : Nat) : rng lo n = ((List.range n).map fun (i : Nat) => lo + (i : Int)).map PyData.int := by
  unfold rng
  rw [List.map_map]
  rfl
theorem filt_ints (L : List Int) (f : PyData → Bool) : ((L.map PyData.int).filter f).map (fun d => d) = (L.filter fun i => f (.int i)).map PyData.int := by
  rw [List.map_id', List.filter_map]
  rfl
theorem canAll_ints : ∀ L : List Int, PyData.canLayAll0 (L.map PyData.int) = true
  | [] => rfl
  | i :: L => by
    show (PyData.canLay0 (.int i) && PyData.canLayAll0 (L.map PyData.int)) = true
    rw [canAll_ints L]
    rfl
theorem depAll_ints : ∀ L : List Int, PyData.depthAll (L.map PyData.int) = 0
  | [] => rfl
  | i :: L => by
    show max (PyData.depth (.int i)) (PyData.depthAll (L.map PyData.int)) = 0
    rw [depAll_ints L]
    rfl
theorem shaped_ints (L : List Int) : SeqAt.shaped (.list (L.map PyData.int)) = true := by
  show (PyData.canLay0 (.list (L.map PyData.int)) && decide (PyData.depth (.list (L.map PyData.int)) ≤ 64)) = true
  have h1 : PyData.canLay0 (.list (L.map PyData.int)) = true := canAll_ints L
  have h2 : PyData.depth (.list (L.map PyData.int)) = 1 := by
    show PyData.depthAll (L.map PyData.int) + 1 = 1
    rw [depAll_ints L]
  rw [h1, h2]
  rfl
def optD : Option Int → PyData
  | some i => .int i
  | none => .none
theorem fineB (L : List Int) : (!PyData.eqv (.list (L.map PyData.int)) (.list [])) = !L.isEmpty := by
  cases L with
  | nil => rfl
  | cons x r => rfl
/-- xs[0] if xs != [] else None, xs[-1] likewise -/
theorem d_first {m : Nat} {L : List Int} (Z : S K B b0 h0 σ b h Δ) (e : Δ[m]? = some (.dat (.list (L.map PyData.int)))) : EvD K (tIf (tTest (tOp (rNeA K) (tVar m) (tLst tNil))) (tOp (rIx K) (tVar m) (tC (.int 0))) (tC .non)) σ b (optD L.head?) := by
  refine d_if (c := !L.isEmpty) (EvB.is (b_test (d_op (d_varZ Z e) (d_lst ds_nil (Nat.zero_le _)) (rv_neAD (shaped_ints L) rfl))) (fineB L)) (fun hc => ?_) (fun hc => ?_)
  · cases L with
    | nil => cases hc
    | cons x r => exact d_op (d_varZ Z e) (d_int 0) (rv_ixL (atI_nat (j := 0) rfl))
  · cases L with
    | nil => exact d_non
    | cons x r => cases hc
theorem d_last {m : Nat} {L : List Int} (Z : S K B b0 h0 σ b h Δ) (e : Δ[m]? = some (.dat (.list (L.map PyData.int)))) : EvD K (tIf (tTest (tOp (rNeA K) (tVar m) (tLst tNil))) (tOp (rIx K) (tVar m) (tUn (rU fun i => .int (-i)) (tC (.int 1)))) (tC .non)) σ b (optD L.getLast?) := by
  refine d_if (c := !L.isEmpty) (EvB.is (b_test (d_op (d_varZ Z e) (d_lst ds_nil (Nat.zero_le _)) (rv_neAD (shaped_ints L) rfl))) (fineB L)) (fun hc => ?_) (fun hc => ?_)
  · cases hL : L with
    | nil => rw [hL] at hc; cases hc
    | cons x r =>
      rw [← hL]
      have hne : L ≠ [] := by rw [hL]; exact List.cons_ne_nil _ _
      have e1 : L = L.dropLast ++ [L.getLast hne] := (List.dropLast_concat_getLast hne).symm
      have e2 : L.getLast? = some (L.getLast hne) := List.getLast?_eq_getLast hne
      rw [e2]
      refine d_op (d_varZ Z e) (d_neg (d_int 1)) (rv_ixL ?_)
      have e3 : L.map PyData.int = L.dropLast.map PyData.int ++ [.int (L.getLast hne)] := by
        conv => lhs; rw [e1]
        rw [List.map_append]
        rfl
      rw [e3]
      exact atI_last _ _
  · cases L with
    | nil => exact d_non
    | cons x r => cases hc
end
end DV

namespace DV
open PySem L2
/-! t[::-1], t a tuple -/
section
variable {prog : Program} {w : World} {A : Around} {E : Value → Shared → Prop} {s : Shared}
theorem adj_back (n : Nat) : Builtin.Slice.sliceAdjust none none (-1) (n : Int) = ((n : Int) - 1, -1) := by
  unfold Builtin.Slice.sliceAdjust
  simp
theorem plc_back (n : Nat) : Builtin.Slice.slicePlaces ((n : Int) - 1) (-1) (-1) = n := by
  unfold Builtin.Slice.slicePlaces
  simp
  omega
theorem app_back {sl : Addr} {q : Value} {n : Nat} {Q : Int × Int × Nat → Shared → Prop} (hs : s.heap.IsSliceOf sl .none .none q) (pq : IsPart q (some (-1))) (h : Q ((n : Int) - 1, -1, n) s) :
    wpAny (model prog w) A (Builtin.Slice.sliceApplied (.ref sl) (pure (n : Int))) Q E s := by
  obtain ⟨os, c1, c2, c3⟩ := id hs
  unfold Builtin.Slice.sliceApplied Builtin.Slice.sliceFields
  refine wpAny_bind (wpAny_bind (wpAny_field c1 c3 (x := .none) rfl (wpAny_bind (wpAny_field c1 c3 (x := .none) rfl (wpAny_bind (wpAny_field c1 c3 (x := q) rfl (wpAny_pure ?g)))))))
  refine wpAny_bind (HT.slicePart_ pq ?_)
  show wpAny _ _ (if ((-1 : Int) == 0) = true then _ else _) _ _ s
  rw [if_neg (show ¬ ((-1 : Int) == 0) = true by decide)]
  refine wpAny_bind (HT.slicePart_ .none (wpAny_bind (HT.slicePart_ .none (wpAny_bind (wpAny_pure ?_)))))
  show wpAny _ _ (match Builtin.Slice.sliceAdjust none none (-1) (n : Int) with | (a, b) => pure (a, (-1 : Int), Builtin.Slice.slicePlaces a b (-1))) _ _ s
  rw [adj_back n]
  show wpAny _ _ (pure ((n : Int) - 1, (-1 : Int), Builtin.Slice.slicePlaces ((n : Int) - 1) (-1) (-1))) _ _ s
  rw [plc_back]
  exact wpAny_pure h
theorem fm_congr {α β : Type} {f g : α → Option β} : ∀ {l : List α}, (∀ a ∈ l, f a = g a) → l.filterMap f = l.filterMap g
  | [], _ => rfl
  | a :: l, h => by
    rw [List.filterMap_cons, List.filterMap_cons, h a (List.mem_cons_self ..), fm_congr fun x hx => h x (List.mem_cons_of_mem _ hx)]
theorem pick_back (xs : Array Value) : ((List.range xs.size).filterMap fun (m : Nat) => xs[(((xs.size : Int) - 1) + (m : Int) * -1).toNat]?).toArray = xs.toList.reverse.toArray := by
  have e : ∀ m ∈ List.range xs.size, (fun (m : Nat) => xs[(((xs.size : Int) - 1) + (m : Int) * -1).toNat]?) m = ((fun k => xs[k]?) ∘ fun k => xs.size - 1 - k) m := fun m hm => by
    have h1 := List.mem_range.mp hm
    have h2 : (((xs.size : Int) - 1) + (m : Int) * -1).toNat = xs.size - 1 - m := by omega
    show xs[(((xs.size : Int) - 1) + (m : Int) * -1).toNat]? = xs[xs.size - 1 - m]?
    rw [h2]
  rw [fm_congr e, ← List.filterMap_map, PySem.W.krv_range, List.filterMap_reverse, PySem.W.krv_all]
theorem get_back {t sl : Addr} {items : Array Value} {q : Value} {Q : Value → Shared → Prop} (ht : PyProof.Rows.IsTup s.heap t items) (hs : s.heap.IsSliceOf sl .none .none q) (pq : IsPart q (some (-1))) (hz : items.size ≤ sizeLine)
    (h : Q (.ref s.heap.objs.size) { s with heap := s.heap.push { cls := .type "tuple", data := .seq items.toList.reverse.toArray } }) : wpAny (model prog w) A (getItem (.ref t) (.ref sl)) Q E s := by
  have z2 : sizeOk (.seq items.toList.reverse.toArray) := by
    show items.toList.reverse.toArray.size ≤ sizeLine
    simpa using hz
  obtain ⟨os, c1, c2, c3⟩ := id hs
  have tS : s.TypeIs (.ref sl) "slice" := ⟨os, c1, c2⟩
  unfold getItem
  try with_reducible refine wpAny_holding ?_
  first | refine wpAny_bind (wpAny_pure ?_) | skip
  refine wpAny_bind (wpAny_sequenceKey ht.typeIs (by decide) ?_)
  refine wpAny_bind (wpAny_callSpecial?_slot (name := Str.ofString "__getitem__") ht.typeIs PyProof.Rows.slot_tuple_getitem (wpAny_call_entry PyProof.Rows.slot_tuple_getitem ht.typeIs PyProof.Rows.entry_tuple_getitem ?g (PyProof.Rows.args_tuple_getitem _ _)))
  show wpAny _ _ (Builtin.Tuple.tupleItemsOf (.ref t) >>= _) _ _ s
  refine wpAny_bind (PyProof.Rows.tupleItemsOf_ ht ?_)
  refine wpAny_bind (wpAny_typeOf tS ?_)
  rw [if_pos (by decide)]
  refine wpAny_bind (app_back hs pq ?_)
  have no : ¬ ((((items.size : Int) - 1) == 0 && (-1 : Int) == 1 && items.size == items.size) = true) := by simp
  show wpAny _ _ (if (((items.size : Int) - 1) == 0 && (-1 : Int) == 1 && items.size == items.size) = true then _ else _) _ _ s
  rw [if_neg no, pick_back]
  first
    | exact wpAny_bind (m := Builtin.Tuple.tupleExact _) (wpAny_newObj_type (wpAny_pure ⟨_, rfl, wpAny_pure h⟩) z2)
    | exact wpAny_bind (m := Builtin.Tuple.tupleExact _) (wpAny_newObj_type (wpAny_bind (wpAny_pure (wpAny_pure ⟨_, rfl, wpAny_pure h⟩))) z2)
    | exact wpAny_bind (wpAny_bind (m := Builtin.Tuple.tupleExact _) (wpAny_newObj_type (wpAny_pure (wpAny_pure ⟨_, rfl, wpAny_pure h⟩)) z2))
    | exact wpAny_bind (wpAny_bind (m := Builtin.Tuple.tupleExact _) (wpAny_newObj_type (wpAny_pure ⟨_, rfl, wpAny_pure h⟩) z2))
end
end DV
namespace DV
open PySem L2
section
variable {X : Cx}
end
end DV
namespace DV
open PySem PySem.Spec PyProof.Rows L2
section
variable {X : Cx}
def tBackT (K : PySem.W.Frag) (te : TE) : TE := fun σ H Q => te σ H fun x H1 => ∃ a xs, x = .ref a ∧ SqT K H1 a xs ∧ ∀ p, H1 p = none → Q (.ref p) (upd H1 p (.tup xs.reverse))
theorem pe_backT {e : Expr} {te : TE} {k : Nat} {p1 p2 p3 pos : Pos} (he : PE X e te) : PE X (.Subscript e (.Slice none none (some (.UnaryOp .USub (.Constant (.int 1) k p1) p2)) p3) pos) (tBackT X.K te) := by
  refine ⟨fun pins s σ H Q I hq => ?_⟩
  refine Subscript_ (thn (he.run pins s σ H _ I hq) fun v t1 ⟨x, H1, J1, r1, q1⟩ => ?_)
  obtain ⟨a, xs, rfl, hx, q⟩ := q1
  cases r1
  have hst : PO X (some (.UnaryOp .USub (.Constant (.int 1) k p1) p2)) (tPart (tUn (rU fun i => .int (-i)) (tC (.int 1)))) := po_some (pe_un un_neg pe_int)
  refine wpAny_Slice (thn (po_none.run pins t1 σ H1 (fun o G => o = none ∧ G = H1) J1 ⟨rfl, rfl⟩) fun v1 t2 ⟨l, H2, J2, w1, el, e2⟩ => ?_)
  subst el e2
  refine thn (po_none.run pins t2 σ H2 (fun o G => o = none ∧ G = H2) J2 ⟨rfl, rfl⟩) fun v2 t3 ⟨u, H3, J3, w2, eu, e3⟩ => ?_
  subst eu e3
  refine thn (hst.run pins t3 σ H3 (fun o G => o = some (-1) ∧ G = H3) J3 ⟨1, rfl, -1, rfl, rfl, rfl⟩) fun v3 t4 ⟨o, H4, J4, w3, eo, e4⟩ => ?_
  subst eo e4
  cases w1
  cases w2
  have J5 : Inv X pins σ H4 { t4 with heap := t4.heap.push { cls := .type "slice", data := .fields #[.none, .none, v3] } } := J4.kept (t' := t4.toks) fun b ob q => Heap.get?_push_of_some _ q
  obtain ⟨its, r, ht, hz⟩ := J5.tuple hx
  have hlen := r.length
  show wpAny (model X.prog X.w) X.A (subscriptTail e (.Slice none none (some (.UnaryOp .USub (.Constant (.int 1) k p1) p2)) p3) (.ref a) (.ref t4.heap.objs.size)) (EP X pins σ Q) X.xe { t4 with heap := t4.heap.push { cls := .type "slice", data := .fields #[.none, .none, v3] } }
  refine tail_any (ops := [.ref a, .ref t4.heap.objs.size]) ht.typeIs PyProof.Rows.slot_tuple_getitem.lookup ?_ (by with_unfolding_all rfl)
  refine get_back ht (Heap.IsSliceOf.new _ .none .none v3) w3 (by rw [List.size_toArray]; omega) ?_
  refine ⟨.ref _, _, J5.laid (t' := t4.toks) (o := .tup xs.reverse) (fun b ob q => Heap.get?_push_of_some _ q) (Nat.le_refl _) ?_, rfl, q _ (J5.hok.fresh (Nat.le_refl _))⟩
  exact ⟨by rw [List.length_reverse]; exact hz, its.reverse, r.reverse, IsTup.new _ _⟩
end
end DV

namespace DV
open PySem L2 PySem.Spec PyProof.Rows
/-! enumerate(t), t a tuple: as the library has it for lists, by its rules for what an iterator draws -/
/-- the object that enumerate makes over the iterator at n -/
abbrev enumObj (n : Addr) : Obj := { cls := .type "enumerate", data := .fields #[.none, .bool false, .ref n, rawInt 0, .none, .none] }
abbrev tupIt (a : Addr) : Obj := { cls := .type "tuple_iterator", data := .fields #[.ref a, .int 0 0] }
abbrev enumHeap (g : Heap) (a : Addr) : Heap := (g.push (tupIt a)).push (enumObj g.objs.size)
theorem meets_enumT (a : Addr) (its : Array Value) :
    Meets (Builtin.«enumerate.__new__» ⟨[.type "enumerate", .ref a], []⟩) (fun _ R z => z.heap.IsTuple a its ∧ R (.ok (.ret (.ref (z.heap.push (tupIt a)).objs.size))) { z with heap := enumHeap z.heap a }) := by
  refine .of_wp fun pr wd ar R z hz => ?_
  obtain ⟨g, ge, dr, tk, ot⟩ := z
  obtain ⟨ht, goal⟩ := hz
  have sub := sub_enumerate
  have begin' : ∀ {B : Around} {E' : Value → Shared → Prop} {Q' : Value → Shared → Prop}, Q' (.ref g.objs.size) ⟨g.push (tupIt a), ge, dr, tk, ot⟩ → wpAny (model pr wd) B (pyIter (.ref a)) Q' E' ⟨g, ge, dr, tk, ot⟩ := fun k => wpAny_pyIter_tuple ht k
  wp_walk using begin'
  refine wpAny_stack_any fun frames => wpAny_pure ?_
  split
  · next c _ _ _ _ _ => cases (c == Value.type "enumerate") <;> (wp_walk using begin'; exact ⟨_, rfl, goal⟩)
  · wp_walk using begin'
    exact ⟨_, rfl, goal⟩
theorem enum_tup {prog : Program} {w : World} {A : Around} {E : Value → Shared → Prop} {z : Shared} {a : Addr} {its : Array Value} {Q : Value → Shared → Prop} (ht : z.heap.IsTuple a its)
    (k : Q (.ref (z.heap.objs.size + 1)) { z with heap := enumHeap z.heap a }) : wpAny (model prog w) A (call (.type "enumerate") [.ref a]) Q E z := by
  have size1 : (z.heap.push (tupIt a)).objs.size = z.heap.objs.size + 1 := by rw [Heap.size_push]
  have there : (enumHeap z.heap a).get? (z.heap.objs.size + 1) = some (enumObj z.heap.objs.size) := by
    rw [← size1]
    exact Heap.get?_push_size _ rfl
  refine callType_new F.called_enumerate (by decide) (F.typeCall_enumerate_1 _) (F.newCall_enumerate_1 _) (fun ob => F.args_object_init_2 ob _) F.entry_enumerate_new (meets_enumT a its) ⟨ht, ?_⟩
  show _ ∧ _
  rw [size1]
  exact ⟨⟨_, there, rfl⟩, k⟩
/-- what the turns over enumerate of the tuple at a give: the index, the item, in a new pair -/
def IteT (K : PySem.W.Frag) (a : Addr) : It where
  go := fun n H => ∃ (vs : List V) (v : V), SqT K H a vs ∧ vs[n]? = some v
  yld := fun n H y H' => ∃ P v, y = .ref P ∧ H P = none ∧ H' = upd H P (.tup [.int (n : Nat), v]) ∧ ∀ vs, SqT K H a vs → vs[n]? = some v
  stop := fun n H => ∃ vs : List V, SqT K H a vs ∧ vs.length = n
def EnSt (a e t : Addr) (n : Nat) (g : Heap) : Prop := (∃ last, IsEnum g e t ((n : Nat) : Int) last) ∧ g.IsTupleIter t a n ∧ e ≠ t ∧ e ≠ a ∧ a ≠ t
theorem two_mem {e t b : Addr} (m : b ∈ [e, t]) : b = e ∨ b = t := by simpa using m
theorem turn_enumT {P : Program} {w : World} {K : PySem.W.Frag} {elts : List Expr} {kk : Nat} {tpos : Pos} (a e t : Addr) : Turn P w K (.Tuple elts kk tpos) (IteT K a) [e, t] e (EnSt a e t) := by
  refine { mem := by simp, obj := ?o, keep := ?k, item := ?i, done := ?d, self := ?s }
  case o =>
    rintro n g ⟨⟨last, q1⟩, ⟨ob, q2, q3, q4⟩, _⟩ b m
    rcases two_mem m with rfl | rfl
    · exact ⟨_, q1, fun _ z => nomatch z⟩
    · exact ⟨ob, q2, fun _ z => by rw [q4] at z; cases z⟩
  case k =>
    rintro n g g' ⟨⟨last, q1⟩, q2, q3⟩ old
    exact ⟨⟨last, old e (by simp) _ q1⟩, q2.at (fun ob z => old t (by simp) ob z), q3⟩
  case s =>
    rintro B n z Q E ⟨⟨_, q1⟩, _⟩ k
    exact wpAny_pyIter_enum q1 k
  case i =>
    intro X eP ew eK calm n pins z σ H E I apart st hg
    subst eP ew eK
    obtain ⟨⟨last, q1⟩, q2, ne1, ne2, ne3⟩ := st
    obtain ⟨vs, v, hv, at'⟩ := hg
    obtain ⟨us, rel, isT, small⟩ := I.tuple hv
    obtain ⟨u, atu, ru⟩ := rel.get at'
    have le : e < z.heap.objs.size := Heap.lt_size q1
    have lt : t < z.heap.objs.size := Heap.lt_size (id q2).choose_spec.1
    have inb : n < us.toArray.size := by rw [List.size_toArray, ← rel.length]; exact (List.getElem?_eq_some_iff.mp at').1
    have draws := Draws.tuple (prog := X.prog) (w := X.w) (A := X.A.in1) (show X.A.in1.handled = none from I.ok.hd calm) t a ne3 us.toArray
    refine wpAny_pyNext_enum_itemD draws q1 ⟨q2, isT⟩ inb ne1 (by simp [ne1, ne2]) fun u2 g tk e2 out it2 pair sz same => ?_
    obtain rfl : u2 = u := Option.some.inj (e2.symm.trans (show us.toArray[n]? = some u by simpa using atu))
    refine ⟨_, rfl, wpAny_letOwnedTupleGo_enum (s := { z with heap := g, toks := tk + 1 }) out fun g2 enum2 but => ?_⟩
    have pair2 := (but.2 _ (Nat.ne_of_gt le)).trans pair
    have fresh : H z.heap.objs.size = none := I.hok.fresh (Nat.le_refl _)
    have ok : ObjOk X.prog X.w (upd H z.heap.objs.size (.tup [.int (n : Nat), v])) g2 z.heap.objs.size (.tup [.int (n : Nat), v]) := ⟨show 2 ≤ sizeLine by decide, _, .cons ⟨_, rfl⟩ (.cons ru .nil), _, pair2, rfl, _, rfl⟩
    have keep : ∀ b ob, b ∉ [e, t] → z.heap.get? b = some ob → g2.get? b = some ob := fun b ob m q => (but.2 b fun y => m (by simp [y])).trans (same b ob (fun y => m (by simp [y])) (fun y => m (by simp [y])) q)
    have I2 : Inv X pins σ (upd H z.heap.objs.size (.tup [.int (n : Nat), v])) { z with heap := g2, toks := tk + 1 } := I.turnedNew (ch := [e, t]) keep apart (Nat.le_refl _) ok
    have next : IsEnum g2 e t ((n + 1 : Nat) : Int) u2 := by
      rw [show ((n + 1 : Nat) : Int) = (n : Int) + 1 by omega]
      exact enum2
    have yields : (IteT X.K a).yld n H (.ref z.heap.objs.size) (upd H z.heap.objs.size (.tup [.int (n : Nat), v])) := ⟨_, v, rfl, fresh, rfl, fun ws hw => by rw [I.tuple_inj hw hv]; exact at'⟩
    refine ⟨.ref z.heap.objs.size, _, I2, rfl, yields, ⟨⟨u2, next⟩, it2.1.at fun ob q => (but.2 t ne1.symm).trans q, ne1, ne2, ne3⟩, fun b m => ?_⟩
    have below : b < z.heap.objs.size := by rcases two_mem m with rfl | rfl <;> assumption
    rw [upd_ne (Nat.ne_of_lt below)]
    exact (apart b m).1
  case d =>
    intro X eP ew eK calm n pins z σ H E I apart st hg
    subst eP ew eK
    obtain ⟨⟨last, q1⟩, q2, ne1, ne2, ne3⟩ := st
    obtain ⟨vs, hv, rfl⟩ := hg
    obtain ⟨us, rel, isT, small⟩ := I.tuple hv
    have draws := Draws.tuple (prog := X.prog) (w := X.w) (A := X.A.in1) (show X.A.in1.handled = none from I.ok.hd calm) t a ne3 us.toArray
    have len : vs.length = us.toArray.size := by rw [List.size_toArray, rel.length]
    obtain ⟨a0, a1, a2, a3, a4, a5⟩ := apart t (by simp)
    refine wpAny_pyNext_enum_endD draws q1 ⟨by rw [← len]; exact q2, isT⟩ fun g same => ⟨rfl, ?_⟩
    exact I.turned (t' := z.toks) (fun b ob m q => same b ob m q) a0 a1 a3 a4 a5
def iEnumT (K : PySem.W.Frag) (ta : TA) : TI := fun σ H R => ta σ H fun us G => ∃ a vs, us = [.ref a] ∧ SqT K G a vs ∧ R (IteT K a) G
theorem pi_enumT {X : Cx} {e : Expr} {ta : TA} {p pos tpos : Pos} {elts : List Expr} {kk : Nat} (hg : Gl X "enumerate") (hm : X.mg "enumerate" = none) (ha : PA X [e] ta) (hs : starEach [e] X.env = [(false, eval e X.env)] := by rfl) : PI X (.Tuple elts kk tpos) (.Call (.Name "enumerate" p) [e] [] pos) (iEnumT X.K ta) := by
  constructor
  intro pins z σ H R I h
  refine Call_ (ld_blt I hg hm boot_enumerate (callWith_type1 (thn (ha.run pos pins z σ H _ I h) fun us y ⟨ws, G, J, rel, a, vs, ew, hv, k⟩ => ?_) hs rfl))
  subst ew
  cases rel with
  | cons r1 rest =>
    cases rest
    cases r1
    obtain ⟨its, _, isT, _⟩ := J.tuple hv
    have la : a < y.heap.objs.size := Heap.lt_size (id isT).choose_spec.1
    refine enum_tup (its := its.toArray) isT ?_
    have size1 : (y.heap.push (tupIt a)).objs.size = y.heap.objs.size + 1 := by rw [Heap.size_push]
    have there : (enumHeap y.heap a).get? (y.heap.objs.size + 1) = some (enumObj y.heap.objs.size) := by
      rw [← size1]
      exact Heap.get?_push_size _ rfl
    have iter : (enumHeap y.heap a).get? y.heap.objs.size = some (tupIt a) := Heap.get?_push_of_some _ (Heap.get?_push_size _ rfl)
    have J2 : Inv X pins σ G { y with heap := enumHeap y.heap a } := J.kept (t' := y.toks) fun b ob q => Heap.get?_push_of_some _ (Heap.get?_push_of_some _ q)
    have first : EnSt a (y.heap.objs.size + 1) y.heap.objs.size 0 (enumHeap y.heap a) := ⟨⟨.none, there⟩, ⟨_, iter, rfl, rfl⟩, Nat.succ_ne_self _, fun q => absurd la (by rw [← q]; exact Nat.not_lt.mpr (Nat.le_succ _)), Nat.ne_of_lt la⟩
    refine wpAny_pyIter_enum there ⟨_, [y.heap.objs.size + 1, y.heap.objs.size], _, _, G, rfl, J2, turn_enumT a (y.heap.objs.size + 1) y.heap.objs.size, first, fun b m => ?_, k⟩
    have above : y.heap.objs.size ≤ b := by
      rcases two_mem m with rfl | rfl
      · exact Nat.le_succ _
      · exact Nat.le_refl _
    exact J.fpOk above (J.hok.fresh above)
theorem walk_enumT {K : PySem.W.Frag} {a : Addr} {xs : List V} : Walk (IteT K a) xs.length (fun H => SqT K H a xs) (YPair (fun n => some (.int (n : Nat))) (fun n => xs[n]?)) := by
  constructor
  · exact fun n _ lt q => ⟨xs, xs[n], q, List.getElem?_eq_getElem lt⟩
  · exact fun _ q => ⟨xs, q, rfl⟩
  · rintro n H y H' _ q ⟨P, v, e1, e2, e3, e4⟩
    exact ⟨P, .int (n : Nat), v, e1, e2, e3, rfl, e4 xs q⟩
end DV

namespace DV
open PySem L2
theorem pe_globX {X : Cx} {x : Str} {v : V} {pos : Pos} (hg : Gl X x) (hm : ∃ u, X.mg x = some u ∧ RelV v u) (hd : (x == ("__debug__" : Str)) = false := by decide) : PE X (.Name x pos) (tC v) := by
  obtain ⟨u, h1, h2⟩ := hm
  exact pe_glob hg h1 h2 hd
theorem tup_size {vs : List V} {its : Array Value} (h : Vals vs its.toList) (hl : vs.length ≤ 1000) : its.size ≤ sizeLine := by
  have := h.length
  have e : its.toList.length = its.size := Array.length_toList
  exact Nat.le_trans (by omega) (show 1000 ≤ sizeLine by decide)
def rAddB (K : PySem.W.Frag) : R2 := fun x y H Q => rAddA K x y H Q ∨ rCatA K x y H Q
theorem op_addB {X : Cx} : OpR X (binaryOp .Add) (rAddB X.K) := OpR.or op_addA op_catA
theorem op_addAK {K : PySem.W.Frag} {X : Cx} (h : X.K = K) : OpR X (binaryOp .Add) (rAddA K) := by subst h; exact op_addA
theorem op_addBK {K : PySem.W.Frag} {X : Cx} (h : X.K = K) : OpR X (binaryOp .Add) (rAddB K) := by subst h; exact op_addB
theorem ix_seqK {K : PySem.W.Frag} {X : Cx} (h : X.K = K) : IxR X (rIx K) := by subst h; exact ix_seq
theorem sl_tupAK {K : PySem.W.Frag} {X : Cx} (h : X.K = K) : SlR X (rSlA K) := by subst h; exact sl_tupA
theorem sl_listK {K : PySem.W.Frag} {X : Cx} (h : X.K = K) : SlR X (rSlL K) := by subst h; exact sl_list
theorem pi_enumTK {K : PySem.W.Frag} {X : Cx} (hK : X.K = K) {e : Expr} {ta : TA} {p pos tpos : Pos} {elts : List Expr} {kk : Nat} (hg : Gl X "enumerate") (hm : X.mg "enumerate" = none) (ha : PA X [e] ta) (hs : starEach [e] X.env = [(false, eval e X.env)] := by rfl) : PI X (.Tuple elts kk tpos) (.Call (.Name "enumerate" p) [e] [] pos) (iEnumT K ta) := by subst hK; exact pi_enumT hg hm ha hs
def cutD (ds : List PyData) (lo hi : Option Int) : List PyData := (ds.drop (HT.sIx ds.length 0 lo)).take (HT.sIx ds.length ds.length hi - HT.sIx ds.length 0 lo)
section
variable {K : PySem.W.Frag} {B : List Addr} {b0 h0 : Hp} {σ : St} {b b' h : Hp} {te ta tb tc : TE} {d d1 d2 d3 : PyData} {Δ : List SD} {t u : TT} {r r' : L2.R2} {i j : Int} {D : Ends} {tu tw tz : TS} {a : Addr} {c c1 c2 n : Int} {R R1 R2 : PyData → Prop}
theorem rv_B (h : RvD K (rAddA K) d1 d2 d) : RvD K (rAddB K) d1 d2 d := rv_or1 h
theorem rv_addIB : RvD K (rAddB K) (.int i) (.int j) (.int (i + j)) := rv_B rv_addI
theorem rv_addLB {ds es : List PyData} (hz : ds.length + es.length ≤ 100000) : RvD K (rAddB K) (.list ds) (.list es) (.list (ds ++ es)) := rv_B (rv_addL hz)
theorem rv_addTB {ds es : List PyData} (hz : ds.length + es.length ≤ 100000) : RvD K (rAddB K) (.tuple ds) (.tuple es) (.tuple (ds ++ es)) := rv_or2 fun b1 h0 z x y X Y Q q => by
  cases X with
  | @tup a1 xs1 _ s a =>
    cases Y with
    | @tup a2 xs2 _ s2 aa =>
      refine ⟨_, _, _, _, rfl, rfl, sqT_mono z s, sqT_mono z s2, ?_, fun e => ?_, fun _ e => ?_, fun _ _ p hp => ?_⟩
      · rw [a.length, aa.length]; exact Nat.le_trans hz (by decide)
      · subst e; cases a; exact q _ b1 _ (Fr.rfl' z) (.tup s2 aa)
      · subst e; cases aa; rw [List.append_nil] at q; exact q _ b1 _ (Fr.rfl' z) (.tup s a)
      · exact q _ (upd b1 p (.tup _)) _ (Fr.laid z hp) (.tup (.inl (.inl upd_same)) ((a.append aa).mono (Fr.laid (B := []) z hp).base))
theorem cutD_all {ds : List PyData} {lo hi : Option Int} (h1 : HT.sIx ds.length 0 lo = 0) (h2 : HT.sIx ds.length ds.length hi = ds.length) : cutD ds lo hi = ds := by
  unfold cutD
  rw [h1, h2]
  simp
theorem d_slT {tl th : TO} {ds : List PyData} {lo hi : Option Int} (h : EvD K te σ b (.tuple ds)) (hl : EvO tl σ b lo) (hh : EvO th σ b hi) : EvD K (tSl (rSlA K) te tl th) σ b (.tuple (cutD ds lo hi)) := fun b1 h1 s z Q q =>
  h b1 h1 s z _ fun v b2 h2 F dd => hl b2 h2 (s.trans F.base) F.sub _ fun b3 h3 F3 => hh b3 h3 ((s.trans F.base).trans F3.base) F3.sub _ fun b4 h4 F4 => by
    have dd4 := dd.mono (F3.base.trans F4.base)
    cases dd4 with
    | @tup a xs _ sa da =>
      have G := (F.trans F3).trans F4
      refine ⟨a, xs, rfl, sqT_mono G.sub sa, fun e => ?_, fun _ p hp => ?_⟩
      · rw [da.length] at e
        rw [cutD_all e.1 e.2] at q
        exact q _ b4 h4 G (.tup sa da)
      · have e : DaAll K b4 (cutV xs lo hi) (cutD ds lo hi) := by
          unfold cutV cutD
          rw [da.length]
          exact DaAll.take _ (DaAll.drop _ da)
        exact q _ (upd b4 p (.tup _)) _ (G.trans (Fr.laid G.sub hp)) (.tup (.inl (.inl upd_same)) (e.mono (Fr.laid (B := []) G.sub hp).base))
theorem d_slL {tl th : TO} {ds : List PyData} {lo hi : Option Int} (h : EvD K te σ b (.list ds)) (hl : EvO tl σ b lo) (hh : EvO th σ b hi) : EvD K (tSl (rSlL K) te tl th) σ b (.list (cutD ds lo hi)) := fun b1 h1 s z Q q =>
  h b1 h1 s z _ fun v b2 h2 F dd => hl b2 h2 (s.trans F.base) F.sub _ fun b3 h3 F3 => hh b3 h3 ((s.trans F.base).trans F3.base) F3.sub _ fun b4 h4 F4 => by
    have dd4 := dd.mono (F3.base.trans F4.base)
    cases dd4 with
    | @lst a xs _ sa da =>
      have G := (F.trans F3).trans F4
      refine ⟨a, xs, rfl, .inl (.inl (G.sub _ _ sa)), fun p hp => ?_⟩
      have e : DaAll K b4 (cutV xs lo hi) (cutD ds lo hi) := by
        unfold cutV cutD
        rw [da.length]
        exact DaAll.take _ (DaAll.drop _ da)
      exact q _ (upd b4 p (.lst _)) _ (G.trans (Fr.laid G.sub hp)) (.lst upd_same (e.mono (Fr.laid (B := []) G.sub hp).base))
theorem d_slTh {ds : List PyData} (h : EvD K te σ b (.tuple ds)) (hh : EvD K tb σ b (.int j)) (e : .tuple (cutD ds none (some j)) = d) : EvD K (tSl (rSlA K) te tNoPart (tPart tb)) σ b d := EvD.is (d_slT h o_none (o_some hh)) e
theorem d_slTl {ds : List PyData} (h : EvD K te σ b (.tuple ds)) (hh : EvD K tb σ b (.int j)) (e : .tuple (cutD ds (some j) none) = d) : EvD K (tSl (rSlA K) te (tPart tb) tNoPart) σ b d := EvD.is (d_slT h (o_some hh) o_none) e
theorem d_slTb {ds : List PyData} (h : EvD K te σ b (.tuple ds)) (hl : EvD K ta σ b (.int i)) (hh : EvD K tb σ b (.int j)) (e : .tuple (cutD ds (some i) (some j)) = d) : EvD K (tSl (rSlA K) te (tPart ta) (tPart tb)) σ b d := EvD.is (d_slT h (o_some hl) (o_some hh)) e
theorem d_slLh {ds : List PyData} (h : EvD K te σ b (.list ds)) (hh : EvD K tb σ b (.int j)) (e : .list (cutD ds none (some j)) = d) : EvD K (tSl (rSlL K) te tNoPart (tPart tb)) σ b d := EvD.is (d_slL h o_none (o_some hh)) e
theorem d_slLl {ds : List PyData} (h : EvD K te σ b (.list ds)) (hh : EvD K tb σ b (.int j)) (e : .list (cutD ds (some j) none) = d) : EvD K (tSl (rSlL K) te (tPart tb) tNoPart) σ b d := EvD.is (d_slL h (o_some hh) o_none) e
theorem DaAll.rev : ∀ {vs : List V} {ds : List PyData}, DaAll K b vs ds → DaAll K b vs.reverse ds.reverse
  | _, _, .nil => .nil
  | _, _, .cons h t => by
    rw [List.reverse_cons, List.reverse_cons]
    exact (DaAll.rev t).append (.cons h .nil)
theorem d_backT {ds : List PyData} (h : EvD K te σ b (.tuple ds)) : EvD K (tBackT K te) σ b (.tuple ds.reverse) := fun b1 h1 s z Q q =>
  h b1 h1 s z _ fun v b2 h2 F dd => by
    cases dd with
    | @tup a xs _ sa da =>
      refine ⟨a, xs, rfl, sqT_mono F.sub sa, fun p hp => ?_⟩
      exact q _ (upd b2 p (.tup _)) _ (F.trans (Fr.laid F.sub hp)) (.tup (.inl (.inl upd_same)) ((DaAll.rev da).mono (Fr.laid (B := []) F.sub hp).base))
theorem rv_inS {m : Nat} {z : Str} : RvD K (fun x y H Q => ∃ (c : Nat) (z : Str), x = .str ⟨#[c]⟩ ∧ y = .str z ∧ Q (.bl (decide (c ∈ z.cps.toList))) H) (.str ⟨#[m]⟩) (.str z) (.bool (decide (m ∈ z.cps.toList))) := fun b1 h1 zz x y X Y Q q => by
  cases X; cases Y
  exact ⟨m, z, rfl, rfl, q _ b1 h1 (Fr.rfl' zz) (.bl _)⟩
theorem d_removeprefix {x y : Str} (h : EvD K te σ b (.str x)) (hl : x.length ≤ 100000) (h2 : EvD K ta σ b (.str y)) : EvD K (tBM K "str" (fun x xs H Q => ∃ a b, x = .str a ∧ xs = [.str b] ∧ a.length ≤ sizeLine ∧ Q (.str (Txt.removeprefix a b)) H) te (tCons ta tNil)) σ b (.str (Txt.removeprefix x y)) := fun b1 h1 s z Q q =>
  h b1 h1 s z _ fun v b2 g2 F dd => by
    cases dd
    refine ⟨?_, h2 b2 g2 (s.trans F.base) F.sub _ fun v3 b3 g3 F3 d3 => ?_⟩
    · trivial
    · cases d3
      exact ⟨x, y, rfl, rfl, Nat.le_trans hl (by decide), q _ b3 g3 (F.trans F3) (.str _)⟩
/-- over a text, sign by sign -/
theorem d_lcS {tl : TE} {n : Nat} {vs : List Nat} {x : Str} (g : Nat → PyData) (Sl : Slots K b σ Δ) (h : EvD K tl σ b (.str x)) (hz : x.cps.size ≤ 90000) (hw : ∀ x, wipe ((wipe σ vs).set n (some x)) vs = wipe σ vs)
    (ht : ∀ m σ2 b2, Same b b2 → Slots K b2 σ2 ((wipeD Δ vs).set n (.dat (.str ⟨#[m]⟩))) → EvD K te σ2 b2 (g m)) :
    EvD K (tLc (iStr tl) (gName n) tYes te vs) σ b (.list (x.cps.toList.map g)) := fun b1 h1 s z Q q =>
  h b1 h1 s z _ fun v b2 h2 F dd => by
    cases dd
    refine ⟨x, rfl, fun Dl hD => ?_⟩
    refine lc_it walk_str (Cv K b2 h2 (fun i => (x.cps.toList.take i).map g) Dl) (cv_0 F.sub hD (by simp)) (fun _ _ _ _ => trivial) (fun i v H H' hi p y => ⟨hw v, ?_⟩) (fun H' p => ?_)
    · obtain ⟨rfl, m, e1, rfl⟩ := y
      have e2 : x.cps.toList[i]? = some m := by simpa using e1
      have hl : ((x.cps.toList.take i).map g).length < 100000 := by rw [List.length_map, List.length_take]; omega
      refine cv_turn (te := te) (t := tYes) (f := true) p (fun b3 _ => b_yes) (fun b3 F3 _ => ⟨g m, ht m _ b3 ((s.trans F.base).trans F3.base) (((Sl.mono ((s.trans F.base).trans F3.base)).wipe vs).set (z := .dat (.str ⟨#[m]⟩)) ⟨_, rfl, .str _⟩ n), ?_⟩) (fun z => by cases z) hl
      show (x.cps.toList.take (i + 1)).map g = (x.cps.toList.take i).map g ++ [g m]
      rw [List.take_add_one, e2, List.map_append]
      rfl
    · obtain ⟨_, b', acc, F2, bD, hA, DA⟩ := p
      have e : (x.cps.toList.take x.cps.size).map g = x.cps.toList.map g := by
        rw [List.take_of_length_le (by simp)]
      have DA : DaAll K b' acc (x.cps.toList.map g) := e ▸ DA
      obtain ⟨s1, s2⟩ := Fr.seal F2.sub bD hA
      refine q (.ref Dl) (upd b' Dl (.lst acc)) H' (F.trans ⟨F2.base.trans s1, s2, fun c n m => ?_, F2.keep, F2.live⟩) (.lst upd_same (DA.mono s1))
      have hc : c ≠ Dl := by intro e; subst e; rw [hD] at m; cases m
      rw [upd_ne hc]
      exact F2.out c n m
/-- over enumerate of a tuple -/
theorem d_lcET {tA : TA} {n1 n2 : Nat} {vs : List Nat} {es : List PyData} (g : PyData → PyData → PyData) (Sl : Slots K b σ Δ) (h : EvDs K tA σ b [.tuple es]) (hz : es.length ≤ 90000) (hw : ∀ x y, wipe (((wipe σ vs).set n1 (some x)).set n2 (some y)) vs = wipe σ vs)
    (ht : ∀ (m : Nat) e σ2 b2, es[m]? = some e → Same b b2 → Slots K b2 σ2 (((wipeD Δ vs).set n1 (.dat (.int (0 + (m : Int))))).set n2 (.dat e)) → EvD K te σ2 b2 (g (.int (0 + (m : Int))) e)) :
    EvD K (tLc (iEnumT K tA) (gTup K 2 (gCons (gName n1) (gCons (gName n2) gNil))) tYes te vs) σ b (.list (List.zipWith g (rng 0 es.length) es)) := fun b1 h1 s z Q q =>
  h b1 h1 s z _ fun v b2 h2 F dd => by
    cases dd with
    | cons x r =>
      cases r
      cases x with
      | @tup a xs _ sa da =>
        refine ⟨a, xs, rfl, sqT_mono F.sub sa, fun Dl hD => ?_⟩
        have dx : DaAll K b2 ((List.range es.length).map fun (i : Nat) => V.int (0 + (i : Int))) (rng 0 es.length) := by
          have : ∀ l : List Nat, DaAll K b2 (l.map fun (i : Nat) => V.int (0 + (i : Int))) (l.map fun (i : Nat) => PyData.int (0 + (i : Int))) := fun l => by
            induction l with
            | nil => exact .nil
            | cons m l ih => exact .cons (.int _) ih
          exact this _
        have W : Walk (IteT K a) (min ((List.range es.length).map fun (i : Nat) => V.int (0 + (i : Int))).length xs.length) (fun H => SqT K H a xs) (YPair (fun i => ((List.range es.length).map fun (i : Nat) => V.int (0 + (i : Int)))[i]?) (fun i => xs[i]?)) := by
          have e : min ((List.range es.length).map fun (i : Nat) => V.int (0 + (i : Int))).length xs.length = xs.length := by
            rw [List.length_map, List.length_range, da.length]; omega
          rw [e]
          refine walk_enumT.mono (fun H q => q) (fun i H x H' hi q y => ?_)
          obtain ⟨T, x1, x2, w1, w2, w3, w4, w5⟩ := y
          refine ⟨T, x1, x2, w1, w2, w3, ?_, w5⟩
          show ((List.range es.length).map fun (i : Nat) => V.int (0 + (i : Int)))[i]? = some x1
          rw [List.getElem?_map, List.getElem?_range (by rw [← da.length]; exact hi)]
          cases w4
          simp
        refine zl_core (ds := rng 0 es.length) (es := es) W g Sl hw (by rw [rng_len]; exact hz) (fun m d e σ2 b3 e1 e2 e3 Sl3 => ?_) s F dx da (fun b' h' F2 => sqT_mono (F2.base.trans F2.sub) sa) q Dl hD
        have hm : m < es.length := (List.getElem?_eq_some_iff.mp e2).1
        rw [rng_at hm] at e1
        cases e1
        exact ht m e σ2 b3 e2 e3 Sl3
/-- for i, x in enumerate(t) -/
theorem q_forET {tA : TA} {n1 n2 : Nat} {es : List PyData} (Z : S K B b0 h0 σ b h Δ) (he : EvDs K tA σ b [.tuple es]) (Pv : Nat → St → Hp → Hp → Prop) (hi : ∀ b2 h2, Fr [] b h b2 h2 → S K B b0 h0 σ b2 h2 Δ → Pv 0 σ b2 h2) (hsub : ∀ i σ' b' h', Pv i σ' b' h' → Same b' h')
    (hnew : ∀ i σ' b' h' T o, Pv i σ' b' h' → h' T = none → Pv i σ' b' (upd h' T o))
    (hs : ∀ (bb : Hp) (i : Nat) d σ' b' h' v, Same bb b' → es[i]? = some d → Pv i σ' b' h' → Da K b' v d → tu { D with nx := fun s g => ∃ b'', Same bb b'' ∧ Pv (i + 1) s b'' g, ct := fun s g => ∃ b'', Same bb b'' ∧ Pv (i + 1) s b'' g, bk := tz D } ((σ'.set n1 (some (.int (i : Nat)))).set n2 (some v)) h') (hd : ∀ σ' b' h', Pv es.length σ' b' h' → tz D σ' h') :
    tSeq (tFor (iEnumT K tA) (gTup K 2 (gCons (gName n1) (gCons (gName n2) gNil))) tu) tz D σ h :=
  he b h (Same.refl b) Z.sub _ fun vs b2 h2 F dd => by
    cases dd with
    | cons x r =>
      cases r
      cases x with
      | @tup a xs _ sa da =>
        refine ⟨a, xs, rfl, sqT_mono F.sub sa, for_it (walk_enumT (xs := xs)) (fun i s g => ∃ b', Same b2 b' ∧ Pv i s b' g) ⟨b2, Same.refl _, hi b2 h2 F (Z.go F)⟩ (fun i s g _ p => ?_) (fun i x s g g' hx p y => ?_) (fun s g p => ?_)⟩
        · obtain ⟨b', e, p⟩ := p
          exact sqT_mono (e.trans (hsub _ _ _ _ p)) sa
        · obtain ⟨b', e, p⟩ := p
          obtain ⟨T, x1, x2, rfl, hT, rfl, w4, w5⟩ := y
          cases w4
          obtain ⟨d, e1, e2⟩ := da.at w5
          refine ⟨T, [.int (i : Nat), x2], rfl, .inl (.inl upd_same), rfl, _, [x2], rfl, x2, [], rfl, rfl, ?_⟩
          exact hs b2 i d s b' _ x2 e e1 (hnew _ _ _ _ T _ p hT) (e2.mono e)
        · obtain ⟨b', e, p⟩ := p
          rw [da.length] at p
          exact hd s b' g p
/-- while, with a measure -/
theorem q_while (Pv : Nat → St → Hp → Prop) {m0 : Nat} (h0' : Pv m0 σ h) (hs : ∀ m σ h, Pv m σ h → ∃ b Δ cc, S K B b0 h0 σ b h Δ ∧ EvB t σ b cc ∧ (cc = true → ∀ b2 h2, Fr [] b h b2 h2 → S K B b0 h0 σ b2 h2 Δ → ∃ m', m' < m ∧ tu { D with nx := Pv m', ct := Pv m', bk := tz D } σ h2) ∧ (cc = false → ∀ b2 h2, Fr [] b h b2 h2 → S K B b0 h0 σ b2 h2 Δ → tz D σ h2)) : tSeq (tWhile t tu) tz D σ h := by
  refine ⟨Pv, ⟨m0, h0'⟩, fun m σ H p => ?_⟩
  obtain ⟨b, Δ, cc, Z, hb, k1, k2⟩ := hs m σ H p
  refine hb b H (Same.refl b) Z.sub _ fun b2 h2 F => ?_
  cases cc with
  | true =>
    obtain ⟨m', e1, e2⟩ := k1 rfl b2 h2 F (Z.go F)
    exact ⟨Pv m', fun σ' H' p => ⟨m', e1, p⟩, e2⟩
  | false => exact k2 rfl b2 h2 F (Z.go F)
/-! draws -/
theorem t_if (h : EvT K te σ b a c1 (fun d => ∃ x : Bool, d = .bool x)) (h1 : EvT K ta σ b a c2 R) (h2 : EvT K tb σ b a c2 R) (e1 : 0 ≤ c1) (e2 : 0 ≤ c2) : EvT K (tIf (tTest te) ta tb) σ b a (c1 + c2) R := fun b1 g1 n s z hb T hn Q q =>
  h b1 g1 n s z hb T (by omega) _ fun v d b2 g2 rd F hb2 T2 D2 => by
    obtain ⟨x, rfl⟩ := rd
    cases D2
    refine ⟨x, rfl, ?_⟩
    cases x with
    | true => exact h1 b2 g2 (n + c1) (s.trans F.base) F.sub hb2 T2 (by omega) Q fun v d b3 g3 r F3 hb3 T3 D3 => q v d b3 g3 r (F.trans F3) hb3 (by rw [← Int.add_assoc]; exact T3) D3
    | false => exact h2 b2 g2 (n + c1) (s.trans F.base) F.sub hb2 T2 (by omega) Q fun v d b3 g3 r F3 hb3 T3 D3 => q v d b3 g3 r (F.trans F3) hb3 (by rw [← Int.add_assoc]; exact T3) D3
theorem q_whenT' (Z : S K B b0 h0 σ b h Δ) (hb : b a = none) (hB : a ∈ B ∨ h0 a = none) (T : Tin a n h) (hn : n + c ≤ mostDraws) (he : EvT K te σ b a c (fun d => ∃ x : Bool, d = .bool x))
    (k1 : ∀ b2 h2, S K B b0 h0 σ b2 h2 Δ → b2 a = none → Tin a (n + c) h2 → tu { D with nx := tz D } σ h2) (k2 : ∀ b2 h2, S K B b0 h0 σ b2 h2 Δ → b2 a = none → Tin a (n + c) h2 → tz D σ h2) : tSeq (tIfS (tTest te) tu tNext) tz D σ h :=
  he b h n (Same.refl b) Z.sub hb T hn _ fun v d b2 h2 rd F hb2 T2 D2 => by
    obtain ⟨x, rfl⟩ := rd
    cases D2
    refine ⟨x, rfl, ?_⟩
    cases x with
    | true => exact k1 b2 h2 (Z.draw hB F) hb2 T2
    | false => exact k2 b2 h2 (Z.draw hB F) hb2 T2
theorem t_callD1 {RD : List PyData → PyData → Prop} {E : XK} (h : EvT K te σ b a c R1) (hr : ∀ d, R1 d → ∃ e, RD [d] e ∧ R e) : EvT K (tCall (spD K RD) [] E (tCons te tNil)) σ b a c R := fun b1 h1 n s z hb T hn Q q =>
  h b1 h1 n s z hb T hn _ fun v d b2 h2 rd F hb2 T2 D2 => by
    obtain ⟨e, rc, re⟩ := hr d rd
    refine ⟨b2, [d], e, F.sub, .cons D2 .nil, rc, fun v b3 h3 F3 D3 => ?_⟩
    obtain ⟨T3, hb3⟩ := T2.keep F3 hb2
    exact q v e b3 h3 re (F.trans F3.any) hb3 T3 D3
/-- a comprehension over a range whose bound is drawn -/
theorem t_lcRT {tA : TA} {m : Nat} {vs : List Nat} {c0 lo hi : Int} (Sl : Slots K b σ Δ) (he : EvTs K tA σ b a c0 (fun ds => ∃ k : Int, ds = [.int k] ∧ lo ≤ k ∧ k ≤ hi)) (h0 : 0 ≤ c0) (hk : 0 ≤ lo ∧ hi ≤ 90000 ∧ lo ≤ hi) (hc : 0 ≤ c) (hw : ∀ x, wipe ((wipe σ vs).set m (some x)) vs = wipe σ vs)
    (ht : ∀ (i : Nat) σ2 b2, Same b b2 → Slots K b2 σ2 ((wipeD Δ vs).set m (.dat (.int (0 + (i : Int))))) → EvT K te σ2 b2 a c R) :
    EvT K (tLc (iRng1 tA) (gName m) tYes te vs) σ b a (c0 + hi * c) (fun d => ∃ ds, d = .list ds ∧ lo ≤ (ds.length : Int) ∧ (ds.length : Int) ≤ hi ∧ ∀ d ∈ ds, R d) := fun b1 h1 n s z hb T hn Q q =>
  he b1 h1 n s z hb T (by
    have : 0 ≤ hi * c := Int.mul_nonneg (by omega) hc
    omega) _ fun us ds b2 h2 rd F hb2 T2 D2 => by
    obtain ⟨k, rfl, k1, k2⟩ := rd
    cases D2 with
    | cons x r =>
      cases r; cases x
      have key : k * c ≤ hi * c := Int.mul_le_mul_of_nonneg_right k2 hc
      exact t_lcR1 (tA := tCons (tC (.int k)) tNil) (c := c) (R := R) (Sl.mono (s.trans F.base)) (ds_cons (d_int k) ds_nil) ⟨by omega, by omega⟩ hc hw (fun i σ2 b3 _ e3 Sl3 => ht i σ2 b3 ((s.trans F.base).trans e3) Sl3) b2 h2 (n + c0) (Same.refl b2) F.sub hb2 T2 (by omega) Q fun v d b4 h4 rd4 F4 hb4 T4 D4 => by
        obtain ⟨ds, rfl, hl, hR⟩ := rd4
        exact q v _ b4 h4 ⟨ds, rfl, by omega, by omega, hR⟩ (F.trans F4) hb4 (T4.le (by omega)) D4
/-- for over a range whose bound is drawn -/
theorem q_forRT {tA : TA} {m : Nat} {lo hi : Int} (Z : S K B b0 h0 σ b h Δ) (hb : b a = none) (hB : a ∈ B ∨ h0 a = none) (T : Tin a n h) (hn : n + c ≤ mostDraws) (he : EvTs K tA σ b a c (fun ds => ∃ k : Int, ds = [.int k] ∧ lo ≤ k ∧ k ≤ hi)) (hk : 0 ≤ lo ∧ hi ≤ 90000) (Pv : Nat → St → Hp → Prop)
    (hi' : ∀ b2 h2, S K B b0 h0 σ b2 h2 Δ → b2 a = none → Tin a (n + c) h2 → Pv 0 σ h2)
    (hs : ∀ (i : Nat) σ' h', (i : Int) < hi → Pv i σ' h' → tu { D with nx := Pv (i + 1), ct := Pv (i + 1), bk := tz D } (σ'.set m (some (.int (0 + (i : Int))))) h') (hd : ∀ (k : Nat) σ' h', lo ≤ (k : Int) → (k : Int) ≤ hi → Pv k σ' h' → tz D σ' h') : tSeq (tFor (iRng1 tA) (gName m) tu) tz D σ h :=
  he b h n (Same.refl b) Z.sub hb T hn _ fun us ds b2 h2 rd F hb2 T2 D2 => by
    obtain ⟨k, rfl, k1, k2⟩ := rd
    cases D2 with
    | cons x r =>
      cases r; cases x
      have Z2 := Z.draw hB F
      exact q_forR1 (tA := tCons (tC (.int k)) tNil) Z2 (ds_cons (d_int k) ds_nil) ⟨by omega, by omega⟩ Pv (fun b3 h3 F3 Z3 => by
        obtain ⟨T3, hb3⟩ := T2.keep F3 hb2
        exact hi' b3 h3 Z3 hb3 T3) (fun i σ' h' hi p => hs i σ' h' (by omega) p) (fun σ' h' p => hd k.toNat σ' h' (by omega) (by omega) p)
end
end DV

namespace LW
open PySem L2 DV
def topS (i : Nat) : Stmt := PySem.Challenge.pw_halfring_k09_whole_rows_bent.main.body.getD i (.Pass ⟨0, 0, 0, 0⟩)
abbrev s_is_number : Stmt := topS 4
theorem sc_is_number : FnScope ["thing"] ["thing"] (defScope s_is_number) := ⟨rfl, rfl, rfl, by decide +kernel, rfl, by decide +kernel, by decide +kernel⟩
abbrev s_is_natural : Stmt := topS 5
theorem sc_is_natural : FnScope ["thing"] ["thing"] (defScope s_is_natural) := ⟨rfl, rfl, rfl, by decide +kernel, rfl, by decide +kernel, by decide +kernel⟩
abbrev s_is_row : Stmt := topS 6
theorem sc_is_row : FnScope ["thing", "many"] ["thing", "many"] (defScope s_is_row) := ⟨rfl, rfl, rfl, by decide +kernel, rfl, by decide +kernel, by decide +kernel⟩
abbrev s_is_row_of : Stmt := topS 7
theorem sc_is_row_of : FnScope ["is_such", "thing", "part"] ["is_such", "thing"] (defScope s_is_row_of) := ⟨rfl, rfl, rfl, by decide +kernel, rfl, by decide +kernel, by decide +kernel⟩
abbrev s_as_tuples : Stmt := topS 8
theorem sc_as_tuples : FnScope ["thing", "depth", "part"] ["thing", "depth"] (defScope s_as_tuples) := ⟨rfl, rfl, rfl, by decide +kernel, rfl, by decide +kernel, by decide +kernel⟩
abbrev s_checked : Stmt := topS 9
theorem sc_checked : FnScope ["is_such", "thing", "own"] ["is_such", "thing"] (defScope s_checked) := ⟨rfl, rfl, rfl, by decide +kernel, rfl, by decide +kernel, by decide +kernel⟩
abbrev s_is_word : Stmt := topS 14
theorem sc_is_word : FnScope ["thing", "sign"] ["thing"] (defScope s_is_word) := ⟨rfl, rfl, rfl, by decide +kernel, rfl, by decide +kernel, by decide +kernel⟩
abbrev s_is_key : Stmt := topS 15
theorem sc_is_key : FnScope ["thing"] ["thing"] (defScope s_is_key) := ⟨rfl, rfl, rfl, by decide +kernel, rfl, by decide +kernel, by decide +kernel⟩
abbrev s_is_single : Stmt := topS 16
theorem sc_is_single : FnScope ["thing"] ["thing"] (defScope s_is_single) := ⟨rfl, rfl, rfl, by decide +kernel, rfl, by decide +kernel, by decide +kernel⟩
abbrev s_is_record : Stmt := topS 17
theorem sc_is_record : FnScope ["thing"] ["thing"] (defScope s_is_record) := ⟨rfl, rfl, rfl, by decide +kernel, rfl, by decide +kernel, by decide +kernel⟩
abbrev s_is_records : Stmt := topS 18
theorem sc_is_records : FnScope ["thing"] ["thing"] (defScope s_is_records) := ⟨rfl, rfl, rfl, by decide +kernel, rfl, by decide +kernel, by decide +kernel⟩
abbrev s_closed_in : Stmt := topS 19
theorem sc_closed_in : FnScope ["records", "row", "closed", "at", "first", "part"] ["records"] (defScope s_closed_in) := ⟨rfl, rfl, rfl, by decide +kernel, rfl, by decide +kernel, by decide +kernel⟩
abbrev s_first_closed : Stmt := topS 20
theorem sc_first_closed : FnScope ["row", "at", "first", "i"] ["row", "at"] (defScope s_first_closed) := ⟨rfl, rfl, rfl, by decide +kernel, rfl, by decide +kernel, by decide +kernel⟩
abbrev s_is_part_ahead : Stmt := topS 21
theorem sc_is_part_ahead : FnScope ["part", "later"] ["part", "later"] (defScope s_is_part_ahead) := ⟨rfl, rfl, rfl, by decide +kernel, rfl, by decide +kernel, by decide +kernel⟩
abbrev s_left_begun : Stmt := topS 22
theorem sc_left_begun : FnScope ["records", "row", "first"] ["records"] (defScope s_left_begun) := ⟨rfl, rfl, rfl, by decide +kernel, rfl, by decide +kernel, by decide +kernel⟩
abbrev s__law_box : Stmt := topS 24
theorem sc__law_box : FnScope ["script", "k", "bit_so"] ["script", "k"] (defScope s__law_box) := ⟨rfl, rfl, rfl, by decide +kernel, rfl, by decide +kernel, by decide +kernel⟩
abbrev s__law_take : Stmt := topS 25
theorem sc__law_take : FnScope ["tin", "below_so", "drawn", "once_so", "wide_so", "twice_so"] ["tin", "below_so"] (defScope s__law_take) := ⟨rfl, rfl, rfl, by decide +kernel, rfl, by decide +kernel, by decide +kernel⟩
abbrev s__law_cells : Stmt := topS 26
theorem sc__law_cells : FnScope ["script", "most_so", "cells_so", "k", "bit_so", "at_so"] ["script", "most_so"] (defScope s__law_cells) := ⟨rfl, rfl, rfl, by decide +kernel, rfl, by decide +kernel, by decide +kernel⟩
abbrev s__law_of : Stmt := topS 27
theorem sc__law_of : FnScope ["tin", "goods_so"] ["tin", "goods_so"] (defScope s__law_of) := ⟨rfl, rfl, rfl, by decide +kernel, rfl, by decide +kernel, by decide +kernel⟩
abbrev s__law_lists : Stmt := topS 28
theorem sc__law_lists : FnScope ["matter", "bit"] ["matter"] (defScope s__law_lists) := ⟨rfl, rfl, rfl, by decide +kernel, rfl, by decide +kernel, by decide +kernel⟩
abbrev s__law_same : Stmt := topS 29
theorem sc__law_same : FnScope ["got", "due", "mine", "its"] ["got", "due"] (defScope s__law_same) := ⟨rfl, rfl, rfl, by decide +kernel, rfl, by decide +kernel, by decide +kernel⟩
abbrev s__law_blank : Stmt := topS 30
theorem sc__law_blank : FnScope [] [] (defScope s__law_blank) := ⟨rfl, rfl, rfl, by decide +kernel, rfl, by decide +kernel, by decide +kernel⟩
abbrev s__law_parts : Stmt := topS 31
theorem sc__law_parts : FnScope ["act", "rows_so", "k", "own"] ["act"] (defScope s__law_parts) := ⟨rfl, rfl, rfl, by decide +kernel, rfl, by decide +kernel, by decide +kernel⟩
abbrev s__law_string : Stmt := topS 32
theorem sc__law_string : FnScope ["tin"] ["tin"] (defScope s__law_string) := ⟨rfl, rfl, rfl, by decide +kernel, rfl, by decide +kernel, by decide +kernel⟩
abbrev s__law_key : Stmt := topS 33
theorem sc__law_key : FnScope ["tin"] ["tin"] (defScope s__law_key) := ⟨rfl, rfl, rfl, by decide +kernel, rfl, by decide +kernel, by decide +kernel⟩
abbrev s__law_lone : Stmt := topS 34
theorem sc__law_lone : FnScope ["tin"] ["tin"] (defScope s__law_lone) := ⟨rfl, rfl, rfl, by decide +kernel, rfl, by decide +kernel, by decide +kernel⟩
abbrev s__law_deal : Stmt := topS 35
theorem sc__law_deal : FnScope ["tin", "lap"] ["tin"] (defScope s__law_deal) := ⟨rfl, rfl, rfl, by decide +kernel, rfl, by decide +kernel, by decide +kernel⟩
abbrev s__law_note : Stmt := topS 36
theorem sc__law_note : FnScope ["tin"] ["tin"] (defScope s__law_note) := ⟨rfl, rfl, rfl, by decide +kernel, rfl, by decide +kernel, by decide +kernel⟩
abbrev s__law_back : Stmt := topS 37
theorem sc__law_back : FnScope ["row_so", "i", "own", "found", "k", "its"] ["row_so", "i"] (defScope s__law_back) := ⟨rfl, rfl, rfl, by decide +kernel, rfl, by decide +kernel, by decide +kernel⟩
abbrev s__law_trail : Stmt := topS 38
theorem sc__law_trail : FnScope ["row_so", "many_so", "k", "own"] ["row_so"] (defScope s__law_trail) := ⟨rfl, rfl, rfl, by decide +kernel, rfl, by decide +kernel, by decide +kernel⟩
abbrev s__law_told_right : Stmt := topS 39
theorem sc__law_told_right : FnScope ["row_so", "due", "i"] ["row_so"] (defScope s__law_told_right) := ⟨rfl, rfl, rfl, by decide +kernel, rfl, by decide +kernel, by decide +kernel⟩
abbrev s__law_by_hand_right : Stmt := topS 40
theorem sc__law_by_hand_right : FnScope ["p", "q", "r", "rows_so", "due", "row_so", "many_so", "singles_so", "part_so", "own"] [] (defScope s__law_by_hand_right) := ⟨rfl, rfl, rfl, by decide +kernel, rfl, by decide +kernel, by decide +kernel⟩
abbrev s__law_bent : Stmt := topS 41
theorem sc__law_bent : FnScope ["tin", "row_so", "kind_so", "k", "own"] ["tin", "row_so"] (defScope s__law_bent) := ⟨rfl, rfl, rfl, by decide +kernel, rfl, by decide +kernel, by decide +kernel⟩
abbrev s__law_right : Stmt := topS 42
theorem sc__law_right : FnScope ["tin", "row_so", "lap", "any_so"] ["tin"] (defScope s__law_right) := ⟨rfl, rfl, rfl, by decide +kernel, rfl, by decide +kernel, by decide +kernel⟩
abbrev s_law : Stmt := topS 43
theorem sc_law : FnScope ["script"] ["script"] (defScope s_law) := ⟨rfl, rfl, rfl, by decide +kernel, rfl, by decide +kernel, by decide +kernel⟩
structure Txt (K : PySem.W.Frag) (mg : Str → Option Value) where
  f_is_number : Addr
  d_is_number : FuncData
  F_is_number : Fun K "is_number" "is_number" s_is_number f_is_number d_is_number
  b_is_number : Binds K d_is_number ["thing"] []
  m_is_number : mg "is_number" = some (.ref f_is_number)
  f_is_natural : Addr
  d_is_natural : FuncData
  F_is_natural : Fun K "is_natural" "is_natural" s_is_natural f_is_natural d_is_natural
  b_is_natural : Binds K d_is_natural ["thing"] []
  m_is_natural : mg "is_natural" = some (.ref f_is_natural)
  f_is_row : Addr
  d_is_row : FuncData
  F_is_row : Fun K "is_row" "is_row" s_is_row f_is_row d_is_row
  b_is_row : Binds K d_is_row ["thing", "many"] []
  m_is_row : mg "is_row" = some (.ref f_is_row)
  f_is_row_of : Addr
  d_is_row_of : FuncData
  F_is_row_of : Fun K "is_row_of" "is_row_of" s_is_row_of f_is_row_of d_is_row_of
  b_is_row_of : Binds K d_is_row_of ["is_such", "thing"] []
  m_is_row_of : mg "is_row_of" = some (.ref f_is_row_of)
  f_as_tuples : Addr
  d_as_tuples : FuncData
  F_as_tuples : FunD K "as_tuples" "as_tuples" (defArgs s_as_tuples) (defBody s_as_tuples) (defScope s_as_tuples) [.int 20] [] f_as_tuples d_as_tuples
  m_as_tuples : mg "as_tuples" = some (.ref f_as_tuples)
  f_checked : Addr
  d_checked : FuncData
  F_checked : Fun K "checked" "checked" s_checked f_checked d_checked
  b_checked : Binds K d_checked ["is_such", "thing"] []
  m_checked : mg "checked" = some (.ref f_checked)
  f_is_word : Addr
  d_is_word : FuncData
  F_is_word : Fun K "is_word" "is_word" s_is_word f_is_word d_is_word
  b_is_word : Binds K d_is_word ["thing"] []
  m_is_word : mg "is_word" = some (.ref f_is_word)
  f_is_key : Addr
  d_is_key : FuncData
  F_is_key : Fun K "is_key" "is_key" s_is_key f_is_key d_is_key
  b_is_key : Binds K d_is_key ["thing"] []
  m_is_key : mg "is_key" = some (.ref f_is_key)
  f_is_single : Addr
  d_is_single : FuncData
  F_is_single : Fun K "is_single" "is_single" s_is_single f_is_single d_is_single
  b_is_single : Binds K d_is_single ["thing"] []
  m_is_single : mg "is_single" = some (.ref f_is_single)
  f_is_record : Addr
  d_is_record : FuncData
  F_is_record : Fun K "is_record" "is_record" s_is_record f_is_record d_is_record
  b_is_record : Binds K d_is_record ["thing"] []
  m_is_record : mg "is_record" = some (.ref f_is_record)
  f_is_records : Addr
  d_is_records : FuncData
  F_is_records : Fun K "is_records" "is_records" s_is_records f_is_records d_is_records
  b_is_records : Binds K d_is_records ["thing"] []
  m_is_records : mg "is_records" = some (.ref f_is_records)
  f_closed_in : Addr
  d_closed_in : FuncData
  F_closed_in : Fun K "closed_in" "closed_in" s_closed_in f_closed_in d_closed_in
  b_closed_in : Binds K d_closed_in ["records"] []
  m_closed_in : mg "closed_in" = some (.ref f_closed_in)
  f_first_closed : Addr
  d_first_closed : FuncData
  F_first_closed : Fun K "first_closed" "first_closed" s_first_closed f_first_closed d_first_closed
  b_first_closed : Binds K d_first_closed ["row", "at"] []
  m_first_closed : mg "first_closed" = some (.ref f_first_closed)
  f_is_part_ahead : Addr
  d_is_part_ahead : FuncData
  F_is_part_ahead : Fun K "is_part_ahead" "is_part_ahead" s_is_part_ahead f_is_part_ahead d_is_part_ahead
  b_is_part_ahead : Binds K d_is_part_ahead ["part", "later"] []
  m_is_part_ahead : mg "is_part_ahead" = some (.ref f_is_part_ahead)
  f_left_begun : Addr
  d_left_begun : FuncData
  F_left_begun : Fun K "left_begun" "left_begun" s_left_begun f_left_begun d_left_begun
  b_left_begun : Binds K d_left_begun ["records"] []
  m_left_begun : mg "left_begun" = some (.ref f_left_begun)
  f__law_box : Addr
  d__law_box : FuncData
  F__law_box : Fun K "_law_box" "_law_box" s__law_box f__law_box d__law_box
  b__law_box : Binds K d__law_box ["script", "k"] []
  m__law_box : mg "_law_box" = some (.ref f__law_box)
  f__law_take : Addr
  d__law_take : FuncData
  F__law_take : Fun K "_law_take" "_law_take" s__law_take f__law_take d__law_take
  b__law_take : Binds K d__law_take ["tin", "below_so"] []
  m__law_take : mg "_law_take" = some (.ref f__law_take)
  f__law_cells : Addr
  d__law_cells : FuncData
  F__law_cells : Fun K "_law_cells" "_law_cells" s__law_cells f__law_cells d__law_cells
  b__law_cells : Binds K d__law_cells ["script", "most_so"] []
  m__law_cells : mg "_law_cells" = some (.ref f__law_cells)
  f__law_of : Addr
  d__law_of : FuncData
  F__law_of : Fun K "_law_of" "_law_of" s__law_of f__law_of d__law_of
  b__law_of : Binds K d__law_of ["tin", "goods_so"] []
  m__law_of : mg "_law_of" = some (.ref f__law_of)
  f__law_lists : Addr
  d__law_lists : FuncData
  F__law_lists : Fun K "_law_lists" "_law_lists" s__law_lists f__law_lists d__law_lists
  b__law_lists : Binds K d__law_lists ["matter"] []
  m__law_lists : mg "_law_lists" = some (.ref f__law_lists)
  f__law_same : Addr
  d__law_same : FuncData
  F__law_same : Fun K "_law_same" "_law_same" s__law_same f__law_same d__law_same
  b__law_same : Binds K d__law_same ["got", "due"] []
  m__law_same : mg "_law_same" = some (.ref f__law_same)
  f__law_blank : Addr
  d__law_blank : FuncData
  F__law_blank : Fun K "_law_blank" "_law_blank" s__law_blank f__law_blank d__law_blank
  b__law_blank : Binds K d__law_blank [] []
  m__law_blank : mg "_law_blank" = some (.ref f__law_blank)
  f__law_parts : Addr
  d__law_parts : FuncData
  F__law_parts : Fun K "_law_parts" "_law_parts" s__law_parts f__law_parts d__law_parts
  b__law_parts : Binds K d__law_parts ["act"] []
  m__law_parts : mg "_law_parts" = some (.ref f__law_parts)
  f__law_string : Addr
  d__law_string : FuncData
  F__law_string : Fun K "_law_string" "_law_string" s__law_string f__law_string d__law_string
  b__law_string : Binds K d__law_string ["tin"] []
  m__law_string : mg "_law_string" = some (.ref f__law_string)
  f__law_key : Addr
  d__law_key : FuncData
  F__law_key : Fun K "_law_key" "_law_key" s__law_key f__law_key d__law_key
  b__law_key : Binds K d__law_key ["tin"] []
  m__law_key : mg "_law_key" = some (.ref f__law_key)
  f__law_lone : Addr
  d__law_lone : FuncData
  F__law_lone : Fun K "_law_lone" "_law_lone" s__law_lone f__law_lone d__law_lone
  b__law_lone : Binds K d__law_lone ["tin"] []
  m__law_lone : mg "_law_lone" = some (.ref f__law_lone)
  f__law_deal : Addr
  d__law_deal : FuncData
  F__law_deal : Fun K "_law_deal" "_law_deal" s__law_deal f__law_deal d__law_deal
  b__law_deal : Binds K d__law_deal ["tin"] []
  m__law_deal : mg "_law_deal" = some (.ref f__law_deal)
  f__law_note : Addr
  d__law_note : FuncData
  F__law_note : Fun K "_law_note" "_law_note" s__law_note f__law_note d__law_note
  b__law_note : Binds K d__law_note ["tin"] []
  m__law_note : mg "_law_note" = some (.ref f__law_note)
  f__law_back : Addr
  d__law_back : FuncData
  F__law_back : Fun K "_law_back" "_law_back" s__law_back f__law_back d__law_back
  b__law_back : Binds K d__law_back ["row_so", "i"] []
  m__law_back : mg "_law_back" = some (.ref f__law_back)
  f__law_trail : Addr
  d__law_trail : FuncData
  F__law_trail : Fun K "_law_trail" "_law_trail" s__law_trail f__law_trail d__law_trail
  b__law_trail : Binds K d__law_trail ["row_so"] []
  m__law_trail : mg "_law_trail" = some (.ref f__law_trail)
  f__law_told_right : Addr
  d__law_told_right : FuncData
  F__law_told_right : Fun K "_law_told_right" "_law_told_right" s__law_told_right f__law_told_right d__law_told_right
  b__law_told_right : Binds K d__law_told_right ["row_so"] []
  m__law_told_right : mg "_law_told_right" = some (.ref f__law_told_right)
  f__law_by_hand_right : Addr
  d__law_by_hand_right : FuncData
  F__law_by_hand_right : Fun K "_law_by_hand_right" "_law_by_hand_right" s__law_by_hand_right f__law_by_hand_right d__law_by_hand_right
  b__law_by_hand_right : Binds K d__law_by_hand_right [] []
  m__law_by_hand_right : mg "_law_by_hand_right" = some (.ref f__law_by_hand_right)
  f__law_bent : Addr
  d__law_bent : FuncData
  F__law_bent : Fun K "_law_bent" "_law_bent" s__law_bent f__law_bent d__law_bent
  b__law_bent : Binds K d__law_bent ["tin", "row_so"] []
  m__law_bent : mg "_law_bent" = some (.ref f__law_bent)
  f__law_right : Addr
  d__law_right : FuncData
  F__law_right : Fun K "_law_right" "_law_right" s__law_right f__law_right d__law_right
  b__law_right : Binds K d__law_right ["tin"] []
  m__law_right : mg "_law_right" = some (.ref f__law_right)
  f_law : Addr
  d_law : FuncData
  F_law : Fun K "law" "law" s_law f_law d_law
  b_law : Binds K d_law ["script"] []
  m_law : mg "law" = some (.ref f_law)
  m_SIGNS : ∃ u, mg "SIGNS" = some u ∧ RelV (.str "abcdefghijklmnopqrstuvwxyz0123456789") u
  m_MOST_SIGNS : ∃ u, mg "MOST_SIGNS" = some u ∧ RelV (.int 12) u
  f_BLANK : Addr
  m_BLANK : mg "BLANK" = some (.ref f_BLANK)
  t_BLANK : ∀ H, SqT K H f_BLANK [.str "blank"]
  z_abs : mg "abs" = none
  z_all : mg "all" = none
  z_bool : mg "bool" = none
  z_enumerate : mg "enumerate" = none
  z_int : mg "int" = none
  z_isinstance : mg "isinstance" = none
  z_len : mg "len" = none
  z_list : mg "list" = none
  z_min : mg "min" = none
  z_range : mg "range" = none
  z_str : mg "str" = none
  z_tuple : mg "tuple" = none
  z_zip : mg "zip" = none
end LW

namespace LW
open PySem L2 DV
local macro_rules | `(tactic| walk_at "dv") => `(tactic| first
  | exact d_int _ | exact d_str _ | exact d_bl _ | exact d_non
  | (apply d_varZ (by assumption); rfl)
  | (apply d_var (by assumption); rfl)
  | exact ds_nil
  | (apply ds_cons; walk_at "dv"; walk_at "dv")
  | (apply d_op; walk_at "dv"; walk_at "dv"; walk_at "rv")
  | (apply d_tup; walk_at "dv"; (simp only [List.length]; omega))
  | (apply d_lst; walk_at "dv"; (simp only [List.length]; omega))
  | (apply d_neg; walk_at "dv")
  | (apply d_notV; walk_at "dv")
  | (apply d_isi; walk_at "dv"; rfl)
  | (apply d_isi2; walk_at "dv"; rfl; rfl)
  | (apply d_cb; walk_at "dv"; walk_at "rc")
  | (apply d_andV; walk_at "dv"; (intro _; walk_at "dv"))
  | (apply d_orV; walk_at "dv"; (intro _; walk_at "dv"))
  | (apply d_chain; walk_at "dv"; walk_at "dv"; walk_at "dv"; walk_at "rv"; walk_at "rv")
  | (apply b_and; walk_at "dv"; (intro _; walk_at "dv"))
  | (apply b_or; walk_at "dv"; (intro _; walk_at "dv"))
  | (apply b_test; walk_at "dv")
  | (apply b_B; walk_at "dv")
  | (apply b_not; walk_at "dv")
  | exact b_yes)
local macro_rules | `(tactic| walk_at "rv") => `(tactic| first
  | exact rv_addI | exact rv_subI | exact rv_ltI | exact rv_leI | exact rv_gtI | exact rv_geI
  | exact rv_eqAI | exact rv_eqAB | exact rv_neAI | exact rv_neAB | exact rv_eqAS | exact rv_eqAN
  | exact rv_ixT rfl | exact rv_ixL rfl
  | (apply rv_modI; first | assumption | decide | omega)
  | (apply rv_divI; (first | assumption | decide | omega); (first | assumption | decide | omega))
  | (apply rv_mulI; (first | assumption | decide | omega); (first | assumption | decide | omega)))
local macro_rules | `(tactic| walk_at "rc") => `(tactic| first
  | exact rc_lenL | exact rc_lenT | exact rc_max | exact rc_min | exact rc_int | exact rc_intB | exact rc_tupL | exact rc_tupT | exact rc_listT | exact rc_listL | exact rc_abs)

local macro_rules | `(tactic| walk_at "rv") => `(tactic| first | exact rv_addIB)
local macro_rules | `(tactic| walk_at "dv") => `(tactic| first
  | (apply d_slTh; walk_at "dv"; walk_at "dv"; rfl)
  | (apply d_slTl; walk_at "dv"; walk_at "dv"; rfl)
  | (apply d_slTb; walk_at "dv"; walk_at "dv"; walk_at "dv"; rfl)
  | (apply d_slLh; walk_at "dv"; walk_at "dv"; rfl)
  | (apply d_slLl; walk_at "dv"; walk_at "dv"; rfl))

section
variable {P : Program} {w : World} {K : PySem.W.Frag} {mg : Str → Option Value} {base : Heap}
theorem ok_is_number (T : Txt K mg) : FnOk P w K mg base CX0 1 T.f_is_number T.d_is_number ["thing"] (spD K fun ds d => ∃ x, ds = [x] ∧ d = .bool (isNum x)) := by
  refine T.F_is_number.ok sc_is_number (by rintro vs H Q E ⟨b, ds, d, hs, hd, ⟨x, rfl, rfl⟩, q⟩; exact hd.length) (fun cdv A outer s H vs Q E hr h => ?_)
  obtain ⟨b, ds, d, hs, hd, ⟨x, rfl, rfl⟩, q⟩ := h
  refine ⟨_, (pss_one (ps_ret (pe_and (pe_callB call_isi (by rfl) T.z_isinstance (by decide +kernel) (pa_cons (pv 0) (pa_cons (pe_bltn (v := .ty "int") (by rfl) T.z_int (by decide +kernel) rfl) pa_nil))) (pe_one (pe_not (pe_callB call_isi (by rfl) T.z_isinstance (by decide +kernel) (pa_cons (pv 0) (pa_cons (pe_bltn (v := .ty "bool") (by rfl) T.z_bool (by decide +kernel) rfl) pa_nil)))))))), ?_⟩
  have Z := S.init (B := []) hs hd ["thing"]
  cases hd with
  | cons hx hn =>
    cases hx <;> (apply s_retE Z (k := q); walk_at "dv"; rfl)
theorem ok_is_natural (T : Txt K mg) : FnOk P w K mg base CX0 2 T.f_is_natural T.d_is_natural ["thing"] (spD K fun ds d => ∃ i : Int, ds = [.int i] ∧ d = .bool (decide (0 ≤ i))) := by
  refine T.F_is_natural.ok sc_is_natural (by rintro vs H Q E ⟨b, ds, d, hs, hd, ⟨x, rfl, rfl⟩, q⟩; exact hd.length) (fun cdv A outer s H vs Q E hr h => ?_)
  obtain ⟨b, ds, d, hs, hd, ⟨x, rfl, rfl⟩, q⟩ := h
  refine ⟨_, (pss_one (ps_ret (pe_and (pe_call (ok_is_number T) (hr.mono (by omega)) (by rfl) T.m_is_number T.F_is_number.kp T.b_is_number .nil pass0 (pa_cons (pv 0) pa_nil)) (pe_one (pe_cmpR op_ge (pv 0) pe_int (nomark _)))))), ?_⟩
  have Z := S.init (B := []) hs hd ["thing"]
  refine s_retE Z (d_andV (d_call (ds_cons (by walk_at "dv") ds_nil) ⟨_, rfl, rfl⟩) fun _ => (by walk_at "dv")) ?_ q
  rfl
def isRow (n : Int) : PyData → Bool
  | .tuple xs => decide ((xs.length : Int) = n)
  | _ => false
theorem ok_is_row (T : Txt K mg) : FnOk P w K mg base CX0 1 T.f_is_row T.d_is_row ["thing", "many"] (spD K fun ds d => ∃ x n, ds = [x, .int n] ∧ d = .bool (isRow n x)) := by
  refine T.F_is_row.ok sc_is_row (by rintro vs H Q E ⟨b, ds, d, hs, hd, ⟨x, n, rfl, rfl⟩, q⟩; exact hd.length) (fun cdv A outer s H vs Q E hr h => ?_)
  obtain ⟨b, ds, d, hs, hd, ⟨x, n, rfl, rfl⟩, q⟩ := h
  refine ⟨_, (pss_one (ps_ret (pe_and (pe_callB call_isi (by rfl) T.z_isinstance (by decide +kernel) (pa_cons (pv 0) (pa_cons (pe_bltn (v := .ty "tuple") (by rfl) T.z_tuple (by decide +kernel) rfl) pa_nil))) (pe_one (pe_cmpR (op_eqA hr.units) (pe_callB call_len (by rfl) T.z_len (by decide +kernel) (pa_cons (pv 0) pa_nil)) (pv 1) (nomark _)))))), ?_⟩
  have Z := S.init (B := []) hs hd ["thing", "many"]
  cases hd with
  | cons hx hn =>
    cases hx with
    | tup s a => exact s_retE Z (d_andV (d_isi (r := true) (by walk_at "dv") rfl) fun _ => (by walk_at "dv")) rfl q
    | _ => exact s_retE Z (d_andV (y := false) (d_isi (r := false) (by walk_at "dv") rfl) fun z => by cases z) rfl q
theorem bd1_as_tuples (T : Txt K mg) : ∃ ds, Vals [V.int 20] ds ∧ Binds K T.d_as_tuples ["thing", "depth"] ds :=
  FunD.binds1 (ps := ["thing", "depth"]) T.F_as_tuples 1 0 (by simp) rfl fun Tt kV doc pm an cdv ct us its h1 h2 => by
    match us, its, h1, h2 with
    | [u], [d], _, _ => exact ⟨_, rfl, rfl⟩
theorem bd2_as_tuples (T : Txt K mg) : Binds K T.d_as_tuples ["thing", "depth"] [] := by
  obtain ⟨ds, v, b⟩ := FunD.binds1 (ps := ["thing", "depth"]) T.F_as_tuples 2 1 (by simp) rfl fun Tt kV doc pm an cdv ct us its h1 h2 => by
    match us, its, h1, h2 with
    | [u, z], [d], _, _ => exact ⟨_, rfl, rfl⟩
  cases v
  exact b
abbrev RAsTuples (n : Nat) : List PyData → PyData → Prop := fun ds d => ∃ (x : PyData) (k : Int), ds = [x, .int k] ∧ fine n x = true ∧ (n : Int) ≤ k ∧ d = tupN n x
theorem ok_as_tuples (T : Txt K mg) : ∀ n : Nat, FnOk P w K mg base CX0 (n + 1) T.f_as_tuples T.d_as_tuples ["thing", "depth"] (spD K (RAsTuples n)) := by
  intro n
  induction n with
  | zero =>
    refine T.F_as_tuples.ok sc_as_tuples (by rintro vs H Q E ⟨b, ds, d, hs, hd, ⟨x, k, rfl, _, _, rfl⟩, q⟩; exact hd.length) (fun cdv A outer s H vs Q E hr h => ?_)
    obtain ⟨b, ds, d, hs, hd, ⟨x, k, rfl, hf, hk, rfl⟩, q⟩ := h
    refine ⟨_, pss_cons (ps_if (PW.pt (pw_or (pt_cmpR (op_eqA hr.units) (pv 1) pe_int (nomark _)) (pw_or1 (pt_not (pt_val (pe_callB call_isiT (by rfl) T.z_isinstance (by decide +kernel) (pa_cons (pv 0) (pa_cons (pe_tup (pa_cons (pe_bltn (v := .ty "list") (by rfl) T.z_list (by decide +kernel) rfl) (pa_cons (pe_bltn (v := .ty "tuple") (by rfl) T.z_tuple (by decide +kernel) rfl) pa_nil))) pa_nil)))))))) (pss_one (ps_ret (pv 0))) pss_nil) (pss_one ps_never), ?_⟩
    have Z := S.init (B := []) hs hd ["thing", "depth", "part"]
    cases hd with
    | cons hx hn =>
      cases hx with
      | lst s a => cases hf
      | tup s a => cases hf
      | _ =>
        apply q_whenT Z
        walk_at "dv"
        exact Bool.or_true _
        intro b2 h2 F Z
        exact s_ret Z (by walk_at "dv") q
  | succ n ih =>
    refine T.F_as_tuples.ok sc_as_tuples (by rintro vs H Q E ⟨b, ds, d, hs, hd, ⟨x, k, rfl, _, _, rfl⟩, q⟩; exact hd.length) (fun cdv A outer s H vs Q E hr h => ?_)
    obtain ⟨b, ds, d, hs, hd, ⟨x, k, rfl, hf, hk, rfl⟩, q⟩ := h
    have hk0 : k ≠ 0 := by omega
    have hk1 : (n : Int) ≤ k - 1 := by omega
    have Z := S.init (B := []) hs hd ["thing", "depth", "part"]
    cases hd with
    | cons hx hn =>
      cases hx with
      | @lst a0 xs0 ds0 s a =>
        refine ⟨_, (pss_cons (ps_if (PW.pt (pw_or (pt_cmpR (op_eqA hr.units) (pv 1) pe_int (nomark _)) (pw_or1 (pt_not (pt_val (pe_callB call_isiT (by rfl) T.z_isinstance (by decide +kernel) (pa_cons (pv 0) (pa_cons (pe_tup (pa_cons (pe_bltn (v := .ty "list") (by rfl) T.z_list (by decide +kernel) rfl) (pa_cons (pe_bltn (v := .ty "tuple") (by rfl) T.z_tuple (by decide +kernel) rfl) pa_nil))) pa_nil)))))))) (pss_one (ps_ret (pv 0))) pss_nil)
    (pss_one (ps_ret (pe_callTy call_tuple_of (by rfl) T.z_tuple (by decide +kernel) (pa_cons (pe_lc (own := [("part", 2)]) (g := gName 2) rfl sc_as_tuples.nd (pi_list (pv 0)) (blkOk_by (N := ["thing", "depth", "part"]) (sc := defScope s_as_tuples) (by decide +kernel)) (fun _ _ _ _ _ => (pg_name (i := 2) sc_as_tuples.nd rfl (by first | exact Or.inl rfl | exact Or.inr rfl))) (fun _ _ _ _ _ => pts_nil) (fun _ _ _ _ _ => (pe_call ih (hr.mono (by omega)) (by rfl) T.m_as_tuples T.F_as_tuples.kp (bd2_as_tuples T) .nil pass0 (pa_cons (pv 2) (pa_cons (pe_op op_sub (pv 1) pe_int) pa_nil))))) pa_nil))))), ?_⟩
        have hf' : (decide (ds0.length ≤ 90000) && ds0.all (fine n)) = true := hf
        rw [Bool.and_eq_true, decide_eq_true_eq, List.all_eq_true] at hf'
        apply q_whenF Z
        walk_at "dv"
        rw [decide_eq_false hk0]; rfl
        intro b2 h2 F Z
        refine s_retE Z (d_cb (ds_cons (d_lcL (fun _ => true) (tupN n) Z.sl (by walk_at "dv") hf'.1 (fun x => wipe1) fun m d σ2 b2 hm e Sl => ⟨b_yes, fun _ => d_call (ds_cons (by walk_at "dv") (ds_cons (by walk_at "dv") ds_nil)) ⟨d, k - 1, rfl, hf'.2 d (List.mem_of_getElem? hm), hk1, rfl⟩⟩) ds_nil) rc_tupL) ?_ q
        rw [filt]
        rfl
      | @tup a0 xs0 ds0 s a =>
        refine ⟨_, (pss_cons (ps_if (PW.pt (pw_or (pt_cmpR (op_eqA hr.units) (pv 1) pe_int (nomark _)) (pw_or1 (pt_not (pt_val (pe_callB call_isiT (by rfl) T.z_isinstance (by decide +kernel) (pa_cons (pv 0) (pa_cons (pe_tup (pa_cons (pe_bltn (v := .ty "list") (by rfl) T.z_list (by decide +kernel) rfl) (pa_cons (pe_bltn (v := .ty "tuple") (by rfl) T.z_tuple (by decide +kernel) rfl) pa_nil))) pa_nil)))))))) (pss_one (ps_ret (pv 0))) pss_nil)
    (pss_one (ps_ret (pe_callTy call_tuple_of (by rfl) T.z_tuple (by decide +kernel) (pa_cons (pe_lc (own := [("part", 2)]) (g := gName 2) rfl sc_as_tuples.nd (pi_tup (pv 0)) (blkOk_by (N := ["thing", "depth", "part"]) (sc := defScope s_as_tuples) (by decide +kernel)) (fun _ _ _ _ _ => (pg_name (i := 2) sc_as_tuples.nd rfl (by first | exact Or.inl rfl | exact Or.inr rfl))) (fun _ _ _ _ _ => pts_nil) (fun _ _ _ _ _ => (pe_call ih (hr.mono (by omega)) (by rfl) T.m_as_tuples T.F_as_tuples.kp (bd2_as_tuples T) .nil pass0 (pa_cons (pv 2) (pa_cons (pe_op op_sub (pv 1) pe_int) pa_nil))))) pa_nil))))), ?_⟩
        have hf' : (decide (ds0.length ≤ 90000) && ds0.all (fine n)) = true := hf
        rw [Bool.and_eq_true, decide_eq_true_eq, List.all_eq_true] at hf'
        apply q_whenF Z
        walk_at "dv"
        rw [decide_eq_false hk0]; rfl
        intro b2 h2 F Z
        refine s_retE Z (d_cb (ds_cons (d_lcT (fun _ => true) (tupN n) Z.sl (by walk_at "dv") hf'.1 (fun x => wipe1) fun m d σ2 b2 hm e Sl => ⟨b_yes, fun _ => d_call (ds_cons (by walk_at "dv") (ds_cons (by walk_at "dv") ds_nil)) ⟨d, k - 1, rfl, hf'.2 d (List.mem_of_getElem? hm), hk1, rfl⟩⟩) ds_nil) rc_tupL) ?_ q
        rw [filt]
        rfl
      | _ =>
        refine ⟨_, (pss_cons (ps_if (PW.pt (pw_or (pt_cmpR (op_eqA hr.units) (pv 1) pe_int (nomark _)) (pw_or1 (pt_not (pt_val (pe_callB call_isiT (by rfl) T.z_isinstance (by decide +kernel) (pa_cons (pv 0) (pa_cons (pe_tup (pa_cons (pe_bltn (v := .ty "list") (by rfl) T.z_list (by decide +kernel) rfl) (pa_cons (pe_bltn (v := .ty "tuple") (by rfl) T.z_tuple (by decide +kernel) rfl) pa_nil))) pa_nil)))))))) (pss_one (ps_ret (pv 0))) pss_nil)
    (pss_one (ps_ret (pe_callTy call_tuple_of (by rfl) T.z_tuple (by decide +kernel) (pa_cons (pe_lc (own := [("part", 2)]) (g := gName 2) rfl sc_as_tuples.nd (pi_list (pv 0)) (blkOk_by (N := ["thing", "depth", "part"]) (sc := defScope s_as_tuples) (by decide +kernel)) (fun _ _ _ _ _ => (pg_name (i := 2) sc_as_tuples.nd rfl (by first | exact Or.inl rfl | exact Or.inr rfl))) (fun _ _ _ _ _ => pts_nil) (fun _ _ _ _ _ => (pe_call ih (hr.mono (by omega)) (by rfl) T.m_as_tuples T.F_as_tuples.kp (bd2_as_tuples T) .nil pass0 (pa_cons (pv 2) (pa_cons (pe_op op_sub (pv 1) pe_int) pa_nil))))) pa_nil))))), ?_⟩
        apply q_whenT Z
        walk_at "dv"
        exact Bool.or_true _
        intro b2 h2 F Z
        exact s_retE Z (by walk_at "dv") rfl q
theorem ok_checked (T : Txt K mg) {f : Addr} {fd : FuncData} {k : Nat} {ps : List Str} {R : List PyData → PyData → Prop} (G : FnOk P w K mg base CX0 k f fd ps (spD K R)) (HK_is_such : k ≤ 7) (KP_is_such : PySem.W.keepIn K (.ref f) = true) (BD_is_such : Binds K fd ps []) :
    FnOk P w K mg base CX0 8 T.f_checked T.d_checked ["is_such", "thing"] (spSuch K f R) := by
  obtain ⟨dsA, VD_as_tuples, BD_as_tuples⟩ := bd1_as_tuples T
  refine T.F_checked.ok sc_checked (by rintro vs H Q E ⟨b, v, x, rfl, _⟩; rfl) (fun cdv A outer s H vs Q E hr h => ?_)
  obtain ⟨b, v, x, rfl, hs, hx, hf, hR, q⟩ := h
  refine ⟨_, (pss_cons (ps_set (i := 2) sc_checked.nd rfl (by first | exact Or.inl rfl | exact Or.inr rfl) (pe_call (ok_as_tuples T 6) (hr.mono (by omega)) (by rfl) T.m_as_tuples T.F_as_tuples.kp BD_as_tuples VD_as_tuples pass0 (pa_cons (pv 1) pa_nil)))
    (pss_cons (ps_if (pt_not (pt_val (pe_callL (i := 0) G (hr.mono HK_is_such) rfl (by first | exact Or.inl rfl | exact Or.inr (Or.inl rfl) | exact Or.inr (Or.inr rfl)) KP_is_such BD_is_such .nil pass0 (pa_cons (pv 2) pa_nil)))) (pss_one ps_never) pss_nil)
    (pss_one (ps_ret (pv 2))))), ?_⟩
  have Z : S K [] b H (start ["is_such", "thing", "own"] [.ref f, v]) b H [.adr f, .dat x, .un] := ⟨Fr.rfl' hs, .cons rfl (.cons ⟨v, rfl, hx⟩ (.cons True.intro .nil))⟩
  refine q_asg Z (d_callD (es := [.int 20]) (ds_cons (by walk_at "dv") ds_nil) (fun H => .cons (.int 20) .nil) ⟨x, 20, rfl, hf, by decide, rfl⟩) fun σ b2 h2 F Z => ?_
  apply q_whenF Z
  exact b_not (b_B (d_callL Z.sl rfl (ds_cons (by walk_at "dv") ds_nil) hR))
  rfl
  intro b3 h3 F3 Z
  exact s_ret Z (by walk_at "dv") q
end
end LW

namespace LW
open PySem L2 DV
local macro_rules | `(tactic| walk_at "dv") => `(tactic| first
  | exact d_int _ | exact d_str _ | exact d_bl _ | exact d_non
  | (apply d_varZ (by assumption); rfl)
  | (apply d_var (by assumption); rfl)
  | exact ds_nil
  | (apply ds_cons; walk_at "dv"; walk_at "dv")
  | (apply d_op; walk_at "dv"; walk_at "dv"; walk_at "rv")
  | (apply d_tup; walk_at "dv"; (simp only [List.length]; omega))
  | (apply d_lst; walk_at "dv"; (simp only [List.length]; omega))
  | (apply d_neg; walk_at "dv")
  | (apply d_notV; walk_at "dv")
  | (apply d_isi; walk_at "dv"; rfl)
  | (apply d_isi2; walk_at "dv"; rfl; rfl)
  | (apply d_cb; walk_at "dv"; walk_at "rc")
  | (apply d_andV; walk_at "dv"; (intro _; walk_at "dv"))
  | (apply d_orV; walk_at "dv"; (intro _; walk_at "dv"))
  | (apply d_chain; walk_at "dv"; walk_at "dv"; walk_at "dv"; walk_at "rv"; walk_at "rv")
  | (apply b_and; walk_at "dv"; (intro _; walk_at "dv"))
  | (apply b_or; walk_at "dv"; (intro _; walk_at "dv"))
  | (apply b_test; walk_at "dv")
  | (apply b_B; walk_at "dv")
  | (apply b_not; walk_at "dv")
  | exact b_yes)
local macro_rules | `(tactic| walk_at "rv") => `(tactic| first
  | exact rv_addI | exact rv_subI | exact rv_ltI | exact rv_leI | exact rv_gtI | exact rv_geI
  | exact rv_eqAI | exact rv_eqAB | exact rv_neAI | exact rv_neAB | exact rv_eqAS | exact rv_eqAN
  | exact rv_ixT rfl | exact rv_ixL rfl
  | (apply rv_modI; first | assumption | decide | omega)
  | (apply rv_divI; (first | assumption | decide | omega); (first | assumption | decide | omega))
  | (apply rv_mulI; (first | assumption | decide | omega); (first | assumption | decide | omega)))
local macro_rules | `(tactic| walk_at "rc") => `(tactic| first
  | exact rc_lenL | exact rc_lenT | exact rc_max | exact rc_min | exact rc_int | exact rc_intB | exact rc_tupL | exact rc_tupT | exact rc_listT | exact rc_listL | exact rc_abs)

local macro_rules | `(tactic| walk_at "rv") => `(tactic| first | exact rv_addIB)
local macro_rules | `(tactic| walk_at "dv") => `(tactic| first
  | (apply d_slTh; walk_at "dv"; walk_at "dv"; rfl)
  | (apply d_slTl; walk_at "dv"; walk_at "dv"; rfl)
  | (apply d_slTb; walk_at "dv"; walk_at "dv"; walk_at "dv"; rfl)
  | (apply d_slLh; walk_at "dv"; walk_at "dv"; rfl)
  | (apply d_slLl; walk_at "dv"; walk_at "dv"; rfl))

/-! RECORDS -/
def signsS : Str := "abcdefghijklmnopqrstuvwxyz0123456789"
def allIn (x : Str) : Bool := (x.cps.toList.map fun m => decide (m ∈ signsS.cps.toList)).all id
def wordB (x : Str) : Bool := (decide ((1 : Int) ≤ (x.length : Int)) && decide ((x.length : Int) ≤ 12)) && allIn x
def bare (x : Str) : Str := Txt.removeprefix x "@"
def keyB (x : Str) : Bool := wordB (bare x)
def shortS (x : Str) : Prop := x.length ≤ 100 ∧ (bare x).length ≤ 100 ∧ PyData.strOk x = true
inductive Rc where
  | blank
  | put (k w : Str) (p l : Int)
  | drop (k : Str) (p l : Int)
def blankD : PyData := .tuple [.str "blank"]
def dR : Rc → PyData
  | .blank => blankD
  | .put k w p l => .tuple [.str "put", .str k, .str w, .int p, .int l]
  | .drop k p l => .tuple [.str "drop", .str k, .int p, .int l]
def sgD : Rc → PyData
  | .blank => .tuple []
  | .put k w _ _ => .tuple [.str "put", .str k, .str w]
  | .drop k _ _ => .tuple [.str "drop", .str k]
def pR : Rc → Int
  | .blank => 0
  | .put _ _ p _ => p
  | .drop _ p _ => p
def lR : Rc → Int
  | .blank => 0
  | .put _ _ _ l => l
  | .drop _ _ l => l
def isB : Rc → Bool
  | .blank => true
  | _ => false
def okN (p l : Int) : Prop := 0 ≤ p ∧ p ≤ 1000 ∧ 0 ≤ l ∧ l ≤ 1000
def okR : Rc → Prop
  | .blank => True
  | .put k w p l => keyB k = true ∧ wordB w = true ∧ shortS k ∧ shortS w ∧ okN p l
  | .drop k p l => keyB k = true ∧ shortS k ∧ okN p l
theorem sh_of {d : PyData} (h : PyData.canLay0 d = true) (h2 : PyData.depth d ≤ 64) : SeqAt.shaped d = true := by
  unfold SeqAt.shaped
  rw [h, decide_eq_true h2]
  rfl
theorem sh_blank : SeqAt.shaped blankD = true := by decide +kernel
theorem ok_put : PyData.strOk "put" = true := by decide +kernel
theorem ok_drop : PyData.strOk "drop" = true := by decide +kernel
theorem sh_dR (r : Rc) (h : okR r) : SeqAt.shaped (dR r) = true := by
  cases r with
  | blank => exact sh_blank
  | put k w p l =>
    obtain ⟨_, _, k2, w2, _⟩ := h
    refine sh_of ?_ (show (1 : Nat) ≤ 64 by decide)
    show (PyData.strOk "put" && (PyData.strOk k && (PyData.strOk w && (true && (true && true))))) = true
    rw [ok_put, k2.2.2, w2.2.2]; rfl
  | drop k p l =>
    obtain ⟨_, k2, _⟩ := h
    refine sh_of ?_ (show (1 : Nat) ≤ 64 by decide)
    show (PyData.strOk "drop" && (PyData.strOk k && (true && (true && true)))) = true
    rw [ok_drop, k2.2.2]; rfl
theorem eq_blank (r : Rc) : PyData.eqv (dR r) blankD = isB r := by cases r <;> rfl
section
variable {P : Program} {w : World} {K : PySem.W.Frag} {mg : Str → Option Value} {base : Heap}
def spRowOf (K : PySem.W.Frag) (f : Addr) (R : List PyData → PyData → Prop) : Sp := fun vs H Q _ => ∃ b v ds, vs = [.ref f, v] ∧ Same b H ∧ Da K b v (.tuple ds) ∧ ds.length ≤ 90000 ∧ (∀ d ∈ ds, R [d] (.bool true)) ∧ ∀ v b2 h2, Fr [] b H b2 h2 → Da K b2 v (.bool true) → Q v h2
theorem d_rowOf {σ : St} {b : Hp} {te : TE} {ds : List PyData} {f : Addr} {R : List PyData → PyData → Prop} {E : XK} (h : EvD K te σ b (.tuple ds)) (hl : ds.length ≤ 90000) (hr : ∀ d ∈ ds, R [d] (.bool true)) : EvD K (tCall (spRowOf K f R) [] E (tCons (tC (.ref f)) (tCons te tNil))) σ b (.bool true) := fun b1 h1 s z Q q =>
  h b1 h1 s z _ fun v b2 h2 F D => ⟨b2, v, ds, rfl, F.sub, D, hl, hr, fun v b3 h3 F2 D2 => q v b3 h3 (F.trans F2) D2⟩
theorem all_true' (n : Nat) : (List.replicate n true).all id = true := by
  induction n with
  | zero => rfl
  | succ n ih => exact ih
theorem map_true (ds : List PyData) : ((ds.filter fun _ => true).map fun _ => PyData.bool true) = (List.replicate ds.length true).map .bool := by
  rw [filt, List.map_replicate, List.map_const']
theorem ok_is_row_of (T : Txt K mg) {f : Addr} {fd : FuncData} {k : Nat} {ps : List Str} {R : List PyData → PyData → Prop} (G : FnOk P w K mg base CX0 k f fd ps (spD K R)) (HK_is_such : k ≤ 4) (KP_is_such : PySem.W.keepIn K (.ref f) = true) (BD_is_such : Binds K fd ps []) :
    FnOk P w K mg base CX0 5 T.f_is_row_of T.d_is_row_of ["is_such", "thing"] (spRowOf K f R) := by
  refine T.F_is_row_of.ok sc_is_row_of (by rintro vs H Q E ⟨b, v, ds, rfl, _⟩; rfl) (fun cdv A outer s H vs Q E hr h => ?_)
  obtain ⟨b, v, ds, rfl, hs, hx, hl, hR, q⟩ := h
  refine ⟨_, (pss_one (ps_ret (pe_and (pe_callB call_isi (by rfl) T.z_isinstance (by decide +kernel) (pa_cons (pv 1) (pa_cons (pe_bltn (v := .ty "tuple") (by rfl) T.z_tuple (by decide +kernel) rfl) pa_nil))) (pe_one (pe_callB (cr_all rfl) (by rfl) T.z_all (by decide +kernel) (pa_cons (pe_lc (own := [("part", 2)]) (g := gName 2) rfl sc_is_row_of.nd (pi_tup (pv 1)) (blkOk_by (N := ["is_such", "thing", "part"]) (sc := defScope s_is_row_of) (by decide +kernel)) (fun _ _ _ _ _ => (pg_name (i := 2) sc_is_row_of.nd rfl (by first | exact Or.inl rfl | exact Or.inr rfl))) (fun _ _ _ _ _ => pts_nil) (fun _ _ _ _ _ => (pe_callL (i := 0) G (hr.mono HK_is_such) rfl (by first | exact Or.inl rfl | exact Or.inr (Or.inl rfl) | exact Or.inr (Or.inr rfl)) KP_is_such BD_is_such .nil pass0 (pa_cons (pv 2) pa_nil)))) pa_nil)))))), ?_⟩
  have Z : S K [] b H (start ["is_such", "thing", "part"] [.ref f, v]) b H [.adr f, .dat (.tuple ds), .un] := ⟨Fr.rfl' hs, .cons rfl (.cons ⟨v, rfl, hx⟩ (.cons True.intro .nil))⟩
  refine s_retE Z (d_andV (d_isi (r := true) (by walk_at "dv") rfl) fun _ => d_cb (ds_cons (EvD.is (d_lcT (ds := ds) (fun _ => true) (fun d => .bool true) Z.sl (by walk_at "dv") hl (fun x => wipe1) fun m d σ2 b2 hm e Sl => ⟨b_yes, fun _ => d_callL Sl rfl (ds_cons (by walk_at "dv") ds_nil) (hR d (List.mem_of_getElem? hm))⟩) (congrArg PyData.list (map_true ds))) ds_nil) rc_all) ?_ q
  rw [all_true']
  rfl
theorem ok_is_word (T : Txt K mg) : FnOk P w K mg base CX0 1 T.f_is_word T.d_is_word ["thing"] (spD K fun ds d => ∃ x : Str, ds = [.str x] ∧ x.length ≤ 100 ∧ d = .bool (wordB x)) := by
  refine T.F_is_word.ok sc_is_word (by rintro vs H Q E ⟨b, ds, d, hs, hd, ⟨x, rfl, _, rfl⟩, q⟩; exact hd.length) (fun cdv A outer s H vs Q E hr h => ?_)
  obtain ⟨b, ds, d, hs, hd, ⟨x, rfl, hl, rfl⟩, q⟩ := h
  refine ⟨_, (pss_cons (ps_if (PW.pt (pw_or (pt_not (pt_val (pe_callB call_isi (by rfl) T.z_isinstance (by decide +kernel) (pa_cons (pv 0) (pa_cons (pe_bltn (v := .ty "str") (by rfl) T.z_str (by decide +kernel) rfl) pa_nil))))) (pw_or1 (pt_not (pt_chain op_le op_le pe_int (pe_callB call_len (by rfl) T.z_len (by decide +kernel) (pa_cons (pv 0) pa_nil)) (pe_globX rfl T.m_MOST_SIGNS)))))) (pss_one (ps_ret pe_bl)) pss_nil)
    (pss_one (ps_ret (pe_callB (cr_all rfl) (by rfl) T.z_all (by decide +kernel) (pa_cons (pe_lc (own := [("sign", 1)]) (g := gName 1) rfl sc_is_word.nd (pi_str (pv 0)) (blkOk_by (N := ["thing", "sign"]) (sc := defScope s_is_word) (by decide +kernel)) (fun _ _ _ _ _ => (pg_name (i := 1) sc_is_word.nd rfl (by first | exact Or.inl rfl | exact Or.inr rfl))) (fun _ _ _ _ _ => pts_nil) (fun _ _ _ _ _ => (pe_cmpR op_in_sign (pv 1) (pe_globX rfl T.m_SIGNS) rfl))) pa_nil))))), ?_⟩
  have Z := S.init (B := []) hs hd ["thing", "sign"]
  have hl2 : x.length ≤ sizeLine := Nat.le_trans hl (by decide)
  unfold wordB at q
  cases hc : (decide ((1 : Int) ≤ (x.length : Int)) && decide ((x.length : Int) ≤ 12)) with
  | true =>
    rw [hc] at q
    apply q_whenF Z
    exact b_or (b_not (b_B (d_isi (r := true) (by walk_at "dv") rfl))) fun _ => b_not (b_test (d_chain (d_int 1) (d_cb (ds_cons (by walk_at "dv") ds_nil) (rc_lenS hl2)) (d_int 12) rv_leI rv_leI))
    rw [hc]; rfl
    intro b2 h2 F Z
    refine s_retE Z (d_cb (ds_cons (EvD.is (d_lcS (fun m => .bool (decide (m ∈ signsS.cps.toList))) Z.sl (by walk_at "dv") (Nat.le_trans hl (by decide)) (fun x => wipe1) fun m σ2 b2 e Sl => d_op (by walk_at "dv") (d_str _) rv_inS) (congrArg PyData.list (List.map_map ..).symm)) ds_nil) rc_all) rfl q
  | false =>
    rw [hc] at q
    apply q_whenT Z
    exact b_or (b_not (b_B (d_isi (r := true) (by walk_at "dv") rfl))) fun _ => b_not (b_test (d_chain (d_int 1) (d_cb (ds_cons (by walk_at "dv") ds_nil) (rc_lenS hl2)) (d_int 12) rv_leI rv_leI))
    rw [hc]; rfl
    intro b2 h2 F Z
    exact s_ret Z (by walk_at "dv") q
theorem ok_is_key (T : Txt K mg) : FnOk P w K mg base CX0 2 T.f_is_key T.d_is_key ["thing"] (spD K fun ds d => ∃ x : Str, ds = [.str x] ∧ shortS x ∧ d = .bool (keyB x)) := by
  refine T.F_is_key.ok sc_is_key (by rintro vs H Q E ⟨b, ds, d, hs, hd, ⟨x, rfl, _, rfl⟩, q⟩; exact hd.length) (fun cdv A outer s H vs Q E hr h => ?_)
  obtain ⟨b, ds, d, hs, hd, ⟨x, rfl, ⟨h1, h2, _⟩, rfl⟩, q⟩ := h
  refine ⟨_, (pss_one (ps_ret (pe_and (pe_callB call_isi (by rfl) T.z_isinstance (by decide +kernel) (pa_cons (pv 0) (pa_cons (pe_bltn (v := .ty "str") (by rfl) T.z_str (by decide +kernel) rfl) pa_nil))) (pe_one (pe_call (ok_is_word T) (hr.mono (by omega)) (by rfl) T.m_is_word T.F_is_word.kp T.b_is_word .nil pass0 (pa_cons (pe_bm PySem.F.plainAttrs_str PySem.F.slot_str_removeprefix PySem.F.type_str_removeprefix mt_removeprefix (pv 0) (pa_cons pe_str pa_nil)) pa_nil)))))), ?_⟩
  have Z := S.init (B := []) hs hd ["thing"]
  refine s_retE Z (d_andV (d_isi (r := true) (by walk_at "dv") rfl) fun _ => d_call (ds_cons (d_removeprefix (by walk_at "dv") (Nat.le_trans h1 (by decide)) (d_str _)) ds_nil) ⟨bare x, rfl, h2, rfl⟩) rfl q
def oneD : Rc → Prop := fun r => r ≠ .blank ∧ okR r
theorem ok_is_single (T : Txt K mg) : FnOk P w K mg base CX0 3 T.f_is_single T.d_is_single ["thing"] (spD K fun ds d => ∃ r : Rc, ds = [sgD r] ∧ isB r = false ∧ okR r ∧ d = .bool true) := by
  refine T.F_is_single.ok sc_is_single (by rintro vs H Q E ⟨b, ds, d, hs, hd, ⟨x, rfl, _, _, rfl⟩, q⟩; exact hd.length) (fun cdv A outer s H vs Q E hr h => ?_)
  obtain ⟨b, ds, d, hs, hd, ⟨r, rfl, h1, h2, rfl⟩, q⟩ := h
  refine ⟨_, (pss_cons (ps_if (pt_val (pe_call (ok_is_row T) (hr.mono (by omega)) (by rfl) T.m_is_row T.F_is_row.kp T.b_is_row .nil pass0 (pa_cons (pv 0) (pa_cons pe_int pa_nil)))) (pss_one (ps_ret (pe_and (pe_cmpR (op_eqA hr.units) (pe_ix ix_seq (pv 0) pe_int (fun _ _ => rfl)) pe_str (nomark _)) (pe_and (pe_call (ok_is_key T) (hr.mono (by omega)) (by rfl) T.m_is_key T.F_is_key.kp T.b_is_key .nil pass0 (pa_cons (pe_ix ix_seq (pv 0) pe_int (fun _ _ => rfl)) pa_nil)) (pe_one (pe_call (ok_is_word T) (hr.mono (by omega)) (by rfl) T.m_is_word T.F_is_word.kp T.b_is_word .nil pass0 (pa_cons (pe_ix ix_seq (pv 0) pe_int (fun _ _ => rfl)) pa_nil))))))) pss_nil)
    (pss_one (ps_ret (pe_and (pe_call (ok_is_row T) (hr.mono (by omega)) (by rfl) T.m_is_row T.F_is_row.kp T.b_is_row .nil pass0 (pa_cons (pv 0) (pa_cons pe_int pa_nil))) (pe_and (pe_cmpR (op_eqA hr.units) (pe_ix ix_seq (pv 0) pe_int (fun _ _ => rfl)) pe_str (nomark _)) (pe_one (pe_call (ok_is_key T) (hr.mono (by omega)) (by rfl) T.m_is_key T.F_is_key.kp T.b_is_key .nil pass0 (pa_cons (pe_ix ix_seq (pv 0) pe_int (fun _ _ => rfl)) pa_nil)))))))), ?_⟩
  have Z := S.init (B := []) hs hd ["thing"]
  cases r with
  | blank => cases h1
  | put k w p l =>
    obtain ⟨k1, w1, k2, w2, _⟩ := h2
    apply q_whenT Z
    exact b_test (d_call (ds_cons (by walk_at "dv") (ds_cons (by walk_at "dv") ds_nil)) ⟨_, _, rfl, rfl⟩)
    rfl
    intro b2 h2 F Z
    refine s_retE Z (d_andV (by walk_at "dv") fun _ => d_andV (d_call (ds_cons (by walk_at "dv") ds_nil) ⟨k, rfl, k2, rfl⟩) fun _ => d_call (ds_cons (by walk_at "dv") ds_nil) ⟨w, rfl, w2.1, rfl⟩) ?_ q
    rw [k1, w1]; rfl
  | drop k p l =>
    obtain ⟨k1, k2, _⟩ := h2
    apply q_whenF Z
    exact b_test (d_call (ds_cons (by walk_at "dv") (ds_cons (by walk_at "dv") ds_nil)) ⟨_, _, rfl, rfl⟩)
    rfl
    intro b2 h2 F Z
    refine s_retE Z (d_andV (d_call (ds_cons (by walk_at "dv") (ds_cons (by walk_at "dv") ds_nil)) ⟨_, _, rfl, rfl⟩) fun _ => d_andV (by walk_at "dv") fun _ => d_call (ds_cons (by walk_at "dv") ds_nil) ⟨k, rfl, k2, rfl⟩) ?_ q
    rw [k1]; rfl
theorem okN_nn {p l : Int} (h : okN p l) : (decide (0 ≤ p) && decide (0 ≤ l)) = true := by
  rw [decide_eq_true h.1, decide_eq_true h.2.2.1]; rfl
theorem ok_is_record (T : Txt K mg) : FnOk P w K mg base CX0 4 T.f_is_record T.d_is_record ["thing"] (spD K fun ds d => ∃ r : Rc, ds = [dR r] ∧ okR r ∧ d = .bool true) := by
  refine T.F_is_record.ok sc_is_record (by rintro vs H Q E ⟨b, ds, d, hs, hd, ⟨x, rfl, _, rfl⟩, q⟩; exact hd.length) (fun cdv A outer s H vs Q E hr h => ?_)
  obtain ⟨b, ds, d, hs, hd, ⟨r, rfl, h2, rfl⟩, q⟩ := h
  refine ⟨_, (pss_cons (ps_if (pt_cmpR (op_eqA hr.units) (pv 0) (pe_glob (v := .ref T.f_BLANK) rfl T.m_BLANK rfl) (nomark _)) (pss_one (ps_ret pe_bl)) pss_nil)
    (pss_cons (ps_if (pt_not (pt_val (pe_callB call_isi (by rfl) T.z_isinstance (by decide +kernel) (pa_cons (pv 0) (pa_cons (pe_bltn (v := .ty "tuple") (by rfl) T.z_tuple (by decide +kernel) rfl) pa_nil))))) (pss_one (ps_ret pe_bl)) pss_nil)
    (pss_one (ps_ret (pe_and (pe_call (ok_is_single T) (hr.mono (by omega)) (by rfl) T.m_is_single T.F_is_single.kp T.b_is_single .nil pass0 (pa_cons (pe_slice sl_tupA (pv 0) po_none (po_some (pe_un un_neg pe_int))) pa_nil)) (pe_and (pe_call (ok_is_natural T) (hr.mono (by omega)) (by rfl) T.m_is_natural T.F_is_natural.kp T.b_is_natural .nil pass0 (pa_cons (pe_ix ix_seq (pv 0) (pe_un un_neg pe_int) (fun _ _ => rfl)) pa_nil)) (pe_one (pe_call (ok_is_natural T) (hr.mono (by omega)) (by rfl) T.m_is_natural T.F_is_natural.kp T.b_is_natural .nil pass0 (pa_cons (pe_ix ix_seq (pv 0) (pe_un un_neg pe_int) (fun _ _ => rfl)) pa_nil))))))))), ?_⟩
  have Z := S.init (B := []) hs hd ["thing"]
  have hB : EvD K (tC (.ref T.f_BLANK)) (start ["thing"] []) b blankD := d_glob fun H => .tup (T.t_BLANK H) (.cons (.str _) .nil)
  have hB : ∀ {σ : St} {b : Hp}, EvD K (tC (.ref T.f_BLANK)) σ b blankD := d_glob fun H => .tup (T.t_BLANK H) (.cons (.str _) .nil)
  cases hb : isB r with
  | true =>
    apply q_whenT Z
    exact b_test (d_op (by walk_at "dv") hB (rv_eqAD (sh_dR r h2) sh_blank))
    rw [eq_blank, hb]
    intro b2 h2 F Z
    exact s_ret Z (by walk_at "dv") q
  | false =>
    apply q_whenF Z
    exact b_test (d_op (by walk_at "dv") hB (rv_eqAD (sh_dR r h2) sh_blank))
    rw [eq_blank, hb]
    intro b2 h3 F Z
    cases r with
    | blank => cases hb
    | put k w p l =>
      have hn := okN_nn h2.2.2.2.2
      apply q_whenF Z
      exact b_not (b_B (d_isi (r := true) (by walk_at "dv") rfl))
      rfl
      intro b2 h3 F Z
      refine s_retE Z (d_andV (d_call (ds_cons (by walk_at "dv") ds_nil) ⟨.put k w p l, rfl, rfl, h2, rfl⟩) fun _ => d_andV (d_call (ds_cons (by walk_at "dv") ds_nil) ⟨p, rfl, rfl⟩) fun _ => d_call (ds_cons (by walk_at "dv") ds_nil) ⟨l, rfl, rfl⟩) ?_ q
      rw [hn]; rfl
    | drop k p l =>
      have hn := okN_nn h2.2.2
      apply q_whenF Z
      exact b_not (b_B (d_isi (r := true) (by walk_at "dv") rfl))
      rfl
      intro b2 h3 F Z
      refine s_retE Z (d_andV (d_call (ds_cons (by walk_at "dv") ds_nil) ⟨.drop k p l, rfl, rfl, h2, rfl⟩) fun _ => d_andV (d_call (ds_cons (by walk_at "dv") ds_nil) ⟨p, rfl, rfl⟩) fun _ => d_call (ds_cons (by walk_at "dv") ds_nil) ⟨l, rfl, rfl⟩) ?_ q
      rw [hn]; rfl
def rowD (rs : List Rc) : PyData := .tuple (rs.map dR)
theorem ok_is_records (T : Txt K mg) : FnOk P w K mg base CX0 6 T.f_is_records T.d_is_records ["thing"] (spD K fun ds d => ∃ rs : List Rc, ds = [rowD rs] ∧ rs.length ≤ 90000 ∧ (∀ r ∈ rs, okR r) ∧ d = .bool true) := by
  refine T.F_is_records.ok sc_is_records (by rintro vs H Q E ⟨b, ds, d, hs, hd, ⟨x, rfl, _, _, rfl⟩, q⟩; exact hd.length) (fun cdv A outer s H vs Q E hr h => ?_)
  obtain ⟨b, ds, d, hs, hd, ⟨rs, rfl, h1, h2, rfl⟩, q⟩ := h
  refine ⟨_, (pss_one (ps_ret (pe_call (ok_is_row_of T (ok_is_record T) (by omega) T.F_is_record.kp T.b_is_record) (hr.mono (by omega)) (by rfl) T.m_is_row_of T.F_is_row_of.kp T.b_is_row_of .nil pass0 (pa_cons (pe_glob (v := .ref T.f_is_record) rfl T.m_is_record rfl) (pa_cons (pv 0) pa_nil))))), ?_⟩
  have Z := S.init (B := []) hs hd ["thing"]
  refine s_ret Z (d_rowOf (ds := rs.map dR) (by walk_at "dv") (by rw [List.length_map]; exact h1) fun d hd => ?_) q
  obtain ⟨r, hr, rfl⟩ := List.mem_map.mp hd
  exact ⟨r, rfl, h2 r hr, rfl⟩
end
end LW

namespace LW
open PySem L2 DV
local macro_rules | `(tactic| walk_at "dv") => `(tactic| first
  | exact d_int _ | exact d_str _ | exact d_bl _ | exact d_non
  | (apply d_varZ (by assumption); rfl)
  | (apply d_var (by assumption); rfl)
  | exact ds_nil
  | (apply ds_cons; walk_at "dv"; walk_at "dv")
  | (apply d_op; walk_at "dv"; walk_at "dv"; walk_at "rv")
  | (apply d_tup; walk_at "dv"; (simp only [List.length]; omega))
  | (apply d_lst; walk_at "dv"; (simp only [List.length]; omega))
  | (apply d_neg; walk_at "dv")
  | (apply d_notV; walk_at "dv")
  | (apply d_isi; walk_at "dv"; rfl)
  | (apply d_isi2; walk_at "dv"; rfl; rfl)
  | (apply d_cb; walk_at "dv"; walk_at "rc")
  | (apply d_andV; walk_at "dv"; (intro _; walk_at "dv"))
  | (apply d_orV; walk_at "dv"; (intro _; walk_at "dv"))
  | (apply d_chain; walk_at "dv"; walk_at "dv"; walk_at "dv"; walk_at "rv"; walk_at "rv")
  | (apply b_and; walk_at "dv"; (intro _; walk_at "dv"))
  | (apply b_or; walk_at "dv"; (intro _; walk_at "dv"))
  | (apply b_test; walk_at "dv")
  | (apply b_B; walk_at "dv")
  | (apply b_not; walk_at "dv")
  | exact b_yes)
local macro_rules | `(tactic| walk_at "rv") => `(tactic| first
  | exact rv_addI | exact rv_subI | exact rv_ltI | exact rv_leI | exact rv_gtI | exact rv_geI
  | exact rv_eqAI | exact rv_eqAB | exact rv_neAI | exact rv_neAB | exact rv_eqAS | exact rv_eqAN
  | exact rv_ixT rfl | exact rv_ixL rfl
  | (apply rv_modI; first | assumption | decide | omega)
  | (apply rv_divI; (first | assumption | decide | omega); (first | assumption | decide | omega))
  | (apply rv_mulI; (first | assumption | decide | omega); (first | assumption | decide | omega)))
local macro_rules | `(tactic| walk_at "rc") => `(tactic| first
  | exact rc_lenL | exact rc_lenT | exact rc_max | exact rc_min | exact rc_int | exact rc_intB | exact rc_tupL | exact rc_tupT | exact rc_listT | exact rc_listL | exact rc_abs)

local macro_rules | `(tactic| walk_at "rv") => `(tactic| first | exact rv_addIB)
local macro_rules | `(tactic| walk_at "dv") => `(tactic| first
  | (apply d_slTh; walk_at "dv"; walk_at "dv"; rfl)
  | (apply d_slTl; walk_at "dv"; walk_at "dv"; rfl)
  | (apply d_slTb; walk_at "dv"; walk_at "dv"; walk_at "dv"; rfl)
  | (apply d_slLh; walk_at "dv"; walk_at "dv"; rfl)
  | (apply d_slLl; walk_at "dv"; walk_at "dv"; rfl))

def rg (rs : List Rc) (i : Nat) : Rc := rs.getD i .blank
def aheadB (x y : Rc) : Bool := !isB x && !isB y && (decide (pR x = pR y - 1) && decide (lR x = lR y + 1))
theorem row_at {rs : List Rc} {i : Nat} (h : i < rs.length) : atI (rs.map dR) (i : Int) = some (dR (rg rs i)) := by
  refine atI_nat ?_
  rw [List.getElem?_map, List.getElem?_eq_getElem h]
  show some (dR rs[i]) = some (dR (rs.getD i .blank))
  rw [List.getD_eq_getElem?_getD, List.getElem?_eq_getElem h]
  rfl
theorem row_back {rs : List Rc} {k : Nat} (h1 : 1 ≤ k) (h : k ≤ rs.length) : atI (rs.map dR) (-(k : Int)) = some (dR (rg rs (rs.length - k))) := by
  have e := row_at (rs := rs) (i := rs.length - k) (by omega)
  have e1 : ixN (rs.map dR).length (-(k : Int)) = some (rs.length - k) := by
    unfold ixN
    rw [List.length_map, if_neg (by omega), if_pos (by omega)]
    congr 1
    omega
  have e2 : ixN (rs.map dR).length ((rs.length - k : Nat) : Int) = some (rs.length - k) := by
    rw [List.length_map]
    exact ixN_nat (by omega)
  unfold atI at e ⊢
  rw [e2] at e
  rw [e1]
  exact e
theorem rg_ok {rs : List Rc} (h : ∀ r ∈ rs, okR r) (i : Nat) : okR (rg rs i) := by
  unfold rg
  rw [List.getD_eq_getElem?_getD]
  cases e : rs[i]? with
  | none => exact True.intro
  | some r => exact h r (List.mem_of_getElem? e)
section
variable {P : Program} {w : World} {K : PySem.W.Frag} {mg : Str → Option Value} {base : Heap}
section
variable {σ : St} {b : Hp} {te : TE} {r : Rc}
abbrev tNum (k : Int) : TE := tUn (rU fun i => .int (-i)) (tC (.int k))
theorem d_prt (h : EvD K te σ b (dR r)) (hb : isB r = false) : EvD K (tOp (rIx K) te (tNum 2)) σ b (.int (pR r)) := by
  cases r with
  | blank => cases hb
  | put k w p l => exact d_op h (d_neg (d_int 2)) (rv_ixT (ds := [.str "put", .str k, .str w, .int p, .int l]) rfl)
  | drop k p l => exact d_op h (d_neg (d_int 2)) (rv_ixT (ds := [.str "drop", .str k, .int p, .int l]) rfl)
theorem d_lft (h : EvD K te σ b (dR r)) (hb : isB r = false) : EvD K (tOp (rIx K) te (tNum 1)) σ b (.int (lR r)) := by
  cases r with
  | blank => cases hb
  | put k w p l => exact d_op h (d_neg (d_int 1)) (rv_ixT (ds := [.str "put", .str k, .str w, .int p, .int l]) rfl)
  | drop k p l => exact d_op h (d_neg (d_int 1)) (rv_ixT (ds := [.str "drop", .str k, .int p, .int l]) rfl)
theorem d_tail (h : EvD K te σ b (dR r)) (hb : isB r = false) : EvD K (tSl (rSlA K) te (tPart (tNum 2)) tNoPart) σ b (.tuple [.int (pR r), .int (lR r)]) := by
  cases r with
  | blank => cases hb
  | put k w p l => exact d_slTl (ds := [.str "put", .str k, .str w, .int p, .int l]) h (d_neg (d_int 2)) rfl
  | drop k p l => exact d_slTl (ds := [.str "drop", .str k, .int p, .int l]) h (d_neg (d_int 2)) rfl
theorem d_sg (h : EvD K te σ b (dR r)) : EvD K (tSl (rSlA K) te tNoPart (tPart (tNum 2))) σ b (sgD r) := by
  cases r with
  | blank => exact d_slTh (ds := [.str "blank"]) h (d_neg (d_int 2)) rfl
  | put k w p l => exact d_slTh (ds := [.str "put", .str k, .str w, .int p, .int l]) h (d_neg (d_int 2)) rfl
  | drop k p l => exact d_slTh (ds := [.str "drop", .str k, .int p, .int l]) h (d_neg (d_int 2)) rfl
theorem eqv_pair (a b c e : Int) : PyData.eqv (.tuple [.int a, .int b]) (.tuple [.int c, .int e]) = (decide (a = c) && decide (b = e)) := by
  show (decide (a = c) && (decide (b = e) && true)) = _
  rw [Bool.and_true]
theorem sh_pair (a b : Int) : SeqAt.shaped (.tuple [.int a, .int b]) = true := rfl
end
theorem d_blankC (T : Txt K mg) {σ : St} {b : Hp} : EvD K (tC (.ref T.f_BLANK)) σ b blankD := d_glob fun H => .tup (T.t_BLANK H) (.cons (.str _) .nil)
theorem b_blank (T : Txt K mg) {σ : St} {b : Hp} {te : TE} {r : Rc} (h : EvD K te σ b (dR r)) (ho : okR r) : EvB (tTest (tOp (rEqA K) te (tC (.ref T.f_BLANK)))) σ b (isB r) :=
  EvB.is (b_test (d_op h (d_blankC T) (rv_eqAD (sh_dR r ho) sh_blank))) (eq_blank r)
theorem ok_is_part_ahead (T : Txt K mg) : FnOk P w K mg base CX0 1 T.f_is_part_ahead T.d_is_part_ahead ["part", "later"] (spD K fun ds d => ∃ x y : Rc, ds = [dR x, dR y] ∧ okR x ∧ okR y ∧ d = .bool (aheadB x y)) := by
  refine T.F_is_part_ahead.ok sc_is_part_ahead (by rintro vs H Q E ⟨b, ds, d, hs, hd, ⟨x, y, rfl, _, _, rfl⟩, q⟩; exact hd.length) (fun cdv A outer s H vs Q E hr h => ?_)
  obtain ⟨b, ds, d, hs, hd, ⟨x, y, rfl, ox, oy, rfl⟩, q⟩ := h
  refine ⟨_, (pss_cons (ps_if (PW.pt (pw_or (pt_cmpR (op_eqA hr.units) (pv 0) (pe_glob (v := .ref T.f_BLANK) rfl T.m_BLANK rfl) (nomark _)) (pw_or1 (pt_cmpR (op_eqA hr.units) (pv 1) (pe_glob (v := .ref T.f_BLANK) rfl T.m_BLANK rfl) (nomark _))))) (pss_one (ps_ret pe_bl)) pss_nil)
    (pss_one (ps_ret (pe_cmpR (op_eqA hr.units) (pe_slice sl_tupA (pv 0) (po_some (pe_un un_neg pe_int)) po_none) (pe_tup (pa_cons (pe_op op_sub (pe_ix ix_seq (pv 1) (pe_un un_neg pe_int) (fun _ _ => rfl)) pe_int) (pa_cons (pe_op op_addA (pe_ix ix_seq (pv 1) (pe_un un_neg pe_int) (fun _ _ => rfl)) pe_int) pa_nil))) (nomark _))))), ?_⟩
  have Z := S.init (B := []) hs hd ["part", "later"]
  unfold aheadB at q
  cases hx : isB x with
  | true =>
    rw [hx] at q
    apply q_whenT Z
    exact b_or (y := isB y) (b_blank T (r := x) (by walk_at "dv") ox) fun _ => b_blank T (r := y) (by walk_at "dv") oy
    rw [hx]; rfl
    intro b2 h2 F Z
    exact s_ret Z (by walk_at "dv") q
  | false =>
    cases hy : isB y with
    | true =>
      rw [hx, hy] at q
      apply q_whenT Z
      exact b_or (y := isB y) (b_blank T (r := x) (by walk_at "dv") ox) fun _ => b_blank T (r := y) (by walk_at "dv") oy
      rw [hx, hy]; rfl
      intro b2 h2 F Z
      exact s_ret Z (by walk_at "dv") q
    | false =>
      rw [hx, hy] at q
      apply q_whenF Z
      exact b_or (y := isB y) (b_blank T (r := x) (by walk_at "dv") ox) fun _ => b_blank T (r := y) (by walk_at "dv") oy
      rw [hx, hy]; rfl
      intro b2 h2 F Z
      refine s_retE Z (d_op (d_tail (r := x) (by walk_at "dv") hx) (d_tup (ds_cons (d_op (d_prt (r := y) (by walk_at "dv") hy) (d_int 1) rv_subI) (ds_cons (d_op (d_lft (r := y) (by walk_at "dv") hy) (d_int 1) rv_addI) ds_nil)) (show 2 ≤ 100000 by decide)) (rv_eqAD (sh_pair _ _) (sh_pair _ _))) ?_ q
      rw [eqv_pair]
      rfl
def allAhead (rs : List Rc) (f m : Nat) : Bool := ((List.range m).map fun i => aheadB (rg rs (f + i)) (rg rs (f + i + 1))).all id
def firstN (rs : List Rc) (at' : Nat) : Nat := at' - min (pR (rg rs at')).toNat at'
def firstF (rs : List Rc) (at' : Nat) : Option Nat :=
  if (isB (rg rs at') || !decide (lR (rg rs at') = 0)) = true then none else if allAhead rs (firstN rs at') (at' - firstN rs at') = true then some (firstN rs at') else none
def optN : Option Nat → PyData
  | some i => .int (i : Int)
  | none => .none
theorem okR_nn {r : Rc} (h : okR r) : 0 ≤ pR r ∧ pR r ≤ 1000 ∧ 0 ≤ lR r ∧ lR r ≤ 1000 := by
  cases r with
  | blank => exact ⟨by decide, by decide, by decide, by decide⟩
  | put k w p l => exact h.2.2.2.2
  | drop k p l => exact h.2.2
def onI (g : Nat → Bool) : PyData → PyData
  | .int i => .bool (g i.toNat)
  | _ => .none
theorem rng_onI (f m : Nat) (g : Nat → Bool) : ((rng (f : Int) m).filter fun _ => true).map (onI g) = ((List.range m).map fun i => g (f + i)).map PyData.bool := by
  rw [filt]
  unfold rng
  rw [List.map_map, List.map_map]
  refine List.map_congr_left fun i _ => ?_
  show PyData.bool (g ((f : Int) + (i : Int)).toNat) = PyData.bool (g (f + i))
  have e : ((f : Int) + (i : Int)).toNat = f + i := by omega
  rw [e]
abbrev RFirst : List PyData → PyData → Prop := fun ds d => ∃ (rs : List Rc) (at' : Nat), ds = [rowD rs, .int (at' : Int)] ∧ rs.length ≤ 1000 ∧ at' < rs.length ∧ (∀ r ∈ rs, okR r) ∧ d = optN (firstF rs at')
theorem ok_first_closed (T : Txt K mg) : FnOk P w K mg base CX0 2 T.f_first_closed T.d_first_closed ["row", "at"] (spD K RFirst) := by
  refine T.F_first_closed.ok sc_first_closed (by rintro vs H Q E ⟨b, ds, d, hs, hd, ⟨rs, at', rfl, _, _, _, rfl⟩, q⟩; exact hd.length) (fun cdv A outer s H vs Q E hr h => ?_)
  obtain ⟨b, ds, d, hs, hd, ⟨rs, at', rfl, hl, hat, hok, rfl⟩, q⟩ := h
  refine ⟨_, (pss_cons (ps_if (PW.pt (pw_or (pt_cmpR (op_eqA hr.units) (pe_ix (ix_seqK (K := K) rfl) (pv 0) (pv 1) (fun _ _ => rfl)) (pe_glob (v := .ref T.f_BLANK) rfl T.m_BLANK rfl) (nomark _)) (pw_or1 (pt_cmpR (op_neA hr.units) (pe_ix (ix_seqK (K := K) rfl) (pe_ix (ix_seqK (K := K) rfl) (pv 0) (pv 1) (fun _ _ => rfl)) (pe_un un_neg pe_int) (fun _ _ => rfl)) pe_int (nomark _))))) (pss_one (ps_ret pe_non)) pss_nil)
    (pss_cons (ps_set (i := 2) sc_first_closed.nd rfl (by first | exact Or.inl rfl | exact Or.inr rfl) (pe_op op_sub (pv 1) (pe_callB (call_min2 rfl) (by rfl) T.z_min (by decide +kernel) (pa_cons (pe_ix (ix_seqK (K := K) rfl) (pe_ix (ix_seqK (K := K) rfl) (pv 0) (pv 1) (fun _ _ => rfl)) (pe_un un_neg pe_int) (fun _ _ => rfl)) (pa_cons (pv 1) pa_nil)))))
    (pss_cons (ps_if (pt_val (pe_callB (cr_all rfl) (by rfl) T.z_all (by decide +kernel) (pa_cons (pe_lc (own := [("i", 3)]) (g := gName 3) rfl sc_first_closed.nd (pi_range2 rfl T.z_range (pa_cons (pv 2) (pa_cons (pv 1) pa_nil))) (blkOk_by (N := ["row", "at", "first", "i"]) (sc := defScope s_first_closed) (by decide +kernel)) (fun _ _ _ _ _ => (pg_name (i := 3) sc_first_closed.nd rfl (by first | exact Or.inl rfl | exact Or.inr rfl))) (fun _ _ _ _ _ => pts_nil) (fun _ _ _ _ _ => (pe_call (ok_is_part_ahead T) (hr.mono (by omega)) (by rfl) T.m_is_part_ahead T.F_is_part_ahead.kp T.b_is_part_ahead .nil pass0 (pa_cons (pe_ix (ix_seqK (K := K) rfl) (pv 0) (pv 3) (fun _ _ => rfl)) (pa_cons (pe_ix (ix_seqK (K := K) rfl) (pv 0) (pe_op (op_addAK (K := K) rfl) (pv 3) pe_int) (fun _ _ => rfl)) pa_nil))))) pa_nil))) (pss_one (ps_ret (pv 2))) pss_nil)
    (pss_one (ps_ret pe_non))))), ?_⟩
  have Z := S.init (B := []) hs hd ["row", "at", "first", "i"]
  have oa := rg_ok hok at'
  obtain ⟨p0, p1, l0, l1⟩ := okR_nn oa
  unfold firstF at q
  cases hb : isB (rg rs at') with
  | true =>
    rw [hb] at q
    apply q_whenT Z
    exact b_or (y := true) (b_blank T (d_op (by walk_at "dv") (by walk_at "dv") (rv_ixT (row_at hat))) oa) fun z => by rw [hb] at z; cases z
    rw [hb]; rfl
    intro b2 h2 F Z
    exact s_ret Z (by walk_at "dv") q
  | false =>
    rw [hb] at q
    by_cases hl0 : lR (rg rs at') = 0
    · rw [decide_eq_true hl0] at q
      apply q_whenF Z
      exact b_or (b_blank T (d_op (by walk_at "dv") (by walk_at "dv") (rv_ixT (row_at hat))) oa) fun _ => b_test (d_op (d_lft (d_op (by walk_at "dv") (by walk_at "dv") (rv_ixT (row_at hat))) hb) (d_int 0) rv_neAI)
      rw [hb, decide_eq_true hl0]; rfl
      intro b2 h2 F Z
      have ef : (at' : Int) - min (pR (rg rs at')) (at' : Int) = ((firstN rs at' : Nat) : Int) := by
        unfold firstN
        omega
      have fle : firstN rs at' ≤ at' := by unfold firstN; omega
      refine q_asg Z (EvD.is (d_op (by walk_at "dv") (d_cb (ds_cons (d_prt (d_op (by walk_at "dv") (by walk_at "dv") (rv_ixT (row_at hat))) hb) (ds_cons (by walk_at "dv") ds_nil)) rc_min) rv_subI) (congrArg PyData.int ef)) fun σ b2 h2 F Z => ?_
      have em : ((at' : Int) - ((firstN rs at' : Nat) : Int)).toNat = at' - firstN rs at' := by omega
      have at1 : ∀ m : Nat, firstN rs at' + m < at' → atI (rs.map dR) (((firstN rs at' : Nat) : Int) + (m : Int)) = some (dR (rg rs (((firstN rs at' : Nat) : Int) + (m : Int)).toNat)) := fun m hm => by
        have e1 : ((firstN rs at' : Nat) : Int) + (m : Int) = ((((firstN rs at' : Nat) : Int) + (m : Int)).toNat : Int) := by omega
        conv => lhs; rw [e1]
        exact row_at (by omega)
      have at2 : ∀ m : Nat, firstN rs at' + m < at' → atI (rs.map dR) (((firstN rs at' : Nat) : Int) + (m : Int) + 1) = some (dR (rg rs ((((firstN rs at' : Nat) : Int) + (m : Int)).toNat + 1))) := fun m hm => by
        have e1 : ((firstN rs at' : Nat) : Int) + (m : Int) + 1 = (((((firstN rs at' : Nat) : Int) + (m : Int)).toNat + 1 : Nat) : Int) := by omega
        conv => lhs; rw [e1]
        exact row_at (by omega)
      cases ha : allAhead rs (firstN rs at') (at' - firstN rs at') with
      | true =>
        rw [ha] at q
        apply q_whenT Z
        exact b_B (d_cb (ds_cons (EvD.is (d_lcR2 (n := 3) (vs := [3]) (lo := ((firstN rs at' : Nat) : Int)) (k := (at' : Int)) (fun _ => true) (onI fun i => aheadB (rg rs i) (rg rs (i + 1))) Z.sl (by walk_at "dv") (by omega) ⟨by omega, by omega, by omega, by omega⟩ (fun x => wipe1) fun m σ3 b3 hm e Sl => ⟨b_yes, fun _ => d_call (ds_cons (d_op (d_var Sl rfl) (d_var Sl rfl) (rv_ixT (at1 m (by omega)))) (ds_cons (d_op (d_var Sl rfl) (d_op (d_var Sl rfl) (d_int 1) rv_addI) (rv_ixT (at2 m (by omega)))) ds_nil)) ⟨rg rs (((firstN rs at' : Nat) : Int) + (m : Int)).toNat, rg rs ((((firstN rs at' : Nat) : Int) + (m : Int)).toNat + 1), rfl, rg_ok hok _, rg_ok hok _, rfl⟩⟩) (congrArg PyData.list (by rw [em]; exact rng_onI _ _ _))) ds_nil) rc_all)
        exact ha
        intro b3 h3 F Z
        exact s_ret Z (by walk_at "dv") q
      | false =>
        rw [ha] at q
        apply q_whenF Z
        exact b_B (d_cb (ds_cons (EvD.is (d_lcR2 (n := 3) (vs := [3]) (lo := ((firstN rs at' : Nat) : Int)) (k := (at' : Int)) (fun _ => true) (onI fun i => aheadB (rg rs i) (rg rs (i + 1))) Z.sl (by walk_at "dv") (by omega) ⟨by omega, by omega, by omega, by omega⟩ (fun x => wipe1) fun m σ3 b3 hm e Sl => ⟨b_yes, fun _ => d_call (ds_cons (d_op (d_var Sl rfl) (d_var Sl rfl) (rv_ixT (at1 m (by omega)))) (ds_cons (d_op (d_var Sl rfl) (d_op (d_var Sl rfl) (d_int 1) rv_addI) (rv_ixT (at2 m (by omega)))) ds_nil)) ⟨rg rs (((firstN rs at' : Nat) : Int) + (m : Int)).toNat, rg rs ((((firstN rs at' : Nat) : Int) + (m : Int)).toNat + 1), rfl, rg_ok hok _, rg_ok hok _, rfl⟩⟩) (congrArg PyData.list (by rw [em]; exact rng_onI _ _ _))) ds_nil) rc_all)
        exact ha
        intro b3 h3 F Z
        exact s_ret Z (by walk_at "dv") q
    · rw [decide_eq_false hl0] at q
      apply q_whenT Z
      exact b_or (b_blank T (d_op (by walk_at "dv") (by walk_at "dv") (rv_ixT (row_at hat))) oa) fun _ => b_test (d_op (d_lft (d_op (by walk_at "dv") (by walk_at "dv") (rv_ixT (row_at hat))) hb) (d_int 0) rv_neAI)
      rw [hb, decide_eq_false hl0]; rfl
      intro b2 h2 F Z
      exact s_ret Z (by walk_at "dv") q
end
end LW

namespace LW
open PySem L2 DV
local macro_rules | `(tactic| walk_at "dv") => `(tactic| first
  | exact d_int _ | exact d_str _ | exact d_bl _ | exact d_non
  | (apply d_varZ (by assumption); rfl)
  | (apply d_var (by assumption); rfl)
  | exact ds_nil
  | (apply ds_cons; walk_at "dv"; walk_at "dv")
  | (apply d_op; walk_at "dv"; walk_at "dv"; walk_at "rv")
  | (apply d_tup; walk_at "dv"; (simp only [List.length]; omega))
  | (apply d_lst; walk_at "dv"; (simp only [List.length]; omega))
  | (apply d_neg; walk_at "dv")
  | (apply d_notV; walk_at "dv")
  | (apply d_isi; walk_at "dv"; rfl)
  | (apply d_isi2; walk_at "dv"; rfl; rfl)
  | (apply d_cb; walk_at "dv"; walk_at "rc")
  | (apply d_andV; walk_at "dv"; (intro _; walk_at "dv"))
  | (apply d_orV; walk_at "dv"; (intro _; walk_at "dv"))
  | (apply d_chain; walk_at "dv"; walk_at "dv"; walk_at "dv"; walk_at "rv"; walk_at "rv")
  | (apply b_and; walk_at "dv"; (intro _; walk_at "dv"))
  | (apply b_or; walk_at "dv"; (intro _; walk_at "dv"))
  | (apply b_test; walk_at "dv")
  | (apply b_B; walk_at "dv")
  | (apply b_not; walk_at "dv")
  | exact b_yes)
local macro_rules | `(tactic| walk_at "rv") => `(tactic| first
  | exact rv_addI | exact rv_subI | exact rv_ltI | exact rv_leI | exact rv_gtI | exact rv_geI
  | exact rv_eqAI | exact rv_eqAB | exact rv_neAI | exact rv_neAB | exact rv_eqAS | exact rv_eqAN
  | exact rv_ixT rfl | exact rv_ixL rfl
  | (apply rv_modI; first | assumption | decide | omega)
  | (apply rv_divI; (first | assumption | decide | omega); (first | assumption | decide | omega))
  | (apply rv_mulI; (first | assumption | decide | omega); (first | assumption | decide | omega)))
local macro_rules | `(tactic| walk_at "rc") => `(tactic| first
  | exact rc_lenL | exact rc_lenT | exact rc_max | exact rc_min | exact rc_int | exact rc_intB | exact rc_tupL | exact rc_tupT | exact rc_listT | exact rc_listL | exact rc_abs)

local macro_rules | `(tactic| walk_at "rv") => `(tactic| first | exact rv_addIB)
local macro_rules | `(tactic| walk_at "dv") => `(tactic| first
  | (apply d_slTh; walk_at "dv"; walk_at "dv"; rfl)
  | (apply d_slTl; walk_at "dv"; walk_at "dv"; rfl)
  | (apply d_slTb; walk_at "dv"; walk_at "dv"; walk_at "dv"; rfl)
  | (apply d_slLh; walk_at "dv"; walk_at "dv"; rfl)
  | (apply d_slLl; walk_at "dv"; walk_at "dv"; rfl))

def partsFrom (rs : List Rc) (f at' : Nat) : List PyData := ((rs.drop f).take (at' + 1 - f)).map sgD
def closedEl (rs : List Rc) (at' : Nat) : Option PyData := (firstF rs at').map fun f => .tuple [.int (at' : Int), .tuple (partsFrom rs f at')]
def closedL (rs : List Rc) (n : Nat) : List PyData := (List.range n).filterMap (closedEl rs)
theorem closed_step (rs : List Rc) (n : Nat) : closedL rs (n + 1) = closedL rs n ++ (closedEl rs n).toList := by
  unfold closedL
  rw [List.range_succ, List.filterMap_append]
  congr 1
theorem closed_len (rs : List Rc) (n : Nat) : (closedL rs n).length ≤ n := by
  unfold closedL
  exact Nat.le_trans (List.length_filterMap_le _ _) (by rw [List.length_range]; exact Nat.le_refl _)
theorem firstF_le {rs : List Rc} {n f : Nat} (h : firstF rs n = some f) : f ≤ n := by
  unfold firstF at h
  split at h
  · cases h
  · split at h
    · cases h
      unfold firstN
      omega
    · cases h
def onSg : PyData → PyData := fun d => .tuple (match d with | .tuple xs => cutD xs none (some (-2)) | _ => [])
theorem onSg_dR (r : Rc) : onSg (dR r) = sgD r := by cases r <;> rfl
theorem cut_row (rs : List Rc) {f at' : Nat} (h1 : f ≤ at') (h2 : at' < rs.length) : cutD (rs.map dR) (some (f : Int)) (some ((at' : Int) + 1)) = ((rs.drop f).take (at' + 1 - f)).map dR := by
  unfold cutD
  have e1 : HT.sIx (rs.map dR).length 0 (some (f : Int)) = f := by
    rw [List.length_map, HT.sIx_nat]; omega
  have e2 : HT.sIx (rs.map dR).length (rs.map dR).length (some ((at' : Int) + 1)) = at' + 1 := by
    have : ((at' : Int) + 1) = ((at' + 1 : Nat) : Int) := by omega
    rw [this, List.length_map, HT.sIx_nat]; omega
  rw [e1, e2, ← List.map_drop, ← List.map_take]
section
variable {P : Program} {w : World} {K : PySem.W.Frag} {mg : Str → Option Value} {base : Heap}
/-- a row, tuples or lists -/
def rowOf (x : PyData) (rs : List Rc) : Prop := fine 6 x = true ∧ tupN 6 x = rowD rs
abbrev RIsRecords : List PyData → PyData → Prop := fun ds d => ∃ rs : List Rc, ds = [rowD rs] ∧ rs.length ≤ 90000 ∧ (∀ r ∈ rs, okR r) ∧ d = .bool true
theorem d_row {σ : St} {b : Hp} {te : TE} {x : PyData} {rs : List Rc} {g : Addr} {E : XK} (h : EvD K te σ b x) (o : rowOf x rs) (hl : rs.length ≤ 1000) (ho : ∀ r ∈ rs, okR r) : EvD K (tCall (spSuch K g RIsRecords) [] E (tCons (tC (.ref g)) (tCons te tNil))) σ b (rowD rs) :=
  (d_such h o.1 ⟨rs, by rw [o.2], by omega, ho, rfl⟩).is o.2
abbrev RClosed : List PyData → PyData → Prop := fun ds d => ∃ (x : PyData) (rs : List Rc), ds = [x] ∧ rowOf x rs ∧ rs.length ≤ 1000 ∧ (∀ r ∈ rs, okR r) ∧ d = .list (closedL rs rs.length)
theorem ok_closed_in (T : Txt K mg) : FnOk P w K mg base CX0 9 T.f_closed_in T.d_closed_in ["records"] (spD K RClosed) := by
  refine T.F_closed_in.ok sc_closed_in (by rintro vs H Q E ⟨b, ds, d, hs, hd, ⟨x, rs, rfl, _⟩, q⟩; exact hd.length) (fun cdv A outer s H vs Q E hr h => ?_)
  obtain ⟨b00, ds, d, hs, hd, ⟨x, rs, rfl, o, hl, hok, rfl⟩, q⟩ := h
  refine ⟨_, (pss_cons (ps_set (i := 1) sc_closed_in.nd rfl (by first | exact Or.inl rfl | exact Or.inr rfl) (pe_call (ok_checked T (ok_is_records T) (by omega) T.F_is_records.kp T.b_is_records) (hr.mono (by omega)) (by rfl) T.m_checked T.F_checked.kp T.b_checked .nil pass0 (pa_cons (pe_glob (v := .ref T.f_is_records) rfl T.m_is_records rfl) (pa_cons (pv 0) pa_nil))))
    (pss_cons (ps_set (i := 2) sc_closed_in.nd rfl (by first | exact Or.inl rfl | exact Or.inr rfl) (pe_lst pa_nil))
    (pss_cons (ps_for PassesOwn.never rfl (pi_range1 rfl T.z_range (pa_cons (pe_callB call_len (by rfl) T.z_len (by decide +kernel) (pa_cons (pv 1) pa_nil)) pa_nil)) (pg_name (i := 3) sc_closed_in.nd rfl (by first | exact Or.inl rfl | exact Or.inr rfl)) (pss_cons (ps_set (i := 4) sc_closed_in.nd rfl (by first | exact Or.inl rfl | exact Or.inr rfl) (pe_call (ok_first_closed T) (hr.mono (by omega)) (by rfl) T.m_first_closed T.F_first_closed.kp T.b_first_closed .nil pass0 (pa_cons (pv 1) (pa_cons (pv 3) pa_nil))))
    (pss_one (ps_if (pt_cmpR op_notN (pv 4) pe_non (nomark _)) (pss_one (ps_expr (pe_bm PySem.F.plainAttrs_list PySem.F.slot_list_append PySem.F.type_list_append mt_append (pv 2) (pa_cons (pe_tup (pa_cons (pv 3) (pa_cons (pe_callTy call_tuple_of (by rfl) T.z_tuple (by decide +kernel) (pa_cons (pe_lc (own := [("part", 5)]) (g := gName 5) rfl sc_closed_in.nd (pi_tup (pe_slice (sl_tupAK (K := K) rfl) (pv 1) (po_some (pv 4)) (po_some (pe_op (op_addAK (K := K) rfl) (pv 3) pe_int)))) (blkOk_by (N := ["records", "row", "closed", "at", "first", "part"]) (sc := defScope s_closed_in) (by decide +kernel)) (fun _ _ _ _ _ => (pg_name (i := 5) sc_closed_in.nd rfl (by first | exact Or.inl rfl | exact Or.inr rfl))) (fun _ _ _ _ _ => pts_nil) (fun _ _ _ _ _ => (pe_slice (sl_tupAK (K := K) rfl) (pv 5) po_none (po_some (pe_un un_neg pe_int))))) pa_nil)) pa_nil))) pa_nil)))) pss_nil))))
    (pss_one (ps_ret (pv 2)))))), ?_⟩
  have Z := S.init (B := []) hs hd ["records", "row", "closed", "at", "first", "part"]
  refine q_asg Z (d_row (rs := rs) (by walk_at "dv") o hl hok) fun σ b h F Z1 => ?_
  refine q_new Z1 fun p σ h2 hp hbp hhp Fp Z => ?_
  have hp0 := Z1.new0 hp
  refine q_forR1 Z (m := ((rs.map dR).length : Int)) (ds_cons (d_cb (ds_cons (d_varZ Z rfl) ds_nil) rc_lenT) ds_nil) ⟨by omega, by rw [List.length_map]; omega⟩ (fun i σ h => ∃ b1 xs z3 z4 z5, S K [] b00 H σ b1 h [.dat x, .dat (rowD rs), .adr p, z3, z4, z5] ∧ b1 p = none ∧ h p = some (.lst xs) ∧ DaAll K b1 xs (closedL rs i)) (fun b2 h2 F Z2 => ?_) (fun i σ h hi hP => ?_) (fun σ h hP => ?_)
  · exact ⟨b2, [], _, _, _, Z2, F.out p hbp (by rw [hhp]; rfl), F.keep p _ hbp (by intro q; cases q) hhp, .nil⟩
  · obtain ⟨b1, xs, z3, z4, z5, Z, hb1, hx, hD⟩ := hP
    have hi' : i < rs.length := by rw [List.length_map] at hi; omega
    rw [Int.zero_add]
    have Z : S K [] b00 H (σ.set 3 (some (.int (i : Int)))) b1 h [.dat x, .dat (rowD rs), .adr p, .dat (.int (i : Int)), z4, z5] := ⟨Z.fr, Z.sl.set (z := .dat (.int (i : Int))) ⟨_, rfl, .int _⟩ 3⟩
    refine q_asg Z (d := optN (firstF rs i)) (d_call (ds_cons (by walk_at "dv") (ds_cons (by walk_at "dv") ds_nil)) ⟨rs, i, rfl, hl, hi', hok, rfl⟩) fun σ b h2 F Z => ?_
    obtain ⟨hx, hb1'⟩ := keepL hx hb1 F
    have hD := hD.mono F.base
    cases hf : firstF rs i with
    | none =>
      rw [hf] at Z
      apply s_whenF Z
      exact b_test (d_op (d1 := .none) (by walk_at "dv") d_non (rv_isNot (c := true) fun b v h => by cases h; rfl))
      rfl
      intro b3 h3 F Z
      obtain ⟨hx, hb3⟩ := keepL hx hb1' F
      refine ⟨b3, xs, _, _, _, Z, hb3, hx, ?_⟩
      have e : closedL rs (i + 1) = closedL rs i := by
        rw [closed_step]; unfold closedEl; rw [hf]; simp
      rw [e]
      exact hD.mono F.base
    | some f =>
      rw [hf] at Z
      have hfi := firstF_le hf
      apply s_whenT Z
      exact b_test (d_op (d1 := .int (f : Int)) (by walk_at "dv") d_non (rv_isNot (c := false) fun b v h => by cases h; rfl))
      rfl
      intro b3 h3 F Z
      obtain ⟨hx, hb3⟩ := keepL hx hb1' F
      have hD := hD.mono F.base
      refine s_app Z rfl hb3 (.inr hp0) hx (by rw [hD.length]; exact Nat.lt_of_le_of_lt (closed_len _ _) (by omega)) (d := .tuple [.int (i : Int), .tuple (partsFrom rs f i)]) (d_tup (ds_cons (by walk_at "dv") (ds_cons (d_cb (ds_cons (EvD.is (d_lcT (ds := ((rs.drop f).take (i + 1 - f)).map dR) (fun _ => true) onSg Z.sl (d_slTb (ds := rs.map dR) (d_varZ Z rfl) (d_varZ Z rfl) (d_op (d_varZ Z rfl) (d_int 1) rv_addI) (congrArg PyData.tuple (cut_row rs hfi hi'))) ?_ (fun x => wipe1) fun m d σ2 b2 hm e Sl => ⟨b_yes, fun _ => ?_⟩) (congrArg PyData.list ?_)) ds_nil) rc_tupL) ds_nil)) (show 2 ≤ 100000 by decide)) fun v b2 h2 h4 F4 dd hb2 hx3 F3 Z => ?_
      · rw [List.length_map, List.length_take]; omega
      · obtain ⟨r, hr, rfl⟩ := List.mem_map.mp (List.mem_of_getElem? hm)
        rw [onSg_dR]
        exact d_sg (d_var Sl rfl)
      · rw [filt, List.map_map]
        unfold partsFrom
        exact List.map_congr_left fun r _ => onSg_dR r
      · refine ⟨b2, xs ++ [v], _, _, _, Z, hb2, hx3, ?_⟩
        have e : closedL rs (i + 1) = closedL rs i ++ [.tuple [.int (i : Int), .tuple (partsFrom rs f i)]] := by
          rw [closed_step]; unfold closedEl; rw [hf]; rfl
        rw [e]
        exact (hD.mono F4.base).append (.cons dd .nil)
  · obtain ⟨b1, xs, z3, z4, z5, Z, hb1, hx, hD⟩ := hP
    have e : ((rs.map dR).length : Int).toNat = rs.length := by rw [List.length_map]; omega
    rw [e] at hD
    obtain ⟨Z2, dd⟩ := Z.seal hb1 hp0 hx hD
    have Z3 := Z2.turn (n := 2) rfl dd
    exact s_ret Z3 (by walk_at "dv") q
end
end LW

namespace LW
open PySem L2 DV
local macro_rules | `(tactic| walk_at "dv") => `(tactic| first
  | exact d_int _ | exact d_str _ | exact d_bl _ | exact d_non
  | (apply d_varZ (by assumption); rfl)
  | (apply d_var (by assumption); rfl)
  | exact ds_nil
  | (apply ds_cons; walk_at "dv"; walk_at "dv")
  | (apply d_op; walk_at "dv"; walk_at "dv"; walk_at "rv")
  | (apply d_tup; walk_at "dv"; (simp only [List.length]; omega))
  | (apply d_lst; walk_at "dv"; (simp only [List.length]; omega))
  | (apply d_neg; walk_at "dv")
  | (apply d_notV; walk_at "dv")
  | (apply d_isi; walk_at "dv"; rfl)
  | (apply d_isi2; walk_at "dv"; rfl; rfl)
  | (apply d_cb; walk_at "dv"; walk_at "rc")
  | (apply d_andV; walk_at "dv"; (intro _; walk_at "dv"))
  | (apply d_orV; walk_at "dv"; (intro _; walk_at "dv"))
  | (apply d_chain; walk_at "dv"; walk_at "dv"; walk_at "dv"; walk_at "rv"; walk_at "rv")
  | (apply b_and; walk_at "dv"; (intro _; walk_at "dv"))
  | (apply b_or; walk_at "dv"; (intro _; walk_at "dv"))
  | (apply b_test; walk_at "dv")
  | (apply b_B; walk_at "dv")
  | (apply b_not; walk_at "dv")
  | exact b_yes)
local macro_rules | `(tactic| walk_at "rv") => `(tactic| first
  | exact rv_addI | exact rv_subI | exact rv_ltI | exact rv_leI | exact rv_gtI | exact rv_geI
  | exact rv_eqAI | exact rv_eqAB | exact rv_neAI | exact rv_neAB | exact rv_eqAS | exact rv_eqAN
  | exact rv_ixT rfl | exact rv_ixL rfl
  | (apply rv_modI; first | assumption | decide | omega)
  | (apply rv_divI; (first | assumption | decide | omega); (first | assumption | decide | omega))
  | (apply rv_mulI; (first | assumption | decide | omega); (first | assumption | decide | omega)))
local macro_rules | `(tactic| walk_at "rc") => `(tactic| first
  | exact rc_lenL | exact rc_lenT | exact rc_max | exact rc_min | exact rc_int | exact rc_intB | exact rc_tupL | exact rc_tupT | exact rc_listT | exact rc_listL | exact rc_abs)

local macro_rules | `(tactic| walk_at "rv") => `(tactic| first | exact rv_addIB)
local macro_rules | `(tactic| walk_at "dv") => `(tactic| first
  | (apply d_slTh; walk_at "dv"; walk_at "dv"; rfl)
  | (apply d_slTl; walk_at "dv"; walk_at "dv"; rfl)
  | (apply d_slTb; walk_at "dv"; walk_at "dv"; walk_at "dv"; rfl)
  | (apply d_slLh; walk_at "dv"; walk_at "dv"; rfl)
  | (apply d_slLl; walk_at "dv"; walk_at "dv"; rfl))

/-- from index f down, as long as each is the part ahead of the next -/
def downF (rs : List Rc) : Nat → Nat
  | 0 => 0
  | f + 1 => if aheadB (rg rs f) (rg rs (f + 1)) = true then downF rs f else f + 1
theorem downF_le (rs : List Rc) : ∀ f, downF rs f ≤ f
  | 0 => Nat.le_refl _
  | f + 1 => by
    unfold downF
    split
    · exact Nat.le_succ_of_le (downF_le rs f)
    · exact Nat.le_refl _
def trailB (rs : List Rc) : Bool := decide (rs.length = 0) || (isB (rg rs (rs.length - 1)) || decide (lR (rg rs (rs.length - 1)) = 0))
def trailN (rs : List Rc) : Nat := if trailB rs = true then 0 else rs.length - downF rs (rs.length - 1)
section
variable {P : Program} {w : World} {K : PySem.W.Frag} {mg : Str → Option Value} {base : Heap}
abbrev RLeft : List PyData → PyData → Prop := fun ds d => ∃ (x : PyData) (rs : List Rc), ds = [x] ∧ rowOf x rs ∧ rs.length ≤ 1000 ∧ (∀ r ∈ rs, okR r) ∧ d = .int ((trailN rs : Nat) : Int)
theorem ok_left_begun (T : Txt K mg) : FnOk P w K mg base CX0 9 T.f_left_begun T.d_left_begun ["records"] (spD K RLeft) := by
  refine T.F_left_begun.ok sc_left_begun (by rintro vs H Q E ⟨b, ds, d, hs, hd, ⟨x, rs, rfl, _⟩, q⟩; exact hd.length) (fun cdv A outer s H vs Q E hr h => ?_)
  obtain ⟨b00, ds, d, hs, hd, ⟨x, rs, rfl, o, hl, hok, rfl⟩, q⟩ := h
  refine ⟨_, (pss_cons (ps_set (i := 1) sc_left_begun.nd rfl (by first | exact Or.inl rfl | exact Or.inr rfl) (pe_call (ok_checked T (ok_is_records T) (by omega) T.F_is_records.kp T.b_is_records) (hr.mono (by omega)) (by rfl) T.m_checked T.F_checked.kp T.b_checked .nil pass0 (pa_cons (pe_glob (v := .ref T.f_is_records) rfl T.m_is_records rfl) (pa_cons (pv 0) pa_nil))))
    (pss_cons (ps_if (PW.pt (pw_or (pt_cmpR (op_eqA hr.units) (pe_callB call_len (by rfl) T.z_len (by decide +kernel) (pa_cons (pv 1) pa_nil)) pe_int (nomark _)) (pw_or (pt_cmpR (op_eqA hr.units) (pe_ix (ix_seqK (K := K) rfl) (pv 1) (pe_un un_neg pe_int) (fun _ _ => rfl)) (pe_glob (v := .ref T.f_BLANK) rfl T.m_BLANK rfl) (nomark _)) (pw_or1 (pt_cmpR (op_eqA hr.units) (pe_ix (ix_seqK (K := K) rfl) (pe_ix (ix_seqK (K := K) rfl) (pv 1) (pe_un un_neg pe_int) (fun _ _ => rfl)) (pe_un un_neg pe_int) (fun _ _ => rfl)) pe_int (nomark _)))))) (pss_one (ps_ret pe_int)) pss_nil)
    (pss_cons (ps_set (i := 2) sc_left_begun.nd rfl (by first | exact Or.inl rfl | exact Or.inr rfl) (pe_op op_sub (pe_callB call_len (by rfl) T.z_len (by decide +kernel) (pa_cons (pv 1) pa_nil)) pe_int))
    (pss_cons (ps_while PassesOwn.never (PW.pt (pw_and (pt_cmpR op_gt (pv 2) pe_int (nomark _)) (pw_and1 (pt_val (pe_call (ok_is_part_ahead T) (hr.mono (by omega)) (by rfl) T.m_is_part_ahead T.F_is_part_ahead.kp T.b_is_part_ahead .nil pass0 (pa_cons (pe_ix (ix_seqK (K := K) rfl) (pv 1) (pe_op op_sub (pv 2) pe_int) (fun _ _ => rfl)) (pa_cons (pe_ix (ix_seqK (K := K) rfl) (pv 1) (pv 2) (fun _ _ => rfl)) pa_nil))))))) (pss_one (ps_aug (i := 2) sc_left_begun.nd rfl (by first | exact Or.inl rfl | exact Or.inr rfl) pe_int ip_sub)))
    (pss_one (ps_ret (pe_op op_sub (pe_callB call_len (by rfl) T.z_len (by decide +kernel) (pa_cons (pv 1) pa_nil)) (pv 2)))))))), ?_⟩
  have Z := S.init (B := []) hs hd ["records", "row", "first"]
  refine q_asg Z (d_row (rs := rs) (by walk_at "dv") o hl hok) fun σ b h F Z => ?_
  have hlen : ∀ {σ b Δ B b0 h0 h}, S K B b0 h0 σ b h Δ → Δ[1]? = some (.dat (rowD rs)) → EvD K (tCB _ (tCons (tVar 1) tNil)) σ b (.int (rs.length : Int)) := fun Z e => EvD.is (d_cb (ds_cons (d_varZ Z e) ds_nil) (rc_lenT (ds := rs.map dR))) (by rw [List.length_map])
  have test : ∀ (y : Bool), (decide (rs.length = 0)) = y → EvB (tTest (tOp (rEqA K) (tCB (fun xs H Q => ∃ x n, xs = [x] ∧ LenV K x H n ∧ Q (.int n) H) (tCons (tVar 1) tNil)) (tC (.int 0)))) σ b (decide (rs.length = 0)) := fun y _ => EvB.is (b_test (d_op (hlen Z rfl) (d_int 0) rv_eqAI)) (by
    by_cases h0 : rs.length = 0
    · rw [decide_eq_true h0, decide_eq_true (by omega)]
    · rw [decide_eq_false h0, decide_eq_false (by omega)])
  have big : EvB (tOr (tTest (tOp (rEqA K) (tCB (fun xs H Q => ∃ x n, xs = [x] ∧ LenV K x H n ∧ Q (.int n) H) (tCons (tVar 1) tNil)) (tC (.int 0)))) (tOr (tTest (tOp (rEqA K) (tOp (rIx K) (tVar 1) (tNum 1)) (tC (.ref T.f_BLANK)))) (tTest (tOp (rEqA K) (tOp (rIx K) (tOp (rIx K) (tVar 1) (tNum 1)) (tNum 1)) (tC (.int 0)))))) σ b (trailB rs) := by
    refine b_or (test _ rfl) fun hne => ?_
    have hn := of_decide_eq_false hne
    have e1 : EvD K (tOp (rIx K) (tVar 1) (tNum 1)) σ b (dR (rg rs (rs.length - 1))) := d_op (d_varZ Z rfl) (d_neg (d_int 1)) (rv_ixT (row_back (k := 1) (by omega) (by omega)))
    refine b_or (b_blank T e1 (rg_ok hok _)) fun hb => ?_
    exact b_test (d_op (d_lft e1 hb) (d_int 0) rv_eqAI)
  unfold trailN at q
  cases ht : trailB rs with
  | true =>
    rw [ht] at q big
    apply q_whenT Z
    exact big
    rfl
    intro b2 h2 F Z
    exact s_ret Z (by walk_at "dv") q
  | false =>
    rw [ht] at q big
    have ht' := ht
    unfold trailB at ht'
    rw [Bool.or_eq_false_iff] at ht'
    have hn := of_decide_eq_false ht'.1
    apply q_whenF Z
    exact big
    rfl
    intro b2 h2 F Z
    refine q_asg Z (d := .int ((rs.length - 1 : Nat) : Int)) (EvD.is (d_op (hlen Z rfl) (d_int 1) rv_subI) (congrArg PyData.int (by omega))) fun σ b h F Z => ?_
    refine q_while (K := K) (B := []) (b0 := b00) (h0 := H) (fun m σ h => ∃ b, S K [] b00 H σ b h [.dat x, .dat (rowD rs), .dat (.int (m : Int))] ∧ m < rs.length ∧ downF rs m = downF rs (rs.length - 1)) (m0 := rs.length - 1) ⟨b, Z, by omega, rfl⟩ (fun m σ h hP => ?_)
    obtain ⟨b, Z, hm, hdn⟩ := hP
    by_cases h0 : 0 < m
    · have e2 : (m : Int) - 1 = ((m - 1 : Nat) : Int) := by omega
      have i1 : EvD K (tOp (rIx K) (tVar 1) (tOp (rI0 fun i j => .int (i - j)) (tVar 2) (tC (.int 1)))) σ b (dR (rg rs (m - 1))) := d_op (d_varZ Z rfl) (d_op (d_varZ Z rfl) (d_int 1) rv_subI) (rv_ixT (by rw [e2]; exact row_at (by omega)))
      have i2 : EvD K (tOp (rIx K) (tVar 1) (tVar 2)) σ b (dR (rg rs m)) := d_op (d_varZ Z rfl) (d_varZ Z rfl) (rv_ixT (row_at hm))
      refine ⟨b, _, aheadB (rg rs (m - 1)) (rg rs m), Z, EvB.is (b_and (b_test (d_op (d_varZ Z rfl) (d_int 0) rv_gtI)) fun _ => b_B (d_call (ds_cons i1 (ds_cons i2 ds_nil)) ⟨rg rs (m - 1), rg rs m, rfl, rg_ok hok _, rg_ok hok _, rfl⟩)) (by rw [decide_eq_true (by omega)]; rfl), fun ha b2 h2 F Z => ?_, fun ha b2 h2 F Z => ?_⟩
      · refine ⟨m - 1, by omega, ?_⟩
        refine s_aug Z rfl (d_int 1) fun σ b3 h3 F Z => ?_
        refine ⟨b3, ?_, by omega, ?_⟩
        · rw [← e2]; exact Z
        · rw [← hdn]
          have em : m = (m - 1) + 1 := by omega
          rw [em]
          show downF rs (m - 1) = (if aheadB (rg rs (m - 1)) (rg rs (m - 1 + 1)) = true then downF rs (m - 1) else m - 1 + 1)
          rw [← em, if_pos ha]
      · have e3 : downF rs m = m := by
          have em : m = (m - 1) + 1 := by omega
          rw [em]
          show (if aheadB (rg rs (m - 1)) (rg rs (m - 1 + 1)) = true then downF rs (m - 1) else m - 1 + 1) = m - 1 + 1
          rw [← em, ha]
          exact (em.symm ▸ rfl)
        refine s_retE Z (d_op (hlen Z rfl) (d_varZ Z rfl) rv_subI) ?_ q
        rw [← hdn, e3]
        exact congrArg PyData.int (by rw [if_neg (by decide)]; omega)
    · have em : m = 0 := by omega
      subst em
      refine ⟨b, _, false, Z, EvB.is (b_and (y := false) (b_test (d_op (d_varZ Z rfl) (d_int 0) rv_gtI)) fun z => by cases z) rfl, fun ha => (by cases ha), fun ha b2 h2 F Z => ?_⟩
      refine s_retE Z (d_op (hlen Z rfl) (d_varZ Z rfl) rv_subI) ?_ q
      rw [← hdn]
      exact congrArg PyData.int (by rw [if_neg (by decide)]; unfold downF; omega)
end
end LW

namespace LW
open PySem L2 DV
local macro_rules | `(tactic| walk_at "dv") => `(tactic| first
  | exact d_int _ | exact d_str _ | exact d_bl _ | exact d_non
  | (apply d_varZ (by assumption); rfl)
  | (apply d_var (by assumption); rfl)
  | exact ds_nil
  | (apply ds_cons; walk_at "dv"; walk_at "dv")
  | (apply d_op; walk_at "dv"; walk_at "dv"; walk_at "rv")
  | (apply d_tup; walk_at "dv"; (simp only [List.length]; omega))
  | (apply d_lst; walk_at "dv"; (simp only [List.length]; omega))
  | (apply d_neg; walk_at "dv")
  | (apply d_notV; walk_at "dv")
  | (apply d_isi; walk_at "dv"; rfl)
  | (apply d_isi2; walk_at "dv"; rfl; rfl)
  | (apply d_cb; walk_at "dv"; walk_at "rc")
  | (apply d_andV; walk_at "dv"; (intro _; walk_at "dv"))
  | (apply d_orV; walk_at "dv"; (intro _; walk_at "dv"))
  | (apply d_chain; walk_at "dv"; walk_at "dv"; walk_at "dv"; walk_at "rv"; walk_at "rv")
  | (apply b_and; walk_at "dv"; (intro _; walk_at "dv"))
  | (apply b_or; walk_at "dv"; (intro _; walk_at "dv"))
  | (apply b_test; walk_at "dv")
  | (apply b_B; walk_at "dv")
  | (apply b_not; walk_at "dv")
  | exact b_yes)
local macro_rules | `(tactic| walk_at "rv") => `(tactic| first
  | exact rv_addI | exact rv_subI | exact rv_ltI | exact rv_leI | exact rv_gtI | exact rv_geI
  | exact rv_eqAI | exact rv_eqAB | exact rv_neAI | exact rv_neAB | exact rv_eqAS | exact rv_eqAN
  | exact rv_ixT rfl | exact rv_ixL rfl
  | (apply rv_modI; first | assumption | decide | omega)
  | (apply rv_divI; (first | assumption | decide | omega); (first | assumption | decide | omega))
  | (apply rv_mulI; (first | assumption | decide | omega); (first | assumption | decide | omega)))
local macro_rules | `(tactic| walk_at "rc") => `(tactic| first
  | exact rc_lenL | exact rc_lenT | exact rc_max | exact rc_min | exact rc_int | exact rc_intB | exact rc_tupL | exact rc_tupT | exact rc_listT | exact rc_listL | exact rc_abs)

local macro_rules | `(tactic| walk_at "rv") => `(tactic| first | exact rv_addIB)
local macro_rules | `(tactic| walk_at "dv") => `(tactic| first
  | (apply d_slTh; walk_at "dv"; walk_at "dv"; rfl)
  | (apply d_slTl; walk_at "dv"; walk_at "dv"; rfl)
  | (apply d_slTb; walk_at "dv"; walk_at "dv"; walk_at "dv"; rfl)
  | (apply d_slLh; walk_at "dv"; walk_at "dv"; rfl)
  | (apply d_slLl; walk_at "dv"; walk_at "dv"; rfl))

local macro_rules | `(tactic| walk_at "dv") => `(tactic| (apply d_ixA (by assumption) rfl upd_same; walk_at "dv"; rfl; (intro _; exact .int _)))
section
variable {P : Program} {w : World} {K : PySem.W.Frag} {mg : Str → Option Value} {base : Heap}
abbrev RTake : List PyData → PyData → Prop := fun ds d => ∃ b r : Int, ds = [.int b] ∧ 0 ≤ r ∧ r < b ∧ d = .int r
abbrev PTake : List PyData → Prop := fun ds => ∃ b : Int, ds = [.int b] ∧ 0 < b ∧ b < 2 ^ 60
theorem ok__law_take (T : Txt K mg) : FnOk P w K mg base CX0 1 T.f__law_take T.d__law_take ["tin", "below_so"] (spT K 1 RTake PTake) := by
  refine T.F__law_take.ok sc__law_take (by rintro vs H Q E ⟨b, a, ws, ds, n, rfl, hs, hb, hT, hn, hd, ⟨bl, rfl, h1, h2⟩, q⟩; exact congrArg Nat.succ hd.length) (fun cdv A outer s H vs Q E hr h => ?_)
  obtain ⟨b, a, ws, ds, n, rfl, hs, hb, hT, hn, hd, ⟨bl, rfl, h1, h2⟩, q⟩ := h
  obtain ⟨x, y, z, hp, hx, hy, hz, hzn⟩ := hT
  refine ⟨_, (pss_cons (ps_if (pt_cmpR op_gt (pe_ix ix_seq (pv 0) pe_int (fun _ _ => rfl)) pe_int (nomark _)) (pss_cons (ps_set (i := 2) sc__law_take.nd rfl (by first | exact Or.inl rfl | exact Or.inr rfl) (pe_op op_mod (pe_callTy call_int1 (by rfl) T.z_int (by decide +kernel) (pa_cons (pe_ix ix_seq (pv 0) pe_int (fun _ _ => rfl)) pa_nil)) (pv 1)))
    (pss_cons (ps_asg (pe_op op_fdivW (pe_ix ix_seq (pv 0) pe_int (fun _ _ => rfl)) (pv 1)) (pg_sub (pv 0) pe_int set_list))
    (pss_one (ps_ret (pv 2))))) pss_nil)
    (pss_cons (ps_asg (pe_op op_addA (pe_ix ix_seq (pv 0) pe_int (fun _ _ => rfl)) pe_int) (pg_sub (pv 0) pe_int set_list))
    (pss_cons (ps_set (i := 3) sc__law_take.nd rfl (by first | exact Or.inl rfl | exact Or.inr rfl) (pe_op op_mod (pe_callTy call_int1 (by rfl) T.z_int (by decide +kernel) (pa_cons (pe_op op_mulA (pe_op op_addA (pe_ix ix_seq (pv 0) pe_int (fun _ _ => rfl)) (pe_op op_mulA pe_int (pe_ix ix_seq (pv 0) pe_int (fun _ _ => rfl)))) (pe_op op_addA pe_int (pe_ix ix_seq (pv 0) pe_int (fun _ _ => rfl)))) pa_nil)) pe_int))
    (pss_cons (ps_set (i := 4) sc__law_take.nd rfl (by first | exact Or.inl rfl | exact Or.inr rfl) (pe_op op_addA (pe_op op_mod (pe_callTy call_int1 (by rfl) T.z_int (by decide +kernel) (pa_cons (pv 3) pa_nil)) pe_int) pe_int))
    (pss_cons (ps_set (i := 5) sc__law_take.nd rfl (by first | exact Or.inl rfl | exact Or.inr rfl) (pe_op op_mod (pe_callTy call_int1 (by rfl) T.z_int (by decide +kernel) (pa_cons (pe_op op_mulA (pe_op op_addA (pe_op op_addA (pv 3) (pe_ix ix_seq (pv 0) pe_int (fun _ _ => rfl))) (pe_op op_fdivW (pe_ix ix_seq (pv 0) pe_int (fun _ _ => rfl)) pe_int)) (pv 4)) pa_nil)) pe_int))
    (pss_one (ps_ret (pe_op op_mod (pe_callTy call_int1 (by rfl) T.z_int (by decide +kernel) (pa_cons (pe_op op_fdivW (pe_op op_mod (pe_callTy call_int1 (by rfl) T.z_int (by decide +kernel) (pa_cons (pe_op op_addA (pe_op op_mulA (pv 5) pe_int) (pv 3)) pa_nil)) pe_int) pe_int) pa_nil)) (pv 1))))))))), ?_⟩
  cases hd with
  | cons hx0 hn0 =>
    cases hn0
    cases hx0
    have hbl : bl.natAbs < 2 ^ 200 := by
      have : bl.natAbs < 2 ^ 60 := by omega
      exact Nat.lt_of_lt_of_le this (by decide)
    have hn9 : n + 1 ≤ 1000000000 := hn
    have Z : S K [a] b H (start ["tin", "below_so", "drawn", "once_so", "wide_so", "twice_so"] [.ref a, .int bl]) b H [.adr a, .dat (.int bl), .un, .un, .un, .un] := ⟨Fr.rfl' hs, .cons rfl (.cons ⟨_, rfl, .int bl⟩ (.cons True.intro (.cons True.intro (.cons True.intro (.cons True.intro .nil)))))⟩
    have Sl := sl_box Z hb hp
    refine q_ifB (c := decide (0 < x)) Z hb hp (by walk_at "dv") (fun hc h2 Z hp => ?_) (fun hc h2 Z hp => ?_)
    · have Sl := sl_box Z hb hp
      refine q_asgB (i := x % bl) Z hb hp (by walk_at "dv") fun σ2 h2 Z hp => ?_
      have Sl := sl_box Z hb hp
      refine q_setB (i := x / bl) (m := 0) Z rfl hb (.inl (List.mem_cons_self ..)) hp (by walk_at "dv") (show 0 < 3 by decide) fun h2 Z hp => ?_
      have Sl := sl_box Z hb hp
      refine s_retB (i := x % bl) Z hb hp (by walk_at "dv") fun h2 Z hp => ?_
      exact q _ (.int (x % bl)) b h2 ⟨bl, _, rfl, Int.emod_nonneg _ (by omega), Int.emod_lt_of_pos _ h1, rfl⟩ Z.fr hb ⟨x / bl, y, z, hp, Int.ediv_nonneg hx (by omega), hy, hz, by omega⟩ (.int _)
    · have Sl := sl_box Z hb hp
      refine q_setB (i := z + 1) (m := 2) Z rfl hb (.inl (List.mem_cons_self ..)) hp (by walk_at "dv") (show 2 < 3 by decide) fun h2 Z hp => ?_
      have Sl := sl_box Z hb hp
      have yb : -(2 ^ 70) < y ∧ y < 2 ^ 70 := by omega
      have m1 : (z + 1).natAbs < 2 ^ 200 := by
        have : (z + 1).natAbs < 2 ^ 60 := by omega
        exact Nat.lt_of_lt_of_le this (by decide)
      have m2 : (y + 48271 * (z + 1)).natAbs < 2 ^ 200 := by
        have : (y + 48271 * (z + 1)).natAbs < 2 ^ 80 := by omega
        exact Nat.lt_of_lt_of_le this (by decide)
      have m3 : (39373 + (z + 1)).natAbs < 2 ^ 200 := by
        have : (39373 + (z + 1)).natAbs < 2 ^ 60 := by omega
        exact Nat.lt_of_lt_of_le this (by decide)
      refine q_asgBP (fun i => 0 ≤ i ∧ i < 2147483647) Z hb hp (i := (y + 48271 * (z + 1)) * (39373 + (z + 1)) % 2147483647) (by walk_at "dv") ⟨Int.emod_nonneg _ (by decide), Int.emod_lt_of_pos _ (by decide)⟩ fun o ho σ2 h2 Z hp => ?_
      have Sl := sl_box Z hb hp
      refine q_asgBP (fun i => 0 ≤ i ∧ i < 50000) Z hb hp (i := o % 40009 + 7) (by walk_at "dv") (by omega) fun wd hw σ2 h2 Z hp => ?_
      have Sl := sl_box Z hb hp
      have m4 : (o + (z + 1) + y / 1000003).natAbs < 2 ^ 200 := by
        have : (o + (z + 1) + y / 1000003).natAbs < 2 ^ 80 := by omega
        exact Nat.lt_of_lt_of_le this (by decide)
      have m5 : wd.natAbs < 2 ^ 200 := by
        have : wd.natAbs < 2 ^ 60 := by omega
        exact Nat.lt_of_lt_of_le this (by decide)
      refine q_asgBP (fun i => 0 ≤ i ∧ i < 2147483629) Z hb hp (i := (o + (z + 1) + y / 1000003) * wd % 2147483629) (by walk_at "dv") ⟨Int.emod_nonneg _ (by decide), Int.emod_lt_of_pos _ (by decide)⟩ fun tw ht σ2 h2 Z hp => ?_
      have Sl := sl_box Z hb hp
      have m6 : tw.natAbs < 2 ^ 200 := by
        have : tw.natAbs < 2 ^ 60 := by omega
        exact Nat.lt_of_lt_of_le this (by decide)
      refine s_retB (i := (tw * 48271 + o) % 2147483587 / 64 % bl) Z hb hp (by walk_at "dv") fun h2 Z hp => ?_
      exact q _ (.int _) b h2 ⟨bl, _, rfl, Int.emod_nonneg _ (by omega), Int.emod_lt_of_pos _ h1, rfl⟩ Z.fr hb ⟨x, y, z + 1, hp, hx, hy, by omega, by omega⟩ (.int _)
/-! the box of a number of the script -/
def bitOf (ns : List Int) (k : Int) : Int := (ns[k.toNat]?).getD 0
def boxX (x : Int) : Int := (if x < 0 then -x else x) * (if (decide (10 ^ 18 ≤ (if x < 0 then -x else x)) : Bool) = true then 1 else 0)
abbrev RBox : List PyData → PyData → Prop := fun ds d => ∃ (ns : List Int) (k : Int), ds = [.list (ns.map .int), .int k] ∧ 0 ≤ k ∧ k < 1000 ∧ d = .list [.int (boxX (bitOf ns k)), .int (bitOf ns k % 2305843009213693951 + 39373 * k + 3182009), .int 0]
theorem atI_map {ns : List Int} {k : Int} (h0 : 0 ≤ k) (h : k < ns.length) : atI (ns.map PyData.int) k = some (.int (bitOf ns k)) := by
  have e : k = ((k.toNat : Nat) : Int) := by omega
  have h1 : k.toNat < ns.length := by omega
  rw [e]
  refine atI_nat ?_
  rw [List.getElem?_map]
  unfold bitOf
  rw [← e, List.getElem?_eq_getElem h1]
  rfl
theorem cmul_b {i : Int} (bb : Bool) : CMul i (if bb = true then 1 else 0) := .inr (by cases bb <;> decide)
theorem ok__law_box (T : Txt K mg) : FnOk P w K mg base CX0 1 T.f__law_box T.d__law_box ["script", "k"] (spD K RBox) := by
  refine T.F__law_box.ok sc__law_box (by rintro vs H Q E ⟨b, ds, d, hs, hd, ⟨ns, k, rfl, _⟩, q⟩; exact hd.length) (fun cdv A outer s H vs Q E hr h => ?_)
  obtain ⟨b, ds, d, hs, hd, ⟨ns, k, rfl, h0, h9, rfl⟩, q⟩ := h
  refine ⟨_, (pss_cons (ps_set (i := 2) sc__law_box.nd rfl (by first | exact Or.inl rfl | exact Or.inr rfl) (pe_ifExp (pt_cmpR op_lt (pv 1) (pe_callB call_len (by rfl) T.z_len (by decide +kernel) (pa_cons (pv 0) pa_nil)) (nomark _)) (pe_ix ix_seq (pv 0) (pv 1) (fun _ _ => rfl)) pe_int))
    (pss_one (ps_ret (pe_lst (pa_cons (pe_op op_mulA (pe_callB call_abs (by rfl) T.z_abs (by decide +kernel) (pa_cons (pv 2) pa_nil)) (pe_callTy call_int1 (by rfl) T.z_int (by decide +kernel) (pa_cons (pe_cmpR op_ge (pe_callB call_abs (by rfl) T.z_abs (by decide +kernel) (pa_cons (pv 2) pa_nil)) (pe_op op_pow pe_int pe_int) (nomark _)) pa_nil))) (pa_cons (pe_op op_addA (pe_op op_addA (pe_op op_mod (pe_callTy call_int1 (by rfl) T.z_int (by decide +kernel) (pa_cons (pv 2) pa_nil)) pe_int) (pe_op op_mulA pe_int (pv 1))) pe_int) (pa_cons pe_int pa_nil))))))), ?_⟩
  have Z := S.init (B := []) hs hd ["script", "k", "bit_so"]
  have kb : k.natAbs < 2 ^ 200 := by
    have : k.natAbs < 2 ^ 60 := by omega
    exact Nat.lt_of_lt_of_le this (by decide)
  refine q_asg (d := .int (bitOf ns k)) Z (d_if (c := decide (k < ((ns.map PyData.int).length : Int))) (b_test (by walk_at "dv")) (fun hc => ?_) (fun hc => ?_)) fun σ b2 h2 F Z => ?_
  · exact d_op (by walk_at "dv") (by walk_at "dv") (rv_ixL (atI_map h0 (by have := of_decide_eq_true hc; rw [List.length_map] at this; exact this)))
  · refine EvD.is (by walk_at "dv") ?_
    have h1 := of_decide_eq_false hc
    rw [List.length_map] at h1
    unfold bitOf
    rw [List.getElem?_eq_none (by omega)]
    rfl
  · refine s_retE Z (d_lst (ds_cons (d_op (by walk_at "dv") (d_cb (ds_cons (d_op (by walk_at "dv") (d_op (by walk_at "dv") (by walk_at "dv") (rv_powI (by refine ⟨by decide, by decide, by decide⟩))) rv_geI) ds_nil) rc_intB) (rv_mulS ?_)) (ds_cons (by walk_at "dv") (ds_cons (by walk_at "dv") ds_nil))) (show 3 ≤ 100000 by decide)) rfl q
    exact cmul_b _
/-! == of the law's own: alike data -/
abbrev RSame (n : Nat) : List PyData → PyData → Prop := fun ds d => ∃ x : PyData, ds = [x, x] ∧ fine n x = true ∧ d = .bool true
theorem zip_true (ds : List PyData) : (List.zipWith (fun _ _ => PyData.bool true) ds ds) = (List.replicate ds.length true).map .bool := by
  induction ds with
  | nil => rfl
  | cons d ds ih => exact congrArg (PyData.bool true :: ·) ih
theorem all_true (n : Nat) : (List.replicate n true).all id = true := by
  induction n with
  | zero => rfl
  | succ n ih => exact ih
theorem ok__law_same (T : Txt K mg) : ∀ n : Nat, FnOk P w K mg base CX0 (n + 1) T.f__law_same T.d__law_same ["got", "due"] (spD K (RSame n)) := by
  intro n
  induction n with
  | zero =>
    refine T.F__law_same.ok sc__law_same (by rintro vs H Q E ⟨b, ds, d, hs, hd, ⟨x, rfl, _⟩, q⟩; exact hd.length) (fun cdv A outer s H vs Q E hr h => ?_)
    obtain ⟨b, ds, d, hs, hd, ⟨x, rfl, hf, rfl⟩, q⟩ := h
    have Z := S.init (B := []) hs hd ["got", "due", "mine", "its"]
    refine ⟨_, (pss_cons (ps_if (pt_val (pe_callB call_isiT (by rfl) T.z_isinstance (by decide +kernel) (pa_cons (pv 1) (pa_cons (pe_tup (pa_cons (pe_bltn (v := .ty "list") (by rfl) T.z_list (by decide +kernel) rfl) (pa_cons (pe_bltn (v := .ty "tuple") (by rfl) T.z_tuple (by decide +kernel) rfl) pa_nil))) pa_nil)))) (pss_cons (ps_if (PW.pt (pw_or (pt_cmpR (op_neA hr.units) (pe_callB call_isi (by rfl) T.z_isinstance (by decide +kernel) (pa_cons (pv 0) (pa_cons (pe_bltn (v := .ty "list") (by rfl) T.z_list (by decide +kernel) rfl) pa_nil))) (pe_callB call_isi (by rfl) T.z_isinstance (by decide +kernel) (pa_cons (pv 1) (pa_cons (pe_bltn (v := .ty "list") (by rfl) T.z_list (by decide +kernel) rfl) pa_nil))) (nomark _)) (pw_or1 (pt_cmpR (op_neA hr.units) (pe_callB call_isi (by rfl) T.z_isinstance (by decide +kernel) (pa_cons (pv 0) (pa_cons (pe_bltn (v := .ty "tuple") (by rfl) T.z_tuple (by decide +kernel) rfl) pa_nil))) (pe_callB call_isi (by rfl) T.z_isinstance (by decide +kernel) (pa_cons (pv 1) (pa_cons (pe_bltn (v := .ty "tuple") (by rfl) T.z_tuple (by decide +kernel) rfl) pa_nil))) (nomark _))))) (pss_one (ps_ret pe_bl)) pss_nil)
    (pss_one ps_never)) pss_nil)
    (pss_cons (ps_if (PW.pt (pw_or (pt_cmpR op_isN (pv 1) pe_non (nomark _)) (pw_or1 (pt_val (pe_callB call_isiT (by rfl) T.z_isinstance (by decide +kernel) (pa_cons (pv 1) (pa_cons (pe_tup (pa_cons (pe_bltn (v := .ty "bool") (by rfl) T.z_bool (by decide +kernel) rfl) (pa_cons (pe_bltn (v := .ty "str") (by rfl) T.z_str (by decide +kernel) rfl) pa_nil))) pa_nil))))))) (pss_one (ps_ret (pe_and (pe_cmpR (op_eqA hr.units) (pv 0) (pv 1) (nomark _)) (pe_and (pe_cmpR (op_eqA hr.units) (pe_callB call_isi (by rfl) T.z_isinstance (by decide +kernel) (pa_cons (pv 0) (pa_cons (pe_bltn (v := .ty "bool") (by rfl) T.z_bool (by decide +kernel) rfl) pa_nil))) (pe_callB call_isi (by rfl) T.z_isinstance (by decide +kernel) (pa_cons (pv 1) (pa_cons (pe_bltn (v := .ty "bool") (by rfl) T.z_bool (by decide +kernel) rfl) pa_nil))) (nomark _)) (pe_one (pe_cmpR (op_eqA hr.units) (pe_cmpR op_isN (pv 0) pe_non (nomark _)) (pe_cmpR op_isN (pv 1) pe_non (nomark _)) (nomark _))))))) pss_nil)
    (pss_one (ps_ret (pe_and (pe_callB call_isi (by rfl) T.z_isinstance (by decide +kernel) (pa_cons (pv 0) (pa_cons (pe_bltn (v := .ty "int") (by rfl) T.z_int (by decide +kernel) rfl) pa_nil))) (pe_and (pe_not (pe_callB call_isi (by rfl) T.z_isinstance (by decide +kernel) (pa_cons (pv 0) (pa_cons (pe_bltn (v := .ty "bool") (by rfl) T.z_bool (by decide +kernel) rfl) pa_nil)))) (pe_one (pe_cmpR (op_eqA hr.units) (pv 0) (pv 1) (nomark _))))))))), ?_⟩
    cases hd with
    | cons hx hn =>
      cases hx with
      | lst s a => cases hf
      | tup s a => cases hf
      | non =>
        apply q_whenF Z
        walk_at "dv"
        rfl
        intro b2 h2 F Z
        apply q_whenT Z
        exact b_or (y := false) (b_test (d_op (by walk_at "dv") d_non (rv_isN (c := true) fun b v h => by cases h; rfl))) fun z => by cases z
        rfl
        intro b2 h2 F Z
        apply s_retE Z (k := q)
        exact d_andV (by walk_at "dv") fun _ => d_andV (by walk_at "dv") fun _ => d_op (d_op (by walk_at "dv") d_non (rv_isN (c := true) fun b v h => by cases h; rfl)) (d_op (by walk_at "dv") d_non (rv_isN (c := true) fun b v h => by cases h; rfl)) rv_eqAB
        rfl
      | bl c =>
        apply q_whenF Z
        walk_at "dv"
        rfl
        intro b2 h2 F Z
        apply q_whenT Z
        exact b_or (b_test (d_op (by walk_at "dv") d_non (rv_isN (c := false) fun b v h => by cases h; rfl))) fun _ => b_B (d_isi2 (by walk_at "dv") rfl rfl)
        rfl
        intro b2 h2 F Z
        apply s_retE Z (k := q)
        exact d_andV (by walk_at "dv") fun _ => d_andV (by walk_at "dv") fun _ => d_op (d_op (by walk_at "dv") d_non (rv_isN (c := false) fun b v h => by cases h; rfl)) (d_op (by walk_at "dv") d_non (rv_isN (c := false) fun b v h => by cases h; rfl)) rv_eqAB
        cases c <;> rfl
      | str c =>
        apply q_whenF Z
        walk_at "dv"
        rfl
        intro b2 h2 F Z
        apply q_whenT Z
        exact b_or (b_test (d_op (by walk_at "dv") d_non (rv_isN (c := false) fun b v h => by cases h; rfl))) fun _ => b_B (d_isi2 (by walk_at "dv") rfl rfl)
        rfl
        intro b2 h2 F Z
        apply s_retE Z (k := q)
        exact d_andV (by walk_at "dv") fun _ => d_andV (by walk_at "dv") fun _ => d_op (d_op (by walk_at "dv") d_non (rv_isN (c := false) fun b v h => by cases h; rfl)) (d_op (by walk_at "dv") d_non (rv_isN (c := false) fun b v h => by cases h; rfl)) rv_eqAB
        rw [decide_eq_true rfl]; rfl
      | int i =>
        apply q_whenF Z
        walk_at "dv"
        rfl
        intro b2 h2 F Z
        apply q_whenF Z
        exact b_or (b_test (d_op (by walk_at "dv") d_non (rv_isN (c := false) fun b v h => by cases h; rfl))) fun _ => b_B (d_isi2 (by walk_at "dv") rfl rfl)
        rfl
        intro b2 h2 F Z
        apply s_retE Z (k := q)
        exact d_andV (by walk_at "dv") fun _ => d_andV (by walk_at "dv") fun _ => by walk_at "dv"
        rw [decide_eq_true rfl]; rfl
  | succ n ih =>
    refine T.F__law_same.ok sc__law_same (by rintro vs H Q E ⟨b, ds, d, hs, hd, ⟨x, rfl, _⟩, q⟩; exact hd.length) (fun cdv A outer s H vs Q E hr h => ?_)
    obtain ⟨b, ds, d, hs, hd, ⟨x, rfl, hf, rfl⟩, q⟩ := h
    have Z := S.init (B := []) hs hd ["got", "due", "mine", "its"]
    refine ⟨_, (pss_cons (ps_if (pt_val (pe_callB call_isiT (by rfl) T.z_isinstance (by decide +kernel) (pa_cons (pv 1) (pa_cons (pe_tup (pa_cons (pe_bltn (v := .ty "list") (by rfl) T.z_list (by decide +kernel) rfl) (pa_cons (pe_bltn (v := .ty "tuple") (by rfl) T.z_tuple (by decide +kernel) rfl) pa_nil))) pa_nil)))) (pss_cons (ps_if (PW.pt (pw_or (pt_cmpR (op_neA hr.units) (pe_callB call_isi (by rfl) T.z_isinstance (by decide +kernel) (pa_cons (pv 0) (pa_cons (pe_bltn (v := .ty "list") (by rfl) T.z_list (by decide +kernel) rfl) pa_nil))) (pe_callB call_isi (by rfl) T.z_isinstance (by decide +kernel) (pa_cons (pv 1) (pa_cons (pe_bltn (v := .ty "list") (by rfl) T.z_list (by decide +kernel) rfl) pa_nil))) (nomark _)) (pw_or1 (pt_cmpR (op_neA hr.units) (pe_callB call_isi (by rfl) T.z_isinstance (by decide +kernel) (pa_cons (pv 0) (pa_cons (pe_bltn (v := .ty "tuple") (by rfl) T.z_tuple (by decide +kernel) rfl) pa_nil))) (pe_callB call_isi (by rfl) T.z_isinstance (by decide +kernel) (pa_cons (pv 1) (pa_cons (pe_bltn (v := .ty "tuple") (by rfl) T.z_tuple (by decide +kernel) rfl) pa_nil))) (nomark _))))) (pss_one (ps_ret pe_bl)) pss_nil)
    (pss_one (ps_ret (pe_and (pe_cmpR (op_eqA hr.units) (pe_callB call_len (by rfl) T.z_len (by decide +kernel) (pa_cons (pv 0) pa_nil)) (pe_callB call_len (by rfl) T.z_len (by decide +kernel) (pa_cons (pv 1) pa_nil)) (nomark _)) (pe_one (pe_callB (cr_all rfl) (by rfl) T.z_all (by decide +kernel) (pa_cons (pe_lc (own := [("mine", 2), ("its", 3)]) (g := gTup K 2 (gCons (gName 2) (gCons (gName 3) gNil))) rfl sc__law_same.nd (RZ.pi_zipA (by rfl) T.z_zip (pa_cons (pv 0) (pa_cons (pv 1) pa_nil))) (blkOk_by (N := ["got", "due", "mine", "its"]) (sc := defScope s__law_same) (by decide +kernel)) (fun _ _ _ _ _ => (pg_tup (n := 2) rfl (pgs_cons (pg_name (i := 2) sc__law_same.nd rfl (by first | exact Or.inl rfl | exact Or.inr rfl)) (pgs_cons (pg_name (i := 3) sc__law_same.nd rfl (by first | exact Or.inl rfl | exact Or.inr rfl)) pgs_nil)))) (fun _ _ _ _ _ => pts_nil) (fun _ _ _ _ _ => (pe_call ih (hr.mono (by omega)) (by rfl) T.m__law_same T.F__law_same.kp T.b__law_same .nil pass0 (pa_cons (pv 2) (pa_cons (pv 3) pa_nil))))) pa_nil))))))) pss_nil)
    (pss_cons (ps_if (PW.pt (pw_or (pt_cmpR op_isN (pv 1) pe_non (nomark _)) (pw_or1 (pt_val (pe_callB call_isiT (by rfl) T.z_isinstance (by decide +kernel) (pa_cons (pv 1) (pa_cons (pe_tup (pa_cons (pe_bltn (v := .ty "bool") (by rfl) T.z_bool (by decide +kernel) rfl) (pa_cons (pe_bltn (v := .ty "str") (by rfl) T.z_str (by decide +kernel) rfl) pa_nil))) pa_nil))))))) (pss_one (ps_ret (pe_and (pe_cmpR (op_eqA hr.units) (pv 0) (pv 1) (nomark _)) (pe_and (pe_cmpR (op_eqA hr.units) (pe_callB call_isi (by rfl) T.z_isinstance (by decide +kernel) (pa_cons (pv 0) (pa_cons (pe_bltn (v := .ty "bool") (by rfl) T.z_bool (by decide +kernel) rfl) pa_nil))) (pe_callB call_isi (by rfl) T.z_isinstance (by decide +kernel) (pa_cons (pv 1) (pa_cons (pe_bltn (v := .ty "bool") (by rfl) T.z_bool (by decide +kernel) rfl) pa_nil))) (nomark _)) (pe_one (pe_cmpR (op_eqA hr.units) (pe_cmpR op_isN (pv 0) pe_non (nomark _)) (pe_cmpR op_isN (pv 1) pe_non (nomark _)) (nomark _))))))) pss_nil)
    (pss_one (ps_ret (pe_and (pe_callB call_isi (by rfl) T.z_isinstance (by decide +kernel) (pa_cons (pv 0) (pa_cons (pe_bltn (v := .ty "int") (by rfl) T.z_int (by decide +kernel) rfl) pa_nil))) (pe_and (pe_not (pe_callB call_isi (by rfl) T.z_isinstance (by decide +kernel) (pa_cons (pv 0) (pa_cons (pe_bltn (v := .ty "bool") (by rfl) T.z_bool (by decide +kernel) rfl) pa_nil)))) (pe_one (pe_cmpR (op_eqA hr.units) (pv 0) (pv 1) (nomark _))))))))), ?_⟩
    cases hd with
    | cons hx hn =>
      cases hx with
      | @lst a0 xs0 ds0 s a =>
        have hf' : (decide (ds0.length ≤ 90000) && ds0.all (fine n)) = true := hf
        rw [Bool.and_eq_true, decide_eq_true_eq, List.all_eq_true] at hf'
        apply q_whenT Z
        walk_at "dv"
        rfl
        intro b2 h2 F Z
        apply q_whenF (D := { nx := _, rt := Q }) Z
        walk_at "dv"
        rfl
        intro b2 h2 F Z
        apply s_retE Z (k := q)
        exact d_andV (by walk_at "dv") fun _ => d_cb (ds_cons (EvD.is (d_lcZL (fun _ _ => .bool true) Z.sl (by walk_at "dv") hf'.1 (fun x y => wipe2 (by decide)) fun m d e σ2 b2 h1 h2 e2 Sl => d_call (ds_cons (by walk_at "dv") (ds_cons (by walk_at "dv") ds_nil)) ⟨d, by rw [h1] at h2; cases h2; rfl, hf'.2 d (List.mem_of_getElem? h1), rfl⟩) (congrArg PyData.list (zip_true ds0))) ds_nil) rc_all
        rw [all_true, decide_eq_true rfl]
        rfl
      | @tup a0 xs0 ds0 s a =>
        have hf' : (decide (ds0.length ≤ 90000) && ds0.all (fine n)) = true := hf
        rw [Bool.and_eq_true, decide_eq_true_eq, List.all_eq_true] at hf'
        apply q_whenT Z
        walk_at "dv"
        rfl
        intro b2 h2 F Z
        apply q_whenF (D := { nx := _, rt := Q }) Z
        walk_at "dv"
        rfl
        intro b2 h2 F Z
        apply s_retE Z (k := q)
        exact d_andV (by walk_at "dv") fun _ => d_cb (ds_cons (EvD.is (d_lcZT (fun _ _ => .bool true) Z.sl (by walk_at "dv") hf'.1 (fun x y => wipe2 (by decide)) fun m d e σ2 b2 h1 h2 e2 Sl => d_call (ds_cons (by walk_at "dv") (ds_cons (by walk_at "dv") ds_nil)) ⟨d, by rw [h1] at h2; cases h2; rfl, hf'.2 d (List.mem_of_getElem? h1), rfl⟩) (congrArg PyData.list (zip_true ds0))) ds_nil) rc_all
        rw [all_true, decide_eq_true rfl]
        rfl
      | non =>
        apply q_whenF Z
        walk_at "dv"
        rfl
        intro b2 h2 F Z
        apply q_whenT Z
        exact b_or (y := false) (b_test (d_op (by walk_at "dv") d_non (rv_isN (c := true) fun b v h => by cases h; rfl))) fun z => by cases z
        rfl
        intro b2 h2 F Z
        apply s_retE Z (k := q)
        exact d_andV (by walk_at "dv") fun _ => d_andV (by walk_at "dv") fun _ => d_op (d_op (by walk_at "dv") d_non (rv_isN (c := true) fun b v h => by cases h; rfl)) (d_op (by walk_at "dv") d_non (rv_isN (c := true) fun b v h => by cases h; rfl)) rv_eqAB
        rfl
      | bl c =>
        apply q_whenF Z
        walk_at "dv"
        rfl
        intro b2 h2 F Z
        apply q_whenT Z
        exact b_or (b_test (d_op (by walk_at "dv") d_non (rv_isN (c := false) fun b v h => by cases h; rfl))) fun _ => b_B (d_isi2 (by walk_at "dv") rfl rfl)
        rfl
        intro b2 h2 F Z
        apply s_retE Z (k := q)
        exact d_andV (by walk_at "dv") fun _ => d_andV (by walk_at "dv") fun _ => d_op (d_op (by walk_at "dv") d_non (rv_isN (c := false) fun b v h => by cases h; rfl)) (d_op (by walk_at "dv") d_non (rv_isN (c := false) fun b v h => by cases h; rfl)) rv_eqAB
        cases c <;> rfl
      | str c =>
        apply q_whenF Z
        walk_at "dv"
        rfl
        intro b2 h2 F Z
        apply q_whenT Z
        exact b_or (b_test (d_op (by walk_at "dv") d_non (rv_isN (c := false) fun b v h => by cases h; rfl))) fun _ => b_B (d_isi2 (by walk_at "dv") rfl rfl)
        rfl
        intro b2 h2 F Z
        apply s_retE Z (k := q)
        exact d_andV (by walk_at "dv") fun _ => d_andV (by walk_at "dv") fun _ => d_op (d_op (by walk_at "dv") d_non (rv_isN (c := false) fun b v h => by cases h; rfl)) (d_op (by walk_at "dv") d_non (rv_isN (c := false) fun b v h => by cases h; rfl)) rv_eqAB
        rw [decide_eq_true rfl]; rfl
      | int i =>
        apply q_whenF Z
        walk_at "dv"
        rfl
        intro b2 h2 F Z
        apply q_whenF Z
        exact b_or (b_test (d_op (by walk_at "dv") d_non (rv_isN (c := false) fun b v h => by cases h; rfl))) fun _ => b_B (d_isi2 (by walk_at "dv") rfl rfl)
        rfl
        intro b2 h2 F Z
        apply s_retE Z (k := q)
        exact d_andV (by walk_at "dv") fun _ => d_andV (by walk_at "dv") fun _ => by walk_at "dv"
        rw [decide_eq_true rfl]; rfl
end
end LW

namespace LW
open PySem L2 DV
local macro_rules | `(tactic| walk_at "dv") => `(tactic| first
  | exact d_int _ | exact d_str _ | exact d_bl _ | exact d_non
  | (apply d_varZ (by assumption); rfl)
  | (apply d_var (by assumption); rfl)
  | exact ds_nil
  | (apply ds_cons; walk_at "dv"; walk_at "dv")
  | (apply d_op; walk_at "dv"; walk_at "dv"; walk_at "rv")
  | (apply d_tup; walk_at "dv"; (simp only [List.length]; omega))
  | (apply d_lst; walk_at "dv"; (simp only [List.length]; omega))
  | (apply d_neg; walk_at "dv")
  | (apply d_notV; walk_at "dv")
  | (apply d_isi; walk_at "dv"; rfl)
  | (apply d_isi2; walk_at "dv"; rfl; rfl)
  | (apply d_cb; walk_at "dv"; walk_at "rc")
  | (apply d_andV; walk_at "dv"; (intro _; walk_at "dv"))
  | (apply d_orV; walk_at "dv"; (intro _; walk_at "dv"))
  | (apply d_chain; walk_at "dv"; walk_at "dv"; walk_at "dv"; walk_at "rv"; walk_at "rv")
  | (apply b_and; walk_at "dv"; (intro _; walk_at "dv"))
  | (apply b_or; walk_at "dv"; (intro _; walk_at "dv"))
  | (apply b_test; walk_at "dv")
  | (apply b_B; walk_at "dv")
  | (apply b_not; walk_at "dv")
  | exact b_yes)
local macro_rules | `(tactic| walk_at "rv") => `(tactic| first
  | exact rv_addI | exact rv_subI | exact rv_ltI | exact rv_leI | exact rv_gtI | exact rv_geI
  | exact rv_eqAI | exact rv_eqAB | exact rv_neAI | exact rv_neAB | exact rv_eqAS | exact rv_eqAN
  | exact rv_ixT rfl | exact rv_ixL rfl
  | (apply rv_modI; first | assumption | decide | omega)
  | (apply rv_divI; (first | assumption | decide | omega); (first | assumption | decide | omega))
  | (apply rv_mulI; (first | assumption | decide | omega); (first | assumption | decide | omega)))
local macro_rules | `(tactic| walk_at "rc") => `(tactic| first
  | exact rc_lenL | exact rc_lenT | exact rc_max | exact rc_min | exact rc_int | exact rc_intB | exact rc_tupL | exact rc_tupT | exact rc_listT | exact rc_listL | exact rc_abs)

local macro_rules | `(tactic| walk_at "rv") => `(tactic| first | exact rv_addIB)
local macro_rules | `(tactic| walk_at "dv") => `(tactic| first
  | (apply d_slTh; walk_at "dv"; walk_at "dv"; rfl)
  | (apply d_slTl; walk_at "dv"; walk_at "dv"; rfl)
  | (apply d_slTb; walk_at "dv"; walk_at "dv"; walk_at "dv"; rfl)
  | (apply d_slLh; walk_at "dv"; walk_at "dv"; rfl)
  | (apply d_slLl; walk_at "dv"; walk_at "dv"; rfl))

local macro_rules | `(tactic| walk_at "dv") => `(tactic| (apply d_ixA (by assumption) rfl upd_same; walk_at "dv"; rfl; (intro _; exact .int _)))
section
variable {P : Program} {w : World} {K : PySem.W.Frag} {mg : Str → Option Value} {base : Heap}
/-! the numbers of the script, the later ones added -/
def spCells (K : PySem.W.Frag) : Sp := fun vs H Q _ => ∃ (a : Addr) (ns : List Int) (m : Int), vs = [.ref a, .int m] ∧ SqL K H a (ns.map V.int) ∧ ns.length ≤ 63 ∧ 1 ≤ m ∧ m ≤ 63 ∧
  ∀ p H' (ms : List Int), H' p = some (.lst (ms.map V.int)) → 1 ≤ ms.length → (ms.length : Int) ≤ m → Q (.ref p) H'
theorem cut_hi (xs : List V) (m : Int) (h : 0 ≤ m) : cutV xs none (some m) = xs.take m.toNat := by
  have e : m = ((m.toNat : Nat) : Int) := by omega
  unfold cutV
  rw [HT.sIx_none, e, HT.sIx_nat]
  show List.take (min (m.toNat : Nat) xs.length - 0) (xs.drop 0) = _
  rw [List.drop_zero, Nat.sub_zero]
  simp only [Int.toNat_natCast]
  by_cases h1 : m.toNat ≤ xs.length
  · rw [Nat.min_eq_left h1]
  · rw [Nat.min_eq_right (by omega), List.take_length, List.take_of_length_le (by omega)]
theorem cut_lo (xs : List V) (m : Int) (h : 0 ≤ m) : (cutV xs (some m) (some 63)) = (xs.drop (min m.toNat xs.length)).take (min 63 xs.length - min m.toNat xs.length) := by
  have e : m = ((m.toNat : Nat) : Int) := by omega
  unfold cutV
  rw [show HT.sIx xs.length 0 (some m) = min m.toNat xs.length by
    have h2 := HT.sIx_nat xs.length 0 m.toNat
    rw [← e] at h2
    exact h2, show HT.sIx xs.length xs.length (some (63 : Int)) = min 63 xs.length from HT.sIx_nat xs.length xs.length 63]
theorem ok__law_cells (T : Txt K mg) : FnOk P w K mg base CX0 1 T.f__law_cells T.d__law_cells ["script", "most_so"] (spCells K) := by
  refine T.F__law_cells.ok sc__law_cells (by rintro vs H Q E ⟨a, ns, m, rfl, _⟩; rfl) (fun cdv A outer s H vs Q E hr h => ?_)
  obtain ⟨a, ns, m, rfl, hS, hl, hm1, hm2, q⟩ := h
  refine ⟨_, (pss_cons (ps_set (i := 2) sc__law_cells.nd rfl (by first | exact Or.inl rfl | exact Or.inr rfl) (pe_orT (pe_callTy call_list_of (by rfl) T.z_list (by decide +kernel) (pa_cons (pe_slice sl_list (pv 0) po_none (po_some (pv 1))) pa_nil)) (pe_one (pe_lst (pa_cons pe_int pa_nil)))))
    (pss_cons (ps_for PassesOwn.never rfl (pi_enum (by rfl) T.z_enumerate (pa_cons (pe_slice sl_list (pv 0) (po_some (pv 1)) (po_some pe_int)) pa_nil)) (pg_tup (n := 2) rfl (pgs_cons (pg_name (i := 3) sc__law_cells.nd rfl (by first | exact Or.inl rfl | exact Or.inr rfl)) (pgs_cons (pg_name (i := 4) sc__law_cells.nd rfl (by first | exact Or.inl rfl | exact Or.inr rfl)) pgs_nil))) (pss_cons (ps_set (i := 5) sc__law_cells.nd rfl (by first | exact Or.inl rfl | exact Or.inr rfl) (pe_op op_mod (pe_callTy call_int1 (by rfl) T.z_int (by decide +kernel) (pa_cons (pv 3) pa_nil)) (pv 1)))
    (pss_one (ps_asg (pe_op op_addA (pe_ix ix_seq (pv 2) (pv 5) (fun _ _ => rfl)) (pe_op op_mulA (pv 4) (pe_op op_addA (pv 3) pe_int))) (pg_sub (pv 2) (pv 5) set_list)))))
    (pss_one (ps_ret (pv 2))))), ?_⟩
  -- cells = list(script[:most]) or [0]
  refine ⟨.ref a, rfl, .int m, rfl, m, rfl, a, _, rfl, hS, fun p1 hp1 => ⟨p1, _, rfl, .inl (.inl (.inl upd_same)), fun p2 hp2 => ?_⟩⟩
  have e1 : cutV (ns.map V.int) none (some m) = (ns.take m.toNat).map V.int := by rw [cut_hi _ _ (by omega), List.map_take]
  rw [e1] at hp2 ⊢
  have F1 : Same H (upd (upd H p1 (.lst ((ns.take m.toNat).map V.int))) p2 (.lst ((ns.take m.toNat).map V.int))) := fun b o e => by
    have n1 : b ≠ p1 := ne_of_none e hp1
    have e2 : (upd H p1 (.lst ((ns.take m.toNat).map V.int))) b = some o := by rw [upd_ne n1]; exact e
    rw [upd_ne (ne_of_none e2 hp2)]
    exact e2
  -- what follows, from any list of one to most ints
  have rest : ∀ (p : Addr) (H1 : Hp) (ms : List Int), Same H H1 → H p = none → H1 p = some (.lst (ms.map V.int)) → 1 ≤ ms.length → (ms.length : Int) ≤ m → (m.toNat < ns.length → (ms.length : Int) = m) →
      (tSeq (tFor (iEnum K (tCons (tSl (rSlL K) (tVar 0) (tPart (tVar 1)) (tPart (tC (V.int 63)))) tNil)) (gTup K 2 (gCons (gName 3) (gCons (gName 4) gNil)))
        (tSeq (tAsg (tOp (rI (fun _ j => 0 < j) fun i j => V.int (i % j)) (tCB (fun xs H Q => (∃ i, xs = [V.int i] ∧ Q (V.int i) H) ∨ ∃ k, xs = [V.bl k] ∧ Q (V.int (if k then 1 else 0)) H) (tCons (tVar 3) tNil)) (tVar 1)) (gName 5))
          (tAsg (tOp (rAddA K) (tOp (rIx K) (tVar 2) (tVar 5)) (tOp rMulA (tVar 4) (tOp (rAddA K) (tVar 3) (tC (V.int 2))))) (gSub (tVar 2) (tVar 5) rSetL))))
        (tRet (tVar 2))) { nx := fun _ H' => Q V.non H', rt := Q } [some (V.ref a), some (V.int m), some (V.ref p), none, none, none] H1 := by
    intro p H1 ms S1 np hp h1 h2 h3
    refine ⟨.ref a, rfl, .int m, rfl, m, rfl, 63, rfl, a, _, rfl, S1.seq hS, fun c hc => ?_⟩
    rw [cut_lo _ _ (by omega)]
    generalize hxs : List.take (min 63 (ns.map V.int).length - min m.toNat (ns.map V.int).length) (List.drop (min m.toNat (ns.map V.int).length) (ns.map V.int)) = xs
    have hxi : ∀ (i : Nat) (v : V), xs[i]? = some v → (∃ z : Int, v = V.int z) ∧ m.toNat < ns.length := fun i v e => by
      have e' := e
      rw [← hxs] at e
      have hi := (List.getElem?_eq_some_iff.mp e).1
      rw [List.length_take, List.length_drop, List.length_map] at hi
      refine ⟨?_, by omega⟩
      have hm := List.mem_of_getElem? e
      have hm2 := List.mem_of_mem_drop (List.mem_of_mem_take hm)
      obtain ⟨z, _, rfl⟩ := List.mem_map.mp hm2
      exact ⟨z, rfl⟩
    have npc : p ≠ c := ne_of_none hp hc
    refine ⟨c, xs, rfl, .inl (.inl upd_same), for_it (walk_enum (xs := xs)) (fun i σ H' => ∃ (y3 y4 y5 : Option V) (ms : List Int), σ = [some (.ref a), some (.int m), some (.ref p), y3, y4, y5] ∧ 1 ≤ ms.length ∧ (ms.length : Int) ≤ m ∧ (m.toNat < ns.length → (ms.length : Int) = m) ∧ H' p = some (.lst (ms.map V.int)) ∧ H' c = some (.lst xs))
      ⟨none, none, none, ms, rfl, h1, h2, h3, by rw [upd_ne npc]; exact hp, upd_same⟩ (fun i σ H' _ hP => ?_) (fun i x σ H' H'' hi hP hy => ?_) (fun σ H' hP => ?_)⟩
    · obtain ⟨_, _, _, _, _, _, _, _, _, e⟩ := hP
      exact .inl (.inl e)
    · obtain ⟨y3, y4, y5, ms, rfl, g1, g2, g3, gp, gc⟩ := hP
      obtain ⟨Tt, u, v, rfl, hT, rfl, eu, ev⟩ := hy
      obtain ⟨⟨z, rfl⟩, hlen⟩ := hxi i v ev
      have eu' : u = .int (i : Int) := (Option.some.inj eu).symm
      subst eu'
      have hm := g3 hlen
      refine ⟨Tt, _, rfl, .inl (.inl upd_same), rfl, _, _, rfl, _, _, rfl, rfl, ?_⟩
      -- at = int(k) % most
      refine ⟨.int (i : Int), rfl, .inl ⟨_, rfl, .int m, rfl, _, _, rfl, rfl, by omega, ?_⟩⟩
      have gp' : (upd H' Tt (.tup [.int (i : Int), .int z])) p = some (.lst (ms.map V.int)) := by
        rw [upd_ne (ne_of_none gp hT)]; exact gp
      have a0 : 0 ≤ (i : Int) % m := Int.emod_nonneg _ (by omega)
      have a1 : (i : Int) % m < m := Int.emod_lt_of_pos _ (by omega)
      have a2 : ((i : Int) % m).toNat < ms.length := by omega
      have a3 : (i : Int) % m = ((((i : Int) % m).toNat : Nat) : Int) := by omega
      have at1 : atI (ms.map V.int) ((i : Int) % m) = some (.int ms[((i : Int) % m).toNat]) := at_of a3 (by
        rw [List.getElem?_map, List.getElem?_eq_getElem a2]
        rfl)
      have at2 : ixN (ms.map V.int).length ((i : Int) % m) = some ((i : Int) % m).toNat := by
        have := ixN_nat (n := (ms.map V.int).length) (j := ((i : Int) % m).toNat) (by rw [List.length_map]; exact a2)
        rw [← a3] at this
        exact this
      refine ⟨.ref p, rfl, .int ((i : Int) % m), rfl, .inl ⟨p, _, _, _, rfl, rfl, .inl (.inl gp'), at1, ?_⟩⟩
      have ib : (i : Int) < 64 := by
        have hi' := hi
        rw [← hxs, List.length_take] at hi'
        omega
      refine ⟨.int z, rfl, .int (i : Int), rfl, .inl ⟨_, _, rfl, rfl, .inr (.inl ⟨_, _, rfl, rfl, .inr ⟨by omega, by omega⟩, .inl ⟨_, _, rfl, rfl, ?_⟩⟩)⟩⟩
      refine ⟨.ref p, rfl, .int ((i : Int) % m), rfl, p, _, _, _, rfl, rfl, gp', at2, ?_⟩
      refine ⟨_, _, _, ms.set ((i : Int) % m).toNat (ms[((i : Int) % m).toNat] + z * ((i : Int) + 2)), rfl, by rw [List.length_set]; exact g1, by rw [List.length_set]; exact g2, by rw [List.length_set]; exact g3, ?_, ?_⟩
      · rw [upd_same, List.map_set]
      · have hcp : c ≠ p := npc.symm
        rw [upd_ne hcp, upd_ne (ne_of_none gc hT)]
        exact gc
    · obtain ⟨y3, y4, y5, ms, rfl, g1, g2, g3, gp, gc⟩ := hP
      exact ⟨.ref p, rfl, q p H' ms gp g1 g2⟩
  have hp2' : H p2 = none := by
    cases e : H p2 with
    | none => rfl
    | some o =>
      have n1 : p2 ≠ p1 := ne_of_none e hp1
      rw [upd_ne n1, e] at hp2
      cases hp2
  refine ⟨!((ns.take m.toNat).map V.int).isEmpty, .inl ⟨_, .inl (.inl upd_same), rfl⟩, ?_⟩
  cases hns : ns with
  | nil =>
    have hb : (!((List.take m.toNat ([] : List Int)).map V.int).isEmpty) = false := by simp
    rw [hb]
    rw [hns] at rest F1
    refine iteF ⟨Nat.le_of_ble_eq_true rfl, fun p3 hp3 => ?_⟩
    refine rest p3 _ [0] (F1.trans fun b o e => by rw [upd_ne (ne_of_none e hp3)]; exact e) (F1.free hp3) upd_same (Nat.le_refl _) hm1 (fun z => by simp at z)
  | cons z r =>
    have ht : m.toNat = (m.toNat - 1) + 1 := by omega
    have hb : (!((List.take m.toNat (z :: r)).map V.int).isEmpty) = true := by rw [ht]; rfl
    rw [hb]
    rw [hns] at rest F1
    refine iteT ?_
    refine rest p2 _ _ F1 hp2' upd_same (by rw [List.length_take, List.length_cons]; omega) (by rw [List.length_take, List.length_cons]; omega) (fun z => by rw [List.length_take]; omega)
theorem mem1 {a : Addr} {h : Hp} : a ∈ [a] ∨ h a = none := .inl (List.mem_cons_self ..)
/-- k + a draw -/
theorem t_plus {σ : St} {b : Hp} {a : Addr} {te : TE} {k B : Int} (h : EvT K te σ b a 1 (RTake [.int B])) : EvT K (tOp (rAddA K) (tC (.int k)) te) σ b a 1 (fun d => ∃ r : Int, 0 ≤ r ∧ r < B ∧ d = .int (k + r)) := by
  have := t_op (R := fun d => ∃ r : Int, 0 ≤ r ∧ r < B ∧ d = .int (k + r)) (r := rAddA K) (t_pure (K := K) (σ := σ) (b := b) (a := a) (d_int k)) h (by decide) (by decide) (fun d1 d2 e1 e2 => by
    obtain ⟨b', r, e3, r0, r1, rfl⟩ := e2
    cases e3
    subst e1
    exact ⟨_, rv_addI, r, r0, r1, rfl⟩)
  exact t_le this (by decide)
theorem t_minus {σ : St} {b : Hp} {a : Addr} {te : TE} {k B : Int} (h : EvT K te σ b a 1 (RTake [.int B])) : EvT K (tOp (rI0 fun i j => .int (i - j)) te (tC (.int k))) σ b a 1 (fun d => ∃ r : Int, 0 ≤ r ∧ r < B ∧ d = .int (r - k)) := by
  have := t_op (R := fun d => ∃ r : Int, 0 ≤ r ∧ r < B ∧ d = .int (r - k)) (r := rI0 fun i j => .int (i - j)) h (t_pure (K := K) (σ := σ) (b := b) (a := a) (d_int k)) (by decide) (by decide) (fun d1 d2 e1 e2 => by
    obtain ⟨b', r, e3, r0, r1, rfl⟩ := e1
    cases e3
    subst e2
    exact ⟨_, rv_subI, r, r0, r1, rfl⟩)
  exact t_le this (by decide)
end
end LW

namespace LW
open PySem L2 DV
local macro_rules | `(tactic| walk_at "dv") => `(tactic| first
  | exact d_int _ | exact d_str _ | exact d_bl _ | exact d_non
  | (apply d_varZ (by assumption); rfl)
  | (apply d_var (by assumption); rfl)
  | exact ds_nil
  | (apply ds_cons; walk_at "dv"; walk_at "dv")
  | (apply d_op; walk_at "dv"; walk_at "dv"; walk_at "rv")
  | (apply d_tup; walk_at "dv"; (simp only [List.length]; omega))
  | (apply d_lst; walk_at "dv"; (simp only [List.length]; omega))
  | (apply d_neg; walk_at "dv")
  | (apply d_notV; walk_at "dv")
  | (apply d_isi; walk_at "dv"; rfl)
  | (apply d_isi2; walk_at "dv"; rfl; rfl)
  | (apply d_cb; walk_at "dv"; walk_at "rc")
  | (apply d_andV; walk_at "dv"; (intro _; walk_at "dv"))
  | (apply d_orV; walk_at "dv"; (intro _; walk_at "dv"))
  | (apply d_chain; walk_at "dv"; walk_at "dv"; walk_at "dv"; walk_at "rv"; walk_at "rv")
  | (apply b_and; walk_at "dv"; (intro _; walk_at "dv"))
  | (apply b_or; walk_at "dv"; (intro _; walk_at "dv"))
  | (apply b_test; walk_at "dv")
  | (apply b_B; walk_at "dv")
  | (apply b_not; walk_at "dv")
  | exact b_yes)
local macro_rules | `(tactic| walk_at "rv") => `(tactic| first
  | exact rv_addI | exact rv_subI | exact rv_ltI | exact rv_leI | exact rv_gtI | exact rv_geI
  | exact rv_eqAI | exact rv_eqAB | exact rv_neAI | exact rv_neAB | exact rv_eqAS | exact rv_eqAN
  | exact rv_ixT rfl | exact rv_ixL rfl
  | (apply rv_modI; first | assumption | decide | omega)
  | (apply rv_divI; (first | assumption | decide | omega); (first | assumption | decide | omega))
  | (apply rv_mulI; (first | assumption | decide | omega); (first | assumption | decide | omega)))
local macro_rules | `(tactic| walk_at "rc") => `(tactic| first
  | exact rc_lenL | exact rc_lenT | exact rc_max | exact rc_min | exact rc_int | exact rc_intB | exact rc_tupL | exact rc_tupT | exact rc_listT | exact rc_listL | exact rc_abs)

local macro_rules | `(tactic| walk_at "rv") => `(tactic| first | exact rv_addIB)
local macro_rules | `(tactic| walk_at "dv") => `(tactic| first
  | (apply d_slTh; walk_at "dv"; walk_at "dv"; rfl)
  | (apply d_slTl; walk_at "dv"; walk_at "dv"; rfl)
  | (apply d_slTb; walk_at "dv"; walk_at "dv"; walk_at "dv"; rfl)
  | (apply d_slLh; walk_at "dv"; walk_at "dv"; rfl)
  | (apply d_slLl; walk_at "dv"; walk_at "dv"; rfl))

local macro_rules | `(tactic| walk_at "rc") => `(tactic| exact rc_lenL)
section
variable {P : Program} {w : World} {K : PySem.W.Frag} {mg : Str → Option Value} {base : Heap}
theorem call_lenK {K : PySem.W.Frag} {X : Cx} (h : X.K = K) : CallR X (.builtin "len") (fun xs H Q => ∃ x n, xs = [x] ∧ LenV K x H n ∧ Q (.int n) H) := by subst h; exact call_len
theorem pe_never {X : Cx} {e : Expr} : PE X e (fun _ _ _ => False) := ⟨fun _ _ _ _ _ _ h => h.elim⟩
section
variable {σ : St} {b : Hp} {te : TE} {a : Addr} {c c' k B : Int} {R R1 : PyData → Prop}
theorem t_eqI (h : EvT K te σ b a c (RTake [.int B])) (hc : 0 ≤ c) : EvT K (tOp (rEqA K) te (tC (.int k))) σ b a (c + 0) (fun d => ∃ x : Bool, d = .bool x) :=
  t_op h (t_pure (d_int k)) hc (by decide) fun d1 d2 e1 e2 => by
    obtain ⟨b', r, e3, r0, r1, rfl⟩ := e1
    subst e2
    exact ⟨_, rv_eqAI, _, rfl⟩
theorem t_gtI (h : EvT K te σ b a c (RTake [.int B])) (hc : 0 ≤ c) : EvT K (tOp (rI0 fun i j => .bl (decide (j < i))) te (tC (.int k))) σ b a (c + 0) (fun d => ∃ x : Bool, d = .bool x) :=
  t_op h (t_pure (d_int k)) hc (by decide) fun d1 d2 e1 e2 => by
    obtain ⟨b', r, e3, r0, r1, rfl⟩ := e1
    subst e2
    exact ⟨_, rv_gtI, _, rfl⟩
theorem ts_mono {tA : TA} {Rs Rs' : List PyData → Prop} (h : EvTs K tA σ b a c Rs) (e : ∀ ds, Rs ds → Rs' ds) : EvTs K tA σ b a c Rs' := fun b1 h1 n s z hb T hn Q q => h b1 h1 n s z hb T hn Q fun vs ds b2 h2 r => q vs ds b2 h2 (e ds r)
end
abbrev ROf : List PyData → PyData → Prop := fun ds d => ∃ xs, ds = [.list xs] ∧ d ∈ xs
abbrev POf : List PyData → Prop := fun ds => ∃ xs, ds = [.list xs] ∧ xs ≠ [] ∧ xs.length ≤ 1000
theorem ok__law_of (T : Txt K mg) : FnOk P w K mg base CX0 2 T.f__law_of T.d__law_of ["tin", "goods_so"] (spT K 1 ROf POf) := by
  refine T.F__law_of.ok sc__law_of (by rintro vs H Q E ⟨b, a, ws, ds, n, rfl, hs, hb, hT, hn, hd, ⟨xs, rfl, _⟩, q⟩; exact congrArg Nat.succ hd.length) (fun cdv A outer s H vs Q E hr h => ?_)
  obtain ⟨b, a, ws, ds, n, rfl, hs, hb, hT, hn, hd, ⟨xs, rfl, h1, h2⟩, q⟩ := h
  cases hd with
  | @cons x vs _ _ hx hd0 =>
  cases hd0
  refine ⟨_, (pss_one (ps_ret (pe_ix ix_seq (pv 1) (pe_call (ok__law_take T) (hr.mono (by omega)) (by rfl) T.m__law_take T.F__law_take.kp T.b__law_take .nil pass0 (pa_cons (pv 0) (pa_cons (pe_callB call_len (by rfl) T.z_len (by decide +kernel) (pa_cons (pv 1) pa_nil)) pa_nil))) (fun _ _ => rfl)))), ?_⟩
  have Z : S K [a] b H (start ["tin", "goods_so"] [.ref a, x]) b H [.adr a, .dat (.list xs)] := ⟨Fr.rfl' hs, .cons rfl (.cons ⟨x, rfl, hx⟩ .nil)⟩
  have hl : 0 < xs.length := List.length_pos_iff.mpr h1
  refine s_retT Z hb mem1 hT (c := 0 + 1) (by have : n + 1 ≤ mostDraws := hn; omega) (t_op (R := fun d => d ∈ xs) (t_pure (d_varZ Z rfl)) (t_callT Z.sl rfl (ds_cons (d_cb (ds_cons (d_varZ Z rfl) ds_nil) rc_lenL) ds_nil) ⟨(xs.length : Int), rfl, by omega, by omega⟩) (by decide) (by decide) fun d1 d2 e1 e2 => ?_) fun v d b2 h2 hd F hb T D => q v d b2 h2 ⟨xs, rfl, hd⟩ F hb (T.le (by omega)) D
  obtain ⟨b', r, e3, r0, r1, rfl⟩ := e2
  cases e3
  subst e1
  have e : r = ((r.toNat : Nat) : Int) := by omega
  have hr' : r.toNat < xs.length := by omega
  have key : atI xs r = some xs[r.toNat] := by
    have h3 := atI_nat (List.getElem?_eq_getElem hr')
    rw [← e] at h3
    exact h3
  exact ⟨xs[r.toNat], rv_ixL key, List.getElem_mem hr'⟩
def tfine : Nat → PyData → Bool
  | _, .none => true | _, .bool _ => true | _, .int _ => true | _, .str _ => true
  | n + 1, .tuple xs => decide (xs.length ≤ 90000) && xs.all (tfine n)
  | _, _ => false
def lstN : Nat → PyData → PyData
  | n + 1, .tuple xs => .list (xs.map (lstN n))
  | _, d => d
abbrev RLists (n : Nat) : List PyData → PyData → Prop := fun ds d => ∃ x : PyData, ds = [x] ∧ tfine n x = true ∧ d = lstN n x
theorem ok__law_lists (T : Txt K mg) : ∀ n : Nat, FnOk P w K mg base CX0 (n + 1) T.f__law_lists T.d__law_lists ["matter"] (spD K (RLists n)) := by
  intro n
  induction n with
  | zero =>
    refine T.F__law_lists.ok sc__law_lists (by rintro vs H Q E ⟨b, ds, d, hs, hd, ⟨x, rfl, _, rfl⟩, q⟩; exact hd.length) (fun cdv A outer s H vs Q E hr h => ?_)
    obtain ⟨b, ds, d, hs, hd, ⟨x, rfl, hf, rfl⟩, q⟩ := h
    refine ⟨_, pss_one (ps_ret (pe_ifExp (pt_val (pe_callB call_isiT (by rfl) T.z_isinstance (by decide +kernel) (pa_cons (pv 0) (pa_cons (pe_tup (pa_cons (pe_bltn (v := .ty "list") (by rfl) T.z_list (by decide +kernel) rfl) (pa_cons (pe_bltn (v := .ty "tuple") (by rfl) T.z_tuple (by decide +kernel) rfl) pa_nil))) pa_nil)))) pe_never (pv 0))), ?_⟩
    have Z := S.init (B := []) hs hd ["matter", "bit"]
    cases hd with
    | cons hx hn =>
      cases hx with
      | lst s a => cases hf
      | tup s a => cases hf
      | _ => exact s_retE Z (d_if (c := false) (b_B (d_isi2 (r1 := false) (r2 := false) (by walk_at "dv") rfl rfl)) (fun z => by cases z) fun _ => d_varZ Z rfl) rfl q
  | succ n ih =>
    refine T.F__law_lists.ok sc__law_lists (by rintro vs H Q E ⟨b, ds, d, hs, hd, ⟨x, rfl, _, rfl⟩, q⟩; exact hd.length) (fun cdv A outer s H vs Q E hr h => ?_)
    obtain ⟨b, ds, d, hs, hd, ⟨x, rfl, hf, rfl⟩, q⟩ := h
    refine ⟨_, (pss_one (ps_ret (pe_ifExp (pt_val (pe_callB call_isiT (by rfl) T.z_isinstance (by decide +kernel) (pa_cons (pv 0) (pa_cons (pe_tup (pa_cons (pe_bltn (v := .ty "list") (by rfl) T.z_list (by decide +kernel) rfl) (pa_cons (pe_bltn (v := .ty "tuple") (by rfl) T.z_tuple (by decide +kernel) rfl) pa_nil))) pa_nil)))) (pe_lc (own := [("bit", 1)]) (g := gName 1) rfl sc__law_lists.nd (pi_tup (pv 0)) (blkOk_by (N := ["matter", "bit"]) (sc := defScope s__law_lists) (by decide +kernel)) (fun _ _ _ _ _ => (pg_name (i := 1) sc__law_lists.nd rfl (by first | exact Or.inl rfl | exact Or.inr rfl))) (fun _ _ _ _ _ => pts_nil) (fun _ _ _ _ _ => (pe_call ih (hr.mono (by omega)) (by rfl) T.m__law_lists T.F__law_lists.kp T.b__law_lists .nil pass0 (pa_cons (pv 1) pa_nil)))) (pv 0)))), ?_⟩
    have Z := S.init (B := []) hs hd ["matter", "bit"]
    cases hd with
    | cons hx hn =>
      cases hx with
      | lst s a => cases hf
      | @tup a0 xs0 ds0 s a =>
        have hf' : (decide (ds0.length ≤ 90000) && ds0.all (tfine n)) = true := hf
        rw [Bool.and_eq_true, decide_eq_true_eq, List.all_eq_true] at hf'
        refine s_retE Z (d_if (c := true) (b_B (d_isi2 (r1 := false) (r2 := true) (by walk_at "dv") rfl rfl)) (fun _ => EvD.is (d_lcT (ds := ds0) (fun _ => true) (lstN n) Z.sl (by walk_at "dv") hf'.1 (fun x => wipe1) fun m d σ2 b2 hm e Sl => ⟨b_yes, fun _ => d_call (ds_cons (by walk_at "dv") ds_nil) ⟨d, rfl, hf'.2 d (List.mem_of_getElem? hm), rfl⟩⟩) (congrArg PyData.list (by rw [filt]))) fun z => by cases z) rfl q
      | _ => exact s_retE Z (d_if (c := false) (b_B (d_isi2 (r1 := false) (r2 := false) (by walk_at "dv") rfl rfl)) (fun z => by cases z) fun _ => d_varZ Z rfl) rfl q
theorem ok__law_blank (T : Txt K mg) : FnOk P w K mg base CX0 1 T.f__law_blank T.d__law_blank [] (spD K fun ds d => ds = [] ∧ d = blankD) := by
  refine T.F__law_blank.ok sc__law_blank (by rintro vs H Q E ⟨b, ds, d, hs, hd, ⟨rfl, rfl⟩, q⟩; exact hd.length) (fun cdv A outer s H vs Q E hr h => ?_)
  obtain ⟨b, ds, d, hs, hd, ⟨rfl, rfl⟩, q⟩ := h
  refine ⟨_, (pss_one (ps_ret (pe_tup (pa_cons pe_str pa_nil)))), ?_⟩
  have Z := S.init (B := []) hs hd []
  exact s_ret Z (by walk_at "dv") q
end
end LW

namespace LW
open PySem L2 DV
local macro_rules | `(tactic| walk_at "dv") => `(tactic| first
  | exact d_int _ | exact d_str _ | exact d_bl _ | exact d_non
  | (apply d_varZ (by assumption); rfl)
  | (apply d_var (by assumption); rfl)
  | exact ds_nil
  | (apply ds_cons; walk_at "dv"; walk_at "dv")
  | (apply d_op; walk_at "dv"; walk_at "dv"; walk_at "rv")
  | (apply d_tup; walk_at "dv"; (simp only [List.length]; omega))
  | (apply d_lst; walk_at "dv"; (simp only [List.length]; omega))
  | (apply d_neg; walk_at "dv")
  | (apply d_notV; walk_at "dv")
  | (apply d_isi; walk_at "dv"; rfl)
  | (apply d_isi2; walk_at "dv"; rfl; rfl)
  | (apply d_cb; walk_at "dv"; walk_at "rc")
  | (apply d_andV; walk_at "dv"; (intro _; walk_at "dv"))
  | (apply d_orV; walk_at "dv"; (intro _; walk_at "dv"))
  | (apply d_chain; walk_at "dv"; walk_at "dv"; walk_at "dv"; walk_at "rv"; walk_at "rv")
  | (apply b_and; walk_at "dv"; (intro _; walk_at "dv"))
  | (apply b_or; walk_at "dv"; (intro _; walk_at "dv"))
  | (apply b_test; walk_at "dv")
  | (apply b_B; walk_at "dv")
  | (apply b_not; walk_at "dv")
  | exact b_yes)
local macro_rules | `(tactic| walk_at "rv") => `(tactic| first
  | exact rv_addI | exact rv_subI | exact rv_ltI | exact rv_leI | exact rv_gtI | exact rv_geI
  | exact rv_eqAI | exact rv_eqAB | exact rv_neAI | exact rv_neAB | exact rv_eqAS | exact rv_eqAN
  | exact rv_ixT rfl | exact rv_ixL rfl
  | (apply rv_modI; first | assumption | decide | omega)
  | (apply rv_divI; (first | assumption | decide | omega); (first | assumption | decide | omega))
  | (apply rv_mulI; (first | assumption | decide | omega); (first | assumption | decide | omega)))
local macro_rules | `(tactic| walk_at "rc") => `(tactic| first
  | exact rc_lenL | exact rc_lenT | exact rc_max | exact rc_min | exact rc_int | exact rc_intB | exact rc_tupL | exact rc_tupT | exact rc_listT | exact rc_listL | exact rc_abs)

local macro_rules | `(tactic| walk_at "rv") => `(tactic| first | exact rv_addIB)
local macro_rules | `(tactic| walk_at "dv") => `(tactic| first
  | (apply d_slTh; walk_at "dv"; walk_at "dv"; rfl)
  | (apply d_slTl; walk_at "dv"; walk_at "dv"; rfl)
  | (apply d_slTb; walk_at "dv"; walk_at "dv"; walk_at "dv"; rfl)
  | (apply d_slLh; walk_at "dv"; walk_at "dv"; rfl)
  | (apply d_slLl; walk_at "dv"; walk_at "dv"; rfl))

local macro_rules | `(tactic| walk_at "rc") => `(tactic| exact rc_lenL)
section
variable {P : Program} {w : World} {K : PySem.W.Frag} {mg : Str → Option Value} {base : Heap}
/-! drawn RECORDS, DEEDS -/
def wordsL : List Str := ["a", "b", "put", "drop", "lot", "12", "0", "torn", "wake", "k123456789ab"]
def keysL : List Str := (wordsL.map fun x => ("@" : Str) ++ x) ++ (wordsL.map fun x => ("" : Str) ++ x)
def goodW (x : Str) : Bool := wordB x && decide (x.length ≤ 100) && decide ((bare x).length ≤ 100) && PyData.strOk x
def goodK (x : Str) : Bool := keyB x && decide (x.length ≤ 100) && decide ((bare x).length ≤ 100) && PyData.strOk x
theorem words_good : wordsL.all goodW = true := by decide +kernel
theorem keys_good : keysL.all goodK = true := by decide +kernel
theorem words_ok {x : Str} (h : x ∈ wordsL) : wordB x = true ∧ shortS x := by
  have := List.all_eq_true.mp words_good x h
  unfold goodW at this
  simp only [Bool.and_eq_true, decide_eq_true_eq] at this
  exact ⟨this.1.1.1, this.1.1.2, this.1.2, this.2⟩
theorem keys_ok {x : Str} (h : x ∈ keysL) : keyB x = true ∧ shortS x := by
  have := List.all_eq_true.mp keys_good x h
  unfold goodK at this
  simp only [Bool.and_eq_true, decide_eq_true_eq] at this
  exact ⟨this.1.1.1, this.1.1.2, this.1.2, this.2⟩
theorem len100 {x : Str} (h : x ∈ wordsL) : x.length ≤ 100 := (words_ok h).2.1
abbrev RWord : List PyData → PyData → Prop := fun _ d => ∃ x ∈ wordsL, d = .str x
theorem ok__law_string (T : Txt K mg) : FnOk P w K mg base CX0 3 T.f__law_string T.d__law_string ["tin"] (spT K 1 RWord (· = [])) := by
  refine T.F__law_string.ok sc__law_string (by rintro vs H Q E ⟨b, a, ws, ds, n, rfl, hs, hb, hT, hn, hd, rfl, q⟩; exact congrArg Nat.succ hd.length) (fun cdv A outer s H vs Q E hr h => ?_)
  obtain ⟨b, a, ws, ds, n, rfl, hs, hb, hT, hn, hd, rfl, q⟩ := h
  cases hd
  refine ⟨_, (pss_one (ps_ret (pe_call (ok__law_of T) (hr.mono (by omega)) (by rfl) T.m__law_of T.F__law_of.kp T.b__law_of .nil pass0 (pa_cons (pv 0) (pa_cons (pe_lst (pa_cons pe_str (pa_cons pe_str (pa_cons pe_str (pa_cons pe_str (pa_cons pe_str (pa_cons pe_str (pa_cons pe_str (pa_cons pe_str (pa_cons pe_str (pa_cons pe_str pa_nil))))))))))) pa_nil))))), ?_⟩
  have Z : S K [a] b H (start ["tin"] [.ref a]) b H [.adr a] := ⟨Fr.rfl' hs, .cons rfl .nil⟩
  refine s_retT Z hb mem1 hT hn (t_callT Z.sl rfl (ds_cons (d_lst (ds_cons (d_str _) (ds_cons (d_str _) (ds_cons (d_str _) (ds_cons (d_str _) (ds_cons (d_str _) (ds_cons (d_str _) (ds_cons (d_str _) (ds_cons (d_str _) (ds_cons (d_str _) (ds_cons (d_str _) ds_nil)))))))))) (show 10 ≤ 100000 by decide)) ds_nil) ⟨wordsL.map PyData.str, rfl, by decide, by decide⟩) ?_
  rintro v d b2 h2 ⟨xs, e, hm⟩ F hb T D
  have e2 : xs = wordsL.map PyData.str := by cases e; rfl
  subst e2
  obtain ⟨x, hx, rfl⟩ := List.mem_map.mp hm
  exact q v _ b2 h2 ⟨x, hx, rfl⟩ F hb T D
abbrev RKey : List PyData → PyData → Prop := fun _ d => ∃ x ∈ keysL, d = .str x
theorem ok__law_key (T : Txt K mg) : FnOk P w K mg base CX0 4 T.f__law_key T.d__law_key ["tin"] (spT K 2 RKey (· = [])) := by
  refine T.F__law_key.ok sc__law_key (by rintro vs H Q E ⟨b, a, ws, ds, n, rfl, hs, hb, hT, hn, hd, rfl, q⟩; exact congrArg Nat.succ hd.length) (fun cdv A outer s H vs Q E hr h => ?_)
  obtain ⟨b, a, ws, ds, n, rfl, hs, hb, hT, hn, hd, rfl, q⟩ := h
  cases hd
  refine ⟨_, (pss_one (ps_ret (pe_op op_addA (pe_ifExp (pt_cmpR (op_eqA hr.units) (pe_call (ok__law_take T) (hr.mono (by omega)) (by rfl) T.m__law_take T.F__law_take.kp T.b__law_take .nil pass0 (pa_cons (pv 0) (pa_cons pe_int pa_nil))) pe_int (nomark _)) pe_str pe_str) (pe_call (ok__law_string T) (hr.mono (by omega)) (by rfl) T.m__law_string T.F__law_string.kp T.b__law_string .nil pass0 (pa_cons (pv 0) pa_nil))))), ?_⟩
  have Z : S K [a] b H (start ["tin"] [.ref a]) b H [.adr a] := ⟨Fr.rfl' hs, .cons rfl .nil⟩
  refine s_retT Z hb mem1 hT (c := 1 + 0 + 0 + 1) (by have : n + 2 ≤ mostDraws := hn; omega) (t_op (R := RKey []) (t_if (R := fun d => d = .str "@" ∨ d = .str "") (t_eqI (t_callT Z.sl rfl (ds_cons (d_int 5) ds_nil) ⟨5, rfl, by decide, by decide⟩) (by decide)) (t_mono (t_pure (d_str _)) fun d e => .inl e) (t_mono (t_pure (d_str _)) fun d e => .inr e) (by decide) (by decide)) (t_callT1 Z.sl rfl rfl) (by decide) (by decide) fun d1 d2 e1 e2 => ?_) fun v d b2 h2 hd F hb T D => q v d b2 h2 hd F hb (T.le (by omega)) D
  obtain ⟨x, hx, rfl⟩ := e2
  have hx1 := len100 hx
  rcases e1 with rfl | rfl
  · exact ⟨_, rv_addS (by have : ("@" : Str).length = 1 := by decide +kernel
                          omega), _, List.mem_append_left _ (List.mem_map_of_mem hx), rfl⟩
  · exact ⟨_, rv_addS (by have : ("" : Str).length = 0 := by decide +kernel
                          omega), _, List.mem_append_right _ (List.mem_map_of_mem hx), rfl⟩
def good (r : Rc) : Prop := isB r = false ∧ okR r
abbrev RLone : List PyData → PyData → Prop := fun _ d => ∃ r, d = sgD r ∧ good r
theorem ok__law_lone (T : Txt K mg) : FnOk P w K mg base CX0 5 T.f__law_lone T.d__law_lone ["tin"] (spT K 4 RLone (· = [])) := by
  refine T.F__law_lone.ok sc__law_lone (by rintro vs H Q E ⟨b, a, ws, ds, n, rfl, hs, hb, hT, hn, hd, rfl, q⟩; exact congrArg Nat.succ hd.length) (fun cdv A outer s H vs Q E hr h => ?_)
  obtain ⟨b, a, ws, ds, n, rfl, hs, hb, hT, hn, hd, rfl, q⟩ := h
  cases hd
  refine ⟨_, (pss_one (ps_ret (pe_ifExp (pt_cmpR op_gt (pe_call (ok__law_take T) (hr.mono (by omega)) (by rfl) T.m__law_take T.F__law_take.kp T.b__law_take .nil pass0 (pa_cons (pv 0) (pa_cons pe_int pa_nil))) pe_int (nomark _)) (pe_tup (pa_cons pe_str (pa_cons (pe_call (ok__law_key T) (hr.mono (by omega)) (by rfl) T.m__law_key T.F__law_key.kp T.b__law_key .nil pass0 (pa_cons (pv 0) pa_nil)) (pa_cons (pe_call (ok__law_string T) (hr.mono (by omega)) (by rfl) T.m__law_string T.F__law_string.kp T.b__law_string .nil pass0 (pa_cons (pv 0) pa_nil)) pa_nil)))) (pe_tup (pa_cons pe_str (pa_cons (pe_call (ok__law_key T) (hr.mono (by omega)) (by rfl) T.m__law_key T.F__law_key.kp T.b__law_key .nil pass0 (pa_cons (pv 0) pa_nil)) pa_nil)))))), ?_⟩
  have Z : S K [a] b H (start ["tin"] [.ref a]) b H [.adr a] := ⟨Fr.rfl' hs, .cons rfl .nil⟩
  have n0 : okN 0 0 := ⟨by decide, by decide, by decide, by decide⟩
  refine s_retT Z hb mem1 hT (c := 1 + 0 + 3) (by have : n + 4 ≤ mostDraws := hn; omega) (t_if (R := RLone []) (t_gtI (t_callT Z.sl rfl (ds_cons (d_int 3) ds_nil) ⟨3, rfl, by decide, by decide⟩) (by decide)) (t_le (t_mono (t_tup (ts_cons (t_pure (d_str _)) (ts_cons (t_callT1 Z.sl rfl rfl) (ts_cons (t_callT1 Z.sl rfl rfl) ts_nil (by decide) (by decide)) (by decide) (by decide)) (by decide) (by decide)) ?_) ?_) (by decide)) (t_le (t_mono (t_tup (ts_cons (t_pure (d_str _)) (ts_cons (t_callT1 Z.sl rfl rfl) ts_nil (by decide) (by decide)) (by decide) (by decide)) ?_) ?_) (by decide)) (by decide) (by decide)) fun v d b2 h2 hd F hb T D => q v d b2 h2 hd F hb (T.le (by omega)) D
  · rintro ds ⟨d1, e1, rfl, _, d2, e2, rfl, _, d3, e3, rfl, _, rfl⟩
    exact Nat.le_of_ble_eq_true rfl
  · rintro d ⟨ds, rfl, d1, e1, rfl, rfl, d2, e2, rfl, ⟨k, hk, rfl⟩, d3, e3, rfl, ⟨x, hx, rfl⟩, rfl⟩
    exact ⟨.put k x 0 0, rfl, rfl, (keys_ok hk).1, (words_ok hx).1, (keys_ok hk).2, (words_ok hx).2, n0⟩
  · rintro ds ⟨d1, e1, rfl, _, d2, e2, rfl, _, rfl⟩
    exact Nat.le_of_ble_eq_true rfl
  · rintro d ⟨ds, rfl, d1, e1, rfl, rfl, d2, e2, rfl, ⟨k, hk, rfl⟩, rfl⟩
    exact ⟨.drop k 0 0, rfl, rfl, (keys_ok hk).1, (keys_ok hk).2, n0⟩
end
end LW

namespace LW
open PySem L2 DV
local macro_rules | `(tactic| walk_at "dv") => `(tactic| first
  | exact d_int _ | exact d_str _ | exact d_bl _ | exact d_non
  | (apply d_varZ (by assumption); rfl)
  | (apply d_var (by assumption); rfl)
  | exact ds_nil
  | (apply ds_cons; walk_at "dv"; walk_at "dv")
  | (apply d_op; walk_at "dv"; walk_at "dv"; walk_at "rv")
  | (apply d_tup; walk_at "dv"; (simp only [List.length]; omega))
  | (apply d_lst; walk_at "dv"; (simp only [List.length]; omega))
  | (apply d_neg; walk_at "dv")
  | (apply d_notV; walk_at "dv")
  | (apply d_isi; walk_at "dv"; rfl)
  | (apply d_isi2; walk_at "dv"; rfl; rfl)
  | (apply d_cb; walk_at "dv"; walk_at "rc")
  | (apply d_andV; walk_at "dv"; (intro _; walk_at "dv"))
  | (apply d_orV; walk_at "dv"; (intro _; walk_at "dv"))
  | (apply d_chain; walk_at "dv"; walk_at "dv"; walk_at "dv"; walk_at "rv"; walk_at "rv")
  | (apply b_and; walk_at "dv"; (intro _; walk_at "dv"))
  | (apply b_or; walk_at "dv"; (intro _; walk_at "dv"))
  | (apply b_test; walk_at "dv")
  | (apply b_B; walk_at "dv")
  | (apply b_not; walk_at "dv")
  | exact b_yes)
local macro_rules | `(tactic| walk_at "rv") => `(tactic| first
  | exact rv_addI | exact rv_subI | exact rv_ltI | exact rv_leI | exact rv_gtI | exact rv_geI
  | exact rv_eqAI | exact rv_eqAB | exact rv_neAI | exact rv_neAB | exact rv_eqAS | exact rv_eqAN
  | exact rv_ixT rfl | exact rv_ixL rfl
  | (apply rv_modI; first | assumption | decide | omega)
  | (apply rv_divI; (first | assumption | decide | omega); (first | assumption | decide | omega))
  | (apply rv_mulI; (first | assumption | decide | omega); (first | assumption | decide | omega)))
local macro_rules | `(tactic| walk_at "rc") => `(tactic| first
  | exact rc_lenL | exact rc_lenT | exact rc_max | exact rc_min | exact rc_int | exact rc_intB | exact rc_tupL | exact rc_tupT | exact rc_listT | exact rc_listL | exact rc_abs)

local macro_rules | `(tactic| walk_at "rv") => `(tactic| first | exact rv_addIB)
local macro_rules | `(tactic| walk_at "dv") => `(tactic| first
  | (apply d_slTh; walk_at "dv"; walk_at "dv"; rfl)
  | (apply d_slTl; walk_at "dv"; walk_at "dv"; rfl)
  | (apply d_slTb; walk_at "dv"; walk_at "dv"; walk_at "dv"; rfl)
  | (apply d_slLh; walk_at "dv"; walk_at "dv"; rfl)
  | (apply d_slLl; walk_at "dv"; walk_at "dv"; rfl))

local macro_rules | `(tactic| walk_at "rc") => `(tactic| exact rc_lenL)
section
variable {P : Program} {w : World} {K : PySem.W.Frag} {mg : Str → Option Value} {base : Heap}
/-! the RECORDS of a DEED -/
def setR : Rc → Int → Int → Rc
  | .blank, _, _ => .blank
  | .put k w _ _, p, l => .put k w p l
  | .drop k _ _, p, l => .drop k p l
def partsL (rs : List Rc) : List Rc := List.zipWith (fun (k : Nat) r => setR r (k : Int) ((rs.length : Int) - 1 - (k : Int))) (List.range rs.length) rs
def cat2 : PyData → List PyData → PyData
  | .tuple xs, ys => .tuple (xs ++ ys)
  | d, _ => d
def onPart (n : Int) : PyData → PyData → PyData
  | .int k, d => cat2 d [.int k, .int (n - 1 - k)]
  | _, _ => .none
theorem onPart_eq (n : Int) (k : Nat) {r : Rc} (h : isB r = false) : onPart n (.int (0 + (k : Int))) (sgD r) = dR (setR r (k : Int) (n - 1 - (k : Int))) := by
  rw [Int.zero_add]
  cases r with
  | blank => cases h
  | put k w p l => rfl
  | drop k p l => rfl
theorem parts_eq (n : Int) : ∀ (m : List Nat) (rs : List Rc), (∀ r ∈ rs, isB r = false) → List.zipWith (onPart n) (m.map fun (i : Nat) => PyData.int (0 + (i : Int))) (rs.map sgD) = (List.zipWith (fun (k : Nat) r => setR r (k : Int) (n - 1 - (k : Int))) m rs).map dR
  | [], _, _ => by simp
  | _ :: _, [], _ => by simp
  | k :: m, r :: rs, h => by
    show onPart n (.int (0 + (k : Int))) (sgD r) :: List.zipWith (onPart n) (m.map fun (i : Nat) => PyData.int (0 + (i : Int))) (rs.map sgD) = dR (setR r (k : Int) (n - 1 - (k : Int))) :: (List.zipWith (fun (k : Nat) r => setR r (k : Int) (n - 1 - (k : Int))) m rs).map dR
    rw [onPart_eq n k (h r (List.mem_cons_self ..)), parts_eq n m rs fun r hr => h r (List.mem_cons_of_mem _ hr)]
def dealD (x : PyData) (rs : List Rc) : Prop := (∃ r, rs = [r] ∧ x = sgD r) ∨ x = .tuple [.str "lot", .tuple (rs.map sgD)]
theorem d_catS {K : PySem.W.Frag} {σ : St} {b : Hp} {te tb : TE} {r : Rc} {p l : Int} (h : EvD K te σ b (sgD r)) (h2 : EvD K tb σ b (.tuple [.int p, .int l])) : EvD K (tOp (rAddB K) te tb) σ b (cat2 (sgD r) [.int p, .int l]) := by
  cases r with
  | blank => exact d_op h h2 (rv_addTB (ds := []) (show 0 + 2 ≤ 100000 by decide))
  | put k w p l => exact d_op h h2 (rv_addTB (ds := [.str "put", .str k, .str w]) (by show 3 + 2 ≤ 100000; decide))
  | drop k p l => exact d_op h h2 (rv_addTB (ds := [.str "drop", .str k]) (by show 2 + 2 ≤ 100000; decide))
abbrev RParts : List PyData → PyData → Prop := fun ds d => ∃ x rs, ds = [x] ∧ dealD x rs ∧ rs.length ≤ 1000 ∧ (∀ r ∈ rs, isB r = false) ∧ d = .list ((partsL rs).map dR)
theorem ok__law_parts (T : Txt K mg) : FnOk P w K mg base CX0 1 T.f__law_parts T.d__law_parts ["act"] (spD K RParts) := by
  refine T.F__law_parts.ok sc__law_parts (by rintro vs H Q E ⟨b, ds, d, hs, hd, ⟨x, rs, rfl, _⟩, q⟩; exact hd.length) (fun cdv A outer s H vs Q E hr h => ?_)
  obtain ⟨b, ds, d, hs, hd, ⟨x, rs, rfl, hx, hl, hB, rfl⟩, q⟩ := h
  refine ⟨_, (pss_cons (ps_set (i := 1) sc__law_parts.nd rfl (by first | exact Or.inl rfl | exact Or.inr rfl) (pe_ifExp (pt_cmpR (op_eqA hr.units) (pe_ix (ix_seqK (K := K) rfl) (pv 0) pe_int (fun _ _ => rfl)) pe_str (nomark _)) (pe_ix (ix_seqK (K := K) rfl) (pv 0) pe_int (fun _ _ => rfl)) (pe_tup (pa_cons (pv 0) pa_nil))))
    (pss_one (ps_ret (pe_lc (own := [("k", 2), ("own", 3)]) (g := gTup K 2 (gCons (gName 2) (gCons (gName 3) gNil))) rfl sc__law_parts.nd (pi_enumT (by rfl) T.z_enumerate (pa_cons (pv 1) pa_nil)) (blkOk_by (N := ["act", "rows_so", "k", "own"]) (sc := defScope s__law_parts) (by decide +kernel)) (fun _ _ _ _ _ => (pg_tup (n := 2) rfl (pgs_cons (pg_name (i := 2) sc__law_parts.nd rfl (by first | exact Or.inl rfl | exact Or.inr rfl)) (pgs_cons (pg_name (i := 3) sc__law_parts.nd rfl (by first | exact Or.inl rfl | exact Or.inr rfl)) pgs_nil)))) (fun _ _ _ _ _ => pts_nil) (fun _ _ _ _ _ => (pe_op (op_addBK (K := K) rfl) (pv 3) (pe_tup (pa_cons (pv 2) (pa_cons (pe_op op_sub (pe_op op_sub (pe_callB (call_lenK (K := K) rfl) (by rfl) T.z_len (by decide +kernel) (pa_cons (pv 1) pa_nil)) pe_int) (pv 2)) pa_nil))))))))), ?_⟩
  have Z := S.init (B := []) hs hd ["act", "rows_so", "k", "own"]
  have first : EvD K (tIf (tTest (tOp (rEqA K) (tOp (rIx K) (tVar 0) (tC (.int 0))) (tC (.str "lot")))) (tOp (rIx K) (tVar 0) (tC (.int 1))) (tTup (tCons (tVar 0) tNil))) (start ["act", "rows_so", "k", "own"] vs) b (.tuple (rs.map sgD)) := by
    rcases hx with ⟨r, rfl, rfl⟩ | rfl
    · have hr := hB r (List.mem_cons_self ..)
      cases r with
      | blank => cases hr
      | put k w p l => exact d_if (c := false) (b_test (d_op (d_op (d_varZ Z rfl) (d_int 0) (rv_ixT (ds := [.str "put", .str k, .str w]) rfl)) (d_str _) rv_eqAS)) (fun z => by cases z) fun _ => d_tup (ds_cons (d_varZ Z rfl) ds_nil) (show 1 ≤ 100000 by decide)
      | drop k p l => exact d_if (c := false) (b_test (d_op (d_op (d_varZ Z rfl) (d_int 0) (rv_ixT (ds := [.str "drop", .str k]) rfl)) (d_str _) rv_eqAS)) (fun z => by cases z) fun _ => d_tup (ds_cons (d_varZ Z rfl) ds_nil) (show 1 ≤ 100000 by decide)
    · exact d_if (c := true) (b_test (d_op (d_op (d_varZ Z rfl) (d_int 0) (rv_ixT (ds := [.str "lot", .tuple (rs.map sgD)]) rfl)) (d_str _) rv_eqAS)) (fun _ => d_op (d_varZ Z rfl) (d_int 1) (rv_ixT (ds := [.str "lot", .tuple (rs.map sgD)]) rfl)) fun z => by cases z
  refine q_asg Z first fun σ b2 h2 F Z => ?_
  refine s_retE Z (d_lcET (es := rs.map sgD) (onPart (rs.length : Int)) Z.sl (ds_cons (d_varZ Z rfl) ds_nil) (by rw [List.length_map]; omega) (fun x y => wipe2 (by decide)) fun m e σ2 b3 hm e3 Sl => ?_) ?_ q
  · obtain ⟨r, hr, rfl⟩ := List.mem_map.mp (List.mem_of_getElem? hm)
    exact d_catS (d_var Sl rfl) (d_tup (ds_cons (d_var Sl rfl) (ds_cons (d_op (d_op (EvD.is (d_cb (ds_cons (d_var Sl rfl) ds_nil) (rc_lenT (ds := rs.map sgD))) (by rw [List.length_map])) (d_int 1) rv_subI) (d_var Sl rfl) rv_subI) ds_nil)) (show 2 ≤ 100000 by decide))
  · unfold partsL rng
    rw [List.length_map, parts_eq _ _ _ hB]
abbrev RDeal : List PyData → PyData → Prop := fun _ d => ∃ rs, dealD d rs ∧ rs.length ≤ 5 ∧ ∀ r ∈ rs, good r
theorem ok__law_deal (T : Txt K mg) : FnOk P w K mg base CX0 6 T.f__law_deal T.d__law_deal ["tin"] (spT K 22 RDeal (· = [])) := by
  refine T.F__law_deal.ok sc__law_deal (by rintro vs H Q E ⟨b, a, ws, ds, n, rfl, hs, hb, hT, hn, hd, rfl, q⟩; exact congrArg Nat.succ hd.length) (fun cdv A outer s H vs Q E hr h => ?_)
  obtain ⟨b, a, ws, ds, n, rfl, hs, hb, hT, hn, hd, rfl, q⟩ := h
  cases hd
  refine ⟨_, (pss_cons (ps_if (pt_cmpR (op_eqA hr.units) (pe_call (ok__law_take T) (hr.mono (by omega)) (by rfl) T.m__law_take T.F__law_take.kp T.b__law_take .nil pass0 (pa_cons (pv 0) (pa_cons pe_int pa_nil))) pe_int (nomark _)) (pss_one (ps_ret (pe_call (ok__law_lone T) (hr.mono (by omega)) (by rfl) T.m__law_lone T.F__law_lone.kp T.b__law_lone .nil pass0 (pa_cons (pv 0) pa_nil)))) pss_nil)
    (pss_one (ps_ret (pe_tup (pa_cons pe_str (pa_cons (pe_callTy call_tuple_of (by rfl) T.z_tuple (by decide +kernel) (pa_cons (pe_lc (own := [("lap", 1)]) (g := gName 1) rfl sc__law_deal.nd (pi_range1 rfl T.z_range (pa_cons (pe_op op_addA pe_int (pe_call (ok__law_take T) (hr.mono (by omega)) (by rfl) T.m__law_take T.F__law_take.kp T.b__law_take .nil pass0 (pa_cons (pv 0) (pa_cons pe_int pa_nil)))) pa_nil)) (blkOk_by (N := ["tin", "lap"]) (sc := defScope s__law_deal) (by decide +kernel)) (fun _ _ _ _ _ => (pg_name (i := 1) sc__law_deal.nd rfl (by first | exact Or.inl rfl | exact Or.inr rfl))) (fun _ _ _ _ _ => pts_nil) (fun _ _ _ _ _ => (pe_call (ok__law_lone T) (hr.mono (by omega)) (by rfl) T.m__law_lone T.F__law_lone.kp T.b__law_lone .nil pass0 (pa_cons (pv 0) pa_nil)))) pa_nil)) pa_nil)))))), ?_⟩
  have Z : S K [a] b H (start ["tin", "lap"] [.ref a]) b H [.adr a, .un] := ⟨Fr.rfl' hs, .cons rfl (.cons True.intro .nil)⟩
  have hn' : n + 22 ≤ mostDraws := hn
  refine q_whenT' Z hb mem1 hT (c := 1 + 0) (by omega) (t_eqI (t_callT Z.sl rfl (ds_cons (d_int 2) ds_nil) ⟨2, rfl, by decide, by decide⟩) (by decide)) (fun b2 h2 Z hb hT => ?_) (fun b2 h2 Z hb hT => ?_)
  · refine s_retT Z hb mem1 hT (c := 4) (by omega) (t_callT1 Z.sl rfl rfl) fun v d b2 h2 hd F hb T D => ?_
    obtain ⟨r, rfl, hg⟩ := hd
    refine q v _ b2 h2 ⟨[r], .inl ⟨r, rfl, rfl⟩, show 1 ≤ 5 by decide, fun r' hr' => ?_⟩ F hb (T.le (by omega)) D
    have : r' = r := by simpa using hr'
    rw [this]; exact hg
  · refine s_retT Z hb mem1 hT (c := 0 + (1 + 0 + 5 * 4 + 0)) (by omega) (t_tup (ts_cons (t_pure (d_str _)) (ts_cons (t_cb1 (R1 := fun d => ∃ rs : List Rc, d = .tuple (rs.map sgD) ∧ rs.length ≤ 5 ∧ ∀ r ∈ rs, good r) (t_lcRT (lo := 2) (hi := 5) (c := 4) (R := RLone []) Z.sl (ts_mono (ts_cons (t_plus (t_callT Z.sl rfl (ds_cons (d_int 4) ds_nil) ⟨4, rfl, by decide, by decide⟩)) ts_nil (by decide) (by decide)) ?_) (by decide) ⟨by decide, by decide, by decide⟩ (by decide) (fun x => wipe1) fun i σ2 b2 e Sl => t_callT1 Sl rfl rfl) ?_) ts_nil (by decide) (by decide)) (by decide) (by decide)) ?_) fun v d b2 h2 hd F hb T D => ?_
    · rintro ds ⟨d, es, rfl, ⟨r, r0, r1, rfl⟩, rfl⟩
      exact ⟨_, rfl, by omega, by omega⟩
    · rintro d ⟨ds, rfl, l1, l2, hR⟩
      have key : ∀ ds : List PyData, (∀ d ∈ ds, RLone [] d) → ∃ rs : List Rc, ds = rs.map sgD ∧ ∀ r ∈ rs, good r := fun ds => by
        induction ds with
        | nil => exact fun _ => ⟨[], rfl, fun _ z => by cases z⟩
        | cons d ds ih =>
          intro h
          obtain ⟨r, rfl, hg⟩ := h d (List.mem_cons_self ..)
          obtain ⟨rs, rfl, hgs⟩ := ih fun d hd => h d (List.mem_cons_of_mem _ hd)
          exact ⟨r :: rs, rfl, fun r' hr' => by
            rcases List.mem_cons.mp hr' with rfl | q
            · exact hg
            · exact hgs r' q⟩
      obtain ⟨rs, rfl, hg⟩ := key ds hR
      exact ⟨_, rc_tupL, rs, rfl, by rw [List.length_map] at l2; omega, hg⟩
    · rintro ds ⟨d1, e1, rfl, _, d2, e2, rfl, _, rfl⟩
      exact Nat.le_of_ble_eq_true rfl
    · obtain ⟨ds, rfl, d1, e1, rfl, rfl, d2, e2, rfl, ⟨rs, rfl, hl, hg⟩, rfl⟩ := hd
      exact q v _ b2 h2 ⟨rs, .inr rfl, hl, hg⟩ F hb (T.le (by omega)) D
abbrev RNote : List PyData → PyData → Prop := fun _ d => ∃ r, d = dR r ∧ okR r ∧ pR r ≤ 10
theorem ok__law_note (T : Txt K mg) : FnOk P w K mg base CX0 6 T.f__law_note T.d__law_note ["tin"] (spT K 7 RNote (· = [])) := by
  refine T.F__law_note.ok sc__law_note (by rintro vs H Q E ⟨b, a, ws, ds, n, rfl, hs, hb, hT, hn, hd, rfl, q⟩; exact congrArg Nat.succ hd.length) (fun cdv A outer s H vs Q E hr h => ?_)
  obtain ⟨b, a, ws, ds, n, rfl, hs, hb, hT, hn, hd, rfl, q⟩ := h
  cases hd
  refine ⟨_, (pss_cons (ps_if (pt_cmpR (op_eqA hr.units) (pe_call (ok__law_take T) (hr.mono (by omega)) (by rfl) T.m__law_take T.F__law_take.kp T.b__law_take .nil pass0 (pa_cons (pv 0) (pa_cons pe_int pa_nil))) pe_int (nomark _)) (pss_one (ps_ret (pe_call0 (ok__law_blank T) (hr.mono (by omega)) (by rfl) T.m__law_blank T.F__law_blank.kp T.b__law_blank .nil pass0))) pss_nil)
    (pss_one (ps_ret (pe_op (op_addBK (K := K) rfl) (pe_call (ok__law_lone T) (hr.mono (by omega)) (by rfl) T.m__law_lone T.F__law_lone.kp T.b__law_lone .nil pass0 (pa_cons (pv 0) pa_nil)) (pe_tup (pa_cons (pe_call (ok__law_take T) (hr.mono (by omega)) (by rfl) T.m__law_take T.F__law_take.kp T.b__law_take .nil pass0 (pa_cons (pv 0) (pa_cons pe_int pa_nil))) (pa_cons (pe_call (ok__law_take T) (hr.mono (by omega)) (by rfl) T.m__law_take T.F__law_take.kp T.b__law_take .nil pass0 (pa_cons (pv 0) (pa_cons pe_int pa_nil))) pa_nil))))))), ?_⟩
  have Z : S K [a] b H (start ["tin"] [.ref a]) b H [.adr a] := ⟨Fr.rfl' hs, .cons rfl .nil⟩
  have hn' : n + 7 ≤ mostDraws := hn
  refine q_whenT' Z hb mem1 hT (c := 1 + 0) (by omega) (t_eqI (t_callT Z.sl rfl (ds_cons (d_int 5) ds_nil) ⟨5, rfl, by decide, by decide⟩) (by decide)) (fun b2 h2 Z hb hT => ?_) (fun b2 h2 Z hb hT => ?_)
  · refine s_retT Z hb mem1 hT (c := 0) (by omega) (t_pure (d_call0 ⟨rfl, rfl⟩)) fun v d b2 h2 hd F hb T D => ?_
    exact q v d b2 h2 ⟨.blank, hd, True.intro, by decide⟩ F hb (T.le (by omega)) D
  · refine s_retT Z hb mem1 hT (c := 4 + (1 + (1 + 0))) (by omega) (t_op (R := RNote []) (t_callT1 Z.sl rfl rfl) (t_tup (ts_cons (t_callT Z.sl rfl (ds_cons (d_int 4) ds_nil) ⟨4, rfl, by decide, by decide⟩) (ts_cons (t_callT Z.sl rfl (ds_cons (d_int 4) ds_nil) ⟨4, rfl, by decide, by decide⟩) ts_nil (by decide) (by decide)) (by decide) (by decide)) ?_) (by decide) (by decide) fun d1 d2 e1 e2 => ?_) fun v d b2 h2 hd F hb T D => q v d b2 h2 hd F hb (T.le (by omega)) D
    · rintro ds ⟨d1, e1, rfl, _, d2, e2, rfl, _, rfl⟩
      exact Nat.le_of_ble_eq_true rfl
    · obtain ⟨r, rfl, hb, ho⟩ := e1
      obtain ⟨ds, rfl, d1, _, rfl, ⟨_, p, e5, p0, p1, rfl⟩, d2, _, rfl, ⟨_, l, e6, l0, l1, rfl⟩, rfl⟩ := e2
      cases e5
      cases e6
      have hn : okN p l := ⟨p0, by omega, l0, by omega⟩
      cases r with
      | blank => cases hb
      | put k w p' l' =>
        obtain ⟨h1, h2, h3, h4, _⟩ := ho
        exact ⟨_, rv_addTB (ds := [.str "put", .str k, .str w]) (show 3 + 2 ≤ 100000 by decide), .put k w p l, rfl, ⟨h1, h2, h3, h4, hn⟩, by show p ≤ 10; omega⟩
      | drop k p' l' =>
        obtain ⟨h1, h2, _⟩ := ho
        exact ⟨_, rv_addTB (ds := [.str "drop", .str k]) (show 2 + 2 ≤ 100000 by decide), .drop k p l, rfl, ⟨h1, h2, hn⟩, by show p ≤ 10; omega⟩
end
end LW

namespace LW
open PySem L2 DV
local macro_rules | `(tactic| walk_at "dv") => `(tactic| first
  | exact d_int _ | exact d_str _ | exact d_bl _ | exact d_non
  | (apply d_varZ (by assumption); rfl)
  | (apply d_var (by assumption); rfl)
  | exact ds_nil
  | (apply ds_cons; walk_at "dv"; walk_at "dv")
  | (apply d_op; walk_at "dv"; walk_at "dv"; walk_at "rv")
  | (apply d_tup; walk_at "dv"; (simp only [List.length]; omega))
  | (apply d_lst; walk_at "dv"; (simp only [List.length]; omega))
  | (apply d_neg; walk_at "dv")
  | (apply d_notV; walk_at "dv")
  | (apply d_isi; walk_at "dv"; rfl)
  | (apply d_isi2; walk_at "dv"; rfl; rfl)
  | (apply d_cb; walk_at "dv"; walk_at "rc")
  | (apply d_andV; walk_at "dv"; (intro _; walk_at "dv"))
  | (apply d_orV; walk_at "dv"; (intro _; walk_at "dv"))
  | (apply d_chain; walk_at "dv"; walk_at "dv"; walk_at "dv"; walk_at "rv"; walk_at "rv")
  | (apply b_and; walk_at "dv"; (intro _; walk_at "dv"))
  | (apply b_or; walk_at "dv"; (intro _; walk_at "dv"))
  | (apply b_test; walk_at "dv")
  | (apply b_B; walk_at "dv")
  | (apply b_not; walk_at "dv")
  | exact b_yes)
local macro_rules | `(tactic| walk_at "rv") => `(tactic| first
  | exact rv_addI | exact rv_subI | exact rv_ltI | exact rv_leI | exact rv_gtI | exact rv_geI
  | exact rv_eqAI | exact rv_eqAB | exact rv_neAI | exact rv_neAB | exact rv_eqAS | exact rv_eqAN
  | exact rv_ixT rfl | exact rv_ixL rfl
  | (apply rv_modI; first | assumption | decide | omega)
  | (apply rv_divI; (first | assumption | decide | omega); (first | assumption | decide | omega))
  | (apply rv_mulI; (first | assumption | decide | omega); (first | assumption | decide | omega)))
local macro_rules | `(tactic| walk_at "rc") => `(tactic| first
  | exact rc_lenL | exact rc_lenT | exact rc_max | exact rc_min | exact rc_int | exact rc_intB | exact rc_tupL | exact rc_tupT | exact rc_listT | exact rc_listL | exact rc_abs)

local macro_rules | `(tactic| walk_at "rv") => `(tactic| first | exact rv_addIB)
local macro_rules | `(tactic| walk_at "dv") => `(tactic| first
  | (apply d_slTh; walk_at "dv"; walk_at "dv"; rfl)
  | (apply d_slTl; walk_at "dv"; walk_at "dv"; rfl)
  | (apply d_slTb; walk_at "dv"; walk_at "dv"; walk_at "dv"; rfl)
  | (apply d_slLh; walk_at "dv"; walk_at "dv"; rfl)
  | (apply d_slLl; walk_at "dv"; walk_at "dv"; rfl))

theorem allAhead_iff {rs : List Rc} {f m : Nat} : allAhead rs f m = true ↔ ∀ u, u < m → aheadB (rg rs (f + u)) (rg rs (f + u + 1)) = true := by
  unfold allAhead
  rw [List.all_eq_true]
  constructor
  · intro h u hu
    exact h _ (List.mem_map.mpr ⟨u, List.mem_range.mpr hu, rfl⟩)
  · intro h x hx
    obtain ⟨u, hu, rfl⟩ := List.mem_map.mp hx
    exact h u (List.mem_range.mp hu)
theorem first_yes {rs : List Rc} {i m : Nat} (hb : isB (rg rs i) = false) (hl : lR (rg rs i) = 0) (hm : m = min (pR (rg rs i)).toNat i) (h : ∀ t, t < m → aheadB (rg rs (i - 1 - t)) (rg rs (i - t)) = true) : firstF rs i = some (i - m) := by
  unfold firstF
  rw [hb, decide_eq_true hl]
  have e : firstN rs i = i - m := by unfold firstN; rw [hm]
  rw [if_neg (by decide), e, if_pos]
  refine allAhead_iff.mpr fun u hu => ?_
  have h1 := h (m - 1 - u) (by omega)
  rw [show i - 1 - (m - 1 - u) = i - m + u by omega, show i - (m - 1 - u) = i - m + u + 1 by omega] at h1
  exact h1
theorem first_no {rs : List Rc} {i t : Nat} (hb : isB (rg rs i) = false) (hl : lR (rg rs i) = 0) (ht : t < min (pR (rg rs i)).toNat i) (h : aheadB (rg rs (i - 1 - t)) (rg rs (i - t)) = false) : firstF rs i = none := by
  unfold firstF
  rw [hb, decide_eq_true hl]
  rw [if_neg (by decide), if_neg]
  intro ha
  have e : firstN rs i = i - min (pR (rg rs i)).toNat i := rfl
  have h1 := allAhead_iff.mp ha (i - 1 - t - firstN rs i) (by omega)
  rw [show firstN rs i + (i - 1 - t - firstN rs i) = i - 1 - t by omega, show i - 1 - t + 1 = i - t by omega, h] at h1
  cases h1
def backD (rs : List Rc) (i : Nat) : PyData :=
  match firstF rs i with
  | none => .none
  | some f => .tuple (partsFrom rs f i)
theorem backD_no {rs : List Rc} {i : Nat} (h : firstF rs i = none) : backD rs i = .none := by unfold backD; rw [h]
theorem backD_yes {rs : List Rc} {i f : Nat} (h : firstF rs i = some f) : backD rs i = .tuple (partsFrom rs f i) := by unfold backD; rw [h]
theorem rg_get {rs : List Rc} {i : Nat} (h : i < rs.length) : rs[i] = rg rs i := by
  unfold rg
  rw [List.getD_eq_getElem?_getD, List.getElem?_eq_getElem h]
  rfl
theorem parts_cons {rs : List Rc} {f i : Nat} (h : f < i) (hi : i < rs.length) : partsFrom rs f i = sgD (rg rs f) :: partsFrom rs (f + 1) i := by
  unfold partsFrom
  have h1 : f < rs.length := by omega
  rw [List.drop_eq_getElem_cons h1, show i + 1 - f = (i + 1 - (f + 1)) + 1 by omega, List.take_succ_cons, List.map_cons, rg_get h1]
theorem parts_one {rs : List Rc} {i : Nat} (hi : i < rs.length) : partsFrom rs i i = [sgD (rg rs i)] := by
  unfold partsFrom
  rw [List.drop_eq_getElem_cons hi, show i + 1 - i = 0 + 1 by omega, List.take_succ_cons, List.map_cons, rg_get hi]
  rfl
section
variable {P : Program} {w : World} {K : PySem.W.Frag} {mg : Str → Option Value} {base : Heap}
abbrev RBack : List PyData → PyData → Prop := fun ds d => ∃ (rs : List Rc) (i : Nat), ds = [rowD rs, .int (i : Int)] ∧ rs.length ≤ 1000 ∧ i < rs.length ∧ (∀ r ∈ rs, okR r) ∧ d = backD rs i
theorem ok__law_back (T : Txt K mg) : FnOk P w K mg base CX0 2 T.f__law_back T.d__law_back ["row_so", "i"] (spD K RBack) := by
  refine T.F__law_back.ok sc__law_back (by rintro vs H Q E ⟨b, ds, d, hs, hd, ⟨rs, i, rfl, _⟩, q⟩; exact hd.length) (fun cdv A outer s H vs Q E hr h => ?_)
  obtain ⟨b00, ds, d, hs, hd, ⟨rs, i, rfl, hl, hi, hok, rfl⟩, q⟩ := h
  refine ⟨_, (pss_cons (ps_set (i := 2) sc__law_back.nd rfl (by first | exact Or.inl rfl | exact Or.inr rfl) (pe_ix ix_seq (pv 0) (pv 1) (fun _ _ => rfl)))
    (pss_cons (ps_if (PW.pt (pw_or (pt_cmpR (op_eqA hr.units) (pv 2) (pe_call0 (ok__law_blank T) (hr.mono (by omega)) (by rfl) T.m__law_blank T.F__law_blank.kp T.b__law_blank .nil pass0) (nomark _)) (pw_or1 (pt_cmpR op_gt (pe_ix ix_seq (pv 2) (pe_un un_neg pe_int) (fun _ _ => rfl)) pe_int (nomark _))))) (pss_one (ps_ret pe_non)) pss_nil)
    (pss_cons (ps_set (i := 3) sc__law_back.nd rfl (by first | exact Or.inl rfl | exact Or.inr rfl) (pe_lst (pa_cons (pe_slice sl_tupA (pv 2) po_none (po_some (pe_un un_neg pe_int))) pa_nil)))
    (pss_cons (ps_for PassesOwn.never rfl (pi_range2 rfl T.z_range (pa_cons pe_int (pa_cons (pe_op op_addA (pe_ix ix_seq (pv 2) (pe_un un_neg pe_int) (fun _ _ => rfl)) pe_int) pa_nil))) (pg_name (i := 4) sc__law_back.nd rfl (by first | exact Or.inl rfl | exact Or.inr rfl)) (pss_cons (ps_if (pt_cmpR op_gt (pv 4) (pv 1) (nomark _)) (pss_one ps_break) pss_nil)
    (pss_cons (ps_set (i := 5) sc__law_back.nd rfl (by first | exact Or.inl rfl | exact Or.inr rfl) (pe_ix ix_seq (pv 0) (pe_op op_sub (pv 1) (pv 4)) (fun _ _ => rfl)))
    (pss_cons (ps_if (PW.pt (pw_or (pt_cmpR (op_eqA hr.units) (pv 5) (pe_call0 (ok__law_blank T) (hr.mono (by omega)) (by rfl) T.m__law_blank T.F__law_blank.kp T.b__law_blank .nil pass0) (nomark _)) (pw_or1 (pt_cmpR (op_neA hr.units) (pe_slice sl_tupA (pv 5) (po_some (pe_un un_neg pe_int)) po_none) (pe_tup (pa_cons (pe_op op_sub (pe_ix ix_seq (pv 2) (pe_un un_neg pe_int) (fun _ _ => rfl)) (pv 4)) (pa_cons (pv 4) pa_nil))) (nomark _))))) (pss_one (ps_ret pe_non)) pss_nil)
    (pss_one (ps_set (i := 3) sc__law_back.nd rfl (by first | exact Or.inl rfl | exact Or.inr rfl) (pe_op op_addA (pe_lst (pa_cons (pe_slice sl_tupA (pv 5) po_none (po_some (pe_un un_neg pe_int))) pa_nil)) (pv 3))))))))
    (pss_one (ps_ret (pe_callTy call_tuple_of (by rfl) T.z_tuple (by decide +kernel) (pa_cons (pv 3) pa_nil)))))))), ?_⟩
  have Z := S.init (B := []) hs hd ["row_so", "i", "own", "found", "k", "its"]
  have oa := rg_ok hok i
  obtain ⟨p0, p1, l0, l1⟩ := okR_nn oa
  refine q_asg Z (d_op (by walk_at "dv") (by walk_at "dv") (rv_ixT (row_at hi))) fun σ b h F Z => ?_
  have bl : ∀ {σ : St} {b : Hp} {te : TE} {r : Rc}, EvD K te σ b (dR r) → okR r → EvB (tTest (tOp (rEqA K) te (tCall (spD K fun ds d => ds = [] ∧ d = blankD) [] E0 tNil))) σ b (isB r) := fun h ho => EvB.is (b_test (d_op h (d_call0 ⟨rfl, rfl⟩) (rv_eqAD (sh_dR _ ho) sh_blank))) (eq_blank _)
  cases hb : isB (rg rs i) with
  | true =>
    have hq : backD rs i = .none := backD_no (by unfold firstF; rw [hb]; rfl)
    apply q_whenT Z
    exact b_or (y := true) (bl (r := rg rs i) (by walk_at "dv") oa) fun z => by rw [hb] at z; cases z
    rw [hb]; rfl
    intro b2 h2 F Z
    exact s_retE Z (by walk_at "dv") hq.symm q
  | false =>
    by_cases hl0 : 0 < lR (rg rs i)
    · have hq : backD rs i = .none := backD_no (by
        unfold firstF
        rw [hb, decide_eq_false (by omega)]; rfl)
      apply q_whenT Z
      exact b_or (bl (r := rg rs i) (by walk_at "dv") oa) fun _ => b_test (d_op (d_lft (r := rg rs i) (by walk_at "dv") hb) (d_int 0) rv_gtI)
      rw [hb, decide_eq_true hl0]; rfl
      intro b2 h2 F Z
      exact s_retE Z (by walk_at "dv") hq.symm q
    · have hl1 : lR (rg rs i) = 0 := by omega
      apply q_whenF Z
      exact b_or (bl (r := rg rs i) (by walk_at "dv") oa) fun _ => b_test (d_op (d_lft (r := rg rs i) (by walk_at "dv") hb) (d_int 0) rv_gtI)
      rw [hb, decide_eq_false hl0]; rfl
      intro b2 h2 F Z
      refine q_asg Z (d := .list (partsFrom rs i i)) (EvD.is (d_lst (ds_cons (d_sg (r := rg rs i) (by walk_at "dv")) ds_nil) (show 1 ≤ 100000 by decide)) (by rw [parts_one hi])) fun σ b h F Z => ?_
      refine q_forR2 Z (lo := 1) (m := pR (rg rs i) + 1) (ds_cons (d_int 1) (ds_cons (d_op (d_prt (r := rg rs i) (d_varZ Z rfl) hb) (d_int 1) rv_addI) ds_nil)) ⟨by omega, by omega, by omega, by omega⟩ (fun j σ h => ∃ b1 z4 z5, S K [] b00 H σ b1 h [.dat (rowD rs), .dat (.int (i : Int)), .dat (dR (rg rs i)), .dat (.list (partsFrom rs (i - j) i)), z4, z5] ∧ j ≤ i ∧ (j : Int) ≤ pR (rg rs i) ∧ (∀ t, t < j → aheadB (rg rs (i - 1 - t)) (rg rs (i - t)) = true) ∧ isB (rg rs (i - j)) = false ∧ pR (rg rs (i - j)) = pR (rg rs i) - j ∧ lR (rg rs (i - j)) = j) (fun b2 h2 F Z2 => ?_) (fun j σ h hj hP => ?_) (fun σ h hP => ?_)
      · exact ⟨b2, _, _, Z2, Nat.zero_le _, p0, fun t ht => absurd ht (Nat.not_lt_zero _), hb, by simp, by rw [Nat.sub_zero, hl1]; rfl⟩
      · obtain ⟨b1, z4, z5, Z, ji, jp, ha, jb, jq, jl⟩ := hP
        have Z : S K [] b00 H (σ.set 4 (some (.int (1 + (j : Int))))) b1 h [.dat (rowD rs), .dat (.int (i : Int)), .dat (dR (rg rs i)), .dat (.list (partsFrom rs (i - j) i)), .dat (.int (1 + (j : Int))), z5] := ⟨Z.fr, Z.sl.set (z := .dat (.int (1 + (j : Int)))) ⟨_, rfl, .int _⟩ 4⟩
        by_cases hji : j = i
        · apply q_whenT Z
          exact b_test (d_op (d_varZ Z rfl) (d_varZ Z rfl) rv_gtI)
          exact decide_eq_true (by omega)
          intro b2 h2 F Z
          have hf := first_yes (m := j) hb hl1 (by omega) ha
          exact s_retE Z (d_cb (ds_cons (d_varZ Z rfl) ds_nil) rc_tupL) (backD_yes hf).symm q
        · apply q_whenF Z
          exact b_test (d_op (d_varZ Z rfl) (d_varZ Z rfl) rv_gtI)
          exact decide_eq_false (by omega)
          intro b2 h2 F Z
          have e1 : (i : Int) - (1 + (j : Int)) = ((i - 1 - j : Nat) : Int) := by omega
          refine q_asg Z (d := dR (rg rs (i - 1 - j))) (d_op (d_varZ Z rfl) (d_op (d_varZ Z rfl) (d_varZ Z rfl) rv_subI) (rv_ixT (by rw [e1]; exact row_at (by omega)))) fun σ b h F Z => ?_
          have oits := rg_ok hok (i - 1 - j)
          have test : ∀ {b h}, S K [] b00 H σ b h [.dat (rowD rs), .dat (.int (i : Int)), .dat (dR (rg rs i)), .dat (.list (partsFrom rs (i - j) i)), .dat (.int (1 + (j : Int))), .dat (dR (rg rs (i - 1 - j)))] → EvB (tOr (tTest (tOp (rEqA K) (tVar 5) (tCall (spD K fun ds d => ds = [] ∧ d = blankD) [] E0 tNil))) (tTest (tOp (rNeA K) (tSl (rSlA K) (tVar 5) (tPart (tNum 2)) tNoPart) (tTup (tCons (tOp (rI0 fun i j => .int (i - j)) (tOp (rIx K) (tVar 2) (tNum 2)) (tVar 4)) (tCons (tVar 4) tNil)))))) σ b (isB (rg rs (i - 1 - j)) || !(decide (pR (rg rs (i - 1 - j)) = pR (rg rs i) - (1 + (j : Int))) && decide (lR (rg rs (i - 1 - j)) = 1 + (j : Int)))) := fun Z => b_or (bl (r := rg rs (i - 1 - j)) (d_varZ Z rfl) oits) fun hB => EvB.is (b_test (d_op (d_tail (r := rg rs (i - 1 - j)) (d_varZ Z rfl) hB) (d_tup (ds_cons (d_op (d_prt (r := rg rs i) (d_varZ Z rfl) hb) (d_varZ Z rfl) rv_subI) (ds_cons (d_varZ Z rfl) ds_nil)) (show 2 ≤ 100000 by decide)) (rv_neAD (sh_pair _ _) (sh_pair _ _)))) (by rw [eqv_pair])
          have eA : aheadB (rg rs (i - 1 - j)) (rg rs (i - j)) = !(isB (rg rs (i - 1 - j)) || !(decide (pR (rg rs (i - 1 - j)) = pR (rg rs i) - (1 + (j : Int))) && decide (lR (rg rs (i - 1 - j)) = 1 + (j : Int)))) := by
            unfold aheadB
            rw [jb, jq, jl, show pR (rg rs i) - (j : Int) - 1 = pR (rg rs i) - (1 + (j : Int)) by omega, show (j : Int) + 1 = 1 + (j : Int) by omega]
            generalize isB (rg rs (i - 1 - j)) = x1
            generalize decide (pR (rg rs (i - 1 - j)) = pR (rg rs i) - (1 + (j : Int))) = x2
            generalize decide (lR (rg rs (i - 1 - j)) = 1 + (j : Int)) = x3
            cases x1 <;> cases x2 <;> cases x3 <;> rfl
          cases hc : (isB (rg rs (i - 1 - j)) || !(decide (pR (rg rs (i - 1 - j)) = pR (rg rs i) - (1 + (j : Int))) && decide (lR (rg rs (i - 1 - j)) = 1 + (j : Int)))) with
          | true =>
            rw [hc] at eA
            have hq := backD_no (first_no (t := j) hb hl1 (by omega) eA)
            apply q_whenT Z
            exact test Z
            exact hc
            intro b3 h3 F Z
            exact s_retE Z d_non hq.symm q
          | false =>
            rw [hc] at eA
            apply q_whenF Z
            exact test Z
            exact hc
            intro b3 h3 F Z
            have ea : aheadB (rg rs (i - 1 - j)) (rg rs (i - j)) = true := eA
            have hij : i - (j + 1) = i - 1 - j := by omega
            refine s_asg Z (d := .list (partsFrom rs (i - (j + 1)) i)) (EvD.is (d_op (d_lst (ds_cons (d_sg (r := rg rs (i - 1 - j)) (d_varZ Z rfl)) ds_nil) (show 1 ≤ 100000 by decide)) (d_varZ Z rfl) (rv_addL (by
              unfold partsFrom
              rw [List.length_map, List.length_take]
              show 1 + _ ≤ 100000
              omega))) ?_) fun σ b h F Z => ?_
            · rw [hij, parts_cons (rs := rs) (f := i - 1 - j) (i := i) (by omega) hi, show i - 1 - j + 1 = i - j by omega]
              rfl
            · unfold aheadB at ea
              rw [Bool.and_eq_true, Bool.and_eq_true, Bool.and_eq_true, decide_eq_true_eq, decide_eq_true_eq] at ea
              obtain ⟨⟨g1, g2⟩, g3, g4⟩ := ea
              refine ⟨b, _, _, Z, by omega, by omega, fun t ht => ?_, by rw [hij]; simpa using g1, by rw [hij, g3, jq]; omega, by rw [hij, g4, jl]; omega⟩
              by_cases htj : t = j
              · rw [htj]; exact eA
              · exact ha t (by omega)
      · obtain ⟨b1, z4, z5, Z, ji, jp, ha, jb, jq, jl⟩ := hP
        have e : (pR (rg rs i) + 1 - 1).toNat = (pR (rg rs i)).toNat := by omega
        rw [e] at Z ji ha
        have hf := first_yes (m := (pR (rg rs i)).toNat) hb hl1 (by omega) ha
        exact s_retE Z (d_cb (ds_cons (d_varZ Z rfl) ds_nil) rc_tupL) (backD_yes hf).symm q
end
end LW

namespace LW
open PySem L2 DV
local macro_rules | `(tactic| walk_at "dv") => `(tactic| first
  | exact d_int _ | exact d_str _ | exact d_bl _ | exact d_non
  | (apply d_varZ (by assumption); rfl)
  | (apply d_var (by assumption); rfl)
  | exact ds_nil
  | (apply ds_cons; walk_at "dv"; walk_at "dv")
  | (apply d_op; walk_at "dv"; walk_at "dv"; walk_at "rv")
  | (apply d_tup; walk_at "dv"; (simp only [List.length]; omega))
  | (apply d_lst; walk_at "dv"; (simp only [List.length]; omega))
  | (apply d_neg; walk_at "dv")
  | (apply d_notV; walk_at "dv")
  | (apply d_isi; walk_at "dv"; rfl)
  | (apply d_isi2; walk_at "dv"; rfl; rfl)
  | (apply d_cb; walk_at "dv"; walk_at "rc")
  | (apply d_andV; walk_at "dv"; (intro _; walk_at "dv"))
  | (apply d_orV; walk_at "dv"; (intro _; walk_at "dv"))
  | (apply d_chain; walk_at "dv"; walk_at "dv"; walk_at "dv"; walk_at "rv"; walk_at "rv")
  | (apply b_and; walk_at "dv"; (intro _; walk_at "dv"))
  | (apply b_or; walk_at "dv"; (intro _; walk_at "dv"))
  | (apply b_test; walk_at "dv")
  | (apply b_B; walk_at "dv")
  | (apply b_not; walk_at "dv")
  | exact b_yes)
local macro_rules | `(tactic| walk_at "rv") => `(tactic| first
  | exact rv_addI | exact rv_subI | exact rv_ltI | exact rv_leI | exact rv_gtI | exact rv_geI
  | exact rv_eqAI | exact rv_eqAB | exact rv_neAI | exact rv_neAB | exact rv_eqAS | exact rv_eqAN
  | exact rv_ixT rfl | exact rv_ixL rfl
  | (apply rv_modI; first | assumption | decide | omega)
  | (apply rv_divI; (first | assumption | decide | omega); (first | assumption | decide | omega))
  | (apply rv_mulI; (first | assumption | decide | omega); (first | assumption | decide | omega)))
local macro_rules | `(tactic| walk_at "rc") => `(tactic| first
  | exact rc_lenL | exact rc_lenT | exact rc_max | exact rc_min | exact rc_int | exact rc_intB | exact rc_tupL | exact rc_tupT | exact rc_listT | exact rc_listL | exact rc_abs)

local macro_rules | `(tactic| walk_at "rv") => `(tactic| first | exact rv_addIB)
local macro_rules | `(tactic| walk_at "dv") => `(tactic| first
  | (apply d_slTh; walk_at "dv"; walk_at "dv"; rfl)
  | (apply d_slTl; walk_at "dv"; walk_at "dv"; rfl)
  | (apply d_slTb; walk_at "dv"; walk_at "dv"; walk_at "dv"; rfl)
  | (apply d_slLh; walk_at "dv"; walk_at "dv"; rfl)
  | (apply d_slLl; walk_at "dv"; walk_at "dv"; rfl))

theorem rev_at {rs : List Rc} {i : Nat} {d : PyData} (h : (rs.map dR).reverse[i]? = some d) : i < rs.length ∧ d = dR (rg rs (rs.length - 1 - i)) := by
  have h1 := (List.getElem?_eq_some_iff.mp h).1
  rw [List.length_reverse, List.length_map] at h1
  refine ⟨h1, ?_⟩
  rw [List.getElem?_reverse (by rw [List.length_map]; exact h1), List.length_map, List.getElem?_map, List.getElem?_eq_getElem (by omega)] at h
  cases h
  rw [rg_get]
theorem down_no {rs : List Rc} {f : Nat} (h0 : 0 < f) (h : aheadB (rg rs (f - 1)) (rg rs f) = false) : downF rs f = f := by
  obtain ⟨g, rfl⟩ : ∃ g, f = g + 1 := ⟨f - 1, by omega⟩
  show (if aheadB (rg rs g) (rg rs (g + 1)) = true then downF rs g else g + 1) = g + 1
  rw [if_neg]
  rw [show g + 1 - 1 = g by omega] at h
  rw [h]
  decide
theorem down_yes {rs : List Rc} {f : Nat} (h0 : 0 < f) (h : aheadB (rg rs (f - 1)) (rg rs f) = true) : downF rs f = downF rs (f - 1) := by
  obtain ⟨g, rfl⟩ : ∃ g, f = g + 1 := ⟨f - 1, by omega⟩
  show (if aheadB (rg rs g) (rg rs (g + 1)) = true then downF rs g else g + 1) = downF rs (g + 1 - 1)
  rw [show g + 1 - 1 = g by omega] at h ⊢
  rw [if_pos h]
section
variable {P : Program} {w : World} {K : PySem.W.Frag} {mg : Str → Option Value} {base : Heap}
theorem ok__law_trail (T : Txt K mg) : FnOk P w K mg base CX0 2 T.f__law_trail T.d__law_trail ["row_so"] (spD K fun ds d => ∃ rs : List Rc, ds = [rowD rs] ∧ rs.length ≤ 1000 ∧ (∀ r ∈ rs, okR r) ∧ d = .int ((trailN rs : Nat) : Int)) := by
  refine T.F__law_trail.ok sc__law_trail (by rintro vs H Q E ⟨b, ds, d, hs, hd, ⟨rs, rfl, _⟩, q⟩; exact hd.length) (fun cdv A outer s H vs Q E hr h => ?_)
  obtain ⟨b00, ds, d, hs, hd, ⟨rs, rfl, hl, hok, rfl⟩, q⟩ := h
  refine ⟨_, (pss_cons (ps_set (i := 1) sc__law_trail.nd rfl (by first | exact Or.inl rfl | exact Or.inr rfl) pe_int)
    (pss_cons (ps_for PassesOwn.never rfl (pi_enumT (by rfl) T.z_enumerate (pa_cons (pe_backT (pv 0)) pa_nil)) (pg_tup (n := 2) rfl (pgs_cons (pg_name (i := 2) sc__law_trail.nd rfl (by first | exact Or.inl rfl | exact Or.inr rfl)) (pgs_cons (pg_name (i := 3) sc__law_trail.nd rfl (by first | exact Or.inl rfl | exact Or.inr rfl)) pgs_nil))) (pss_cons (ps_if (PW.pt (pw_or (pt_cmpR (op_eqA hr.units) (pv 3) (pe_call0 (ok__law_blank T) (hr.mono (by omega)) (by rfl) T.m__law_blank T.F__law_blank.kp T.b__law_blank .nil pass0) (nomark _)) (pw_or1 (PW.pt (pw_and (pt_cmpR (op_eqA hr.units) (pv 2) pe_int (nomark _)) (pw_and1 (pt_cmpR (op_eqA hr.units) (pe_ix ix_seq (pv 3) (pe_un un_neg pe_int) (fun _ _ => rfl)) pe_int (nomark _)))))))) (pss_one ps_break) pss_nil)
    (pss_cons (ps_if (PW.pt (pw_and (pt_cmpR op_gt (pv 2) pe_int (nomark _)) (pw_and1 (pt_cmpR (op_neA hr.units) (pe_slice sl_tupA (pv 3) (po_some (pe_un un_neg pe_int)) po_none) (pe_tup (pa_cons (pe_op op_sub (pe_ix ix_seq (pe_ix ix_seq (pv 0) (pe_un un_neg (pv 2)) (fun _ _ => rfl)) (pe_un un_neg pe_int) (fun _ _ => rfl)) pe_int) (pa_cons (pe_op op_addA (pe_ix ix_seq (pe_ix ix_seq (pv 0) (pe_un un_neg (pv 2)) (fun _ _ => rfl)) (pe_un un_neg pe_int) (fun _ _ => rfl)) pe_int) pa_nil))) (nomark _))))) (pss_one ps_break) pss_nil)
    (pss_one (ps_set (i := 1) sc__law_trail.nd rfl (by first | exact Or.inl rfl | exact Or.inr rfl) (pe_op op_addA (pv 1) pe_int))))))
    (pss_one (ps_ret (pv 1))))), ?_⟩
  have Z := S.init (B := []) hs hd ["row_so", "many_so", "k", "own"]
  have bl : ∀ {σ : St} {b : Hp} {te : TE} {r : Rc}, EvD K te σ b (dR r) → okR r → EvB (tTest (tOp (rEqA K) te (tCall (spD K fun ds d => ds = [] ∧ d = blankD) [] E0 tNil))) σ b (isB r) := fun h ho => EvB.is (b_test (d_op h (d_call0 ⟨rfl, rfl⟩) (rv_eqAD (sh_dR _ ho) sh_blank))) (eq_blank _)
  have fin : ∀ {σ : St} {b h : Hp} {m : Nat} {z2 z3 : SD} {D : Ends}, D.rt = Q → S K [] b00 H σ b h [.dat (rowD rs), .dat (.int (m : Int)), z2, z3] → m = trailN rs → tRet (tVar 1) D σ h := fun {σ b h m z2 z3 D} eD Z e => by
    refine s_ret Z (d_varZ Z rfl) fun v b2 h2 F dd => ?_
    rw [eD]
    rw [e] at dd
    exact q v b2 h2 F dd
  refine q_asg Z (d := .int ((0 : Nat) : Int)) (by walk_at "dv") fun σ b h F Z => ?_
  refine q_forET Z (es := (rs.map dR).reverse) (ds_cons (d_backT (ds := rs.map dR) (d_varZ Z rfl)) ds_nil) (fun i σ b h => ∃ z2 z3, S K [] b00 H σ b h [.dat (rowD rs), .dat (.int (i : Int)), z2, z3] ∧ i ≤ rs.length ∧ (0 < i → trailB rs = false ∧ isB (rg rs (rs.length - i)) = false ∧ downF rs (rs.length - 1) = downF rs (rs.length - i))) (fun b2 h2 F Z2 => ?_) (fun i σ b h hP => ?_) (fun i σ b h TT o hP hT => ?_) (fun bb i d σ b h v sb hi hP dd => ?_) (fun σ b h hP => ?_)
  · exact ⟨_, _, Z2, Nat.zero_le _, fun z => absurd z (Nat.lt_irrefl _)⟩
  · obtain ⟨z2, z3, Z, _⟩ := hP
    exact Z.sub
  · obtain ⟨z2, z3, Z, h1, h2⟩ := hP
    exact ⟨z2, z3, ⟨Z.fr.trans (Fr.fresh Z.sub hT), Z.sl⟩, h1, h2⟩
  · obtain ⟨z2, z3, Z, hin, hk⟩ := hP
    obtain ⟨hil, rfl⟩ := rev_at hi
    have Z : S K [] b00 H ((σ.set 2 (some (.int (i : Nat)))).set 3 (some v)) b h [.dat (rowD rs), .dat (.int (i : Int)), .dat (.int (i : Int)), .dat (dR (rg rs (rs.length - 1 - i)))] := ⟨Z.fr, (Z.sl.set (z := .dat (.int (i : Int))) ⟨_, rfl, .int _⟩ 2).set (z := .dat (dR (rg rs (rs.length - 1 - i)))) ⟨_, rfl, dd⟩ 3⟩
    have oo := rg_ok hok (rs.length - 1 - i)
    generalize hx : rg rs (rs.length - 1 - i) = x at Z oo
    have hnn : rs.length ≠ 0 := by omega
    have t1 : ∀ {σ b h}, S K [] b00 H σ b h [.dat (rowD rs), .dat (.int (i : Int)), .dat (.int (i : Int)), .dat (dR x)] → EvB (tOr (tTest (tOp (rEqA K) (tVar 3) (tCall (spD K fun ds d => ds = [] ∧ d = blankD) [] E0 tNil))) (tAnd (tTest (tOp (rEqA K) (tVar 2) (tC (.int 0)))) (tTest (tOp (rEqA K) (tOp (rIx K) (tVar 3) (tNum 1)) (tC (.int 0)))))) σ b (isB x || (decide ((i : Int) = 0) && decide (lR x = 0))) := fun Z => b_or (bl (r := x) (d_varZ Z rfl) oo) fun hB => b_and (b_test (d_op (d_varZ Z rfl) (d_int 0) rv_eqAI)) fun _ => b_test (d_op (d_lft (r := x) (d_varZ Z rfl) hB) (d_int 0) rv_eqAI)
    cases hc : (isB x || (decide ((i : Int) = 0) && decide (lR x = 0))) with
    | true =>
      apply q_whenT Z
      exact t1 Z
      exact hc
      intro b3 h3 F Z
      refine fin rfl Z ?_
      rw [Bool.or_eq_true, Bool.and_eq_true, decide_eq_true_eq, decide_eq_true_eq] at hc
      by_cases hi0 : i = 0
      · subst hi0
        rw [show rs.length - 1 - 0 = rs.length - 1 by omega] at hx
        have : trailB rs = true := by
          unfold trailB
          rw [hx, decide_eq_false hnn, Bool.false_or, Bool.or_eq_true, decide_eq_true_eq]
          rcases hc with hc | hc
          · exact .inl hc
          · exact .inr hc.2
        unfold trailN
        rw [this]; rfl
      · obtain ⟨k1, k2, k3⟩ := hk (by omega)
        have hB : isB x = true := by
          rcases hc with hc | hc
          · exact hc
          · omega
        have e : aheadB (rg rs (rs.length - i - 1)) (rg rs (rs.length - i)) = false := by
          rw [show rs.length - i - 1 = rs.length - 1 - i by omega, hx]
          unfold aheadB
          rw [hB]; rfl
        unfold trailN
        rw [k1, k3, down_no (by omega) e, if_neg (by decide)]
        omega
    | false =>
      apply q_whenF Z
      exact t1 Z
      exact hc
      intro b3 h3 F Z
      rw [Bool.or_eq_false_iff] at hc
      obtain ⟨hB, hc2⟩ := hc
      have t2 : ∀ {σ b h}, S K [] b00 H σ b h [.dat (rowD rs), .dat (.int (i : Int)), .dat (.int (i : Int)), .dat (dR x)] → EvB (tAnd (tTest (tOp (rI0 fun i j => .bl (decide (j < i))) (tVar 2) (tC (.int 0)))) (tTest (tOp (rNeA K) (tSl (rSlA K) (tVar 3) (tPart (tNum 2)) tNoPart) (tTup (tCons (tOp (rI0 fun i j => .int (i - j)) (tOp (rIx K) (tOp (rIx K) (tVar 0) (tUn (rU fun i => .int (-i)) (tVar 2))) (tNum 2)) (tC (.int 1))) (tCons (tOp (rAddA K) (tOp (rIx K) (tOp (rIx K) (tVar 0) (tUn (rU fun i => .int (-i)) (tVar 2))) (tNum 1)) (tC (.int 1))) tNil)))))) σ b (decide (0 < (i : Int)) && !(decide (pR x = pR (rg rs (rs.length - i)) - 1) && decide (lR x = lR (rg rs (rs.length - i)) + 1))) := fun Z => b_and (b_test (d_op (d_varZ Z rfl) (d_int 0) rv_gtI)) fun h0 => by
        have h0 := of_decide_eq_true h0
        obtain ⟨k1, k2, k3⟩ := hk (by omega)
        have e1 : EvD K (tOp (rIx K) (tVar 0) (tUn (rU fun i => .int (-i)) (tVar 2))) _ _ (dR (rg rs (rs.length - i))) := d_op (d_varZ Z rfl) (d_neg (d_varZ Z rfl)) (rv_ixT (row_back (k := i) (by omega) hin))
        exact EvB.is (b_test (d_op (d_tail (r := x) (d_varZ Z rfl) hB) (d_tup (ds_cons (d_op (d_prt e1 k2) (d_int 1) rv_subI) (ds_cons (d_op (d_lft e1 k2) (d_int 1) rv_addI) ds_nil)) (show 2 ≤ 100000 by decide)) (rv_neAD (sh_pair _ _) (sh_pair _ _)))) (by rw [eqv_pair])
      cases hd : (decide (0 < (i : Int)) && !(decide (pR x = pR (rg rs (rs.length - i)) - 1) && decide (lR x = lR (rg rs (rs.length - i)) + 1))) with
      | true =>
        apply q_whenT Z
        exact t2 Z
        exact hd
        intro b4 h4 F Z
        refine fin rfl Z ?_
        rw [Bool.and_eq_true, decide_eq_true_eq] at hd
        obtain ⟨k1, k2, k3⟩ := hk (by omega)
        have e : aheadB (rg rs (rs.length - i - 1)) (rg rs (rs.length - i)) = false := by
          rw [show rs.length - i - 1 = rs.length - 1 - i by omega, hx]
          unfold aheadB
          rw [hB, k2]
          have := hd.2
          rw [Bool.not_eq_true'] at this
          rw [this]; rfl
        unfold trailN
        rw [k1, k3, down_no (by omega) e, if_neg (by decide)]
        omega
      | false =>
        apply q_whenF Z
        exact t2 Z
        exact hd
        intro b4 h4 F4 Z
        have sb4 := sb.trans (F.base.trans F4.base)
        refine s_asg Z (d := .int ((i + 1 : Nat) : Int)) (EvD.is (d_op (d_varZ Z rfl) (d_int 1) rv_addI) (congrArg PyData.int (by omega))) fun σ b5 h5 F5 Z => ⟨b5, sb4.trans F5.base, _, _, Z, by omega, fun _ => ?_⟩
        rw [show rs.length - (i + 1) = rs.length - 1 - i by omega, hx]
        by_cases hi0 : i = 0
        · subst hi0
          have hx2 : rg rs (rs.length - 1) = x := by rw [← hx]; rfl
          refine ⟨?_, hB, by rw [Nat.sub_zero]⟩
          have hl0 : decide (lR x = 0) = false := by
            rw [show decide (((0 : Nat) : Int) = 0) = true from rfl, Bool.true_and] at hc2
            exact hc2
          unfold trailB
          rw [hx2, hB, hl0, decide_eq_false hnn]; rfl
        · obtain ⟨k1, k2, k3⟩ := hk (by omega)
          rw [decide_eq_true (by omega), Bool.true_and, Bool.not_eq_false'] at hd
          have e : aheadB (rg rs (rs.length - i - 1)) (rg rs (rs.length - i)) = true := by
            rw [show rs.length - i - 1 = rs.length - 1 - i by omega, hx]
            unfold aheadB
            rw [hB, k2, hd]; rfl
          refine ⟨k1, hB, ?_⟩
          rw [k3, down_yes (by omega) e, show rs.length - i - 1 = rs.length - 1 - i by omega]
  · obtain ⟨z2, z3, Z, hin, hk⟩ := hP
    rw [List.length_reverse, List.length_map] at Z hk
    refine fin rfl Z ?_
    by_cases hn : rs.length = 0
    · unfold trailN trailB
      rw [decide_eq_true hn, hn]; rfl
    · obtain ⟨k1, k2, k3⟩ := hk (by omega)
      unfold trailN
      rw [k1, k3, if_neg (by decide), Nat.sub_self]
      unfold downF
      omega
end
end LW

namespace LW
open PySem L2 DV
local macro_rules | `(tactic| walk_at "dv") => `(tactic| first
  | exact d_int _ | exact d_str _ | exact d_bl _ | exact d_non
  | (apply d_varZ (by assumption); rfl)
  | (apply d_var (by assumption); rfl)
  | exact ds_nil
  | (apply ds_cons; walk_at "dv"; walk_at "dv")
  | (apply d_op; walk_at "dv"; walk_at "dv"; walk_at "rv")
  | (apply d_tup; walk_at "dv"; (simp only [List.length]; omega))
  | (apply d_lst; walk_at "dv"; (simp only [List.length]; omega))
  | (apply d_neg; walk_at "dv")
  | (apply d_notV; walk_at "dv")
  | (apply d_isi; walk_at "dv"; rfl)
  | (apply d_isi2; walk_at "dv"; rfl; rfl)
  | (apply d_cb; walk_at "dv"; walk_at "rc")
  | (apply d_andV; walk_at "dv"; (intro _; walk_at "dv"))
  | (apply d_orV; walk_at "dv"; (intro _; walk_at "dv"))
  | (apply d_chain; walk_at "dv"; walk_at "dv"; walk_at "dv"; walk_at "rv"; walk_at "rv")
  | (apply b_and; walk_at "dv"; (intro _; walk_at "dv"))
  | (apply b_or; walk_at "dv"; (intro _; walk_at "dv"))
  | (apply b_test; walk_at "dv")
  | (apply b_B; walk_at "dv")
  | (apply b_not; walk_at "dv")
  | exact b_yes)
local macro_rules | `(tactic| walk_at "rv") => `(tactic| first
  | exact rv_addI | exact rv_subI | exact rv_ltI | exact rv_leI | exact rv_gtI | exact rv_geI
  | exact rv_eqAI | exact rv_eqAB | exact rv_neAI | exact rv_neAB | exact rv_eqAS | exact rv_eqAN
  | exact rv_ixT rfl | exact rv_ixL rfl
  | (apply rv_modI; first | assumption | decide | omega)
  | (apply rv_divI; (first | assumption | decide | omega); (first | assumption | decide | omega))
  | (apply rv_mulI; (first | assumption | decide | omega); (first | assumption | decide | omega)))
local macro_rules | `(tactic| walk_at "rc") => `(tactic| first
  | exact rc_lenL | exact rc_lenT | exact rc_max | exact rc_min | exact rc_int | exact rc_intB | exact rc_tupL | exact rc_tupT | exact rc_listT | exact rc_listL | exact rc_abs)

local macro_rules | `(tactic| walk_at "rv") => `(tactic| first | exact rv_addIB)
local macro_rules | `(tactic| walk_at "dv") => `(tactic| first
  | (apply d_slTh; walk_at "dv"; walk_at "dv"; rfl)
  | (apply d_slTl; walk_at "dv"; walk_at "dv"; rfl)
  | (apply d_slTb; walk_at "dv"; walk_at "dv"; walk_at "dv"; rfl)
  | (apply d_slLh; walk_at "dv"; walk_at "dv"; rfl)
  | (apply d_slLl; walk_at "dv"; walk_at "dv"; rfl))

def keepF (rs : List Rc) : PyData → Bool
  | .int i => (firstF rs i.toNat).isSome
  | _ => false
def pairG (rs : List Rc) : PyData → PyData
  | .int i => .tuple [.int i, backD rs i.toNat]
  | _ => .none
theorem due_eq (rs : List Rc) : ∀ m : List Nat, (((m.map fun (i : Nat) => PyData.int (0 + (i : Int))).filter (keepF rs)).map (pairG rs)) = m.filterMap (closedEl rs)
  | [] => rfl
  | i :: m => by
    have ih := due_eq rs m
    rw [List.map_cons, List.filterMap_cons]
    have e : (0 + (i : Int)).toNat = i := by omega
    cases hf : firstF rs i with
    | none =>
      have k : keepF rs (.int (0 + (i : Int))) = false := by show (firstF rs (0 + (i : Int)).toNat).isSome = false; rw [e, hf]; rfl
      have c : closedEl rs i = none := by unfold closedEl; rw [hf]; rfl
      rw [c, List.filter_cons_of_neg (by rw [k]; decide)]
      exact ih
    | some f =>
      have k : keepF rs (.int (0 + (i : Int))) = true := by show (firstF rs (0 + (i : Int)).toNat).isSome = true; rw [e, hf]; rfl
      have c : closedEl rs i = some (.tuple [.int (i : Int), .tuple (partsFrom rs f i)]) := by unfold closedEl; rw [hf]; rfl
      rw [c, List.filter_cons_of_pos k, List.map_cons, ih]
      show PyData.tuple [.int (0 + (i : Int)), backD rs (0 + (i : Int)).toNat] :: _ = _
      rw [e, backD_yes hf, Int.zero_add]
theorem fine_dR (r : Rc) : fine 5 (dR r) = true := by cases r <;> rfl
theorem tup_dR (r : Rc) : tupN 5 (dR r) = dR r := by cases r <;> rfl
theorem fine_sg (n : Nat) (r : Rc) : fine (n + 1) (sgD r) = true := by cases r <;> cases n <;> rfl
theorem rowOf_row {rs : List Rc} (hl : rs.length ≤ 1000) : rowOf (rowD rs) rs := by
  constructor
  · show (decide ((rs.map dR).length ≤ 90000) && (rs.map dR).all (fine 5)) = true
    rw [List.length_map, decide_eq_true (by omega), Bool.true_and, List.all_eq_true]
    intro d hd
    obtain ⟨r, _, rfl⟩ := List.mem_map.mp hd
    exact fine_dR r
  · show PyData.tuple ((rs.map dR).map (tupN 5)) = rowD rs
    rw [List.map_map]
    exact congrArg PyData.tuple (List.map_congr_left fun r _ => tup_dR r)
theorem tfine_dR (r : Rc) : tfine 1 (dR r) = true := by cases r <;> rfl
theorem fine_lst (r : Rc) : fine 5 (lstN 1 (dR r)) = true := by cases r <;> rfl
theorem tup_lst (r : Rc) : tupN 5 (lstN 1 (dR r)) = dR r := by cases r <;> rfl
theorem tfine_row {rs : List Rc} (hl : rs.length ≤ 1000) : tfine 2 (rowD rs) = true := by
  show (decide ((rs.map dR).length ≤ 90000) && (rs.map dR).all (tfine 1)) = true
  rw [List.length_map, decide_eq_true (by omega), Bool.true_and, List.all_eq_true]
  intro d hd
  obtain ⟨r, _, rfl⟩ := List.mem_map.mp hd
  exact tfine_dR r
theorem rowOf_lst {rs : List Rc} (hl : rs.length ≤ 1000) : rowOf (lstN 2 (rowD rs)) rs := by
  constructor
  · show (decide (((rs.map dR).map (lstN 1)).length ≤ 90000) && ((rs.map dR).map (lstN 1)).all (fine 5)) = true
    rw [List.length_map, List.length_map, decide_eq_true (by omega), Bool.true_and, List.all_eq_true]
    intro d hd
    rw [List.map_map] at hd
    obtain ⟨r, _, rfl⟩ := List.mem_map.mp hd
    exact fine_lst r
  · show PyData.tuple (((rs.map dR).map (lstN 1)).map (tupN 5)) = rowD rs
    rw [List.map_map, List.map_map]
    exact congrArg PyData.tuple (List.map_congr_left fun r _ => tup_lst r)
theorem fine_parts {n : Nat} {rs : List Rc} (hl : rs.length ≤ 1000) (f i : Nat) : fine (n + 2) (.tuple (partsFrom rs f i)) = true := by
  show (decide ((partsFrom rs f i).length ≤ 90000) && (partsFrom rs f i).all (fine (n + 1))) = true
  have h1 : (partsFrom rs f i).length ≤ rs.length := by
    unfold partsFrom
    rw [List.length_map, List.length_take, List.length_drop]
    omega
  rw [decide_eq_true (by omega), Bool.true_and, List.all_eq_true]
  intro d hd
  unfold partsFrom at hd
  obtain ⟨r, _, rfl⟩ := List.mem_map.mp hd
  exact fine_sg n r
theorem fine_closed {rs : List Rc} (hl : rs.length ≤ 1000) : fine 5 (.list (closedL rs rs.length)) = true := by
  show (decide ((closedL rs rs.length).length ≤ 90000) && (closedL rs rs.length).all (fine 4)) = true
  rw [decide_eq_true (by have := closed_len rs rs.length; omega), Bool.true_and, List.all_eq_true]
  intro d hd
  unfold closedL at hd
  obtain ⟨i, _, e⟩ := List.mem_filterMap.mp hd
  unfold closedEl at e
  cases hf : firstF rs i with
  | none => rw [hf] at e; cases e
  | some f =>
    rw [hf] at e
    cases e
    show (decide (2 ≤ 90000) && ((true) && (fine 3 (.tuple (partsFrom rs f i)) && true))) = true
    rw [fine_parts (n := 1) hl]
    rfl
section
variable {P : Program} {w : World} {K : PySem.W.Frag} {mg : Str → Option Value} {base : Heap}
theorem ok__law_told_right (T : Txt K mg) : FnOk P w K mg base CX0 10 T.f__law_told_right T.d__law_told_right ["row_so"] (spD K fun ds d => ∃ rs : List Rc, ds = [rowD rs] ∧ rs.length ≤ 1000 ∧ (∀ r ∈ rs, okR r) ∧ d = .bool true) := by
  refine T.F__law_told_right.ok sc__law_told_right (by rintro vs H Q E ⟨b, ds, d, hs, hd, ⟨rs, rfl, _⟩, q⟩; exact hd.length) (fun cdv A outer s H vs Q E hr h => ?_)
  obtain ⟨b00, ds, d, hs, hd, ⟨rs, rfl, hl, hok, rfl⟩, q⟩ := h
  refine ⟨_, (pss_cons (ps_setLc (i := 1) (own := [("i", 2)]) (g := gName 2) rfl sc__law_told_right.nd rfl rfl (sw_true rfl rfl rfl (by decide +kernel)) (pi_range1 rfl T.z_range (pa_cons (pe_callB call_len (by rfl) T.z_len (by decide +kernel) (pa_cons (pv 0) pa_nil)) pa_nil)) (blkOk_by (N := ["row_so", "due", "i"]) (sc := defScope s__law_told_right) (by decide +kernel)) (fun _ _ _ _ _ => (pg_name (i := 2) sc__law_told_right.nd rfl (by first | exact Or.inl rfl | exact Or.inr rfl))) (fun _ _ _ _ _ => (pts_one (pt_cmpR op_notN (pe_call (ok__law_back T) (hr.mono (by omega)) (by rfl) T.m__law_back T.F__law_back.kp T.b__law_back .nil pass0 (pa_cons (pv 0) (pa_cons (pv 2) pa_nil))) pe_non (nomark _)))) (fun _ _ _ _ _ => (pe_tup (pa_cons (pv 2) (pa_cons (pe_call (ok__law_back T) (hr.mono (by omega)) (by rfl) T.m__law_back T.F__law_back.kp T.b__law_back .nil pass0 (pa_cons (pv 0) (pa_cons (pv 2) pa_nil))) pa_nil)))))
    (pss_one (ps_ret (pe_call (ok__law_same T 6) (hr.mono (by omega)) (by rfl) T.m__law_same T.F__law_same.kp T.b__law_same .nil pass0 (pa_cons (pe_lst (pa_cons (pe_call (ok_closed_in T) (hr.mono (by omega)) (by rfl) T.m_closed_in T.F_closed_in.kp T.b_closed_in .nil pass0 (pa_cons (pv 0) pa_nil)) (pa_cons (pe_call (ok_left_begun T) (hr.mono (by omega)) (by rfl) T.m_left_begun T.F_left_begun.kp T.b_left_begun .nil pass0 (pa_cons (pe_call (ok__law_lists T 2) (hr.mono (by omega)) (by rfl) T.m__law_lists T.F__law_lists.kp T.b__law_lists .nil pass0 (pa_cons (pv 0) pa_nil)) pa_nil)) pa_nil))) (pa_cons (pe_lst (pa_cons (pv 1) (pa_cons (pe_call (ok__law_trail T) (hr.mono (by omega)) (by rfl) T.m__law_trail T.F__law_trail.kp T.b__law_trail .nil pass0 (pa_cons (pv 0) pa_nil)) pa_nil))) pa_nil)))))), ?_⟩
  have Z := S.init (B := []) hs hd ["row_so", "due", "i"]
  refine q_asg Z (d := .list (closedL rs rs.length)) (EvD.is (d_lcR1 (k := ((rs.map dR).length : Int)) (keepF rs) (pairG rs) Z.sl (ds_cons (d_cb (ds_cons (d_varZ Z rfl) ds_nil) rc_lenT) ds_nil) (by rw [List.length_map]; omega) (by omega) (fun x => wipe1) fun m σ2 b2 hm e Sl => ?_) ?_) fun σ b h F Z => ?_
  · have hm' : m < rs.length := by rw [List.length_map] at hm; omega
    have em : (0 + (m : Int)).toNat = m := by omega
    have bk : EvD K (tCall (spD K RBack) [] E0 (tCons (tVar 0) (tCons (tVar 2) tNil))) σ2 b2 (backD rs m) := d_call (ds_cons (d_var Sl rfl) (ds_cons (d_var Sl rfl) ds_nil)) ⟨rs, m, by rw [Int.zero_add], hl, hm', hok, rfl⟩
    have ek : keepF rs (.int (0 + (m : Int))) = (firstF rs m).isSome := by show (firstF rs (0 + (m : Int)).toNat).isSome = _; rw [em]
    refine ⟨?_, fun _ => ?_⟩
    · rw [ek]
      cases hf : firstF rs m with
      | none =>
        rw [backD_no hf] at bk
        exact b_test (d_op bk d_non (rv_isNot (c := true) fun b v h => by cases h; rfl))
      | some f =>
        rw [backD_yes hf] at bk
        exact b_test (d_op bk d_non (rv_isNot (c := false) fun b v h => by cases h; rfl))
    · show EvD K _ σ2 b2 (.tuple [.int (0 + (m : Int)), backD rs (0 + (m : Int)).toNat])
      rw [em]
      exact d_tup (ds_cons (d_var Sl rfl) (ds_cons bk ds_nil)) (show 2 ≤ 100000 by decide)
  · have e : ((rs.map dR).length : Int).toNat = rs.length := by rw [List.length_map]; omega
    rw [e]
    exact congrArg PyData.list (due_eq rs (List.range rs.length))
  · have hx : fine 6 (.list [.list (closedL rs rs.length), .int ((trailN rs : Nat) : Int)]) = true := by
      show (decide (2 ≤ 90000) && (fine 5 (.list (closedL rs rs.length)) && (true && true))) = true
      rw [fine_closed hl]
      rfl
    exact s_ret Z (d_call (ds_cons (d_lst (ds_cons (d_call (ds_cons (d_varZ Z rfl) ds_nil) ⟨_, rs, rfl, rowOf_row hl, hl, hok, rfl⟩) (ds_cons (d_call (ds_cons (d_call (ds_cons (d_varZ Z rfl) ds_nil) ⟨rowD rs, rfl, tfine_row hl, rfl⟩) ds_nil) ⟨_, rs, rfl, rowOf_lst hl, hl, hok, rfl⟩) ds_nil)) (show 2 ≤ 100000 by decide)) (ds_cons (d_lst (ds_cons (d_varZ Z rfl) (ds_cons (d_call (ds_cons (d_varZ Z rfl) ds_nil) ⟨rs, rfl, hl, hok, rfl⟩) ds_nil)) (show 2 ≤ 100000 by decide)) ds_nil)) ⟨_, rfl, hx, rfl⟩) q
end
end LW

namespace LW
open PySem L2 DV
local macro_rules | `(tactic| walk_at "dv") => `(tactic| first
  | exact d_int _ | exact d_str _ | exact d_bl _ | exact d_non
  | (apply d_varZ (by assumption); rfl)
  | (apply d_var (by assumption); rfl)
  | exact ds_nil
  | (apply ds_cons; walk_at "dv"; walk_at "dv")
  | (apply d_op; walk_at "dv"; walk_at "dv"; walk_at "rv")
  | (apply d_tup; walk_at "dv"; (simp only [List.length]; omega))
  | (apply d_lst; walk_at "dv"; (simp only [List.length]; omega))
  | (apply d_neg; walk_at "dv")
  | (apply d_notV; walk_at "dv")
  | (apply d_isi; walk_at "dv"; rfl)
  | (apply d_isi2; walk_at "dv"; rfl; rfl)
  | (apply d_cb; walk_at "dv"; walk_at "rc")
  | (apply d_andV; walk_at "dv"; (intro _; walk_at "dv"))
  | (apply d_orV; walk_at "dv"; (intro _; walk_at "dv"))
  | (apply d_chain; walk_at "dv"; walk_at "dv"; walk_at "dv"; walk_at "rv"; walk_at "rv")
  | (apply b_and; walk_at "dv"; (intro _; walk_at "dv"))
  | (apply b_or; walk_at "dv"; (intro _; walk_at "dv"))
  | (apply b_test; walk_at "dv")
  | (apply b_B; walk_at "dv")
  | (apply b_not; walk_at "dv")
  | exact b_yes)
local macro_rules | `(tactic| walk_at "rv") => `(tactic| first
  | exact rv_addI | exact rv_subI | exact rv_ltI | exact rv_leI | exact rv_gtI | exact rv_geI
  | exact rv_eqAI | exact rv_eqAB | exact rv_neAI | exact rv_neAB | exact rv_eqAS | exact rv_eqAN
  | exact rv_ixT rfl | exact rv_ixL rfl
  | (apply rv_modI; first | assumption | decide | omega)
  | (apply rv_divI; (first | assumption | decide | omega); (first | assumption | decide | omega))
  | (apply rv_mulI; (first | assumption | decide | omega); (first | assumption | decide | omega)))
local macro_rules | `(tactic| walk_at "rc") => `(tactic| first
  | exact rc_lenL | exact rc_lenT | exact rc_max | exact rc_min | exact rc_int | exact rc_intB | exact rc_tupL | exact rc_tupT | exact rc_listT | exact rc_listL | exact rc_abs)

local macro_rules | `(tactic| walk_at "rv") => `(tactic| first | exact rv_addIB)
local macro_rules | `(tactic| walk_at "dv") => `(tactic| first
  | (apply d_slTh; walk_at "dv"; walk_at "dv"; rfl)
  | (apply d_slTl; walk_at "dv"; walk_at "dv"; rfl)
  | (apply d_slTb; walk_at "dv"; walk_at "dv"; walk_at "dv"; rfl)
  | (apply d_slLh; walk_at "dv"; walk_at "dv"; rfl)
  | (apply d_slLl; walk_at "dv"; walk_at "dv"; rfl))

theorem dR_inj : ∀ {a b : Rc}, dR a = dR b → a = b := by
  intro a b h
  cases a <;> cases b <;> simp [dR, blankD] at h ⊢ <;> exact h
theorem rowD_inj {xs ys : List Rc} (h : rowD xs = rowD ys) : xs = ys := by
  have h1 : xs.map dR = ys.map dR := PyData.tuple.inj h
  induction xs generalizing ys with
  | nil => cases ys with
    | nil => rfl
    | cons y ys => cases h1
  | cons x xs ih => cases ys with
    | nil => cases h1
    | cons y ys =>
      rw [List.map_cons, List.map_cons] at h1
      obtain ⟨e1, e2⟩ := List.cons.inj h1
      rw [dR_inj e1, ih (congrArg PyData.tuple e2) e2]
/-- rows of at most 50 + k RECORDS, bent at most k times -/
def okB (k : Nat) (rs : List Rc) : Prop := rs.length ≤ 50 + k ∧ ∀ r ∈ rs, okR r ∧ pR r ≤ 50 + k
theorem cut_take (rs : List Rc) (k : Nat) : cutD (rs.map dR) none (some (k : Int)) = (rs.take k).map dR := by
  unfold cutD
  rw [HT.sIx_none, HT.sIx_nat, List.drop_zero, Nat.sub_zero, List.length_map, List.map_take]
  by_cases h : k ≤ rs.length
  · rw [Nat.min_eq_left h]
  · rw [Nat.min_eq_right (by omega), List.take_of_length_le (by rw [List.length_map]; omega), List.take_of_length_le (by rw [List.length_map]; omega)]
theorem cut_drop (rs : List Rc) (k : Nat) : cutD (rs.map dR) (some (k : Int)) none = (rs.drop k).map dR := by
  unfold cutD
  rw [HT.sIx_none, HT.sIx_nat, List.length_map, List.map_drop]
  by_cases h : k ≤ rs.length
  · rw [Nat.min_eq_left h, List.take_of_length_le (by rw [List.length_drop, List.length_map]; omega)]
  · rw [Nat.min_eq_right (by omega), List.drop_of_length_le (by rw [List.length_map]; omega), List.drop_of_length_le (by rw [List.length_map]; omega)]
    simp
section
variable {P : Program} {w : World} {K : PySem.W.Frag} {mg : Str → Option Value} {base : Heap}
section
variable {σ : St} {b : Hp} {te tb : TE} {rs qs : List Rc} {r : Rc} {k : Nat} {a : Addr} {c : Int} {R R1 : PyData → Prop}
theorem d_take (h : EvD K te σ b (rowD rs)) (h2 : EvD K tb σ b (.int (k : Int))) : EvD K (tSl (rSlA K) te tNoPart (tPart tb)) σ b (rowD (rs.take k)) := d_slTh h h2 (congrArg PyData.tuple (cut_take rs k))
theorem d_drop (h : EvD K te σ b (rowD rs)) (h2 : EvD K tb σ b (.int (k : Int))) : EvD K (tSl (rSlA K) te (tPart tb) tNoPart) σ b (rowD (rs.drop k)) := d_slTl h h2 (congrArg PyData.tuple (cut_drop rs k))
theorem d_catR (h : EvD K te σ b (rowD rs)) (h2 : EvD K tb σ b (rowD qs)) (hz : rs.length + qs.length ≤ 100000) : EvD K (tOp (rAddB K) te tb) σ b (rowD (rs ++ qs)) :=
  EvD.is (d_op h h2 (rv_addTB (by rw [List.length_map, List.length_map]; exact hz))) (by unfold rowD; rw [List.map_append])
theorem d_oneR (h : EvD K te σ b (dR r)) : EvD K (tTup (tCons te tNil)) σ b (rowD [r]) := d_tup (ds_cons h ds_nil) (show 1 ≤ 100000 by decide)
end
theorem sh_row {rs : List Rc} (h : ∀ r ∈ rs, okR r) : SeqAt.shaped (rowD rs) = true := by
  have h1 : ∀ rs : List Rc, (∀ r ∈ rs, okR r) → PyData.canLayAll0 (rs.map dR) = true ∧ PyData.depthAll (rs.map dR) ≤ 1 := by
    intro rs
    induction rs with
    | nil => exact fun _ => ⟨rfl, Nat.zero_le _⟩
    | cons r rs ih =>
      intro h
      obtain ⟨i1, i2⟩ := ih fun r hr => h r (List.mem_cons_of_mem _ hr)
      have s := sh_dR r (h r (List.mem_cons_self ..))
      have c1 := SeqAt.canLay_of_shaped s
      have d1 : PyData.depth (dR r) ≤ 1 := by cases r <;> exact Nat.le_refl 1
      constructor
      · show (PyData.canLay0 (dR r) && PyData.canLayAll0 (rs.map dR)) = true
        rw [c1, i1]; rfl
      · show max (PyData.depth (dR r)) (PyData.depthAll (rs.map dR)) ≤ 1
        omega
  obtain ⟨i1, i2⟩ := h1 rs h
  exact sh_of i1 (by show PyData.depthAll (rs.map dR) + 1 ≤ 64; omega)
theorem eq_empty (rs : List Rc) : PyData.eqv (rowD rs) (.tuple []) = rs.isEmpty := by cases rs <;> rfl
abbrev RBent : List PyData → PyData → Prop := fun ds d => ∃ rs qs, ds = [rowD rs] ∧ d = rowD qs ∧ ∀ k, okB k rs → okB (k + 1) qs
abbrev PBent : List PyData → Prop := fun ds => ∃ rs, ds = [rowD rs] ∧ okB 10 rs
theorem bent_of {k : Nat} {rs qs : List Rc} (h : okB k rs) (hl : qs.length ≤ rs.length + 1) (hm : ∀ r ∈ qs, r ∈ rs ∨ (okR r ∧ pR r ≤ 10) ∨ ∃ r' ∈ rs, pR r = pR r' + 1 ∧ okR r) : okB (k + 1) qs := by
  refine ⟨by have := h.1; omega, fun r hr => ?_⟩
  rcases hm r hr with q | q | ⟨r', q, e, o⟩
  · have := h.2 r q
    exact ⟨this.1, by have := this.2; push_cast; omega⟩
  · exact ⟨q.1, by have := q.2; push_cast; omega⟩
  · have := h.2 r' q
    exact ⟨o, by rw [e]; have := this.2; push_cast; omega⟩
theorem ok__law_bent (T : Txt K mg) : FnOk P w K mg base CX0 7 T.f__law_bent T.d__law_bent ["tin", "row_so"] (spT K 9 RBent PBent) := by
  refine T.F__law_bent.ok sc__law_bent (by rintro vs H Q E ⟨b, a, ws, ds, n, rfl, hs, hb, hT, hn, hd, ⟨rs, rfl, _⟩, q⟩; exact congrArg Nat.succ hd.length) (fun cdv A outer s H vs Q E hr h => ?_)
  obtain ⟨b00, a, ws, ds, n, rfl, hs, hb, hT, hn, hd, ⟨rs, rfl, hok⟩, q⟩ := h
  cases hd with
  | @cons x vs _ _ hx hd0 =>
  cases hd0
  refine ⟨_, (pss_cons (ps_if (pt_cmpR (op_eqA hr.units) (pv 1) (pe_tup pa_nil) (nomark _)) (pss_one (ps_ret (pe_tup (pa_cons (pe_call (ok__law_note T) (hr.mono (by omega)) (by rfl) T.m__law_note T.F__law_note.kp T.b__law_note .nil pass0 (pa_cons (pv 0) pa_nil)) pa_nil)))) pss_nil)
    (pss_cons (ps_par (i := 2) (j := 3) (by rfl) sc__law_bent.nd rfl rfl (by decide) rfl rfl (pa_cons (pe_call (ok__law_take T) (hr.mono (by omega)) (by rfl) T.m__law_take T.F__law_take.kp T.b__law_take .nil pass0 (pa_cons (pv 0) (pa_cons pe_int pa_nil))) (pa_cons (pe_call (ok__law_take T) (hr.mono (by omega)) (by rfl) T.m__law_take T.F__law_take.kp T.b__law_take .nil pass0 (pa_cons (pv 0) (pa_cons (pe_callB (call_lenK (K := K) rfl) (by rfl) T.z_len (by decide +kernel) (pa_cons (pv 1) pa_nil)) pa_nil))) pa_nil)) (by rfl))
    (pss_cons (ps_if (pt_cmpR (op_eqA hr.units) (pv 2) pe_int (nomark _)) (pss_one (ps_ret (pe_op (op_addBK (K := K) rfl) (pe_slice (sl_tupAK (K := K) rfl) (pv 1) po_none (po_some (pv 3))) (pe_slice (sl_tupAK (K := K) rfl) (pv 1) (po_some (pe_op (op_addBK (K := K) rfl) (pv 3) pe_int)) po_none)))) pss_nil)
    (pss_cons (ps_if (pt_cmpR (op_eqA hr.units) (pv 2) pe_int (nomark _)) (pss_one (ps_ret (pe_op (op_addBK (K := K) rfl) (pe_op (op_addBK (K := K) rfl) (pe_slice (sl_tupAK (K := K) rfl) (pv 1) po_none (po_some (pv 3))) (pe_tup (pa_cons (pe_ix (ix_seqK (K := K) rfl) (pv 1) (pv 3) (fun _ _ => rfl)) pa_nil))) (pe_slice (sl_tupAK (K := K) rfl) (pv 1) (po_some (pv 3)) po_none)))) pss_nil)
    (pss_cons (ps_if (pt_cmpR (op_eqA hr.units) (pv 2) pe_int (nomark _)) (pss_one (ps_ret (pe_op (op_addBK (K := K) rfl) (pe_op (op_addBK (K := K) rfl) (pe_slice (sl_tupAK (K := K) rfl) (pv 1) po_none (po_some (pv 3))) (pe_tup (pa_cons (pe_call0 (ok__law_blank T) (hr.mono (by omega)) (by rfl) T.m__law_blank T.F__law_blank.kp T.b__law_blank .nil pass0) pa_nil))) (pe_slice (sl_tupAK (K := K) rfl) (pv 1) (po_some (pv 3)) po_none)))) pss_nil)
    (pss_cons (ps_if (pt_cmpR (op_eqA hr.units) (pv 2) pe_int (nomark _)) (pss_one (ps_ret (pe_op (op_addBK (K := K) rfl) (pe_op (op_addBK (K := K) rfl) (pe_slice (sl_tupAK (K := K) rfl) (pv 1) po_none (po_some (pv 3))) (pe_tup (pa_cons (pe_call (ok__law_note T) (hr.mono (by omega)) (by rfl) T.m__law_note T.F__law_note.kp T.b__law_note .nil pass0 (pa_cons (pv 0) pa_nil)) pa_nil))) (pe_slice (sl_tupAK (K := K) rfl) (pv 1) (po_some (pe_op (op_addBK (K := K) rfl) (pv 3) pe_int)) po_none)))) pss_nil)
    (pss_cons (ps_if (pt_cmpR (op_eqA hr.units) (pv 2) pe_int (nomark _)) (pss_one (ps_ret (pe_op (op_addBK (K := K) rfl) (pe_slice (sl_tupAK (K := K) rfl) (pv 1) (po_some (pv 3)) po_none) (pe_slice (sl_tupAK (K := K) rfl) (pv 1) po_none (po_some (pv 3)))))) pss_nil)
    (pss_cons (ps_set (i := 4) sc__law_bent.nd rfl (by first | exact Or.inl rfl | exact Or.inr rfl) (pe_ix (ix_seqK (K := K) rfl) (pv 1) (pv 3) (fun _ _ => rfl)))
    (pss_cons (ps_if (pt_cmpR (op_eqA hr.units) (pv 4) (pe_call0 (ok__law_blank T) (hr.mono (by omega)) (by rfl) T.m__law_blank T.F__law_blank.kp T.b__law_blank .nil pass0) (nomark _)) (pss_one (ps_ret (pv 1))) pss_nil)
    (pss_one (ps_ret (pe_op (op_addBK (K := K) rfl) (pe_op (op_addBK (K := K) rfl) (pe_slice (sl_tupAK (K := K) rfl) (pv 1) po_none (po_some (pv 3))) (pe_tup (pa_cons (pe_op (op_addBK (K := K) rfl) (pe_slice (sl_tupAK (K := K) rfl) (pv 4) po_none (po_some (pe_un un_neg pe_int))) (pe_tup (pa_cons (pe_op (op_addBK (K := K) rfl) (pe_ix (ix_seqK (K := K) rfl) (pv 4) (pe_un un_neg pe_int) (fun _ _ => rfl)) pe_int) (pa_cons (pe_ix (ix_seqK (K := K) rfl) (pv 4) (pe_un un_neg pe_int) (fun _ _ => rfl)) pa_nil)))) pa_nil))) (pe_slice (sl_tupAK (K := K) rfl) (pv 1) (po_some (pe_op (op_addBK (K := K) rfl) (pv 3) pe_int)) po_none))))))))))))), ?_⟩
  have Z : S K [a] b00 H (start ["tin", "row_so", "kind_so", "k", "own"] [.ref a, x]) b00 H [.adr a, .dat (rowD rs), .un, .un, .un] := ⟨Fr.rfl' hs, .cons rfl (.cons ⟨x, rfl, hx⟩ (.cons True.intro (.cons True.intro (.cons True.intro .nil))))⟩
  have hn' : n + 9 ≤ mostDraws := hn
  have okr : ∀ r ∈ rs, okR r := fun r hr => (hok.2 r hr).1
  have hlen : rs.length ≤ 60 := hok.1
  have sub : ∀ {r}, r ∈ rs → ∀ {qs : List Rc}, r ∈ rs ∨ (okR r ∧ pR r ≤ 10) ∨ ∃ r' ∈ rs, pR r = pR r' + 1 ∧ okR r := fun h _ => .inl h
  cases hE : rs.isEmpty with
  | true =>
    apply q_whenT Z
    exact b_test (d_op (d_varZ Z rfl) (d_tup ds_nil (Nat.zero_le _)) (rv_eqAD (sh_row okr) rfl))
    rw [eq_empty]; exact hE
    intro b2 h2 F Z
    obtain ⟨hT, hb⟩ := hT.keep F hb
    refine s_retT Z hb mem1 hT (c := 7 + 0) (by omega) (t_tup (ts_cons (t_callT1 Z.sl rfl rfl) ts_nil (by decide) (by decide)) ?_) fun v d b2 h2 hd F hb T D => ?_
    · rintro ds ⟨d1, e1, rfl, _, rfl⟩
      exact Nat.le_of_ble_eq_true rfl
    · obtain ⟨ds, rfl, d1, e1, rfl, ⟨r, rfl, ho, hp⟩, rfl⟩ := hd
      have e0 : rs = [] := List.isEmpty_iff.mp hE
      refine q v _ b2 h2 ⟨rs, [r], rfl, rfl, fun k hk => bent_of hk (by rw [e0]; exact Nat.le_refl 1) fun r' hr' => ?_⟩ F hb (T.le (by omega)) D
      have : r' = r := by simpa using hr'
      rw [this]
      exact .inr (.inl ⟨ho, hp⟩)
  | false =>
    apply q_whenF Z
    exact b_test (d_op (d_varZ Z rfl) (d_tup ds_nil (Nat.zero_le _)) (rv_eqAD (sh_row okr) rfl))
    rw [eq_empty]; exact hE
    intro b2 h2 F Z
    obtain ⟨hT, hb⟩ := hT.keep F hb
    have hpos : 0 < rs.length := by
      cases rs with
      | nil => cases hE
      | cons r rs => exact Nat.succ_pos _
    have el : EvD K (tCB (fun xs H Q => ∃ x n, xs = [x] ∧ LenV K x H n ∧ Q (.int n) H) (tCons (tVar 1) tNil)) _ _ (.int ((rs.map dR).length : Int)) := d_cb (ds_cons (d_varZ Z rfl) ds_nil) rc_lenT
    refine q_parT Z hb mem1 hT (c := 1 + (1 + 0)) (by omega) (ts_cons (t_callT Z.sl rfl (ds_cons (d_int 6) ds_nil) ⟨6, rfl, by decide, by decide⟩) (ts_cons (t_callT Z.sl rfl (ds_cons el ds_nil) ⟨((rs.map dR).length : Int), rfl, by rw [List.length_map]; omega, by rw [List.length_map]; omega⟩) ts_nil (by decide) (by decide)) (by decide) (by decide)) ?_ fun d1 d2 σ b h hR Z hb hT => ?_
    · rintro ds ⟨d1, e1, rfl, _, d2, e2, rfl, _, rfl⟩
      exact ⟨_, _, rfl⟩
    obtain ⟨_, e0, e4, ⟨_, kd, e5, kd0, kd1, rfl⟩, _, e1, e6, ⟨_, ki, e7, k0, k1, rfl⟩, e8⟩ := hR
    cases e4
    cases e5
    cases e6
    cases e7
    rw [List.length_map] at k1
    obtain ⟨k, rfl⟩ : ∃ k : Nat, ki = (k : Int) := ⟨ki.toNat, by omega⟩
    have hk : k < rs.length := by omega
    have e9 : ((k : Int) + 1) = ((k + 1 : Nat) : Int) := by omega
    have fin : ∀ {σ b h D qs z} {te : TE}, D.rt = Q → S K [a] b00 H σ b h [.adr a, .dat (rowD rs), .dat (.int kd), .dat (.int (k : Int)), z] → b a = none → Tin a (n + 2) h → EvD K te σ b (rowD qs) → (∀ k, okB k rs → okB (k + 1) qs) → tRet te D σ h := fun {σ b h D qs z te} eD Z hb hT he hq => by
      refine s_retT Z hb mem1 hT (c := 0) (R := fun d => d = rowD qs) (by omega) (t_pure he) fun v d b2 h2 hd F hb T D' => ?_
      rw [eD]
      exact q v _ b2 h2 ⟨rs, qs, rfl, hd, hq⟩ F hb (T.le (by omega)) D'
    have hT : Tin a (n + 2) h := hT.le (by omega)
    have mt : ∀ {r m}, r ∈ rs.take m → r ∈ rs := fun h => List.mem_of_mem_take h
    have md : ∀ {r m}, r ∈ rs.drop m → r ∈ rs := fun h => List.mem_of_mem_drop h
    -- one taken out
    refine q_when Z (c := decide (kd = 0)) (b_test (d_op (d_varZ Z rfl) (d_int 0) rv_eqAI)) (fun hc b2 h2 F Z => ?_) (fun hc b2 h2 F Z => ?_)
    · obtain ⟨hT, hb⟩ := hT.keep F hb
      refine fin rfl Z hb hT (d_catR (d_take (k := k) (d_varZ Z rfl) (d_varZ Z rfl)) (d_drop (k := k + 1) (d_varZ Z rfl) (EvD.is (d_op (d_varZ Z rfl) (d_int 1) rv_addIB) (congrArg PyData.int e9))) (by rw [List.length_take, List.length_drop]; omega)) fun k' hk' => bent_of hk' (by rw [List.length_append, List.length_take, List.length_drop]; omega) fun r hr => ?_
      rcases List.mem_append.mp hr with h | h
      · exact .inl (mt h)
      · exact .inl (md h)
    obtain ⟨hT, hb⟩ := hT.keep F hb
    -- one doubled
    refine q_when Z (c := decide (kd = 1)) (b_test (d_op (d_varZ Z rfl) (d_int 1) rv_eqAI)) (fun hc b2 h2 F Z => ?_) (fun hc b2 h2 F Z => ?_)
    · obtain ⟨hT, hb⟩ := hT.keep F hb
      refine fin rfl Z hb hT (d_catR (d_catR (d_take (k := k) (d_varZ Z rfl) (d_varZ Z rfl)) (d_oneR (r := rg rs k) (d_op (d_varZ Z rfl) (d_varZ Z rfl) (rv_ixT (row_at hk)))) (by rw [List.length_take]; show _ + 1 ≤ _; omega)) (d_drop (k := k) (d_varZ Z rfl) (d_varZ Z rfl)) (by rw [List.length_append, List.length_take, List.length_drop]; show _ + 1 + _ ≤ _; omega)) fun k' hk' => bent_of hk' (by rw [List.length_append, List.length_append, List.length_take, List.length_drop]; show _ + 1 + _ ≤ _; omega) fun r hr => ?_
      rcases List.mem_append.mp hr with h | h
      · rcases List.mem_append.mp h with h | h
        · exact .inl (mt h)
        · have e : r = rg rs k := by simpa using h
          rw [e, ← rg_get hk]
          exact .inl (List.getElem_mem hk)
      · exact .inl (md h)
    obtain ⟨hT, hb⟩ := hT.keep F hb
    -- a blank put in
    refine q_when Z (c := decide (kd = 2)) (b_test (d_op (d_varZ Z rfl) (d_int 2) rv_eqAI)) (fun hc b2 h2 F Z => ?_) (fun hc b2 h2 F Z => ?_)
    · obtain ⟨hT, hb⟩ := hT.keep F hb
      refine fin rfl Z hb hT (d_catR (d_catR (d_take (k := k) (d_varZ Z rfl) (d_varZ Z rfl)) (d_oneR (r := .blank) (d_call0 ⟨rfl, rfl⟩)) (by rw [List.length_take]; show _ + 1 ≤ _; omega)) (d_drop (k := k) (d_varZ Z rfl) (d_varZ Z rfl)) (by rw [List.length_append, List.length_take, List.length_drop]; show _ + 1 + _ ≤ _; omega)) fun k' hk' => bent_of hk' (by rw [List.length_append, List.length_append, List.length_take, List.length_drop]; show _ + 1 + _ ≤ _; omega) fun r hr => ?_
      rcases List.mem_append.mp hr with h | h
      · rcases List.mem_append.mp h with h | h
        · exact .inl (mt h)
        · have e : r = .blank := by simpa using h
          rw [e]
          exact .inr (.inl ⟨True.intro, by decide⟩)
      · exact .inl (md h)
    obtain ⟨hT, hb⟩ := hT.keep F hb
    -- another one in its place
    refine q_when Z (c := decide (kd = 3)) (b_test (d_op (d_varZ Z rfl) (d_int 3) rv_eqAI)) (fun hc b2 h2 F Z => ?_) (fun hc b2 h2 F Z => ?_)
    · obtain ⟨hT, hb⟩ := hT.keep F hb
      refine s_retT Z hb mem1 hT (c := 0 + (7 + 0) + 0) (by omega) (t_op (R := fun d => ∃ r, d = rowD (rs.take k ++ [r] ++ rs.drop (k + 1)) ∧ okR r ∧ pR r ≤ 10) (t_op (R := fun d => ∃ r, d = rowD (rs.take k ++ [r]) ∧ okR r ∧ pR r ≤ 10) (t_pure (d_take (k := k) (d_varZ Z rfl) (d_varZ Z rfl))) (t_tup (ts_cons (t_callT1 Z.sl rfl rfl) ts_nil (by decide) (by decide)) ?_) (by decide) (by decide) fun d1 d2 e1 e2 => ?_) (t_pure (d_drop (k := k + 1) (d_varZ Z rfl) (EvD.is (d_op (d_varZ Z rfl) (d_int 1) rv_addIB) (congrArg PyData.int e9)))) (by decide) (by decide) fun d1 d2 e1 e2 => ?_) fun v d b2 h2 hd F hb T D => ?_
      · rintro ds ⟨d1, e1, rfl, _, rfl⟩
        exact Nat.le_of_ble_eq_true rfl
      · obtain ⟨ds, rfl, d1, _, rfl, ⟨r, rfl, ho, hp⟩, rfl⟩ := e2
        subst e1
        refine ⟨_, rv_addTB (by rw [List.length_map, List.length_take]; show _ + 1 ≤ _; omega), r, ?_, ho, hp⟩
        unfold rowD
        rw [List.map_append]
        rfl
      · obtain ⟨r, rfl, ho, hp⟩ := e1
        subst e2
        refine ⟨_, rv_addTB (by rw [List.length_map, List.length_append, List.length_take, List.length_map, List.length_drop]; show _ + 1 + _ ≤ _; omega), r, ?_, ho, hp⟩
        unfold rowD
        rw [List.map_append (l₂ := rs.drop (k + 1))]
      · obtain ⟨r, rfl, ho, hp⟩ := hd
        refine q v _ b2 h2 ⟨rs, _, rfl, rfl, fun k' hk' => bent_of hk' (by rw [List.length_append, List.length_append, List.length_take, List.length_drop]; show _ + 1 + _ ≤ _; omega) fun r' hr' => ?_⟩ F hb (T.le (by omega)) D
        rcases List.mem_append.mp hr' with h | h
        · rcases List.mem_append.mp h with h | h
          · exact .inl (mt h)
          · have e : r' = r := by simpa using h
            rw [e]
            exact .inr (.inl ⟨ho, hp⟩)
        · exact .inl (md h)
    obtain ⟨hT, hb⟩ := hT.keep F hb
    -- turned
    refine q_when Z (c := decide (kd = 4)) (b_test (d_op (d_varZ Z rfl) (d_int 4) rv_eqAI)) (fun hc b2 h2 F Z => ?_) (fun hc b2 h2 F Z => ?_)
    · obtain ⟨hT, hb⟩ := hT.keep F hb
      refine fin rfl Z hb hT (d_catR (d_drop (k := k) (d_varZ Z rfl) (d_varZ Z rfl)) (d_take (k := k) (d_varZ Z rfl) (d_varZ Z rfl)) (by rw [List.length_take, List.length_drop]; omega)) fun k' hk' => bent_of hk' (by rw [List.length_append, List.length_take, List.length_drop]; omega) fun r hr => ?_
      rcases List.mem_append.mp hr with h | h
      · exact .inl (md h)
      · exact .inl (mt h)
    obtain ⟨hT, hb⟩ := hT.keep F hb
    -- its place told as one more
    refine q_asgK Z hb hT (d := dR (rg rs k)) (d_op (d_varZ Z rfl) (d_varZ Z rfl) (rv_ixT (row_at hk))) fun σ b h Z hb hT F => ?_
    have oo := rg_ok okr k
    have bl : ∀ {σ : St} {b : Hp} {te : TE} {r : Rc}, EvD K te σ b (dR r) → okR r → EvB (tTest (tOp (rEqA K) te (tCall (spD K fun ds d => ds = [] ∧ d = blankD) [] E0 tNil))) σ b (isB r) := fun h ho => EvB.is (b_test (d_op h (d_call0 ⟨rfl, rfl⟩) (rv_eqAD (sh_dR _ ho) sh_blank))) (eq_blank _)
    refine q_when Z (bl (r := rg rs k) (d_varZ Z rfl) oo) (fun hc b2 h2 F Z => ?_) (fun hc b2 h2 F Z => ?_)
    · obtain ⟨hT, hb⟩ := hT.keep F hb
      exact fin rfl Z hb hT (d_varZ Z rfl) fun k' hk' => bent_of hk' (Nat.le_succ _) fun r hr => .inl hr
    obtain ⟨hT, hb⟩ := hT.keep F hb
    have hmem : rg rs k ∈ rs := by rw [← rg_get hk]; exact List.getElem_mem hk
    have hp60 : pR (rg rs k) ≤ 60 := (hok.2 _ hmem).2
    have nw : ∃ r', cat2 (sgD (rg rs k)) [.int (pR (rg rs k) + 1), .int (lR (rg rs k))] = dR r' ∧ pR r' = pR (rg rs k) + 1 ∧ okR r' := by
      cases hr : rg rs k with
      | blank => rw [hr] at hc; cases hc
      | put k1 w1 p l =>
        rw [hr] at oo hp60
        obtain ⟨h1, h2, h3, h4, h5⟩ := oo
        exact ⟨.put k1 w1 (p + 1) l, rfl, rfl, h1, h2, h3, h4, by have := h5.1; show 0 ≤ p + 1; omega, by have : p ≤ 60 := hp60; show p + 1 ≤ 1000; omega, h5.2.2⟩
      | drop k1 p l =>
        rw [hr] at oo hp60
        obtain ⟨h1, h2, h5⟩ := oo
        exact ⟨.drop k1 (p + 1) l, rfl, rfl, h1, h2, by have := h5.1; show 0 ≤ p + 1; omega, by have : p ≤ 60 := hp60; show p + 1 ≤ 1000; omega, h5.2.2⟩
    obtain ⟨r', er, ep, eo⟩ := nw
    refine fin rfl Z hb hT (d_catR (d_catR (d_take (k := k) (d_varZ Z rfl) (d_varZ Z rfl)) (d_oneR (r := r') (EvD.is (d_catS (r := rg rs k) (d_sg (d_varZ Z rfl)) (d_tup (ds_cons (d_op (d_prt (r := rg rs k) (d_varZ Z rfl) hc) (d_int 1) rv_addIB) (ds_cons (d_lft (r := rg rs k) (d_varZ Z rfl) hc) ds_nil)) (show 2 ≤ 100000 by decide))) er)) (by rw [List.length_take]; show _ + 1 ≤ _; omega)) (d_drop (k := k + 1) (d_varZ Z rfl) (EvD.is (d_op (d_varZ Z rfl) (d_int 1) rv_addIB) (congrArg PyData.int e9))) (by rw [List.length_append, List.length_take, List.length_drop]; show _ + 1 + _ ≤ _; omega)) fun k' hk' => bent_of hk' (by rw [List.length_append, List.length_append, List.length_take, List.length_drop]; show _ + 1 + _ ≤ _; omega) fun r hr => ?_
    rcases List.mem_append.mp hr with h | h
    · rcases List.mem_append.mp h with h | h
      · exact .inl (mt h)
      · have e : r = r' := by simpa using h
        rw [e]
        exact .inr (.inr ⟨_, hmem, ep, eo⟩)
    · exact .inl (md h)
end
end LW

namespace LW
open PySem L2 DV
local macro_rules | `(tactic| walk_at "dv") => `(tactic| first
  | exact d_int _ | exact d_str _ | exact d_bl _ | exact d_non
  | (apply d_varZ (by assumption); rfl)
  | (apply d_var (by assumption); rfl)
  | exact ds_nil
  | (apply ds_cons; walk_at "dv"; walk_at "dv")
  | (apply d_op; walk_at "dv"; walk_at "dv"; walk_at "rv")
  | (apply d_tup; walk_at "dv"; (simp only [List.length]; omega))
  | (apply d_lst; walk_at "dv"; (simp only [List.length]; omega))
  | (apply d_neg; walk_at "dv")
  | (apply d_notV; walk_at "dv")
  | (apply d_isi; walk_at "dv"; rfl)
  | (apply d_isi2; walk_at "dv"; rfl; rfl)
  | (apply d_cb; walk_at "dv"; walk_at "rc")
  | (apply d_andV; walk_at "dv"; (intro _; walk_at "dv"))
  | (apply d_orV; walk_at "dv"; (intro _; walk_at "dv"))
  | (apply d_chain; walk_at "dv"; walk_at "dv"; walk_at "dv"; walk_at "rv"; walk_at "rv")
  | (apply b_and; walk_at "dv"; (intro _; walk_at "dv"))
  | (apply b_or; walk_at "dv"; (intro _; walk_at "dv"))
  | (apply b_test; walk_at "dv")
  | (apply b_B; walk_at "dv")
  | (apply b_not; walk_at "dv")
  | exact b_yes)
local macro_rules | `(tactic| walk_at "rv") => `(tactic| first
  | exact rv_addI | exact rv_subI | exact rv_ltI | exact rv_leI | exact rv_gtI | exact rv_geI
  | exact rv_eqAI | exact rv_eqAB | exact rv_neAI | exact rv_neAB | exact rv_eqAS | exact rv_eqAN
  | exact rv_ixT rfl | exact rv_ixL rfl
  | (apply rv_modI; first | assumption | decide | omega)
  | (apply rv_divI; (first | assumption | decide | omega); (first | assumption | decide | omega))
  | (apply rv_mulI; (first | assumption | decide | omega); (first | assumption | decide | omega)))
local macro_rules | `(tactic| walk_at "rc") => `(tactic| first
  | exact rc_lenL | exact rc_lenT | exact rc_max | exact rc_min | exact rc_int | exact rc_intB | exact rc_tupL | exact rc_tupT | exact rc_listT | exact rc_listL | exact rc_abs)

local macro_rules | `(tactic| walk_at "rv") => `(tactic| first | exact rv_addIB)
local macro_rules | `(tactic| walk_at "dv") => `(tactic| first
  | (apply d_slTh; walk_at "dv"; walk_at "dv"; rfl)
  | (apply d_slTl; walk_at "dv"; walk_at "dv"; rfl)
  | (apply d_slTb; walk_at "dv"; walk_at "dv"; walk_at "dv"; rfl)
  | (apply d_slLh; walk_at "dv"; walk_at "dv"; rfl)
  | (apply d_slLl; walk_at "dv"; walk_at "dv"; rfl))

theorem okR_set {r : Rc} {p l : Int} (h : okR r) (hn : okN p l) : okR (setR r p l) := by
  cases r with
  | blank => exact True.intro
  | put k w p' l' => exact ⟨h.1, h.2.1, h.2.2.1, h.2.2.2.1, hn⟩
  | drop k p' l' => exact ⟨h.1, h.2.1, hn⟩
theorem pR_set (r : Rc) (p l : Int) (h : 0 ≤ p) : pR (setR r p l) ≤ p := by
  cases r with
  | blank => exact h
  | put k w p' l' => exact Int.le_refl _
  | drop k p' l' => exact Int.le_refl _
theorem zip_mem {g : Nat → Rc → Rc} : ∀ {m : List Nat} {rs : List Rc} {x : Rc}, x ∈ List.zipWith g m rs → ∃ k ∈ m, ∃ r ∈ rs, x = g k r
  | [], _, _, h => by simp at h
  | _ :: _, [], _, h => by simp at h
  | k :: m, r :: rs, x, h => by
    rcases List.mem_cons.mp (show x ∈ g k r :: List.zipWith g m rs from h) with e | h
    · exact ⟨k, List.mem_cons_self .., r, List.mem_cons_self .., e⟩
    · obtain ⟨k', h1, r', h2, e⟩ := zip_mem h
      exact ⟨k', List.mem_cons_of_mem _ h1, r', List.mem_cons_of_mem _ h2, e⟩
theorem parts_ok {rs : List Rc} (hl : rs.length ≤ 5) (h : ∀ r ∈ rs, good r) : (partsL rs).length ≤ 5 ∧ ∀ r ∈ partsL rs, okR r ∧ pR r ≤ 10 := by
  constructor
  · unfold partsL
    rw [List.length_zipWith, List.length_range]
    omega
  · intro x hx
    obtain ⟨k, hk, r, hr, rfl⟩ := zip_mem hx
    have hk' := List.mem_range.mp hk
    have h1 := pR_set r (k : Int) ((rs.length : Int) - 1 - (k : Int)) (by omega)
    exact ⟨okR_set (h r hr).2 ⟨by omega, by omega, by omega, by omega⟩, by omega⟩
theorem okB_mono {k m : Nat} {rs : List Rc} (h : okB k rs) (e : k ≤ m) : okB m rs := ⟨by have := h.1; omega, fun r hr => ⟨(h.2 r hr).1, by have := (h.2 r hr).2; omega⟩⟩
theorem okB_len {k : Nat} {rs : List Rc} (h : okB k rs) (e : k ≤ 10) : rs.length ≤ 1000 ∧ ∀ r ∈ rs, okR r := ⟨by have := h.1; omega, fun r hr => (h.2 r hr).1⟩
section
variable {P : Program} {w : World} {K : PySem.W.Frag} {mg : Str → Option Value} {base : Heap}
section
variable {B : List Addr} {b0 h0 : Hp} {σ : St} {b h : Hp} {te : TE} {Δ : List SD} {D : Ends} {a : Addr} {c n : Int} {R : PyData → Prop}
theorem s_asgT {m : Nat} (Z : S K B b0 h0 σ b h Δ) (hb : b a = none) (hB : a ∈ B ∨ h0 a = none) (T : Tin a n h) (hn : n + c ≤ mostDraws) (he : EvT K te σ b a c R) (k : ∀ d σ2 b2 h2, R d → S K B b0 h0 σ2 b2 h2 (Δ.set m (.dat d)) → b2 a = none → Tin a (n + c) h2 → D.nx σ2 h2) : tAsg te (gName m) D σ h :=
  q_asgT (tz := fun D => D.nx) (D := D) Z hb hB T hn he k
end
abbrev RTrue : List PyData → PyData → Prop := fun _ d => d = .bool true
theorem ok__law_right (T : Txt K mg) : FnOk P w K mg base CX0 11 T.f__law_right T.d__law_right ["tin"] (spT K 200 RTrue (· = [])) := by
  refine T.F__law_right.ok sc__law_right (by rintro vs H Q E ⟨b, a, ws, ds, n, rfl, hs, hb, hT, hn, hd, rfl, q⟩; exact congrArg Nat.succ hd.length) (fun cdv A outer s H vs Q E hr h => ?_)
  obtain ⟨b00, a, ws, ds, n0, rfl, hs, hb, hT, hn, hd, rfl, q⟩ := h
  cases hd
  refine ⟨_, (pss_cons (ps_set (i := 1) sc__law_right.nd rfl (by first | exact Or.inl rfl | exact Or.inr rfl) (pe_lst pa_nil))
    (pss_cons (ps_for PassesOwn.never rfl (pi_range1 rfl T.z_range (pa_cons (pe_op op_addA pe_int (pe_call (ok__law_take T) (hr.mono (by omega)) (by rfl) T.m__law_take T.F__law_take.kp T.b__law_take .nil pass0 (pa_cons (pv 0) (pa_cons pe_int pa_nil)))) pa_nil)) (pg_name (i := 2) sc__law_right.nd rfl (by first | exact Or.inl rfl | exact Or.inr rfl)) (pss_one (ps_set (i := 1) sc__law_right.nd rfl (by first | exact Or.inl rfl | exact Or.inr rfl) (pe_op op_addA (pv 1) (pe_call (ok__law_parts T) (hr.mono (by omega)) (by rfl) T.m__law_parts T.F__law_parts.kp T.b__law_parts .nil pass0 (pa_cons (pe_call (ok__law_deal T) (hr.mono (by omega)) (by rfl) T.m__law_deal T.F__law_deal.kp T.b__law_deal .nil pass0 (pa_cons (pv 0) pa_nil)) pa_nil))))))
    (pss_cons (ps_set (i := 1) sc__law_right.nd rfl (by first | exact Or.inl rfl | exact Or.inr rfl) (pe_callTy call_tuple_of (by rfl) T.z_tuple (by decide +kernel) (pa_cons (pe_slice sl_list (pv 1) po_none (po_some pe_int)) pa_nil)))
    (pss_cons (ps_for PassesOwn.never rfl (pi_range1 rfl T.z_range (pa_cons pe_int pa_nil)) (pg_name (i := 2) sc__law_right.nd rfl (by first | exact Or.inl rfl | exact Or.inr rfl)) (pss_cons (ps_if (pt_not (pt_val (pe_call (ok__law_told_right T) (hr.mono (by omega)) (by rfl) T.m__law_told_right T.F__law_told_right.kp T.b__law_told_right .nil pass0 (pa_cons (pv 1) pa_nil)))) (pss_one (ps_ret pe_bl)) pss_nil)
    (pss_one (ps_set (i := 1) sc__law_right.nd rfl (by first | exact Or.inl rfl | exact Or.inr rfl) (pe_call (ok__law_bent T) (hr.mono (by omega)) (by rfl) T.m__law_bent T.F__law_bent.kp T.b__law_bent .nil pass0 (pa_cons (pv 0) (pa_cons (pv 1) pa_nil)))))))
    (pss_cons (ps_set (i := 3) sc__law_right.nd rfl (by first | exact Or.inl rfl | exact Or.inr rfl) (pe_callTy call_tuple_of (by rfl) T.z_tuple (by decide +kernel) (pa_cons (pe_lc (own := [("lap", 2)]) (g := gName 2) rfl sc__law_right.nd (pi_range1 rfl T.z_range (pa_cons (pe_call (ok__law_take T) (hr.mono (by omega)) (by rfl) T.m__law_take T.F__law_take.kp T.b__law_take .nil pass0 (pa_cons (pv 0) (pa_cons pe_int pa_nil))) pa_nil)) (blkOk_by (N := ["tin", "row_so", "lap", "any_so"]) (sc := defScope s__law_right) (by decide +kernel)) (fun _ _ _ _ _ => (pg_name (i := 2) sc__law_right.nd rfl (by first | exact Or.inl rfl | exact Or.inr rfl))) (fun _ _ _ _ _ => pts_nil) (fun _ _ _ _ _ => (pe_call (ok__law_note T) (hr.mono (by omega)) (by rfl) T.m__law_note T.F__law_note.kp T.b__law_note .nil pass0 (pa_cons (pv 0) pa_nil)))) pa_nil)))
    (pss_one (ps_ret (pe_and (pe_call (ok__law_told_right T) (hr.mono (by omega)) (by rfl) T.m__law_told_right T.F__law_told_right.kp T.b__law_told_right .nil pass0 (pa_cons (pv 1) pa_nil)) (pe_one (pe_call (ok__law_told_right T) (hr.mono (by omega)) (by rfl) T.m__law_told_right T.F__law_told_right.kp T.b__law_told_right .nil pass0 (pa_cons (pv 3) pa_nil))))))))))), ?_⟩
  have Z : S K [a] b00 H (start ["tin", "row_so", "lap", "any_so"] [.ref a]) b00 H [.adr a, .un, .un, .un] := ⟨Fr.rfl' hs, .cons rfl (.cons True.intro (.cons True.intro (.cons True.intro .nil)))⟩
  have hn' : n0 + 200 ≤ 1000000000 := hn
  have md : mostDraws = 1000000000 := rfl
  refine q_asgK Z hb hT (d := .list (([] : List Rc).map dR)) (d_lst ds_nil (Nat.zero_le _)) fun σ b h Z hb hT F => ?_
  refine q_forRT Z hb mem1 hT (c := 1 + 0) (by omega) (lo := 1) (hi := 4) (ts_mono (ts_cons (t_plus (t_callT Z.sl rfl (ds_cons (d_int 4) ds_nil) ⟨4, rfl, by decide, by decide⟩)) ts_nil (by decide) (by decide)) ?_) ⟨by decide, by decide⟩ (fun i σ h => ∃ (b : Hp) (rs : List Rc) (z2 z3 : SD), S K [a] b00 H σ b h [.adr a, .dat (.list (rs.map dR)), z2, z3] ∧ b a = none ∧ Tin a (n0 + 1 + 22 * (i : Int)) h ∧ rs.length ≤ 5 * i ∧ ∀ r ∈ rs, okR r ∧ pR r ≤ 10) (fun b2 h2 Z hb hT => ?_) (fun i σ h hi hP => ?_) (fun k σ h k1 k2 hP => ?_)
  · rintro ds ⟨d, es, rfl, ⟨r, r0, r1, rfl⟩, rfl⟩
    exact ⟨_, rfl, by omega, by omega⟩
  · exact ⟨b2, [], _, _, Z, hb, hT.le (by omega), Nat.zero_le _, fun _ z => by cases z⟩
  · obtain ⟨b, rs, z2, z3, Z, hb, hT, hl, hok⟩ := hP
    have Z : S K [a] b00 H (σ.set 2 (some (.int (0 + (i : Int))))) b h [.adr a, .dat (.list (rs.map dR)), .dat (.int (0 + (i : Int))), z3] := ⟨Z.fr, Z.sl.set (z := .dat (.int (0 + (i : Int)))) ⟨_, rfl, .int _⟩ 2⟩
    refine s_asgT Z hb mem1 hT (c := 0 + 22) (by omega) (t_op (R := fun d => ∃ qs : List Rc, d = .list ((rs ++ partsL qs).map dR) ∧ qs.length ≤ 5 ∧ ∀ r ∈ qs, good r) (t_pure (d_varZ Z rfl)) (t_callD1 (R := fun d => ∃ qs : List Rc, d = .list ((partsL qs).map dR) ∧ qs.length ≤ 5 ∧ ∀ r ∈ qs, good r) (t_callT1 Z.sl rfl rfl) ?_) (by decide) (by decide) fun d1 d2 e1 e2 => ?_) fun d σ2 b2 h2 hd Z hb hT => ?_
    · rintro d ⟨qs, hq, hl, hg⟩
      exact ⟨_, ⟨d, qs, rfl, hq, by omega, fun r hr => (hg r hr).1, rfl⟩, qs, rfl, hl, hg⟩
    · obtain ⟨qs, rfl, hl', hg⟩ := e2
      subst e1
      refine ⟨_, rv_addL (by rw [List.length_map, List.length_map]; have := (parts_ok hl' hg).1; omega), qs, ?_, hl', hg⟩
      rw [List.map_append]
    · obtain ⟨qs, rfl, hl', hg⟩ := hd
      obtain ⟨p1, p2⟩ := parts_ok hl' hg
      refine ⟨b2, rs ++ partsL qs, _, _, Z, hb, hT.le (by omega), by rw [List.length_append]; omega, fun r hr => ?_⟩
      rcases List.mem_append.mp hr with h | h
      · exact hok r h
      · exact p2 r h
  · obtain ⟨b, rs, z2, z3, Z, hb, hT, hl, hok⟩ := hP
    have hT : Tin a (n0 + 89) h := hT.le (by omega)
    refine q_asgK Z hb hT (d := rowD (rs.take 12)) (d_cb (ds_cons (d_slLh (ds := rs.map dR) (d_varZ Z rfl) (d_int 12) (congrArg PyData.list (cut_take rs 12))) ds_nil) rc_tupL) fun σ b h Z hb hT F => ?_
    refine q_forR1 Z (m := 3) (ds_cons (d_int 3) ds_nil) ⟨by decide, by decide⟩ (fun i σ h => ∃ (b : Hp) (rs : List Rc) (z2 z3 : SD), S K [a] b00 H σ b h [.adr a, .dat (rowD rs), z2, z3] ∧ b a = none ∧ Tin a (n0 + 89 + 9 * (i : Int)) h ∧ okB i rs) (fun b2 h2 F Z => ?_) (fun i σ h hi hP => ?_) (fun σ h hP => ?_)
    · obtain ⟨hT, hb⟩ := hT.keep F hb
      refine ⟨b2, _, _, _, Z, hb, hT.le (by omega), by rw [List.length_take]; omega, fun r hr => ?_⟩
      have := hok r (List.mem_of_mem_take hr)
      exact ⟨this.1, by have := this.2; omega⟩
    · obtain ⟨b, rs, z2, z3, Z, hb, hT, ok⟩ := hP
      have Z : S K [a] b00 H (σ.set 2 (some (.int (0 + (i : Int))))) b h [.adr a, .dat (rowD rs), .dat (.int (0 + (i : Int))), z3] := ⟨Z.fr, Z.sl.set (z := .dat (.int (0 + (i : Int)))) ⟨_, rfl, .int _⟩ 2⟩
      obtain ⟨o1, o2⟩ := okB_len ok (by omega)
      refine q_whenFK Z hb hT (b_not (b_B (d_call (ds_cons (d_varZ Z rfl) ds_nil) ⟨rs, rfl, o1, o2, rfl⟩))) rfl fun b2 h2 Z hb hT F => ?_
      refine s_asgT Z hb mem1 hT (c := 9) (by omega) (t_callT Z.sl rfl (ds_cons (d_varZ Z rfl) ds_nil) ⟨rs, rfl, okB_mono ok (by omega)⟩) fun d σ2 b2 h2 hd Z hb hT => ?_
      obtain ⟨rs', qs, e, rfl, hq⟩ := hd
      have e2 := rowD_inj (List.cons.inj e).1
      subst e2
      exact ⟨b2, qs, _, _, Z, hb, hT.le (by omega), hq i ok⟩
    · obtain ⟨b, rs, z2, z3, Z, hb, hT, ok⟩ := hP
      obtain ⟨o1, o2⟩ := okB_len ok (by decide)
      have hT : Tin a (n0 + 116) h := hT.le (by show n0 + 89 + 9 * (((3 : Int).toNat : Nat) : Int) ≤ n0 + 116; simp; omega)
      refine q_asgT Z hb mem1 hT (c := 1 + 0 + 7 * 7) (by omega) (t_cb1 (R1 := fun d => ∃ rs : List Rc, d = rowD rs ∧ rs.length ≤ 1000 ∧ ∀ r ∈ rs, okR r) (t_lcRT (lo := 0) (hi := 7) (c := 7) (R := RNote []) Z.sl (ts_mono (ts_cons (t_callT Z.sl rfl (ds_cons (d_int 8) ds_nil) ⟨8, rfl, by decide, by decide⟩) ts_nil (by decide) (by decide)) ?_) (by decide) ⟨by decide, by decide, by decide⟩ (by decide) (fun x => wipe1) fun i σ2 b2 e Sl => t_callT1 Sl rfl rfl) ?_) fun d σ b h hd Z hb hT => ?_
      · rintro ds ⟨d, es, rfl, ⟨_, r, e, r0, r1, rfl⟩, rfl⟩
        cases e
        exact ⟨_, rfl, by omega, by omega⟩
      · rintro d ⟨ds, rfl, l1, l2, hR⟩
        have key : ∀ ds : List PyData, (∀ d ∈ ds, RNote [] d) → ∃ rs : List Rc, ds = rs.map dR ∧ ∀ r ∈ rs, okR r := fun ds => by
          induction ds with
          | nil => exact fun _ => ⟨[], rfl, fun _ z => by cases z⟩
          | cons d ds ih =>
            intro h
            obtain ⟨r, rfl, hg, _⟩ := h d (List.mem_cons_self ..)
            obtain ⟨rs, rfl, hgs⟩ := ih fun d hd => h d (List.mem_cons_of_mem _ hd)
            exact ⟨r :: rs, rfl, fun r' hr' => by
              rcases List.mem_cons.mp hr' with rfl | q
              · exact hg
              · exact hgs r' q⟩
        obtain ⟨qs, rfl, hg⟩ := key ds hR
        exact ⟨_, rc_tupL, qs, rfl, by rw [List.length_map] at l2; omega, hg⟩
      · obtain ⟨qs, rfl, g1, g2⟩ := hd
        refine s_retK Z hb hT (d := .bool (true && true)) (d_andV (d_call (ds_cons (d_varZ Z rfl) ds_nil) ⟨rs, rfl, o1, o2, rfl⟩) fun _ => d_call (ds_cons (d_varZ Z rfl) ds_nil) ⟨qs, rfl, g1, g2, rfl⟩) fun v b2 h2 F hb T D => q v _ b2 h2 rfl F hb (T.le (by omega)) D
end
end LW

namespace LW
open PySem L2 DV
local macro_rules | `(tactic| walk_at "dv") => `(tactic| first
  | exact d_int _ | exact d_str _ | exact d_bl _ | exact d_non
  | (apply d_varZ (by assumption); rfl)
  | (apply d_var (by assumption); rfl)
  | exact ds_nil
  | (apply ds_cons; walk_at "dv"; walk_at "dv")
  | (apply d_op; walk_at "dv"; walk_at "dv"; walk_at "rv")
  | (apply d_tup; walk_at "dv"; (simp only [List.length]; omega))
  | (apply d_lst; walk_at "dv"; (simp only [List.length]; omega))
  | (apply d_neg; walk_at "dv")
  | (apply d_notV; walk_at "dv")
  | (apply d_isi; walk_at "dv"; rfl)
  | (apply d_isi2; walk_at "dv"; rfl; rfl)
  | (apply d_cb; walk_at "dv"; walk_at "rc")
  | (apply d_andV; walk_at "dv"; (intro _; walk_at "dv"))
  | (apply d_orV; walk_at "dv"; (intro _; walk_at "dv"))
  | (apply d_chain; walk_at "dv"; walk_at "dv"; walk_at "dv"; walk_at "rv"; walk_at "rv")
  | (apply b_and; walk_at "dv"; (intro _; walk_at "dv"))
  | (apply b_or; walk_at "dv"; (intro _; walk_at "dv"))
  | (apply b_test; walk_at "dv")
  | (apply b_B; walk_at "dv")
  | (apply b_not; walk_at "dv")
  | exact b_yes)
local macro_rules | `(tactic| walk_at "rv") => `(tactic| first
  | exact rv_addI | exact rv_subI | exact rv_ltI | exact rv_leI | exact rv_gtI | exact rv_geI
  | exact rv_eqAI | exact rv_eqAB | exact rv_neAI | exact rv_neAB | exact rv_eqAS | exact rv_eqAN
  | exact rv_ixT rfl | exact rv_ixL rfl
  | (apply rv_modI; first | assumption | decide | omega)
  | (apply rv_divI; (first | assumption | decide | omega); (first | assumption | decide | omega))
  | (apply rv_mulI; (first | assumption | decide | omega); (first | assumption | decide | omega)))
local macro_rules | `(tactic| walk_at "rc") => `(tactic| first
  | exact rc_lenL | exact rc_lenT | exact rc_max | exact rc_min | exact rc_int | exact rc_intB | exact rc_tupL | exact rc_tupT | exact rc_listT | exact rc_listL | exact rc_abs)

local macro_rules | `(tactic| walk_at "rv") => `(tactic| first | exact rv_addIB)
local macro_rules | `(tactic| walk_at "dv") => `(tactic| first
  | (apply d_slTh; walk_at "dv"; walk_at "dv"; rfl)
  | (apply d_slTl; walk_at "dv"; walk_at "dv"; rfl)
  | (apply d_slTb; walk_at "dv"; walk_at "dv"; walk_at "dv"; rfl)
  | (apply d_slLh; walk_at "dv"; walk_at "dv"; rfl)
  | (apply d_slLl; walk_at "dv"; walk_at "dv"; rfl))

section
variable {K : PySem.W.Frag} {B : List Addr} {b0 h0 : Hp} {σ : St} {b h : Hp} {te : TE} {Δ : List SD} {D : Ends} {tu tz : TS} {d1 d2 d3 : PyData}
theorem q_par3 {m1 m2 m3 : Nat} {tA : TA} (Z : S K B b0 h0 σ b h Δ) (he : EvDs K tA σ b [d1, d2, d3])
    (k : ∀ σ2 b2 h2, Fr [] b h b2 h2 → S K B b0 h0 σ2 b2 h2 (((Δ.set m1 (.dat d1)).set m2 (.dat d2)).set m3 (.dat d3)) → tz D σ2 h2) : tSeq (tPar3 m1 m2 m3 tA) tz D σ h :=
  he b h (Same.refl b) Z.sub _ fun vs b2 h2 F D2 => by
    cases D2 with
    | cons x1 r =>
      cases r with
      | cons x2 r =>
        cases r with
        | cons x3 r =>
          cases r
          exact ⟨_, _, _, rfl, k _ b2 h2 F ⟨(Z.go F).fr, (((Z.go F).sl.set (z := .dat d1) ⟨_, rfl, x1⟩ m1).set (z := .dat d2) ⟨_, rfl, x2⟩ m2).set (z := .dat d3) ⟨_, rfl, x3⟩ m3⟩⟩
/-- for x, y in zip(two lists) -/
theorem q_forZL {tA : TA} {n1 n2 : Nat} {ds es : List PyData} (Z : S K B b0 h0 σ b h Δ) (he : EvDs K tA σ b [.list ds, .list es]) (Pv : Nat → St → Hp → Hp → Prop) (hi : ∀ b2 h2, Fr [] b h b2 h2 → S K B b0 h0 σ b2 h2 Δ → Pv 0 σ b2 h2) (hsub : ∀ i σ' b' h', Pv i σ' b' h' → Same b' h')
    (hnew : ∀ i σ' b' h' T o, Pv i σ' b' h' → h' T = none → Pv i σ' b' (upd h' T o))
    (hs : ∀ (bb : Hp) (i : Nat) d e σ' b' h' v u, Same bb b' → ds[i]? = some d → es[i]? = some e → Pv i σ' b' h' → Da K b' v d → Da K b' u e → tu { D with nx := fun s g => ∃ b'', Same bb b'' ∧ Pv (i + 1) s b'' g, ct := fun s g => ∃ b'', Same bb b'' ∧ Pv (i + 1) s b'' g, bk := tz D } ((σ'.set n1 (some v)).set n2 (some u)) h') (hd : ∀ i σ' b' h', Pv i σ' b' h' → tz D σ' h') :
    tSeq (tFor (RZ.iZipA K tA) (gTup K 2 (gCons (gName n1) (gCons (gName n2) gNil))) tu) tz D σ h :=
  he b h (Same.refl b) Z.sub _ fun vs b2 h2 F dd => by
    cases dd with
    | cons x r =>
      cases r with
      | cons y r =>
        cases r
        cases x with
        | @lst a xs _ sa da =>
          cases y with
          | @lst c ys _ sc dc =>
            refine ⟨a, c, xs, ys, rfl, .inl ⟨.inl (.inl (F.sub _ _ sa)), .inl (.inl (F.sub _ _ sc)), for_it (walk_zip (xs := xs) (ys := ys) rfl) (fun i s g => ∃ b', Same b2 b' ∧ Pv i s b' g) ⟨b2, Same.refl _, hi b2 h2 F (Z.go F)⟩ (fun i s g _ p => ?_) (fun i x s g g' hx p y => ?_) (fun s g p => ?_)⟩⟩
            · obtain ⟨b', e, p⟩ := p
              have e2 := e.trans (hsub _ _ _ _ p)
              exact ⟨.inl (.inl (e2 _ _ sa)), .inl (.inl (e2 _ _ sc))⟩
            · obtain ⟨b', e, p⟩ := p
              obtain ⟨T, x1, x2, rfl, hT, rfl, w4, w5⟩ := y
              obtain ⟨d, e1, e2⟩ := da.at w4
              obtain ⟨d', e3, e4⟩ := dc.at w5
              refine ⟨T, [x1, x2], rfl, .inl (.inl upd_same), rfl, _, [x2], rfl, x2, [], rfl, rfl, ?_⟩
              exact hs b2 i d d' s b' _ x1 x2 e e1 e3 (hnew _ _ _ _ T _ p hT) (e2.mono e) (e4.mono e)
            · obtain ⟨b', e, p⟩ := p
              exact hd _ s b' g p
end
def pH : Rc := .put "a" "x" 0 2
def qH : Rc := .put "b" "y" 1 1
def rH : Rc := .drop "a" 2 0
def handRows : List (List Rc) := [[pH, qH, rH], [qH, rH], [pH, rH], [qH, pH, rH], [pH, qH, .blank, rH], [pH, pH, qH, rH], [pH, qH], [rH], [pH, qH, qH], []]
def handDue : List (Option Nat) := [some 3, some 2, none, none, none, some 3, none, some 1, none, none]
def singlesD (rs : List Rc) : Option Nat → List PyData
  | none => []
  | some m => [.tuple [.int ((rs.length : Int) - 1), .tuple ((rs.drop (rs.length - m)).map sgD)]]
theorem hand_all : ∀ (i : Nat) (rs : List Rc) (m : Option Nat), handRows[i]? = some rs → handDue[i]? = some m → closedL rs rs.length = singlesD rs m ∧ m.getD 0 ≤ rs.length
  | 0, _, _, h1, h2 => by cases h1; cases h2; exact ⟨rfl, by decide⟩
  | 1, _, _, h1, h2 => by cases h1; cases h2; exact ⟨rfl, by decide⟩
  | 2, _, _, h1, h2 => by cases h1; cases h2; exact ⟨rfl, by decide⟩
  | 3, _, _, h1, h2 => by cases h1; cases h2; exact ⟨rfl, by decide⟩
  | 4, _, _, h1, h2 => by cases h1; cases h2; exact ⟨rfl, by decide⟩
  | 5, _, _, h1, h2 => by cases h1; cases h2; exact ⟨rfl, by decide⟩
  | 6, _, _, h1, h2 => by cases h1; cases h2; exact ⟨rfl, by decide⟩
  | 7, _, _, h1, h2 => by cases h1; cases h2; exact ⟨rfl, by decide⟩
  | 8, _, _, h1, h2 => by cases h1; cases h2; exact ⟨rfl, by decide⟩
  | 9, _, _, h1, h2 => by cases h1; cases h2; exact ⟨rfl, by decide⟩
  | i + 10, _, _, h1, _ => by cases h1
theorem hand_mem : ∀ rs ∈ handRows, rs.length ≤ 4 ∧ ∀ r ∈ rs, r = pH ∨ r = qH ∨ r = rH ∨ r = .blank := by
  intro rs h
  simp only [handRows, List.mem_cons, List.mem_nil_iff, or_false] at h
  rcases h with rfl | rfl | rfl | rfl | rfl | rfl | rfl | rfl | rfl | rfl <;> (refine ⟨by decide, ?_⟩; simp)
theorem ok_pH : okR pH := ⟨by decide +kernel, by decide +kernel, ⟨by decide +kernel, by decide +kernel, by decide +kernel⟩, ⟨by decide +kernel, by decide +kernel, by decide +kernel⟩, by decide, by decide, by decide, by decide⟩
theorem ok_qH : okR qH := ⟨by decide +kernel, by decide +kernel, ⟨by decide +kernel, by decide +kernel, by decide +kernel⟩, ⟨by decide +kernel, by decide +kernel, by decide +kernel⟩, by decide, by decide, by decide, by decide⟩
theorem ok_rH : okR rH := ⟨by decide +kernel, ⟨by decide +kernel, by decide +kernel, by decide +kernel⟩, by decide, by decide, by decide, by decide⟩
theorem hand_ok {rs : List Rc} (h : rs ∈ handRows) : rs.length ≤ 1000 ∧ ∀ r ∈ rs, okR r := by
  obtain ⟨h1, h2⟩ := hand_mem rs h
  refine ⟨by omega, fun r hr => ?_⟩
  rcases h2 r hr with rfl | rfl | rfl | rfl
  · exact ok_pH
  · exact ok_qH
  · exact ok_rH
  · exact True.intro
theorem hand_trail : handRows.map trailN = [0, 0, 0, 0, 0, 0, 2, 0, 1, 0] := by decide +kernel
open Classical in
noncomputable def gLeft (d : PyData) : PyData := if h : ∃ rs, d = rowD rs then .int ((trailN (Classical.choose h) : Nat) : Int) else .none
theorem gLeft_row (rs : List Rc) : gLeft (rowD rs) = .int ((trailN rs : Nat) : Int) := by
  have h : ∃ qs, rowD rs = rowD qs := ⟨rs, rfl⟩
  unfold gLeft
  rw [dif_pos h, ← rowD_inj (Classical.choose_spec h)]
end LW

namespace LW
open PySem L2 DV
local macro_rules | `(tactic| walk_at "dv") => `(tactic| first
  | exact d_int _ | exact d_str _ | exact d_bl _ | exact d_non
  | (apply d_varZ (by assumption); rfl)
  | (apply d_var (by assumption); rfl)
  | exact ds_nil
  | (apply ds_cons; walk_at "dv"; walk_at "dv")
  | (apply d_op; walk_at "dv"; walk_at "dv"; walk_at "rv")
  | (apply d_tup; walk_at "dv"; (simp only [List.length]; omega))
  | (apply d_lst; walk_at "dv"; (simp only [List.length]; omega))
  | (apply d_neg; walk_at "dv")
  | (apply d_notV; walk_at "dv")
  | (apply d_isi; walk_at "dv"; rfl)
  | (apply d_isi2; walk_at "dv"; rfl; rfl)
  | (apply d_cb; walk_at "dv"; walk_at "rc")
  | (apply d_andV; walk_at "dv"; (intro _; walk_at "dv"))
  | (apply d_orV; walk_at "dv"; (intro _; walk_at "dv"))
  | (apply d_chain; walk_at "dv"; walk_at "dv"; walk_at "dv"; walk_at "rv"; walk_at "rv")
  | (apply b_and; walk_at "dv"; (intro _; walk_at "dv"))
  | (apply b_or; walk_at "dv"; (intro _; walk_at "dv"))
  | (apply b_test; walk_at "dv")
  | (apply b_B; walk_at "dv")
  | (apply b_not; walk_at "dv")
  | exact b_yes)
local macro_rules | `(tactic| walk_at "rv") => `(tactic| first
  | exact rv_addI | exact rv_subI | exact rv_ltI | exact rv_leI | exact rv_gtI | exact rv_geI
  | exact rv_eqAI | exact rv_eqAB | exact rv_neAI | exact rv_neAB | exact rv_eqAS | exact rv_eqAN
  | exact rv_ixT rfl | exact rv_ixL rfl
  | (apply rv_modI; first | assumption | decide | omega)
  | (apply rv_divI; (first | assumption | decide | omega); (first | assumption | decide | omega))
  | (apply rv_mulI; (first | assumption | decide | omega); (first | assumption | decide | omega)))
local macro_rules | `(tactic| walk_at "rc") => `(tactic| first
  | exact rc_lenL | exact rc_lenT | exact rc_max | exact rc_min | exact rc_int | exact rc_intB | exact rc_tupL | exact rc_tupT | exact rc_listT | exact rc_listL | exact rc_abs)

local macro_rules | `(tactic| walk_at "rv") => `(tactic| first | exact rv_addIB)
local macro_rules | `(tactic| walk_at "dv") => `(tactic| first
  | (apply d_slTh; walk_at "dv"; walk_at "dv"; rfl)
  | (apply d_slTl; walk_at "dv"; walk_at "dv"; rfl)
  | (apply d_slTb; walk_at "dv"; walk_at "dv"; walk_at "dv"; rfl)
  | (apply d_slLh; walk_at "dv"; walk_at "dv"; rfl)
  | (apply d_slLl; walk_at "dv"; walk_at "dv"; rfl))

section
variable {P : Program} {w : World} {K : PySem.W.Frag} {mg : Str → Option Value} {base : Heap}
def rowsHD : PyData := .list (handRows.map rowD)
def dueHD : PyData := .list (handDue.map optN)
theorem singles_some (rs : List Rc) (m : Nat) : singlesD rs (some m) = [.tuple [.int ((rs.length : Int) - 1), .tuple ((rs.drop (rs.length - m)).map sgD)]] := rfl
theorem ok__law_by_hand_right (T : Txt K mg) : FnOk P w K mg base CX0 10 T.f__law_by_hand_right T.d__law_by_hand_right [] (spD K fun ds d => ds = [] ∧ d = .bool true) := by
  refine T.F__law_by_hand_right.ok sc__law_by_hand_right (by rintro vs H Q E ⟨b, ds, d, hs, hd, ⟨rfl, rfl⟩, q⟩; exact hd.length) (fun cdv A outer s H vs Q E hr h => ?_)
  obtain ⟨b00, ds, d, hs, hd, ⟨rfl, rfl⟩, q⟩ := h
  refine ⟨_, (pss_cons (ps_asg (pe_tup (pa_cons (pe_tup (pa_cons pe_str (pa_cons pe_str (pa_cons pe_str (pa_cons pe_int (pa_cons pe_int pa_nil)))))) (pa_cons (pe_tup (pa_cons pe_str (pa_cons pe_str (pa_cons pe_str (pa_cons pe_int (pa_cons pe_int pa_nil)))))) (pa_cons (pe_tup (pa_cons pe_str (pa_cons pe_str (pa_cons pe_int (pa_cons pe_int pa_nil))))) pa_nil)))) (pg_tup (n := 3) rfl (pgs_cons (pg_name (i := 0) sc__law_by_hand_right.nd rfl (by first | exact Or.inl rfl | exact Or.inr rfl)) (pgs_cons (pg_name (i := 1) sc__law_by_hand_right.nd rfl (by first | exact Or.inl rfl | exact Or.inr rfl)) (pgs_cons (pg_name (i := 2) sc__law_by_hand_right.nd rfl (by first | exact Or.inl rfl | exact Or.inr rfl)) pgs_nil)))))
    (pss_cons (ps_set (i := 3) sc__law_by_hand_right.nd rfl (by first | exact Or.inl rfl | exact Or.inr rfl) (pe_lst (pa_cons (pe_tup (pa_cons (pv 0) (pa_cons (pv 1) (pa_cons (pv 2) pa_nil)))) (pa_cons (pe_tup (pa_cons (pv 1) (pa_cons (pv 2) pa_nil))) (pa_cons (pe_tup (pa_cons (pv 0) (pa_cons (pv 2) pa_nil))) (pa_cons (pe_tup (pa_cons (pv 1) (pa_cons (pv 0) (pa_cons (pv 2) pa_nil)))) (pa_cons (pe_tup (pa_cons (pv 0) (pa_cons (pv 1) (pa_cons (pe_tup (pa_cons pe_str pa_nil)) (pa_cons (pv 2) pa_nil))))) (pa_cons (pe_tup (pa_cons (pv 0) (pa_cons (pv 0) (pa_cons (pv 1) (pa_cons (pv 2) pa_nil))))) (pa_cons (pe_tup (pa_cons (pv 0) (pa_cons (pv 1) pa_nil))) (pa_cons (pe_tup (pa_cons (pv 2) pa_nil)) (pa_cons (pe_tup (pa_cons (pv 0) (pa_cons (pv 1) (pa_cons (pv 1) pa_nil)))) (pa_cons (pe_tup pa_nil) pa_nil))))))))))))
    (pss_cons (ps_set (i := 4) sc__law_by_hand_right.nd rfl (by first | exact Or.inl rfl | exact Or.inr rfl) (pe_lst (pa_cons pe_int (pa_cons pe_int (pa_cons pe_non (pa_cons pe_non (pa_cons pe_non (pa_cons pe_int (pa_cons pe_non (pa_cons pe_int (pa_cons pe_non (pa_cons pe_non pa_nil))))))))))))
    (pss_cons (ps_for PassesOwn.never rfl (RZ.pi_zipA (by rfl) T.z_zip (pa_cons (pv 3) (pa_cons (pv 4) pa_nil))) (pg_tup (n := 2) rfl (pgs_cons (pg_name (i := 5) sc__law_by_hand_right.nd rfl (by first | exact Or.inl rfl | exact Or.inr rfl)) (pgs_cons (pg_name (i := 6) sc__law_by_hand_right.nd rfl (by first | exact Or.inl rfl | exact Or.inr rfl)) pgs_nil))) (pss_cons (ps_set (i := 7) sc__law_by_hand_right.nd rfl (by first | exact Or.inl rfl | exact Or.inr rfl) (pe_lst pa_nil))
    (pss_cons (ps_if (pt_cmpR op_notN (pv 6) pe_non (nomark _)) (pss_cons (ps_set (i := 8) sc__law_by_hand_right.nd rfl (by first | exact Or.inl rfl | exact Or.inr rfl) (pe_slice (sl_tupAK (K := K) rfl) (pv 5) (po_some (pe_op op_sub (pe_callB (call_lenK (K := K) rfl) (by rfl) T.z_len (by decide +kernel) (pa_cons (pv 5) pa_nil)) (pv 6))) po_none))
    (pss_one (ps_set (i := 7) sc__law_by_hand_right.nd rfl (by first | exact Or.inl rfl | exact Or.inr rfl) (pe_lst (pa_cons (pe_tup (pa_cons (pe_op op_sub (pe_callB (call_lenK (K := K) rfl) (by rfl) T.z_len (by decide +kernel) (pa_cons (pv 5) pa_nil)) pe_int) (pa_cons (pe_callTy call_tuple_of (by rfl) T.z_tuple (by decide +kernel) (pa_cons (pe_lc (own := [("own", 9)]) (g := gName 9) rfl sc__law_by_hand_right.nd (pi_tup (pv 8)) (blkOk_by (N := ["p", "q", "r", "rows_so", "due", "row_so", "many_so", "singles_so", "part_so", "own"]) (sc := defScope s__law_by_hand_right) (by decide +kernel)) (fun _ _ _ _ _ => (pg_name (i := 9) sc__law_by_hand_right.nd rfl (by first | exact Or.inl rfl | exact Or.inr rfl))) (fun _ _ _ _ _ => pts_nil) (fun _ _ _ _ _ => (pe_slice (sl_tupAK (K := K) rfl) (pv 9) po_none (po_some (pe_un un_neg pe_int))))) pa_nil)) pa_nil))) pa_nil))))) pss_nil)
    (pss_one (ps_if (pt_not (pt_val (pe_call (ok__law_same T 5) (hr.mono (by omega)) (by rfl) T.m__law_same T.F__law_same.kp T.b__law_same .nil pass0 (pa_cons (pe_call (ok_closed_in T) (hr.mono (by omega)) (by rfl) T.m_closed_in T.F_closed_in.kp T.b_closed_in .nil pass0 (pa_cons (pv 5) pa_nil)) (pa_cons (pv 7) pa_nil))))) (pss_one (ps_ret pe_bl)) pss_nil)))))
    (pss_one (ps_ret (pe_call (ok__law_same T 5) (hr.mono (by omega)) (by rfl) T.m__law_same T.F__law_same.kp T.b__law_same .nil pass0 (pa_cons (pe_lc (own := [("own", 9)]) (g := gName 9) rfl sc__law_by_hand_right.nd (pi_list (pv 3)) (blkOk_by (N := ["p", "q", "r", "rows_so", "due", "row_so", "many_so", "singles_so", "part_so", "own"]) (sc := defScope s__law_by_hand_right) (by decide +kernel)) (fun _ _ _ _ _ => (pg_name (i := 9) sc__law_by_hand_right.nd rfl (by first | exact Or.inl rfl | exact Or.inr rfl))) (fun _ _ _ _ _ => pts_nil) (fun _ _ _ _ _ => (pe_call (ok_left_begun T) (hr.mono (by omega)) (by rfl) T.m_left_begun T.F_left_begun.kp T.b_left_begun .nil pass0 (pa_cons (pv 9) pa_nil)))) (pa_cons (pe_lst (pa_cons pe_int (pa_cons pe_int (pa_cons pe_int (pa_cons pe_int (pa_cons pe_int (pa_cons pe_int (pa_cons pe_int (pa_cons pe_int (pa_cons pe_int (pa_cons pe_int pa_nil))))))))))) pa_nil))))))))), ?_⟩
  have Z := S.init (B := []) hs hd ["p", "q", "r", "rows_so", "due", "row_so", "many_so", "singles_so", "part_so", "own"]
  refine q_tup3 Z (by walk_at "dv") fun σ b h F Z => ?_
  refine q_asg Z (by walk_at "dv") fun σ b h F Z => ?_
  refine q_asg Z (by walk_at "dv") fun σ b h F Z => ?_
  have Z : S K [] b00 H σ b h [.dat (dR pH), .dat (dR qH), .dat (dR rH), .dat rowsHD, .dat dueHD, .un, .un, .un, .un, .un] := Z
  refine q_forZL Z (ds := handRows.map rowD) (es := handDue.map optN) (by walk_at "dv") (fun i σ b h => ∃ z5 z6 z7 z8 z9, S K [] b00 H σ b h [.dat (dR pH), .dat (dR qH), .dat (dR rH), .dat rowsHD, .dat dueHD, z5, z6, z7, z8, z9]) (fun b2 h2 F Z2 => ?_) (fun i σ b h hP => ?_) (fun i σ b h TT o hP hT => ?_) (fun bb i d e σ b h v u sb h1 h2 hP dv du => ?_) (fun i σ b h hP => ?_)
  · exact ⟨_, _, _, _, _, Z2⟩
  · obtain ⟨z5, z6, z7, z8, z9, Z⟩ := hP
    exact Z.sub
  · obtain ⟨z5, z6, z7, z8, z9, Z⟩ := hP
    exact ⟨z5, z6, z7, z8, z9, Z.fr.trans (Fr.fresh Z.sub hT), Z.sl⟩
  · obtain ⟨z5, z6, z7, z8, z9, Z⟩ := hP
    rw [List.getElem?_map] at h1 h2
    obtain ⟨rs, g1, rfl⟩ := Option.map_eq_some_iff.mp h1
    obtain ⟨m, g2, rfl⟩ := Option.map_eq_some_iff.mp h2
    obtain ⟨hcl, hml⟩ := hand_all i rs m g1 g2
    obtain ⟨hl, hok⟩ := hand_ok (List.mem_of_getElem? g1)
    have Z : S K [] b00 H ((σ.set 5 (some v)).set 6 (some u)) b h [.dat (dR pH), .dat (dR qH), .dat (dR rH), .dat rowsHD, .dat dueHD, .dat (rowD rs), .dat (optN m), z7, z8, z9] := ⟨Z.fr, (Z.sl.set (z := .dat (rowD rs)) ⟨_, rfl, dv⟩ 5).set (z := .dat (optN m)) ⟨_, rfl, du⟩ 6⟩
    have fx : fine 5 (.list (singlesD rs m)) = true := by rw [← hcl]; exact fine_closed hl
    refine q_asg Z (d := .list []) (d_lst ds_nil (Nat.zero_le _)) fun σ b2 h2 F Z => ?_
    have sb := sb.trans F.base
    cases m with
    | none =>
      apply q_whenF Z
      exact b_test (d_op (d1 := .none) (d_varZ Z rfl) d_non (rv_isNot (c := true) fun b v h => by cases h; rfl))
      rfl
      intro b3 h3 F Z
      have sb := sb.trans F.base
      apply s_whenF Z
      exact b_not (b_B (d_call (ds_cons (d_call (ds_cons (d_varZ Z rfl) ds_nil) ⟨_, rs, rfl, rowOf_row hl, hl, hok, rfl⟩) (ds_cons (d_varZ Z rfl) ds_nil)) ⟨.list (singlesD rs none), by rw [hcl]; rfl, fx, rfl⟩))
      rfl
      intro b4 h4 F Z
      exact ⟨b4, sb.trans F.base, _, _, _, _, _, Z⟩
    | some m =>
      apply q_whenT Z
      exact b_test (d_op (d1 := .int (m : Int)) (d_varZ Z rfl) d_non (rv_isNot (c := false) fun b v h => by cases h; rfl))
      rfl
      intro b3 h3 F Z
      have sb := sb.trans F.base
      have hm : m ≤ rs.length := hml
      have hlen : ∀ {σ b Δ B b0 h0 h}, S K B b0 h0 σ b h Δ → Δ[5]? = some (.dat (rowD rs)) → EvD K (tCB (fun xs H Q => ∃ x n, xs = [x] ∧ LenV K x H n ∧ Q (.int n) H) (tCons (tVar 5) tNil)) σ b (.int (rs.length : Int)) := fun Z e => EvD.is (d_cb (ds_cons (d_varZ Z e) ds_nil) (rc_lenT (ds := rs.map dR))) (by rw [List.length_map])
      refine q_asg Z (d := rowD (rs.drop (rs.length - m))) (d_drop (k := rs.length - m) (d_varZ Z rfl) (EvD.is (d_op (hlen Z rfl) (d_varZ Z rfl) rv_subI) (congrArg PyData.int (by omega)))) fun σ b4 h4 F Z => ?_
      have sb := sb.trans F.base
      refine s_asg Z (d := .list (singlesD rs (some m))) (EvD.is (d_lst (ds_cons (d_tup (ds_cons (d_op (hlen Z rfl) (d_int 1) rv_subI) (ds_cons (d_cb (ds_cons (EvD.is (d_lcT (ds := (rs.drop (rs.length - m)).map dR) (fun _ => true) onSg Z.sl (d_varZ Z rfl) ?_ (fun x => wipe1) fun m' d σ2 b2 hm' e Sl => ⟨b_yes, fun _ => ?_⟩) (congrArg PyData.list ?_)) ds_nil) rc_tupL) ds_nil)) (show 2 ≤ 100000 by decide)) ds_nil) (show 1 ≤ 100000 by decide)) rfl) fun σ b5 h5 F Z => ?_
      · rw [List.length_map, List.length_drop]; omega
      · obtain ⟨r, hr, rfl⟩ := List.mem_map.mp (List.mem_of_getElem? hm')
        rw [onSg_dR]
        exact d_sg (d_var Sl rfl)
      · rw [filt, List.map_map]
        exact List.map_congr_left fun r _ => onSg_dR r
      have sb := sb.trans F.base
      dsimp only
      apply s_whenF Z
      exact b_not (b_B (d_call (ds_cons (d_call (ds_cons (d_varZ Z rfl) ds_nil) ⟨_, rs, rfl, rowOf_row hl, hl, hok, rfl⟩) (ds_cons (d_varZ Z rfl) ds_nil)) ⟨.list (singlesD rs (some m)), by rw [hcl], fx, rfl⟩))
      rfl
      intro b6 h6 F Z
      exact ⟨b6, sb.trans F.base, _, _, _, _, _, Z⟩
  · obtain ⟨z5, z6, z7, z8, z9, Z⟩ := hP
    have e : (((handRows.map rowD).filter fun _ => true).map gLeft) = [0, 0, 0, 0, 0, 0, 2, 0, 1, 0].map fun (n : Nat) => PyData.int (n : Int) := by
      rw [filt, List.map_map, ← hand_trail, List.map_map]
      exact List.map_congr_left fun r _ => gLeft_row r
    refine s_ret Z (d_call (ds_cons (EvD.is (d_lcL (ds := handRows.map rowD) (fun _ => true) gLeft Z.sl (d_varZ Z rfl) (show 10 ≤ 90000 by decide) (fun x => wipe1) fun m d σ2 b2 hm e Sl => ⟨b_yes, fun _ => ?_⟩) (congrArg PyData.list e)) (ds_cons (d_lst (ds_cons (d_int 0) (ds_cons (d_int 0) (ds_cons (d_int 0) (ds_cons (d_int 0) (ds_cons (d_int 0) (ds_cons (d_int 0) (ds_cons (d_int 2) (ds_cons (d_int 0) (ds_cons (d_int 1) (ds_cons (d_int 0) ds_nil)))))))))) (show 10 ≤ 100000 by decide)) ds_nil)) ⟨_, rfl, rfl, rfl⟩) q
    obtain ⟨rs, hr, rfl⟩ := List.mem_map.mp (List.mem_of_getElem? hm)
    obtain ⟨hl, hok⟩ := hand_ok hr
    rw [gLeft_row]
    exact d_call (ds_cons (d_var Sl rfl) ds_nil) ⟨_, rs, rfl, rowOf_row hl, hl, hok, rfl⟩
end
end LW

namespace LW
open PySem L2 DV
section
variable {P : Program} {w : World} {K : PySem.W.Frag} {mg : Str → Option Value} {base : Heap}
def spLaw (K : PySem.W.Frag) : Sp := fun vs H Q _ => ∃ (a : Addr) (ns : List Int), vs = [.ref a] ∧ SqL K H a (ns.map V.int) ∧ ns.length ≤ 63 ∧ ∀ H', Q (.bl true) H'
def noH : Hp := fun _ => none
theorem noH_same {H : Hp} : Same noH H := fun _ _ e => by cases e
theorem daInts (b : Hp) : ∀ ms : List Int, DaAll K b (ms.map V.int) (ms.map .int)
  | [] => .nil
  | m :: ms => .cons (.int m) (daInts b ms)
theorem boxX_nn (x : Int) : 0 ≤ boxX x := by
  unfold boxX
  generalize (decide (10 ^ 18 ≤ (if x < 0 then -x else x)) : Bool) = bb
  have h1 : 0 ≤ (if x < 0 then -x else x) := by split <;> omega
  cases bb <;> simp
  exact h1
/-- a box that was just made -/
theorem box_tin {b h : Hp} {v : V} {x y : Int} (s : Same b h) (dd : Da K b v (.list [.int x, .int y, .int 0])) (hx : 0 ≤ x) (hy : y.natAbs < 2 ^ 70) : ∃ a, v = .ref a ∧ Tin a 0 h := by
  cases dd with
  | @lst a xs _ e da =>
    have e2 : xs = [x, y, 0].map V.int := DaAll.ints (ns := [x, y, 0]) da
    subst e2
    exact ⟨a, rfl, x, y, 0, s _ _ e, hx, hy, by decide, by decide⟩
theorem ok_law (T : Txt K mg) : FnOk P w K mg base CX0 12 T.f_law T.d_law ["script"] (spLaw K) := by
  refine T.F_law.ok sc_law (by rintro vs H Q E ⟨a, ns, rfl, _⟩; rfl) (fun cdv A outer s H vs Q E hr h => ?_)
  obtain ⟨a, ns, rfl, hS, hl, q⟩ := h
  refine ⟨_, (pss_one (ps_ret (pe_and (pe_call0 (ok__law_by_hand_right T) (hr.mono (by omega)) (by rfl) T.m__law_by_hand_right T.F__law_by_hand_right.kp T.b__law_by_hand_right .nil pass0) (pe_one (pe_call (ok__law_right T) (hr.mono (by omega)) (by rfl) T.m__law_right T.F__law_right.kp T.b__law_right .nil pass0 (pa_cons (pe_call (ok__law_box T) (hr.mono (by omega)) (by rfl) T.m__law_box T.F__law_box.kp T.b__law_box .nil pass0 (pa_cons (pe_call (ok__law_cells T) (hr.mono (by omega)) (by rfl) T.m__law_cells T.F__law_cells.kp T.b__law_cells .nil pass0 (pa_cons (pv 0) (pa_cons pe_int pa_nil))) (pa_cons pe_int pa_nil))) pa_nil)))))), ?_⟩
  refine ⟨noH, [], .bool true, noH_same, .nil, ⟨rfl, rfl⟩, fun v b2 h2 F D => ?_⟩
  cases D
  refine ⟨true, rfl, iteT ?_⟩
  have hS2 : SqL K h2 a (ns.map V.int) := Same.seq (fun x o e => F.keep x o rfl (by intro z; cases z) e) hS
  refine ⟨.ref a, rfl, a, ns, 1, rfl, hS2, hl, by decide, by decide, fun p H3 ms hp h1 h9 => ?_⟩
  have s3 : Same (upd noH p (.lst (ms.map V.int))) H3 := fun x o e => by
    by_cases hx : x = p
    · subst hx
      rw [upd_same] at e
      rw [hp]
      exact e
    · rw [upd_ne hx] at e
      cases e
  refine ⟨upd noH p (.lst (ms.map V.int)), [.list (ms.map .int), .int 0], _, s3, .cons (.lst upd_same (daInts _ ms)) (.cons (.int 0) .nil), ⟨ms, 0, rfl, by decide, by decide, rfl⟩, fun v b4 h4 F4 D4 => ?_⟩
  obtain ⟨aa, rfl, hT⟩ := box_tin F4.sub D4 (boxX_nn _) (by
    have h1 := Int.emod_nonneg (bitOf ms 0) (by decide : (2305843009213693951 : Int) ≠ 0)
    have h2 := Int.emod_lt_of_pos (bitOf ms 0) (by decide : (0 : Int) < 2305843009213693951)
    omega)
  exact ⟨noH, aa, [], [], 0, rfl, noH_same, rfl, hT, by decide, .nil, rfl, fun v d b5 h5 r F5 hb5 T5 D5 => by
    subst r
    cases D5
    exact q h5⟩
theorem all_mk {l : PySem.W.OpenLaw} {h : Heap} {fa : Addr} (X : K.In h) (G : h.Ns mainGlobals mg) (hfa : mg "law" = some (.ref fa))
    {o0 : Value} {p0 n0 : Option Addr} {l0 : Array (Option Value)} {x0 y0 w0 v0 u0 : Value} {g0 : Addr} {o1 : Value} {p1 n1 : Option Addr} {l1 : Array (Option Value)} {x1 y1 w1 v1 u1 : Value} {g1 : Addr} {o2 : Value} {p2 n2 : Option Addr} {l2 : Array (Option Value)} {x2 y2 w2 v2 u2 : Value} {g2 : Addr} {o3 : Value} {p3 n3 : Option Addr} {l3 : Array (Option Value)} {x3 y3 w3 v3 u3 : Value} {g3 : Addr} {o4 : Value} {p4 n4 : Option Addr} {l4 : Array (Option Value)} {x4 y4 w4 v4 u4 e4 : Value} {g4 : Addr} {o5 : Value} {p5 n5 : Option Addr} {l5 : Array (Option Value)} {x5 y5 w5 v5 u5 : Value} {g5 : Addr} {o6 : Value} {p6 n6 : Option Addr} {l6 : Array (Option Value)} {x6 y6 w6 v6 u6 : Value} {g6 : Addr} {o7 : Value} {p7 n7 : Option Addr} {l7 : Array (Option Value)} {x7 y7 w7 v7 u7 : Value} {g7 : Addr} {o8 : Value} {p8 n8 : Option Addr} {l8 : Array (Option Value)} {x8 y8 w8 v8 u8 : Value} {g8 : Addr} {o9 : Value} {p9 n9 : Option Addr} {l9 : Array (Option Value)} {x9 y9 w9 v9 u9 : Value} {g9 : Addr} {o10 : Value} {p10 n10 : Option Addr} {l10 : Array (Option Value)} {x10 y10 w10 v10 u10 : Value} {g10 : Addr} {o11 : Value} {p11 n11 : Option Addr} {l11 : Array (Option Value)} {x11 y11 w11 v11 u11 : Value} {g11 : Addr} {o12 : Value} {p12 n12 : Option Addr} {l12 : Array (Option Value)} {x12 y12 w12 v12 u12 : Value} {g12 : Addr} {o13 : Value} {p13 n13 : Option Addr} {l13 : Array (Option Value)} {x13 y13 w13 v13 u13 : Value} {g13 : Addr} {o14 : Value} {p14 n14 : Option Addr} {l14 : Array (Option Value)} {x14 y14 w14 v14 u14 : Value} {g14 : Addr} {o15 : Value} {p15 n15 : Option Addr} {l15 : Array (Option Value)} {x15 y15 w15 v15 u15 : Value} {g15 : Addr} {o16 : Value} {p16 n16 : Option Addr} {l16 : Array (Option Value)} {x16 y16 w16 v16 u16 : Value} {g16 : Addr} {o17 : Value} {p17 n17 : Option Addr} {l17 : Array (Option Value)} {x17 y17 w17 v17 u17 : Value} {g17 : Addr} {o18 : Value} {p18 n18 : Option Addr} {l18 : Array (Option Value)} {x18 y18 w18 v18 u18 : Value} {g18 : Addr} {o19 : Value} {p19 n19 : Option Addr} {l19 : Array (Option Value)} {x19 y19 w19 v19 u19 : Value} {g19 : Addr} {o20 : Value} {p20 n20 : Option Addr} {l20 : Array (Option Value)} {x20 y20 w20 v20 u20 : Value} {g20 : Addr} {o21 : Value} {p21 n21 : Option Addr} {l21 : Array (Option Value)} {x21 y21 w21 v21 u21 : Value} {g21 : Addr} {o22 : Value} {p22 n22 : Option Addr} {l22 : Array (Option Value)} {x22 y22 w22 v22 u22 : Value} {g22 : Addr} {o23 : Value} {p23 n23 : Option Addr} {l23 : Array (Option Value)} {x23 y23 w23 v23 u23 : Value} {g23 : Addr} {o24 : Value} {p24 n24 : Option Addr} {l24 : Array (Option Value)} {x24 y24 w24 v24 u24 : Value} {g24 : Addr} {o25 : Value} {p25 n25 : Option Addr} {l25 : Array (Option Value)} {x25 y25 w25 v25 u25 : Value} {g25 : Addr} {o26 : Value} {p26 n26 : Option Addr} {l26 : Array (Option Value)} {x26 y26 w26 v26 u26 : Value} {g26 : Addr} {o27 : Value} {p27 n27 : Option Addr} {l27 : Array (Option Value)} {x27 y27 w27 v27 u27 : Value} {g27 : Addr} {o28 : Value} {p28 n28 : Option Addr} {l28 : Array (Option Value)} {x28 y28 w28 v28 u28 : Value} {g28 : Addr} {o29 : Value} {p29 n29 : Option Addr} {l29 : Array (Option Value)} {x29 y29 w29 v29 u29 : Value} {g29 : Addr} {o30 : Value} {p30 n30 : Option Addr} {l30 : Array (Option Value)} {x30 y30 w30 v30 u30 : Value} {g30 : Addr} {o31 : Value} {p31 n31 : Option Addr} {l31 : Array (Option Value)} {x31 y31 w31 v31 u31 : Value} {g31 : Addr} {o32 : Value} {p32 n32 : Option Addr} {l32 : Array (Option Value)} {x32 y32 w32 v32 u32 : Value} {g32 : Addr} {o33 : Value} {p33 n33 : Option Addr} {l33 : Array (Option Value)} {x33 y33 w33 v33 u33 : Value} {g33 : Addr} {o34 : Value} {p34 n34 : Option Addr} {l34 : Array (Option Value)} {x34 y34 w34 v34 u34 : Value} {g34 : Addr} {ct0 : Tok} {ct1 : Tok} {cg2 : Addr} {co2 : Obj} {ci2 : Array Value} {cn2 : Nat}
    (a0 : PySem.W.nsIn K mainGlobals "is_number" = some (some (.ref g0))) (k0 : K.lookup g0 = some ⟨o0, p0, .func (PySem.W.fnOf "is_number" "is_number" (defArgs s_is_number) (defBody s_is_number) (defScope s_is_number) .none x0 y0 w0 n0 u0 v0), l0⟩) (c0 : PySem.W.codeIn K u0 "is_number" = true) (r0 : PySem.W.keepIn K (.ref g0) = true)
    (a1 : PySem.W.nsIn K mainGlobals "is_natural" = some (some (.ref g1))) (k1 : K.lookup g1 = some ⟨o1, p1, .func (PySem.W.fnOf "is_natural" "is_natural" (defArgs s_is_natural) (defBody s_is_natural) (defScope s_is_natural) .none x1 y1 w1 n1 u1 v1), l1⟩) (c1 : PySem.W.codeIn K u1 "is_natural" = true) (r1 : PySem.W.keepIn K (.ref g1) = true)
    (a2 : PySem.W.nsIn K mainGlobals "is_row" = some (some (.ref g2))) (k2 : K.lookup g2 = some ⟨o2, p2, .func (PySem.W.fnOf "is_row" "is_row" (defArgs s_is_row) (defBody s_is_row) (defScope s_is_row) .none x2 y2 w2 n2 u2 v2), l2⟩) (c2 : PySem.W.codeIn K u2 "is_row" = true) (r2 : PySem.W.keepIn K (.ref g2) = true)
    (a3 : PySem.W.nsIn K mainGlobals "is_row_of" = some (some (.ref g3))) (k3 : K.lookup g3 = some ⟨o3, p3, .func (PySem.W.fnOf "is_row_of" "is_row_of" (defArgs s_is_row_of) (defBody s_is_row_of) (defScope s_is_row_of) .none x3 y3 w3 n3 u3 v3), l3⟩) (c3 : PySem.W.codeIn K u3 "is_row_of" = true) (r3 : PySem.W.keepIn K (.ref g3) = true)
    (a4 : PySem.W.nsIn K mainGlobals "as_tuples" = some (some (.ref g4))) (k4 : K.lookup g4 = some ⟨o4, p4, .func (PySem.W.fnOf "as_tuples" "as_tuples" (defArgs s_as_tuples) (defBody s_as_tuples) (defScope s_as_tuples) e4 x4 y4 w4 n4 u4 v4), l4⟩) (c4 : PySem.W.codeIn K u4 "as_tuples" = true) (r4 : PySem.W.keepIn K (.ref g4) = true)
    (h4 : He.dflB K e4 [.int 20] = true)
    (a5 : PySem.W.nsIn K mainGlobals "checked" = some (some (.ref g5))) (k5 : K.lookup g5 = some ⟨o5, p5, .func (PySem.W.fnOf "checked" "checked" (defArgs s_checked) (defBody s_checked) (defScope s_checked) .none x5 y5 w5 n5 u5 v5), l5⟩) (c5 : PySem.W.codeIn K u5 "checked" = true) (r5 : PySem.W.keepIn K (.ref g5) = true)
    (a6 : PySem.W.nsIn K mainGlobals "is_word" = some (some (.ref g6))) (k6 : K.lookup g6 = some ⟨o6, p6, .func (PySem.W.fnOf "is_word" "is_word" (defArgs s_is_word) (defBody s_is_word) (defScope s_is_word) .none x6 y6 w6 n6 u6 v6), l6⟩) (c6 : PySem.W.codeIn K u6 "is_word" = true) (r6 : PySem.W.keepIn K (.ref g6) = true)
    (a7 : PySem.W.nsIn K mainGlobals "is_key" = some (some (.ref g7))) (k7 : K.lookup g7 = some ⟨o7, p7, .func (PySem.W.fnOf "is_key" "is_key" (defArgs s_is_key) (defBody s_is_key) (defScope s_is_key) .none x7 y7 w7 n7 u7 v7), l7⟩) (c7 : PySem.W.codeIn K u7 "is_key" = true) (r7 : PySem.W.keepIn K (.ref g7) = true)
    (a8 : PySem.W.nsIn K mainGlobals "is_single" = some (some (.ref g8))) (k8 : K.lookup g8 = some ⟨o8, p8, .func (PySem.W.fnOf "is_single" "is_single" (defArgs s_is_single) (defBody s_is_single) (defScope s_is_single) .none x8 y8 w8 n8 u8 v8), l8⟩) (c8 : PySem.W.codeIn K u8 "is_single" = true) (r8 : PySem.W.keepIn K (.ref g8) = true)
    (a9 : PySem.W.nsIn K mainGlobals "is_record" = some (some (.ref g9))) (k9 : K.lookup g9 = some ⟨o9, p9, .func (PySem.W.fnOf "is_record" "is_record" (defArgs s_is_record) (defBody s_is_record) (defScope s_is_record) .none x9 y9 w9 n9 u9 v9), l9⟩) (c9 : PySem.W.codeIn K u9 "is_record" = true) (r9 : PySem.W.keepIn K (.ref g9) = true)
    (a10 : PySem.W.nsIn K mainGlobals "is_records" = some (some (.ref g10))) (k10 : K.lookup g10 = some ⟨o10, p10, .func (PySem.W.fnOf "is_records" "is_records" (defArgs s_is_records) (defBody s_is_records) (defScope s_is_records) .none x10 y10 w10 n10 u10 v10), l10⟩) (c10 : PySem.W.codeIn K u10 "is_records" = true) (r10 : PySem.W.keepIn K (.ref g10) = true)
    (a11 : PySem.W.nsIn K mainGlobals "closed_in" = some (some (.ref g11))) (k11 : K.lookup g11 = some ⟨o11, p11, .func (PySem.W.fnOf "closed_in" "closed_in" (defArgs s_closed_in) (defBody s_closed_in) (defScope s_closed_in) .none x11 y11 w11 n11 u11 v11), l11⟩) (c11 : PySem.W.codeIn K u11 "closed_in" = true) (r11 : PySem.W.keepIn K (.ref g11) = true)
    (a12 : PySem.W.nsIn K mainGlobals "first_closed" = some (some (.ref g12))) (k12 : K.lookup g12 = some ⟨o12, p12, .func (PySem.W.fnOf "first_closed" "first_closed" (defArgs s_first_closed) (defBody s_first_closed) (defScope s_first_closed) .none x12 y12 w12 n12 u12 v12), l12⟩) (c12 : PySem.W.codeIn K u12 "first_closed" = true) (r12 : PySem.W.keepIn K (.ref g12) = true)
    (a13 : PySem.W.nsIn K mainGlobals "is_part_ahead" = some (some (.ref g13))) (k13 : K.lookup g13 = some ⟨o13, p13, .func (PySem.W.fnOf "is_part_ahead" "is_part_ahead" (defArgs s_is_part_ahead) (defBody s_is_part_ahead) (defScope s_is_part_ahead) .none x13 y13 w13 n13 u13 v13), l13⟩) (c13 : PySem.W.codeIn K u13 "is_part_ahead" = true) (r13 : PySem.W.keepIn K (.ref g13) = true)
    (a14 : PySem.W.nsIn K mainGlobals "left_begun" = some (some (.ref g14))) (k14 : K.lookup g14 = some ⟨o14, p14, .func (PySem.W.fnOf "left_begun" "left_begun" (defArgs s_left_begun) (defBody s_left_begun) (defScope s_left_begun) .none x14 y14 w14 n14 u14 v14), l14⟩) (c14 : PySem.W.codeIn K u14 "left_begun" = true) (r14 : PySem.W.keepIn K (.ref g14) = true)
    (a15 : PySem.W.nsIn K mainGlobals "_law_box" = some (some (.ref g15))) (k15 : K.lookup g15 = some ⟨o15, p15, .func (PySem.W.fnOf "_law_box" "_law_box" (defArgs s__law_box) (defBody s__law_box) (defScope s__law_box) .none x15 y15 w15 n15 u15 v15), l15⟩) (c15 : PySem.W.codeIn K u15 "_law_box" = true) (r15 : PySem.W.keepIn K (.ref g15) = true)
    (a16 : PySem.W.nsIn K mainGlobals "_law_take" = some (some (.ref g16))) (k16 : K.lookup g16 = some ⟨o16, p16, .func (PySem.W.fnOf "_law_take" "_law_take" (defArgs s__law_take) (defBody s__law_take) (defScope s__law_take) .none x16 y16 w16 n16 u16 v16), l16⟩) (c16 : PySem.W.codeIn K u16 "_law_take" = true) (r16 : PySem.W.keepIn K (.ref g16) = true)
    (a17 : PySem.W.nsIn K mainGlobals "_law_cells" = some (some (.ref g17))) (k17 : K.lookup g17 = some ⟨o17, p17, .func (PySem.W.fnOf "_law_cells" "_law_cells" (defArgs s__law_cells) (defBody s__law_cells) (defScope s__law_cells) .none x17 y17 w17 n17 u17 v17), l17⟩) (c17 : PySem.W.codeIn K u17 "_law_cells" = true) (r17 : PySem.W.keepIn K (.ref g17) = true)
    (a18 : PySem.W.nsIn K mainGlobals "_law_of" = some (some (.ref g18))) (k18 : K.lookup g18 = some ⟨o18, p18, .func (PySem.W.fnOf "_law_of" "_law_of" (defArgs s__law_of) (defBody s__law_of) (defScope s__law_of) .none x18 y18 w18 n18 u18 v18), l18⟩) (c18 : PySem.W.codeIn K u18 "_law_of" = true) (r18 : PySem.W.keepIn K (.ref g18) = true)
    (a19 : PySem.W.nsIn K mainGlobals "_law_lists" = some (some (.ref g19))) (k19 : K.lookup g19 = some ⟨o19, p19, .func (PySem.W.fnOf "_law_lists" "_law_lists" (defArgs s__law_lists) (defBody s__law_lists) (defScope s__law_lists) .none x19 y19 w19 n19 u19 v19), l19⟩) (c19 : PySem.W.codeIn K u19 "_law_lists" = true) (r19 : PySem.W.keepIn K (.ref g19) = true)
    (a20 : PySem.W.nsIn K mainGlobals "_law_same" = some (some (.ref g20))) (k20 : K.lookup g20 = some ⟨o20, p20, .func (PySem.W.fnOf "_law_same" "_law_same" (defArgs s__law_same) (defBody s__law_same) (defScope s__law_same) .none x20 y20 w20 n20 u20 v20), l20⟩) (c20 : PySem.W.codeIn K u20 "_law_same" = true) (r20 : PySem.W.keepIn K (.ref g20) = true)
    (a21 : PySem.W.nsIn K mainGlobals "_law_blank" = some (some (.ref g21))) (k21 : K.lookup g21 = some ⟨o21, p21, .func (PySem.W.fnOf "_law_blank" "_law_blank" (defArgs s__law_blank) (defBody s__law_blank) (defScope s__law_blank) .none x21 y21 w21 n21 u21 v21), l21⟩) (c21 : PySem.W.codeIn K u21 "_law_blank" = true) (r21 : PySem.W.keepIn K (.ref g21) = true)
    (a22 : PySem.W.nsIn K mainGlobals "_law_parts" = some (some (.ref g22))) (k22 : K.lookup g22 = some ⟨o22, p22, .func (PySem.W.fnOf "_law_parts" "_law_parts" (defArgs s__law_parts) (defBody s__law_parts) (defScope s__law_parts) .none x22 y22 w22 n22 u22 v22), l22⟩) (c22 : PySem.W.codeIn K u22 "_law_parts" = true) (r22 : PySem.W.keepIn K (.ref g22) = true)
    (a23 : PySem.W.nsIn K mainGlobals "_law_string" = some (some (.ref g23))) (k23 : K.lookup g23 = some ⟨o23, p23, .func (PySem.W.fnOf "_law_string" "_law_string" (defArgs s__law_string) (defBody s__law_string) (defScope s__law_string) .none x23 y23 w23 n23 u23 v23), l23⟩) (c23 : PySem.W.codeIn K u23 "_law_string" = true) (r23 : PySem.W.keepIn K (.ref g23) = true)
    (a24 : PySem.W.nsIn K mainGlobals "_law_key" = some (some (.ref g24))) (k24 : K.lookup g24 = some ⟨o24, p24, .func (PySem.W.fnOf "_law_key" "_law_key" (defArgs s__law_key) (defBody s__law_key) (defScope s__law_key) .none x24 y24 w24 n24 u24 v24), l24⟩) (c24 : PySem.W.codeIn K u24 "_law_key" = true) (r24 : PySem.W.keepIn K (.ref g24) = true)
    (a25 : PySem.W.nsIn K mainGlobals "_law_lone" = some (some (.ref g25))) (k25 : K.lookup g25 = some ⟨o25, p25, .func (PySem.W.fnOf "_law_lone" "_law_lone" (defArgs s__law_lone) (defBody s__law_lone) (defScope s__law_lone) .none x25 y25 w25 n25 u25 v25), l25⟩) (c25 : PySem.W.codeIn K u25 "_law_lone" = true) (r25 : PySem.W.keepIn K (.ref g25) = true)
    (a26 : PySem.W.nsIn K mainGlobals "_law_deal" = some (some (.ref g26))) (k26 : K.lookup g26 = some ⟨o26, p26, .func (PySem.W.fnOf "_law_deal" "_law_deal" (defArgs s__law_deal) (defBody s__law_deal) (defScope s__law_deal) .none x26 y26 w26 n26 u26 v26), l26⟩) (c26 : PySem.W.codeIn K u26 "_law_deal" = true) (r26 : PySem.W.keepIn K (.ref g26) = true)
    (a27 : PySem.W.nsIn K mainGlobals "_law_note" = some (some (.ref g27))) (k27 : K.lookup g27 = some ⟨o27, p27, .func (PySem.W.fnOf "_law_note" "_law_note" (defArgs s__law_note) (defBody s__law_note) (defScope s__law_note) .none x27 y27 w27 n27 u27 v27), l27⟩) (c27 : PySem.W.codeIn K u27 "_law_note" = true) (r27 : PySem.W.keepIn K (.ref g27) = true)
    (a28 : PySem.W.nsIn K mainGlobals "_law_back" = some (some (.ref g28))) (k28 : K.lookup g28 = some ⟨o28, p28, .func (PySem.W.fnOf "_law_back" "_law_back" (defArgs s__law_back) (defBody s__law_back) (defScope s__law_back) .none x28 y28 w28 n28 u28 v28), l28⟩) (c28 : PySem.W.codeIn K u28 "_law_back" = true) (r28 : PySem.W.keepIn K (.ref g28) = true)
    (a29 : PySem.W.nsIn K mainGlobals "_law_trail" = some (some (.ref g29))) (k29 : K.lookup g29 = some ⟨o29, p29, .func (PySem.W.fnOf "_law_trail" "_law_trail" (defArgs s__law_trail) (defBody s__law_trail) (defScope s__law_trail) .none x29 y29 w29 n29 u29 v29), l29⟩) (c29 : PySem.W.codeIn K u29 "_law_trail" = true) (r29 : PySem.W.keepIn K (.ref g29) = true)
    (a30 : PySem.W.nsIn K mainGlobals "_law_told_right" = some (some (.ref g30))) (k30 : K.lookup g30 = some ⟨o30, p30, .func (PySem.W.fnOf "_law_told_right" "_law_told_right" (defArgs s__law_told_right) (defBody s__law_told_right) (defScope s__law_told_right) .none x30 y30 w30 n30 u30 v30), l30⟩) (c30 : PySem.W.codeIn K u30 "_law_told_right" = true) (r30 : PySem.W.keepIn K (.ref g30) = true)
    (a31 : PySem.W.nsIn K mainGlobals "_law_by_hand_right" = some (some (.ref g31))) (k31 : K.lookup g31 = some ⟨o31, p31, .func (PySem.W.fnOf "_law_by_hand_right" "_law_by_hand_right" (defArgs s__law_by_hand_right) (defBody s__law_by_hand_right) (defScope s__law_by_hand_right) .none x31 y31 w31 n31 u31 v31), l31⟩) (c31 : PySem.W.codeIn K u31 "_law_by_hand_right" = true) (r31 : PySem.W.keepIn K (.ref g31) = true)
    (a32 : PySem.W.nsIn K mainGlobals "_law_bent" = some (some (.ref g32))) (k32 : K.lookup g32 = some ⟨o32, p32, .func (PySem.W.fnOf "_law_bent" "_law_bent" (defArgs s__law_bent) (defBody s__law_bent) (defScope s__law_bent) .none x32 y32 w32 n32 u32 v32), l32⟩) (c32 : PySem.W.codeIn K u32 "_law_bent" = true) (r32 : PySem.W.keepIn K (.ref g32) = true)
    (a33 : PySem.W.nsIn K mainGlobals "_law_right" = some (some (.ref g33))) (k33 : K.lookup g33 = some ⟨o33, p33, .func (PySem.W.fnOf "_law_right" "_law_right" (defArgs s__law_right) (defBody s__law_right) (defScope s__law_right) .none x33 y33 w33 n33 u33 v33), l33⟩) (c33 : PySem.W.codeIn K u33 "_law_right" = true) (r33 : PySem.W.keepIn K (.ref g33) = true)
    (a34 : PySem.W.nsIn K mainGlobals "law" = some (some (.ref g34))) (k34 : K.lookup g34 = some ⟨o34, p34, .func (PySem.W.fnOf "law" "law" (defArgs s_law) (defBody s_law) (defScope s_law) .none x34 y34 w34 n34 u34 v34), l34⟩) (c34 : PySem.W.codeIn K u34 "law" = true) (r34 : PySem.W.keepIn K (.ref g34) = true)
    (ca0 : PySem.W.nsIn K mainGlobals "SIGNS" = some (some (.str "abcdefghijklmnopqrstuvwxyz0123456789" ct0)))
    (ca1 : PySem.W.nsIn K mainGlobals "MOST_SIGNS" = some (some (.int 12 ct1)))
    (ca2 : PySem.W.nsIn K mainGlobals "BLANK" = some (some (.ref cg2))) (ck2 : K.lookup cg2 = some co2) (cc2 : co2.cls = .type "tuple") (cd2 : co2.data = .seq ci2 cn2) (cr2 : He.relAll [.str "blank"] ci2.toList = true)
    (z0 : PySem.W.nsIn K mainGlobals "abs" = some none)
    (z1 : PySem.W.nsIn K mainGlobals "all" = some none)
    (z2 : PySem.W.nsIn K mainGlobals "bool" = some none)
    (z3 : PySem.W.nsIn K mainGlobals "enumerate" = some none)
    (z4 : PySem.W.nsIn K mainGlobals "int" = some none)
    (z5 : PySem.W.nsIn K mainGlobals "isinstance" = some none)
    (z6 : PySem.W.nsIn K mainGlobals "len" = some none)
    (z7 : PySem.W.nsIn K mainGlobals "list" = some none)
    (z8 : PySem.W.nsIn K mainGlobals "min" = some none)
    (z9 : PySem.W.nsIn K mainGlobals "range" = some none)
    (z10 : PySem.W.nsIn K mainGlobals "str" = some none)
    (z11 : PySem.W.nsIn K mainGlobals "tuple" = some none)
    (z12 : PySem.W.nsIn K mainGlobals "zip" = some none) :
    ∃ fd : FuncData, (∀ (s : Shared) (v : Value), BindsTo s fd ⟨[v], []⟩ [("script", v)]) ∧ ∀ base : Heap, K.In base → base.Ns mainGlobals mg → FnOk l.prog w K mg base CX0 12 fa fd ["script"] (spLaw K) := by
  let T : Txt K mg := { f_is_number := g0, d_is_number := _, F_is_number := fun_mk (st := s_is_number) k0 c0 r0, b_is_number := (fun_mk (st := s_is_number) k0 c0 r0).binds (ps := ["thing"]) (fun _ _ _ _ _ _ us hl => match us, hl with | [_], _ => rfl), m_is_number := PySem.W.mg_of X G a0, f_is_natural := g1, d_is_natural := _, F_is_natural := fun_mk (st := s_is_natural) k1 c1 r1, b_is_natural := (fun_mk (st := s_is_natural) k1 c1 r1).binds (ps := ["thing"]) (fun _ _ _ _ _ _ us hl => match us, hl with | [_], _ => rfl), m_is_natural := PySem.W.mg_of X G a1, f_is_row := g2, d_is_row := _, F_is_row := fun_mk (st := s_is_row) k2 c2 r2, b_is_row := (fun_mk (st := s_is_row) k2 c2 r2).binds (ps := ["thing", "many"]) (fun _ _ _ _ _ _ us hl => match us, hl with | [_, _], _ => rfl), m_is_row := PySem.W.mg_of X G a2, f_is_row_of := g3, d_is_row_of := _, F_is_row_of := fun_mk (st := s_is_row_of) k3 c3 r3, b_is_row_of := (fun_mk (st := s_is_row_of) k3 c3 r3).binds (ps := ["is_such", "thing"]) (fun _ _ _ _ _ _ us hl => match us, hl with | [_, _], _ => rfl), m_is_row_of := PySem.W.mg_of X G a3, f_as_tuples := g4, d_as_tuples := _, F_as_tuples := ⟨⟨o4, p4, e4, x4, y4, w4, n4, u4, v4, l4, rfl, k4, c4, He.dflB_ok h4, .inl rfl⟩, r4⟩, m_as_tuples := PySem.W.mg_of X G a4, f_checked := g5, d_checked := _, F_checked := fun_mk (st := s_checked) k5 c5 r5, b_checked := (fun_mk (st := s_checked) k5 c5 r5).binds (ps := ["is_such", "thing"]) (fun _ _ _ _ _ _ us hl => match us, hl with | [_, _], _ => rfl), m_checked := PySem.W.mg_of X G a5, f_is_word := g6, d_is_word := _, F_is_word := fun_mk (st := s_is_word) k6 c6 r6, b_is_word := (fun_mk (st := s_is_word) k6 c6 r6).binds (ps := ["thing"]) (fun _ _ _ _ _ _ us hl => match us, hl with | [_], _ => rfl), m_is_word := PySem.W.mg_of X G a6, f_is_key := g7, d_is_key := _, F_is_key := fun_mk (st := s_is_key) k7 c7 r7, b_is_key := (fun_mk (st := s_is_key) k7 c7 r7).binds (ps := ["thing"]) (fun _ _ _ _ _ _ us hl => match us, hl with | [_], _ => rfl), m_is_key := PySem.W.mg_of X G a7, f_is_single := g8, d_is_single := _, F_is_single := fun_mk (st := s_is_single) k8 c8 r8, b_is_single := (fun_mk (st := s_is_single) k8 c8 r8).binds (ps := ["thing"]) (fun _ _ _ _ _ _ us hl => match us, hl with | [_], _ => rfl), m_is_single := PySem.W.mg_of X G a8, f_is_record := g9, d_is_record := _, F_is_record := fun_mk (st := s_is_record) k9 c9 r9, b_is_record := (fun_mk (st := s_is_record) k9 c9 r9).binds (ps := ["thing"]) (fun _ _ _ _ _ _ us hl => match us, hl with | [_], _ => rfl), m_is_record := PySem.W.mg_of X G a9, f_is_records := g10, d_is_records := _, F_is_records := fun_mk (st := s_is_records) k10 c10 r10, b_is_records := (fun_mk (st := s_is_records) k10 c10 r10).binds (ps := ["thing"]) (fun _ _ _ _ _ _ us hl => match us, hl with | [_], _ => rfl), m_is_records := PySem.W.mg_of X G a10, f_closed_in := g11, d_closed_in := _, F_closed_in := fun_mk (st := s_closed_in) k11 c11 r11, b_closed_in := (fun_mk (st := s_closed_in) k11 c11 r11).binds (ps := ["records"]) (fun _ _ _ _ _ _ us hl => match us, hl with | [_], _ => rfl), m_closed_in := PySem.W.mg_of X G a11, f_first_closed := g12, d_first_closed := _, F_first_closed := fun_mk (st := s_first_closed) k12 c12 r12, b_first_closed := (fun_mk (st := s_first_closed) k12 c12 r12).binds (ps := ["row", "at"]) (fun _ _ _ _ _ _ us hl => match us, hl with | [_, _], _ => rfl), m_first_closed := PySem.W.mg_of X G a12, f_is_part_ahead := g13, d_is_part_ahead := _, F_is_part_ahead := fun_mk (st := s_is_part_ahead) k13 c13 r13, b_is_part_ahead := (fun_mk (st := s_is_part_ahead) k13 c13 r13).binds (ps := ["part", "later"]) (fun _ _ _ _ _ _ us hl => match us, hl with | [_, _], _ => rfl), m_is_part_ahead := PySem.W.mg_of X G a13, f_left_begun := g14, d_left_begun := _, F_left_begun := fun_mk (st := s_left_begun) k14 c14 r14, b_left_begun := (fun_mk (st := s_left_begun) k14 c14 r14).binds (ps := ["records"]) (fun _ _ _ _ _ _ us hl => match us, hl with | [_], _ => rfl), m_left_begun := PySem.W.mg_of X G a14, f__law_box := g15, d__law_box := _, F__law_box := fun_mk (st := s__law_box) k15 c15 r15, b__law_box := (fun_mk (st := s__law_box) k15 c15 r15).binds (ps := ["script", "k"]) (fun _ _ _ _ _ _ us hl => match us, hl with | [_, _], _ => rfl), m__law_box := PySem.W.mg_of X G a15, f__law_take := g16, d__law_take := _, F__law_take := fun_mk (st := s__law_take) k16 c16 r16, b__law_take := (fun_mk (st := s__law_take) k16 c16 r16).binds (ps := ["tin", "below_so"]) (fun _ _ _ _ _ _ us hl => match us, hl with | [_, _], _ => rfl), m__law_take := PySem.W.mg_of X G a16, f__law_cells := g17, d__law_cells := _, F__law_cells := fun_mk (st := s__law_cells) k17 c17 r17, b__law_cells := (fun_mk (st := s__law_cells) k17 c17 r17).binds (ps := ["script", "most_so"]) (fun _ _ _ _ _ _ us hl => match us, hl with | [_, _], _ => rfl), m__law_cells := PySem.W.mg_of X G a17, f__law_of := g18, d__law_of := _, F__law_of := fun_mk (st := s__law_of) k18 c18 r18, b__law_of := (fun_mk (st := s__law_of) k18 c18 r18).binds (ps := ["tin", "goods_so"]) (fun _ _ _ _ _ _ us hl => match us, hl with | [_, _], _ => rfl), m__law_of := PySem.W.mg_of X G a18, f__law_lists := g19, d__law_lists := _, F__law_lists := fun_mk (st := s__law_lists) k19 c19 r19, b__law_lists := (fun_mk (st := s__law_lists) k19 c19 r19).binds (ps := ["matter"]) (fun _ _ _ _ _ _ us hl => match us, hl with | [_], _ => rfl), m__law_lists := PySem.W.mg_of X G a19, f__law_same := g20, d__law_same := _, F__law_same := fun_mk (st := s__law_same) k20 c20 r20, b__law_same := (fun_mk (st := s__law_same) k20 c20 r20).binds (ps := ["got", "due"]) (fun _ _ _ _ _ _ us hl => match us, hl with | [_, _], _ => rfl), m__law_same := PySem.W.mg_of X G a20, f__law_blank := g21, d__law_blank := _, F__law_blank := fun_mk (st := s__law_blank) k21 c21 r21, b__law_blank := (fun_mk (st := s__law_blank) k21 c21 r21).binds (ps := []) (fun _ _ _ _ _ _ us hl => match us, hl with | [], _ => rfl), m__law_blank := PySem.W.mg_of X G a21, f__law_parts := g22, d__law_parts := _, F__law_parts := fun_mk (st := s__law_parts) k22 c22 r22, b__law_parts := (fun_mk (st := s__law_parts) k22 c22 r22).binds (ps := ["act"]) (fun _ _ _ _ _ _ us hl => match us, hl with | [_], _ => rfl), m__law_parts := PySem.W.mg_of X G a22, f__law_string := g23, d__law_string := _, F__law_string := fun_mk (st := s__law_string) k23 c23 r23, b__law_string := (fun_mk (st := s__law_string) k23 c23 r23).binds (ps := ["tin"]) (fun _ _ _ _ _ _ us hl => match us, hl with | [_], _ => rfl), m__law_string := PySem.W.mg_of X G a23, f__law_key := g24, d__law_key := _, F__law_key := fun_mk (st := s__law_key) k24 c24 r24, b__law_key := (fun_mk (st := s__law_key) k24 c24 r24).binds (ps := ["tin"]) (fun _ _ _ _ _ _ us hl => match us, hl with | [_], _ => rfl), m__law_key := PySem.W.mg_of X G a24, f__law_lone := g25, d__law_lone := _, F__law_lone := fun_mk (st := s__law_lone) k25 c25 r25, b__law_lone := (fun_mk (st := s__law_lone) k25 c25 r25).binds (ps := ["tin"]) (fun _ _ _ _ _ _ us hl => match us, hl with | [_], _ => rfl), m__law_lone := PySem.W.mg_of X G a25, f__law_deal := g26, d__law_deal := _, F__law_deal := fun_mk (st := s__law_deal) k26 c26 r26, b__law_deal := (fun_mk (st := s__law_deal) k26 c26 r26).binds (ps := ["tin"]) (fun _ _ _ _ _ _ us hl => match us, hl with | [_], _ => rfl), m__law_deal := PySem.W.mg_of X G a26, f__law_note := g27, d__law_note := _, F__law_note := fun_mk (st := s__law_note) k27 c27 r27, b__law_note := (fun_mk (st := s__law_note) k27 c27 r27).binds (ps := ["tin"]) (fun _ _ _ _ _ _ us hl => match us, hl with | [_], _ => rfl), m__law_note := PySem.W.mg_of X G a27, f__law_back := g28, d__law_back := _, F__law_back := fun_mk (st := s__law_back) k28 c28 r28, b__law_back := (fun_mk (st := s__law_back) k28 c28 r28).binds (ps := ["row_so", "i"]) (fun _ _ _ _ _ _ us hl => match us, hl with | [_, _], _ => rfl), m__law_back := PySem.W.mg_of X G a28, f__law_trail := g29, d__law_trail := _, F__law_trail := fun_mk (st := s__law_trail) k29 c29 r29, b__law_trail := (fun_mk (st := s__law_trail) k29 c29 r29).binds (ps := ["row_so"]) (fun _ _ _ _ _ _ us hl => match us, hl with | [_], _ => rfl), m__law_trail := PySem.W.mg_of X G a29, f__law_told_right := g30, d__law_told_right := _, F__law_told_right := fun_mk (st := s__law_told_right) k30 c30 r30, b__law_told_right := (fun_mk (st := s__law_told_right) k30 c30 r30).binds (ps := ["row_so"]) (fun _ _ _ _ _ _ us hl => match us, hl with | [_], _ => rfl), m__law_told_right := PySem.W.mg_of X G a30, f__law_by_hand_right := g31, d__law_by_hand_right := _, F__law_by_hand_right := fun_mk (st := s__law_by_hand_right) k31 c31 r31, b__law_by_hand_right := (fun_mk (st := s__law_by_hand_right) k31 c31 r31).binds (ps := []) (fun _ _ _ _ _ _ us hl => match us, hl with | [], _ => rfl), m__law_by_hand_right := PySem.W.mg_of X G a31, f__law_bent := g32, d__law_bent := _, F__law_bent := fun_mk (st := s__law_bent) k32 c32 r32, b__law_bent := (fun_mk (st := s__law_bent) k32 c32 r32).binds (ps := ["tin", "row_so"]) (fun _ _ _ _ _ _ us hl => match us, hl with | [_, _], _ => rfl), m__law_bent := PySem.W.mg_of X G a32, f__law_right := g33, d__law_right := _, F__law_right := fun_mk (st := s__law_right) k33 c33 r33, b__law_right := (fun_mk (st := s__law_right) k33 c33 r33).binds (ps := ["tin"]) (fun _ _ _ _ _ _ us hl => match us, hl with | [_], _ => rfl), m__law_right := PySem.W.mg_of X G a33, f_law := g34, d_law := _, F_law := fun_mk (st := s_law) k34 c34 r34, b_law := (fun_mk (st := s_law) k34 c34 r34).binds (ps := ["script"]) (fun _ _ _ _ _ _ us hl => match us, hl with | [_], _ => rfl), m_law := PySem.W.mg_of X G a34, m_SIGNS := ⟨_, PySem.W.mg_of X G ca0, ⟨_, rfl⟩⟩, m_MOST_SIGNS := ⟨_, PySem.W.mg_of X G ca1, ⟨_, rfl⟩⟩, f_BLANK := cg2, m_BLANK := PySem.W.mg_of X G ca2, t_BLANK := fun H => .inr ⟨co2, ci2, cn2, ck2, cc2, cd2, tup_size (He.relAll_ok cr2) (by decide), He.relAll_ok cr2⟩, z_abs := PySem.W.mg_none_of X G z0, z_all := PySem.W.mg_none_of X G z1, z_bool := PySem.W.mg_none_of X G z2, z_enumerate := PySem.W.mg_none_of X G z3, z_int := PySem.W.mg_none_of X G z4, z_isinstance := PySem.W.mg_none_of X G z5, z_len := PySem.W.mg_none_of X G z6, z_list := PySem.W.mg_none_of X G z7, z_min := PySem.W.mg_none_of X G z8, z_range := PySem.W.mg_none_of X G z9, z_str := PySem.W.mg_none_of X G z10, z_tuple := PySem.W.mg_none_of X G z11, z_zip := PySem.W.mg_none_of X G z12 }
  have e := hfa.symm.trans T.m_law
  cases e
  exact ⟨T.d_law, fun s v => .of_eq rfl, fun base _ _ => ok_law T⟩
end
end LW
open PySem PySem.W PyProof.Rows
set_option maxHeartbeats 0 in
theorem PySem.Challenge.cw_halfring_k09_whole_rows_bent_holds : PySem.Challenge.rw_halfring_k09_whole_rows_bent.Holds := by
  w_on; o_law; k_head; (case hw => w_witness2)
  k_fill
  refine L2.walk_of (l := PySem.Challenge.rw_halfring_k09_whole_rows_bent) (n := 63) (k := 12) (x := "script") (CX := fun _ => L2.CX0) (sp := fun w => LW.spLaw _) rfl (by decide) rfl ⟨rfl, by decide, by decide⟩ (fun w h Y => PySem.W.kIn_of Y) ?F (fun _ _ a ns hl _ hS => ⟨a, ns, rfl, hS, hl, fun _ => rfl⟩) (fun _ _ _ _ _ h => h)
  case F =>
    intro w mg fa h KX G hmg
    refine' LW.all_mk KX G hmg ?a0 ?k0 ?c0 ?r0 ?a1 ?k1 ?c1 ?r1 ?a2 ?k2 ?c2 ?r2 ?a3 ?k3 ?c3 ?r3 ?a4 ?k4 ?c4 ?r4 ?h4 ?a5 ?k5 ?c5 ?r5 ?a6 ?k6 ?c6 ?r6 ?a7 ?k7 ?c7 ?r7 ?a8 ?k8 ?c8 ?r8 ?a9 ?k9 ?c9 ?r9 ?a10 ?k10 ?c10 ?r10 ?a11 ?k11 ?c11 ?r11 ?a12 ?k12 ?c12 ?r12 ?a13 ?k13 ?c13 ?r13 ?a14 ?k14 ?c14 ?r14 ?a15 ?k15 ?c15 ?r15 ?a16 ?k16 ?c16 ?r16 ?a17 ?k17 ?c17 ?r17 ?a18 ?k18 ?c18 ?r18 ?a19 ?k19 ?c19 ?r19 ?a20 ?k20 ?c20 ?r20 ?a21 ?k21 ?c21 ?r21 ?a22 ?k22 ?c22 ?r22 ?a23 ?k23 ?c23 ?r23 ?a24 ?k24 ?c24 ?r24 ?a25 ?k25 ?c25 ?r25 ?a26 ?k26 ?c26 ?r26 ?a27 ?k27 ?c27 ?r27 ?a28 ?k28 ?c28 ?r28 ?a29 ?k29 ?c29 ?r29 ?a30 ?k30 ?c30 ?r30 ?a31 ?k31 ?c31 ?r31 ?a32 ?k32 ?c32 ?r32 ?a33 ?k33 ?c33 ?r33 ?a34 ?k34 ?c34 ?r34 ?ca0 ?ca1 ?ca2 ?ck2 ?cc2 ?cd2 ?cr2 ?z0 ?z1 ?z2 ?z3 ?z4 ?z5 ?z6 ?z7 ?z8 ?z9 ?z10 ?z11 ?z12
    (case a0 => k_is); (case k0 => k_is); (case c0 => k_is); (case r0 => k_is); (case a1 => k_is); (case k1 => k_is); (case c1 => k_is); (case r1 => k_is); (case a2 => k_is); (case k2 => k_is); (case c2 => k_is); (case r2 => k_is); (case a3 => k_is); (case k3 => k_is); (case c3 => k_is); (case r3 => k_is); (case a4 => k_is); (case k4 => k_is); (case c4 => k_is); (case r4 => k_is); (case h4 => rfl); (case a5 => k_is); (case k5 => k_is); (case c5 => k_is); (case r5 => k_is); (case a6 => k_is); (case k6 => k_is); (case c6 => k_is); (case r6 => k_is); (case a7 => k_is); (case k7 => k_is); (case c7 => k_is); (case r7 => k_is); (case a8 => k_is); (case k8 => k_is); (case c8 => k_is); (case r8 => k_is); (case a9 => k_is); (case k9 => k_is); (case c9 => k_is); (case r9 => k_is); (case a10 => k_is); (case k10 => k_is); (case c10 => k_is); (case r10 => k_is); (case a11 => k_is); (case k11 => k_is); (case c11 => k_is); (case r11 => k_is); (case a12 => k_is); (case k12 => k_is); (case c12 => k_is); (case r12 => k_is); (case a13 => k_is); (case k13 => k_is); (case c13 => k_is); (case r13 => k_is); (case a14 => k_is); (case k14 => k_is); (case c14 => k_is); (case r14 => k_is); (case a15 => k_is); (case k15 => k_is); (case c15 => k_is); (case r15 => k_is); (case a16 => k_is); (case k16 => k_is); (case c16 => k_is); (case r16 => k_is); (case a17 => k_is); (case k17 => k_is); (case c17 => k_is); (case r17 => k_is); (case a18 => k_is); (case k18 => k_is); (case c18 => k_is); (case r18 => k_is); (case a19 => k_is); (case k19 => k_is); (case c19 => k_is); (case r19 => k_is); (case a20 => k_is); (case k20 => k_is); (case c20 => k_is); (case r20 => k_is); (case a21 => k_is); (case k21 => k_is); (case c21 => k_is); (case r21 => k_is); (case a22 => k_is); (case k22 => k_is); (case c22 => k_is); (case r22 => k_is); (case a23 => k_is); (case k23 => k_is); (case c23 => k_is); (case r23 => k_is); (case a24 => k_is); (case k24 => k_is); (case c24 => k_is); (case r24 => k_is); (case a25 => k_is); (case k25 => k_is); (case c25 => k_is); (case r25 => k_is); (case a26 => k_is); (case k26 => k_is); (case c26 => k_is); (case r26 => k_is); (case a27 => k_is); (case k27 => k_is); (case c27 => k_is); (case r27 => k_is); (case a28 => k_is); (case k28 => k_is); (case c28 => k_is); (case r28 => k_is); (case a29 => k_is); (case k29 => k_is); (case c29 => k_is); (case r29 => k_is); (case a30 => k_is); (case k30 => k_is); (case c30 => k_is); (case r30 => k_is); (case a31 => k_is); (case k31 => k_is); (case c31 => k_is); (case r31 => k_is); (case a32 => k_is); (case k32 => k_is); (case c32 => k_is); (case r32 => k_is); (case a33 => k_is); (case k33 => k_is); (case c33 => k_is); (case r33 => k_is); (case a34 => k_is); (case k34 => k_is); (case c34 => k_is); (case r34 => k_is); (case ca0 => k_is); (case ca1 => k_is); (case ca2 => k_is); (case ck2 => k_is); (case cc2 => rfl); (case cd2 => rfl); (case cr2 => rfl); (case z0 => k_is); (case z1 => k_is); (case z2 => k_is); (case z3 => k_is); (case z4 => k_is); (case z5 => k_is); (case z6 => k_is); (case z7 => k_is); (case z8 => k_is); (case z9 => k_is); (case z10 => k_is); (case z11 => k_is); (case z12 => k_is)


